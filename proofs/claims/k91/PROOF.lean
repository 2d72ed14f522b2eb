import PyProof.Rows.All
import Wide.All
import OpenK.AllK
import Wide.FinOn
import Lean
import PyProof.EqAt
import PyProof.EqKinds
import PyProof.TupleCall
import PySem.Challenge.RW_trialfield_k91_plans_as_texts
set_option Elab.async false
set_option linter.all false
set_option maxRecDepth 100000
set_option maxHeartbeats 4000000
namespace L2
open PySem PySem.Spec PyProof.Rows
abbrev Key:=Sum Int Str
def keyIs:Key->Value->Bool
 | .inl k,v=>Value.isInt k v
 | .inr x,v=>Value.isStrOf x v
def keyH(w:World):Key->Int
 | .inl k=>hashInt k
 | .inr x=>hashStr w x
theorem keyIs_shape:∀ {k:Key} {v:Value},keyIs k v=true->(∃i t,k=Sum.inl i/\v=Value.int i t)\/(∃x t,k=Sum.inr x/\v=Value.str x t)
 | .inl i,v,h=>by
  obtain ⟨t,e⟩:=Value.isInt_shape (k:=i) (v:=v) h
  exact .inl ⟨i,t,rfl,e⟩
 | .inr x,v,h=>by
  obtain ⟨t,e⟩:=Value.isStrOf_shape (x:=x) (v:=v) h;exact .inr ⟨x,t,rfl,e⟩
theorem key_ll(a b:Int):decide ((Sum.inl a:Key)=Sum.inl b)=(a==b):=by
 by_cases e:a=b
 . subst e;simp
 . have h:¬(Sum.inl a:Key)=Sum.inl b:=fun q=>e (Sum.inl.inj q);rw [decide_eq_false h];exact (beq_eq_false_iff_ne.mpr e).symm
theorem key_rr(a b:Str):decide ((Sum.inr a:Key)=Sum.inr b)=decide (a=b):=by
 by_cases e:a=b
 . subst e;simp
 . have h:¬(Sum.inr a:Key)=Sum.inr b:=fun q=>e (Sum.inr.inj q);rw [decide_eq_false h,decide_eq_false e]
theorem key_lr(a:Int)(b:Str):decide ((Sum.inl a:Key)=Sum.inr b)=false:=decide_eq_false (fun q=>nomatch q)
theorem key_rl(a:Str)(b:Int):decide ((Sum.inr a:Key)=Sum.inl b)=false:=decide_eq_false (fun q=>nomatch q)
def mixKind(prog:Program)(w:World):PySem.KeyKind prog w Key where
 is:=keyIs
 hash:=keyH w
 inj:=fun v a b ha hb=>by
  rcases keyIs_shape ha with ⟨i,t,rfl,rfl⟩ | ⟨x,t,rfl,rfl⟩
  . rcases keyIs_shape hb with ⟨j,u,rfl,e⟩ | ⟨y,u,rfl,e⟩
    . injection e with e1 _;rw [e1]
    . exact nomatch e
  . rcases keyIs_shape hb with ⟨j,u,rfl,e⟩ | ⟨y,u,rfl,e⟩
    . exact nomatch e
    . injection e with e1 _;rw [e1]
 byValue:=fun k v h=>by
  rcases keyIs_shape h with ⟨i,t,rfl,rfl⟩ | ⟨x,t,rfl,rfl⟩ <;> rfl
 pyHash:=fun hv h=>by
  rcases keyIs_shape hv with ⟨i,t,rfl,rfl⟩ | ⟨x,t,rfl,rfl⟩
  . exact wpAny_pyHash_int h
  . exact wpAny_pyHash_str h
 eqBool:=fun hu hv h=>by
  rcases keyIs_shape hu with ⟨i,t,rfl,rfl⟩ | ⟨x,t,rfl,rfl⟩
  . rcases keyIs_shape hv with ⟨j,u,rfl,rfl⟩ | ⟨y,u,rfl,rfl⟩
    . rw [key_ll] at h;exact wpAny_eqBool_int h
    . rw [key_lr] at h;exact SeqAt.EqAt.int_str i t y u _ _ _ _ h
  . rcases keyIs_shape hv with ⟨j,u,rfl,rfl⟩ | ⟨y,u,rfl,rfl⟩
    . rw [key_rl] at h;exact SeqAt.EqAt.str_int x t j u _ _ _ _ h
    . rw [key_rr] at h;exact wpAny_eqBool_str h
 «strs» := fun k x t v h => by
  rcases keyIs_shape h with ⟨i,u,rfl,e⟩ | ⟨y,u,rfl,e⟩
  . exact nomatch e
  . injection e with e1 _
    subst e1
    cases v <;> rfl
end L2
namespace L2
open PySem PySem.Spec PyProof.Rows
inductive V where
 | non | bl (b:Bool) | int (i:Int) | str (x:Str) | byt (b:Array UInt8) | flt (b:UInt64) | ref (a:Addr) | ty (n:String)
 deriving DecidableEq
def RelV:V->Value->Prop
 | .non,u=>u=Value.none
 | .bl b,u=>u=Value.bool b
 | .int i,u=>∃t,u=Value.int i t
 | .str x,u=>∃t,u=Value.str x t
 | .byt b,u=>∃t,u=Value.bytes b t
 | .flt b,u=>∃t,u=Value.float b t
 | .ref a,u=>u=Value.ref a
 | .ty n,u=>u=Value.type n
abbrev Vals:List V->List Value->Prop:=Paired RelV
theorem Vals.length{xs:List V}{us:List Value}(r:Vals xs us):xs.length=us.length:=Paired.length r
theorem Vals.get:∀ {xs:List V} {us:List Value} {i:Nat} {x:V},Vals xs us->xs[i]? = some x->∃u,us[i]? = some u/\RelV x u
 | _,_,_,_, .nil,e=>by simp at e
 | _,_,0,_, .cons r _,e=>by simp at e;subst e;exact ⟨_,rfl,r⟩
 | _,_,i+1,x, .cons _ t,e=>by
  obtain ⟨u,h1,h2⟩:=Vals.get (i:=i) (x:=x) t (by simpa using e);exact ⟨u,by simpa using h1,h2⟩
theorem Vals.set{x:V}{u:Value}(r:RelV x u):∀ {xs:List V} {us:List Value} (i:Nat),Vals xs us->Vals (xs.set i x) (us.set i u)
 | _,_,_, .nil=> .nil
 | _,_,0, .cons _ t=> .cons r t
 | _,_,i+1, .cons q t=> .cons q (Vals.set r i t)
theorem Vals.append:∀ {xs ys:List V} {us ws:List Value},Vals xs us->Vals ys ws->Vals (xs++ys) (us++ws)
 | _,_,_,_, .nil,s=>s
 | _,_,_,_, .cons r t,s=> .cons r (Vals.append t s)
theorem Vals.take:∀ {xs:List V} {us:List Value} (n:Nat),Vals xs us->Vals (xs.take n) (us.take n)
 | _,_,0,_=> .nil
 | _,_,_+1, .nil=> .nil
 | _,_,n+1, .cons r t=> .cons r (Vals.take n t)
theorem Vals.drop:∀ {xs:List V} {us:List Value} (n:Nat),Vals xs us->Vals (xs.drop n) (us.drop n)
 | _,_,0,r=>r
 | _,_,_+1, .nil=> .nil
 | _,_,n+1, .cons _ t=>Vals.drop n t
def RelO:Option V->Option Value->Prop
 | some v,some u=>RelV v u
 | none,none=>True
 | _,_=>False
def KV{κ:Type}:List (κ×V)->List (κ×Value)->Prop:=Paired fun (p:κ×V) (q:κ×Value)=>p.1=q.1/\RelV p.2 q.2
def kV:Key->V
 | .inl i=> .int i
 | .inr x=> .str x
inductive HO where
 | lst (xs:List V)
 | tup (xs:List V)
 | dK (kvs:List (Key×V)) | dT (kvs:List (List Key×V))
 | set (S:Int->Bool) (n:Nat)
 | ins (C dx:Addr) (fs:List (Str×V))
 | own (x:Addr)
 | xd (fs:List (Str×V))
 | met (f x:Addr)
 | rng (lo hi:Int)
 | frz (o:Obj) (u:HO)
 | tbl (ps:Array Value)
 | ext (φ:Heap->Prop)
abbrev Hp:=Addr->Option HO
def upd(H:Hp)(a:Addr)(o:HO):Hp:=fun b=>if b=a then some o else H b
theorem upd_same{H:Hp}{a:Addr}{o:HO}:upd H a o a=some o:=by unfold upd;rw [if_pos rfl]
theorem upd_ne{H:Hp}{a b:Addr}{o:HO}(h:b≠a):upd H a o b=H b:=by unfold upd;rw [if_neg h]
theorem ne_of_none{H:Hp}{a b:Addr}{o:HO}(h:H a=some o)(h':H b=none):a≠b:=by
 intro e;subst e;rw [h] at h';cases h'
section
variable (P:Program) (w:World)
def ObjOk(H:Hp)(h:Heap)(a:Addr):HO->Prop
 | .lst xs=>xs.length<=sizeLine/\∃(its:List Value) (n:Nat),Vals xs its/\h.get? a=some {cls:= .type "list",data:= .seq its.toArray n}
 | .tup xs=>xs.length<=sizeLine/\∃its:List Value,Vals xs its/\IsTup h a its.toArray
 | .dK kvs=>kvs.length<=sizeLine/\(a==sysModules)=false/\∃vs,KV kvs vs/\h.DictOf (mixKind P w) a vs
 | .dT kvs => kvs.length <= sizeLine /\ (a == sysModules) = false /\ ∃ xs : List (List Key × Addr × Value),
  Paired (fun (p:List Key×V) (q:List Key×Addr×Value)=>p.1=q.1/\H q.2.1=some (.tup (p.1.map kV))/\RelV p.2 q.2.2) kvs xs /\
  ∃o es ep,h.get? a=some o/\o.ExactDict/\o.data = .dict es ep/\es.toList=xs.map (entryOfKey (tupleKind (mixKind P w)))/\(xs.map (·.1)).Nodup
 | .set S n=>h.SetOf (intKind P w) a S n
 | .ins C dx fs => H dx = some (.own a) /\ fs.length <= 1000 /\ dx ≠ a /\ h.get? a = some (PySem.W.instObj C dx) /\
  ∃mA,h.Ns1 dx mA/\(∀f,RelO (fs.lookup f) (mA f))/\PySem.Within mA (fs.map (·.1))
 | .own _=>∃o,h.get? a=some o
 | .xd fs=>∃mA,h.Ns1 a mA/\∀f,RelO (fs.lookup f) (mA f)
 | .rng lo hi=>∃t u v,h.get? a=some {cls:= .type "range",data:= .fields #[.int lo t, .int hi u, .int 1 v]}
 | .frz o u=>h.get? a=some o/\ObjOk H h a u
 | .tbl _=>∃qs:Array Value,h.get? a=some {cls:= .none,data:= .fields qs}/\TriplesOk qs.toList/\∀pos v,codeAmong pos qs.toList=some v->∃c oc vs x,v=Value.ref c/\H c=some (.frz oc (.own 0))/\oc.data = .fields vs/\vs[1]? = some x
 | .met f x=>h.get? a=some (PySem.W.methodObj (.ref f) (.ref x))
 | .ext φ=>φ h/\(∃o,h.get? a=some o)/\∀h1 h2:Heap,φ h1->(∀o,h1.get? a=some o->h2.get? a=some o)->φ h2
def HOk(H:Hp)(h:Heap):Prop:=∀a o,H a=some o->ObjOk P w H h a o
end
section
variable {P:Program} {w:World} {H H':Hp} {h h':Heap} {a:Addr} {o:HO}
theorem ObjOk.lt(x:ObjOk P w H h a o):a<h.objs.size:=by
 cases o with
 | lst xs=>obtain ⟨_,_,_,_,e⟩:=x;exact Heap.lt_size e
 | tup xs=>obtain ⟨_,_,_,p⟩:=x;exact p.lt
 | dK kvs=>obtain ⟨_,_,_,_,o,_,_,e,_⟩:=x;exact Heap.lt_size e
 | dT kvs=>obtain ⟨_,_,_,_,o,_,_,e,_⟩:=x;exact Heap.lt_size e
 | set S n=>obtain ⟨o,_,_,_,e,_⟩:=x;exact Heap.lt_size e
 | ins C dx fs=>obtain ⟨_,_,_,e,_⟩:=x;exact Heap.lt_size e
 | own y=>obtain ⟨_,e⟩:=x;exact Heap.lt_size e
 | xd fs=>obtain ⟨_,⟨_,_,_,e,_⟩,_⟩:=x;exact Heap.lt_size e
 | rng lo hi=>obtain ⟨_,_,_,e⟩:=x;exact Heap.lt_size e
 | frz ob u=>obtain ⟨e,_⟩:=x;exact Heap.lt_size e
 | tbl ps=>obtain ⟨_,e,_⟩:=x;exact Heap.lt_size e
 | met f y=>exact Heap.lt_size (show h.get? a=some _ from x)
 | ext φ=>obtain ⟨_,⟨_,e⟩,_⟩:=x;exact Heap.lt_size e
theorem Paired.mapP{α β:Type}{F G:α->β->Prop}:∀ {l₁:List α} {l₂:List β},Paired F l₁ l₂->(∀a b,F a b->G a b)->Paired G l₁ l₂
 | _,_, .nil,_=> .nil
 | _,_, .cons r t,f=> .cons (f _ _ r) (Paired.mapP t f)
theorem ObjOk.stay (x : ObjOk P w H h a o) (k : ∀ b u, (b = a \/ H b = some (.own a)) -> h.get? b = some u -> h'.get? b = some u)
 (ho:∀b,H b=some (.own a)->H' b=some (.own a)) (ht:∀b xs,H b=some (.tup xs)->H' b=some (.tup xs)) (hf:∀b o u,H b=some (.frz o u)->H' b=some (.frz o u):=by exact fun _ _ _ q=>q):ObjOk P w H' h' a o:=by
 induction o with
 | lst xs=>obtain ⟨z,its,n,r,e⟩:=x;exact ⟨z,its,n,r,k _ _ (.inl rfl) e⟩
 | tup xs=>obtain ⟨z,its,r,ob,e,c⟩:=x;exact ⟨z,its,r,ob,k _ _ (.inl rfl) e,c⟩
 | dK kvs=>obtain ⟨z,y,vs,r,ob,es,ep,e,c⟩:=x;exact ⟨z,y,vs,r,ob,es,ep,k _ _ (.inl rfl) e,c⟩
 | dT kvs=>
  obtain ⟨z,y,xs,r,ob,es,ep,e,c⟩:=x
  exact ⟨z,y,xs,Paired.mapP r fun p q z=>⟨z.1,ht _ _ z.2.1,z.2.2⟩,ob,es,ep,k _ _ (.inl rfl) e,c⟩
 | set S n=>obtain ⟨ob,es,ep,t,e,c⟩:=x;exact ⟨ob,es,ep,t,k _ _ (.inl rfl) e,c⟩
 | ins C dx fs=>
  obtain ⟨d,z,ne,e,mA,⟨od,es,ep,e2,c⟩,r⟩:=x
  exact ⟨ho _ d,z,ne,k _ _ (.inl rfl) e,mA,⟨od,es,ep,k _ _ (.inr d) e2,c⟩,r⟩
 | own y=>obtain ⟨ob,e⟩:=x;exact ⟨ob,k _ _ (.inl rfl) e⟩
 | xd fs=>obtain ⟨mA,⟨od,es,ep,e,c⟩,r⟩:=x;exact ⟨mA,⟨od,es,ep,k _ _ (.inl rfl) e,c⟩,r⟩
 | rng lo hi=>obtain ⟨t,u,v,e⟩:=x;exact ⟨t,u,v,k _ _ (.inl rfl) e⟩
 | frz ob u ih=>obtain ⟨e,q⟩:=x;exact ⟨k _ _ (.inl rfl) e,ih q⟩
 | tbl ps=>obtain ⟨qs,e,t,c⟩:=x;exact ⟨qs,k _ _ (.inl rfl) e,t,fun pos v q=>let ⟨c',oc,vs,y,e1,e2,e3⟩:=c pos v q;⟨c',oc,vs,y,e1,hf _ _ _ e2,e3⟩⟩
 | met f y=>
  have e:h.get? a=some (PySem.W.methodObj (.ref f) (.ref y)):=x;show h'.get? a=some (PySem.W.methodObj (.ref f) (.ref y))
  exact k a _ (.inl rfl) e
 | ext φ=>obtain ⟨p,⟨o,e⟩,st⟩:=x;exact ⟨st _ _ p fun o q=>k _ _ (.inl rfl) q,⟨o,k _ _ (.inl rfl) e⟩,st⟩
theorem HOk.lt(x:HOk P w H h)(e:H a=some o):a<h.objs.size:=(x a o e).lt
theorem HOk.fresh(x:HOk P w H h)(e:h.objs.size<=a):H a=none:=by
 cases q:H a with
 | none=>rfl
 | some u=>exact absurd (Nat.lt_of_lt_of_le (x.lt q) e) (Nat.lt_irrefl _)
theorem HOk.kept(x:HOk P w H h)(k:∀b u,h.get? b=some u->h'.get? b=some u):HOk P w H h':=fun a o e=>
 (x a o e).stay (fun b u _ q=>k b u q) (fun _ q=>q) fun _ _ q=>q
theorem HOk.laid(x:HOk P w H h)(k:∀b u,h.get? b=some u->h'.get? b=some u)(hp:h.objs.size<=a)(new:ObjOk P w (upd H a o) h' a o):HOk P w (upd H a o) h':=fun b u e=>by
 have hn:=x.fresh hp
 by_cases hb:b=a
 . subst hb;rw [upd_same] at e;cases e;exact new
 . rw [upd_ne hb] at e
   exact (x b u e).stay (fun c v _ q=>k c v q) (fun c q=>by rw [upd_ne (ne_of_none q hn)];exact q) (fun c xs q=>by rw [upd_ne (ne_of_none q hn)];exact q) fun c ob xs q=>by rw [upd_ne (ne_of_none q hn)];exact q
end
def Rd(H:Hp)(a:Addr)(u:HO):Prop:=H a=some u\/∃o,H a=some (.frz o u)
theorem Rd.ok{P:Program}{w:World}{H:Hp}{h:Heap}{a:Addr}{u:HO}(r:Rd H a u)(x:HOk P w H h):ObjOk P w H h a u:=by
 rcases r with r | ⟨o,r⟩
 . exact x a u r
 . obtain ⟨_,q⟩:=x a _ r;exact q
def Mut:Option HO->Prop
 | some (.lst _)=>True
 | some (.dK _)=>True
 | some (.dT _)=>True
 | some (.set _ _)=>True
 | some (.ins _ _ _)=>True
 | some (.ext _)=>True
 | _=>False
section
variable {P:Program} {w:World} {H:Hp} {h h':Heap} {x e:Addr} {o':HO}
theorem HOk.write (ok : HOk P w H h) (mu : Mut (H x)) (he : e = x \/ H e = some (.own x)) (k : ∀ b u, b ≠ e -> h.get? b = some u -> h'.get? b = some u) (heo : ∃ u, h'.get? e = some u)
 (new:ObjOk P w (upd H x o') h' x o'):HOk P w (upd H x o') h':=fun b u q=>by
 have nown:∀c y,H c=some (.own y)->c≠x:=fun c y r z=>by subst z;rw [r] at mu;exact mu
 have ntup:∀c xs,H c=some (.tup xs)->c≠x:=fun c xs r z=>by subst z;rw [r] at mu;exact mu
 by_cases hb:b=x
 . subst hb;rw [upd_same] at q;cases q;exact new
 . rw [upd_ne hb] at q
   by_cases hbe:b=e
   . have q' : H b = some (.own x) := by
      rcases he with z | z
      . exact absurd (hbe.trans z) hb
      . rw [hbe];exact z
     rw [q] at q';cases q'
     obtain ⟨v,hv⟩:=heo;exact ⟨v,by rw [hbe];exact hv⟩
   . refine (ok b u q).stay (fun c v hc r=>k c v ?_ r) (fun c r=>by rw [upd_ne (nown c b r)];exact r) (fun c xs r=>by rw [upd_ne (ntup c xs r)];exact r) fun c ob xs r=>by rw [upd_ne (fun z=>by subst z;rw [r] at mu;exact mu)];exact r
     rcases hc with rfl | hc
     . exact hbe
     . rintro rfl;rcases he with z | z
       . exact nown c b hc z
       . rw [hc] at z;cases z;exact hb rfl
end
structure Un (fs ex:List Addr) (H H':Hp) (h h':Heap):Prop where
 keep:∀b o,h.get? b=some o->H b=none->b ∉ fs->b ∉ ex->h'.get? b=some o
 slot:∀b o,h.get? b=some o->H b=none->b ∈ fs->b ∉ ex->∃sl,h'.get? b=some {o with slots:=sl}
 free:∀b o,h.get? b=some o->H b=none->b ∉ ex->H' b=none
 there:∀b o,h.get? b=some o->b ∉ ex->∃o',h'.get? b=some o'
 tups:∀b xs,H b=some (.tup xs)->H' b=some (.tup xs)
 frzs:∀b o u,H b=some (.frz o u)->H' b=some (.frz o u)
 tbls:∀b ps,H b=some (.tbl ps)->∃more,H' b=some (.tbl (ps++more))
section
variable {fs fs' ex ex':List Addr} {H H1 H2:Hp} {h h1 h2 h':Heap} {a x e:Addr} {o:HO}
theorem Un.any(u:Un fs ex H H1 h h1){b:Addr}{ob:Obj}(q:h.get? b=some ob)(n:H b=none)(hx:b ∉ ex):∃sl,h1.get? b=some {ob with slots:=sl}:=by
 by_cases hb:b ∈ fs
 . exact u.slot b ob q n hb hx
 . exact ⟨ob.slots,u.keep b ob q n hb hx⟩
theorem Un.trans(a:Un fs ex H H1 h h1)(b:Un fs ex H1 H2 h1 h2):Un fs ex H H2 h h2 where
 keep:=fun c ob q n hc hx=>b.keep c ob (a.keep c ob q n hc hx) (a.free c ob q n hx) hc hx
 slot:=fun c ob q n hc hx=>by
  obtain ⟨sl,e1⟩:=a.slot c ob q n hc hx;obtain ⟨sl',e2⟩:=b.slot c _ e1 (a.free c ob q n hx) hc hx;exact ⟨sl',e2⟩
 free:=fun c ob q n hx=>by
  obtain ⟨o',e1⟩:=a.there c ob q hx;exact b.free c o' e1 (a.free c ob q n hx) hx
 there:=fun c ob q hx=>by
  obtain ⟨o',e1⟩:=a.there c ob q hx;exact b.there c o' e1 hx
 tups:=fun c xs q=>b.tups c xs (a.tups c xs q)
 frzs:=fun c ob xs q=>b.frzs c ob xs (a.frzs c ob xs q)
 tbls:=fun c ps q=>by
  obtain ⟨m1,e1⟩:=a.tbls c ps q;obtain ⟨m2,e2⟩:=b.tbls c _ e1;exact ⟨m1++m2,by rw [e2,Array.append_assoc]⟩
theorem Un.kept(k:∀b u,h.get? b=some u->h'.get? b=some u):Un fs ex H H h h' :=
 ⟨fun b ob q _ _ _=>k b ob q,fun b ob q _ _ _=>⟨ob.slots,k b ob q⟩,fun _ _ _ n _=>n,fun b ob q _=>⟨ob,k b ob q⟩,fun _ _ q=>q,fun _ _ _ q=>q,fun _ ps q=>⟨#[],by rw [q];simp⟩⟩
theorem Un.refl:Un fs ex H H h h:=Un.kept fun _ _ q=>q
theorem Un.laid(k:∀b u,h.get? b=some u->h'.get? b=some u)(hp:h.objs.size<=a)(hn:H a=none):Un fs ex H (upd H a o) h h' where
 keep:=fun b u q _ _ _=>k b u q
 slot:=fun b u q _ _ _=>⟨u.slots,k b u q⟩
 free:=fun b u q n _=>by rw [upd_ne (Nat.ne_of_lt (Nat.lt_of_lt_of_le (Heap.lt_size q) hp))];exact n
 there:=fun b u q _=>⟨u,k b u q⟩
 tups:=fun b xs q=>by rw [upd_ne (ne_of_none q hn)];exact q
 frzs:=fun b u xs q=>by rw [upd_ne (ne_of_none q hn)];exact q
 tbls:=fun b ps q=>⟨#[],by rw [upd_ne (ne_of_none q hn),q];simp⟩
theorem Un.write(mu:Mut (H x))(he:e=x\/H e=some (.own x))(k:∀b u,b≠e->h.get? b=some u->h'.get? b=some u)(heo:∃u,h'.get? e=some u):Un fs ex H (upd H x o) h h':=by
 have hx:∀b,H b=none->b≠x:=fun b n z=>by subst z;rw [n] at mu;exact mu
 have hb:∀b,H b=none->b≠e:=fun b n z=>by
  subst z;rcases he with r | r
  . exact hx b n r
  . rw [n] at r;cases r
 have hm:∀b u,H b=some u->¬Mut (some u)->b≠x:=fun b u q nm z=>by subst z;rw [q] at mu;exact nm mu
 refine ⟨fun b u q n _ _=>k b u (hb b n) q,fun b u q n _ _=>⟨u.slots,k b u (hb b n) q⟩,fun b u q n _=>by rw [upd_ne (hx b n)];exact n,fun b u q _=> ?_,
  fun b xs q=>by rw [upd_ne (hm b _ q fun z=>z)];exact q,fun b u xs q=>by rw [upd_ne (hm b _ q fun z=>z)];exact q,fun b ps q=>⟨#[],by rw [upd_ne (hm b _ q fun z=>z),q];simp⟩⟩
 by_cases hbe:b=e
 . subst hbe;exact heo
 . exact ⟨u,k b u hbe q⟩
theorem Un.mono(u:Un fs ex H H1 h h1)(hs:∀b ∈ fs,b ∈ fs')(hx:∀b ∈ ex,b ∈ ex'):Un fs' ex' H H1 h h1:=
 ⟨fun b ob q n hb he=>u.keep b ob q n (fun z=>hb (hs b z)) fun z=>he (hx b z),fun _ _ q n _ he=>u.any q n fun z=>he (hx _ z),fun b ob q n he=>u.free b ob q n fun z=>he (hx b z),fun b ob q he=>u.there b ob q fun z=>he (hx b z),u.tups,u.frzs,u.tbls⟩
end
def trk(h:Heap)(H:Hp):List Addr:=(List.range h.objs.size).filter fun a=>(H a).isSome
def hidT(h:Heap)(H:Hp):Heap:=PySem.W.hideAll h (trk h H)
theorem hidT_size(h:Heap)(H:Hp):(hidT h H).objs.size=h.objs.size:=PySem.W.hideAll_size _ _
theorem hidT_get{h:Heap}{H:Hp}{b:Addr}{o:Obj}(e:h.get? b=some o)(n:H b=none):(hidT h H).get? b=some o:=
 PySem.W.hideAll_get _ e fun hm=>by
  have q:(H b).isSome=true:=(List.mem_filter.mp hm).2;rw [n] at q;simp at q
theorem of_hidT{h:Heap}{H:Hp}{b:Addr}{o:Obj}(e:(hidT h H).get? b=some o):h.get? b=some o/\H b=none:=by
 have e':h.get? b=some o:=PySem.W.of_hideAll (trk h H) e;refine ⟨e',?_⟩
 cases q:H b with
 | none=>rfl
 | some x=>
  have hm:b ∈ trk h H:=List.mem_filter.mpr ⟨List.mem_range.mpr (Heap.lt_size e'),by simp [q]⟩;have z:(hidT h H).get? b=none:=PySem.W.hideAll_none (trk h H) hm;rw [z] at e;cases e
def allNews(g h:Heap)(L:Addr):List (Addr×Obj):=(List.range h.objs.size).filterMap fun a=>if a=L\/(g.get? a).isSome=true then none else (h.get? a).map fun o=>(a,o)
def rest(g h:Heap)(L d:Addr):List (Addr×Obj):=(allNews g h L).filter fun p=>decide (p.1≠d)
end L2
namespace L2
open PySem PySem.Spec PyProof.Rows
def tabsOf(K:PySem.W.Frag):List Addr:=match K.getLast? with
 | some (_,⟨.type "tables",_, .fields vs,_⟩)=>vs.toList.filterMap fun v=>match v with
  | .ref a=>some a
  | _=>none
 | _=> []
structure Mod (K:PySem.W.Frag) (mg:Str->Option Value) (base:Heap):Prop where
 kin:K.In base
 glob:base.Ns mainGlobals mg
 blt:∃mb,base.Ns builtinsNs mb/\∀x:Str,x ≠ "__name__" -> mb x=bootBuiltins x
 nolimit:base.NoLimit
structure Cx where
 prog:Program
 w:World
 K:PySem.W.Frag
 mg:Str->Option Value
 base:Heap
 A:Around
 N:List Str
 s₀:Shared
 H₀:Hp
 env:Env
 outer:List Env
 stack:List Env
 ex:List Addr
 fn:Str->Bool
 calm:Bool
 pn:List (Addr×Obj)
 xe:Value->Shared->Prop
def frs(l:List Env):List Addr:=l.filterMap (·.frame)
abbrev Cx.fs (X:Cx):List Addr:=frs X.outer
def Vis(sc:Scope)(x:Str):Prop:=sc.names.lookup x=some .local\/sc.names.lookup x=some .cell\/sc.names.lookup x=some .free
def Loc(sc:Scope)(x:Str):Prop:=sc.names.lookup x=some .local\/sc.names.lookup x=some .cell
def Look(env:Env)(h:Heap)(m:Str->Option Value)(x:Str)(u:Value):Prop:=
 (env.kindOf x=some .local/\m x=some u)\/((env.kindOf x=some .cell\/env.kindOf x=some .free)/\∃c,env.cells.lookup x=some c/\h.IsCell c (some u))
structure Cx.Ok (X:Cx):Prop where
 mod:Mod X.K X.mg X.base
 kind:X.env.scope.kind = .function
 glob:X.env.globals=mainGlobals
 blt:X.env.builtins=builtinsNs
 above:X.s₀.heap.objs.size<=X.env.locals
 inj:∀x y c,X.env.cells.lookup x=some c->X.env.cells.lookup y=some c->x=y
 has:∀x,(X.env.kindOf x=some .cell\/X.env.kindOf x=some .free)->∃c,X.env.cells.lookup x=some c
 cab:∀x c,X.fn x=true->X.env.cells.lookup x=some c->X.s₀.heap.objs.size<=c
 hd:X.calm=true->X.A.handled=none
 frames:X.A.frames=some X.stack
 stk:X.stack=X.outer\/(X.stack=X.env::X.outer/\X.env.frame=some X.env.locals)
 exf:∀b ∈ X.ex,b≠X.env.locals/\∀x c,X.env.cells.lookup x=some c->c≠b
 bs:∀b o,X.base.get? b=some o->X.s₀.heap.get? b=some o/\X.H₀ b=none
 bsz:X.base.objs.size<=X.s₀.heap.objs.size
 noex:∀b o,X.base.get? b=some o->b ∉ X.ex
 exfs:∀b ∈ X.ex,b ∉ X.fs
 funs:X.s₀.heap.FunFrames X.base X.outer
 frf:∀b ∈ X.fs,X.H₀ b=none
 tb:∀p ∈ tabsOf X.K,∃ps,X.H₀ p=some (.tbl ps)
structure Inv (X:Cx) (pins:List (Addr×Obj)) (σ:List (Option V)) (H:Hp) (s:Shared):Prop where
 ok:X.Ok
 os:s.os=X.s₀.os
 bare:AllBare s.gens
 base:Un X.fs X.ex X.H₀ H X.s₀.heap s.heap
 loc:∃m,s.heap.Ns X.env.locals m/\∀(i:Nat) (x:Str) (v:V),X.N[i]? = some x->σ[i]? = some (some v)->Vis X.env.scope x->∃u,RelV v u/\Look X.env s.heap m x u
 cell:∀x c,X.env.cells.lookup x=some c->∃v,s.heap.IsCell c v
 free:H X.env.locals=none
 freeC:∀x c,X.env.cells.lookup x=some c->H c=none
 pin:∀p ∈ X.pn++pins,s.heap.get? p.1=some p.2/\H p.1=none/\p.1≠X.env.locals/\p.1 ∉ X.fs/\∀v,p.2.data ≠ .cell v
 hok:HOk X.prog X.w H s.heap
 len:σ.length=X.N.length
section
variable {X:Cx} {pins:List (Addr×Obj)} {σ:List (Option V)} {H H':Hp} {s:Shared} {h':Heap}
theorem Cx.Ok.nofr(ok:X.Ok){b:Addr}{o:Obj}(e:X.base.get? b=some o):b ∉ X.fs:=fun hb=>by
 have:=(ok.funs.mem hb).1;rw [e] at this;cases this
theorem Inv.bs(I:Inv X pins σ H s):∀b o,X.base.get? b=some o->s.heap.get? b=some o/\H b=none:=fun b o e=>
 ⟨I.base.keep b o (I.ok.bs b o e).1 (I.ok.bs b o e).2 (I.ok.nofr e) (I.ok.noex b o e),I.base.free b o (I.ok.bs b o e).1 (I.ok.bs b o e).2 (I.ok.noex b o e)⟩
theorem Inv.bk(I:Inv X pins σ H s):∀b o,X.base.get? b=some o->s.heap.get? b=some o:=fun b o e=>(I.bs b o e).1
theorem Inv.tb(I:Inv X pins σ H s):∀p ∈ tabsOf X.K,∃ps,H p=some (.tbl ps):=fun p hp=>by
 obtain ⟨ps,e⟩:=I.ok.tb p hp;obtain ⟨m,e2⟩:=I.base.tbls p ps e;exact ⟨_,e2⟩
theorem Inv.mod(I:Inv X pins σ H s):Mod X.K X.mg X.base:=I.ok.mod
theorem Inv.kIn(I:Inv X pins σ H s):X.K.In s.heap:=I.ok.mod.kin.keeps I.bk
theorem Inv.nolimit(I:Inv X pins σ H s):s.heap.NoLimit:=I.ok.mod.nolimit.keeps I.bk
theorem Inv.fr(I:Inv X pins σ H s):∃m,Fr X.base X.env.locals s.heap m:=
 let ⟨m,hn,_⟩:=I.loc
 ⟨m,hn,I.bk,Nat.le_trans I.ok.bsz I.ok.above⟩
theorem Inv.lt(I:Inv X pins σ H s):X.env.locals<s.heap.objs.size:=let ⟨_,hn,_⟩:=I.loc;hn.lt
theorem Inv.sz(I:Inv X pins σ H s):X.s₀.heap.objs.size<=s.heap.objs.size:=Nat.le_trans I.ok.above (Nat.le_of_lt I.lt)
theorem Inv.nofs(I:Inv X pins σ H s){a:Addr}(h:s.heap.objs.size<=a):a ∉ X.fs:=fun hb=>by
 obtain ⟨_,o,ho,_⟩:=I.ok.funs.mem hb;exact absurd (Nat.lt_of_lt_of_le (Heap.lt_size ho) (Nat.le_trans I.sz h)) (Nat.lt_irrefl _)
theorem Inv.cne(I:Inv X pins σ H s):∀x c,X.env.cells.lookup x=some c->c≠X.env.locals:=fun x c e z=>by
 obtain ⟨v,o,ho,hd⟩:=I.cell x c e;obtain ⟨m,⟨o',es,ep,ho',hd',_⟩,_⟩:=I.loc;rw [z,ho'] at ho;cases ho;rw [hd'] at hd;cases hd
theorem Inv.funs(I:Inv X pins σ H s):s.heap.FunFrames X.base X.outer:=by
 have all:∀(l:List Env),(∀b ∈ frs l,b ∈ X.fs)->X.s₀.heap.FunFrames X.base l->s.heap.FunFrames X.base l:=by
  intro l
  induction l with
  | nil=>intro _ _;trivial
  | cons env r ih=>
   intro hs hl;obtain ⟨hk,⟨L,o,hf,hn,ho,hd⟩,hr⟩:=hl;have hL:L ∈ X.fs:=hs L (by unfold frs;rw [List.filterMap_cons,hf];exact List.mem_cons_self);obtain ⟨sl,e⟩:=I.base.slot L o ho (I.ok.frf L hL) hL fun z=>I.ok.exfs L z hL;exact ⟨hk,⟨L,_,hf,hn,e,hd⟩,ih (fun b hb=>hs b (by unfold frs;rw [List.filterMap_cons,hf];exact List.mem_cons_of_mem _ hb)) hr⟩
 exact all X.outer (fun _ hb=>hb) I.ok.funs
theorem Inv.stack(I:Inv X pins σ H s):s.heap.FunFrames X.base X.stack:=by
 rcases I.ok.stk with e | ⟨e,hf⟩
 . rw [e];exact I.funs
 . rw [e];obtain ⟨m,hn,_⟩:=I.loc;refine .cons (by rw [I.ok.kind];decide) hf hn ?_ I.funs;exact Heap.get?_none_of_le (Nat.le_trans I.ok.bsz I.ok.above)
theorem Inv.stkSub(I:Inv X pins σ H s):∀b ∈ frs X.stack,b ∈ X.env.locals::X.fs:=fun b hb=>by
 rcases I.ok.stk with e | ⟨e,hf⟩
 . rw [e] at hb;exact List.mem_cons_of_mem _ hb
 . rw [e] at hb
   unfold frs at hb
   rw [List.filterMap_cons,hf] at hb
   exact hb
theorem Inv.stkFree(I:Inv X pins σ H s):∀b ∈ frs X.stack,H b=none:=fun b hb=>by
 rcases List.mem_cons.mp (I.stkSub b hb) with e | hb
 . rw [e];exact I.free
 . obtain ⟨_,o,ho,_⟩:=I.ok.funs.mem hb;exact I.base.free b o ho (I.ok.frf b hb) fun z=>I.ok.exfs b z hb
theorem Inv.step {g' : Array GenState} {t' : Nat} {d' : Drawn} {ch : List Addr} (I : Inv X pins σ H s)
 (hch:∀b ∈ ch,(b ∈ X.ex\/X.s₀.heap.objs.size<=b)/\b≠X.env.locals/\(∀x c,X.env.cells.lookup x=some c->c≠b)/\∀p ∈ X.pn++pins,p.1≠b)
 (keep:∀b o,b≠X.env.locals->b ∉ X.fs->b ∉ ch->s.heap.get? b=some o->H b=none->h'.get? b=some o)
 (slot:∀b o,b≠X.env.locals->b ∈ X.fs->b ∉ ch->s.heap.get? b=some o->H b=none->∃sl,h'.get? b=some {o with slots:=sl}) (free:∀b o,b ∉ ch->s.heap.get? b=some o->H b=none->H' b=none)
 (there:∀b o,b ∉ ch->s.heap.get? b=some o->∃o',h'.get? b=some o')
 (tups:∀b xs,H b=some (.tup xs)->H' b=some (.tup xs)) (frzs:∀b o u,H b=some (.frz o u)->H' b=some (.frz o u)) (tbls:∀b ps,H b=some (.tbl ps)->∃more,H' b=some (.tbl (ps++more)))
 (ns:∀m,s.heap.Ns X.env.locals m->h'.Ns X.env.locals m) (hok:HOk X.prog X.w H' h') (hg:AllBare g') :
 Inv X pins σ H' {s with heap:=h',gens:=g',drawn:=d',toks:=t' }:=by
 have neL:∀b o,X.s₀.heap.get? b=some o->b≠X.env.locals:=fun b o e=>Nat.ne_of_lt (Nat.lt_of_lt_of_le (Heap.lt_size e) I.ok.above)
 have neC:∀b o,X.s₀.heap.get? b=some o->b ∉ X.ex->b ∉ ch:=fun b o e hx hb=>by
  rcases (hch b hb).1 with z | z
  . exact hx z
  . exact absurd (Nat.lt_of_lt_of_le (Heap.lt_size e) z) (Nat.lt_irrefl _)
 have cellK:∀x c,X.env.cells.lookup x=some c->∀v,s.heap.IsCell c v->h'.IsCell c v:=fun x c e v ⟨o,ho,hd⟩=>by
  have nch:c ∉ ch:=fun z=>(hch c z).2.2.1 x c e rfl
  by_cases hc:c ∈ X.fs
  . obtain ⟨sl,q⟩:=slot c o (I.cne x c e) hc nch ho (I.freeC x c e);exact ⟨_,q,hd⟩
  . exact ⟨o,keep c o (I.cne x c e) hc nch ho (I.freeC x c e),hd⟩
 refine ⟨I.ok,I.os,hg,⟨fun b o e n hb hx=> ?_,fun b o e n hb hx=> ?_,fun b o e n hx=> ?_,fun b o e hx=> ?_,fun b xs e=>tups b xs (I.base.tups b xs e),fun b o xs e=>frzs b o xs (I.base.frzs b o xs e),fun b ps e=> ?_⟩,?_,fun x c e=> ?_,?_,fun x c e=> ?_,fun p hp=> ?_,hok,I.len⟩
 . exact keep b o (neL b o e) hb (neC b o e hx) (I.base.keep b o e n hb hx) (I.base.free b o e n hx)
 . obtain ⟨sl,e1⟩:=I.base.slot b o e n hb hx;obtain ⟨sl',e2⟩:=slot b _ (neL b o e) hb (neC b o e hx) e1 (I.base.free b o e n hx);exact ⟨sl',e2⟩
 . obtain ⟨o',e1⟩:=I.base.there b o e hx;exact free b o' (neC b o e hx) e1 (I.base.free b o e n hx)
 . obtain ⟨o',e1⟩:=I.base.there b o e hx;exact there b o' (neC b o e hx) e1
 . obtain ⟨m1,e1⟩:=I.base.tbls b ps e;obtain ⟨m2,e2⟩:=tbls b _ e1;exact ⟨m1++m2,by rw [e2,Array.append_assoc]⟩
 . obtain ⟨m,hn,hl⟩:=I.loc;refine ⟨m,ns m hn,fun i x v e1 e2 e3=> ?_⟩;obtain ⟨u,r,l⟩:=hl i x v e1 e2 e3;refine ⟨u,r,?_⟩;rcases l with l | ⟨k,c,e,z⟩
   . exact .inl l
   . exact .inr ⟨k,c,e,cellK x c e _ z⟩
 . obtain ⟨v,z⟩:=I.cell x c e;exact ⟨v,cellK x c e v z⟩
 . obtain ⟨m,⟨o,_,_,ho,_⟩,_⟩:=I.loc;exact free _ o (fun z=>(hch _ z).2.1 rfl) ho I.free
 . obtain ⟨v,o,ho,hd⟩:=I.cell x c e;exact free c o (fun z=>(hch c z).2.2.1 x c e rfl) ho (I.freeC x c e)
 . obtain ⟨e,n,ne,nf,d⟩:=I.pin p hp;have nch:p.1 ∉ ch:=fun z=>(hch p.1 z).2.2.2 p hp rfl;exact ⟨keep p.1 p.2 ne nf nch e n,free p.1 p.2 nch e n,ne,nf,d⟩
theorem Inv.un{t':Nat}(I:Inv X pins σ H s)(u:Un X.fs [] H H' s.heap h')(hok:HOk X.prog X.w H' h'):Inv X pins σ H' {s with heap:=h',toks:=t' }:=by
 obtain ⟨m,⟨o,es,ep,ho,r⟩,_⟩:=id I.loc;obtain ⟨sl,hL⟩:=u.any ho I.free (by simp)
 exact I.step (g':=s.gens) (d':=s.drawn) (ch:= []) (fun _ z=>nomatch z) (fun b o _ hb _ e n=>u.keep b o e n hb (by simp)) (fun b o _ hb _ e n=>u.slot b o e n hb (by simp)) (fun b o _ e n=>u.free b o e n (by simp)) (fun b o _ e=>u.there b o e (by simp)) u.tups u.frzs u.tbls (fun m' hm=>by
  obtain ⟨o',es',ep',ho',r'⟩:=hm;rw [ho] at ho';cases ho'
  exact ⟨_,es',ep',hL,r'⟩) hok I.bare
theorem Inv.call {g' : Array GenState} {t' : Nat} {d' : Drawn} {ch : List Addr} (I : Inv X pins σ H s) (u : Un (frs X.stack) ch H H' s.heap h') (hok : HOk X.prog X.w H' h') (hg : AllBare g')
 (hch:∀b ∈ ch,(b ∈ X.ex\/X.s₀.heap.objs.size<=b)/\b≠X.env.locals/\(∀x c,X.env.cells.lookup x=some c->c≠b)/\∀p ∈ X.pn++pins,p.1≠b) :
 Inv X pins σ H' {s with heap:=h',gens:=g',drawn:=d',toks:=t' }:=by
 obtain ⟨m,⟨o,es,ep,ho,r⟩,_⟩:=id I.loc;obtain ⟨sl,hL⟩:=u.any ho I.free fun z=>(hch _ z).2.1 rfl
 exact I.step (ch:=ch) hch (fun b o hL hb hc e n=>u.keep b o e n (fun z=>(List.mem_cons.mp (I.stkSub b z)).elim hL hb) hc) (fun b o _ _ hc e n=>u.any e n hc) (fun b o hc e n=>u.free b o e n hc) (fun b o hc e=>u.there b o e hc) u.tups u.frzs u.tbls (fun m' hm=>by
  obtain ⟨o',es',ep',ho',r'⟩:=hm;rw [ho] at ho';cases ho'
  exact ⟨_,es',ep',hL,r'⟩) hok hg
theorem Inv.turned {t' : Nat} {it : Addr} (I : Inv X pins σ H s) (k : ∀ b o, b ≠ it -> s.heap.get? b = some o -> h'.get? b = some o) (hn : H it = none) (hL : it ≠ X.env.locals)
 (h1:it ∈ X.ex\/X.s₀.heap.objs.size<=it) (h2:∀x c,X.env.cells.lookup x=some c->c≠it) (h3:∀p ∈ X.pn++pins,p.1≠it):Inv X pins σ H {s with heap:=h',toks:=t' }:=by
 have nit:∀b u,H b=some u->b≠it:=fun b u e z=>by rw [z,hn] at e;cases e
 refine I.step (g':=s.gens) (d':=s.drawn) (ch:= [it]) (fun b hb=> ?_) (fun b o _ _ hc e _=>k b o (fun z=>hc (by simp [z])) e) (fun b o _ _ hc e _=>⟨o.slots,k b o (fun z=>hc (by simp [z])) e⟩) (fun _ _ _ _ n=>n)
  (fun b o hc e=>⟨o,k b o (fun z=>hc (by simp [z])) e⟩) (fun _ _ e=>e) (fun _ _ _ e=>e) (fun b ps e=>⟨#[],by rw [e];simp⟩) (fun m hm=> ?_) (fun b u e=> ?_) I.bare
 . have e:b=it:=by simpa using hb
   subst e;exact ⟨h1,hL,h2,h3⟩
 . obtain ⟨o,es,ep,ho,r⟩:=hm;exact ⟨o,es,ep,k _ o (Ne.symm hL) ho,r⟩
 . refine (I.hok b u e).stay (fun c v hc q=>k c v ?_ q) (fun _ q=>q) fun _ _ q=>q;rcases hc with z | z
   . rw [z];exact nit b u e
   . exact nit c _ z
theorem Inv.tok(I:Inv X pins σ H s)(t:Nat):Inv X pins σ H {s with toks:=t}:=I.un (h':=s.heap) (t':=t) Un.refl I.hok
theorem Inv.kept{t':Nat}(I:Inv X pins σ H s)(k:∀b u,s.heap.get? b=some u->h'.get? b=some u):Inv X pins σ H {s with heap:=h',toks:=t' }:=I.un (Un.kept k) (I.hok.kept k)
theorem Inv.laid {a : Addr} {o : HO} {t' : Nat} (I : Inv X pins σ H s) (k : ∀ b u, s.heap.get? b = some u -> h'.get? b = some u) (hp : s.heap.objs.size <= a) (new : ObjOk X.prog X.w (upd H a o) h' a o) :
 Inv X pins σ (upd H a o) {s with heap:=h',toks:=t' }:=I.un (Un.laid k hp (I.hok.fresh hp)) (I.hok.laid k hp new)
theorem Inv.write {x e : Addr} {o : HO} {t' : Nat} (I : Inv X pins σ H s) (mu : Mut (H x)) (he : e = x \/ H e = some (.own x)) (k : ∀ b u, b ≠ e -> s.heap.get? b = some u -> h'.get? b = some u) (heo : ∃ u, h'.get? e = some u)
 (new:ObjOk X.prog X.w (upd H x o) h' x o):Inv X pins σ (upd H x o) {s with heap:=h',toks:=t' }:=I.un (Un.write mu he k heo) (I.hok.write mu he k heo new)
theorem Inv.weak{σ':List (Option V)}(I:Inv X pins σ H s)(hl:σ'.length=σ.length)(w:∀(i:Nat) v,σ'[i]? = some (some v)->σ[i]? = some (some v)):Inv X pins σ' H s:=
 ⟨I.ok,I.os,I.bare,I.base,let ⟨m,hn,hl'⟩:=I.loc;⟨m,hn,fun i x v e1 e2 e3=>hl' i x v e1 (w i v e2) e3⟩,I.cell,I.free,I.freeC,I.pin,I.hok,hl.trans I.len⟩
theorem Inv.pins_of{pins':List (Addr×Obj)}(I:Inv X pins σ H s)(h:∀p ∈ pins',s.heap.get? p.1=some p.2/\H p.1=none/\p.1≠X.env.locals/\p.1 ∉ X.fs/\∀v,p.2.data ≠ .cell v):Inv X pins' σ H s:=
 ⟨I.ok,I.os,I.bare,I.base,I.loc,I.cell,I.free,I.freeC,fun p hp=>(List.mem_append.mp hp).elim (fun z=>I.pin p (List.mem_append_left _ z)) (h p),I.hok,I.len⟩
theorem nodup_ix{N:List Str}(hN:N.Nodup){i j:Nat}{x:Str}(a:N[i]? = some x)(b:N[j]? = some x):i=j:=by
 obtain ⟨h1,e1⟩:=List.getElem?_eq_some_iff.mp a;obtain ⟨h2,e2⟩:=List.getElem?_eq_some_iff.mp b;exact (List.getElem_inj hN).mp (e1.trans e2.symm)
theorem store_ok2 {M : Model} {A : Around} {E : Value -> Shared -> Prop} {i : Nat} {x : Str} {v : V} {u : Value} {Q : Unit -> Shared -> Prop} (I : Inv X pins σ H s) (hN : X.N.Nodup) (hi : X.N[i]? = some x) (hx : Loc X.env.scope x) (r : RelV v u)
 (h:∀s',Inv X pins (σ.set i (some v)) H s'->(∃a,Heap.SameBut a s.heap s'.heap/\(a=X.env.locals\/X.env.cells.lookup x=some a))->Q () s') (hf:X.fn x=true\/X.env.scope.names.lookup x=some .local:=by first | exact .inl rfl | exact .inr rfl | assumption):wpAny M A (storeName X.env x u) Q E s:=by
 obtain ⟨m,hn,hl⟩:=id I.loc;have hcls:(X.env.scope.kind == .class || (X.env.scope.kind == .module && X.env.locals != X.env.globals))=false:=by rw [I.ok.kind];rfl
 have hiσ:i<σ.length:=by rw [I.len];exact (List.getElem?_eq_some_iff.mp hi).1
 have cne:=I.cne
 have tracked:∀ {a:Addr} {h':Heap},(∃o,s.heap.get? a=some o/\H a=none)->Heap.SameBut a s.heap h'->HOk X.prog X.w H h':=fun {a h'} ha hs b ob e=>by
  obtain ⟨_,_,hfree⟩:=ha;refine (I.hok b ob e).stay (fun c w' hc q=>(hs.2 c ?_).trans q) (fun _ q=>q) fun _ _ q=>q;rintro rfl;rcases hc with rfl | hc
  . rw [hfree] at e;cases e
  . rw [hfree] at hc;cases hc
 rcases hx with hk | hk
 . refine wpAny_storeName_local hk hn (fun h' hn' hs=> ?_) hcls;obtain ⟨oL,_,_,hoL,_⟩:=id hn;refine h _ ⟨I.ok,I.os,I.bare,⟨fun b o e n hb hx=> ?_,fun b o e n hb hx=> ?_,I.base.free,fun b o e hx=> ?_,I.base.tups,I.base.frzs,I.base.tbls⟩,⟨_,hn',fun j y v' e1 e2 e3=> ?_⟩,fun y c e=> ?_,I.free,I.freeC,fun p hp=> ?_,tracked ⟨oL,hoL,I.free⟩ hs,by simpa using I.len⟩ ⟨_,hs, .inl rfl⟩
   . exact (hs.2 b (Nat.ne_of_lt (Nat.lt_of_lt_of_le (Heap.lt_size e) I.ok.above))).trans (I.base.keep b o e n hb hx)
   . obtain ⟨sl,e1⟩:=I.base.slot b o e n hb hx;exact ⟨sl,(hs.2 b (Nat.ne_of_lt (Nat.lt_of_lt_of_le (Heap.lt_size e) I.ok.above))).trans e1⟩
   . obtain ⟨o',e1⟩:=I.base.there b o e hx;exact ⟨o',(hs.2 b (Nat.ne_of_lt (Nat.lt_of_lt_of_le (Heap.lt_size e) I.ok.above))).trans e1⟩
   . by_cases hj:j=i
     . subst hj;rw [hi] at e1;cases e1
       rw [List.getElem?_set_self hiσ] at e2
       cases e2
       exact ⟨u,r, .inl ⟨hk,by simp⟩⟩
     . rw [List.getElem?_set_ne (Ne.symm hj)] at e2
       obtain ⟨u',r',q⟩:=hl j y v' e1 e2 e3;refine ⟨u',r',?_⟩;rcases q with ⟨k,e⟩ | ⟨k,c,e,z⟩
       . refine .inl ⟨k,?_⟩;have:y≠x:=fun e=>hj (nodup_ix hN e1 (e ▸ hi));simp [this,e]
       . exact .inr ⟨k,c,e,z.sameBut hs (cne y c e)⟩
   . obtain ⟨w',z⟩:=I.cell y c e;exact ⟨w',z.sameBut hs (cne y c e)⟩
   . obtain ⟨e,n,ne,nf,d⟩:=I.pin p hp;exact ⟨(hs.2 p.1 ne).trans e,n,ne,nf,d⟩
 . have hfn : X.fn x = true := by
    rcases hf with z | z
    . exact z
    . rw [z] at hk;cases hk
   obtain ⟨c,hc⟩:=I.ok.has x (.inl hk);obtain ⟨w',z⟩:=I.cell x c hc;refine wpAny_storeName_cell I.ok.kind hk hc z (fun h' hc' hs=> ?_);obtain ⟨oc,hoc,hocd⟩:=id z;refine h {s with heap:=h' } ⟨I.ok,I.os,I.bare,⟨fun b o e n hb hx=> ?_,fun b o e n hb hx=> ?_,I.base.free,fun b o e hx=> ?_,I.base.tups,I.base.frzs,I.base.tbls⟩,⟨m,hn.sameBut hs (Ne.symm (cne x c hc)),fun j y v' e1 e2 e3=> ?_⟩,fun y c' e=> ?_,I.free,I.freeC,fun p hp=> ?_,tracked ⟨oc,hoc,I.freeC x c hc⟩ hs,by simpa using I.len⟩ ⟨c,hs, .inr hc⟩
   . exact (hs.2 b (Nat.ne_of_lt (Nat.lt_of_lt_of_le (Heap.lt_size e) (I.ok.cab x c hfn hc)))).trans (I.base.keep b o e n hb hx)
   . obtain ⟨sl,e1⟩:=I.base.slot b o e n hb hx;exact ⟨sl,(hs.2 b (Nat.ne_of_lt (Nat.lt_of_lt_of_le (Heap.lt_size e) (I.ok.cab x c hfn hc)))).trans e1⟩
   . obtain ⟨o',e1⟩:=I.base.there b o e hx;exact ⟨o',(hs.2 b (Nat.ne_of_lt (Nat.lt_of_lt_of_le (Heap.lt_size e) (I.ok.cab x c hfn hc)))).trans e1⟩
   . by_cases hj:j=i
     . subst hj;rw [hi] at e1;cases e1
       rw [List.getElem?_set_self hiσ] at e2
       cases e2
       exact ⟨u,r, .inr ⟨.inl hk,c,hc,hc'⟩⟩
     . rw [List.getElem?_set_ne (Ne.symm hj)] at e2
       obtain ⟨u',r',q⟩:=hl j y v' e1 e2 e3;refine ⟨u',r',?_⟩;rcases q with q | ⟨k,c',e,z'⟩
       . exact .inl q
       . refine .inr ⟨k,c',e,z'.sameBut hs ?_⟩;rintro rfl;exact hj (nodup_ix hN e1 (I.ok.inj _ _ _ e hc ▸ hi))
   . by_cases hcc:c'=c
     . subst hcc;exact ⟨_,hc'⟩
     . obtain ⟨w2,z2⟩:=I.cell y c' e;exact ⟨w2,z2.sameBut hs hcc⟩
   . obtain ⟨e,n,ne,nf,d⟩:=I.pin p hp;refine ⟨(hs.2 p.1 ?_).trans e,n,ne,nf,d⟩;intro q;rw [q,hoc] at e
     have q':oc=p.2:=Option.some.inj e;exact d w' (by rw [<-q'];exact hocd)
theorem store_ok {M : Model} {A : Around} {E : Value -> Shared -> Prop} {i : Nat} {x : Str} {v : V} {u : Value} {Q : Unit -> Shared -> Prop} (I : Inv X pins σ H s) (hN : X.N.Nodup) (hi : X.N[i]? = some x) (hx : Loc X.env.scope x) (r : RelV v u)
 (h:∀s',Inv X pins (σ.set i (some v)) H s'->Q () s') (hf:X.fn x=true\/X.env.scope.names.lookup x=some .local:=by first | exact .inl rfl | exact .inr rfl | assumption):wpAny M A (storeName X.env x u) Q E s:=
 store_ok2 I hN hi hx r (fun s' I' _=>h s' I') hf
theorem Inv.call' {s' : Shared} {ch : List Addr} (I : Inv X pins σ H s) (ho : s'.os = s.os) (u : Un (frs X.stack) ch H H' s.heap s'.heap) (hok : HOk X.prog X.w H' s'.heap) (hg : AllBare s'.gens)
 (hch:∀b ∈ ch,(b ∈ X.ex\/X.s₀.heap.objs.size<=b)/\b≠X.env.locals/\(∀x c,X.env.cells.lookup x=some c->c≠b)/\∀p ∈ X.pn++pins,p.1≠b):Inv X pins σ H' s':=by
 obtain ⟨h',g',d',t',o'⟩:=s';have e:o'=s.os:=ho;subst e;exact I.call (g':=g') (t':=t') (d':=d') u hok hg hch
end
abbrev XK:=Value->Option Addr->Hp->Prop
abbrev St:=List (Option V)
abbrev VK:=V->Hp->Prop
abbrev TE:=St->Hp->VK->Prop
abbrev TT:=St->Hp->(Bool->Hp->Prop)->Prop
abbrev TA:=St->Hp->(List V->Hp->Prop)->Prop
structure Ends where
 nx:St->Hp->Prop
 rt:VK
 bk:St->Hp->Prop:=fun _ _=>False
 ct:St->Hp->Prop:=fun _ _=>False
abbrev TS:=Ends->St->Hp->Prop
def EP(X:Cx)(pins:List (Addr×Obj))(σ:St)(Q:VK)(u:Value)(s':Shared):Prop:=∃v H',Inv X pins σ H' s'/\RelV v u/\Q v H'
def TP(X:Cx)(pins:List (Addr×Obj))(σ:St)(Q:Bool->Hp->Prop)(b:Bool)(s':Shared):Prop:=∃H',Inv X pins σ H' s'/\Q b H'
def AP(X:Cx)(pins:List (Addr×Obj))(σ:St)(Q:List V->Hp->Prop)(us:List Value)(s':Shared):Prop:=∃vs H',Inv X pins σ H' s'/\Vals vs us/\Q vs H'
def SP(X:Cx)(pins:List (Addr×Obj))(D:Ends)(f:Flow)(s':Shared):Prop:=
 match f with
 | .next=>∃σ' H',Inv X pins σ' H' s'/\D.nx σ' H'
 | .brk=>∃σ' H',Inv X pins σ' H' s'/\D.bk σ' H'
 | .cont=>∃σ' H',Inv X pins σ' H' s'/\D.ct σ' H'
 | .ret u=>∃v σ' H',Inv X pins σ' H' s'/\RelV v u/\D.rt v H'
def PE(X:Cx)(e:Expr)(t:TE):Prop:=
 ∀(pins:List (Addr×Obj)) (s:Shared) (σ:St) (H:Hp) (Q:VK),Inv X pins σ H s->t σ H Q->wpAny (model X.prog X.w) X.A (eval e X.env) (EP X pins σ Q) X.xe s
def PT(X:Cx)(e:Expr)(t:TT):Prop:=
 ∀(pins:List (Addr×Obj)) (s:Shared) (σ:St) (H:Hp) (Q:Bool->Hp->Prop),Inv X pins σ H s->t σ H Q->wpAny (model X.prog X.w) X.A (isTrue e X.env (eval e X.env)) (TP X pins σ Q) X.xe s
def PW(X:Cx)(e:Expr)(t:TT):Prop:=
 ∀(whole:Sem Value) (pins:List (Addr×Obj)) (s:Shared) (σ:St) (H:Hp) (Q:Bool->Hp->Prop),Inv X pins σ H s->t σ H Q->wpAny (model X.prog X.w) X.A (isTrue e X.env whole) (TP X pins σ Q) X.xe s
theorem PW.pt{X:Cx}{e:Expr}{t:TT}(h:PW X e t):PT X e t:=h _
def PA(X:Cx)(es:List Expr)(t:TA):Prop:=
 ∀(pos:Pos) (pins:List (Addr×Obj)) (s:Shared) (σ:St) (H:Hp) (Q:List V->Hp->Prop),Inv X pins σ H s->t σ H Q->wpAny (model X.prog X.w) X.A (spliced (backTo pos (starEach es X.env))) (AP X pins σ Q) X.xe s
def PS(X:Cx)(st:Stmt)(t:TS):Prop:=
 ∀(pins:List (Addr×Obj)) (s:Shared) (σ:St) (H:Hp) (D:Ends),Inv X pins σ H s->t D σ H->wpAny (model X.prog X.w) X.A (exec st X.env) (SP X pins D) X.xe s
def PSs(X:Cx)(st:List Stmt)(t:TS):Prop:=
 ∀(pins:List (Addr×Obj)) (s:Shared) (σ:St) (H:Hp) (D:Ends),Inv X pins σ H s->t D σ H->wpAny (model X.prog X.w) X.A (execs st X.env) (SP X pins D) X.xe s
theorem thn{α:Type}{t:Sem α}{Q Q':α->Shared->Prop}{M:Model}{A:Around}{E:Value->Shared->Prop}{s:Shared}(h:wpAny M A t Q E s)(hQ:∀a s,Q a s->Q' a s):wpAny M A t Q' E s:=wpAny_mono h hQ fun _ _ x=>x
end L2
namespace L2
open PySem PySem.Spec PyProof.Rows
section
variable {X:Cx}
theorem bin {a b : Expr} {ta tb : TE} (ha : PE X a ta) (hb : PE X b tb) {pins : List (Addr × Obj)} {s : Shared} {σ : St} {H : Hp} {R : V -> V -> Hp -> Prop} (I : Inv X pins σ H s) (h : ta σ H fun x H1 => tb σ H1 fun y H2 => R x y H2)
 {α:Type} {Q:α->Shared->Prop} {f:Value->Value->Sem α}
 (hf:∀v u s2 x y H2,Inv X pins σ H2 s2->RelV x v->RelV y u->R x y H2->wpAny (model X.prog X.w) X.A (f v u) Q X.xe s2) :
 wpAny (model X.prog X.w) X.A (eval a X.env) (fun v s₁=>wpAny (model X.prog X.w) X.A (eval b X.env) (fun u s₂=>wpAny (model X.prog X.w) X.A (f v u) Q X.xe s₂) X.xe s₁) X.xe s:=by
 refine thn (ha pins s σ H _ I h) fun v s1 ⟨x,H1,I1,r1,q1⟩ => ?_;refine thn (hb pins s1 σ H1 _ I1 q1) fun u s2 ⟨y,H2,I2,r2,q2⟩ => ?_;exact hf v u s2 x y H2 I2 r1 r2 q2
def tVar(i:Nat):TE:=fun σ H Q=>∃v,σ[i]? = some (some v)/\Q v H
def tC(v:V):TE:=fun _ H Q=>Q v H
theorem pe_var {i:Nat} {x:Str} {pos:Pos} (hN:X.N[i]? = some x) (hv:Vis X.env.scope x) (hd:(x==("__debug__" : Str))=false:=by decide) (hcd:(x==("__classdict__" : Str))=false:=by decide):PE X (.Name x pos) (tVar i):=by
 intro pins s σ H Q I h;obtain ⟨v,e,h⟩:=h;obtain ⟨m,hn,hl⟩:=I.loc;obtain ⟨u,r,l⟩:=hl i x v hN e hv;have fin:EP X pins σ Q u s:=⟨v,H,I,r,h⟩;rcases l with ⟨hk,hm⟩ | ⟨hk,c,hc,hcell⟩
 . exact wpAny_Name (wpAny_loadName_local I.ok.kind hk hn hm fin) hd
 . rcases hk with hk | hk
   . exact wpAny_Name (wpAny_loadName_cell I.ok.kind hk hc hcell fin) hd
   . exact wpAny_Name (wpAny_loadName_free I.ok.kind hk hc hcell fin hcd) hd
theorem pe_int{i j pos}:PE X (.Constant (.int i) j pos) (tC (.int i)):=fun _ _ _ H _ I h=>wpAny_Constant_int ⟨.int i,H,I.tok _,⟨_,rfl⟩,h⟩
theorem pe_bl{b j pos}:PE X (.Constant (.bool b) j pos) (tC (.bl b)):=fun _ _ _ H _ I h=>Constant_bool ⟨.bl b,H,I,rfl,h⟩
theorem pe_non{j pos}:PE X (.Constant .none j pos) (tC .non):=fun _ _ _ H _ I h=>Constant_none ⟨.non,H,I,rfl,h⟩
theorem pe_str{x j pos}:PE X (.Constant (.str x) j pos) (tC (.str x)):=fun _ _ _ H _ I h=>Calls.Constant_str ⟨.str x,H,I.tok _,⟨_,rfl⟩,h⟩
def Gl(X:Cx)(x:Str):Prop:=X.env.kindOf x=some .globalImplicit
theorem ld_glob {E : Value -> Shared -> Prop} {pins : List (Addr × Obj)} {s : Shared} {σ : St} {H : Hp} {x : Str} {u : Value} {pos : Pos} {Q : Value -> Shared -> Prop} (I : Inv X pins σ H s) (hg : Gl X x) (hm : X.mg x = some u) (h : Q u s)
 (hd:(x==("__debug__" : Str))=false:=by decide):wpAny (model X.prog X.w) X.A (eval (.Name x pos) X.env) Q E s:=
 Calls.Name_function_global I.ok.kind hg (Calls.loadGlobal_global (by rw [I.ok.glob];exact I.mod.glob.keeps I.bk) hm h) hd
theorem ld_blt {E : Value -> Shared -> Prop} {pins : List (Addr × Obj)} {s : Shared} {σ : St} {H : Hp} {x : Str} {u : Value} {pos : Pos} {Q : Value -> Shared -> Prop} (I : Inv X pins σ H s) (hg : Gl X x) (hm : X.mg x = none) (hv : bootBuiltins x = some u) (h : Q u s)
 (hn:x ≠ "__name__" :=by decide) (hd:(x==("__debug__" : Str))=false:=by decide):wpAny (model X.prog X.w) X.A (eval (.Name x pos) X.env) Q E s:=by
 obtain ⟨mb,h1,h2⟩:=I.mod.blt;exact Calls.Name_function_global I.ok.kind hg (Calls.loadGlobal_builtin (by rw [I.ok.glob];exact I.mod.glob.keeps I.bk) hm (by rw [I.ok.blt];exact h1.keeps I.bk) ((h2 x hn).trans hv) h) hd
theorem pe_glob {x:Str} {v:V} {u:Value} {pos:Pos} (hg:Gl X x) (hm:X.mg x=some u) (r:RelV v u) (hd:(x==("__debug__" : Str))=false:=by decide):PE X (.Name x pos) (tC v) :=
 fun _ _ _ H _ I h=>ld_glob I hg hm ⟨v,H,I,r,h⟩ hd
theorem pe_bltn {x:Str} {v:V} {u:Value} {pos:Pos} (hg:Gl X x) (hm:X.mg x=none) (hv:bootBuiltins x=some u) (r:RelV v u) (hn:x ≠ "__name__" :=by decide) (hd:(x==("__debug__" : Str))=false:=by decide):PE X (.Name x pos) (tC v) :=
 fun _ _ _ H _ I h=>ld_blt I hg hm hv ⟨v,H,I,r,h⟩ hn hd
variable {a b:Expr} {ta tb:TE} {pos:Pos}
def PC(X:Cx)(op:CmpOp)(a b:Expr)(t:TE):Prop:=
 ∀(pins:List (Addr×Obj)) (s:Shared) (σ:St) (H:Hp) (Q:VK),Inv X pins σ H s->t σ H Q ->
   wpAny (model X.prog X.w) X.A (eval a X.env) (fun v s₁=>wpAny (model X.prog X.w) X.A (eval b X.env) (fun u s₂=>wpAny (model X.prog X.w) X.A (compareOp op v u) (EP X pins σ Q) X.xe s₂) X.xe s₁) X.xe s
theorem nobehind(b:Expr){op:CmpOp}(h:op ≠ .In)(h2:op ≠ .NotIn):behindInMarks op b=false:=by
 have e1:(op==CmpOp.In)=false:=by cases op <;> first | rfl | exact absurd rfl h
 have e2:(op==CmpOp.NotIn)=false:=by cases op <;> first | rfl | exact absurd rfl h2
 cases b <;> simp [behindInMarks,e1,e2]
def tB(t:TE):TT:=fun σ H Q=>t σ H fun x H1=>∃c,x = .bl c/\Q c H1
theorem pt_cmp{op:CmpOp}{t:TE}(h:PC X op a b t)(h1:behindInMarks op b=false:=by first | exact nobehind _ (by decide) (by decide) | rfl):PT X (.Compare a [op] [b] pos) (tB t):=by
 intro pins s σ H Q I hw;refine wpAny_isTrue_Compare1 (thn (h pins s σ H _ I hw) fun v s1 h1=>thn h1 fun u s2 h2=>thn h2 fun c s3 ⟨x,H1,I1,r1,q1⟩ => ?_) h1;obtain ⟨d,rfl,q⟩:=q1
 cases r1
 exact wpAny_truthy_bool ⟨H1,I1,q⟩
theorem pt_val{e:Expr}{t:TE}(h:PE X e t)(he:∀whole,isTrue e X.env whole=(do let v <-whole;standAt e.pos;holding [v] (truthy v)):=by intro _;rfl):PT X e (tB t):=by
 intro pins s σ H Q I hw;refine isTrue_plain (thn (h pins s σ H _ I hw) fun v s1 ⟨x,H1,I1,r1,q1⟩ => ?_) (he _);obtain ⟨d,rfl,q⟩:=q1
 cases r1
 exact wpAny_truthy_bool ⟨H1,I1,q⟩
variable {tA tB':TT} {rest:List Expr}
def tAnd(t u:TT):TT:=fun σ H Q=>t σ H fun c H1=>if c=true then u σ H1 Q else Q false H1
def tOr(t u:TT):TT:=fun σ H Q=>t σ H fun c H1=>if c=true then Q true H1 else u σ H1 Q
def tNot(t:TT):TT:=fun σ H Q=>t σ H fun c H1=>Q (!c) H1
theorem pw_and1(ha:PT X a tA):PW X (.BoolOp .And [a] pos) tA:=by
 intro wh pins s σ H Q I h;refine isTrue_and (thn (ha pins s σ H Q I h) fun c s1 e=> ?_)
 cases c with
 | true=>exact isTrue_and_nil e
 | false=>exact e
theorem pw_or1(ha:PT X a tA):PW X (.BoolOp .Or [a] pos) tA:=by
 intro wh pins s σ H Q I h;refine isTrue_or (thn (ha pins s σ H Q I h) fun c s1 e=> ?_)
 cases c with
 | false=>exact isTrue_or_nil e
 | true=>exact e
theorem pw_and(ha:PT X a tA)(hb:PW X (.BoolOp .And (b::rest) pos) tB'):PW X (.BoolOp .And (a::b::rest) pos) (tAnd tA tB'):=by
 intro wh pins s σ H Q I h;refine isTrue_and (thn (ha pins s σ H _ I h) fun c s1 ⟨H1,I1,q1⟩ => ?_)
 cases c with
 | true=>exact hb wh pins s1 σ H1 Q I1 q1
 | false=>exact ⟨H1,I1,q1⟩
theorem pw_or(ha:PT X a tA)(hb:PW X (.BoolOp .Or (b::rest) pos) tB'):PW X (.BoolOp .Or (a::b::rest) pos) (tOr tA tB'):=by
 intro wh pins s σ H Q I h;refine isTrue_or (thn (ha pins s σ H _ I h) fun c s1 ⟨H1,I1,q1⟩ => ?_)
 cases c with
 | true=>exact ⟨H1,I1,q1⟩
 | false=>exact hb wh pins s1 σ H1 Q I1 q1
theorem pt_not(ha:PT X a tA):PT X (.UnaryOp .Not a pos) (tNot tA):=by
 intro pins s σ H Q I h;exact isTrue_not (ha pins s σ H (fun c H1=>Q (!c) H1) I h)
def tAndV(ta tb:TE):TE:=fun σ H Q=>ta σ H fun x H1=>∃c,x = .bl c/\if c=true then tb σ H1 Q else Q (.bl false) H1
def tOrV(ta tb:TE):TE:=fun σ H Q=>ta σ H fun x H1=>∃c,x = .bl c/\if c=true then Q (.bl true) H1 else tb σ H1 Q
def tNotV(ta:TE):TE:=fun σ H Q=>ta σ H fun x H1=>∃c,x = .bl c/\Q (.bl (!c)) H1
theorem pe_one{op}{t:TE}(h:PE X a t):PE X (.BoolOp op [a] pos) t:=fun pins s σ H Q I hw=>BoolOp_one (h pins s σ H Q I hw)
theorem pe_and(ha:PE X a ta)(hb:PE X (.BoolOp .And (b::rest) pos) tb):PE X (.BoolOp .And (a::b::rest) pos) (tAndV ta tb):=by
 intro pins s σ H Q I h;refine BoolOp_and (thn (ha pins s σ H _ I h) fun v s1 ⟨x,H1,I1,r1,q1⟩ => ?_);obtain ⟨c,rfl,q1⟩:=q1
 cases r1
 refine wpAny_truthy_bool ?_
 cases c with
 | true=>exact hb pins s1 σ H1 Q I1 q1
 | false=>exact ⟨.bl false,H1,I1,rfl,q1⟩
theorem pe_or(ha:PE X a ta)(hb:PE X (.BoolOp .Or (b::rest) pos) tb):PE X (.BoolOp .Or (a::b::rest) pos) (tOrV ta tb):=by
 intro pins s σ H Q I h;refine BoolOp_or (thn (ha pins s σ H _ I h) fun v s1 ⟨x,H1,I1,r1,q1⟩ => ?_);obtain ⟨c,rfl,q1⟩:=q1
 cases r1
 refine wpAny_truthy_bool ?_
 cases c with
 | false=>exact hb pins s1 σ H1 Q I1 q1
 | true=>exact ⟨.bl true,H1,I1,rfl,q1⟩
theorem pe_not(ha:PE X a ta):PE X (.UnaryOp .Not a pos) (tNotV ta):=by
 intro pins s σ H Q I h;refine UnaryOp_ (thn (ha pins s σ H _ I h) fun v s1 ⟨x,H1,I1,r1,q1⟩ => ?_);obtain ⟨c,rfl,q1⟩:=q1
 cases r1
 exact not_of (wpAny_truthy_bool ⟨.bl (!c),H1,I1,rfl,q1⟩)
def tIf(t:TT)(ta tb:TE):TE:=fun σ H Q=>t σ H fun c H1=>if c=true then ta σ H1 Q else tb σ H1 Q
theorem pe_ifExp{c:Expr}(hc:PT X c tA)(ha:PE X a ta)(hb:PE X b tb):PE X (.IfExp c a b pos) (tIf tA ta tb):=by
 intro pins s σ H Q I h;refine wpAny_IfExp (thn (hc pins s σ H _ I h) fun d s1 ⟨H1,I1,q1⟩ => ?_)
 cases d with
 | true=>exact ha pins s1 σ H1 Q I1 q1
 | false=>exact hb pins s1 σ H1 Q I1 q1
end
end L2
namespace L2
open PySem PySem.Spec PyProof.Rows
def SqL(K:PySem.W.Frag)(H:Hp)(a:Addr)(xs:List V):Prop:=
 Rd H a (.lst xs) \/
  ∃(o:Obj) (its:Array Value) (n:Nat),K.lookup a=some o/\o.cls = .type "list" /\ o.dict=none/\o.data = .seq its n/\its.size<=sizeLine/\Vals xs its.toList
def SqT(K:PySem.W.Frag)(H:Hp)(a:Addr)(xs:List V):Prop:=
 Rd H a (.tup xs) \/
  ∃(o:Obj) (its:Array Value) (n:Nat),K.lookup a=some o/\o.cls = .type "tuple" /\ o.data = .seq its n/\its.size<=sizeLine/\Vals xs its.toList
def absV:Value->Option V
 | .none=>some .non
 | .bool b=>some (.bl b)
 | .int i _=>some (.int i)
 | .str x _=>some (.str x)
 | .bytes b _=>some (.byt b)
 | .float b _=>some (.flt b)
 | .ref a=>some (.ref a)
 | .type n=>some (.ty n)
 | _=>none
theorem RelV.abs{x:V}{u:Value}(r:RelV x u):absV u=some x:=by
 cases x with
 | non=>cases r;rfl
 | bl _=>cases r;rfl
 | int _=>obtain ⟨t,rfl⟩:=r;rfl
 | str _=>obtain ⟨t,rfl⟩:=r;rfl
 | byt _=>obtain ⟨t,rfl⟩:=r;rfl
 | flt _=>obtain ⟨t,rfl⟩:=r;rfl
 | ref _=>cases r;rfl
 | ty _=>cases r;rfl
theorem RelV.inj{x y:V}{u:Value}(r:RelV x u)(q:RelV y u):x=y:=Option.some.inj (r.abs.symm.trans q.abs)
theorem Vals.inj:∀ {xs ys:List V} {us:List Value},Vals xs us->Vals ys us->xs=ys
 | _,_,_, .nil, .nil=>rfl
 | _,_,_, .cons r t, .cons r' t'=>by rw [r.inj r',Vals.inj t t']
section
variable {X:Cx} {pins:List (Addr×Obj)} {σ:St} {H:Hp} {s:Shared} {a:Addr} {xs ys:List V}
theorem SqL.of{K:PySem.W.Frag}(h:H a=some (.lst xs)):SqL K H a xs:= .inl (.inl h)
theorem SqT.of{K:PySem.W.Frag}(h:H a=some (.tup xs)):SqT K H a xs:= .inl (.inl h)
theorem Inv.list(I:Inv X pins σ H s)(h:SqL X.K H a xs):∃its:List Value,Vals xs its/\PlainL s.heap a its.toArray/\xs.length<=sizeLine:=by
 rcases h with h | ⟨o,its,n,hk,hc,hd,hs,hz,r⟩
 . obtain ⟨z,its,n,r,e⟩:=h.ok I.hok;exact ⟨its,r,⟨_,n,e,rfl,rfl,rfl⟩,z⟩
 . refine ⟨its.toList,r,⟨o,n,I.kIn a o hk,hc,hd,by simpa using hs⟩,?_⟩;have e:=r.length;simp only [Array.length_toList] at e
   omega
theorem Inv.tuple(I:Inv X pins σ H s)(h:SqT X.K H a xs):∃its:List Value,Vals xs its/\IsTup s.heap a its.toArray/\xs.length<=sizeLine:=by
 rcases h with h | ⟨o,its,n,hk,hc,hs,hz,r⟩
 . obtain ⟨z,its,r,p⟩:=h.ok I.hok;exact ⟨its,r,p,z⟩
 . refine ⟨its.toList,r,⟨o,I.kIn a o hk,hc,n,by simpa using hs⟩,?_⟩;have e:=r.length;simp only [Array.length_toList] at e
   omega
theorem Inv.list_inj(I:Inv X pins σ H s)(h:SqL X.K H a xs)(h':SqL X.K H a ys):xs=ys:=by
 obtain ⟨its,r,⟨o,n,e,_,_,d⟩,_⟩:=I.list h;obtain ⟨its',r',⟨o',n',e',_,_,d'⟩,_⟩:=I.list h';rw [e] at e';cases e'
 rw [d] at d'
 injection d' with d1 _
 have:its=its':=by simpa using congrArg Array.toList d1
 subst this;exact r.inj r'
theorem Inv.tuple_inj(I:Inv X pins σ H s)(h:SqT X.K H a xs)(h':SqT X.K H a ys):xs=ys:=by
 obtain ⟨its,r,⟨o,e,_,n,d⟩,_⟩:=I.tuple h;obtain ⟨its',r',⟨o',e',_,n',d'⟩,_⟩:=I.tuple h';rw [e] at e';cases e'
 rw [d] at d'
 injection d' with d1 _
 have:its=its':=by simpa using congrArg Array.toList d1
 subst this;exact r.inj r'
end
abbrev Cx.wish (X:Cx) (E:Value->Shared->Prop):Cx:={ X with xe:=E}
abbrev Cx.nox (X:Cx):Cx:=X.wish fun _ _=>False
theorem Cx.Ok.wish{X:Cx}(ok:X.Ok)(E:Value->Shared->Prop):(X.wish E).Ok:=
 ⟨ok.mod,ok.kind,ok.glob,ok.blt,ok.above,ok.inj,ok.has,ok.cab,ok.hd,ok.frames,ok.stk,ok.exf,ok.bs,ok.bsz,ok.noex,ok.exfs,ok.funs,ok.frf,ok.tb⟩
theorem Cx.Ok.unwish{X:Cx}{E:Value->Shared->Prop}(ok:(X.wish E).Ok):X.Ok:=
 ⟨ok.mod,ok.kind,ok.glob,ok.blt,ok.above,ok.inj,ok.has,ok.cab,ok.hd,ok.frames,ok.stk,ok.exf,ok.bs,ok.bsz,ok.noex,ok.exfs,ok.funs,ok.frf,ok.tb⟩
section
variable {X:Cx} {pins:List (Addr×Obj)} {σ:St} {H:Hp} {s:Shared} {E:Value->Shared->Prop}
theorem Inv.wish(I:Inv X pins σ H s)(E:Value->Shared->Prop):Inv (X.wish E) pins σ H s:=⟨I.ok.wish E,I.os,I.bare,I.base,I.loc,I.cell,I.free,I.freeC,I.pin,I.hok,I.len⟩
theorem Inv.unwish(I:Inv (X.wish E) pins σ H s):Inv X pins σ H s:=⟨I.ok.unwish,I.os,I.bare,I.base,I.loc,I.cell,I.free,I.freeC,I.pin,I.hok,I.len⟩
theorem SP.unwish{D:Ends}{f:Flow}{s':Shared}(h:SP (X.wish E) pins D f s'):SP X pins D f s':=by
 cases f with
 | next=>obtain ⟨σ',H',I,q⟩:=h;exact ⟨σ',H',I.unwish,q⟩
 | brk=>obtain ⟨σ',H',I,q⟩:=h;exact ⟨σ',H',I.unwish,q⟩
 | cont=>obtain ⟨σ',H',I,q⟩:=h;exact ⟨σ',H',I.unwish,q⟩
 | ret u=>obtain ⟨v,σ',H',I,r,q⟩:=h;exact ⟨v,σ',H',I.unwish,r,q⟩
theorem PSs.nox{st:List Stmt}{t:TS}(h:PSs X.nox st t):PSs X st t:=fun pins s σ H D I hw=>
 wpAny_mono (h pins s σ H D (I.wish _) hw) (fun _ _ q=>q.unwish) fun _ _ z=>False.elim z
end
section
variable {X:Cx} {st:Stmt} {rest:List Stmt} {t u:TS} {e:Expr} {te:TE} {pos:Pos}
def tNext:TS:=fun D σ H=>D.nx σ H
def tSeq(t u:TS):TS:=fun D σ H=>t { D with nx:=u D} σ H
theorem pss_nil:PSs X [] tNext:=fun _ _ σ H _ I h=>wpAny_execs_nil ⟨σ,H,I,h⟩
theorem pss_cons(h1:PS X st t)(h2:PSs X rest u):PSs X (st::rest) (tSeq t u):=by
 intro pins s σ H D I h;refine wpAny_execs_cons (thn (h1 pins s σ H { D with nx:=u D} I h) fun f s1 q=> ?_)
 cases f with
 | next=>
  obtain ⟨σ',H',I',q⟩:=q
  exact h2 pins s1 σ' H' D I' q
 | ret v=>exact q
 | brk=>exact q
 | cont=>exact q
theorem pss_one(h1:PS X st t):PSs X [st] t:=by
 intro pins s σ H D I h;refine wpAny_execs_cons (thn (h1 pins s σ H D I h) fun f s1 q=> ?_)
 cases f with
 | next=>exact wpAny_execs_nil q
 | ret v=>exact q
 | brk=>exact q
 | cont=>exact q
theorem Inv.quiet{pins:List (Addr×Obj)}{σ:St}{H:Hp}{s:Shared}(I:Inv X pins σ H s):interactive X.env=false:=by simp [interactive,I.ok.kind]
def tDrop(te:TE):TS:=fun D σ H=>te σ H fun _ H1=>D.nx σ H1
theorem ps_expr(he:PE X e te)(hs:swapsWith e none pos.line X.env=pure false:=by rfl):PS X (.Expr e pos) (tDrop te):=by
 intro pins s σ H D I h;exact wpAny_Expr_any (thn (he pins s σ H _ I h) fun v s1 ⟨x,H1,I1,r1,q1⟩=>⟨σ,H1,I1,q1⟩) I.quiet hs
def tRet(te:TE):TS:=fun D σ H=>te σ H D.rt
theorem ps_ret(he:PE X e te):PS X (.Return (some e) pos) (tRet te):=by
 intro pins s σ H D I h;exact wpAny_Return_some (thn (he pins s σ H _ I h) fun v s1 ⟨x,H1,I1,r1,q1⟩=>⟨x,σ,H1,I1,r1,q1⟩)
def tIfS(c:TT)(t u:TS):TS:=fun D σ H=>c σ H fun b H1=>if b=true then t D σ H1 else u D σ H1
theorem ps_if{c:Expr}{a b:List Stmt}{tc:TT}(hc:PT X c tc)(ha:PSs X a t)(hb:PSs X b u):PS X (.If c a b pos) (tIfS tc t u):=by
 intro pins s σ H D I h;refine wpAny_If (thn (hc pins s σ H _ I h) fun d s1 ⟨H1,I1,q1⟩ => ?_)
 cases d with
 | true=>exact ha pins s1 σ H1 D I1 q1
 | false=>exact hb pins s1 σ H1 D I1 q1
end
abbrev TG:=V->St->Hp->(St->Hp->Prop)->Prop
def PG(X:Cx)(target:Expr)(t:TG):Prop:=
 ∀(pins:List (Addr×Obj)) (s:Shared) (σ:St) (H:Hp) (v:V) (u:Value) (Q:St->Hp->Prop),Inv X pins σ H s->RelV v u->t v σ H Q ->
   wpAny (model X.prog X.w) X.A (assign target X.env u) (fun _ s'=>∃σ' H',Inv X pins σ' H' s'/\Q σ' H') X.xe s
abbrev TSet:=V->V->V->Hp->(Hp->Prop)->Prop
def PSet(X:Cx)(t:TSet):Prop:=
 ∀(pins:List (Addr×Obj)) (s:Shared) (σ:St) (H:Hp) (o i v:V) (ov iv u:Value) (Q:Hp->Prop),Inv X pins σ H s->RelV o ov->RelV i iv->RelV v u->t o i v H Q ->
   wpAny (model X.prog X.w) X.A (setItem ov iv u) (fun _ s'=>∃H',Inv X pins σ H' s'/\Q H') X.xe s
section
variable {X:Cx} {pos:Pos}
def gName(i:Nat):TG:=fun v σ H Q=>Q (σ.set i (some v)) H
theorem pg_name{i:Nat}{x:Str}(hN:X.N.Nodup)(hi:X.N[i]? = some x)(hx:Loc X.env.scope x)(hf:X.fn x=true\/X.env.scope.names.lookup x=some .local:=by first | exact .inl rfl | exact .inr rfl | assumption):PG X (.Name x pos) (gName i):=by
 intro pins s σ H v u Q I r h;exact wpAny_assign_Name (store_ok I hN hi hx r (fun s' I'=>⟨_,H,I',h⟩) hf)
def gSub(to ti:TE)(t:TSet):TG:=fun v σ H Q=>to σ H fun o H1=>ti σ H1 fun i H2=>t o i v H2 fun H3=>Q σ H3
theorem pg_sub {o i : Expr} {to ti : TE} {t : TSet} (ho : PE X o to) (hi : PE X i ti) (hs : PSet X t)
 (ha:∀v,assign (.Subscript o i pos) X.env v=(do
  let ov <-holding [v] (eval o X.env)
  let iv <-holding [v,ov] (eval i X.env)
  standAt pos
  holding [v,ov,iv] (setItem ov iv v)
  release [v,ov,iv] []):=by intro _;rfl):PG X (.Subscript o i pos) (gSub to ti t):=by
 intro pins s σ H v u Q I r h;rw [ha];refine wpAny_bind (wpAny_holding (thn (ho pins s σ H _ I h) fun ov s1 ⟨x,H1,I1,r1,q1⟩ => ?_));refine wpAny_bind (wpAny_holding (thn (hi pins s1 σ H1 _ I1 q1) fun iv s2 ⟨y,H2,I2,r2,q2⟩ => ?_));refine wpAny_bind (wpAny_standAt (wpAny_bind (wpAny_holding (thn (hs pins s2 σ H2 x y v ov iv u _ I2 r1 r2 r q2) fun _ s3 ⟨H3,I3,q3⟩ => ?_))));exact wpAny_release ⟨σ,H3,I3,q3⟩
def tAsg(te:TE)(g:TG):TS:=fun D σ H=>te σ H fun x H1=>g x σ H1 D.nx
theorem ps_asg {tg e : Expr} {te : TE} {g : TG} (he : PE X e te) (hg : PG X tg g) (hs : swapsWithSole [tg] e pos.line X.env = pure false := by rfl) (hw : swappedStores [tg] e X.env = pure none := by rfl)
 (h1:(assignEach [tg] X.env).map (·.2) = [assign tg X.env]:=by rfl):PS X (.Assign [tg] e pos) (tAsg te g):=by
 intro pins s σ H D I h;refine wpAny_Assign_stores (thn (he pins s σ H _ I h) fun v s1 ⟨x,H1,I1,r1,q1⟩ => ?_) hs hw;rw [h1];exact thn (hg pins s1 σ H1 x v _ I1 r1 q1) fun _ s2 q=>q
theorem ps_set {i : Nat} {x : Str} {e : Expr} {te : TE} {pos' : Pos} (hN : X.N.Nodup) (hi : X.N[i]? = some x) (hx : Loc X.env.scope x) (he : PE X e te) (hs : swapsWith e (some (.Name x pos')) pos.line X.env = pure false := by rfl) (hf : X.fn x = true \/ X.env.scope.names.lookup x = some .local := by first | exact .inl rfl | exact .inr rfl | assumption) :
 PS X (.Assign [.Name x pos'] e pos) (tAsg te (gName i)):=by
 intro pins s σ H D I h;refine wpAny_Assign_Name (thn (he pins s σ H _ I h) fun v s1 ⟨y,H1,I1,r1,q1⟩ => ?_) hs;exact store_ok I1 hN hi hx r1 (fun s2 I2=>⟨_,H1,I2,q1⟩) hf
end
section
variable {X:Cx} {pos:Pos}
end
structure It where
 go:Nat->Hp->Prop
 yld:Nat->Hp->V->Hp->Prop
 stop:Nat->Hp->Prop
def FpOk(X:Cx)(pins:List (Addr×Obj))(H:Hp)(b:Addr):Prop:=
 H b=none/\b≠X.env.locals/\b ∉ X.fs/\(b ∈ X.ex\/X.s₀.heap.objs.size<=b)/\(∀x c,X.env.cells.lookup x=some c->c≠b)/\∀p ∈ X.pn++pins,p.1≠b
theorem Inv.fpOk{X:Cx}{pins:List (Addr×Obj)}{σ:St}{H H':Hp}{s:Shared}{b:Addr}(I:Inv X pins σ H s)(hb:s.heap.objs.size<=b)(hn:H' b=none):FpOk X pins H' b:=by
 refine ⟨hn,Nat.ne_of_gt (Nat.lt_of_lt_of_le I.lt hb),I.nofs hb, .inr (Nat.le_trans I.sz hb),fun x c e z=> ?_,fun p hp z=> ?_⟩
 . obtain ⟨v,q⟩:=I.cell x c e;exact absurd (Nat.lt_of_lt_of_le q.lt (by rw [z];exact hb)) (Nat.lt_irrefl _)
 . exact absurd (Nat.lt_of_lt_of_le (Heap.lt_size (I.pin p hp).1) (by rw [z];exact hb)) (Nat.lt_irrefl _)
structure Turn (P:Program) (w:World) (K:PySem.W.Frag) (tg:Expr) (J:It) (fp:List Addr) (it:Addr) (tn:Nat->Heap->Prop):Prop where
 mem:it ∈ fp
 obj:∀i h,tn i h->∀b ∈ fp,∃o,h.get? b=some o/\∀v,o.data ≠ .cell v
 keep:∀i h h',tn i h->(∀b ∈ fp,∀o,h.get? b=some o->h'.get? b=some o)->tn i h'
 item:∀(X:Cx),X.prog=P->X.w=w->X.K=K->X.calm=true->∀(i:Nat) (pins:List (Addr×Obj)) (s:Shared) (σ:St) (H:Hp) (E:Value->Shared->Prop),Inv X pins σ H s->(∀b ∈ fp,FpOk X pins H b)->tn i s.heap->J.go i H ->
  wpAny (model P w) X.A (pyNext (.ref it)) (fun r s1=>∃u,r=some u /\
   wpAny (model P w) X.A (letOwnedTupleGo tg (.ref it) u) (fun _ s2=>∃x H',Inv X pins σ H' s2/\RelV x u/\J.yld i H x H'/\tn (i+1) s2.heap/\∀b ∈ fp,H' b=none) E s1) E s
 done:∀(X:Cx),X.prog=P->X.w=w->X.K=K->X.calm=true->∀(i:Nat) (pins:List (Addr×Obj)) (s:Shared) (σ:St) (H:Hp) (E:Value->Shared->Prop),Inv X pins σ H s->(∀b ∈ fp,FpOk X pins H b)->tn i s.heap->J.stop i H ->
  wpAny (model P w) X.A (pyNext (.ref it)) (fun r s1=>r=none/\Inv X pins σ H s1) E s
 self:∀(A:Around) (i:Nat) (s:Shared) (Q:Value->Shared->Prop) (E:Value->Shared->Prop),tn i s.heap->Q (.ref it) s->wpAny (model P w) A (pyIter (.ref it)) Q E s
abbrev TI:=St->Hp->(It->Hp->Prop)->Prop
def PIE(X:Cx)(pins:List (Addr×Obj))(σ:St)(tg:Expr)(R:It->Hp->Prop)(itv:Value)(s2:Shared):Prop:=
 ∃(it:Addr) (fp:List Addr) (tn:Nat->Heap->Prop) (J:It) (H':Hp),itv = .ref it/\Inv X pins σ H' s2/\Turn X.prog X.w X.K tg J fp it tn/\tn 0 s2.heap/\(∀b ∈ fp,FpOk X pins H' b)/\R J H'
def PI(X:Cx)(tg iter:Expr)(wi:TI):Prop:=
 ∀(pins:List (Addr×Obj)) (s:Shared) (σ:St) (H:Hp) (R:It->Hp->Prop),Inv X pins σ H s->wi σ H R ->
   wpAny (model X.prog X.w) X.A (eval iter X.env) (fun v s1=>wpAny (model X.prog X.w) X.A (pyIter v) (PIE X pins σ tg R) X.xe s1) X.xe s
theorem go_of {M : Model} {A : Around} {E : Value -> Shared -> Prop} {s : Shared} {tg : Expr} {it : Addr} {u : Value} {o : Obj} {n : String} {vs : Array Value} {Q : Unit -> Shared -> Prop} (ho : s.heap.get? it = some o) (hc : o.cls = .type n) (hd : o.data = .fields vs)
 (hn : ["enumerate","zip","dict_itemiterator","dict_reverseitemiterator","odict_iterator","itertools.zip_longest","itertools.pairwise"].contains n=false) (hQ:Q () s):wpAny M A (letOwnedTupleGo tg (.ref it) u) Q E s:=by
 unfold letOwnedTupleGo
 cases tg <;> first
  | exact wpAny_pure hQ
  | (cases u <;> first
   | exact wpAny_pure hQ
   | (refine wpAny_bind (wpAny_load ho ?_)
      rw [hc,hd];show wpAny M A (if (["enumerate","zip","dict_itemiterator","dict_reverseitemiterator","odict_iterator","itertools.zip_longest","itertools.pairwise"].contains n && vs[0]? ==some (rawInt _))=true then _ else _) Q E s;rw [if_neg (by intro h;rw [hn,Bool.false_and] at h;cases h)];exact wpAny_pure hQ))
def Itl(K:PySem.W.Frag)(a:Addr):It:=
 ⟨fun i H=>∃xs x,SqL K H a xs/\xs[i]? = some x,fun i H x H'=>H'=H/\∀xs,SqL K H a xs->xs[i]? = some x,fun i H=>∃xs,SqL K H a xs/\xs.length<=i⟩
def Itt(K:PySem.W.Frag)(a:Addr):It:=
 ⟨fun i H=>∃xs x,SqT K H a xs/\xs[i]? = some x,fun i H x H'=>H'=H/\∀xs,SqT K H a xs->xs[i]? = some x,fun i H=>∃xs,SqT K H a xs/\xs.length<=i⟩
def Itr(lo:Int)(n:Nat):It:=⟨fun i _=>i<n,fun i H x H'=>H'=H/\x = .int (lo+i),fun i _=>n<=i⟩
theorem turn_list{P:Program}{w:World}{K:PySem.W.Frag}{tg:Expr}(a it:Addr):Turn P w K tg (Itl K a) [it] it (fun i h=>h.IsListIter it a i) where
 mem:=by simp
 obj:=fun i h st b hb=>by
  have e:b=it:=by simpa using hb
  subst e;obtain ⟨o,e,c,d⟩:=st;exact ⟨o,e,fun v z=>by rw [d] at z;cases z⟩
 keep:=fun i h h' st k=>st.at fun o e=>k it (by simp) o e
 item:=by
  intro X hP hw hK hc i pins s σ H E I hf st hg;subst hP hw hK;obtain ⟨xs,x,hq,hx⟩:=hg;obtain ⟨its,rv,p,hz⟩:=I.list hq;obtain ⟨u,hu,ru⟩:=rv.get hx;obtain ⟨f0,f1,f2,f3,f4,f5⟩:=hf it (by simp);refine wpAny_pyNext_list_item st p.isList (x:=u) (by simpa using hu) fun h' st' sb=> ?_;have I1:Inv X pins σ H {s with heap:=h' }:=I.turned (t':=s.toks) (fun b o hb e=>(sb.2 b hb).trans e) f0 f1 f3 f4 f5;obtain ⟨o,e,c,d⟩:=id st';exact ⟨u,rfl,go_of (s:={s with heap:=h' }) e c d (by decide) ⟨x,H,I1,ru,⟨rfl,fun ys hy=>by rw [I.list_inj hy hq];exact hx⟩,st',fun b hb=>(hf b hb).1⟩⟩
 done:=by
  intro X hP hw hK hc i pins s σ H E I hf st hg;subst hP hw hK;obtain ⟨xs,hq,hx⟩:=hg;obtain ⟨its,rv,p,hz⟩:=I.list hq;obtain ⟨f0,f1,f2,f3,f4,f5⟩:=hf it (by simp);have hl:=rv.length;exact wpAny_pyNext_list_end (I.ok.hd hc) st p.isList (by simp;omega) fun h' eb=>⟨rfl,I.turned (t':=s.toks) (fun b o hb e=>eb b o hb e) f0 f1 f3 f4 f5⟩
 self:=fun _ _ _ _ _ st h=>wpAny_pyIter_listiter st h
theorem turn_tuple{P:Program}{w:World}{K:PySem.W.Frag}{tg:Expr}(a it:Addr):Turn P w K tg (Itt K a) [it] it (fun i h=>h.IsTupleIter it a i) where
 mem:=by simp
 obj:=fun i h st b hb=>by
  have e:b=it:=by simpa using hb
  subst e;obtain ⟨o,e,c,d⟩:=st;exact ⟨o,e,fun v z=>by rw [d] at z;cases z⟩
 keep:=fun i h h' st k=>st.at fun o e=>k it (by simp) o e
 item:=by
  intro X hP hw hK hc i pins s σ H E I hf st hg;subst hP hw hK;obtain ⟨xs,x,hq,hx⟩:=hg;obtain ⟨its,rv,p,hz⟩:=I.tuple hq;obtain ⟨u,hu,ru⟩:=rv.get hx;obtain ⟨f0,f1,f2,f3,f4,f5⟩:=hf it (by simp);refine wpAny_pyNext_tuple_item st (show s.heap.IsTuple a its.toArray from p) (x:=u) (by simpa using hu) fun h' st' sb=> ?_;have I1:Inv X pins σ H {s with heap:=h' }:=I.turned (t':=s.toks) (fun b o hb e=>(sb.2 b hb).trans e) f0 f1 f3 f4 f5;obtain ⟨o,e,c,d⟩:=id st';exact ⟨u,rfl,go_of (s:={s with heap:=h' }) e c d (by decide) ⟨x,H,I1,ru,⟨rfl,fun ys hy=>by rw [I.tuple_inj hy hq];exact hx⟩,st',fun b hb=>(hf b hb).1⟩⟩
 done:=by
  intro X hP hw hK hc i pins s σ H E I hf st hg;subst hP hw hK;obtain ⟨xs,hq,hx⟩:=hg;obtain ⟨its,rv,p,hz⟩:=I.tuple hq;obtain ⟨f0,f1,f2,f3,f4,f5⟩:=hf it (by simp);have hl:=rv.length;exact wpAny_pyNext_tuple_end (I.ok.hd hc) st (show s.heap.IsTuple a its.toArray from p) (by simp;omega) fun h' eb=>⟨rfl,I.turned (t':=s.toks) (fun b o hb e=>eb b o hb e) f0 f1 f3 f4 f5⟩
 self:=fun _ _ _ _ _ st h=>wpAny_pyIter_tupleiter st h
theorem turn_range{P:Program}{w:World}{K:PySem.W.Frag}{tg:Expr}(it:Addr)(lo:Int)(n:Nat):Turn P w K tg (Itr lo n) [it] it (fun i h=>IsRangeIter h it (lo+(i:Nat)*1) ((n:Int) - (i:Nat)) 1) where
 mem:=by simp
 obj:=fun i h st b hb=>by
  have e:b=it:=by simpa using hb
  subst e
  exact ⟨_,st,fun v z=>by
   have z':Data.fields _=Data.cell v:=z
   cases z'⟩
 keep:=fun i h h' st k=>k it (by simp) _ st
 item:=by
  intro X hP hw hK hc i pins s σ H E I hf st hg;subst hP hw hK;obtain ⟨f0,f1,f2,f3,f4,f5⟩:=hf it (by simp);have W:=Walks.range (prog:=X.prog) (w:=X.w) (I.ok.hd hc) it lo 1 n;refine W.item i s _ _ hg st fun v h' tk hv st' kk=> ?_;obtain ⟨t,rfl⟩:=hv;have I1:Inv X pins σ H {s with heap:=h',toks:=tk}:=I.turned (fun b o hb e=>kk b o (by simpa using hb) e) f0 f1 f3 f4 f5;refine ⟨_,rfl,go_of (s:={s with heap:=h',toks:=tk}) (n:= "range_iterator") st' rfl rfl (by decide) ⟨.int (lo+i),H,I1,⟨t,?_⟩,⟨rfl,rfl⟩,st',fun b hb=>(hf b hb).1⟩⟩;rw [Int.mul_one]
 done:=by
  intro X hP hw hK hc i pins s σ H E I hf st hg;subst hP hw hK;obtain ⟨f0,f1,f2,f3,f4,f5⟩:=hf it (by simp);exact wpAny_pyNext_range_end (I.ok.hd hc) st (by have:n<=i:=hg;omega) fun h' eb=>⟨rfl,I.turned (t':=s.toks) (fun b o hb e=>eb b o hb e) f0 f1 f3 f4 f5⟩
 self:=fun _ _ _ _ _ st h=>wpAny_pyIter_rangeiter st h
end L2
namespace L2
open PySem PySem.Spec PyProof.Rows
section
variable {X:Cx} {tg:Expr}
def iList(K:PySem.W.Frag)(tl:TE):TI:=fun σ H R=>tl σ H fun x H1=>∃a,x = .ref a/\(∃xs,SqL K H1 a xs)/\R (Itl K a) H1
theorem pi_list{l:Expr}{tl:TE}(hl:PE X l tl):PI X tg l (iList X.K tl):=by
 intro pins s σ H R I h;refine thn (hl pins s σ H _ I h) fun v s1 ⟨x,H1,I1,r1,q1⟩ => ?_;obtain ⟨a,e,⟨xs,hq⟩,q⟩:=q1;subst e
 cases r1
 obtain ⟨its,rv,p,hz⟩:=I1.list hq;refine wpAny_pyIter_list p.isList ?_;refine ⟨s1.heap.objs.size,[s1.heap.objs.size],_,_,H1,rfl,I1.kept (t':=s1.toks) fun b o e=>Heap.get?_push_of_some _ e,turn_list a _,⟨_,Heap.get?_push_size _ rfl,rfl,rfl⟩,fun b hb=> ?_,q⟩;have e:b=s1.heap.objs.size:=by simpa using hb
 subst e;exact I1.fpOk (Nat.le_refl _) (I1.hok.fresh (Nat.le_refl _))
theorem range_it {pins : List (Addr × Obj)} {σ : St} {H : Hp} {s : Shared} {R : It -> Hp -> Prop} {E : Value -> Shared -> Prop} {lo hi : Int} {t u v : Tok} {tk : Nat} (I : Inv X pins σ H s) (h1 : -(2 ^ 62) <= lo) (h2 : lo < 2 ^ 62) (h3 : -(2 ^ 62) <= hi) (h4 : hi < 2 ^ 62)
 (q:R (Itr lo (hi - lo).toNat) H):wpAny (model X.prog X.w) X.A (pyIter (.ref s.heap.objs.size)) (PIE X pins σ tg R) E {s with heap:=s.heap.push {cls:= .type "range",data:= .fields #[.int lo t, .int hi u, .int 1 v]},toks:=tk}:=by
 refine wpAny_pyIter_range (IsRange.new ..) (small_one h1 h2 h3 h4) ?_;have I1:Inv X pins σ H {s with heap:=s.heap.push {cls:= .type "range",data:= .fields #[.int lo t, .int hi u, .int 1 v]},toks:=tk}:=I.kept fun b o e=>Heap.get?_push_of_some _ e
 refine ⟨(s.heap.push {cls:= .type "range",data:= .fields #[.int lo t, .int hi u, .int 1 v]}).objs.size,[(s.heap.push {cls:= .type "range",data:= .fields #[.int lo t, .int hi u, .int 1 v]}).objs.size],_,_,H,rfl,
  I1.kept (t':=tk) fun b o e=>Heap.get?_push_of_some _ e,turn_range _ lo (hi - lo).toNat,?_,fun b hb=> ?_,q⟩
 . have e1:lo+((0:Nat):Int)*1=lo:=by simp
   have e2:(((hi - lo).toNat:Nat):Int) - ((0:Nat):Int)=Builtin.Range.rangeSize lo hi 1:=by rw [rangeSize_one];split <;> omega
   show IsRangeIter _ _ (lo+((0:Nat):Int)*1) ((((hi - lo).toNat:Nat):Int) - ((0:Nat):Int)) 1;rw [e1,e2];exact Heap.get?_push_size _ rfl
 . have e:b=(s.heap.push {cls:= .type "range",data:= .fields #[.int lo t, .int hi u, .int 1 v]}).objs.size:=by simpa using hb
   subst e;exact I1.fpOk (Nat.le_refl _) (I1.hok.fresh (Nat.le_refl _))
def iRng1(ta:TA):TI:=fun σ H R=>ta σ H fun vs H1=>∃j:Int,vs = [.int j] /\ -(2 ^ 62)<=j/\j<2 ^ 62/\R (Itr 0 j.toNat) H1
theorem pi_range1 {a:Expr} {ta:TA} {p pos:Pos} (hg:Gl X "range") (hm:X.mg "range" = none) (ha:PA X [a] ta) (hs:starEach [a] X.env = [(false,eval a X.env)]:=by rfl):PI X tg (.Call (.Name "range" p) [a] [] pos) (iRng1 ta):=by
 intro pins s σ H R I h;refine Call_ (ld_blt I hg hm boot_range (PyProof.Rows.callWith_type1 (thn (ha pos pins s σ H _ I h) fun us s1 ⟨vs,H1,I1,r1,q1⟩ => ?_) hs rfl));obtain ⟨j,e,q1,q2,q⟩:=q1;subst e
 cases r1 with
 | cons r rr=>
  cases rr
  obtain ⟨t,rfl⟩:=r;exact call_range_1 (range_it I1 (by omega) (by omega) q1 q2 (by simpa using q))
def tFor(wi:TI)(g:TG)(tb:TS):TS:=fun D σ H=>wi σ H fun J H1=>∃W:Nat->Nat->St->Hp->Prop,(∃m,W 0 m σ H1)/\∀i m σ H,W i m σ H ->
 (J.stop i H/\D.nx σ H)\/(J.go i H/\∃N:St->Hp->Prop,(∀σ' H',N σ' H'->∃m',m'<m/\W (i+1) m' σ' H')/\∀x H',J.yld i H x H'->g x σ H' fun σ2 H2=>tb { D with nx:=N,ct:=N,bk:=D.nx} σ2 H2)
def pinsAt(fp:List Addr)(h:Heap):List (Addr×Obj):=fp.filterMap fun b=>(h.get? b).map fun o=>(b,o)
theorem mem_pinsAt{fp:List Addr}{h:Heap}{b:Addr}{o:Obj}(hb:b ∈ fp)(e:h.get? b=some o):(b,o) ∈ pinsAt fp h:=List.mem_filterMap.mpr ⟨b,hb,by rw [e];rfl⟩
theorem of_pinsAt{fp:List Addr}{h:Heap}{p:Addr×Obj}(hp:p ∈ pinsAt fp h):p.1 ∈ fp/\h.get? p.1=some p.2:=by
 obtain ⟨b,hb,e⟩:=List.mem_filterMap.mp hp
 cases q:h.get? b with
 | none=>rw [q] at e;cases e
 | some o=>
  rw [q] at e
  have e':(b,o)=p:=Option.some.inj e;subst e';exact ⟨hb,q⟩
theorem Inv.pinned{pins:List (Addr×Obj)}{σ:St}{H:Hp}{s:Shared}{fp:List Addr}(I:Inv X pins σ H s)(hf:∀b ∈ fp,FpOk X pins H b)(ho:∀b ∈ fp,∃o,s.heap.get? b=some o/\∀v,o.data ≠ .cell v):Inv X (pins++pinsAt fp s.heap) σ H s:=
 I.pins_of fun p hp=>(List.mem_append.mp hp).elim (fun z=>I.pin p (List.mem_append_right _ z)) fun z=>by
  obtain ⟨hb,e⟩:=of_pinsAt z;obtain ⟨f0,f1,f2,_⟩:=hf p.1 hb;obtain ⟨o,e',d⟩:=ho p.1 hb;rw [e] at e';cases e'
  exact ⟨e,f0,f1,f2,d⟩
theorem Inv.unpinned{pins pl:List (Addr×Obj)}{σ:St}{H:Hp}{s:Shared}(I:Inv X (pins++pl) σ H s):Inv X pins σ H s:=I.pins_of fun p hp=>I.pin p (List.mem_append_right _ (List.mem_append_left _ hp))
theorem ps_for {iter : Expr} {body : List Stmt} {wi : TI} {g : TG} {tb : TS} {pos : Pos} (hp : PassesOwn (model X.prog X.w) X.A X.env X.xe) (hc : X.calm = true) (hi : PI X tg iter wi) (hg : PG X tg g) (hb : PSs X body tb)
 (hs:∀x,foldedSetIterable iter X.env x=pure x:=by intro _;rfl):PS X (.For tg iter body [] pos) (tFor wi g tb):=by
 intro pins s σ H D I h;refine wpAny_For (thn (hi pins s σ H _ I h) fun v s1 h1=>thn h1 fun itv s2 h2=> ?_) hs;obtain ⟨it,fp,tn,J,H2,e,I2,T,st2,f2,W,⟨m0,w0⟩,turn⟩:=h2;subst e;have stat:∀ {H':Hp},(∀b ∈ fp,H' b=none)->∀b ∈ fp,FpOk X pins H' b:=fun hn b hb=>⟨hn b hb,(f2 b hb).2⟩;refine codeAny_forLoop_any (fun n s'=>∃i σ' H',Inv X pins σ' H' s'/\tn i s'.heap/\(∀b ∈ fp,H' b=none)/\W i n σ' H') ?_ m0 ⟨0,σ,H2,I2,st2,fun b hb=>(f2 b hb).1,w0⟩;rintro n s3 ⟨i,σ3,H3,I3,st3,fr3,w3⟩;rcases turn i n σ3 H3 w3 with ⟨stop,qn⟩ | ⟨go,N,hN,step⟩
 . refine wpAny_passesOwn hp (thn (T.done X rfl rfl rfl hc i pins s3 σ3 H3 X.xe I3 (stat fr3) st3 stop) fun r s4 ⟨hr,I4⟩ => ?_);subst hr;exact wpAny_execs_nil ⟨σ3,H3,I4,qn⟩
 . refine wpAny_passesOwn hp (thn (T.item X rfl rfl rfl hc i pins s3 σ3 H3 X.xe I3 (stat fr3) st3 go) fun r s4 ⟨u,hr,h4⟩ => ?_);subst hr;refine wpAny_passesOwn hp (thn h4 fun _ s5 ⟨x,H5,I5,r5,y5,st5,fr5⟩ => ?_);have I5':=I5.pinned (stat fr5) (T.obj _ _ st5);refine wpAny_passesOwn hp (thn (hg _ s5 σ3 H5 x u _ I5' r5 (step x H5 y5)) fun _ s6 ⟨σ6,H6,I6,q6⟩ => ?_);refine wpAny_passesOwn hp (thn (hb _ s6 σ6 H6 _ I6 q6) fun f s7 q7=> ?_)
   have again:∀ {σ7:St} {H7:Hp},Inv X (pins++pinsAt fp s5.heap) σ7 H7 s7->N σ7 H7->∃m,m<n/\∃i σ' H',Inv X pins σ' H' s7/\tn i s7.heap/\(∀b ∈ fp,H' b=none)/\W i m σ' H':=fun {σ7 H7} I7 n7=>by
    obtain ⟨m',hm,w7⟩:=hN σ7 H7 n7;refine ⟨m',hm,i+1,σ7,H7,I7.unpinned,T.keep _ _ _ st5 fun b hb o e=>(I7.pin (b,o) (List.mem_append_right _ (List.mem_append_right _ (mem_pinsAt hb e)))).1,fun b hb=> ?_,w7⟩;obtain ⟨o,e,d⟩:=T.obj _ _ st5 b hb;exact (I7.pin (b,o) (List.mem_append_right _ (List.mem_append_right _ (mem_pinsAt hb e)))).2.1
   cases f with
   | next=>obtain ⟨σ7,H7,I7,n7⟩:=q7;exact again I7 n7
   | cont=>obtain ⟨σ7,H7,I7,n7⟩:=q7;exact again I7 n7
   | brk=>obtain ⟨σ7,H7,I7,q7⟩:=q7;exact ⟨σ7,H7,I7.unpinned,q7⟩
   | ret v=>obtain ⟨x7,σ7,H7,I7,r7,q7⟩:=q7;exact ⟨x7,σ7,H7,I7.unpinned,r7,q7⟩
end
end L2
namespace L2
open PySem PySem.Spec PyProof.Rows
abbrev R2:=V->V->Hp->VK->Prop
def OpR(X:Cx)(f:Value->Value->Sem Value)(r:R2):Prop:=
 ∀(pins:List (Addr×Obj)) (s:Shared) (σ:St) (H:Hp) (x y:V) (v u:Value) (Q:VK),Inv X pins σ H s->RelV x v->RelV y u->r x y H Q ->
   wpAny (model X.prog X.w) X.A (f v u) (EP X pins σ Q) X.xe s
def CallR(X:Cx)(f:Value)(r:List V->Hp->VK->Prop):Prop:=
 ∀(pins:List (Addr×Obj)) (s:Shared) (σ:St) (H:Hp) (xs:List V) (us:List Value) (Q:VK),Inv X pins σ H s->Vals xs us->r xs H Q ->
   wpAny (model X.prog X.w) X.A (call f us) (EP X pins σ Q) X.xe s
def tOp(r:R2)(ta tb:TE):TE:=fun σ H Q=>ta σ H fun x H1=>tb σ H1 fun y H2=>r x y H2 Q
def rI(C:Int->Int->Prop)(g:Int->Int->V):R2:=fun x y H Q=>∃i j,x = .int i/\y = .int j/\C i j/\Q (g i j) H
def rI0(g:Int->Int->V):R2:=fun x y H Q=>∃i j,x = .int i/\y = .int j/\Q (g i j) H
section
variable {X:Cx} {a b c:Expr} {ta tb tc:TE} {pos:Pos}
theorem binT (ha : PE X a ta) (hb : PE X b tb) {pins : List (Addr × Obj)} {s : Shared} {σ : St} {H : Hp} {R : V -> V -> Hp -> Prop} (I : Inv X pins σ H s)
 (h:ta σ H fun x H1=>tb σ H1 fun y H2=>R x y H2) {Q:Value->Shared->Prop} {f:Value->Value->Sem Value}
 (hf:∀v u s2 x y H2,Inv X pins σ H2 s2->RelV x v->RelV y u->R x y H2->wpAny (model X.prog X.w) X.A (f v u) Q X.xe s2) :
 wpAny (model X.prog X.w) X.A (eval a X.env) (fun v s₁=>wpAny (model X.prog X.w) X.A (eval b X.env) (fun u s₂=>wpAny (model X.prog X.w) X.A (f v u) Q X.xe s₂) X.xe s₁) X.xe s:=by
 refine thn (ha pins s σ H _ I h) fun v s1 ⟨x,H1,I1,r1,q1⟩ => ?_;refine thn (hb pins s1 σ H1 _ I1 q1) fun u s2 ⟨y,H2,I2,r2,q2⟩ => ?_;exact hf v u s2 x y H2 I2 r1 r2 q2
theorem pe_op{op:Operator}{r:R2}(ho:OpR X (binaryOp op) r)(ha:PE X a ta)(hb:PE X b tb):PE X (.BinOp a op b pos) (tOp r ta tb):=by
 intro pins s σ H Q I h;exact wpAny_BinOp (binT ha hb I h fun v u s2 x y H2 I2 rx ry q=>ho pins s2 σ H2 x y v u Q I2 rx ry q)
theorem opI {f : Value -> Value -> Sem Value} {C : Int -> Int -> Prop} {g : Int -> Int -> Int}
 (rule:∀(i j:Int) (t u:Tok) (s:Shared) (Q:Value->Shared->Prop) (E:Value->Shared->Prop),C i j->Q (.int (g i j) s.toks) {s with toks:=s.toks+1}->wpAny (model X.prog X.w) X.A (f (.int i t) (.int j u)) Q E s) :
 OpR X f (rI C fun i j=> .int (g i j)):=by
 intro pins s σ H x y v u Q I rx ry h;obtain ⟨i,j,rfl,rfl,hc,q⟩:=h;obtain ⟨t,rfl⟩:=rx;obtain ⟨t',rfl⟩:=ry;exact rule i j t t' s _ _ hc ⟨.int (g i j),H,I.tok _,⟨_,rfl⟩,q⟩
theorem opI0 {f : Value -> Value -> Sem Value} {g : Int -> Int -> Int}
 (rule:∀(i j:Int) (t u:Tok) (s:Shared) (Q:Value->Shared->Prop) (E:Value->Shared->Prop),Q (.int (g i j) s.toks) {s with toks:=s.toks+1}->wpAny (model X.prog X.w) X.A (f (.int i t) (.int j u)) Q E s) :
 OpR X f (rI0 fun i j=> .int (g i j)):=by
 intro pins s σ H x y v u Q I rx ry h;obtain ⟨i,j,rfl,rfl,q⟩:=h;obtain ⟨t,rfl⟩:=rx;obtain ⟨t',rfl⟩:=ry;exact rule i j t t' s _ _ ⟨.int (g i j),H,I.tok _,⟨_,rfl⟩,q⟩
theorem opB0 {f : Value -> Value -> Sem Value} {g : Int -> Int -> Bool}
 (rule:∀(i j:Int) (t u:Tok) (s:Shared) (Q:Value->Shared->Prop) (E:Value->Shared->Prop),Q (.bool (g i j)) s->wpAny (model X.prog X.w) X.A (f (.int i t) (.int j u)) Q E s) :
 OpR X f (rI0 fun i j=> .bl (g i j)):=by
 intro pins s σ H x y v u Q I rx ry h;obtain ⟨i,j,rfl,rfl,q⟩:=h;obtain ⟨t,rfl⟩:=rx;obtain ⟨t',rfl⟩:=ry;exact rule i j t t' s _ _ ⟨.bl (g i j),H,I,rfl,q⟩
def CMul(i j:Int):Prop:=(-(2 ^ 64)<i/\i<2 ^ 64)\/(-(2 ^ 64)<j/\j<2 ^ 64)
theorem CMul.ok{i j:Int}(h:CMul i j):IntMulOk i j:=by
 rcases h with ⟨h1,h2⟩ | ⟨h1,h2⟩
 . exact .of_left (intBits_le_64 h1 h2)
 . exact .of_right (intBits_le_64 h1 h2)
theorem two_pow_nn(k:Nat):(0:Int)<=2 ^ k:=by
 rw [two_pow_cast];exact Int.natCast_nonneg _
theorem op_add:OpR X (binaryOp .Add) (rI0 fun i j=> .int (i+j)):=opI0 fun _ _ _ _ _ _ _ q=>add_int q
theorem op_modN:OpR X (binaryOp .Mod) (rI (fun _ j=>j≠0) fun i j=> .int (i.fmod j)):=opI fun _ _ _ _ _ _ _ hc q=>mod_int' hc q
theorem op_shr:OpR X (binaryOp .RShift) (rI (fun _ j=>0<=j) fun i j=> .int (i / 2 ^ j.toNat)):=opI fun i j _ _ _ _ _ hc q=>
 rshift_int hc (by rw [Int.fdiv_eq_ediv_of_nonneg i (two_pow_nn _)];exact q)
end
section
variable {X:Cx} {a b c:Expr} {ta tb tc:TE} {pos:Pos}
theorem fin_bl{pins:List (Addr×Obj)}{σ:St}{H:Hp}{s:Shared}{Q:VK}{k k':Bool}(I:Inv X pins σ H s)(q:Q (.bl k) H)(e:k=k'):EP X pins σ Q (.bool k') s:=by
 subst e;exact ⟨.bl k,H,I,rfl,q⟩
theorem op_lt:OpR X (compareOp .Lt) (rI0 fun i j=> .bl (decide (i<j))):=opB0 fun _ _ _ _ _ _ _ q=>lt_int q
theorem op_gt:OpR X (compareOp .Gt) (rI0 fun i j=> .bl (decide (j<i))):=opB0 fun _ _ _ _ _ _ _ q=>gt_int q
theorem op_in_str:OpR X (compareOp .In) (fun x y H Q=>∃i j,x = .str i/\y = .str j/\Q (.bl (!(Builtin.Str.occurrences j i 0 j.length 1).isEmpty)) H):=by
 intro pins s σ H x y v u Q I rx ry h;obtain ⟨i,j,rfl,rfl,q⟩:=h;obtain ⟨t,rfl⟩:=rx;obtain ⟨t',rfl⟩:=ry;exact in_str (fin_bl I q rfl)
theorem op_isN:OpR X (compareOp .Is) (fun x y H Q=>y = .non/\Q (.bl (decide (x = .non))) H):=by
 intro pins s σ H x y v u Q I rx ry h;obtain ⟨rfl,q⟩:=h
 cases ry
 refine is_none_gen (fin_bl I q ?_)
 cases x <;> first
  | (cases rx;rfl)
  | (obtain ⟨t,rfl⟩:=rx;rfl)
theorem op_notN:OpR X (compareOp .IsNot) (fun x y H Q=>y = .non/\Q (.bl (!decide (x = .non))) H):=by
 intro pins s σ H x y v u Q I rx ry h;obtain ⟨rfl,q⟩:=h
 cases ry
 refine isnot_none_gen (fin_bl I q ?_)
 cases x <;> first
  | (cases rx;rfl)
  | (obtain ⟨t,rfl⟩:=rx;rfl)
theorem OpR.or{f:Value->Value->Sem Value}{r r':R2}(h:OpR X f r)(h':OpR X f r'):OpR X f (fun x y H Q=>r x y H Q\/r' x y H Q):=by
 intro pins s σ H x y v u Q I rx ry q;rcases q with q | q
 . exact h pins s σ H x y v u Q I rx ry q
 . exact h' pins s σ H x y v u Q I rx ry q
theorem nomark(b:Expr){op:CmpOp}(h:op ≠ .In:=by decide)(h2:op ≠ .NotIn:=by decide):behindInMarks op b=false:=by
 have e1:(op==CmpOp.In)=false:=by cases op <;> first | rfl | exact absurd rfl h
 have e2:(op==CmpOp.NotIn)=false:=by cases op <;> first | rfl | exact absurd rfl h2
 cases b <;> simp [behindInMarks,e1,e2]
theorem pe_cmpR{op:CmpOp}{r:R2}(ho:OpR X (compareOp op) r)(ha:PE X a ta)(hb:PE X b tb)(hm:behindInMarks op b=false):PE X (.Compare a [op] [b] pos) (tOp r ta tb):=by
 intro pins s σ H Q I h;exact wpAny_Compare1 (binT ha hb I h fun v u s2 x y H2 I2 rx ry q=>ho pins s2 σ H2 x y v u Q I2 rx ry q) hm
def tTest(t:TE):TT:=fun σ H Q=>t σ H fun x H'=>∃k,x = .bl k/\Q k H'
theorem pt_cmpR{op:CmpOp}{r:R2}(ho:OpR X (compareOp op) r)(ha:PE X a ta)(hb:PE X b tb)(hm:behindInMarks op b=false):PT X (.Compare a [op] [b] pos) (tTest (tOp r ta tb)):=by
 intro pins s σ H Q I h
 refine wpAny_isTrue_Compare1 (thn (ha pins s σ H _ I h) fun v s1 ⟨x,H1,I1,r1,q1⟩=>thn (hb pins s1 σ H1 _ I1 q1) fun u s2 ⟨y,H2,I2,r2,q2⟩ =>
  thn (ho pins s2 σ H2 x y v u _ I2 r1 r2 q2) fun c s3 ⟨z,H3,I3,r3,k,e,q3⟩ => ?_) hm
 subst e
 cases r3
 exact wpAny_truthy_bool ⟨H3,I3,q3⟩
theorem line63:(sizeLine:Nat)<2 ^ 63:=by rw [sizeLine_eq];decide
theorem op_add_str:OpR X (binaryOp .Add) (fun x y H Q=>∃i j,x = .str i/\y = .str j/\i.length+j.length<=sizeLine/\Q (.str (i++j)) H):=by
 intro pins s σ H x y v u Q I rx ry h;obtain ⟨i,j,rfl,rfl,hz,q⟩:=h;obtain ⟨t,rfl⟩:=rx;obtain ⟨t',rfl⟩:=ry;exact add_str (fun t' tk=>⟨.str (i++j),H,I.tok _,⟨_,rfl⟩,q⟩) hz
theorem vals1{x:V}{us:List Value}(r:Vals [x] us):∃u,us = [u]/\RelV x u:=by
 cases r with
 | cons r1 r2=>cases r2;exact ⟨_,rfl,r1⟩
theorem vals2{x y:V}{us:List Value}(r:Vals [x,y] us):∃u w',us = [u,w']/\RelV x u/\RelV y w':=by
 cases r with
 | cons r1 r2=>
  cases r2 with
  | cons r3 r4=>cases r4;exact ⟨_,_,rfl,r1,r3⟩
theorem call_int1:CallR X (.type "int") (fun xs H Q=>(∃i,xs = [.int i]/\Q (.int i) H)\/∃k,xs = [.bl k]/\Q (.int (if k then 1 else 0)) H):=by
 intro pins s σ H xs us Q I r h;rcases h with ⟨i,rfl,q⟩ | ⟨k,rfl,q⟩
 . obtain ⟨u,rfl,t,rfl⟩:=vals1 r;exact call_int_int ⟨.int i,H,I,⟨_,rfl⟩,q⟩
 . obtain ⟨u,rfl,r1⟩:=vals1 r
   cases r1
   exact call_int_bool ⟨.int (if k then 1 else 0),H,I.tok _,⟨_,rfl⟩,q⟩
theorem call_str_int:CallR X (.type "str") (fun xs H Q=>∃i,xs = [.int i]/\i.natAbs.log2<1920/\Q (.str (toString i)) H):=by
 intro pins s σ H xs us Q I r h;obtain ⟨i,rfl,hz,q⟩:=h;obtain ⟨u,rfl,t,rfl⟩:=vals1 r;exact PySem.P.str_of_int hz ⟨.str _,H,I.tok _,⟨_,rfl⟩,q⟩
end
end L2
namespace L2
open PySem PySem.Spec PyProof.Rows
structure ObjM (h:Heap) (x dx C:Addr) (mA:Str->Option Value):Prop where
 obj:h.get? x=some (PySem.W.instObj C dx)
 ns:h.Ns1 dx mA
 ne:dx≠x
section
variable {prog:Program} {w:World} {A:Around} {E:Value->Shared->Prop} {s:Shared} {K:PySem.W.Frag} {x dx C f:Addr} {mA:Str->Option Value} {name:Str} {v:Value}
end
section
variable {P:Program} {w:World} {H H':Hp} {h h':Heap} {a C dx:Addr} {fs fs':List (Str×V)}
end
structure Cls (K:PySem.W.Frag) (C:Addr):Prop where
 pg:PySem.W.plainGet K C Str.empty=true
 hd:PySem.W.hasDictIn K C=true
 po:PySem.W.plainOver K C=true
 sa:PySem.W.findIn K (.ref C) "__setattr__" = some (some (.builtin "object.__setattr__"))
structure Con (K:PySem.W.Frag) (C:Addr) (f:Str) (v:V) (u:Value):Prop where
 at_:PySem.W.findIn K (.ref C) f=some (some u)
 rel:RelV v u
 get:PySem.W.specialIn K u "__get__" = some none
 cp:PySem.W.copiedNames.contains f=false
structure Meth (K:PySem.W.Frag) (C:Addr) (m:Str) (f:Addr):Prop where
 at_:PySem.W.findIn K (.ref C) m=some (some (.ref f))
 fn:PySem.W.isFn K (.ref f)=true
 kp:PySem.W.keepIn K (.ref f)=true
section
variable {X:Cx} {pins:List (Addr×Obj)} {σ:St} {H:Hp} {s:Shared} {a C dx:Addr} {fs:List (Str×V)} {f:Str} {v:V} {A:Around} {E:Value->Shared->Prop}
end
section
variable {X:Cx} {o e value:Expr} {f:Str} {pos pos' tpos:Pos} {ta tv:TE}
end
section
variable {X:Cx} {pins:List (Addr×Obj)} {σ:St} {H:Hp} {s:Shared} {A:Around} {E:Value->Shared->Prop} {Q:Value->Shared->Prop} {c:Value} {b:Bool}
inductive TyOf (K:PySem.W.Frag) (H:Hp):V->Value->Prop where
 | non:TyOf K H .non (.type "NoneType")
 | bl (x:Bool):TyOf K H (.bl x) (.type "bool")
 | int (i:Int):TyOf K H (.int i) (.type "int")
 | str (x:Str):TyOf K H (.str x) (.type "str")
 | flt (x:UInt64):TyOf K H (.flt x) (.type "float")
 | lst {a:Addr} {xs:List V} (e:H a=some (.lst xs)):TyOf K H (.ref a) (.type "list")
 | frz {a:Addr} {o:Obj} {xs:List V} (e:H a=some (.frz o (.lst xs))):TyOf K H (.ref a) (.type "list")
 | tup {a:Addr} {xs:List V} (e:H a=some (.tup xs)):TyOf K H (.ref a) (.type "tuple")
 | dK {a:Addr} {kvs:List (Key×V)} (e:H a=some (.dK kvs)):TyOf K H (.ref a) (.type "dict")
 | dT {a:Addr} {kvs:List (List Key×V)} (e:H a=some (.dT kvs)):TyOf K H (.ref a) (.type "dict")
 | ins {a C dx : Addr} {fs : List (Str × V)} (e : H a = some (.ins C dx fs)) (cl : Cls K C) (ha : PySem.W.findIn K (.ref C) "__class__" = some (some (.builtin "object.__class__")))
  (hn:PySem.W.specialIn K (.builtin "object.__class__") "__get__" = some (some (.builtin "getset_descriptor.__get__"))) (htk:PySem.W.takesIn K (.builtin "object.__class__")=some true)
  (hm:PySem.W.mroIn K C (.type "object")=some true):TyOf K H (.ref a) (.ref C)
end
end L2
namespace L2
open PySem PySem.Spec PyProof.Rows
structure Room (k:Nat) (A:Around):Prop where
 hd:A.handled=none
 dp:A.depth+3*k+5<recursionLimit
 un:A.units+16*k+200<cLine
 gd:A.guards=some []
theorem Room.mono{j k:Nat}{A:Around}(r:Room k A)(h:j<=k):Room j A:=⟨r.hd,by have:=r.dp;omega,by have:=r.un;omega,r.gd⟩
theorem Room.deeper{k:Nat}{A:Around}(r:Room (k+1) A)(env:Env):Room k (A.deeper env) :=
 ⟨r.hd,by have:=r.dp;show A.depth+1+3*k+5<_;omega,by have:=r.un;show A.units+3+16*k+200<_;omega,r.gd⟩
theorem Room.in1{k:Nat}{A:Around}(r:Room (k+1) A):Room k A.in1:=
 ⟨r.hd,by have:=r.dp;show A.depth+3*k+5<_;omega,by have:=r.un;show A.units+1+16*k+200<_;omega,r.gd⟩
theorem Room.depth{k:Nat}{A:Around}(r:Room k A):A.depth<recursionLimit:=by have:=r.dp;omega
theorem Room.units{k:Nat}{A:Around}(r:Room k A):A.units+64<cLine:=by have:=r.un;omega
def tNil:TA:=fun _ H Q=>Q [] H
def tCons(ta:TE)(tr:TA):TA:=fun σ H Q=>ta σ H fun x H1=>tr σ H1 fun xs H2=>Q (x::xs) H2
section
variable {X:Cx} {e:Expr} {es:List Expr} {te:TE} {t:TA} {pos:Pos}
theorem pa_nil:PA X [] tNil:=fun _ _ _ _ H Q I h=>Calls.spliced_nil ⟨[],H,I, .nil,h⟩
theorem pa_cons(ha:PE X e te)(hr:PA X es t)(hs:starEach (e::es) X.env=(false,eval e X.env)::starEach es X.env:=by rfl):PA X (e::es) (tCons te t):=by
 intro pos pins s σ H Q I h;rw [hs];show wpAny _ _ (spliced ((false,eval e X.env)::backTo pos (starEach es X.env))) _ _ s;refine Calls.spliced_cons (thn (ha pins s σ H _ I h) fun u s1 ⟨x,H1,I1,r1,q1⟩ => ?_);exact thn (hr pos pins s1 σ H1 _ I1 q1) fun us s2 ⟨xs,H2,I2,r2,q2⟩=>⟨x::xs,H2,I2, .cons r1 r2,q2⟩
def tTup(t:TA):TE:=fun σ H Q=>t σ H fun xs H1=>xs.length<=sizeLine/\∀p,H1 p=none->Q (.ref p) (upd H1 p (.tup xs))
def tLst(t:TA):TE:=fun σ H Q=>t σ H fun xs H1=>xs.length<=sizeLine/\∀p,H1 p=none->Q (.ref p) (upd H1 p (.lst xs))
theorem pe_tup{x1}(h:PA X es t):PE X (.Tuple es x1 pos) (tTup t):=by
 intro pins s σ H Q I hq;refine wpAny_Tuple_spliced (thn (h pos pins s σ H _ I hq) fun us s1 ⟨xs,H1,I1,r,z,q⟩=>⟨by rw [<-r.length];exact z,?_⟩);have hf:H1 s1.heap.objs.size=none:=I1.hok.fresh (Nat.le_refl _);refine ⟨.ref s1.heap.objs.size,upd H1 s1.heap.objs.size (.tup xs),I1.laid (t':=s1.toks) (fun b u e=>Heap.get?_push_of_some _ e) (Nat.le_refl _) ?_,rfl,q _ hf⟩;exact ⟨z,us,r,⟨_,Heap.get?_push_size _ rfl,rfl,_,rfl⟩⟩
theorem pe_lst(h:PA X es t):PE X (.List es pos) (tLst t):=by
 intro pins s σ H Q I hq;refine wpAny_List_spliced (thn (h pos pins s σ H _ I hq) fun us s1 ⟨xs,H1,I1,r,z,q⟩=>⟨by rw [<-r.length];exact z,?_⟩);have hf:H1 s1.heap.objs.size=none:=I1.hok.fresh (Nat.le_refl _);refine ⟨.ref s1.heap.objs.size,upd H1 s1.heap.objs.size (.lst xs),I1.laid (t':=s1.toks) (fun b u e=>Heap.get?_push_of_some _ e) (Nat.le_refl _) ?_,rfl,q _ hf⟩;exact ⟨z,us,0,r,Heap.get?_push_size _ rfl⟩
end
abbrev Sp:=List V->Hp->VK->XK->Prop
abbrev CXT:=List Env->Hp->Shared->XK->Value->Shared->Prop
structure Env0 (P:Program) (w:World) (K:PySem.W.Frag) (mg:Str->Option Value) (base:Heap) (A:Around) (outer:List Env) (s:Shared) (H:Hp):Prop where
 frames:A.frames=some outer
 mod:Mod K mg base
 bs:∀b o,base.get? b=some o->s.heap.get? b=some o/\H b=none
 bsz:base.objs.size<=s.heap.objs.size
 funs:s.heap.FunFrames base outer
 frf:∀b ∈ frs outer,H b=none
 hok:HOk P w H s.heap
 bare:AllBare s.gens
 tb:∀p ∈ tabsOf K,∃ps,H p=some (.tbl ps)
def CE(outer:List Env)(P:Program)(w:World)(H:Hp)(s:Shared)(Q:VK)(u:Value)(s':Shared):Prop:=
 ∃v H',s'.os=s.os/\AllBare s'.gens/\Un (frs outer) [] H H' s.heap s'.heap/\HOk P w H' s'.heap/\RelV v u/\Q v H'
def CR(CX:CXT)(outer:List Env)(P:Program)(w:World)(H:Hp)(s:Shared)(Q:VK)(E:XK)(r:Result)(s':Shared):Prop:=
 match r with
 | .ok (.ret u)=>CE outer P w H s Q u s'
 | .ok _=>False
 | .error e=>CX outer H s E e s'
structure FnOk (P:Program) (w:World) (K:PySem.W.Frag) (mg:Str->Option Value) (base:Heap) (CX:CXT) (k:Nat) (f:Addr) (fd:FuncData) (ps:List Str) (sp:Sp):Prop where
 len:∀vs H Q E,sp vs H Q E->vs.length=ps.length
 run:∀(A:Around) (outer:List Env) (s:Shared) (H:Hp) (args:Args) (us:List Value) (vs:List V) (Q:VK) (E:XK),Room k A->Env0 P w K mg base A outer s H->BindsTo s fd args (ps.zip us)->Vals vs us->sp vs H Q E ->
  codeAny (model P w) A (.call (.ref f) args) (CR CX outer P w H s Q E) s
theorem FnOk.imp {P : Program} {w : World} {K : PySem.W.Frag} {mg : Str -> Option Value} {base : Heap} {CX : CXT} {k : Nat} {f : Addr} {fd : FuncData} {ps : List Str} {sp sp' : Sp} (F : FnOk P w K mg base CX k f fd ps sp)
 (h:∀vs H Q E,sp' vs H Q E->sp vs H Q E):FnOk P w K mg base CX k f fd ps sp' :=
 ⟨fun vs H Q E q=>F.len vs H Q E (h _ _ _ _ q),fun A outer s H args us vs Q E hr he hb hv hs=>F.run A outer s H args us vs Q E hr he hb hv (h _ _ _ _ hs)⟩
theorem Env0.in1 {P : Program} {w : World} {K : PySem.W.Frag} {mg : Str -> Option Value} {base : Heap} {A : Around} {outer : List Env} {s : Shared} {H : Hp} (e : Env0 P w K mg base A outer s H) :
 Env0 P w K mg base A.in1 outer s H:=⟨e.frames,e.mod,e.bs,e.bsz,e.funs,e.frf,e.hok,e.bare,e.tb⟩
section
variable {X:Cx} {pins:List (Addr×Obj)} {σ:St} {H:Hp} {s s':Shared}
theorem Inv.env0(I:Inv X pins σ H s):Env0 X.prog X.w X.K X.mg X.base X.A X.stack s H:=
 ⟨I.ok.frames,I.ok.mod,I.bs,Nat.le_trans I.ok.bsz I.sz,I.stack,I.stkFree,I.hok,I.bare,I.tb⟩
theorem Inv.after{Q:VK}{u:Value}(I:Inv X pins σ H s)(h:CE X.stack X.prog X.w H s Q u s'):EP X pins σ Q u s':=by
 obtain ⟨v,H',os,bare,un,hok,r,q⟩:=h;obtain ⟨hh,g,d,t,os'⟩:=s';obtain rfl:os'=s.os:=os;exact ⟨v,H',I.call (h':=hh) (g':=g) (d':=d) (t':=t) (ch:= []) un hok bare (fun b z=>absurd z (by simp)),r,q⟩
end
def tCall(sp:Sp)(dvs:List V)(E:XK)(t:TA):TE:=fun σ H Q=>t σ H fun vs H1=>sp (vs++dvs) H1 Q E
def Binds(K:PySem.W.Frag)(fd:FuncData)(ps:List Str)(ds:List Value):Prop:=
 ∀(s:Shared) (us:List Value),K.In s.heap->(us++ds).length=ps.length->BindsTo s fd ⟨us,[]⟩ (ps.zip (us++ds))
theorem Binds.all{K:PySem.W.Frag}{fd:FuncData}{ps:List Str}(h:∀us:List Value,us.length=ps.length->bindArgs fd ⟨us,[]⟩=pure (ps.zip us)):Binds K fd ps []:=fun s us _ hl=>by
 rw [List.append_nil] at hl ⊢
 exact .of_eq (h us hl)
def Passes(CX:CXT)(X:Cx)(E:XK):Prop:=∀(pins:List (Addr×Obj)) (σ:St) (H:Hp) (s:Shared) (e:Value) (s':Shared),Inv X pins σ H s->CX X.stack H s E e s'->X.xe e s'
section
variable {X:Cx} {CX:CXT} {k:Nat} {f C:Addr} {fd:FuncData} {ps:List Str} {sp:Sp} {dvs:List V} {ds:List Value} {E:XK} {x m:Str} {p pos apos:Pos} {e o:Expr} {es:List Expr} {ta:TE} {t:TA}
theorem run_fn {pins : List (Addr × Obj)} {σ : St} {H : Hp} {s : Shared} {Q : VK} {us : List Value} {vs : List V} (F : FnOk X.prog X.w X.K X.mg X.base CX k f fd ps sp) (hr : Room k X.A) (hb : Binds X.K fd ps ds) (hd : Vals dvs ds) (hx : Passes CX X E)
 (I:Inv X pins σ H s) (r:Vals vs us) (h:sp (vs++dvs) H Q E):wpAny (model X.prog X.w) X.A (call (.ref f) us) (EP X pins σ Q) X.xe s:=by
 have r2:Vals (vs++dvs) (us++ds):=r.append hd;have hl:(us++ds).length=ps.length:=by rw [<-r2.length];exact F.len _ _ _ _ h
 refine wpAny_call (codeAny_mono (F.run X.A X.stack s H ⟨us,[]⟩ (us++ds) (vs++dvs) Q E hr I.env0 (hb s us I.kIn hl) r2 h) fun r s' hq=> ?_)
 cases r with
 | error e=>exact hx pins σ H s e s' I hq
 | ok fl=>
  cases fl with
  | ret u=>exact I.after hq
  | next=>exact False.elim hq
  | brk=>exact False.elim hq
  | cont=>exact False.elim hq
theorem pe_call (F : FnOk X.prog X.w X.K X.mg X.base CX k f fd ps sp) (hr : Room k X.A) (hg : Gl X x) (hm : X.mg x = some (.ref f)) (hk : PySem.W.keepIn X.K (.ref f) = true) (hb : Binds X.K fd ps ds) (hd : Vals dvs ds) (hx : Passes CX X E)
 (ha:PA X (e::es) t) (hdb:(x==("__debug__" : Str))=false:=by decide) (he:starEach (e::es) X.env=(false,eval e X.env)::starEach es X.env:=by rfl) (hpl:(backTo pos (starEach es X.env)).any (·.1)=false:=by rfl) :
 PE X (.Call (.Name x p) (e::es) [] pos) (tCall sp dvs E t):=by
 intro pins s σ H Q I h;refine wpAny_Call_Name_kw (ld_glob I hg hm ?_ hdb);refine PySem.W.callWith_K (h₀:=X.base) I.ok.mod.kin hk (thn (ha pos pins s σ H _ I h) fun us s1 ⟨vs,H1,I1,r,q⟩=>⟨I1.kIn,?_⟩) he hpl;exact run_fn F hr hb hd hx I1 r q
structure Mk (K:PySem.W.Frag) (C f:Addr):Prop where
 makes:PySem.W.makesIn K C=true
 init:PySem.W.findIn K (.ref C) "__init__" = some (some (.ref f))
 fn:PySem.W.isFn K (.ref f)=true
 kp:PySem.W.keepIn K (.ref C)=true
end
section
variable {X:Cx} {CX:CXT} {k:Nat} {f C:Addr} {fd:FuncData} {ps ks:List Str} {sp:Sp} {E:XK} {x m:Str} {p pos apos kpos:Pos} {e o:Expr} {es:List Expr} {kws:List Keyword} {te ta:TE} {t tk:TA} {nm:Option Str}
structure KBinds (K:PySem.W.Frag) (fd:FuncData) (ps ks:List Str) (g:List Value->List Value->List Value) (gV:List V->List V->List V):Prop where
 to:∀(s:Shared) (us ws:List Value),K.In s.heap->(g us ws).length=ps.length->BindsTo s fd ⟨us,ks.zip ws⟩ (ps.zip (g us ws))
 rel:∀ {vs:List V} {us:List Value} {zs:List V} {ws:List Value},Vals vs us->Vals zs ws->Vals (gV vs zs) (g us ws)
variable {g:List Value->List Value->List Value} {gV:List V->List V->List V}
end
structure FnScope (N P:List Str) (sc:Scope):Prop where
 kind:sc.kind = .function
 co:sc.isCoroutine=false
 gen:sc.isGenerator=false
 nd:N.Nodup
 pre:N.take P.length=P
 par:∀x ∈ P,sc.names.lookup x=some .local\/sc.names.lookup x=some .cell
 nofree:∀y ∈ sc.names,y.2 ≠ .free
theorem bindL_out{kindOf:Str->Option NameKind}{x:Str}:∀ {binds:List (Str×Value)} {m:Str->Option Value},(∀v,(x,v) ∉ binds)->bindL kindOf binds m x=m x
 | [],_,_=>rfl
 | (n,v)::r,m,h=>by
  unfold bindL;rw [bindL_out fun w hw=>h w (List.mem_cons_of_mem _ hw)]
  split
  . have:x≠n:=by rintro rfl;exact h v List.mem_cons_self
    simp [this]
  . rfl
theorem bindC_out{kindOf:Str->Option NameKind}{x:Str}:∀ {binds:List (Str×Value)} {m:Str->Option Value},(∀v,(x,v) ∉ binds)->bindC kindOf binds m x=m x
 | [],_,_=>rfl
 | (n,v)::r,m,h=>by
  unfold bindC;rw [bindC_out fun w hw=>h w (List.mem_cons_of_mem _ hw)]
  split
  . rfl
  . have:x≠n:=by rintro rfl;exact h v List.mem_cons_self
    simp [this]
theorem bindL_get {kindOf : Str -> Option NameKind} {x : Str} {v : Value} : ∀ {P : List Str} {vs : List Value} {i : Nat} {m : Str -> Option Value}, P.Nodup -> P[i]? = some x -> vs[i]? = some v -> kindOf x = some .local ->
 bindL kindOf (P.zip vs) m x=some v
 | [],_,_,_,_,h,_,_=>by simp at h
 | _::_,[],_,_,_,_,h,_=>by simp at h
 | p::P,w::vs,0,m,nd,h1,h2,hk=>by
  simp at h1 h2;subst h1;subst h2
  show bindL kindOf ((p,w)::P.zip vs) m p=_;unfold bindL;rw [bindL_out fun v hv=>(List.nodup_cons.mp nd).1 (List.of_mem_zip hv).1,if_pos hk]
  simp
 | p::P,w::vs,i+1,m,nd,h1,h2,hk=>by
  show bindL kindOf ((p,w)::P.zip vs) m x=_;unfold bindL;exact bindL_get (i:=i) (List.nodup_cons.mp nd).2 (by simpa using h1) (by simpa using h2) hk
theorem bindC_get {kindOf : Str -> Option NameKind} {x : Str} {v : Value} : ∀ {P : List Str} {vs : List Value} {i : Nat} {m : Str -> Option Value}, P.Nodup -> P[i]? = some x -> vs[i]? = some v -> kindOf x ≠ some .local ->
 bindC kindOf (P.zip vs) m x=some v
 | [],_,_,_,_,h,_,_=>by simp at h
 | _::_,[],_,_,_,_,h,_=>by simp at h
 | p::P,w::vs,0,m,nd,h1,h2,hk=>by
  simp at h1 h2;subst h1;subst h2
  show bindC kindOf ((p,w)::P.zip vs) m p=_;unfold bindC;rw [bindC_out fun v hv=>(List.nodup_cons.mp nd).1 (List.of_mem_zip hv).1,if_neg hk]
  simp
 | p::P,w::vs,i+1,m,nd,h1,h2,hk=>by
  show bindC kindOf ((p,w)::P.zip vs) m x=_;unfold bindC;exact bindC_get (i:=i) (List.nodup_cons.mp nd).2 (by simpa using h1) (by simpa using h2) hk
def start(N:List Str)(vs:List V):St:=vs.map some++List.replicate (N.length - vs.length) none
def cxOf(CX:CXT)(P:Program)(w:World)(K:PySem.W.Frag)(mg:Str->Option Value)(base:Heap)(N:List Str)(qual:Str)(scope:Scope)(f:Addr)(cd:Value)(A:Around)(outer:List Env)(s:Shared)(H:Hp)(E:XK):Cx where
 prog:=P
 w:=w
 K:=K
 mg:=mg
 base:=base
 A:=A.deeper (envOfC qual scope s.heap.objs.size f cd)
 N:=N
 s₀:=s
 H₀:=H
 env:=envOfC qual scope s.heap.objs.size f cd
 outer:=outer
 stack:=envOfC qual scope s.heap.objs.size f cd::outer
 ex:= []
 calm:=true
 fn:=fun _=>true
 pn:= []
 xe:=fun e s'=>wpAny (model P w) (A.deeper (envOfC qual scope s.heap.objs.size f cd)) (leaving (envOfC qual scope s.heap.objs.size f cd) e) (fun _ s''=>CX outer H s E e s'') (fun e' s''=>CX outer H s E e' s'') s'
theorem cell_has{sc:Scope}{n:Nat}{x:Str}(h:sc.names.lookup x=some .cell):∃c,(cellsFrom n sc.names []).lookup x=some c:=by
 have q:=PySem.W.cellsFrom_some sc.names n [] (.inl h);exact Option.isSome_iff_exists.mp q
theorem inv_start {CX : CXT} {P : Program} {w : World} {K : PySem.W.Frag} {mg : Str -> Option Value} {base : Heap} {N ps : List Str} {qual : Str} {scope : Scope} {f : Addr} {cd : Value} {A : Around} {outer : List Env} {s s1 : Shared} {H : Hp} {E : XK} {us : List Value} {vs : List V}
 (S:FnScope N ps scope) (hd:A.handled=none) (e0:Env0 P w K mg base A outer s H) (hl:vs.length=ps.length) (r:Vals vs us)
 (x:InCallC s s.heap.objs.size (bindL (envOfC qual scope s.heap.objs.size f cd).kindOf (ps.zip us) fun _=>none) (cellsFrom (s.heap.objs.size+1) scope.names []) (bindC (envOfC qual scope s.heap.objs.size f cd).kindOf (ps.zip us) fun _=>none) s1) :
 Inv (cxOf CX P w K mg base N qual scope f cd A outer s H E) [] (start N vs) H s1:=by
 have hpl:ps.length<=N.length:=by have:=congrArg List.length S.pre;rw [List.length_take] at this;omega
 obtain ⟨h1,tk,rfl,hk⟩:=x.done;have noA:∀b:Addr,b ∉ (cxOf CX P w K mg base N qual scope f cd A outer s H E).ex:=fun b z=>absurd (show b ∈ ([]:List Addr) from z) (by simp)
 refine ⟨⟨e0.mod,S.kind,rfl,rfl,Nat.le_refl _,fun y z c h1 h2=> ?_,fun y hy=> ?_,fun y c _ h=> ?_,fun _=>hd,Around.frames_deeper e0.frames, .inr ⟨rfl,rfl⟩,fun b z=>absurd z (noA b),e0.bs,e0.bsz,fun b _ _=>noA b,fun b z=>absurd z (noA b),e0.funs,e0.frf,e0.tb⟩,
  rfl,e0.bare,Un.kept hk,⟨_,x.toInCall.ns,fun i y v h1 h2 h3=> ?_⟩,fun y c h=>⟨_,x.cell y c h⟩,e0.hok.fresh (Nat.le_refl _),fun y c h=> ?_,fun p hp=>absurd (show p ∈ ([]:List (Addr×Obj)) from hp) (by simp),e0.hok.kept hk,?_⟩
 . exact name_of_addr x.apart (PySem.mem_of_lookup h1) (PySem.mem_of_lookup h2)
 . have hy:scope.names.lookup y=some .cell\/scope.names.lookup y=some .free:=hy;rcases hy with hy | hy
   . exact cell_has hy
   . exact absurd rfl (S.nofree _ (PySem.mem_of_lookup hy))
 . exact Nat.le_of_lt (x.above y c (PySem.mem_of_lookup h))
 . have hi : i < vs.length := by
    unfold start at h2
    by_cases hi:i<vs.length
    . exact hi
    . rw [List.getElem?_append_right (by simpa using hi)] at h2
      rw [List.getElem?_replicate] at h2
      split at h2 <;> cases h2
   have ha:vs[i]? = some v:=by
    unfold start at h2
    rw [List.getElem?_append_left (by simpa using hi),List.getElem?_map] at h2
    cases e:vs[i]? with
    | none=>rw [e] at h2;cases h2
    | some a=>rw [e] at h2;cases h2;rfl
   obtain ⟨u,hu,rv⟩:=r.get ha
   have hp:ps[i]? = some y:=by
    rw [<-S.pre,List.getElem?_take_of_lt (by omega)];exact h1
   have ndP:ps.Nodup:=by rw [<-S.pre];exact S.nd.sublist (List.take_sublist _ _)
   refine ⟨u,rv,?_⟩;rcases S.par y (List.mem_of_getElem? hp) with k | k
   . exact .inl ⟨k,bindL_get ndP hp hu k⟩
   . obtain ⟨c,e⟩:=cell_has (n:=s.heap.objs.size+1) k;refine .inr ⟨.inl k,c,e,?_⟩;have q:=x.cell y c e;rw [bindC_get ndP hp hu (by show scope.names.lookup y≠_;rw [k];decide)] at q
     exact q
 . exact e0.hok.fresh (Nat.le_of_lt (x.above y c (PySem.mem_of_lookup h)))
 . unfold start;show _=N.length;rw [List.length_append,List.length_map,List.length_replicate];omega
theorem fn_of {CX : CXT} {P : Program} {w : World} {K : PySem.W.Frag} {mg : Str -> Option Value} {base : Heap} {k : Nat} {f : Addr} {name qual : Str} {params : Arguments} {body : List Stmt} {scope : Scope} {dV kV doc pm cdv ct oc : Value} {an od : Option Addr}
 {osl:Array (Option Value)} {N ps:List Str} {sp:Sp} (lk:K.lookup f=some ⟨oc,od, .func (PySem.W.fnOf name qual params body scope dV kV doc pm an cdv ct),osl⟩) (hcd:PySem.W.codeIn K cdv qual=true) (S:FnScope N ps scope)
 (len:∀vs H Q E,sp vs H Q E->vs.length=ps.length)
 (hbody:∀(A:Around) (outer:List Env) (s:Shared) (H:Hp) (vs:List V) (Q:VK) (E:XK),Room k (A.deeper (envOfC qual scope s.heap.objs.size f cdv))->sp vs H Q E ->
  ∃t,PSs (cxOf CX P w K mg base N qual scope f cdv A outer s H E) body t/\t {nx:=fun _ H'=>Q .non H',rt:=Q} (start N vs) H) :
 FnOk P w K mg base CX (k+1) f (PySem.W.fnOf name qual params body scope dV kV doc pm an cdv ct) ps sp:=by
 refine ⟨len,fun A outer s H args us vs Q E hr e0 hb r hsp=> ?_⟩;have hl:=len _ _ _ _ hsp;have KX:K.In s.heap:=e0.mod.kin.keeps fun b o e=>(e0.bs b o e).1;have lim:s.heap.NoLimit:=e0.mod.nolimit.keeps fun b o e=>(e0.bs b o e).1
 have hkind:∀y ∈ ps.zip us,scope.names.lookup y.1=some .local\/(scope.names.lookup y.1=some .cell/\((cellsFrom (s.heap.objs.size+1) scope.names []).lookup y.1).isSome=true):=fun ⟨n,v⟩ hy=>by
  rcases S.par n (List.of_mem_zip hy).1 with q | q
  . exact .inl q
  . exact .inr ⟨q,PySem.W.cellsFrom_some _ _ _ (.inl q)⟩
 refine codeAny_call_function hr.depth (KX _ _ lk) rfl S.co S.gen rfl (PySem.W.codeRec_of KX hcd) (hb _ _ _ _ ?_);refine wpAny_newFunctionEnv_cells S.kind hkind fun env he s1 x=> ?_;subst he;refine ⟨lim.keeps x.toInCall.keep,codeAny_func ?_⟩;obtain ⟨t,ht,hq⟩:=hbody A outer s H vs Q E (hr.deeper _) hsp;have I:Inv (cxOf CX P w K mg base N qual scope f cdv A outer s H E) [] (start N vs) H s1:=inv_start S hr.hd e0 hl r x;refine wpAny_mono (ht [] s1 (start N vs) H _ I hq) (fun fl s' hs=> ?_) fun e s' hs=>hs
 have fin:∀ {σ':St} {H':Hp} {v:V} {u:Value},Inv (cxOf CX P w K mg base N qual scope f cdv A outer s H E) [] σ' H' s'->RelV v u->Q v H'->CE outer P w H s Q u s' :=
  fun {σ' H' v u} J rv q=>⟨v,H',J.os,J.bare,J.base,J.hok,rv,q⟩
 cases fl with
 | ret u=>
  obtain ⟨v,σ',H',J,rv,q⟩:=hs
  exact fin J rv q
 | next=>
  obtain ⟨σ',H',J,q⟩:=hs
  exact fin (v:=V.non) (u:=Value.none) J rfl q
 | brk=>
  obtain ⟨_,_,_,q⟩:=hs
  exact False.elim q
 | cont=>
  obtain ⟨_,_,_,q⟩:=hs;exact False.elim q
end L2
namespace L2
open PySem PySem.Spec PyProof.Rows
section
variable {X:Cx} {x:Str} {p pos:Pos} {e:Expr} {es:List Expr} {t:TA} {id T:String} {r:List V->Hp->VK->Prop}
def tCB(r:List V->Hp->VK->Prop)(t:TA):TE:=fun σ H Q=>t σ H fun vs H1=>r vs H1 Q
theorem pe_callB (hc : CallR X (.builtin id) r) (hg : Gl X x) (hm : X.mg x = none) (hv : bootBuiltins x = some (.builtin id)) (ha : PA X (e :: es) t) (hn : x ≠ "__name__" := by decide) (hdb : (x == ("__debug__" : Str)) = false := by decide)
 (he:starEach (e::es) X.env=(false,eval e X.env)::starEach es X.env:=by rfl) (hpl:(backTo pos (starEach es X.env)).any (·.1)=false:=by rfl):PE X (.Call (.Name x p) (e::es) [] pos) (tCB r t):=by
 intro pins s σ H Q I h;refine wpAny_Call_Name_kw (ld_blt I hg hm hv ?_ hn hdb);exact PyProof.Rows.callWith_builtin1 (thn (ha pos pins s σ H _ I h) fun us s1 ⟨vs,H1,I1,r1,q1⟩=>hc pins s1 σ H1 vs us Q I1 r1 q1) he hpl
theorem pe_callTy (hc : CallR X (.type T) r) (hg : Gl X x) (hm : X.mg x = none) (hv : bootBuiltins x = some (.type T)) (ha : PA X (e :: es) t) (hn : x ≠ "__name__" := by decide) (hdb : (x == ("__debug__" : Str)) = false := by decide)
 (he:starEach (e::es) X.env=(false,eval e X.env)::starEach es X.env:=by rfl) (hpl:(backTo pos (starEach es X.env)).any (·.1)=false:=by rfl):PE X (.Call (.Name x p) (e::es) [] pos) (tCB r t):=by
 intro pins s σ H Q I h;refine wpAny_Call_Name_kw (ld_blt I hg hm hv ?_ hn hdb);exact PyProof.Rows.callWith_type1 (thn (ha pos pins s σ H _ I h) fun us s1 ⟨vs,H1,I1,r1,q1⟩=>hc pins s1 σ H1 vs us Q I1 r1 q1) he hpl
end
end L2
namespace HT
open PySem PyProof.Rows
section
open PySem.SeqAt
open PySem.AutoSeq1 (wpAny_loadPart')
open PySem.MeetsSeq PySem.MeetsSeq2 PySem.MeetsSeq3
end
section
variable {prog:Program} {w:World} {A:Around} {E:Value->Shared->Prop} {s:Shared}
theorem cat_tup {t b : Addr} {vs ws : List Value} {Q : Value -> Shared -> Prop} (ht : IsTup s.heap t vs.toArray) (hb : IsTup s.heap b ws.toArray) (hv : vs ≠ [])
 (h1:ws = []->Q (.ref t) s) (h2:ws ≠ []->Q (.ref s.heap.objs.size) {s with heap:=s.heap.push {cls:= .type "tuple",data:= .seq (vs++ws).toArray} })
 (hsz:vs.length+ws.length<=sizeLine):wpAny (model prog w) A (binaryOp .Add (.ref t) (.ref b)) Q E s:=by
 obtain ⟨⟨cls,dd,data,sl⟩,ho,hc,n,hd⟩:=id ht;obtain ⟨⟨cls2,dd2,data2,sl2⟩,ho2,hc2,n2,hd2⟩:=id hb;simp only at hc hd hc2 hd2
 subst hc hd hc2 hd2;have e:vs.toArray++ws.toArray=(vs++ws).toArray:=by simp
 by_cases hw:ws = []
 . exact concat_meets ⟨_, ho, rfl⟩ ⟨_, ho2, rfl⟩ noFill_tuple_add seq_tuple_add PySem.F.slot_tuple_add PySem.F.entry_tuple_add (PySem.F.args_tuple_add_2 _ _)
    (tuple_addW1 t b vs.toArray ws.toArray n n2 dd dd2 sl sl2 (by simpa using hv) (by simp [hw])) ⟨ho,ho2,h1 hw⟩
 . refine concat_meets ⟨_, ho, rfl⟩ ⟨_, ho2, rfl⟩ noFill_tuple_add seq_tuple_add PySem.F.slot_tuple_add PySem.F.entry_tuple_add (PySem.F.args_tuple_add_2 _ _)
    (tuple_addW2 t b vs.toArray ws.toArray n n2 dd dd2 sl sl2 (by simpa using hv) (by simpa using hw) (by rw [List.size_toArray,List.size_toArray];exact hsz)) ⟨ho,ho2,?_⟩
   rw [e];exact h2 hw
def sIx(n d:Nat):Option Int->Nat
 | none=>d
 | some v=>if v<0 then (v+(n:Int)).toNat else min v.toNat n
theorem sIx_none(n d:Nat):sIx n d none=d:=rfl
theorem sIx_nat(n d k:Nat):sIx n d (some (k:Int))=min k n:=by
 show (if (k:Int)<0 then ((k:Int)+(n:Int)).toNat else min (k:Int).toNat n)=min k n;rw [if_neg (by omega),Int.toNat_natCast]
theorem sIx_le(n d:Nat)(hd:d<=n)(o:Option Int):sIx n d o<=n:=by
 cases o with
 | none=>exact hd
 | some v=>
  show (if v<0 then (v+(n:Int)).toNat else min v.toNat n)<=n
  by_cases hv:v<0
  . rw [if_pos hv];omega
  . rw [if_neg hv];exact Nat.min_le_right _ _
theorem clip_eq(v:Int)(n d:Nat):(if v<0 then max (v+(n:Int)) 0 else min v (n:Int))=((sIx n d (some v):Nat):Int):=by
 show (if v<0 then max (v+(n:Int)) 0 else min v (n:Int))=(((if v<0 then (v+(n:Int)).toNat else min v.toNat n):Nat):Int)
 by_cases hv:v<0
 . simp only [if_pos hv];omega
 . simp only [if_neg hv];omega
theorem adjust_gen(lo hi:Option Int)(n:Nat):Builtin.Slice.sliceAdjust lo hi 1 (n:Int)=(((sIx n 0 lo:Nat):Int),((sIx n n hi:Nat):Int)):=by
 have h1:¬((1:Int)<0):=by omega
 unfold Builtin.Slice.sliceAdjust;simp only [h1,if_false];refine Prod.ext ?_ ?_
 . cases lo with
   | none=>rfl
   | some v=>exact clip_eq v n 0
 . cases hi with
   | none=>rfl
   | some v=>exact clip_eq v n n
theorem places_gen(i j:Nat):Builtin.Slice.slicePlaces (i:Int) (j:Int) 1=j - i:=by
 unfold Builtin.Slice.slicePlaces;have h1:(1:Int)>0:=by omega
 simp only [h1,if_true,Int.ediv_one]
 split <;> omega
theorem slicePart_{v:Value}{o:Option Int}{Q:Option Int->Shared->Prop}(p:IsPart v o)(h:Q o s):wpAny (model prog w) A (Builtin.Slice.slicePartIndex v) Q E s:=by
 cases p with
 | none=>exact slicePart_none h
 | int i t=>exact slicePart_int h
theorem sliceApplied_gen {sl : Addr} {vl vu : Value} {lo hi : Option Int} {n : Nat} {Q : Int × Int × Nat -> Shared -> Prop} (hs : s.heap.IsSliceOf sl vl vu .none) (pl : IsPart vl lo) (pu : IsPart vu hi)
 (h:Q (((sIx n 0 lo:Nat):Int),1,sIx n n hi - sIx n 0 lo) s):wpAny (model prog w) A (Builtin.Slice.sliceApplied (.ref sl) (pure (n:Int))) Q E s:=by
 obtain ⟨os,hos,hcs,hds⟩:=id hs;unfold Builtin.Slice.sliceApplied Builtin.Slice.sliceFields;refine wpAny_bind (wpAny_bind (wpAny_field hos hds (x:=vl) rfl (wpAny_bind (wpAny_field hos hds (x:=vu) rfl (wpAny_bind (wpAny_field hos hds (x:= .none) rfl (wpAny_pure ?_)))))));refine wpAny_bind (slicePart_none ?_);show wpAny _ _ (if ((1:Int)==0)=true then _ else _) _ _ s;rw [if_neg (by decide)];refine wpAny_bind (slicePart_ pl (wpAny_bind (slicePart_ pu (wpAny_bind (wpAny_pure ?_)))));show wpAny _ _ (match Builtin.Slice.sliceAdjust lo hi 1 (n:Int) with | (lo,hi)=>pure (lo,(1:Int),Builtin.Slice.slicePlaces lo hi 1)) _ _ s;rw [adjust_gen lo hi n];show wpAny _ _ (pure (((sIx n 0 lo:Nat):Int),(1:Int),Builtin.Slice.slicePlaces ((sIx n 0 lo:Nat):Int) ((sIx n n hi:Nat):Int) 1)) _ _ s;rw [places_gen];exact wpAny_pure h
theorem pick_gen(xs:Array Value)(i k:Nat):((List.range k).filterMap fun (m:Nat)=>xs[((i:Int)+(m:Int)*1).toNat]?).toArray=((xs.toList.drop i).take k).toArray:=by
 have e:(fun (m:Nat)=>xs[((i:Int)+(m:Int)*1).toNat]?)=fun m=>xs[i+m]? :=by
  funext m;have:((i:Int)+(m:Int)*1).toNat=i+m:=by omega
  rw [this]
 rw [e];have:=pick_run xs i k;rw [List.filterMap_map] at this
 have e2:((fun x=>xs[x]?) ∘ fun x=>i+x)=fun m=>xs[i+m]? :=rfl;rw [e2] at this
 rw [this]
theorem getItem_tuple_cut {t sl : Addr} {items : Array Value} {vl vu : Value} {lo hi : Option Int} {Q : Value -> Shared -> Prop} (ht : IsTup s.heap t items) (hs : s.heap.IsSliceOf sl vl vu .none) (pl : IsPart vl lo) (pu : IsPart vu hi)
 (hw:¬(sIx items.size 0 lo=0/\sIx items.size items.size hi=items.size))
 (h:Q (.ref s.heap.objs.size) {s with heap:=s.heap.push {cls:= .type "tuple",data:= .seq ((items.toList.drop (sIx items.size 0 lo)).take (sIx items.size items.size hi - sIx items.size 0 lo)).toArray} })
 (hsz:items.size<=sizeLine):wpAny (model prog w) A (getItem (.ref t) (.ref sl)) Q E s:=by
 have htake:sizeOk (.seq ((items.toList.drop (sIx items.size 0 lo)).take (sIx items.size items.size hi - sIx items.size 0 lo)).toArray):=by
  show ((items.toList.drop (sIx items.size 0 lo)).take (sIx items.size items.size hi - sIx items.size 0 lo)).toArray.size<=sizeLine;rw [List.size_toArray,List.length_take,List.length_drop,Array.length_toList];omega
 have hj:sIx items.size items.size hi<=items.size:=sIx_le _ _ (Nat.le_refl _) hi;obtain ⟨os,hos,hcs,hds⟩:=id hs;have hTs:s.TypeIs (.ref sl) "slice" :=⟨os,hos,hcs⟩;unfold getItem
 try with_reducible refine wpAny_holding ?_
 first | refine wpAny_bind (wpAny_pure ?_) | skip
 refine wpAny_bind (wpAny_sequenceKey ht.typeIs (by decide) ?_)
 refine wpAny_bind (wpAny_callSpecial?_slot (name:=Str.ofString "__getitem__") ht.typeIs PyProof.Rows.slot_tuple_getitem
  (wpAny_call_entry PyProof.Rows.slot_tuple_getitem ht.typeIs entry_tuple_getitem ?_ (args_tuple_getitem _ _)))
 show wpAny _ _ (Builtin.Tuple.tupleItemsOf (.ref t) >>= _) _ _ s;refine wpAny_bind (tupleItemsOf_ ht ?_);refine wpAny_bind (wpAny_typeOf hTs ?_);rw [if_pos (by decide)];refine wpAny_bind (sliceApplied_gen hs pl pu ?_)
 have hno:¬((((sIx items.size 0 lo:Nat):Int)==0 && (1:Int)==1 && (sIx items.size items.size hi - sIx items.size 0 lo)==items.size)=true):=by
  intro q;rw [Bool.and_eq_true,Bool.and_eq_true] at q
  have q1:((sIx items.size 0 lo:Nat):Int)=0:=eq_of_beq q.1.1;have q2:sIx items.size items.size hi - sIx items.size 0 lo=items.size:=eq_of_beq q.2;exact hw ⟨by omega,by omega⟩
 show wpAny _ _ (if (((sIx items.size 0 lo:Nat):Int)==0 && (1:Int)==1 && (sIx items.size items.size hi - sIx items.size 0 lo)==items.size)=true then _ else _) _ _ s;rw [if_neg hno,pick_gen]
 first
  | exact wpAny_bind (m:=Builtin.Tuple.tupleExact _) (wpAny_newObj_type (wpAny_pure ⟨_,rfl,wpAny_pure h⟩) htake)
  | exact wpAny_bind (m:=Builtin.Tuple.tupleExact _) (wpAny_newObj_type (wpAny_bind (wpAny_pure (wpAny_pure ⟨_,rfl,wpAny_pure h⟩))) htake)
  | exact wpAny_bind (wpAny_bind (m:=Builtin.Tuple.tupleExact _) (wpAny_newObj_type (wpAny_pure (wpAny_pure ⟨_,rfl,wpAny_pure h⟩)) htake))
  | exact wpAny_bind (wpAny_bind (m:=Builtin.Tuple.tupleExact _) (wpAny_newObj_type (wpAny_pure ⟨_,rfl,wpAny_pure h⟩) htake))
end
end HT
namespace L2
open PySem PySem.Spec PyProof.Rows
abbrev TO:=St->Hp->(Option Int->Hp->Prop)->Prop
def PO(X:Cx)(e:Option Expr)(t:TO):Prop:=
 ∀(pins:List (Addr×Obj)) (s:Shared) (σ:St) (H:Hp) (Q:Option Int->Hp->Prop),Inv X pins σ H s->t σ H Q ->
   wpAny (model X.prog X.w) X.A (evalPart e X.env) (fun u s'=>∃o H',Inv X pins σ H' s'/\IsPart u o/\Q o H') X.xe s
def tNoPart:TO:=fun _ H Q=>Q none H
def tPart(t:TE):TO:=fun σ H Q=>t σ H fun x H1=>∃i,x = .int i/\Q (some i) H1
section
variable {X:Cx} {e:Expr} {te:TE} {lo hi:Option Expr} {tl th:TO} {pos p2:Pos}
theorem po_none:PO X none tNoPart:=by
 intro pins s σ H Q I h;rw [evalPart_none];exact wpAny_pure ⟨none,H,I, .none,h⟩
theorem po_some(h:PE X e te):PO X (some e) (tPart te):=by
 intro pins s σ H Q I hw;rw [evalPart_some];refine thn (h pins s σ H _ I hw) fun u s1 ⟨x,H1,I1,r1,q1⟩ => ?_;obtain ⟨i,rfl,q⟩:=q1;obtain ⟨t,rfl⟩:=r1;exact ⟨some i,H1,I1, .int i t,q⟩
def SlR(X:Cx)(r:V->Option Int->Option Int->Hp->VK->Prop):Prop:=
 ∀(pins:List (Addr×Obj)) (s:Shared) (σ:St) (H:Hp) (x:V) (v vl vu:Value) (lo hi:Option Int) (sl:Addr) (Q:VK),Inv X pins σ H s->RelV x v->s.heap.IsSliceOf sl vl vu .none->IsPart vl lo->IsPart vu hi->r x lo hi H Q ->
   ∃T id,typeLookup (.type T) "__getitem__" = pure (some (.builtin id))/\s.TypeIs v T/\wpAny (model X.prog X.w) X.A (getItem v (.ref sl)) (EP X pins σ Q) X.xe s
theorem SlR.or{r r':V->Option Int->Option Int->Hp->VK->Prop}(h:SlR X r)(h':SlR X r'):SlR X (fun x lo hi H Q=>r x lo hi H Q\/r' x lo hi H Q):=by
 intro pins s σ H x v vl vu lo hi sl Q I rx hs pl pu q;rcases q with q | q
 . exact h pins s σ H x v vl vu lo hi sl Q I rx hs pl pu q
 . exact h' pins s σ H x v vl vu lo hi sl Q I rx hs pl pu q
def tSl(r:V->Option Int->Option Int->Hp->VK->Prop)(te:TE)(tl th:TO):TE:=fun σ H Q=>te σ H fun x H1=>tl σ H1 fun l H2=>th σ H2 fun u H3=>r x l u H3 Q
theorem pe_slice{r:V->Option Int->Option Int->Hp->VK->Prop}(hr:SlR X r)(he:PE X e te)(hl:PO X lo tl)(hu:PO X hi th):PE X (.Subscript e (.Slice lo hi none p2) pos) (tSl r te tl th):=by
 intro pins s σ H Q I h;refine Subscript_ (thn (he pins s σ H _ I h) fun v s1 ⟨x,H1,I1,r1,q1⟩ => ?_);refine wpAny_Slice (thn (hl pins s1 σ H1 _ I1 q1) fun vl s2 ⟨l,H2,I2,pl,q2⟩=>thn (hu pins s2 σ H2 _ I2 q2) fun vu s3 ⟨u,H3,I3,pu,q3⟩ => ?_);rw [evalPart_none];refine wpAny_pure ?_;have I4:Inv X pins σ H3 {s3 with heap:=s3.heap.push {cls:= .type "slice",data:= .fields #[vl,vu, .none]} }:=I3.kept (t':=s3.toks) fun b ob q=>Heap.get?_push_of_some _ q;obtain ⟨T,id,hT,ht,hg⟩:=hr pins {s3 with heap:=s3.heap.push {cls:= .type "slice",data:= .fields #[vl,vu, .none]} } σ H3 x v vl vu l u s3.heap.objs.size Q I4 r1 (Heap.IsSliceOf.new ..) pl pu q3;show wpAny (model X.prog X.w) X.A (subscriptTail e (.Slice lo hi none p2) v (.ref s3.heap.objs.size)) (EP X pins σ Q) X.xe {s3 with heap:=s3.heap.push {cls:= .type "slice",data:= .fields #[vl,vu, .none]} };exact tail_any (ops:= [.ref s3.heap.objs.size,v]) ht hT hg (by with_unfolding_all rfl)
def cutV(xs:List V)(lo hi:Option Int):List V:=(xs.drop (HT.sIx xs.length 0 lo)).take (HT.sIx xs.length xs.length hi - HT.sIx xs.length 0 lo)
theorem cutV_length(xs:List V)(lo hi:Option Int):(cutV xs lo hi).length<=xs.length:=by
 unfold cutV;rw [List.length_take,List.length_drop];omega
def rSlT(K:PySem.W.Frag):V->Option Int->Option Int->Hp->VK->Prop:=fun x lo hi H Q=>∃a xs,x = .ref a/\SqT K H a xs /\
 ¬(HT.sIx xs.length 0 lo=0/\HT.sIx xs.length xs.length hi=xs.length)/\∀p,H p=none->Q (.ref p) (upd H p (.tup (cutV xs lo hi)))
theorem sl_tup:SlR X (rSlT X.K):=by
 intro pins s σ H x v vl vu lo hi sl Q I rx hs pl pu h;obtain ⟨a,xs,rfl,hx,hw,q⟩:=h
 cases rx
 obtain ⟨its,r,ht,hz⟩:=I.tuple hx;have hlen:its.toArray.size=xs.length:=by rw [List.size_toArray];exact r.length.symm
 refine ⟨"tuple",_,PyProof.Rows.slot_tuple_getitem.lookup,ht.typeIs,?_⟩;refine HT.getItem_tuple_cut ht hs pl pu (by rw [hlen];exact hw) ?_ (by rw [hlen];exact hz);rw [hlen];refine ⟨.ref s.heap.objs.size,_,I.laid (t':=s.toks) (o:= .tup (cutV xs lo hi)) (fun b ob q=>Heap.get?_push_of_some _ q) (Nat.le_refl _) ?_,rfl,q _ (I.hok.fresh (Nat.le_refl _))⟩;exact ⟨Nat.le_trans (cutV_length xs lo hi) hz,_,(r.drop (HT.sIx xs.length 0 lo)).take (HT.sIx xs.length xs.length hi - HT.sIx xs.length 0 lo),IsTup.new _ _⟩
def rCatT(K:PySem.W.Frag):R2:=fun x y H Q=>∃a b xs ys,x = .ref a/\y = .ref b/\SqT K H a xs/\SqT K H b ys/\xs ≠ []/\xs.length+ys.length<=sizeLine /\
 (ys = []->Q (.ref a) H)/\(ys ≠ []->∀p,H p=none->Q (.ref p) (upd H p (.tup (xs++ys))))
theorem Vals.nil_iff{xs:List V}{us:List Value}(r:Vals xs us):us = []↔xs = []:=by
 cases r with
 | nil=>simp
 | cons _ _=>simp
theorem op_catT:OpR X (binaryOp .Add) (rCatT X.K):=by
 intro pins s σ H x y v u Q I rx ry h;obtain ⟨a,b,xs,ys,rfl,rfl,ha,hb,hx,hz,q1,q2⟩:=h
 cases rx
 cases ry
 obtain ⟨its,r1,p1,_⟩:=I.tuple ha;obtain ⟨its2,r2,p2,_⟩:=I.tuple hb;refine HT.cat_tup p1 p2 (fun z=>hx (r1.nil_iff.mp z)) (fun z=>⟨.ref a,H,I,rfl,q1 (r2.nil_iff.mp z)⟩) (fun z=> ?_) (by rw [<-r1.length, <-r2.length];exact hz);refine ⟨.ref s.heap.objs.size,_,I.laid (t':=s.toks) (o:= .tup (xs++ys)) (fun b ob q=>Heap.get?_push_of_some _ q) (Nat.le_refl _) ?_,rfl,q2 (fun w=>z (r2.nil_iff.mpr w)) _ (I.hok.fresh (Nat.le_refl _))⟩;exact ⟨by rw [List.length_append];exact hz,_,r1.append r2,IsTup.new _ _⟩
end
end L2
namespace L2
open PySem PySem.Spec PyProof.Rows
def ixN(n:Nat)(i:Int):Option Nat:=if 0<=i then (if i<n then some i.toNat else none) else if -(n:Int)<=i then some (i+n).toNat else none
def atI{α:Type}(xs:List α)(i:Int):Option α:=(ixN xs.length i).bind fun j=>xs[j]?
theorem ixN_seq{n:Nat}{i:Int}{j:Nat}(h:ixN n i=some j):seqIndex? i n=some j/\j<n /\ -(n:Int)<=i/\i<n:=by
 unfold ixN at h
 by_cases h0:0<=i
 . rw [if_pos h0] at h
   by_cases h1:i<n
   . rw [if_pos h1] at h
     have e:i.toNat=j:=Option.some.inj h;exact ⟨by rw [seqIndex_of h0 h1,e],by omega,by omega,h1⟩
   . rw [if_neg h1] at h;cases h
 . rw [if_neg h0] at h
   by_cases h1 : -(n:Int)<=i
   . rw [if_pos h1] at h
     have e:(i+n).toNat=j:=Option.some.inj h;exact ⟨by rw [seqIndex_neg (by omega) h1,e],by omega,h1,by omega⟩
   . rw [if_neg h1] at h;cases h
theorem atI_get{α:Type}{xs:List α}{i:Int}{v:α}(h:atI xs i=some v):∃j,seqIndex? i xs.length=some j/\xs[j]? = some v/\j<xs.length /\ -(xs.length:Int)<=i/\i<xs.length:=by
 unfold atI at h
 cases e:ixN xs.length i with
 | none=>rw [e] at h;cases h
 | some j=>
  rw [e] at h
  obtain ⟨h1,h2,h3,h4⟩:=ixN_seq e;exact ⟨j,h1,h,h2,h3,h4⟩
def PlainIx(b:Expr):Prop:=∀o i,subscripted b false o i=operate [o,i] (getItem o i)
def IxR(X:Cx)(r:R2):Prop:=
 ∀(value slice:Expr) (pins:List (Addr×Obj)) (s:Shared) (σ:St) (H:Hp) (x y:V) (v u:Value) (Q:VK),Inv X pins σ H s->RelV x v->RelV y u->r x y H Q ->
   subscripted slice false v u=operate [v,u] (getItem v u)->wpAny (model X.prog X.w) X.A (subscriptTail value slice v u) (EP X pins σ Q) X.xe s
def MtR(X:Cx)(id:String)(r:V->List V->Hp->VK->Prop):Prop:=
 ∀(pins:List (Addr×Obj)) (s:Shared) (σ:St) (H:Hp) (x:V) (xs:List V) (v:Value) (us:List Value) (Q:VK),Inv X pins σ H s->RelV x v->Vals xs us->r x xs H Q ->
   wpAny (model X.prog X.w) X.A (call (.builtin id) (v::us)) (EP X pins σ Q) X.xe s
section
variable {X:Cx} {a b:Expr} {ta tb:TE} {pos:Pos}
theorem IxR.or{r r':R2}(h:IxR X r)(h':IxR X r'):IxR X (fun x y H Q=>r x y H Q\/r' x y H Q):=by
 intro value slice pins s σ H x y v u Q I rx ry q hs;rcases q with q | q
 . exact h value slice pins s σ H x y v u Q I rx ry q hs
 . exact h' value slice pins s σ H x y v u Q I rx ry q hs
theorem pe_ix{r:R2}(hr:IxR X r)(ha:PE X a ta)(hb:PE X b tb)(hs:PlainIx b):PE X (.Subscript a b pos) (tOp r ta tb):=by
 intro pins s σ H Q I h;exact Subscript_ (binT ha hb I h fun v u s2 x y H2 I2 rx ry q=>hr a b pins s2 σ H2 x y v u Q I2 rx ry q (hs _ _))
def rIxL(K:PySem.W.Frag):R2:=fun x y H Q=>∃p xs i v,x = .ref p/\y = .int i/\SqL K H p xs/\atI xs i=some v/\Q v H
def rIxT(K:PySem.W.Frag):R2:=fun x y H Q=>∃p xs i v,x = .ref p/\y = .int i/\SqT K H p xs/\atI xs i=some v/\Q v H
def rIxS:R2:=fun x y H Q=>∃z i c,x = .str z/\y = .int i/\z.length<=sizeLine/\atI z.cps.toList i=some c/\Q (.str ⟨#[c]⟩) H
theorem ix_list:IxR X (rIxL X.K):=by
 intro value slice pins s σ H x y v u Q I rx ry h hs;obtain ⟨p,xs,i,z,rfl,rfl,hq,he,q⟩:=h
 cases rx
 obtain ⟨t,rfl⟩:=ry;obtain ⟨its,r,pl,hz⟩:=I.list hq;obtain ⟨j,h1,h2,h3,h4,h5⟩:=atI_get he;obtain ⟨w,ew,rw'⟩:=r.get h2;have hl:=r.length;have hn:=line63;have fin:EP X pins σ Q w s:=⟨z,H,I,rw',q⟩
 by_cases h0:0<=i
 . have hj : i.toNat = j := by
    rw [seqIndex_of h0 h5] at h1
    exact Option.some.inj h1
   exact item_listR pl.isList h0 (by omega) (by rw [hj];simpa using ew) fin hs
 . have hj : (i + (its.toArray.size : Int)).toNat = j := by
    rw [seqIndex_neg (by omega) h4] at h1
    rw [List.size_toArray, <-hl];exact Option.some.inj h1
   exact subscriptTail_builtinR (x:=w) pl.isList.typeIs slot_list_getitem.lookup
    (wpAny_getItem_list_neg (Q:=fun r s'=>r=w/\EP X pins σ Q r s') pl.isList (by omega) (by rw [List.size_toArray] <;> omega) (by omega) (by rw [hj];simpa using ew) ⟨rfl,fin⟩) hs
theorem ix_tup:IxR X (rIxT X.K):=by
 intro value slice pins s σ H x y v u Q I rx ry h hs;obtain ⟨p,xs,i,z,rfl,rfl,hq,he,q⟩:=h
 cases rx
 obtain ⟨t,rfl⟩:=ry;obtain ⟨its,r,pl,hz⟩:=I.tuple hq;obtain ⟨j,h1,h2,h3,h4,h5⟩:=atI_get he;obtain ⟨w,ew,rw'⟩:=r.get h2;have hl:=r.length;have hn:=line63;have fin:EP X pins σ Q w s:=⟨z,H,I,rw',q⟩
 exact subscriptTail_builtinR (x:=w) pl.typeIs slot_tuple_getitem.lookup
  (getItem_tuple (j:=j) (Q:=fun r s'=>r=w/\EP X pins σ Q r s') pl (by omega) (by omega) (by rw [List.size_toArray, <-hl];exact h1) (by simpa using ew) ⟨rfl,fin⟩) hs
theorem ix_str:IxR X rIxS:=by
 intro value slice pins s σ H x y v u Q I rx ry h hs;obtain ⟨z,i,c,rfl,rfl,hz,he,q⟩:=h;obtain ⟨t,rfl⟩:=rx;obtain ⟨t',rfl⟩:=ry;obtain ⟨j,h1,h2,h3,h4,h5⟩:=atI_get he;have hl:z.cps.toList.length=z.length:=by simp [Str.length]
 rw [hl] at h1 h4 h5
 have hn:=line63
 exact tail_any (typeIs_str s z t) slot_str_getitem.lookup (getItem_str (c:=c) (by
  have e1:decide (i < -(2 ^ 63:Int))=false:=decide_eq_false (by omega);have e2:decide (i≥2 ^ 63)=false:=decide_eq_false (by omega);rw [e1,e2,Bool.or_false]) (by rw [h1];simpa using h2) ⟨.str ⟨#[c]⟩,H,I.tok _,⟨_,rfl⟩,q⟩) hs
def rIx(K:PySem.W.Frag):R2:=fun x y H Q=>rIxL K x y H Q\/rIxT K x y H Q\/rIxS x y H Q
theorem ix_seq:IxR X (rIx X.K):=ix_list.or (ix_tup.or ix_str)
theorem mapSeq_set(its:List Value)(n j:Nat)(u:Value):Obj.mapSeq (·.setIfInBounds j u) {cls:= .type "list",data:= .seq its.toArray n}={cls:= .type "list",data:= .seq (its.set j u).toArray n}:=by
 simp [Obj.mapSeq]
theorem Inv.lst {pins : List (Addr × Obj)} {σ : St} {H : Hp} {s : Shared} {p : Addr} {xs : List V} (I : Inv X pins σ H s) (h : H p = some (.lst xs)) :
 ∃(its:List Value) (n:Nat),Vals xs its/\s.heap.get? p=some {cls:= .type "list",data:= .seq its.toArray n}/\xs.length<=sizeLine:=by
 obtain ⟨z,its,n,r,e⟩:=I.hok p _ h;exact ⟨its,n,r,e,z⟩
theorem Inv.lstUpd {pins : List (Addr × Obj)} {σ : St} {H : Hp} {s : Shared} {p : Addr} {xs ys : List V} {its its' : List Value} {n n' : Nat} {f : Obj -> Obj} (I : Inv X pins σ H s) (h : H p = some (.lst xs))
 (ho:s.heap.get? p=some {cls:= .type "list",data:= .seq its.toArray n}) (hf:f {cls:= .type "list",data:= .seq its.toArray n}={cls:= .type "list",data:= .seq its'.toArray n' }) (r:Vals ys its') (hz:ys.length<=sizeLine) (t:Nat) :
 Inv X pins σ (upd H p (.lst ys)) {s with heap:=s.heap.update p f,toks:=t}:=by
 have e:(s.heap.update p f).get? p=some {cls:= .type "list",data:= .seq its'.toArray n' }:=by
  rw [Heap.get?_update_self f ho (by rw [hf] <;> rfl),hf]
 refine I.write (x:=p) (e:=p) (by rw [h];trivial) (.inl rfl) (fun b u hb q=>(Heap.get?_update_other _ _ (Ne.symm hb)).trans q) ⟨_,e⟩ ?_;exact ⟨hz,its',n',r,e⟩
def rSetL:V->V->V->Hp->(Hp->Prop)->Prop:=fun o i v H Q=>∃p xs k j,o = .ref p/\i = .int k/\H p=some (.lst xs)/\ixN xs.length k=some j/\Q (upd H p (.lst (xs.set j v)))
theorem set_list:PSet X rSetL:=by
 intro pins s σ H o i v ov iv u Q I ro ri rv h;obtain ⟨p,xs,k,j,rfl,rfl,hp,hj,q⟩:=h
 cases ro
 obtain ⟨t,rfl⟩:=ri;obtain ⟨its,n,r,ho,hz⟩:=I.lst hp;obtain ⟨h1,h2,h3,h4⟩:=ixN_seq hj;have hl:=r.length;have hn:=line63
 have I':Inv X pins σ (upd H p (.lst (xs.set j v))) {s with heap:=s.heap.update p (Obj.mapSeq (·.setIfInBounds j u))} :=
  I.lstUpd hp ho (mapSeq_set its n j u) (r.set rv j) (by rw [List.length_set];exact hz) s.toks
 by_cases h0:0<=k
 . have hk : k.toNat = j := by
    rw [seqIndex_of h0 h4] at h1
    exact Option.some.inj h1
   exact PySem.W.ki_setAt ho h0 (by omega) (by rw [List.size_toArray, <-hl];exact h4) (by rw [hk];exact ⟨_,I',q⟩)
 . have hk : (k + (its.toArray.size : Int)).toNat = j := by
    rw [seqIndex_neg (by omega) h3] at h1
    rw [List.size_toArray, <-hl];exact Option.some.inj h1
   exact PySem.W.ki_setBack ho (by omega) (by rw [List.size_toArray, <-hl];exact h3) (by omega) (by rw [hk];exact ⟨_,I',q⟩)
theorem slice_bounds(lo hi:Option Int)(n:Nat):(sliceBounds lo hi none n).1=((HT.sIx n 0 lo:Nat):Int)/\(sliceBounds lo hi none n).2.1=((HT.sIx n n hi:Nat):Int)/\(sliceBounds lo hi none n).2.2=1:=by
 refine ⟨?_,?_,rfl⟩
 . cases lo with
   | none=>simp [sliceBounds,HT.sIx]
   | some i=>
    simp only [sliceBounds,HT.sIx,Option.getD_none,show (1:Int)>0 by decide,if_true]
    by_cases h:i<0
    . simp only [h,if_true] <;> omega
    . simp only [h,if_false] <;> omega
 . cases hi with
   | none=>simp [sliceBounds,HT.sIx]
   | some i=>
    simp only [sliceBounds,HT.sIx,Option.getD_none,show (1:Int)>0 by decide,if_true]
    by_cases h:i<0
    . simp only [h,if_true] <;> omega
    . simp only [h,if_false] <;> omega
theorem slicePick_cut(its:List Value)(lo hi:Option Int):slicePick its.toArray lo hi none=((its.drop (HT.sIx its.length 0 lo)).take (HT.sIx its.length its.length hi - HT.sIx its.length 0 lo)).toArray:=by
 obtain ⟨h1,h2,h3⟩:=slice_bounds lo hi its.toArray.size;unfold slicePick;rw [h1,h2,h3];simp only [sliceRange_one,pick_run,List.size_toArray] <;> rfl
def rSlL(K:PySem.W.Frag):V->Option Int->Option Int->Hp->VK->Prop:=fun x lo hi H Q=>∃a xs,x = .ref a/\SqL K H a xs/\∀p,H p=none->Q (.ref p) (upd H p (.lst (cutV xs lo hi)))
theorem sl_list:SlR X (rSlL X.K):=by
 intro pins s σ H x v vl vu lo hi sl Q I rx hs pl pu h;obtain ⟨a,xs,rfl,hx,q⟩:=h
 cases rx
 obtain ⟨its,r,ht,hz⟩:=I.list hx;have hlen:=r.length;refine ⟨"list",_,slot_list_getitem.lookup,ht.isList.typeIs,?_⟩;refine wpAny_getItem_list_slice ht.isList hs pl pu .none (by simp) ?_ (by rw [List.size_toArray] <;> omega);rw [slicePick_cut, <-hlen];refine ⟨.ref s.heap.objs.size,_,I.laid (t':=s.toks) (o:= .lst (cutV xs lo hi)) (fun b ob q=>Heap.get?_push_of_some _ q) (Nat.le_refl _) ?_,rfl,q _ (I.hok.fresh (Nat.le_refl _))⟩;exact ⟨Nat.le_trans (cutV_length xs lo hi) hz,_,0,(r.drop (HT.sIx xs.length 0 lo)).take (HT.sIx xs.length xs.length hi - HT.sIx xs.length 0 lo),Heap.get?_push_size _ rfl⟩
theorem call_len_seq:CallR X (.builtin "len") (fun xs H Q=>∃p ys,xs = [.ref p]/\(SqL X.K H p ys\/SqT X.K H p ys)/\Q (.int ys.length) H):=by
 intro pins s σ H xs us Q I r h;obtain ⟨p,ys,rfl,hq,q⟩:=h;obtain ⟨u,rfl,rx⟩:=vals1 r
 cases rx
 have hn:=line63;rcases hq with hq | hq
 . obtain ⟨its,r',pl,hz⟩:=I.list hq;have hlen:=r'.length;exact Calls.call_len_list pl.isList (by simp only [List.size_toArray] <;> omega) ⟨.int ys.length,H,I.tok _,⟨s.toks+1,by rw [List.size_toArray,hlen]⟩,q⟩
 . obtain ⟨its,r',pl,hz⟩:=I.tuple hq;have hlen:=r'.length;exact len_tuple pl (by simp only [List.size_toArray] <;> omega) ⟨.int ys.length,H,I.tok _,⟨s.toks+1,by rw [List.size_toArray,hlen]⟩,q⟩
theorem call_len_str:CallR X (.builtin "len") (fun xs H Q=>∃z,xs = [.str z]/\z.length<=sizeLine/\Q (.int z.length) H):=by
 intro pins s σ H xs us Q I r h;obtain ⟨z,rfl,hz,q⟩:=h;obtain ⟨u,rfl,t,rfl⟩:=vals1 r;have hn:=line63;exact len_str (by omega) ⟨.int z.length,H,I.tok _,⟨_,rfl⟩,q⟩
theorem call_tuple_of:CallR X (.type "tuple") (fun xs H Q=>∃p ys,xs = [.ref p]/\((SqL X.K H p ys/\∀l,H l=none->Q (.ref l) (upd H l (.tup ys)))\/(SqT X.K H p ys/\Q (.ref p) H))):=by
 intro pins s σ H xs us Q I r h;obtain ⟨p,ys,rfl,h⟩:=h;obtain ⟨u,rfl,rx⟩:=vals1 r
 cases rx
 rcases h with ⟨hq,q⟩ | ⟨hq,q⟩
 . obtain ⟨its,r',pl,hz⟩:=I.list hq;have hlen:=r'.length;refine call_tuple_list pl.isList (fun h' kp=> ?_) (by simp only [List.size_toArray] <;> omega);have I1:Inv X pins σ H {s with heap:=h' }:=I.kept (t':=s.toks) kp
   have I2:Inv X pins σ (upd H h'.objs.size (.tup ys)) {s with heap:=h'.push {cls:= .type "tuple",data:= .seq its.toArray} } :=
    I1.laid (t':=s.toks) (fun b o e=>Heap.get?_push_of_some _ e) (Nat.le_refl _) (show ObjOk X.prog X.w _ _ _ (.tup ys) from ⟨hz,its,r',IsTup.new _ _⟩)
   exact ⟨.ref h'.objs.size,_,I2,rfl,q _ (I1.hok.fresh (Nat.le_refl _))⟩
 . obtain ⟨its,r',pl,hz⟩:=I.tuple hq;exact call_tuple_same pl ⟨.ref p,H,I,rfl,q⟩
def tyV(K:PySem.W.Frag)(T:String)(x:V)(H:Hp):Prop:=match x with
 | .str _=>T = "str"
 | .int _=>T = "int"
 | .ref p => (T = "list" /\ ∃ xs, SqL K H p xs) \/ (T = "tuple" /\ ∃ o, K.lookup p = some o /\ o.cls = .type "tuple" /\ o.dict = none) \/
  (T = "dict" /\ ((∃kvs,H p=some (.dK kvs))\/∃kvs,H p=some (.dT kvs)))\/(T = "set" /\ ∃S n,H p=some (.set S n))
 | _=>False
theorem tyV_is {pins : List (Addr × Obj)} {σ : St} {H : Hp} {s : Shared} {T : String} {x : V} {v : Value} (I : Inv X pins σ H s) (r : RelV x v) (ty : tyV X.K T x H) :
 s.TypeIs v T/\∀a,v = .ref a->∃ob,s.heap.get? a=some ob/\ob.dict=none:=by
 cases x with
 | str z=>
  obtain ⟨t,rfl⟩:=r
  cases (show T = "str" from ty)
  exact ⟨typeIs_str s z t,fun _ e=>nomatch e⟩
 | int i=>
  obtain ⟨t,rfl⟩:=r
  cases (show T = "int" from ty)
  exact ⟨typeIs_int s i t,fun _ e=>nomatch e⟩
 | ref p=>
  cases r
  rcases ty with ⟨rfl,xs,hq⟩ | ⟨rfl,o,hk,hc,hd⟩ | ⟨rfl,hk⟩ | ⟨rfl,S,n,hk⟩
  . obtain ⟨its,_,pl,_⟩:=I.list hq;refine ⟨pl.isList.typeIs,fun a e=> ?_⟩
    cases e
    obtain ⟨o,n,e,c,hd,_⟩:=pl;exact ⟨o,e,hd⟩
  . refine ⟨⟨o,I.kIn p o hk,hc⟩,fun a e=> ?_⟩
    cases e
    exact ⟨o,I.kIn _ o hk,hd⟩
  . have z : ∃ o, s.heap.get? p = some o /\ o.ExactDict := by
     rcases hk with ⟨kvs,hk⟩ | ⟨kvs,hk⟩
     . obtain ⟨_,_,_,_,o,_,_,e,ex,_⟩:=I.hok p _ hk;exact ⟨o,e,ex⟩
     . obtain ⟨_,_,_,_,o,_,_,e,ex,_⟩:=I.hok p _ hk;exact ⟨o,e,ex⟩
    obtain ⟨o,e,ex⟩:=z;refine ⟨⟨o,e,ex.1⟩,fun a e2=> ?_⟩
    cases e2
    exact ⟨o,e,ex.2.1⟩
  . obtain ⟨o,_,_,_,e,ex,_⟩:=I.hok p _ hk;refine ⟨⟨o,e,ex.1⟩,fun a e2=> ?_⟩
    cases e2
    exact ⟨o,e,ex.2.1⟩
 | _=>exact False.elim ty
def tBM(K:PySem.W.Frag)(T:String)(r:V->List V->Hp->VK->Prop)(to:TE)(t:TA):TE:=fun σ H Q=>to σ H fun x H1=>tyV K T x H1/\t σ H1 fun xs H2=>r x xs H2 Q
variable {o e:Expr} {es:List Expr} {to:TE} {t:TA} {name:Str} {apos cpos:Pos} {T id:String} {r:V->List V->Hp->VK->Prop}
theorem pe_bm (pa : PlainAttrs T) (slot : Slot T name id) (hty : typeOf (.builtin id) = pure (.type "method_descriptor")) (hm : MtR X id r) (ho : PE X o to) (ha : PA X (e :: es) t)
 (hbase:attributeBase o name X.env (eval o X.env)=eval o X.env:=by rfl)
 (hfew:((backTo cpos (starEach (e::es) X.env)).all (fun x=> !x.1) && (backToKw cpos (keywordEach [] X.env)).all (fun x=>x.1.isSome)
  && decide ((e::es).length+([]:List Keyword).length+(if ([]:List Keyword).isEmpty then 0 else 1)<30))=true:=by rfl)
 (hline:(apos.endLine==cpos.line)=true:=by rfl) (hs:starEach (e::es) X.env=(false,eval e X.env)::starEach es X.env:=by rfl) (hplain:(backTo cpos (starEach es X.env)).any (·.1)=false:=by rfl) :
 PE X (.Call (.Attribute o name apos) (e::es) [] cpos) (tBM X.K T r to t):=by
 intro pins s σ H Q I h;refine wpAny_Call_method_late hbase hfew hline rfl (thn (ho pins s σ H _ I h) fun v s1 ⟨x,H1,I1,r1,ty,q1⟩ => ?_);obtain ⟨h1,h2⟩:=tyV_is I1 r1 ty;refine ⟨T,id,pa,slot,hty,h1,h2,?_⟩;have hA:=ha cpos pins s1 σ H1 _ I1 q1;rw [hs] at hA ⊢
 refine Calls.callWith_builtin (by show (false || (backTo cpos (starEach es X.env)).any (·.1))=false;rw [hplain] <;> rfl) (Calls.evalArgs_plain ?_);exact thn hA fun us s2 ⟨vs,H2,I2,r2,q2⟩=>hm pins s2 σ H2 x vs v us Q I2 r1 r2 q2
/- xs.append(e),list.index on a module's tuple .. are MtR facts of 06m -/
end
end L2
namespace L2
open PySem PySem.Spec PyProof.Rows
def MtM(X:Cx)(id:String)(r:V->List V->Hp->VK->Prop):Prop:=
 ∀(pins:List (Addr×Obj)) (s:Shared) (σ:St) (H:Hp) (x:V) (xs:List V) (v:Value) (us:List Value) (Q:VK),Inv X pins σ H s->RelV x v->Vals xs us->r x xs H Q ->
   wpAny (model X.prog X.w) X.A (call (.builtin id) (v::us)) (EP X pins σ Q) X.xe s
theorem Vals.one:∀ {x:V} {us:List Value},Vals [x] us->∃u,us = [u]/\RelV x u
 | _,_, .cons r .nil=>⟨_,rfl,r⟩
theorem Vals.zero:∀ {us:List Value},Vals [] us->us = []
 | _, .nil=>rfl
theorem Vals.rep{xs:List V}{us:List Value}(h:Vals xs us):∀k:Nat,Vals (List.replicate k xs).flatten (List.replicate k us).flatten
 | 0=> .nil
 | k+1=>by
  rw [List.replicate_succ,List.replicate_succ,List.flatten_cons,List.flatten_cons];exact Vals.append h (Vals.rep h k)
theorem foldl_rep (its : List Value) : ∀ (k : Nat) (acc : List Value),
 List.foldl (fun x1 x2=>x1++x2) acc.toArray (List.replicate k its.toArray)=(acc++(List.replicate k its).flatten).toArray
 | 0,acc=>by simp
 | k+1,acc=>by
  have e:acc.toArray++its.toArray=(acc++its).toArray:=by simp
  have e2:(acc++its)++(List.replicate k its).flatten=acc++(List.replicate (k+1) its).flatten:=by
   rw [List.replicate_succ,List.flatten_cons,List.append_assoc]
  rw [<-e2, <-foldl_rep its k (acc++its), <-e,List.replicate_succ,List.foldl_cons]
section
variable {X:Cx} {pins:List (Addr×Obj)} {σ:St} {H:Hp} {s:Shared} {l b:Addr} {xs ys zs:List V}
theorem Inv.lset {its its' : List Value} {n : Nat} {f : Array Value -> Array Value} {t' : Nat} (I : Inv X pins σ H s) (hH : H l = some (.lst xs))
 (e:s.heap.get? l=some {cls:= .type "list",data:= .seq its.toArray n}) (hf:f its.toArray=its'.toArray) (hv:Vals ys its') (hz:ys.length<=sizeLine) :
 Inv X pins σ (upd H l (.lst ys)) {s with heap:=s.heap.update l (Obj.mapSeq f),toks:=t' }:=by
 have q:=PySem.IsL.update e f;rw [hf] at q
 refine I.write (x:=l) (e:=l) (by rw [hH];exact trivial) (.inl rfl) (fun b' u hb hu=>(Heap.get?_update_other s.heap (Obj.mapSeq f) (Ne.symm hb)).trans hu) ⟨_,q⟩ ?_;exact ⟨hz,its',_,hv,q⟩
theorem Inv.lnew {its : List Value} {t' : Nat} (I : Inv X pins σ H s) (hv : Vals ys its) (hz : ys.length <= sizeLine) :
 Inv X pins σ (upd H s.heap.objs.size (.lst ys)) {s with heap:=s.heap.push {cls:= .type "list",data:= .seq its.toArray},toks:=t' } :=
 I.laid (fun _ _ q=>Heap.get?_push_of_some _ q) (Nat.le_refl _) ⟨hz,its,0,hv,Heap.get?_push_size _ rfl⟩
theorem Inv.fresh(I:Inv X pins σ H s):H s.heap.objs.size=none:=I.hok.fresh (Nat.le_refl _)
theorem Inv.lstM(I:Inv X pins σ H s)(hH:H l=some (.lst xs)):xs.length<=sizeLine/\∃(its:List Value) (n:Nat),Vals xs its/\xs.length=its.length/\s.heap.get? l=some {cls:= .type "list",data:= .seq its.toArray n}:=by
 obtain ⟨z,its,n,r,e⟩:=I.hok l _ hH;exact ⟨z,its,n,r,r.length,e⟩
theorem notLongL{n:Nat}(h:n<=sizeLine):Builtin.List.listTooLong n=false:=by
 unfold Builtin.List.listTooLong;exact decide_eq_false (by omega)
end
section
variable {X:Cx}
def rAppend:V->List V->Hp->VK->Prop:=fun x vs H Q=>∃l xs y,x = .ref l/\vs = [y]/\H l=some (.lst xs)/\xs.length<sizeLine/\Q .non (upd H l (.lst (xs ++ [y])))
theorem mt_append:MtM X "list.append" rAppend:=by
 intro pins s σ H x vs v us Q I rx rv h;obtain ⟨l,xs,y,rfl,rfl,hH,hz,q⟩:=h
 cases rx
 obtain ⟨u,rfl,ru⟩:=rv.one;obtain ⟨z,its,n,r,hl,e⟩:=I.lstM hH;refine call_meets F.slot_list_append ⟨_,e,rfl⟩ F.entry_list_append (F.args_list_append_2 _ _) (PySem.list_append l its.toArray n u (by rw [List.size_toArray];omega)) ⟨e,?_⟩;refine ⟨.non,_,I.lset (its':=its ++ [u]) hH e (by simp) (r.append (.cons ru .nil)) ?_,rfl,q⟩;rw [List.length_append,List.length_singleton];omega
def rRep:R2:=fun x y H Q=>∃l k xs,x = .ref l/\y = .int k/\H l=some (.lst xs) /\ -(2 ^ 63)<=k/\k<2 ^ 63/\xs.length*k.toNat<=sizeLine /\
 ∀p,H p=none->Q (.ref p) (upd H p (.lst (List.replicate k.toNat xs).flatten))
theorem len_rep{α:Type}(xs:List α)(k:Nat):(List.replicate k xs).flatten.length=k*xs.length:=by
 induction k with
 | zero=>simp
 | succ k ih=>rw [List.replicate_succ,List.flatten_cons,List.length_append,ih,Nat.succ_mul,Nat.add_comm]
theorem op_rep:OpR X (binaryOp .Mult) rRep:=by
 intro pins s σ H x y v u Q I rx ry h;obtain ⟨l,k,xs,rfl,rfl,hH,h1,h2,hz,q⟩:=h
 cases rx
 obtain ⟨t,rfl⟩:=ry;obtain ⟨z,its,n,r,hl,e⟩:=I.lstM hH;have hlen:its.toArray.size*k.toNat<=sizeLine:=by rw [List.size_toArray, <-hl];exact hz
 have hcap:¬its.toArray.size*k.toNat>(2 ^ 63 - 1) / 8:=by
  have:(sizeLine:Nat)<=(2 ^ 63 - 1) / 8:=by decide
  omega
 have hfit:¬(!Builtin.List.listFitsIndex k)=true:=by
  rw [fitsIndex_both h1 h2];exact Bool.false_ne_true
 have hlong:¬Builtin.List.listTooLong (its.toArray.size*k.toNat)=true:=by
  rw [notLongL hlen];exact Bool.false_ne_true
 have hnew:List.foldl (fun x1 x2=>x1++x2) #[] (List.replicate (if its.toArray.isEmpty=true then 0 else k.toNat) its.toArray)=(List.replicate k.toNat its).flatten.toArray:=by
  have f0:∀m:Nat,List.foldl (fun x1 x2=>x1++x2) #[] (List.replicate m its.toArray)=(List.replicate m its).flatten.toArray:=fun m=>by
   have:=foldl_rep its m [];rw [List.nil_append] at this
   exact this
  rw [f0]
  cases its with
  | nil=>simp
  | cons a r'=>rw [if_neg (by simp)]
 refine wpAny_binaryOp_repeat_ref (T:= "list") (U:= "int") (by decide) ⟨_,e,rfl⟩ (fun s'=>typeIs_int s' k t) noFill_list_mul F.fills_int_mul F.slot_int_rmul repeat_list F.slot_int_index.lookup
  (call_meets F.slot_int_rmul (typeIs_int s k t) F.entry_int_rmul (F.args_int_rmul_2 _ _) (int___rmul___int_list k t l its.toArray n)
   ⟨e,rfl,⟨_,e,rfl⟩,call_meets F.slot_list_mul ⟨_,e,rfl⟩ F.entry_list_mul (F.args_list_mul_2 _ _) (AutoListH.list___mul___list_int_3 l its.toArray n k t hfit hcap hlong) ⟨e,?_⟩⟩)
 rw [hnew];exact ⟨.ref _,_,I.lnew (t':=s.toks) (r.rep k.toNat) (by rw [len_rep,Nat.mul_comm];exact hz),rfl,q _ I.fresh⟩
end
section
variable {prog:Program} {w:World} {A:Around} {E:Value->Shared->Prop} {s:Shared}
end
section
variable {X:Cx}
end
end L2
namespace Att
open PySem PySem.W PySem.Calls PyProof.Rows
theorem ints_of_wellAll{P:Params}{h:Heap}:∀(ns:List Int) (vs:List Value),WellAll P h vs (ns.map WData.int)->IntsAre vs ns:=by
 intro ns
 induction ns with
 | nil=>
  intro vs w;rw [List.map_nil] at w
  cases w
  exact .nil
 | cons n ns ih=>
  intro vs w;rw [List.map_cons] at w
  cases w with
  | cons a b=>
   cases a
   exact .cons _ _ (ih _ b)
theorem script_of {l : OpenLaw} {n : Nat} (hn : l.most = some n) {P : Params} {h : Heap} {args : List WData} {vals : List Value}
 (hpre:l.row.toRowW.claim.pre args=true) (hwl:WellAll P h vals args) :
 ∃a vs ns,vals = [Value.ref a]/\args = [WData.list (ns.map WData.int)]/\h.get? a=some {cls:= .type "list",data:= .seq vs.toArray}/\IntsAre vs ns/\ns.length<=n:=by
 have hsh:WShape.hasAll [] args [.list .int]=true:=(pre_splitW hpre).1;have hc:l.pre.holds [] {args:=args}=true:=(pre_splitW hpre).2;obtain ⟨d,r,rfl,h1,h2⟩:=hasAllW_cons hsh;obtain rfl:=hasAllW_nil h2;obtain ⟨xs,rfl,h3⟩:=hasW_list h1;obtain ⟨ns,rfl⟩:=items_int h3
 have hlen:ns.length<=n:=by
  unfold OpenLaw.pre at hc
  have h4:(WTm.not (.lt (.lit (.int (n:Int))) (.len (.arg 0)))).holds [] {args:= [.list (ns.map .int)]}=true:=by
   have h4:=(holds_andW hc).1;rw [hn] at h4
   exact h4
  have h5:=condW_of h4 (w_not (w_lt w_lit (w_len_list (w_arg rfl))));rw [List.length_map] at h5
  refine Nat.le_of_not_lt fun q=> ?_;have q':(n:Int)<((ns.length:Nat):Int):=by omega
  first
   | (rw [decide_eq_true q'] at h5;exact absurd h5 (by decide))
   | (simp at h5;omega)
 cases hwl with
 | cons w1 w2=>
  cases w2
  cases w1 with
  | list ho hall=>exact ⟨_,_,ns,rfl,rfl,ho,ints_of_wellAll ns _ hall,hlen⟩
theorem post_true(l:OpenLaw)(args:List WData):l.row.toRowW.claim.post args (.bool true) args=true:=
 postW_of (r:=l.row.toRowW) (X:=(true==true))
  (show WShape.has [] (.bool true) .bool=true by first | rfl | decide | simp [WShape.has,WShape.arms,WShape.armsAll])
  (show (WTm.eq .res (.lit (.bool true))).value [] {args:=args,res:=some (.bool true),after:=args}=some (.bool (true==true)) from w_eq_bool (w_res rfl) w_lit) rfl
theorem attach_call {l : OpenLaw} {n : Nat} {q : Program} {loose : List Str} {XP : (Str -> Option Value) -> Heap -> Prop} {YP : World -> Heap -> Prop} {d : DefRec}
 (hn:l.most=some n) (hdf:d.params.defaults = [])
 (call:∀(w:World) (s₀ s₁:Shared) (mg mb:Str->Option Value) (fa:Addr) (o:Obj) (pm cd doc:Value) (a:Addr) (vs:List Value) (ns:List Int),
  Ground q loose [] XP w s₀ mg mb s₁.heap->YP w s₁.heap ->
  s₁.heap.get? fa=some o->o.data = .func (docDef d.name d.params d.body d.scope pm cd doc)->s₁.heap.CodeRec cd d.name->mg d.name=some (.ref fa) ->
  s₁.heap.get? a=some {cls:= .type "list",data:= .seq vs.toArray}->IntsAre vs ns->ns.length<=n->s₁.gens = #[] ->
  codeAny (model l.prog w) callerA (.call (.ref fa) ⟨[.ref a],[]⟩) (fun r s'=>r = .ok (.ret (.bool true))/\OldK s₁.heap s'.heap/\s'.os=s₁.os/\AllBare s'.gens) s₁) :
 WalkO q loose XP YP l.row.toRowW d [] (fun f vs=>PySem.call f vs):=by
 intro w s₀ s₁ mg mb G Y fa o pm cd doc dV kV ho hd hcd hD hmg hg args vals as hpre hlay hrd hwl hlo;obtain rfl:dV = .none:=Dflts.none hD hdf;obtain rfl:kV = .none:=Dflts.noKw hD;obtain ⟨a,vs,ns,rfl,rfl,hobj,hints,hlen⟩:=script_of hn hpre hwl;refine enter_call (codeAny_mono (call w s₀ s₁ mg mb fa o pm cd doc a vs ns G Y ho (fd_plain hd) hcd hmg hobj hints hlen hg) fun r s' hq=> ?_);obtain ⟨rfl,h2,h3,h4⟩:=hq;exact ⟨.inl ⟨.bool true, .bool true,[],rfl,fun _=>rfl, .bool true,post_true l _,fun _=>⟨List.Pairwise.nil,fun _ hm=>(nomatch hm)⟩⟩,h2,h3,h4⟩
section
variable {prog:Program} {w:World} {A:Around} {E:Value->Shared->Prop} {s:Shared} {K:Frag}
end
end Att
namespace L2
open PySem PySem.Spec PyProof.Rows
theorem vals_ints:∀ {vs:List Value} {ns:List Int},IntsAre vs ns->Vals (ns.map V.int) vs
 | _,_, .nil=> .nil
 | _,_, .cons n t h=> .cons ⟨t,rfl⟩ (vals_ints h)
end L2
namespace L2
open PySem PySem.Spec PyProof.Rows
def defArgs(s:Stmt):Arguments:=match s with
 | .FunctionDef _ a _ _ _ _ _ _ _ _=>a
 | _=>{posonlyargs:= [],args:= [],vararg:=none,kwonlyargs:= [],kw_defaults:= [],kwarg:=none,defaults:= []}
def defBody(s:Stmt):List Stmt:=match s with
 | .FunctionDef _ _ b _ _ _ _ _ _ _=>b
 | _=> []
def defScope(s:Stmt):Scope:=match s with
 | .FunctionDef _ _ _ _ _ _ sc _ _ _=>sc
 | _=>{kind:= .function,names:= [],isGenerator:=false,isCoroutine:=false}
abbrev CX0:CXT:=fun _ _ _ _ _ _=>False
abbrev E0:XK:=fun _ _ _=>False
theorem pass0{X:Cx}:Passes CX0 X E0:=fun _ _ _ _ _ _ _ h=>h.elim
structure Fun (K:PySem.W.Frag) (x qual:Str) (st:Stmt) (f:Addr) (fd:FuncData):Prop where
 ex:∃(oc:Value) (od:Option Addr) (kV doc pm:Value) (an:Option Addr) (cdv ct:Value) (osl:Array (Option Value)),
  fd=PySem.W.fnOf x qual (defArgs st) (defBody st) (defScope st) .none kV doc pm an cdv ct/\K.lookup f=some ⟨oc,od, .func fd,osl⟩/\PySem.W.codeIn K cdv qual=true
 kp:PySem.W.keepIn K (.ref f)=true
section
variable {P:Program} {w:World} {K:PySem.W.Frag} {mg:Str->Option Value} {base:Heap}
theorem Fun.ok {x qual : Str} {st : Stmt} {f : Addr} {fd : FuncData} {N ps : List Str} {k : Nat} {sp : Sp} (F : Fun K x qual st f fd) (S : FnScope N ps (defScope st)) (len : ∀ vs H Q E, sp vs H Q E -> vs.length = ps.length)
 (hbody:∀(cdv:Value) (A:Around) (outer:List Env) (s:Shared) (H:Hp) (vs:List V) (Q:VK) (E:XK),Room k (A.deeper (envOfC qual (defScope st) s.heap.objs.size f cdv))->sp vs H Q E ->
  ∃t,PSs (cxOf CX0 P w K mg base N qual (defScope st) f cdv A outer s H E).nox (defBody st) t/\t {nx:=fun _ H'=>Q .non H',rt:=Q} (start N vs) H):FnOk P w K mg base CX0 (k+1) f fd ps sp:=by
 obtain ⟨oc,od,kV,doc,pm,an,cdv,ct,osl,rfl,lk,hcd⟩:=F.ex;refine fn_of lk hcd S len fun A outer s H vs Q E hr hsp=> ?_;obtain ⟨t,h,q⟩:=hbody cdv A outer s H vs Q E hr hsp;exact ⟨t,h.nox,q⟩
theorem Fun.binds {x qual : Str} {st : Stmt} {f : Addr} {fd : FuncData} {ps : List Str} (F : Fun K x qual st f fd)
 (h:∀(kV doc pm:Value) (an:Option Addr) (cdv ct:Value) (us:List Value),us.length=ps.length->bindArgs (PySem.W.fnOf x qual (defArgs st) (defBody st) (defScope st) .none kV doc pm an cdv ct) ⟨us,[]⟩=pure (ps.zip us)):Binds K fd ps []:=by
 obtain ⟨oc,od,kV,doc,pm,an,cdv,ct,osl,rfl,lk,hcd⟩:=F.ex;exact .all (h kV doc pm an cdv ct)
theorem fun_mk {x qual : Str} {st : Stmt} {f : Addr} {oc : Value} {od an : Option Addr} {osl : Array (Option Value)} {kV doc pm cdv ct : Value} (l : K.lookup f = some ⟨oc, od, .func (PySem.W.fnOf x qual (defArgs st) (defBody st) (defScope st) .none kV doc pm an cdv ct), osl⟩)
 (c:PySem.W.codeIn K cdv qual=true) (k:PySem.W.keepIn K (.ref f)=true):Fun K x qual st f (PySem.W.fnOf x qual (defArgs st) (defBody st) (defScope st) .none kV doc pm an cdv ct):=⟨⟨oc,od,kV,doc,pm,an,cdv,ct,osl,rfl,l,c⟩,k⟩
end
section
variable {X:Cx}
end
theorem iteF{A B:Prop}(h:B):if false=true then A else B:=by
 rw [if_neg Bool.false_ne_true];exact h
theorem iteT{A B:Prop}(h:A):if true=true then A else B:=by
 rw [if_pos rfl];exact h
def Same(H H':Hp):Prop:=∀b o,H b=some o->H' b=some o
theorem Same.refl(H:Hp):Same H H:=fun _ _ h=>h
theorem Same.trans{H H1 H2:Hp}(a:Same H H1)(b:Same H1 H2):Same H H2:=fun c o h=>b c o (a c o h)
theorem Same.free{H H':Hp}(e:Same H H'){l:Addr}(h:H' l=Option.none):H l=Option.none:=by
 cases q:H l with
 | none=>rfl
 | some o=>
  rw [e l o q] at h
  cases h
theorem Same.seq{K:PySem.W.Frag}{H H':Hp}{a:Addr}{xs:List V}(e:Same H H')(h:SqL K H a xs):SqL K H' a xs:=by
 rcases h with (h | ⟨o,h⟩) | h
 . exact .inl (.inl (e _ _ h))
 . exact .inl (.inr ⟨o,e _ _ h⟩)
 . exact .inr h
end L2
namespace L2
open PySem PySem.Spec PyProof.Rows
section
variable {κ:Type} [DecidableEq κ]
def valV(kvs:List (κ×V))(k:κ):Option V:=(kvs.find? fun kv=>decide (kv.1=k)).map (·.2)
def putK(kvs:List (κ×V))(k:κ)(v:V):List (κ×V) :=
 if (kvs.any fun kv=>decide (kv.1=k))=true then kvs.map (fun kv=>if kv.1=k then (kv.1,v) else kv) else kvs ++ [(k,v)]
theorem valV_pos{p:κ×V}{r:List (κ×V)}{k:κ}(e:p.1=k):valV (p::r) k=some p.2:=by simp [valV,List.find?_cons,e]
theorem valV_neg{p:κ×V}{r:List (κ×V)}{k:κ}(e:¬p.1=k):valV (p::r) k=valV r k:=by simp [valV,List.find?_cons,e]
theorem RelO.getD{o:Option V}{u:Option Value}{d:V}{d':Value}(r:RelO o u)(rd:RelV d d'):RelV (o.getD d) (u.getD d'):=by
 cases o with
 | none=>cases u with
  | none=>exact rd
  | some _=>exact (show False from r).elim
 | some _=>cases u with
  | none=>exact (show False from r).elim
  | some _=>exact r
theorem KV.val{kvs:List (κ×V)}{vs:List (κ×Value)}(r:KV kvs vs)(k:κ):RelO (valV kvs k) (valueAt vs k):=by
 unfold KV at r
 induction r with
 | nil=>exact True.intro
 | @cons p q ps qs h t ih=>
  obtain ⟨h1,h2⟩:=h
  by_cases e:p.1=k
  . have e':q.1=k:=h1.symm.trans e;have b:valueAt (q::qs) k=some q.2:=by simp [valueAt,List.find?_cons,e']
    rw [valV_pos e,b];exact h2
  . have e':¬q.1=k:=fun z=>e (h1.trans z);have b:valueAt (q::qs) k=valueAt qs k:=by simp [valueAt,List.find?_cons,e']
    rw [valV_neg e,b];exact ih
theorem KV.any{kvs:List (κ×V)}{vs:List (κ×Value)}(r:KV kvs vs)(k:κ):(kvs.any fun kv=>decide (kv.1=k))=vs.any fun kv=>decide (kv.1=k):=by
 unfold KV at r
 induction r with
 | nil=>rfl
 | cons h t ih=>rw [List.any_cons,List.any_cons,ih,h.1]
theorem KV.length{kvs:List (κ×V)}{vs:List (κ×Value)}(r:KV kvs vs):kvs.length=vs.length:=Paired.length r
end
abbrev KT (H:Hp):List (List Key×V)->List (List Key×Addr×Value)->Prop:=Paired fun p q=>p.1=q.1/\H q.2.1=some (.tup (p.1.map kV))/\RelV p.2 q.2.2
theorem KT.val{H:Hp}{kvs:List (List Key×V)}{xs:List (List Key×Addr×Value)}(r:KT H kvs xs)(k:List Key):RelO (valV kvs k) ((atKey xs k).map (·.2)):=by
 induction r with
 | nil=>exact True.intro
 | @cons p q ps qs h t ih=>
  obtain ⟨h1,_,h2⟩:=h
  by_cases e:p.1=k
  . have e':q.1=k:=h1.symm.trans e;have b:atKey (q::qs) k=some q.2:=by simp [atKey,List.find?_cons,e']
    rw [valV_pos e,b];exact h2
  . have e':¬q.1=k:=fun z=>e (h1.trans z);have b:atKey (q::qs) k=atKey qs k:=by simp [atKey,List.find?_cons,e']
    rw [valV_neg e,b];exact ih
theorem KT.keeps{H H':Hp}{kvs:List (List Key×V)}{xs:List (List Key×Addr×Value)}(r:KT H kvs xs)(ht:∀b ys,H b=some (.tup ys)->H' b=some (.tup ys)):KT H' kvs xs:=
 Paired.mapP r fun _ _ z=>⟨z.1,ht _ _ z.2.1,z.2.2⟩
section
variable {P:Program} {w:World} {H:Hp} {h:Heap} {a:Addr}
end
def DGet(H:Hp)(a:Addr)(y:V)(r:Option V):Prop:=
 (∃kvs k,Rd H a (.dK kvs)/\y=kV k/\r=valV kvs k)\/∃kvs k b,Rd H a (.dT kvs)/\y = .ref b/\H b=some (.tup (k.map kV))/\r=valV kvs k
def DPut(H:Hp)(a:Addr)(y v:V)(H':Hp):Prop:=
 (∃kvs k,H a=some (.dK kvs)/\y=kV k/\kvs.length<sizeLine/\H'=upd H a (.dK (putK kvs k v))) \/
 ∃kvs k b,H a=some (.dT kvs)/\y = .ref b/\H b=some (.tup (k.map kV))/\kvs.length<sizeLine/\H'=upd H a (.dT (putK kvs k v))
theorem DGet.k{H:Hp}{a:Addr}{kvs:List (Key×V)}{k:Key}(e:H a=some (.dK kvs)):DGet H a (kV k) (valV kvs k):= .inl ⟨kvs,k, .inl e,rfl,rfl⟩
theorem DGet.t{H:Hp}{a b:Addr}{kvs:List (List Key×V)}{k:List Key}(e:H a=some (.dT kvs))(eb:H b=some (.tup (k.map kV))):DGet H a (.ref b) (valV kvs k):= .inr ⟨kvs,k,b, .inl e,rfl,eb,rfl⟩
theorem DPut.k{H:Hp}{a:Addr}{kvs:List (Key×V)}{k:Key}{v:V}(e:H a=some (.dK kvs))(hl:kvs.length<sizeLine):DPut H a (kV k) v (upd H a (.dK (putK kvs k v))):= .inl ⟨kvs,k,e,rfl,hl,rfl⟩
theorem DPut.t {H : Hp} {a b : Addr} {kvs : List (List Key × V)} {k : List Key} {v : V} (e : H a = some (.dT kvs)) (eb : H b = some (.tup (k.map kV))) (hl : kvs.length < sizeLine) :
 DPut H a (.ref b) v (upd H a (.dT (putK kvs k v))):= .inr ⟨kvs,k,b,e,rfl,eb,hl,rfl⟩
section
variable {X:Cx} {pins:List (Addr×Obj)} {σ:St} {H:Hp} {s:Shared} {a:Addr} {y v:V} {u r:Value} {o:Option V} {A:Around} {E:Value->Shared->Prop}
end
section
variable {X:Cx} {pins:List (Addr×Obj)} {σ:St} {H:Hp} {s:Shared} {a:Addr} {kvs:List (Key×V)} {k:Key} {u:Value} {A:Around} {E:Value->Shared->Prop}
end
section
variable {X:Cx} {o i e value:Expr} {pos pos' tpos:Pos} {td ty tv:TE}
end
section
variable {X:Cx} {pos:Pos}
end
structure M1 (X:Cx) (o:Expr) (m:Str) (apos:Pos) (e:Expr) (cpos:Pos):Prop where
 base:attributeBase o m X.env (eval o X.env)=eval o X.env
 few:((backTo cpos (starEach [e] X.env)).all (fun x=> !x.1) && (backToKw cpos (keywordEach [] X.env)).all (fun x=>x.1.isSome)
  && decide (([e]:List Expr).length+([]:List Keyword).length+(if ([]:List Keyword).isEmpty then 0 else 1)<30))=true
 line:(apos.endLine==cpos.line)=true
 trees:backTo cpos (starEach [e] X.env) = [(false,eval e X.env)]
structure M2 (X:Cx) (o:Expr) (m:Str) (apos:Pos) (e f:Expr) (cpos:Pos):Prop where
 base:attributeBase o m X.env (eval o X.env)=eval o X.env
 few:((backTo cpos (starEach [e,f] X.env)).all (fun x=> !x.1) && (backToKw cpos (keywordEach [] X.env)).all (fun x=>x.1.isSome)
  && decide (([e,f]:List Expr).length+([]:List Keyword).length+(if ([]:List Keyword).isEmpty then 0 else 1)<30))=true
 line:(apos.endLine==cpos.line)=true
 trees:backTo cpos (starEach [e,f] X.env) = [(false,eval e X.env),(false,eval f X.env)]
section
variable {X:Cx} {pins:List (Addr×Obj)} {σ:St} {H:Hp} {s:Shared} {a:Addr} {y d:V} {u r:Value} {o:Option V} {A:Around} {E:Value->Shared->Prop}
end
section
variable {X:Cx} {o e f:Expr} {apos cpos:Pos} {td ty tx:TE}
end
section
variable {X:Cx} {pins:List (Addr×Obj)} {σ:St} {H:Hp} {s:Shared} {a:Addr} {kvs:List (Key×V)} {A:Around} {E:Value->Shared->Prop}
end
section
variable {X:Cx} {pins:List (Addr×Obj)} {σ:St} {H:Hp} {s:Shared} {a:Addr} {y:V} {u:Value} {A:Around} {E:Value->Shared->Prop}
end
section
variable {κ:Type} [DecidableEq κ]
end
end L2
namespace Tf
open PySem PySem.Spec PyProof.Rows L2
theorem bt_isinstance:bootBuiltins "isinstance" = some (.builtin "isinstance"):=by decide +kernel
theorem bt_len:bootBuiltins "len" = some (.builtin "len"):=by decide +kernel
theorem bt_max:bootBuiltins "max" = some (.builtin "max"):=by decide +kernel
theorem bt_min:bootBuiltins "min" = some (.builtin "min"):=by decide +kernel
theorem bt_all:bootBuiltins "all" = some (.builtin "all"):=by decide +kernel
theorem bt_any:bootBuiltins "any" = some (.builtin "any"):=by decide +kernel
theorem bt_int:bootBuiltins "int" = some (.type "int"):=by decide +kernel
theorem bt_bool:bootBuiltins "bool" = some (.type "bool"):=by decide +kernel
theorem bt_str:bootBuiltins "str" = some (.type "str"):=by decide +kernel
theorem bt_list:bootBuiltins "list" = some (.type "list"):=by decide +kernel
theorem bt_tuple:bootBuiltins "tuple" = some (.type "tuple"):=by decide +kernel
def Bt(n:Nat)(i:Int):Prop:=i.natAbs<2 ^ n
theorem Bt.add{n m:Nat}{i j:Int}(h:Bt n i)(k:Bt m j):Bt (max n m+1) (i+j):=by
 unfold Bt at *
 have h1:i.natAbs<2 ^ (max n m):=Nat.lt_of_lt_of_le h (Nat.pow_le_pow_right (by decide) (Nat.le_max_left _ _));have h2:j.natAbs<2 ^ (max n m):=Nat.lt_of_lt_of_le k (Nat.pow_le_pow_right (by decide) (Nat.le_max_right _ _));have h3:=Int.natAbs_add_le i j;rw [Nat.pow_succ];omega
theorem Bt.neg{n:Nat}{i:Int}(h:Bt n i):Bt n (-i):=by
 unfold Bt at *
 rw [Int.natAbs_neg];exact h
theorem Bt.natAbs{n:Nat}{i:Int}(h:Bt n i):Bt n (i.natAbs:Int):=by
 unfold Bt at *
 simpa using h
theorem Bt.of_le{n:Nat}{i j:Int}(h:Bt n j)(k:i.natAbs<=j.natAbs):Bt n i:=Nat.lt_of_le_of_lt k h
theorem Bt.fdiv{n:Nat}{i j:Int}(h:Bt n i):Bt n (i.fdiv j):=by
 refine h.of_le ?_
 by_cases hj:j=0
 . subst hj;simp
 . have key : ∀ (a b : Int), 0 < b -> (a.fdiv b).natAbs <= a.natAbs := by
    intro a b hb;rw [Int.fdiv_eq_ediv_of_nonneg a (Int.le_of_lt hb)];exact Int.natAbs_ediv_le_natAbs a b
   rcases (by omega:0<j\/j<0) with p | p
   . exact key i j p
   . have:=key (-i) (-j) (by omega);rw [Int.neg_fdiv_neg] at this
     simpa using this
theorem Bt.fmod{n:Nat}{i j:Int}(hj:j≠0)(h:Bt n j):Bt n (i.fmod j):=by
 refine h.of_le ?_;rcases (by omega:0<j\/j<0) with p | p
 . have h1:=Int.fmod_nonneg_of_pos i p;have h2:=Int.fmod_lt_of_pos i p;omega
 . have e : i.fmod j = -((-i).fmod (-j)) := by
    rw [Int.fmod_def,Int.fmod_def,Int.neg_fdiv_neg];simp [Int.neg_mul];omega
   have h1:=Int.fmod_nonneg_of_pos (-i) (show 0 < -j by omega);have h2:=Int.fmod_lt_of_pos (-i) (show 0 < -j by omega);omega
theorem Bt.zero(n:Nat):Bt n 0:=by
 unfold Bt;simpa using Nat.pow_pos (by decide)
theorem Bt.bits{n:Nat}{i:Int}(h:Bt n i):Builtin.Int.intBits i<=n:=by
 unfold Builtin.Int.intBits
 split
 . exact Nat.zero_le _
 . rename_i hz
   have h0:i.natAbs≠0:=by
    intro e;apply hz;have:i=0:=by omega
    subst this;rfl
   exact (Nat.log2_lt h0).mpr h
theorem Bt.log{n:Nat}{i:Int}(h:Bt n i)(hn:0<n):i.natAbs.log2<n:=by
 by_cases h0:i.natAbs=0
 . rw [h0];simpa using hn
 . exact (Nat.log2_lt h0).mpr h
theorem mulOk{n m:Nat}{i j:Int}(h:Bt n i)(k:Bt m j)(hn:n+m<=134217728):IntMulOk i j:=by
 unfold IntMulOk;have hb1:=h.bits;have hb2:=k.bits
 have:Builtin.Int.intTooBig (Builtin.Int.intBits i+Builtin.Int.intBits j)=false:=by
  unfold Builtin.Int.intTooBig;apply decide_eq_false;unfold bitsLine;have:(2:Nat) ^ 27=134217728:=by decide
  rw [this];omega
 rw [this];simp
def CMulB(i j:Int):Prop:=∃n m,Bt n i/\Bt m j/\n+m<=134217728
def CDivB(_i j:Int):Prop:=j≠0/\Bt 9000 j
section
variable {X:Cx}
theorem op_fdivB:OpR X (binaryOp .FloorDiv) (rI CDivB fun i j=> .int (i.fdiv j)):=opI fun _ _ _ _ _ _ _ hc q=>floordiv_int hc.1 q (.inl (PyProof.noPylong_of_log2 (hc.2.log (by decide))))
theorem Bt.lit{n:Nat}{i:Int}(h:decide (i.natAbs<2 ^ n)=true):Bt n i:=(of_decide_eq_true h:i.natAbs<2 ^ n)
theorem pe_ty {x:Str} {T:String} {pos:Pos} (hg:Gl X x) (hm:X.mg x=none) (hv:bootBuiltins x=some (.type T)) (hn:x ≠ "__name__" :=by decide) (hd:(x==("__debug__" : Str))=false:=by decide):PE X (.Name x pos) (tC (.ty T)) :=
 pe_bltn hg hm hv rfl hn hd
inductive TyV (K:PySem.W.Frag) (H:Hp):V->String->Prop where
 | non:TyV K H .non "NoneType"
 | bl (x:Bool):TyV K H (.bl x) "bool"
 | int (i:Int):TyV K H (.int i) "int"
 | str (x:Str):TyV K H (.str x) "str"
 | lst {a:Addr} {xs:List V} (e:SqL K H a xs):TyV K H (.ref a) "list"
 | tup {a:Addr} {xs:List V} (e:SqT K H a xs):TyV K H (.ref a) "tuple"
theorem isinst_ty {pins : List (Addr × Obj)} {σ : L2.St} {H : Hp} {s : Shared} {A : Around} {E : Value -> Shared -> Prop} {Q : Value -> Shared -> Prop} {c : Value} {b : Bool} {x : V} {u : Value} {t : String} (I : Inv X pins σ H s) (rx : RelV x u) (ty : TyV X.K H x t) (e : PySem.W.kitOne X.K (.type t) c = some b) (h : ∀ tk, Q (.bool b) { s with toks := tk }) :
 wpAny (model X.prog X.w) A (call (.builtin "isinstance") [u,c]) Q E s:=by
 cases ty with
 | non=>cases (show u=Value.none from rx);exact PySem.W.kia_one PySem.W.kitx_none I.kIn True.intro e (fun z=>nomatch z) h
 | bl y=>cases (show u=Value.bool y from rx);exact PySem.W.kia_one PySem.W.kitx_bool I.kIn True.intro e (fun z=>nomatch z) h
 | int i=>obtain ⟨t,q⟩:=(show ∃t,u=Value.int i t from rx);cases q;exact PySem.W.kia_one PySem.W.kitx_int I.kIn True.intro e (fun z=>nomatch z) h
 | str y=>obtain ⟨t,q⟩:=(show ∃t,u=Value.str y t from rx);cases q;exact PySem.W.kia_one PySem.W.kitx_str I.kIn True.intro e (fun z=>nomatch z) h
 | @lst a xs ea=>
  cases (show u=Value.ref a from rx)
  obtain ⟨its,_,⟨o,n,h1,h2,_⟩,_⟩:=I.list ea
  exact PySem.W.kia_one PySem.W.kitx_list I.kIn ⟨o,h1,h2⟩ e (fun z=>nomatch z) h
 | @tup a xs ea=>
  cases (show u=Value.ref a from rx)
  obtain ⟨its,_,⟨o,h1,h2,_⟩,_⟩:=I.tuple ea;exact PySem.W.kia_one PySem.W.kitx_tuple I.kIn ⟨o,h1,h2⟩ e (fun z=>nomatch z) h
def rIsI(K:PySem.W.Frag):List V->Hp->VK->Prop:=fun xs H Q=>∃x n t b,xs = [x, .ty n]/\TyV K H x t/\PySem.W.kitOne K (.type t) (.type n)=some b/\Q (.bl b) H
theorem call_isi:CallR X (.builtin "isinstance") (rIsI X.K):=by
 intro pins s σ H xs us Q I r h;obtain ⟨x,n,t,b,rfl,ty,e,q⟩:=h;obtain ⟨u,w',rfl,rx,rn⟩:=vals2 r
 cases (show w'=Value.type n from rn)
 exact isinst_ty I rx ty e fun tk=>⟨.bl b,H,I.tok _,rfl,q⟩
def keyD:Key->PyData
 | .inl i=> .int i
 | .inr x=> .str x
def tupD(k:List Key):PyData:= .tuple (k.map keyD)
def mkD:PyData×PyData:=(.none, .none)
mutual
inductive Rep (K:PySem.W.Frag) (H:Hp):V->PyData->Prop
 | none:Rep K H .non .none
 | bool (b:Bool):Rep K H (.bl b) (.bool b)
 | int (i:Int):Rep K H (.int i) (.int i)
 | str (x:Str):Rep K H (.str x) (.str x)
 | list {a:Addr} {xs:List V} {ds:List PyData}:SqL K H a xs->Reps K H xs ds->Rep K H (.ref a) (.list ds)
 | tuple {a:Addr} {xs:List V} {ds:List PyData}:H a=some (.tup xs)->Reps K H xs ds->Rep K H (.ref a) (.tuple ds)
 | dict {a:Addr} {ks:List (List Key)} {xs:List V} {ds:List PyData}:Rd H a (.dT (ks.zip xs))->ks.length=xs.length->Reps K H xs ds->Rep K H (.ref a) (.dict ((ks.map tupD).zip ds))
 | dictF {a:Addr} {o:Obj} {ks:List (List Key)} {xs:List V} {ds:List PyData}:H a=some (.frz o (.dT (ks.zip xs)))->ks.length=xs.length->Reps K H xs ds->Rep K H (.ref a) (.dict (mkD::(ks.map tupD).zip ds))
inductive Reps (K:PySem.W.Frag) (H:Hp):List V->List PyData->Prop
 | nil:Reps K H [] []
 | cons {v:V} {vs:List V} {d:PyData} {ds:List PyData}:Rep K H v d->Reps K H vs ds->Reps K H (v::vs) (d::ds)
end
theorem Reps.length{K:PySem.W.Frag}{H:Hp}:∀ {vs:List V} {ds:List PyData},Reps K H vs ds->vs.length=ds.length
 | _,_, .nil=>rfl
 | _,_, .cons _ t=>by rw [List.length_cons,List.length_cons,Reps.length t]
mutual
theorem Rep.reads{pins:List (Addr×Obj)}{σ:L2.St}{H:Hp}{s:Shared}(I:Inv X pins σ H s):∀ {v:V} {d:PyData} {u:Value},Rep X.K H v d->RelV v u->d.canLay0=true->∃as,Reads s.heap u d as
 | _,_,_, .none,r,_=>by cases (show _=Value.none from r);exact ⟨_, .none⟩
 | _,_,_, .bool b,r,_=>by cases (show _=Value.bool b from r);exact ⟨_, .bool b⟩
 | _,_,_, .int i,r,_=>by obtain ⟨t,q⟩:=(show ∃t,_=Value.int i t from r);cases q;exact ⟨_, .int i t⟩
 | _,_,_, .str x,r,_=>by obtain ⟨t,q⟩:=(show ∃t,_=Value.str x t from r);cases q;exact ⟨_, .str x t⟩
 | _,_,_, .list (a:=a) h hs,r,c=>by
  cases (show _=Value.ref a from r)
  obtain ⟨its,rv,⟨o,n,h1,h2,_,h3⟩,_⟩:=I.list h;obtain ⟨as,ra⟩:=Reps.reads I hs rv (by simpa [PyData.canLay0] using c)
  exact ⟨_, .list h1 h2 h3 (by simpa using ra)⟩
 | _,_,_, .tuple (a:=a) h hs,r,c=>by
  cases (show _=Value.ref a from r)
  obtain ⟨its,rv,⟨o,h1,h2,n,h3⟩,_⟩:=I.tuple (SqT.of h);obtain ⟨as,ra⟩:=Reps.reads I hs rv (by simpa [PyData.canLay0] using c)
  exact ⟨_, .tuple h1 h2 h3 (by simpa using ra)⟩
 | _,_,_, .dict _ _ _,_,c=>by simp [PyData.canLay0] at c
 | _,_,_, .dictF _ _ _,_,c=>by simp [PyData.canLay0] at c
theorem Reps.reads{pins:List (Addr×Obj)}{σ:L2.St}{H:Hp}{s:Shared}(I:Inv X pins σ H s):∀ {vs:List V} {ds:List PyData} {us:List Value},Reps X.K H vs ds->Vals vs us->PyData.canLayAll0 ds=true->∃as,ReadsAll s.heap us ds as
 | _,_,_, .nil,r,_=>by cases r;exact ⟨_, .nil⟩
 | _,_,_, .cons h hs,r,c=>by
  have c:=Bool.and_eq_true_iff.mp (show (_ && _)=true by rw [<-PyData.canLayAll0];exact c)
  cases r with
  | cons r1 r2=>
   obtain ⟨as,q⟩:=Rep.reads I h r1 c.1;obtain ⟨bs,q2⟩:=Reps.reads I hs r2 c.2;exact ⟨_, .cons q q2⟩
end
theorem layAll_of:∀ {ds:List PyData},(∀d ∈ ds,d.canLay0=true)->PyData.canLayAll0 ds=true
 | [],_=>by simp [PyData.canLayAll0]
 | d::ds,h=>by
  simp only [PyData.canLayAll0,Bool.and_eq_true];exact ⟨h d List.mem_cons_self,layAll_of fun e he=>h e (List.mem_cons_of_mem _ he)⟩
def rEqD(K:PySem.W.Frag):R2:=fun x y H Q=>∃dx dy,Rep K H x dx/\Rep K H y dy/\dx.canLay0=true/\dy.canLay0=true/\min dx.depth dy.depth<=60/\Q (.bl (PyData.eqv dx dy)) H
def rNeD(K:PySem.W.Frag):R2:=fun x y H Q=>∃dx dy,Rep K H x dx/\Rep K H y dy/\dx.canLay0=true/\dy.canLay0=true/\min dx.depth dy.depth<=60/\Q (.bl (!PyData.eqv dx dy)) H
theorem op_eqD(hu:X.A.units+64<cLine):OpR X (compareOp .Eq) (rEqD X.K):=by
 intro pins s σ H x y v u Q I rx ry h;obtain ⟨dx,dy,h1,h2,c1,c2,hd,q⟩:=h;obtain ⟨as,r1⟩:=h1.reads I rx c1;obtain ⟨bs,r2⟩:=h2.reads I ry c2;exact SeqAt.compareEq_reads r1 r2 c1 c2 (by omega) ⟨.bl _,H,I,rfl,q⟩
theorem op_neD(hu:X.A.units+64<cLine):OpR X (compareOp .NotEq) (rNeD X.K):=by
 intro pins s σ H x y v u Q I rx ry h;obtain ⟨dx,dy,h1,h2,c1,c2,hd,q⟩:=h;obtain ⟨as,r1⟩:=h1.reads I rx c1;obtain ⟨bs,r2⟩:=h2.reads I ry c2;exact SeqAt.compareNe_reads r1 r2 c1 c2 (by omega) ⟨.bl _,H,I,rfl,q⟩
end
theorem _root_.L2.Same.upd{H:Hp}{p:Addr}(h:H p=none)(o:HO):Same H (L2.upd H p o):=fun b u q=>by rw [upd_ne (ne_of_none q h)];exact q
theorem _root_.L2.Same.seqT{K:PySem.W.Frag}{H H':Hp}{a:Addr}{xs:List V}(e:Same H H')(h:SqT K H a xs):SqT K H' a xs:=by
 rcases h with (h | ⟨o,h⟩) | h
 . exact .inl (.inl (e _ _ h))
 . exact .inl (.inr ⟨o,e _ _ h⟩)
 . exact .inr h
theorem Rd.same{H H':Hp}{a:Addr}{u:HO}(e:Same H H')(h:Rd H a u):Rd H' a u:=by
 rcases h with h | ⟨o,h⟩
 . exact .inl (e _ _ h)
 . exact .inr ⟨o,e _ _ h⟩
mutual
theorem Rep.same{K:PySem.W.Frag}{H H':Hp}(e:Same H H'):∀ {v:V} {d:PyData},Rep K H v d->Rep K H' v d
 | _,_, .none=> .none
 | _,_, .bool b=> .bool b
 | _,_, .int i=> .int i
 | _,_, .str x=> .str x
 | _,_, .list h hs=> .list (e.seq h) (Reps.same e hs)
 | _,_, .tuple h hs=> .tuple (e _ _ h) (Reps.same e hs)
 | _,_, .dict h hl hs=> .dict (Rd.same e h) hl (Reps.same e hs)
 | _,_, .dictF h hl hs=> .dictF (e _ _ h) hl (Reps.same e hs)
theorem Reps.same{K:PySem.W.Frag}{H H':Hp}(e:Same H H'):∀ {vs:List V} {ds:List PyData},Reps K H vs ds->Reps K H' vs ds
 | _,_, .nil=> .nil
 | _,_, .cons h hs=> .cons (Rep.same e h) (Reps.same e hs)
end
section
variable {CX:CXT} {P:Program} {w:World} {K:PySem.W.Frag} {mg:Str->Option Value} {base:Heap} {N:List Str} {qual:Str} {scope:Scope} {f:Addr} {cd:Value} {A:Around} {outer:List Env} {s:Shared} {H:Hp} {E:XK}
end
structure Def (P:Program) (w:World) (K:PySem.W.Frag) (mg:Str->Option Value) (base:Heap) (k:Nat) (x:Str) (ps:List Str) (sp:Sp):Prop where
 ex:∃f fd,FnOk P w K mg base CX0 k f fd ps sp/\mg x=some (.ref f)/\PySem.W.keepIn K (.ref f)=true/\Binds K fd ps []
section
variable {X:Cx} {k j:Nat} {x:Str} {ps:List Str} {sp:Sp} {p pos:Pos} {e:Expr} {es:List Expr} {t:TA}
theorem pe_callD (D : Def X.prog X.w X.K X.mg X.base j x ps sp) (hr : Room k X.A) (ha : PA X (e :: es) t) (hj : j <= k := by decide) (hg : Gl X x := by rfl)
 (hdb:(x==("__debug__" : Str))=false:=by decide) (he:starEach (e::es) X.env=(false,eval e X.env)::starEach es X.env:=by rfl) (hpl:(backTo pos (starEach es X.env)).any (·.1)=false:=by rfl) :
 PE X (.Call (.Name x p) (e::es) [] pos) (tCall sp [] E0 t):=by
 obtain ⟨f,fd,F,hm,hk,hb⟩:=D.ex;exact pe_call F (hr.mono hj) hg hm hk hb .nil pass0 ha hdb he hpl
end
end Tf
namespace Tf
open PySem PySem.Spec PyProof.Rows L2
def closL(cells:List (Str×Addr)):List (Str×NameKind)->List (Str×Addr)->List (Str×Addr)
 | [],acc=>acc
 | (n,k)::r,acc=>if k == .free then closL cells r ((n,(cells.lookup n).getD 0)::acc) else closL cells r acc
theorem closL_forIn {env : Env} : ∀ (names : List (Str × NameKind)) (acc : List (Str × Addr)), (∀ y ∈ names, y.2 = .free -> ∃ c, env.cells.lookup y.1 = some c) ->
 (forIn names acc fun (x:Str×NameKind) (r:List (Str×Addr))=>(match x with | (name,kind)=>if (kind==NameKind.free)=true then do let a <-cellOf env name;pure (ForInStep.yield ((name,a)::r)) else pure (ForInStep.yield r):Sem (ForInStep (List (Str×Addr)))))=pure (closL env.cells names acc)
 | [],acc,_=>by rw [List.forIn_nil];rfl
 | (n,k)::r,acc,h=>by
  have ih:=fun acc=>closL_forIn r acc fun y hy=>h y (List.mem_cons_of_mem _ hy);rw [List.forIn_cons];unfold closL
  by_cases hk:(k==NameKind.free)=true
  . obtain ⟨c,hc⟩:=h (n,k) List.mem_cons_self (by simpa using hk);have e:cellOf env n=pure c:=by unfold cellOf;rw [hc]
    simp only [hk,if_true,e];rw [hc];exact ih ((n,c)::acc)
  . simp only [hk,if_false];exact ih acc
theorem closureFor_eq{scope:Scope}{env:Env}(h:∀y ∈ scope.names,y.2 = .free->∃c,env.cells.lookup y.1=some c):closureFor scope env=pure (closL env.cells scope.names []):=by
 unfold closureFor;have:=closL_forIn (env:=env) scope.names [] h;simp only [bind_pure];exact this
theorem closL_of{cells:List (Str×Addr)}:∀ {names:List (Str×NameKind)} {acc:List (Str×Addr)} {x:Str} {c:Addr},(closL cells names acc).lookup x=some c->acc.lookup x=some c\/((x,NameKind.free) ∈ names/\c=(cells.lookup x).getD 0)
 | [],_,_,_,h=> .inl h
 | (n,k)::r,acc,x,c,h=>by
  unfold closL at h
  split at h
  . rename_i hk;rcases closL_of h with q | ⟨q,e⟩
    . rw [List.lookup_cons] at q
      cases hx:x==n with
      | true=>
       rw [hx] at q
       have e:=beq_iff_eq.mp hx;subst e;have hk':k = .free:=by simpa using hk
       subst hk'
       exact .inr ⟨List.mem_cons_self,(Option.some.inj q).symm⟩
      | false=>rw [hx] at q;exact .inl q
    . exact .inr ⟨List.mem_cons_of_mem _ q,e⟩
  . rcases closL_of h with q | ⟨q,e⟩
    . exact .inl q
    . exact .inr ⟨List.mem_cons_of_mem _ q,e⟩
theorem closL_acc{cells:List (Str×Addr)}:∀ {names:List (Str×NameKind)} {acc:List (Str×Addr)} {x:Str},acc.lookup x=some ((cells.lookup x).getD 0)->(closL cells names acc).lookup x=some ((cells.lookup x).getD 0)
 | [],_,_,h=>h
 | (n,k)::r,acc,x,h=>by
  unfold closL
  split
  . refine closL_acc ?_;rw [List.lookup_cons]
    cases hx:x==n with
    | true=>have e:=beq_iff_eq.mp hx;subst e;rfl
    | false=>exact h
  . exact closL_acc h
theorem closL_free{cells:List (Str×Addr)}:∀ {names:List (Str×NameKind)} {acc:List (Str×Addr)} {x:Str},(x,NameKind.free) ∈ names->(closL cells names acc).lookup x=some ((cells.lookup x).getD 0)
 | (n,k)::r,acc,x,h=>by
  unfold closL;rcases List.mem_cons.mp h with e | h
  . cases e
    simp only [beq_self_eq_true,if_true];exact closL_acc (by rw [List.lookup_cons,beq_self_eq_true])
  . split
    . exact closL_free h
    . exact closL_free h
theorem cf_app:∀(names:List (Str×NameKind)) (n:Nat) (acc:List (Str×Addr)),cellsFrom n names acc=cellsFrom n names []++acc
 | [],_,_=>rfl
 | (x,k)::r,n,acc=>by
  unfold cellsFrom
  split
  . rw [cf_app r (n+1) ((x,n)::acc),cf_app r (n+1) [(x,n)],List.append_assoc];rfl
  . exact cf_app r n acc
theorem lookup_app{α:Type}(x:Str):∀(a b:List (Str×α)),(a++b).lookup x=(match a.lookup x with | some c=>some c | none=>b.lookup x)
 | [],b=>rfl
 | (k,v)::r,b=>by
  rw [List.cons_append,List.lookup_cons,List.lookup_cons]
  cases hx:x==k with
  | true=>rfl
  | false=>exact lookup_app x r b
theorem cf_has:∀ {names:List (Str×NameKind)} {n:Nat} {acc:List (Str×Addr)} {x:Str},(x,NameKind.cell) ∈ names->∃c,(cellsFrom n names acc).lookup x=some c
 | (y,k)::r,n,acc,x,h=>by
  unfold cellsFrom;rcases List.mem_cons.mp h with e | h
  . obtain ⟨rfl,rfl⟩:=Prod.mk.inj e;simp only [beq_self_eq_true,if_true];rw [cf_app,lookup_app]
    cases q:(cellsFrom (n+1) r []).lookup x with
    | some c=>exact ⟨c,rfl⟩
    | none=>exact ⟨n,by simp [List.lookup_cons]⟩
  . split
    . exact cf_has h
    . exact cf_has h
theorem cf_mem:∀ {names:List (Str×NameKind)} {n:Nat} {x:Str} {c:Addr},(x,c) ∈ cellsFrom n names []->(x,NameKind.cell) ∈ names
 | (y,k)::r,n,x,c,h=>by
  unfold cellsFrom at h
  split at h
  . rename_i hk;rw [cf_app] at h
    rcases List.mem_append.mp h with q | q
    . exact List.mem_cons_of_mem _ (cf_mem q)
    . have hk':k = .cell:=by simpa using hk
      subst hk';have e:(x,c)=(y,n):=by simpa using q
      cases e
      exact List.mem_cons_self
  . exact List.mem_cons_of_mem _ (cf_mem h)
def relabelS(sc osc:Scope):Scope:=
 {sc with names:=sc.names.map fun (n,k)=>if (k == .free && osc.kind == .function && osc.names.lookup n==some .cell) then (n, .cell) else (n,k)}
theorem relabel_eq(sc:Scope)(env:Env):relabel sc env=relabelS sc env.scope:=rfl
theorem relabelS_lookup {osc : Scope} : ∀ {names : List (Str × NameKind)} {x : Str} {k : NameKind}, (names.map fun (p : Str × NameKind) => (match p with | (n, k) => if (k == NameKind.free && osc.kind == .function && osc.names.lookup n == some NameKind.cell) = true then (n, NameKind.cell) else (n, k))).lookup x = some k ->
 ∃k',names.lookup x=some k'/\(k'=k\/(k' = .free/\k = .cell))
 | [],_,_,h=>by simp at h
 | (n,k0)::r,x,k,h=>by
  rw [List.map_cons] at h
  by_cases hc:(k0==NameKind.free && osc.kind == .function && osc.names.lookup n==some NameKind.cell)=true
  . simp only [hc,if_true] at h
    rw [List.lookup_cons] at h
    cases hx:x==n with
    | true=>
     rw [hx] at h
     simp only [Option.some.injEq] at h
     subst h;refine ⟨k0,by rw [List.lookup_cons,hx], .inr ⟨?_,rfl⟩⟩;simp only [Bool.and_eq_true,beq_iff_eq] at hc
     exact hc.1.1
    | false=>
     rw [hx] at h
     obtain ⟨k',e,d⟩:=relabelS_lookup h;exact ⟨k',by rw [List.lookup_cons,hx];exact e,d⟩
  . simp only [if_neg hc] at h
    rw [List.lookup_cons] at h
    cases hx:x==n with
    | true=>
     rw [hx] at h
     simp only [Option.some.injEq] at h
     subst h
     exact ⟨k0,by rw [List.lookup_cons,hx], .inl rfl⟩
    | false=>
     rw [hx] at h
     obtain ⟨k',e,d⟩:=relabelS_lookup h;exact ⟨k',by rw [List.lookup_cons,hx];exact e,d⟩
theorem lookup_of_mem{α:Type}:∀ {l:List (Str×α)} {x:Str} {k:α},(l.map (·.1)).Nodup->(x,k) ∈ l->l.lookup x=some k
 | (y,j)::r,x,k,nd,h=>by
  rw [List.map_cons,List.nodup_cons] at nd
  rw [List.lookup_cons];rcases List.mem_cons.mp h with e | h'
  . cases e;rw [beq_self_eq_true]
  . have : (x == y) = false := by
     apply beq_eq_false_iff_ne.mpr;intro e;subst e;exact nd.1 (List.mem_map.mpr ⟨_,h',rfl⟩)
    rw [this];exact lookup_of_mem nd.2 h'
def csOk(osc sc:Scope)(N N':List Str)(ix:List (Option Nat)):Bool:=
 decide (sc.kind = .function) && decide (osc.kind = .function) && sc.names.all (fun y=>decide (y.2 = .local->sc.names.lookup y.1=some .local)) &&
 sc.names.all (fun y=>decide (y.2 = .free->(osc.names.lookup y.1=some .cell\/osc.names.lookup y.1=some .free))) && decide (N'.Nodup) && decide ((sc.names.map (·.1)).Nodup) && decide (N'.length=ix.length) &&
 (List.range ix.length).all fun i=>match ix[i]? with
  | some (some j)=>decide (N[j]? = N'[i]?) && (match N'[i]? with | some x=>decide (sc.names.lookup x=some .free) | none=>false)
  | _=>true
structure CS (osc sc:Scope) (N N':List Str) (ix:List (Option Nat)):Prop where
 kind:sc.kind = .function
 okind:osc.kind = .function
 names:∀y ∈ sc.names,y.2 = .local->sc.names.lookup y.1=some .local
 free:∀y ∈ sc.names,y.2 = .free->osc.names.lookup y.1=some .cell\/osc.names.lookup y.1=some .free
 nd:N'.Nodup
 ns:(sc.names.map (·.1)).Nodup
 len:N'.length=ix.length
 ixs:∀(i j:Nat),ix[i]? = some (some j)->∃x,N'[i]? = some x/\N[j]? = some x/\sc.names.lookup x=some .free
theorem CS.of{osc sc:Scope}{N N':List Str}{ix:List (Option Nat)}(h:csOk osc sc N N' ix=true):CS osc sc N N' ix:=by
 unfold csOk at h
 simp only [Bool.and_eq_true,List.all_eq_true,decide_eq_true_eq] at h
 obtain ⟨⟨⟨⟨⟨⟨⟨h1,h2⟩,h3⟩,h4⟩,h5⟩,h8⟩,h6⟩,h7⟩:=h;refine ⟨h1,h2,h3,h4,h5,h8,h6,fun i j e=> ?_⟩;have hi:i<ix.length:=(List.getElem?_eq_some_iff.mp e).1;have q:=h7 i (List.mem_range.mpr hi);rw [e] at q
 simp only [Bool.and_eq_true,decide_eq_true_eq] at q
 cases e2:N'[i]? with
 | none=>rw [e2] at q;exact absurd q.2 (by simp)
 | some x=>
  rw [e2] at q
  exact ⟨x,rfl,q.1,by simpa using q.2⟩
def subS(ix:List (Option Nat))(σ:L2.St):L2.St:=ix.map fun o=>match o with | some j=>(σ[j]?).join | none=>none
structure CB where
 C:Addr
 s₀:Shared
 H₀:Hp
 ex:List Addr
 xe:Value->Shared->Prop
def cEnv(osc sc:Scope)(cl:List (Str×Addr))(C:Addr)(env:Env):Env:=
 {scope:=relabelS sc osc,locals:=C,globals:=env.globals,cells:=cellsFrom (C+1) sc.names cl,qual:=env.qual,func:=none,code:=env.code,frame:=env.frame,builtins:=env.builtins}
def cxC(X:Cx)(osc sc:Scope)(N':List Str)(b:CB):Cx where
 prog:=X.prog
 w:=X.w
 K:=X.K
 mg:=X.mg
 base:=X.base
 A:=X.A
 N:=N'
 s₀:=b.s₀
 H₀:=b.H₀
 env:=cEnv osc sc (closL X.env.cells sc.names []) b.C X.env
 outer:=X.stack
 stack:=X.stack
 ex:=b.ex
 fn:=fun x=>decide (sc.names.lookup x=some .cell)
 calm:=X.calm
 pn:= []
 xe:=b.xe
def accObj:Obj:={cls:= .type "list",dict:=none,data:= .seq ([]:List Value).toArray}
def dctObj:Obj:={cls:= .type "dict",data:= .dict #[]}
def blkHeap(h:Heap)(sc:Scope):Heap:=pushCells ((h.push accObj).push dctObj) sc.names
theorem blk_keeps{h:Heap}{sc:Scope}:∀b o,h.get? b=some o->(blkHeap h sc).get? b=some o:=fun b o e=>pushCells_keeps _ _ b o (Heap.get?_push_of_some _ (Heap.get?_push_of_some _ e))
theorem wpAny_newEnv_comp {M : Model} {A : Around} {E : Value -> Shared -> Prop} {s : Shared} {scope : Scope} {globals : Addr} {cl : List (Str × Addr)} {qual : Str} {env : Env} {Q : Env -> Shared -> Prop}
 (h:Q (newEnv scope s.heap.objs.size globals (cellsFrom (s.heap.objs.size+1) scope.names cl) qual none .none (some env) builtinsNs) {s with heap:=pushCells (s.heap.push dctObj) scope.names}) :
 wpAny M A (newFunctionEnv scope globals cl [] qual none .none (some env)) Q E s:=by
 simp only [newFunctionEnv,Option.isSome_some,if_true];refine wpAny_bind (wpAny_alloc ?_);refine wpAny_bind (wpAny_layCells _ (fun name kind cells=>by cases hkc:kind==NameKind.cell <;> simp [hkc]) _ _ _ _ ?_);rw [show ({s with heap:=s.heap.push {cls:= .type "dict",data:= .dict #[]} }:Shared).heap.objs.size=s.heap.objs.size+1 from Heap.size_push ..];simp only [List.forIn_nil];exact wpAny_bind (wpAny_pure (wpAny_pure h))
section
variable {X:Cx} {pins:List (Addr×Obj)} {σ:L2.St} {H:Hp} {s:Shared} {osc sc:Scope} {N':List Str} {ix:List (Option Nat)} {fp:List Addr}
theorem closes(I:Inv X pins σ H s)(cs:CS osc sc X.N N' ix)(ho:X.env.scope=osc):∀y ∈ sc.names,y.2 = .free->∃c,X.env.cells.lookup y.1=some c:=fun y hy hf=>by
 refine I.ok.has y.1 ?_;have q:=cs.free y hy hf;rw [<-ho] at q
 exact q
theorem blk_cell (I : Inv X pins σ H s) (cs : CS osc sc X.N N' ix) (ho : X.env.scope = osc) {C : Addr} {x : Str} {c : Addr} (h : (cellsFrom (C + 1) sc.names (closL X.env.cells sc.names [])).lookup x = some c) :
 ((x,c) ∈ cellsFrom (C+1) sc.names [] )\/((x,NameKind.free) ∈ sc.names/\X.env.cells.lookup x=some c):=by
 rw [cf_app,lookup_app] at h
 cases e:(cellsFrom (C+1) sc.names []).lookup x with
 | some d=>rw [e] at h;cases h;exact .inl (mem_of_lookup e)
 | none=>
  rw [e] at h
  rcases closL_of h with q | ⟨q,d⟩
  . cases q
  . obtain ⟨c',hc⟩:=closes I cs ho _ q rfl;rw [show X.env.cells.lookup x=some c' from hc] at d
    exact .inr ⟨q,by rw [show X.env.cells.lookup x=some c' from hc];rw [d];rfl⟩
theorem inv_comp (I : Inv X pins σ H s) (cs : CS osc sc X.N N' ix) (ho : X.env.scope = osc) (hfp : ∀ b ∈ fp, FpOk X pins H b) (hlt : ∀ b ∈ fp, b < s.heap.objs.size) {xe : Value -> Shared -> Prop} :
 Inv (cxC X osc sc N' ⟨s.heap.objs.size+1,s,H,fp ++ [s.heap.objs.size],xe⟩) [] (subS ix σ) H {s with heap:=blkHeap s.heap sc}:=by
 have okc:=cellsFrom_ok sc.names ((s.heap.push accObj).push dctObj) (s.heap.objs.size+2) [] ⟨fun _ _ hm=>(nomatch hm),List.Pairwise.nil⟩ (by rw [Heap.size_push,Heap.size_push];exact Nat.le_refl _);have esz:((s.heap.push accObj).push dctObj).objs.size=s.heap.objs.size+1+1:=by rw [Heap.size_push,Heap.size_push]
 rw [esz] at okc
 have cell:=fun {x:Str} {c:Addr}=>blk_cell (C:=s.heap.objs.size+1) (x:=x) (c:=c) I cs ho;have oldc:∀ {x:Str} {c:Addr},X.env.cells.lookup x=some c -> @LT.lt Nat _ c s.heap.objs.size:=fun {x c} h=>(I.cell x c h).elim fun v hv=>hv.lt;have ltS:∀ {h:Heap} {b:Addr} {o:Obj},h.get? b=some o -> @LT.lt Nat _ b h.objs.size:=fun e=>Heap.lt_size e;have newc:∀ {x:Str} {c:Addr},(x,c) ∈ cellsFrom (s.heap.objs.size+1+1) sc.names []->s.heap.objs.size+2<=c:=fun {x c} h=>(okc.empty x c h).2
 have nsC:∃m,(blkHeap s.heap sc).Ns (s.heap.objs.size+1) m:=⟨_,by
  have q:=(Heap.Ns.new (s.heap.push accObj) (.type "dict")).keeps (pushCells_keeps sc.names _);rw [Heap.size_push] at q
  exact q⟩
 refine ⟨?ok,rfl,I.bare,Un.kept blk_keeps,?loc,?cell,I.hok.fresh (Nat.le_succ _),?freeC,?pin,I.hok.kept blk_keeps,?len⟩
 case ok=>
  refine ⟨I.ok.mod,cs.kind,I.ok.glob,I.ok.blt,Nat.le_succ _,?inj,?has,?cab,I.ok.hd,I.ok.frames, .inl rfl,?exf,I.bs,?bsz,?noex,?exfs,I.stack,I.stkFree,I.tb⟩
  case inj=>
   intro x y c hx hy;rcases cell hx with p | ⟨p,p'⟩ <;> rcases cell hy with q | ⟨q,q'⟩
   . exact name_of_addr okc.apart p q
   . have a1:=newc p;have a2:=oldc q';omega
   . have a1:=newc q;have a2:=oldc p';omega
   . exact I.ok.inj x y c p' q'
  case has=>
   intro x hx
   have key:∀k,(relabelS sc osc).names.lookup x=some k->(k = .cell\/k = .free)->∃c,(cellsFrom (s.heap.objs.size+1+1) sc.names (closL X.env.cells sc.names [])).lookup x=some c:=by
    intro k hk hk2;obtain ⟨k',e,d⟩:=relabelS_lookup hk;have hm:=mem_of_lookup e
    have:k' = .cell\/k' = .free:=by
     rcases d with d | d
     . rcases hk2 with r | r
       . exact .inl (d.trans r)
       . exact .inr (d.trans r)
     . exact .inr d.1
    rcases this with r | r
    . subst r;exact cf_has hm
    . subst r;rw [cf_app,lookup_app,closL_free hm]
      cases (cellsFrom (s.heap.objs.size+1+1) sc.names []).lookup x with
      | some c=>exact ⟨c,rfl⟩
      | none=>exact ⟨_,rfl⟩
   rcases hx with hx | hx
   . exact key _ hx (.inl rfl)
   . exact key _ hx (.inr rfl)
  case cab=>
   intro x c hf hc;have hf':sc.names.lookup x=some .cell:=of_decide_eq_true hf;rcases cell hc with p | ⟨p,p'⟩
   . have:=newc p;show s.heap.objs.size<=c;omega
   . rw [lookup_of_mem cs.ns p] at hf'
     cases hf'
  case exf=>
   intro b hb;rcases List.mem_append.mp hb with hb | hb
   . have hl : @LT.lt Nat _ b s.heap.objs.size:=hlt b hb;obtain ⟨f0,f1,f2,f3,f4,f5⟩:=hfp b hb;refine ⟨fun e=> ?_,fun x c hc e=> ?_⟩
     . have e:b=s.heap.objs.size+1:=e;subst e;omega
     . rcases cell hc with p | ⟨p,p'⟩
       . have:=newc p;subst e;omega
       . exact f4 x c p' e
   . have hb:b=s.heap.objs.size:=by simpa using hb
     subst hb;refine ⟨fun e=>Nat.succ_ne_self _ (Eq.symm (show s.heap.objs.size=s.heap.objs.size+1 from e)),fun x c hc e=> ?_⟩;rcases cell hc with p | ⟨p,p'⟩
     . have:=newc p;subst e;omega
     . have:=oldc p';subst e;omega
  case bsz=>exact Nat.le_trans I.ok.bsz I.sz
  case noex=>
   intro b o e hb;have e:X.base.get? b=some o:=e;rcases List.mem_append.mp hb with hb | hb
   . obtain ⟨f0,f1,f2,f3,f4,f5⟩:=hfp b hb;rcases f3 with f3 | f3
     . exact I.ok.noex b o e f3
     . have:=ltS e;have:=I.ok.bsz;omega
   . have hb:b=s.heap.objs.size:=by simpa using hb
     have:=ltS e;have:=I.ok.bsz;have:=I.sz;subst hb;omega
  case exfs=>
   intro b hb hf;have hf:=I.stkSub b hf;rcases List.mem_append.mp hb with hb | hb
   . obtain ⟨f0,f1,f2,f3,f4,f5⟩:=hfp b hb;rcases List.mem_cons.mp hf with e | hf
     . exact f1 e
     . exact f2 hf
   . have hb:b=s.heap.objs.size:=by simpa using hb
     rcases List.mem_cons.mp hf with e | hf
     . have l : @LT.lt Nat _ X.env.locals s.heap.objs.size:=I.lt;rw [hb] at e
       rw [<-e] at l
       omega
     . exact I.nofs (Nat.le_of_eq hb.symm) hf
 case loc=>
  obtain ⟨m',hm'⟩:=nsC;obtain ⟨m,hm,hl⟩:=I.loc;refine ⟨m',hm',fun i x v hx hv hvis=> ?_⟩;unfold subS at hv
  rw [List.getElem?_map] at hv
  cases e:ix[i]? with
  | none=>rw [e] at hv;cases hv
  | some o=>
   rw [e] at hv
   cases o with
   | none=>cases hv
   | some j=>
    simp only [Option.map_some,Option.some.injEq] at hv
    obtain ⟨y,h1,h2,h3⟩:=cs.ixs i j e;have hx':N'[i]? = some x:=hx;rw [h1] at hx'
    cases hx'
    have hj:σ[j]? = some (some v):=by
     cases q:σ[j]? with
     | none=>rw [q] at hv;cases hv
     | some z=>rw [q] at hv;simp only [Option.join_some] at hv;rw [hv]
    have hfree:=mem_of_lookup h3;have hk:=cs.free _ hfree rfl;rw [<-ho] at hk
    have hvis0:Vis X.env.scope x:=by
     rcases hk with r | r
     . exact .inr (.inl r)
     . exact .inr (.inr r)
    obtain ⟨u,ru,lk⟩:=hl j x v h2 hj hvis0;refine ⟨u,ru, .inr ⟨?_,?_⟩⟩
    . rcases hvis with q | q | q
      . obtain ⟨k',e',d⟩:=relabelS_lookup q;rw [h3] at e'
        cases e'
        rcases d with d | d
        . cases d
        . cases d.2
      . exact .inl q
      . exact .inr q
    . rcases lk with ⟨lk,_⟩ | ⟨_,c,hc,hcell⟩
      . have:X.env.scope.names.lookup x=some .local:=lk;rw [this] at hk
        rcases hk with r | r <;> cases r
      . refine ⟨c,?_,hcell.keeps blk_keeps⟩;show (cellsFrom (s.heap.objs.size+1+1) sc.names (closL X.env.cells sc.names [])).lookup x=some c;rw [cf_app,lookup_app,closL_free hfree,hc]
        cases e2:(cellsFrom (s.heap.objs.size+1+1) sc.names []).lookup x with
        | some d=>
         have:=lookup_of_mem cs.ns (cf_mem (mem_of_lookup e2));rw [h3] at this
         cases this
        | none=>rfl
 case cell=>
  intro x c hc;rcases cell hc with p | ⟨p,p'⟩
  . exact ⟨_,(okc.empty x c p).1⟩
  . obtain ⟨v,hv⟩:=I.cell x c p';exact ⟨v,hv.keeps blk_keeps⟩
 case freeC=>
  intro x c hc;rcases cell hc with p | ⟨p,p'⟩
  . have:=newc p;exact I.hok.fresh (by omega)
  . exact I.freeC x c p'
 case pin=>intro p hp;cases hp
 case len=>
  show (subS ix σ).length=N'.length;unfold subS;rw [List.length_map,cs.len]
def GK(S:Nat->Bool)(g:TG):Prop:=∀v σ H Q,g v σ H Q->g v σ H fun σ' H'=>Q σ' H'/\σ'.length=σ.length/\∀i:Nat,S i=false->σ'[i]? = σ[i]?
def PTs(X:Cx)(ifs:List Expr)(t:TT):Prop:=
 ∀(pins:List (Addr×Obj)) (s:Shared) (σ:L2.St) (H:Hp) (Q:Bool->Hp->Prop),Inv X pins σ H s->t σ H Q ->
   wpAny (model X.prog X.w) X.A (forIn ifs true fun c r=>if r=true then do let ok <-isTrue c X.env (eval c X.env);pure (ForInStep.yield ok) else pure (ForInStep.yield r)) (TP X pins σ Q) X.xe s
def tNoTest:TT:=fun _ H Q=>Q true H
theorem pts_nil{X:Cx}:PTs X [] tNoTest:=fun _ _ _ H _ I h=>wpAny_tests_nil ⟨H,I,h⟩
theorem pts_one{X:Cx}{c:Expr}{t:TT}(h:PT X c t):PTs X [c] t:=fun pins s σ H Q I q=>wpAny_tests_one (h pins s σ H Q I q)
def tLCg(J:It)(σ0:L2.St)(g:TG)(tt:TT)(te:TE)(H1:Hp)(Q:VK):Prop:=∃W:Nat->Nat->List V->Hp->Prop,(∃m,W 0 m [] H1)/\∀i m ys H,W i m ys H->ys.length<sizeLine /\
 ((J.stop i H/\∀p,H p=none->Q (.ref p) (upd H p (.lst ys))) \/
  (J.go i H/\∃N:List V->Hp->Prop,(∀ys' H',N ys' H'->∃m',m'<m/\W (i+1) m' ys' H')/\∀x H',J.yld i H x H'->g x σ0 H' fun σ2 H2=>tt σ2 H2 fun b H3=>if b=true then te σ2 H3 fun y H4=>N (ys ++ [y]) H4 else N ys H3))
theorem codeAny_compLoop_any {prog : Program} {w : World} {A : Around} {R : Result -> Shared -> Prop} {s : Shared} {elt target iter : Expr} {ifs : List Expr} {scope : Scope} {pos : Pos} {it acc : Value} {env : Env} {EX : Value -> Shared -> Prop} (hEX : ∀ x s', EX x s' -> notedBy (model prog w) A env (fun x s' => R (.error x) s') x s') (I : Nat -> Shared -> Prop)
 (turn:∀n s,I n s->wpAny (model prog w) A (pyNext it) (fun r s₁=>match r with
  | none=>R (.ok .next) s₁
  | some v => wpAny (model prog w) A (letOwnedTupleGo target it v) (fun _ s₁ => wpAny (model prog w) A (assign target env v) (fun _ s₂ =>
   wpAny (model prog w) A (forIn ifs true fun c r=>if r=true then do let ok <-isTrue c env (eval c env);pure (ForInStep.yield ok) else pure (ForInStep.yield r)) (fun ok s₃=>
    if ok=true then wpAny (model prog w) A (eval elt env) (fun x s₄=>
     wpAny (model prog w) A (call (.builtin "list.append") [acc,x]) (fun _ s₅=>∃m,m<n/\I m s₅) (fun _ _=>False) s₄) EX s₃
    else ∃m,m<n/\I m s₃) EX s₂) EX s₁) (fun _ _=>False) s₁) (fun _ _=>False) s)
 (n:Nat) (h:I n s) :
 codeAny (model prog w) A (.compLoop (.ListComp elt [⟨target,iter,ifs,0⟩] scope pos) 0 it acc env) R s:=by
 refine codeAny_loop rfl I (fun n s hI=> ?_) n h;show wpAny _ A ((compTurn (.ListComp elt [⟨target,iter,ifs,0⟩] scope pos) 0 it acc env).onRaise (fun x=>do noteFrame x env;theTreesLotGoes x)) _ _ s;refine wpAny_noted ?_;rw [compTurn_list];refine wpAny_bind (wpAny_standAt (wpAny_bind (wpAny_mono (turn n s hI) (fun r s₁ h₁=> ?_) fun _ _ h'=>h'.elim)))
 cases r with
 | none=>exact wpAny_pure h₁
 | some v=>
  refine wpAny_bind (wpAny_mono h₁ (fun _ s₁ h₁=> ?_) fun _ _ h'=>h'.elim);refine wpAny_bind (wpAny_mono h₁ (fun _ s₂ h₂=>wpAny_bind (wpAny_mono h₂ (fun ok s₃ h₃=> ?_) hEX)) hEX)
  cases ok with
  | false=>exact wpAny_pure ⟨rfl,h₃⟩
  | true=>
   exact wpAny_bind (wpAny_bind (wpAny_mono h₃ (fun x s₄ h₄=>wpAny_bind (wpAny_mono h₄ (fun _ s₅ h₅=>wpAny_pure (wpAny_pure ⟨rfl,h₅⟩)) fun _ _ h'=>h'.elim)) hEX))
theorem HOk_add{P:Program}{w:World}{H:Hp}{h:Heap}{a:Addr}{o:HO}(x:HOk P w H h)(hn:H a=none)(new:ObjOk P w (upd H a o) h a o):HOk P w (upd H a o) h:=fun b u e=>by
 by_cases hb:b=a
 . subst hb;rw [upd_same] at e
   cases e
   exact new
 . rw [upd_ne hb] at e
   refine (x b u e).stay (fun _ _ _ q=>q) (fun c q=> ?_) (fun c xs q=> ?_) fun c ob xs q=> ?_
   . rw [upd_ne (ne_of_none q hn)];exact q
   . rw [upd_ne (ne_of_none q hn)];exact q
   . rw [upd_ne (ne_of_none q hn)];exact q
def slotS(ix:List (Option Nat))(i:Nat):Bool:=match ix[i]? with | some (some _)=>false | _=>true
structure BlkEnd (X:Cx) (pins:List (Addr×Obj)) (σ:L2.St) (C D:Addr) (H:Hp) (ys:List V) (s':Shared):Prop where
 inv:Inv X pins σ (upd H D (.lst ys)) s'
 free:H D=none
 ns:∃m,s'.heap.Ns C m
 cfree:(upd H D (.lst ys)) C=none
 cl:C≠X.env.locals
 cn:X.s₀.heap.objs.size<=C
 cc:∀x c,X.env.cells.lookup x=some c->c≠C
 cp:∀p ∈ X.pn++pins,p.1≠C
theorem run_block {tg elt iter : Expr} {ifs : List Expr} {scope : Scope} {pos : Pos} {J : It} {it : Addr} {tn : Nat -> Heap -> Prop} {g : TG} {tt : TT} {te : TE} {Q : VK} {R : Result -> Shared -> Prop} {xe : Value -> Shared -> Prop}
 (I2:Inv X pins σ H s) (cs:CS osc sc X.N N' ix) (ho:X.env.scope=osc) (hc:X.calm=true) (T:Turn X.prog X.w X.K tg J fp it tn) (st2:tn 0 s.heap) (f2:∀b ∈ fp,FpOk X pins H b)
 (hg:PG (cxC X osc sc N' ⟨s.heap.objs.size+1,s,H,fp ++ [s.heap.objs.size],xe⟩) tg g) (gk:GK (slotS ix) g)
 (ht:PTs (cxC X osc sc N' ⟨s.heap.objs.size+1,s,H,fp ++ [s.heap.objs.size],xe⟩) ifs tt) (he:PE (cxC X osc sc N' ⟨s.heap.objs.size+1,s,H,fp ++ [s.heap.objs.size],xe⟩) elt te)
 (rd:tLCg J (subS ix σ) g tt te H Q)
 (hxe:∀x s',xe x s'->notedBy (model X.prog X.w) X.A (cEnv osc sc (closL X.env.cells sc.names []) (s.heap.objs.size+1) X.env) (fun x s'=>R (.error x) s') x s')
 (hR:∀ys H' s',BlkEnd X pins σ (s.heap.objs.size+1) s.heap.objs.size H' ys s'->Q (.ref s.heap.objs.size) (upd H' s.heap.objs.size (.lst ys))->R (.ok .next) s') :
 codeAny (model X.prog X.w) X.A (.compStart (.ListComp elt [⟨tg,iter,ifs,0⟩] scope pos) 0 (.ref it) (.ref s.heap.objs.size) (cEnv osc sc (closL X.env.cells sc.names []) (s.heap.objs.size+1) X.env)) R {s with heap:=blkHeap s.heap sc}:=by
 have ltS:∀ {h:Heap} {b:Addr} {o:Obj},h.get? b=some o -> @LT.lt Nat _ b h.objs.size:=fun e=>Heap.lt_size e;have hlt:∀b ∈ fp,b<s.heap.objs.size:=fun b hb=>(T.obj 0 _ st2 b hb).elim fun o h=>Heap.lt_size h.1;have I3:=inv_comp (xe:=xe) I2 cs ho f2 hlt;generalize eX:cxC X osc sc N' ⟨s.heap.objs.size+1,s,H,fp ++ [s.heap.objs.size],xe⟩=X' at *
 have eE:cEnv osc sc (closL X.env.cells sc.names []) (s.heap.objs.size+1) X.env=X'.env:=by rw [<-eX];rfl
 have eP:X'.prog=X.prog:=by rw [<-eX];rfl
 have eW:X'.w=X.w:=by rw [<-eX];rfl
 have eK:X'.K=X.K:=by rw [<-eX];rfl
 have eA:X'.A=X.A:=by rw [<-eX];rfl
 have eC:X'.calm=true:=by rw [<-eX];exact hc
 have eL:X'.env.locals=s.heap.objs.size+1:=by rw [<-eX];rfl
 have eF:X'.fs=frs X.stack:=by rw [<-eX];rfl
 have eEx:X'.ex=fp ++ [s.heap.objs.size]:=by rw [<-eX];rfl
 have eN:X'.pn = []:=by rw [<-eX];rfl
 have eS:X'.s₀=s:=by rw [<-eX];rfl
 have eH:X'.H₀=H:=by rw [<-eX];rfl
 have exe:X'.xe=xe:=by rw [<-eX];rfl
 have okX:=I3.ok;have mD:s.heap.objs.size ∈ X'.ex:=by rw [eEx];exact List.mem_append_right _ (List.mem_singleton.mpr rfl)
 have mF:∀b ∈ fp,b ∈ X'.ex:=fun b hb=>by rw [eEx];exact List.mem_append_left _ hb
 obtain ⟨W,⟨m0,w0⟩,turn⟩:=rd
 have stat:∀ {H':Hp} {o:Obj},(∀b ∈ fp,H' b=none)->∀b ∈ fp,FpOk X' [(s.heap.objs.size,o)] H' b:=fun {H' o} hn b hb=>by
  refine ⟨hn b hb,(okX.exf b (mF b hb)).1,okX.exfs b (mF b hb), .inl (mF b hb),(okX.exf b (mF b hb)).2,fun p hp e=> ?_⟩;rw [eN] at hp
  have hp:p=(s.heap.objs.size,o):=by simpa using hp
  subst hp;have l : @LT.lt Nat _ b s.heap.objs.size:=hlt b hb;have e:s.heap.objs.size=b:=e;rw [<-e] at l
  omega
 have pinD:∀ {σ':L2.St} {H':Hp} {s':Shared} {o:Obj},Inv X' [] σ' H' s'->s'.heap.get? s.heap.objs.size=some o->H' s.heap.objs.size=none->(∀v,o.data ≠ .cell v)->Inv X' [(s.heap.objs.size,o)] σ' H' s':=fun {σ' H' s' o} I e hn hd=>by
  refine I.pins_of fun p hp=> ?_;have hp:p=(s.heap.objs.size,o):=by simpa using hp
  subst hp;exact ⟨e,hn,(okX.exf _ mD).1,okX.exfs _ mD,hd⟩
 rw [eE] at hxe
 rw [eE];have I3':Inv X' [] (subS ix σ) H {s with heap:=blkHeap s.heap sc}:=I3;have dat:∀(its:List Value) (k:Nat) (v:Option Value),({cls:= .type "list",data:= .seq its.toArray k}:Obj).data ≠ .cell v:=fun _ _ _ z=>nomatch z;have acc0:(blkHeap s.heap sc).get? s.heap.objs.size=some {cls:= .type "list",data:= .seq ([]:List Value).toArray 0}:=pushCells_keeps _ _ _ _ (Heap.get?_push_of_some _ (Heap.get?_push_size _ rfl));have st3:tn 0 (blkHeap s.heap sc):=T.keep 0 _ _ st2 fun b hb o e=>blk_keeps b o e
 have loop:∀s3:Shared,s3={s with heap:=blkHeap s.heap sc}->codeAny (model X.prog X.w) X.A (.compLoop (.ListComp elt [⟨tg,iter,ifs,0⟩] scope pos) 0 (.ref it) (.ref s.heap.objs.size) X'.env) R s3:=by
  rintro s3 rfl
  refine codeAny_compLoop_any (EX:=xe) hxe (fun n s'=>∃i ys H' its k,Inv X' [] (subS ix σ) H' s'/\tn i s'.heap/\(∀b ∈ fp,H' b=none)/\W i n ys H'/\s'.heap.get? s.heap.objs.size=some {cls:= .type "list",data:= .seq its.toArray k}/\Vals ys its/\H' s.heap.objs.size=none)
   ?_ m0 ⟨0,[],H,[],0,I3',st3,fun b hb=>(f2 b hb).1,w0,acc0, .nil,I2.hok.fresh (Nat.le_refl _)⟩
  rintro n s3 ⟨i,ys,H3,its,k,J3,t3,fr3,w3,a3,v3,d3⟩;obtain ⟨hz,w3⟩:=turn i n ys H3 w3;have J3p:=pinD J3 a3 d3 (dat its k);rcases w3 with ⟨stop,q⟩ | ⟨go,N,hN,step⟩
  . have TD:=T.done X' eP eW eK eC i [(s.heap.objs.size,_)] s3 (subS ix σ) H3 (fun _ _=>False) J3p (stat fr3) t3 stop;rw [eA] at TD
    refine thn TD fun r s4 ⟨hr,I4⟩ => ?_;subst hr;have a4:=(I4.pin (s.heap.objs.size,_) (List.mem_append_right _ (List.mem_singleton.mpr rfl))).1;have hd4:=I4.base;rw [eF,eEx,eH,eS] at hd4
    refine hR ys H3 s4 ⟨?_,d3,?_,?_,?_,?_,?_,?_⟩ (q _ d3)
    . refine I2.call' (ch:=fp ++ [s.heap.objs.size]) (by have z:=I4.os;rw [eS] at z;exact z) ?_ ?_ I4.bare ?_
      . refine ⟨hd4.keep,hd4.slot,fun b o e n x=> ?_,hd4.there,fun b xs e=> ?_,fun b o u e=> ?_,fun b ps e=> ?_⟩
        . have l:=ltS e;rw [upd_ne (by intro z;subst z;omega)];exact hd4.free b o e n x
        . have z:=hd4.tups b xs e;rw [upd_ne (ne_of_none z d3)];exact z
        . have z:=hd4.frzs b o u e;rw [upd_ne (ne_of_none z d3)];exact z
        . obtain ⟨more,z⟩:=hd4.tbls b ps e;exact ⟨more,by rw [upd_ne (ne_of_none z d3)];exact z⟩
      . have hk:=I4.hok;rw [eP,eW] at hk
        exact HOk_add hk d3 ⟨Nat.le_of_lt hz,its,k,v3,a4⟩
      . intro b hb;rcases List.mem_append.mp hb with hb | hb
        . obtain ⟨f0,f1,f2,f3,f4,f5⟩:=f2 b hb;exact ⟨f3,f1,f4,f5⟩
        . have hb:b=s.heap.objs.size:=by simpa using hb
          subst hb;refine ⟨.inr I2.sz,fun e=> ?_,fun x c hx e=> ?_,fun p hp e=> ?_⟩
          . have l : @LT.lt Nat _ X.env.locals s.heap.objs.size:=I2.lt;rw [<-e] at l
            omega
          . obtain ⟨v,hv⟩:=I2.cell x c hx;have l : @LT.lt Nat _ c s.heap.objs.size:=hv.lt;rw [e] at l
            omega
          . have l:=ltS (I2.pin p hp).1;rw [e] at l
            omega
    . obtain ⟨m,hm,_⟩:=I4.loc;rw [eL] at hm
      exact ⟨m,hm⟩
    . rw [upd_ne (Nat.succ_ne_self _)];have z:=I4.free;rw [eL] at z
      exact z
    . intro e;have l : @LT.lt Nat _ X.env.locals s.heap.objs.size:=I2.lt;rw [<-e] at l
      omega
    . have:=I2.sz;exact Nat.le_succ_of_le this
    . intro x c hx e;obtain ⟨v,hv⟩:=I2.cell x c hx;have l : @LT.lt Nat _ c s.heap.objs.size:=hv.lt;rw [e] at l
      omega
    . intro p hp e;have l:=ltS (I2.pin p hp).1;rw [e] at l
      omega
  . have TI:=T.item X' eP eW eK eC i [(s.heap.objs.size,_)] s3 (subS ix σ) H3 (fun _ _=>False) J3p (stat fr3) t3 go;rw [eA] at TI
    refine thn TI fun r s4 ⟨u,hr,h4⟩ => ?_;subst hr;refine thn h4 fun _ s5 ⟨x,H5,I5,r5,y5,st5,fr5⟩ => ?_;have I5':=I5.pinned (stat fr5) (T.obj _ _ st5);have HG:=hg _ s5 (subS ix σ) H5 x u _ I5' r5 (gk _ _ _ _ (step x H5 y5));rw [eP,eW,eA,exe] at HG
    refine thn HG fun _ s6 ⟨σ6,H6,I6,q6,l6,k6⟩ => ?_;have HT:=ht _ s6 σ6 H6 _ I6 q6;rw [eP,eW,eA,exe] at HT
    refine thn HT fun b s7 ⟨H7,I7,q7⟩ => ?_
    have weak:∀ {ps:List (Addr×Obj)} {H':Hp} {s':Shared},Inv X' ps σ6 H' s'->Inv X' ps (subS ix σ) H' s':=fun I=>I.weak l6.symm fun j v e=>by
     have hs:slotS ix j=false:=by
      unfold slotS;unfold subS at e
      rw [List.getElem?_map] at e
      cases e2:ix[j]? with
      | none=>rw [e2] at e;cases e
      | some o=>
       rw [e2] at e
       cases o with
       | none=>cases e
       | some z=>rfl
     rw [k6 j hs];exact e
    have pinA : ∀ {σ' : L2.St} {H' : Hp} {s' : Shared}, Inv X' ([(s.heap.objs.size, { cls := .type "list", data := .seq its.toArray k })] ++ pinsAt fp s5.heap) σ' H' s' ->
     s'.heap.get? s.heap.objs.size=some {cls:= .type "list",data:= .seq its.toArray k}/\H' s.heap.objs.size=none/\tn (i+1) s'.heap/\∀b ∈ fp,H' b=none:=fun {σ' H' s'} I=>by
     have z:=I.pin (s.heap.objs.size,_) (List.mem_append_right _ (List.mem_append_left _ (List.mem_singleton.mpr rfl)));refine ⟨z.1,z.2.1,T.keep _ _ _ st5 fun b hb o e=>(I.pin (b,o) (List.mem_append_right _ (List.mem_append_right _ (mem_pinsAt hb e)))).1,fun b hb=> ?_⟩;obtain ⟨o,e,d⟩:=T.obj _ _ st5 b hb;exact (I.pin (b,o) (List.mem_append_right _ (List.mem_append_right _ (mem_pinsAt hb e)))).2.1
    cases b with
    | false=>
     have q7:N ys H7:=q7;obtain ⟨m',hm,w7⟩:=hN ys H7 q7;obtain ⟨p1,p2,p3,p4⟩:=pinA I7
     exact ⟨m',hm,i+1,ys,H7,its,k,(weak I7).pins_of (fun _ z=>(nomatch z)),p3,p4,w7,p1,v3,p2⟩
    | true=>
     have HE:=he _ s7 σ6 H7 _ I7 q7;rw [eP,eW,eA,exe] at HE
     refine thn HE fun y s8 ⟨z,H8,I8,r8,q8⟩ => ?_;obtain ⟨m',hm,w8⟩:=hN _ H8 q8;obtain ⟨p1,p2,p3,p4⟩:=pinA I8;refine call_meets F.slot_list_append ⟨_,p1,rfl⟩ F.entry_list_append (F.args_list_append_2 _ _) (PySem.list_append s.heap.objs.size its.toArray k y (by rw [List.size_toArray, <-v3.length];omega)) ⟨p1,?_⟩;have q:=PySem.IsL.update p1 (fun a=>a.push y);have other:∀b o,b≠s.heap.objs.size->s8.heap.get? b=some o->(s8.heap.update s.heap.objs.size (Obj.mapSeq fun a=>a.push y)).get? b=some o:=fun b o hb e=>(Heap.get?_update_other s8.heap _ (Ne.symm hb)).trans e;have eq:its.toArray.push y=(its ++ [y]).toArray:=by simp
     have q:IsL (s8.heap.update s.heap.objs.size (Obj.mapSeq fun a=>a.push y)) s.heap.objs.size (its.toArray.push y) _:=q;rw [eq] at q
     refine ⟨m',hm,i+1,ys ++ [z],H8,its ++ [y],_,?_,T.keep _ _ _ p3 fun b hb o e=>other b o (fun z=> ?_) e,p4,w8,q,v3.append (.cons r8 .nil),p2⟩
     . have I8w:Inv X' [] (subS ix σ) H8 s8:=(weak I8).pins_of fun _ z=>nomatch z;refine I8w.turned (it:=s.heap.objs.size) other p2 (okX.exf _ mD).1 (.inl mD) (okX.exf _ mD).2 fun p hp=> ?_;rw [eN] at hp
       cases hp
     . have l : @LT.lt Nat _ b s.heap.objs.size:=hlt b hb;rw [z] at l
       omega
 exact codeAny_compStart_list (loop _ rfl) (T.self X.A 0 _ _ _ st3 (loop _ rfl))
def tLC(ix:List (Option Nat))(wi:TI)(g:CB->TG)(tt:CB->TT)(te:CB->TE):TE:=fun σ H Q=>wi σ H fun J H1=>∀b:CB,tLCg J (subS ix σ) (g b) (tt b) (te b) H1 Q
theorem pe_lc {tg elt iter : Expr} {ifs : List Expr} {pos : Pos} {wi : TI} {g : CB -> TG} {tt : CB -> TT} {te : CB -> TE} (hc : X.calm = true) (ho : X.env.scope = osc) {N : List Str} (hN : X.N = N) (hcs : csOk osc sc N N' ix = true) (hi : PI X tg iter wi)
 (hb:∀b:CB,PG (cxC X osc sc N' b) tg (g b)/\PTs (cxC X osc sc N' b) ifs (tt b)/\PE (cxC X osc sc N' b) elt (te b)) (gk:∀b:CB,GK (slotS ix) (g b))
 (hs:∀x,foldedSetIterable iter X.env x=pure x:=by intro _;rfl):PE X (.ListComp elt [⟨tg,iter,ifs,0⟩] sc pos) (tLC ix wi g tt te):=by
 subst hN;have cs:=CS.of hcs;intro pins s σ H Q I h;rw [eval_ListComp];have hcl:=closureFor_eq (closes I cs ho);refine wpAny_comprehension_free (use:=none) rfl hs hcl cs.kind cs.names (thn (hi pins s σ H _ I h) fun v s1 h1=>thn h1 fun itv s2 h2=> ?_);obtain ⟨it,fp,tn,J,H2,e,I2,T,st2,f2,rd⟩:=h2;subst e;refine wpAny_newObj_type ?_;refine wpAny_newEnv_comp ?_;have hb':=hb ⟨s2.heap.objs.size+1,s2,H2,fp ++ [s2.heap.objs.size],fun _ _=>False⟩
 have rb:=run_block (scope:=sc) (pos:=pos) (iter:=iter) (R:=compPost (model X.prog X.w) X.A X.xe none (EP X pins σ Q) (.ref s2.heap.objs.size) (s2.heap.objs.size+1)) I2 cs ho hc T st2 f2 hb'.1 (gk _) hb'.2.1 hb'.2.2 (rd _) (fun _ _ z=>z.elim) (fun ys H' s' B q=>by
  obtain ⟨m,hm⟩:=B.ns;refine ⟨m,hm,fun h' hsb=> ?_⟩;refine ⟨.ref s2.heap.objs.size,upd H' s2.heap.objs.size (.lst ys),?_,rfl,q⟩;exact B.inv.turned (it:=s2.heap.objs.size+1) (fun b o hb e=>hsb.extBut b o hb e) B.cfree B.cl (.inr B.cn) B.cc B.cp)
 have sz:(s2.heap.push accObj).objs.size=s2.heap.objs.size+1:=Heap.size_push ..;show codeAny _ _ (.compStart _ 0 (.ref it) (.ref s2.heap.objs.size) {newEnv sc (s2.heap.push accObj).objs.size X.env.globals (cellsFrom ((s2.heap.push accObj).objs.size+1) sc.names (closL X.env.cells sc.names [])) X.env.qual none .none (some X.env) builtinsNs with scope:=relabel sc X.env}) (compPost _ _ _ none _ (.ref s2.heap.objs.size) (s2.heap.push accObj).objs.size) _;rw [sz,relabel_eq,ho];exact rb
def tSetC(i:Nat)(t:TE):TS:=fun D σ H=>t σ H fun v H1=>D.nx (σ.set i (some v)) H1
end
end Tf
namespace Tf
open PySem PySem.Spec PyProof.Rows L2
section
variable {X:Cx}
section
variable {K:PySem.W.Frag} {σ0:L2.St} {g:TG} {tt:TT} {te:TE} {H:Hp} {Q:VK}
theorem Reps.snoc{vs:List V}{ds:List PyData}{v:V}{d:PyData}(h:Reps K H vs ds)(k:Rep K H v d):Reps K H (vs ++ [v]) (ds ++ [d]):=by
 induction vs generalizing ds with
 | nil=>cases h;exact .cons k .nil
 | cons x xs ih=>cases h with | cons a b=>exact .cons a (ih b)
theorem Reps.get:∀ {vs:List V} {ds:List PyData} {i:Nat} {d:PyData},Reps K H vs ds->ds[i]? = some d->∃v,vs[i]? = some v/\Rep K H v d
 | _,_,_,_, .nil,e=>by simp at e
 | _,_,0,_, .cons r _,e=>by simp at e;subst e;exact ⟨_,rfl,r⟩
 | _,_,i+1,d, .cons _ t,e=>by
  obtain ⟨u,h1,h2⟩:=Reps.get (i:=i) (d:=d) t (by simpa using e);exact ⟨u,by simpa using h1,h2⟩
end
end
end Tf
namespace Dm
open PySem PySem.Spec PyProof.Rows L2 Tf
inductive Sl where
 | val (d:PyData)
 | own (ds:List PyData)
 | dct (kvs:List (PyData×PyData))
def Sl.dat:Sl->PyData
 | .val d=>d
 | .own ds=> .list ds
 | .dct kvs=> .dict kvs
abbrev En:=List (Option Sl)
theorem same_upd2{H0 H:Hp}{p:Addr}{o:HO}(h:Same H0 H):Same (upd H0 p o) (upd H p o):=fun b u e=>by
 by_cases hb:b=p
 . subst hb;rw [upd_same] at e ⊢;exact e
 . rw [upd_ne hb] at e ⊢;exact h b u e
def Mu:HO->Prop
 | .tup _=>False
 | _=>True
structure Ext (H0 H H0' H':Hp):Prop where
 s:Same H H'
 s0:Same H0 H0'
 s1:Same H0' H'
 own:∀a o,H a=some o->Mu o->H0 a=none->H0' a=none
theorem Ext.refl{H0 H:Hp}(h:Same H0 H):Ext H0 H H0 H:=⟨Same.refl _,Same.refl _,h,fun _ _ _ _ h=>h⟩
theorem Ext.trans{H0 H H1 J1 H2 J2:Hp}(a:Ext H0 H H1 J1)(b:Ext H1 J1 H2 J2):Ext H0 H H2 J2:=
 ⟨a.s.trans b.s,a.s0.trans b.s0,b.s1,fun x o h m h0=>b.own x o (a.s x o h) m (a.own x o h m h0)⟩
theorem Ext.chain{S0 HB H0 H H1 J1:Hp}(a:Ext S0 HB H0 H)(b:Ext H0 H H1 J1):Ext S0 HB H1 J1:=
 ⟨a.s.trans b.s,a.s0.trans b.s0,b.s1,fun x o h m h0=>b.own x o (a.s x o h) m (a.own x o h m h0)⟩
theorem Ext.rebase{S0 HB H0 H:Hp}(a:Ext S0 HB H0 H):Ext H0 HB H0 H:=⟨a.s,Same.refl _,a.s1,fun _ _ _ _ h=>h⟩
theorem Ext.unbase{S0 HB H0 H H1 J1:Hp}(a:Ext S0 HB H0 H)(b:Ext H0 HB H1 J1):Ext S0 HB H1 J1:=
 ⟨b.s,a.s0.trans b.s0,b.s1,fun x o h m h0=>b.own x o h m (a.own x o h m h0)⟩
theorem Ext.alloc{H0 H:Hp}{p:Addr}(h:Same H0 H)(hp:H p=none)(o:HO):Ext H0 H H0 (upd H p o) :=
 ⟨Same.upd hp o,Same.refl _,h.trans (Same.upd hp o),fun _ _ _ _ h=>h⟩
theorem Ext.allocF{H0 H:Hp}{p:Addr}(h:Same H0 H)(hp:H p=none)(o:HO):Ext H0 H (upd H0 p o) (upd H p o) :=
 ⟨Same.upd hp o,Same.upd (h.free hp) o,same_upd2 h,fun a o' ha _ h0=>by rw [upd_ne (ne_of_none ha hp)];exact h0⟩
section
variable {K:PySem.W.Frag}
def DctR(K:PySem.W.Frag)(H0:Hp)(t:List (List Key×V))(kvs:List (PyData×PyData)):Prop:=∃(ks:List (List Key)) (xs:List V) (ds:List PyData),t=ks.zip xs/\ks.length=xs.length/\Reps K H0 xs ds/\kvs=(ks.map tupD).zip ds
theorem DctR.same{H0 H0':Hp}{t:List (List Key×V)}{kvs:List (PyData×PyData)}(s:Same H0 H0')(h:DctR K H0 t kvs):DctR K H0' t kvs:=by
 obtain ⟨ks,xs,ds,e1,e2,e3,e4⟩:=h;exact ⟨ks,xs,ds,e1,e2,Reps.same s e3,e4⟩
theorem DctR.rep{H:Hp}{a:Addr}{t:List (List Key×V)}{kvs:List (PyData×PyData)}(h:DctR K H t kvs)(e:H a=some (.dT t)):Rep K H (.ref a) (.dict kvs):=by
 obtain ⟨ks,xs,ds,rfl,e2,e3,rfl⟩:=h;exact .dict (.inl e) e2 e3
def SlP(K:PySem.W.Frag)(H0 H:Hp)(v:V):Sl->Prop
 | .val d=>Rep K H0 v d
 | .own ds=>∃a vs,v = .ref a/\H a=some (.lst vs)/\Reps K H0 vs ds
 | .dct kvs=>∃a t,v = .ref a/\H a=some (.dT t)/\DctR K H0 t kvs
def SlH(K:PySem.W.Frag)(HB H0 H:Hp)(v:V):Sl->Prop
 | .val d=>Rep K H0 v d
 | .own ds=>∃a vs,v = .ref a/\HB a=none/\H0 a=none/\H a=some (.lst vs)/\Reps K H0 vs ds
 | .dct kvs=>∃a t,v = .ref a/\HB a=none/\H0 a=none/\H a=some (.dT t)/\DctR K H0 t kvs
theorem SlH.p{HB H0 H:Hp}{v:V}:∀ {s:Sl},SlH K HB H0 H v s->SlP K H0 H v s
 | .val _,h=>h
 | .own _,⟨a,vs,e,_,_,h1,h2⟩=>⟨a,vs,e,h1,h2⟩
 | .dct _,⟨a,vs,e,_,_,h1,h2⟩=>⟨a,vs,e,h1,h2⟩
theorem SlH.base{HB HB' H0 H:Hp}{v:V}(s:Same HB HB'):∀ {r:Sl},SlH K HB' H0 H v r->SlH K HB H0 H v r
 | .val _,h=>h
 | .own _,⟨a,vs,e,h0,h1,h2,h3⟩=>⟨a,vs,e,s.free h0,h1,h2,h3⟩
 | .dct _,⟨a,vs,e,h0,h1,h2,h3⟩=>⟨a,vs,e,s.free h0,h1,h2,h3⟩
theorem SlH.ext{HB H0 H H0' H':Hp}{v:V}(x:Ext H0 H H0' H'):∀ {r:Sl},SlH K HB H0 H v r->SlH K HB H0' H' v r
 | .val _,h=>Rep.same x.s0 h
 | .own _,⟨a,vs,e,h0,h1,h2,h3⟩=>⟨a,vs,e,h0,x.own a _ h2 True.intro h1,x.s _ _ h2,Reps.same x.s0 h3⟩
 | .dct _,⟨a,vs,e,h0,h1,h2,h3⟩=>⟨a,vs,e,h0,x.own a _ h2 True.intro h1,x.s _ _ h2,h3.same x.s0⟩
theorem SlP.ext{H0 H H0' H':Hp}{v:V}(x:Ext H0 H H0' H'):∀ {r:Sl},SlP K H0 H v r->SlP K H0' H' v r
 | .val _,h=>Rep.same x.s0 h
 | .own _,⟨a,vs,e,h2,h3⟩=>⟨a,vs,e,x.s _ _ h2,Reps.same x.s0 h3⟩
 | .dct _,⟨a,vs,e,h2,h3⟩=>⟨a,vs,e,x.s _ _ h2,h3.same x.s0⟩
theorem SlP.rep{H0 H:Hp}{v:V}(s:Same H0 H):∀ {r:Sl},SlP K H0 H v r->Rep K H v r.dat
 | .val _,h=>Rep.same s h
 | .own _,⟨a,vs,e,h2,h3⟩=>by subst e;exact .list (SqL.of h2) (Reps.same s h3)
 | .dct _,⟨a,vs,e,h2,h3⟩=>by subst e;exact (h3.same s).rep h2
theorem SlP.lst{H0 H:Hp}{v:V}{ds:List PyData}(s:Same H0 H):∀ {r:Sl},SlP K H0 H v r->r.dat = .list ds->∃a vs,v = .ref a/\SqL K H a vs/\Reps K H0 vs ds
 | .val _,h,e=>by
  cases h with
  | list h1 h2=>cases e;exact ⟨_,_,rfl,s.seq h1,h2⟩
  | _=>cases e
 | .own _,⟨a,vs,e,h2,h3⟩,e2=>by cases e2;exact ⟨a,vs,e,SqL.of h2,h3⟩
 | .dct _,_,e2=>by cases e2
theorem SlP.tup{H0 H:Hp}{v:V}{ds:List PyData}:∀ {r:Sl},SlP K H0 H v r->r.dat = .tuple ds->∃a vs,v = .ref a/\H0 a=some (.tup vs)/\Reps K H0 vs ds
 | .val _,h,e=>by
  cases h with
  | tuple h1 h2=>cases e;exact ⟨_,_,rfl,h1,h2⟩
  | _=>cases e
 | .own _,_,e=>by cases e
 | .dct _,_,e=>by cases e
theorem SlP.int{H0 H:Hp}{v:V}{i:Int}(h:SlP K H0 H v (.val (.int i))):v = .int i:=by cases (show Rep K H0 v (.int i) from h);rfl
theorem SlP.bool{H0 H:Hp}{v:V}{i:Bool}(h:SlP K H0 H v (.val (.bool i))):v = .bl i:=by cases (show Rep K H0 v (.bool i) from h);rfl
theorem SlP.str{H0 H:Hp}{v:V}{i:Str}(h:SlP K H0 H v (.val (.str i))):v = .str i:=by cases (show Rep K H0 v (.str i) from h);rfl
theorem SlP.none{H0 H:Hp}{v:V}(h:SlP K H0 H v (.val .none)):v = .non:=by cases (show Rep K H0 v .none from h);rfl
theorem rep_non{H:Hp}{v:V}{d:PyData}(h:Rep K H v d):v = .non↔d = .none:=by
 cases h <;> simp
structure ER (K:PySem.W.Frag) (HB H0 H:Hp) (σ:L2.St) (ρ:En):Prop where
 len:σ.length=ρ.length
 get:∀(i:Nat) s,ρ[i]? = some (some s)->∃v,σ[i]? = some (some v)/\SlH K HB H0 H v s
 apart:∀(i j:Nat) a ds es,i≠j->ρ[i]? = some (some (.own ds))->ρ[j]? = some (some (.own es))->σ[i]? = some (some (.ref a))->σ[j]? ≠ some (some (.ref a))
theorem ER.ext{HB H0 H H0' H':Hp}{σ:L2.St}{ρ:En}(x:Ext H0 H H0' H')(e:ER K HB H0 H σ ρ):ER K HB H0' H' σ ρ:=
 ⟨e.len,fun i s h=>by obtain ⟨v,h1,h2⟩:=e.get i s h;exact ⟨v,h1,h2.ext x⟩,e.apart⟩
structure Rl where
 r:Hp->Hp->Hp->L2.St->En->Prop
 slot:Nat->Prop
structure ST (R:Rl) (HB H0 H:Hp) (σ:L2.St) (ρ:En):Prop where
 r:R.r HB H0 H σ ρ
class RelOk (K:outParam PySem.W.Frag) (R:Rl):Prop where
 ext:∀ {HB H0 H H0' H':Hp} {σ:L2.St} {ρ:En},Ext H0 H H0' H'->R.r HB H0 H σ ρ->R.r HB H0' H' σ ρ
 get:∀ {HB H0 H:Hp} {σ:L2.St} {ρ:En} {i:Nat} {s:Sl},R.r HB H0 H σ ρ->R.slot i->ρ[i]? = some (some s)->∃v,σ[i]? = some (some v)/\SlH K HB H0 H v s
 set:∀ {HB H0 H H0' H':Hp} {σ:L2.St} {ρ:En} {i:Nat} {v:V} {s:Sl},R.r HB H0 H σ ρ->R.slot i->Ext H0 H H0' H'->Same HB H->SlH K H H0' H' v s->R.r HB H0' H' (σ.set i (some v)) (ρ.set i (some s))
 write:∀ {HB H0 H:Hp} {σ:L2.St} {ρ:En} {i:Nat} {a:Addr} {ds es:List PyData} {vs ys:List V},R.r HB H0 H σ ρ->R.slot i->ρ[i]? = some (some (.own ds))->σ[i]? = some (some (.ref a))->HB a=none->H0 a=none->H a=some (.lst vs)->Reps K H0 ys es->R.r HB H0 (upd H a (.lst ys)) σ (ρ.set i (some (.own es)))
 frz:∀ {S0 HB H0 H:Hp} {σ:L2.St} {ρ:En} {i:Nat} {ds:List PyData},R.r HB H0 H σ ρ->R.slot i->ρ[i]? = some (some (.own ds))->Ext S0 HB H0 H->∃H0',Ext S0 HB H0' H/\R.r HB H0' H σ (ρ.set i (some (.val (.list ds))))
theorem ST.ext{R:Rl} [RelOk K R] {HB H0 H H0' H':Hp} {σ:L2.St} {ρ:En} (x:Ext H0 H H0' H') (e:ST R HB H0 H σ ρ):ST R HB H0' H' σ ρ:=⟨RelOk.ext (K:=K) x e.r⟩
def PR(K:PySem.W.Frag):Rl:=⟨ER K,fun _=>True⟩
variable {R:Rl} [RelOk K R]
def RX{α:Type}(K:PySem.W.Frag)(R:Rl)(P:Hp->Hp->Hp->V->α->Prop)(te:TE)(f:En->Option α):Prop:=
 ∀(HB:Hp) (σ:L2.St) (ρ:En) (H0 H:Hp),Same H0 H->ST R HB H0 H σ ρ->∀r,f ρ=some r->∀Q:VK,(∀v H0' H',Ext H0 H H0' H'->P H H0' H' v r->Q v H')->te σ H Q
abbrev RE (K:PySem.W.Frag) (R:Rl):TE->(En->Option Sl)->Prop:=RX K R (fun H H0' H' v r=>SlH K H H0' H' v r)
abbrev RP (K:PySem.W.Frag) (R:Rl):TE->(En->Option Sl)->Prop:=RX K R (fun _ H0' H' v r=>SlP K H0' H' v r)
abbrev RV (K:PySem.W.Frag) (R:Rl):TE->(En->Option PyData)->Prop:=RX K R (fun _ H0' _ v d=>Rep K H0' v d)
def RT(K:PySem.W.Frag)(R:Rl)(tt:TT)(f:En->Option Bool):Prop:=
 ∀(HB:Hp) (σ:L2.St) (ρ:En) (H0 H:Hp),Same H0 H->ST R HB H0 H σ ρ->∀b,f ρ=some b->∀Q:Bool->Hp->Prop,(∀H0' H',Ext H0 H H0' H'->Q b H')->tt σ H Q
def RA(K:PySem.W.Frag)(R:Rl)(ta:TA)(f:En->Option (List PyData)):Prop:=
 ∀(HB:Hp) (σ:L2.St) (ρ:En) (H0 H:Hp),Same H0 H->ST R HB H0 H σ ρ->∀ds,f ρ=some ds->∀Q:List V->Hp->Prop,(∀vs H0' H',Ext H0 H H0' H'->Reps K H0' vs ds->Q vs H')->ta σ H Q
def RQ(K:PySem.W.Frag)(R:Rl)(ta:TA)(f:En->Option (List Sl)):Prop:=
 ∀(HB:Hp) (σ:L2.St) (ρ:En) (H0 H:Hp),Same H0 H->ST R HB H0 H σ ρ->∀ss,f ρ=some ss->∀Q:List V->Hp->Prop,(∀vs H0' H',Ext H0 H H0' H'->Paired (SlP K H0' H') vs ss->Q vs H')->ta σ H Q
theorem RE.rp{te:TE}{f:En->Option Sl}(h:RE K R te f):RP K R te f:=fun HB σ ρ H0 H s e r hr Q q=>h HB σ ρ H0 H s e r hr Q fun v H0' H' x p=>q v H0' H' x p.p
theorem frz_ext{H0 H H0' H':Hp}{a:Addr}{w:HO}(x:Ext H0 H H0' H')(hn:H a=none)(h1:H0' a=none)(h2:H' a=some w):Ext H0 H (upd H0' a w) H' :=
 ⟨x.s,x.s0.trans (Same.upd h1 _),fun b u e=>by
  by_cases hb:b=a
  . subst hb;rw [upd_same] at e;rw [h2];exact e
  . rw [upd_ne hb] at e;exact x.s1 b u e,fun b o hb m h0=>by
  rw [upd_ne (ne_of_none hb hn)];exact x.own b o hb m h0⟩
def mDat(f:En->Option Sl):En->Option PyData:=fun ρ=>(f ρ).map Sl.dat
theorem RE.rv{te:TE}{f:En->Option Sl}(h:RE K R te f):RV K R te (mDat f):=fun HB σ ρ H0 H s e d hd Q q=>by
 obtain ⟨r,hr,rfl⟩:=Option.map_eq_some_iff.mp hd;refine h HB σ ρ H0 H s e r hr Q fun v H0' H' x p=> ?_
 cases r with
 | val d=>exact q v H0' H' x p
 | own ds=>
  obtain ⟨a,vs,rfl,hn,h1,h2,h3⟩:=p
  exact q _ _ _ (frz_ext x hn h1 h2) (.list (SqL.of upd_same) (Reps.same (Same.upd h1 _) h3))
 | dct kvs=>
  obtain ⟨a,t,rfl,hn,h1,h2,h3⟩:=p;exact q _ _ _ (frz_ext x hn h1 h2) ((h3.same (Same.upd h1 _)).rep upd_same)
def mPk(i:Nat):En->Option Sl:=fun ρ=>(ρ[i]?).join
def mVar(i:Nat):En->Option Sl:=fun ρ=>match (ρ[i]?).join with
 | some (.val d)=>some (.val d)
 | _=>none
def mK(d:PyData):En->Option Sl:=fun _=>some (.val d)
theorem join_some{α:Type}{o:Option (Option α)}{a:α}(h:o.join=some a):o=some (some a):=by
 cases o with
 | none=>cases h
 | some b=>exact congrArg some h
theorem rp_var(i:Nat)(hs:R.slot i):RP K R (tVar i) (mPk i):=fun HB σ ρ H0 H s e r hr Q q=>by
 obtain ⟨v,h1,h2⟩:=RelOk.get (K:=K) e.r hs (join_some hr);exact ⟨v,h1,q v H0 H (Ext.refl s) h2.p⟩
theorem re_var(i:Nat)(hs:R.slot i):RE K R (tVar i) (mVar i):=fun HB σ ρ H0 H s e r hr Q q=>by
 unfold mVar at hr
 cases ej:(ρ[i]?).join with
 | none=>rw [ej] at hr;cases hr
 | some r' =>
  rw [ej] at hr
  cases r' with
  | own _=>cases hr
  | dct _=>cases hr
  | val d=>
   cases hr
   obtain ⟨v,h1,h2⟩:=RelOk.get (K:=K) e.r hs (join_some ej);exact ⟨v,h1,q v H0 H (Ext.refl s) h2⟩
theorem re_k{v:V}{d:PyData}(h:∀H0:Hp,Rep K H0 v d):RE K R (tC v) (mK d):=fun HB σ ρ H0 H s e r hr Q q=>by
 cases hr
 exact q v H0 H (Ext.refl s) (h H0)
def OpD(K:PySem.W.Frag)(r:R2)(op:Sl->Sl->Option Sl):Prop:=
 ∀(H0 H:Hp) (x y:V) (sx sy z:Sl),Same H0 H->SlP K H0 H x sx->SlP K H0 H y sy->op sx sy=some z->∀Q:VK,(∀v H0' H',Ext H0 H H0' H'->SlH K H H0' H' v z->Q v H')->r x y H Q
def mBin(op:Sl->Sl->Option Sl)(fa fb:En->Option Sl):En->Option Sl:=fun ρ=>(fa ρ).bind fun a=>(fb ρ).bind fun b=>op a b
def mUn(op:Sl->Option Sl)(fa:En->Option Sl):En->Option Sl:=fun ρ=>(fa ρ).bind op
theorem re_bin{r:R2}{op:Sl->Sl->Option Sl}{ta tb:TE}{fa fb:En->Option Sl}(ho:OpD K r op)(ha:RP K R ta fa)(hb:RP K R tb fb):RE K R (tOp r ta tb) (mBin op fa fb):=fun HB σ ρ H0 H s e z hz Q q=>by
 obtain ⟨x,hx,hz⟩:=Option.bind_eq_some_iff.mp hz;obtain ⟨y,hy,hz⟩:=Option.bind_eq_some_iff.mp hz;refine ha HB σ ρ H0 H s e x hx _ fun v H1 J1 x1 p1=> ?_;refine hb HB σ ρ H1 J1 x1.s1 (e.ext (K:=K) x1) y hy _ fun u H2 J2 x2 p2=> ?_;exact ho H2 J2 v u x y z x2.s1 (p1.ext x2) p2 hz Q fun w H3 J3 x3 p3=>q w H3 J3 ((x1.trans x2).trans x3) (p3.base (x1.trans x2).s)
def iop(g:Int->Int->Int):Sl->Sl->Option Sl
 | .val (.int i), .val (.int j)=>some (.val (.int (g i j)))
 | _,_=>none
open Classical in
noncomputable def iopC(C:Int->Int->Prop)(g:Int->Int->Int):Sl->Sl->Option Sl
 | .val (.int i), .val (.int j)=>if C i j then some (.val (.int (g i j))) else none
 | _,_=>none
def icmp(g:Int->Int->Bool):Sl->Sl->Option Sl
 | .val (.int i), .val (.int j)=>some (.val (.bool (g i j)))
 | _,_=>none
def iun(g:Int->Int):Sl->Option Sl
 | .val (.int i)=>some (.val (.int (g i)))
 | _=>none
theorem opd_iopC{C:Int->Int->Prop}{g:Int->Int->Int}:OpD K (rI C fun i j=> .int (g i j)) (iopC C g):=fun H0 H x y sx sy z s px py hz Q q=>by
 unfold iopC at hz
 split at hz
 . split at hz
   . rename_i hc
     cases hz
     exact ⟨_,_,px.int,py.int,hc,q _ _ _ (Ext.refl s) (.int _)⟩
   . cases hz
 . cases hz
theorem opd_icmp{g:Int->Int->Bool}:OpD K (rI0 fun i j=> .bl (g i j)) (icmp g):=fun H0 H x y sx sy z s px py hz Q q=>by
 unfold icmp at hz
 split at hz
 . cases hz
   exact ⟨_,_,px.int,py.int,q _ _ _ (Ext.refl s) (.bool _)⟩
 . cases hz
def eqD(a b:PyData):Option Bool:=if a.canLay0=true/\b.canLay0=true/\min a.depth b.depth<=60 then some (PyData.eqv a b) else none
def deq:Sl->Sl->Option Sl:=fun a b=>(eqD a.dat b.dat).map fun k=> .val (.bool k)
def dne:Sl->Sl->Option Sl:=fun a b=>(eqD a.dat b.dat).map fun k=> .val (.bool (!k))
theorem opd_eq:OpD K (rEqD K) deq:=fun H0 H x y sx sy z s px py hz Q q=>by
 obtain ⟨k,hk,rfl⟩:=Option.map_eq_some_iff.mp hz;unfold eqD at hk
 split at hk
 . rename_i hc
   cases hk
   exact ⟨_,_,px.rep s,py.rep s,hc.1,hc.2.1,hc.2.2,q _ _ _ (Ext.refl s) (.bool _)⟩
 . cases hk
theorem opd_ne:OpD K (rNeD K) dne:=fun H0 H x y sx sy z s px py hz Q q=>by
 obtain ⟨k,hk,rfl⟩:=Option.map_eq_some_iff.mp hz;unfold eqD at hk
 split at hk
 . rename_i hc
   cases hk
   exact ⟨_,_,px.rep s,py.rep s,hc.1,hc.2.1,hc.2.2,q _ _ _ (Ext.refl s) (.bool _)⟩
 . cases hk
def isNone:PyData->Bool
 | .none=>true
 | _=>false
def disN:Sl->Sl->Option Sl
 | a, .val .none=>some (.val (.bool (isNone a.dat)))
 | _,_=>none
def disNN:Sl->Sl->Option Sl
 | a, .val .none=>some (.val (.bool (!isNone a.dat)))
 | _,_=>none
theorem isNone_of{H0 H:Hp}{v:V}{r:Sl}(s:Same H0 H)(p:SlP K H0 H v r):decide (v = .non)=isNone r.dat:=by
 have h:=rep_non (p.rep s)
 cases e:r.dat <;> simp_all [isNone]
theorem opd_isNN:OpD K (fun x y H Q=>y = .non/\Q (.bl (!decide (x = .non))) H) disNN:=fun H0 H x y sx sy z s px py hz Q q=>by
 unfold disNN at hz
 split at hz
 . cases hz
   refine ⟨py.none,?_⟩;rw [isNone_of s px];exact q _ _ _ (Ext.refl s) (.bool _)
 . cases hz
def dix:Sl->Sl->Option Sl
 | a, .val (.int i)=>match a.dat with
  | .list ds=>(atI ds i).map .val
  | .tuple ds=>(atI ds i).map .val
  | _=>none
 | _,_=>none
theorem Reps.atI{H:Hp}{vs:List V}{ds:List PyData}{i:Int}{d:PyData}(h:Reps K H vs ds)(e:atI ds i=some d):∃v,atI vs i=some v/\Rep K H v d:=by
 unfold L2.atI at e ⊢
 rw [h.length]
 cases ej:ixN ds.length i with
 | none=>rw [ej] at e;cases e
 | some j=>
  rw [ej] at e
  obtain ⟨v,h1,h2⟩:=Tf.Reps.get h (show ds[j]? = some d from e);exact ⟨v,h1,h2⟩
theorem opd_ix:OpD K (rIx K) dix:=fun H0 H x y sx sy z s px py hz Q q=>by
 unfold dix at hz
 split at hz
 . split at hz
   . rename_i i ds hd;obtain ⟨d,he,rfl⟩:=Option.map_eq_some_iff.mp hz;obtain ⟨a,vs,rfl,h1,h2⟩:=px.lst s hd;obtain ⟨v,h3,h4⟩:=Reps.atI h2 he;exact .inl ⟨a,vs,_,v,rfl,py.int,h1,h3,q _ _ _ (Ext.refl s) h4⟩
   . rename_i i ds hd;obtain ⟨d,he,rfl⟩:=Option.map_eq_some_iff.mp hz;obtain ⟨a,vs,rfl,h1,h2⟩:=px.tup hd;obtain ⟨v,h3,h4⟩:=Reps.atI h2 he;exact .inr (.inl ⟨a,vs,_,v,rfl,py.int,s.seqT (SqT.of h1),h3,q _ _ _ (Ext.refl s) h4⟩)
   . cases hz
 . cases hz
end
end Dm
namespace Dm
open PySem PySem.Spec PyProof.Rows L2 Tf
section
variable {K:PySem.W.Frag} {R:Rl} [RelOk K R]
def mNil:En->Option (List PyData):=fun _=>some []
def mCons(f:En->Option Sl)(g:En->Option (List PyData)):En->Option (List PyData):=fun ρ=>(f ρ).bind fun a=>(g ρ).bind fun as=>some (a.dat::as)
theorem ra_nil:RA K R tNil mNil:=fun HB σ ρ H0 H s e ds hd Q q=>by
 cases hd
 exact q [] H0 H (Ext.refl s) .nil
theorem ra_cons{te:TE}{ta:TA}{f:En->Option Sl}{g:En->Option (List PyData)}(hf:RE K R te f)(hg:RA K R ta g):RA K R (tCons te ta) (mCons f g):=fun HB σ ρ H0 H s e ds hd Q q=>by
 obtain ⟨a,ha,hd⟩:=Option.bind_eq_some_iff.mp hd;obtain ⟨as,has,hd⟩:=Option.bind_eq_some_iff.mp hd
 cases hd
 refine hf.rv HB σ ρ H0 H s e a.dat (by unfold mDat;rw [ha];rfl) _ fun v H1 J1 x1 p1=> ?_;exact hg HB σ ρ H1 J1 x1.s1 (e.ext (K:=K) x1) as has _ fun vs H2 J2 x2 p2=>q _ H2 J2 (x1.trans x2) (.cons (Rep.same x2.s0 p1) p2)
def mNilP:En->Option (List Sl):=fun _=>some []
def mConsP(f:En->Option Sl)(g:En->Option (List Sl)):En->Option (List Sl):=fun ρ=>(f ρ).bind fun a=>(g ρ).bind fun as=>some (a::as)
theorem rq_nil:RQ K R tNil mNilP:=fun HB σ ρ H0 H s e ds hd Q q=>by
 cases hd
 exact q [] H0 H (Ext.refl s) .nil
theorem rq_cons{te:TE}{ta:TA}{f:En->Option Sl}{g:En->Option (List Sl)}(hf:RP K R te f)(hg:RQ K R ta g):RQ K R (tCons te ta) (mConsP f g):=fun HB σ ρ H0 H s e ds hd Q q=>by
 obtain ⟨a,ha,hd⟩:=Option.bind_eq_some_iff.mp hd;obtain ⟨as,has,hd⟩:=Option.bind_eq_some_iff.mp hd
 cases hd
 refine hf HB σ ρ H0 H s e a ha _ fun v H1 J1 x1 p1=> ?_;exact hg HB σ ρ H1 J1 x1.s1 (e.ext (K:=K) x1) as has _ fun vs H2 J2 x2 p2=>q _ H2 J2 (x1.trans x2) (.cons (p1.ext x2) p2)
def mTup(f:En->Option (List PyData)):En->Option Sl:=fun ρ=>(f ρ).bind fun ds=>if ds.length<=sizeLine then some (.val (.tuple ds)) else none
def mLst(f:En->Option (List PyData)):En->Option Sl:=fun ρ=>(f ρ).bind fun ds=>if ds.length<=sizeLine then some (.own ds) else none
theorem re_tup{ta:TA}{f:En->Option (List PyData)}(h:RA K R ta f):RE K R (tTup ta) (mTup f):=fun HB σ ρ H0 H s e z hz Q q=>by
 obtain ⟨ds,hd,hz⟩:=Option.bind_eq_some_iff.mp hz
 split at hz
 . rename_i hl
   cases hz
   refine h HB σ ρ H0 H s e ds hd _ fun vs H1 J1 x1 p1=>⟨by rw [p1.length];exact hl,fun p hp=> ?_⟩;exact q _ _ _ (x1.trans (Ext.allocF x1.s1 hp _)) (.tuple upd_same (Reps.same (Same.upd (x1.s1.free hp) _) p1))
 . cases hz
theorem re_lst{ta:TA}{f:En->Option (List PyData)}(h:RA K R ta f):RE K R (tLst ta) (mLst f):=fun HB σ ρ H0 H s e z hz Q q=>by
 obtain ⟨ds,hd,hz⟩:=Option.bind_eq_some_iff.mp hz
 split at hz
 . rename_i hl
   cases hz
   refine h HB σ ρ H0 H s e ds hd _ fun vs H1 J1 x1 p1=>⟨by rw [p1.length];exact hl,fun p hp=> ?_⟩;exact q _ _ _ (x1.trans (Ext.alloc x1.s1 hp _)) ⟨p,vs,rfl,x1.s.free hp,x1.s1.free hp,upd_same,p1⟩
 . cases hz
def spD(K:PySem.W.Frag)(F:List PyData->Option Sl):Sp:=fun vs H Q _=>∃H0 ds r,Same H0 H/\Reps K H0 vs ds/\F ds=some r/\∀v H0' H',Ext H0 H H0' H'->SlH K H H0' H' v r->Q v H'
def mCall(F:List PyData->Option Sl)(f:En->Option (List PyData)):En->Option Sl:=fun ρ=>(f ρ).bind F
theorem re_call{F:List PyData->Option Sl}{E:XK}{ta:TA}{f:En->Option (List PyData)}(h:RA K R ta f):RE K R (tCall (spD K F) [] E ta) (mCall F f):=fun HB σ ρ H0 H s e z hz Q q=>by
 obtain ⟨ds,hd,hz⟩:=Option.bind_eq_some_iff.mp hz;refine h HB σ ρ H0 H s e ds hd _ fun vs H1 J1 x1 p1=> ?_;rw [List.append_nil];exact ⟨H1,ds,z,x1.s1,p1,hz,fun v H2 J2 x2 p2=>q v H2 J2 (x1.trans x2) (p2.base x1.s)⟩
def CallD(K:PySem.W.Frag)(r:List V->Hp->VK->Prop)(F:List Sl->Option Sl):Prop:=
 ∀(H0 H:Hp) (vs:List V) (ss:List Sl) (z:Sl),Same H0 H->Paired (SlP K H0 H) vs ss->F ss=some z->∀Q:VK,(∀v H0' H',Ext H0 H H0' H'->SlH K H H0' H' v z->Q v H')->r vs H Q
def mCallP(F:List Sl->Option Sl)(f:En->Option (List Sl)):En->Option Sl:=fun ρ=>(f ρ).bind F
theorem re_callB{r:List V->Hp->VK->Prop}{F:List Sl->Option Sl}{ta:TA}{f:En->Option (List Sl)}(hc:CallD K r F)(h:RQ K R ta f):RE K R (tCB r ta) (mCallP F f):=fun HB σ ρ H0 H s e z hz Q q=>by
 obtain ⟨ss,hd,hz⟩:=Option.bind_eq_some_iff.mp hz;refine h HB σ ρ H0 H s e ss hd _ fun vs H1 J1 x1 p1=> ?_;exact hc H1 J1 vs ss z x1.s1 p1 hz Q fun v H2 J2 x2 p2=>q v H2 J2 (x1.trans x2) (p2.base x1.s)
theorem paired1{H0 H:Hp}{vs:List V}{a:Sl}(h:Paired (SlP K H0 H) vs [a]):∃v,vs = [v]/\SlP K H0 H v a:=by
 cases h with | cons h t=>cases t;exact ⟨_,rfl,h⟩
def dLen:List Sl->Option Sl
 | [a]=>match a.dat with
  | .list ds=>some (.val (.int ds.length))
  | .tuple ds=>some (.val (.int ds.length))
  | _=>none
 | _=>none
theorem cd_len:CallD K (fun xs H Q=>∃p ys,xs = [.ref p]/\(SqL K H p ys\/SqT K H p ys)/\Q (.int ys.length) H) dLen:=fun H0 H vs ss z s p hz Q q=>by
 unfold dLen at hz
 split at hz
 . obtain ⟨v,rfl,pa⟩:=paired1 p
   split at hz
   . rename_i ds hd
     cases hz
     obtain ⟨a,vs,rfl,h1,h2⟩:=pa.lst s hd;refine ⟨a,vs,rfl, .inl h1,?_⟩;rw [h2.length];exact q _ _ _ (Ext.refl s) (.int _)
   . rename_i ds hd
     cases hz
     obtain ⟨a,vs,rfl,h1,h2⟩:=pa.tup hd;refine ⟨a,vs,rfl, .inr (s.seqT (SqT.of h1)),?_⟩;rw [h2.length];exact q _ _ _ (Ext.refl s) (.int _)
   . cases hz
 . cases hz
def dAbs:List Sl->Option Sl
 | [.val (.int i)]=>some (.val (.int (if i<0 then -i else i)))
 | _=>none
def dList:List Sl->Option Sl
 | [a]=>match a.dat with
  | .list ds=>some (.own ds)
  | .tuple ds=>some (.own ds)
  | _=>none
 | _=>none
def dTuple:List Sl->Option Sl
 | [a]=>match a.dat with
  | .list ds=>some (.val (.tuple ds))
  | .tuple ds=>some (.val (.tuple ds))
  | _=>none
 | _=>none
theorem cd_tuple:CallD K (fun xs H Q=>∃p ys,xs = [.ref p]/\((SqL K H p ys/\∀l,H l=none->Q (.ref l) (upd H l (.tup ys)))\/(SqT K H p ys/\Q (.ref p) H))) dTuple:=fun H0 H vs ss z s p hz Q q=>by
 unfold dTuple at hz
 split at hz
 . obtain ⟨v,rfl,pa⟩:=paired1 p
   split at hz
   . rename_i ds hd
     cases hz
     obtain ⟨a,vs,rfl,h1,h2⟩:=pa.lst s hd;exact ⟨a,vs,rfl, .inl ⟨h1,fun l hl=>q _ _ _ (Ext.allocF s hl _) (.tuple upd_same (Reps.same (Same.upd (s.free hl) _) h2))⟩⟩
   . rename_i ds hd
     cases hz
     obtain ⟨a,vs,rfl,h1,h2⟩:=pa.tup hd;exact ⟨a,vs,rfl, .inr ⟨s.seqT (SqT.of h1),q _ _ _ (Ext.refl s) (.tuple h1 h2)⟩⟩
   . cases hz
 . cases hz
def intsOf:List PyData->Option (List Int)
 | []=>some []
 | .int i::r=>(intsOf r).map (i :: ·)
 | _::_=>none
theorem intsOf_eq:∀ {ds:List PyData} {ns:List Int},intsOf ds=some ns->ds=ns.map .int
 | [],ns,h=>by cases h;rfl
 | .int i::r,ns,h=>by
  obtain ⟨ms,h1,rfl⟩:=Option.map_eq_some_iff.mp (show (intsOf r).map (i :: ·)=some ns from h);rw [intsOf_eq h1];rfl
theorem reps_ints{H:Hp}:∀ {vs:List V} {ns:List Int},Reps K H vs (ns.map .int)->vs=ns.map .int
 | _,[],h=>by cases h;rfl
 | _,n::r,h=>by
  cases h with
  | cons h t=>cases h;rw [reps_ints t];rfl
def dInt:List Sl->Option Sl
 | [.val (.int i)]=>some (.val (.int i))
 | [.val (.bool k)]=>some (.val (.int (if k then 1 else 0)))
 | _=>none
theorem cd_int:CallD K (fun xs H Q=>(∃i,xs = [.int i]/\Q (.int i) H)\/∃k,xs = [.bl k]/\Q (.int (if k then 1 else 0)) H) dInt:=fun H0 H vs ss z s p hz Q q=>by
 unfold dInt at hz
 split at hz
 . obtain ⟨v,rfl,pa⟩:=paired1 p
   cases hz
   exact .inl ⟨_,by rw [pa.int],q _ _ _ (Ext.refl s) (.int _)⟩
 . obtain ⟨v,rfl,pa⟩:=paired1 p
   cases hz
   exact .inr ⟨_,by rw [pa.bool],q _ _ _ (Ext.refl s) (.int _)⟩
 . cases hz
def tyD:PyData->Option String
 | .none=>some "NoneType"
 | .bool _=>some "bool"
 | .int _=>some "int"
 | .str _=>some "str"
 | .list _=>some "list"
 | .tuple _=>some "tuple"
 | _=>none
theorem tyD_of{H:Hp}{v:V}{d:PyData}(h:Rep K H v d)(hn:(tyD d).isSome=true):∃t,tyD d=some t/\TyV K H v t:=by
 cases h with
 | none=>exact ⟨_,rfl, .non⟩
 | bool b=>exact ⟨_,rfl, .bl b⟩
 | int i=>exact ⟨_,rfl, .int i⟩
 | str x=>exact ⟨_,rfl, .str x⟩
 | list h _=>exact ⟨_,rfl, .lst h⟩
 | tuple h _=>exact ⟨_,rfl, .tup (SqT.of h)⟩
 | dict h _ _=>cases hn
 | dictF h _ _=>cases hn
def isiD(n:String)(t:String):Option Bool:=
 if n = "int" then some (t == "int" || t == "bool") else if n = "bool" \/ n = "str" \/ n = "list" \/ n = "tuple" then some (t==n) else none
def mIsi(n:String)(f:En->Option Sl):En->Option Sl:=fun ρ=>(f ρ).bind fun a=>(tyD a.dat).bind fun t=>(isiD n t).map fun b=> .val (.bool b)
theorem re_isi {te:TE} {f:En->Option Sl} {n:String} (hk:∀t b,isiD n t=some b->(t = "NoneType" \/ t = "bool" \/ t = "int" \/ t = "str" \/ t = "list" \/ t = "tuple")->PySem.W.kitOne K (.type t) (.type n)=some b) (h:RP K R te f):RE K R (tCB (rIsI K) (tCons te (tCons (tC (.ty n)) tNil))) (mIsi n f):=fun HB σ ρ H0 H s e z hz Q q=>by
 obtain ⟨a,ha,hz⟩:=Option.bind_eq_some_iff.mp hz;obtain ⟨t,ht,hz⟩:=Option.bind_eq_some_iff.mp hz;obtain ⟨b,hb,rfl⟩:=Option.map_eq_some_iff.mp hz;refine h HB σ ρ H0 H s e a ha _ fun v H1 J1 x1 p1=> ?_;obtain ⟨t',ht',ty⟩:=tyD_of (p1.rep x1.s1) (by rw [ht];rfl);rw [ht] at ht'
 cases ht'
 refine ⟨v,n,t,b,rfl,ty,hk t b hb ?_,q _ _ _ x1 (.bool _)⟩
 cases ty <;> simp
def mTest(f:En->Option Sl):En->Option Bool:=fun ρ=>(f ρ).bind fun a=>match a with
 | .val (.bool b)=>some b
 | _=>none
theorem mTest_some{f:En->Option Sl}{ρ:En}{b:Bool}(h:mTest f ρ=some b):f ρ=some (.val (.bool b)):=by
 obtain ⟨a,ha,h⟩:=Option.bind_eq_some_iff.mp h;rw [ha]
 split at h
 . cases h;rfl
 . cases h
theorem rt_test{te:TE}{f:En->Option Sl}(h:RP K R te f):RT K R (tTest te) (mTest f):=fun HB σ ρ H0 H s e b hb Q q=>
 h HB σ ρ H0 H s e _ (mTest_some hb) _ fun v H1 J1 x1 p1=>⟨b,p1.bool,q _ _ x1⟩
theorem rt_b{te:TE}{f:En->Option Sl}(h:RP K R te f):RT K R (tB te) (mTest f):=fun HB σ ρ H0 H s e b hb Q q=>
 h HB σ ρ H0 H s e _ (mTest_some hb) _ fun v H1 J1 x1 p1=>⟨b,p1.bool,q _ _ x1⟩
def mAnd(f g:En->Option Bool):En->Option Bool:=fun ρ=>(f ρ).bind fun b=>if b then g ρ else some false
def mOr(f g:En->Option Bool):En->Option Bool:=fun ρ=>(f ρ).bind fun b=>if b then some true else g ρ
def mNot(f:En->Option Bool):En->Option Bool:=fun ρ=>(f ρ).map (!·)
theorem rt_and{t u:TT}{f g:En->Option Bool}(h:RT K R t f)(k:RT K R u g):RT K R (tAnd t u) (mAnd f g):=fun HB σ ρ H0 H s e b hb Q q=>by
 obtain ⟨c,hc,hb⟩:=Option.bind_eq_some_iff.mp hb;refine h HB σ ρ H0 H s e c hc _ fun H1 J1 x1=> ?_
 cases c with
 | true=>exact iteT (k HB σ ρ H1 J1 x1.s1 (e.ext (K:=K) x1) b hb Q fun H2 J2 x2=>q _ _ (x1.trans x2))
 | false=>cases hb;exact iteF (q _ _ x1)
theorem rt_or{t u:TT}{f g:En->Option Bool}(h:RT K R t f)(k:RT K R u g):RT K R (tOr t u) (mOr f g):=fun HB σ ρ H0 H s e b hb Q q=>by
 obtain ⟨c,hc,hb⟩:=Option.bind_eq_some_iff.mp hb;refine h HB σ ρ H0 H s e c hc _ fun H1 J1 x1=> ?_
 cases c with
 | false=>exact iteF (k HB σ ρ H1 J1 x1.s1 (e.ext (K:=K) x1) b hb Q fun H2 J2 x2=>q _ _ (x1.trans x2))
 | true=>cases hb;exact iteT (q _ _ x1)
theorem rt_not{t:TT}{f:En->Option Bool}(h:RT K R t f):RT K R (tNot t) (mNot f):=fun HB σ ρ H0 H s e b hb Q q=>by
 obtain ⟨c,hc,rfl⟩:=Option.map_eq_some_iff.mp hb;exact h HB σ ρ H0 H s e c hc _ fun H1 J1 x1=>q _ _ x1
def mAndV(f g:En->Option Sl):En->Option Sl:=fun ρ=>(mTest f ρ).bind fun b=>if b then g ρ else some (.val (.bool false))
def mOrV(f g:En->Option Sl):En->Option Sl:=fun ρ=>(mTest f ρ).bind fun b=>if b then some (.val (.bool true)) else g ρ
def mNotV(f:En->Option Sl):En->Option Sl:=fun ρ=>(mTest f ρ).map fun b=> .val (.bool (!b))
theorem re_andV{t u:TE}{f g:En->Option Sl}(h:RP K R t f)(k:RE K R u g):RE K R (tAndV t u) (mAndV f g):=fun HB σ ρ H0 H s e z hz Q q=>by
 obtain ⟨c,hc,hz⟩:=Option.bind_eq_some_iff.mp hz;refine h HB σ ρ H0 H s e _ (mTest_some hc) _ fun v H1 J1 x1 p1=>⟨c,p1.bool,?_⟩
 cases c with
 | true=>exact iteT (k HB σ ρ H1 J1 x1.s1 (e.ext (K:=K) x1) z hz Q fun v H2 J2 x2 p2=>q _ _ _ (x1.trans x2) (p2.base x1.s))
 | false=>cases hz;exact iteF (q _ _ _ x1 (.bool _))
theorem re_orV{t u:TE}{f g:En->Option Sl}(h:RP K R t f)(k:RE K R u g):RE K R (tOrV t u) (mOrV f g):=fun HB σ ρ H0 H s e z hz Q q=>by
 obtain ⟨c,hc,hz⟩:=Option.bind_eq_some_iff.mp hz;refine h HB σ ρ H0 H s e _ (mTest_some hc) _ fun v H1 J1 x1 p1=>⟨c,p1.bool,?_⟩
 cases c with
 | false=>exact iteF (k HB σ ρ H1 J1 x1.s1 (e.ext (K:=K) x1) z hz Q fun v H2 J2 x2 p2=>q _ _ _ (x1.trans x2) (p2.base x1.s))
 | true=>cases hz;exact iteT (q _ _ _ x1 (.bool _))
theorem re_notV{t:TE}{f:En->Option Sl}(h:RP K R t f):RE K R (tNotV t) (mNotV f):=fun HB σ ρ H0 H s e z hz Q q=>by
 obtain ⟨c,hc,rfl⟩:=Option.map_eq_some_iff.mp hz;exact h HB σ ρ H0 H s e _ (mTest_some hc) _ fun v H1 J1 x1 p1=>⟨c,p1.bool,q _ _ _ x1 (.bool _)⟩
def mIfE(c:En->Option Bool)(f g:En->Option Sl):En->Option Sl:=fun ρ=>(c ρ).bind fun b=>if b then f ρ else g ρ
theorem re_ifE{c:TT}{t u:TE}{fc:En->Option Bool}{f g:En->Option Sl}(hc:RT K R c fc)(h:RE K R t f)(k:RE K R u g):RE K R (tIf c t u) (mIfE fc f g):=fun HB σ ρ H0 H s e z hz Q q=>by
 obtain ⟨b,hb,hz⟩:=Option.bind_eq_some_iff.mp hz;refine hc HB σ ρ H0 H s e b hb _ fun H1 J1 x1=> ?_
 cases b with
 | true=>exact iteT (h HB σ ρ H1 J1 x1.s1 (e.ext (K:=K) x1) z hz Q fun v H2 J2 x2 p2=>q _ _ _ (x1.trans x2) (p2.base x1.s))
 | false=>exact iteF (k HB σ ρ H1 J1 x1.s1 (e.ext (K:=K) x1) z hz Q fun v H2 J2 x2 p2=>q _ _ _ (x1.trans x2) (p2.base x1.s))
def RO(K:PySem.W.Frag)(R:Rl)(to:TO)(f:En->Option (Option Int)):Prop:=
 ∀(HB:Hp) (σ:L2.St) (ρ:En) (H0 H:Hp),Same H0 H->ST R HB H0 H σ ρ->∀o,f ρ=some o->∀Q:Option Int->Hp->Prop,(∀H0' H',Ext H0 H H0' H'->Q o H')->to σ H Q
def mNoPart:En->Option (Option Int):=fun _=>some none
def mPart(f:En->Option Sl):En->Option (Option Int):=fun ρ=>(f ρ).bind fun a=>match a with
 | .val (.int i)=>some (some i)
 | _=>none
theorem ro_none:RO K R tNoPart mNoPart:=fun HB σ ρ H0 H s e o ho Q q=>by cases ho;exact q _ _ (Ext.refl s)
theorem ro_some{te:TE}{f:En->Option Sl}(h:RP K R te f):RO K R (tPart te) (mPart f):=fun HB σ ρ H0 H s e o ho Q q=>by
 obtain ⟨a,ha,ho⟩:=Option.bind_eq_some_iff.mp ho
 split at ho
 . cases ho
   exact h HB σ ρ H0 H s e _ ha _ fun v H1 J1 x1 p1=>⟨_,p1.int,q _ _ x1⟩
 . cases ho
def cutD{α:Type}(xs:List α)(lo hi:Option Int):List α:=(xs.drop (HT.sIx xs.length 0 lo)).take (HT.sIx xs.length xs.length hi - HT.sIx xs.length 0 lo)
theorem Reps.drop{H:Hp}:∀ {vs:List V} {ds:List PyData} (n:Nat),Reps K H vs ds->Reps K H (vs.drop n) (ds.drop n)
 | _,_,0,h=>h
 | _,_,_+1, .nil=> .nil
 | _,_,n+1, .cons _ t=>Reps.drop n t
theorem Reps.take{H:Hp}:∀ {vs:List V} {ds:List PyData} (n:Nat),Reps K H vs ds->Reps K H (vs.take n) (ds.take n)
 | _,_,0,_=> .nil
 | _,_,_+1, .nil=> .nil
 | _,_,n+1, .cons h t=> .cons h (Reps.take n t)
theorem Reps.cut{H:Hp}{vs:List V}{ds:List PyData}(h:Reps K H vs ds)(lo hi:Option Int):Reps K H (cutV vs lo hi) (cutD ds lo hi):=by
 unfold cutV cutD;rw [h.length];exact Reps.take _ (Reps.drop _ h)
def dSl(a:Sl)(lo hi:Option Int):Option Sl:=match a.dat with
 | .list ds=>some (.own (cutD ds lo hi))
 | .tuple ds=>if HT.sIx ds.length 0 lo=0/\HT.sIx ds.length ds.length hi=ds.length then none else some (.val (.tuple (cutD ds lo hi)))
 | _=>none
def mSl(f:En->Option Sl)(l h:En->Option (Option Int)):En->Option Sl:=fun ρ=>(f ρ).bind fun a=>(l ρ).bind fun lo=>(h ρ).bind fun hi=>dSl a lo hi
theorem re_sl{te:TE}{tl th:TO}{f:En->Option Sl}{fl fh:En->Option (Option Int)}(h:RP K R te f)(hl:RO K R tl fl)(hh:RO K R th fh):RE K R (tSl (fun x lo hi H Q=>rSlL K x lo hi H Q\/rSlT K x lo hi H Q) te tl th) (mSl f fl fh):=fun HB σ ρ H0 H s e z hz Q q=>by
 obtain ⟨a,ha,hz⟩:=Option.bind_eq_some_iff.mp hz;obtain ⟨lo,hlo,hz⟩:=Option.bind_eq_some_iff.mp hz;obtain ⟨hi,hhi,hz⟩:=Option.bind_eq_some_iff.mp hz;refine h HB σ ρ H0 H s e a ha _ fun v H1 J1 x1 p1=> ?_;refine hl HB σ ρ H1 J1 x1.s1 (e.ext (K:=K) x1) lo hlo _ fun H2 J2 x2=> ?_;refine hh HB σ ρ H2 J2 x2.s1 ((e.ext (K:=K) x1).ext (K:=K) x2) hi hhi _ fun H3 J3 x3=> ?_;have x:=(x1.trans x2).trans x3;have p:=p1.ext (x2.trans x3);unfold dSl at hz
 split at hz
 . rename_i ds hd
   cases hz
   obtain ⟨b,vs,rfl,h1,h2⟩:=p.lst x.s1 hd;exact .inl ⟨b,vs,rfl,h1,fun l hl=>q _ _ _ (x.trans (Ext.alloc x.s1 hl _)) ⟨l,_,rfl,x.s.free hl,x.s1.free hl,upd_same,Reps.cut h2 lo hi⟩⟩
 . rename_i ds hd
   split at hz
   . cases hz
   . rename_i hw
     cases hz
     obtain ⟨b,vs,rfl,h1,h2⟩:=p.tup hd;refine .inr ⟨b,vs,rfl,x.s1.seqT (SqT.of h1),by rw [h2.length];exact hw,fun l hl=>q _ _ _ (x.trans (Ext.allocF x.s1 hl _)) (.tuple upd_same (Reps.same (Same.upd (x.s1.free hl) _) (Reps.cut h2 lo hi)))⟩
 . cases hz
end
end Dm
namespace Dm
open PySem PySem.Spec PyProof.Rows L2 Tf
inductive Out where
 | nx (ρ:En) | rt (r:Sl) (ρ:En) | bk (ρ:En) | ct (ρ:En)
section
variable {K:PySem.W.Frag} {R:Rl} [RelOk K R]
def EndR(K:PySem.W.Frag)(R:Rl)(HB S0:Hp)(D:Ends):Out->Prop
 | .nx ρ=>∀σ H0 H,Ext S0 HB H0 H->ST R HB H0 H σ ρ->D.nx σ H
 | .bk ρ=>∀σ H0 H,Ext S0 HB H0 H->ST R HB H0 H σ ρ->D.bk σ H
 | .ct ρ=>∀σ H0 H,Ext S0 HB H0 H->ST R HB H0 H σ ρ->D.ct σ H
 | .rt r ρ=>∀v σ H0 H,Ext S0 HB H0 H->ST R HB H0 H σ ρ->SlH K HB H0 H v r->D.rt v H
def RS(K:PySem.W.Frag)(R:Rl)(ts:TS)(g:En->Option Out):Prop:=
 ∀(HB S0:Hp) (σ:L2.St) (ρ:En) (H0 H:Hp),Ext S0 HB H0 H->ST R HB H0 H σ ρ->∀o,g ρ=some o->∀D:Ends,EndR K R HB S0 D o->ts D σ H
def mNext:En->Option Out:=fun ρ=>some (.nx ρ)
def mBrk:En->Option Out:=fun ρ=>some (.bk ρ)
def mCt:En->Option Out:=fun ρ=>some (.ct ρ)
def mRetN:En->Option Out:=fun ρ=>some (.rt (.val .none) ρ)
theorem rs_next:RS K R tNext mNext:=fun HB S0 σ ρ H0 H x e o ho D d=>by cases ho;exact d σ H0 H x e
def mSeq(f g:En->Option Out):En->Option Out:=fun ρ=>(f ρ).bind fun o=>match o with
 | .nx ρ'=>g ρ'
 | o=>some o
theorem rs_seq{t u:TS}{f g:En->Option Out}(h:RS K R t f)(k:RS K R u g):RS K R (tSeq t u) (mSeq f g):=fun HB S0 σ ρ H0 H x e o ho D d=>by
 obtain ⟨o1,h1,ho⟩:=Option.bind_eq_some_iff.mp ho;refine h HB S0 σ ρ H0 H x e o1 h1 { D with nx:=u D} ?_
 cases o1 with
 | nx ρ'=>exact fun σ' H0' H' x' e'=>k HB S0 σ' ρ' H0' H' x' e' o ho D d
 | rt r _=>cases ho;exact d
 | bk r=>cases ho;exact d
 | ct r=>cases ho;exact d
theorem ER.set{HB H0 H H0' H':Hp}{σ:L2.St}{ρ:En}{i:Nat}{v:V}{r:Sl}(e:ER K HB H0 H σ ρ)(x:Ext H0 H H0' H')(sb:Same HB H)(h:SlH K H H0' H' v r):ER K HB H0' H' (σ.set i (some v)) (ρ.set i (some r)):=by
 have e':=e.ext x;refine ⟨by rw [List.length_set,List.length_set];exact e.len,fun j s hs=> ?_,fun j k a ds es hjk hj hk h1 h2=> ?_⟩
 . by_cases hj:i=j
   . subst hj;rw [List.getElem?_set_self'] at hs ⊢
     cases hq:ρ[i]? with
     | none=>rw [hq] at hs;cases hs
     | some q=>
      rw [hq] at hs
      have hi:i<σ.length:=by rw [e.len];exact (List.getElem?_eq_some_iff.mp hq).1
      rw [List.getElem?_eq_getElem hi]
      cases hs
      exact ⟨v,rfl,h.base sb⟩
   . rw [List.getElem?_set_ne hj] at hs ⊢
     exact e'.get j s hs
 . have key : ∀ (j' k' : Nat) (b : Addr) ds' es', i = j' -> i ≠ k' -> (ρ.set i (some r))[j']? = some (some (.own ds')) -> ρ[k']? = some (some (.own es')) -> (σ.set i (some v))[j']? = some (some (.ref b)) -> σ[k']? ≠ some (some (.ref b)) := by
    clear hj hk h1 h2 hjk;intro j' k' b ds' es' hij hik hj hk h1 h2;subst hij;rw [List.getElem?_set_self'] at hj h1
    cases hq:ρ[i]? with
    | none=>rw [hq] at hj;cases hj
    | some q=>
     rw [hq] at hj
     cases hj
     have hi:i<σ.length:=by rw [e.len];exact (List.getElem?_eq_some_iff.mp hq).1
     rw [List.getElem?_eq_getElem hi] at h1
     cases h1
     obtain ⟨a',vs,ea,hn,_⟩:=h
     cases ea
     obtain ⟨w,hw,hb⟩:=e.get k' _ hk;rw [h2] at hw
     cases hw
     obtain ⟨b',ws,eb,_,_,hs,_⟩:=hb
     cases eb
     rw [hn] at hs
     cases hs
   by_cases hij:i=j
   . have hik:i≠k:=fun z=>hjk (hij.symm.trans z);rw [List.getElem?_set_ne hik] at hk h2
     exact key j k a ds es hij hik hj hk h1 h2
   . rw [List.getElem?_set_ne hij] at hj h1
     by_cases hik:i=k
     . exact key k j a es ds hik hij hk hj h2 h1
     . rw [List.getElem?_set_ne hik] at hk h2
       exact e.apart j k a ds es hjk hj hk h1 h2
def mAsg(i:Nat)(f:En->Option Sl):En->Option Out:=fun ρ=>(f ρ).map fun r=> .nx (ρ.set i (some r))
theorem rs_asg{te:TE}{f:En->Option Sl}{i:Nat}(hsl:R.slot i)(h:RE K R te f):RS K R (tAsg te (gName i)) (mAsg i f):=fun HB S0 σ ρ H0 H x e o ho D d=>by
 obtain ⟨r,hr,rfl⟩:=Option.map_eq_some_iff.mp ho;exact h HB σ ρ H0 H x.s1 e r hr _ fun v H1 J1 x1 p1=>d _ H1 J1 (x.chain x1) ⟨RelOk.set e.r hsl x1 x.s p1⟩
def mRet(f:En->Option Sl):En->Option Out:=fun ρ=>(f ρ).map fun r=> .rt r ρ
theorem rs_ret{te:TE}{f:En->Option Sl}(h:RE K R te f):RS K R (tRet te) (mRet f):=fun HB S0 σ ρ H0 H x e o ho D d=>by
 obtain ⟨r,hr,rfl⟩:=Option.map_eq_some_iff.mp ho;exact h HB σ ρ H0 H x.s1 e r hr _ fun v H1 J1 x1 p1=>d v σ H1 J1 (x.chain x1) (e.ext (K:=K) x1) (p1.base x.s)
theorem rs_retV(i:Nat)(hsl:R.slot i):RS K R (tRet (tVar i)) (mRet (mPk i)):=fun HB S0 σ ρ H0 H x e o ho D d=>by
 obtain ⟨r,hr,rfl⟩:=Option.map_eq_some_iff.mp ho;obtain ⟨v,h1,h2⟩:=RelOk.get (K:=K) e.r hsl (join_some hr);exact ⟨v,h1,d v σ H0 H x e h2⟩
def mIf(c:En->Option Bool)(f g:En->Option Out):En->Option Out:=fun ρ=>(c ρ).bind fun b=>if b then f ρ else g ρ
theorem rs_if{c:TT}{t u:TS}{fc:En->Option Bool}{f g:En->Option Out}(hc:RT K R c fc)(h:RS K R t f)(k:RS K R u g):RS K R (tIfS c t u) (mIf fc f g):=fun HB S0 σ ρ H0 H x e o ho D d=>by
 obtain ⟨b,hb,ho⟩:=Option.bind_eq_some_iff.mp ho;refine hc HB σ ρ H0 H x.s1 e b hb _ fun H1 J1 x1=> ?_
 cases b with
 | true=>exact iteT (h HB S0 σ ρ H1 J1 (x.chain x1) (e.ext (K:=K) x1) o ho D d)
 | false=>exact iteF (k HB S0 σ ρ H1 J1 (x.chain x1) (e.ext (K:=K) x1) o ho D d)
def mDrop(f:En->Option Sl):En->Option Out:=fun ρ=>(f ρ).map fun _=> .nx ρ
theorem Ext.write{S0 HB H0 H:Hp}{a:Addr}(x:Ext S0 HB H0 H)(hb:HB a=none)(h0:H0 a=none)(o:HO):Ext S0 HB H0 (upd H a o) :=
 ⟨fun b u e=>by rw [upd_ne (ne_of_none e hb)];exact x.s b u e,x.s0,fun b u e=>by rw [upd_ne (ne_of_none e h0)];exact x.s1 b u e,x.own⟩
theorem ER.write {HB H0 H : Hp} {σ : L2.St} {ρ : En} {i : Nat} {a : Addr} {ds es : List PyData} {ys : List V} (e : ER K HB H0 H σ ρ) (hi : ρ[i]? = some (some (.own ds))) (hs : σ[i]? = some (some (.ref a))) (hb : HB a = none) (h0 : H0 a = none) (hr : Reps K H0 ys es) :
 ER K HB H0 (upd H a (.lst ys)) σ (ρ.set i (some (.own es))):=by
 have own:∀(j:Nat),∀ts,(ρ.set i (some (.own es)))[j]? = some (some (.own ts))->∃ts',ρ[j]? = some (some (.own ts')):=by
  intro j ts h
  by_cases hj:i=j
  . subst hj;exact ⟨_,hi⟩
  . rw [List.getElem?_set_ne hj] at h;exact ⟨_,h⟩
 refine ⟨by rw [List.length_set];exact e.len,fun j s hq=> ?_,fun j k b ts us hjk hj hk h1 h2=> ?_⟩
 . by_cases hj:i=j
   . subst hj;rw [List.getElem?_set_self',hi] at hq
     cases hq
     exact ⟨.ref a,hs,a,ys,rfl,hb,h0,upd_same,hr⟩
   . rw [List.getElem?_set_ne hj] at hq
     obtain ⟨v,h1,h2⟩:=e.get j s hq;refine ⟨v,h1,?_⟩
     cases s with
     | val d=>exact h2
     | own ts=>
      obtain ⟨b,vs,rfl,g1,g2,g3,g4⟩:=h2;refine ⟨b,vs,rfl,g1,g2,?_,g4⟩;rw [upd_ne]
      . exact g3
      . rintro rfl
        exact e.apart i j b ds ts hj hi hq hs h1
     | dct ts=>
      obtain ⟨b,t,rfl,g1,g2,g3,g4⟩:=h2;refine ⟨b,t,rfl,g1,g2,?_,g4⟩;rw [upd_ne]
      . exact g3
      . rintro rfl;obtain ⟨v',hs',a',vs',e',_,_,g5,_⟩:=e.get i _ hi;rw [hs] at hs'
        cases hs'
        cases e'
        rw [g3] at g5
        cases g5
 . obtain ⟨ts',hj⟩:=own j ts hj;obtain ⟨us',hk⟩:=own k us hk;exact e.apart j k b ts' us' hjk hj hk h1 h2
def mApp(i:Nat)(f:En->Option Sl):En->Option Out:=fun ρ=>match (ρ[i]?).join with
 | some (.own ds)=>(f ρ).bind fun r=>if ds.length<sizeLine then some (.nx (ρ.set i (some (.own (ds ++ [r.dat]))))) else none
 | _=>none
theorem own_of {HB H0 H : Hp} {σ : L2.St} {ρ : En} {i : Nat} {ds : List PyData} (e : ST R HB H0 H σ ρ) (hsl : R.slot i) (h : (ρ[i]?).join = some (.own ds)) :
 ∃a vs,ρ[i]? = some (some (.own ds))/\σ[i]? = some (some (.ref a))/\HB a=none/\H0 a=none/\H a=some (.lst vs)/\Reps K H0 vs ds:=by
 obtain ⟨v,h1,a,vs,rfl,g1,g2,g3,g4⟩:=RelOk.get (K:=K) e.r hsl (join_some h);exact ⟨a,vs,join_some h,h1,g1,g2,g3,g4⟩
theorem rs_app{te:TE}{f:En->Option Sl}{i:Nat}(hsl:R.slot i)(h:RE K R te f):RS K R (tDrop (tBM K "list" rAppend (tVar i) (tCons te tNil))) (mApp i f):=fun HB S0 σ ρ H0 H x e o ho D d=>by
 unfold mApp at ho
 split at ho
 . rename_i ds hj;obtain ⟨r,hr,ho⟩:=Option.bind_eq_some_iff.mp ho
   split at ho
   . rename_i hl
     cases ho
     obtain ⟨a,vs,hi,hs,g1,g2,g3,g4⟩:=own_of (K:=K) e hsl hj;refine ⟨.ref a,hs, .inl ⟨rfl,vs,SqL.of g3⟩,?_⟩;refine h.rv HB σ ρ H0 H x.s1 e r.dat (by unfold mDat;rw [hr];rfl) _ fun v H1 J1 x1 p1=> ?_;have l0:=x1.own a _ g3 True.intro g2;refine ⟨a,vs,v,rfl,rfl,x1.s _ _ g3,by rw [g4.length];exact hl,?_⟩;exact d σ H1 _ ((x.chain x1).write g1 l0 _) ⟨RelOk.write (K:=K) (e.ext (K:=K) x1).r hsl hi hs g1 l0 (x1.s _ _ g3) (Tf.Reps.snoc (Reps.same x1.s0 g4) p1)⟩
   . cases ho
 . cases ho
def mSet(i:Nat)(fj f:En->Option Sl):En->Option Out:=fun ρ=>(f ρ).bind fun r=>match (ρ[i]?).join with
 | some (.own ds)=>(fj ρ).bind fun k=>match k with
  | .val (.int k)=>(ixN ds.length k).map fun j=> .nx (ρ.set i (some (.own (ds.set j r.dat))))
  | _=>none
 | _=>none
theorem Reps.set{H:Hp}{v:V}{d:PyData}(r:Rep K H v d):∀ {vs:List V} {ds:List PyData} (i:Nat),Reps K H vs ds->Reps K H (vs.set i v) (ds.set i d)
 | _,_,_, .nil=> .nil
 | _,_,0, .cons _ t=> .cons r t
 | _,_,i+1, .cons q t=> .cons q (Reps.set r i t)
theorem rs_set{te tj:TE}{f fj:En->Option Sl}{i:Nat}(hsl:R.slot i)(h:RE K R te f)(hj:RP K R tj fj):RS K R (tAsg te (gSub (tVar i) tj rSetL)) (mSet i fj f):=fun HB S0 σ ρ H0 H x e o ho D d=>by
 obtain ⟨r,hr,ho⟩:=Option.bind_eq_some_iff.mp ho
 split at ho
 . rename_i ds hown;obtain ⟨k,hk,ho⟩:=Option.bind_eq_some_iff.mp ho
   split at ho
   . rename_i k;obtain ⟨j,hix,rfl⟩:=Option.map_eq_some_iff.mp ho;refine h.rv HB σ ρ H0 H x.s1 e r.dat (by unfold mDat;rw [hr];rfl) _ fun v H1 J1 x1 p1=> ?_;obtain ⟨a,vs,hi,hs,g1,g2,g3,g4⟩:=own_of (K:=K) (e.ext (K:=K) x1) hsl hown;refine ⟨.ref a,hs,?_⟩;refine hj HB σ ρ H1 J1 x1.s1 (e.ext (K:=K) x1) _ hk _ fun w H2 J2 x2 p2=> ?_;have l0:=x2.own a _ g3 True.intro g2;refine ⟨a,vs,k,j,rfl,p2.int,x2.s _ _ g3,by rw [g4.length];exact hix,?_⟩;exact d σ H2 _ (((x.chain x1).chain x2).write g1 l0 _) ⟨RelOk.write (K:=K) ((e.ext (K:=K) x1).ext (K:=K) x2).r hsl hi hs g1 l0 (x2.s _ _ g3) (Reps.set (Rep.same x2.s0 p1) j (Reps.same x2.s0 g4))⟩
   . cases ho
 . cases ho
def frz1(i:Nat)(ρ:En):En:=match (ρ[i]?).join with
 | some (.own ds)=>ρ.set i (some (.val (.list ds)))
 | _=>ρ
def mFrz(i:Nat)(g:En->Option Out):En->Option Out:=fun ρ=>g (frz1 i ρ)
theorem ER.frz{S0 HB H0 H:Hp}{σ:L2.St}{ρ:En}{i:Nat}{ds:List PyData}(e:ER K HB H0 H σ ρ)(hi:ρ[i]? = some (some (.own ds)))(x:Ext S0 HB H0 H):∃a vs,H a=some (.lst vs)/\Ext S0 HB (upd H0 a (.lst vs)) H/\ER K HB (upd H0 a (.lst vs)) H σ (ρ.set i (some (.val (.list ds)))):=by
 obtain ⟨v,hs,a,vs,rfl,g1,g2,g3,g4⟩:=e.get i _ hi;have s0:Same H0 (upd H0 a (.lst vs)):=Same.upd g2 _
 have x' : Ext S0 HB (upd H0 a (.lst vs)) H := ⟨x.s, x.s0.trans s0, fun b u q => by
  by_cases hb:b=a
  . subst hb;rw [upd_same] at q;rw [g3];exact q
  . rw [upd_ne hb] at q;exact x.s1 b u q,fun b u q m q0=>by rw [upd_ne (ne_of_none q g1)];exact x.own b u q m q0⟩
 refine ⟨a,vs,g3,x',⟨by rw [List.length_set];exact e.len,fun j s hq=> ?_,fun j k b ts us hjk h1 h2 h3 h4=> ?_⟩⟩
 . by_cases hij:i=j
   . subst hij;rw [List.getElem?_set_self',hi] at hq
     cases hq
     exact ⟨.ref a,hs, .list (SqL.of upd_same) (Reps.same s0 g4)⟩
   . rw [List.getElem?_set_ne hij] at hq
     obtain ⟨v,h1,h2⟩:=e.get j s hq;refine ⟨v,h1,?_⟩
     cases s with
     | val d=>exact Rep.same s0 h2
     | own ts=>
      obtain ⟨b,ws,rfl,q1,q2,q3,q4⟩:=h2;refine ⟨b,ws,rfl,q1,?_,q3,Reps.same s0 q4⟩;rw [upd_ne]
      . exact q2
      . rintro rfl
        exact e.apart i j b ds ts hij hi hq hs h1
     | dct ts=>
      obtain ⟨b,t,rfl,q1,q2,q3,q4⟩:=h2;refine ⟨b,t,rfl,q1,?_,q3,q4.same s0⟩;rw [upd_ne]
      . exact q2
      . rintro rfl;rw [q3] at g3
        cases g3
 . have hij : i ≠ j := by
    rintro rfl;rw [List.getElem?_set_self',hi] at h1
    cases h1
   have hik:i≠k:=by
    rintro rfl;rw [List.getElem?_set_self',hi] at h2
    cases h2
   rw [List.getElem?_set_ne hij] at h1
   rw [List.getElem?_set_ne hik] at h2
   exact e.apart j k b ts us hjk h1 h2 h3 h4
instance relOk_PR:RelOk K (PR K) where
 ext:=fun x e=>ER.ext x e
 get:=fun e _ h=>ER.get e _ _ h
 set:=fun e _ x s h=>ER.set e x s h
 write:=fun e _ h1 h2 h3 h4 _ h5=>ER.write e h1 h2 h3 h4 h5
 frz:=fun e _ h x=>by obtain ⟨a,vs,_,h1,h2⟩:=ER.frz e h x;exact ⟨_,h1,h2⟩
theorem rs_frz{ts:TS}{g:En->Option Out}(i:Nat)(hsl:R.slot i)(h:RS K R ts g):RS K R ts (mFrz i g):=fun HB S0 σ ρ H0 H x e o ho D d=>by
 unfold mFrz frz1 at ho
 split at ho
 . rename_i ds hj;obtain ⟨H0',x',e'⟩:=RelOk.frz (K:=K) e.r hsl (join_some hj) x;exact h HB S0 σ _ H0' H x' ⟨e'⟩ o ho D d
 . exact h HB S0 σ ρ H0 H x e o ho D d
def RG(K:PySem.W.Frag)(R:Rl)(g:TG)(fg:PyData->En->Option En):Prop:=
 ∀(HB:Hp) (σ:L2.St) (ρ ρ':En) (H0 H:Hp) (v:V) (d:PyData),Same H0 H->Same HB H->ST R HB H0 H σ ρ->Rep K H0 v d->fg d ρ=some ρ'->∀Q:L2.St->Hp->Prop,(∀σ',ST R HB H0 H σ' ρ'->Q σ' H)->g v σ H Q
def gVar(i:Nat):PyData->En->Option En:=fun d ρ=>some (ρ.set i (some (.val d)))
theorem rg_name(i:Nat)(hsl:R.slot i):RG K R (gName i) (gVar i):=fun HB σ ρ ρ' H0 H v d s sb e r h Q q=>by
 cases h
 exact q _ ⟨RelOk.set (K:=K) e.r hsl (Ext.refl s) sb (show SlH K H H0 H v (.val d) from r)⟩
def gsAll:List (PyData->En->Option En)->List PyData->En->Option En
 | [],[],ρ=>some ρ
 | g::gs,d::ds,ρ=>(g d ρ).bind fun ρ'=>gsAll gs ds ρ'
 | _,_,_=>none
def gTupD(gs:List (PyData->En->Option En)):PyData->En->Option En:=fun d ρ=>match d with
 | .tuple ds=>if ds.length=gs.length then gsAll gs ds ρ else none
 | _=>none
def ItR(K:PySem.W.Frag)(H0:Hp)(J:It)(ds:List PyData):Prop:=∀H0' H',Same H0 H0'->Same H0' H'->∀i:Nat,(∀d,ds[i]? = some d->J.go i H'/\∀x H2,J.yld i H' x H2->∃H02,Ext H0' H' H02 H2/\Rep K H02 x d)/\(ds.length<=i->J.stop i H')
def RI(K:PySem.W.Frag)(R:Rl)(wi:TI)(f:En->Option (List PyData)):Prop:=
 ∀(HB:Hp) (σ:L2.St) (ρ:En) (H0 H:Hp),Same H0 H->ST R HB H0 H σ ρ->∀ds,f ρ=some ds->∀R:It->Hp->Prop,(∀J H0' H',Ext H0 H H0' H'->ItR K H0' J ds->R J H')->wi σ H R
def mItems(f:En->Option Sl):En->Option (List PyData):=fun ρ=>(f ρ).bind fun a=>match a.dat with
 | .list ds=>some ds
 | _=>none
def mItemsT(f:En->Option Sl):En->Option (List PyData):=fun ρ=>(f ρ).bind fun a=>match a.dat with
 | .tuple ds=>some ds
 | _=>none
theorem it_list{H0:Hp}{a:Addr}{vs:List V}{ds:List PyData}(h:SqL K H0 a vs)(r:Reps K H0 vs ds):ItR K H0 (Itl K a) ds:=fun H0' H' s s' i=>by
 have h':=s'.seq (s.seq h);refine ⟨fun d hd=> ?_,fun hi=>⟨vs,h',by rw [r.length];exact hi⟩⟩;obtain ⟨v,e1,e2⟩:=Tf.Reps.get r hd;refine ⟨⟨vs,v,h',e1⟩,fun x H2 y=> ?_⟩;obtain ⟨rfl,y⟩:=y;have:=y vs h';rw [e1] at this
 cases this
 exact ⟨H0',Ext.refl s',Rep.same s e2⟩
theorem it_tup{H0:Hp}{a:Addr}{vs:List V}{ds:List PyData}(h:SqT K H0 a vs)(r:Reps K H0 vs ds):ItR K H0 (Itt K a) ds:=fun H0' H' s s' i=>by
 have h':=s'.seqT (s.seqT h);refine ⟨fun d hd=> ?_,fun hi=>⟨vs,h',by rw [r.length];exact hi⟩⟩;obtain ⟨v,e1,e2⟩:=Tf.Reps.get r hd;refine ⟨⟨vs,v,h',e1⟩,fun x H2 y=> ?_⟩;obtain ⟨rfl,y⟩:=y;have:=y vs h';rw [e1] at this
 cases this
 exact ⟨H0',Ext.refl s',Rep.same s e2⟩
def rngD(lo:Int)(n:Nat):List PyData:=(List.range n).map fun i=> .int (lo+(i:Nat))
theorem rngD_get{lo:Int}{n i:Nat}:(rngD lo n)[i]? = if i<n then some (.int (lo+(i:Nat))) else none:=by
 unfold rngD;rw [List.getElem?_map]
 by_cases h:i<n
 . rw [List.getElem?_range h,if_pos h];rfl
 . rw [if_neg h,List.getElem?_eq_none (by simpa using h)];rfl
theorem it_range{H0:Hp}{lo:Int}{n:Nat}:ItR K H0 (Itr lo n) (rngD lo n):=fun H0' H' s s' i=>by
 refine ⟨fun d hd=> ?_,fun hi=>show n<=i by simpa [rngD] using hi⟩;rw [rngD_get] at hd
 split at hd
 . rename_i hi
   cases hd
   exact ⟨hi,fun x H2 y=>by obtain ⟨rfl,rfl⟩:=y;exact ⟨H0',Ext.refl s', .int _⟩⟩
 . cases hd
def inB(i:Int):Prop:= -(2 ^ 62)<=i/\i<2 ^ 62
noncomputable instance (i:Int):Decidable (inB i):=Classical.propDecidable _
noncomputable def mRng1(f:En->Option (List Sl)):En->Option (List PyData):=fun ρ=>(f ρ).bind fun a=>match a with
 | [.val (.int j)]=>if inB j then some (rngD 0 j.toNat) else none
 | _=>none
theorem ri_range1{ta:TA}{f:En->Option (List Sl)}(h:RQ K R ta f):RI K R (iRng1 ta) (mRng1 f):=fun HB σ ρ H0 H s e ds hd R q=>by
 obtain ⟨a,ha,hd⟩:=Option.bind_eq_some_iff.mp hd
 split at hd
 . split at hd
   . rename_i j hb
     cases hd
     refine h HB σ ρ H0 H s e _ ha _ fun vs H1 J1 x1 p1=> ?_;obtain ⟨v,rfl,pa⟩:=paired1 p1;exact ⟨j,by rw [pa.int],hb.1,hb.2,q _ _ _ x1 it_range⟩
   . cases hd
 . cases hd
def forM(fg:PyData->En->Option En)(gb:En->Option Out):List PyData->En->Option Out
 | [],ρ=>some (.nx ρ)
 | d::ds,ρ=>(fg d ρ).bind fun ρ1=>(gb ρ1).bind fun o=>match o with
  | .nx ρ2=>forM fg gb ds ρ2
  | .ct ρ2=>forM fg gb ds ρ2
  | .bk ρ2=>some (.nx ρ2)
  | .rt r ρ2=>some (.rt r ρ2)
def mFor(fi:En->Option (List PyData))(fg:PyData->En->Option En)(gb:En->Option Out):En->Option Out:=fun ρ=>(fi ρ).bind fun ds=>forM fg gb ds ρ
theorem forM_drop {fg : PyData -> En -> Option En} {gb : En -> Option Out} {ds : List PyData} {i : Nat} {d : PyData} {ρ : En} (h : ds[i]? = some d) : forM fg gb (ds.drop i) ρ = (fg d ρ).bind fun ρ1 => (gb ρ1).bind fun o => match o with
 | .nx ρ2=>forM fg gb (ds.drop (i+1)) ρ2
 | .ct ρ2=>forM fg gb (ds.drop (i+1)) ρ2
 | .bk ρ2=>some (.nx ρ2)
 | .rt r ρ2=>some (.rt r ρ2):=by
 obtain ⟨hi,e⟩:=List.getElem?_eq_some_iff.mp h;rw [List.drop_eq_getElem_cons hi,e];rfl
theorem rs_for{wi:TI}{g:TG}{tb:TS}{fi:En->Option (List PyData)}{fg:PyData->En->Option En}{gb:En->Option Out}(hi:RI K R wi fi)(hg:RG K R g fg)(hb:RS K R tb gb):RS K R (tFor wi g tb) (mFor fi fg gb):=fun HB S0 σ ρ H0 H x e o ho D d=>by
 obtain ⟨ds,hds,ho⟩:=Option.bind_eq_some_iff.mp ho;refine hi HB σ ρ H0 H x.s1 e ds hds _ fun J H1 J1 x1 it=> ?_;have x':=x.chain x1;refine ⟨fun i m σ H=>m=ds.length - i/\((∃ρ H0',i<=ds.length/\Ext H1 HB H0' H/\ST R HB H0' H σ ρ/\forM fg gb (ds.drop i) ρ=some o)),⟨_,rfl,ρ,H1,Nat.zero_le _,x'.rebase,e.ext (K:=K) x1,ho⟩,?_⟩;rintro i m σ1 H2 ⟨rfl,ρ1,H0',hile,xx,e1,hf⟩;obtain ⟨ig,is⟩:=it H0' H2 xx.s0 xx.s1 i
 by_cases hlt:i<ds.length
 . right;obtain ⟨go,yl⟩:=ig ds[i] (by simp [hlt]);rw [forM_drop (d:=ds[i]) (by simp [hlt])] at hf
   obtain ⟨ρ2,hr2,hf⟩:=Option.bind_eq_some_iff.mp hf;obtain ⟨o2,ho2,hf⟩:=Option.bind_eq_some_iff.mp hf;refine ⟨go,fun σ' H'=>∃ρ H0',Ext H1 HB H0' H'/\ST R HB H0' H' σ' ρ/\forM fg gb (ds.drop (i+1)) ρ=some o,fun σ' H' ⟨ρ',H0'',a1,a2,a3⟩=>⟨ds.length - (i+1),by omega,rfl,ρ',H0'',hlt,a1,a2,a3⟩,fun v H3 y=> ?_⟩;obtain ⟨H03,x3,r3⟩:=yl v H3 y;have xx3:=xx.chain x3;refine hg HB σ1 ρ1 ρ2 H03 H3 v _ xx3.s1 xx3.s (e1.ext (K:=K) x3) r3 hr2 _ fun σ2 e2=> ?_;refine hb HB H1 σ2 ρ2 H03 H3 xx3 e2 o2 ho2 _ ?_
   cases o2 with
   | nx ρ3=>exact fun σ' H0'' H' a b=>⟨ρ3,H0'',a,b,hf⟩
   | ct ρ3=>exact fun σ' H0'' H' a b=>⟨ρ3,H0'',a,b,hf⟩
   | bk ρ3=>cases hf;exact fun σ' H0'' H' a b=>d σ' H0'' H' (x'.unbase a) b
   | rt r ρ3=>cases hf;exact fun v σ' H0'' H' a b c=>d v σ' H0'' H' (x'.unbase a) b c
 . left;refine ⟨is (by omega),?_⟩;rw [List.drop_eq_nil_of_le (by omega)] at hf
   cases hf
   exact d σ1 H0' H2 (x'.unbase xx) e1
def mAsgT(g:PyData->En->Option En)(f:En->Option Sl):En->Option Out:=fun ρ=>(f ρ).bind fun r=>(g r.dat ρ).map .nx
def mPar(i j:Nat)(f:En->Option (List PyData)):En->Option Out:=fun ρ=>(f ρ).bind fun ds=>match ds with
 | [a,b]=>some (.nx ((ρ.set i (some (.val a))).set j (some (.val b))))
 | _=>none
end
end Dm
namespace Tf
open PySem L2
def spLaw(K:PySem.W.Frag):Sp:=fun vs H Q _=>∃(a:Addr) (ns:List Int),vs = [.ref a]/\SqL K H a (ns.map V.int)/\ns.length<=63/\∀H',Q (.bl true) H'
end Tf
namespace Dm
open PySem PySem.Spec PyProof.Rows L2 Tf
section
variable {K:PySem.W.Frag}
def subE(ix:List (Option Nat))(ρ:En):En:=ix.map fun o=>match o with | some j=>(ρ[j]?).join | none=>none
theorem ix_inj:∀ {ix:List (Option Nat)},(ix.filterMap id).Nodup->∀ {i k j:Nat},ix[i]? = some (some j)->ix[k]? = some (some j)->i=k
 | [],_,i,k,j,h,_=>by simp at h
 | o::r,hn,i,k,j,h1,h2=>by
  have hr:(r.filterMap id).Nodup:=by
   cases o with
   | none=>simpa using hn
   | some a=>have hn:(a::r.filterMap id).Nodup:=hn;exact (List.nodup_cons.mp hn).2
  have out:∀ {k:Nat},o=some j->r[k]? = some (some j)->False:=by
   intro k ho hk;subst ho;have hn:(j::r.filterMap id).Nodup:=hn;exact (List.nodup_cons.mp hn).1 (List.mem_filterMap.mpr ⟨some j,List.mem_of_getElem? hk,rfl⟩)
  cases i with
  | zero=>
   cases k with
   | zero=>rfl
   | succ k=>simp at h1 h2;exact (out h1 h2).elim
  | succ i=>
   cases k with
   | zero=>simp at h1 h2;exact (out h2 h1).elim
   | succ k=>simp at h1 h2;rw [ix_inj hr h1 h2]
theorem subE_get{ix:List (Option Nat)}{ρ:En}{i:Nat}{s:Sl}(h:(subE ix ρ)[i]? = some (some s)):∃j,ix[i]? = some (some j)/\ρ[j]? = some (some s):=by
 unfold subE at h
 rw [List.getElem?_map] at h
 cases e:ix[i]? with
 | none=>rw [e] at h;cases h
 | some o=>
  rw [e] at h
  cases o with
  | none=>cases h
  | some j=>exact ⟨j,rfl,join_some (Option.some.inj h)⟩
theorem subS_get{ix:List (Option Nat)}{σ:L2.St}{i j:Nat}(h:ix[i]? = some (some j)):(subS ix σ)[i]? = some (σ[j]?).join:=by
 unfold subS;rw [List.getElem?_map,h];rfl
theorem ER.sub{HB H0 H:Hp}{σ:L2.St}{ρ:En}{ix:List (Option Nat)}(hx:(ix.filterMap id).Nodup)(e:ER K HB H0 H σ ρ):ER K (fun _=>none) H0 H (subS ix σ) (subE ix ρ):=by
 refine ⟨by unfold subS subE;rw [List.length_map,List.length_map],fun i s h=> ?_,fun i k a ds es hik h1 h2 h3 h4=> ?_⟩
 . obtain ⟨j,h1,h2⟩:=subE_get h;obtain ⟨v,h3,h4⟩:=e.get j s h2;refine ⟨v,by rw [subS_get h1,h3];rfl,?_⟩
   cases s with
   | val d=>exact h4
   | own ds=>
    obtain ⟨a,vs,q1,_,q2⟩:=h4
    exact ⟨a,vs,q1,rfl,q2⟩
   | dct ds=>
    obtain ⟨a,vs,q1,_,q2⟩:=h4;exact ⟨a,vs,q1,rfl,q2⟩
 . obtain ⟨j,g1,g2⟩:=subE_get h1;obtain ⟨l,g3,g4⟩:=subE_get h2
   have hjl:j≠l:=by
    rintro rfl;exact hik (ix_inj hx g1 g3)
   rw [subS_get g1] at h3
   rw [subS_get g3] at h4
   exact e.apart j l a ds es hjl g2 g4 (join_some (Option.some.inj h3)) (join_some (Option.some.inj h4))
def compM(f:PyData->Option (Option PyData)):List PyData->Option (List PyData)
 | []=>some []
 | d::ds=>(f d).bind fun r=>(compM f ds).map fun rest=>match r with
  | some x=>x::rest
  | none=>rest
def elM(fg:PyData->En->Option En)(ft:En->Option Bool)(fe:En->Option Sl)(ρ0:En):PyData->Option (Option PyData):=fun d=>(fg d ρ0).bind fun ρ'=>(ft ρ').bind fun b=>if b then (fe ρ').map (fun r=>some r.dat) else some none
def mLC(sb:En->En)(fi:En->Option (List PyData))(fg:PyData->En->Option En)(ft:En->Option Bool)(fe:En->Option Sl):En->Option Sl:=fun ρ=>(fi ρ).bind fun ds=>
 if ds.length<sizeLine then (compM (elM fg ft fe (sb ρ)) ds).map .own else none
def mYes:En->Option Bool:=fun _=>some true
theorem rt_yes{R:Rl}:RT K R tNoTest mYes:=fun HB σ ρ H0 H s e b hb Q q=>by cases hb;exact q _ _ (Ext.refl s)
theorem re_lc {R R' : Rl} [RelOk K R] [RelOk K R'] {sb : En -> En} {ix : List (Option Nat)} {wi : TI} {g : CB -> TG} {tt : CB -> TT} {te : CB -> TE} {fi : En -> Option (List PyData)} {fg : PyData -> En -> Option En} {ft : En -> Option Bool} {fe : En -> Option Sl}
 (hx:∀(HB:Hp) (σ:L2.St) (ρ:En) (H0 H:Hp),R.r HB H0 H σ ρ->R'.r (fun _=>none) H0 H (subS ix σ) (sb ρ))
 (hi:RI K R wi fi) (hg:∀b,RG K R' (g b) fg) (ht:∀b,RT K R' (tt b) ft) (he:∀b,RE K R' (te b) fe):RE K R (tLC ix wi g tt te) (mLC sb fi fg ft fe):=fun HB σ ρ H0 H s e z hz Q q=>by
 obtain ⟨ds,hds,hz⟩:=Option.bind_eq_some_iff.mp hz
 split at hz
 . rename_i hlen;obtain ⟨all,hall,rfl⟩:=Option.map_eq_some_iff.mp hz;refine hi HB σ ρ H0 H s e ds hds _ fun J H1 J1 x1 it b=> ?_;have e1:ST R' (fun _=>none) H1 J1 (subS ix σ) (sb ρ):=⟨hx HB σ ρ H1 J1 (e.ext (K:=K) x1).r⟩;refine ⟨fun i m ys H=>m=ds.length - i/\i<=ds.length/\∃H0' es rest,Ext H1 J1 H0' H/\Reps K H0' ys es/\es.length<=i/\compM (elM fg ft fe (sb ρ)) (ds.drop i)=some rest/\es++rest=all,⟨_,rfl,Nat.zero_le _,H1,[],all,Ext.refl x1.s1, .nil,Nat.le_refl _,hall,rfl⟩,?_⟩;rintro i m ys H2 ⟨rfl,hile,H0',es,rest,xx,hr,hel,hc,hsum⟩;obtain ⟨ig,is⟩:=it H0' H2 xx.s0 xx.s1 i;refine ⟨by rw [hr.length];omega,?_⟩
   by_cases hlt:i<ds.length
   . right;obtain ⟨go,yl⟩:=ig ds[i] (by simp [hlt]);rw [List.drop_eq_getElem_cons hlt] at hc
     obtain ⟨r,hr1,hc⟩:=Option.bind_eq_some_iff.mp (show (elM fg ft fe (sb ρ) ds[i]).bind _=some rest from hc);obtain ⟨rest',hr2,hc⟩:=Option.map_eq_some_iff.mp hc;refine ⟨go,fun ys' H'=>∃H0' es rest,Ext H1 J1 H0' H'/\Reps K H0' ys' es/\es.length<=i+1/\compM (elM fg ft fe (sb ρ)) (ds.drop (i+1))=some rest/\es++rest=all,fun ys' H' h=>⟨ds.length - (i+1),by omega,rfl,hlt,h⟩,fun v H3 y=> ?_⟩;obtain ⟨H03,x3,r3⟩:=yl v H3 y;obtain ⟨ρ',hg',hb'⟩:=Option.bind_eq_some_iff.mp hr1;obtain ⟨bb,hbb,hb'⟩:=Option.bind_eq_some_iff.mp hb';have xx3:=xx.trans x3;refine hg b (fun _=>none) _ _ ρ' H03 H3 v _ x3.s1 (fun _ _ h=>by cases h) (e1.ext (K:=K) xx3) r3 hg' _ fun σ2 e2=> ?_;refine ht b _ σ2 ρ' H03 H3 x3.s1 e2 bb hbb _ fun H4 J4 x4=> ?_
     cases bb with
     | true=>
      refine iteT ?_;obtain ⟨rr,hrr,rfl⟩:=Option.map_eq_some_iff.mp (show (fe ρ').map (fun r=>some r.dat)=some r from hb');refine (he b).rv _ σ2 ρ' H4 J4 x4.s1 (e2.ext (K:=K) x4) rr.dat (by unfold mDat;rw [hrr];rfl) _ fun w H5 J5 x5 p5=> ?_;refine ⟨H5,es ++ [rr.dat],rest',(xx3.trans x4).trans x5,Tf.Reps.snoc (Reps.same ((x3.s0.trans x4.s0).trans x5.s0) hr) p5,by rw [List.length_append];simpa using hel,hr2,?_⟩;rw [<-hsum, <-hc,List.append_assoc]
      rfl
     | false=>
      refine iteF ?_
      cases hb'
      exact ⟨H4,es,rest',xx3.trans x4,Reps.same (x3.s0.trans x4.s0) hr,by omega,hr2,by rw [<-hsum, <-hc]⟩
   . left;have hi':i=ds.length:=by omega
     refine ⟨is (by omega),fun p hp=> ?_⟩;rw [List.drop_eq_nil_of_le (by omega)] at hc
     cases hc
     rw [List.append_nil] at hsum
     subst hsum;have xy:=x1.trans xx;exact q _ _ _ (xy.trans (Ext.alloc xx.s1 hp _)) ⟨p,ys,rfl,xy.s.free hp,xx.s1.free hp,upd_same,hr⟩
 . cases hz
def runD(n:Nat)(g:En->Option Out)(k:Nat):List PyData->Option Sl:=fun ds=>if ds.length=k then (g (ds.map (fun d=>some (.val d))++List.replicate (n - ds.length) none)).bind fun o=>match o with
 | .rt r _=>some r
 | .nx _=>some (.val .none)
 | _=>none else none
theorem Reps.lenV{H:Hp}{vs:List V}{ds:List PyData}(h:Reps K H vs ds):vs.length=ds.length:=h.length
theorem er_start{N:List Str}{H0 H:Hp}{vs:List V}{ds:List PyData}(h:Reps K H0 vs ds):ER K H H0 H (L2.start N vs) (ds.map (fun d=>some (.val d))++List.replicate (N.length - ds.length) none):=by
 have hl:=h.length
 have noown:∀(i:Nat) s,(ds.map (fun d=>some (Sl.val d))++List.replicate (N.length - ds.length) none)[i]? = some (some s)->∃d,ds[i]? = some d/\s = .val d:=by
  intro i s hs
  by_cases hi:i<ds.length
  . rw [List.getElem?_append_left (by simpa using hi),List.getElem?_map,List.getElem?_eq_getElem hi] at hs
    cases hs
    exact ⟨_,List.getElem?_eq_getElem hi,rfl⟩
  . rw [List.getElem?_append_right (by simpa using hi),List.getElem?_replicate] at hs
    split at hs <;> cases hs
 refine ⟨?_,fun i s hs=> ?_,fun i j a xs ys _ h1 _ _ _=> ?_⟩
 . unfold L2.start;simp only [List.length_append,List.length_map,List.length_replicate,hl]
 . obtain ⟨d,hd,rfl⟩:=noown i s hs;obtain ⟨v,h1,h2⟩:=Tf.Reps.get h hd;refine ⟨v,?_,h2⟩;unfold L2.start;have hi:i<vs.length:=(List.getElem?_eq_some_iff.mp h1).1;rw [List.getElem?_append_left (by simpa using hi),List.getElem?_map,h1];rfl
 . obtain ⟨d,_,e⟩:=noown i _ h1
   cases e
section
variable {P:Program} {w:World} {mg:Str->Option Value} {base:Heap}
def DSs(X:Cx)(R:Rl)(st:List Stmt)(g:En->Option Out):Prop:=∃t,PSs X st t/\RS X.K R t g
theorem fnD {x qual : Str} {st : Stmt} {f : Addr} {fd : FuncData} {N ps : List Str} {k n m : Nat} {g : En -> Option Out} (F : Fun K x qual st f fd) (S : FnScope N ps (defScope st)) (hn : N.length = n) (hm : ps.length = m)
 (hb:∀(cdv:Value) (A:Around) (outer:List Env) (s:Shared) (H:Hp) (E:XK),Room k (A.deeper (envOfC qual (defScope st) s.heap.objs.size f cdv))->DSs (cxOf CX0 P w K mg base N qual (defScope st) f cdv A outer s H E).nox (PR K) (defBody st) g) :
 FnOk P w K mg base CX0 (k+1) f fd ps (spD K (runD n g m)):=by
 subst hn hm;refine F.ok S (fun vs H Q E h=> ?_) fun cdv A outer s H vs Q E hr h=> ?_
 . obtain ⟨H0,ds,r,s,hr,hf,_⟩:=h;unfold runD at hf
   split at hf
   . rename_i hl;rw [hr.length,hl]
   . cases hf
 . obtain ⟨t,ht,rs⟩:=hb cdv A outer s H E hr;refine ⟨t,ht,?_⟩;obtain ⟨H0,ds,r,s0,hr,hf,q⟩:=h;unfold runD at hf
   split at hf
   . obtain ⟨o,ho,hf⟩:=Option.bind_eq_some_iff.mp hf;refine rs H H0 _ _ H0 H (Ext.refl s0) ⟨er_start hr⟩ o ho _ ?_
     cases o with
     | rt r' _=>cases hf;exact fun v σ H1 J1 a _ b=>q v H1 J1 a b
     | nx _=>cases hf;exact fun σ H1 J1 a b=>q .non H1 J1 a .none
     | bk _=>cases hf
     | ct _=>cases hf
   . cases hf
end
end
theorem law_imp{K:PySem.W.Frag}{F:List PyData->Option Sl}(hL:∀ns:List Int,ns.length<=63->F [.list (ns.map .int)]=some (.val (.bool true))){vs:List V}{H:Hp}{Q:VK}{E:XK}(h:spLaw K vs H Q E):spD K F vs H Q E:=by
 obtain ⟨a,ns,rfl,h1,h2,q⟩:=h
 have allI:∀ns:List Int,Reps K H (ns.map V.int) (ns.map .int):=fun ns=>by
  induction ns with
  | nil=>exact .nil
  | cons n r ih=>exact .cons (.int n) ih
 refine ⟨H,[.list (ns.map .int)], .val (.bool true),Same.refl H, .cons (.list h1 (allI ns)) .nil,hL ns h2,fun v H0' H' x p=> ?_⟩
 cases (show Rep K H0' v (.bool true) from p)
 exact q H'
section
variable {X:Cx} {R R':Rl} [RelOk X.K R] [RelOk X.K R'] {a b c e:Expr} {pos p:Pos} {f g fa fb fc:En->Option Sl}
def DE(X:Cx)(R:Rl)(e:Expr)(f:En->Option Sl):Prop:=∃te,PE X e te/\RE X.K R te f
def DP(X:Cx)(R:Rl)(e:Expr)(f:En->Option Sl):Prop:=∃te,PE X e te/\RP X.K R te f
def DA(X:Cx)(R:Rl)(es:List Expr)(f:En->Option (List PyData)):Prop:=∃ta,PA X es ta/\RA X.K R ta f
def DQ(X:Cx)(R:Rl)(es:List Expr)(f:En->Option (List Sl)):Prop:=∃ta,PA X es ta/\RQ X.K R ta f
def DT(X:Cx)(R:Rl)(e:Expr)(f:En->Option Bool):Prop:=∃tt,PT X e tt/\RT X.K R tt f
def DW(X:Cx)(R:Rl)(e:Expr)(f:En->Option Bool):Prop:=∃tt,PW X e tt/\RT X.K R tt f
def DO(X:Cx)(R:Rl)(e:Option Expr)(f:En->Option (Option Int)):Prop:=∃to,PO X e to/\RO X.K R to f
def DS(X:Cx)(R:Rl)(st:Stmt)(g:En->Option Out):Prop:=∃t,PS X st t/\RS X.K R t g
def DG(X:Cx)(R:Rl)(e:Expr)(g:PyData->En->Option En):Prop:=∃t,PG X e t/\RG X.K R t g
def DI(X:Cx)(R:Rl)(tg e:Expr)(f:En->Option (List PyData)):Prop:=∃wi,PI X tg e wi/\RI X.K R wi f
theorem DE.dp(h:DE X R e f):DP X R e f:=by obtain ⟨t,h1,h2⟩:=h;exact ⟨t,h1,h2.rp⟩
theorem dp_var (i : Nat) {x : Str} (hN : X.N[i]? = some x := by rfl) (hv : Vis X.env.scope x := by first | exact Or.inl rfl | exact Or.inr (Or.inl rfl) | exact Or.inr (Or.inr rfl)) (hd : (x == ("__debug__" : Str)) = false := by decide)
 (hcd:(x==("__classdict__" : Str))=false:=by decide) (hsl:R.slot i:=by first | exact True.intro | exact ⟨of_decide_eq_true rfl,of_decide_eq_true rfl⟩):DP X R (.Name x pos) (mPk i):=⟨_,pe_var hN hv hd hcd,rp_var i hsl⟩
theorem de_var (i : Nat) {x : Str} (hN : X.N[i]? = some x := by rfl) (hv : Vis X.env.scope x := by first | exact Or.inl rfl | exact Or.inr (Or.inl rfl) | exact Or.inr (Or.inr rfl)) (hd : (x == ("__debug__" : Str)) = false := by decide)
 (hcd:(x==("__classdict__" : Str))=false:=by decide) (hsl:R.slot i:=by first | exact True.intro | exact ⟨of_decide_eq_true rfl,of_decide_eq_true rfl⟩):DE X R (.Name x pos) (mVar i):=⟨_,pe_var hN hv hd hcd,re_var i hsl⟩
theorem de_int{i:Int}{j}:DE X R (.Constant (.int i) j pos) (mK (.int i)):=⟨_,pe_int,re_k fun _=> .int i⟩
theorem de_bool{i:Bool}{j}:DE X R (.Constant (.bool i) j pos) (mK (.bool i)):=⟨_,pe_bl,re_k fun _=> .bool i⟩
theorem de_none{j}:DE X R (.Constant .none j pos) (mK .none):=⟨_,pe_non,re_k fun _=> .none⟩
theorem de_str{i:Str}{j}:DE X R (.Constant (.str i) j pos) (mK (.str i)):=⟨_,pe_str,re_k fun _=> .str i⟩
theorem de_glob {x:Str} {v:V} {u:Value} {d:PyData} (hm:X.mg x=some u) (r:RelV v u) (h:∀H0:Hp,Rep X.K H0 v d) (hg:Gl X x:=by rfl) (hd:(x==("__debug__" : Str))=false:=by decide):DE X R (.Name x pos) (mK d):=⟨_,pe_glob hg hm r hd,re_k h⟩
theorem de_op{o:Operator}{r:R2}{op:Sl->Sl->Option Sl}(ho:OpR X (binaryOp o) r)(hd:OpD X.K r op)(ha:DP X R a fa)(hb:DP X R b fb):DE X R (.BinOp a o b pos) (mBin op fa fb):=by
 obtain ⟨ta,h1,h2⟩:=ha;obtain ⟨tb,h3,h4⟩:=hb;exact ⟨_,pe_op ho h1 h3,re_bin hd h2 h4⟩
def dAddI:Sl->Sl->Option Sl:=iop fun i j=>i+j
def dSub:Sl->Sl->Option Sl:=iop fun i j=>i - j
def CMulA(i j:Int):Prop:=CMul i j\/CMulB i j
theorem op_mulA:OpR X (binaryOp .Mult) (rI CMulA fun i j=> .int (i*j)):=opI fun _ _ _ _ _ _ _ hc q=>by
 rcases hc with hc | ⟨n,m,h1,h2,h3⟩
 . exact mul_int q hc.ok
 . exact mul_int q (mulOk h1 h2 h3)
noncomputable def dMulI:Sl->Sl->Option Sl:=iopC CMulA fun i j=>i*j
noncomputable def dFdiv:Sl->Sl->Option Sl:=iopC CDivB fun i j=>i.fdiv j
noncomputable def dMod:Sl->Sl->Option Sl:=iopC (fun _ j=>j≠0) fun i j=>i.fmod j
noncomputable def dShr:Sl->Sl->Option Sl:=iopC (fun _ j=>0<=j) fun i j=>i / 2 ^ j.toNat
theorem de_fdiv(ha:DP X R a fa)(hb:DP X R b fb):DE X R (.BinOp a .FloorDiv b pos) (mBin dFdiv fa fb):=de_op op_fdivB opd_iopC ha hb
theorem de_mod(ha:DP X R a fa)(hb:DP X R b fb):DE X R (.BinOp a .Mod b pos) (mBin dMod fa fb):=de_op op_modN opd_iopC ha hb
theorem de_shr(ha:DP X R a fa)(hb:DP X R b fb):DE X R (.BinOp a .RShift b pos) (mBin dShr fa fb):=de_op op_shr opd_iopC ha hb
def rCatG(K:PySem.W.Frag):R2:=fun x y H Q=>∃l b xs zs,x = .ref l/\y = .ref b/\SqL K H l xs/\SqL K H b zs/\xs.length+zs.length<=sizeLine/\∀p,H p=none->Q (.ref p) (upd H p (.lst (xs++zs)))
theorem op_catG:OpR X (binaryOp .Add) (rCatG X.K):=by
 intro pins s σ H x y v u Q I rx ry h;obtain ⟨l,b,xs,zs,rfl,rfl,hH,hB,hz,q⟩:=h
 cases rx
 cases ry
 obtain ⟨its,r,p1,_⟩:=I.list hH;obtain ⟨its2,r2,p2,_⟩:=I.list hB;obtain ⟨⟨cls,dd,data,sl⟩,n,ho,hc,hd1,hd⟩:=id p1;obtain ⟨⟨cls2,dd2,data2,sl2⟩,n2,ho2,hc2,hd2',hd2⟩:=id p2;simp only at hc hd hc2 hd2
 subst hc hd hc2 hd2;have l1:=r.length;have l2:=r2.length;refine concat_meets ⟨_,ho,rfl⟩ ⟨_,ho2,rfl⟩ noFill_list_add seq_list_add PySem.F.slot_list_add PySem.F.entry_list_add (PySem.F.args_list_add_2 _ _) (list_addW l b its.toArray its2.toArray n n2 dd dd2 sl sl2 (by rw [List.size_toArray,List.size_toArray];omega)) ⟨ho,ho2,?_⟩;have ea:its.toArray++its2.toArray=(its++its2).toArray:=by simp
 rw [ea];exact ⟨.ref _,_,I.lnew (t':=s.toks) (r.append r2) (by rw [List.length_append];omega),rfl,q _ I.fresh⟩
def rCatT0(K:PySem.W.Frag):R2:=fun x y H Q=>∃a b ys,x = .ref a/\y = .ref b/\SqT K H a []/\SqT K H b ys/\Q (.ref b) H
theorem op_catT0:OpR X (binaryOp .Add) (rCatT0 X.K):=by
 intro pins s σ H x y v u Q I rx ry h;obtain ⟨a,b,ys,rfl,rfl,ha,hb,q⟩:=h
 cases rx
 cases ry
 obtain ⟨its,r1,p1,_⟩:=I.tuple ha;obtain ⟨its2,r2,p2,_⟩:=I.tuple hb
 cases r1
 obtain ⟨⟨cls,dd,data,sl⟩,ho,hc,n,hd⟩:=id p1;obtain ⟨⟨cls2,dd2,data2,sl2⟩,ho2,hc2,n2,hd2⟩:=id p2;simp only at hc hd hc2 hd2
 subst hc hd hc2 hd2
 exact concat_meets ⟨_, ho, rfl⟩ ⟨_, ho2, rfl⟩ noFill_tuple_add seq_tuple_add PySem.F.slot_tuple_add PySem.F.entry_tuple_add (PySem.F.args_tuple_add_2 _ _)
  (tuple_addW0 a b ([]:List Value).toArray its2.toArray n n2 dd dd2 sl sl2 (by simp)) ⟨ho,ho2, .ref b,H,I,rfl,q⟩
def rAddA(K:PySem.W.Frag):R2:=fun x y H Q=>rI0 (fun i j=> .int (i+j)) x y H Q\/rCatG K x y H Q\/rCatT0 K x y H Q\/rCatT K x y H Q\/(∃i j,x = .str i/\y = .str j/\i.length+j.length<=sizeLine/\Q (.str (i++j)) H)
theorem op_addA:OpR X (binaryOp .Add) (rAddA X.K):=op_add.or (op_catG.or (op_catT0.or (op_catT.or op_add_str)))
def dAdd(a b:Sl):Option Sl:=match a.dat,b.dat with
 | .int i, .int j=>some (.val (.int (i+j)))
 | .list xs, .list ys=>if xs.length+ys.length<=sizeLine then some (.own (xs++ys)) else none
 | .tuple xs, .tuple ys=>if xs.length+ys.length<=sizeLine then some (.val (.tuple (xs++ys))) else none
 | .str i, .str j=>if i.length+j.length<=sizeLine then some (.val (.str (i++j))) else none
 | _,_=>none
theorem SlP.atom{K:PySem.W.Frag}{H0 H:Hp}{v:V}{d:PyData}{r:Sl}(h:SlP K H0 H v r)(e:r.dat=d)(n:∀ds,d ≠ .list ds)(n2:∀kvs,d ≠ .dict kvs:=by intro _ h;cases h):Rep K H0 v d:=by
 cases r with
 | val _=>cases e;exact h
 | own _=>exact absurd e.symm (n _)
 | dct _=>exact absurd e.symm (n2 _)
theorem Reps.append{K:PySem.W.Frag}{H:Hp}:∀ {vs ws:List V} {ds es:List PyData},Reps K H vs ds->Reps K H ws es->Reps K H (vs++ws) (ds++es)
 | _,_,_,_, .nil,h=>h
 | _,_,_,_, .cons a t,h=> .cons a (Reps.append t h)
theorem opd_add{K:PySem.W.Frag}:OpD K (rAddA K) dAdd:=fun H0 H x y sx sy z s px py hz Q q=>by
 unfold dAdd at hz
 split at hz
 . rename_i i j e1 e2
   cases hz
   cases px.atom e1 (fun _ h=>nomatch h)
   cases py.atom e2 (fun _ h=>nomatch h)
   exact .inl ⟨_,_,rfl,rfl,q _ _ _ (Ext.refl s) (.int _)⟩
 . rename_i xs ys e1 e2
   split at hz
   . rename_i hl
     cases hz
     obtain ⟨a,vs,rfl,h1,h2⟩:=px.lst s e1;obtain ⟨b,ws,rfl,h3,h4⟩:=py.lst s e2;exact .inr (.inl ⟨a,b,vs,ws,rfl,rfl,h1,h3,by rw [h2.length,h4.length];exact hl,fun p hp=>q _ _ _ (Ext.alloc s hp _) ⟨p,_,rfl,hp,s.free hp,upd_same,Reps.append h2 h4⟩⟩)
   . cases hz
 . rename_i xs ys e1 e2
   split at hz
   . rename_i hl
     cases hz
     obtain ⟨a,vs,rfl,h1,h2⟩:=px.tup e1;obtain ⟨b,ws,rfl,h3,h4⟩:=py.tup e2
     by_cases hv:vs = []
     . subst hv
       cases h2
       exact .inr (.inr (.inl ⟨a,b,ws,rfl,rfl,s.seqT (SqT.of h1),s.seqT (SqT.of h3),q _ _ _ (Ext.refl s) (.tuple h3 h4)⟩))
     . refine .inr (.inr (.inr (.inl ⟨a,b,vs,ws,rfl,rfl,s.seqT (SqT.of h1),s.seqT (SqT.of h3),hv,by rw [h2.length,h4.length];exact hl,fun hw=> ?_,fun hw p hp=> ?_⟩)))
       . subst hw
         cases h4
         rw [List.append_nil] at q
         exact q _ _ _ (Ext.refl s) (.tuple h1 h2)
       . exact q _ _ _ (Ext.allocF s hp _) (.tuple upd_same (Reps.same (Same.upd (s.free hp) _) (Reps.append h2 h4)))
   . cases hz
 . rename_i i j e1 e2
   split at hz
   . rename_i hl
     cases hz
     cases px.atom e1 (fun _ h=>nomatch h)
     cases py.atom e2 (fun _ h=>nomatch h)
     exact .inr (.inr (.inr (.inr ⟨_,_,rfl,rfl,hl,q _ _ _ (Ext.refl s) (.str _)⟩)))
   . cases hz
 . cases hz
theorem de_add(ha:DP X R a fa)(hb:DP X R b fb):DE X R (.BinOp a .Add b pos) (mBin dAdd fa fb):=de_op op_addA opd_add ha hb
noncomputable def dRep(a b:Sl):Option Sl:=match a,b with
 | .own xs, .val (.int k)=>if -(2 ^ 63)<=k/\k<2 ^ 63/\xs.length*k.toNat<=sizeLine then some (.own (List.replicate k.toNat xs).flatten) else none
 | a,b=>dMulI a b
theorem Reps.rep{K:PySem.W.Frag}{H:Hp}{vs:List V}{ds:List PyData}(h:Reps K H vs ds):∀k:Nat,Reps K H (List.replicate k vs).flatten (List.replicate k ds).flatten
 | 0=> .nil
 | k+1=>by
  rw [List.replicate_succ,List.replicate_succ,List.flatten_cons,List.flatten_cons];exact Reps.append h (Reps.rep h k)
theorem opd_rep{K:PySem.W.Frag}:OpD K (fun x y H Q=>rRep x y H Q\/rI CMulA (fun i j=> .int (i*j)) x y H Q) dRep:=fun H0 H x y sx sy z s px py hz Q q=>by
 unfold dRep at hz
 split at hz
 . split at hz
   . rename_i hl
     cases hz
     obtain ⟨a,vs,rfl,h1,h2⟩:=px;exact .inl ⟨a,_,vs,rfl,py.int,h1,hl.1,hl.2.1,by rw [h2.length];exact hl.2.2,fun p hp=>q _ _ _ (Ext.alloc s hp _) ⟨p,_,rfl,hp,s.free hp,upd_same,Reps.rep h2 _⟩⟩
   . cases hz
 . exact .inr (opd_iopC H0 H x y _ _ z s px py hz Q q)
theorem de_mul(ha:DP X R a fa)(hb:DP X R b fb):DE X R (.BinOp a .Mult b pos) (mBin dRep fa fb):=de_op (op_rep.or op_mulA) opd_rep ha hb
theorem de_cmp{o:CmpOp}{r:R2}{op:Sl->Sl->Option Sl}(ho:OpR X (compareOp o) r)(hd:OpD X.K r op)(ha:DP X R a fa)(hb:DP X R b fb)(hm:behindInMarks o b=false):DE X R (.Compare a [o] [b] pos) (mBin op fa fb):=by
 obtain ⟨ta,h1,h2⟩:=ha;obtain ⟨tb,h3,h4⟩:=hb;exact ⟨_,pe_cmpR ho h1 h3 hm,re_bin hd h2 h4⟩
theorem dt_cmp{o:CmpOp}{r:R2}{op:Sl->Sl->Option Sl}(ho:OpR X (compareOp o) r)(hd:OpD X.K r op)(ha:DP X R a fa)(hb:DP X R b fb)(hm:behindInMarks o b=false):DT X R (.Compare a [o] [b] pos) (mTest (mBin op fa fb)):=by
 obtain ⟨ta,h1,h2⟩:=ha;obtain ⟨tb,h3,h4⟩:=hb;exact ⟨_,pt_cmpR ho h1 h3 hm,rt_test (re_bin hd h2 h4).rp⟩
def dLt:Sl->Sl->Option Sl:=icmp fun i j=>decide (i<j)
def dLe:Sl->Sl->Option Sl:=icmp fun i j=>decide (i<=j)
def dGt:Sl->Sl->Option Sl:=icmp fun i j=>decide (j<i)
def dGe:Sl->Sl->Option Sl:=icmp fun i j=>decide (j<=i)
theorem de_eq(hu:X.A.units+64<cLine)(ha:DP X R a fa)(hb:DP X R b fb):DE X R (.Compare a [.Eq] [b] pos) (mBin deq fa fb):=de_cmp (op_eqD hu) opd_eq ha hb (nomark _)
theorem de_ne(hu:X.A.units+64<cLine)(ha:DP X R a fa)(hb:DP X R b fb):DE X R (.Compare a [.NotEq] [b] pos) (mBin dne fa fb):=de_cmp (op_neD hu) opd_ne ha hb (nomark _)
theorem dt_lt(ha:DP X R a fa)(hb:DP X R b fb):DT X R (.Compare a [.Lt] [b] pos) (mTest (mBin dLt fa fb)):=dt_cmp op_lt opd_icmp ha hb (nomark _)
theorem dt_gt(ha:DP X R a fa)(hb:DP X R b fb):DT X R (.Compare a [.Gt] [b] pos) (mTest (mBin dGt fa fb)):=dt_cmp op_gt opd_icmp ha hb (nomark _)
theorem dt_eq(hu:X.A.units+64<cLine)(ha:DP X R a fa)(hb:DP X R b fb):DT X R (.Compare a [.Eq] [b] pos) (mTest (mBin deq fa fb)):=dt_cmp (op_eqD hu) opd_eq ha hb (nomark _)
theorem dt_ne(hu:X.A.units+64<cLine)(ha:DP X R a fa)(hb:DP X R b fb):DT X R (.Compare a [.NotEq] [b] pos) (mTest (mBin dne fa fb)):=dt_cmp (op_neD hu) opd_ne ha hb (nomark _)
theorem dt_isNN(ha:DP X R a fa)(hb:DP X R b fb):DT X R (.Compare a [.IsNot] [b] pos) (mTest (mBin disNN fa fb)):=dt_cmp op_notN opd_isNN ha hb (nomark _)
theorem dt_val(h:DP X R e f)(he:∀whole,isTrue e X.env whole=(do let v <-whole;standAt e.pos;holding [v] (truthy v)):=by intro _;rfl):DT X R e (mTest f):=by
 obtain ⟨t,h1,h2⟩:=h;exact ⟨_,pt_val h1 he,rt_b h2⟩
variable {ft gt:En->Option Bool} {rest:List Expr}
theorem dt_w(h:DW X R e ft):DT X R e ft:=by obtain ⟨t,h1,h2⟩:=h;exact ⟨t,h1.pt,h2⟩
theorem dw_and1(h:DT X R a ft):DW X R (.BoolOp .And [a] pos) ft:=by obtain ⟨t,h1,h2⟩:=h;exact ⟨t,pw_and1 h1,h2⟩
theorem dw_or1(h:DT X R a ft):DW X R (.BoolOp .Or [a] pos) ft:=by obtain ⟨t,h1,h2⟩:=h;exact ⟨t,pw_or1 h1,h2⟩
theorem dw_and(h:DT X R a ft)(k:DW X R (.BoolOp .And (b::rest) pos) gt):DW X R (.BoolOp .And (a::b::rest) pos) (mAnd ft gt):=by obtain ⟨t,h1,h2⟩:=h;obtain ⟨u,h3,h4⟩:=k;exact ⟨_,pw_and h1 h3,rt_and h2 h4⟩
theorem dw_or(h:DT X R a ft)(k:DW X R (.BoolOp .Or (b::rest) pos) gt):DW X R (.BoolOp .Or (a::b::rest) pos) (mOr ft gt):=by obtain ⟨t,h1,h2⟩:=h;obtain ⟨u,h3,h4⟩:=k;exact ⟨_,pw_or h1 h3,rt_or h2 h4⟩
theorem dt_not(h:DT X R a ft):DT X R (.UnaryOp .Not a pos) (mNot ft):=by obtain ⟨t,h1,h2⟩:=h;exact ⟨_,pt_not h1,rt_not h2⟩
theorem de_and1(h:DE X R a f):DE X R (.BoolOp .And [a] pos) f:=by obtain ⟨t,h1,h2⟩:=h;exact ⟨t,pe_one h1,h2⟩
theorem de_or1(h:DE X R a f):DE X R (.BoolOp .Or [a] pos) f:=by obtain ⟨t,h1,h2⟩:=h;exact ⟨t,pe_one h1,h2⟩
theorem de_and(h:DE X R a f)(k:DE X R (.BoolOp .And (b::rest) pos) g):DE X R (.BoolOp .And (a::b::rest) pos) (mAndV f g):=by obtain ⟨t,h1,h2⟩:=h;obtain ⟨u,h3,h4⟩:=k;exact ⟨_,pe_and h1 h3,re_andV h2.rp h4⟩
theorem de_or(h:DE X R a f)(k:DE X R (.BoolOp .Or (b::rest) pos) g):DE X R (.BoolOp .Or (a::b::rest) pos) (mOrV f g):=by obtain ⟨t,h1,h2⟩:=h;obtain ⟨u,h3,h4⟩:=k;exact ⟨_,pe_or h1 h3,re_orV h2.rp h4⟩
theorem de_not(h:DE X R a f):DE X R (.UnaryOp .Not a pos) (mNotV f):=by obtain ⟨t,h1,h2⟩:=h;exact ⟨_,pe_not h1,re_notV h2.rp⟩
theorem de_ifE(hc:DT X R c ft)(h:DE X R a f)(k:DE X R b g):DE X R (.IfExp c a b pos) (mIfE ft f g):=by obtain ⟨t,h1,h2⟩:=hc;obtain ⟨u,h3,h4⟩:=h;obtain ⟨v,h5,h6⟩:=k;exact ⟨_,pe_ifExp h1 h3 h5,re_ifE h2 h4 h6⟩
theorem de_ix(ha:DP X R a fa)(hb:DP X R b fb)(hs:PlainIx b:=by intro _ _;rfl):DE X R (.Subscript a b pos) (mBin dix fa fb):=by
 obtain ⟨ta,h1,h2⟩:=ha;obtain ⟨tb,h3,h4⟩:=hb;exact ⟨_,pe_ix ix_seq h1 h3 hs,re_bin opd_ix h2 h4⟩
variable {lo hi:Option Expr} {fl fh:En->Option (Option Int)} {p2:Pos}
theorem do_none:DO X R none mNoPart:=⟨_,po_none,ro_none⟩
theorem do_some(h:DP X R e f):DO X R (some e) (mPart f):=by obtain ⟨t,h1,h2⟩:=h;exact ⟨_,po_some h1,ro_some h2⟩
theorem de_sl(h:DP X R e f)(hl:DO X R lo fl)(hh:DO X R hi fh):DE X R (.Subscript e (.Slice lo hi none p2) pos) (mSl f fl fh):=by
 obtain ⟨t,h1,h2⟩:=h;obtain ⟨u,h3,h4⟩:=hl;obtain ⟨v,h5,h6⟩:=hh;exact ⟨_,pe_slice (sl_list.or sl_tup) h1 h3 h5,re_sl h2 h4 h6⟩
variable {es:List Expr} {fs:En->Option (List PyData)} {fq:En->Option (List Sl)}
theorem da_nil:DA X R [] mNil:=⟨_,pa_nil,ra_nil⟩
theorem da_cons(h:DE X R e f)(k:DA X R es fs)(hs:starEach (e::es) X.env=(false,eval e X.env)::starEach es X.env:=by rfl):DA X R (e::es) (mCons f fs):=by obtain ⟨t,h1,h2⟩:=h;obtain ⟨u,h3,h4⟩:=k;exact ⟨_,pa_cons h1 h3 hs,ra_cons h2 h4⟩
theorem dq_nil:DQ X R [] mNilP:=⟨_,pa_nil,rq_nil⟩
theorem dq_cons(h:DP X R e f)(k:DQ X R es fq)(hs:starEach (e::es) X.env=(false,eval e X.env)::starEach es X.env:=by rfl):DQ X R (e::es) (mConsP f fq):=by obtain ⟨t,h1,h2⟩:=h;obtain ⟨u,h3,h4⟩:=k;exact ⟨_,pa_cons h1 h3 hs,rq_cons h2 h4⟩
theorem de_tup{x1}(h:DA X R es fs):DE X R (.Tuple es x1 pos) (mTup fs):=by obtain ⟨t,h1,h2⟩:=h;exact ⟨_,pe_tup h1,re_tup h2⟩
theorem de_lst(h:DA X R es fs):DE X R (.List es pos) (mLst fs):=by obtain ⟨t,h1,h2⟩:=h;exact ⟨_,pe_lst h1,re_lst h2⟩
theorem de_call {k j : Nat} {x : Str} {ps : List Str} {F : List PyData -> Option Sl} (D : Tf.Def X.prog X.w X.K X.mg X.base j x ps (spD X.K F)) (hr : Room k X.A) (h : DA X R (e :: es) fs) (hj : j <= k := by decide) (hg : Gl X x := by rfl)
 (hdb:(x==("__debug__" : Str))=false:=by decide) (he:starEach (e::es) X.env=(false,eval e X.env)::starEach es X.env:=by rfl) (hpl:(backTo pos (starEach es X.env)).any (·.1)=false:=by rfl):DE X R (.Call (.Name x p) (e::es) [] pos) (mCall F fs):=by
 obtain ⟨t,h1,h2⟩:=h;exact ⟨_,pe_callD D hr h1 hj hg hdb he hpl,re_call h2⟩
theorem de_blt {x : Str} {id : String} {r : List V -> Hp -> VK -> Prop} {F : List Sl -> Option Sl} (hc : CallR X (.builtin id) r) (hd : CallD X.K r F) (hv : bootBuiltins x = some (.builtin id)) (hm : X.mg x = none) (h : DQ X R (e :: es) fq) (hg : Gl X x := by rfl) (hn : x ≠ "__name__" := by decide) (hdb : (x == ("__debug__" : Str)) = false := by decide)
 (he:starEach (e::es) X.env=(false,eval e X.env)::starEach es X.env:=by rfl) (hpl:(backTo pos (starEach es X.env)).any (·.1)=false:=by rfl):DE X R (.Call (.Name x p) (e::es) [] pos) (mCallP F fq):=by
 obtain ⟨t,h1,h2⟩:=h;exact ⟨_,pe_callB hc hg hm hv h1 hn hdb he hpl,re_callB hd h2⟩
theorem de_ty {x : Str} {id : String} {r : List V -> Hp -> VK -> Prop} {F : List Sl -> Option Sl} (hc : CallR X (.type id) r) (hd : CallD X.K r F) (hv : bootBuiltins x = some (.type id)) (hm : X.mg x = none) (h : DQ X R (e :: es) fq) (hg : Gl X x := by rfl) (hn : x ≠ "__name__" := by decide) (hdb : (x == ("__debug__" : Str)) = false := by decide)
 (he:starEach (e::es) X.env=(false,eval e X.env)::starEach es X.env:=by rfl) (hpl:(backTo pos (starEach es X.env)).any (·.1)=false:=by rfl):DE X R (.Call (.Name x p) (e::es) [] pos) (mCallP F fq):=by
 obtain ⟨t,h1,h2⟩:=h;exact ⟨_,pe_callTy hc hg hm hv h1 hn hdb he hpl,re_callB hd h2⟩
theorem kit_ok{K:PySem.W.Frag}{n:String}:∀t b,isiD n t=some b->(t = "NoneType" \/ t = "bool" \/ t = "int" \/ t = "str" \/ t = "list" \/ t = "tuple")->PySem.W.kitOne K (.type t) (.type n)=some b:=by
 intro t b h ht;unfold isiD at h
 split at h
 . rename_i hn;subst hn
   cases h
   rcases ht with rfl | rfl | rfl | rfl | rfl | rfl <;> rfl
 . split at h
   . rename_i hn
     cases h
     rcases hn with rfl | rfl | rfl | rfl <;> rcases ht with rfl | rfl | rfl | rfl | rfl | rfl <;> rfl
   . cases h
theorem de_isi {x : Str} {T : String} {p1 : Pos} (hv : bootBuiltins x = some (.type T)) (hx : X.mg x = none) (hm : X.mg "isinstance" = none) (h : DP X R e f) (hgx : Gl X x := by rfl) (hg : Gl X "isinstance" := by rfl) (hnx : x ≠ "__name__" := by decide) (hdx : (x == ("__debug__" : Str)) = false := by decide)
 (he:starEach [e, .Name x p1] X.env=(false,eval e X.env)::starEach [.Name x p1] X.env:=by rfl) (he2:starEach [.Name x p1] X.env=(false,eval (.Name x p1) X.env)::starEach [] X.env:=by rfl) (hpl:(backTo pos (starEach [.Name x p1] X.env)).any (·.1)=false:=by rfl) :
 DE X R (.Call (.Name "isinstance" p) [e, .Name x p1] [] pos) (mIsi T f):=by
 obtain ⟨t,h1,h2⟩:=h;exact ⟨_,pe_callB call_isi hg hm bt_isinstance (pa_cons h1 (pa_cons (pe_ty hgx hx hv hnx hdx) pa_nil he2) he) (by decide) (by decide) he hpl,re_isi kit_ok h2⟩
def GlobC(K:PySem.W.Frag)(mg:Str->Option Value)(x:Str)(d:PyData):Prop:=∃v u,mg x=some u/\RelV v u/\∀H0:Hp,Rep K H0 v d
theorem de_globC {x:Str} {d:PyData} (h:GlobC X.K X.mg x d) (hg:Gl X x:=by rfl) (hd:(x==("__debug__" : Str))=false:=by decide):DE X R (.Name x pos) (mK d):=by
 obtain ⟨v,u,h1,h2,h3⟩:=h;exact de_glob h1 h2 h3 hg hd
theorem pr_sub{K:PySem.W.Frag}{ix:List (Option Nat)}(hx:(ix.filterMap id).Nodup:=by decide):∀(HB:Hp) (σ:L2.St) (ρ:En) (H0 H:Hp),(PR K).r HB H0 H σ ρ->(PR K).r (fun _=>none) H0 H (subS ix σ) (subE ix ρ):=fun HB σ ρ H0 H e=>ER.sub hx e
variable {st:Stmt} {sts:List Stmt} {gs gs':En->Option Out} {x y:Str} {pos':Pos} {i j:Nat}
theorem dss_nil:DSs X R [] mNext:=⟨_,pss_nil,rs_next⟩
theorem dss_one(h:DS X R st gs):DSs X R [st] gs:=by obtain ⟨t,h1,h2⟩:=h;exact ⟨_,pss_one h1,h2⟩
theorem dss_cons(h:DS X R st gs)(k:DSs X R sts gs'):DSs X R (st::sts) (mSeq gs gs'):=by obtain ⟨t,h1,h2⟩:=h;obtain ⟨u,h3,h4⟩:=k;exact ⟨_,pss_cons h1 h3,rs_seq h2 h4⟩
theorem ds_frz(i:Nat)(h:DS X R st gs)(hsl:R.slot i:=by first | exact True.intro | exact ⟨of_decide_eq_true rfl,of_decide_eq_true rfl⟩):DS X R st (mFrz i gs):=by obtain ⟨t,h1,h2⟩:=h;exact ⟨_,h1,rs_frz i hsl h2⟩
theorem ds_set (i : Nat) (h : DE X R e f) (hN : X.N.Nodup) (hi : X.N[i]? = some x := by rfl) (hx : Loc X.env.scope x := by first | exact Or.inl rfl | exact Or.inr rfl) (hs : swapsWith e (some (.Name x pos')) pos.line X.env = pure false := by rfl) (hf : X.fn x = true \/ X.env.scope.names.lookup x = some .local := by first | exact .inl rfl | exact .inr rfl) (hsl : R.slot i := by first | exact True.intro | exact ⟨of_decide_eq_true rfl, of_decide_eq_true rfl⟩) :
 DS X R (.Assign [.Name x pos'] e pos) (mAsg i f):=by obtain ⟨t,h1,h2⟩:=h;exact ⟨_,ps_set hN hi hx h1 hs hf,rs_asg hsl h2⟩
theorem ds_ret(h:DE X R e f):DS X R (.Return (some e) pos) (mRet f):=by obtain ⟨t,h1,h2⟩:=h;exact ⟨_,ps_ret h1,rs_ret h2⟩
theorem ds_retV (i : Nat) (hN : X.N[i]? = some x := by rfl) (hv : Vis X.env.scope x := by first | exact Or.inl rfl | exact Or.inr (Or.inl rfl) | exact Or.inr (Or.inr rfl)) (hd : (x == ("__debug__" : Str)) = false := by decide)
 (hcd:(x==("__classdict__" : Str))=false:=by decide) (hsl:R.slot i:=by first | exact True.intro | exact ⟨of_decide_eq_true rfl,of_decide_eq_true rfl⟩):DS X R (.Return (some (.Name x pos')) pos) (mRet (mPk i)):=⟨_,ps_ret (pe_var hN hv hd hcd),rs_retV i hsl⟩
theorem ds_if{A B:List Stmt}(hc:DT X R c ft)(h:DSs X R A gs)(k:DSs X R B gs'):DS X R (.If c A B pos) (mIf ft gs gs'):=by obtain ⟨t,h1,h2⟩:=hc;obtain ⟨u,h3,h4⟩:=h;obtain ⟨v,h5,h6⟩:=k;exact ⟨_,ps_if h1 h3 h5,rs_if h2 h4 h6⟩
variable {tg:Expr} {fi:En->Option (List PyData)} {fg:PyData->En->Option En} {gg:List (PyData->En->Option En)}
theorem ds_for(hp:PassesOwn (model X.prog X.w) X.A X.env X.xe)(hi:DI X R tg e fi)(hg:DG X R tg fg)(h:DSs X R sts gs)(hc:X.calm=true:=by rfl)(hs:∀x,foldedSetIterable e X.env x=pure x:=by intro _;rfl):DS X R (.For tg e sts [] pos) (mFor fi fg gs):=by
 obtain ⟨t,h1,h2⟩:=hi;obtain ⟨u,h3,h4⟩:=hg;obtain ⟨v,h5,h6⟩:=h;exact ⟨_,ps_for hp hc h1 h3 h5 hs,rs_for h2 h4 h6⟩
theorem dg_name(i:Nat)(hN:X.N.Nodup)(hi:X.N[i]? = some x:=by rfl)(hx:Loc X.env.scope x:=by first | exact Or.inl rfl | exact Or.inr rfl)(hf:X.fn x=true\/X.env.scope.names.lookup x=some .local:=by first | exact .inl rfl | exact .inr rfl)(hsl:R.slot i:=by first | exact True.intro | exact ⟨of_decide_eq_true rfl,of_decide_eq_true rfl⟩):DG X R (.Name x pos) (gVar i):=⟨_,pg_name hN hi hx hf,rg_name i hsl⟩
theorem di_range1 (hm:X.mg "range" = none) (h:DQ X R [a] fq) (hg:Gl X "range" :=by rfl) (hs:starEach [a] X.env = [(false,eval a X.env)]:=by rfl):DI X R tg (.Call (.Name "range" p) [a] [] pos) (mRng1 fq):=by obtain ⟨t,h1,h2⟩:=h;exact ⟨_,pi_range1 hg hm h1 hs,ri_range1 h2⟩
theorem ds_app (i : Nat) {apos cpos : Pos} (h : DE X R e f) (hN : X.N[i]? = some x := by rfl) (hv : Vis X.env.scope x := by first | exact Or.inl rfl | exact Or.inr (Or.inl rfl) | exact Or.inr (Or.inr rfl)) (hd : (x == ("__debug__" : Str)) = false := by decide) (hcd : (x == ("__classdict__" : Str)) = false := by decide)
 (hst:starEach [e] X.env=(false,eval e X.env)::starEach [] X.env:=by rfl) (hbase:attributeBase (.Name x p) "append" X.env (eval (.Name x p) X.env)=eval (.Name x p) X.env:=by rfl)
 (hfew:((backTo cpos (starEach [e] X.env)).all (fun x=> !x.1) && (backToKw cpos (keywordEach [] X.env)).all (fun x=>x.1.isSome) && decide ([e].length+([]:List Keyword).length+(if ([]:List Keyword).isEmpty then 0 else 1)<30))=true:=by rfl)
 (hline:(apos.endLine==cpos.line)=true:=by rfl) (hplain:(backTo cpos (starEach [] X.env)).any (·.1)=false:=by rfl)
 (hs:swapsWith (.Call (.Attribute (.Name x p) "append" apos) [e] [] cpos) none pos.line X.env=pure false:=by rfl) (hsl:R.slot i:=by first | exact True.intro | exact ⟨of_decide_eq_true rfl,of_decide_eq_true rfl⟩):DS X R (.Expr (.Call (.Attribute (.Name x p) "append" apos) [e] [] cpos) pos) (mApp i f):=by
 obtain ⟨t,h1,h2⟩:=h;exact ⟨_,ps_expr (pe_bm PySem.F.plainAttrs_list PySem.F.slot_list_append PySem.F.type_list_append mt_append (pe_var hN hv hd hcd) (pa_cons h1 pa_nil hst) hbase hfew hline hst hplain) hs,rs_app hsl h2⟩
theorem ds_setI (i : Nat) {px ps : Pos} (h : DE X R e f) (hj : DP X R a fa) (hN : X.N[i]? = some x := by rfl) (hv : Vis X.env.scope x := by first | exact Or.inl rfl | exact Or.inr (Or.inl rfl) | exact Or.inr (Or.inr rfl)) (hd : (x == ("__debug__" : Str)) = false := by decide) (hcd : (x == ("__classdict__" : Str)) = false := by decide)
 (ha:∀v,assign (.Subscript (.Name x px) a ps) X.env v=(do
  let ov <-holding [v] (eval (.Name x px) X.env)
  let iv <-holding [v,ov] (eval a X.env)
  standAt ps
  holding [v,ov,iv] (setItem ov iv v)
  release [v,ov,iv] []):=by intro _;rfl)
 (hs:swapsWithSole [.Subscript (.Name x px) a ps] e pos.line X.env=pure false:=by rfl) (hw:swappedStores [.Subscript (.Name x px) a ps] e X.env=pure none:=by rfl) (h1:(assignEach [.Subscript (.Name x px) a ps] X.env).map (·.2) = [assign (.Subscript (.Name x px) a ps) X.env]:=by rfl) (hsl:R.slot i:=by first | exact True.intro | exact ⟨of_decide_eq_true rfl,of_decide_eq_true rfl⟩) :
 DS X R (.Assign [.Subscript (.Name x px) a ps] e pos) (mSet i fa f):=by
 obtain ⟨t,a1,a2⟩:=h;obtain ⟨u,b1,b2⟩:=hj;exact ⟨_,ps_asg a1 (pg_sub (pe_var hN hv hd hcd) b1 set_list ha) hs hw h1,rs_set hsl a2 b2⟩
theorem cx_scope1{CX:CXT}{P:Program}{w:World}{K:PySem.W.Frag}{mg:Str->Option Value}{base:Heap}{N:List Str}{qual:Str}{scope:Scope}{f:Addr}{cd:Value}{A:Around}{outer:List Env}{s:Shared}{H:Hp}{E:XK}:(cxOf CX P w K mg base N qual scope f cd A outer s H E).nox.env.scope=scope:=rfl
theorem cx_names1{CX:CXT}{P:Program}{w:World}{K:PySem.W.Frag}{mg:Str->Option Value}{base:Heap}{N:List Str}{qual:Str}{scope:Scope}{f:Addr}{cd:Value}{A:Around}{outer:List Env}{s:Shared}{H:Hp}{E:XK}:(cxOf CX P w K mg base N qual scope f cd A outer s H E).nox.N=N:=rfl
theorem cxC_names{X:Cx}{osc sc:Scope}{N':List Str}{b:CB}:(cxC X osc sc N' b).N=N':=rfl
theorem cxC_scope{X:Cx}{osc sc:Scope}{N':List Str}{b:CB}:(cxC X osc sc N' b).env.scope=relabelS sc osc:=rfl
def GKm(S:Nat->Bool)(g:TG):Prop:=∀v σ H Q Q',g v σ H Q->(∀σ' H',Q σ' H'->σ'.length=σ.length->(∀i:Nat,S i=false->σ'[i]? = σ[i]?)->Q' σ' H')->g v σ H Q'
theorem GKm.gk{S:Nat->Bool}{t:TG}(h:GKm S t):GK S t:=fun v σ H Q q=>h v σ H Q _ q fun _ _ a b c=>⟨a,b,c⟩
theorem gkm_name{S:Nat->Bool}{i:Nat}(h:S i=true):GKm S (gName i):=fun v σ H Q Q' q k=>k _ _ q (List.length_set ..) fun j hj=>by
 rw [List.getElem?_set_ne];intro e;subst e;rw [h] at hj
 cases hj
def DGk(X:Cx)(R:Rl)(S:Nat->Bool)(e:Expr)(g:PyData->En->Option En):Prop:=∃t,PG X e t/\RG X.K R t g/\GKm S t
def DTs(X:Cx)(R:Rl)(ifs:List Expr)(f:En->Option Bool):Prop:=∃tt,PTs X ifs tt/\RT X.K R tt f
theorem dts_nil:DTs X R [] mYes:=⟨_,pts_nil,rt_yes⟩
theorem dts_one(h:DT X R e ft):DTs X R [e] ft:=by obtain ⟨t,h1,h2⟩:=h;exact ⟨_,pts_one h1,h2⟩
theorem dgk_name{S:Nat->Bool}(i:Nat)(hN:X.N.Nodup)(hS:S i=true:=by rfl)(hi:X.N[i]? = some x:=by rfl)(hx:Loc X.env.scope x:=by first | exact Or.inl rfl | exact Or.inr rfl)(hf:X.fn x=true\/X.env.scope.names.lookup x=some .local:=by first | exact .inl rfl | exact .inr rfl)(hsl:R.slot i:=by first | exact True.intro | exact ⟨of_decide_eq_true rfl,of_decide_eq_true rfl⟩):DGk X R S (.Name x pos) (gVar i):=⟨_,pg_name hN hi hx hf,rg_name i hsl,gkm_name hS⟩
variable {osc sc:Scope} {N':List Str} {ix:List (Option Nat)} {ifs:List Expr} {elt iter:Expr} {fe:En->Option Sl}
theorem de_lc {N : List Str} (ho : X.env.scope = osc) (hN : X.N = N) (ix : List (Option Nat)) (sb : En -> En) (hx : ∀ (HB : Hp) (σ : L2.St) (ρ : En) (H0 H : Hp), R.r HB H0 H σ ρ -> R'.r (fun _ => none) H0 H (subS ix σ) (sb ρ)) (hi : DI X R tg iter fi) (hg : ∀ b : CB, DGk (cxC X osc sc N' b) R' (slotS ix) tg fg) (ht : ∀ b : CB, DTs (cxC X osc sc N' b) R' ifs ft) (he : ∀ b : CB, DE (cxC X osc sc N' b) R' elt fe)
 (hcs:csOk osc sc N N' ix=true:=by decide +kernel) (hc:X.calm=true:=by rfl)
 (hs:∀x,foldedSetIterable iter X.env x=pure x:=by intro _;rfl):DE X R (.ListComp elt [⟨tg,iter,ifs,0⟩] sc pos) (mLC sb fi fg ft fe):=by
 obtain ⟨wi,h1,h2⟩:=hi
 exact ⟨_,pe_lc (g:=fun b=>(hg b).choose) (tt:=fun b=>(ht b).choose) (te:=fun b=>(he b).choose) hc ho hN hcs h1 (fun b=>⟨(hg b).choose_spec.1,(ht b).choose_spec.1,(he b).choose_spec.1⟩) (fun b=>(hg b).choose_spec.2.2.gk) hs,
  re_lc hx h2 (fun b=>(hg b).choose_spec.2.1) (fun b=>(ht b).choose_spec.2) (fun b=>(he b).choose_spec.2)⟩
end
end Dm
namespace Dm
open PySem PySem.Spec L2 Tf
theorem compM_map{α:Type}{f:PyData->Option (Option PyData)}{en:α->PyData}{g:α->PyData}:∀ {xs:List α},(∀x ∈ xs,f (en x)=some (some (g x)))->compM f (xs.map en)=some (xs.map g)
 | [],_=>rfl
 | x::xs,h=>by
  rw [List.map_cons,compM,h x List.mem_cons_self,compM_map (fun y hy=>h y (List.mem_cons_of_mem _ hy))];rfl
theorem compM_range{f:PyData->Option (Option PyData)}{g:Nat->PyData}{lo:Int}{n:Nat}(h:∀i,i<n->f (.int (lo+(i:Nat)))=some (some (g i))):compM f (rngD lo n)=some ((List.range n).map g) :=
 compM_map (en:=fun i:Nat=>PyData.int (lo+(i:Nat))) fun i hi=>h i (List.mem_range.mp hi)
def Rts(g:En->Option Out)(ρ:En)(r:Sl):Prop:=∃ρ',g ρ=some (.rt r ρ')
theorem rts_seq{f g:En->Option Out}{ρ ρ':En}{r:Sl}(h:f ρ=some (.nx ρ'))(k:Rts g ρ' r):Rts (mSeq f g) ρ r:=by
 obtain ⟨ρ2,k⟩:=k;exact ⟨ρ2,by unfold mSeq;rw [h];exact k⟩
theorem rts_seqR{f g:En->Option Out}{ρ:En}{r:Sl}(h:Rts f ρ r):Rts (mSeq f g) ρ r:=by
 obtain ⟨ρ2,h⟩:=h;exact ⟨ρ2,by unfold mSeq;rw [h];rfl⟩
theorem rts_ret{f:En->Option Sl}{ρ:En}{r:Sl}(h:f ρ=some r):Rts (mRet f) ρ r:=⟨ρ,by unfold mRet;rw [h];rfl⟩
theorem rts_if{c:En->Option Bool}{f g:En->Option Out}{ρ:En}{r:Sl}{b:Bool}(h:c ρ=some b)(k:Rts (if b then f else g) ρ r):Rts (mIf c f g) ρ r:=by
 obtain ⟨ρ2,k⟩:=k;refine ⟨ρ2,?_⟩;unfold mIf;rw [h]
 cases b <;> exact k
theorem runD_rt{n k:Nat}{g:En->Option Out}{ds:List PyData}{ρ:En}{r:Sl}(hl:ds.length=k)(e:ds.map (fun d=>some (Sl.val d))++List.replicate (n - ds.length) none=ρ)(h:Rts g ρ r):runD n g k ds=some r:=by
 obtain ⟨ρ',h⟩:=h;unfold runD;rw [if_pos hl,e,h];rfl
theorem seq_to{f g:En->Option Out}{ρ ρ':En}{o:Out}(h:f ρ=some (.nx ρ'))(k:g ρ'=some o):mSeq f g ρ=some o:=by
 unfold mSeq;rw [h];exact k
theorem if_to{c:En->Option Bool}{f g:En->Option Out}{ρ:En}{o:Out}{b:Bool}(h:c ρ=some b)(k:(if b then f ρ else g ρ)=some o):mIf c f g ρ=some o:=by
 unfold mIf;rw [h];exact k
theorem asg_to{i:Nat}{f:En->Option Sl}{ρ:En}{r:Sl}(h:f ρ=some r):mAsg i f ρ=some (.nx (ρ.set i (some r))):=by
 unfold mAsg;rw [h];rfl
theorem ret_to{f:En->Option Sl}{ρ:En}{r:Sl}(h:f ρ=some r):mRet f ρ=some (.rt r ρ):=by
 unfold mRet;rw [h];rfl
theorem call_to{F:List PyData->Option Sl}{f:En->Option (List PyData)}{ρ:En}{ds:List PyData}{r:Sl}(h:f ρ=some ds)(k:F ds=some r):mCall F f ρ=some r:=by
 unfold mCall;rw [h];exact k
theorem for_to{fi:En->Option (List PyData)}{fg:PyData->En->Option En}{gb:En->Option Out}{ρ:En}{ds:List PyData}{o:Out}(h:fi ρ=some ds)(k:forM fg gb ds ρ=some o):mFor fi fg gb ρ=some o:=by
 unfold mFor;rw [h];exact k
theorem lc_to{sb:En->En}{fi:En->Option (List PyData)}{fg:PyData->En->Option En}{ft:En->Option Bool}{fe:En->Option Sl}{ρ:En}{ds es:List PyData}(h:fi ρ=some ds)(hl:ds.length<sizeLine)(k:compM (elM fg ft fe (sb ρ)) ds=some es):mLC sb fi fg ft fe ρ=some (.own es):=by
 unfold mLC;rw [h];show (if ds.length<sizeLine then _ else _)=_;rw [if_pos hl,k];rfl
theorem mulS{i j:Int}(h:CMulA i j):dRep (.val (.int i)) (.val (.int j))=some (.val (.int (i*j))):=by
 unfold dRep dMulI iopC;simp only [if_pos h]
theorem divS{i j:Int}(h:CDivB i j):dFdiv (.val (.int i)) (.val (.int j))=some (.val (.int (i.fdiv j))):=by
 unfold dFdiv iopC;simp only [if_pos h]
theorem modS{i j:Int}(h:j≠0):dMod (.val (.int i)) (.val (.int j))=some (.val (.int (i.fmod j))):=by
 unfold dMod iopC;simp only [if_pos h]
theorem shrS{i j:Int}(h:0<=j):dShr (.val (.int i)) (.val (.int j))=some (.val (.int (i / 2 ^ j.toNat))):=by
 unfold dShr iopC;simp only [if_pos h]
theorem rng1_to{f:En->Option (List Sl)}{ρ:En}{j:Nat}(h:f ρ=some [.val (.int j)])(hj:j<=1000):mRng1 f ρ=some (rngD 0 j):=by
 have b:inB (j:Int):=by
  constructor
  . have : -(2 ^ 62:Int)<=0:=by decide
    omega
  . have:(1000:Int)<2 ^ 62:=by decide
    omega
 unfold mRng1;rw [h];show (if inB (j:Int) then some (rngD 0 ((j:Int).toNat)) else none)=_;rw [if_pos b,Int.toNat_natCast]
theorem eqD_int(i j:Int):eqD (.int i) (.int j)=some (decide (i=j)):=by
 have:PyData.eqv (.int i) (.int j)=decide (i=j):=by simp [PyData.eqv,Bool.beq_eq_decide_eq]
 unfold eqD;rw [if_pos ⟨rfl,rfl,by simp [PyData.depth]⟩,this]
theorem lay_list{α:Type}{en:α->PyData}(h:∀x,(en x).canLay0=true):∀xs:List α,PyData.canLayAll0 (xs.map en)=true
 | []=>rfl
 | x::xs=>by rw [List.map_cons,PyData.canLayAll0,h x,lay_list h xs];rfl
theorem dep_list{α:Type}{en:α->PyData}{k:Nat}(h:∀x,(en x).depth<=k):∀xs:List α,PyData.depthAll (xs.map en)<=k
 | []=>Nat.zero_le _
 | x::xs=>by rw [List.map_cons,PyData.depthAll];exact Nat.max_le.mpr ⟨h x,dep_list h xs⟩
theorem eqD_same{d:PyData}(h:d.canLay0=true)(k:d.depth<=60):eqD d d=some true:=by
 unfold eqD;rw [if_pos ⟨h,h,by omega⟩,SeqAt.eqv_refl d h]
end Dm
namespace Dm
open PySem PySem.Spec PyProof.Rows L2 Tf
section
variable {X:Cx}
theorem bools_of{bs:List Bool}:∀ {us:List Value},Vals (bs.map V.bl) us->LSm.BoolsAre us bs:=by
 induction bs with
 | nil=>intro us r;cases r;exact .nil
 | cons b bs ih=>
  intro us r
  cases r with
  | cons r1 r2=>cases (show _=Value.bool b from r1);exact .cons b (ih r2)
theorem call_all(hc:X.calm=true):CallR X (.builtin "all") (fun xs H Q=>∃(p:Addr) (bs:List Bool),xs = [.ref p]/\SqL X.K H p (bs.map V.bl)/\Q (.bl (bs.all id)) H):=by
 intro pins s σ H xs us Q I r h;obtain ⟨p,bs,rfl,hq,q⟩:=h;obtain ⟨u,rfl,ru⟩:=vals1 r
 cases (show u=Value.ref p from ru)
 obtain ⟨its,rv,pl,hz⟩:=I.list hq;have hb:=bools_of rv;have hl:s.heap.IsList p its.toArray:=pl.isList;have hlt:p<s.heap.objs.size:=by obtain ⟨_,e,_⟩:=hl;exact Heap.lt_size e
 refine call_all_walk (wpAny_pyIter_list hl ?_)
 refine ⟨s.heap.objs.size,[s.heap.objs.size,p],[s.heap.objs.size],its.toArray.size,_,_,fun i=>(bs[i]?).getD true,rfl,Walks.list (A:=X.A.in1) (I.ok.hd hc) _ p (Nat.ne_of_lt hlt) its.toArray,
  ⟨⟨_,Heap.get?_push_size _ rfl,rfl,rfl⟩,hl.push _⟩,fun i v s' Q' E' hP hQ=> ?_,fun h' tk hk=> ?_⟩
 . obtain ⟨b,e,rfl⟩:=hb.get i v (by simpa using hP);simp only [e,Option.getD_some] at hQ
   exact wpAny_truthy_bool hQ
 . have e : ((List.range its.toArray.size).all fun i => (bs[i]?).getD true) = bs.all id := by
    rw [List.size_toArray,hb.length];exact LSm.range_all bs
   rw [e];exact ⟨.bl _,H,I.kept (LSm.kept_iter hk),rfl,q⟩
theorem call_any(hc:X.calm=true):CallR X (.builtin "any") (fun xs H Q=>∃(p:Addr) (bs:List Bool),xs = [.ref p]/\SqL X.K H p (bs.map V.bl)/\Q (.bl (bs.any id)) H):=by
 intro pins s σ H xs us Q I r h;obtain ⟨p,bs,rfl,hq,q⟩:=h;obtain ⟨u,rfl,ru⟩:=vals1 r
 cases (show u=Value.ref p from ru)
 obtain ⟨its,rv,pl,hz⟩:=I.list hq;have hb:=bools_of rv;have hl:s.heap.IsList p its.toArray:=pl.isList;have hlt:p<s.heap.objs.size:=by obtain ⟨_,e,_⟩:=hl;exact Heap.lt_size e
 refine call_any_walk (wpAny_pyIter_list hl ?_)
 refine ⟨s.heap.objs.size,[s.heap.objs.size,p],[s.heap.objs.size],its.toArray.size,_,_,fun i=>(bs[i]?).getD false,rfl,Walks.list (A:=X.A.in1) (I.ok.hd hc) _ p (Nat.ne_of_lt hlt) its.toArray,
  ⟨⟨_,Heap.get?_push_size _ rfl,rfl,rfl⟩,hl.push _⟩,fun i v s' Q' E' hP hQ=> ?_,fun h' tk hk=> ?_⟩
 . obtain ⟨b,e,rfl⟩:=hb.get i v (by simpa using hP);simp only [e,Option.getD_some] at hQ
   exact wpAny_truthy_bool hQ
 . have e : ((List.range its.toArray.size).any fun i => (bs[i]?).getD false) = bs.any id := by
    rw [List.size_toArray,hb.length];exact LSm.range_any bs
   rw [e];exact ⟨.bl _,H,I.kept (LSm.kept_iter hk),rfl,q⟩
def boolsOf:List PyData->Option (List Bool)
 | []=>some []
 | .bool i::r=>(boolsOf r).map (i :: ·)
 | _::_=>none
theorem boolsOf_eq:∀ {ds:List PyData} {bs:List Bool},boolsOf ds=some bs->ds=bs.map .bool
 | [],bs,h=>by cases h;rfl
 | .bool i::r,bs,h=>by
  obtain ⟨ms,h1,rfl⟩:=Option.map_eq_some_iff.mp (show (boolsOf r).map (i :: ·)=some bs from h);rw [boolsOf_eq h1];rfl
theorem reps_bools{K:PySem.W.Frag}{H:Hp}:∀ {vs:List V} {bs:List Bool},Reps K H vs (bs.map .bool)->vs=bs.map .bl
 | _,[],h=>by cases h;rfl
 | _,n::r,h=>by
  cases h with
  | cons h t=>cases h;rw [reps_bools t];rfl
def dAll:List Sl->Option Sl
 | [a]=>match a.dat with
  | .list ds=>(boolsOf ds).map fun bs=> .val (.bool (bs.all id))
  | _=>none
 | _=>none
def dAny:List Sl->Option Sl
 | [a]=>match a.dat with
  | .list ds=>(boolsOf ds).map fun bs=> .val (.bool (bs.any id))
  | _=>none
 | _=>none
theorem cd_all{K:PySem.W.Frag}:CallD K (fun xs H Q=>∃(p:Addr) (bs:List Bool),xs = [.ref p]/\SqL K H p (bs.map V.bl)/\Q (.bl (bs.all id)) H) dAll:=fun H0 H vs ss z s p hz Q q=>by
 unfold dAll at hz
 split at hz
 . obtain ⟨v,rfl,pa⟩:=paired1 p
   split at hz
   . rename_i ds hd;obtain ⟨bs,hn,rfl⟩:=Option.map_eq_some_iff.mp hz;obtain ⟨a,vs,rfl,h1,h2⟩:=pa.lst s hd;rw [boolsOf_eq hn] at h2
     rw [reps_bools h2] at h1
     exact ⟨a,bs,rfl,h1,q _ _ _ (Ext.refl s) (.bool _)⟩
   . cases hz
 . cases hz
theorem cd_any{K:PySem.W.Frag}:CallD K (fun xs H Q=>∃(p:Addr) (bs:List Bool),xs = [.ref p]/\SqL K H p (bs.map V.bl)/\Q (.bl (bs.any id)) H) dAny:=fun H0 H vs ss z s p hz Q q=>by
 unfold dAny at hz
 split at hz
 . obtain ⟨v,rfl,pa⟩:=paired1 p
   split at hz
   . rename_i ds hd;obtain ⟨bs,hn,rfl⟩:=Option.map_eq_some_iff.mp hz;obtain ⟨a,vs,rfl,h1,h2⟩:=pa.lst s hd;rw [boolsOf_eq hn] at h2
     rw [reps_bools h2] at h1
     exact ⟨a,bs,rfl,h1,q _ _ _ (Ext.refl s) (.bool _)⟩
   . cases hz
 . cases hz
def rInD(K:PySem.W.Frag)(neg:Bool):R2:=fun x y H Q=>∃p xs dx ds,y = .ref p/\(SqL K H p xs\/SqT K H p xs)/\Rep K H x dx/\Reps K H xs ds/\dx.canLay0=true/\(∀d ∈ ds,d.canLay0=true)/\dx.depth<=60/\Q (.bl (if neg then !(ds.any fun d=>PyData.eqv d dx) else ds.any fun d=>PyData.eqv d dx)) H
open Classical in
noncomputable def eqW(h:Heap)(ds:List PyData)(dx:PyData)(u:Value):Bool:=decide (∃d ∈ ds,(∃as,Reads h u d as)/\PyData.eqv d dx=true)
open Classical in
theorem eqW_of{h:Heap}{ds:List PyData}{dx d:PyData}{u:Value}{as:List Addr}(hd:d ∈ ds)(hl:∀d ∈ ds,d.canLay0=true)(r:Reads h u d as):eqW h ds dx u=PyData.eqv d dx:=by
 unfold eqW
 by_cases e:PyData.eqv d dx=true
 . rw [e];exact decide_eq_true ⟨d,hd,⟨as,r⟩,e⟩
 . rw [Bool.eq_false_iff.mpr e];refine decide_eq_false ?_;rintro ⟨d',hd',⟨as',r'⟩,e'⟩;rw [<-SeqAt.Reads.unique d d' u as as' (hl d hd) r r'] at e'
   exact e e'
theorem any_eqW{h:Heap}{dx:PyData}{all:List PyData}(hl:∀d ∈ all,d.canLay0=true):∀ {us:List Value} {ds:List PyData} {as:List Addr},ReadsAll h us ds as->(∀d ∈ ds,d ∈ all)->us.any (eqW h all dx)=ds.any fun d=>PyData.eqv d dx
 | _,_,_, .nil,_=>rfl
 | _,_,_, .cons r t,hs=>by
  rw [List.any_cons,List.any_cons,eqW_of (hs _ List.mem_cons_self) hl r,any_eqW hl t fun d hd=>hs d (List.mem_cons_of_mem _ hd)]
theorem mem_readsAll{h:Heap}:∀ {us:List Value} {ds:List PyData} {as:List Addr},ReadsAll h us ds as->∀u ∈ us,∃d ∈ ds,∃bs,Reads h u d bs
 | _,_,_, .nil,u,hu=>by cases hu
 | _,_,_, .cons r t,u,hu=>by
  rcases List.mem_cons.mp hu with rfl | hu
  . exact ⟨_,List.mem_cons_self,_,r⟩
  . obtain ⟨d,hd,q⟩:=mem_readsAll t u hu;exact ⟨d,List.mem_cons_of_mem _ hd,q⟩
theorem in1_units(A:Around):A.in1.units=A.units+1:=rfl
theorem op_inD(hu:X.A.units+64<cLine):OpR X (compareOp .In) (rInD X.K false):=by
 intro pins s σ H x y v u Q I rx ry h;obtain ⟨p,xs,dx,ds,rfl,hq,hx,hs,lx,ld,dp,q⟩:=h
 cases ry
 obtain ⟨bs,r2⟩:=hx.reads I rx lx;rcases hq with hq | hq
 . obtain ⟨its,r,pl,hz⟩:=I.list hq;obtain ⟨as,ra⟩:=Reps.reads I hs r (layAll_of ld);refine SeqAt.in_listAt (eqW s.heap ds dx) pl.isList (fun w hw=> ?_) ⟨.bl _,H,I,rfl,?_⟩
   . obtain ⟨d,hd,cs,rd⟩:=mem_readsAll ra w (by simpa using hw);rw [eqW_of hd ld rd];exact SeqAt.eqAt_reads d dx _ _ _ _ _ _ rd r2 (ld d hd) lx (by have:=in1_units X.A;omega)
   . rw [show its.toArray.any (eqW s.heap ds dx)=its.any (eqW s.heap ds dx) by simp,any_eqW ld ra fun _ h=>h];exact q
 . obtain ⟨its,r,pl,hz⟩:=I.tuple hq;obtain ⟨as,ra⟩:=Reps.reads I hs r (layAll_of ld);refine SeqAt.in_tupleAt (eqW s.heap ds dx) pl (fun w hw=> ?_) ⟨.bl _,H,I,rfl,?_⟩
   . obtain ⟨d,hd,cs,rd⟩:=mem_readsAll ra w (by simpa using hw);rw [eqW_of hd ld rd];exact SeqAt.eqAt_reads d dx _ _ _ _ _ _ rd r2 (ld d hd) lx (by have:=in1_units X.A;omega)
   . rw [show its.toArray.any (eqW s.heap ds dx)=its.any (eqW s.heap ds dx) by simp,any_eqW ld ra fun _ h=>h];exact q
theorem op_notInD(hu:X.A.units+64<cLine):OpR X (compareOp .NotIn) (rInD X.K true):=by
 intro pins s σ H x y v u Q I rx ry h;obtain ⟨p,xs,dx,ds,rfl,hq,hx,hs,lx,ld,dp,q⟩:=h
 cases ry
 obtain ⟨bs,r2⟩:=hx.reads I rx lx;rcases hq with hq | hq
 . obtain ⟨its,r,pl,hz⟩:=I.list hq;obtain ⟨as,ra⟩:=Reps.reads I hs r (layAll_of ld);refine SeqAt.notIn_listAt (eqW s.heap ds dx) pl.isList (fun w hw=> ?_) ⟨.bl _,H,I,rfl,?_⟩
   . obtain ⟨d,hd,cs,rd⟩:=mem_readsAll ra w (by simpa using hw);rw [eqW_of hd ld rd];exact SeqAt.eqAt_reads d dx _ _ _ _ _ _ rd r2 (ld d hd) lx (by have:=in1_units X.A;omega)
   . rw [show its.toArray.any (eqW s.heap ds dx)=its.any (eqW s.heap ds dx) by simp,any_eqW ld ra fun _ h=>h];exact q
 . obtain ⟨its,r,pl,hz⟩:=I.tuple hq;obtain ⟨as,ra⟩:=Reps.reads I hs r (layAll_of ld);refine SeqAt.notIn_tupleAt (eqW s.heap ds dx) pl (fun w hw=> ?_) ⟨.bl _,H,I,rfl,?_⟩
   . obtain ⟨d,hd,cs,rd⟩:=mem_readsAll ra w (by simpa using hw);rw [eqW_of hd ld rd];exact SeqAt.eqAt_reads d dx _ _ _ _ _ _ rd r2 (ld d hd) lx (by have:=in1_units X.A;omega)
   . rw [show its.toArray.any (eqW s.heap ds dx)=its.any (eqW s.heap ds dx) by simp,any_eqW ld ra fun _ h=>h];exact q
def inD(neg:Bool)(dx:PyData)(ds:List PyData):Option Sl:=if dx.canLay0=true/\(ds.all fun d=>d.canLay0)=true/\dx.depth<=60 then some (.val (.bool (if neg then !(ds.any fun d=>PyData.eqv d dx) else ds.any fun d=>PyData.eqv d dx))) else none
def dInD(neg:Bool)(a b:Sl):Option Sl:=match b.dat with
 | .list ds=>inD neg a.dat ds
 | .tuple ds=>inD neg a.dat ds
 | _=>none
theorem opd_inD{K:PySem.W.Frag}{neg:Bool}:OpD K (rInD K neg) (dInD neg):=fun H0 H x y sx sy z s px py hz Q q=>by
 unfold dInD at hz
 split at hz
 . rename_i ds hd;unfold inD at hz
   split at hz
   . rename_i hc
     cases hz
     obtain ⟨a,vs,rfl,h1,h2⟩:=py.lst s hd;exact ⟨a,vs,_,ds,rfl, .inl h1,px.rep s,Reps.same s h2,hc.1,fun d hd=>List.all_eq_true.mp hc.2.1 d hd,hc.2.2,q _ _ _ (Ext.refl s) (.bool _)⟩
   . cases hz
 . rename_i ds hd;unfold inD at hz
   split at hz
   . rename_i hc
     cases hz
     obtain ⟨a,vs,rfl,h1,h2⟩:=py.tup hd;exact ⟨a,vs,_,ds,rfl, .inr (s.seqT (SqT.of h1)),px.rep s,Reps.same s h2,hc.1,fun d hd=>List.all_eq_true.mp hc.2.1 d hd,hc.2.2,q _ _ _ (Ext.refl s) (.bool _)⟩
   . cases hz
 . cases hz
variable {R:Rl} [RelOk X.K R] {a b e:Expr} {pos p:Pos} {fa fb f:En->Option Sl}
theorem dt_notinD(hu:X.A.units+64<cLine)(ha:DP X R a fa)(hb:DP X R b fb)(hm:behindInMarks .NotIn b=false:=by with_unfolding_all rfl):DT X R (.Compare a [.NotIn] [b] pos) (mTest (mBin (dInD true) fa fb)):=dt_cmp (op_notInD hu) opd_inD ha hb hm
end
end Dm
namespace Tf
open PySem PySem.Spec PyProof.Rows L2
variable {X:Cx}
end Tf
namespace Dm
open PySem PySem.Spec L2 Tf
def Wp(g:En->Option Out)(ρ:En)(Z:Out->Prop):Prop:=∃o,g ρ=some o/\Z o
def Nx(P:En->Prop):Out->Prop
 | .nx ρ=>P ρ
 | _=>False
def Rt(r:Sl):Out->Prop
 | .rt r' _=>r'=r
 | _=>False
def Lp(N:En->Prop)(Z:Out->Prop):Out->Prop
 | .nx ρ=>N ρ
 | .ct ρ=>N ρ
 | .bk ρ=>Z (.nx ρ)
 | .rt r ρ=>Z (.rt r ρ)
section
variable {f g:En->Option Out} {ρ:En} {Z:Out->Prop}
theorem wp_of{o:Out}(h:g ρ=some o)(z:Z o):Wp g ρ Z:=⟨o,h,z⟩
theorem Wp.imp{Y:Out->Prop}(h:Wp g ρ Y)(k:∀o,Y o->Z o):Wp g ρ Z:=by
 obtain ⟨o,h1,h2⟩:=h;exact ⟨o,h1,k o h2⟩
theorem wp_seqG(h:Wp f ρ (fun o=>match o with | .nx ρ'=>Wp g ρ' Z | o=>Z o)):Wp (mSeq f g) ρ Z:=by
 obtain ⟨o,h1,h2⟩:=h
 cases o with
 | nx ρ' =>
  obtain ⟨o2,h3,h4⟩:=h2
  exact ⟨o2,by unfold mSeq;rw [h1];exact h3,h4⟩
 | rt r ρ'=>exact ⟨_,by unfold mSeq;rw [h1];rfl,h2⟩
 | bk ρ'=>exact ⟨_,by unfold mSeq;rw [h1];rfl,h2⟩
 | ct ρ'=>exact ⟨_,by unfold mSeq;rw [h1];rfl,h2⟩
theorem wp_seq{P:En->Prop}(h:Wp f ρ (Nx P))(k:∀ρ',P ρ'->Wp g ρ' Z):Wp (mSeq f g) ρ Z:=by
 refine wp_seqG (h.imp fun o ho=> ?_)
 cases o with
 | nx ρ'=>exact k ρ' ho
 | _=>exact ho.elim
theorem wp_seqN{ρ':En}(h:f ρ=some (.nx ρ'))(k:Wp g ρ' Z):Wp (mSeq f g) ρ Z:=by
 obtain ⟨o,h1,h2⟩:=k;exact ⟨o,seq_to h h1,h2⟩
variable {i:Nat} {fe:En->Option Sl} {r:Sl} {c:En->Option Bool} {b:Bool}
theorem wp_asg(h:fe ρ=some r)(k:Z (.nx (ρ.set i (some r)))):Wp (mAsg i fe) ρ Z:=⟨_,asg_to h,k⟩
theorem wp_asgS(h:fe ρ=some r)(k:Wp g (ρ.set i (some r)) Z):Wp (mSeq (mAsg i fe) g) ρ Z:=wp_seqN (asg_to h) k
theorem wp_frz(h:Wp g (frz1 i ρ) Z):Wp (mFrz i g) ρ Z:=h
theorem wp_ret(h:fe ρ=some r)(k:Z (.rt r ρ)):Wp (mRet fe) ρ Z:=⟨_,ret_to h,k⟩
theorem wp_if(h:c ρ=some b)(k:Wp (if b then f else g) ρ Z):Wp (mIf c f g) ρ Z:=by
 obtain ⟨o,h1,h2⟩:=k;refine ⟨o,if_to h ?_,h2⟩
 cases b <;> exact h1
theorem wp_ifT(h:c ρ=some true)(k:Wp f ρ Z):Wp (mIf c f g) ρ Z:=wp_if (b:=true) h k
theorem wp_ifF(h:c ρ=some false)(k:Wp g ρ Z):Wp (mIf c f g) ρ Z:=wp_if (b:=false) h k
theorem wp_next(k:Z (.nx ρ)):Wp mNext ρ Z:=⟨_,rfl,k⟩
theorem wp_skip{h:En->Option Out}(hc:c ρ=some false)(k:Wp h ρ Z):Wp (mSeq (mIf c f mNext) h) ρ Z:=wp_seqN (if_to hc rfl) k
variable {fi:En->Option (List PyData)} {fg:PyData->En->Option En} {ds:List PyData}
theorem wp_for(P:Nat->En->Prop)(hi:fi ρ=some ds)(h0:P 0 ρ)(hs:∀(j:Nat) d ρ,ds[j]? = some d->P j ρ->∃ρ1,fg d ρ=some ρ1/\Wp g ρ1 (Lp (P (j+1)) Z))(k:∀ρ',P ds.length ρ'->Z (.nx ρ')):Wp (mFor fi fg g) ρ Z:=by
 have gen:∀(n j:Nat) ρ,j+n=ds.length->P j ρ->∃o,forM fg g (ds.drop j) ρ=some o/\Z o:=by
  intro n
  induction n with
  | zero=>
   intro j ρ hj hp;have:j=ds.length:=by omega
   subst this;rw [List.drop_eq_nil_of_le (Nat.le_refl _)]
   exact ⟨_,rfl,k ρ hp⟩
  | succ n ih=>
   intro j ρ hj hp;have hd:ds[j]? = some ds[j]:=List.getElem?_eq_getElem (by omega);obtain ⟨ρ1,h1,o,h2,h3⟩:=hs j ds[j] ρ hd hp;rw [forM_drop hd,h1];simp only [Option.bind_some,h2]
   cases o with
   | nx ρ2=>exact ih (j+1) ρ2 (by omega) h3
   | ct ρ2=>exact ih (j+1) ρ2 (by omega) h3
   | bk ρ2=>exact ⟨_,rfl,h3⟩
   | rt r ρ2=>exact ⟨_,rfl,h3⟩
 obtain ⟨o,h1,h2⟩:=gen ds.length 0 ρ (by omega) h0;refine ⟨o,for_to hi ?_,h2⟩;simpa using h1
theorem wp_forR(P:Nat->En->Prop){lo:Int}{n:Nat}(hi:fi ρ=some (rngD lo n))(h0:P 0 ρ)(hs:∀(j:Nat) ρ,j<n->P j ρ->∃ρ1,fg (.int (lo+(j:Nat))) ρ=some ρ1/\Wp g ρ1 (Lp (P (j+1)) Z))(k:∀ρ',P n ρ'->Z (.nx ρ')):Wp (mFor fi fg g) ρ Z:=by
 refine wp_for P hi h0 (fun j d ρ hd hp=> ?_) (by simpa [rngD] using k);rw [rngD_get] at hd
 split at hd
 . rename_i hlt
   cases hd
   exact hs j ρ hlt hp
 . cases hd
theorem wp_forR0(P:Nat->En->Prop){n:Nat}(hi:fi ρ=some (rngD 0 n))(h0:P 0 ρ)(hs:∀(j:Nat) ρ,j<n->P j ρ->∃ρ1,fg (.int (j:Nat)) ρ=some ρ1/\Wp g ρ1 (Lp (P (j+1)) Z))(k:∀ρ',P n ρ'->Z (.nx ρ')):Wp (mFor fi fg g) ρ Z:=
 wp_forR P hi h0 (fun j ρ hj hp=>by rw [Int.zero_add];exact hs j ρ hj hp) k
theorem wp_forL{α:Type}{en:α->PyData}{xs:List α}(P:Nat->En->Prop)(hi:fi ρ=some (xs.map en))(h0:P 0 ρ)(hs:∀(j:Nat) x ρ,xs[j]? = some x->P j ρ->∃ρ1,fg (en x) ρ=some ρ1/\Wp g ρ1 (Lp (P (j+1)) Z))(k:∀ρ',P xs.length ρ'->Z (.nx ρ')):Wp (mFor fi fg g) ρ Z:=by
 refine wp_for P hi h0 (fun j d ρ hd hp=> ?_) (by simpa using k);rw [List.getElem?_map] at hd
 obtain ⟨x,hx,rfl⟩:=Option.map_eq_some_iff.mp hd;exact hs j x ρ hx hp
theorem run_wp{n k:Nat}{ds:List PyData}(hl:ds.length=k)(e:ds.map (fun d=>some (Sl.val d))++List.replicate (n - ds.length) none=ρ)(h:Wp g ρ (Rt r)):runD n g k ds=some r:=by
 obtain ⟨o,h1,h2⟩:=h
 cases o with
 | rt r' ρ'=>cases h2;exact runD_rt hl e ⟨ρ',h1⟩
 | _=>exact h2.elim
end
theorem and_false{a b:En->Option Bool}{ρ:En}{k:Bool}(h1:a ρ=some k)(h2:b ρ=some false):mAnd a b ρ=some false:=by
 unfold mAnd;rw [h1]
 cases k
 . rfl
 . exact h2
theorem and_to{a b:En->Option Bool}{ρ:En}{k l:Bool}(h1:a ρ=some k)(h2:b ρ=some l):mAnd a b ρ=some (k && l):=by
 unfold mAnd;rw [h1]
 cases k
 . rfl
 . exact h2
theorem or_to{a b:En->Option Bool}{ρ:En}{k l:Bool}(h1:a ρ=some k)(h2:b ρ=some l):mOr a b ρ=some (k || l):=by
 unfold mOr;rw [h1]
 cases k
 . exact h2
 . rfl
theorem not_to{a:En->Option Bool}{ρ:En}{k:Bool}(h1:a ρ=some k):mNot a ρ=some (!k):=by
 unfold mNot;rw [h1];rfl
theorem ne_int{fa fb:En->Option Sl}{ρ:En}{i j:Int}(ha:fa ρ=some (.val (.int i)))(hb:fb ρ=some (.val (.int j))):mTest (mBin dne fa fb) ρ=some (!decide (i=j)):=by
 unfold mTest mBin;rw [ha,Option.bind_some,hb,Option.bind_some];show Option.bind ((eqD (.int i) (.int j)).map _) _=_;rw [eqD_int];rfl
theorem eq_int{fa fb:En->Option Sl}{ρ:En}{i j:Int}(ha:fa ρ=some (.val (.int i)))(hb:fb ρ=some (.val (.int j))):mTest (mBin deq fa fb) ρ=some (decide (i=j)):=by
 unfold mTest mBin;rw [ha,Option.bind_some,hb,Option.bind_some];show Option.bind ((eqD (.int i) (.int j)).map _) _=_;rw [eqD_int];rfl
theorem ne_same{fa fb:En->Option Sl}{ρ:En}{a b:Sl}(ha:fa ρ=some a)(hb:fb ρ=some b)(h:a.dat=b.dat)(h1:b.dat.canLay0=true)(h2:b.dat.depth<=60):mTest (mBin dne fa fb) ρ=some false:=by
 unfold mTest mBin;rw [ha,Option.bind_some,hb,Option.bind_some];show Option.bind ((eqD a.dat b.dat).map _) _=_;rw [h,eqD_same h1 h2];rfl
theorem compM_none{f:PyData->Option (Option PyData)}:∀ {ds:List PyData},(∀d ∈ ds,f d=some none)->compM f ds=some []
 | [],_=>rfl
 | d::ds,h=>by
  rw [compM,h d List.mem_cons_self,compM_none fun d' hd=>h d' (List.mem_cons_of_mem _ hd)];rfl
def il(l:List Int):List PyData:=l.map .int
theorem il_len(l:List Int):(il l).length=l.length:=List.length_map ..
theorem il_app(a b:List Int):il (a++b)=il a++il b:=List.map_append ..
theorem atI_nat{α:Type}{xs:List α}{j:Nat}{x:α}(h:xs[j]? = some x):atI xs (j:Int)=some x:=by
 obtain ⟨hj,e⟩:=List.getElem?_eq_some_iff.mp h;unfold atI ixN;rw [if_pos (by omega),if_pos (by omega)];simpa using h
theorem dix_nat{s:Sl}{ds:List PyData}{j:Nat}{d:PyData}(hs:s.dat = .list ds\/s.dat = .tuple ds)(h:ds[j]? = some d):dix s (.val (.int (j:Int)))=some (.val d):=by
 unfold dix;rcases hs with hs | hs <;> simp only [hs,atI_nat h,Option.map_some]
theorem intsOf_il(l:List Int):intsOf (il l)=some l:=by
 induction l with
 | nil=>rfl
 | cons a l ih=>simp only [il,List.map_cons,intsOf] at ih ⊢;rw [ih];rfl
end Dm
namespace Tf
open PySem PySem.Spec PyProof.Rows L2
section
variable {X:Cx}
end
section
variable {prog:Program} {w:World} {A:Around} {E:Value->Shared->Prop} {s:Shared} {it:Addr} {F W:List Addr} {G:Array GenState->Array GenState->Prop} {n:Nat} {P:Nat->Value->Prop} {St:Nat->Shared->Prop}
end
section
variable {X:Cx}
def iSeq(K:PySem.W.Frag)(tl:TE):TI:=fun σ H R=>tl σ H fun x H1=>∃a,x = .ref a/\(((∃xs,SqL K H1 a xs)/\R (Itl K a) H1)\/((∃xs,SqT K H1 a xs)/\R (Itt K a) H1))
theorem pi_seq{tg l:Expr}{tl:TE}(hl:PE X l tl):PI X tg l (iSeq X.K tl):=by
 intro pins s σ H R I h;refine thn (hl pins s σ H _ I h) fun v s1 ⟨x,H1,I1,r1,q1⟩ => ?_;obtain ⟨a,e,⟨⟨xs,hq⟩,q⟩ | ⟨⟨xs,hq⟩,q⟩⟩:=q1
 . subst e
   cases r1
   obtain ⟨its,rv,p,hz⟩:=I1.list hq;refine wpAny_pyIter_list p.isList ?_;refine ⟨s1.heap.objs.size,[s1.heap.objs.size],_,_,H1,rfl,I1.kept (t':=s1.toks) fun b o e=>Heap.get?_push_of_some _ e,turn_list a _,⟨_,Heap.get?_push_size _ rfl,rfl,rfl⟩,fun b hb=> ?_,q⟩
   cases List.mem_singleton.mp hb
   exact I1.fpOk (Nat.le_refl _) (I1.hok.fresh (Nat.le_refl _))
 . subst e
   cases r1
   obtain ⟨its,rv,p,hz⟩:=I1.tuple hq;refine wpAny_pyIter_tuple (show s1.heap.IsTuple a its.toArray from p) ?_;refine ⟨s1.heap.objs.size,[s1.heap.objs.size],_,_,H1,rfl,I1.kept (t':=s1.toks) fun b o e=>Heap.get?_push_of_some _ e,turn_tuple a _,⟨_,Heap.get?_push_size _ rfl,rfl,rfl⟩,fun b hb=> ?_,q⟩
   cases List.mem_singleton.mp hb
   exact I1.fpOk (Nat.le_refl _) (I1.hok.fresh (Nat.le_refl _))
end
end Tf
namespace Dm
open PySem PySem.Spec PyProof.Rows L2 Tf
section
variable {K:PySem.W.Frag} {R:Rl} [RelOk K R]
def mItemsS(f:En->Option Sl):En->Option (List PyData):=fun ρ=>(f ρ).bind fun a=>match a.dat with
 | .list ds=>some ds
 | .tuple ds=>some ds
 | _=>none
theorem ri_seq{te:TE}{f:En->Option Sl}(h:RE K R te f):RI K R (iSeq K te) (mItemsS f):=fun HB σ ρ H0 H s e ds hd R q=>by
 obtain ⟨a,ha,hd⟩:=Option.bind_eq_some_iff.mp hd
 split at hd
 . rename_i es he
   cases hd
   refine h.rv HB σ ρ H0 H s e a.dat (by unfold mDat;rw [ha];rfl) _ fun v H1 J1 x1 p1=> ?_;rw [he] at p1
   cases p1 with
   | list h1 h2=>exact ⟨_,rfl, .inl ⟨⟨_,x1.s1.seq h1⟩,q _ _ _ x1 (it_list h1 h2)⟩⟩
 . rename_i es he
   cases hd
   refine h.rv HB σ ρ H0 H s e a.dat (by unfold mDat;rw [ha];rfl) _ fun v H1 J1 x1 p1=> ?_;rw [he] at p1
   cases p1 with
   | tuple h1 h2=>exact ⟨_,rfl, .inr ⟨⟨_,x1.s1.seqT (SqT.of h1)⟩,q _ _ _ x1 (it_tup (SqT.of h1) h2)⟩⟩
 . cases hd
def PinP(K:PySem.W.Frag)(i:Nat)(a:Addr)(ds:List PyData):Rl:=⟨fun HB H0 H σ ρ=>ER K HB H0 H σ ρ/\σ[i]? = some (some (.ref a))/\ρ[i]? = some (some (.own ds)),fun k=>k≠i/\(0:Nat)=0⟩
instance relOk_Pin {i:Nat} {a:Addr} {ds:List PyData}:RelOk K (PinP K i a ds) where
 ext:=fun x e=>⟨ER.ext x e.1,e.2⟩
 get:=fun e _ h=>ER.get e.1 _ _ h
 set:=fun {_ _ _ _ _ _ _ k _ _} e hs x s h=>⟨(relOk_PR (K:=K)).set e.1 trivial x s h,by rw [List.getElem?_set_ne hs.1];exact e.2.1,by rw [List.getElem?_set_ne hs.1];exact e.2.2⟩
 write:=fun e hs h1 h2 h3 h4 h5 h6=>⟨(relOk_PR (K:=K)).write e.1 trivial h1 h2 h3 h4 h5 h6,e.2.1,by rw [List.getElem?_set_ne hs.1];exact e.2.2⟩
 frz:=fun e hs h x=>by
  obtain ⟨H0',h1,h2⟩:=(relOk_PR (K:=K)).frz e.1 trivial h x;exact ⟨H0',h1,h2,e.2.1,by rw [List.getElem?_set_ne hs.1];exact e.2.2⟩
end
section
variable {X:Cx} {R R':Rl} [RelOk X.K R] [RelOk X.K R'] {a b c e:Expr} {pos p p2 pos2:Pos} {f g fa fb fc:En->Option Sl} {fs:En->Option (List PyData)} {fq:En->Option (List Sl)} {tg:Expr} {x:Str}
theorem di_seq(h:DE X R e f):DI X R tg e (mItemsS f):=by
 obtain ⟨t,h1,h2⟩:=h;exact ⟨_,pi_seq h1,ri_seq h2⟩
end
end Dm
namespace Tf
open PySem PySem.Spec PyProof.Rows L2
section
variable {prog:Program} {w:World} {A:Around} {E:Value->Shared->Prop} {s:Shared}
end
section
variable {prog:Program} {w:World} {A:Around} {E:Value->Shared->Prop} {s:Shared}
end
section
variable {X:Cx}
end
end Tf
namespace Dm
open PySem PySem.Spec PyProof.Rows L2 Tf
section
variable {K:PySem.W.Frag} {R:Rl} [RelOk K R]
end
section
variable {X:Cx} {R:Rl} [RelOk X.K R] {a b:Expr} {pos p:Pos} {fs:En->Option (List PyData)}
end
end Dm
namespace Dm
open PySem PySem.Spec PyProof.Rows L2 Tf
theorem keyD_inj{a b:Key}(h:keyD a=keyD b):a=b:=by
 cases a <;> cases b <;> simp [keyD] at h <;> rw [h]
theorem tupD_inj{a b:List Key}(h:tupD a=tupD b):a=b:=by
 have h:a.map keyD=b.map keyD:=by
  unfold tupD at h
  exact PyData.tuple.inj h
 exact List.map_inj_right (fun _ _=>keyD_inj) |>.mp h
section
variable {K:PySem.W.Frag}
theorem DctR.nil{H:Hp}:DctR K H [] []:=⟨[],[],[],rfl,rfl, .nil,rfl⟩
theorem DctR.cons{H:Hp}{k:List Key}{v:V}{d:PyData}{t:List (List Key×V)}{kvs:List (PyData×PyData)}(r:Rep K H v d)(h:DctR K H t kvs):DctR K H ((k,v)::t) ((tupD k,d)::kvs):=by
 obtain ⟨ks,xs,ds,rfl,e2,e3,rfl⟩:=h;exact ⟨k::ks,v::xs,d::ds,rfl,by rw [List.length_cons,List.length_cons,e2], .cons r e3,rfl⟩
theorem DctR.out{H:Hp}{t:List (List Key×V)}{kvs:List (PyData×PyData)}(h:DctR K H t kvs):(t = []/\kvs = [])\/∃k v d t' kvs',t=(k,v)::t'/\kvs=(tupD k,d)::kvs'/\Rep K H v d/\DctR K H t' kvs':=by
 obtain ⟨ks,xs,ds,rfl,e2,e3,rfl⟩:=h
 cases ks with
 | nil=>exact .inl ⟨rfl,rfl⟩
 | cons k ks=>
  cases e3 with
  | nil=>simp at e2
  | cons r t=>exact .inr ⟨k,_,_,_,_,rfl,rfl,r,ks,_,_,rfl,by simpa using e2,t,rfl⟩
open Classical in
noncomputable def lookD:List (PyData×PyData)->List Key->Option PyData
 | [],_=>none
 | (q,d)::r,k=>if q=tupD k then some d else lookD r k
theorem DctR.val{H:Hp}{k:List Key}:∀ {t:List (List Key×V)} {kvs:List (PyData×PyData)},DctR K H t kvs->(valV t k=none/\lookD kvs k=none)\/∃v d,valV t k=some v/\lookD kvs k=some d/\Rep K H v d
 | [],kvs,h=>by
  rcases h.out with ⟨_,rfl⟩ | ⟨k',v,d,t',kvs',e,_⟩
  . exact .inl ⟨rfl,rfl⟩
  . cases e
 | p::t,kvs,h=>by
  rcases h.out with ⟨e,_⟩ | ⟨k',v,d,t',kvs',e,rfl,r,h'⟩
  . cases e
  . cases e
    by_cases hk:k'=k
    . subst hk;exact .inr ⟨v,d,valV_pos rfl,if_pos rfl,r⟩
    . rw [valV_neg (p:=(k',v)) hk,show lookD ((tupD k',d)::kvs') k=lookD kvs' k from if_neg fun z=>hk (tupD_inj z)];exact DctR.val h'
theorem DctR.length{H:Hp}:∀ {t:List (List Key×V)} {kvs:List (PyData×PyData)},DctR K H t kvs->t.length=kvs.length
 | [],kvs,h=>by
  rcases h.out with ⟨_,rfl⟩ | ⟨k',v,d,t',kvs',e,_⟩
  . rfl
  . cases e
 | p::t,kvs,h=>by
  rcases h.out with ⟨e,_⟩ | ⟨k',v',d',t',kvs',e,rfl,r',h'⟩
  . cases e
  . cases e
    rw [List.length_cons,List.length_cons,DctR.length h']
def unD:List (PyData×PyData)->List (PyData×PyData)
 | (.none, .none)::r=>r
 | r=>r
theorem unD_mk(r:List (PyData×PyData)):unD (mkD::r)=r:=rfl
theorem unD_of{H:Hp}{t:List (List Key×V)}{kvs:List (PyData×PyData)}(h:DctR K H t kvs):unD kvs=kvs:=by
 rcases h.out with ⟨_,rfl⟩ | ⟨k',v',d',t',kvs',_,rfl,_⟩ <;> rfl
theorem SlP.dct{H0 H:Hp}{v:V}{kvs:List (PyData×PyData)}(s:Same H0 H):∀ {r:Sl},SlP K H0 H v r->r.dat = .dict kvs->∃a t,v = .ref a/\Rd H a (.dT t)/\DctR K H0 t (unD kvs)
 | .val _,h,e=>by
  cases h with
  | dict h1 h2 h3=>
   cases e
   have r:DctR K H0 _ _:=⟨_,_,_,rfl,h2,h3,rfl⟩;rw [unD_of r]
   exact ⟨_,_,rfl,Rd.same s h1,r⟩
  | dictF h1 h2 h3=>cases e;rw [unD_mk];exact ⟨_,_,rfl, .inr ⟨_,s _ _ h1⟩,_,_,_,rfl,h2,h3,rfl⟩
  | _=>cases e
 | .own _,_,e=>by cases e
 | .dct _,⟨a,t,e,h2,h3⟩,e2=>by cases e2;rw [unD_of h3];exact ⟨a,t,e, .inl h2,h3⟩
variable {R:Rl} [RelOk K R]
end
end Dm
namespace Tf
open PySem PySem.Spec PyProof.Rows L2
section
variable {prog:Program} {w:World} {A:Around} {E:Value->Shared->Prop} {s:Shared} {d:Addr} {o:Obj} {es:Array DictEntry} {ep:Nat}
end
variable {X:Cx}
end Tf
namespace Tf
open PySem PySem.Spec PyProof.Rows L2
section
variable {prog:Program} {w:World} {A:Around} {E:Value->Shared->Prop} {s:Shared} {d it v:Addr} {od:Obj} {es:Array DictEntry} {i ep:Nat}
end
end Tf
namespace Tf
open PySem PySem.Spec PyProof.Rows L2
section
variable {prog:Program} {w:World} {A:Around} {E:Value->Shared->Prop} {s:Shared} {d it:Addr} {od:Obj} {es:Array DictEntry} {i ep:Nat}
end
section
variable {X:Cx}
end
end Tf
namespace Tf
open PySem PySem.Spec PyProof.Rows L2
def BM(h:Heap)(mg:Str->Option Value):Prop:=∃bm o,mg "__builtins__" = some (.ref bm)/\bm≠builtinsNs/\h.get? bm=some o/\o.cls = .type "module" /\ o.dict=some builtinsNs/\o.data = .plain
def FnAt(f:Addr)(fo:Obj):HO:= .ext fun h=>h.get? f=some fo
structure Made (H H':Hp) (f c:Addr) (oc fo:Obj):Prop where
 same:∃H1,(H1=H\/(H c=none/\H1=upd H c (.frz oc (.own 0))))/\H1 f=none/\H'=upd H1 f (FnAt f fo)
 code:H' c=some (.frz oc (.own 0))
 fn:H' f=some (FnAt f fo)
 rec_:∃vs x,oc.data = .fields vs/\vs[1]? = some x
variable {X:Cx}
end Tf
namespace Tf
open PySem PySem.Spec PyProof.Rows L2
structure LB where
 q:Str
 f:Addr
 cd:Value
 s:Shared
 H:Hp
structure LamSc (X:Cx) (sc:Scope) (cl:List (Str×Addr)) (x:Str) (ys:List Str):Prop where
 kind:sc.kind = .function
 co:sc.isCoroutine=false
 gen:sc.isGenerator=false
 par:sc.names.lookup x=some .local
 nocell:∀y ∈ sc.names,y.2 ≠ .cell
 free:∀y,sc.names.lookup y=some .free->y ∈ ys
 fr:∀y ∈ ys,sc.names.lookup y=some .free
 cells:∀y c,cl.lookup y=some c->X.env.cells.lookup y=some c
 has:∀y ∈ ys,∃c,cl.lookup y=some c
 out:∀y ∈ ys,X.env.scope.names.lookup y=some .cell
variable {X:Cx}
end Tf
namespace Tf
open PySem PySem.Spec PyProof.Rows L2
variable {X:Cx}
end Tf
namespace Dm
open PySem PySem.Spec PyProof.Rows L2 Tf
section
variable {X:Cx} {a:Expr} {ta:TE} {p1 p2 pos pos2:Pos}
end
section
variable {K:PySem.W.Frag} {R:Rl} [RelOk K R]
end
section
variable {X:Cx} {R:Rl} [RelOk X.K R] {a:Expr} {p1 p2 pos pos2:Pos} {fa:En->Option Sl}
end
end Dm
namespace Tf
open PySem PySem.Spec PyProof.Rows L2
variable {X:Cx}
end Tf
namespace Dm
open PySem PySem.Spec PyProof.Rows L2 Tf
section
variable {K:PySem.W.Frag} {R:Rl} [RelOk K R]
end
section
variable {X:Cx} {R:Rl} [RelOk X.K R]
end
end Dm
namespace Tf
open PySem PySem.Spec PyProof.Rows L2
theorem Made.up{H H':Hp}{f c:Addr}{oc fo:Obj}(M:Made H H' f c oc fo){b:Addr}{u:HO}(e:H b=some u):H' b=some u:=by
 obtain ⟨H1,h1,hn,rfl⟩:=M.same
 have e1:H1 b=some u:=by
  rcases h1 with rfl | ⟨h1n,rfl⟩
  . exact e
  . rw [upd_ne (ne_of_none e h1n)];exact e
 rw [upd_ne (ne_of_none e1 hn)];exact e1
variable {X:Cx}
end Tf
namespace Tf
open PySem PySem.Spec PyProof.Rows L2
variable {X:Cx}
end Tf
namespace Dm
open PySem PySem.Spec PyProof.Rows L2 Tf
section
variable {K:PySem.W.Frag}
variable {R:Rl} [RelOk K R]
end
section
variable {X:Cx} {R:Rl} [RelOk X.K R] {a b c e tg:Expr} {pos p apos:Pos} {fa fb fc f:En->Option Sl} {st:Stmt} {gs:En->Option Out}
end
end Dm
namespace Tf
open PySem PySem.Spec PyProof.Rows L2
section
variable {prog:Program} {w:World} {A:Around} {E:Value->Shared->Prop} {s:Shared}
end
variable {X:Cx}
end Tf
namespace Dm
open PySem PySem.Spec PyProof.Rows L2 Tf
section
variable {K:PySem.W.Frag}
end
end Dm
namespace Dm
open PySem PySem.Spec PyProof.Rows L2 Tf
section
variable {K:PySem.W.Frag}
end
section
variable {X:Cx}
end
end Dm
namespace Tf
open PySem PySem.Spec PyProof.Rows L2
theorem ints_of_vals:∀ {us:List Value} {ns:List Int},Vals (ns.map V.int) us->IntsAre us ns
 | _,[],r=>by cases r;exact .nil
 | _,n::ns,r=>by
  cases r with
  | cons r1 r2=>
   obtain ⟨t,q⟩:=(show ∃t,_=Value.int n t from r1);subst q;exact .cons n t (ints_of_vals r2)
variable {X:Cx}
end Tf
namespace Dm
open PySem PySem.Spec PyProof.Rows L2 Tf
section
variable {K:PySem.W.Frag}
end
end Dm
namespace Dm
open PySem PySem.Spec PyProof.Rows L2 Tf
section
variable {K:PySem.W.Frag} {R:Rl} [RelOk K R]
end
section
variable {X:Cx} {R:Rl} [RelOk X.K R] {a b e o:Expr} {f fa fb:En->Option Sl} {p pos apos cpos:Pos} {st:Stmt}
end
end Dm
namespace Tf
open PySem PySem.Spec PyProof.Rows L2
def markT(ts:List Addr):Obj:={cls:= .type "tables",data:= .fields (ts.map Value.ref).toArray}
def cutK(K:PySem.W.Frag)(ts:List Addr):PySem.W.Frag:=K.filter (fun p=>decide (p.1 ∉ ts)) ++ [(mainGlobals,markT ts)]
def tbK(names:List Str)(K:PySem.W.Frag):List (Addr×Addr):=names.filterMap (PySem.W.tabIn K)
theorem tabsOf_cut(K:PySem.W.Frag)(ts:List Addr):tabsOf (cutK K ts)=ts:=by
 have e:(cutK K ts).getLast? = some (mainGlobals,markT ts):=by unfold cutK;simp
 unfold tabsOf;rw [e];show ((ts.map Value.ref).toArray.toList.filterMap _)=ts;rw [List.toList_toArray,List.filterMap_map];exact List.filterMap_some
theorem lookup_filt{ts:List Addr}{a:Addr}(h:a ∉ ts):∀K:PySem.W.Frag,List.lookup a (K.filter fun p=>decide (p.1 ∉ ts))=List.lookup a K
 | []=>rfl
 | (b,o)::K=>by
  have ih:=lookup_filt h K;rw [List.filter_cons]
  by_cases hb:b ∈ ts
  . have ne : (a == b) = false := by
     refine Bool.eq_false_iff.mpr fun z=> ?_;have:=beq_iff_eq.mp z;exact h (this ▸ hb)
    rw [if_neg (by simp [hb]),ih,List.lookup,ne]
  . rw [if_pos (by simp [hb]),List.lookup,List.lookup]
    cases a==b
    . exact ih
    . rfl
theorem lookup_in{ts:List Addr}{a:Addr}(h:a ∈ ts):∀K:PySem.W.Frag,List.lookup a (K.filter fun p=>decide (p.1 ∉ ts))=none
 | []=>rfl
 | (b,o)::K=>by
  have ih:=lookup_in h K;rw [List.filter_cons]
  by_cases hb:b ∈ ts
  . rw [if_neg (by simp [hb]),ih]
  . rw [if_pos (by simp [hb]),List.lookup]
    have ne:(a==b)=false:=by
     refine Bool.eq_false_iff.mpr fun z=> ?_;have:=beq_iff_eq.mp z;exact hb (this ▸ h)
    rw [ne];exact ih
theorem lookup_cut{K:PySem.W.Frag}{ts:List Addr}{a:Addr}{o:Obj}(h:a ∉ ts)(e:K.lookup a=some o):(cutK K ts).lookup a=some o:=by
 unfold cutK;rw [List.lookup_append,lookup_filt h,e];rfl
theorem of_cut{K:PySem.W.Frag}{ts:List Addr}{a:Addr}{o:Obj}(hm:∃o,K.lookup mainGlobals=some o)(hn:mainGlobals ∉ ts)(e:(cutK K ts).lookup a=some o):K.lookup a=some o/\a ∉ ts:=by
 unfold cutK at e
 rw [List.lookup_append] at e
 by_cases ha:a ∈ ts
 . rw [lookup_in ha] at e
   have ne:(a==mainGlobals)=false:=by
    refine Bool.eq_false_iff.mpr fun z=> ?_;have:=beq_iff_eq.mp z;exact hn (this ▸ ha)
   simp [List.lookup,ne] at e
 . refine ⟨?_,ha⟩;rw [lookup_filt ha] at e
   by_cases hg:a=mainGlobals
   . subst hg;obtain ⟨o',ho'⟩:=hm;rw [ho'] at e
     simpa [ho'] using e
   . have ne:(a==mainGlobals)=false:=Bool.eq_false_iff.mpr fun z=>hg (beq_iff_eq.mp z)
     cases hk:K.lookup a with
     | none=>rw [hk] at e;simp [List.lookup,ne] at e
     | some o'=>rw [hk] at e;simpa using e
theorem not_tab{K:PySem.W.Frag}{h:Heap}{ts:List Addr}{a:Addr}{o:Obj}(KX:K.In h)(hT:∀p ∈ ts,h.get? p=some (PySem.W.tabObj #[]))(e:K.lookup a=some o)(hne:o≠PySem.W.tabObj #[]):a ∉ ts:=fun hm=>by
 have e1:=KX a o e;rw [hT a hm] at e1
 exact hne (Option.some.inj e1).symm
theorem Fun_cut{K:PySem.W.Frag}{h:Heap}{ts:List Addr}{x qual:Str}{st:Stmt}{f:Addr}{fd:FuncData}(KX:K.In h)(hT:∀p ∈ ts,h.get? p=some (PySem.W.tabObj #[]))(F:Fun K x qual st f fd):Fun (cutK K ts) x qual st f fd:=by
 obtain ⟨oc,od,kV,doc,pm,an,cdv,ct,osl,rfl,lk,hcd⟩:=F.ex;have l2:=lookup_cut (not_tab KX hT lk (fun z=>by cases z)) lk;refine ⟨⟨oc,od,kV,doc,pm,an,cdv,ct,osl,rfl,l2,?_⟩,?_⟩
 . unfold PySem.W.codeIn at hcd ⊢
   split at hcd
   . rename_i c
     split at hcd
     . rename_i oc' od' vs sl' hc
       have hne:(⟨oc',od', .fields vs,sl'⟩:Obj)≠PySem.W.tabObj #[]:=fun z=>by
        cases z
        simp at hcd
       rw [lookup_cut (not_tab KX hT hc hne) hc];exact hcd
     . cases hcd
   . cases hcd
 . unfold PySem.W.keepIn
   dsimp only
   rw [l2]
theorem law_callT {P : Program} {w : World} {K : PySem.W.Frag} {mg mb : Str -> Option Value} {k : Nat} {fa a : Addr} {fd : FuncData} {x : Str} {sp : Sp} {s₁ : Shared} {vs : List Value} {ns : List Int} {tb : List (Addr × Addr)}
 (KX:K.In s₁.heap) (hmain:∃o,K.lookup mainGlobals=some o) (hns:s₁.heap.Ns mainGlobals mg) (hb:s₁.heap.Ns builtinsNs mb) (hbb:∀x:Str,x ≠ "__name__" -> mb x=bootBuiltins x) (hlim:s₁.heap.NoLimit) (hg:s₁.gens = #[])
 (ha:s₁.heap.get? a=some {cls:= .type "list",data:= .seq vs.toArray}) (hi:IntsAre vs ns) (hl:ns.length<=sizeLine) (hr:Room k callerA)
 (hT:∀p ∈ tb,PySem.W.CodeHd s₁.heap p.1 p.2/\s₁.heap.get? p.2=some (PySem.W.tabObj #[])) (hbm:BM s₁.heap mg)
 (F:∀base:Heap,(cutK K (tb.map (·.2))).In base->base.Ns mainGlobals mg->(∀p ∈ tb,PySem.W.CodeHd base p.1 p.2)->BM base mg->FnOk P w (cutK K (tb.map (·.2))) mg base CX0 k fa fd [x] sp) (hbind:∀(s:Shared) (u:Value),BindsTo s fd ⟨[u],[]⟩ [(x,u)])
 (hsp:∀H:Hp,SqL (cutK K (tb.map (·.2))) H a (ns.map V.int)->sp [.ref a] H (fun v _=>v = .bl true) fun _ _ _=>False) :
 codeAny (model P w) callerA (.call (.ref fa) ⟨[.ref a],[]⟩) (fun r s'=>r = .ok (.ret (.bool true))/\OldK s₁.heap s'.heap/\s'.os=s₁.os/\AllBare s'.gens) s₁:=by
 have rv:=vals_ints hi;have lenV:=hi.length
 let ts:=tb.map (·.2)
 have hts:∀p ∈ ts,s₁.heap.get? p=some (PySem.W.tabObj #[]):=fun p hp=>by
  obtain ⟨q,hq,rfl⟩:=List.mem_map.mp hp;exact (hT q hq).2
 have nts:∀ {b:Addr} {o:Obj},s₁.heap.get? b=some o->o≠PySem.W.tabObj #[]->b ∉ ts:=fun {b o} e n hm=>by
  rw [hts b hm] at e
  exact n (Option.some.inj e).symm
 have hat:a ∉ ts:=nts ha fun z=>by cases z
 have hmt:mainGlobals ∉ ts:=by
  obtain ⟨o,es,ep,e,d,_⟩:=hns;exact nts e fun z=>by rw [z] at d;cases d
 let ao:Obj:={cls:= .type "list",data:= .seq vs.toArray}
 let H:Hp:=fun b=>if b ∈ ts then some (.tbl #[]) else if b=a/\K.lookup a=none then some (.frz ao (.lst (ns.map V.int))) else none
 have Ht:∀ {b:Addr},b ∈ ts->H b=some (.tbl #[]):=fun {b} hm=>if_pos hm
 have Hc:∀b,(b ∈ ts/\H b=some (.tbl #[]))\/(b=a/\K.lookup a=none/\H b=some (.frz ao (.lst (ns.map V.int))))\/(H b=none/\b ∉ ts/\(b=a->K.lookup a≠none)):=fun b=>by
  by_cases h1:b ∈ ts
  . exact .inl ⟨h1,Ht h1⟩
  . by_cases h2:b=a/\K.lookup a=none
    . exact .inr (.inl ⟨h2.1,h2.2,(if_neg h1).trans (if_pos h2)⟩)
    . exact .inr (.inr ⟨(if_neg h1).trans (if_neg h2),h1,fun z c=>h2 ⟨z,c⟩⟩)
 have hok:HOk P w H s₁.heap:=fun b u e=>by
  rcases Hc b with ⟨h1,h2⟩ | ⟨rfl,h1,h2⟩ | ⟨h1,_,_⟩
  . rw [h2] at e
    cases e
    exact ⟨#[],hts b h1,True.intro,fun pos v z=>by simp [codeAmong] at z⟩
  . rw [h2] at e
    cases e
    exact ⟨ha,by rw [List.length_map];exact hl,vs,_,rv,ha⟩
  . rw [h1] at e
    cases e
 have free:∀ {b:Addr} {o:Obj},s₁.heap.get? b=some o->o≠PySem.W.tabObj #[]->o≠ao->H b=none:=fun {b o} e n1 n2=>by
  rcases Hc b with ⟨h1,_⟩ | ⟨rfl,_,_⟩ | ⟨h1,_,_⟩
  . exact absurd h1 (nts e n1)
  . rw [ha] at e
    exact absurd (Option.some.inj e).symm n2
  . exact h1
 have base_of:∀ {b:Addr} {o:Obj},s₁.heap.get? b=some o->H b=none->(hidT s₁.heap H).get? b=some o:=fun e n=>hidT_get e n;have nsK:∀ {b:Addr} {m:Str->Option Value},s₁.heap.Ns b m->(hidT s₁.heap H).Ns b m:=fun {b m} ⟨o,es,ep,e,d,r⟩=>⟨o,es,ep,base_of e (free e (fun z=>by rw [z] at d;cases d) (fun z=>by rw [z] at d;cases d)),d,r⟩
 have hKb:(cutK K ts).In (hidT s₁.heap H):=fun b o e=>by
  obtain ⟨e1,e2⟩:=of_cut hmain hmt e;refine base_of (KX b o e1) ?_;rcases Hc b with ⟨h1,_⟩ | ⟨rfl,h1,_⟩ | ⟨h1,_,_⟩
  . exact absurd h1 e2
  . rw [h1] at e1;cases e1
  . exact h1
 have hM:Mod (cutK K ts) mg (hidT s₁.heap H):=⟨hKb,nsK hns,⟨mb,nsK hb,hbb⟩,let ⟨mc,h1,h2⟩:=hlim;⟨mc,nsK h1,h2⟩⟩
 have hCb:∀p ∈ tb,PySem.W.CodeHd (hidT s₁.heap H) p.1 p.2:=fun p hp=>by
  obtain ⟨o,vs',file,tf,flags,tg,inF,text,tt,e,c,r⟩:=(hT p hp).1;exact ⟨o,vs',file,tf,flags,tg,inF,text,tt,base_of e (free e (fun z=>by rw [z] at c;cases c) (fun z=>by rw [z] at c;exact absurd (Value.type.inj c) (by decide))),c,r⟩
 have hBb:BM (hidT s₁.heap H) mg:=by
  obtain ⟨b,ob,b1,b2,b3,b4,b5,b6⟩:=hbm;exact ⟨b,ob,b1,b2,base_of b3 (free b3 (fun z=>by rw [z] at b4;cases b4) (fun z=>by rw [z] at b4;exact absurd (Value.type.inj b4) (by decide))),b4,b5,b6⟩
 have e0:Env0 P w (cutK K ts) mg (hidT s₁.heap H) callerA [] s₁ H:=⟨rfl,hM,fun b o e=>of_hidT e,Nat.le_of_eq (hidT_size _ _),trivial,fun b hb=>absurd (show b ∈ ([]:List Addr) from hb) (by simp),hok, .of_eq hg,fun p hp=>by rw [tabsOf_cut] at hp;exact ⟨_,Ht hp⟩⟩
 have hS:SqL (cutK K ts) H a (ns.map V.int):=by
  cases hk:K.lookup a with
  | some o=>
   have e:=KX a o hk;rw [ha] at e
   cases e
   exact .inr ⟨_,vs.toArray,_,lookup_cut hat hk,rfl,rfl,rfl,by rw [List.size_toArray,lenV];exact hl,by simpa using rv⟩
  | none=>exact .inl (.inr ⟨ao,(if_neg hat).trans (if_pos ⟨rfl,hk⟩)⟩)
 refine codeAny_mono ((F _ hKb (nsK hns) hCb hBb).run callerA [] s₁ H ⟨[.ref a],[]⟩ [.ref a] [.ref a] _ _ hr e0 (hbind s₁ (.ref a)) (.cons rfl .nil) (hsp H hS)) fun r s' h=> ?_
 cases r with
 | error e=>exact False.elim h
 | ok fl=>
  cases fl with
  | next=>exact False.elim h
  | brk=>exact False.elim h
  | cont=>exact False.elim h
  | ret u=>
   obtain ⟨v,H',os,bare,un,hok',r',q⟩:=h;have q':v = .bl true:=q;subst q';obtain rfl:u=Value.bool true:=r'
   have grown:∀ {b:Addr},b ∈ ts->∃qs,s'.heap.get? b=some (PySem.W.tabObj qs):=fun {b} hm=>by
    obtain ⟨more,e⟩:=un.tbls b _ (Ht hm);obtain ⟨qs,e1,_⟩:=hok' b _ e;exact ⟨qs,e1⟩
   have keep:∀ {b:Addr} {o:Obj},b ∉ ts->s₁.heap.get? b=some o->s'.heap.get? b=some o:=fun {b o} hb' e=>by
    rcases Hc b with ⟨h1,_⟩ | ⟨rfl,_,h2⟩ | ⟨h1,_,_⟩
    . exact absurd h1 hb'
    . have z2:=un.frzs _ _ _ h2;obtain ⟨e2,_⟩:=hok' _ _ z2;rw [ha] at e
      cases e
      exact e2
    . exact un.keep b o e h1 (by intro z;exact absurd (show b ∈ ([]:List Addr) from z) (by simp)) (by simp)
   refine ⟨rfl,⟨fun b o e=> ?_,fun b o e=> ?_⟩,os,bare⟩
   . by_cases hm:b ∈ ts
     . obtain ⟨q,hq,rfl⟩:=List.mem_map.mp hm;obtain ⟨qs,e1⟩:=grown hm;rw [hts _ hm] at e
       cases e
       exact .inr (.inl ⟨((hT q hq).1.tab (hT q hq).2).isCodeTable,rfl, #[],qs,rfl,by rw [Array.empty_append];exact e1⟩)
     . exact .inl (keep hm e)
   . by_cases hm:b ∈ ts
     . obtain ⟨qs,e1⟩:=grown hm;exact ⟨_,e1⟩
     . exact ⟨o,keep hm e⟩
theorem walk_ofT {l : PySem.W.OpenLaw} {n k : Nat} {q : Program} {loose : List Str} {XP : (Str -> Option Value) -> Heap -> Prop} {YP : World -> Heap -> Prop} {d : DefRec} {K : Params -> PySem.W.Frag} {names : List Str} {sp : PySem.W.Frag -> Sp} {x : Str}
 (hn:l.most=some n) (hn2:n<=sizeLine) (hdf:d.params.defaults = []) (hr:Room k callerA)
 (hY:∀(w:World) (h:Heap),YP w h->(K w.params).In h)
 (hrec:∀y ∈ names,∃e,(recsOf q).find? (fun e=>e.name==y)=some e)
 (F:∀(w:World) (mg:Str->Option Value) (fa:Addr) (h:Heap),(K w.params).In h->h.Ns mainGlobals mg->mg d.name=some (.ref fa)->(∀p ∈ (tbK names (K w.params)).map (·.2),h.get? p=some (PySem.W.tabObj #[])) ->
  (∃o,(K w.params).lookup mainGlobals=some o)/\∃fd:FuncData,(∀(s:Shared) (u:Value),BindsTo s fd ⟨[u],[]⟩ [(x,u)]) /\
   ∀base:Heap,(cutK (K w.params) ((tbK names (K w.params)).map (·.2))).In base->base.Ns mainGlobals mg->(∀p ∈ tbK names (K w.params),PySem.W.CodeHd base p.1 p.2)->BM base mg->FnOk l.prog w (cutK (K w.params) ((tbK names (K w.params)).map (·.2))) mg base CX0 k fa fd [x] (sp (cutK (K w.params) ((tbK names (K w.params)).map (·.2)))))
 (hsp:∀(K:PySem.W.Frag) (H:Hp) (a:Addr) (ns:List Int),ns.length<=n->SqL K H a (ns.map V.int)->sp K [.ref a] H (fun v _=>v = .bl true) fun _ _ _=>False) :
 PySem.W.WalkO q loose XP YP l.row.toRowW d [] (fun f vs=>PySem.call f vs):=by
 refine Att.attach_call hn hdf fun w s₀ s₁ mg mb fa o pm cd doc a vs ns G Y ho hd hcd hmg hobj hints hlen hg=> ?_;have KX:=hY w _ Y
 have hT:∀p ∈ tbK names (K w.params),PySem.W.CodeHd s₁.heap p.1 p.2/\s₁.heap.get? p.2=some (PySem.W.tabObj #[]):=fun p hp=>by
  obtain ⟨y,hy,e⟩:=List.mem_filterMap.mp hp;obtain ⟨e',he'⟩:=hrec y hy;exact PySem.W.tab_of G.T KX he' e
 obtain ⟨hmain,fd,hb,hF⟩:=F w mg fa _ KX G.T.g hmg fun p hp=>by
  obtain ⟨r,hr',rfl⟩:=List.mem_map.mp hp;exact (hT r hr').2
 obtain ⟨bm,ob,b1,b2,b3,b4⟩:=G.T.bmain;exact law_callT KX hmain G.T.g G.T.b G.T.builtins G.T.nolimit hg hobj hints (Nat.le_trans hlen hn2) hr hT ⟨bm,ob,b1,b2,b3,b4⟩ hF hb fun H hS=>hsp _ H a ns hlen hS
theorem main_of{K:PySem.W.Frag}{x:Str}{v:Option Value}(h:PySem.W.nsIn K mainGlobals x=some v):∃o,K.lookup mainGlobals=some o:=by
 unfold PySem.W.nsIn at h
 cases e:K.lookup mainGlobals with
 | none=>rw [e] at h;simp at h
 | some o=>exact ⟨o,rfl⟩
end Tf
namespace Dm
open PySem PySem.Spec PyProof.Rows L2 Tf
section
variable {K:PySem.W.Frag} {P:Program} {w:World} {mg:Str->Option Value} {base:Heap}
end
end Dm
namespace Tf
open PySem PySem.Spec PyProof.Rows L2
variable {X:Cx}
theorem call_minL(hc:X.calm=true):CallR X (.builtin "min") (fun xs H Q=>∃a ns,xs = [V.ref a]/\SqL X.K H a (ns.map V.int)/\ns ≠ []/\∀M,M ∈ ns->(∀b ∈ ns,M<=b)->Q (.int M) H):=by
 intro pins s σ H xs us Q I r h;obtain ⟨a,ns,rfl,hq,hne,q⟩:=h;obtain ⟨u,rfl,ru⟩:=vals1 r
 cases ru
 obtain ⟨its,rv,p1,hz⟩:=I.list hq;have hi:=ints_of_vals rv;have hl:=p1.isList;obtain ⟨xs,e⟩:=hi.allInts.items
 have hns:ns=xs.toList.map (·.1):=by
  rw [<-hi.numsOf, <-nums_intItems, <-e]
 have hsz:0<xs.size:=by
  have h3:=List.length_pos_iff.mpr hne;rw [hns,List.length_map,Array.length_toList] at h3
  exact h3
 rw [e] at hl
 refine min_intList (I.ok.hd hc) hl hsz fun v h' tk hv hk=> ?_;obtain ⟨t,rfl⟩:=intItems_at hv;obtain ⟨h1,h2⟩:=argBest_lt (numAt xs) (xs.size - 1);refine ⟨.int _,H,I.kept hk,⟨t,rfl⟩,q _ ?_ fun b hb=> ?_⟩
 . rw [hns,numAt_eq];exact getD_mem (by rw [List.length_map,Array.length_toList];omega)
 . rw [hns] at hb
   obtain ⟨j,hj,rfl⟩:=mem_getD hb;rw [List.length_map,Array.length_toList] at hj
   rw [<-numAt_eq];exact h2 j (by omega)
end Tf
namespace Dm
open PySem PySem.Spec PyProof.Rows L2 Tf
def dMinL:List Sl->Option Sl
 | [s]=>match s.dat with
  | .list ds=>(intsOf ds).bind fun ns=>ns.min?.map fun m=> .val (.int m)
  | _=>none
 | _=>none
section
variable {K:PySem.W.Frag}
theorem cd_minL:CallD K (fun xs H Q=>∃a ns,xs = [V.ref a]/\SqL K H a (ns.map V.int)/\ns ≠ []/\∀M,M ∈ ns->(∀b ∈ ns,M<=b)->Q (.int M) H) dMinL:=fun H0 H vs ss z s p hz Q q=>by
 unfold dMinL at hz
 split at hz
 . obtain ⟨v,rfl,pa⟩:=paired1 p
   split at hz
   . rename_i ds hd;obtain ⟨ns,hn,hz⟩:=Option.bind_eq_some_iff.mp hz;obtain ⟨m,hm,rfl⟩:=Option.map_eq_some_iff.mp hz;obtain ⟨a,vs,rfl,h1,h2⟩:=pa.lst s hd;rw [intsOf_eq hn] at h2
     cases reps_ints h2
     refine ⟨a,ns,rfl,h1,fun c=>by subst c;simp at hm,fun M hM hb=> ?_⟩;have:ns.min? = some M:=List.min?_eq_some_iff.mpr ⟨hM,hb⟩;rw [hm] at this
     cases this
     exact q _ _ _ (Ext.refl s) (.int _)
   . cases hz
 . cases hz
end
end Dm
namespace Tf
open PySem PySem.Spec PyProof.Rows L2
variable {X:Cx}
theorem call_maxLi(hc:X.calm=true):CallR X (.builtin "max") (fun xs H Q=>∃a ns,xs = [V.ref a]/\SqL X.K H a (ns.map V.int)/\ns ≠ []/\∀M,M ∈ ns->(∀b ∈ ns,b<=M)->Q (.int M) H):=by
 intro pins s σ H xs us Q I r h;obtain ⟨a,ns,rfl,hq,hne,q⟩:=h;obtain ⟨u,rfl,ru⟩:=vals1 r
 cases ru
 obtain ⟨its,rv,p1,hz⟩:=I.list hq;have hi:=ints_of_vals rv;have hl:=p1.isList;obtain ⟨xs,e⟩:=hi.allInts.items
 have hns:ns=xs.toList.map (·.1):=by
  rw [<-hi.numsOf, <-nums_intItems, <-e]
 have hsz:0<xs.size:=by
  have h3:=List.length_pos_iff.mpr hne;rw [hns,List.length_map,Array.length_toList] at h3
  exact h3
 rw [e] at hl
 refine max_intList (I.ok.hd hc) hl hsz fun v h' tk hv hk=> ?_;obtain ⟨t,rfl⟩:=intItems_at hv;obtain ⟨h1,h2⟩:=argBest_gt (numAt xs) (xs.size - 1);refine ⟨.int _,H,I.kept hk,⟨t,rfl⟩,q _ ?_ fun b hb=> ?_⟩
 . rw [hns,numAt_eq];exact getD_mem (by rw [List.length_map,Array.length_toList];omega)
 . rw [hns] at hb
   obtain ⟨j,hj,rfl⟩:=mem_getD hb;rw [List.length_map,Array.length_toList] at hj
   rw [<-numAt_eq];exact h2 j (by omega)
end Tf
namespace Dm
open PySem PySem.Spec PyProof.Rows L2 Tf
def dMaxLi:List Sl->Option Sl
 | [s]=>match s.dat with
  | .list ds=>(intsOf ds).bind fun ns=>ns.max?.map fun m=> .val (.int m)
  | _=>none
 | _=>none
section
variable {K:PySem.W.Frag}
theorem cd_maxLi:CallD K (fun xs H Q=>∃a ns,xs = [V.ref a]/\SqL K H a (ns.map V.int)/\ns ≠ []/\∀M,M ∈ ns->(∀b ∈ ns,b<=M)->Q (.int M) H) dMaxLi:=fun H0 H vs ss z s p hz Q q=>by
 unfold dMaxLi at hz
 split at hz
 . obtain ⟨v,rfl,pa⟩:=paired1 p
   split at hz
   . rename_i ds hd;obtain ⟨ns,hn,hz⟩:=Option.bind_eq_some_iff.mp hz;obtain ⟨m,hm,rfl⟩:=Option.map_eq_some_iff.mp hz;obtain ⟨a,vs,rfl,h1,h2⟩:=pa.lst s hd;rw [intsOf_eq hn] at h2
     cases reps_ints h2
     refine ⟨a,ns,rfl,h1,fun c=>by subst c;simp at hm,fun M hM hb=> ?_⟩;have:ns.max? = some M:=List.max?_eq_some_iff.mpr ⟨hM,hb⟩;rw [hm] at this
     cases this
     exact q _ _ _ (Ext.refl s) (.int _)
   . cases hz
 . cases hz
end
end Dm
namespace Tf
open PySem PySem.Spec PyProof.Rows L2
section
variable {K:PySem.W.Frag} {prog:Program} {w:World} {A:Around} {E:Value->Shared->Prop} {s:Shared} {x D:Addr}
structure XCls (K:PySem.W.Frag) (D:Addr):Prop where
 ga:PySem.W.findIn K (.ref D) "__getattribute__" = some (some (.builtin "BaseException.__getattribute__"))
 gg:PySem.W.findIn K (.ref D) "__getattr__" = some none
 cl:PySem.W.findIn K (.ref D) "__class__" = some (some (.builtin "object.__class__"))
 gt:PySem.W.specialIn K (.builtin "object.__class__") "__get__" = some (some (.builtin "getset_descriptor.__get__"))
 tk:PySem.W.takesIn K (.builtin "object.__class__")=some true
 mo:PySem.W.mroIn K D (.type "object")=some true
 mb:PySem.W.mroIn K D (.type "BaseException")=some true
 ci:(PySem.W.clsIn K D).isSome=true
def AtC(h:Heap)(x D:Addr):Prop:=∃ox,h.get? x=some ox/\ox.cls = .ref D
theorem AtC.type{M:Model}{h:Heap}(I:AtC h x D):PySem.W.Looks M h (typeOf (.ref x)) (.ref D):=by
 obtain ⟨ox,h1,h2⟩:=I;exact h2 ▸ (PySem.W.Looks.ld h1).andThen .now
theorem XCls.find(c:XCls K D){M:Model}{h:Heap}(X:K.In h):PySem.W.Looks M h (Builtin.ObjectAttr.find (.ref x) (.ref D) "__class__") (.bind (.builtin "getset_descriptor.__get__") (.builtin "object.__class__")):=by
 have L1:=PySem.W.looks_findIn (M:=M) X c.cl;have L2:=PySem.W.looks_specialIn (M:=M) X c.gt;have L3:=PySem.W.looks_takesIn (M:=M) X c.tk;have L4:PySem.W.Looks M h (Builtin.ObjectAttr.getOf (some (Value.builtin "object.__class__"))) (some (Value.builtin "getset_descriptor.__get__")):=L2;exact L1.andThen (L4.andThen ((show PySem.W.Looks M h (Builtin.ObjectAttr.dataDescriptor? (some (Value.builtin "object.__class__")) (some (Value.builtin "getset_descriptor.__get__"))) (some (Value.builtin "getset_descriptor.__get__",Value.builtin "object.__class__")) from L3.andThen .now).andThen (PySem.W.Looks.tag .now)))
theorem xget (c : XCls K D) {R : Result -> Shared -> Prop} {tp : Value} (X : K.In s.heap) (I : AtC s.heap x D)
 (h:R (.ok (.ret (.ref D))) s):codeAny (model prog w) A (.call (.builtin "getset_descriptor.__get__") ⟨[.builtin "object.__class__", .ref x,tp],[]⟩) R s:=by
 obtain ⟨hh,g,dr,t,os⟩:=s;have L0:=I.type (M:=model prog w);have L1:=PySem.W.looks_mroIn (M:=model prog w) X c.mo
 open PySem.W in
 refine codeAny_call_builtin KF.slot_gs.plain KF.entry_gs (KF.slot_gs.check _ _ _ _ _ _ _ _ KF.type_class (KF.args_gs _ _ _) ?_);unfold Builtin.«getset_descriptor.__get__» Builtin.Getset_descriptor.descrGet
 open PySem.W in rw [dga_obj]
 refine wpAny_bind (wpAny_pure ?_);unfold Builtin.Getset_descriptor.descrGetter Builtin.Getset_descriptor.descrCheckInstance Builtin.Getset_descriptor.descrNameAndClass isInstance
 open PySem.W in simp only [KF.owner_class]
 repeat lk
 open PySem.W in
 refine ⟨Code.quiet_builtin _ (by decide +kernel),codeAny_builtin KF.entry_class ?_⟩;unfold Builtin.«object.__class__» shownTypeOf
 repeat lk
 exact h
theorem xent (c : XCls K D) {tk : Tok} {Q : Fin -> Shared -> Prop} (X : K.In s.heap) (I : AtC s.heap x D) (hq : Q (.done (.ret (.ref D))) s) :
 wpAny (model prog w) A (Builtin.«object.__getattribute__» ⟨[.ref x, .str "__class__" tk], []⟩) Q E s := by
 obtain ⟨hh,gg,d,t,os⟩:=s;have L0:=I.type (M:=model prog w);have L1:=c.find (x:=x) (M:=model prog w) X;refine wpAny_bind (wpAny_pure (wpAny_bind (wpAny_pure (wpAny_bind (L0.at (wpAny_bind (L1.at ?_)))))));show wpAny _ _ (Builtin.ObjectAttr.bindTo _ _ _ _) _ _ _;unfold Builtin.ObjectAttr.bindTo;refine wpAny_bind (wpAny_holding (wpAny_call (xget c X I ?_)));exact wpAny_pure hq
theorem xchk (c : XCls K D) {tk : Tok} {M : Model} {Q : Unit -> Shared -> Prop} (X : K.In s.heap) (I : AtC s.heap x D) (hq : Q () s) :
 wpAny M A (checkBuiltinCall "BaseException.__getattribute__" ⟨[.ref x, .str "__class__" tk],[]⟩) Q E s:=by
 obtain ⟨hh,gg,d,t,os⟩:=s;have hk:builtinKind "BaseException.__getattribute__" = some .slot:=by decide +kernel
 have hsplit:splitId "BaseException.__getattribute__" = some ("BaseException","__getattribute__"):=by decide +kernel
 have ha:=F.args_bexc_ga (.ref x) (.str "__class__" tk);have L0:=I.type (M:=M);have L1:=PySem.W.looks_mroIn (M:=M) X c.mb;simp only [checkBuiltinCall,hk,hsplit];refine wpAny_bind ?_
 . unfold isInstance;refine wpAny_bind (L0.at (L1.at ?_))
   repeat (any_goals (first | assumption | wp_step))
theorem xby (c : XCls K D) {tk : Tok} {Q : Value -> Shared -> Prop} (X : K.In s.heap) (I : AtC s.heap x D) (hq : Q (.ref D) s) :
 wpAny (model prog w) A (getAttrBy (.ref x) (.str "__class__" tk) false) Q E s:=by
 obtain ⟨hh,gg,d,t,os⟩:=s;have L0:=I.type (M:=model prog w);have L1:=PySem.W.looks_findIn (M:=model prog w) X c.ga;have L2:=PySem.W.looks_findIn (M:=model prog w) X c.gg;have f3:=F.excAttr_ValueError.ga.bind (.ref x);have hx2:(Value.builtin "BaseException.__getattribute__" ==Value.builtin "object.__getattribute__")=false:=by decide +kernel
 unfold getAttrBy;refine wpAny_holding (wpAny_bind (L0.at (wpAny_bind (L1.at ?_))));show wpAny _ _ (if (onTheHeap (Value.ref D) && Value.builtin "BaseException.__getattribute__" ==Value.builtin "object.__getattribute__")=true then _ else _) _ _ _;rw [if_neg (by rw [hx2,Bool.and_false];decide)];unfold getAttrByItsOwn hookBefore;have hx0:(false && onTheHeap (Value.builtin "BaseException.__getattribute__"))=false:=rfl;refine wpAny_bind (L2.at (wpAny_bind (wpAny_attempt (wpAny_holding ?_))));unfold callGetattribute boundAndCalled;rw [if_neg (by decide)];refine wpAny_bind (wpAny_of_eq f3 (wpAny_call ?_));refine codeAny_call_builtin F.excAttr_ValueError.ga.plain F.entry_bexc_ga (xchk c X I (xent c X I ?_))
 repeat (any_goals (first | assumption | wp_step))
theorem xattr (c : XCls K D) {Q : Option Value -> Shared -> Prop} (X : K.In s.heap) (I : AtC s.heap x D) (hq : Q (some (.ref D)) { s with toks := s.toks + 1 }) :
 wpAny (model prog w) A (getAttr? (.ref x) "__class__") Q E s:=by
 obtain ⟨hh,gg,d,t,os⟩:=s;unfold getAttr? getAttrBy?;refine wpAny_bind (wpAny_mkText (wpAny_bind (wpAny_attempt (xby (s:=⟨hh,gg,d,t+1,os⟩) c X I ?_))));exact wpAny_pure hq
theorem kitx_exc(c:XCls K D):PySem.W.KitX K (.ref x) (.ref D) (fun h=>AtC h x D) where
 ty:=fun _ _ _ I=>I.type
 it:=fun _ _ X _=>by
  obtain ⟨cdD,hcD⟩:=Option.isSome_iff_exists.mp c.ci;unfold PySem.W.clsIn at hcD
  split at hcD
  . rename_i c' d' cd' sl' ho;intro A' Q' E' s' k q;unfold isType loadHead;exact wpAny_bind (wpAny_loadPart (k _ _ (X _ _ ho)) (wpAny_pure q))
  . cases hcD
 ne:=fun h tp dd its n sl X htp=>by
  obtain ⟨cdD,hcD⟩:=Option.isSome_iff_exists.mp c.ci;refine Bool.eq_false_iff.mpr fun q=> ?_;have e:D=tp:=Value.ref.inj (beq_iff_eq.mp q);subst e;unfold PySem.W.clsIn at hcD
  split at hcD
  . rename_i c' d' cd' sl' ho;have z:=(X _ _ ho).symm.trans htp
    cases z
  . cases hcD
 ca:=fun X I k=>xattr c X I k
end
end Tf
namespace Tf
open PySem PySem.Spec PyProof.Rows L2
theorem obj_ex{P:Program}{w:World}{H:Hp}{h:Heap}{a:Addr}{o:HO}(x:ObjOk P w H h a o):∃u,h.get? a=some u:=by
 cases o with
 | lst xs=>obtain ⟨_,_,_,_,e⟩:=x;exact ⟨_,e⟩
 | tup xs=>obtain ⟨_,_,_,_,e,_⟩:=x;exact ⟨_,e⟩
 | dK kvs=>obtain ⟨_,_,_,_,o,_,_,e,_⟩:=x;exact ⟨_,e⟩
 | dT kvs=>obtain ⟨_,_,_,_,o,_,_,e,_⟩:=x;exact ⟨_,e⟩
 | set S n=>obtain ⟨o,_,_,_,e,_⟩:=x;exact ⟨_,e⟩
 | ins C dx fs=>obtain ⟨_,_,_,e,_⟩:=x;exact ⟨_,e⟩
 | own y=>exact x
 | xd fs=>obtain ⟨_,⟨_,_,_,e,_⟩,_⟩:=x;exact ⟨_,e⟩
 | rng lo hi=>obtain ⟨_,_,_,e⟩:=x;exact ⟨_,e⟩
 | frz ob u=>obtain ⟨e,_⟩:=x;exact ⟨_,e⟩
 | tbl ps=>obtain ⟨_,e,_⟩:=x;exact ⟨_,e⟩
 | met f y=>exact ⟨_,(show h.get? a=some _ from x)⟩
 | ext φ=>obtain ⟨_,e,_⟩:=x;exact e
def IsX(a C:Addr)(h:Heap):Prop:=∃o vs,h.get? a=some o/\o.cls = .ref C/\o.data = .fields vs
def xO(a C:Addr):HO:= .ext (IsX a C)
theorem xO_ok{P:Program}{w:World}{H:Hp}{h:Heap}{a C:Addr}(x:IsX a C h):ObjOk P w H h a (xO a C) :=
 ⟨x,let ⟨o,_,e,_⟩:=x;⟨o,e⟩,fun _ _ ⟨o,vs,e,r⟩ k=>⟨o,vs,k o e,r⟩⟩
def CXe(P:Program)(w:World)(C:Addr):CXT:=fun outer H s E e s'=>∃(a:Addr) (a0:Value) (B:Heap) (H':Hp),
 e = .ref a/\s'.os=s.os/\AllBare s'.gens/\Un (frs outer) [] H H' s.heap s'.heap/\HOk P w H' s'.heap/\s.heap.get? a=none/\H' a=none /\
 Heap.FlyingW B outer a (.ref C) a0 s'.heap /\
 (∀b o,s.heap.get? b=some o->b ∉ frs outer->∀o',s'.heap.get? b=some o'->B.get? b=some o') /\
 (∀b u,H' b=some u->∀o',s'.heap.get? b=some o'->B.get? b=some o')/\E e none H'
theorem frs_mem{l:List Env}{env:Env}{a:Addr}(hm:env ∈ l)(hf:env.frame=some a):a ∈ frs l:=List.mem_filterMap.mpr ⟨env,hm,hf⟩
section
variable {P:Program} {w:World} {K:PySem.W.Frag} {mg:Str->Option Value} {base:Heap} {N:List Str} {qual:Str} {scope:Scope} {f C:Addr} {cd:Value} {A:Around} {outer:List Env} {s s2:Shared} {H0 H:Hp} {E:XK} {pins:List (Addr×Obj)} {σ:L2.St}
theorem xe_leave {h' : Heap} {e : Addr} {args : List Value} (I : Inv (cxOf (CXe P w C) P w K mg base N qual scope f cd A outer s H0 E) pins σ H s2) (hm : Heap.MadeExcOf s2.heap h' e (.ref C) args) (hE : E (.ref e) none H) :
 (cxOf (CXe P w C) P w K mg base N qual scope f cd A outer s H0 E).xe (.ref e) {s2 with heap:=h' }:=by
 obtain ⟨t,he,htn,ht⟩:=hm.there
 let env:=envOfC qual scope s.heap.objs.size f cd
 let as:List Addr:=e::frs (env::outer)
 let B:=PySem.W.hideAll h' as
 have Ibase:Un (frs outer) [] H0 H s.heap s2.heap:=I.base;have hfr:(A.deeper env).frames=some (env::outer):=I.ok.frames;have hst:s2.heap.FunFrames base (env::outer):=I.stack;have hst':h'.FunFrames base (env::outer):=hst.of_keeps fun b o ho _=>⟨o,hm.keeps b o ho,rfl⟩;have hl:h'.FunFrames B (env::outer):=PySem.W.funFrames_hide hst' fun env' he' a ha=>List.mem_cons_of_mem _ (frs_mem he' ha);have hkb:B.StaysIn h':=fun b o q=>PySem.W.of_hideAll as q;have hen:B.get? e=none:=PySem.W.hideAll_none as (by simp [as]);have frx:∀b ∈ frs (env::outer),∃o,h'.get? b=some o/\∀vs,o.data ≠ .fields vs:=fun b hb=>(hst'.mem hb).2;have ene:∀b o,s2.heap.get? b=some o->b≠e:=fun b o q z=>by rw [z,hm.new] at q;cases q
 have frf:∀b ∈ frs (env::outer),H b=none:=fun b hb=>I.stkFree b hb;have old:∀b o,s.heap.get? b=some o->b≠s.heap.objs.size:=fun b o q=>Nat.ne_of_lt (Heap.lt_size q)
 have memL:∀b,b ∈ frs (env::outer)->b=s.heap.objs.size\/b ∈ frs outer:=fun b hb=>by
  have hb:b ∈ List.filterMap (·.frame) (env::outer):=hb;rw [List.filterMap_cons] at hb
  exact List.mem_cons.mp hb
 refine wpAny_leaving_firstW (base:=B) (outer:=outer) (L:=s.heap.objs.size) (a0:= .ref t) hfr hl rfl he hkb hen rfl rfl rfl fun h'' hL=> ?_;obtain ⟨l1,l2,l3,l4⟩:=hL
 have inB:∀b o,s2.heap.get? b=some o->b ∉ frs (env::outer)->B.get? b=some o:=fun b o q n=>
  PySem.W.hideAll_get as (hm.keeps b o q) fun hb=>by
   rcases List.mem_cons.mp hb with z | z
   . exact ene b o q z
   . exact n z
 have nfr:∀b o,s.heap.get? b=some o->b ∉ frs outer->b ∉ frs (env::outer):=fun b o q n hb=>(memL b hb).elim (old b o q) n
 have slotK:∀b o,b ∈ frs (env::outer)->s2.heap.get? b=some o->∃sl,h''.get? b=some {o with slots:=sl}:=fun b o hb q=>by
  obtain ⟨o1,e1,d1⟩:=frx b hb;rw [hm.keeps b o q] at e1
  cases e1
  exact l4 b o (hm.keeps b o q) d1
 have trB:∀b u,H b=some u->∀o',h''.get? b=some o'->B.get? b=some o':=fun b u q o' e'=>by
  obtain ⟨o,ho⟩:=obj_ex (I.hok b u q);have hb:B.get? b=some o:=inB b o ho fun z=>by rw [frf b z] at q;cases q
  rw [l1 b o hb] at e'
  cases e'
  exact hb
 refine ⟨e, .ref t,B,H,rfl,I.os,I.bare,⟨fun b o q n hb _=> ?_,fun b o q n hb _=> ?_,fun b o q n hx=>Ibase.free b o q n hx,fun b o q _=> ?_,Ibase.tups,Ibase.frzs,Ibase.tbls⟩,fun b u q=> ?_,?_,?_,⟨l1,hen,?_,l3⟩,fun b o q n o' e' => ?_,trB,hE⟩
 . exact l1 b o (inB b o (Ibase.keep b o q n hb (by simp)) (nfr b o q hb))
 . obtain ⟨sl,e1⟩:=Ibase.slot b o q n hb (by simp);obtain ⟨sl',e2⟩:=slotK b _ (by show b ∈ List.filterMap (·.frame) (env::outer);rw [List.filterMap_cons];exact List.mem_cons_of_mem _ hb) e1;exact ⟨sl',e2⟩
 . obtain ⟨o',e1⟩:=Ibase.there b o q (by simp)
   by_cases hb:b ∈ frs (env::outer)
   . obtain ⟨sl,e2⟩:=slotK b o' hb e1;exact ⟨_,e2⟩
   . exact ⟨o',l1 b o' (inB b o' e1 hb)⟩
 . refine (I.hok b u q).stay (fun c v hc qc=> ?_) (fun _ z=>z) (fun _ _ z=>z);refine l1 c v (inB c v qc fun z=> ?_);rcases hc with rfl | hc
   . rw [frf c z] at q;cases q
   . rw [frf c z] at hc;cases hc
 . cases q:s.heap.get? e with
   | none=>rfl
   | some o=>
    obtain ⟨o',e1⟩:=Ibase.there e o q (by simp);rw [hm.new] at e1
    cases e1
 . cases q:H e with
   | none=>rfl
   | some u=>
    obtain ⟨o,ho⟩:=obj_ex (I.hok e u q);rw [hm.new] at ho
    cases ho
 . obtain ⟨_,_,r⟩:=l2;exact r
 . obtain ⟨o1,e1⟩:=Ibase.there b o q (by simp);have hb:=inB b o1 e1 (nfr b o q n);rw [l1 b o1 hb] at e'
   cases e'
   exact hb
end
section
variable {X:Cx} {pins:List (Addr×Obj)} {σ:L2.St} {H:Hp} {s s':Shared} {C D:Addr} {E:XK} {e:Value} {cx n:Str} {jn:Nat} {np hpos:Pos} {b0:Stmt} {suite:List Stmt} {Q:Flow->Shared->Prop} {E':Value->Shared->Prop}
theorem x_caught (I : Inv X pins σ H s) (hX : X.stack = X.env :: X.outer /\ X.env.frame = some X.env.locals) (hx : CXe X.prog X.w C X.stack H s E e s') (hg : Gl X cx) (hm : X.mg cx = some (.ref D)) (hc : PySem.W.exmOne X.K (.ref C) (.ref D) = some true)
 (hN:X.N.Nodup) (hi:X.N[jn]? = some n) (hl:X.env.scope.names.lookup n=some .local)
 (k:∀(a:Addr) (H':Hp) (E'':Value->Shared->Prop) (s4:Shared),E (.ref a) none H'->H' a=none->Inv X pins (σ.set jn (some (.ref a))) (upd H' a (xO a C)) s4 ->
  wpAny (model X.prog X.w) (X.A.mark (some (.ref a))) (execs (b0::suite) X.env) (fun f s5=>wpAny (model X.prog X.w) X.A (do bindName X.env n .none;unbindBehindTheSuite X.env n hpos) (fun _ s6=>Q f s6) E' s5) E'' s4)
 (hd:(cx==("__debug__" : Str))=false:=by decide) :
 wpAny (model X.prog X.w) X.A (noteFrame e X.env) (fun _ s₂=>wpAny (model X.prog X.w) X.A (setFlight e none) (fun _ s₃=>wpAny (model X.prog X.w) X.A (handleBy e X.env [.ExceptHandler (some (.Name cx np)) (some n) (b0::suite) hpos]) Q E' s₃) E' s₂) E' s':=by
 obtain ⟨a,a0,B,H',rfl,os,bare,un,hok,hna,hHa,hfl,hold,htr,hE⟩:=hx;obtain ⟨h1,g1,d1,t1,o1⟩:=s';obtain rfl:o1=s.os:=os
 dsimp only at bare un hok hfl hold htr
 have hfr:X.A.frames=some (X.env::X.outer):=by rw [<-hX.1];exact I.ok.frames
 have hfl':Heap.FlyingW B (X.env::X.outer) a (.ref C) a0 h1:=by rw [<-hX.1];exact hfl
 have frx:∀b o,b ∈ frs X.stack->h1.get? b=some o->∀vs,o.data ≠ .fields vs:=fun b o hb q=>by
  obtain ⟨_,o',e',d'⟩:=hfl.2.2.1.mem hb;rw [q] at e'
  cases e'
  exact d'
 have bas:∀ {h:Heap},B.StaysIn h->∀b o,X.base.get? b=some o->h.get? b=some o:=fun {h} hB b o q=>by
  have nf:b ∉ frs X.stack:=fun hb=>by
   have:=(I.stack.mem hb).1;rw [q] at this
   cases this
  exact hB b o (hold b o (I.bk b o q) nf o (un.keep b o (I.bk b o q) (I.bs b o q).2 nf (by simp)))
 refine wpAny_looks_onW hfr hX.2 hfl' fun h4 hh4 sm4=> ?_;refine wpAny_landsW hh4 fun h5 hf5 sm5=> ?_;refine wpAny_handleBy_cons (codeAny_handlers_test ?_) (by intro q;cases q);have kb5:=bas hf5.1;refine Calls.Name_function_global I.ok.kind hg (Calls.loadGlobal_global (by rw [I.ok.glob];exact I.mod.glob.keeps kb5) hm ?_) hd;have K5:X.K.In h5:=I.mod.kin.keeps kb5
 have LT:PySem.W.Looks (model X.prog X.w) h5 (typeOf (.ref a)) (.ref C):=by
  obtain ⟨ob,e1,e2⟩:=hf5.there;exact AtC.type ⟨ob,e1,e2⟩
 refine PySem.W.exm_one K5 LT hc _ _ _ _ (fun _ _ q=>q) ?_;refine codeAny_handlers_suite_as ?_;refine lands_againW hf5 fun h6 hf6 sm6=> ?_;have sm:=(sm4.trans sm5).trans sm6;have slotK:∀b o,b ∈ frs X.stack->h1.get? b=some o->∃sl,h6.get? b=some {o with slots:=sl}:=fun b o hb q=>sm b o q (frx b o hb q);have ane:∀b o,s.heap.get? b=some o->b≠a:=fun b o q z=>by rw [z,hna] at q;cases q
 have tne:∀b u,H' b=some u->b≠a:=fun b u q z=>by rw [z,hHa] at q;cases q
 have un6:Un (frs X.stack) [] H (upd H' a (xO a C)) s.heap h6:=by
  refine ⟨fun b o q nn hb _=> ?_,fun b o q nn hb _=> ?_,fun b o q nn hx=> ?_,fun b o q _=> ?_,fun b xs q=> ?_,fun b o u q=> ?_,fun b ps q=> ?_⟩
  . exact hf6.1 b o (hold b o q hb o (un.keep b o q nn hb (by simp)))
  . obtain ⟨sl,e1⟩:=un.slot b o q nn hb (by simp);obtain ⟨sl',e2⟩:=slotK b _ hb e1;exact ⟨sl',e2⟩
  . rw [upd_ne (ane b o q)];exact un.free b o q nn hx
  . obtain ⟨o',e1⟩:=un.there b o q (by simp)
    by_cases hb:b ∈ frs X.stack
    . obtain ⟨sl,e2⟩:=slotK b o' hb e1;exact ⟨_,e2⟩
    . exact ⟨o',hf6.1 b o' (hold b o q hb o' e1)⟩
  . have z:=un.tups b xs q;rw [upd_ne (tne b _ z)];exact z
  . have z:=un.frzs b o u q;rw [upd_ne (tne b _ z)];exact z
  . obtain ⟨m,z⟩:=un.tbls b ps q;refine ⟨m,?_⟩;rw [upd_ne (tne b _ z)];exact z
 have hok6:HOk X.prog X.w (upd H' a (xO a C)) h6:=fun b u q=>by
  by_cases hb:b=a
  . subst hb;rw [upd_same] at q
    cases q
    obtain ⟨oe,vs,e1,e2,e3,_⟩:=hf6.first;exact xO_ok ⟨oe,vs,e1,e2,e3⟩
  . rw [upd_ne hb] at q
    refine (hok b u q).stay (fun c v hc' qc=> ?_) (fun c z=> ?_) (fun c xs z=> ?_) fun c o xs z=> ?_
    . rcases hc' with rfl | hc'
      . exact hf6.1 _ _ (htr _ _ q _ qc)
      . exact hf6.1 _ _ (htr _ _ hc' _ qc)
    . rw [upd_ne (tne c _ z)];exact z
    . rw [upd_ne (tne c _ z)];exact z
    . rw [upd_ne (tne c _ z)];exact z
 have I6:Inv X pins σ (upd H' a (xO a C)) {s with heap:=h6,gens:=g1,drawn:=d1,toks:=t1}:=I.call (ch:= []) un6 hok6 bare (fun b z=>absurd z (by simp));refine store_ok I6 hN hi (.inl hl) (show RelV (.ref a) (.ref a) from rfl) (fun s4 I4=> ?_) (.inr hl);exact k a H' _ s4 hE hHa I4
end
end Tf
namespace Tf
open PySem PySem.Spec PyProof.Rows L2
def Fl(B:Heap)(l:List Env)(e:Addr)(cls:Value)(h:Heap):Prop:=B.StaysIn h/\B.get? e=none/\h.FunFrames B l/\∃a0 fl,h.TracedAtW B e cls a0 fl
section
variable {M:Model} {A:Around} {E:Value->Shared->Prop} {s:Shared} {B:Heap} {env env':Env} {outer l:List Env} {L e:Addr} {cls:Value} {Q:Unit->Shared->Prop}
theorem note_congr{v:Value}(h:env'.frame=env.frame):noteFrame v env'=noteFrame v env:=by unfold noteFrame PySem.frameOf;rw [h]
theorem fl_note (hfr : A.frames = some (env :: outer)) (hf : env.frame = some L) (hf' : env'.frame = env.frame) (f : Fl B (env :: outer) e cls s.heap)
 (h:∀h',Fl B (env::outer) e cls h'->s.heap.UpToSlots h'->Q () {s with heap:=h' }):wpAny M A (noteFrame (.ref e) env') Q E s:=by
 rw [note_congr hf'];have f':=f;obtain ⟨hkb,hen,hl,a0,fl,ht⟩:=f
 by_cases hq:fl=rawInt L
 . subst hq;exact wpAny_noteFrame_againW hf ht (h s.heap f' (Heap.UpToSlots.refl _))
 . obtain ⟨oe,vs,T,oT,ts,he,⟨hcls,h0⟩,hd,h1,hnT,hTe,hT,hdT,h3⟩:=ht;subst hcls;unfold noteFrame;simp only [hf];refine wpAny_bind (wpAny_field he hd h1 ?_);rw [if_pos (show (Value.ref T != Value.none)=true from by simp)];refine wpAny_bind (wpAny_field hT hdT h3 ?_);rw [if_neg (fun z=>hq (beq_iff_eq.mp z))];refine wpAny_bind (wpAny_setField hT hdT (Array.getElem?_eq_some_iff.mp h3).1 ?_);have other:∀b,b≠T->(s.heap.update T (Obj.mapFields (·.setIfInBounds 3 Value.none))).get? b=s.heap.get? b:=fun b hb=>Heap.get?_update_other _ _ (Ne.symm hb)
   have noRecord:∀b o,s.heap.get? b=some o->(∀vs,o.data ≠ .fields vs)->b≠T:=fun b o hb hnf q=>by
    rw [q,hT] at hb;injection hb with hb;subst hb;exact hnf ts hdT
   refine wpAny_entryW hfr (hl.of_keeps fun b o hb hnf=>⟨o,(other b (noRecord b o hb hnf)).trans hb,rfl⟩) hf ((other e (Ne.symm hTe)).trans he)
    (fun b o hbo=>(other b fun q=>by rw [q,hnT] at hbo;cases hbo).trans (hkb b o hbo)) hen hd (Array.getElem?_eq_some_iff.mp h1).1 h0
    fun h' ⟨x1,x2,x3,x4⟩=>h h' ⟨x1,hen,x2,_,_,x3⟩ fun b o hb hnf=>x4 b o ((other b (noRecord b o hb hnf)).trans hb) hnf
theorem fl_set{fo:Option Addr}(f:Fl B l e cls s.heap)(h:∀h',Fl B l e cls h'->s.heap.UpToSlots h'->Q () {s with heap:=h' }):wpAny M A (setFlight (.ref e) fo) Q E s:=by
 obtain ⟨hkb,hen,hl,a0,fl,oe,vs,T,oT,ts,he,hcls,hd,h1,hnT,hTe,hT,hdT,h3⟩:=f;have hsz3:3<ts.size:=(Array.getElem?_eq_some_iff.mp h3).1
 have other:∀b,b≠T->(s.heap.update T (Obj.mapFields (·.setIfInBounds 3 (fo.elim Value.none fun f=>rawInt f)))).get? b=s.heap.get? b:=
  fun b hb=>Heap.get?_update_other _ _ (Ne.symm hb)
 have noRecord:∀b o,s.heap.get? b=some o->(∀vs,o.data ≠ .fields vs)->b≠T:=fun b o hb hnf q=>by
  rw [q,hT] at hb;injection hb with hb;subst hb;exact hnf ts hdT
 unfold setFlight;refine wpAny_bind (wpAny_field he hd h1 ?_);rw [if_pos (show (Value.ref T != Value.none)=true from by simp)];refine wpAny_setField hT hdT hsz3 (h _ ⟨fun b o hbo=>(other b fun q=>by rw [q,hnT] at hbo;cases hbo).trans (hkb b o hbo),hen,hl.of_keeps fun b o hb hnf=>⟨o,(other b (noRecord b o hb hnf)).trans hb,rfl⟩,a0,fo.elim Value.none (fun f=>rawInt f),?_⟩ fun b o hb hnf=>⟨o.slots,(other b (noRecord b o hb hnf)).trans hb⟩);exact ⟨oe,vs,T,_,_,(other e (Ne.symm hTe)).trans he,hcls,hd,h1,hnT,hTe,Heap.get?_update_self _ hT (Obj.isFreed_of_fields (Obj.data_mapFields hdT _)),Obj.data_mapFields hdT _,by simp [hsz3]⟩
theorem fl_leave (hfr : A.frames = some (env :: outer)) (hf : env.frame = some L) (f : Fl B (env :: outer) e cls s.heap)
 (h:∀h' a0,Heap.FlyingW B (env::outer) e cls a0 h'->s.heap.UpToSlots h'->Q () {s with heap:=h' }):wpAny M A (leaving env (.ref e)) Q E s:=by
 unfold leaving;refine wpAny_bind (fl_note hfr hf rfl f fun h1 f1 u1=> ?_);obtain ⟨k1,k2,k3,a0,fl,k4⟩:=f1;exact wpAny_setFlight_noneW k1 k3 k4 fun h' x1 x2 x3 x4=>h h' a0 ⟨x1,k2,x2,x3⟩ (u1.trans fun b o hb hn=>⟨o.slots,x4 b o hb hn⟩)
theorem fl_pass{α:Type}{what:String}{P:α->Shared->Prop}(f:Fl B l e cls s.heap)(h:∀h',Fl B l e cls h'->s.heap.UpToSlots h'->E (.ref e) {s with heap:=h' }):wpAny M A (PySem.passOn what (.ref e) env:Sem α) P E s:=by
 have f':=f;obtain ⟨hkb,hen,hl,a0,fl,oe,vs,T,oT,ts,he,hcls,hd,h1,hnT,hTe,hT,hdT,h3⟩:=f;unfold PySem.passOn;refine wpAny_bind (wpAny_field he hd h1 ?_);rw [if_neg (show ¬((Value.ref T==Value.none)=true) from by simp)];exact wpAny_bind (fl_set f' fun h' g u=>wpAny_throw (h h' g u))
end
structure FlyS (P:Program) (w:World) (l:List Env) (ex:List Addr) (H:Hp) (s:Shared) (C a:Addr) (H':Hp) (s':Shared):Prop where
 os:s'.os=s.os
 bare:AllBare s'.gens
 un:Un (frs l) ex H H' s.heap s'.heap
 hok:HOk P w H' s'.heap
 new:∀o,s.heap.get? a=some o->a ∈ ex
 free:H' a=none
 fl:∃B,Fl B l a (.ref C) s'.heap/\(∀b o,s.heap.get? b=some o->b ∉ frs l->b ∉ ex->∀o',s'.heap.get? b=some o'->B.get? b=some o')/\(∀b u,H' b=some u->∀o',s'.heap.get? b=some o'->B.get? b=some o')
section
variable {P:Program} {w:World} {l:List Env} {ex:List Addr} {H H':Hp} {s s':Shared} {C a:Addr}
theorem FlyS.step {h' : Heap} {B : Heap} (f : FlyS P w l ex H s C a H' s') (hB : Fl B l a (.ref C) s'.heap) (h1 : ∀ b o, s.heap.get? b = some o -> b ∉ frs l -> b ∉ ex -> ∀ o', s'.heap.get? b = some o' -> B.get? b = some o') (h2 : ∀ b u, H' b = some u -> ∀ o', s'.heap.get? b = some o' -> B.get? b = some o')
 (g:Fl B l a (.ref C) h') (u:s'.heap.UpToSlots h'):FlyS P w l ex H s C a H' {s' with heap:=h' }:=by
 have frx:∀b o,b ∈ frs l->s'.heap.get? b=some o->∀vs,o.data ≠ .fields vs:=fun b o hb q=>by
  obtain ⟨_,o',e',d'⟩:=hB.2.2.1.mem hb;rw [q] at e'
  cases e'
  exact d'
 refine ⟨f.os,f.bare,⟨fun b o q n hb hx=> ?_,fun b o q n hb hx=> ?_,f.un.free,fun b o q hx=> ?_,f.un.tups,f.un.frzs,f.un.tbls⟩,fun b v q=> ?_,f.new,f.free,B,g,fun b o q hb hx o' e' => ?_,fun b v q o' e' => ?_⟩
 . have z:=f.un.keep b o q n hb hx;exact g.1 b o (h1 b o q hb hx o z)
 . obtain ⟨sl,e1⟩:=f.un.slot b o q n hb hx;obtain ⟨sl',e2⟩:=u b _ e1 (frx b _ hb e1);exact ⟨sl',e2⟩
 . obtain ⟨o',e1⟩:=f.un.there b o q hx
   by_cases hb:b ∈ frs l
   . obtain ⟨sl',e2⟩:=u b _ e1 (frx b _ hb e1);exact ⟨_,e2⟩
   . exact ⟨o',g.1 b o' (h1 b o q hb hx o' e1)⟩
 . refine (f.hok b v q).stay (fun c x hc qc=> ?_) (fun _ z=>z) (fun _ _ z=>z);rcases hc with rfl | hc
   . exact g.1 _ _ (h2 _ _ q _ qc)
   . exact g.1 _ _ (h2 _ _ hc _ qc)
 . obtain ⟨o1,e1⟩:=f.un.there b o q hx;have z:=h1 b o q hb hx o1 e1;rw [g.1 b o1 z] at e'
   cases e'
   exact z
 . obtain ⟨o1,e1⟩:=obj_ex (f.hok b v q);have z:=h2 b v q o1 e1;rw [g.1 b o1 z] at e'
   cases e'
   exact z
theorem FlyS.note {M : Model} {A : Around} {E : Value -> Shared -> Prop} {Q : Unit -> Shared -> Prop} {env env' : Env} {outer : List Env} {L : Addr} (f : FlyS P w (env :: outer) ex H s C a H' s') (hfr : A.frames = some (env :: outer)) (hf : env.frame = some L) (hf' : env'.frame = env.frame)
 (h:∀h',FlyS P w (env::outer) ex H s C a H' {s' with heap:=h' }->s'.heap.UpToSlots h'->Q () {s' with heap:=h' }):wpAny M A (noteFrame (.ref a) env') Q E s':=by
 obtain ⟨B,b1,b2,b3⟩:=f.fl;exact fl_note hfr hf hf' b1 fun h' g u=>h h' (f.step b1 b2 b3 g u) u
theorem FlyS.pass {M : Model} {A : Around} {E : Value -> Shared -> Prop} {α : Type} {what : String} {env : Env} {Q : α -> Shared -> Prop} (f : FlyS P w l ex H s C a H' s')
 (h:∀h',FlyS P w l ex H s C a H' {s' with heap:=h' }->E (.ref a) {s' with heap:=h' }):wpAny M A (PySem.passOn what (.ref a) env:Sem α) Q E s':=by
 obtain ⟨B,b1,b2,b3⟩:=f.fl;exact fl_pass b1 fun h' g u=>h h' (f.step b1 b2 b3 g u)
theorem FlyS.lets{h':Heap}{c:Addr}(f:FlyS P w l ex H s C a H' s')(hs:Heap.SameBut c s'.heap h')(hc:s.heap.get? c=none)(hn:H' c=none)(hfr:c ∉ frs l)(hd:∃o,s'.heap.get? c=some o/\∀vs,o.data ≠ .fields vs):FlyS P w l ex H s C a H' {s' with heap:=h' }:=by
 obtain ⟨B,⟨k1,k2,k3,a0,fl,oe,vs,T,oT,ts,he,hcls,hd',h1,hnT,hTe,hT,hdT,h3⟩,b2,b3⟩:=f.fl;obtain ⟨oc,hoc,hdc⟩:=hd;have ne:∀b o,s.heap.get? b=some o->b≠c:=fun b o q z=>by rw [z,hc] at q;cases q
 have nt:∀b u,H' b=some u->b≠c:=fun b u q z=>by rw [z,hn] at q;cases q
 have nrec:∀b o vs,s'.heap.get? b=some o->o.data = .fields vs->b≠c:=fun b o vs q d z=>by
  rw [z,hoc] at q
  cases q
  exact hdc vs d
 let B':=B.hide c
 have ofB:∀b o,B'.get? b=some o->B.get? b=some o:=fun b o q=>Heap.of_hide q;have toB:∀b o,b≠c->B.get? b=some o->B'.get? b=some o:=fun b o z q=>(Heap.hide_ne B z).trans q
 have noB:∀ {b},B.get? b=none->B'.get? b=none:=fun {b} q=>by
  cases z:B'.get? b with
  | none=>rfl
  | some o=>rw [ofB b o z] at q;cases q
 have Bne:∀b o,B'.get? b=some o->b≠c:=fun b o q z=>by
  rw [z] at q
  have:B'.get? c=none:=Heap.hide_self B c;rw [this] at q
  cases q
 refine ⟨f.os,f.bare,⟨fun b o q n hb hx=>(hs.2 b (ne b o q)).trans (f.un.keep b o q n hb hx),fun b o q n hb hx=> ?_,f.un.free,fun b o q hx=> ?_,f.un.tups,f.un.frzs,f.un.tbls⟩,fun b v q=> ?_,f.new,f.free,B',⟨fun b o q=>(hs.2 b (Bne b o q)).trans (k1 b o (ofB b o q)),noB k2,?_,a0,fl,oe,vs,T,oT,ts,(hs.2 _ (nrec _ _ _ he hd')).trans he,hcls,hd',h1,noB hnT,hTe,(hs.2 _ (nrec _ _ _ hT hdT)).trans hT,hdT,h3⟩,fun b o q hb hx o' e' => ?_,fun b v q o' e' => ?_⟩
 . obtain ⟨sl,e⟩:=f.un.slot b o q n hb hx;exact ⟨sl,(hs.2 b (ne b o q)).trans e⟩
 . obtain ⟨o',e⟩:=f.un.there b o q hx;exact ⟨o',(hs.2 b (ne b o q)).trans e⟩
 . refine (f.hok b v q).stay (fun x y hx qc=>(hs.2 x ?_).trans qc) (fun _ z=>z) (fun _ _ z=>z);rcases hx with rfl | hx
   . exact nt _ _ q
   . exact nt _ _ hx
 . have go : ∀ l' : List Env, (∀ b ∈ frs l', b ≠ c) -> s'.heap.FunFrames B l' -> h'.FunFrames B' l' := by
    intro l'
    induction l' with
    | nil=>intro _ _;trivial
    | cons env r ih=>
     intro hm ⟨q1,⟨L,o,q2,q3,q4,q5⟩,q6⟩;have hL:L≠c:=hm L (by unfold frs;rw [List.filterMap_cons,q2];exact List.mem_cons_self);exact ⟨q1,⟨L,o,q2,noB q3,(hs.2 L hL).trans q4,q5⟩,ih (fun b hb=>hm b (by unfold frs;rw [List.filterMap_cons,q2];exact List.mem_cons_of_mem _ hb)) q6⟩
   exact go l (fun b hb z=>hfr (z ▸ hb)) k3
 . have z:=ne b o q;have e':h'.get? b=some o':=e';rw [hs.2 b z] at e'
   exact toB b o' z (b2 b o q hb hx o' e')
 . have z:=nt b v q;have e':h'.get? b=some o':=e';rw [hs.2 b z] at e'
   exact toB b o' z (b3 b v q o' e')
end
theorem fly_call {X : Cx} {pins : List (Addr × Obj)} {σ : L2.St} {H : Hp} {s s' : Shared} {C : Addr} {E : XK} {e : Value} (I : Inv X pins σ H s) (hx : CXe X.prog X.w C X.stack H s E e s') :
 ∃a H',e = .ref a/\E e none H'/\FlyS X.prog X.w X.stack X.ex X.H₀ X.s₀ C a H' s'/\(∃m,s'.heap.Ns X.env.locals m)/\H' X.env.locals=none:=by
 obtain ⟨a,a0,B,H',rfl,os,bare,un,hok,hna,hHa,hfl,hold,htr,hE⟩:=hx
 have sub:∀b ∈ X.fs,b ∈ frs X.stack:=fun b hb=>by
  rcases I.ok.stk with z | ⟨z,_⟩
  . rw [z];exact hb
  . rw [z];unfold frs;rw [List.filterMap_cons]
    split
    . exact hb
    . exact List.mem_cons_of_mem _ hb
 have ub:=I.base.mono (fs':=frs X.stack) (ex':=X.ex) sub fun _ z=>z;obtain ⟨m,⟨o,es,ep,ho,r⟩,_⟩:=id I.loc;obtain ⟨sl,hL⟩:=un.any ho I.free (by simp);refine ⟨a,H',rfl,hE,⟨os.trans I.os,bare,ub.trans (un.mono (fun _ z=>z) (fun b z=>absurd z (by simp))),hok,fun o q=> ?_,hHa,B,⟨hfl.1,hfl.2.1,hfl.2.2.1,a0,_,hfl.2.2.2⟩,fun b o q hb hx o' e' => ?_,htr⟩,⟨m,_,es,ep,hL,r⟩,un.free _ o ho I.free (by simp)⟩
 . refine Classical.byContradiction fun z=> ?_;obtain ⟨o',e'⟩:=I.base.there a o q z;rw [hna] at e'
   cases e'
 . obtain ⟨o1,e1⟩:=I.base.there b o q hx;exact hold b o1 e1 hb o' e'
section
variable {P:Program} {w:World} {K:PySem.W.Frag} {mg:Str->Option Value} {base:Heap} {N:List Str} {qual:Str} {scope:Scope} {f C:Addr} {cd:Value} {A:Around} {outer:List Env} {s s':Shared} {H0 H':Hp} {E:XK}
theorem fly_leave {a : Addr} (hfr : (A.deeper (envOfC qual scope s.heap.objs.size f cd)).frames = some (envOfC qual scope s.heap.objs.size f cd :: outer)) (F : FlyS P w (envOfC qual scope s.heap.objs.size f cd :: outer) [] H0 s C a H' s') (hE : E (.ref a) none H') :
 (cxOf (CXe P w C) P w K mg base N qual scope f cd A outer s H0 E).xe (.ref a) s':=by
 obtain ⟨B,b1,b2,b3⟩:=F.fl
 have memL:∀b,b ∈ frs (envOfC qual scope s.heap.objs.size f cd::outer)->b=s.heap.objs.size\/b ∈ frs outer:=fun b hb=>by
  have hb:b ∈ List.filterMap (·.frame) (envOfC qual scope s.heap.objs.size f cd::outer):=hb;rw [List.filterMap_cons] at hb
  exact List.mem_cons.mp hb
 have nfr:∀b o,s.heap.get? b=some o->b ∉ frs outer->b ∉ frs (envOfC qual scope s.heap.objs.size f cd::outer):=fun b o q n hb=>(memL b hb).elim (Nat.ne_of_lt (Heap.lt_size q)) n
 have up:∀b,b ∈ frs outer->b ∈ frs (envOfC qual scope s.heap.objs.size f cd::outer):=fun b hb=>by
  show b ∈ List.filterMap (fun x:Env=>x.frame) _;rw [List.filterMap_cons];exact List.mem_cons_of_mem _ hb
 refine fl_leave (A:=A.deeper (envOfC qual scope s.heap.objs.size f cd)) (L:=s.heap.objs.size) hfr rfl b1 fun h'' a0 g u=> ?_;have F':=F.step b1 b2 b3 ⟨g.1,g.2.1,g.2.2.1,a0,_,g.2.2.2⟩ u;have g3:=g.2.2.1;obtain ⟨_,_,g4⟩:=g3;refine ⟨a,a0,B,H',rfl,F'.os,F'.bare,⟨fun b o q n hb _=>F'.un.keep b o q n (nfr b o q hb) (by simp),fun b o q n hb _=>F'.un.slot b o q n (up b hb) (by simp),F'.un.free,F'.un.there,F'.un.tups,F'.un.frzs,F'.un.tbls⟩,F'.hok,?_,F'.free,⟨g.1,g.2.1,g4,g.2.2.2⟩,fun b o q hb o' e' => ?_,fun b v q o' e' => ?_,hE⟩
 . cases q:s.heap.get? a with
   | none=>rfl
   | some o=>exact absurd (F'.new o q) (by simp)
 . obtain ⟨o1,e1⟩:=F.un.there b o q (by simp);have z:=b2 b o q (nfr b o q hb) (by simp) o1 e1;have e':h''.get? b=some o':=e';rw [g.1 b o1 z] at e'
   cases e'
   exact z
 . obtain ⟨o1,e1⟩:=obj_ex (F.hok b v q);have z:=b3 b v q o1 e1;have e':h''.get? b=some o':=e';rw [g.1 b o1 z] at e'
   cases e'
   exact z
theorem pass1{W:Hp->Prop}(hW:∀a H,W H->E (.ref a) none H):Passes (CXe P w C) (cxOf (CXe P w C) P w K mg base N qual scope f cd A outer s H0 E) (fun _ _ H=>W H):=by
 intro pins σ H s1 e s2 I hx;obtain ⟨a,H',rfl,hE,F,_⟩:=fly_call I hx;exact fly_leave I.ok.frames F (hW a H' hE)
end
end Tf
namespace Tf
open PySem PySem.Spec PyProof.Rows L2
def bXe(X:Cx)(C:Addr)(W:Hp->Prop)(b:CB):Value->Shared->Prop:=fun e s'=>∃a H',e = .ref a/\W H'/\FlyS X.prog X.w X.stack b.ex b.H₀ b.s₀ C a H' s'/\(∃m,s'.heap.Ns b.C m)/\H' b.C=none
theorem passB{X:Cx}{osc sc:Scope}{N':List Str}{b:CB}{C:Addr}{W:Hp->Prop}(h:b.xe=bXe X C W b):Passes (CXe X.prog X.w C) (cxC X osc sc N' b) (fun _ _ H=>W H):=by
 intro pins σ H s e s' I hx;obtain ⟨a,H',rfl,hE,F,hn,hf⟩:=fly_call I hx;show b.xe _ _;rw [h];exact ⟨a,H',rfl,hE,F,hn,hf⟩
section
variable {X:Cx} {pins:List (Addr×Obj)} {σ:L2.St} {H H':Hp} {s s':Shared} {C a:Addr} {ex:List Addr}
theorem FlyS.back(I:Inv X pins σ H s)(hx:X.ex = [])(F:FlyS X.prog X.w X.stack ex H s C a H' s')(hex:∀b ∈ ex,∀o,X.s₀.heap.get? b≠some o):FlyS X.prog X.w X.stack [] X.H₀ X.s₀ C a H' s':=by
 have nx:∀b o,X.s₀.heap.get? b=some o->b ∉ ex:=fun b o q z=>hex b z o q;have n0:∀b,b ∉ X.ex:=fun b z=>by rw [hx] at z;cases z
 have sub:∀b ∈ X.fs,b ∈ frs X.stack:=fun b hb=>by
  rcases I.ok.stk with z | ⟨z,_⟩
  . rw [z];exact hb
  . rw [z];unfold frs;rw [List.filterMap_cons]
    split
    . exact hb
    . exact List.mem_cons_of_mem _ hb
 have ub:Un (frs X.stack) [] X.H₀ H X.s₀.heap s.heap:=I.base.mono sub fun b z=>absurd z (n0 b);obtain ⟨B,b1,b2,b3⟩:=F.fl;refine ⟨F.os.trans I.os,F.bare,⟨fun b o q n hb _=> ?_,fun b o q n hb _=> ?_,fun b o q n _=> ?_,fun b o q _=> ?_,fun b xs q=>F.un.tups b xs (ub.tups b xs q),fun b o u q=>F.un.frzs b o u (ub.frzs b o u q),fun b ps q=> ?_⟩,F.hok,fun o q=> ?_,F.free,B,b1,fun b o q hb _ o' e' => ?_,b3⟩
 . exact F.un.keep b o (ub.keep b o q n hb (by simp)) (ub.free b o q n (by simp)) hb (nx b o q)
 . obtain ⟨sl,e1⟩:=ub.slot b o q n hb (by simp);obtain ⟨sl',e2⟩:=F.un.slot b _ e1 (ub.free b o q n (by simp)) hb (nx b o q);exact ⟨sl',e2⟩
 . obtain ⟨o',e1⟩:=ub.there b o q (by simp);exact F.un.free b o' e1 (ub.free b o q n (by simp)) (nx b o q)
 . obtain ⟨o',e1⟩:=ub.there b o q (by simp);exact F.un.there b o' e1 (nx b o q)
 . obtain ⟨m1,e1⟩:=ub.tbls b ps q;obtain ⟨m2,e2⟩:=F.un.tbls b _ e1;exact ⟨m1++m2,by rw [e2,Array.append_assoc]⟩
 . obtain ⟨o',e1⟩:=ub.there a o q (by simp);exact absurd (F.new o' e1) (nx a o q)
 . obtain ⟨o1,e1⟩:=ub.there b o q (by simp);exact b2 b o1 e1 hb (nx b o q) o' e'
end
section
variable {X:Cx} {osc sc:Scope} {N':List Str} {ix:List (Option Nat)} {C:Addr} {W:Hp->Prop}
theorem blk_xe {pins : List (Addr × Obj)} {σ : L2.St} {H : Hp} {s : Shared} {fp : List Addr} {use : Option (Value -> Sem Unit)} {Q : Value -> Shared -> Prop} {acc : Value} (I2 : Inv X pins σ H s) (f2 : ∀ b ∈ fp, FpOk X pins H b) (hx : X.ex = []) (hX : X.stack = X.env :: X.outer /\ X.env.frame = some X.env.locals)
 (hlv:∀a H' s',FlyS X.prog X.w X.stack [] X.H₀ X.s₀ C a H' s'->W H'->X.xe (.ref a) s') (cl:List (Str×Addr)) (x:Value) (s':Shared)
 (h:bXe X C W ⟨s.heap.objs.size+1,s,H,fp ++ [s.heap.objs.size],fun _ _=>False⟩ x s') :
 notedBy (model X.prog X.w) X.A (cEnv osc sc cl (s.heap.objs.size+1) X.env) (fun x s'=>compPost (model X.prog X.w) X.A X.xe use Q acc (s.heap.objs.size+1) (.error x) s') x s':=by
 obtain ⟨a,H',rfl,hw,F,⟨m,hm⟩,hn⟩:=h;have F:FlyS X.prog X.w X.stack (fp ++ [s.heap.objs.size]) H s C a H' s':=F;have hm:s'.heap.Ns (s.heap.objs.size+1) m:=hm;have hn:H' (s.heap.objs.size+1)=none:=hn;have hfr:X.A.frames=some (X.env::X.outer):=by rw [<-hX.1];exact I2.ok.frames
 have F0:=F;rw [hX.1] at F0
 refine F0.note hfr hX.2 rfl fun h1 F1 u1=> ?_;rw [<-hX.1] at F1
 have hm1:h1.Ns (s.heap.objs.size+1) m:=u1.ns hm
 have key:∀h2,Heap.SameBut (s.heap.objs.size+1) h1 h2->∀cenv:Env,cenv.locals=s.heap.objs.size+1->wpAny (model X.prog X.w) X.A (PySem.passOn "comprehension.variables-let-go" (.ref a) cenv:Sem Value) (fun _ _=>False) X.xe {s' with heap:=h2}:=fun h2 hs cenv _=>by
  have F2:=F1.lets (h':=h2) hs (Heap.get?_none_of_le (Nat.le_succ _)) hn (fun hb=>by
   obtain ⟨_,o,ho,_⟩:=I2.stack.mem hb;have l : @LT.lt Nat _ (s.heap.objs.size+1) _:=Heap.lt_size ho;exact absurd l (by omega)) (by
   obtain ⟨o,es,ep,e1,e2,_⟩:=hm1;exact ⟨o,e1,fun vs z=>by rw [e2] at z;cases z⟩)
  refine F2.pass fun h3 F3=>hlv a H' _ (F3.back I2 hx fun b hb o q=> ?_) hw;rcases List.mem_append.mp hb with hb | hb
  . obtain ⟨_,_,_,f3,_⟩:=f2 b hb;rcases f3 with z | z
    . rw [hx] at z;cases z
    . exact absurd (Heap.lt_size q) (Nat.not_lt.mpr z)
  . have hb:b=s.heap.objs.size:=by simpa using hb
    have l1 : @LT.lt Nat _ b _:=Heap.lt_size q;have l2 : @LE.le Nat _ X.s₀.heap.objs.size s.heap.objs.size:=I2.sz;have l3 : @Eq Nat b s.heap.objs.size:=hb;omega
 cases use <;> exact ⟨m,hm1,key⟩
def tLCx(X:Cx)(C:Addr)(W:Hp->Prop)(ix:List (Option Nat))(wi:TI)(g:CB->TG)(tt:CB->TT)(te:CB->TE):TE:=fun σ H Q=>wi σ H fun J H1=>∀b:CB,b.xe=bXe X C W b->tLCg J (subS ix σ) (g b) (tt b) (te b) H1 Q
theorem pe_lcx {tg elt iter : Expr} {ifs : List Expr} {pos : Pos} {wi : TI} {g : CB -> TG} {tt : CB -> TT} {te : CB -> TE} (hx : X.ex = []) (hX : X.stack = X.env :: X.outer /\ X.env.frame = some X.env.locals)
 (hlv:∀pins σ H s,Inv X pins σ H s->∀a H' s',FlyS X.prog X.w X.stack [] X.H₀ X.s₀ C a H' s'->W H'->X.xe (.ref a) s') (hc:X.calm=true) (ho:X.env.scope=osc) {N:List Str} (hN:X.N=N) (hcs:csOk osc sc N N' ix=true) (hi:PI X tg iter wi)
 (hb:∀b:CB,b.xe=bXe X C W b->PG (cxC X osc sc N' b) tg (g b)/\PTs (cxC X osc sc N' b) ifs (tt b)/\PE (cxC X osc sc N' b) elt (te b)) (gk:∀b:CB,b.xe=bXe X C W b->GK (slotS ix) (g b))
 (hs:∀x,foldedSetIterable iter X.env x=pure x:=by intro _;rfl):PE X (.ListComp elt [⟨tg,iter,ifs,0⟩] sc pos) (tLCx X C W ix wi g tt te):=by
 subst hN;have cs:=CS.of hcs;intro pins s σ H Q I h;rw [eval_ListComp];have hcl:=closureFor_eq (closes I cs ho);refine wpAny_comprehension_free (use:=none) rfl hs hcl cs.kind cs.names (thn (hi pins s σ H _ I h) fun v s1 h1=>thn h1 fun itv s2 h2=> ?_);obtain ⟨it,fp,tn,J,H2,e,I2,T,st2,f2,rd⟩:=h2;subst e;refine wpAny_newObj_type ?_;refine wpAny_newEnv_comp ?_
 let b:CB:=⟨s2.heap.objs.size+1,s2,H2,fp ++ [s2.heap.objs.size],bXe X C W ⟨s2.heap.objs.size+1,s2,H2,fp ++ [s2.heap.objs.size],fun _ _=>False⟩⟩
 have eb:b.xe=bXe X C W b:=rfl;have hb':=hb b eb
 have rb:=run_block (scope:=sc) (pos:=pos) (iter:=iter) (R:=compPost (model X.prog X.w) X.A X.xe none (EP X pins σ Q) (.ref s2.heap.objs.size) (s2.heap.objs.size+1)) I2 cs ho hc T st2 f2 hb'.1 (gk _ eb) hb'.2.1 hb'.2.2 (rd _ eb) (blk_xe I2 f2 hx hX (hlv _ _ _ _ I2) _) (fun ys H' s' B q=>by
  obtain ⟨m,hm⟩:=B.ns;refine ⟨m,hm,fun h' hsb=> ?_⟩;refine ⟨.ref s2.heap.objs.size,upd H' s2.heap.objs.size (.lst ys),?_,rfl,q⟩;exact B.inv.turned (it:=s2.heap.objs.size+1) (fun b o hb e=>hsb.extBut b o hb e) B.cfree B.cl (.inr B.cn) B.cc B.cp)
 have sz:(s2.heap.push accObj).objs.size=s2.heap.objs.size+1:=Heap.size_push ..;show codeAny _ _ (.compStart _ 0 (.ref it) (.ref s2.heap.objs.size) {newEnv sc (s2.heap.push accObj).objs.size X.env.globals (cellsFrom ((s2.heap.push accObj).objs.size+1) sc.names (closL X.env.cells sc.names [])) X.env.qual none .none (some X.env) builtinsNs with scope:=relabel sc X.env}) (compPost _ _ _ none _ (.ref s2.heap.objs.size) (s2.heap.push accObj).objs.size) _;rw [sz,relabel_eq,ho];exact rb
theorem ps_setCx {tg elt iter : Expr} {ifs : List Expr} {pos py spos : Pos} {wi : TI} {g : CB -> TG} {tt : CB -> TT} {te : CB -> TE} {i : Nat} {y : Str} (hx : X.ex = []) (hX : X.stack = X.env :: X.outer /\ X.env.frame = some X.env.locals)
 (hlv:∀pins σ H s,Inv X pins σ H s->∀a H' s',FlyS X.prog X.w X.stack [] X.H₀ X.s₀ C a H' s'->W H'->X.xe (.ref a) s') (hnd:X.N.Nodup) (hi':X.N[i]? = some y) (hy:X.env.scope.names.lookup y=some .local)
 (hsw:swapsWith (.ListComp elt [⟨tg,iter,ifs,0⟩] sc pos) (some (.Name y py)) spos.line X.env=pure true)
 (hc:X.calm=true) (ho:X.env.scope=osc) {N:List Str} (hN:X.N=N) (hcs:csOk osc sc N N' ix=true) (hi:PI X tg iter wi)
 (hb:∀b:CB,b.xe=bXe X C W b->PG (cxC X osc sc N' b) tg (g b)/\PTs (cxC X osc sc N' b) ifs (tt b)/\PE (cxC X osc sc N' b) elt (te b)) (gk:∀b:CB,b.xe=bXe X C W b->GK (slotS ix) (g b))
 (hs:∀x,foldedSetIterable iter X.env x=pure x:=by intro _;rfl):PS X (.Assign [.Name y py] (.ListComp elt [⟨tg,iter,ifs,0⟩] sc pos) spos) (tSetC i (tLCx X C W ix wi g tt te)):=by
 have hN':=hN;subst hN;have cs:=CS.of hcs;intro pins s σ H D I h;rw [exec_Assign_Name_used _ _ _ _ hsw];have hcl:=closureFor_eq (closes I cs ho);refine wpAny_bind (wpAny_standAt (wpAny_bind ?_));show wpAny _ X.A (do let _ <-comprehension (.ListComp elt [⟨tg,iter,ifs,0⟩] sc pos) sc X.env _ (newList []) false (eval iter X.env) (some (assign (.Name y py) X.env))) _ _ s
 refine wpAny_bind (wpAny_mono (wpAny_comprehension_free (use:=some (assign (.Name y py) X.env)) (Q:=fun _ s'=>SP X pins D .next s') rfl hs hcl cs.kind cs.names
  (thn (hi pins s σ H _ I h) fun v s1 h1=>thn h1 fun itv s2 h2=> ?_)) (fun _ s' hq=>wpAny_pure (wpAny_pure hq)) fun _ _ e=>e)
 obtain ⟨it,fp,tn,J,H2,e,I2,T,st2,f2,rd⟩:=h2;subst e;refine wpAny_newObj_type ?_;refine wpAny_newEnv_comp ?_
 let b:CB:=⟨s2.heap.objs.size+1,s2,H2,fp ++ [s2.heap.objs.size],bXe X C W ⟨s2.heap.objs.size+1,s2,H2,fp ++ [s2.heap.objs.size],fun _ _=>False⟩⟩
 have eb:b.xe=bXe X C W b:=rfl;have hb':=hb b eb
 have rb:=run_block (scope:=sc) (pos:=pos) (iter:=iter) (R:=compPost (model X.prog X.w) X.A X.xe (some (assign (.Name y py) X.env)) (fun _ s'=>SP X pins D .next s') (.ref s2.heap.objs.size) (s2.heap.objs.size+1)) I2 cs ho hc T st2 f2 hb'.1 (gk _ eb) hb'.2.1 hb'.2.2 (rd _ eb) (blk_xe I2 f2 hx hX (hlv _ _ _ _ I2) _) (fun ys H' s' B q=>by
  show wpAny _ X.A (assign (.Name y py) X.env (.ref s2.heap.objs.size)) _ _ s';refine wpAny_assign_Name (store_ok2 (v:= .ref s2.heap.objs.size) B.inv hnd hi' (.inl hy) rfl (fun s'' I'' ⟨a,sb,ha⟩ => ?_) (.inr hy))
  have hne:s2.heap.objs.size+1≠a:=by
   rcases ha with ha | ha
   . rw [ha];exact B.cl
   . exact (B.cc y a ha).symm
  obtain ⟨m,hm⟩:=B.ns;refine ⟨m,hm.sameBut sb hne,fun h' hsb=> ?_⟩;exact ⟨_,_,I''.turned (it:=s2.heap.objs.size+1) (fun b o hb e=>hsb.extBut b o hb e) B.cfree B.cl (.inr B.cn) B.cc B.cp,q⟩)
 have sz:(s2.heap.push accObj).objs.size=s2.heap.objs.size+1:=Heap.size_push ..;show codeAny _ _ (.compStart _ 0 (.ref it) (.ref s2.heap.objs.size) {newEnv sc (s2.heap.push accObj).objs.size X.env.globals (cellsFrom ((s2.heap.push accObj).objs.size+1) sc.names (closL X.env.cells sc.names [])) X.env.qual none .none (some X.env) builtinsNs with scope:=relabel sc X.env}) (compPost _ _ _ _ _ (.ref s2.heap.objs.size) (s2.heap.push accObj).objs.size) _;rw [sz,relabel_eq,ho];exact rb
end
end Tf
namespace Tf
open PySem PySem.Spec PyProof.Rows L2
section
variable {X:Cx} {pins:List (Addr×Obj)} {σ:L2.St} {H:Hp} {s s':Shared}
theorem goes_ok {M : Model} {A : Around} {E : Value -> Shared -> Prop} {j : Nat} {n : Str} {pos : Pos} {Q : Unit -> Shared -> Prop} (I : Inv X pins σ H s) (hN : X.N.Nodup) (hi : X.N[j]? = some n) (hk : X.env.scope.names.lookup n = some .local)
 (h:∀s',Inv X pins (σ.set j none) H s'->Q () s'):wpAny M A (do bindName X.env n .none;unbindBehindTheSuite X.env n pos) Q E s:=by
 obtain ⟨m,hn,hl⟩:=id I.loc;have hcls:(X.env.scope.kind == .class || (X.env.scope.kind == .module && X.env.locals != X.env.globals))=false:=by rw [I.ok.kind];rfl
 have cne:=I.cne
 have tracked:∀ {a:Addr} {h':Heap},(∃o,s.heap.get? a=some o/\H a=none)->Heap.SameBut a s.heap h'->HOk X.prog X.w H h':=fun {a h'} ha hs b ob e=>by
  obtain ⟨_,_,hfree⟩:=ha;refine (I.hok b ob e).stay (fun c w' hc q=>(hs.2 c ?_).trans q) (fun _ q=>q) fun _ _ q=>q;rintro rfl;rcases hc with rfl | hc
  . rw [hfree] at e;cases e
  . rw [hfree] at hc;cases hc
 refine wpAny_nameGoes_keeps hk hn hcls fun h' v hn' hs=> ?_;obtain ⟨oL,_,_,hoL,_⟩:=id hn;refine h _ ⟨I.ok,I.os,I.bare,⟨fun b o e n hb hx=> ?_,fun b o e n hb hx=> ?_,I.base.free,fun b o e hx=> ?_,I.base.tups,I.base.frzs,I.base.tbls⟩,⟨_,hn',fun i y v' e1 e2 e3=> ?_⟩,fun y c e=> ?_,I.free,I.freeC,fun p hp=> ?_,tracked ⟨oL,hoL,I.free⟩ hs,by simpa using I.len⟩
 . exact (hs.2 b (Nat.ne_of_lt (Nat.lt_of_lt_of_le (Heap.lt_size e) I.ok.above))).trans (I.base.keep b o e n hb hx)
 . obtain ⟨sl,e1⟩:=I.base.slot b o e n hb hx;exact ⟨sl,(hs.2 b (Nat.ne_of_lt (Nat.lt_of_lt_of_le (Heap.lt_size e) I.ok.above))).trans e1⟩
 . obtain ⟨o',e1⟩:=I.base.there b o e hx;exact ⟨o',(hs.2 b (Nat.ne_of_lt (Nat.lt_of_lt_of_le (Heap.lt_size e) I.ok.above))).trans e1⟩
 . by_cases hj:i=j
   . subst hj;rw [List.getElem?_set_self'] at e2
     cases q:σ[i]? with
     | none=>rw [q] at e2;cases e2
     | some z=>rw [q] at e2;cases e2
   . rw [List.getElem?_set_ne (Ne.symm hj)] at e2
     obtain ⟨u',r',q⟩:=hl i y v' e1 e2 e3;refine ⟨u',r',?_⟩;rcases q with ⟨k,e⟩ | ⟨k,c,e,z⟩
     . refine .inl ⟨k,?_⟩;have:y≠n:=fun e=>hj (nodup_ix hN e1 (e ▸ hi));simp [this,e]
     . exact .inr ⟨k,c,e,z.sameBut hs (cne y c e)⟩
 . obtain ⟨w',z⟩:=I.cell y c e;exact ⟨w',z.sameBut hs (cne y c e)⟩
 . obtain ⟨e,n,ne,nf,d⟩:=I.pin p hp;exact ⟨(hs.2 p.1 ne).trans e,n,ne,nf,d⟩
abbrev mkX (X:Cx) (v:Value) (E:Value->Shared->Prop):Cx:={ X with A:=X.A.mark (some v),calm:=false,xe:=E}
theorem inv_mk{v:Value}{E:Value->Shared->Prop}(I:Inv X pins σ H s):Inv (mkX X v E) pins σ H s:=
 ⟨⟨I.ok.mod,I.ok.kind,I.ok.glob,I.ok.blt,I.ok.above,I.ok.inj,I.ok.has,I.ok.cab,(fun z=>nomatch z),I.ok.frames,I.ok.stk,I.ok.exf,I.ok.bs,I.ok.bsz,I.ok.noex,I.ok.exfs,I.ok.funs,I.ok.frf,I.ok.tb⟩,I.os,I.bare,I.base,I.loc,I.cell,I.free,I.freeC,I.pin,I.hok,I.len⟩
theorem inv_unmk{v:Value}{E:Value->Shared->Prop}(ok:X.Ok)(I:Inv (mkX X v E) pins σ H s):Inv X pins σ H s:=
 ⟨ok,I.os,I.bare,I.base,I.loc,I.cell,I.free,I.freeC,I.pin,I.hok,I.len⟩
variable {k:Nat} {f C D:Addr} {fd:FuncData} {ps:List Str} {sp:Sp} {fn cx n xf xg:Str} {jf jg jn:Nat} {p cpos pf apos np hpos pg pn gpos pos:Pos} {e:Expr} {es:List Expr} {t:TA}
def tTry(sp:Sp)(t:TA)(C:Addr)(jf jg jn:Nat):TS:=fun D σ H=>t σ H fun vs H1=>sp (vs ++ []) H1 (fun v H2=>D.nx (σ.set jf (some v)) H2)
 (fun u _ H2=>∀a,u = .ref a->H2 a=none->D.nx (((σ.set jn (some (.ref a))).set jg (some (.ref a))).set jn none) (upd H2 a (xO a C)))
theorem ps_try (F : FnOk X.prog X.w X.K X.mg X.base (CXe X.prog X.w C) k f fd ps sp) (hr : Room k X.A) (hgf : Gl X fn) (hmf : X.mg fn = some (.ref f)) (hk : PySem.W.keepIn X.K (.ref f) = true) (hb : Binds X.K fd ps []) (ha : PA X (e :: es) t)
 (hno:∀e s,X.xe e s->False) (hX:X.stack=X.env::X.outer/\X.env.frame=some X.env.locals) (hg:Gl X cx) (hm:X.mg cx=some (.ref D)) (hc:PySem.W.exmOne X.K (.ref C) (.ref D)=some true)
 (hN:X.N.Nodup) (hif:X.N[jf]? = some xf) (hlf:X.env.scope.names.lookup xf=some .local) (hig:X.N[jg]? = some xg) (hlg:X.env.scope.names.lookup xg=some .local) (hin:X.N[jn]? = some n) (hln:X.env.scope.names.lookup n=some .local)
 (hdb:(fn==("__debug__" : Str))=false:=by decide) (hdc:(cx==("__debug__" : Str))=false:=by decide) (hdn:(n==("__debug__" : Str))=false:=by decide) (hcn:(n==("__classdict__" : Str))=false:=by decide)
 (he:starEach (e::es) X.env=(false,eval e X.env)::starEach es X.env:=by rfl) (hpl:(backTo cpos (starEach es X.env)).any (·.1)=false:=by rfl)
 (hs:swapsWith (.Call (.Name fn p) (e::es) [] cpos) (some (.Name xf pf)) apos.line X.env=pure false:=by rfl) (hs2:swapsWith (.Name n pn) (some (.Name xg pg)) gpos.line X.env=pure false:=by rfl) :
 PS X (.Try [.Assign [.Name xf pf] (.Call (.Name fn p) (e::es) [] cpos) apos] [.ExceptHandler (some (.Name cx np)) (some n) [.Assign [.Name xg pg] (.Name n pn) gpos] hpos] [] [] pos) (tTry sp t C jf jg jn):=by
 intro pins s σ H D' I h;refine wpAny_Try_except (wpAny_execs_cons (wpAny_Assign_Name (wpAny_Call_Name_kw (ld_glob I hgf hmf ?_ hdb)) hs));refine PySem.W.callWith_K (h₀:=X.base) I.ok.mod.kin hk (wpAny_mono (ha cpos pins s σ H _ I h) (fun us s1 ⟨vs,H1,I1,r,q⟩=>⟨I1.kIn,?_⟩) fun _ _ z=>(hno _ _ z).elim) he hpl;have r2:Vals (vs ++ []) (us ++ []):=r.append .nil;have hl:(us ++ []).length=ps.length:=by rw [<-r2.length];exact F.len _ _ _ _ q
 refine wpAny_call (codeAny_mono (F.run X.A X.stack s1 H1 ⟨us,[]⟩ (us ++ []) (vs ++ []) _ _ hr I1.env0 (hb s1 us I1.kIn hl) r2 q) fun rr s' hq=> ?_)
 cases rr with
 | error ex=>
  have hq':CXe X.prog X.w C X.stack H1 s1 (fun u _ H2=>∀a,u = .ref a->H2 a=none->D'.nx (((σ.set jn (some (.ref a))).set jg (some (.ref a))).set jn none) (upd H2 a (xO a C))) ex s':=hq;refine x_caught I1 hX hq' hg hm hc hN hin hln (fun a H' E'' s4 hE hHa I4=> ?_) hdc;have I4':Inv (mkX X (.ref a) E'') pins (σ.set jn (some (.ref a))) (upd H' a (xO a C)) s4:=inv_mk I4;have hjn:jn<σ.length:=by rw [I1.len];exact (List.getElem?_eq_some_iff.mp hin).1
  have hp:=pss_one (ps_set (X:=mkX X (.ref a) E'') (pos:=gpos) (pos':=pg) hN hig (.inl hlg) (pe_var (X:=mkX X (.ref a) E'') (pos:=pn) hin (.inl hln) hdn hcn) hs2 (.inr hlg));refine thn (hp pins s4 _ _ {nx:=fun σ' H''=>σ'=(σ.set jn (some (.ref a))).set jg (some (.ref a))/\H''=upd H' a (xO a C),rt:=fun _ _=>False} I4' ⟨.ref a,List.getElem?_set_self hjn,rfl,rfl⟩) fun fl s5 q5=> ?_
  cases fl with
  | next=>
   obtain ⟨σ',H'',J,rfl,rfl⟩:=q5;refine goes_ok (inv_unmk I4.ok J) hN hin hln fun s6 I6=> ?_
   exact ⟨_,_,I6,hE a rfl hHa⟩
  | ret v=>obtain ⟨_,_,_,_,_,q⟩:=q5;exact q.elim
  | brk=>obtain ⟨_,_,_,q⟩:=q5;exact q.elim
  | cont=>obtain ⟨_,_,_,q⟩:=q5;exact q.elim
 | ok fl=>
  cases fl with
  | ret u=>
   obtain ⟨v,H2,I2,rv,q2⟩:=I1.after hq;refine store_ok I2 hN hif (.inl hlf) rv (fun s3 I3=> ?_) (.inr hlf)
   exact wpAny_execs_nil (wpAny_execs_nil ⟨_,H2,I3,q2⟩)
  | next=>exact False.elim hq
  | brk=>exact False.elim hq
  | cont=>exact False.elim hq
end
end Tf
namespace Tf
open PySem PySem.Spec PyProof.Rows L2
section
variable {X:Cx} {k:Nat}
end
section
theorem exc_obj {K : PySem.W.Frag} {h : Heap} {C : Addr} {bmB : List Value} {newId : String} (X : K.In h) (q : PySem.W.excIn K C bmB newId = true) :
 ∃bm N nm q bs hdct sn sub ab col dd k0 k1 k2 k3 k5 mN,h.get? C=some (excClassObj nm q C N bs bm hdct sn sub ab col dd k0 k1 k2 k3 k5 newId)/\h.Ns N mN/\mN "__init__" = none/\OwnTail h bmB bm:=by
 unfold PySem.W.excIn at q
 split at q
 . rename_i dd cd sl ho
   split at q
   . rename_i C' bm k0 k1 k2 k3 n k5 hm hs;simp only [Bool.and_eq_true,beq_iff_eq,Bool.not_eq_true'] at q
     obtain ⟨⟨⟨⟨⟨rfl,rfl⟩,hdel⟩,ht⟩,hok⟩,hni⟩:=q;obtain ⟨nm,bs,mro,ns,qn,hd,sn,sub,ab,col,del⟩:=cd
     dsimp only at hm hdel hok hni
     subst hm hdel
     have hsl:sl = #[k0,k1,k2,k3,some (.builtin n),k5]:=by
      obtain ⟨l⟩:=sl;simp only at hs
      rw [hs]
     subst hsl;exact ⟨bm,ns,nm,qn,bs,hd,sn,sub,ab,col,dd,k0,k1,k2,k3,k5,_,X _ _ ho, .of_isNs (PySem.W.isNs_of_in X hok),PySem.W.nsMap_none_of_in X hok hni,PySem.W.tail_of_in X ht⟩
   . cases q
 . cases q
abbrev bmV:List Value:= [.type "ValueError", .type "Exception", .type "BaseException", .type "object"]
variable {P:Program} {w:World} {K:PySem.W.Frag} {mg:Str->Option Value} {base:Heap} {N:List Str} {qual:Str} {scope:Scope} {f C:Addr} {cd:Value} {A:Around} {outer:List Env} {s0:Shared} {H0:Hp} {E:XK}
def tRse(te:TE)(W:Hp->Prop):TS:=fun _ σ H=>te σ H fun _ H1=>W H1
theorem ps_raise {cx : Str} {np cpos pos : Pos} {a : Expr} {te : TE} {W : Hp -> Prop} (hW : ∀ H e, W H -> E (.ref e) none H) (hg : Gl (cxOf (CXe P w C) P w K mg base N qual scope f cd A outer s0 H0 E) cx) (hm : mg cx = some (.ref C)) (hx : PySem.W.excIn K C bmV "ValueError.__new__" = true)
 (ha:PE (cxOf (CXe P w C) P w K mg base N qual scope f cd A outer s0 H0 E) a te) (hd:(cx==("__debug__" : Str))=false:=by decide)
 (he:starEach [a] (envOfC qual scope s0.heap.objs.size f cd) = [(false,eval a (envOfC qual scope s0.heap.objs.size f cd))]:=by rfl) :
 PS (cxOf (CXe P w C) P w K mg base N qual scope f cd A outer s0 H0 E) (.Raise (some (.Call (.Name cx np) [a] [] cpos)) none pos) (tRse te W):=by
 intro pins s σ H D I h;have hpl:(backTo cpos (starEach [a] (envOfC qual scope s0.heap.objs.size f cd))).any (·.1)=false:=by rw [he];rfl
 obtain ⟨bm,Nn,nm,q,bs,hdct,sn,sub,ab,col,dd,k0,k1,k2,k3,k5,mN,hC,hN,hni,T⟩:=exc_obj (h:=base) I.ok.mod.kin hx;refine wpAny_Raise_call_subT (nm:=nm) (q:=q) (C:=C) (N:=Nn) (bs:=bs) (bm:=bm) (hdct:=hdct) (sn:=sn) (sub:=sub) (ab:=ab) (col:=col) (dd:=dd) (k0:=k0) (k1:=k1) (k2:=k2) (k3:=k3) (k5:=k5) F.excBase_ValueError (T.hasType (X:= "BaseException") (b:=true) (by decide +kernel)) (I.ok.hd rfl) hpl hni (ld_glob I hg hm ⟨rfl,?_⟩ hd);show wpAny _ _ (evalArgs _ _ (backTo cpos (starEach [a] (envOfC qual scope s0.heap.objs.size f cd))) _) _ _ _;rw [he];refine Calls.evalArgs_plain (Calls.spliced_cons (thn (ha pins s σ H _ I h) fun u s1 ⟨v,H1,I1,rv,q1⟩=>Calls.spliced_nil ⟨rfl,?_,I1.bk _ _ hC,hN.keeps I1.bk,T.keeps I1.bk,fun h' e hm=> ?_⟩))
 . show 1<=sizeLine;decide
 . exact xe_leave I1 hm (hW _ _ q1)
end
end Tf
namespace Dm
open PySem PySem.Spec PyProof.Rows L2 Tf
section
variable {K:PySem.W.Frag} {R:Rl} [RelOk K R]
def spX(K:PySem.W.Frag)(F:List PyData->Option (Option Sl)):Sp:=fun vs H Q E=>∃H0 ds r,Same H0 H/\Reps K H0 vs ds/\F ds=some r/\match r with
 | some z=>∀v H0' H',Ext H0 H H0' H'->SlH K H H0' H' v z->Q v H'
 | none=>∀u H0' H',Ext H0 H H0' H'->E u none H'
def RSx(K:PySem.W.Frag)(R:Rl)(W:Hp->Prop)(ts:TS)(g:En->Option (Option Out)):Prop:=
 ∀(HB S0:Hp) (σ:L2.St) (ρ:En) (H0 H:Hp),Ext S0 HB H0 H->ST R HB H0 H σ ρ->∀o,g ρ=some o->∀D:Ends,(match o with | some o=>EndR K R HB S0 D o | none=>∀H0' H',Ext S0 HB H0' H'->W H')->ts D σ H
def mLf(g:En->Option Out):En->Option (Option Out):=fun ρ=>(g ρ).map some
theorem rsx_of{W:Hp->Prop}{ts:TS}{g:En->Option Out}(h:RS K R ts g):RSx K R W ts (mLf g):=fun HB S0 σ ρ H0 H x e o ho D d=>by
 obtain ⟨o',h1,rfl⟩:=Option.map_eq_some_iff.mp ho;exact h HB S0 σ ρ H0 H x e o' h1 D d
def mSqx(f g:En->Option (Option Out)):En->Option (Option Out):=fun ρ=>(f ρ).bind fun o=>match o with
 | some (.nx ρ')=>g ρ'
 | o=>some o
theorem rsx_seq{W:Hp->Prop}{t u:TS}{f g:En->Option (Option Out)}(h:RSx K R W t f)(k:RSx K R W u g):RSx K R W (tSeq t u) (mSqx f g):=fun HB S0 σ ρ H0 H x e o ho D d=>by
 obtain ⟨o1,h1,ho⟩:=Option.bind_eq_some_iff.mp ho;refine h HB S0 σ ρ H0 H x e o1 h1 { D with nx:=u D} ?_
 cases o1 with
 | none=>cases ho;exact d
 | some o1=>
  cases o1 with
  | nx ρ'=>exact fun σ' H0' H' x' e'=>k HB S0 σ' ρ' H0' H' x' e' o ho D d
  | rt r _=>cases ho;exact d
  | bk r=>cases ho;exact d
  | ct r=>cases ho;exact d
def mIfx(c:En->Option Bool)(f g:En->Option (Option Out)):En->Option (Option Out):=fun ρ=>(c ρ).bind fun b=>if b then f ρ else g ρ
theorem rsx_if{W:Hp->Prop}{c:TT}{t u:TS}{fc:En->Option Bool}{f g:En->Option (Option Out)}(hc:RT K R c fc)(h:RSx K R W t f)(k:RSx K R W u g):RSx K R W (tIfS c t u) (mIfx fc f g):=fun HB S0 σ ρ H0 H x e o ho D d=>by
 obtain ⟨b,hb,ho⟩:=Option.bind_eq_some_iff.mp ho;refine hc HB σ ρ H0 H x.s1 e b hb _ fun H1 J1 x1=> ?_
 cases b with
 | true=>exact iteT (h HB S0 σ ρ H1 J1 (x.chain x1) (e.ext (K:=K) x1) o ho D d)
 | false=>exact iteF (k HB S0 σ ρ H1 J1 (x.chain x1) (e.ext (K:=K) x1) o ho D d)
def runX(n:Nat)(g:En->Option (Option Out))(k:Nat):List PyData->Option (Option Sl):=fun ds=>if ds.length=k then (g (ds.map (fun d=>some (.val d))++List.replicate (n - ds.length) none)).bind fun o=>match o with
 | some (.rt r _)=>some (some r)
 | some (.nx _)=>some (some (.val .none))
 | none=>some none
 | _=>none else none
section
variable {P:Program} {w:World} {mg:Str->Option Value} {base:Heap}
def DSx(X:Cx)(R:Rl)(W:Hp->Prop)(st:List Stmt)(g:En->Option (Option Out)):Prop:=∃t,PSs X st t/\RSx X.K R W t g
theorem fnX {x qual : Str} {st : Stmt} {f C : Addr} {fd : FuncData} {N ps : List Str} {k n m : Nat} {g : En -> Option (Option Out)} (F : Fun K x qual st f fd) (S : FnScope N ps (defScope st)) (hn : N.length = n) (hm : ps.length = m)
 (hb:∀(cdv:Value) (A:Around) (outer:List Env) (s:Shared) (H:Hp) (E:XK),Room k (A.deeper (envOfC qual (defScope st) s.heap.objs.size f cdv))->DSx (cxOf (CXe P w C) P w K mg base N qual (defScope st) f cdv A outer s H E) (PR K) (fun H'=>∀u,E u none H') (defBody st) g) :
 FnOk P w K mg base (CXe P w C) (k+1) f fd ps (spX K (runX n g m)):=by
 subst hn hm;obtain ⟨oc,od,kV,doc,pm,an,cdv,ct,osl,rfl,lk,hcd⟩:=F.ex;refine fn_of lk hcd S (fun vs H Q E h=> ?_) fun A outer s H vs Q E hr h=> ?_
 . obtain ⟨H0,ds,r,s,hr,hf,_⟩:=h;unfold runX at hf
   split at hf
   . rename_i hl;rw [hr.length,hl]
   . cases hf
 . obtain ⟨t,ht,rs⟩:=hb cdv A outer s H E hr;refine ⟨t,ht,?_⟩;obtain ⟨H0,ds,r,s0,hr,hf,q⟩:=h;unfold runX at hf
   split at hf
   . obtain ⟨o,ho,hf⟩:=Option.bind_eq_some_iff.mp hf;refine rs H H0 _ _ H0 H (Ext.refl s0) ⟨er_start hr⟩ o ho _ ?_
     cases o with
     | none=>cases hf;exact fun H1 J1 a u=>q u H1 J1 a
     | some o=>
      cases o with
      | rt r' _=>cases hf;exact fun v σ H1 J1 a _ b=>q v H1 J1 a b
      | nx _=>cases hf;exact fun σ H1 J1 a b=>q .non H1 J1 a .none
      | bk _=>cases hf
      | ct _=>cases hf
   . cases hf
end
end
section
variable {X:Cx} {R:Rl} [RelOk X.K R] {W:Hp->Prop} {st:Stmt} {sts A B:List Stmt} {g:En->Option Out} {f gx gx':En->Option (Option Out)} {c:Expr} {pos:Pos} {ft:En->Option Bool}
theorem dx_of(h:DSs X R sts g):DSx X R W sts (mLf g):=by obtain ⟨t,h1,h2⟩:=h;exact ⟨t,h1,rsx_of h2⟩
theorem dx_if(hc:DT X R c ft)(h:DSx X R W A gx)(j:DSx X R W B gx')(k:DSx X R W sts f):DSx X R W (.If c A B pos::sts) (mSqx (mIfx ft gx gx') f):=by
 obtain ⟨t,h1,h2⟩:=hc;obtain ⟨u,h3,h4⟩:=h;obtain ⟨v,h5,h6⟩:=j;obtain ⟨w,h7,h8⟩:=k;exact ⟨_,pss_cons (ps_if h1 h3 h5) h7,rsx_seq (rsx_if h2 h4 h6) h8⟩
end
section
variable {P:Program} {w:World} {K:PySem.W.Frag} {mg:Str->Option Value} {base:Heap} {N:List Str} {qual:Str} {scope:Scope} {fa C:Addr} {cd:Value} {A:Around} {outer:List Env} {s0:Shared} {H0:Hp} {E:XK}
end
end Dm
namespace Dm
open PySem PySem.Spec PyProof.Rows L2 Tf
def xD:PyData:= .str "exception"
section
variable {K:PySem.W.Frag}
theorem xset_get{ρ:En}{i j:Nat}(h:i≠j):(ρ.set i none)[j]? = ρ[j]? :=List.getElem?_set_ne h
theorem xset_comm{ρ:En}{i k:Nat}{a b:Option Sl}(h:i≠k):(ρ.set k a).set i b=(ρ.set i b).set k a:=List.set_comm a b (Ne.symm h)
structure XS (K:PySem.W.Frag) (i:Nat) (C:Addr) (HB H0 H:Hp) (σ:L2.St) (ρ:En):Prop where
 er:ER K HB H0 H σ (ρ.set i none)
 in_:ρ[i]? = some none\/(ρ[i]? = some (some (.val .none))/\σ[i]? = some (some .non))\/(ρ[i]? = some (some (.val xD))/\∃a,σ[i]? = some (some (.ref a))/\H0 a=some (xO a C))
def PinX(K:PySem.W.Frag)(i:Nat)(C:Addr):Rl:=⟨XS K i C,fun k=>k≠i/\(0:Nat)=0⟩
instance relOk_PinX {i:Nat} {C:Addr}:RelOk K (PinX K i C) where
 ext:=fun x r=>⟨r.er.ext x,r.in_.imp id (Or.imp id fun ⟨h1,a,h2,h3⟩=>⟨h1,a,h2,x.s0 _ _ h3⟩)⟩
 get:=fun {_ _ _ _ _ k _} r hs h=>r.er.get k _ (by rw [xset_get (Ne.symm hs.1)];exact h)
 set:=fun {HB H0 H H0' H' σ ρ k v s} r hs x sb h=>by
  refine ⟨?_,?_⟩
  . rw [xset_comm (Ne.symm hs.1)];exact ER.set r.er x sb h
  . rw [List.getElem?_set_ne hs.1,List.getElem?_set_ne hs.1];exact r.in_.imp id (Or.imp id fun ⟨h1,a,h2,h3⟩=>⟨h1,a,h2,x.s0 _ _ h3⟩)
 write:=fun {HB H0 H σ ρ k c ds es vs ys} r hs h1 h2 h3 h4 h5 h6=>by
  refine ⟨?_,?_⟩
  . rw [xset_comm (Ne.symm hs.1)];exact ER.write r.er (by rw [xset_get (Ne.symm hs.1)];exact h1) h2 h3 h4 h6
  . rw [List.getElem?_set_ne hs.1];exact r.in_
 frz:=fun {S0 HB H0 H σ ρ k ds} r hs h x=>by
  obtain ⟨b,vs,g1,g2,g3⟩:=ER.frz r.er (i:=k) (by rw [xset_get (Ne.symm hs.1)];exact h) x;refine ⟨_,g2,?_,?_⟩
  . rw [xset_comm (Ne.symm hs.1)];exact g3
  . rw [List.getElem?_set_ne hs.1];refine r.in_.imp id (Or.imp id fun ⟨h1,a,h2,h3⟩=>⟨h1,a,h2,?_⟩);rw [upd_ne]
    . exact h3
    . rintro rfl;have:=x.s1 _ _ h3;rw [g1] at this
      cases this
theorem ER.sig{HB H0 H:Hp}{σ:L2.St}{ρ:En}{i:Nat}{o:Option V}(e:ER K HB H0 H σ ρ)(hi:∀s,ρ[i]? ≠ some (some s)):ER K HB H0 H (σ.set i o) ρ:=by
 have ne:∀(j:Nat) s,ρ[j]? = some (some s)->i≠j:=fun j s h z=>hi s (z ▸ h);refine ⟨by rw [List.length_set];exact e.len,fun j s h=> ?_,fun j k a ds es hjk h1 h2 h3 h4=> ?_⟩
 . rw [List.getElem?_set_ne (ne j s h)];exact e.get j s h
 . rw [List.getElem?_set_ne (ne j _ h1)] at h3
   rw [List.getElem?_set_ne (ne k _ h2)] at h4
   exact e.apart j k a ds es hjk h1 h2 h3 h4
theorem ER.drop{HB H0 H:Hp}{σ:L2.St}{ρ:En}(e:ER K HB H0 H σ ρ)(i:Nat):ER K HB H0 H σ (ρ.set i none):=by
 have f:∀(j:Nat) s,(ρ.set i none)[j]? = some (some s)->ρ[j]? = some (some s):=fun j s h=>by
  by_cases hj:i=j
  . subst hj;rw [List.getElem?_set_self'] at h
    cases q:ρ[i]? with
    | none=>rw [q] at h;cases h
    | some z=>rw [q] at h;cases h
  . rw [List.getElem?_set_ne hj] at h
    exact h
 exact ⟨by rw [List.length_set];exact e.len,fun j s h=>e.get j s (f j s h),fun j k a ds es hjk h1 h2 h3 h4=>e.apart j k a ds es hjk (f j _ h1) (f k _ h2) h3 h4⟩
theorem set_no{ρ:En}{i:Nat}(s:Sl):(ρ.set i none)[i]? ≠ some (some s):=fun h=>by
 rw [List.getElem?_set_self'] at h
 cases q:ρ[i]? with
 | none=>rw [q] at h;cases h
 | some z=>rw [q] at h;cases h
theorem XS.lt{i:Nat}{C:Addr}{HB H0 H:Hp}{σ:L2.St}{ρ:En}(r:XS K i C HB H0 H σ ρ):i<ρ.length:=by
 rcases r.in_ with h | ⟨h,_⟩ | ⟨h,_⟩ <;> exact (List.getElem?_eq_some_iff.mp h).1
theorem XS.ltσ{i:Nat}{C:Addr}{HB H0 H:Hp}{σ:L2.St}{ρ:En}(r:XS K i C HB H0 H σ ρ):i<σ.length:=by
 rw [r.er.len,List.length_set];exact r.lt
def mXN(i:Nat):En->Option Out:=fun ρ=>some (.nx (ρ.set i (some (.val .none))))
theorem rs_xn{i:Nat}{C:Addr}:RS K (PinX K i C) (tAsg (tC .non) (gName i)) (mXN i):=fun HB S0 σ ρ H0 H x e o ho D d=>by
 cases ho
 have r:XS K i C HB H0 H σ ρ:=e.r;refine d _ H0 H x ⟨⟨?_, .inr (.inl ⟨List.getElem?_set_self r.lt,List.getElem?_set_self r.ltσ⟩)⟩⟩;rw [List.set_set];exact r.er.sig set_no
def mTry(jf jg jn:Nat)(F:List PyData->Option (Option Sl))(f:En->Option (List PyData)):En->Option Out:=fun ρ=>(f ρ).bind fun ds=>(F ds).map fun r=>match r with
 | some z=> .nx (ρ.set jf (some z))
 | none=> .nx ((ρ.set jn none).set jg (some (.val xD)))
theorem rs_try{jf jg jn:Nat}{C:Addr}{F:List PyData->Option (Option Sl)}{t:TA}{f:En->Option (List PyData)}(hf:jf≠jg)(hn:jn≠jg)(h:RA K (PinX K jg C) t f):RS K (PinX K jg C) (tTry (spX K F) t C jf jg jn) (mTry jf jg jn F f):=fun HB S0 σ ρ H0 H x e o ho D d=>by
 obtain ⟨ds,hd,ho⟩:=Option.bind_eq_some_iff.mp ho;obtain ⟨r,hr,rfl⟩:=Option.map_eq_some_iff.mp ho;refine h HB σ ρ H0 H x.s1 e ds hd _ fun vs H1 J1 x1 p1=> ?_;refine ⟨H1,ds,r,x1.s1,by rw [List.append_nil];exact p1,hr,?_⟩
 cases r with
 | some z=>
  refine fun v H2 J2 x2 p2=>d _ H2 J2 (x.chain (x1.trans x2)) ⟨?_⟩
  exact RelOk.set (K:=K) (R:=PinX K jg C) e.r ⟨hf,rfl⟩ (x1.trans x2) x.s (p2.base x1.s)
 | none=>
  refine fun u H2 J2 x2 a _ ha=> ?_;have xx:=x1.trans x2;have x3:=Ext.allocF xx.s1 ha (xO a C);have r:XS K jg C HB H0 H σ ρ:=e.r;have r3:ER K HB (upd H2 a (xO a C)) (upd J2 a (xO a C)) σ (ρ.set jg none):=r.er.ext (xx.trans x3);have lt:=r.lt;have ltσ:=r.ltσ;refine d _ _ _ (x.chain (xx.trans x3)) ⟨⟨?_, .inr (.inr ⟨List.getElem?_set_self (by rw [List.length_set];exact lt),a,?_,upd_same⟩)⟩⟩
  . rw [List.set_set];have e1:((ρ.set jn none).set jg none)=(ρ.set jg none).set jn none:=xset_comm (Ne.symm hn);rw [e1];have r4:=r3.drop jn;have n1:∀s,((ρ.set jg none).set jn none)[jn]? ≠ some (some s):=set_no;have n2:∀s,((ρ.set jg none).set jn none)[jg]? ≠ some (some s):=fun s=>by rw [<-e1];exact set_no s
    exact ((r4.sig n1).sig n2).sig n1
  . rw [List.getElem?_set_ne hn];exact List.getElem?_set_self (by rw [List.length_set];exact ltσ)
def mXis(i:Nat):En->Option Sl:=fun ρ=>match ρ[i]? with
 | some (some (.val .none))=>some (.val (.bool true))
 | some (some (.val (.str _)))=>some (.val (.bool false))
 | _=>none
theorem re_xis{i:Nat}{C:Addr}:RE K (PinX K i C) (tOp (fun x y H Q=>y = .non/\Q (.bl (decide (x = .non))) H) (tVar i) (tC .non)) (mXis i):=fun HB σ ρ H0 H s e z hz Q q=>by
 have r:XS K i C HB H0 H σ ρ:=e.r;unfold mXis at hz
 rcases r.in_ with h | ⟨h,h2⟩ | ⟨h,a,h2,_⟩
 . rw [h] at hz;cases hz
 . rw [h] at hz;cases hz
   exact ⟨_,h2,rfl,q _ _ _ (Ext.refl s) (.bool _)⟩
 . rw [h] at hz;cases hz
   exact ⟨_,h2,rfl,q _ _ _ (Ext.refl s) (.bool _)⟩
end
end Dm
namespace Dm
open PySem PySem.Spec PyProof.Rows L2 Tf
def UpK(K J:PySem.W.Frag):Prop:=∀a o,K.lookup a=some o->o≠PySem.W.tabObj #[]->J.lookup a=some o
theorem upK_cut{K:PySem.W.Frag}{h:Heap}{ts:List Addr}(KX:K.In h)(hT:∀p ∈ ts,h.get? p=some (PySem.W.tabObj #[])):UpK K (cutK K ts):=fun _ _ e hne=>lookup_cut (not_tab KX hT e hne) e
section
variable {K J:PySem.W.Frag}
theorem UpK.ns(u:UpK K J){n:Addr}{x:Str}{v:Option Value}(h:PySem.W.nsIn K n x=some v):PySem.W.nsIn J n x=some v:=by
 unfold PySem.W.nsIn at h ⊢
 split at h
 . rename_i oc od es ep sl e;rw [u _ _ e (fun z=>by cases z)];exact h
 . cases h
theorem UpK.own(u:UpK K J){x:Str}{c:Value}{v:Option Value}(h:PySem.W.ownIn K x c=some v):PySem.W.ownIn J x c=some v:=by
 unfold PySem.W.ownIn at h ⊢
 split at h
 . exact h
 . split at h
   . rename_i oc od cd sl e
     try dsimp only
     rw [u _ _ e (fun z=>by cases z)];exact u.ns h
   . cases h
 . exact h
theorem UpK.along(u:UpK K J){x:Str}{v:Option Value}:∀ {cs:List Value},PySem.W.alongIn K x cs=some v->PySem.W.alongIn J x cs=some v
 | [],h=>h
 | c::r,h=>by
  rw [PySem.W.alongIn] at h ⊢
  split at h
  . rename_i w e;rw [u.own e];exact h
  . rename_i e;rw [u.own e];exact u.along h
  . cases h
theorem UpK.find(u:UpK K J){t:Value}{x:Str}{v:Option Value}(h:PySem.W.findIn K t x=some v):PySem.W.findIn J t x=some v:=by
 unfold PySem.W.findIn at h ⊢
 split at h
 . exact h
 . split at h
   . rename_i oc od cd sl e
     try dsimp only
     rw [u _ _ e (fun z=>by cases z)];exact u.along h
   . cases h
 . cases h
theorem UpK.cls(u:UpK K J){C:Addr}{cd:ClassData}(h:PySem.W.clsIn K C=some cd):PySem.W.clsIn J C=some cd:=by
 unfold PySem.W.clsIn at h ⊢
 split at h
 . rename_i oc od c sl e;rw [u _ _ e (fun z=>by cases z)];exact h
 . cases h
theorem UpK.type(u:UpK K J){v t:Value}(h:PySem.W.typeIn K v=some t)(hne:t ≠ .none\/∀a,v ≠ .ref a):PySem.W.typeIn J v=some t:=by
 unfold PySem.W.typeIn at h ⊢
 split at h
 . rename_i a;obtain ⟨o,e,rfl⟩:=Option.map_eq_some_iff.mp h;rcases hne with hne | hne
   . try dsimp only
     rw [u _ _ e (fun z=>by rw [z] at hne;exact hne rfl)];rfl
   . exact absurd rfl (hne a)
 . exact h
 . exact h
 . exact h
theorem UpK.special(u:UpK K J){w:Value}{x:Str}{v:Option Value}(h:PySem.W.specialIn K w x=some v):PySem.W.specialIn J w x=some v:=by
 unfold PySem.W.specialIn at h ⊢
 obtain ⟨t,ht,h⟩:=Option.bind_eq_some_iff.mp h;rw [u.type ht (.inl fun z=>by subst z;cases h)];exact u.find h
theorem UpK.mro(u:UpK K J){C:Addr}{b:Value}{r:Bool}(h:PySem.W.mroIn K C b=some r):PySem.W.mroIn J C b=some r:=by
 unfold PySem.W.mroIn at h ⊢
 obtain ⟨cd,e,h⟩:=Option.bind_eq_some_iff.mp h;rw [u.cls e];exact h
theorem UpK.takes(u:UpK K J){a:Value}{r:Bool}(h:PySem.W.takesIn K a=some r):PySem.W.takesIn J a=some r:=by
 unfold PySem.W.takesIn at h ⊢
 split at h
 . rename_i e;rw [u.special e];exact h
 . rename_i e;rw [u.special e]
   try dsimp only
   obtain ⟨v,e2,h⟩:=Option.map_eq_some_iff.mp h;rw [u.special e2, <-h];rfl
 . cases h
theorem UpK.sub(u:UpK K J){t b:Value}{r:Bool}(h:PySem.W.subIn K t b=some r):PySem.W.subIn J t b=some r:=by
 unfold PySem.W.subIn at h ⊢
 split at h
 . exact h
 . exact u.mro h
 . cases h
theorem UpK.kitC(u:UpK K J){t c:Value}{r:Bool}(h:PySem.W.kitCls K t c=some r):PySem.W.kitCls J t c=some r:=by
 unfold PySem.W.kitCls at h ⊢
 split at h
 . split at h
   . rename_i C z;rw [Bool.and_eq_true] at z
     obtain ⟨cd,e⟩:=Option.isSome_iff_exists.mp z.1
     try dsimp only
     rw [if_pos (by rw [u.cls e,u.type (beq_iff_eq.mp z.2) (.inl fun q=>by cases q)];rfl)];exact u.sub h
   . cases h
 . split at h
   . rename_i z
     try dsimp only
     rw [if_pos z];exact u.sub h
   . cases h
 . cases h
theorem UpK.kit(u:UpK K J){t c:Value}{r:Bool}(h:PySem.W.kitOne K t c=some r):PySem.W.kitOne J t c=some r:=by
 unfold PySem.W.kitOne at h ⊢
 split at h
 . rename_i z;rw [if_pos z];exact h
 . rename_i z;rw [if_neg z];exact u.kitC h
theorem UpK.exm(u:UpK K J){t c:Value}{r:Bool}(h:PySem.W.exmOne K t c=some r):PySem.W.exmOne J t c=some r:=by
 unfold PySem.W.exmOne at h ⊢
 split at h
 . rename_i z;rw [if_pos (by rw [u.sub (beq_iff_eq.mp z)];rfl)];exact u.kitC h
 . cases h
theorem UpK.nsOk(u:UpK K J){n:Addr}(h:PySem.W.nsOkIn K n=true):PySem.W.nsOkIn J n=true:=by
 unfold PySem.W.nsOkIn at h ⊢
 split at h
 . rename_i e;rw [u _ _ e (fun z=>by cases z)];exact h
 . cases h
theorem UpK.tail(u:UpK K J){bm:List Value}:∀ {l:List Value},PySem.W.tailIn K bm l=true->PySem.W.tailIn J bm l=true
 | [],h=>h
 | v::r,h=>by
  unfold PySem.W.tailIn at h ⊢
  rcases Bool.or_eq_true_iff.mp h with q | q
  . exact Bool.or_eq_true_iff.mpr (.inl q)
  . refine Bool.or_eq_true_iff.mpr (.inr ?_)
    split at q
    . split at q
      . rename_i e
        try dsimp only
        rw [u _ _ e (fun z=>by cases z)];simp only [Bool.and_eq_true] at q ⊢
        exact ⟨⟨u.nsOk q.1.1,by rw [u.ns (beq_iff_eq.mp q.1.2)];rfl⟩,u.tail q.2⟩
      . cases q
    . cases q
theorem UpK.exc(u:UpK K J){C:Addr}{bm:List Value}{n:String}(h:PySem.W.excIn K C bm n=true):PySem.W.excIn J C bm n=true:=by
 unfold PySem.W.excIn at h ⊢
 split at h
 . rename_i e;rw [u _ _ e (fun z=>by cases z)]
   try dsimp only
   split at h
   . rename_i hm hs;simp only [hm,hs,Bool.and_eq_true] at h ⊢
     obtain ⟨⟨⟨h1,h2⟩,h3⟩,h4⟩:=h;exact ⟨⟨⟨h1,u.tail h2⟩,u.nsOk h3⟩,by rw [u.ns (beq_iff_eq.mp h4)];rfl⟩
   . cases h
 . cases h
theorem UpK.xcls(u:UpK K J){D:Addr}(c:XCls K D):XCls J D:=⟨u.find c.ga,u.find c.gg,u.find c.cl,u.special c.gt,u.takes c.tk,u.mro c.mo,u.mro c.mb,by
 obtain ⟨cd,e⟩:=Option.isSome_iff_exists.mp c.ci;rw [u.cls e];rfl⟩
end
section
variable {K:PySem.W.Frag} {C D:Addr}
theorem kit_self{v:Value}:PySem.W.kitOne K v v=some true:=by
 unfold PySem.W.kitOne;rw [if_pos (by simp)]
theorem kitC_mk {b:Bool} (h1:PySem.W.isClsIn K D=true) (h2:PySem.W.typeIn K (.ref D)=some (.type "type")) (h3:PySem.W.mroIn K C (.ref D)=some b):PySem.W.kitCls K (.ref C) (.ref D)=some b:=by
 unfold PySem.W.kitCls
 dsimp only
 rw [if_pos (by rw [h2,Bool.and_eq_true];exact ⟨h1,by decide +kernel⟩)];exact h3
theorem kit_f (hne:(Value.ref C==Value.ref D)=false) (h1:PySem.W.isClsIn K D=true) (h2:PySem.W.typeIn K (.ref D)=some (.type "type")) (h3:PySem.W.mroIn K C (.ref D)=some false):PySem.W.kitOne K (.ref C) (.ref D)=some false:=by
 unfold PySem.W.kitOne;rw [if_neg (by rw [hne];decide)];exact kitC_mk h1 h2 h3
theorem kit_b{T:String}{b:Bool}(h1:PySem.W.kitMeta T=true)(h3:PySem.W.mroIn K C (.type T)=some b):PySem.W.kitOne K (.ref C) (.type T)=some b:=by
 unfold PySem.W.kitOne;rw [if_neg (fun z=>by cases beq_iff_eq.mp z)];unfold PySem.W.kitCls
 dsimp only
 rw [if_pos h1];exact h3
theorem exm_mk (h0:PySem.W.mroIn K D (.type "BaseException")=some true) (h1:PySem.W.isClsIn K D=true) (h2:PySem.W.typeIn K (.ref D)=some (.type "type")) (h3:PySem.W.mroIn K C (.ref D)=some true):PySem.W.exmOne K (.ref C) (.ref D)=some true:=by
 unfold PySem.W.exmOne;rw [if_pos (by rw [show PySem.W.subIn K (.ref D) (.type "BaseException")=some true from h0];decide +kernel)];exact kitC_mk h1 h2 h3
structure NsQ (K:PySem.W.Frag) (N:Addr):Prop where
 ok:∃c d es n sl,K.lookup N=some ⟨c,d, .dict es n,sl⟩/\(es.toList.all fun e=>match e.key with | .str _ _=>true | _=>false)=true
 no:PySem.W.nsIn K N "__init__" = some none
theorem NsQ.in_{N:Addr}(q:NsQ K N):PySem.W.nsOkIn K N=true:=by
 obtain ⟨c,d,es,n,sl,e,h⟩:=q.ok;unfold PySem.W.nsOkIn;rw [e];show es.all _=true;rw [<-Array.all_toList];exact h
theorem exc_mk {T : Addr} {bm : List Value} {newId : String} {dd od : Option Addr} {oc : Value} {cd ct : ClassData} {k0 k1 k2 k3 k5 : Option Value} {sl : Array (Option Value)} (h1 : K.lookup C = some ⟨.type "type", dd, .cls cd, #[k0, k1, k2, k3, some (.builtin newId), k5]⟩) (hm : cd.mro = .ref C :: .ref T :: bm) (hd : cd.hasDel = false) (h2 : K.lookup T = some ⟨oc, od, .cls ct, sl⟩)
 (n1:NsQ K cd.ns) (n2:NsQ K ct.ns):PySem.W.excIn K C bm newId=true:=by
 have tl:PySem.W.tailIn K bm bm=true:=by
  cases bm with
  | nil=>rfl
  | cons v r=>unfold PySem.W.tailIn;simp
 have t2:PySem.W.tailIn K bm (.ref T::bm)=true:=by
  unfold PySem.W.tailIn;refine Bool.or_eq_true_iff.mpr (.inr ?_)
  dsimp only
  rw [h2]
  dsimp only
  rw [n2.in_,n2.no,tl];decide +kernel
 unfold PySem.W.excIn;rw [h1]
 split
 . rename_i heq
   cases heq
   split
   . rename_i hm' hs';rw [hm] at hm'
     cases hm'
     cases hs'
     rw [hd,t2,n1.in_,n1.no];simp
   . rename_i hx;exact (hx _ _ _ _ _ _ _ _ hm rfl).elim
 . rename_i hx;exact (hx _ _ _ rfl).elim
end
structure DefX (P:Program) (w:World) (K:PySem.W.Frag) (mg:Str->Option Value) (base:Heap) (C:Addr) (k:Nat) (x:Str) (ps:List Str) (sp:Sp):Prop where
 ex:∃f fd,FnOk P w K mg base (CXe P w C) k f fd ps sp/\mg x=some (.ref f)/\PySem.W.keepIn K (.ref f)=true/\Binds K fd ps []
section
variable {P:Program} {w:World} {K:PySem.W.Frag} {mg:Str->Option Value} {base:Heap}
theorem xs_start{N:List Str}{H0 H:Hp}{vs:List V}{ds:List PyData}{i:Nat}{C:Addr}(h:Reps K H0 vs ds)(h1:ds.length<=i)(h2:i<N.length):XS K i C H H0 H (L2.start N vs) (ds.map (fun d=>some (.val d))++List.replicate (N.length - ds.length) none):=by
 refine ⟨(er_start h).drop i, .inl ?_⟩;rw [List.getElem?_append_right (by simpa using h1),List.getElem?_replicate];simp only [List.length_map];rw [if_pos (by omega)]
theorem fnDX {x qual : Str} {st : Stmt} {f C : Addr} {fd : FuncData} {N ps : List Str} {k n m : Nat} {g : En -> Option Out} (i : Nat) (F : Fun K x qual st f fd) (S : FnScope N ps (defScope st)) (hn : N.length = n) (hm : ps.length = m)
 (hb:∀(cdv:Value) (A:Around) (outer:List Env) (s:Shared) (H:Hp) (E:XK),Room k (A.deeper (envOfC qual (defScope st) s.heap.objs.size f cdv))->DSs (cxOf CX0 P w K mg base N qual (defScope st) f cdv A outer s H E).nox (PinX K i C) (defBody st) g) (h1:m<=i:=by decide) (h2:i<n:=by decide) :
 FnOk P w K mg base CX0 (k+1) f fd ps (spD K (runD n g m)):=by
 subst hn hm;refine F.ok S (fun vs H Q E h=> ?_) fun cdv A outer s H vs Q E hr h=> ?_
 . obtain ⟨H0,ds,r,s,hr,hf,_⟩:=h;unfold runD at hf
   split at hf
   . rename_i hl;rw [hr.length,hl]
   . cases hf
 . obtain ⟨t,ht,rs⟩:=hb cdv A outer s H E hr;refine ⟨t,ht,?_⟩;obtain ⟨H0,ds,r,s0,hr,hf,q⟩:=h;unfold runD at hf
   split at hf
   . rename_i hl;obtain ⟨o,ho,hf⟩:=Option.bind_eq_some_iff.mp hf;refine rs H H0 _ _ H0 H (Ext.refl s0) ⟨xs_start hr (by rw [hl];exact h1) h2⟩ o ho _ ?_
     cases o with
     | rt r' _=>cases hf;exact fun v σ H1 J1 a _ b=>q v H1 J1 a b
     | nx _=>cases hf;exact fun σ H1 J1 a b=>q .non H1 J1 a .none
     | bk _=>cases hf
     | ct _=>cases hf
   . cases hf
end
end Dm
namespace Dm
open PySem PySem.Spec PyProof.Rows L2 Tf
section
variable {X:Cx} {C D:Addr} {x y n fn cx:Str} {p p1 p2 pos:Pos} {j:Nat}
theorem ds_xn (i : Nat) (hN : X.N.Nodup) (hi : X.N[i]? = some x := by rfl) (hx : Loc X.env.scope x := by first | exact Or.inl rfl | exact Or.inr rfl) (hs : swapsWith (.Constant .none j p2) (some (.Name x p)) pos.line X.env = pure false := by rfl) (hf : X.fn x = true \/ X.env.scope.names.lookup x = some .local := by first | exact .inl rfl | exact .inr rfl) :
 DS X (PinX X.K i C) (.Assign [.Name x p] (.Constant .none j p2) pos) (mXN i):=⟨_,ps_set hN hi hx pe_non hs hf,rs_xn⟩
theorem de_xis (i : Nat) (hN : X.N[i]? = some x := by rfl) (hv : Vis X.env.scope x := by first | exact Or.inl rfl | exact Or.inr (Or.inl rfl) | exact Or.inr (Or.inr rfl)) (hd : (x == ("__debug__" : Str)) = false := by decide) (hcd : (x == ("__classdict__" : Str)) = false := by decide) :
 DE X (PinX X.K i C) (.Compare (.Name x p) [.Is] [.Constant .none j p2] pos) (mXis i):=⟨_,pe_cmpR op_isN (pe_var hN hv hd hcd) pe_non (nomark _),re_xis⟩
theorem ds_try {k l : Nat} {ps : List Str} {F : List PyData -> Option (Option Sl)} {xf xg : Str} {pf apos cpos np hpos pg pn gpos : Pos} {e : Expr} {es : List Expr} {fs : En -> Option (List PyData)} (jf jg jn : Nat) (Fx : DefX X.prog X.w X.K X.mg X.base C l fn ps (spX X.K F)) (hr : Room k X.A) (ha : DA X (PinX X.K jg C) (e :: es) fs)
 (hm:X.mg cx=some (.ref D)) (hc:PySem.W.exmOne X.K (.ref C) (.ref D)=some true) (hN:X.N.Nodup) (hno:∀e s,X.xe e s->False:=by exact fun _ _ h=>h) (hX:X.stack=X.env::X.outer/\X.env.frame=some X.env.locals:=by exact ⟨rfl,rfl⟩) (hj:l<=k:=by decide) (hgf:Gl X fn:=by rfl) (hg:Gl X cx:=by rfl)
 (hif:X.N[jf]? = some xf:=by rfl) (hlf:X.env.scope.names.lookup xf=some .local:=by rfl) (hig:X.N[jg]? = some xg:=by rfl) (hlg:X.env.scope.names.lookup xg=some .local:=by rfl) (hin:X.N[jn]? = some n:=by rfl) (hln:X.env.scope.names.lookup n=some .local:=by rfl)
 (hfg:jf≠jg:=by decide) (hng:jn≠jg:=by decide)
 (hdb:(fn==("__debug__" : Str))=false:=by decide) (hdc:(cx==("__debug__" : Str))=false:=by decide) (hdn:(n==("__debug__" : Str))=false:=by decide) (hcn:(n==("__classdict__" : Str))=false:=by decide)
 (he:starEach (e::es) X.env=(false,eval e X.env)::starEach es X.env:=by rfl) (hpl:(backTo cpos (starEach es X.env)).any (·.1)=false:=by rfl)
 (hs:swapsWith (.Call (.Name fn p) (e::es) [] cpos) (some (.Name xf pf)) apos.line X.env=pure false:=by rfl) (hs2:swapsWith (.Name n pn) (some (.Name xg pg)) gpos.line X.env=pure false:=by rfl) :
 DS X (PinX X.K jg C) (.Try [.Assign [.Name xf pf] (.Call (.Name fn p) (e::es) [] cpos) apos] [.ExceptHandler (some (.Name cx np)) (some n) [.Assign [.Name xg pg] (.Name n pn) gpos] hpos] [] [] pos) (mTry jf jg jn F fs):=by
 obtain ⟨f,fd,F',hmf,hk,hb⟩:=Fx.ex;obtain ⟨ta,h1,h2⟩:=ha;exact ⟨_,ps_try F' (hr.mono hj) hgf hmf hk hb h1 hno hX hg hm hc hN hif hlf hig hlg hin hln hdb hdc hdn hcn he hpl hs hs2,rs_try hfg hng h2⟩
def rXi(K:PySem.W.Frag)(C:Addr):List V->Hp->VK->Prop:=fun xs H Q=>∃a y b,xs = [.ref a,y]/\H a=some (xO a C)/\(∀c,RelV y c->PySem.W.kitOne K (.ref C) c=some b)/\Q (.bl b) H
theorem call_xi(c:XCls X.K C):CallR X (.builtin "isinstance") (rXi X.K C):=by
 intro pins s σ H xs us Q I r h;obtain ⟨a,y,b,rfl,h1,e,q⟩:=h;obtain ⟨u,w',rfl,rx,rn⟩:=vals2 r;obtain rfl:u=Value.ref a:=rx;obtain ⟨⟨o,vs,e1,e2,_⟩,_⟩:=(show ObjOk X.prog X.w H s.heap a (xO a C) from I.hok a _ h1);exact PySem.W.kia_one (kitx_exc c) I.kIn ⟨o,e1,e2⟩ (e w' rn) (fun z=>nomatch z) fun tk=>⟨.bl b,H,I.tok _,rfl,q⟩
def mXi(i:Nat)(b:Bool):En->Option Sl:=fun ρ=>match ρ[i]? with
 | some (some (.val (.str _)))=>some (.val (.bool b))
 | _=>none
theorem re_xi{K:PySem.W.Frag}{i:Nat}{b:Bool}{y:V}(e:∀c,RelV y c->PySem.W.kitOne K (.ref C) c=some b):RE K (PinX K i C) (tCB (rXi K C) (tCons (tVar i) (tCons (tC y) tNil))) (mXi i b):=fun HB σ ρ H0 H s e' z hz Q q=>by
 have r:XS K i C HB H0 H σ ρ:=e'.r;unfold mXi at hz
 rcases r.in_ with h | ⟨h,h2⟩ | ⟨h,a,h2,h3⟩
 . rw [h] at hz;cases hz
 . rw [h] at hz;cases hz
 . rw [h] at hz;cases hz
   exact ⟨_,h2,a,y,b,rfl,s _ _ h3,e,q _ _ _ (Ext.refl s) (.bool _)⟩
theorem de_xi {b : Bool} (i : Nat) (c : XCls X.K C) (hm : X.mg "isinstance" = none) (hx : X.mg y = some (.ref D)) (e : PySem.W.kitOne X.K (.ref C) (.ref D) = some b) (hN : X.N[i]? = some x := by rfl) (hv : Vis X.env.scope x := by first | exact Or.inl rfl | exact Or.inr (Or.inl rfl) | exact Or.inr (Or.inr rfl)) (hd : (x == ("__debug__" : Str)) = false := by decide) (hcd : (x == ("__classdict__" : Str)) = false := by decide)
 (hgx:Gl X y:=by rfl) (hg:Gl X "isinstance" :=by rfl) (hdx:(y==("__debug__" : Str))=false:=by decide)
 (he:starEach [.Name x p1, .Name y p2] X.env=(false,eval (.Name x p1) X.env)::starEach [.Name y p2] X.env:=by rfl) (he2:starEach [.Name y p2] X.env=(false,eval (.Name y p2) X.env)::starEach [] X.env:=by rfl) (hpl:(backTo pos (starEach [.Name y p2] X.env)).any (·.1)=false:=by rfl) :
 DE X (PinX X.K i C) (.Call (.Name "isinstance" p) [.Name x p1, .Name y p2] [] pos) (mXi i b) :=
 ⟨_,pe_callB (call_xi c) hg hm bt_isinstance (pa_cons (pe_var hN hv hd hcd) (pa_cons (pe_glob (v:= .ref D) hgx hx rfl hdx) pa_nil he2) he) (by decide) (by decide) he hpl,re_xi fun c' r=>by
  obtain rfl:c'=Value.ref D:=r;exact e⟩
theorem de_xb {b : Bool} {T : String} (i : Nat) (c : XCls X.K C) (hm : X.mg "isinstance" = none) (hx : X.mg y = none) (hv' : bootBuiltins y = some (.type T)) (e : PySem.W.kitOne X.K (.ref C) (.type T) = some b) (hN : X.N[i]? = some x := by rfl) (hv : Vis X.env.scope x := by first | exact Or.inl rfl | exact Or.inr (Or.inl rfl) | exact Or.inr (Or.inr rfl)) (hd : (x == ("__debug__" : Str)) = false := by decide) (hcd : (x == ("__classdict__" : Str)) = false := by decide)
 (hgx:Gl X y:=by rfl) (hg:Gl X "isinstance" :=by rfl) (hnx:y ≠ "__name__" :=by decide) (hdx:(y==("__debug__" : Str))=false:=by decide)
 (he:starEach [.Name x p1, .Name y p2] X.env=(false,eval (.Name x p1) X.env)::starEach [.Name y p2] X.env:=by rfl) (he2:starEach [.Name y p2] X.env=(false,eval (.Name y p2) X.env)::starEach [] X.env:=by rfl) (hpl:(backTo pos (starEach [.Name y p2] X.env)).any (·.1)=false:=by rfl) :
 DE X (PinX X.K i C) (.Call (.Name "isinstance" p) [.Name x p1, .Name y p2] [] pos) (mXi i b) :=
 ⟨_,pe_callB (call_xi c) hg hm bt_isinstance (pa_cons (pe_var hN hv hd hcd) (pa_cons (pe_ty hgx hx hv' hnx hdx) pa_nil he2) he) (by decide) (by decide) he hpl,re_xi fun c' r=>by
  obtain rfl:c'=Value.type T:=r;exact e⟩
end
end Dm
namespace Dm
open PySem PySem.Spec PyProof.Rows L2 Tf
section
variable {K:PySem.W.Frag} {R:Rl} [RelOk K R] {W:Hp->Prop}
def REx(K:PySem.W.Frag)(R:Rl)(W:Hp->Prop)(te:TE)(f:En->Option (Option Sl)):Prop:=
 ∀(HB:Hp) (σ:L2.St) (ρ:En) (H0 H:Hp),Same H0 H->ST R HB H0 H σ ρ->∀o,f ρ=some o->∀Q:VK,(match o with | some z=>∀v H0' H',Ext H0 H H0' H'->SlH K H H0' H' v z->Q v H' | none=>∀H0' H',Ext H0 H H0' H'->W H')->te σ H Q
def mCallx(F:List PyData->Option (Option Sl))(f:En->Option (List PyData)):En->Option (Option Sl):=fun ρ=>(f ρ).bind F
theorem rex_call{F:List PyData->Option (Option Sl)}{ta:TA}{f:En->Option (List PyData)}(h:RA K R ta f):REx K R W (tCall (spX K F) [] (fun _ _ H=>W H) ta) (mCallx F f):=fun HB σ ρ H0 H s e o ho Q q=>by
 obtain ⟨ds,hd,hz⟩:=Option.bind_eq_some_iff.mp ho;refine h HB σ ρ H0 H s e ds hd _ fun vs H1 J1 x1 p1=> ?_;rw [List.append_nil];refine ⟨H1,ds,o,x1.s1,p1,hz,?_⟩
 cases o with
 | some z=>exact fun v H2 J2 x2 p2=>q v H2 J2 (x1.trans x2) (p2.base x1.s)
 | none=>exact fun _ H2 J2 x2=>q H2 J2 (x1.trans x2)
def mCallPx(F:List Sl->Option Sl)(f:En->Option (Option Sl)):En->Option (Option Sl):=fun ρ=>(f ρ).bind fun o=>match o with
 | some z=>(F [z]).map some
 | none=>some none
theorem rex_callB{r:List V->Hp->VK->Prop}{F:List Sl->Option Sl}{te:TE}{f:En->Option (Option Sl)}(hc:CallD K r F)(h:REx K R W te f):REx K R W (tCB r (tCons te tNil)) (mCallPx F f):=fun HB σ ρ H0 H s e o ho Q q=>by
 obtain ⟨o1,h1,ho⟩:=Option.bind_eq_some_iff.mp ho;refine h HB σ ρ H0 H s e o1 h1 _ ?_
 cases o1 with
 | none=>cases ho;exact q
 | some z=>
  obtain ⟨z',hz,rfl⟩:=Option.map_eq_some_iff.mp ho;refine fun v H1 J1 x1 p1=> ?_;exact hc H1 J1 [v] [z] z' x1.s1 (.cons p1.p .nil) hz Q fun v H2 J2 x2 p2=>q v H2 J2 (x1.trans x2) (p2.base x1.s)
def RIx(K:PySem.W.Frag)(R:Rl)(W:Hp->Prop)(wi:TI)(f:En->Option (Option (List PyData))):Prop:=
 ∀(HB:Hp) (σ:L2.St) (ρ:En) (H0 H:Hp),Same H0 H->ST R HB H0 H σ ρ->∀o,f ρ=some o->∀R:It->Hp->Prop,(match o with | some ds=>∀J H0' H',Ext H0 H H0' H'->ItR K H0' J ds->R J H' | none=>∀H0' H',Ext H0 H H0' H'->W H')->wi σ H R
def mItx(f:En->Option (List PyData)):En->Option (Option (List PyData)):=fun ρ=>(f ρ).map some
theorem rix_of{wi:TI}{f:En->Option (List PyData)}(h:RI K R wi f):RIx K R W wi (mItx f):=fun HB σ ρ H0 H s e o ho R q=>by
 obtain ⟨z,hz,rfl⟩:=Option.map_eq_some_iff.mp ho;exact h HB σ ρ H0 H s e z hz R q
def mItemsx(f:En->Option (Option Sl)):En->Option (Option (List PyData)):=fun ρ=>(f ρ).bind fun o=>match o with
 | some a=>(match a.dat with
  | .list ds=>some (some ds)
  | _=>none)
 | none=>some none
theorem rix_list{te:TE}{f:En->Option (Option Sl)}(h:REx K R W te f):RIx K R W (iList K te) (mItemsx f):=fun HB σ ρ H0 H s e o ho R q=>by
 obtain ⟨o1,h1,ho⟩:=Option.bind_eq_some_iff.mp ho;refine h HB σ ρ H0 H s e o1 h1 _ ?_
 cases o1 with
 | none=>cases ho;exact q
 | some a=>
  dsimp only at ho
  split at ho
  . rename_i es he
    cases ho
    refine fun v H1 J1 x1 p=> ?_
    cases a with
    | val d=>
     cases he
     cases (show Rep K H1 v (.list es) from p) with
     | list h1 h2=>exact ⟨_,rfl,⟨_,x1.s1.seq h1⟩,q _ _ _ x1 (it_list h1 h2)⟩
    | own ds=>
     cases he
     obtain ⟨a,vs,rfl,hn,h1,h2,h3⟩:=p
     exact ⟨_,rfl,⟨_,SqL.of h2⟩,q _ _ _ (frz_ext x1 hn h1 h2) (it_list (SqL.of upd_same) (Reps.same (Same.upd h1 _) h3))⟩
    | dct _=>cases he
  . cases ho
def compMx(f:PyData->Option (Option PyData)):List PyData->Option (Option (List PyData))
 | []=>some (some [])
 | d::ds=>(f d).bind fun r=>match r with
  | some x=>(compMx f ds).map fun o=>o.map fun rest=>x::rest
  | none=>some none
def elMx(fg:PyData->En->Option En)(fe:En->Option (Option Sl))(ρ0:En):PyData->Option (Option PyData):=fun d=>(fg d ρ0).bind fun ρ'=>(fe ρ').map fun o=>o.map Sl.dat
def mLCx(sb:En->En)(fi:En->Option (Option (List PyData)))(fg:PyData->En->Option En)(fe:En->Option (Option Sl)):En->Option (Option Sl):=fun ρ=>(fi ρ).bind fun o=>match o with
 | some ds=>if ds.length<sizeLine then (compMx (elMx fg fe (sb ρ)) ds).map fun o=>o.map .own else none
 | none=>some none
theorem rex_lc {X : Cx} {C : Addr} {R R' : Rl} [RelOk K R] [RelOk K R'] {sb : En -> En} {ix : List (Option Nat)} {wi : TI} {g : CB -> TG} {te : CB -> TE} {fi : En -> Option (Option (List PyData))} {fg : PyData -> En -> Option En} {fe : En -> Option (Option Sl)}
 (hx:∀(HB:Hp) (σ:L2.St) (ρ:En) (H0 H:Hp),R.r HB H0 H σ ρ->R'.r (fun _=>none) H0 H (subS ix σ) (sb ρ))
 (hi:RIx K R W wi fi) (hg:∀b:CB,b.xe=bXe X C W b->RG K R' (g b) fg) (he:∀b:CB,b.xe=bXe X C W b->REx K R' W (te b) fe):REx K R W (tLCx X C W ix wi g (fun _=>tNoTest) te) (mLCx sb fi fg fe):=fun HB σ ρ H0 H s e o ho Q q=>by
 obtain ⟨o1,hds,hz⟩:=Option.bind_eq_some_iff.mp ho;refine hi HB σ ρ H0 H s e o1 hds _ ?_
 cases o1 with
 | none=>cases hz;exact q
 | some ds=>
 dsimp only at hz
 split at hz
 . rename_i hlen;obtain ⟨all,hall,rfl⟩:=Option.map_eq_some_iff.mp hz;refine fun J H1 J1 x1 it b eb=> ?_;have e1:ST R' (fun _=>none) H1 J1 (subS ix σ) (sb ρ):=⟨hx HB σ ρ H1 J1 (e.ext (K:=K) x1).r⟩;refine ⟨fun i m ys H=>m=ds.length - i/\i<=ds.length/\∃H0' es rest,Ext H1 J1 H0' H/\Reps K H0' ys es/\es.length<=i/\compMx (elMx fg fe (sb ρ)) (ds.drop i)=some rest/\rest.map (es ++ ·)=all,⟨_,rfl,Nat.zero_le _,H1,[],all,Ext.refl x1.s1, .nil,Nat.le_refl _,hall,by cases all <;> rfl⟩,?_⟩;rintro i m ys H2 ⟨rfl,hile,H0',es,rest,xx,hr,hel,hc,hsum⟩;obtain ⟨ig,is⟩:=it H0' H2 xx.s0 xx.s1 i;refine ⟨by rw [hr.length];omega,?_⟩
   by_cases hlt:i<ds.length
   . right;obtain ⟨go,yl⟩:=ig ds[i] (by simp [hlt]);rw [List.drop_eq_getElem_cons hlt] at hc
     obtain ⟨r,hr1,hc⟩:=Option.bind_eq_some_iff.mp (show (elMx fg fe (sb ρ) ds[i]).bind _=some rest from hc);refine ⟨go,fun ys' H'=>∃H0' es rest,Ext H1 J1 H0' H'/\Reps K H0' ys' es/\es.length<=i+1/\compMx (elMx fg fe (sb ρ)) (ds.drop (i+1))=some rest/\rest.map (es ++ ·)=all,fun ys' H' h=>⟨ds.length - (i+1),by omega,rfl,hlt,h⟩,fun v H3 y=> ?_⟩;obtain ⟨H03,x3,r3⟩:=yl v H3 y;obtain ⟨ρ',hg',hb'⟩:=Option.bind_eq_some_iff.mp hr1;obtain ⟨oo,hoo,rfl⟩:=Option.map_eq_some_iff.mp hb';have xx3:=xx.trans x3;refine hg b eb (fun _=>none) _ _ ρ' H03 H3 v _ x3.s1 (fun _ _ h=>by cases h) (e1.ext (K:=K) xx3) r3 hg' _ fun σ2 e2=> ?_;refine rt_yes (K:=K) (R:=R') _ σ2 ρ' H03 H3 x3.s1 e2 true rfl _ fun H4 J4 x4=> ?_;refine iteT ?_;refine he b eb _ σ2 ρ' H4 J4 x4.s1 (e2.ext (K:=K) x4) oo hoo _ ?_
     cases oo with
     | none=>
      cases hc
      cases hsum
      exact fun H5 J5 x5=>q H5 J5 (((x1.trans xx3).trans x4).trans x5)
     | some rr=>
      obtain ⟨rest',hr2,hc⟩:=Option.map_eq_some_iff.mp (show (compMx (elMx fg fe (sb ρ)) (ds.drop (i+1))).map _=some rest from hc);refine fun w H5 J5 x5 p5=> ?_
      obtain ⟨H6,x6,p6⟩:∃H6,Ext H4 J4 H6 J5/\Rep K H6 w rr.dat:=by
       cases rr with
       | val d=>exact ⟨_,x5,p5⟩
       | own ds=>
        obtain ⟨a,vs,rfl,hn,h1,h2,h3⟩:=p5
        exact ⟨_,frz_ext x5 hn h1 h2, .list (SqL.of upd_same) (Reps.same (Same.upd h1 _) h3)⟩
       | dct kvs=>
        obtain ⟨a,t,rfl,hn,h1,h2,h3⟩:=p5;exact ⟨_,frz_ext x5 hn h1 h2,(h3.same (Same.upd h1 _)).rep upd_same⟩
      refine ⟨H6,es ++ [rr.dat],rest',(xx3.trans x4).trans x6,Tf.Reps.snoc (Reps.same ((x3.s0.trans x4.s0).trans x6.s0) hr) p6,by rw [List.length_append];simpa using hel,hr2,?_⟩;rw [<-hsum, <-hc]
      cases rest' with
      | none=>rfl
      | some l=>
       show some ((es ++ [rr.dat])++l)=some (es++(rr.dat::l));rw [List.append_assoc];rfl
   . left;have hi':i=ds.length:=by omega
     refine ⟨is (by omega),fun p hp=> ?_⟩;rw [List.drop_eq_nil_of_le (by omega)] at hc
     cases hc
     have hsum:some (es ++ [])=all:=hsum;rw [List.append_nil] at hsum
     subst hsum;have xy:=x1.trans xx;exact q _ _ _ (xy.trans (Ext.alloc xx.s1 hp _)) ⟨p,ys,rfl,xy.s.free hp,xx.s1.free hp,upd_same,hr⟩
 . cases hz
def mAsgx(i:Nat)(f:En->Option (Option Sl)):En->Option (Option Out):=fun ρ=>(f ρ).map fun o=>o.map fun r=> .nx (ρ.set i (some r))
theorem rsx_asgC{te:TE}{f:En->Option (Option Sl)}{i:Nat}(hsl:R.slot i)(h:REx K R W te f):RSx K R W (tSetC i te) (mAsgx i f):=fun HB S0 σ ρ H0 H x e o ho D d=>by
 obtain ⟨r,hr,rfl⟩:=Option.map_eq_some_iff.mp ho;refine h HB σ ρ H0 H x.s1 e r hr _ ?_
 cases r with
 | none=>exact fun H1 J1 x1=>d H1 J1 (x.chain x1)
 | some r=>exact fun v H1 J1 x1 p1=>d _ H1 J1 (x.chain x1) ⟨RelOk.set e.r hsl x1 x.s p1⟩
def mRetx(f:En->Option (Option Sl)):En->Option (Option Out):=fun ρ=>(f ρ).map fun o=>o.map fun r=> .rt r ρ
theorem rsx_ret{te:TE}{f:En->Option (Option Sl)}(h:REx K R W te f):RSx K R W (tRet te) (mRetx f):=fun HB S0 σ ρ H0 H x e o ho D d=>by
 obtain ⟨r,hr,rfl⟩:=Option.map_eq_some_iff.mp ho;refine h HB σ ρ H0 H x.s1 e r hr _ ?_
 cases r with
 | none=>exact fun H1 J1 x1=>d H1 J1 (x.chain x1)
 | some r=>exact fun v H1 J1 x1 p1=>d v σ H1 J1 (x.chain x1) (e.ext (K:=K) x1) (p1.base x.s)
end
end Dm
namespace Tf
open PySem PySem.Spec PyProof.Rows L2
section
variable {X:Cx}
def rSlS:V->Option Int->Option Int->Hp->VK->Prop:=fun x lo hi H Q=>∃z,x = .str z/\z.length<=sizeLine/\Q (.str (Txt.slice z lo hi)) H
theorem sl_str:SlR X rSlS:=by
 intro pins s σ H x v vl vu lo hi sl Q I rx hs pl pu h;obtain ⟨z,rfl,hz,q⟩:=h;obtain ⟨t,rfl⟩:=rx;refine ⟨"str",_,F.slot_str_getitem.lookup,typeIs_str _ _ _,?_⟩
 have key:∀l u:Option (Int×Tok),partValue l=vl->partValue u=vu->l.map (·.1)=lo->u.map (·.1)=hi->wpAny (model X.prog X.w) X.A (getItem (.str z t) (.ref sl)) (EP X pins σ Q) X.xe s:=by
  rintro l u rfl rfl rfl rfl;exact wpAny_getItem_str_slice (l:=l) (u:=u) (st:=none) hs rfl (post_val_or_str ⟨Nat.le_trans (Txt.slice_le z _ _) hz,fun t' k=>⟨.str _,H,I.tok _,⟨t',rfl⟩,q⟩⟩)
 cases pl with
 | none=>
  cases pu with
  | none=>exact key none none rfl rfl rfl rfl
  | int j t2=>exact key none (some (j,t2)) rfl rfl rfl rfl
 | int i t1=>
  cases pu with
  | none=>exact key (some (i,t1)) none rfl rfl rfl rfl
  | int j t2=>exact key (some (i,t1)) (some (j,t2)) rfl rfl rfl rfl
def Its(z:Str):It:=⟨fun i _=>i<z.cps.size,fun i H x H'=>H'=H/\∃c,z.cps[i]? = some c/\x = .str ⟨#[c]⟩,fun i _=>z.cps.size<=i⟩
theorem turn_str {P : Program} {w : World} {K : PySem.W.Frag} {tg : Expr} (it : Addr) (z : Str) (t : Tok) (cls : String) (hcls : ["enumerate", "zip", "dict_itemiterator", "dict_reverseitemiterator", "odict_iterator", "itertools.zip_longest", "itertools.pairwise"].contains cls = false)
 (hit:∀(A:Around) (s:Shared) (i c:Nat) (Q:Option Value->Shared->Prop) (E:Value->Shared->Prop),s.heap.IsStrIter it cls z t i->z.cps[i]? = some c->(∀h',h'.IsStrIter it cls z t (i+1)->Heap.SameBut it s.heap h'->Q (some (.str ⟨#[c]⟩ s.toks)) {s with heap:=h',toks:=s.toks+1})->wpAny (model P w) A (pyNext (.ref it)) Q E s)
 (hend:∀(A:Around) (s:Shared) (i:Nat) (Q:Option Value->Shared->Prop) (E:Value->Shared->Prop),A.handled=none->s.heap.IsStrIter it cls z t i->z.cps[i]? = none->(∀h',Heap.ExtBut it s.heap h'->Q none {s with heap:=h' })->wpAny (model P w) A (pyNext (.ref it)) Q E s)
 (hself:∀(A:Around) (s:Shared) (i:Nat) (Q:Value->Shared->Prop) (E:Value->Shared->Prop),s.heap.IsStrIter it cls z t i->Q (.ref it) s->wpAny (model P w) A (pyIter (.ref it)) Q E s) :
 Turn P w K tg (Its z) [it] it (fun i h=>h.IsStrIter it cls z t i) where
 mem:=by simp
 obj:=fun i h st b hb=>by
  have e:b=it:=by simpa using hb
  subst e;obtain ⟨o,e,c,d⟩:=st;exact ⟨o,e,fun v q=>by rw [d] at q;cases q⟩
 keep:=fun i h h' st k=>by
  obtain ⟨o,e,r⟩:=st;exact ⟨o,k it (by simp) o e,r⟩
 item:=by
  intro X hP hw hK hc i pins s σ H E I hf st hg;subst hP hw hK;obtain ⟨f0,f1,f2,f3,f4,f5⟩:=hf it (by simp);have hlt:i<z.cps.size:=hg;refine hit X.A s i z.cps[i] _ _ st (by simp [hlt]) fun h' st' sb=> ?_;have I1:Inv X pins σ H {s with heap:=h',toks:=s.toks+1}:=I.turned (fun b o hb e=>(sb.2 b hb).trans e) f0 f1 f3 f4 f5;obtain ⟨o,e,c,d⟩:=id st';exact ⟨_,rfl,go_of (s:={s with heap:=h',toks:=s.toks+1}) e c d hcls ⟨.str ⟨#[z.cps[i]]⟩,H,I1,⟨_,rfl⟩,⟨rfl,_,by simp [hlt],rfl⟩,st',fun b hb=>(hf b hb).1⟩⟩
 done:=by
  intro X hP hw hK hc i pins s σ H E I hf st hg;subst hP hw hK;obtain ⟨f0,f1,f2,f3,f4,f5⟩:=hf it (by simp);have hle:z.cps.size<=i:=hg;exact hend X.A s i _ _ (I.ok.hd hc) st (by simp [hle]) fun h' eb=>⟨rfl,I.turned (t':=s.toks) (fun b o hb e=>eb b o hb e) f0 f1 f3 f4 f5⟩
 self:=fun A i s Q E st h=>hself A s i Q E st h
def iStr(te:TE):TI:=fun σ H R=>te σ H fun x H1=>∃z,x = .str z/\R (Its z) H1
theorem pi_str{tg e:Expr}{te:TE}(he:PE X e te):PI X tg e (iStr te):=by
 intro pins s σ H R I h;refine thn (he pins s σ H _ I h) fun v s1 ⟨x,H1,I1,r1,q1⟩ => ?_;obtain ⟨z,rfl,q⟩:=q1;obtain ⟨t,rfl⟩:=r1
 cases ha:z.cps.all (· < 128)
 . refine wpAny_pyIter_wide ha ?_;refine ⟨s1.heap.objs.size,[s1.heap.objs.size],_,_,H1,rfl,I1.kept (t':=s1.toks) fun b o e=>Heap.get?_push_of_some _ e,turn_str _ z t "str_iterator" (by decide) (fun A s i c Q E a b k=>wpAny_pyNext_wide_item a b k) (fun A s i Q E h a b k=>wpAny_pyNext_wide_end h a b k) (fun A s i Q E a k=>wpAny_pyIter_striter_wide a k),⟨_,Heap.get?_push_size _ rfl,rfl,rfl⟩,fun b hb=> ?_,q⟩;have e:b=s1.heap.objs.size:=by simpa using hb
   subst e;exact I1.fpOk (Nat.le_refl _) (I1.hok.fresh (Nat.le_refl _))
 . refine wpAny_pyIter_ascii ha ?_;refine ⟨s1.heap.objs.size,[s1.heap.objs.size],_,_,H1,rfl,I1.kept (t':=s1.toks) fun b o e=>Heap.get?_push_of_some _ e,turn_str _ z t "str_ascii_iterator" (by decide) (fun A s i c Q E a b k=>wpAny_pyNext_ascii_item a b k) (fun A s i Q E h a b k=>wpAny_pyNext_ascii_end h a b k) (fun A s i Q E a k=>wpAny_pyIter_striter_ascii a k),⟨_,Heap.get?_push_size _ rfl,rfl,rfl⟩,fun b hb=> ?_,q⟩;have e:b=s1.heap.objs.size:=by simpa using hb
   subst e;exact I1.fpOk (Nat.le_refl _) (I1.hok.fresh (Nat.le_refl _))
def rSw:V->List V->Hp->VK->Prop:=fun x xs H Q=>∃z y,x = .str z/\xs = [.str y]/\Q (.bl (Txt.startswith z y)) H
theorem mt_startswith:MtR X "str.startswith" rSw:=by
 intro pins s σ H x xs v us Q I rx r h;obtain ⟨z,y,rfl,rfl,q⟩:=h;obtain ⟨t,rfl⟩:=rx;obtain ⟨u,rfl,t',rfl⟩:=vals1 r;exact call_gives F.slot_str_startswith (typeIs_str _ _ _) F.entry_str_startswith (F.args_str_startswith_2 _ _) (gives_str_startswith z y t t') ⟨.bl _,H,I,rfl,q⟩
theorem vals_strs:∀(l:List (Str×Tok)),Vals ((l.map (·.1)).map V.str) (strValues l)
 | []=> .nil
 | p::r=> .cons ⟨p.2,rfl⟩ (vals_strs r)
theorem strs_vals:∀ {zs:List Str} {us:List Value},Vals (zs.map V.str) us->∃l:List (Str×Tok),l.map (·.1)=zs/\us=strValues l
 | [],_,h=>by cases h;exact ⟨[],rfl,rfl⟩
 | z::r,_,h=>by
  cases h with
  | cons h t=>
   obtain ⟨k,rfl⟩:=h;obtain ⟨l,rfl,rfl⟩:=strs_vals t;exact ⟨(z,k)::l,rfl,rfl⟩
open Builtin.Str in
def rSplit:V->List V->Hp->VK->Prop:=fun x xs H Q=>∃z y,x = .str z/\xs = [.str y]/\(y.length==0)=false/\z.length<sizeLine/\(Txt.split z y).length<=sizeLine/\(partsBetween z (occurrences z y 0 z.length (z.length+1)) y.length).length<=sizeLine/\∀p,H p=none->Q (.ref p) (upd H p (.lst ((Txt.split z y).map V.str)))
open Builtin Builtin.Str in
theorem mt_split:MtR X "str.split" rSplit:=by
 intro pins s σ H x xs v us Q I rx r h;obtain ⟨z,y,rfl,rfl,hy,hz,hn,hn2,q⟩:=h;obtain ⟨t,rfl⟩:=rx;obtain ⟨u',rfl,u,rfl⟩:=vals1 r
 have fin:∀(l:List (Str×Tok)) (tk:Nat),l.map (·.1)=Txt.split z y->EP X pins σ Q (.ref s.heap.objs.size) {s with toks:=tk,heap:=s.heap.push {cls:= .type "list",data:= .seq (strValues l).toArray} }:=fun l tk hl=>by
  refine ⟨.ref s.heap.objs.size,_,I.laid (t':=tk) (o:= .lst ((Txt.split z y).map V.str)) (fun b ob q=>Heap.get?_push_of_some _ q) (Nat.le_refl _) ?_,rfl,q _ (I.hok.fresh (Nat.le_refl _))⟩;exact ⟨by rw [List.length_map];exact hn,strValues l,_,by rw [<-hl];exact vals_strs l,Heap.get?_push_size _ rfl⟩
 cases h1:(decide (z.length<y.length) || decide (strKind z<strKind y))
 . cases hf:(occurrences z y 0 z.length (z.length+1)).isEmpty
   . refine call_meets F.slot_str_split (typeIs_str _ _ _) F.entry_str_split (F.args_str_split_2 _ _) (meets_str_split_sep z y t u h1 hy hf (Nat.le_of_lt hz) hn2) ?_;show wants _ _ _ {s with toks:=_,heap:=s.heap.push {cls:= .type "list",data:= .seq (strsFrom s.toks (partsBetween z (occurrences z y 0 z.length (z.length+1)) y.length)).toArray} };rw [strsFrom_eq];exact fin (numbered s.toks _) _ ((numbered_texts _ _).trans ((if_neg (ne_true_of_eq_false h1)).trans (if_neg (ne_true_of_eq_false hf))).symm)
   . exact call_meets F.slot_str_split (typeIs_str _ _ _) F.entry_str_split (F.args_str_split_2 _ _) (meets_str_split_not_found z y t u h1 hy hf)
      (fin [(z,t)] _ ((if_neg (ne_true_of_eq_false h1)).trans (if_pos hf)).symm)
 . exact call_meets F.slot_str_split (typeIs_str _ _ _) F.entry_str_split (F.args_str_split_2 _ _) (meets_str_split_cannot_occur z y t u h1) (fin [(z,t)] _ (if_pos h1).symm)
def rJoin(K:PySem.W.Frag):V->List V->Hp->VK->Prop:=fun x xs H Q=>∃z p zs,x = .str z/\xs = [.ref p]/\SqL K H p (zs.map V.str)/\JoinOk z zs=true/\Q (.str (Txt.join z zs)) H
theorem mt_join:MtR X "str.join" (rJoin X.K):=by
 intro pins s σ H x xs v us Q I rx r h;obtain ⟨z,p,zs,rfl,rfl,hq,hok,q⟩:=h;obtain ⟨t,rfl⟩:=rx;obtain ⟨u',rfl,rfl⟩:=vals1 r;obtain ⟨its,rv,pl,hz⟩:=I.list hq;obtain ⟨l,hl,rfl⟩:=strs_vals rv;exact SC.join pl.isList hl hok fun t' k=>⟨.str _,H,I.tok _,⟨t',rfl⟩,q⟩
theorem call_intS:CallR X (.type "int") (fun xs H Q=>∃z n,xs = [.str z]/\PySem.intText? z=some n/\z.length<=640/\Q (.int n) H):=by
 intro pins s σ H xs us Q I r h;obtain ⟨z,n,rfl,h1,h2,q⟩:=h;obtain ⟨u,rfl,t,rfl⟩:=vals1 r;exact PySem.W.KIN.call_text h1 h2 ⟨.int n,H,I.tok _,⟨_,rfl⟩,q⟩
end
end Tf
namespace Dm
open PySem PySem.Spec PyProof.Rows L2 Tf
section
variable {K:PySem.W.Frag} {R:Rl} [RelOk K R]
def dSlX(a:Sl)(lo hi:Option Int):Option Sl:=match a with
 | .val (.str z)=>if z.length<=sizeLine then some (.val (.str (Txt.slice z lo hi))) else none
 | _=>none
def mSlX(f:En->Option Sl)(l h:En->Option (Option Int)):En->Option Sl:=fun ρ=>(f ρ).bind fun a=>(l ρ).bind fun lo=>(h ρ).bind fun hi=>dSlX a lo hi
theorem re_slX{te:TE}{tl th:TO}{f:En->Option Sl}{fl fh:En->Option (Option Int)}(h:RP K R te f)(hl:RO K R tl fl)(hh:RO K R th fh):RE K R (tSl rSlS te tl th) (mSlX f fl fh):=fun HB σ ρ H0 H s e z hz Q q=>by
 obtain ⟨a,ha,hz⟩:=Option.bind_eq_some_iff.mp hz;obtain ⟨lo,hlo,hz⟩:=Option.bind_eq_some_iff.mp hz;obtain ⟨hi,hhi,hz⟩:=Option.bind_eq_some_iff.mp hz;refine h HB σ ρ H0 H s e a ha _ fun v H1 J1 x1 p1=> ?_;refine hl HB σ ρ H1 J1 x1.s1 (e.ext (K:=K) x1) lo hlo _ fun H2 J2 x2=> ?_;refine hh HB σ ρ H2 J2 x2.s1 ((e.ext (K:=K) x1).ext (K:=K) x2) hi hhi _ fun H3 J3 x3=> ?_;have x:=(x1.trans x2).trans x3;unfold dSlX at hz
 split at hz
 . split at hz
   . rename_i hc
     cases hz
     exact ⟨_,p1.str,hc,q _ _ _ x (.str _)⟩
   . cases hz
 . cases hz
def dIxX:Sl->Sl->Option Sl
 | .val (.str z), .val (.int i)=>if z.length<=sizeLine then (atI z.cps.toList i).map fun c=> .val (.str ⟨#[c]⟩) else none
 | _,_=>none
theorem opd_ixX:OpD K rIxS dIxX:=fun H0 H x y sx sy z s px py hz Q q=>by
 unfold dIxX at hz
 split at hz
 . split at hz
   . rename_i hc;obtain ⟨c,he,rfl⟩:=Option.map_eq_some_iff.mp hz;exact ⟨_,_,c,px.str,py.int,hc,he,q _ _ _ (Ext.refl s) (.str _)⟩
   . cases hz
 . cases hz
def dLenX:List Sl->Option Sl
 | [.val (.str z)]=>if z.length<=sizeLine then some (.val (.int z.length)) else none
 | _=>none
theorem cd_lenX:CallD K (fun xs H Q=>∃z,xs = [.str z]/\z.length<=sizeLine/\Q (.int z.length) H) dLenX:=fun H0 H vs ss z s p hz Q q=>by
 unfold dLenX at hz
 split at hz
 . split at hz
   . rename_i hc
     cases hz
     obtain ⟨v,rfl,h⟩:=paired1 p
     cases h.str
     exact ⟨_,rfl,hc,q _ _ _ (Ext.refl s) (.int _)⟩
   . cases hz
 . cases hz
def dAddX:Sl->Sl->Option Sl
 | .val (.str a), .val (.str b)=>if a.length+b.length<=sizeLine then some (.val (.str (a++b))) else none
 | _,_=>none
theorem opd_addX:OpD K (fun x y H Q=>∃i j,x = .str i/\y = .str j/\i.length+j.length<=sizeLine/\Q (.str (i++j)) H) dAddX:=fun H0 H x y sx sy z s px py hz Q q=>by
 unfold dAddX at hz
 split at hz
 . split at hz
   . rename_i hc
     cases hz
     exact ⟨_,_,px.str,py.str,hc,q _ _ _ (Ext.refl s) (.str _)⟩
   . cases hz
 . cases hz
def dInX:Sl->Sl->Option Sl
 | .val (.str a), .val (.str b)=>some (.val (.bool (Txt.contains b a)))
 | _,_=>none
theorem opd_inX:OpD K (fun x y H Q=>∃i j,x = .str i/\y = .str j/\Q (.bl (!(Builtin.Str.occurrences j i 0 j.length 1).isEmpty)) H) dInX:=fun H0 H x y sx sy z s px py hz Q q=>by
 unfold dInX at hz
 split at hz
 . cases hz
   exact ⟨_,_,px.str,py.str,q _ _ _ (Ext.refl s) (.bool _)⟩
 . cases hz
def mItX(f:En->Option Sl):En->Option (List PyData):=fun ρ=>(f ρ).bind fun a=>match a with
 | .val (.str z)=>some (z.cps.toList.map fun c=> .str ⟨#[c]⟩)
 | _=>none
theorem it_str{H0:Hp}{z:Str}:ItR K H0 (Its z) (z.cps.toList.map fun c=> .str ⟨#[c]⟩):=fun H0' H' s s' i=>by
 refine ⟨fun d hd=> ?_,fun hi=> ?_⟩
 . rw [List.getElem?_map] at hd
   obtain ⟨c,hc,rfl⟩:=Option.map_eq_some_iff.mp hd;have hc':z.cps[i]? = some c:=by rw [<-Array.getElem?_toList];exact hc
   refine ⟨(Array.getElem?_eq_some_iff.mp hc').1,fun x H2 y=> ?_⟩;obtain ⟨rfl,c',e,rfl⟩:=y;rw [hc'] at e
   cases e
   exact ⟨H0',Ext.refl s', .str _⟩
 . show z.cps.size<=i;simpa using hi
theorem ri_str{te:TE}{f:En->Option Sl}(h:RE K R te f):RI K R (iStr te) (mItX f):=fun HB σ ρ H0 H s e ds hd R q=>by
 obtain ⟨a,ha,hd⟩:=Option.bind_eq_some_iff.mp hd
 split at hd
 . cases hd
   refine h HB σ ρ H0 H s e _ ha _ fun v H1 J1 x1 p1=> ?_;exact ⟨_,p1.p.str,q _ _ _ x1 it_str⟩
 . cases hd
def dSw:Sl->Sl->Option Sl
 | .val (.str a), .val (.str b)=>some (.val (.bool (Txt.startswith a b)))
 | _,_=>none
theorem re_sw{ta tb:TE}{fa fb:En->Option Sl}(ha:RP K R ta fa)(hb:RP K R tb fb):RE K R (tBM K "str" rSw ta (tCons tb tNil)) (mBin dSw fa fb):=fun HB σ ρ H0 H s e z hz Q q=>by
 obtain ⟨x,hx,hz⟩:=Option.bind_eq_some_iff.mp hz;obtain ⟨y,hy,hz⟩:=Option.bind_eq_some_iff.mp hz;unfold dSw at hz
 split at hz
 . cases hz
   refine ha HB σ ρ H0 H s e _ hx _ fun v H1 J1 x1 p1=> ?_
   cases p1.str
   refine ⟨rfl,?_⟩;refine hb HB σ ρ H1 J1 x1.s1 (e.ext (K:=K) x1) _ hy _ fun u H2 J2 x2 p2=> ?_
   cases p2.str
   exact ⟨_,_,rfl,rfl,q _ _ _ (x1.trans x2) (.bool _)⟩
 . cases hz
def dSplit:Sl->Sl->Option Sl
 | .val (.str a), .val (.str b)=>if (b.length==0)=false/\a.length+2<=sizeLine then some (.own ((Txt.split a b).map .str)) else none
 | _,_=>none
theorem split_few(a b:Str):(Txt.split a b).length<=a.length+2:=by
 unfold Txt.split
 split
 . simp
 . split
   . simp
   . rw [length_partsBetween];have:=StrLaws.occ_length_le a b 0 a.length (a.length+1);omega
theorem reps_strs{H:Hp}:∀zs:List Str,Reps K H (zs.map V.str) (zs.map .str)
 | []=> .nil
 | z::r=> .cons (.str z) (reps_strs r)
theorem re_split{ta tb:TE}{fa fb:En->Option Sl}(ha:RP K R ta fa)(hb:RP K R tb fb):RE K R (tBM K "str" rSplit ta (tCons tb tNil)) (mBin dSplit fa fb):=fun HB σ ρ H0 H s e z hz Q q=>by
 obtain ⟨x,hx,hz⟩:=Option.bind_eq_some_iff.mp hz;obtain ⟨y,hy,hz⟩:=Option.bind_eq_some_iff.mp hz;unfold dSplit at hz
 split at hz
 . rename_i a b _
   split at hz
   . rename_i hc
     cases hz
     refine ha HB σ ρ H0 H s e _ hx _ fun v H1 J1 x1 p1=> ?_
     cases p1.str
     refine ⟨rfl,?_⟩;refine hb HB σ ρ H1 J1 x1.s1 (e.ext (K:=K) x1) _ hy _ fun u H2 J2 x2 p2=> ?_
     cases p2.str
     have x:=x1.trans x2;refine ⟨_,_,rfl,rfl,hc.1,by have:=hc.2;omega,Nat.le_trans (split_few a b) hc.2,?_,fun l hl=>q _ _ _ (x.trans (Ext.alloc x.s1 hl _)) ⟨l,_,rfl,x.s.free hl,x.s1.free hl,upd_same,reps_strs _⟩⟩;rw [length_partsBetween];have:=StrLaws.occ_length_le a b 0 a.length (a.length+1);have:=hc.2;omega
   . cases hz
 . cases hz
def strsOf:List PyData->Option (List Str)
 | []=>some []
 | .str z::r=>(strsOf r).map (z :: ·)
 | _::_=>none
theorem strsOf_eq:∀ {ds:List PyData} {zs:List Str},strsOf ds=some zs->ds=zs.map .str
 | [],_,h=>by cases h;rfl
 | d::r,zs,h=>by
  cases d with
  | str z=>
   obtain ⟨l,hl,rfl⟩:=Option.map_eq_some_iff.mp (show (strsOf r).map (z :: ·)=some zs from h);rw [strsOf_eq hl]
   rfl
  | _=>cases h
theorem strsOf_map:∀zs:List Str,strsOf (zs.map .str)=some zs
 | []=>rfl
 | z::r=>by
  show (strsOf (r.map .str)).map (z :: ·)=_;rw [strsOf_map r];rfl
theorem strs_reps{H:Hp}:∀ {zs:List Str} {vs:List V},Reps K H vs (zs.map .str)->vs=zs.map V.str
 | [],_,h=>by cases h;rfl
 | z::r,_,h=>by
  cases h with
  | cons h t=>
   cases h
   rw [strs_reps t];rfl
def dJoin:Sl->Sl->Option Sl
 | .val (.str a),b=>match b.dat with
  | .list ds=>(strsOf ds).bind fun zs=>if JoinOk a zs=true then some (.val (.str (Txt.join a zs))) else none
  | _=>none
 | _,_=>none
theorem re_join{ta tb:TE}{fa fb:En->Option Sl}(ha:RP K R ta fa)(hb:RP K R tb fb):RE K R (tBM K "str" (rJoin K) ta (tCons tb tNil)) (mBin dJoin fa fb):=fun HB σ ρ H0 H s e z hz Q q=>by
 obtain ⟨x,hx,hz⟩:=Option.bind_eq_some_iff.mp hz;obtain ⟨y,hy,hz⟩:=Option.bind_eq_some_iff.mp hz;unfold dJoin at hz
 split at hz
 . rename_i a
   split at hz
   . rename_i ds hd;obtain ⟨zs,hs,hz⟩:=Option.bind_eq_some_iff.mp hz
     split at hz
     . rename_i hc
       cases hz
       refine ha HB σ ρ H0 H s e _ hx _ fun v H1 J1 x1 p1=> ?_
       cases p1.str
       refine ⟨rfl,?_⟩;refine hb HB σ ρ H1 J1 x1.s1 (e.ext (K:=K) x1) _ hy _ fun u H2 J2 x2 p2=> ?_;obtain ⟨b,vs,rfl,h1,h2⟩:=p2.lst x2.s1 hd;rw [strsOf_eq hs] at h2
       cases strs_reps h2
       exact ⟨_,_,zs,rfl,rfl,h1,hc,q _ _ _ (x1.trans x2) (.str _)⟩
     . cases hz
   . cases hz
 . cases hz
def dIntS:List Sl->Option Sl
 | [.val (.str z)]=>if z.length<=640 then (PySem.intText? z).map fun n=> .val (.int n) else none
 | _=>none
theorem cd_intS:CallD K (fun xs H Q=>∃z n,xs = [.str z]/\PySem.intText? z=some n/\z.length<=640/\Q (.int n) H) dIntS:=fun H0 H vs ss z s p hz Q q=>by
 unfold dIntS at hz
 split at hz
 . split at hz
   . rename_i hc;obtain ⟨n,hn,rfl⟩:=Option.map_eq_some_iff.mp hz;obtain ⟨v,rfl,h⟩:=paired1 p
     cases h.str
     exact ⟨_,n,rfl,hn,hc,q _ _ _ (Ext.refl s) (.int _)⟩
   . cases hz
 . cases hz
def dStrI:List Sl->Option Sl
 | [.val (.int i)]=>if 0<=i/\i<1000 then some (.val (.str (toString i))) else none
 | _=>none
theorem log_small{i:Int}(h:0<=i/\i<1000):i.natAbs.log2<1920:=by
 have:i.natAbs<2 ^ 10:=by omega
 by_cases h0:i.natAbs=0
 . rw [h0];decide
 . exact Nat.lt_trans ((Nat.log2_lt h0).mpr this) (by decide)
theorem cd_strI:CallD K (fun xs H Q=>∃i,xs = [.int i]/\i.natAbs.log2<1920/\Q (.str (toString i)) H) dStrI:=fun H0 H vs ss z s p hz Q q=>by
 unfold dStrI at hz
 split at hz
 . split at hz
   . rename_i hc
     cases hz
     obtain ⟨v,rfl,h⟩:=paired1 p
     cases h.int
     exact ⟨_,rfl,log_small hc,q _ _ _ (Ext.refl s) (.str _)⟩
   . cases hz
 . cases hz
end
section
variable {X:Cx} {R:Rl} [RelOk X.K R] {a b e tg:Expr} {f fa fb:En->Option Sl} {pos apos cpos p2:Pos} {lo hi:Option Expr} {fl fh:En->Option (Option Int)}
theorem de_slX(h:DP X R e f)(hl:DO X R lo fl)(hh:DO X R hi fh):DE X R (.Subscript e (.Slice lo hi none p2) pos) (mSlX f fl fh):=by
 obtain ⟨t,h1,h2⟩:=h;obtain ⟨u,h3,h4⟩:=hl;obtain ⟨v,h5,h6⟩:=hh;exact ⟨_,pe_slice sl_str h1 h3 h5,re_slX h2 h4 h6⟩
theorem de_ixX(ha:DP X R a fa)(hb:DP X R b fb)(hs:PlainIx b:=by intro _ _;rfl):DE X R (.Subscript a b pos) (mBin dIxX fa fb):=by
 obtain ⟨ta,h1,h2⟩:=ha;obtain ⟨tb,h3,h4⟩:=hb;exact ⟨_,pe_ix ix_str h1 h3 hs,re_bin opd_ixX h2 h4⟩
theorem de_addX(ha:DP X R a fa)(hb:DP X R b fb):DE X R (.BinOp a .Add b pos) (mBin dAddX fa fb):=de_op op_add_str opd_addX ha hb
theorem de_inX(ha:DP X R a fa)(hb:DP X R b fb)(hm:behindInMarks .In b=false:=by rfl):DE X R (.Compare a [.In] [b] pos) (mBin dInX fa fb):=de_cmp op_in_str opd_inX ha hb hm
theorem di_str(h:DE X R e f):DI X R tg e (mItX f):=by obtain ⟨t,h1,h2⟩:=h;exact ⟨_,pi_str h1,ri_str h2⟩
theorem de_sw (ha : DP X R a fa) (hb : DP X R b fb) (hbase : attributeBase a "startswith" X.env (eval a X.env) = eval a X.env := by rfl)
 (hst:starEach [b] X.env=(false,eval b X.env)::starEach [] X.env:=by rfl)
 (hfew:((backTo cpos (starEach [b] X.env)).all (fun x=> !x.1) && (backToKw cpos (keywordEach [] X.env)).all (fun x=>x.1.isSome) && decide ([b].length+([]:List Keyword).length+(if ([]:List Keyword).isEmpty then 0 else 1)<30))=true:=by rfl)
 (hline:(apos.endLine==cpos.line)=true:=by rfl) (hplain:(backTo cpos (starEach [] X.env)).any (·.1)=false:=by rfl) :
 DE X R (.Call (.Attribute a "startswith" apos) [b] [] cpos) (mBin dSw fa fb):=by
 obtain ⟨t,h1,h2⟩:=ha;obtain ⟨u,h3,h4⟩:=hb;exact ⟨_,pe_bm PySem.F.plainAttrs_str PySem.F.slot_str_startswith PySem.F.type_str_startswith mt_startswith h1 (pa_cons h3 pa_nil hst) hbase hfew hline hst hplain,re_sw h2 h4⟩
theorem de_split (ha : DP X R a fa) (hb : DP X R b fb) (hbase : attributeBase a "split" X.env (eval a X.env) = eval a X.env := by rfl)
 (hst:starEach [b] X.env=(false,eval b X.env)::starEach [] X.env:=by rfl)
 (hfew:((backTo cpos (starEach [b] X.env)).all (fun x=> !x.1) && (backToKw cpos (keywordEach [] X.env)).all (fun x=>x.1.isSome) && decide ([b].length+([]:List Keyword).length+(if ([]:List Keyword).isEmpty then 0 else 1)<30))=true:=by rfl)
 (hline:(apos.endLine==cpos.line)=true:=by rfl) (hplain:(backTo cpos (starEach [] X.env)).any (·.1)=false:=by rfl) :
 DE X R (.Call (.Attribute a "split" apos) [b] [] cpos) (mBin dSplit fa fb):=by
 obtain ⟨t,h1,h2⟩:=ha;obtain ⟨u,h3,h4⟩:=hb;exact ⟨_,pe_bm PySem.F.plainAttrs_str PySem.F.slot_str_split PySem.F.type_str_split mt_split h1 (pa_cons h3 pa_nil hst) hbase hfew hline hst hplain,re_split h2 h4⟩
theorem de_join (ha : DP X R a fa) (hb : DP X R b fb) (hbase : attributeBase a "join" X.env (eval a X.env) = eval a X.env := by rfl)
 (hst:starEach [b] X.env=(false,eval b X.env)::starEach [] X.env:=by rfl)
 (hfew:((backTo cpos (starEach [b] X.env)).all (fun x=> !x.1) && (backToKw cpos (keywordEach [] X.env)).all (fun x=>x.1.isSome) && decide ([b].length+([]:List Keyword).length+(if ([]:List Keyword).isEmpty then 0 else 1)<30))=true:=by rfl)
 (hline:(apos.endLine==cpos.line)=true:=by rfl) (hplain:(backTo cpos (starEach [] X.env)).any (·.1)=false:=by rfl) :
 DE X R (.Call (.Attribute a "join" apos) [b] [] cpos) (mBin dJoin fa fb):=by
 obtain ⟨t,h1,h2⟩:=ha;obtain ⟨u,h3,h4⟩:=hb;exact ⟨_,pe_bm PySem.F.plainAttrs_str PySem.F.slot_str_join PySem.F.type_str_join mt_join h1 (pa_cons h3 pa_nil hst) hbase hfew hline hst hplain,re_join h2 h4⟩
theorem de_lenX {x:Expr} {p:Pos} {fq:En->Option (List Sl)} (hm:X.mg "len" = none) (h:DQ X R [x] fq) (hg:Gl X "len" :=by rfl) (he:starEach [x] X.env=(false,eval x X.env)::starEach [] X.env:=by rfl) (hpl:(backTo pos (starEach [] X.env)).any (·.1)=false:=by rfl):DE X R (.Call (.Name "len" p) [x] [] pos) (mCallP dLenX fq):=de_blt call_len_str cd_lenX bt_len hm h hg (by decide) (by decide) he hpl
theorem de_intS {x:Expr} {p:Pos} {fq:En->Option (List Sl)} (hm:X.mg "int" = none) (h:DQ X R [x] fq) (hg:Gl X "int" :=by rfl) (he:starEach [x] X.env=(false,eval x X.env)::starEach [] X.env:=by rfl) (hpl:(backTo pos (starEach [] X.env)).any (·.1)=false:=by rfl):DE X R (.Call (.Name "int" p) [x] [] pos) (mCallP dIntS fq):=de_ty call_intS cd_intS bt_int hm h hg (by decide) (by decide) he hpl
theorem de_strI {x:Expr} {p:Pos} {fq:En->Option (List Sl)} (hm:X.mg "str" = none) (h:DQ X R [x] fq) (hg:Gl X "str" :=by rfl) (he:starEach [x] X.env=(false,eval x X.env)::starEach [] X.env:=by rfl) (hpl:(backTo pos (starEach [] X.env)).any (·.1)=false:=by rfl):DE X R (.Call (.Name "str" p) [x] [] pos) (mCallP dStrI fq):=de_ty call_str_int cd_strI bt_str hm h hg (by decide) (by decide) he hpl
end
end Dm
namespace Dm
open PySem PySem.Spec PyProof.Rows L2 Tf
section
variable {X:Cx} {R R':Rl} [RelOk X.K R] [RelOk X.K R'] {W:Hp->Prop} {C:Addr} {e tg:Expr} {es:List Expr} {pos p:Pos} {f:En->Option Sl} {fx:En->Option (Option Sl)} {fs:En->Option (List PyData)} {sts:List Stmt} {gx:En->Option (Option Out)}
def DEx(X:Cx)(R:Rl)(W:Hp->Prop)(e:Expr)(f:En->Option (Option Sl)):Prop:=∃te,PE X e te/\REx X.K R W te f
def DIx(X:Cx)(R:Rl)(W:Hp->Prop)(tg e:Expr)(f:En->Option (Option (List PyData))):Prop:=∃wi,PI X tg e wi/\RIx X.K R W wi f
theorem dex_call {k j : Nat} {x : Str} {ps : List Str} {F : List PyData -> Option (Option Sl)} (D : DefX X.prog X.w X.K X.mg X.base C j x ps (spX X.K F)) (hp : Passes (CXe X.prog X.w C) X (fun _ _ H => W H)) (hr : Room k X.A) (h : DA X R (e :: es) fs) (hj : j <= k := by decide) (hg : Gl X x := by rfl)
 (hdb:(x==("__debug__" : Str))=false:=by decide) (he:starEach (e::es) X.env=(false,eval e X.env)::starEach es X.env:=by rfl) (hpl:(backTo pos (starEach es X.env)).any (·.1)=false:=by rfl):DEx X R W (.Call (.Name x p) (e::es) [] pos) (mCallx F fs):=by
 obtain ⟨g,fd,G,hm,hk,hb⟩:=D.ex;obtain ⟨t,h1,h2⟩:=h;exact ⟨_,pe_call G (hr.mono hj) hg hm hk hb .nil hp h1 hdb he hpl,rex_call h2⟩
theorem dex_tuple (hm:X.mg "tuple" = none) (h:DEx X R W e fx) (hg:Gl X "tuple" :=by rfl) (he:starEach [e] X.env=(false,eval e X.env)::starEach [] X.env:=by rfl) (hpl:(backTo pos (starEach [] X.env)).any (·.1)=false:=by rfl):DEx X R W (.Call (.Name "tuple" p) [e] [] pos) (mCallPx dTuple fx):=by
 obtain ⟨t,h1,h2⟩:=h;exact ⟨_,pe_callTy call_tuple_of hg hm bt_tuple (pa_cons h1 pa_nil he) (by decide) (by decide) he hpl,rex_callB cd_tuple h2⟩
theorem dix_of{fi:En->Option (List PyData)}(h:DI X R tg e fi):DIx X R W tg e (mItx fi):=by obtain ⟨t,h1,h2⟩:=h;exact ⟨t,h1,rix_of h2⟩
theorem dix_list(h:DEx X R W e fx):DIx X R W tg e (mItemsx fx):=by obtain ⟨t,h1,h2⟩:=h;exact ⟨_,pi_list h1,rix_list h2⟩
def mFrzX(i:Nat)(g:En->Option (Option Out)):En->Option (Option Out):=fun ρ=>g (frz1 i ρ)
theorem dx_frz(i:Nat)(h:DSx X R W sts gx)(hsl:R.slot i:=by first | exact True.intro | exact ⟨of_decide_eq_true rfl,of_decide_eq_true rfl⟩):DSx X R W sts (mFrzX i gx):=by
 obtain ⟨t,h1,h2⟩:=h;refine ⟨t,h1,fun HB S0 σ ρ H0 H x e o ho D d=> ?_⟩;unfold mFrzX frz1 at ho
 split at ho
 . rename_i ds hj;obtain ⟨H0',x',e'⟩:=RelOk.frz (K:=X.K) e.r hsl (join_some hj) x;exact h2 HB S0 σ _ H0' H x' ⟨e'⟩ o ho D d
 . exact h2 HB S0 σ ρ H0 H x e o ho D d
theorem dx_set {x : Str} {pos' : Pos} (i : Nat) (h : DEx X R W e fx) (k : DSx X R W sts gx) (hN : X.N.Nodup) (hi : X.N[i]? = some x := by rfl) (hx : Loc X.env.scope x := by first | exact Or.inl rfl | exact Or.inr rfl) (hs : swapsWith e (some (.Name x pos')) pos.line X.env = pure false := by rfl) (hf : X.fn x = true \/ X.env.scope.names.lookup x = some .local := by first | exact .inl rfl | exact .inr rfl) (hsl : R.slot i := by first | exact True.intro | exact ⟨of_decide_eq_true rfl, of_decide_eq_true rfl⟩) :
 DSx X R W (.Assign [.Name x pos'] e pos::sts) (mSqx (mAsgx i fx) gx):=by
 obtain ⟨t,h1,h2⟩:=h;obtain ⟨u,h3,h4⟩:=k;refine ⟨_,pss_cons (ps_set hN hi hx h1 hs hf) h3,rsx_seq (fun HB S0 σ ρ H0 H x e o ho D d=> ?_) h4⟩;obtain ⟨r,hr,rfl⟩:=Option.map_eq_some_iff.mp ho;refine h2 HB σ ρ H0 H x.s1 e r hr _ ?_
 cases r with
 | none=>exact fun H1 J1 x1=>d H1 J1 (x.chain x1)
 | some r=>exact fun v H1 J1 x1 p1=>d _ H1 J1 (x.chain x1) ⟨RelOk.set e.r hsl x1 x.s p1⟩
theorem dx_ret(h:DEx X R W e fx):DSx X R W [.Return (some e) pos] (mRetx fx):=by obtain ⟨t,h1,h2⟩:=h;exact ⟨_,pss_one (ps_ret h1),rsx_ret h2⟩
variable {osc sc:Scope} {N':List Str} {elt iter:Expr} {fix:En->Option (Option (List PyData))} {fg:PyData->En->Option En} {fex:En->Option (Option Sl)} {y:Str}
theorem dx_setC {N : List Str} (hlv : ∀ pins σ H s, Inv X pins σ H s -> ∀ a H' s', FlyS X.prog X.w X.stack [] X.H₀ X.s₀ C a H' s' -> W H' -> X.xe (.ref a) s') (ho : X.env.scope = osc) (hN : X.N = N) (i : Nat) (ix : List (Option Nat)) (sb : En -> En) (hx : ∀ (HB : Hp) (σ : L2.St) (ρ : En) (H0 H : Hp), R.r HB H0 H σ ρ -> R'.r (fun _ => none) H0 H (subS ix σ) (sb ρ)) {py spos : Pos} (hnd : X.N.Nodup) (hi : DIx X R W tg iter fix)
 (hg:∀b:CB,DGk (cxC X osc sc N' b) R' (slotS ix) tg fg) (he:∀b:CB,b.xe=bXe X C W b->DEx (cxC X osc sc N' b) R' W elt fex) (k:DSx X R W sts gx)
 (hex:X.ex = []:=by rfl) (hX:X.stack=X.env::X.outer/\X.env.frame=some X.env.locals:=by exact ⟨rfl,rfl⟩)
 (hi':X.N[i]? = some y:=by rfl) (hy:X.env.scope.names.lookup y=some .local:=by rfl) (hsw:swapsWith (.ListComp elt [⟨tg,iter,[],0⟩] sc pos) (some (.Name y py)) spos.line X.env=pure true:=by rfl)
 (hcs:csOk osc sc N N' ix=true:=by decide +kernel) (hc:X.calm=true:=by rfl)
 (hs:∀x,foldedSetIterable iter X.env x=pure x:=by intro _;rfl) (hsl:R.slot i:=by first | exact True.intro | exact ⟨of_decide_eq_true rfl,of_decide_eq_true rfl⟩):DSx X R W (.Assign [.Name y py] (.ListComp elt [⟨tg,iter,[],0⟩] sc pos) spos::sts) (mSqx (mAsgx i (mLCx sb fix fg fex)) gx):=by
 obtain ⟨wi,h1,h2⟩:=hi;obtain ⟨u,h3,h4⟩:=k
 have ch:∀b:CB,∃te:TE,b.xe=bXe X C W b->PE (cxC X osc sc N' b) elt te/\REx X.K R' W te fex:=fun b=>by
  by_cases hb:b.xe=bXe X C W b
  . obtain ⟨te,a1,a2⟩:=he b hb;exact ⟨te,fun _=>⟨a1,a2⟩⟩
  . exact ⟨fun _ _ _=>False,fun z=>absurd z hb⟩
 exact ⟨_,pss_cons (ps_setCx (g:=fun b=>(hg b).choose) (tt:=fun _=>tNoTest) (te:=fun b=>(ch b).choose) hex hX hlv hnd hi' hy hsw hc ho hN hcs h1 (fun b hb=>⟨(hg b).choose_spec.1,pts_nil,((ch b).choose_spec hb).1⟩) (fun b _=>(hg b).choose_spec.2.2.gk) hs) h3,
  rsx_seq (rsx_asgC hsl (rex_lc hx h2 (fun b _=>(hg b).choose_spec.2.1) (fun b hb=>((ch b).choose_spec hb).2))) h4⟩
theorem dex_lc {N : List Str} (hlv : ∀ pins σ H s, Inv X pins σ H s -> ∀ a H' s', FlyS X.prog X.w X.stack [] X.H₀ X.s₀ C a H' s' -> W H' -> X.xe (.ref a) s') (ho : X.env.scope = osc) (hN : X.N = N) (ix : List (Option Nat)) (sb : En -> En) (hx : ∀ (HB : Hp) (σ : L2.St) (ρ : En) (H0 H : Hp), R.r HB H0 H σ ρ -> R'.r (fun _ => none) H0 H (subS ix σ) (sb ρ)) (hi : DIx X R W tg iter fix)
 (hg:∀b:CB,DGk (cxC X osc sc N' b) R' (slotS ix) tg fg) (he:∀b:CB,b.xe=bXe X C W b->DEx (cxC X osc sc N' b) R' W elt fex)
 (hex:X.ex = []:=by rfl) (hX:X.stack=X.env::X.outer/\X.env.frame=some X.env.locals:=by exact ⟨rfl,rfl⟩)
 (hcs:csOk osc sc N N' ix=true:=by decide +kernel) (hc:X.calm=true:=by rfl)
 (hs:∀x,foldedSetIterable iter X.env x=pure x:=by intro _;rfl):DEx X R W (.ListComp elt [⟨tg,iter,[],0⟩] sc pos) (mLCx sb fix fg fex):=by
 obtain ⟨wi,h1,h2⟩:=hi
 have ch:∀b:CB,∃te:TE,b.xe=bXe X C W b->PE (cxC X osc sc N' b) elt te/\REx X.K R' W te fex:=fun b=>by
  by_cases hb:b.xe=bXe X C W b
  . obtain ⟨te,a1,a2⟩:=he b hb;exact ⟨te,fun _=>⟨a1,a2⟩⟩
  . exact ⟨fun _ _ _=>False,fun z=>absurd z hb⟩
 exact ⟨_,pe_lcx (g:=fun b=>(hg b).choose) (tt:=fun _=>tNoTest) (te:=fun b=>(ch b).choose) hex hX hlv hc ho hN hcs h1 (fun b hb=>⟨(hg b).choose_spec.1,pts_nil,((ch b).choose_spec hb).1⟩) (fun b _=>(hg b).choose_spec.2.2.gk) hs,
  rex_lc hx h2 (fun b _=>(hg b).choose_spec.2.1) (fun b hb=>((ch b).choose_spec hb).2)⟩
end
section
variable {P:Program} {w:World} {K:PySem.W.Frag} {mg:Str->Option Value} {base:Heap} {N:List Str} {qual:Str} {scope:Scope} {fa C:Addr} {cd:Value} {A:Around} {outer:List Env} {s0:Shared} {H0:Hp} {E:XK}
abbrev wE (E:XK):Hp->Prop:=fun H'=>∀u,E u none H'
theorem cx_scope1x{CX:CXT}:(cxOf CX P w K mg base N qual scope fa cd A outer s0 H0 E).env.scope=scope:=rfl
theorem cx_names1x{CX:CXT}:(cxOf CX P w K mg base N qual scope fa cd A outer s0 H0 E).N=N:=rfl
theorem pass_b:Passes (CXe P w C) (cxOf (CXe P w C) P w K mg base N qual scope fa cd A outer s0 H0 E) (fun _ _ H=>wE E H):=pass1 fun a H h=>h _
theorem lv_b:∀pins σ H s,Inv (cxOf (CXe P w C) P w K mg base N qual scope fa cd A outer s0 H0 E) pins σ H s->∀a H' s',FlyS P w (envOfC qual scope s0.heap.objs.size fa cd::outer) [] H0 s0 C a H' s'->wE E H'->(cxOf (CXe P w C) P w K mg base N qual scope fa cd A outer s0 H0 E).xe (.ref a) s' :=
 fun pins σ H s I a H' s' F hw=>fly_leave I.ok.frames F (hw _)
section
variable {sc:Scope} {N':List Str} {elt iter tg:Expr} {fix:En->Option (Option (List PyData))} {fg:PyData->En->Option En} {fex:En->Option (Option Sl)} {y:Str} {R R':Rl} [RelOk K R] [RelOk K R'] {pos:Pos} {sts:List Stmt} {gx:En->Option (Option Out)}
theorem dx_setCb (i : Nat) (ix : List (Option Nat)) (sb : En -> En) (hx : ∀ (HB : Hp) (σ : L2.St) (ρ : En) (H0 H : Hp), R.r HB H0 H σ ρ -> R'.r (fun _ => none) H0 H (subS ix σ) (sb ρ)) {py spos : Pos} (hnd : N.Nodup) (hi : DIx (cxOf (CXe P w C) P w K mg base N qual scope fa cd A outer s0 H0 E) R (wE E) tg iter fix)
 (hg:∀b:CB,DGk (cxC (cxOf (CXe P w C) P w K mg base N qual scope fa cd A outer s0 H0 E) scope sc N' b) R' (slotS ix) tg fg) (he:∀b:CB,b.xe=bXe (cxOf (CXe P w C) P w K mg base N qual scope fa cd A outer s0 H0 E) C (wE E) b->DEx (cxC (cxOf (CXe P w C) P w K mg base N qual scope fa cd A outer s0 H0 E) scope sc N' b) R' (wE E) elt fex) (k:DSx (cxOf (CXe P w C) P w K mg base N qual scope fa cd A outer s0 H0 E) R (wE E) sts gx)
 (hi':N[i]? = some y:=by rfl) (hy:scope.names.lookup y=some .local:=by rfl) (hsw:swapsWith (.ListComp elt [⟨tg,iter,[],0⟩] sc pos) (some (.Name y py)) spos.line (envOfC qual scope s0.heap.objs.size fa cd)=pure true:=by rfl)
 (hcs:csOk scope sc N N' ix=true:=by decide +kernel)
 (hs:∀x,foldedSetIterable iter (envOfC qual scope s0.heap.objs.size fa cd) x=pure x:=by intro _;rfl) (hsl:R.slot i:=by first | exact True.intro | exact ⟨of_decide_eq_true rfl,of_decide_eq_true rfl⟩):DSx (cxOf (CXe P w C) P w K mg base N qual scope fa cd A outer s0 H0 E) R (wE E) (.Assign [.Name y py] (.ListComp elt [⟨tg,iter,[],0⟩] sc pos) spos::sts) (mSqx (mAsgx i (mLCx sb fix fg fex)) gx) :=
 dx_setC (X:=cxOf (CXe P w C) P w K mg base N qual scope fa cd A outer s0 H0 E) (osc:=scope) (N:=N) lv_b rfl rfl i ix sb hx hnd hi hg he k rfl ⟨rfl,rfl⟩ hi' hy hsw hcs rfl hs hsl
theorem dex_lcb (ix : List (Option Nat)) (sb : En -> En) (hx : ∀ (HB : Hp) (σ : L2.St) (ρ : En) (H0 H : Hp), R.r HB H0 H σ ρ -> R'.r (fun _ => none) H0 H (subS ix σ) (sb ρ)) (hi : DIx (cxOf (CXe P w C) P w K mg base N qual scope fa cd A outer s0 H0 E) R (wE E) tg iter fix)
 (hg:∀b:CB,DGk (cxC (cxOf (CXe P w C) P w K mg base N qual scope fa cd A outer s0 H0 E) scope sc N' b) R' (slotS ix) tg fg) (he:∀b:CB,b.xe=bXe (cxOf (CXe P w C) P w K mg base N qual scope fa cd A outer s0 H0 E) C (wE E) b->DEx (cxC (cxOf (CXe P w C) P w K mg base N qual scope fa cd A outer s0 H0 E) scope sc N' b) R' (wE E) elt fex)
 (hcs:csOk scope sc N N' ix=true:=by decide +kernel)
 (hs:∀x,foldedSetIterable iter (envOfC qual scope s0.heap.objs.size fa cd) x=pure x:=by intro _;rfl):DEx (cxOf (CXe P w C) P w K mg base N qual scope fa cd A outer s0 H0 E) R (wE E) (.ListComp elt [⟨tg,iter,[],0⟩] sc pos) (mLCx sb fix fg fex) :=
 dex_lc (X:=cxOf (CXe P w C) P w K mg base N qual scope fa cd A outer s0 H0 E) (osc:=scope) (N:=N) lv_b rfl rfl ix sb hx hi hg he rfl ⟨rfl,rfl⟩ hcs rfl hs
end
def mRseE(f:En->Option Sl):En->Option (Option Out):=fun ρ=>(f ρ).map fun _=>none
theorem rsx_raiseE{W:Hp->Prop}{R:Rl} [RelOk K R] {te:TE} {f:En->Option Sl} (h:RE K R te f):RSx K R W (tRse te W) (mRseE f):=fun HB S0 σ ρ H0 H x e o ho D d=>by
 obtain ⟨z,hz,rfl⟩:=Option.map_eq_some_iff.mp ho;exact h HB σ ρ H0 H x.s1 e z hz _ fun v H1 J1 x1 _=>d H1 J1 (x.chain x1)
theorem dx_raiseE {cx : Str} {np cpos pos : Pos} {a : Expr} {f : En -> Option Sl} {R : Rl} [RelOk K R] (h : DE (cxOf (CXe P w C) P w K mg base N qual scope fa cd A outer s0 H0 E) R a f) (hm : mg cx = some (.ref C)) (hx : PySem.W.excIn K C bmV "ValueError.__new__" = true)
 (hg:Gl (cxOf (CXe P w C) P w K mg base N qual scope fa cd A outer s0 H0 E) cx:=by rfl) (hd:(cx==("__debug__" : Str))=false:=by decide) (he:starEach [a] (envOfC qual scope s0.heap.objs.size fa cd) = [(false,eval a (envOfC qual scope s0.heap.objs.size fa cd))]:=by rfl) :
 DSx (cxOf (CXe P w C) P w K mg base N qual scope fa cd A outer s0 H0 E) R (wE E) [.Raise (some (.Call (.Name cx np) [a] [] cpos)) none pos] (mRseE f):=by
 obtain ⟨te,h1,h2⟩:=h;exact ⟨_,pss_one (ps_raise (fun H e h=>h _) hg hm hx h1 hd he),rsx_raiseE h2⟩
end
section
variable {X:Cx}
theorem small_len{n:Int}(h:0<=n/\n<1000):(Str.ofString (toString n)).length<=1000:=by
 have e:=int_text_length_le10 (a:=n) (k:=3) (by decide) (by omega);rw [PySem.ofString_length];omega
def tFsI(i j:Nat):TE:=fun σ H Q=>∃a b:Int,σ[i]? = some (some (.int a))/\σ[j]? = some (some (.int b))/\(0<=a/\a<1000)/\(0<=b/\b<1000)/\∀x,Q (.str x) H
theorem pe_fsI {i j : Nat} {x y t1 t2 : Str} {j1 j2 : Nat} {p1 p2 p3 p4 p5 p6 pos : Pos} (hi : X.N[i]? = some x) (hv : Vis X.env.scope x) (hj : X.N[j]? = some y) (hw : Vis X.env.scope y) (ht1 : t1.length <= 1000) (ht2 : t2.length <= 1000) (hd : (x == ("__debug__" : Str)) = false) (hcd : (x == ("__classdict__" : Str)) = false) (hd2 : (y == ("__debug__" : Str)) = false) (hcd2 : (y == ("__classdict__" : Str)) = false) :
 PE X (.JoinedStr [.Constant (.str t1) j1 p1, .FormattedValue (.Name x p2) (-1) none p3, .Constant (.str t2) j2 p4, .FormattedValue (.Name y p5) (-1) none p6] pos) (tFsI i j):=by
 intro pins s σ H Q I h;obtain ⟨a,b,h1,h2,ha,hb,q⟩:=h;have hz:sizeLine=2 ^ 24:=rfl;have z:Str.empty.length=0:=rfl;have la:=small_len ha;have lb:=small_len hb;refine wpAny_JoinedStr (Joins_cons (Calls.Constant_str ⟨_,_,rfl,?_,?_⟩))
 . rw [strLen_append,hz];omega
 refine Joins_cons (wpAny_FormattedValue_plain (thn ((pe_var (pos:=p2) hi hv hd hcd) pins _ σ H (fun v' H'=>v' = .int a/\H'=H) (I.tok _) ⟨_,h1,rfl,rfl⟩) fun u s1 ⟨v,H1,I1,rv,e1,e2⟩ => ?_));subst e1 e2;obtain ⟨tk,rfl⟩:=rv;refine wpAny_formatField_int (log_small ha) ⟨_,_,rfl,?_,?_⟩
 . rw [strLen_append,strLen_append,hz];omega
 refine Joins_cons (Calls.Constant_str ⟨_,_,rfl,?_,?_⟩)
 . rw [strLen_append,strLen_append,strLen_append,hz];omega
 refine Joins_cons (wpAny_FormattedValue_plain (thn ((pe_var (pos:=p5) hj hw hd2 hcd2) pins _ σ H1 (fun v' H'=>v' = .int b/\H'=H1) ((I1.tok _).tok _) ⟨_,h2,rfl,rfl⟩) fun u s2 ⟨v,H2,I2,rv,e1,e2⟩ => ?_));subst e1 e2;obtain ⟨tk2,rfl⟩:=rv;refine wpAny_formatField_int (log_small hb) ⟨_,_,rfl,?_,Joins_nil ⟨?_,?_⟩⟩
 . rw [strLen_append,strLen_append,strLen_append,strLen_append,hz];omega
 . rw [strLen_append,strLen_append,strLen_append,strLen_append,hz];omega
 . exact ⟨.str _,_,I2.tok _,⟨_,rfl⟩,q _⟩
def mFsI(i j:Nat):En->Option Sl:=fun ρ=>match (ρ[i]?).join,(ρ[j]?).join with
 | some (.val (.int a)),some (.val (.int b))=>if (0<=a/\a<1000)/\0<=b/\b<1000 then some (.val .none) else none
 | _,_=>none
end
section
variable {P:Program} {w:World} {K:PySem.W.Frag} {mg:Str->Option Value} {base:Heap} {N:List Str} {qual:Str} {scope:Scope} {fa C:Addr} {cd:Value} {A:Around} {outer:List Env} {s0:Shared} {H0:Hp} {E:XK}
theorem rsx_fsI{R:Rl} [RelOk K R] {W:Hp->Prop} (i j:Nat) (hi:R.slot i) (hj:R.slot j):RSx K R W (tRse (tFsI i j) W) (mRseE (mFsI i j)):=fun HB S0 σ ρ H0 H x e o ho D d=>by
 obtain ⟨z,hz,rfl⟩:=Option.map_eq_some_iff.mp ho;unfold mFsI at hz
 split at hz
 . rename_i a b ha hb
   split at hz
   . rename_i hc;obtain ⟨v,g1,g2⟩:=RelOk.get (K:=K) e.r hi (join_some ha);obtain ⟨u,g3,g4⟩:=RelOk.get (K:=K) e.r hj (join_some hb)
     cases g2.p.int
     cases g4.p.int
     exact ⟨a,b,g1,g3,hc.1,hc.2,fun _=>d H0 H x⟩
   . cases hz
 . cases hz
theorem dx_raiseI {cx x y t1 t2 : Str} {j1 j2 : Nat} {p1 p2 p3 p4 p5 p6 p7 np cpos pos : Pos} (i j : Nat) (hm : mg cx = some (.ref C)) (hx : PySem.W.excIn K C bmV "ValueError.__new__" = true)
 (hi:N[i]? = some x:=by rfl) (hv:Vis scope x:=by first | exact Or.inl rfl | exact Or.inr (Or.inl rfl) | exact Or.inr (Or.inr rfl)) (hj:N[j]? = some y:=by rfl) (hw:Vis scope y:=by first | exact Or.inl rfl | exact Or.inr (Or.inl rfl) | exact Or.inr (Or.inr rfl)) (ht1:t1.length<=1000:=by decide) (ht2:t2.length<=1000:=by decide) (hg:Gl (cxOf (CXe P w C) P w K mg base N qual scope fa cd A outer s0 H0 E) cx:=by rfl)
 (hd:(cx==("__debug__" : Str))=false:=by decide) (hd1:(x==("__debug__" : Str))=false:=by decide) (hcd1:(x==("__classdict__" : Str))=false:=by decide) (hd2:(y==("__debug__" : Str))=false:=by decide) (hcd2:(y==("__classdict__" : Str))=false:=by decide) :
 DSx (cxOf (CXe P w C) P w K mg base N qual scope fa cd A outer s0 H0 E) (PR K) (wE E) [.Raise (some (.Call (.Name cx np) [.JoinedStr [.Constant (.str t1) j1 p1, .FormattedValue (.Name x p2) (-1) none p3, .Constant (.str t2) j2 p4, .FormattedValue (.Name y p5) (-1) none p6] p7] [] cpos)) none pos] (mRseE (mFsI i j)) :=
 ⟨_,pss_one (ps_raise (fun H e h=>h _) hg hm hx (pe_fsI hi hv hj hw ht1 ht2 hd1 hcd1 hd2 hcd2) hd),rsx_fsI i j True.intro True.intro⟩
end
section
variable {X:Cx} {C D:Addr} {x:Str} {p p1 p2 p3 pos:Pos}
def DXs(X:Cx)(es:List Expr)(Ds:List Addr):Prop:=∃t,PA X es t/\∀σ H (Q:List V->Hp->Prop),Q (Ds.map V.ref) H->t σ H Q
theorem dxs_nil:DXs X [] []:=⟨_,pa_nil,fun σ H Q h=>h⟩
theorem dxs_cons {y:Str} {es:List Expr} {Ds:List Addr} (hx:X.mg y=some (.ref D)) (k:DXs X es Ds) (hgx:Gl X y:=by rfl) (hdx:(y==("__debug__" : Str))=false:=by decide) (hs:starEach (.Name y p::es) X.env=(false,eval (.Name y p) X.env)::starEach es X.env:=by rfl):DXs X (.Name y p::es) (D::Ds):=by
 obtain ⟨t,h1,h2⟩:=k;exact ⟨_,pa_cons (pe_glob (v:= .ref D) hgx hx rfl hdx) h1 hs,fun σ H Q h=>h2 σ H _ h⟩
def rXiT(K:PySem.W.Frag)(C:Addr):List V->Hp->VK->Prop:=fun xs H Q=>∃(a q:Addr) (Ds:List Addr) (b:Bool),xs = [.ref a, .ref q]/\H a=some (xO a C)/\H q=some (.tup (Ds.map V.ref))/\PySem.W.kitAny K (.ref C) (Ds.map Value.ref)=some b/\Q (.bl b) H
theorem vals_refs:∀ {Ds:List Addr} {us:List Value},Vals (Ds.map V.ref) us->us=Ds.map Value.ref
 | [],_,h=>by cases h;rfl
 | d::r,_,h=>by
  cases h with
  | cons h t=>
   cases (show _=Value.ref d from h)
   rw [vals_refs t];rfl
theorem call_xiT(c:XCls X.K C):CallR X (.builtin "isinstance") (rXiT X.K C):=by
 intro pins s σ H xs us Q I r h;obtain ⟨a,q,Ds,b,rfl,h1,h2,e,k⟩:=h;obtain ⟨u,w',rfl,rx,rn⟩:=vals2 r;obtain rfl:u=Value.ref a:=rx;obtain rfl:w'=Value.ref q:=rn;obtain ⟨⟨o,vs,e1,e2,_⟩,_⟩:=(show ObjOk X.prog X.w H s.heap a (xO a C) from I.hok a _ h1);obtain ⟨_,its,rv,o',g1,g2,⟨m,g3⟩⟩:=(show ObjOk X.prog X.w H s.heap q (.tup (Ds.map V.ref)) from I.hok q _ h2);have ev:=vals_refs rv;subst ev;obtain ⟨oc,od,oda,osl⟩:=o'
 dsimp only at g2 g3
 subst g2 g3;exact PySem.W.kia_tup (kitx_exc c) I.kIn ⟨o,e1,e2⟩ g1 e (fun z=>nomatch z) fun tk=>⟨.bl b,H,I.tok _,rfl,k⟩
theorem kany_nil{K:PySem.W.Frag}{t:Value}:PySem.W.kitAny K t []=some false:=rfl
theorem kany_f{K:PySem.W.Frag}{t c:Value}{r:List Value}{b:Bool}(h:PySem.W.kitOne K t c=some false)(k:PySem.W.kitAny K t r=some b):PySem.W.kitAny K t (c::r)=some b:=by
 rw [PySem.W.kitAny,h];exact k
theorem de_xiT {b : Bool} {es : List Expr} {Ds : List Addr} {x1} (i : Nat) (c : XCls X.K C) (hm : X.mg "isinstance" = none) (h : DXs X es Ds) (e : PySem.W.kitAny X.K (.ref C) (Ds.map Value.ref) = some b) (hl : Ds.length <= sizeLine := by exact Nat.le_of_ble_eq_true rfl) (hN : X.N[i]? = some x := by rfl) (hv : Vis X.env.scope x := by first | exact Or.inl rfl | exact Or.inr (Or.inl rfl) | exact Or.inr (Or.inr rfl)) (hd : (x == ("__debug__" : Str)) = false := by decide) (hcd : (x == ("__classdict__" : Str)) = false := by decide)
 (hg:Gl X "isinstance" :=by rfl)
 (he:starEach [.Name x p1, .Tuple es x1 p2] X.env=(false,eval (.Name x p1) X.env)::starEach [.Tuple es x1 p2] X.env:=by rfl) (he2:starEach [.Tuple es x1 p2] X.env=(false,eval (.Tuple es x1 p2) X.env)::starEach [] X.env:=by rfl) (hpl:(backTo pos (starEach [.Tuple es x1 p2] X.env)).any (·.1)=false:=by rfl) :
 DE X (PinX X.K i C) (.Call (.Name "isinstance" p) [.Name x p1, .Tuple es x1 p2] [] pos) (mXi i b):=by
 obtain ⟨t,h1,h2⟩:=h;refine ⟨_,pe_callB (call_xiT c) hg hm bt_isinstance (pa_cons (pe_var hN hv hd hcd) (pa_cons (pe_tup h1) pa_nil he2) he) (by decide) (by decide) he hpl,fun HB σ ρ H0 H s e' z hz Q q=> ?_⟩;have r:XS X.K i C HB H0 H σ ρ:=e'.r;unfold mXi at hz
 rcases r.in_ with h | ⟨h,h3⟩ | ⟨h,a,h3,h4⟩
 . rw [h] at hz;cases hz
 . rw [h] at hz;cases hz
 . rw [h] at hz;cases hz
   refine ⟨_,h3,h2 σ H _ ⟨by rw [List.length_map];exact hl,fun q' hq=>⟨a,q',Ds,b,rfl,?_,upd_same,e,q _ _ _ (Ext.alloc s hq _) (.bool _)⟩⟩⟩;rw [upd_ne (ne_of_none (s _ _ h4) hq)];exact s _ _ h4
end
end Dm
namespace Tx
open PySem PySem.NumText PySem.Builtin.Str
def isDg(c:Nat):Bool:=decide (48<=c) && decide (c<=57)
def fives:List Str:= ["0","1","2","3","4"]
theorem str_ext{x:Str}{cs:List Nat}(h:x.cps.toList=cs):x=⟨cs.toArray⟩:=by
 obtain ⟨a⟩:=x;subst h;simp
theorem sub_one(x:Str)(c i:Nat)(hi:i<x.length):subAt x ⟨#[c]⟩ i=(x.cps[i]? ==some c):=by
 obtain ⟨a⟩:=x;have hi:i<a.size:=hi;unfold subAt;show (a.extract i (i+1) == #[c])=(a[i]? ==some c)
 have e:a.extract i (i+1) = #[a[i]]:=by
  apply Array.ext
  . simp;omega
  . intro k h1 h2;simp at h2
    subst h2;simp
 rw [e,Array.getElem?_eq_getElem hi];simp
theorem figs:(Str.ofString "0123456789")=⟨#[48,49,50,51,52,53,54,55,56,57]⟩:=by decide +kernel
theorem contains_dig(c:Nat):Txt.contains "0123456789" ⟨#[c]⟩=isDg c:=by
 rw [figs]
 by_cases h:48<=c/\c<=57
 . have:c=48\/c=49\/c=50\/c=51\/c=52\/c=53\/c=54\/c=55\/c=56\/c=57:=by omega
   rcases this with rfl | rfl | rfl | rfl | rfl | rfl | rfl | rfl | rfl | rfl <;> decide +kernel
 . have e:isDg c=false:=by unfold isDg;simp only [Bool.and_eq_false_iff,decide_eq_false_iff_not];omega
   rw [e];unfold Txt.contains;rw [PySem.W.occ_nil_of_no]
   . rfl
   . intro i hi;have hi:i+1<=10:=hi;rw [sub_one _ _ _ (show i<10 by omega)];have:i=0\/i=1\/i=2\/i=3\/i=4\/i=5\/i=6\/i=7\/i=8\/i=9:=by omega
     rcases this with rfl | rfl | rfl | rfl | rfl | rfl | rfl | rfl | rfl | rfl <;> (show (some _==some c)=false;simp;omega)
theorem sw_one(x:Str)(c:Nat):Txt.startswith x ⟨#[c]⟩=(x.cps.toList.head? ==some c):=by
 unfold Txt.startswith;obtain ⟨⟨l⟩⟩:=x
 cases l with
 | nil=>rfl
 | cons d r=>
  rw [sub_one _ _ _ (show 0<(d::r).length by simp)];show (decide (0+1<=(d::r).length) && _)=_;simp
theorem slice1{x:Str}{c:Nat}{cs:List Nat}(h:x.cps.toList=c::cs):(Txt.slice x (some 1) none).cps.toList=cs:=by
 rw [str_ext h]
 have hi:strSliceIndices (some 1) none 1 (cs.length+1)=(List.range cs.length).map fun k=>1+k:=by
  unfold strSliceIndices sliceRange;simp only [show (1:Int)>0 by decide,if_true,show ¬(1:Int)<0 by decide,if_false];have e1:max 0 (min (1:Int) ((cs.length+1:Nat):Int))=1:=by omega
  rw [e1]
  by_cases h0:cs.length=0
  . rw [h0];decide
  . rw [if_pos (by omega)];have e2:((((cs.length+1:Nat):Int) - 1+1 - 1) / 1).toNat=cs.length:=by omega
    rw [e2];refine List.map_congr_left fun k _=> ?_;omega
 unfold Txt.slice;show (if ((1:Int)==1 && (strSliceIndices (some 1) none 1 (cs.length+1)).length==(cs.length+1))=true then _ else _:Str).cps.toList=cs;rw [hi,if_neg (by simp)];show (List.filterMap (fun x:Nat=>(c::cs).toArray[x]?) (strSliceIndices (some 1) none 1 (cs.length+1))).toArray.toList=cs;rw [hi,List.filterMap_map]
 have key:∀n,n<=cs.length->List.filterMap ((fun x:Nat=>(c::cs).toArray[x]?) ∘ fun k=>1+k) (List.range n)=cs.take n:=by
  intro n
  induction n with
  | zero=>intro _;rfl
  | succ n ih=>
   intro hn;rw [List.range_succ,List.filterMap_append,ih (by omega),List.take_add_one];congr 1
   simp only [List.filterMap_cons,List.filterMap_nil,Function.comp];rw [Nat.add_comm 1 n];simp [show n<cs.length by omega]
 rw [key _ (Nat.le_refl _),List.take_length]
def fig(x:Str):Str:=if Txt.startswith x "-" = true then Txt.slice x (some 1) none else x
def numOk(x:Str):Bool:= !(decide (fig x = "") || (decide (12<(fig x).length) || !((fig x).cps.toList.all isDg))) && (decide (x = "0") || !Txt.startswith (fig x) "0")
theorem dg_all{l:List Nat}(h:l.all isDg=true):AllDigits l:=fun c hc=>by
 have:=List.all_eq_true.mp h c hc;unfold isDg at this
 simpa using this
theorem num_int{x:Str}(h:numOk x=true):∃n:Int,PySem.intText? x=some n/\x.length<=13/\(0<=n->n<=4->x ∈ fives):=by
 unfold numOk at h
 simp only [Bool.and_eq_true,Bool.not_eq_true',Bool.or_eq_false_iff,decide_eq_false_iff_not,Bool.not_eq_false',Bool.or_eq_true,decide_eq_true_eq,Bool.not_eq_true'] at h
 obtain ⟨⟨h1,h2,h3⟩,h4⟩:=h;have d3:=dg_all h3;have em:(Str.ofString "")=⟨#[]⟩:=by decide +kernel
 have hne:(fig x).cps.toList ≠ []:=fun e=>h1 (by rw [em];exact str_ext e);have hln:(fig x).cps.toList.length=(fig x).length:=Array.length_toList;have o0:(Str.ofString "0")=⟨#[48]⟩:=by decide +kernel
 have om:(Str.ofString "-")=⟨#[45]⟩:=by decide +kernel
 by_cases hs:Txt.startswith x "-" = true
 . have ef:fig x=Txt.slice x (some 1) none:=if_pos hs;rw [om,sw_one] at hs
   cases hx:x.cps.toList with
   | nil=>rw [hx] at hs;cases hs
   | cons c cs=>
    rw [hx] at hs
    have hc:c=45:=by simpa using hs
    subst hc;have es:=slice1 hx;rw [<-ef] at es
    have hl:x.length=cs.length+1:=by
     have:x.cps.toList.length=x.length:=Array.length_toList;rw [hx] at this
     simpa using this.symm
    rw [es] at hne d3 hln
    refine ⟨_,intText_neg hx d3 hne (by omega),by omega,fun a b=> ?_⟩;rcases h4 with h4 | h4
    . rw [h4,o0] at hx;cases hx
    . rw [o0,sw_one,es] at h4
      cases cs with
      | nil=>exact absurd rfl hne
      | cons d r=>
       have hd:=d3 d List.mem_cons_self;have:d≠48:=by simpa using h4
       have:=digitsVal_pos (c:=d) (cs:=r) (by omega);omega
 . have ef:fig x=x:=if_neg hs;rw [ef] at hne d3 hln h2 h4
   refine ⟨_,intText_digits d3 hne (by omega),by omega,fun _ b=> ?_⟩;rcases h4 with h4 | h4
   . rw [h4];exact List.mem_cons_self
   . rw [o0,sw_one] at h4
     cases hx:x.cps.toList with
     | nil=>exact absurd hx hne
     | cons c cs=>
      rw [hx] at d3 h4 b
      have hc:=d3 c List.mem_cons_self;have hc':c≠48:=by simpa using h4
      cases cs with
      | cons d r=>
       have:(c - 48)*10<=digitsVal (c::d::r):=by
        show _<=List.foldl _ ((0*10+(c - 48))*10+(d - 48)) r;have:=foldl_ge r ((0*10+(c - 48))*10+(d - 48));omega
       omega
      | nil=>
       have e:digitsVal [c]=c - 48:=by show 0*10+(c - 48)=_;omega
       rw [e] at b
       rw [str_ext hx];have:c=49\/c=50\/c=51\/c=52:=by omega
       rcases this with rfl | rfl | rfl | rfl <;> decide +kernel
theorem five_num:∀x ∈ fives,numOk x=true:=by decide +kernel
theorem five_val:∀x ∈ fives,∃n:Int,PySem.intText? x=some n/\0<=n/\n<=4:=by
 intro x hx;have h:x=("0" : Str)\/x=("1" : Str)\/x=("2" : Str)\/x=("3" : Str)\/x=("4" : Str):=by simpa [fives] using hx
 rcases h with rfl | rfl | rfl | rfl | rfl
 . exact ⟨0,by decide +kernel,by decide,by decide⟩
 . exact ⟨1,by decide +kernel,by decide,by decide⟩
 . exact ⟨2,by decide +kernel,by decide,by decide⟩
 . exact ⟨3,by decide +kernel,by decide,by decide⟩
 . exact ⟨4,by decide +kernel,by decide,by decide⟩
theorem split_ne(a b:Str):Txt.split a b ≠ []:=by
 unfold Txt.split
 split
 . simp
 . split
   . simp
   . intro h;have:=length_partsBetween a (occurrences a b 0 a.length (a.length+1)) b.length;rw [h] at this
     simp at this
theorem split_len(a b:Str):∀x ∈ Txt.split a b,x.length<=a.length:=by
 unfold Txt.split
 split
 . simp
 . split
   . simp
   . intro x hx;simp only [partsBetween,List.mem_map] at hx
     obtain ⟨⟨i,j⟩,_,rfl⟩:=hx;exact strSub_length_le ..
def Ok(n:Nat)(x:Str):Prop:=x.length<=n/\PyData.strOk x=true
theorem ok_iff{x:Str}:PyData.strOk x=true↔∀c ∈ x.cps.toList,c<0x110000:=by
 obtain ⟨⟨l⟩⟩:=x;unfold PyData.strOk;simp
theorem ok_sub{x y:Str}(h:PyData.strOk x=true)(k:∀c ∈ y.cps.toList,c ∈ x.cps.toList):PyData.strOk y=true:=ok_iff.mpr fun c hc=>ok_iff.mp h c (k c hc)
theorem ok_app{x y:Str}(h:PyData.strOk x=true)(k:PyData.strOk y=true):PyData.strOk (x++y)=true:=by
 refine ok_iff.mpr fun c hc=> ?_;have hc:c ∈ (x.cps++y.cps).toList:=hc;rw [Array.toList_append] at hc
 rcases List.mem_append.mp hc with z | z
 . exact ok_iff.mp h c z
 . exact ok_iff.mp k c z
theorem ok_q18{x:Str}(h:PyData.strOk x=true)(l u:Option Int):PyData.strOk (Txt.slice x l u)=true:=by
 unfold Txt.slice
 split
 . exact h
 . refine ok_sub h fun c hc=> ?_;have hc:c ∈ (List.filterMap (fun i=>x.cps[i]?) (strSliceIndices l u 1 x.length)).toArray.toList:=hc;obtain ⟨i,_,e⟩:=List.mem_filterMap.mp (by simpa using hc);exact Array.mem_toList_iff.mpr (Array.mem_of_getElem? e)
theorem ok_q19{a b:Str}(h:PyData.strOk a=true):∀x ∈ Txt.split a b,PyData.strOk x=true:=by
 unfold Txt.split
 split
 . intro x hx;cases List.mem_singleton.mp hx;exact h
 . split
   . intro x hx;cases List.mem_singleton.mp hx;exact h
   . intro x hx;simp only [partsBetween,List.mem_map] at hx
     obtain ⟨⟨i,j⟩,_,rfl⟩:=hx;refine ok_sub h fun c hc=> ?_;have hc:c ∈ (a.cps.extract i j).toList:=hc;obtain ⟨k,hk,rfl⟩:=Array.mem_extract_iff_getElem.mp (Array.mem_toList_iff.mp hc);exact Array.mem_toList_iff.mpr (Array.getElem_mem _)
theorem ok_q10{s:Str}(h:PyData.strOk s=true):∀ {l:List Str},(∀x ∈ l,PyData.strOk x=true)->PyData.strOk (Txt.join s l)=true:=by
 intro l hl;show PyData.strOk (glued s l)=true;rw [StrLaws.glued_eq_join]
 induction l with
 | nil=>exact (show PyData.strOk Str.empty=true by decide +kernel)
 | cons x r ih=>
  cases r with
  | nil=>exact hl x (by simp)
  | cons y r=>exact ok_app (ok_app (hl x (by simp)) h) (ih fun z hz=>hl z (by simp [hz]))
theorem join_len(s:Str)(l:List Str){k:Nat}(h:∀x ∈ l,x.length<=k):(Txt.join s l).length<=l.length*(k+s.length):=by
 show (glued s l).length<=_;rw [StrLaws.glued_eq_join];refine Nat.le_trans (StrLaws.join_length_le s l) ?_
 have:(l.map (·.length)).sum<=l.length*k:=by
  induction l with
  | nil=>simp
  | cons x r ih=>
   have a:=h x (by simp);have b:=ih fun y hy=>h y (by simp [hy]);rw [List.map_cons,List.sum_cons,List.length_cons,Nat.succ_mul];omega
 rw [Nat.mul_add];omega
theorem join_ok(s:Str)(l:List Str){k:Nat}(h:∀x ∈ l,x.length<=k)(hk:l.length*(k+s.length)<=100000):JoinOk s l=true:=by
 unfold JoinOk;rw [StrLaws.joinTotal]
 have:(l.map (·.length)).sum<=l.length*k:=by
  induction l with
  | nil=>simp
  | cons x r ih=>
   have a:=h x (by simp);have b:=ih (fun y hy=>h y (by simp [hy])) (Nat.le_trans (Nat.mul_le_mul_right _ (Nat.le_succ _)) hk);rw [List.map_cons,List.sum_cons,List.length_cons,Nat.succ_mul];omega
 rw [Nat.mul_add] at hk
 have e:tooLong ((l.map (·.length)).sum+l.length*s.length)=false:=by
  unfold tooLong;simp only [decide_eq_false_iff_not];have z:sizeLine=16777216:=rfl;omega
 rw [e];rfl
theorem split_ok{n:Nat}{a b:Str}(h:Ok n a):∀x ∈ Txt.split a b,Ok n x:=fun x hx=>⟨Nat.le_trans (split_len a b x hx) h.1,ok_q19 h.2 x hx⟩
end Tx
namespace K91
noncomputable section
open PySem L2 Tf Dm
def top (i : Nat) : Stmt := PySem.Challenge.pw_trialfield_k91_plans_as_texts.main.body.getD i (.Pass ⟨0, 0, 0, 0⟩)
structure Bl (mg:Str->Option Value):Prop where
 ValueError:mg "ValueError" = none
 all:mg "all" = none
 any:mg "any" = none
 bool:mg "bool" = none
 e:mg "e" = none
 int:mg "int" = none
 isinstance:mg "isinstance" = none
 len:mg "len" = none
 list:mg "list" = none
 max:mg "max" = none
 min:mg "min" = none
 range:mg "range" = none
 str:mg "str" = none
 tuple:mg "tuple" = none
structure Xf (K:PySem.W.Frag) (mg:Str->Option Value) (c_TrialError c_NoEffect c_NoText c_NoRow c_NoThing c_NoFit:Addr):Prop where
 m_TrialError:mg "TrialError" = some (.ref c_TrialError)
 m_NoEffect:mg "NoEffect" = some (.ref c_NoEffect)
 m_NoText:mg "NoText" = some (.ref c_NoText)
 m_NoRow:mg "NoRow" = some (.ref c_NoRow)
 m_NoThing:mg "NoThing" = some (.ref c_NoThing)
 m_NoFit:mg "NoFit" = some (.ref c_NoFit)
 xc:XCls K c_NoText
 ex:PySem.W.excIn K c_NoText bmV "ValueError.__new__" = true
 em:PySem.W.exmOne K (.ref c_NoText) (.ref c_TrialError)=some true
 k_NoEffect:PySem.W.kitOne K (.ref c_NoText) (.ref c_NoEffect)=some false
 k_NoRow:PySem.W.kitOne K (.ref c_NoText) (.ref c_NoRow)=some false
 k_NoThing:PySem.W.kitOne K (.ref c_NoText) (.ref c_NoThing)=some false
 k_NoFit:PySem.W.kitOne K (.ref c_NoText) (.ref c_NoFit)=some false
 k_NoText:PySem.W.kitOne K (.ref c_NoText) (.ref c_NoText)=some true
 kb_ValueError:PySem.W.kitOne K (.ref c_NoText) (.type "ValueError")=some true
abbrev s_q9:Stmt:=top 13
theorem sc_q9:FnScope ["word","figures"] ["word"] (defScope s_q9):=⟨rfl,rfl,rfl,by decide +kernel,rfl,by decide +kernel,by decide +kernel⟩
abbrev s_q12:Stmt:=top 14
theorem sc_q12:FnScope ["word"] ["word"] (defScope s_q12):=⟨rfl,rfl,rfl,by decide +kernel,rfl,by decide +kernel,by decide +kernel⟩
abbrev s_q13:Stmt:=top 15
theorem sc_q13:FnScope ["words","least","most","numbers"] ["words","least","most"] (defScope s_q13):=⟨rfl,rfl,rfl,by decide +kernel,rfl,by decide +kernel,by decide +kernel⟩
abbrev s_q11:Stmt:=top 16
theorem sc_q11:FnScope ["text","separator"] ["text","separator"] (defScope s_q11):=⟨rfl,rfl,rfl,by decide +kernel,rfl,by decide +kernel,by decide +kernel⟩
abbrev s_q15:Stmt:=top 17
theorem sc_q15:FnScope ["text"] ["text"] (defScope s_q15):=⟨rfl,rfl,rfl,by decide +kernel,rfl,by decide +kernel,by decide +kernel⟩
abbrev s_q14:Stmt:=top 18
theorem sc_q14:FnScope ["text","plan"] ["text"] (defScope s_q14):=⟨rfl,rfl,rfl,by decide +kernel,rfl,by decide +kernel,by decide +kernel⟩
abbrev s_q16:Stmt:=top 19
theorem sc_q16:FnScope ["numbers"] ["numbers"] (defScope s_q16):=⟨rfl,rfl,rfl,by decide +kernel,rfl,by decide +kernel,by decide +kernel⟩
abbrev s_q17:Stmt:=top 20
theorem sc_q17:FnScope ["plan"] ["plan"] (defScope s_q17):=⟨rfl,rfl,rfl,by decide +kernel,rfl,by decide +kernel,by decide +kernel⟩
abbrev s_q8:Stmt:=top 22
theorem sc_q8:FnScope ["_law_found"] ["_law_found"] (defScope s_q8):=⟨rfl,rfl,rfl,by decide +kernel,rfl,by decide +kernel,by decide +kernel⟩
abbrev s_q1:Stmt:=top 23
theorem sc_q1:FnScope ["_law_cell","_law_j","_law_number"] ["_law_cell","_law_j"] (defScope s_q1):=⟨rfl,rfl,rfl,by decide +kernel,rfl,by decide +kernel,by decide +kernel⟩
abbrev s_q3:Stmt:=top 24
theorem sc_q3:FnScope ["_law_cells","_law_at","_law_cell","_law_size","_law_many","_law_steps","_law_found","_law_k","_law_there","_law_short"] ["_law_cells","_law_at"] (defScope s_q3):=⟨rfl,rfl,rfl,by decide +kernel,rfl,by decide +kernel,by decide +kernel⟩
abbrev s_q6:Stmt:=top 25
theorem sc_q6:FnScope ["_law_plan_here"] ["_law_plan_here"] (defScope s_q6):=⟨rfl,rfl,rfl,by decide +kernel,rfl,by decide +kernel,by decide +kernel⟩
abbrev s_q2:Stmt:=top 26
theorem sc_q2:FnScope ["_law_cell","_law_some"] ["_law_cell"] (defScope s_q2):=⟨rfl,rfl,rfl,by decide +kernel,rfl,by decide +kernel,by decide +kernel⟩
abbrev s_q5:Stmt:=top 27
theorem sc_q5:FnScope ["_law_text_here","_law_cell","_law_signs","_law_way","_law_at","_law_sign"] ["_law_text_here","_law_cell"] (defScope s_q5):=⟨rfl,rfl,rfl,by decide +kernel,rfl,by decide +kernel,by decide +kernel⟩
abbrev s_q7:Stmt:=top 28
theorem sc_q7:FnScope ["_law_text_here","_law_found","_law_piece","_law_words","_law_word"] ["_law_text_here"] (defScope s_q7):=⟨rfl,rfl,rfl,by decide +kernel,rfl,by decide +kernel,by decide +kernel⟩
abbrev s_q0:Stmt:=top 29
theorem sc_q0:FnScope ["_law_found","_law_due","_law_trial"] ["_law_found","_law_due"] (defScope s_q0):=⟨rfl,rfl,rfl,by decide +kernel,rfl,by decide +kernel,by decide +kernel⟩
abbrev s_q4:Stmt:=top 30
theorem sc_q4:FnScope ["_law_text_here","_law_due","_law_error","_law_found","e"] ["_law_text_here"] (defScope s_q4):=⟨rfl,rfl,rfl,by decide +kernel,rfl,by decide +kernel,by decide +kernel⟩
abbrev s_law:Stmt:=top 31
theorem sc_law:FnScope ["_law_script","_law_cells","_law_at","_law_plan_here","_law_text_here","_law_found"] ["_law_script"] (defScope s_law):=⟨rfl,rfl,rfl,by decide +kernel,rfl,by decide +kernel,by decide +kernel⟩
def c_FIGURES:PyData:= .str "0123456789"
def c_MOST_FIGURES:PyData:= .int 12
def c_MOST_STEP:PyData:= .int 4
def c_MOST_THINGS:PyData:= .int 6
def c_MOST_TRIALS:PyData:= .int 150
section
variable {P:Program} {w:World} {K:PySem.W.Frag} {mg:Str->Option Value} {base:Heap} {f:Addr} {fd:FuncData} {c_TrialError:Addr} {c_NoEffect:Addr} {c_NoText:Addr} {c_NoRow:Addr} {c_NoThing:Addr} {c_NoFit:Addr}
def b_q9 : En -> Option Out :=
 (mSeq (mAsg 1 (mIfE (mTest (mBin dSw (mPk 0) (mK (.str "-")))) (mSlX (mPk 0) (mPart (mK (.int 1))) mNoPart) (mVar 0)))
 (mSeq (mFrz 1 (mIf (mOr (mTest (mBin deq (mPk 1) (mK (.str "")))) (mOr (mTest (mBin dGt (mCallP dLenX (mConsP (mPk 1) mNilP)) (mK c_MOST_FIGURES))) (mNot (mTest (mCallP dAll (mConsP (mLC (subE [none]) (mItX (mVar 1)) (gVar 0) mYes (mBin dInX (mPk 0) (mK c_FIGURES))) mNilP)))))) (mRet (mK (.bool false))) mNext))
 (mRet (mOrV (mBin deq (mPk 0) (mK (.str "0"))) (mNotV (mBin dSw (mPk 1) (mK (.str "0"))))))))
def m_q9:List PyData->Option Sl:=runD 2 b_q9 1
theorem ok_q9 (B:Bl mg) (C_FIGURES:GlobC K mg "FIGURES" c_FIGURES) (C_MOST_FIGURES:GlobC K mg "MOST_FIGURES" c_MOST_FIGURES) (F:Fun K "is_number" "is_number" s_q9 f fd):FnOk P w K mg base CX0 1 f fd ["word"] (spD K m_q9):=by
 have sc:=sc_q9
 exact fnD F sc_q9 rfl rfl fun cdv A outer s H E hr=>
  (dss_cons (ds_set 1 (de_ifE (dt_val (DE.dp (de_sw (dp_var 0) (DE.dp de_str)))) (de_slX (dp_var 0) (do_some (DE.dp de_int)) do_none) (de_var 0)) sc.nd)
  (dss_cons (ds_frz 1 (ds_if (dt_w (dw_or (dt_eq hr.units (dp_var 1) (DE.dp de_str)) (dw_or (dt_gt (DE.dp (de_lenX B.len (dq_cons (dp_var 1) dq_nil))) (DE.dp (de_globC C_MOST_FIGURES))) (dw_or1 (dt_not (dt_val (DE.dp (de_blt (call_all rfl) cd_all bt_all B.all (dq_cons (DE.dp (de_lc (N':= ["sign"]) (R':=PR K) cx_scope1 cx_names1 [none] (subE [none]) pr_sub (di_str (de_var 1)) (fun _=>(dgk_name 0 (show List.Nodup (α:=Str) ["sign"] by decide +kernel))) (fun _=>dts_nil) (fun _=>(de_inX (dp_var 0) (DE.dp (de_globC C_FIGURES)))))) dq_nil))))))))) (dss_one (ds_ret de_bool)) dss_nil))
  (dss_one (ds_ret (de_or (de_eq hr.units (dp_var 0) (DE.dp de_str)) (de_or1 (de_not (de_sw (dp_var 1) (DE.dp de_str)))))))))
def b_q12 : En -> Option (Option Out) :=
 (mSqx (mIfx (mNot (mTest (mCall m_q9 (mCons (mVar 0) mNil)))) (mRseE (mK (.str "this is no whole number in the form told"))) (mLf mNext))
 (mLf (mRet (mCallP dIntS (mConsP (mPk 0) mNilP)))))
def m_q12:List PyData->Option (Option Sl):=runX 1 b_q12 1
theorem ok_q12 (B:Bl mg) (D_q9:Def P w K mg base 1 "is_number" ["word"] (spD K m_q9)) (Y:Xf K mg c_TrialError c_NoEffect c_NoText c_NoRow c_NoThing c_NoFit) (F:Fun K "read_number" "read_number" s_q12 f fd):FnOk P w K mg base (CXe P w c_NoText) 2 f fd ["word"] (spX K m_q12):=by
 have sc:=sc_q12
 exact fnX F sc_q12 rfl rfl fun cdv A outer s H E hr=>
  (dx_if (dt_not (dt_val (DE.dp (de_call D_q9 hr (da_cons (de_var 0) da_nil))))) (dx_raiseE de_str Y.m_NoText Y.ex) (dx_of dss_nil)
  (dx_of (dss_one (ds_ret (de_intS B.int (dq_cons (dp_var 0) dq_nil))))))
def b_q13 : En -> Option (Option Out) :=
 (mSqx (mAsgx 3 (mLCx (subE [none]) (mItx (mItemsS (mVar 0))) (gVar 0) (mCallx m_q12 (mCons (mVar 0) mNil))))
 (mSqx (mIfx (mOr (mTest (mBin dLt (mCallP dMinL (mConsP (mPk 3) mNilP)) (mPk 1))) (mTest (mBin dGt (mCallP dMaxLi (mConsP (mPk 3) mNilP)) (mPk 2)))) (mRseE (mFsI 1 2)) (mLf mNext))
 (mLf (mRet (mPk 3)))))
def m_q13:List PyData->Option (Option Sl):=runX 4 b_q13 3
theorem ok_q13 (B:Bl mg) (D_q12:DefX P w K mg base c_NoText 2 "read_number" ["word"] (spX K m_q12)) (Y:Xf K mg c_TrialError c_NoEffect c_NoText c_NoRow c_NoThing c_NoFit) (F:Fun K "read_numbers" "read_numbers" s_q13 f fd):FnOk P w K mg base (CXe P w c_NoText) 3 f fd ["words","least","most"] (spX K m_q13):=by
 have sc:=sc_q13
 exact fnX F sc_q13 rfl rfl fun cdv A outer s H E hr=>
  (dx_setCb (N':= ["word"]) (R':=PR K) 3 [none] (subE [none]) pr_sub sc.nd (dix_of (di_seq (de_var 0))) (fun _=>(dgk_name 0 (show List.Nodup (α:=Str) ["word"] by decide +kernel))) (fun _ hb=>(dex_call D_q12 (passB hb) hr (da_cons (de_var 0) da_nil)))
  (dx_if (dt_w (dw_or (dt_lt (DE.dp (de_blt (call_minL rfl) cd_minL bt_min B.min (dq_cons (dp_var 3) dq_nil))) (dp_var 1)) (dw_or1 (dt_gt (DE.dp (de_blt (call_maxLi rfl) cd_maxLi bt_max B.max (dq_cons (dp_var 3) dq_nil))) (dp_var 2))))) (dx_raiseI 1 2 Y.m_NoText Y.ex) (dx_of dss_nil)
  (dx_of (dss_one (ds_retV 3)))))
def b_q11 : En -> Option (Option Out) :=
 (mSqx (mIfx (mNot (mTest (mIsi "str" (mPk 0)))) (mRseE (mK (.str "this is no text"))) (mLf mNext))
 (mLf (mRet (mBin dSplit (mPk 0) (mPk 1)))))
def m_q11:List PyData->Option (Option Sl):=runX 2 b_q11 2
theorem ok_q11 (B:Bl mg) (Y:Xf K mg c_TrialError c_NoEffect c_NoText c_NoRow c_NoThing c_NoFit) (F:Fun K "parts_of" "parts_of" s_q11 f fd):FnOk P w K mg base (CXe P w c_NoText) 1 f fd ["text","separator"] (spX K m_q11):=by
 have sc:=sc_q11
 exact fnX F sc_q11 rfl rfl fun cdv A outer s H E hr=>
  (dx_if (dt_not (dt_val (DE.dp (de_isi bt_str B.str B.isinstance (dp_var 0))))) (dx_raiseE de_str Y.m_NoText Y.ex) (dx_of dss_nil)
  (dx_of (dss_one (ds_ret (de_split (dp_var 0) (dp_var 1))))))
def b_q15 : En -> Option (Option Out) :=
 (mRetx (mCallPx dTuple (mCallx m_q13 (mCons (mBin dSplit (mPk 0) (mK (.str " "))) (mCons (mK (.int 0)) (mCons (mK c_MOST_STEP) mNil))))))
def m_q15:List PyData->Option (Option Sl):=runX 1 b_q15 1
theorem ok_q15 (B:Bl mg) (D_q13:DefX P w K mg base c_NoText 3 "read_numbers" ["words","least","most"] (spX K m_q13)) (C_MOST_STEP:GlobC K mg "MOST_STEP" c_MOST_STEP) (Y:Xf K mg c_TrialError c_NoEffect c_NoText c_NoRow c_NoThing c_NoFit) (F:Fun K "read_trial" "read_trial" s_q15 f fd):FnOk P w K mg base (CXe P w c_NoText) 4 f fd ["text"] (spX K m_q15):=by
 have sc:=sc_q15
 exact fnX F sc_q15 rfl rfl fun cdv A outer s H E hr=>
  (dx_ret (dex_tuple B.tuple (dex_call D_q13 pass_b hr (da_cons (de_split (dp_var 0) (DE.dp de_str)) (da_cons de_int (da_cons (de_globC C_MOST_STEP) da_nil))))))
def b_q14 : En -> Option (Option Out) :=
 (mSqx (mAsgx 1 (mLCx (subE [none]) (mItemsx (mCallx m_q11 (mCons (mVar 0) (mCons (mK (.str "; ")) mNil)))) (gVar 0) (mCallx m_q15 (mCons (mVar 0) mNil))))
 (mSqx (mIfx (mTest (mBin dGt (mCallP dLen (mConsP (mPk 1) mNilP)) (mK c_MOST_TRIALS))) (mRseE (mK (.str "too many trials"))) (mLf mNext))
 (mFrzX 1 (mSqx (mIfx (mOr (mTest (mBin dGt (mCallP dLen (mConsP (mBin dix (mPk 1) (mK (.int 0))) mNilP)) (mK c_MOST_THINGS))) (mTest (mCallP dAny (mConsP (mLC (subE [some 1,none]) (mItemsS (mVar 1)) (gVar 1) mYes (mBin dne (mCallP dLen (mConsP (mPk 1) mNilP)) (mCallP dLen (mConsP (mBin dix (mPk 0) (mK (.int 0))) mNilP)))) mNilP)))) (mRseE (mK (.str "trials of too many steps, or of unlike many"))) (mLf mNext))
 (mLf (mRet (mPk 1)))))))
def m_q14:List PyData->Option (Option Sl):=runX 2 b_q14 1
theorem ok_q14 (B:Bl mg) (D_q11:DefX P w K mg base c_NoText 1 "parts_of" ["text","separator"] (spX K m_q11)) (D_q15:DefX P w K mg base c_NoText 4 "read_trial" ["text"] (spX K m_q15)) (C_MOST_THINGS:GlobC K mg "MOST_THINGS" c_MOST_THINGS) (C_MOST_TRIALS:GlobC K mg "MOST_TRIALS" c_MOST_TRIALS) (Y:Xf K mg c_TrialError c_NoEffect c_NoText c_NoRow c_NoThing c_NoFit) (F:Fun K "read_plan" "read_plan" s_q14 f fd):FnOk P w K mg base (CXe P w c_NoText) 5 f fd ["text"] (spX K m_q14):=by
 have sc:=sc_q14
 exact fnX F sc_q14 rfl rfl fun cdv A outer s H E hr=>
  (dx_set 1 (dex_lcb (N':= ["part"]) (R':=PR K) [none] (subE [none]) pr_sub (dix_list (dex_call D_q11 pass_b hr (da_cons (de_var 0) (da_cons de_str da_nil)))) (fun _=>(dgk_name 0 (show List.Nodup (α:=Str) ["part"] by decide +kernel))) (fun _ hb=>(dex_call D_q15 (passB hb) hr (da_cons (de_var 0) da_nil))))
  (dx_if (dt_gt (DE.dp (de_blt call_len_seq cd_len bt_len B.len (dq_cons (dp_var 1) dq_nil))) (DE.dp (de_globC C_MOST_TRIALS))) (dx_raiseE de_str Y.m_NoText Y.ex) (dx_of dss_nil)
  (dx_frz 1 (dx_if (dt_w (dw_or (dt_gt (DE.dp (de_blt call_len_seq cd_len bt_len B.len (dq_cons (DE.dp (de_ix (dp_var 1) (DE.dp de_int))) dq_nil))) (DE.dp (de_globC C_MOST_THINGS))) (dw_or1 (dt_val (DE.dp (de_blt (call_any rfl) cd_any bt_any B.any (dq_cons (DE.dp (de_lc (N':= ["plan","trial"]) (R':=PR K) cx_scope1x cx_names1x [some 1,none] (subE [some 1,none]) pr_sub (di_seq (de_var 1)) (fun _=>(dgk_name 1 (show List.Nodup (α:=Str) ["plan","trial"] by decide +kernel))) (fun _=>dts_nil) (fun _=>(de_ne hr.units (DE.dp (de_blt call_len_seq cd_len bt_len B.len (dq_cons (dp_var 1) dq_nil))) (DE.dp (de_blt call_len_seq cd_len bt_len B.len (dq_cons (DE.dp (de_ix (dp_var 0) (DE.dp de_int))) dq_nil))))))) dq_nil))))))) (dx_raiseE de_str Y.m_NoText Y.ex) (dx_of dss_nil)
  (dx_of (dss_one (ds_retV 1)))))) sc.nd)
def b_q16 : En -> Option Out :=
 (mRet (mBin dJoin (mK (.str " ")) (mLC (subE [none]) (mItemsS (mVar 0)) (gVar 0) mYes (mCallP dStrI (mConsP (mPk 0) mNilP)))))
def m_q16:List PyData->Option Sl:=runD 1 b_q16 1
theorem ok_q16 (B:Bl mg) (F:Fun K "show_numbers" "show_numbers" s_q16 f fd):FnOk P w K mg base CX0 1 f fd ["numbers"] (spD K m_q16):=by
 have sc:=sc_q16
 exact fnD F sc_q16 rfl rfl fun cdv A outer s H E hr=>
  (dss_one (ds_ret (de_join (DE.dp de_str) (DE.dp (de_lc (N':= ["number"]) (R':=PR K) cx_scope1 cx_names1 [none] (subE [none]) pr_sub (di_seq (de_var 0)) (fun _=>(dgk_name 0 (show List.Nodup (α:=Str) ["number"] by decide +kernel))) (fun _=>dts_nil) (fun _=>(de_strI B.str (dq_cons (dp_var 0) dq_nil))))))))
def b_q17 : En -> Option Out :=
 (mRet (mBin dJoin (mK (.str "; ")) (mLC (subE [none]) (mItemsS (mVar 0)) (gVar 0) mYes (mCall m_q16 (mCons (mVar 0) mNil)))))
def m_q17:List PyData->Option Sl:=runD 1 b_q17 1
theorem ok_q17 (B:Bl mg) (D_q16:Def P w K mg base 1 "show_numbers" ["numbers"] (spD K m_q16)) (F:Fun K "show_plan" "show_plan" s_q17 f fd):FnOk P w K mg base CX0 2 f fd ["plan"] (spD K m_q17):=by
 have sc:=sc_q17
 exact fnD F sc_q17 rfl rfl fun cdv A outer s H E hr=>
  (dss_one (ds_ret (de_join (DE.dp de_str) (DE.dp (de_lc (N':= ["trial"]) (R':=PR K) cx_scope1 cx_names1 [none] (subE [none]) pr_sub (di_seq (de_var 0)) (fun _=>(dgk_name 0 (show List.Nodup (α:=Str) ["trial"] by decide +kernel))) (fun _=>dts_nil) (fun _=>(de_call D_q16 hr (da_cons (de_var 0) da_nil))))))))
def b_q8 : En -> Option Out :=
 (mRet (mAndV (mIsi "int" (mPk 0)) (mNotV (mIsi "bool" (mPk 0)))))
def m_q8:List PyData->Option Sl:=runD 1 b_q8 1
theorem ok_q8 (B:Bl mg) (F:Fun K "_law_whole" "_law_whole" s_q8 f fd):FnOk P w K mg base CX0 1 f fd ["_law_found"] (spD K m_q8):=by
 have sc:=sc_q8
 exact fnD F sc_q8 rfl rfl fun cdv A outer s H E hr=>
  (dss_one (ds_ret (de_and (de_isi bt_int B.int B.isinstance (dp_var 0)) (de_and1 (de_not (de_isi bt_bool B.bool B.isinstance (dp_var 0)))))))
def b_q1 : En -> Option Out :=
 (mSeq (mIf (mTest (mBin deq (mBin dMod (mPk 0) (mK (.int 2))) (mK (.int 1)))) (mRet (mBin dMod (mBin dShr (mPk 0) (mBin dAdd (mK (.int 1)) (mBin dRep (mK (.int 10)) (mPk 1)))) (mK (.int 1024)))) mNext)
 (mSeq (mAsg 2 (mBin dMod (mBin dAdd (mBin dRep (mPk 0) (mBin dAdd (mBin dRep (mK (.int 2)) (mPk 1)) (mK (.int 3)))) (mPk 1)) (mK (.int 2147483629))))
 (mSeq (mAsg 2 (mBin dMod (mBin dRep (mBin dAdd (mBin dRep (mPk 2) (mPk 2)) (mK (.int 1))) (mK (.int 48271))) (mK (.int 2147483629))))
 (mRet (mBin dMod (mBin dRep (mPk 2) (mPk 2)) (mK (.int 2147483587)))))))
def m_q1:List PyData->Option Sl:=runD 3 b_q1 2
theorem ok_q1 (B:Bl mg) (F:Fun K "_law_mix" "_law_mix" s_q1 f fd):FnOk P w K mg base CX0 1 f fd ["_law_cell","_law_j"] (spD K m_q1):=by
 have sc:=sc_q1
 exact fnD F sc_q1 rfl rfl fun cdv A outer s H E hr=>
  (dss_cons (ds_if (dt_eq hr.units (DE.dp (de_mod (dp_var 0) (DE.dp de_int))) (DE.dp de_int)) (dss_one (ds_ret (de_mod (DE.dp (de_shr (dp_var 0) (DE.dp (de_add (DE.dp de_int) (DE.dp (de_mul (DE.dp de_int) (dp_var 1))))))) (DE.dp de_int)))) dss_nil)
  (dss_cons (ds_set 2 (de_mod (DE.dp (de_add (DE.dp (de_mul (dp_var 0) (DE.dp (de_add (DE.dp (de_mul (DE.dp de_int) (dp_var 1))) (DE.dp de_int))))) (dp_var 1))) (DE.dp de_int)) sc.nd)
  (dss_cons (ds_set 2 (de_mod (DE.dp (de_mul (DE.dp (de_add (DE.dp (de_mul (dp_var 2) (dp_var 2))) (DE.dp de_int))) (DE.dp de_int))) (DE.dp de_int)) sc.nd)
  (dss_one (ds_ret (de_mod (DE.dp (de_mul (dp_var 2) (dp_var 2))) (DE.dp de_int)))))))
def b_q3 : En -> Option Out :=
 (mSeq (mAsg 2 (mBin dix (mPk 0) (mPk 1)))
 (mSeq (mFrz 2 (mAsg 3 (mBin dix (mLst (mCons (mK (.int 1)) (mCons (mK (.int 2)) (mCons (mK (.int 3)) (mCons (mK (.int 4)) (mCons (mK (.int 5)) (mCons (mK (.int 6)) (mCons (mK (.int 2)) (mCons (mK (.int 7)) mNil))))))))) (mBin dMod (mCall m_q1 (mCons (mVar 2) (mCons (mK (.int 1)) mNil))) (mK (.int 8))))))
 (mSeq (mFrz 2 (mAsg 4 (mBin dAdd (mK (.int 1)) (mBin dMod (mCall m_q1 (mCons (mVar 2) (mCons (mK (.int 2)) mNil))) (mK (.int 4))))))
 (mSeq (mFrz 2 (mIf (mAnd (mTest (mBin deq (mPk 1) (mK (.int 0)))) (mTest (mBin deq (mBin dMod (mCall m_q1 (mCons (mVar 2) (mCons (mK (.int 3)) mNil))) (mK (.int 4))) (mK (.int 1))))) (mFrz 2 (mAsg 4 (mBin dAdd (mK (.int 150)) (mBin dMod (mCall m_q1 (mCons (mVar 2) (mCons (mK (.int 4)) mNil))) (mK (.int 2)))))) mNext))
 (mSeq (mFrz 2 (mAsg 5 (mBin dAdd (mK (.int 5)) (mCallP dInt (mConsP (mBin deq (mBin dMod (mCall m_q1 (mCons (mVar 2) (mCons (mK (.int 5)) mNil))) (mK (.int 8))) (mK (.int 1))) mNilP)))))
 (mSeq (mAsg 6 (mLst mNil))
 (mSeq (mFor (mRng1 (mConsP (mPk 4) mNilP)) (gVar 7) (mSeq (mAsg 8 (mBin dAdd (mBin dix (mPk 0) (mBin dMod (mBin dAdd (mPk 1) (mPk 7)) (mCallP dLen (mConsP (mPk 0) mNilP)))) (mBin dFdiv (mPk 7) (mK (.int 5)))))
 (mFrz 8 (mApp 6 (mCallP dTuple (mConsP (mLC (subE [some 8,some 5,none]) (mRng1 (mConsP (mPk 3) mNilP)) (gVar 2) mYes (mBin dMod (mCall m_q1 (mCons (mVar 0) (mCons (mBin dAdd (mK (.int 10)) (mPk 2)) mNil))) (mPk 1))) mNilP))))))
 (mSeq (mFrz 2 (mIf (mAnd (mTest (mBin deq (mBin dMod (mCall m_q1 (mCons (mVar 2) (mCons (mK (.int 6)) mNil))) (mK (.int 8))) (mK (.int 1)))) (mTest (mBin dGt (mPk 3) (mK (.int 1))))) (mSeq (mFrz 2 (mAsg 9 (mBin dMod (mCall m_q1 (mCons (mVar 2) (mCons (mK (.int 7)) mNil))) (mPk 4))))
 (mSet 6 (mPk 9) (mSl (mBin dix (mPk 6) (mPk 9)) (mPart (mK (.int 1))) mNoPart))) mNext))
 (mRet (mPk 6))))))))))
def m_q3:List PyData->Option Sl:=runD 10 b_q3 2
theorem ok_q3 (B:Bl mg) (D_q1:Def P w K mg base 1 "_law_mix" ["_law_cell","_law_j"] (spD K m_q1)) (F:Fun K "_law_plan" "_law_plan" s_q3 f fd):FnOk P w K mg base CX0 2 f fd ["_law_cells","_law_at"] (spD K m_q3):=by
 have sc:=sc_q3
 exact fnD F sc_q3 rfl rfl fun cdv A outer s H E hr=>
  (dss_cons (ds_set 2 (de_ix (dp_var 0) (dp_var 1)) sc.nd)
  (dss_cons (ds_frz 2 (ds_set 3 (de_ix (DE.dp (de_lst (da_cons de_int (da_cons de_int (da_cons de_int (da_cons de_int (da_cons de_int (da_cons de_int (da_cons de_int (da_cons de_int da_nil)))))))))) (DE.dp (de_mod (DE.dp (de_call D_q1 hr (da_cons (de_var 2) (da_cons de_int da_nil)))) (DE.dp de_int)))) sc.nd))
  (dss_cons (ds_frz 2 (ds_set 4 (de_add (DE.dp de_int) (DE.dp (de_mod (DE.dp (de_call D_q1 hr (da_cons (de_var 2) (da_cons de_int da_nil)))) (DE.dp de_int)))) sc.nd))
  (dss_cons (ds_frz 2 (ds_if (dt_w (dw_and (dt_eq hr.units (dp_var 1) (DE.dp de_int)) (dw_and1 (dt_eq hr.units (DE.dp (de_mod (DE.dp (de_call D_q1 hr (da_cons (de_var 2) (da_cons de_int da_nil)))) (DE.dp de_int))) (DE.dp de_int))))) (dss_one (ds_frz 2 (ds_set 4 (de_add (DE.dp de_int) (DE.dp (de_mod (DE.dp (de_call D_q1 hr (da_cons (de_var 2) (da_cons de_int da_nil)))) (DE.dp de_int)))) sc.nd))) dss_nil))
  (dss_cons (ds_frz 2 (ds_set 5 (de_add (DE.dp de_int) (DE.dp (de_ty call_int1 cd_int bt_int B.int (dq_cons (DE.dp (de_eq hr.units (DE.dp (de_mod (DE.dp (de_call D_q1 hr (da_cons (de_var 2) (da_cons de_int da_nil)))) (DE.dp de_int))) (DE.dp de_int))) dq_nil)))) sc.nd))
  (dss_cons (ds_set 6 (de_lst da_nil) sc.nd)
  (dss_cons (ds_for PassesOwn.never (di_range1 B.range (dq_cons (dp_var 4) dq_nil)) (dg_name 7 sc.nd) (dss_cons (ds_set 8 (de_add (DE.dp (de_ix (dp_var 0) (DE.dp (de_mod (DE.dp (de_add (dp_var 1) (dp_var 7))) (DE.dp (de_blt call_len_seq cd_len bt_len B.len (dq_cons (dp_var 0) dq_nil))))))) (DE.dp (de_fdiv (dp_var 7) (DE.dp de_int)))) sc.nd)
  (dss_one (ds_frz 8 (ds_app 6 (de_ty call_tuple_of cd_tuple bt_tuple B.tuple (dq_cons (DE.dp (de_lc (N':= ["_law_there","_law_steps","_law_j"]) (R':=PR K) cx_scope1 cx_names1 [some 8,some 5,none] (subE [some 8,some 5,none]) pr_sub (di_range1 B.range (dq_cons (dp_var 3) dq_nil)) (fun _=>(dgk_name 2 (show List.Nodup (α:=Str) ["_law_there","_law_steps","_law_j"] by decide +kernel))) (fun _=>dts_nil) (fun _=>(de_mod (DE.dp (de_call D_q1 hr (da_cons (de_var 0) (da_cons (de_add (DE.dp de_int) (dp_var 2)) da_nil)))) (dp_var 1))))) dq_nil)))))))
  (dss_cons (ds_frz 2 (ds_if (dt_w (dw_and (dt_eq hr.units (DE.dp (de_mod (DE.dp (de_call D_q1 hr (da_cons (de_var 2) (da_cons de_int da_nil)))) (DE.dp de_int))) (DE.dp de_int)) (dw_and1 (dt_gt (dp_var 3) (DE.dp de_int))))) (dss_cons (ds_frz 2 (ds_set 9 (de_mod (DE.dp (de_call D_q1 hr (da_cons (de_var 2) (da_cons de_int da_nil)))) (dp_var 4)) sc.nd))
  (dss_one (ds_setI 6 (de_sl (DE.dp (de_ix (dp_var 6) (dp_var 9))) (do_some (DE.dp de_int)) do_none) (dp_var 9)))) dss_nil))
  (dss_one (ds_retV 6))))))))))
def b_q6 : En -> Option Out :=
 (mRet (mBin dJoin (mK (.str "; ")) (mLC (subE [none]) (mItemsS (mVar 0)) (gVar 0) mYes (mBin dJoin (mK (.str " ")) (mLC (subE [none]) (mItemsS (mVar 0)) (gVar 0) mYes (mCallP dStrI (mConsP (mPk 0) mNilP)))))))
def m_q6:List PyData->Option Sl:=runD 1 b_q6 1
theorem ok_q6 (B:Bl mg) (F:Fun K "_law_text" "_law_text" s_q6 f fd):FnOk P w K mg base CX0 1 f fd ["_law_plan_here"] (spD K m_q6):=by
 have sc:=sc_q6
 exact fnD F sc_q6 rfl rfl fun cdv A outer s H E hr=>
  (dss_one (ds_ret (de_join (DE.dp de_str) (DE.dp (de_lc (N':= ["_law_trial"]) (R':=PR K) cx_scope1 cx_names1 [none] (subE [none]) pr_sub (di_seq (de_var 0)) (fun _=>(dgk_name 0 (show List.Nodup (α:=Str) ["_law_trial"] by decide +kernel))) (fun _=>dts_nil) (fun _=>(de_join (DE.dp de_str) (DE.dp (de_lc (N':= ["_law_step"]) (R':=PR K) cxC_scope cxC_names [none] (subE [none]) pr_sub (di_seq (de_var 0)) (fun _=>(dgk_name 0 (show List.Nodup (α:=Str) ["_law_step"] by decide +kernel))) (fun _=>dts_nil) (fun _=>(de_strI B.str (dq_cons (dp_var 0) dq_nil))))))))))))
def b_q2 : En -> Option Out :=
 (mSeq (mAsg 1 (mLst (mCons (mK (.str "")) (mCons (mK (.str " ")) (mCons (mK (.str ";")) (mCons (mK (.str "; ")) (mCons (mK (.str "0;")) (mCons (mK (.str "0; ")) (mCons (mK (.str "0;1")) (mCons (mK (.str "0 ;1")) (mCons (mK (.str "0 1; 2")) (mCons (mK (.str " 0")) (mCons (mK (.str "0 ")) (mCons (mK (.str "0\x20\x201")) (mCons (mK (.str "5")) (mCons (mK (.str "-1")) (mCons (mK (.str "00")) (mCons (mK (.str "01")) mNil))))))))))))))))))
 (mSeq (mAsg 1 (mBin dAdd (mPk 1) (mLst (mCons (mK (.str "0 1 2 3 4 0 1")) (mCons (mK (.str "0\n")) (mCons (mK .none) (mCons (mLst (mCons (mTup (mCons (mK (.int 0)) mNil)) mNil)) mNil)))))))
 (mRet (mBin dix (mPk 1) (mBin dMod (mCall m_q1 (mCons (mVar 0) (mCons (mK (.int 30)) mNil))) (mK (.int 20)))))))
def m_q2:List PyData->Option Sl:=runD 2 b_q2 1
theorem ok_q2 (B:Bl mg) (D_q1:Def P w K mg base 1 "_law_mix" ["_law_cell","_law_j"] (spD K m_q1)) (F:Fun K "_law_odd" "_law_odd" s_q2 f fd):FnOk P w K mg base CX0 2 f fd ["_law_cell"] (spD K m_q2):=by
 have sc:=sc_q2
 exact fnD F sc_q2 rfl rfl fun cdv A outer s H E hr=>
  (dss_cons (ds_set 1 (de_lst (da_cons de_str (da_cons de_str (da_cons de_str (da_cons de_str (da_cons de_str (da_cons de_str (da_cons de_str (da_cons de_str (da_cons de_str (da_cons de_str (da_cons de_str (da_cons de_str (da_cons de_str (da_cons de_str (da_cons de_str (da_cons de_str da_nil))))))))))))))))) sc.nd)
  (dss_cons (ds_set 1 (de_add (dp_var 1) (DE.dp (de_lst (da_cons de_str (da_cons de_str (da_cons de_none (da_cons (de_lst (da_cons (de_tup (da_cons de_int da_nil)) da_nil)) da_nil))))))) sc.nd)
  (dss_one (ds_ret (de_ix (dp_var 1) (DE.dp (de_mod (DE.dp (de_call D_q1 hr (da_cons (de_var 0) (da_cons de_int da_nil)))) (DE.dp de_int))))))))
def b_q5 : En -> Option Out :=
 (mSeq (mAsg 2 (mK (.str "\x20\x20\x20;;0123456-x,+\n\t")))
 (mSeq (mAsg 3 (mBin dMod (mCall m_q1 (mCons (mVar 1) (mCons (mK (.int 31)) mNil))) (mK (.int 8))))
 (mSeq (mAsg 4 (mBin dMod (mCall m_q1 (mCons (mVar 1) (mCons (mK (.int 32)) mNil))) (mBin dAdd (mCallP dLenX (mConsP (mPk 0) mNilP)) (mK (.int 1)))))
 (mSeq (mAsg 5 (mBin dIxX (mPk 2) (mBin dMod (mCall m_q1 (mCons (mVar 1) (mCons (mK (.int 33)) mNil))) (mCallP dLenX (mConsP (mPk 2) mNilP)))))
 (mSeq (mIf (mTest (mBin deq (mPk 3) (mK (.int 0)))) (mRet (mBin dAddX (mBin dAddX (mSlX (mPk 0) mNoPart (mPart (mPk 4))) (mPk 5)) (mSlX (mPk 0) (mPart (mPk 4)) mNoPart))) mNext)
 (mSeq (mIf (mTest (mBin deq (mPk 3) (mK (.int 1)))) (mRet (mBin dAddX (mSlX (mPk 0) mNoPart (mPart (mPk 4))) (mSlX (mPk 0) (mPart (mBin dAdd (mPk 4) (mK (.int 1)))) mNoPart))) mNext)
 (mSeq (mIf (mTest (mBin dLt (mPk 3) (mK (.int 5)))) (mRet (mBin dAddX (mBin dAddX (mSlX (mPk 0) mNoPart (mPart (mPk 4))) (mPk 5)) (mSlX (mPk 0) (mPart (mBin dAdd (mPk 4) (mK (.int 1)))) mNoPart))) mNext)
 (mSeq (mIf (mTest (mBin deq (mPk 3) (mK (.int 5)))) (mRet (mCall m_q2 (mCons (mVar 1) mNil))) mNext)
 (mRet (mPk 0))))))))))
def m_q5:List PyData->Option Sl:=runD 6 b_q5 2
theorem ok_q5 (B:Bl mg) (D_q1:Def P w K mg base 1 "_law_mix" ["_law_cell","_law_j"] (spD K m_q1)) (D_q2:Def P w K mg base 2 "_law_odd" ["_law_cell"] (spD K m_q2)) (F:Fun K "_law_spoiled" "_law_spoiled" s_q5 f fd):FnOk P w K mg base CX0 3 f fd ["_law_text_here","_law_cell"] (spD K m_q5):=by
 have sc:=sc_q5
 exact fnD F sc_q5 rfl rfl fun cdv A outer s H E hr=>
  (dss_cons (ds_set 2 de_str sc.nd)
  (dss_cons (ds_set 3 (de_mod (DE.dp (de_call D_q1 hr (da_cons (de_var 1) (da_cons de_int da_nil)))) (DE.dp de_int)) sc.nd)
  (dss_cons (ds_set 4 (de_mod (DE.dp (de_call D_q1 hr (da_cons (de_var 1) (da_cons de_int da_nil)))) (DE.dp (de_add (DE.dp (de_lenX B.len (dq_cons (dp_var 0) dq_nil))) (DE.dp de_int)))) sc.nd)
  (dss_cons (ds_set 5 (de_ixX (dp_var 2) (DE.dp (de_mod (DE.dp (de_call D_q1 hr (da_cons (de_var 1) (da_cons de_int da_nil)))) (DE.dp (de_lenX B.len (dq_cons (dp_var 2) dq_nil)))))) sc.nd)
  (dss_cons (ds_if (dt_eq hr.units (dp_var 3) (DE.dp de_int)) (dss_one (ds_ret (de_addX (DE.dp (de_addX (DE.dp (de_slX (dp_var 0) do_none (do_some (dp_var 4)))) (dp_var 5))) (DE.dp (de_slX (dp_var 0) (do_some (dp_var 4)) do_none))))) dss_nil)
  (dss_cons (ds_if (dt_eq hr.units (dp_var 3) (DE.dp de_int)) (dss_one (ds_ret (de_addX (DE.dp (de_slX (dp_var 0) do_none (do_some (dp_var 4)))) (DE.dp (de_slX (dp_var 0) (do_some (DE.dp (de_add (dp_var 4) (DE.dp de_int)))) do_none))))) dss_nil)
  (dss_cons (ds_if (dt_lt (dp_var 3) (DE.dp de_int)) (dss_one (ds_ret (de_addX (DE.dp (de_addX (DE.dp (de_slX (dp_var 0) do_none (do_some (dp_var 4)))) (dp_var 5))) (DE.dp (de_slX (dp_var 0) (do_some (DE.dp (de_add (dp_var 4) (DE.dp de_int)))) do_none))))) dss_nil)
  (dss_cons (ds_if (dt_eq hr.units (dp_var 3) (DE.dp de_int)) (dss_one (ds_ret (de_call D_q2 hr (da_cons (de_var 1) da_nil)))) dss_nil)
  (dss_one (ds_retV 0))))))))))
def b_q7 : En -> Option Out :=
 (mSeq (mIf (mNot (mTest (mIsi "str" (mPk 0)))) (mRet (mK .none)) mNext)
 (mSeq (mAsg 1 (mLst mNil))
 (mSeq (mFor (mItemsS (mBin dSplit (mPk 0) (mK (.str "; ")))) (gVar 2) (mSeq (mAsg 3 (mBin dSplit (mPk 2) (mK (.str " "))))
 (mSeq (mIf (mTest (mBin dGt (mCallP dLen (mConsP (mPk 3) mNilP)) (mK (.int 6)))) (mRet (mK .none)) mNext)
 (mSeq (mFrz 3 (mFor (mItemsS (mVar 3)) (gVar 4) (mIf (mTest (mBin (dInD true) (mPk 4) (mTup (mCons (mK (.str "0")) (mCons (mK (.str "1")) (mCons (mK (.str "2")) (mCons (mK (.str "3")) (mCons (mK (.str "4")) mNil)))))))) (mRet (mK .none)) mNext)))
 (mSeq (mFrz 3 (mApp 1 (mCallP dTuple (mConsP (mLC (subE [none]) (mItemsS (mVar 3)) (gVar 0) mYes (mCallP dIntS (mConsP (mPk 0) mNilP))) mNilP))))
 (mIf (mTest (mBin dne (mCallP dLen (mConsP (mBin dix (mPk 1) (mK (.int 0))) mNilP)) (mCallP dLen (mConsP (mPk 3) mNilP)))) (mRet (mK .none)) mNext))))))
 (mSeq (mIf (mTest (mBin dGt (mCallP dLen (mConsP (mPk 1) mNilP)) (mK (.int 150)))) (mRet (mK .none)) mNext)
 (mRet (mPk 1))))))
def m_q7:List PyData->Option Sl:=runD 5 b_q7 1
theorem ok_q7 (B:Bl mg) (F:Fun K "_law_told" "_law_told" s_q7 f fd):FnOk P w K mg base CX0 1 f fd ["_law_text_here"] (spD K m_q7):=by
 have sc:=sc_q7
 exact fnD F sc_q7 rfl rfl fun cdv A outer s H E hr=>
  (dss_cons (ds_if (dt_not (dt_val (DE.dp (de_isi bt_str B.str B.isinstance (dp_var 0))))) (dss_one (ds_ret de_none)) dss_nil)
  (dss_cons (ds_set 1 (de_lst da_nil) sc.nd)
  (dss_cons (ds_for PassesOwn.never (di_seq (de_split (dp_var 0) (DE.dp de_str))) (dg_name 2 sc.nd) (dss_cons (ds_set 3 (de_split (dp_var 2) (DE.dp de_str)) sc.nd)
  (dss_cons (ds_if (dt_gt (DE.dp (de_blt call_len_seq cd_len bt_len B.len (dq_cons (dp_var 3) dq_nil))) (DE.dp de_int)) (dss_one (ds_ret de_none)) dss_nil)
  (dss_cons (ds_frz 3 (ds_for PassesOwn.never (di_seq (de_var 3)) (dg_name 4 sc.nd) (dss_one (ds_if (dt_notinD hr.units (dp_var 4) (DE.dp (de_tup (da_cons de_str (da_cons de_str (da_cons de_str (da_cons de_str (da_cons de_str da_nil)))))))) (dss_one (ds_ret de_none)) dss_nil))))
  (dss_cons (ds_frz 3 (ds_app 1 (de_ty call_tuple_of cd_tuple bt_tuple B.tuple (dq_cons (DE.dp (de_lc (N':= ["_law_word"]) (R':=PR K) cx_scope1 cx_names1 [none] (subE [none]) pr_sub (di_seq (de_var 3)) (fun _=>(dgk_name 0 (show List.Nodup (α:=Str) ["_law_word"] by decide +kernel))) (fun _=>dts_nil) (fun _=>(de_intS B.int (dq_cons (dp_var 0) dq_nil))))) dq_nil))))
  (dss_one (ds_if (dt_ne hr.units (DE.dp (de_blt call_len_seq cd_len bt_len B.len (dq_cons (DE.dp (de_ix (dp_var 1) (DE.dp de_int))) dq_nil))) (DE.dp (de_blt call_len_seq cd_len bt_len B.len (dq_cons (dp_var 3) dq_nil)))) (dss_one (ds_ret de_none)) dss_nil)))))))
  (dss_cons (ds_if (dt_gt (DE.dp (de_blt call_len_seq cd_len bt_len B.len (dq_cons (dp_var 1) dq_nil))) (DE.dp de_int)) (dss_one (ds_ret de_none)) dss_nil)
  (dss_one (ds_retV 1))))))
def b_q0 : En -> Option Out :=
 (mSeq (mIf (mOr (mNot (mTest (mIsi "list" (mPk 0)))) (mTest (mBin dne (mPk 0) (mPk 1)))) (mRet (mK (.bool false))) mNext)
 (mSeq (mFor (mItemsS (mVar 0)) (gVar 2) (mIf (mOr (mNot (mTest (mIsi "tuple" (mPk 2)))) (mTest (mBin dne (mLC (subE [none]) (mItemsS (mVar 2)) (gVar 0) (mNot (mTest (mCall m_q8 (mCons (mVar 0) mNil)))) (mVar 0)) (mLst mNil)))) (mRet (mK (.bool false))) mNext))
 (mRet (mK (.bool true)))))
def m_q0:List PyData->Option Sl:=runD 3 b_q0 2
theorem ok_q0 (B:Bl mg) (D_q8:Def P w K mg base 1 "_law_whole" ["_law_found"] (spD K m_q8)) (F:Fun K "_law_is_plan" "_law_is_plan" s_q0 f fd):FnOk P w K mg base CX0 2 f fd ["_law_found","_law_due"] (spD K m_q0):=by
 have sc:=sc_q0
 exact fnD F sc_q0 rfl rfl fun cdv A outer s H E hr=>
  (dss_cons (ds_if (dt_w (dw_or (dt_not (dt_val (DE.dp (de_isi bt_list B.list B.isinstance (dp_var 0))))) (dw_or1 (dt_ne hr.units (dp_var 0) (dp_var 1))))) (dss_one (ds_ret de_bool)) dss_nil)
  (dss_cons (ds_for PassesOwn.never (di_seq (de_var 0)) (dg_name 2 sc.nd) (dss_one (ds_if (dt_w (dw_or (dt_not (dt_val (DE.dp (de_isi bt_tuple B.tuple B.isinstance (dp_var 2))))) (dw_or1 (dt_ne hr.units (DE.dp (de_lc (N':= ["_law_step"]) (R':=PR K) cx_scope1 cx_names1 [none] (subE [none]) pr_sub (di_seq (de_var 2)) (fun _=>(dgk_name 0 (show List.Nodup (α:=Str) ["_law_step"] by decide +kernel))) (fun _=>(dts_one (dt_not (dt_val (DE.dp (de_call D_q8 hr (da_cons (de_var 0) da_nil))))))) (fun _=>(de_var 0)))) (DE.dp (de_lst da_nil)))))) (dss_one (ds_ret de_bool)) dss_nil)))
  (dss_one (ds_ret de_bool))))
def b_q4 : En -> Option Out :=
 (mSeq (mAsg 1 (mCall m_q7 (mCons (mVar 0) mNil)))
 (mSeq (mXN 2)
 (mSeq (mAsg 3 (mK .none))
 (mSeq (mTry 3 2 4 m_q14 (mCons (mVar 0) mNil))
 (mSeq (mIf (mTest (mBin disNN (mPk 1) (mK .none))) (mFrz 3 (mFrz 1 (mRet (mAndV (mXis 2) (mCall m_q0 (mCons (mVar 3) (mCons (mVar 1) mNil))))))) mNext)
 (mSeq (mIf (mTest (mXi 2 false)) (mRet (mK (.bool false))) mNext)
 (mRet (mAndV (mXi 2 true) (mXi 2 true)))))))))
def m_q4:List PyData->Option Sl:=runD 5 b_q4 1
theorem ok_q4 (B:Bl mg) (D_q7:Def P w K mg base 1 "_law_told" ["_law_text_here"] (spD K m_q7)) (D_q14:DefX P w K mg base c_NoText 5 "read_plan" ["text"] (spX K m_q14)) (D_q0:Def P w K mg base 2 "_law_is_plan" ["_law_found","_law_due"] (spD K m_q0)) (Y:Xf K mg c_TrialError c_NoEffect c_NoText c_NoRow c_NoThing c_NoFit) (F:Fun K "_law_right" "_law_right" s_q4 f fd):FnOk P w K mg base CX0 6 f fd ["_law_text_here"] (spD K m_q4):=by
 have sc:=sc_q4
 exact fnDX (C:=c_NoText) 2 F sc_q4 rfl rfl fun cdv A outer s H E hr=>
  (dss_cons (ds_set 1 (de_call D_q7 hr (da_cons (de_var 0) da_nil)) sc.nd)
  (dss_cons (ds_xn 2 sc.nd)
  (dss_cons (ds_set 3 de_none sc.nd)
  (dss_cons (ds_try 3 2 4 D_q14 hr (da_cons (de_var 0) da_nil) Y.m_TrialError Y.em sc.nd)
  (dss_cons (ds_if (dt_isNN (dp_var 1) (DE.dp de_none)) (dss_one (ds_frz 3 (ds_frz 1 (ds_ret (de_and (de_xis 2) (de_and1 (de_call D_q0 hr (da_cons (de_var 3) (da_cons (de_var 1) da_nil))))))))) dss_nil)
  (dss_cons (ds_if (dt_val (DE.dp (de_xiT 2 Y.xc B.isinstance (dxs_cons Y.m_NoEffect (dxs_cons Y.m_NoRow (dxs_cons Y.m_NoThing (dxs_cons Y.m_NoFit dxs_nil)))) (kany_f Y.k_NoEffect (kany_f Y.k_NoRow (kany_f Y.k_NoThing (kany_f Y.k_NoFit kany_nil))))))) (dss_one (ds_ret de_bool)) dss_nil)
  (dss_one (ds_ret (de_and (de_xi 2 Y.xc B.isinstance Y.m_NoText Y.k_NoText) (de_and1 (de_xb 2 Y.xc B.isinstance B.ValueError rfl Y.kb_ValueError)))))))))))
def b_law : En -> Option Out :=
 (mSeq (mAsg 1 (mBin dAdd (mSl (mPk 0) mNoPart (mPart (mK (.int 63)))) (mLst (mCons (mK (.int 0)) mNil))))
 (mSeq (mFor (mRng1 (mConsP (mCallP dLen (mConsP (mPk 1) mNilP)) mNilP)) (gVar 2) (mSeq (mFrz 1 (mAsg 3 (mCall m_q3 (mCons (mVar 1) (mCons (mVar 2) mNil)))))
 (mSeq (mFrz 3 (mAsg 4 (mCall m_q6 (mCons (mVar 3) mNil))))
 (mSeq (mFrz 4 (mIf (mTest (mBin disNN (mCall m_q7 (mCons (mVar 4) mNil)) (mK .none))) (mSeq (mFrz 3 (mAsg 5 (mCall m_q17 (mCons (mVar 3) mNil))))
 (mFrz 1 (mIf (mOr (mNot (mTest (mIsi "str" (mPk 5)))) (mOr (mTest (mBin dne (mPk 5) (mPk 4))) (mTest (mBin dne (mPk 3) (mCall m_q3 (mCons (mVar 1) (mCons (mVar 2) mNil))))))) (mRet (mK (.bool false))) mNext))) mNext))
 (mFrz 4 (mIf (mOr (mNot (mTest (mCall m_q4 (mCons (mVar 4) mNil)))) (mNot (mTest (mCall m_q4 (mCons (mCall m_q5 (mCons (mVar 4) (mCons (mBin dix (mPk 1) (mPk 2)) mNil))) mNil))))) (mRet (mK (.bool false))) mNext))))))
 (mRet (mK (.bool true)))))
def m_law:List PyData->Option Sl:=runD 6 b_law 1
theorem ok_law (B:Bl mg) (D_q3:Def P w K mg base 2 "_law_plan" ["_law_cells","_law_at"] (spD K m_q3)) (D_q6:Def P w K mg base 1 "_law_text" ["_law_plan_here"] (spD K m_q6)) (D_q7:Def P w K mg base 1 "_law_told" ["_law_text_here"] (spD K m_q7)) (D_q17:Def P w K mg base 2 "show_plan" ["plan"] (spD K m_q17)) (D_q4:Def P w K mg base 6 "_law_right" ["_law_text_here"] (spD K m_q4)) (D_q5:Def P w K mg base 3 "_law_spoiled" ["_law_text_here","_law_cell"] (spD K m_q5)) (F:Fun K "law" "law" s_law f fd):FnOk P w K mg base CX0 7 f fd ["_law_script"] (spD K m_law):=by
 have sc:=sc_law
 exact fnD F sc_law rfl rfl fun cdv A outer s H E hr=>
  (dss_cons (ds_set 1 (de_add (DE.dp (de_sl (dp_var 0) do_none (do_some (DE.dp de_int)))) (DE.dp (de_lst (da_cons de_int da_nil)))) sc.nd)
  (dss_cons (ds_for PassesOwn.never (di_range1 B.range (dq_cons (DE.dp (de_blt call_len_seq cd_len bt_len B.len (dq_cons (dp_var 1) dq_nil))) dq_nil)) (dg_name 2 sc.nd) (dss_cons (ds_frz 1 (ds_set 3 (de_call D_q3 hr (da_cons (de_var 1) (da_cons (de_var 2) da_nil))) sc.nd))
  (dss_cons (ds_frz 3 (ds_set 4 (de_call D_q6 hr (da_cons (de_var 3) da_nil)) sc.nd))
  (dss_cons (ds_frz 4 (ds_if (dt_isNN (DE.dp (de_call D_q7 hr (da_cons (de_var 4) da_nil))) (DE.dp de_none)) (dss_cons (ds_frz 3 (ds_set 5 (de_call D_q17 hr (da_cons (de_var 3) da_nil)) sc.nd))
  (dss_one (ds_frz 1 (ds_if (dt_w (dw_or (dt_not (dt_val (DE.dp (de_isi bt_str B.str B.isinstance (dp_var 5))))) (dw_or (dt_ne hr.units (dp_var 5) (dp_var 4)) (dw_or1 (dt_ne hr.units (dp_var 3) (DE.dp (de_call D_q3 hr (da_cons (de_var 1) (da_cons (de_var 2) da_nil))))))))) (dss_one (ds_ret de_bool)) dss_nil)))) dss_nil))
  (dss_one (ds_frz 4 (ds_if (dt_w (dw_or (dt_not (dt_val (DE.dp (de_call D_q4 hr (da_cons (de_var 4) da_nil))))) (dw_or1 (dt_not (dt_val (DE.dp (de_call D_q4 hr (da_cons (de_call D_q5 hr (da_cons (de_var 4) (da_cons (de_ix (dp_var 1) (dp_var 2)) da_nil))) da_nil)))))))) (dss_one (ds_ret de_bool)) dss_nil)))))))
  (dss_one (ds_ret de_bool))))
end
local macro_rules | `(tactic| walk_at "ev") => `(tactic| simp only [mSeq, mIf, mTest, mBin, mUn, mK, mPk, mVar, mAsg, mRet, mRetN, mCall, mCons, mNil, mCallP, mConsP, mNilP, mTup, mLst, mOr, mAnd, mNot, mNotV, mAndV, mOrV, mIfE, mNext, mBrk, mCt, mDrop, mApp, mSet, mFrz, frz1, mPar, mAsgT, gVar, gTupD, gsAll, mItems, mItemsT, mSl, mPart, mNoPart, mDat, Sl.dat, mYes, mIsi, tyD, isiD, iop, icmp, iun, dAddI, dSub, dAdd, dLt, dLe, dGt, dGe, deq, dne, disN, disNN, isNone, dix, dLen, dAbs, dList, dTuple, dInt, dSl, Option.bind_some, Option.map_some, Option.join_some, Option.some.injEq, List.getElem?_cons_zero, List.getElem?_cons_succ, List.set_cons_zero, List.set_cons_succ, List.length_cons, List.length_nil, eqD_int, List.cons_append, List.nil_append, List.append_nil, List.map_cons, List.map_nil, if_true, if_false, Bool.false_eq_true, reduceIte, reduceCtorEq, Bool.not_true, Bool.not_false, decide_true, decide_false])
theorem bin_eq{op:Sl->Sl->Option Sl}{fa fb:En->Option Sl}{ρ:En}{a b:Sl}(ha:fa ρ=some a)(hb:fb ρ=some b):mBin op fa fb ρ=op a b:=by
 unfold mBin;rw [ha];show Option.bind (fb ρ) _=_;rw [hb];rfl
theorem test_eq{f:En->Option Sl}{ρ:En}{b:Bool}(h:f ρ=some (.val (.bool b))):mTest f ρ=some b:=by
 unfold mTest;rw [h];rfl
theorem set_to{i j:Nat}{k:Int}{fj f:En->Option Sl}{ρ:En}{r:Sl}{ds:List PyData}(h:f ρ=some r)(ho:(ρ[i]?).join=some (.own ds))(hj:fj ρ=some (.val (.int k)))(hx:ixN ds.length k=some j):mSet i fj f ρ=some (.nx (ρ.set i (some (.own (ds.set j r.dat))))):=by
 unfold mSet;rw [h];show (match (ρ[i]?).join with | some (.own ds)=>_ | _=>_)=_;rw [ho];show Option.bind (fj ρ) _=_;rw [hj];show (ixN ds.length k).map _=_;rw [hx];rfl
theorem app_to{i:Nat}{f:En->Option Sl}{ρ:En}{r:Sl}{ds:List PyData}(h:f ρ=some r)(ho:(ρ[i]?).join=some (.own ds))(hl:ds.length<sizeLine):mApp i f ρ=some (.nx (ρ.set i (some (.own (ds ++ [r.dat]))))):=by
 unfold mApp;rw [ho];show Option.bind (f ρ) _=_;rw [h];show (if ds.length<sizeLine then _ else _)=_;rw [if_pos hl]
theorem callP_to{F:List Sl->Option Sl}{f:En->Option (List Sl)}{ρ:En}{ss:List Sl}{r:Sl}(h:f ρ=some ss)(k:F ss=some r):mCallP F f ρ=some r:=by
 unfold mCallP;rw [h];exact k
theorem cons_to{f:En->Option Sl}{g:En->Option (List PyData)}{ρ:En}{a:Sl}{as:List PyData}(h:f ρ=some a)(k:g ρ=some as):mCons f g ρ=some (a.dat::as):=by
 unfold mCons;rw [h];show Option.bind (g ρ) _=_;rw [k];rfl
theorem consP_to{f:En->Option Sl}{g:En->Option (List Sl)}{ρ:En}{a:Sl}{as:List Sl}(h:f ρ=some a)(k:g ρ=some as):mConsP f g ρ=some (a::as):=by
 unfold mConsP;rw [h];show Option.bind (g ρ) _=_;rw [k];rfl
theorem cmL{i j:Int}(h1 : -(2 ^ 64)<i)(h2:i<2 ^ 64):CMulA i j:= .inl (.inl ⟨h1,h2⟩)
theorem cmR{i j:Int}(h1 : -(2 ^ 64)<j)(h2:j<2 ^ 64):CMulA i j:= .inl (.inr ⟨h1,h2⟩)
theorem run_whole(a:Int):m_q8 [.int a]=some (.val (.bool true)):=by
 refine runD_rt (ρ:= [some (.val (.int a))]) rfl rfl ?_;unfold b_q8;refine rts_ret ?_
 walk_at "ev"
 rfl
theorem run_mix(c:Int){j:Int}(h0:0<=j)(h1:j<1000000):∃v,m_q1 [.int c, .int j]=some (.val (.int v))/\0<=v/\v<2147483648:=by
 by_cases hc:c.fmod 2=1
 . refine ⟨(c / 2 ^ (1+10*j).toNat).fmod 1024,runD_rt (ρ:= [some (.val (.int c)),some (.val (.int j)),none]) rfl rfl ?_,Int.fmod_nonneg_of_pos _ (by decide),?_⟩
   . unfold b_q1;refine rts_seqR (rts_if (b:=true) ?_ (rts_ret ?_))
     . walk_at "ev"
       rw [modS (by decide)]
       walk_at "ev"
       simp [hc]
     . walk_at "ev"
       rw [mulS (cmL (by decide) (by decide))]
       walk_at "ev"
       rw [shrS (by omega)]
       walk_at "ev"
       rw [modS (by decide)]
   . have:=Int.fmod_lt_of_pos (c / 2 ^ (1+10*j).toNat) (show (0:Int)<1024 by decide);omega
 . have n1:=fun x:Int=>Int.fmod_nonneg_of_pos x (show (0:Int)<2147483629 by decide);have n2:=fun x:Int=>Int.fmod_lt_of_pos x (show (0:Int)<2147483629 by decide)
   let w1:=(c*(2*j+3)+j).fmod 2147483629
   let w2:=((w1*w1+1)*48271).fmod 2147483629
   refine ⟨(w2*w2).fmod 2147483587,runD_rt (ρ:= [some (.val (.int c)),some (.val (.int j)),none]) rfl rfl ?_,Int.fmod_nonneg_of_pos _ (by decide),?_⟩
   . unfold b_q1;refine rts_seq (ρ':= [some (.val (.int c)),some (.val (.int j)),none]) (if_to (b:=false) ?_ ?_) ?_
     . walk_at "ev"
       rw [modS (by decide)]
       walk_at "ev"
       simp [hc]
     . walk_at "ev"
     refine rts_seq (asg_to (r:= .val (.int w1)) ?_) ?_
     . walk_at "ev"
       rw [mulS (cmL (by decide) (by decide))]
       walk_at "ev"
       rw [mulS (cmR (by omega) (by omega))]
       walk_at "ev"
       rw [modS (by decide)]
     have a1:=n1 (c*(2*j+3)+j);have a2:=n2 (c*(2*j+3)+j);refine rts_seq (asg_to (r:= .val (.int w2)) ?_) ?_
     . walk_at "ev"
       rw [mulS (cmL (by show _<w1;omega) (by show w1<_;omega))]
       walk_at "ev"
       rw [mulS (cmR (by decide) (by decide))]
       walk_at "ev"
       rw [modS (by decide)]
     have b1:=n1 ((w1*w1+1)*48271);have b2:=n2 ((w1*w1+1)*48271);refine rts_ret ?_
     walk_at "ev"
     rw [mulS (cmL (by show _<w2;omega) (by show w2<_;omega))]
     walk_at "ev"
     rw [modS (by decide)]
   . have:=Int.fmod_lt_of_pos (w2*w2) (show (0:Int)<2147483587 by decide);omega
theorem sl1000:1000<sizeLine:=by decide
theorem lst1{f:En->Option Sl}{ρ:En}{a:Sl}(h:f ρ=some a):mLst (mCons f mNil) ρ=some (.own [a.dat]):=by
 unfold mLst;rw [cons_to h (show mNil ρ=some [] from rfl)];exact if_pos (e:=none) (show 1<=sizeLine by decide)
theorem add_own{a b:Sl}{xs ys:List PyData}(ha:a.dat = .list xs)(hb:b.dat = .list ys)(h:xs.length+ys.length<=sizeLine):dAdd a b=some (.own (xs++ys)):=by
 unfold dAdd;rw [ha,hb];exact if_pos (h)
theorem el_to{fg:PyData->En->Option En}{fe:En->Option Sl}{ρ0 ρ1:En}{d:PyData}{r:Sl}(h1:fg d ρ0=some ρ1)(h2:fe ρ1=some r):elM fg mYes fe ρ0 d=some (some r.dat):=by
 unfold elM;rw [h1];simp only [Option.bind_some,mYes,if_true,h2,Option.map_some]
def cellsOf(ns:List Int):List Int:=ns.take 63 ++ [0]
theorem cells_len(ns:List Int):(cellsOf ns).length<=64:=by simp [cellsOf];omega
theorem run_cells{ns:List Int}{ρ:En}{n:Nat}(h:(ρ[0]?).join=some (.val (.list (ns.map .int)))):(mBin dAdd (mSl (mPk 0) mNoPart (mPart (mK (.int 63)))) (mLst (mCons (mK (.int 0)) mNil))) ρ=some (.own (il (cellsOf ns))):=by
 have c1:(mSl (mPk 0) mNoPart (mPart (mK (.int 63)))) ρ=some (.own (il (ns.take 63))):=by
  have e:cutD (ns.map PyData.int) none (some ((63:Nat):Int))=il (ns.take 63):=by
   unfold cutD il;rw [HT.sIx_none,HT.sIx_nat,List.length_map,List.drop_zero,Nat.sub_zero, <-List.map_take];congr 1
   by_cases h:63<=ns.length
   . rw [Nat.min_eq_left h]
   . rw [Nat.min_eq_right (by omega),List.take_of_length_le (Nat.le_refl _),List.take_of_length_le (by omega)]
  rw [<-e];unfold mSl mPk;rw [h];rfl
 refine (bin_eq (op:=dAdd) c1 (lst1 (a:= .val (.int 0)) rfl)).trans ?_;refine (add_own (xs:=il (ns.take 63)) (ys:= [.int 0]) rfl rfl ?_).trans ?_
 . rw [il_len,List.length_take];have:=sl1000;simp;omega
 . rw [cellsOf,il_app];rfl
theorem bt_k{j:Int}(h0:0<j)(h:j<=1000):Bt 9000 j:=by
 unfold Bt;have:2 ^ 10<=2 ^ 9000:=Nat.pow_le_pow_right (by decide) (by decide);have e:(2:Nat) ^ 10=1024:=by decide
 rw [e] at this
 refine Nat.lt_of_lt_of_le ?_ this;omega
theorem div_k{i j:Int}(h0:0<j)(h:j<=1000):dFdiv (.val (.int i)) (.val (.int j))=some (.val (.int (i.fdiv j))):=divS ⟨by omega,bt_k h0 h⟩
theorem el_if{fg:PyData->En->Option En}{ft:En->Option Bool}{fe:En->Option Sl}{ρ0 ρ1:En}{d:PyData}{r:Sl}{b:Bool}(h1:fg d ρ0=some ρ1)(h2:ft ρ1=some b)(h3:fe ρ1=some r):elM fg ft fe ρ0 d=some (if b then some r.dat else none):=by
 unfold elM;rw [h1,Option.bind_some,h2,Option.bind_some]
 cases b
 . rfl
 . rw [if_pos rfl,h3];rfl
theorem andV_to{f g:En->Option Sl}{ρ:En}{r:Sl}(h:f ρ=some (.val (.bool true)))(k:g ρ=some r):mAndV f g ρ=some r:=by
 unfold mAndV;rw [test_eq h];exact k
theorem frz_eq{i:Nat}{g:En->Option Out}{ρ:En}:mFrz i g ρ=g (frz1 i ρ):=rfl
theorem tup1{f:En->Option Sl}{ρ:En}{a:Sl}(h1:f ρ=some a):mTup (mCons f mNil) ρ=some (.val (.tuple [a.dat])):=by
 unfold mTup;rw [cons_to h1 (show mNil ρ=some [] from rfl)];exact if_pos (e:=none) (show 1<=sizeLine by decide)
theorem sqx_t{c:En->Option Bool}{f:En->Option (Option Out)}{g:En->Option (Option Out)}{ρ:En}(h:c ρ=some true)(k:f ρ=some none):mSqx (mIfx c f (mLf mNext)) g ρ=some none:=by
 unfold mSqx mIfx;rw [h];show Option.bind (f ρ) _=_;rw [k];rfl
theorem sqx_f{c:En->Option Bool}{f:En->Option (Option Out)}{g:En->Option (Option Out)}{ρ:En}(h:c ρ=some false):mSqx (mIfx c f (mLf mNext)) g ρ=g ρ:=by
 unfold mSqx mIfx;rw [h];rfl
theorem runX_to {n k : Nat} {g : En -> Option (Option Out)} {ds : List PyData} {ρ : En} (hl : ds.length = k) (e : ds.map (fun d => some (Sl.val d)) ++ List.replicate (n - ds.length) none = ρ) : runX n g k ds = (g ρ).bind fun o => match o with
 | some (.rt r _)=>some (some r)
 | some (.nx _)=>some (some (.val .none))
 | none=>some none
 | _=>none:=by
 unfold runX;rw [if_pos hl,e]
 all_goals rfl
theorem try_to{jf jg jn:Nat}{F:List PyData->Option (Option Sl)}{f:En->Option (List PyData)}{ρ:En}{ds:List PyData}{z:Sl}(h:f ρ=some ds)(k:F ds=some (some z)):mTry jf jg jn F f ρ=some (.nx (ρ.set jf (some z))):=by
 unfold mTry;rw [h,Option.bind_some,k];rfl
theorem try_no{jf jg jn:Nat}{F:List PyData->Option (Option Sl)}{f:En->Option (List PyData)}{ρ:En}{ds:List PyData}(h:f ρ=some ds)(k:F ds=some none):mTry jf jg jn F f ρ=some (.nx ((ρ.set jn none).set jg (some (.val xD)))):=by
 unfold mTry;rw [h,Option.bind_some,k];rfl
theorem eqD_str{a b:Str}(ha:PyData.strOk a=true)(hb:PyData.strOk b=true):eqD (.str a) (.str b)=some (decide (a=b)):=by
 have:PyData.eqv (.str a) (.str b)=decide (a=b):=by simp [PyData.eqv,Bool.beq_eq_decide_eq]
 unfold eqD;rw [if_pos ⟨ha,hb,by simp [PyData.depth]⟩,this]
theorem deq_str{a b:Str}(ha:PyData.strOk a=true)(hb:PyData.strOk b=true):deq (.val (.str a)) (.val (.str b))=some (.val (.bool (decide (a=b)))):=by
 show (eqD (.str a) (.str b)).map _=_;rw [eqD_str ha hb];rfl
theorem bools_map{α:Type}(g:α->Bool):∀xs:List α,boolsOf (xs.map fun x=> .bool (g x))=some (xs.map g)
 | []=>rfl
 | x::xs=>by
  show (boolsOf (xs.map fun x=> .bool (g x))).map (g x :: ·)=_;rw [bools_map g xs];rfl
theorem h24:sizeLine=16777216:=rfl
theorem run_isnum{w:Str}(ok:Tx.Ok 100000 w):m_q9 [.str w]=some (.val (.bool (Tx.numOk w))):=by
 have sz:=h24;have hw:=ok.1
 let W0:Option Sl:=some (.val (.str w))
 let F1:Option Sl:=some (.val (.str (Tx.fig w)))
 have hf:(Tx.fig w).length<=100000:=by
  unfold Tx.fig
  split
  . exact Nat.le_trans (Txt.slice_le ..) hw
  . exact hw
 have hfo:PyData.strOk (Tx.fig w)=true:=by
  unfold Tx.fig
  split
  . exact Tx.ok_q18 ok.2 _ _
  . exact ok.2
 refine run_wp (ρ:= [W0,none]) rfl rfl ?_;unfold b_q9;refine wp_asgS (r:= .val (.str (Tx.fig w))) ?_ ?_
 . have t:mTest (mBin dSw (mPk 0) (mK (.str "-"))) [W0,none]=some (Txt.startswith w "-"):=test_eq rfl;unfold mIfE;rw [t,Option.bind_some];unfold Tx.fig
   by_cases h:Txt.startswith w "-" = true
   . rw [if_pos h,if_pos h];show (if w.length<=sizeLine then _ else _)=_;rw [if_pos (by omega)]
   . rw [if_neg h,if_neg h];rfl
 . have tA:mTest (mBin deq (mPk 1) (mK (.str ""))) [W0,F1]=some (decide (Tx.fig w = "")):=test_eq ((bin_eq (op:=deq) (a:= .val (.str (Tx.fig w))) (b:= .val (.str "")) rfl rfl).trans (deq_str hfo (by decide +kernel)))
   have tB:mTest (mBin dGt (mCallP dLenX (mConsP (mPk 1) mNilP)) (mK c_MOST_FIGURES)) [W0,F1]=some (decide (12<(Tx.fig w).length)):=by
    refine test_eq ((bin_eq (op:=dGt) (a:= .val (.int (((Tx.fig w).length:Nat):Int))) (b:= .val (.int 12)) (callP_to (ss:= [.val (.str (Tx.fig w))]) rfl (if_pos (show (Tx.fig w).length<=sizeLine by omega))) rfl).trans ?_);show some (Sl.val (.bool (decide _)))=_;congr 3
    refine decide_eq_decide.mpr ?_;omega
   have tC:mTest (mCallP dAll (mConsP (mLC (subE [none]) (mItX (mVar 1)) (gVar 0) mYes (mBin dInX (mPk 0) (mK c_FIGURES))) mNilP)) [W0,F1]=some ((Tx.fig w).cps.toList.all Tx.isDg):=by
    refine test_eq (callP_to (ss:= [.own ((Tx.fig w).cps.toList.map fun c=> .bool (Tx.isDg c))]) (consP_to (as:= []) (lc_to (ds:=(Tx.fig w).cps.toList.map fun c=> .str ⟨#[c]⟩) rfl ?_ (compM_map (en:=fun c=> .str ⟨#[c]⟩) (g:=fun c=> .bool (Tx.isDg c)) fun c _=> ?_)) rfl) ?_)
    . rw [List.length_map];have:(Tx.fig w).cps.toList.length=(Tx.fig w).length:=Array.length_toList;omega
    . refine el_to (fg:=gVar 0) (ρ0:= [none]) (d:= .str ⟨#[c]⟩) (ρ1:= [some (.val (.str ⟨#[c]⟩))]) (r:= .val (.bool (Tx.isDg c))) rfl ?_;rw [<-Tx.contains_dig c];rfl
    . show (boolsOf _).map _=_;rw [bools_map];show some (Sl.val (.bool (List.all _ _)))=_;rw [List.all_map];rfl
   have tt:=or_to tA (or_to tB (not_to tC));refine wp_seqG (wp_if (b:=(decide (Tx.fig w = "") || (decide (12<(Tx.fig w).length) || !((Tx.fig w).cps.toList.all Tx.isDg)))) tt ?_);unfold Tx.numOk
   cases h:(decide (Tx.fig w = "") || (decide (12<(Tx.fig w).length) || !((Tx.fig w).cps.toList.all Tx.isDg))) with
   | true=>
    show Wp (mRet (mK (.bool false))) _ _
    exact wp_ret (r:= .val (.bool false)) rfl rfl
   | false=>
    show Wp mNext _ _;refine wp_next (wp_ret (r:= .val (.bool (!false && (decide (w = "0") || !Txt.startswith (Tx.fig w) "0")))) ?_ rfl);have t0:mTest (mBin deq (mPk 0) (mK (.str "0"))) [W0,F1]=some (decide (w = "0")):=test_eq ((bin_eq (op:=deq) (a:= .val (.str w)) (b:= .val (.str "0")) rfl rfl).trans (deq_str ok.2 (by decide +kernel)));show mOrV _ _ [W0,F1]=_;unfold mOrV;rw [t0,Option.bind_some]
    cases decide (w = "0") <;> rfl
theorem run_rnum{w:Str}(hw:Tx.Ok 100000 w):(Tx.numOk w=false/\m_q12 [.str w]=some none)\/∃n:Int,Tx.numOk w=true/\PySem.intText? w=some n/\(0<=n->n<=4->w ∈ Tx.fives)/\m_q12 [.str w]=some (some (.val (.int n))):=by
 let W0:Option Sl:=some (.val (.str w))
 have rn:=run_isnum hw;have tt:∀b,Tx.numOk w=b->mNot (mTest (mCall m_q9 (mCons (mVar 0) mNil))) [W0]=some (!b):=fun b hb=>not_to (test_eq (call_to (ds:= [.str w]) rfl (hb ▸ rn)))
 cases h:Tx.numOk w with
 | false=>
  refine .inl ⟨rfl,?_⟩;unfold m_q12;rw [runX_to (n:=1) (k:=1) (g:=b_q12) (ds:= [.str w]) (ρ:= [W0]) rfl rfl];unfold b_q12;rw [sqx_t (tt _ h) rfl]
  rfl
 | true=>
  obtain ⟨n,h1,h2,h3⟩:=Tx.num_int h;refine .inr ⟨n,rfl,h1,h3,?_⟩;unfold m_q12;rw [runX_to (n:=1) (k:=1) (g:=b_q12) (ds:= [.str w]) (ρ:= [W0]) rfl rfl];unfold b_q12;rw [sqx_f (tt _ h)]
  have:mCallP dIntS (mConsP (mPk 0) mNilP) [W0]=some (.val (.int n)):=by
   refine callP_to (ss:= [.val (.str w)]) rfl ?_;show (if w.length<=640 then _ else _)=_;rw [if_pos (by omega),h1];rfl
  unfold mLf;rw [ret_to this];rfl
theorem sqx_a1{i:Nat}{f:En->Option (Option Sl)}{g:En->Option (Option Out)}{ρ:En}{r:Sl}(h:f ρ=some (some r)):mSqx (mAsgx i f) g ρ=g (ρ.set i (some r)):=by
 unfold mSqx mAsgx;rw [h];rfl
theorem sqx_a0{i:Nat}{f:En->Option (Option Sl)}{g:En->Option (Option Out)}{ρ:En}(h:f ρ=some none):mSqx (mAsgx i f) g ρ=some none:=by
 unfold mSqx mAsgx;rw [h];rfl
theorem lcx_to{sb:En->En}{fi:En->Option (Option (List PyData))}{fg:PyData->En->Option En}{fe:En->Option (Option Sl)}{ρ:En}{ds:List PyData}{o:Option (List PyData)}(h:fi ρ=some (some ds))(hl:ds.length<sizeLine)(k:compMx (elMx fg fe (sb ρ)) ds=some o):mLCx sb fi fg fe ρ=some (o.map .own):=by
 unfold mLCx;rw [h,Option.bind_some];show (if ds.length<sizeLine then _ else _)=_;rw [if_pos hl,k];rfl
theorem compMx_if{α:Type}{f:PyData->Option (Option PyData)}{en g:α->PyData}{b:α->Bool}:∀ {xs:List α},(∀x ∈ xs,f (en x)=some (if b x=true then some (g x) else none))->compMx f (xs.map en)=some (if xs.all b=true then some (xs.map g) else none)
 | [],_=>rfl
 | x::xs,h=>by
  have ih:=compMx_if (f:=f) (en:=en) (g:=g) (b:=b) (xs:=xs) fun y hy=>h y (List.mem_cons_of_mem _ hy);rw [List.map_cons,compMx,h x List.mem_cons_self,Option.bind_some]
  cases e:b x with
  | false=>
   rw [if_neg (by simp),if_neg (by simp [e])]
  | true=>
   rw [if_pos rfl];show (compMx f (xs.map en)).map _=_;rw [ih]
   by_cases h2:xs.all b=true
   . rw [if_pos h2,if_pos (by rw [List.all_cons,e,h2];rfl)];rfl
   . rw [if_neg h2,if_neg (by rw [List.all_cons,e,Bool.true_and];exact h2)];rfl
def dg(w:Str):Int:=(PySem.intText? w).getD 0
def five(w:Str):Bool:=decide (w ∈ Tx.fives)
theorem dg_num{w:Str}(h:Tx.numOk w=true):PySem.intText? w=some (dg w)/\(five w=true↔0<=dg w/\dg w<=4):=by
 obtain ⟨n,h1,h2,h3⟩:=Tx.num_int h;have e:dg w=n:=by unfold dg;rw [h1];rfl
 rw [e];refine ⟨h1,fun hf=> ?_,fun z=>decide_eq_true (h3 z.1 z.2)⟩;obtain ⟨m,k1,k2⟩:=Tx.five_val w (of_decide_eq_true hf);rw [h1] at k1
 cases k1
 exact k2
theorem run_rn{w:Str}(hw:Tx.Ok 100000 w):m_q12 [.str w]=some (if Tx.numOk w=true then some (.val (.int (dg w))) else none):=by
 rcases run_rnum hw with ⟨h,e⟩ | ⟨n,h,h1,_,e⟩
 . rw [e,if_neg (by rw [h];simp)]
 . have:dg w=n:=by unfold dg;rw [h1];rfl
   rw [e,if_pos h,this]
theorem all_five{ws:List Str}:ws.all five=true↔∀w ∈ ws,w ∈ Tx.fives:=by
 rw [List.all_eq_true];exact ⟨fun h w hw=>of_decide_eq_true (h w hw),fun h w hw=>decide_eq_true (h w hw)⟩
theorem run_rnums {ws : List Str} (hne : ws ≠ []) (hl : ws.length <= 200000) (hw : ∀ w ∈ ws, Tx.Ok 100000 w) :
 m_q13 [.list (ws.map .str), .int 0, .int 4]=some (if ws.all five=true then some (.own (il (ws.map dg))) else none):=by
 have sz:=h24
 let W0:Option Sl:=some (.val (.list (ws.map .str)))
 let L1:Option Sl:=some (.val (.int 0))
 let M2:Option Sl:=some (.val (.int 4))
 unfold m_q13;rw [runX_to (n:=4) (k:=3) (g:=b_q13) (ds:= [.list (ws.map .str), .int 0, .int 4]) (ρ:= [W0,L1,M2,none]) rfl rfl]
 have hc:compMx (elMx (gVar 0) (mCallx m_q12 (mCons (mVar 0) mNil)) [none]) (ws.map .str)=some (if ws.all Tx.numOk=true then some (ws.map fun w=> .int (dg w)) else none):=by
  refine compMx_if (en:= .str) (g:=fun w=> .int (dg w)) (b:=Tx.numOk) fun w h=> ?_;show (m_q12 [.str w]).map _=_;rw [run_rn (hw w h)]
  by_cases hn:Tx.numOk w=true
  . rw [if_pos hn,if_pos hn];rfl
  . rw [if_neg hn,if_neg hn];rfl
 have hL:=lcx_to (sb:=subE [none]) (fi:=mItx (mItemsS (mVar 0))) (fg:=gVar 0) (fe:=mCallx m_q12 (mCons (mVar 0) mNil)) (ρ:= [W0,L1,M2,none]) (ds:=ws.map .str) rfl (by rw [List.length_map];omega) hc;unfold b_q13
 by_cases hn:ws.all Tx.numOk=true
 . rw [if_pos hn] at hL
   rw [sqx_a1 hL]
   let N3:Option Sl:=some (.own (il (ws.map dg)))
   have en:(Option.some (ws.map fun w=>PyData.int (dg w))).map Sl.own=some (.own (il (ws.map dg))):=by
    show some (Sl.own _)=_;rw [il,List.map_map];rfl
   have eN : [W0,L1,M2,none].set 3 (some (Sl.own (ws.map fun w=>PyData.int (dg w)))) = [W0,L1,M2,N3]:=by
    show [W0,L1,M2,some (Sl.own _)] = [W0,L1,M2,some (Sl.own _)];rw [il,List.map_map];rfl
   rw [eN];have nn:ws.map dg ≠ []:=fun h=>hne (List.map_eq_nil_iff.mp h);obtain ⟨m,hm⟩:=Option.isSome_iff_exists.mp (List.isSome_min?_of_ne_nil nn);obtain ⟨M,hM⟩:=Option.isSome_iff_exists.mp (List.isSome_max?_of_ne_nil nn);obtain ⟨m1,m2⟩:=List.min?_eq_some_iff.mp hm;obtain ⟨M1,M2'⟩:=List.max?_eq_some_iff.mp hM
   have t1:mTest (mBin dLt (mCallP dMinL (mConsP (mPk 3) mNilP)) (mPk 1)) [W0,L1,M2,N3]=some (decide (m<0)):=by
    refine test_eq ((bin_eq (op:=dLt) (a:= .val (.int m)) (b:= .val (.int 0)) (callP_to (ss:= [.own (il (ws.map dg))]) rfl ?_) rfl).trans rfl);show (intsOf (il (ws.map dg))).bind _=_;rw [intsOf_il,Option.bind_some,hm];rfl
   have t2:mTest (mBin dGt (mCallP dMaxLi (mConsP (mPk 3) mNilP)) (mPk 2)) [W0,L1,M2,N3]=some (decide (M>4)):=by
    refine test_eq ((bin_eq (op:=dGt) (a:= .val (.int M)) (b:= .val (.int 4)) (callP_to (ss:= [.own (il (ws.map dg))]) rfl ?_) rfl).trans rfl);show (intsOf (il (ws.map dg))).bind _=_;rw [intsOf_il,Option.bind_some,hM];rfl
   have num:∀w ∈ ws,Tx.numOk w=true:=List.all_eq_true.mp hn
   by_cases h5:ws.all five=true
   . rw [if_pos h5];have h5':=List.all_eq_true.mp h5
     have r:∀x ∈ ws.map dg,0<=x/\x<=4:=fun x hx=>by
      obtain ⟨w,h,rfl⟩:=List.mem_map.mp hx;exact (dg_num (num w h)).2.mp (h5' w h)
     have a1:=r m m1;have a2:=r M M1;rw [sqx_f ((or_to t1 t2).trans (by rw [decide_eq_false (by omega),decide_eq_false (by omega)];rfl))];rfl
   . rw [if_neg h5]
     have:∃w ∈ ws,five w=false:=by
      refine Classical.byContradiction fun z=>h5 (List.all_eq_true.mpr fun w hw=> ?_)
      cases e:five w with
      | true=>rfl
      | false=>exact absurd ⟨w,hw,e⟩ z
     obtain ⟨w,h,hf⟩:=this;have q:=(dg_num (num w h)).2;have hx:dg w ∈ ws.map dg:=List.mem_map_of_mem h;have b1:=m2 (dg w) hx;have b2:=M2' (dg w) hx;have nq:¬(0<=dg w/\dg w<=4):=fun z=>by rw [q.mpr z] at hf;cases hf
     rw [sqx_t ((or_to t1 t2).trans (show _=some true by
      congr 1
      rw [Bool.or_eq_true,decide_eq_true_eq,decide_eq_true_eq];omega)) (by
      show (mFsI 1 2 [W0,L1,M2,N3]).map _=_;show (if ((0:Int)<=0/\(0:Int)<1000)/\(0:Int)<=4/\(4:Int)<1000 then some (Sl.val .none) else none).map _=_;rw [if_pos (by decide)];rfl)]
     rfl
 . rw [if_neg hn] at hL
   rw [sqx_a0 hL];have:ws.all five≠true:=fun h=>hn (List.all_eq_true.mpr fun w hw'=>Tx.five_num w (all_five.mp h w hw'));rw [if_neg this];rfl
def trP(p:Str):List Int:=(Txt.split p " ").map dg
def gd(p:Str):Bool:=(Txt.split p " ").all five
theorem run_rtrial{p:Str}(hp:Tx.Ok 100000 p):m_q15 [.str p]=some (if gd p=true then some (.val (.tuple (il (trP p)))) else none):=by
 have sz:=h24;have few:=split_few p " ";have hp1:=hp.1;have rn:=run_rnums (Tx.split_ne p " ") (by omega) (Tx.split_ok (b:= " ") hp);unfold m_q15;rw [runX_to (n:=1) (k:=1) (g:=b_q15) (ds:= [.str p]) (ρ:= [some (.val (.str p))]) rfl rfl]
 have hs:mBin dSplit (mPk 0) (mK (.str " ")) [some (.val (.str p))]=some (.own ((Txt.split p " ").map .str)):=by
  refine (bin_eq (op:=dSplit) (a:= .val (.str p)) (b:= .val (.str " ")) rfl rfl).trans ?_;show (if _/\_ then _ else _)=_;rw [if_pos ⟨by decide +kernel,by omega⟩]
 have hc:mCallx m_q13 (mCons (mBin dSplit (mPk 0) (mK (.str " "))) (mCons (mK (.int 0)) (mCons (mK c_MOST_STEP) mNil))) [some (.val (.str p))]=some (if gd p=true then some (.own (il (trP p))) else none):=by
  unfold mCallx;rw [cons_to hs (cons_to (a:= .val (.int 0)) rfl (cons_to (a:= .val (.int 4)) (as:= []) rfl rfl)),Option.bind_some];exact rn
 unfold b_q15 mRetx mCallPx;rw [hc]
 by_cases h:gd p=true
 . rw [if_pos h,if_pos h];rfl
 . rw [if_neg h,if_neg h];rfl
theorem lstNil{ρ:En}:mLst mNil ρ=some (.own []):=if_pos (e:=none) (show 0<=sizeLine by decide)
abbrev pcs (t:Str):List Str:=Txt.split t "; "
noncomputable abbrev encT' (l:List Int):PyData:= .tuple (il l)
noncomputable abbrev enc (p:Str):PyData:= .tuple (il (trP p))
def planT(t:Str):List PyData:=(pcs t).map enc
def l0(t:Str):Nat:=(trP ((pcs t).headD Str.empty)).length
def OkP(t:Str):Prop:=(∀p ∈ pcs t,gd p=true)/\(pcs t).length<=150/\l0 t<=6/\∀p ∈ pcs t,(trP p).length=l0 t
theorem run_parts{t:Str}(ht:Tx.Ok 100000 t):m_q11 [.str t, .str "; "]=some (some (.own ((pcs t).map .str))):=by
 have sz:=h24;have h1:=ht.1;unfold m_q11;rw [runX_to (n:=2) (k:=2) (g:=b_q11) (ds:= [.str t, .str "; "]) (ρ:= [some (.val (.str t)),some (.val (.str "; "))]) rfl rfl];unfold b_q11;rw [sqx_f (c:=mNot (mTest (mIsi "str" (mPk 0)))) rfl]
 have hs:mBin dSplit (mPk 0) (mPk 1) [some (.val (.str t)),some (.val (.str "; "))]=some (.own ((pcs t).map .str)):=by
  refine (bin_eq (op:=dSplit) (a:= .val (.str t)) (b:= .val (.str "; ")) rfl rfl).trans ?_;show (if _/\_ then _ else _)=_;rw [if_pos ⟨by decide +kernel,by omega⟩]
 unfold mLf;rw [ret_to hs];rfl
theorem len_to{f:En->Option Sl}{ρ:En}{a:Sl}{ds:List PyData}(h:f ρ=some a)(e:a.dat = .list ds\/a.dat = .tuple ds):mCallP dLen (mConsP f mNilP) ρ=some (.val (.int ds.length)):=by
 refine callP_to (ss:= [a]) (consP_to h rfl) ?_;unfold dLen;rcases e with e | e <;> simp only [e]
theorem gt_to{f g:En->Option Sl}{ρ:En}{i j:Int}(h:f ρ=some (.val (.int i)))(k:g ρ=some (.val (.int j))):mTest (mBin dGt f g) ρ=some (decide (j<i)):=test_eq ((bin_eq (op:=dGt) h k).trans rfl)
theorem pcs_cons(t:Str):∃x r,pcs t=x::r:=by
 cases h:pcs t with
 | nil=>exact absurd h (Tx.split_ne _ _)
 | cons x r=>exact ⟨x,r,rfl⟩
theorem head_dix{l:List PyData}{d:PyData}{s:Sl}(hs:s.dat = .list (d::l)):dix s (.val (.int 0))=some (.val d):=dix_nat (j:=0) (.inl hs) rfl
theorem run_rplan{t:Str}(ht:Tx.Ok 100000 t):(OkP t->m_q14 [.str t]=some (some (.val (.list (planT t)))))/\(¬OkP t->m_q14 [.str t]=some none):=by
 have sz:=h24;have ht1:=ht.1;have few:(pcs t).length<=t.length+2:=split_few t "; "
 let T0:Option Sl:=some (.val (.str t))
 have hc:compMx (elMx (gVar 0) (mCallx m_q15 (mCons (mVar 0) mNil)) [none]) ((pcs t).map .str)=some (if (pcs t).all gd=true then some (planT t) else none):=by
  refine compMx_if (en:= .str) (g:=enc) (b:=gd) fun p h=> ?_;show (m_q15 [.str p]).map _=_;rw [run_rtrial (Tx.split_ok ht p h)]
  by_cases hn:gd p=true
  . rw [if_pos hn,if_pos hn];rfl
  . rw [if_neg hn,if_neg hn];rfl
 have hi:mItemsx (mCallx m_q11 (mCons (mVar 0) (mCons (mK (.str "; ")) mNil))) [T0,none]=some (some ((pcs t).map .str)):=by
  unfold mItemsx mCallx;rw [show mCons (mVar 0) (mCons (mK (.str "; ")) mNil) [T0,none]=some [.str t, .str "; "] from rfl,Option.bind_some,run_parts ht];rfl
 have hL:=lcx_to (sb:=subE [none]) (fi:=mItemsx (mCallx m_q11 (mCons (mVar 0) (mCons (mK (.str "; ")) mNil)))) (fg:=gVar 0) (fe:=mCallx m_q15 (mCons (mVar 0) mNil)) (ρ:= [T0,none]) hi (by rw [List.length_map];omega) hc
 have go : ∀ o, b_q14 [T0, none] = some o -> m_q14 [.str t] = (some o).bind fun o => match o with
  | some (.rt r _)=>some (some r)
  | some (.nx _)=>some (some (.val .none))
  | none=>some none
  | _=>none:=fun o e=>by
  unfold m_q14;rw [runX_to (n:=2) (k:=1) (g:=b_q14) (ds:= [.str t]) (ρ:= [T0,none]) rfl rfl,e]
  all_goals rfl
 by_cases hg:(pcs t).all gd=true
 . rw [if_pos hg] at hL
   have hg':=List.all_eq_true.mp hg;obtain ⟨x,r,hx⟩:=pcs_cons t;have hp:planT t=enc x::r.map enc:=by unfold planT;rw [hx];rfl
   have hl0:l0 t=(trP x).length:=by unfold l0;rw [hx];rfl
   have pl:(planT t).length=(pcs t).length:=List.length_map ..
   let P1:Option Sl:=some (.own (planT t))
   let Q1:Option Sl:=some (.val (.list (planT t)))
   have t1:mTest (mBin dGt (mCallP dLen (mConsP (mPk 1) mNilP)) (mK c_MOST_TRIALS)) [T0,P1]=some (decide ((150:Int)<((planT t).length:Nat))):=gt_to (len_to (a:= .own (planT t)) rfl (.inl rfl)) rfl;have e0:mBin dix (mPk 1) (mK (.int 0)) [T0,Q1]=some (.val (enc x)):=(bin_eq (op:=dix) (a:= .val (.list (planT t))) (b:= .val (.int 0)) rfl rfl).trans (head_dix (by rw [hp];rfl));have t2:mTest (mBin dGt (mCallP dLen (mConsP (mBin dix (mPk 1) (mK (.int 0))) mNilP)) (mK c_MOST_THINGS)) [T0,Q1]=some (decide ((6:Int)<((il (trP x)).length:Nat))):=gt_to (len_to e0 (.inr rfl)) rfl
   have t3:mTest (mCallP dAny (mConsP (mLC (subE [some 1,none]) (mItemsS (mVar 1)) (gVar 1) mYes (mBin dne (mCallP dLen (mConsP (mPk 1) mNilP)) (mCallP dLen (mConsP (mBin dix (mPk 0) (mK (.int 0))) mNilP)))) mNilP)) [T0,Q1]=some ((pcs t).any fun p=> !decide ((trP p).length=l0 t)):=by
    refine test_eq (callP_to (ss:= [.own ((pcs t).map fun p=> .bool (!decide ((trP p).length=l0 t)))]) (consP_to (as:= []) (lc_to (ds:=planT t) rfl (by omega) (compM_map (en:=enc) (g:=fun p=> .bool (!decide ((trP p).length=l0 t))) fun p _=> ?_)) rfl) ?_)
    . refine el_to (fg:=gVar 1) (ρ0:= [Q1,none]) (d:=enc p) (ρ1:= [Q1,some (.val (enc p))]) (r:= .val (.bool (!decide ((trP p).length=l0 t)))) rfl ?_;have e1:mBin dix (mPk 0) (mK (.int 0)) [Q1,some (.val (enc p))]=some (.val (enc x)):=(bin_eq (op:=dix) (a:= .val (.list (planT t))) (b:= .val (.int 0)) rfl rfl).trans (head_dix (by rw [hp];rfl));have n:=ne_int (len_to (f:=mPk 1) (ρ:= [Q1,some (.val (enc p))]) (a:= .val (enc p)) rfl (.inr rfl)) (len_to e1 (.inr rfl));refine (mTest_some n).trans ?_;congr 4
      refine decide_eq_decide.mpr ?_;rw [il_len,il_len,hl0];omega
    . show (boolsOf _).map _=_;rw [bools_map];show some (Sl.val (.bool (List.any _ _)))=_;rw [List.any_map];rfl
   have e1:b_q14 [T0,none]=(if 150<(pcs t).length then some none else if (6<l0 t\/((pcs t).any fun p=> !decide ((trP p).length=l0 t))=true) then some none else some (some (.rt (.val (.list (planT t))) [T0,Q1]))):=by
    unfold b_q14;rw [sqx_a1 hL];show mSqx _ _ [T0,P1]=_
    by_cases h1:150<(pcs t).length
    . rw [if_pos h1,sqx_t (t1.trans (by rw [decide_eq_true (by omega)])) rfl]
    . rw [if_neg h1,sqx_f (t1.trans (by rw [decide_eq_false (by omega)]))];show mSqx _ _ [T0,Q1]=_;have tt:=or_to t2 t3
      by_cases h2:6<l0 t\/((pcs t).any fun p=> !decide ((trP p).length=l0 t))=true
      . rw [if_pos h2, sqx_t (tt.trans (show _ = some true by
         congr 1
         rw [Bool.or_eq_true,decide_eq_true_eq,il_len, <-hl0];rcases h2 with h2 | h2
         . left;omega
         . right;exact h2)) rfl]
      . rw [if_neg h2, sqx_f (tt.trans (show _ = some false by
         congr 1
         rw [Bool.or_eq_false_iff,decide_eq_false_iff_not,il_len, <-hl0];refine ⟨fun z=>h2 (.inl (by omega)),?_⟩
         cases e:(pcs t).any fun p=> !decide ((trP p).length=l0 t) with
         | false=>rfl
         | true=>exact absurd (.inr e) h2))]
        rfl
   refine ⟨fun ok=> ?_,fun nok=> ?_⟩
   . obtain ⟨_,o2,o3,o4⟩:=ok
     rw [go _ (e1.trans (by rw [if_neg (by omega), if_neg]; rintro (z | z)
                            . omega
                            . obtain ⟨p,hp,z⟩:=List.any_eq_true.mp z;rw [decide_eq_true (o4 p hp)] at z
                              cases z))]
     rfl
   . have : b_q14 [T0, none] = some none := by
      rw [e1]
      by_cases h1:150<(pcs t).length
      . rw [if_pos h1]
      . rw [if_neg h1,if_pos];refine Classical.byContradiction fun z=>nok ⟨hg',by omega,?_,fun p hp=> ?_⟩
        . exact Nat.le_of_not_lt fun y=>z (.inl y)
        . refine Classical.byContradiction fun y=>z (.inr (List.any_eq_true.mpr ⟨p,hp,?_⟩));rw [decide_eq_false y];rfl
     rw [go _ this];rfl
 . rw [if_neg hg] at hL
   have e1:b_q14 [T0,none]=some none:=by
    unfold b_q14;rw [sqx_a0 hL]
   refine ⟨fun ok=>absurd (List.all_eq_true.mpr ok.1) hg,fun _=> ?_⟩;rw [go _ e1];rfl
theorem run_rplan_no {d:PyData} (hd:tyD d=some "NoneType" \/ tyD d=some "list"):m_q14 [d]=some none:=by
 have hp:m_q11 [d, .str "; "]=some none:=by
  unfold m_q11;rw [runX_to (n:=2) (k:=2) (g:=b_q11) (ds:= [d, .str "; "]) (ρ:= [some (.val d),some (.val (.str "; "))]) rfl rfl];unfold b_q11
  rw [sqx_t (c:=mNot (mTest (mIsi "str" (mPk 0)))) (f:=mRseE (mK (.str "this is no text"))) (by
   show Option.map _ (Option.bind (Option.bind (tyD d) _) _)=_;rcases hd with hd | hd <;> rw [hd] <;> rfl) rfl]
  rfl
 unfold m_q14;rw [runX_to (n:=2) (k:=1) (g:=b_q14) (ds:= [d]) (ρ:= [some (.val d),none]) rfl rfl];unfold b_q14;rw [sqx_a0]
 . rfl
 . unfold mLCx mItemsx mCallx;rw [show mCons (mVar 0) (mCons (mK (.str "; ")) mNil) [some (.val d),none]=some [d, .str "; "] from rfl,Option.bind_some,hp];rfl
theorem any_five(w:Str):(([.str "0", .str "1", .str "2", .str "3", .str "4"]:List PyData).any fun d=>PyData.eqv d (.str w))=five w:=by
 have e:∀a b:Str,PyData.eqv (.str a) (.str b)=decide (b=a):=fun a b=>by
  have:PyData.eqv (.str a) (.str b)=decide (a=b):=by simp [PyData.eqv,Bool.beq_eq_decide_eq]
  rw [this];exact decide_eq_decide.mpr eq_comm
 unfold five Tx.fives;simp only [List.any_cons,List.any_nil,e,List.mem_cons,List.not_mem_nil,or_false,Bool.or_false];simp only [Bool.decide_or]
theorem notin_five {w : Str} (hw : PyData.strOk w = true) {f : En -> Option Sl} {ρ : En} (h : f ρ = some (.val (.str w))) :
 mTest (mBin (dInD true) f (mTup (mCons (mK (.str "0")) (mCons (mK (.str "1")) (mCons (mK (.str "2")) (mCons (mK (.str "3")) (mCons (mK (.str "4")) mNil))))))) ρ=some (!five w):=by
 refine test_eq ((bin_eq (op:=dInD true) (b:= .val (.tuple [.str "0", .str "1", .str "2", .str "3", .str "4"])) h ?_).trans ?_)
 . exact if_pos (e:=none) (show 5<=sizeLine by decide)
 . show inD true (.str w) _=_;unfold inD;rw [if_pos ⟨hw,by decide +kernel,by simp [PyData.depth]⟩,if_pos rfl,any_five]
theorem five_len{w:Str}(h:five w=true):w.length<=640/\PySem.intText? w=some (dg w):=by
 have n:=Tx.five_num w (of_decide_eq_true h);obtain ⟨_,_,l,_⟩:=Tx.num_int n;exact ⟨by omega,(dg_num n).1⟩
def Go(t p:Str):Prop:=gd p=true/\(trP p).length<=6/\(trP p).length=l0 t
def Zt(t:Str):Out->Prop:=fun o=>(OkP t->Rt (.own (planT t)) o)/\(¬OkP t->Rt (.val .none) o)
theorem zt_none{t:Str}{ρ:En}(h:¬OkP t):Zt t (.rt (.val .none) ρ):=⟨fun z=>absurd z h,fun _=>rfl⟩
theorem not_go{t p:Str}(hp:p ∈ pcs t)(h:¬Go t p):¬OkP t:=fun z=>h ⟨z.1 p hp,by rw [z.2.2.2 p hp];exact z.2.2.1,z.2.2.2 p hp⟩
theorem run_told{t:Str}(ht:Tx.Ok 100000 t):Wp b_q7 [some (.val (.str t)),none,none,none,none] (Zt t):=by
 have sz:=h24;have ht1:=ht.1;have few:(pcs t).length<=t.length+2:=split_few t "; "
 let T0:Option Sl:=some (.val (.str t))
 obtain ⟨x0,r0,hx0⟩:=pcs_cons t;have hl0:l0 t=(trP x0).length:=by unfold l0;rw [hx0];rfl
 unfold b_q7;refine wp_skip (c:=mNot (mTest (mIsi "str" (mPk 0)))) rfl (wp_asgS (r:= .own []) lstNil ?_);refine wp_seqG (wp_forL (en:= .str) (xs:=pcs t) (fun j ρ=>∃z2 z3 z4,ρ = [T0,some (.own (((pcs t).take j).map enc)),z2,z3,z4]/\∀p ∈ (pcs t).take j,Go t p) ?_ ⟨none,none,none,rfl,by simp⟩ ?_ ?_)
 . unfold mItemsS
   have hs:mBin dSplit (mPk 0) (mK (.str "; ")) [T0,some (.own []),none,none,none]=some (.own ((pcs t).map .str)):=by
    refine (bin_eq (op:=dSplit) (a:= .val (.str t)) (b:= .val (.str "; ")) rfl rfl).trans ?_;show (if _/\_ then _ else _)=_;rw [if_pos ⟨by decide +kernel,by omega⟩]
   show (mBin dSplit (mPk 0) (mK (.str "; ")) [T0,some (.own []),none,none,none]).bind _=_;rw [hs];rfl
 . rintro j p ρ hj ⟨z2,z3,z4,rfl,hgo⟩;have hp:p ∈ pcs t:=List.mem_of_getElem? hj;have okp:Tx.Ok 100000 p:=Tx.split_ok ht p hp;have okp1:=okp.1;have fewp:=split_few p " ";have lenw:(trP p).length=(Txt.split p " ").length:=List.length_map ..
   let F1:Option Sl:=some (.own (((pcs t).take j).map enc))
   let P2:Option Sl:=some (.val (.str p))
   let W3:Option Sl:=some (.own ((Txt.split p " ").map .str))
   let V3:Option Sl:=some (.val (.list ((Txt.split p " ").map .str)))
   refine ⟨_,rfl,?_⟩;refine wp_asgS (r:= .own ((Txt.split p " ").map .str)) ?_ ?_
   . refine (bin_eq (op:=dSplit) (a:= .val (.str p)) (b:= .val (.str " ")) rfl rfl).trans ?_;show (if _/\_ then _ else _)=_;rw [if_pos ⟨by decide +kernel,by omega⟩]
   show Wp _ [T0,F1,P2,W3,z4] _;have t1:mTest (mBin dGt (mCallP dLen (mConsP (mPk 3) mNilP)) (mK (.int 6))) [T0,F1,P2,W3,z4]=some (decide ((6:Int)<(((Txt.split p " ").map PyData.str).length:Nat))):=gt_to (len_to (a:= .own ((Txt.split p " ").map .str)) rfl (.inl rfl)) rfl;rw [List.length_map] at t1
   by_cases h6:6<(Txt.split p " ").length
   . exact wp_seqG (wp_ifT (t1.trans (by rw [decide_eq_true (by omega)])) (wp_ret (r:= .val .none) rfl (zt_none (not_go hp fun z=>by have:=z.2.1;omega))))
   refine wp_skip (t1.trans (by rw [decide_eq_false (by omega)])) ?_;refine wp_seqG (wp_frz ?_);show Wp _ [T0,F1,P2,V3,z4] _;refine wp_forL (en:= .str) (xs:=Txt.split p " ") (fun i ρ=>∃z4,ρ = [T0,F1,P2,V3,z4]/\∀w ∈ (Txt.split p " ").take i,five w=true) rfl ⟨_,rfl,by simp⟩ ?_ ?_
   . rintro i w ρ hi ⟨z4,rfl,hf⟩;have hw:w ∈ Txt.split p " " :=List.mem_of_getElem? hi;refine ⟨_,rfl,?_⟩;show Wp _ [T0,F1,P2,V3,some (.val (.str w))] _;have tn:=notin_five (f:=mPk 4) (ρ:= [T0,F1,P2,V3,some (.val (.str w))]) (Tx.split_ok okp w hw).2 rfl
     cases h5:five w with
     | false=>
      rw [h5] at tn
      exact wp_ifT tn (wp_ret (r:= .val .none) rfl (zt_none (not_go hp fun z=>by
       have:=List.all_eq_true.mp z.1 w hw;rw [h5] at this
       cases this)))
     | true=>
      rw [h5] at tn
      refine wp_ifF tn (wp_next ⟨_,rfl,fun y hy=> ?_⟩);rw [List.take_add_one,hi] at hy
      rcases List.mem_append.mp hy with hy | hy
      . exact hf y hy
      . cases List.mem_singleton.mp (by simpa using hy)
        exact h5
   . rintro ρ ⟨z4,rfl,hf⟩;rw [List.take_length] at hf
     have hgd:gd p=true:=List.all_eq_true.mpr hf
     have happ:mApp 1 (mCallP dTuple (mConsP (mLC (subE [none]) (mItemsS (mVar 3)) (gVar 0) mYes (mCallP dIntS (mConsP (mPk 0) mNilP))) mNilP)) [T0,F1,P2,V3,z4]=some (.nx [T0,some (.own (((pcs t).take j).map enc ++ [enc p])),P2,V3,z4]):=by
      refine app_to (r:= .val (enc p)) (callP_to (ss:= [.own (il (trP p))]) (consP_to (as:= []) (lc_to (ds:=(Txt.split p " ").map .str) rfl (by rw [List.length_map];omega) ?_) rfl) rfl) rfl (by rw [List.length_map,List.length_take];omega);have e:il (trP p)=(Txt.split p " ").map fun w=>PyData.int (dg w):=by unfold il trP;rw [List.map_map];rfl
      rw [e];refine compM_map (en:= .str) fun w hw=> ?_;refine el_to (fg:=gVar 0) (ρ0:= [none]) (d:= .str w) (ρ1:= [some (.val (.str w))]) (r:= .val (.int (dg w))) rfl (callP_to (ss:= [.val (.str w)]) rfl ?_);obtain ⟨k1,k2⟩:=five_len (hf w hw);show (if w.length<=640 then _ else _)=_;rw [if_pos k1,k2];rfl
     have et:((pcs t).take j).map enc ++ [enc p]=((pcs t).take (j+1)).map enc:=by
      rw [List.take_add_one,hj,List.map_append];rfl
     rw [et] at happ
     refine wp_seqN (f:=mFrz 3 _) happ ?_
     let G1:Option Sl:=some (.own (((pcs t).take (j+1)).map enc))
     have eh:((pcs t).take (j+1)).map enc=enc x0::(r0.take j).map enc:=by rw [hx0];rfl
     have e0:mBin dix (mPk 1) (mK (.int 0)) [T0,G1,P2,V3,z4]=some (.val (enc x0)):=(bin_eq (op:=dix) (a:= .own (((pcs t).take (j+1)).map enc)) (b:= .val (.int 0)) rfl rfl).trans (head_dix (by rw [eh];rfl));have tn:=ne_int (len_to e0 (.inr rfl)) (len_to (f:=mPk 3) (ρ:= [T0,G1,P2,V3,z4]) (a:= .val (.list ((Txt.split p " ").map .str))) rfl (.inl rfl));rw [il_len,List.length_map, <-hl0] at tn
     by_cases he:(trP p).length=l0 t
     . refine wp_ifF (tn.trans (by rw [decide_eq_true (by omega)];rfl)) (wp_next ⟨_,_,_,rfl,fun q hq=> ?_⟩);rw [List.take_add_one,hj] at hq
       rcases List.mem_append.mp hq with hq | hq
       . exact hgo q hq
       . cases List.mem_singleton.mp (by simpa using hq)
         exact ⟨hgd,by omega,he⟩
     . exact wp_ifT (tn.trans (by rw [decide_eq_false (by omega)];rfl)) (wp_ret (r:= .val .none) rfl (zt_none (not_go hp fun z=>he z.2.2)))
 . rintro ρ ⟨z2,z3,z4,rfl,hgo⟩;rw [List.take_length] at hgo ⊢
   have t1:mTest (mBin dGt (mCallP dLen (mConsP (mPk 1) mNilP)) (mK (.int 150))) [T0,some (.own ((pcs t).map enc)),z2,z3,z4]=some (decide ((150:Int)<(((pcs t).map enc).length:Nat))):=gt_to (len_to (a:= .own ((pcs t).map enc)) rfl (.inl rfl)) rfl;rw [List.length_map] at t1
   by_cases h:150<(pcs t).length
   . exact wp_seqG (wp_ifT (t1.trans (by rw [decide_eq_true (by omega)])) (wp_ret (r:= .val .none) rfl (zt_none fun z=>by have:=z.2.1;omega)))
   . refine wp_skip (t1.trans (by rw [decide_eq_false (by omega)])) (wp_ret (r:= .own ((pcs t).map enc)) rfl ⟨fun _=>rfl,fun z=>absurd ⟨fun p hp=>(hgo p hp).1,by omega,?_,fun p hp=>(hgo p hp).2.2⟩ z⟩);have:=hgo x0 (by rw [hx0];simp);rw [<-this.2.2];exact this.2.1
theorem told_yes{t:Str}(ht:Tx.Ok 100000 t)(h:OkP t):m_q7 [.str t]=some (.own (planT t)):=run_wp rfl rfl ((run_told ht).imp fun _ z=>z.1 h)
theorem told_no{t:Str}(ht:Tx.Ok 100000 t)(h:¬OkP t):m_q7 [.str t]=some (.val .none):=run_wp rfl rfl ((run_told ht).imp fun _ z=>z.2 h)
theorem told_odd {d:PyData} (hd:tyD d=some "NoneType" \/ tyD d=some "list"):m_q7 [d]=some (.val .none):=by
 refine run_wp (ρ:= [some (.val d),none,none,none,none]) rfl rfl ?_;unfold b_q7;refine wp_seqG (wp_ifT (c:=mNot (mTest (mIsi "str" (mPk 0)))) ?_ (wp_ret (r:= .val .none) rfl rfl));show Option.map _ (Option.bind (Option.bind (tyD d) _) _)=_;rcases hd with hd | hd <;> rw [hd] <;> rfl
theorem lay_enc(l:List Int):(encT' l).canLay0=true:=lay_list (fun _=>rfl) l
theorem dep_enc(l:List Int):(encT' l).depth<=3:=by
 have:=dep_list (en:=PyData.int) (k:=1) (fun _=>by simp [PyData.depth]) l;simp only [encT',PyData.depth,il];omega
theorem run_isplan{L:List (List Int)}(hL:∀l ∈ L,l.length<=900):m_q0 [.list (L.map encT'), .list (L.map encT')]=some (.val (.bool true)):=by
 have sl:=sl1000
 let A:Option Sl:=some (.val (.list (L.map encT')))
 have lay:(PyData.list (L.map encT')).canLay0=true:=lay_list lay_enc L
 have dep:(PyData.list (L.map encT')).depth<=60:=by
  have:=dep_list dep_enc L;simp only [PyData.depth];omega
 refine run_wp (ρ:= [A,A,none]) rfl rfl ?_;unfold b_q0;refine wp_skip (or_to (k:=false) (l:=false) rfl (ne_same (a:= .val (.list (L.map encT'))) (b:= .val (.list (L.map encT'))) rfl rfl rfl lay dep)) ?_;refine wp_seq (P:=fun ρ=>∃z,ρ = [A,A,z]) ?_ ?_
 . refine wp_forL (en:=encT') (xs:=L) (fun _ ρ=>∃z,ρ = [A,A,z]) rfl ⟨_,rfl⟩ ?_ (fun ρ h=>h);rintro j x ρ hj ⟨z,rfl⟩;have hx:=hL x (List.mem_of_getElem? hj);refine ⟨_,rfl,wp_ifF (or_to (k:=false) (l:=false) rfl (ne_same (a:= .own []) (b:= .own []) (lc_to (ds:=il x) rfl (by rw [il_len];omega) (compM_none fun d hd=> ?_)) lstNil rfl rfl (by decide))) (wp_next ⟨_,rfl⟩)⟩;obtain ⟨s,_,rfl⟩:=List.mem_map.mp hd;refine el_if (b:=false) (fg:=gVar 0) (ρ0:= [none]) (d:= .int s) (ρ1:= [some (.val (.int s))]) (r:= .val (.int s)) rfl (not_to (test_eq (call_to (ds:= [.int s]) rfl (run_whole s)))) rfl
 . rintro ρ ⟨z,rfl⟩;exact wp_ret (r:= .val (.bool true)) rfl rfl
theorem plan_enc(t:Str):planT t=((pcs t).map trP).map encT':=by unfold planT;rw [List.map_map];rfl
theorem run_right{t:Str}(ht:Tx.Ok 100000 t):m_q4 [.str t]=some (.val (.bool true)):=by
 obtain ⟨ry,rn⟩:=run_rplan ht
 let T0:Option Sl:=some (.val (.str t))
 let NN:Option Sl:=some (.val .none)
 refine run_wp (ρ:= [T0,none,none,none,none]) rfl rfl ?_;unfold b_q4
 by_cases ok:OkP t
 . refine wp_asgS (r:= .own (planT t)) (call_to (ds:= [.str t]) rfl (told_yes ht ok)) ?_;refine wp_seqN (ρ':= [T0,some (.own (planT t)),NN,none,none]) rfl (wp_asgS (r:= .val .none) rfl ?_);refine wp_seqN (ρ':= [T0,some (.own (planT t)),NN,some (.val (.list (planT t))),none]) (try_to (ρ:= [T0,some (.own (planT t)),NN,NN,none]) (ds:= [.str t]) rfl (ry ok)) ?_;refine wp_seqG (wp_ifT (c:=mTest (mBin disNN (mPk 1) (mK .none))) rfl (wp_frz (wp_frz ?_)));show Wp _ [T0,some (.val (.list (planT t))),NN,some (.val (.list (planT t))),none] _;refine wp_ret (andV_to rfl (call_to (ds:= [.list (planT t), .list (planT t)]) rfl ?_)) rfl;rw [plan_enc];refine run_isplan fun l hl=> ?_;obtain ⟨p,hp,rfl⟩:=List.mem_map.mp hl;rw [ok.2.2.2 p hp];have:=ok.2.2.1;omega
 . refine wp_asgS (r:= .val .none) (call_to (ds:= [.str t]) rfl (told_no ht ok)) ?_;refine wp_seqN (ρ':= [T0,NN,NN,none,none]) rfl (wp_asgS (r:= .val .none) rfl ?_);refine wp_seqN (ρ':= [T0,NN,some (.val xD),NN,none]) (try_no (ρ:= [T0,NN,NN,NN,none]) (ds:= [.str t]) rfl (rn ok)) ?_;refine wp_skip (c:=mTest (mBin disNN (mPk 1) (mK .none))) rfl (wp_skip (c:=mTest (mXi 2 false)) rfl (wp_ret (r:= .val (.bool true)) rfl rfl))
theorem run_right_odd {d:PyData} (hd:tyD d=some "NoneType" \/ tyD d=some "list"):m_q4 [d]=some (.val (.bool true)):=by
 let T0:Option Sl:=some (.val d)
 let NN:Option Sl:=some (.val .none)
 refine run_wp (ρ:= [T0,none,none,none,none]) rfl rfl ?_;unfold b_q4;refine wp_asgS (r:= .val .none) (call_to (ds:= [d]) rfl (told_odd hd)) ?_;refine wp_seqN (ρ':= [T0,NN,NN,none,none]) rfl (wp_asgS (r:= .val .none) rfl ?_);refine wp_seqN (ρ':= [T0,NN,some (.val xD),NN,none]) (try_no (ρ:= [T0,NN,NN,NN,none]) (ds:= [d]) rfl (run_rplan_no hd)) ?_;refine wp_skip (c:=mTest (mBin disNN (mPk 1) (mK .none))) rfl (wp_skip (c:=mTest (mXi 2 false)) rfl (wp_ret (r:= .val (.bool true)) rfl rfl))
theorem run_wpL{n k:Nat}{g:En->Option Out}{ρ:En}{ds:List PyData}{Q:Sl->Prop}(hl:ds.length=k)(e:ds.map (fun d=>some (Sl.val d))++List.replicate (n - ds.length) none=ρ)(h:Wp g ρ (fun o=>∃r,Rt r o/\Q r)):∃r,runD n g k ds=some r/\Q r:=by
 obtain ⟨o,h1,r,h2,h3⟩:=h;exact ⟨r,run_wp hl e ⟨o,h1,h2⟩,h3⟩
def mx(c j:Int):Int:=match m_q1 [.int c, .int j] with
 | some (.val (.int v))=>v
 | _=>0
theorem mx_eq(c:Int){j:Int}(h0:0<=j)(h1:j<1000000):m_q1 [.int c, .int j]=some (.val (.int (mx c j))):=by
 obtain ⟨v,e,_⟩:=run_mix c h0 h1;have:mx c j=v:=by unfold mx;rw [e]
 rw [this];exact e
theorem md_to{f g:En->Option Sl}{ρ:En}{i:Int}{m:Nat}(h:f ρ=some (.val (.int i)))(k:g ρ=some (.val (.int (m:Nat))))(hm:0<m):∃v:Nat,mBin dMod f g ρ=some (.val (.int (v:Nat)))/\v<m:=by
 have a:=Int.fmod_nonneg_of_pos i (show (0:Int)<m by omega);have b:=Int.fmod_lt_of_pos i (show (0:Int)<m by omega);refine ⟨(i.fmod m).toNat,(bin_eq (op:=dMod) h k).trans ((modS (by omega)).trans ?_),by omega⟩;rw [Int.toNat_of_nonneg a]
theorem eq1_to{f:En->Option Sl}{ρ:En}{v:Nat}(h:f ρ=some (.val (.int (v:Nat))))(k:Int):mTest (mBin deq f (mK (.int k))) ρ=some (decide (((v:Nat):Int)=k)):=eq_int h rfl
def GoodL(L:List (List Int)):Prop:=L.length<=151/\∀l ∈ L,l.length<=7/\∀x ∈ l,0<=x/\x<=5
theorem cut_il(l:List Int)(lo hi:Option Int):cutD (il l) lo hi=il (cutD l lo hi):=by
 unfold cutD;rw [il_len];unfold il;rw [<-List.map_drop, <-List.map_take]
theorem cut_mem{l:List Int}{lo hi:Option Int}{x:Int}(h:x ∈ cutD l lo hi):x ∈ l:=List.mem_of_mem_drop (List.mem_of_mem_take h)
theorem cut_len(l:List Int)(lo hi:Option Int):(cutD l lo hi).length<=l.length:=by
 unfold cutD;rw [List.length_take,List.length_drop];omega
theorem run_plan{cs:List Int}(hcs:cs.length<=64){a:Nat}(ha:a<cs.length):∃r,m_q3 [.list (il cs), .int (a:Nat)]=some r/\∃L,r = .own (L.map encT')/\GoodL L:=by
 have sz:=h24
 let C0:Option Sl:=some (.val (.list (il cs)))
 let A1:Option Sl:=some (.val (.int (a:Nat)))
 have gc:cs[a]? = some cs[a]:=List.getElem?_eq_getElem ha;generalize cs[a]=c at gc
 let C2:Option Sl:=some (.val (.int c))
 refine run_wpL (ρ:= [C0,A1,none,none,none,none,none,none,none,none]) rfl rfl ?_;unfold b_q3;refine wp_asgS (r:= .val (.int c)) ((bin_eq (op:=dix) (a:= .val (.list (il cs))) (b:= .val (.int (a:Nat))) rfl rfl).trans (dix_nat (.inl rfl) (by unfold il;rw [List.getElem?_map,gc];rfl))) ?_;have mc:∀(k:Nat) (z3 z4 z5 z6 z7 z8 z9:Option Sl),k<1000->mCall m_q1 (mCons (mVar 2) (mCons (mK (.int (k:Nat))) mNil)) [C0,A1,C2,z3,z4,z5,z6,z7,z8,z9]=some (.val (.int (mx c k))):=fun k _ _ _ _ _ _ _ hk=>call_to (ds:= [.int c, .int (k:Nat)]) rfl (mx_eq c (by omega) (by omega))
 have es:∃s:Nat,1<=s/\s<=7/\mBin dix (mLst (mCons (mK (.int 1)) (mCons (mK (.int 2)) (mCons (mK (.int 3)) (mCons (mK (.int 4)) (mCons (mK (.int 5)) (mCons (mK (.int 6)) (mCons (mK (.int 2)) (mCons (mK (.int 7)) mNil))))))))) (mBin dMod (mCall m_q1 (mCons (mVar 2) (mCons (mK (.int 1)) mNil))) (mK (.int 8))) [C0,A1,C2,none,none,none,none,none,none,none]=some (.val (.int (s:Nat))):=by
  obtain ⟨v,ev,hv⟩:=md_to (mc 1 none none none none none none none (by decide)) (g:=mK (.int 8)) (m:=8) rfl (by decide);have hl:mLst (mCons (mK (.int 1)) (mCons (mK (.int 2)) (mCons (mK (.int 3)) (mCons (mK (.int 4)) (mCons (mK (.int 5)) (mCons (mK (.int 6)) (mCons (mK (.int 2)) (mCons (mK (.int 7)) mNil)))))))) [C0,A1,C2,none,none,none,none,none,none,none]=some (.own [.int 1, .int 2, .int 3, .int 4, .int 5, .int 6, .int 2, .int 7]):=if_pos (e:=none) (show 8<=sizeLine by decide);have h:=bin_eq (op:=dix) hl ev;have:v=0\/v=1\/v=2\/v=3\/v=4\/v=5\/v=6\/v=7:=by omega
  rcases this with rfl | rfl | rfl | rfl | rfl | rfl | rfl | rfl
  . exact ⟨1,by decide,by decide,h.trans rfl⟩
  . exact ⟨2,by decide,by decide,h.trans rfl⟩
  . exact ⟨3,by decide,by decide,h.trans rfl⟩
  . exact ⟨4,by decide,by decide,h.trans rfl⟩
  . exact ⟨5,by decide,by decide,h.trans rfl⟩
  . exact ⟨6,by decide,by decide,h.trans rfl⟩
  . exact ⟨2,by decide,by decide,h.trans rfl⟩
  . exact ⟨7,by decide,by decide,h.trans rfl⟩
 obtain ⟨s,s1,s7,es⟩:=es
 let S3:Option Sl:=some (.val (.int (s:Nat)))
 refine wp_seqN (ρ':= [C0,A1,C2,S3,none,none,none,none,none,none]) (f:=mFrz 2 _) (asg_to (ρ:= [C0,A1,C2,none,none,none,none,none,none,none]) es) ?_;obtain ⟨v,ev,hv⟩:=md_to (mc 2 S3 none none none none none none (by decide)) (g:=mK (.int 4)) (m:=4) rfl (by decide);refine wp_seqN (ρ':= [C0,A1,C2,S3,some (.val (.int ((1+v:Nat):Int))),none,none,none,none,none]) (f:=mFrz 2 _) (asg_to (ρ:= [C0,A1,C2,S3,none,none,none,none,none,none]) ((bin_eq (op:=dAdd) (a:= .val (.int 1)) rfl ev).trans (by show some (Sl.val (.int (1+(v:Int))))=_;congr 3))) ?_;refine wp_seq (P:=fun ρ=>∃m:Nat,1<=m/\m<=151/\ρ = [C0,A1,C2,S3,some (.val (.int (m:Nat))),none,none,none,none,none]) ?_ ?_
 . refine wp_frz ?_;show Wp _ [C0,A1,C2,S3,some (.val (.int ((1+v:Nat):Int))),none,none,none,none,none] _;obtain ⟨q,eq,_⟩:=md_to (mc 3 S3 (some (.val (.int ((1+v:Nat):Int)))) none none none none none (by decide)) (g:=mK (.int 4)) (m:=4) rfl (by decide);have tt:=and_to (eq_int (fa:=mPk 1) (fb:=mK (.int 0)) (ρ:= [C0,A1,C2,S3,some (.val (.int ((1+v:Nat):Int))),none,none,none,none,none]) (i:=(a:Nat)) (j:=0) rfl rfl) (eq1_to eq 1);refine wp_if tt ?_
   split
   . refine wp_frz ?_;show Wp _ [C0,A1,C2,S3,some (.val (.int ((1+v:Nat):Int))),none,none,none,none,none] _;obtain ⟨w,ew,hw⟩:=md_to (mc 4 S3 (some (.val (.int ((1+v:Nat):Int)))) none none none none none (by decide)) (g:=mK (.int 2)) (m:=2) rfl (by decide);exact wp_asg (r:= .val (.int ((150+w:Nat):Int))) ((bin_eq (op:=dAdd) (a:= .val (.int 150)) rfl ew).trans (by show some (Sl.val (.int (150+(w:Int))))=_;congr 3)) ⟨_,by omega,by omega,rfl⟩
   . exact wp_next ⟨_,by omega,by omega,rfl⟩
 rintro ρ ⟨m,m1,m2,rfl⟩
 let M4:Option Sl:=some (.val (.int (m:Nat)))
 obtain ⟨q,eq,_⟩:=md_to (mc 5 S3 M4 none none none none none (by decide)) (g:=mK (.int 8)) (m:=8) rfl (by decide)
 have est:∃st:Nat,5<=st/\st<=6/\mBin dAdd (mK (.int 5)) (mCallP dInt (mConsP (mBin deq (mBin dMod (mCall m_q1 (mCons (mVar 2) (mCons (mK (.int 5)) mNil))) (mK (.int 8))) (mK (.int 1))) mNilP)) [C0,A1,C2,S3,M4,none,none,none,none,none]=some (.val (.int (st:Nat))):=by
  have e:=mTest_some (eq1_to eq 1)
  cases hb:decide (((q:Nat):Int)=1) with
  | true=>
   rw [hb] at e
   exact ⟨6,by decide,by decide,(bin_eq (op:=dAdd) (a:= .val (.int 5)) (b:= .val (.int 1)) rfl (callP_to (ss:= [.val (.bool true)]) (consP_to e rfl) rfl)).trans rfl⟩
  | false=>
   rw [hb] at e
   exact ⟨5,by decide,by decide,(bin_eq (op:=dAdd) (a:= .val (.int 5)) (b:= .val (.int 0)) rfl (callP_to (ss:= [.val (.bool false)]) (consP_to e rfl) rfl)).trans rfl⟩
 obtain ⟨st,st5,st6,est⟩:=est
 let T5:Option Sl:=some (.val (.int (st:Nat)))
 refine wp_seqN (ρ':= [C0,A1,C2,S3,M4,T5,none,none,none,none]) (f:=mFrz 2 _) (asg_to (ρ:= [C0,A1,C2,S3,M4,none,none,none,none,none]) est) ?_;refine wp_asgS (r:= .own []) lstNil ?_;refine wp_seq (P:=fun ρ=>∃(L:List (List Int)) (z7 z8:Option Sl),ρ = [C0,A1,C2,S3,M4,T5,some (.own (L.map encT')),z7,z8,none]/\L.length=m/\∀l ∈ L,l.length=s/\∀x ∈ l,0<=x/\x<=5) ?_ ?_
 . refine wp_forR0 (n:=m) (fun k ρ=>∃(L:List (List Int)) (z7 z8:Option Sl),ρ = [C0,A1,C2,S3,M4,T5,some (.own (L.map encT')),z7,z8,none]/\L.length=k/\∀l ∈ L,l.length=s/\∀x ∈ l,0<=x/\x<=5) (rng1_to rfl (by omega)) ⟨[],none,none,rfl,rfl,by simp⟩ ?_ (fun ρ h=>h);rintro k ρ hk ⟨L,z7,z8,rfl,hL,hg⟩
   let F6:Option Sl:=some (.own (L.map encT'))
   let K7:Option Sl:=some (.val (.int (k:Nat)))
   refine ⟨_,rfl,?_⟩;show Wp _ [C0,A1,C2,S3,M4,T5,F6,K7,z8,none] _;obtain ⟨u,eu,hu⟩:=md_to (f:=mBin dAdd (mPk 1) (mPk 7)) (g:=mCallP dLen (mConsP (mPk 0) mNilP)) (ρ:= [C0,A1,C2,S3,M4,T5,F6,K7,z8,none]) (i:=(a:Int)+(k:Int)) (m:=cs.length) rfl ((len_to (a:= .val (.list (il cs))) rfl (.inl rfl)).trans (by rw [il_len])) (by omega);have gu:cs[u]? = some cs[u]:=List.getElem?_eq_getElem hu;generalize cs[u]=cu at gu
   refine wp_asgS (r:= .val (.int (cu+(k:Int).fdiv 5))) ((bin_eq (op:=dAdd) (a:= .val (.int cu)) (b:= .val (.int ((k:Int).fdiv 5))) ((bin_eq (op:=dix) (a:= .val (.list (il cs))) (b:= .val (.int (u:Nat))) rfl eu).trans (dix_nat (.inl rfl) (by unfold il;rw [List.getElem?_map,gu];rfl))) ((bin_eq (op:=dFdiv) (a:= .val (.int (k:Nat))) (b:= .val (.int 5)) rfl rfl).trans (div_k (by decide) (by decide)))).trans rfl) ?_;generalize cu+(k:Int).fdiv 5=th
   let H8:Option Sl:=some (.val (.int th))
   refine wp_frz ?_;show Wp _ [C0,A1,C2,S3,M4,T5,F6,K7,H8,none] _
   let row:List Int:=(List.range s).map fun i=>(mx th (10+(i:Nat))).fmod st
   refine wp_of (app_to (r:= .val (encT' row)) (callP_to (ss:= [.own (il row)]) (consP_to (as:= []) (lc_to (ds:=rngD 0 s) (rng1_to rfl (by omega)) (by rw [rngD,List.length_map,List.length_range];omega) ?_) rfl) rfl) rfl (by rw [List.length_map];omega)) ⟨L ++ [row],K7,H8,?_,by rw [List.length_append];simp;exact hL,fun l hl=> ?_⟩
   . have er:il row=(List.range s).map fun i=>PyData.int ((mx th (10+(i:Nat))).fmod st):=by show List.map _ (List.map _ _)=_;rw [List.map_map];rfl
     rw [er];refine compM_range (lo:=0) fun i hi=> ?_;refine el_to (fg:=gVar 2) (ρ0:= [H8,T5,none]) (d:= .int (0+(i:Nat))) (ρ1:= [H8,T5,some (.val (.int (0+(i:Nat))))]) (r:= .val (.int ((mx th (10+(i:Nat))).fmod st))) rfl ?_;refine (bin_eq (op:=dMod) (a:= .val (.int (mx th (10+(i:Nat))))) (b:= .val (.int (st:Nat))) (call_to (ds:= [.int th, .int (10+(0+(i:Nat)))]) rfl ?_) rfl).trans (modS (by omega));rw [Int.zero_add];exact mx_eq th (by omega) (by omega)
   . show [C0,A1,C2,S3,M4,T5,some (Sl.own (L.map encT' ++ [encT' row])),K7,H8,none]=_;rw [List.map_append];rfl
   . rcases List.mem_append.mp hl with hl | hl
     . exact hg l hl
     . cases List.mem_singleton.mp hl
       refine ⟨by rw [List.length_map,List.length_range],fun x hx=> ?_⟩;obtain ⟨i,_,rfl⟩:=List.mem_map.mp hx;have p1:=Int.fmod_nonneg_of_pos (mx th (10+(i:Nat))) (show (0:Int)<st by omega);have p2:=Int.fmod_lt_of_pos (mx th (10+(i:Nat))) (show (0:Int)<st by omega);exact ⟨p1,by omega⟩
 rintro ρ ⟨L,z7,z8,rfl,hL,hg⟩;have good:GoodL L:=⟨by omega,fun l hl=>⟨by rw [(hg l hl).1];exact s7,(hg l hl).2⟩⟩
 let F6:Option Sl:=some (.own (L.map encT'))
 refine wp_seqG (wp_frz ?_);show Wp _ [C0,A1,C2,S3,M4,T5,F6,z7,z8,none] _;obtain ⟨q6,eq6,_⟩:=md_to (mc 6 S3 M4 T5 F6 z7 z8 none (by decide)) (g:=mK (.int 8)) (m:=8) rfl (by decide);have tt:=and_to (eq1_to eq6 1) (gt_to (f:=mPk 3) (g:=mK (.int 1)) (ρ:= [C0,A1,C2,S3,M4,T5,F6,z7,z8,none]) (i:=(s:Nat)) (j:=1) rfl rfl);refine wp_if tt ?_
 split
 . rename_i hb
   have hs:1<s:=by
    rw [Bool.and_eq_true] at hb
    have:=of_decide_eq_true hb.2;omega
   obtain ⟨w,ew,hw⟩:=md_to (mc 7 S3 M4 T5 F6 z7 z8 none (by decide)) (g:=mPk 4) (m:=m) rfl (by omega);refine wp_seqN (ρ':= [C0,A1,C2,S3,M4,T5,F6,z7,z8,some (.val (.int (w:Nat)))]) (f:=mFrz 2 _) (asg_to (ρ:= [C0,A1,C2,S3,M4,T5,F6,z7,z8,none]) ew) ?_;have hwL:w<L.length:=by omega
   have gw:L[w]? = some L[w]:=List.getElem?_eq_getElem hwL;have hgw:=hg L[w] (List.getElem_mem _);generalize L[w]=lw at gw hgw
   have ei:mBin dix (mPk 6) (mPk 9) [C0,A1,C2,S3,M4,T5,F6,z7,z8,some (.val (.int (w:Nat)))]=some (.val (encT' lw)):=(bin_eq (op:=dix) (a:= .own (L.map encT')) (b:= .val (.int (w:Nat))) rfl rfl).trans (dix_nat (.inl rfl) (by rw [List.getElem?_map,gw];rfl))
   have esl:mSl (mBin dix (mPk 6) (mPk 9)) (mPart (mK (.int 1))) mNoPart [C0,A1,C2,S3,M4,T5,F6,z7,z8,some (.val (.int (w:Nat)))]=some (.val (encT' (cutD lw (some 1) none))):=by
    unfold mSl;rw [ei];show dSl (.val (encT' lw)) (some ((1:Nat):Int)) none=_;unfold dSl;show (if HT.sIx (il lw).length 0 (some ((1:Nat):Int))=0/\_ then _ else _)=_;rw [if_neg (by rw [HT.sIx_nat,il_len,hgw.1];omega),cut_il];rfl
   refine wp_of (set_to (j:=w) esl rfl rfl (by
    rw [List.length_map];unfold ixN;rw [if_pos (by omega),if_pos (by omega),Int.toNat_natCast])) ?_
   refine wp_ret (r:= .own ((L.set w (cutD lw (some 1) none)).map encT')) ?_ ⟨_,rfl,_,rfl,by rw [List.length_set];omega,fun l hl=> ?_⟩
   . show some (Sl.own ((L.map encT').set w (encT' (cutD lw (some 1) none))))=_;rw [<-List.map_set]
   . rcases List.mem_or_eq_of_mem_set hl with hl | rfl
     . exact good.2 l hl
     . exact ⟨Nat.le_trans (cut_len ..) (by rw [hgw.1];exact s7),fun x hx=>hgw.2 x (cut_mem hx)⟩
 . exact wp_next (wp_ret (r:= .own (L.map encT')) rfl ⟨_,rfl,L,rfl,good⟩)
def sT(x:Int):Str:=Str.ofString (toString x)
def rowT(l:List Int):Str:=Txt.join " " (l.map sT)
def txt(L:List (List Int)):Str:=Txt.join "; " (L.map rowT)
theorem sT_ok{x:Int}(h:0<=x/\x<=5):(sT x).length<=1/\PyData.strOk (sT x)=true:=by
 have:x=0\/x=1\/x=2\/x=3\/x=4\/x=5:=by omega
 rcases this with rfl | rfl | rfl | rfl | rfl | rfl <;> decide +kernel
theorem row_ok{l:List Int}(hl:l.length<=7)(h:∀x ∈ l,0<=x/\x<=5):(rowT l).length<=14/\PyData.strOk (rowT l)=true/\JoinOk " " (l.map sT)=true:=by
 have k:∀y ∈ l.map sT,y.length<=1:=fun y hy=>by
  obtain ⟨x,hx,rfl⟩:=List.mem_map.mp hy;exact (sT_ok (h x hx)).1
 have e:(Str.ofString " ").length=1:=by decide +kernel
 have a:=Tx.join_len " " (l.map sT) k;rw [List.length_map,e] at a
 refine ⟨by show (Txt.join _ _).length<=_;omega,Tx.ok_q10 (by decide +kernel) fun y hy=> ?_,Tx.join_ok " " (l.map sT) k (by rw [List.length_map,e];omega)⟩;obtain ⟨x,hx,rfl⟩:=List.mem_map.mp hy;exact (sT_ok (h x hx)).2
theorem txt_ok{L:List (List Int)}(h:GoodL L):Tx.Ok 40000 (txt L)/\JoinOk "; " (L.map rowT)=true:=by
 have k:∀y ∈ L.map rowT,y.length<=14:=fun y hy=>by
  obtain ⟨x,hx,rfl⟩:=List.mem_map.mp hy;exact (row_ok (h.2 x hx).1 (h.2 x hx).2).1
 have e:(Str.ofString "; ").length=2:=by decide +kernel
 have a:=Tx.join_len "; " (L.map rowT) k;rw [List.length_map,e] at a
 have h1:=h.1;refine ⟨⟨by show (Txt.join _ _).length<=_;omega,Tx.ok_q10 (by decide +kernel) fun y hy=> ?_⟩,Tx.join_ok "; " (L.map rowT) k (by rw [List.length_map,e];omega)⟩;obtain ⟨x,hx,rfl⟩:=List.mem_map.mp hy;exact (row_ok (h.2 x hx).1 (h.2 x hx).2).2.1
theorem join_to{f:En->Option Sl}{ρ:En}{s:Str}{zs:List Str}(h:f ρ=some (.own (zs.map .str)))(k:JoinOk s zs=true):mBin dJoin (mK (.str s)) f ρ=some (.val (.str (Txt.join s zs))):=by
 refine (bin_eq (op:=dJoin) (a:= .val (.str s)) rfl h).trans ?_;show (strsOf (zs.map .str)).bind _=_;rw [strsOf_map,Option.bind_some,if_pos k]
theorem nums_to {ρ : En} {l : List Int} (h0 : (ρ[0]?).join = some (.val (encT' l))) (h00 : mVar 0 ρ = some (.val (encT' l))) (hl : l.length <= 7) (h : ∀ x ∈ l, 0 <= x /\ x <= 5) :
 mBin dJoin (mK (.str " ")) (mLC (subE [none]) (mItemsS (mVar 0)) (gVar 0) mYes (mCallP dStrI (mConsP (mPk 0) mNilP))) ρ=some (.val (.str (rowT l))):=by
 have sz:=h24;have e:(l.map sT).map PyData.str=l.map fun x=> .str (sT x):=by rw [List.map_map];rfl
 refine join_to (lc_to (ds:=il l) ?_ (by rw [il_len];omega) ?_) (row_ok hl h).2.2
 . unfold mItemsS;rw [h00];rfl
 . rw [e];refine compM_map (en:= .int) fun x hx=> ?_;refine el_to (fg:=gVar 0) (ρ0:= [none]) (d:= .int x) (ρ1:= [some (.val (.int x))]) (r:= .val (.str (sT x))) rfl (callP_to (ss:= [.val (.int x)]) rfl ?_);have:=h x hx;exact if_pos ⟨this.1,by omega⟩
theorem run_shown{l:List Int}(hl:l.length<=7)(h:∀x ∈ l,0<=x/\x<=5):m_q16 [encT' l]=some (.val (.str (rowT l))):=by
 refine run_wp (ρ:= [some (.val (encT' l))]) rfl rfl ?_;unfold b_q16;exact wp_ret (nums_to rfl rfl hl h) rfl
theorem rows_str(L:List (List Int)):(L.map rowT).map PyData.str=L.map fun l=> .str (rowT l):=by rw [List.map_map];rfl
theorem run_shplan{L:List (List Int)}(h:GoodL L):m_q17 [.list (L.map encT')]=some (.val (.str (txt L))):=by
 have sz:=h24;have h1:=h.1;refine run_wp (ρ:= [some (.val (.list (L.map encT')))]) rfl rfl ?_;unfold b_q17;refine wp_ret (join_to (lc_to (ds:=L.map encT') rfl (by rw [List.length_map];omega) ?_) (txt_ok h).2) rfl;rw [rows_str];refine compM_map (en:=encT') fun l hl=> ?_;exact el_to (fg:=gVar 0) (ρ0:= [none]) (d:=encT' l) (ρ1:= [some (.val (encT' l))]) (r:= .val (.str (rowT l))) rfl (call_to (ds:= [encT' l]) rfl (run_shown (h.2 l hl).1 (h.2 l hl).2))
theorem run_text{L:List (List Int)}(h:GoodL L):m_q6 [.list (L.map encT')]=some (.val (.str (txt L))):=by
 have sz:=h24;have h1:=h.1;refine run_wp (ρ:= [some (.val (.list (L.map encT')))]) rfl rfl ?_;unfold b_q6;refine wp_ret (join_to (lc_to (ds:=L.map encT') rfl (by rw [List.length_map];omega) ?_) (txt_ok h).2) rfl;rw [rows_str];refine compM_map (en:=encT') fun l hl=> ?_;exact el_to (fg:=gVar 0) (ρ0:= [none]) (d:=encT' l) (ρ1:= [some (.val (encT' l))]) (r:= .val (.str (rowT l))) rfl (nums_to rfl rfl (h.2 l hl).1 (h.2 l hl).2)
theorem lst_to{f:En->Option (List PyData)}{ρ:En}{ds:List PyData}(h:f ρ=some ds)(k:ds.length<=sizeLine):mLst f ρ=some (.own ds):=by
 unfold mLst;rw [h];exact if_pos (e:=none) k
def Fine(d:PyData):Prop:=(∃s,d = .str s/\Tx.Ok 100000 s)\/tyD d=some "NoneType" \/ tyD d=some "list"
theorem fine_right{d:PyData}(h:Fine d):m_q4 [d]=some (.val (.bool true)):=by
 rcases h with ⟨s,rfl,hs⟩ | h
 . exact run_right hs
 . exact run_right_odd h
theorem fine_all:∀d ∈ ([.str "", .str " ", .str ";", .str "; ", .str "0;", .str "0; ", .str "0;1", .str "0 ;1", .str "0 1; 2", .str " 0", .str "0 ", .str "0\x20\x201", .str "5", .str "-1", .str "00", .str "01", .str "0 1 2 3 4 0 1", .str "0\n", .none, .list [.tuple [.int 0]]]:List PyData),Fine d:=by
 intro d hd;simp only [List.mem_cons,List.not_mem_nil,or_false] at hd
 rcases hd with rfl | rfl | rfl | rfl | rfl | rfl | rfl | rfl | rfl | rfl | rfl | rfl | rfl | rfl | rfl | rfl | rfl | rfl | rfl | rfl
 all_goals first
  | exact .inl ⟨_,rfl,by decide +kernel,by decide +kernel⟩
  | exact .inr (.inl rfl)
  | exact .inr (.inr rfl)
theorem run_odd(c:Int):∃r,m_q2 [.int c]=some r/\∃d,r = .val d/\Fine d:=by
 let C0:Option Sl:=some (.val (.int c))
 refine run_wpL (ρ:= [C0,none]) rfl rfl ?_;unfold b_q2
 let A:List PyData:= [.str "", .str " ", .str ";", .str "; ", .str "0;", .str "0; ", .str "0;1", .str "0 ;1", .str "0 1; 2", .str " 0", .str "0 ", .str "0\x20\x201", .str "5", .str "-1", .str "00", .str "01"]
 let B:List PyData:= [.str "0 1 2 3 4 0 1", .str "0\n", .none, .list [.tuple [.int 0]]]
 refine wp_asgS (r:= .own A) (if_pos (e:=none) (show 16<=sizeLine by decide)) ?_
 have eb:mLst (mCons (mK (.str "0 1 2 3 4 0 1")) (mCons (mK (.str "0\n")) (mCons (mK .none) (mCons (mLst (mCons (mTup (mCons (mK (.int 0)) mNil)) mNil)) mNil)))) [C0,some (.own A)]=some (.own B):=by
  exact lst_to (cons_to (a:= .val (.str "0 1 2 3 4 0 1")) rfl (cons_to (a:= .val (.str "0\n")) rfl (cons_to (a:= .val .none) rfl (cons_to (as:= []) (lst1 (tup1 (a:= .val (.int 0)) rfl)) rfl)))) (show 4<=sizeLine by decide)
 refine wp_asgS (r:= .own (A++B)) ((bin_eq (op:=dAdd) (a:= .own A) rfl eb).trans (add_own rfl rfl (show 20<=sizeLine by decide))) ?_;obtain ⟨v,ev,hv⟩:=md_to (f:=mCall m_q1 (mCons (mVar 0) (mCons (mK (.int 30)) mNil))) (ρ:= [C0,some (.own (A++B))]) (call_to (ds:= [.int c, .int 30]) rfl (mx_eq c (by decide) (by decide))) (g:=mK (.int 20)) (m:=20) rfl (by decide);have hl:v<(A++B).length:=hv;refine wp_ret (r:= .val (A++B)[v]) ((bin_eq (op:=dix) (a:= .own (A++B)) rfl ev).trans (dix_nat (.inl rfl) (List.getElem?_eq_getElem hl))) ⟨_,rfl,_,rfl,fine_all _ (List.getElem_mem _)⟩
theorem run_spoiled{t:Str}(ht:Tx.Ok 40000 t)(c:Int):∃r,m_q5 [.str t, .int c]=some r/\∃d,r = .val d/\Fine d:=by
 have sz:=h24;have ht1:=ht.1
 let T0:Option Sl:=some (.val (.str t))
 let C1:Option Sl:=some (.val (.int c))
 let S2:Option Sl:=some (.val (.str "\x20\x20\x20;;0123456-x,+\n\t"))
 refine run_wpL (ρ:= [T0,C1,none,none,none,none]) rfl rfl ?_;unfold b_q5;refine wp_asgS (r:= .val (.str "\x20\x20\x20;;0123456-x,+\n\t")) rfl ?_;have mc:∀(k:Nat) (z3 z4 z5:Option Sl),k<1000->mCall m_q1 (mCons (mVar 1) (mCons (mK (.int (k:Nat))) mNil)) [T0,C1,S2,z3,z4,z5]=some (.val (.int (mx c k))):=fun k _ _ _ hk=>call_to (ds:= [.int c, .int (k:Nat)]) rfl (mx_eq c (by omega) (by omega));obtain ⟨w,ew,hw⟩:=md_to (mc 31 none none none (by decide)) (g:=mK (.int 8)) (m:=8) rfl (by decide);refine wp_asgS (r:= .val (.int (w:Nat))) ew ?_
 let W3:Option Sl:=some (.val (.int (w:Nat)))
 have elen:∀z3 z4 z5,mBin dAdd (mCallP dLenX (mConsP (mPk 0) mNilP)) (mK (.int 1)) [T0,C1,S2,z3,z4,z5]=some (.val (.int ((t.length+1:Nat):Int))):=fun _ _ _=>(bin_eq (op:=dAdd) (a:= .val (.int (t.length:Nat))) (b:= .val (.int 1)) (callP_to (ss:= [.val (.str t)]) rfl (if_pos (show t.length<=sizeLine by omega))) rfl).trans rfl;obtain ⟨a,ea,ha⟩:=md_to (mc 32 W3 none none (by decide)) (elen W3 none none) (by omega);refine wp_asgS (r:= .val (.int (a:Nat))) ea ?_
 let A4:Option Sl:=some (.val (.int (a:Nat)))
 have sl:(Str.ofString "\x20\x20\x20;;0123456-x,+\n\t").length=18:=by decide +kernel
 obtain ⟨g,eg,hg⟩:=md_to (mc 33 W3 A4 none (by decide)) (g:=mCallP dLenX (mConsP (mPk 2) mNilP)) (m:=18) ((callP_to (ss:= [.val (.str "\x20\x20\x20;;0123456-x,+\n\t")]) (r:= .val (.int ((Str.ofString "\x20\x20\x20;;0123456-x,+\n\t").length:Nat))) rfl (if_pos (e:=none) (show (Str.ofString "\x20\x20\x20;;0123456-x,+\n\t").length<=sizeLine by rw [sl];decide))).trans (by rw [sl])) (by decide);have sl2:(Str.ofString "\x20\x20\x20;;0123456-x,+\n\t").cps.toList.length=18:=by rw [<-sl];exact Array.length_toList
 have hgl:g<(Str.ofString "\x20\x20\x20;;0123456-x,+\n\t").cps.toList.length:=by rw [sl2];exact hg
 have gg:(Str.ofString "\x20\x20\x20;;0123456-x,+\n\t").cps.toList[g]? = some (Str.ofString "\x20\x20\x20;;0123456-x,+\n\t").cps.toList[g]:=List.getElem?_eq_getElem hgl;have hch:(Str.ofString "\x20\x20\x20;;0123456-x,+\n\t").cps.toList[g]<0x110000:=Tx.ok_iff.mp (show PyData.strOk (Str.ofString "\x20\x20\x20;;0123456-x,+\n\t")=true by decide +kernel) _ (List.getElem_mem _);generalize (Str.ofString "\x20\x20\x20;;0123456-x,+\n\t").cps.toList[g]=ch at gg hch
 have eix:dIxX (.val (.str "\x20\x20\x20;;0123456-x,+\n\t")) (.val (.int (g:Nat)))=some (.val (.str ⟨#[ch]⟩)):=by
  have q:(if (Str.ofString "\x20\x20\x20;;0123456-x,+\n\t").length<=sizeLine then (atI (Str.ofString "\x20\x20\x20;;0123456-x,+\n\t").cps.toList ((g:Nat):Int)).map fun c=>Sl.val (.str ⟨#[c]⟩) else none)=some (.val (.str ⟨#[ch]⟩)):=by
   rw [if_pos (by rw [sl];decide),Dm.atI_nat gg];rfl
  exact q
 refine wp_asgS (r:= .val (.str ⟨#[ch]⟩)) ((bin_eq (op:=dIxX) (a:= .val (.str "\x20\x20\x20;;0123456-x,+\n\t")) rfl eg).trans eix) ?_
 have okc:PyData.strOk ⟨#[ch]⟩=true:=Tx.ok_iff.mpr fun x hx=>by
  have hx:x ∈ [ch]:=hx
  cases List.mem_singleton.mp hx
  exact hch
 let G5:Option Sl:=some (.val (.str ⟨#[ch]⟩))
 have slo:∀(lo hi:Option Int),Tx.Ok 40000 (Txt.slice t lo hi):=fun lo hi=>⟨Nat.le_trans (Txt.slice_le t lo hi) ht1,Tx.ok_q18 ht.2 lo hi⟩
 have slt:∀(fl fh:En->Option (Option Int)) (lo hi:Option Int),fl [T0,C1,S2,W3,A4,G5]=some lo->fh [T0,C1,S2,W3,A4,G5]=some hi->mSlX (mPk 0) fl fh [T0,C1,S2,W3,A4,G5]=some (.val (.str (Txt.slice t lo hi))):=fun fl fh lo hi h1 h2=>by
  unfold mSlX;rw [show mPk 0 [T0,C1,S2,W3,A4,G5]=some (.val (.str t)) from rfl,Option.bind_some,h1,Option.bind_some,h2,Option.bind_some];exact if_pos (show t.length<=sizeLine by omega)
 have add:∀ {f h:En->Option Sl} {x y:Str} {m n:Nat},f [T0,C1,S2,W3,A4,G5]=some (.val (.str x))->h [T0,C1,S2,W3,A4,G5]=some (.val (.str y))->Tx.Ok m x->Tx.Ok n y->m+n<=100000->mBin dAddX f h [T0,C1,S2,W3,A4,G5]=some (.val (.str (x++y)))/\Tx.Ok (m+n) (x++y):=fun {f h x y m n} h1 h2 k1 k2 hmn=>by
  have a1:=k1.1;have a2:=k2.1;refine ⟨(bin_eq (op:=dAddX) h1 h2).trans (if_pos (by omega)),?_,Tx.ok_app k1.2 k2.2⟩;rw [Str.length_append];omega
 have g1:Tx.Ok 1 ⟨#[ch]⟩:=⟨Nat.le_refl _,okc⟩;have b1:mPart (mPk 4) [T0,C1,S2,W3,A4,G5]=some (some ((a:Nat):Int)):=rfl;have b2:mPart (mBin dAdd (mPk 4) (mK (.int 1))) [T0,C1,S2,W3,A4,G5]=some (some (((a:Nat):Int)+1)):=rfl;have fin:∀ {f:En->Option Sl} {x:Str} {n:Nat} {Z:Out->Prop},(∀d ρ',Fine d->Z (.rt (.val d) ρ'))->f [T0,C1,S2,W3,A4,G5]=some (.val (.str x))/\Tx.Ok n x->n<=100000->Wp (mRet f) [T0,C1,S2,W3,A4,G5] Z:=fun {f x n Z} z h hn=>wp_ret h.1 (z _ _ (.inl ⟨x,rfl,Nat.le_trans h.2.1 hn,h.2.2⟩));obtain ⟨c1,c2⟩:=add (slt mNoPart (mPart (mPk 4)) none _ rfl b1) (show mPk 5 [T0,C1,S2,W3,A4,G5]=some (.val (.str ⟨#[ch]⟩)) from rfl) (slo _ _) g1 (by decide);have tw:∀k:Int,mTest (mBin deq (mPk 3) (mK (.int k))) [T0,C1,S2,W3,A4,G5]=some (decide (((w:Nat):Int)=k)):=fun k=>eq1_to rfl k;refine wp_seqG (wp_if (tw 0) ?_)
 split
 . exact fin (fun d _ h=>⟨_,rfl,_,rfl,h⟩) (add c1 (slt (mPart (mPk 4)) mNoPart _ none b1 rfl) c2 (slo _ _) (by decide)) (by decide)
 refine wp_next (wp_seqG (wp_if (tw 1) ?_))
 split
 . exact fin (fun d _ h=>⟨_,rfl,_,rfl,h⟩) (add (slt mNoPart (mPart (mPk 4)) none _ rfl b1) (slt (mPart (mBin dAdd (mPk 4) (mK (.int 1)))) mNoPart _ none b2 rfl) (slo _ _) (slo _ _) (by decide)) (by decide)
 have tl:mTest (mBin dLt (mPk 3) (mK (.int 5))) [T0,C1,S2,W3,A4,G5]=some (decide (((w:Nat):Int)<5)):=test_eq ((bin_eq (op:=dLt) (a:= .val (.int (w:Nat))) (b:= .val (.int 5)) rfl rfl).trans rfl);refine wp_next (wp_seqG (wp_if tl ?_))
 split
 . exact fin (fun d _ h=>⟨_,rfl,_,rfl,h⟩) (add c1 (slt (mPart (mBin dAdd (mPk 4) (mK (.int 1)))) mNoPart _ none b2 rfl) c2 (slo _ _) (by decide)) (by decide)
 refine wp_next (wp_seqG (wp_if (tw 5) ?_))
 split
 . obtain ⟨r,er,d,rfl,hd⟩:=run_odd c;exact wp_ret (call_to (ds:= [.int c]) rfl er) ⟨_,rfl,_,rfl,hd⟩
 exact wp_next (fin (fun d _ h=>⟨_,rfl,_,rfl,h⟩) ⟨rfl,ht⟩ (by decide))
theorem law_true(ns:List Int)(hns:ns.length<=63):m_law [.list (ns.map .int)]=some (.val (.bool true)):=by
 have sl:=sl1000
 let S:Option Sl:=some (.val (.list (ns.map .int)))
 have hlen:=cells_len ns
 let CV:Option Sl:=some (.val (.list (il (cellsOf ns))))
 refine run_wp (ρ:= [S,none,none,none,none,none]) rfl rfl ?_;unfold b_law;refine wp_asgS (run_cells (n:=0) rfl) ?_;refine wp_seq (P:=fun _=>True) ?_ (fun ρ _=>wp_ret (r:= .val (.bool true)) rfl rfl);refine wp_forR0 (n:=(cellsOf ns).length) (fun _ ρ=>∃(s1:Sl) (z2 z3 z4 z5:Option Sl),ρ = [S,some s1,z2,z3,z4,z5]/\(s1 = .own (il (cellsOf ns))\/s1 = .val (.list (il (cellsOf ns))))) (rng1_to (consP_to ((len_to (a:= .own (il (cellsOf ns))) rfl (.inl rfl)).trans (by rw [il_len])) rfl) (by omega)) ⟨_,_,_,_,_,rfl, .inl rfl⟩ ?_ (fun _ _=>True.intro);rintro a ρ hlt ⟨s1,z2,z3,z4,z5,rfl,hs⟩;obtain ⟨r,er,L,rfl,hL⟩:=run_plan (cs:=cellsOf ns) (by omega) hlt;have gc:(cellsOf ns)[a]? = some (cellsOf ns)[a]:=List.getElem?_eq_getElem hlt;generalize (cellsOf ns)[a]=c at gc
 let A2:Option Sl:=some (.val (.int (a:Nat)))
 let L3:Option Sl:=some (.own (L.map encT'))
 let V3:Option Sl:=some (.val (.list (L.map encT')))
 let X4:Option Sl:=some (.val (.str (txt L)))
 obtain ⟨okt,_⟩:=txt_ok hL;have okt':Tx.Ok 100000 (txt L):=⟨Nat.le_trans okt.1 (by decide),okt.2⟩;have lay:(PyData.list (L.map encT')).canLay0=true:=lay_list lay_enc L
 have dep:(PyData.list (L.map encT')).depth<=60:=by
  have:=dep_list dep_enc L;simp only [PyData.depth];omega
 refine ⟨_,rfl,?_⟩;have fz:∀z3 z4 z5,frz1 1 [S,some s1,A2,z3,z4,z5] = [S,CV,A2,z3,z4,z5]:=fun _ _ _=>by rcases hs with rfl | rfl <;> rfl
 refine wp_seqN (ρ':= [S,CV,A2,L3,z4,z5]) ?_ ?_
 . rw [frz_eq];show mAsg _ _ (frz1 1 [S,some s1,A2,z3,z4,z5])=_;rw [fz];exact asg_to (ρ:= [S,CV,A2,z3,z4,z5]) (call_to (ds:= [.list (il (cellsOf ns)), .int (a:Nat)]) rfl er)
 refine wp_seqN (ρ':= [S,CV,A2,V3,X4,z5]) ?_ ?_
 . rw [frz_eq];exact asg_to (ρ:= [S,CV,A2,V3,z4,z5]) (call_to (ds:= [.list (L.map encT')]) rfl (run_text hL))
 refine wp_seq (P:=fun ρ=>∃z5,ρ = [S,CV,A2,V3,X4,z5]) ?_ ?_
 . refine wp_frz ?_;show Wp _ [S,CV,A2,V3,X4,z5] _
   by_cases ok:OkP (txt L)
   . refine wp_ifT (c:=mTest (mBin disNN (mCall m_q7 (mCons (mVar 4) mNil)) (mK .none))) (test_eq ((bin_eq (op:=disNN) (b:= .val .none) (call_to (ds:= [.str (txt L)]) rfl (told_yes okt' ok)) rfl).trans rfl)) ?_;refine wp_seqN (ρ':= [S,CV,A2,V3,X4,X4]) (f:=mFrz 3 _) (asg_to (ρ:= [S,CV,A2,V3,X4,z5]) (call_to (ds:= [.list (L.map encT')]) rfl (run_shplan hL))) ?_;refine wp_frz ?_;show Wp _ [S,CV,A2,V3,X4,X4] _;refine wp_ifF (or_to (k:=false) (l:=false) rfl (or_to (k:=false) (l:=false) (ne_same (a:= .val (.str (txt L))) (b:= .val (.str (txt L))) rfl rfl rfl okt.2 (by show PyData.depth (.str _)<=60;simp [PyData.depth])) (ne_same (a:= .val (.list (L.map encT'))) (b:= .own (L.map encT')) rfl (call_to (ds:= [.list (il (cellsOf ns)), .int (a:Nat)]) rfl er) rfl lay dep))) (wp_next ⟨_,rfl⟩)
   . refine wp_ifF (c:=mTest (mBin disNN (mCall m_q7 (mCons (mVar 4) mNil)) (mK .none))) (test_eq ((bin_eq (op:=disNN) (b:= .val .none) (call_to (ds:= [.str (txt L)]) rfl (told_no okt' ok)) rfl).trans rfl)) (wp_next ⟨_,rfl⟩)
 . rintro ρ ⟨z5,rfl⟩;refine wp_frz ?_;show Wp _ [S,CV,A2,V3,X4,z5] _;obtain ⟨r,es,d,rfl,hd⟩:=run_spoiled okt c;have ecell:mBin dix (mPk 1) (mPk 2) [S,CV,A2,V3,X4,z5]=some (.val (.int c)):=(bin_eq (op:=dix) (a:= .val (.list (il (cellsOf ns)))) (b:= .val (.int (a:Nat))) rfl rfl).trans (dix_nat (.inl rfl) (by unfold il;rw [List.getElem?_map,gc];rfl));refine wp_ifF (or_to (k:=false) (l:=false) (not_to (k:=true) (test_eq (call_to (ds:= [.str (txt L)]) rfl (run_right okt')))) (not_to (k:=true) (test_eq (call_to (ds:= [d]) (cons_to (a:= .val d) (as:= []) (call_to (ds:= [.str (txt L), .int c]) (cons_to (a:= .val (.str (txt L))) rfl (cons_to (a:= .val (.int c)) (as:= []) ecell rfl)) es) rfl) (fine_right hd))))) (wp_next ⟨_,_,_,_,_,rfl, .inr rfl⟩)
abbrev Na_ (K:PySem.W.Frag) (n:Str) (f:Addr):Prop:=PySem.W.nsIn K mainGlobals n=some (some (.ref f))
abbrev Nz_ (K:PySem.W.Frag) (n:Str):Prop:=PySem.W.nsIn K mainGlobals n=some none
abbrev Co_ (K:PySem.W.Frag) (c:Value) (n:Str):Prop:=PySem.W.codeIn K c n=true
abbrev Ke_ (K:PySem.W.Frag) (f:Addr):Prop:=PySem.W.keepIn K (.ref f)=true
abbrev Lo_ (K:PySem.W.Frag) (f:Addr) (oc:Value) (od:Option Addr) (n q:Str) (s:Stmt) (kV dc pm:Value) (an:Option Addr) (cd ct:Value) (sl:Array (Option Value)):Prop:=K.lookup f=some ⟨oc,od, .func (PySem.W.fnOf n q (defArgs s) (defBody s) (defScope s) .none kV dc pm an cd ct),sl⟩
local macro_rules | `(tactic| walk_at "u1") => `(tactic| exact fun _ _ _ _ _ _ us hl => match us, hl with | [_], _ => rfl)
local macro_rules | `(tactic| walk_at "u2") => `(tactic| exact fun _ _ _ _ _ _ us hl => match us, hl with | [_, _], _ => rfl)
local macro_rules | `(tactic| walk_at "u3") => `(tactic| exact fun _ _ _ _ _ _ us hl => match us, hl with | [_, _, _], _ => rfl)
theorem all_mk {l : PySem.W.OpenLaw} {w : World} {K : PySem.W.Frag} {h : Heap} {mg : Str -> Option Value} {fa f1 f2 f3 f4 f5 f6 f7 f8 f9 f10 f11 f12 f13 f14 f15 f16 f17 f18 c_TrialError c_NoEffect c_NoText c_NoRow c_NoThing c_NoFit : Addr} {od1 an1 od2 an2 od3 an3 od4 an4 od5 an5 od6 an6 od7 an7 od8 an8 od9 an9 od10 an10 od11 an11 od12 an12 od13 an13 od14 an14 od15 an15 od16 an16 od17 an17 od18 an18 dd_x od_x e3_x e4_x : Option Addr} {sl1 sl2 sl3 sl4 sl5 sl6 sl7 sl8 sl9 sl10 sl11 sl12 sl13 sl14 sl15 sl16 sl17 sl18 sl_x e9_x ea_x : Array (Option Value)} {oc1 kV1 dc1 pm1 cd1 ct1 oc2 kV2 dc2 pm2 cd2 ct2 oc3 kV3 dc3 pm3 cd3 ct3 oc4 kV4 dc4 pm4 cd4 ct4 oc5 kV5 dc5 pm5 cd5 ct5 oc6 kV6 dc6 pm6 cd6 ct6 oc7 kV7 dc7 pm7 cd7 ct7 oc8 kV8 dc8 pm8 cd8 ct8 oc9 kV9 dc9 pm9 cd9 ct9 oc10 kV10 dc10 pm10 cd10 ct10 oc11 kV11 dc11 pm11 cd11 ct11 oc12 kV12 dc12 pm12 cd12 ct12 oc13 kV13 dc13 pm13 cd13 ct13 oc14 kV14 dc14 pm14 cd14 ct14 oc15 kV15 dc15 pm15 cd15 ct15 oc16 kV16 dc16 pm16 cd16 ct16 oc17 kV17 dc17 pm17 cd17 ct17 oc18 kV18 dc18 pm18 cd18 ct18 oc_x e1_x e2_x : Value} {tk_FIGURES tk_MOST_FIGURES tk_MOST_STEP tk_MOST_THINGS tk_MOST_TRIALS : Tok} {cd_x ct_x : ClassData} {k0_x k1_x k2_x k3_x k5_x : Option Value} {e5_x e6_x : Array DictEntry} {e7_x e8_x : Nat} (X : K.In h) (G : h.Ns mainGlobals mg) (hfa : mg "law" = some (.ref fa)) (hT : ∀ p ∈ (tbK [] K).map (·.2), h.get? p = some (PySem.W.tabObj #[]))
 (ax_TrialError:Na_ K "TrialError" c_TrialError)
 (ax_NoEffect:Na_ K "NoEffect" c_NoEffect)
 (ax_NoText:Na_ K "NoText" c_NoText)
 (ax_NoRow:Na_ K "NoRow" c_NoRow)
 (ax_NoThing:Na_ K "NoThing" c_NoThing)
 (ax_NoFit:Na_ K "NoFit" c_NoFit)
 (x_ga:PySem.W.findIn K (.ref c_NoText) "__getattribute__" = some (some (.builtin "BaseException.__getattribute__")))
 (x_gg:PySem.W.findIn K (.ref c_NoText) "__getattr__" = some none)
 (x_cl:PySem.W.findIn K (.ref c_NoText) "__class__" = some (some (.builtin "object.__class__")))
 (x_mo:PySem.W.mroIn K c_NoText (.type "object")=some true)
 (x_mb:PySem.W.mroIn K c_NoText (.type "BaseException")=some true)
 (x_gt:PySem.W.specialIn K (.builtin "object.__class__") "__get__" = some (some (.builtin "getset_descriptor.__get__")))
 (x_tk:PySem.W.takesIn K (.builtin "object.__class__")=some true)
 (xi_TrialError:PySem.W.isClsIn K c_TrialError=true)
 (xt_TrialError:PySem.W.typeIn K (.ref c_TrialError)=some (.type "type"))
 (xm_TrialError:PySem.W.mroIn K c_NoText (.ref c_TrialError)=some true)
 (xi_NoEffect:PySem.W.isClsIn K c_NoEffect=true)
 (xt_NoEffect:PySem.W.typeIn K (.ref c_NoEffect)=some (.type "type"))
 (xm_NoEffect:PySem.W.mroIn K c_NoText (.ref c_NoEffect)=some false)
 (xi_NoText:PySem.W.isClsIn K c_NoText=true)
 (xt_NoText:PySem.W.typeIn K (.ref c_NoText)=some (.type "type"))
 (xm_NoText:PySem.W.mroIn K c_NoText (.ref c_NoText)=some true)
 (xi_NoRow:PySem.W.isClsIn K c_NoRow=true)
 (xt_NoRow:PySem.W.typeIn K (.ref c_NoRow)=some (.type "type"))
 (xm_NoRow:PySem.W.mroIn K c_NoText (.ref c_NoRow)=some false)
 (xi_NoThing:PySem.W.isClsIn K c_NoThing=true)
 (xt_NoThing:PySem.W.typeIn K (.ref c_NoThing)=some (.type "type"))
 (xm_NoThing:PySem.W.mroIn K c_NoText (.ref c_NoThing)=some false)
 (xi_NoFit:PySem.W.isClsIn K c_NoFit=true)
 (xt_NoFit:PySem.W.typeIn K (.ref c_NoFit)=some (.type "type"))
 (xm_NoFit:PySem.W.mroIn K c_NoText (.ref c_NoFit)=some false)
 (r_n_NoEffect:(Value.ref c_NoText==Value.ref c_NoEffect)=false)
 (r_n_NoRow:(Value.ref c_NoText==Value.ref c_NoRow)=false)
 (r_n_NoThing:(Value.ref c_NoText==Value.ref c_NoThing)=false)
 (r_n_NoFit:(Value.ref c_NoText==Value.ref c_NoFit)=false)
 (xm_ValueError:PySem.W.mroIn K c_NoText (.type "ValueError")=some true)
 (x_eb:PySem.W.mroIn K c_TrialError (.type "BaseException")=some true)
 (xl_1:K.lookup c_NoText=some ⟨.type "type",dd_x, .cls cd_x, #[k0_x,k1_x,k2_x,k3_x,some (.builtin "ValueError.__new__"),k5_x]⟩)
 (r_mro:cd_x.mro = .ref c_NoText :: .ref c_TrialError::bmV)
 (r_del:cd_x.hasDel=false)
 (xl_2:K.lookup c_TrialError=some ⟨oc_x,od_x, .cls ct_x,sl_x⟩)
 (xl_3:K.lookup cd_x.ns=some ⟨e1_x,e3_x, .dict e5_x e7_x,e9_x⟩)
 (r_es1:(e5_x.toList.all fun e=>match e.key with | .str _ _=>true | _=>false)=true)
 (xn_1:PySem.W.nsIn K cd_x.ns "__init__" = some none)
 (xl_4:K.lookup ct_x.ns=some ⟨e2_x,e4_x, .dict e6_x e8_x,ea_x⟩)
 (r_es2:(e6_x.toList.all fun e=>match e.key with | .str _ _=>true | _=>false)=true)
 (xn_2:PySem.W.nsIn K ct_x.ns "__init__" = some none)
 (a1:Na_ K "_law_mix" f1)
 (l1:Lo_ K f1 oc1 od1 "_law_mix" "_law_mix" s_q1 kV1 dc1 pm1 an1 cd1 ct1 sl1)
 (c1:Co_ K cd1 "_law_mix")
 (k1:Ke_ K f1)
 (a2:Na_ K "_law_plan" f2)
 (l2:Lo_ K f2 oc2 od2 "_law_plan" "_law_plan" s_q3 kV2 dc2 pm2 an2 cd2 ct2 sl2)
 (c2:Co_ K cd2 "_law_plan")
 (k2:Ke_ K f2)
 (a3:Na_ K "_law_text" f3)
 (l3:Lo_ K f3 oc3 od3 "_law_text" "_law_text" s_q6 kV3 dc3 pm3 an3 cd3 ct3 sl3)
 (c3:Co_ K cd3 "_law_text")
 (k3:Ke_ K f3)
 (a4:Na_ K "_law_told" f4)
 (l4:Lo_ K f4 oc4 od4 "_law_told" "_law_told" s_q7 kV4 dc4 pm4 an4 cd4 ct4 sl4)
 (c4:Co_ K cd4 "_law_told")
 (k4:Ke_ K f4)
 (a5:Na_ K "show_numbers" f5)
 (l5:Lo_ K f5 oc5 od5 "show_numbers" "show_numbers" s_q16 kV5 dc5 pm5 an5 cd5 ct5 sl5)
 (c5:Co_ K cd5 "show_numbers")
 (k5:Ke_ K f5)
 (a6:Na_ K "show_plan" f6)
 (l6:Lo_ K f6 oc6 od6 "show_plan" "show_plan" s_q17 kV6 dc6 pm6 an6 cd6 ct6 sl6)
 (c6:Co_ K cd6 "show_plan")
 (k6:Ke_ K f6)
 (a7:Na_ K "parts_of" f7)
 (l7:Lo_ K f7 oc7 od7 "parts_of" "parts_of" s_q11 kV7 dc7 pm7 an7 cd7 ct7 sl7)
 (c7:Co_ K cd7 "parts_of")
 (k7:Ke_ K f7)
 (a8:Na_ K "is_number" f8)
 (l8:Lo_ K f8 oc8 od8 "is_number" "is_number" s_q9 kV8 dc8 pm8 an8 cd8 ct8 sl8)
 (c8:Co_ K cd8 "is_number")
 (k8:Ke_ K f8)
 (a9:Na_ K "read_number" f9)
 (l9:Lo_ K f9 oc9 od9 "read_number" "read_number" s_q12 kV9 dc9 pm9 an9 cd9 ct9 sl9)
 (c9:Co_ K cd9 "read_number")
 (k9:Ke_ K f9)
 (a10:Na_ K "read_numbers" f10)
 (l10:Lo_ K f10 oc10 od10 "read_numbers" "read_numbers" s_q13 kV10 dc10 pm10 an10 cd10 ct10 sl10)
 (c10:Co_ K cd10 "read_numbers")
 (k10:Ke_ K f10)
 (a11:Na_ K "read_trial" f11)
 (l11:Lo_ K f11 oc11 od11 "read_trial" "read_trial" s_q15 kV11 dc11 pm11 an11 cd11 ct11 sl11)
 (c11:Co_ K cd11 "read_trial")
 (k11:Ke_ K f11)
 (a12:Na_ K "read_plan" f12)
 (l12:Lo_ K f12 oc12 od12 "read_plan" "read_plan" s_q14 kV12 dc12 pm12 an12 cd12 ct12 sl12)
 (c12:Co_ K cd12 "read_plan")
 (k12:Ke_ K f12)
 (a13:Na_ K "_law_whole" f13)
 (l13:Lo_ K f13 oc13 od13 "_law_whole" "_law_whole" s_q8 kV13 dc13 pm13 an13 cd13 ct13 sl13)
 (c13:Co_ K cd13 "_law_whole")
 (k13:Ke_ K f13)
 (a14:Na_ K "_law_is_plan" f14)
 (l14:Lo_ K f14 oc14 od14 "_law_is_plan" "_law_is_plan" s_q0 kV14 dc14 pm14 an14 cd14 ct14 sl14)
 (c14:Co_ K cd14 "_law_is_plan")
 (k14:Ke_ K f14)
 (a15:Na_ K "_law_right" f15)
 (l15:Lo_ K f15 oc15 od15 "_law_right" "_law_right" s_q4 kV15 dc15 pm15 an15 cd15 ct15 sl15)
 (c15:Co_ K cd15 "_law_right")
 (k15:Ke_ K f15)
 (a16:Na_ K "_law_odd" f16)
 (l16:Lo_ K f16 oc16 od16 "_law_odd" "_law_odd" s_q2 kV16 dc16 pm16 an16 cd16 ct16 sl16)
 (c16:Co_ K cd16 "_law_odd")
 (k16:Ke_ K f16)
 (a17:Na_ K "_law_spoiled" f17)
 (l17:Lo_ K f17 oc17 od17 "_law_spoiled" "_law_spoiled" s_q5 kV17 dc17 pm17 an17 cd17 ct17 sl17)
 (c17:Co_ K cd17 "_law_spoiled")
 (k17:Ke_ K f17)
 (a18:Na_ K "law" f18)
 (l18:Lo_ K f18 oc18 od18 "law" "law" s_law kV18 dc18 pm18 an18 cd18 ct18 sl18)
 (c18:Co_ K cd18 "law")
 (k18:Ke_ K f18)
 (a_FIGURES:PySem.W.nsIn K mainGlobals "FIGURES" = some (some (.str "0123456789" tk_FIGURES)))
 (a_MOST_FIGURES:PySem.W.nsIn K mainGlobals "MOST_FIGURES" = some (some (.int 12 tk_MOST_FIGURES)))
 (a_MOST_STEP:PySem.W.nsIn K mainGlobals "MOST_STEP" = some (some (.int 4 tk_MOST_STEP)))
 (a_MOST_THINGS:PySem.W.nsIn K mainGlobals "MOST_THINGS" = some (some (.int 6 tk_MOST_THINGS)))
 (a_MOST_TRIALS:PySem.W.nsIn K mainGlobals "MOST_TRIALS" = some (some (.int 150 tk_MOST_TRIALS)))
 (z0:Nz_ K "ValueError")
 (z1:Nz_ K "all")
 (z2:Nz_ K "any")
 (z3:Nz_ K "bool")
 (z4:Nz_ K "e")
 (z5:Nz_ K "int")
 (z6:Nz_ K "isinstance")
 (z7:Nz_ K "len")
 (z8:Nz_ K "list")
 (z9:Nz_ K "max")
 (z10:Nz_ K "min")
 (z11:Nz_ K "range")
 (z12:Nz_ K "str")
 (z13:Nz_ K "tuple")
 : (∃o,K.lookup mainGlobals=some o)/\∃fd:FuncData,(∀(s:Shared) (v:Value),BindsTo s fd ⟨[v],[]⟩ [("_law_script",v)])/\∀base:Heap,(cutK K ((tbK [] K).map (·.2))).In base->base.Ns mainGlobals mg->(∀p ∈ tbK [] K,PySem.W.CodeHd base p.1 p.2)->BM base mg->FnOk l.prog w (cutK K ((tbK [] K).map (·.2))) mg base CX0 7 fa fd ["_law_script"] (spLaw (cutK K ((tbK [] K).map (·.2)))):=by
 have e:=hfa.symm.trans (PySem.W.mg_of X G a18)
 cases e
 have F_q1:=Fun_cut X hT (fun_mk (st:=s_q1) l1 c1 k1);have b_q1:=F_q1.binds (ps:= ["_law_cell","_law_j"]) (by walk_at "u2");have F_q3:=Fun_cut X hT (fun_mk (st:=s_q3) l2 c2 k2);have b_q3:=F_q3.binds (ps:= ["_law_cells","_law_at"]) (by walk_at "u2");have F_q6:=Fun_cut X hT (fun_mk (st:=s_q6) l3 c3 k3);have b_q6:=F_q6.binds (ps:= ["_law_plan_here"]) (by walk_at "u1");have F_q7:=Fun_cut X hT (fun_mk (st:=s_q7) l4 c4 k4);have b_q7:=F_q7.binds (ps:= ["_law_text_here"]) (by walk_at "u1");have F_q16:=Fun_cut X hT (fun_mk (st:=s_q16) l5 c5 k5);have b_q16:=F_q16.binds (ps:= ["numbers"]) (by walk_at "u1");have F_q17:=Fun_cut X hT (fun_mk (st:=s_q17) l6 c6 k6);have b_q17:=F_q17.binds (ps:= ["plan"]) (by walk_at "u1");have F_q11:=Fun_cut X hT (fun_mk (st:=s_q11) l7 c7 k7);have b_q11:=F_q11.binds (ps:= ["text","separator"]) (by walk_at "u2");have F_q9:=Fun_cut X hT (fun_mk (st:=s_q9) l8 c8 k8);have b_q9:=F_q9.binds (ps:= ["word"]) (by walk_at "u1");have F_q12:=Fun_cut X hT (fun_mk (st:=s_q12) l9 c9 k9);have b_q12:=F_q12.binds (ps:= ["word"]) (by walk_at "u1");have F_q13:=Fun_cut X hT (fun_mk (st:=s_q13) l10 c10 k10);have b_q13:=F_q13.binds (ps:= ["words","least","most"]) (by walk_at "u3");have F_q15:=Fun_cut X hT (fun_mk (st:=s_q15) l11 c11 k11);have b_q15:=F_q15.binds (ps:= ["text"]) (by walk_at "u1");have F_q14:=Fun_cut X hT (fun_mk (st:=s_q14) l12 c12 k12);have b_q14:=F_q14.binds (ps:= ["text"]) (by walk_at "u1");have F_q8:=Fun_cut X hT (fun_mk (st:=s_q8) l13 c13 k13);have b_q8:=F_q8.binds (ps:= ["_law_found"]) (by walk_at "u1");have F_q0:=Fun_cut X hT (fun_mk (st:=s_q0) l14 c14 k14);have b_q0:=F_q0.binds (ps:= ["_law_found","_law_due"]) (by walk_at "u2");have F_q4:=Fun_cut X hT (fun_mk (st:=s_q4) l15 c15 k15);have b_q4:=F_q4.binds (ps:= ["_law_text_here"]) (by walk_at "u1");have F_q2:=Fun_cut X hT (fun_mk (st:=s_q2) l16 c16 k16);have b_q2:=F_q2.binds (ps:= ["_law_cell"]) (by walk_at "u1");have F_q5:=Fun_cut X hT (fun_mk (st:=s_q5) l17 c17 k17);have b_q5:=F_q5.binds (ps:= ["_law_text_here","_law_cell"]) (by walk_at "u2");have F_law:=Fun_cut X hT (fun_mk (st:=s_law) l18 c18 k18);have b_law:=F_law.binds (ps:= ["_law_script"]) (by walk_at "u1");have B:Bl mg:=⟨PySem.W.mg_none_of X G z0,PySem.W.mg_none_of X G z1,PySem.W.mg_none_of X G z2,PySem.W.mg_none_of X G z3,PySem.W.mg_none_of X G z4,PySem.W.mg_none_of X G z5,PySem.W.mg_none_of X G z6,PySem.W.mg_none_of X G z7,PySem.W.mg_none_of X G z8,PySem.W.mg_none_of X G z9,PySem.W.mg_none_of X G z10,PySem.W.mg_none_of X G z11,PySem.W.mg_none_of X G z12,PySem.W.mg_none_of X G z13⟩;have u:=upK_cut X hT;have Y:Xf (cutK K ((tbK [] K).map (·.2))) mg c_TrialError c_NoEffect c_NoText c_NoRow c_NoThing c_NoFit:=⟨PySem.W.mg_of X G ax_TrialError,PySem.W.mg_of X G ax_NoEffect,PySem.W.mg_of X G ax_NoText,PySem.W.mg_of X G ax_NoRow,PySem.W.mg_of X G ax_NoThing,PySem.W.mg_of X G ax_NoFit,u.xcls ⟨x_ga,x_gg,x_cl,x_gt,x_tk,x_mo,x_mb,xi_NoText⟩,u.exc (exc_mk xl_1 r_mro r_del xl_2 ⟨⟨_,_,_,_,_,xl_3,r_es1⟩,xn_1⟩ ⟨⟨_,_,_,_,_,xl_4,r_es2⟩,xn_2⟩),u.exm (exm_mk x_eb xi_TrialError xt_TrialError xm_TrialError),u.kit (kit_f r_n_NoEffect xi_NoEffect xt_NoEffect xm_NoEffect),u.kit (kit_f r_n_NoRow xi_NoRow xt_NoRow xm_NoRow),u.kit (kit_f r_n_NoThing xi_NoThing xt_NoThing xm_NoThing),u.kit (kit_f r_n_NoFit xi_NoFit xt_NoFit xm_NoFit),u.kit kit_self,u.kit (kit_b (by decide +kernel) xm_ValueError)⟩
 have C_FIGURES:GlobC (cutK K ((tbK [] K).map (·.2))) mg "FIGURES" c_FIGURES:=⟨.str "0123456789",_,PySem.W.mg_of X G a_FIGURES,⟨_,rfl⟩,fun _=> .str _⟩;have C_MOST_FIGURES:GlobC (cutK K ((tbK [] K).map (·.2))) mg "MOST_FIGURES" c_MOST_FIGURES:=⟨.int 12,_,PySem.W.mg_of X G a_MOST_FIGURES,⟨_,rfl⟩,fun _=> .int _⟩;have C_MOST_STEP:GlobC (cutK K ((tbK [] K).map (·.2))) mg "MOST_STEP" c_MOST_STEP:=⟨.int 4,_,PySem.W.mg_of X G a_MOST_STEP,⟨_,rfl⟩,fun _=> .int _⟩;have C_MOST_THINGS:GlobC (cutK K ((tbK [] K).map (·.2))) mg "MOST_THINGS" c_MOST_THINGS:=⟨.int 6,_,PySem.W.mg_of X G a_MOST_THINGS,⟨_,rfl⟩,fun _=> .int _⟩;have C_MOST_TRIALS:GlobC (cutK K ((tbK [] K).map (·.2))) mg "MOST_TRIALS" c_MOST_TRIALS:=⟨.int 150,_,PySem.W.mg_of X G a_MOST_TRIALS,⟨_,rfl⟩,fun _=> .int _⟩;refine ⟨main_of a18,PySem.W.fnOf "law" "law" (defArgs s_law) (defBody s_law) (defScope s_law) .none kV18 dc18 pm18 an18 cd18 ct18,fun s v=> .of_eq rfl,fun base _ _ hC bm=> ?_⟩;have D_q1:Def l.prog w (cutK K ((tbK [] K).map (·.2))) mg base 1 "_law_mix" ["_law_cell","_law_j"] (spD (cutK K ((tbK [] K).map (·.2))) m_q1):=⟨_,_,ok_q1 B F_q1,PySem.W.mg_of X G a1,F_q1.kp,b_q1⟩;have D_q3:Def l.prog w (cutK K ((tbK [] K).map (·.2))) mg base 2 "_law_plan" ["_law_cells","_law_at"] (spD (cutK K ((tbK [] K).map (·.2))) m_q3):=⟨_,_,ok_q3 B D_q1 F_q3,PySem.W.mg_of X G a2,F_q3.kp,b_q3⟩;have D_q6:Def l.prog w (cutK K ((tbK [] K).map (·.2))) mg base 1 "_law_text" ["_law_plan_here"] (spD (cutK K ((tbK [] K).map (·.2))) m_q6):=⟨_,_,ok_q6 B F_q6,PySem.W.mg_of X G a3,F_q6.kp,b_q6⟩;have D_q7:Def l.prog w (cutK K ((tbK [] K).map (·.2))) mg base 1 "_law_told" ["_law_text_here"] (spD (cutK K ((tbK [] K).map (·.2))) m_q7):=⟨_,_,ok_q7 B F_q7,PySem.W.mg_of X G a4,F_q7.kp,b_q7⟩;have D_q16:Def l.prog w (cutK K ((tbK [] K).map (·.2))) mg base 1 "show_numbers" ["numbers"] (spD (cutK K ((tbK [] K).map (·.2))) m_q16):=⟨_,_,ok_q16 B F_q16,PySem.W.mg_of X G a5,F_q16.kp,b_q16⟩;have D_q17:Def l.prog w (cutK K ((tbK [] K).map (·.2))) mg base 2 "show_plan" ["plan"] (spD (cutK K ((tbK [] K).map (·.2))) m_q17):=⟨_,_,ok_q17 B D_q16 F_q17,PySem.W.mg_of X G a6,F_q17.kp,b_q17⟩;have D_q11:DefX l.prog w (cutK K ((tbK [] K).map (·.2))) mg base c_NoText 1 "parts_of" ["text","separator"] (spX (cutK K ((tbK [] K).map (·.2))) m_q11):=⟨_,_,ok_q11 B Y F_q11,PySem.W.mg_of X G a7,F_q11.kp,b_q11⟩;have D_q9:Def l.prog w (cutK K ((tbK [] K).map (·.2))) mg base 1 "is_number" ["word"] (spD (cutK K ((tbK [] K).map (·.2))) m_q9):=⟨_,_,ok_q9 B C_FIGURES C_MOST_FIGURES F_q9,PySem.W.mg_of X G a8,F_q9.kp,b_q9⟩;have D_q12:DefX l.prog w (cutK K ((tbK [] K).map (·.2))) mg base c_NoText 2 "read_number" ["word"] (spX (cutK K ((tbK [] K).map (·.2))) m_q12):=⟨_,_,ok_q12 B D_q9 Y F_q12,PySem.W.mg_of X G a9,F_q12.kp,b_q12⟩;have D_q13:DefX l.prog w (cutK K ((tbK [] K).map (·.2))) mg base c_NoText 3 "read_numbers" ["words","least","most"] (spX (cutK K ((tbK [] K).map (·.2))) m_q13):=⟨_,_,ok_q13 B D_q12 Y F_q13,PySem.W.mg_of X G a10,F_q13.kp,b_q13⟩;have D_q15:DefX l.prog w (cutK K ((tbK [] K).map (·.2))) mg base c_NoText 4 "read_trial" ["text"] (spX (cutK K ((tbK [] K).map (·.2))) m_q15):=⟨_,_,ok_q15 B D_q13 C_MOST_STEP Y F_q15,PySem.W.mg_of X G a11,F_q15.kp,b_q15⟩
 have D_q14:DefX l.prog w (cutK K ((tbK [] K).map (·.2))) mg base c_NoText 5 "read_plan" ["text"] (spX (cutK K ((tbK [] K).map (·.2))) m_q14):=⟨_,_,ok_q14 B D_q11 D_q15 C_MOST_THINGS C_MOST_TRIALS Y F_q14,PySem.W.mg_of X G a12,F_q14.kp,b_q14⟩;have D_q8:Def l.prog w (cutK K ((tbK [] K).map (·.2))) mg base 1 "_law_whole" ["_law_found"] (spD (cutK K ((tbK [] K).map (·.2))) m_q8):=⟨_,_,ok_q8 B F_q8,PySem.W.mg_of X G a13,F_q8.kp,b_q8⟩;have D_q0:Def l.prog w (cutK K ((tbK [] K).map (·.2))) mg base 2 "_law_is_plan" ["_law_found","_law_due"] (spD (cutK K ((tbK [] K).map (·.2))) m_q0):=⟨_,_,ok_q0 B D_q8 F_q0,PySem.W.mg_of X G a14,F_q0.kp,b_q0⟩;have D_q4:Def l.prog w (cutK K ((tbK [] K).map (·.2))) mg base 6 "_law_right" ["_law_text_here"] (spD (cutK K ((tbK [] K).map (·.2))) m_q4):=⟨_,_,ok_q4 B D_q7 D_q14 D_q0 Y F_q4,PySem.W.mg_of X G a15,F_q4.kp,b_q4⟩;have D_q2:Def l.prog w (cutK K ((tbK [] K).map (·.2))) mg base 2 "_law_odd" ["_law_cell"] (spD (cutK K ((tbK [] K).map (·.2))) m_q2):=⟨_,_,ok_q2 B D_q1 F_q2,PySem.W.mg_of X G a16,F_q2.kp,b_q2⟩;have D_q5:Def l.prog w (cutK K ((tbK [] K).map (·.2))) mg base 3 "_law_spoiled" ["_law_text_here","_law_cell"] (spD (cutK K ((tbK [] K).map (·.2))) m_q5):=⟨_,_,ok_q5 B D_q1 D_q2 F_q5,PySem.W.mg_of X G a17,F_q5.kp,b_q5⟩;exact (ok_law B D_q3 D_q6 D_q7 D_q17 D_q4 D_q5 F_law).imp (fun vs H Q E h=>law_imp law_true h)
theorem walk {l : PySem.W.OpenLaw} {q : Program} {loose : List Str} {XP : (Str -> Option Value) -> Heap -> Prop} {YP : World -> Heap -> Prop} {d : DefRec} {K : Params -> PySem.W.Frag} (hn : l.most = some 63) (hdf : d.params.defaults = [])
 (hY:∀(w:World) (h:Heap),YP w h->(K w.params).In h)
 (hrec:∀y ∈ ([]:List Str),∃e,(PyProof.Rows.recsOf q).find? (fun e=>e.name==y)=some e)
 (F:∀(w:World) (mg:Str->Option Value) (fa:Addr) (h:Heap),(K w.params).In h->h.Ns mainGlobals mg->mg d.name=some (.ref fa)->(∀p ∈ (tbK [] (K w.params)).map (·.2),h.get? p=some (PySem.W.tabObj #[])) ->
  (∃o,(K w.params).lookup mainGlobals=some o)/\∃fd:FuncData,(∀(s:Shared) (u:Value),BindsTo s fd ⟨[u],[]⟩ [("_law_script",u)])/\∀base:Heap,(cutK (K w.params) ((tbK [] (K w.params)).map (·.2))).In base->base.Ns mainGlobals mg->(∀p ∈ tbK [] (K w.params),PySem.W.CodeHd base p.1 p.2)->BM base mg->FnOk l.prog w (cutK (K w.params) ((tbK [] (K w.params)).map (·.2))) mg base CX0 7 fa fd ["_law_script"] (spLaw (cutK (K w.params) ((tbK [] (K w.params)).map (·.2))))) :
 PySem.W.WalkO q loose XP YP l.row.toRowW d [] (fun f vs=>PySem.call f vs) :=
 walk_ofT (n:=63) (k:=7) (x:= "_law_script") (sp:=spLaw) hn (by decide) hdf ⟨rfl,by decide,by decide,rfl⟩ hY hrec F fun _ _ a ns hl hS=>⟨a,ns,rfl,hS,hl,fun _=>rfl⟩
end
end K91
namespace PySem.W.Fast
def tw16934392885616865171:=0
def tw4925903209569274699:=0
def tw4649501045932222057:=0
def tw60244136484663534:=0
def tw4347239939022907657:=0
def tw4422488450488508440:=0
def tw5449521256285121444:=0
def tw12578604624076562986:=0
def tw15372503885664914793:=0
def tw2504316877657192332:=0
def tw479475859674197285:=0
def tw8509661469192609013:=0
def tw17577786518103534167:=0
def tw15353629816346770356:=0
def tw12505215411667013667:=0
def tw2086645217150728676:=0
end PySem.W.Fast
open PySem PySem.W PyProof.Rows
set_option maxRecDepth 100000 in
set_option maxHeartbeats 0 in
theorem PySem.Challenge.cw_trialfield_k91_plans_as_texts_holds : PySem.Challenge.rw_trialfield_k91_plans_as_texts.Holds := by
 w_on;o_law;k_head;(case hw=>w_witness2)
 k_fill
 refine K91.walk (l := PySem.Challenge.rw_trialfield_k91_plans_as_texts) rfl rfl (fun w h Y => PySem.W.kIn_of Y) ?R ?F
 case R=>
  intro y hy;exact absurd hy List.not_mem_nil
 case F=>
  intro w mg fa h KX G hmg hT;refine' K91.all_mk KX G hmg hT ?_ ?_ ?_ ?_ ?_ ?_ ?_ ?_ ?_ ?_ ?_ ?_ ?_ ?_ ?_ ?_ ?_ ?_ ?_ ?_ ?_ ?_ ?_ ?_ ?_ ?_ ?_ ?_ ?_ ?_ ?_ ?r_n_NoEffect ?r_n_NoRow ?r_n_NoThing ?r_n_NoFit ?_ ?_ ?_ ?r_mro ?r_del ?_ ?_ ?r_es1 ?_ ?_ ?r_es2 ?_ ?_ ?_ ?_ ?_ ?_ ?_ ?_ ?_ ?_ ?_ ?_ ?_ ?_ ?_ ?_ ?_ ?_ ?_ ?_ ?_ ?_ ?_ ?_ ?_ ?_ ?_ ?_ ?_ ?_ ?_ ?_ ?_ ?_ ?_ ?_ ?_ ?_ ?_ ?_ ?_ ?_ ?_ ?_ ?_ ?_ ?_ ?_ ?_ ?_ ?_ ?_ ?_ ?_ ?_ ?_ ?_ ?_ ?_ ?_ ?_ ?_ ?_ ?_ ?_ ?_ ?_ ?_ ?_ ?_ ?_ ?_ ?_ ?_ ?_ ?_ ?_ ?_ ?_ ?_ ?_ ?_ ?_ ?_ ?_ ?_ ?_ ?_ ?_ ?_ ?_ ?_
  all_goals (first | ((first | unfold K91.Na_ | unfold K91.Nz_ | unfold K91.Co_ | unfold K91.Ke_ | unfold K91.Lo_);k_is) | k_is | skip)
  (case r_n_NoEffect=>exact rfl)
  (case r_n_NoRow=>exact rfl)
  (case r_n_NoThing=>exact rfl)
  (case r_n_NoFit=>exact rfl)
  all_goals (first | ((first | unfold K91.Na_ | unfold K91.Nz_ | unfold K91.Co_ | unfold K91.Ke_ | unfold K91.Lo_);k_is) | k_is | skip)
  (case r_mro=>exact rfl)
  (case r_del=>exact rfl)
  all_goals (first | ((first | unfold K91.Na_ | unfold K91.Nz_ | unfold K91.Co_ | unfold K91.Ke_ | unfold K91.Lo_);k_is) | k_is | skip)
  (case r_es1=>exact rfl)
  all_goals (first | ((first | unfold K91.Na_ | unfold K91.Nz_ | unfold K91.Co_ | unfold K91.Ke_ | unfold K91.Lo_);k_is) | k_is | skip)
  (case r_es2=>exact rfl)
  all_goals (first | ((first | unfold K91.Na_ | unfold K91.Nz_ | unfold K91.Co_ | unfold K91.Ke_ | unfold K91.Lo_);k_is) | k_is | skip)
