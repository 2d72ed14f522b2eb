import PyProof.Rows.All
import Wide.All
import OpenK.AllK
import Wide.FinOn
import Lean
import PyProof.EqAt
import PyProof.EqKinds
import PyProof.TupleCall
import PyProof.Rows.SortRuns
import PySem.Challenge.RW_trialfield_k23_hides
set_option Elab.async false
set_option linter.all false
set_option maxRecDepth 100000
set_option maxHeartbeats 4000000
namespace L2
open PySem PySem.Spec PyProof.Rows
abbrev Key:=Sum Int Str
def keyIs:Key->Value->Bool
 | .inl k,v=>Value.isInt k v
 | .inr x,v=>Value.isStrOf x v
def keyH(w:World):Key->Int
 | .inl k=>hashInt k
 | .inr x=>hashStr w x
theorem keyIs_shape:∀ {k:Key} {v:Value},keyIs k v=true->(∃i t,k=Sum.inl i/\v=Value.int i t)\/(∃x t,k=Sum.inr x/\v=Value.str x t)
 | .inl i,v,h=>by
  obtain ⟨t,e⟩:=Value.isInt_shape (k:=i) (v:=v) h
  exact .inl ⟨i,t,rfl,e⟩
 | .inr x,v,h=>by
  obtain ⟨t,e⟩:=Value.isStrOf_shape (x:=x) (v:=v) h;exact .inr ⟨x,t,rfl,e⟩
theorem key_ll(a b:Int):decide ((Sum.inl a:Key)=Sum.inl b)=(a==b):=by
 by_cases e:a=b
 . subst e;simp
 . have h:¬(Sum.inl a:Key)=Sum.inl b:=fun q=>e (Sum.inl.inj q);rw [decide_eq_false h];exact (beq_eq_false_iff_ne.mpr e).symm
theorem key_rr(a b:Str):decide ((Sum.inr a:Key)=Sum.inr b)=decide (a=b):=by
 by_cases e:a=b
 . subst e;simp
 . have h:¬(Sum.inr a:Key)=Sum.inr b:=fun q=>e (Sum.inr.inj q);rw [decide_eq_false h,decide_eq_false e]
theorem key_lr(a:Int)(b:Str):decide ((Sum.inl a:Key)=Sum.inr b)=false:=decide_eq_false (fun q=>nomatch q)
theorem key_rl(a:Str)(b:Int):decide ((Sum.inr a:Key)=Sum.inl b)=false:=decide_eq_false (fun q=>nomatch q)
def mixKind(prog:Program)(w:World):PySem.KeyKind prog w Key where
 is:=keyIs
 hash:=keyH w
 inj:=fun v a b ha hb=>by
  rcases keyIs_shape ha with ⟨i,t,rfl,rfl⟩ | ⟨x,t,rfl,rfl⟩
  . rcases keyIs_shape hb with ⟨j,u,rfl,e⟩ | ⟨y,u,rfl,e⟩
    . injection e with e1 _;rw [e1]
    . exact nomatch e
  . rcases keyIs_shape hb with ⟨j,u,rfl,e⟩ | ⟨y,u,rfl,e⟩
    . exact nomatch e
    . injection e with e1 _;rw [e1]
 byValue:=fun k v h=>by
  rcases keyIs_shape h with ⟨i,t,rfl,rfl⟩ | ⟨x,t,rfl,rfl⟩ <;> rfl
 pyHash:=fun hv h=>by
  rcases keyIs_shape hv with ⟨i,t,rfl,rfl⟩ | ⟨x,t,rfl,rfl⟩
  . exact wpAny_pyHash_int h
  . exact wpAny_pyHash_str h
 eqBool:=fun hu hv h=>by
  rcases keyIs_shape hu with ⟨i,t,rfl,rfl⟩ | ⟨x,t,rfl,rfl⟩
  . rcases keyIs_shape hv with ⟨j,u,rfl,rfl⟩ | ⟨y,u,rfl,rfl⟩
    . rw [key_ll] at h;exact wpAny_eqBool_int h
    . rw [key_lr] at h;exact SeqAt.EqAt.int_str i t y u _ _ _ _ h
  . rcases keyIs_shape hv with ⟨j,u,rfl,rfl⟩ | ⟨y,u,rfl,rfl⟩
    . rw [key_rl] at h;exact SeqAt.EqAt.str_int x t j u _ _ _ _ h
    . rw [key_rr] at h;exact wpAny_eqBool_str h
 «strs» := fun k x t v h => by
  rcases keyIs_shape h with ⟨i,u,rfl,e⟩ | ⟨y,u,rfl,e⟩
  . exact nomatch e
  . injection e with e1 _
    subst e1
    cases v <;> rfl
end L2
namespace L2
open PySem PySem.Spec PyProof.Rows
inductive V where
 | non | bl (b:Bool) | int (i:Int) | str (x:Str) | byt (b:Array UInt8) | flt (b:UInt64) | ref (a:Addr) | ty (n:String)
 deriving DecidableEq
def RelV:V->Value->Prop
 | .non,u=>u=Value.none
 | .bl b,u=>u=Value.bool b
 | .int i,u=>∃t,u=Value.int i t
 | .str x,u=>∃t,u=Value.str x t
 | .byt b,u=>∃t,u=Value.bytes b t
 | .flt b,u=>∃t,u=Value.float b t
 | .ref a,u=>u=Value.ref a
 | .ty n,u=>u=Value.type n
abbrev Vals:List V->List Value->Prop:=Paired RelV
theorem Vals.length{xs:List V}{us:List Value}(r:Vals xs us):xs.length=us.length:=Paired.length r
theorem Vals.get:∀ {xs:List V} {us:List Value} {i:Nat} {x:V},Vals xs us->xs[i]? = some x->∃u,us[i]? = some u/\RelV x u
 | _,_,_,_, .nil,e=>by simp at e
 | _,_,0,_, .cons r _,e=>by simp at e;subst e;exact ⟨_,rfl,r⟩
 | _,_,i+1,x, .cons _ t,e=>by
  obtain ⟨u,h1,h2⟩:=Vals.get (i:=i) (x:=x) t (by simpa using e);exact ⟨u,by simpa using h1,h2⟩
theorem Vals.set{x:V}{u:Value}(r:RelV x u):∀ {xs:List V} {us:List Value} (i:Nat),Vals xs us->Vals (xs.set i x) (us.set i u)
 | _,_,_, .nil=> .nil
 | _,_,0, .cons _ t=> .cons r t
 | _,_,i+1, .cons q t=> .cons q (Vals.set r i t)
theorem Vals.append:∀ {xs ys:List V} {us ws:List Value},Vals xs us->Vals ys ws->Vals (xs++ys) (us++ws)
 | _,_,_,_, .nil,s=>s
 | _,_,_,_, .cons r t,s=> .cons r (Vals.append t s)
theorem Vals.take:∀ {xs:List V} {us:List Value} (n:Nat),Vals xs us->Vals (xs.take n) (us.take n)
 | _,_,0,_=> .nil
 | _,_,_+1, .nil=> .nil
 | _,_,n+1, .cons r t=> .cons r (Vals.take n t)
theorem Vals.drop:∀ {xs:List V} {us:List Value} (n:Nat),Vals xs us->Vals (xs.drop n) (us.drop n)
 | _,_,0,r=>r
 | _,_,_+1, .nil=> .nil
 | _,_,n+1, .cons _ t=>Vals.drop n t
def RelO:Option V->Option Value->Prop
 | some v,some u=>RelV v u
 | none,none=>True
 | _,_=>False
def KV{κ:Type}:List (κ×V)->List (κ×Value)->Prop:=Paired fun (p:κ×V) (q:κ×Value)=>p.1=q.1/\RelV p.2 q.2
def kV:Key->V
 | .inl i=> .int i
 | .inr x=> .str x
inductive HO where
 | lst (xs:List V)
 | tup (xs:List V)
 | dK (kvs:List (Key×V)) | dT (kvs:List (List Key×V))
 | set (S:Int->Bool) (n:Nat)
 | ins (C dx:Addr) (fs:List (Str×V))
 | own (x:Addr)
 | xd (fs:List (Str×V))
 | met (f x:Addr)
 | rng (lo hi:Int)
 | frz (o:Obj) (u:HO)
 | tbl (ps:Array Value)
 | ext (φ:Heap->Prop)
abbrev Hp:=Addr->Option HO
def upd(H:Hp)(a:Addr)(o:HO):Hp:=fun b=>if b=a then some o else H b
theorem upd_same{H:Hp}{a:Addr}{o:HO}:upd H a o a=some o:=by unfold upd;rw [if_pos rfl]
theorem upd_ne{H:Hp}{a b:Addr}{o:HO}(h:b≠a):upd H a o b=H b:=by unfold upd;rw [if_neg h]
theorem ne_of_none{H:Hp}{a b:Addr}{o:HO}(h:H a=some o)(h':H b=none):a≠b:=by
 intro e;subst e;rw [h] at h';cases h'
section
variable (P:Program) (w:World)
def ObjOk(H:Hp)(h:Heap)(a:Addr):HO->Prop
 | .lst xs=>xs.length<=sizeLine/\∃(its:List Value) (n:Nat),Vals xs its/\h.get? a=some {cls:= .type "list",data:= .seq its.toArray n}
 | .tup xs=>xs.length<=sizeLine/\∃its:List Value,Vals xs its/\IsTup h a its.toArray
 | .dK kvs=>kvs.length<=sizeLine/\(a==sysModules)=false/\∃vs,KV kvs vs/\h.DictOf (mixKind P w) a vs
 | .dT kvs => kvs.length <= sizeLine /\ (a == sysModules) = false /\ ∃ xs : List (List Key × Addr × Value),
  Paired (fun (p:List Key×V) (q:List Key×Addr×Value)=>p.1=q.1/\H q.2.1=some (.tup (p.1.map kV))/\RelV p.2 q.2.2) kvs xs /\
  ∃o es ep,h.get? a=some o/\o.ExactDict/\o.data = .dict es ep/\es.toList=xs.map (entryOfKey (tupleKind (mixKind P w)))/\(xs.map (·.1)).Nodup
 | .set S n=>h.SetOf (intKind P w) a S n
 | .ins C dx fs => H dx = some (.own a) /\ fs.length <= 1000 /\ dx ≠ a /\ h.get? a = some (PySem.W.instObj C dx) /\
  ∃mA,h.Ns1 dx mA/\(∀f,RelO (fs.lookup f) (mA f))/\PySem.Within mA (fs.map (·.1))
 | .own _=>∃o,h.get? a=some o
 | .xd fs=>∃mA,h.Ns1 a mA/\∀f,RelO (fs.lookup f) (mA f)
 | .rng lo hi=>∃t u v,h.get? a=some {cls:= .type "range",data:= .fields #[.int lo t, .int hi u, .int 1 v]}
 | .frz o u=>h.get? a=some o/\ObjOk H h a u
 | .tbl _=>∃qs:Array Value,h.get? a=some {cls:= .none,data:= .fields qs}/\TriplesOk qs.toList/\∀pos v,codeAmong pos qs.toList=some v->∃c oc vs x,v=Value.ref c/\H c=some (.frz oc (.own 0))/\oc.data = .fields vs/\vs[1]? = some x
 | .met f x=>h.get? a=some (PySem.W.methodObj (.ref f) (.ref x))
 | .ext φ=>φ h/\(∃o,h.get? a=some o)/\∀h1 h2:Heap,φ h1->(∀o,h1.get? a=some o->h2.get? a=some o)->φ h2
def HOk(H:Hp)(h:Heap):Prop:=∀a o,H a=some o->ObjOk P w H h a o
end
section
variable {P:Program} {w:World} {H H':Hp} {h h':Heap} {a:Addr} {o:HO}
theorem ObjOk.lt(x:ObjOk P w H h a o):a<h.objs.size:=by
 cases o with
 | lst xs=>obtain ⟨_,_,_,_,e⟩:=x;exact Heap.lt_size e
 | tup xs=>obtain ⟨_,_,_,p⟩:=x;exact p.lt
 | dK kvs=>obtain ⟨_,_,_,_,o,_,_,e,_⟩:=x;exact Heap.lt_size e
 | dT kvs=>obtain ⟨_,_,_,_,o,_,_,e,_⟩:=x;exact Heap.lt_size e
 | set S n=>obtain ⟨o,_,_,_,e,_⟩:=x;exact Heap.lt_size e
 | ins C dx fs=>obtain ⟨_,_,_,e,_⟩:=x;exact Heap.lt_size e
 | own y=>obtain ⟨_,e⟩:=x;exact Heap.lt_size e
 | xd fs=>obtain ⟨_,⟨_,_,_,e,_⟩,_⟩:=x;exact Heap.lt_size e
 | rng lo hi=>obtain ⟨_,_,_,e⟩:=x;exact Heap.lt_size e
 | frz ob u=>obtain ⟨e,_⟩:=x;exact Heap.lt_size e
 | tbl ps=>obtain ⟨_,e,_⟩:=x;exact Heap.lt_size e
 | met f y=>exact Heap.lt_size (show h.get? a=some _ from x)
 | ext φ=>obtain ⟨_,⟨_,e⟩,_⟩:=x;exact Heap.lt_size e
theorem Paired.mapP{α β:Type}{F G:α->β->Prop}:∀ {l₁:List α} {l₂:List β},Paired F l₁ l₂->(∀a b,F a b->G a b)->Paired G l₁ l₂
 | _,_, .nil,_=> .nil
 | _,_, .cons r t,f=> .cons (f _ _ r) (Paired.mapP t f)
theorem ObjOk.stay (x : ObjOk P w H h a o) (k : ∀ b u, (b = a \/ H b = some (.own a)) -> h.get? b = some u -> h'.get? b = some u)
 (ho:∀b,H b=some (.own a)->H' b=some (.own a)) (ht:∀b xs,H b=some (.tup xs)->H' b=some (.tup xs)) (hf:∀b o u,H b=some (.frz o u)->H' b=some (.frz o u):=by exact fun _ _ _ q=>q):ObjOk P w H' h' a o:=by
 induction o with
 | lst xs=>obtain ⟨z,its,n,r,e⟩:=x;exact ⟨z,its,n,r,k _ _ (.inl rfl) e⟩
 | tup xs=>obtain ⟨z,its,r,ob,e,c⟩:=x;exact ⟨z,its,r,ob,k _ _ (.inl rfl) e,c⟩
 | dK kvs=>obtain ⟨z,y,vs,r,ob,es,ep,e,c⟩:=x;exact ⟨z,y,vs,r,ob,es,ep,k _ _ (.inl rfl) e,c⟩
 | dT kvs=>
  obtain ⟨z,y,xs,r,ob,es,ep,e,c⟩:=x
  exact ⟨z,y,xs,Paired.mapP r fun p q z=>⟨z.1,ht _ _ z.2.1,z.2.2⟩,ob,es,ep,k _ _ (.inl rfl) e,c⟩
 | set S n=>obtain ⟨ob,es,ep,t,e,c⟩:=x;exact ⟨ob,es,ep,t,k _ _ (.inl rfl) e,c⟩
 | ins C dx fs=>
  obtain ⟨d,z,ne,e,mA,⟨od,es,ep,e2,c⟩,r⟩:=x
  exact ⟨ho _ d,z,ne,k _ _ (.inl rfl) e,mA,⟨od,es,ep,k _ _ (.inr d) e2,c⟩,r⟩
 | own y=>obtain ⟨ob,e⟩:=x;exact ⟨ob,k _ _ (.inl rfl) e⟩
 | xd fs=>obtain ⟨mA,⟨od,es,ep,e,c⟩,r⟩:=x;exact ⟨mA,⟨od,es,ep,k _ _ (.inl rfl) e,c⟩,r⟩
 | rng lo hi=>obtain ⟨t,u,v,e⟩:=x;exact ⟨t,u,v,k _ _ (.inl rfl) e⟩
 | frz ob u ih=>obtain ⟨e,q⟩:=x;exact ⟨k _ _ (.inl rfl) e,ih q⟩
 | tbl ps=>obtain ⟨qs,e,t,c⟩:=x;exact ⟨qs,k _ _ (.inl rfl) e,t,fun pos v q=>let ⟨c',oc,vs,y,e1,e2,e3⟩:=c pos v q;⟨c',oc,vs,y,e1,hf _ _ _ e2,e3⟩⟩
 | met f y=>
  have e:h.get? a=some (PySem.W.methodObj (.ref f) (.ref y)):=x;show h'.get? a=some (PySem.W.methodObj (.ref f) (.ref y))
  exact k a _ (.inl rfl) e
 | ext φ=>obtain ⟨p,⟨o,e⟩,st⟩:=x;exact ⟨st _ _ p fun o q=>k _ _ (.inl rfl) q,⟨o,k _ _ (.inl rfl) e⟩,st⟩
theorem HOk.lt(x:HOk P w H h)(e:H a=some o):a<h.objs.size:=(x a o e).lt
theorem HOk.fresh(x:HOk P w H h)(e:h.objs.size<=a):H a=none:=by
 cases q:H a with
 | none=>rfl
 | some u=>exact absurd (Nat.lt_of_lt_of_le (x.lt q) e) (Nat.lt_irrefl _)
theorem HOk.kept(x:HOk P w H h)(k:∀b u,h.get? b=some u->h'.get? b=some u):HOk P w H h':=fun a o e=>
 (x a o e).stay (fun b u _ q=>k b u q) (fun _ q=>q) fun _ _ q=>q
theorem HOk.laid(x:HOk P w H h)(k:∀b u,h.get? b=some u->h'.get? b=some u)(hp:h.objs.size<=a)(new:ObjOk P w (upd H a o) h' a o):HOk P w (upd H a o) h':=fun b u e=>by
 have hn:=x.fresh hp
 by_cases hb:b=a
 . subst hb;rw [upd_same] at e;cases e;exact new
 . rw [upd_ne hb] at e
   exact (x b u e).stay (fun c v _ q=>k c v q) (fun c q=>by rw [upd_ne (ne_of_none q hn)];exact q) (fun c xs q=>by rw [upd_ne (ne_of_none q hn)];exact q) fun c ob xs q=>by rw [upd_ne (ne_of_none q hn)];exact q
end
def Rd(H:Hp)(a:Addr)(u:HO):Prop:=H a=some u\/∃o,H a=some (.frz o u)
theorem Rd.ok{P:Program}{w:World}{H:Hp}{h:Heap}{a:Addr}{u:HO}(r:Rd H a u)(x:HOk P w H h):ObjOk P w H h a u:=by
 rcases r with r | ⟨o,r⟩
 . exact x a u r
 . obtain ⟨_,q⟩:=x a _ r;exact q
def Mut:Option HO->Prop
 | some (.lst _)=>True
 | some (.dK _)=>True
 | some (.dT _)=>True
 | some (.set _ _)=>True
 | some (.ins _ _ _)=>True
 | some (.ext _)=>True
 | _=>False
section
variable {P:Program} {w:World} {H:Hp} {h h':Heap} {x e:Addr} {o':HO}
theorem HOk.write (ok : HOk P w H h) (mu : Mut (H x)) (he : e = x \/ H e = some (.own x)) (k : ∀ b u, b ≠ e -> h.get? b = some u -> h'.get? b = some u) (heo : ∃ u, h'.get? e = some u)
 (new:ObjOk P w (upd H x o') h' x o'):HOk P w (upd H x o') h':=fun b u q=>by
 have nown:∀c y,H c=some (.own y)->c≠x:=fun c y r z=>by subst z;rw [r] at mu;exact mu
 have ntup:∀c xs,H c=some (.tup xs)->c≠x:=fun c xs r z=>by subst z;rw [r] at mu;exact mu
 by_cases hb:b=x
 . subst hb;rw [upd_same] at q;cases q;exact new
 . rw [upd_ne hb] at q
   by_cases hbe:b=e
   . have q' : H b = some (.own x) := by
      rcases he with z | z
      . exact absurd (hbe.trans z) hb
      . rw [hbe];exact z
     rw [q] at q';cases q'
     obtain ⟨v,hv⟩:=heo;exact ⟨v,by rw [hbe];exact hv⟩
   . refine (ok b u q).stay (fun c v hc r=>k c v ?_ r) (fun c r=>by rw [upd_ne (nown c b r)];exact r) (fun c xs r=>by rw [upd_ne (ntup c xs r)];exact r) fun c ob xs r=>by rw [upd_ne (fun z=>by subst z;rw [r] at mu;exact mu)];exact r
     rcases hc with rfl | hc
     . exact hbe
     . rintro rfl;rcases he with z | z
       . exact nown c b hc z
       . rw [hc] at z;cases z;exact hb rfl
end
structure Un (fs ex:List Addr) (H H':Hp) (h h':Heap):Prop where
 keep:∀b o,h.get? b=some o->H b=none->b ∉ fs->b ∉ ex->h'.get? b=some o
 slot:∀b o,h.get? b=some o->H b=none->b ∈ fs->b ∉ ex->∃sl,h'.get? b=some {o with slots:=sl}
 free:∀b o,h.get? b=some o->H b=none->b ∉ ex->H' b=none
 there:∀b o,h.get? b=some o->b ∉ ex->∃o',h'.get? b=some o'
 tups:∀b xs,H b=some (.tup xs)->H' b=some (.tup xs)
 frzs:∀b o u,H b=some (.frz o u)->H' b=some (.frz o u)
 tbls:∀b ps,H b=some (.tbl ps)->∃more,H' b=some (.tbl (ps++more))
section
variable {fs fs' ex ex':List Addr} {H H1 H2:Hp} {h h1 h2 h':Heap} {a x e:Addr} {o:HO}
theorem Un.any(u:Un fs ex H H1 h h1){b:Addr}{ob:Obj}(q:h.get? b=some ob)(n:H b=none)(hx:b ∉ ex):∃sl,h1.get? b=some {ob with slots:=sl}:=by
 by_cases hb:b ∈ fs
 . exact u.slot b ob q n hb hx
 . exact ⟨ob.slots,u.keep b ob q n hb hx⟩
theorem Un.trans(a:Un fs ex H H1 h h1)(b:Un fs ex H1 H2 h1 h2):Un fs ex H H2 h h2 where
 keep:=fun c ob q n hc hx=>b.keep c ob (a.keep c ob q n hc hx) (a.free c ob q n hx) hc hx
 slot:=fun c ob q n hc hx=>by
  obtain ⟨sl,e1⟩:=a.slot c ob q n hc hx;obtain ⟨sl',e2⟩:=b.slot c _ e1 (a.free c ob q n hx) hc hx;exact ⟨sl',e2⟩
 free:=fun c ob q n hx=>by
  obtain ⟨o',e1⟩:=a.there c ob q hx;exact b.free c o' e1 (a.free c ob q n hx) hx
 there:=fun c ob q hx=>by
  obtain ⟨o',e1⟩:=a.there c ob q hx;exact b.there c o' e1 hx
 tups:=fun c xs q=>b.tups c xs (a.tups c xs q)
 frzs:=fun c ob xs q=>b.frzs c ob xs (a.frzs c ob xs q)
 tbls:=fun c ps q=>by
  obtain ⟨m1,e1⟩:=a.tbls c ps q;obtain ⟨m2,e2⟩:=b.tbls c _ e1;exact ⟨m1++m2,by rw [e2,Array.append_assoc]⟩
theorem Un.kept(k:∀b u,h.get? b=some u->h'.get? b=some u):Un fs ex H H h h' :=
 ⟨fun b ob q _ _ _=>k b ob q,fun b ob q _ _ _=>⟨ob.slots,k b ob q⟩,fun _ _ _ n _=>n,fun b ob q _=>⟨ob,k b ob q⟩,fun _ _ q=>q,fun _ _ _ q=>q,fun _ ps q=>⟨#[],by rw [q];simp⟩⟩
theorem Un.refl:Un fs ex H H h h:=Un.kept fun _ _ q=>q
theorem Un.laid(k:∀b u,h.get? b=some u->h'.get? b=some u)(hp:h.objs.size<=a)(hn:H a=none):Un fs ex H (upd H a o) h h' where
 keep:=fun b u q _ _ _=>k b u q
 slot:=fun b u q _ _ _=>⟨u.slots,k b u q⟩
 free:=fun b u q n _=>by rw [upd_ne (Nat.ne_of_lt (Nat.lt_of_lt_of_le (Heap.lt_size q) hp))];exact n
 there:=fun b u q _=>⟨u,k b u q⟩
 tups:=fun b xs q=>by rw [upd_ne (ne_of_none q hn)];exact q
 frzs:=fun b u xs q=>by rw [upd_ne (ne_of_none q hn)];exact q
 tbls:=fun b ps q=>⟨#[],by rw [upd_ne (ne_of_none q hn),q];simp⟩
theorem Un.write(mu:Mut (H x))(he:e=x\/H e=some (.own x))(k:∀b u,b≠e->h.get? b=some u->h'.get? b=some u)(heo:∃u,h'.get? e=some u):Un fs ex H (upd H x o) h h':=by
 have hx:∀b,H b=none->b≠x:=fun b n z=>by subst z;rw [n] at mu;exact mu
 have hb:∀b,H b=none->b≠e:=fun b n z=>by
  subst z;rcases he with r | r
  . exact hx b n r
  . rw [n] at r;cases r
 have hm:∀b u,H b=some u->¬Mut (some u)->b≠x:=fun b u q nm z=>by subst z;rw [q] at mu;exact nm mu
 refine ⟨fun b u q n _ _=>k b u (hb b n) q,fun b u q n _ _=>⟨u.slots,k b u (hb b n) q⟩,fun b u q n _=>by rw [upd_ne (hx b n)];exact n,fun b u q _=> ?_,
  fun b xs q=>by rw [upd_ne (hm b _ q fun z=>z)];exact q,fun b u xs q=>by rw [upd_ne (hm b _ q fun z=>z)];exact q,fun b ps q=>⟨#[],by rw [upd_ne (hm b _ q fun z=>z),q];simp⟩⟩
 by_cases hbe:b=e
 . subst hbe;exact heo
 . exact ⟨u,k b u hbe q⟩
end
def trk(h:Heap)(H:Hp):List Addr:=(List.range h.objs.size).filter fun a=>(H a).isSome
def hidT(h:Heap)(H:Hp):Heap:=PySem.W.hideAll h (trk h H)
theorem hidT_size(h:Heap)(H:Hp):(hidT h H).objs.size=h.objs.size:=PySem.W.hideAll_size _ _
theorem hidT_get{h:Heap}{H:Hp}{b:Addr}{o:Obj}(e:h.get? b=some o)(n:H b=none):(hidT h H).get? b=some o:=
 PySem.W.hideAll_get _ e fun hm=>by
  have q:(H b).isSome=true:=(List.mem_filter.mp hm).2;rw [n] at q;simp at q
theorem of_hidT{h:Heap}{H:Hp}{b:Addr}{o:Obj}(e:(hidT h H).get? b=some o):h.get? b=some o/\H b=none:=by
 have e':h.get? b=some o:=PySem.W.of_hideAll (trk h H) e;refine ⟨e',?_⟩
 cases q:H b with
 | none=>rfl
 | some x=>
  have hm:b ∈ trk h H:=List.mem_filter.mpr ⟨List.mem_range.mpr (Heap.lt_size e'),by simp [q]⟩;have z:(hidT h H).get? b=none:=PySem.W.hideAll_none (trk h H) hm;rw [z] at e;cases e
def allNews(g h:Heap)(L:Addr):List (Addr×Obj):=(List.range h.objs.size).filterMap fun a=>if a=L\/(g.get? a).isSome=true then none else (h.get? a).map fun o=>(a,o)
def rest(g h:Heap)(L d:Addr):List (Addr×Obj):=(allNews g h L).filter fun p=>decide (p.1≠d)
end L2
namespace L2
open PySem PySem.Spec PyProof.Rows
def tabsOf(K:PySem.W.Frag):List Addr:=match K.getLast? with
 | some (_,⟨.type "tables",_, .fields vs,_⟩)=>vs.toList.filterMap fun v=>match v with
  | .ref a=>some a
  | _=>none
 | _=> []
structure Mod (K:PySem.W.Frag) (mg:Str->Option Value) (base:Heap):Prop where
 kin:K.In base
 glob:base.Ns mainGlobals mg
 blt:∃mb,base.Ns builtinsNs mb/\∀x:Str,x ≠ "__name__" -> mb x=bootBuiltins x
 nolimit:base.NoLimit
structure Cx where
 prog:Program
 w:World
 K:PySem.W.Frag
 mg:Str->Option Value
 base:Heap
 A:Around
 N:List Str
 s₀:Shared
 H₀:Hp
 env:Env
 outer:List Env
 stack:List Env
 ex:List Addr
 fn:Str->Bool
 calm:Bool
 pn:List (Addr×Obj)
 xe:Value->Shared->Prop
def frs(l:List Env):List Addr:=l.filterMap (·.frame)
abbrev Cx.fs (X:Cx):List Addr:=frs X.outer
def Vis(sc:Scope)(x:Str):Prop:=sc.names.lookup x=some .local\/sc.names.lookup x=some .cell\/sc.names.lookup x=some .free
def Loc(sc:Scope)(x:Str):Prop:=sc.names.lookup x=some .local\/sc.names.lookup x=some .cell
def Look(env:Env)(h:Heap)(m:Str->Option Value)(x:Str)(u:Value):Prop:=
 (env.kindOf x=some .local/\m x=some u)\/((env.kindOf x=some .cell\/env.kindOf x=some .free)/\∃c,env.cells.lookup x=some c/\h.IsCell c (some u))
structure Cx.Ok (X:Cx):Prop where
 mod:Mod X.K X.mg X.base
 kind:X.env.scope.kind = .function
 glob:X.env.globals=mainGlobals
 blt:X.env.builtins=builtinsNs
 above:X.s₀.heap.objs.size<=X.env.locals
 inj:∀x y c,X.env.cells.lookup x=some c->X.env.cells.lookup y=some c->x=y
 has:∀x,(X.env.kindOf x=some .cell\/X.env.kindOf x=some .free)->∃c,X.env.cells.lookup x=some c
 cab:∀x c,X.fn x=true->X.env.cells.lookup x=some c->X.s₀.heap.objs.size<=c
 hd:X.calm=true->X.A.handled=none
 frames:X.A.frames=some X.stack
 stk:X.stack=X.outer\/(X.stack=X.env::X.outer/\X.env.frame=some X.env.locals)
 exf:∀b ∈ X.ex,b≠X.env.locals/\∀x c,X.env.cells.lookup x=some c->c≠b
 bs:∀b o,X.base.get? b=some o->X.s₀.heap.get? b=some o/\X.H₀ b=none
 bsz:X.base.objs.size<=X.s₀.heap.objs.size
 noex:∀b o,X.base.get? b=some o->b ∉ X.ex
 exfs:∀b ∈ X.ex,b ∉ X.fs
 funs:X.s₀.heap.FunFrames X.base X.outer
 frf:∀b ∈ X.fs,X.H₀ b=none
 tb:∀p ∈ tabsOf X.K,∃ps,X.H₀ p=some (.tbl ps)
structure Inv (X:Cx) (pins:List (Addr×Obj)) (σ:List (Option V)) (H:Hp) (s:Shared):Prop where
 ok:X.Ok
 os:s.os=X.s₀.os
 bare:AllBare s.gens
 base:Un X.fs X.ex X.H₀ H X.s₀.heap s.heap
 loc:∃m,s.heap.Ns X.env.locals m/\∀(i:Nat) (x:Str) (v:V),X.N[i]? = some x->σ[i]? = some (some v)->Vis X.env.scope x->∃u,RelV v u/\Look X.env s.heap m x u
 cell:∀x c,X.env.cells.lookup x=some c->∃v,s.heap.IsCell c v
 free:H X.env.locals=none
 freeC:∀x c,X.env.cells.lookup x=some c->H c=none
 pin:∀p ∈ X.pn++pins,s.heap.get? p.1=some p.2/\H p.1=none/\p.1≠X.env.locals/\p.1 ∉ X.fs/\∀v,p.2.data ≠ .cell v
 hok:HOk X.prog X.w H s.heap
 len:σ.length=X.N.length
section
variable {X:Cx} {pins:List (Addr×Obj)} {σ:List (Option V)} {H H':Hp} {s:Shared} {h':Heap}
theorem Cx.Ok.nofr(ok:X.Ok){b:Addr}{o:Obj}(e:X.base.get? b=some o):b ∉ X.fs:=fun hb=>by
 have:=(ok.funs.mem hb).1;rw [e] at this;cases this
theorem Inv.bs(I:Inv X pins σ H s):∀b o,X.base.get? b=some o->s.heap.get? b=some o/\H b=none:=fun b o e=>
 ⟨I.base.keep b o (I.ok.bs b o e).1 (I.ok.bs b o e).2 (I.ok.nofr e) (I.ok.noex b o e),I.base.free b o (I.ok.bs b o e).1 (I.ok.bs b o e).2 (I.ok.noex b o e)⟩
theorem Inv.bk(I:Inv X pins σ H s):∀b o,X.base.get? b=some o->s.heap.get? b=some o:=fun b o e=>(I.bs b o e).1
theorem Inv.tb(I:Inv X pins σ H s):∀p ∈ tabsOf X.K,∃ps,H p=some (.tbl ps):=fun p hp=>by
 obtain ⟨ps,e⟩:=I.ok.tb p hp;obtain ⟨m,e2⟩:=I.base.tbls p ps e;exact ⟨_,e2⟩
theorem Inv.mod(I:Inv X pins σ H s):Mod X.K X.mg X.base:=I.ok.mod
theorem Inv.kIn(I:Inv X pins σ H s):X.K.In s.heap:=I.ok.mod.kin.keeps I.bk
theorem Inv.nolimit(I:Inv X pins σ H s):s.heap.NoLimit:=I.ok.mod.nolimit.keeps I.bk
theorem Inv.fr(I:Inv X pins σ H s):∃m,Fr X.base X.env.locals s.heap m:=
 let ⟨m,hn,_⟩:=I.loc
 ⟨m,hn,I.bk,Nat.le_trans I.ok.bsz I.ok.above⟩
theorem Inv.lt(I:Inv X pins σ H s):X.env.locals<s.heap.objs.size:=let ⟨_,hn,_⟩:=I.loc;hn.lt
theorem Inv.sz(I:Inv X pins σ H s):X.s₀.heap.objs.size<=s.heap.objs.size:=Nat.le_trans I.ok.above (Nat.le_of_lt I.lt)
theorem Inv.nofs(I:Inv X pins σ H s){a:Addr}(h:s.heap.objs.size<=a):a ∉ X.fs:=fun hb=>by
 obtain ⟨_,o,ho,_⟩:=I.ok.funs.mem hb;exact absurd (Nat.lt_of_lt_of_le (Heap.lt_size ho) (Nat.le_trans I.sz h)) (Nat.lt_irrefl _)
theorem Inv.cne(I:Inv X pins σ H s):∀x c,X.env.cells.lookup x=some c->c≠X.env.locals:=fun x c e z=>by
 obtain ⟨v,o,ho,hd⟩:=I.cell x c e;obtain ⟨m,⟨o',es,ep,ho',hd',_⟩,_⟩:=I.loc;rw [z,ho'] at ho;cases ho;rw [hd'] at hd;cases hd
theorem Inv.funs(I:Inv X pins σ H s):s.heap.FunFrames X.base X.outer:=by
 have all:∀(l:List Env),(∀b ∈ frs l,b ∈ X.fs)->X.s₀.heap.FunFrames X.base l->s.heap.FunFrames X.base l:=by
  intro l
  induction l with
  | nil=>intro _ _;trivial
  | cons env r ih=>
   intro hs hl;obtain ⟨hk,⟨L,o,hf,hn,ho,hd⟩,hr⟩:=hl;have hL:L ∈ X.fs:=hs L (by unfold frs;rw [List.filterMap_cons,hf];exact List.mem_cons_self);obtain ⟨sl,e⟩:=I.base.slot L o ho (I.ok.frf L hL) hL fun z=>I.ok.exfs L z hL;exact ⟨hk,⟨L,_,hf,hn,e,hd⟩,ih (fun b hb=>hs b (by unfold frs;rw [List.filterMap_cons,hf];exact List.mem_cons_of_mem _ hb)) hr⟩
 exact all X.outer (fun _ hb=>hb) I.ok.funs
theorem Inv.stack(I:Inv X pins σ H s):s.heap.FunFrames X.base X.stack:=by
 rcases I.ok.stk with e | ⟨e,hf⟩
 . rw [e];exact I.funs
 . rw [e];obtain ⟨m,hn,_⟩:=I.loc;refine .cons (by rw [I.ok.kind];decide) hf hn ?_ I.funs;exact Heap.get?_none_of_le (Nat.le_trans I.ok.bsz I.ok.above)
theorem Inv.stkSub(I:Inv X pins σ H s):∀b ∈ frs X.stack,b ∈ X.env.locals::X.fs:=fun b hb=>by
 rcases I.ok.stk with e | ⟨e,hf⟩
 . rw [e] at hb;exact List.mem_cons_of_mem _ hb
 . rw [e] at hb
   unfold frs at hb
   rw [List.filterMap_cons,hf] at hb
   exact hb
theorem Inv.stkFree(I:Inv X pins σ H s):∀b ∈ frs X.stack,H b=none:=fun b hb=>by
 rcases List.mem_cons.mp (I.stkSub b hb) with e | hb
 . rw [e];exact I.free
 . obtain ⟨_,o,ho,_⟩:=I.ok.funs.mem hb;exact I.base.free b o ho (I.ok.frf b hb) fun z=>I.ok.exfs b z hb
theorem Inv.step {g' : Array GenState} {t' : Nat} {d' : Drawn} {ch : List Addr} (I : Inv X pins σ H s)
 (hch:∀b ∈ ch,(b ∈ X.ex\/X.s₀.heap.objs.size<=b)/\b≠X.env.locals/\(∀x c,X.env.cells.lookup x=some c->c≠b)/\∀p ∈ X.pn++pins,p.1≠b)
 (keep:∀b o,b≠X.env.locals->b ∉ X.fs->b ∉ ch->s.heap.get? b=some o->H b=none->h'.get? b=some o)
 (slot:∀b o,b≠X.env.locals->b ∈ X.fs->b ∉ ch->s.heap.get? b=some o->H b=none->∃sl,h'.get? b=some {o with slots:=sl}) (free:∀b o,b ∉ ch->s.heap.get? b=some o->H b=none->H' b=none)
 (there:∀b o,b ∉ ch->s.heap.get? b=some o->∃o',h'.get? b=some o')
 (tups:∀b xs,H b=some (.tup xs)->H' b=some (.tup xs)) (frzs:∀b o u,H b=some (.frz o u)->H' b=some (.frz o u)) (tbls:∀b ps,H b=some (.tbl ps)->∃more,H' b=some (.tbl (ps++more)))
 (ns:∀m,s.heap.Ns X.env.locals m->h'.Ns X.env.locals m) (hok:HOk X.prog X.w H' h') (hg:AllBare g') :
 Inv X pins σ H' {s with heap:=h',gens:=g',drawn:=d',toks:=t' }:=by
 have neL:∀b o,X.s₀.heap.get? b=some o->b≠X.env.locals:=fun b o e=>Nat.ne_of_lt (Nat.lt_of_lt_of_le (Heap.lt_size e) I.ok.above)
 have neC:∀b o,X.s₀.heap.get? b=some o->b ∉ X.ex->b ∉ ch:=fun b o e hx hb=>by
  rcases (hch b hb).1 with z | z
  . exact hx z
  . exact absurd (Nat.lt_of_lt_of_le (Heap.lt_size e) z) (Nat.lt_irrefl _)
 have cellK:∀x c,X.env.cells.lookup x=some c->∀v,s.heap.IsCell c v->h'.IsCell c v:=fun x c e v ⟨o,ho,hd⟩=>by
  have nch:c ∉ ch:=fun z=>(hch c z).2.2.1 x c e rfl
  by_cases hc:c ∈ X.fs
  . obtain ⟨sl,q⟩:=slot c o (I.cne x c e) hc nch ho (I.freeC x c e);exact ⟨_,q,hd⟩
  . exact ⟨o,keep c o (I.cne x c e) hc nch ho (I.freeC x c e),hd⟩
 refine ⟨I.ok,I.os,hg,⟨fun b o e n hb hx=> ?_,fun b o e n hb hx=> ?_,fun b o e n hx=> ?_,fun b o e hx=> ?_,fun b xs e=>tups b xs (I.base.tups b xs e),fun b o xs e=>frzs b o xs (I.base.frzs b o xs e),fun b ps e=> ?_⟩,?_,fun x c e=> ?_,?_,fun x c e=> ?_,fun p hp=> ?_,hok,I.len⟩
 . exact keep b o (neL b o e) hb (neC b o e hx) (I.base.keep b o e n hb hx) (I.base.free b o e n hx)
 . obtain ⟨sl,e1⟩:=I.base.slot b o e n hb hx;obtain ⟨sl',e2⟩:=slot b _ (neL b o e) hb (neC b o e hx) e1 (I.base.free b o e n hx);exact ⟨sl',e2⟩
 . obtain ⟨o',e1⟩:=I.base.there b o e hx;exact free b o' (neC b o e hx) e1 (I.base.free b o e n hx)
 . obtain ⟨o',e1⟩:=I.base.there b o e hx;exact there b o' (neC b o e hx) e1
 . obtain ⟨m1,e1⟩:=I.base.tbls b ps e;obtain ⟨m2,e2⟩:=tbls b _ e1;exact ⟨m1++m2,by rw [e2,Array.append_assoc]⟩
 . obtain ⟨m,hn,hl⟩:=I.loc;refine ⟨m,ns m hn,fun i x v e1 e2 e3=> ?_⟩;obtain ⟨u,r,l⟩:=hl i x v e1 e2 e3;refine ⟨u,r,?_⟩;rcases l with l | ⟨k,c,e,z⟩
   . exact .inl l
   . exact .inr ⟨k,c,e,cellK x c e _ z⟩
 . obtain ⟨v,z⟩:=I.cell x c e;exact ⟨v,cellK x c e v z⟩
 . obtain ⟨m,⟨o,_,_,ho,_⟩,_⟩:=I.loc;exact free _ o (fun z=>(hch _ z).2.1 rfl) ho I.free
 . obtain ⟨v,o,ho,hd⟩:=I.cell x c e;exact free c o (fun z=>(hch c z).2.2.1 x c e rfl) ho (I.freeC x c e)
 . obtain ⟨e,n,ne,nf,d⟩:=I.pin p hp;have nch:p.1 ∉ ch:=fun z=>(hch p.1 z).2.2.2 p hp rfl;exact ⟨keep p.1 p.2 ne nf nch e n,free p.1 p.2 nch e n,ne,nf,d⟩
theorem Inv.un{t':Nat}(I:Inv X pins σ H s)(u:Un X.fs [] H H' s.heap h')(hok:HOk X.prog X.w H' h'):Inv X pins σ H' {s with heap:=h',toks:=t' }:=by
 obtain ⟨m,⟨o,es,ep,ho,r⟩,_⟩:=id I.loc;obtain ⟨sl,hL⟩:=u.any ho I.free (by simp)
 exact I.step (g':=s.gens) (d':=s.drawn) (ch:= []) (fun _ z=>nomatch z) (fun b o _ hb _ e n=>u.keep b o e n hb (by simp)) (fun b o _ hb _ e n=>u.slot b o e n hb (by simp)) (fun b o _ e n=>u.free b o e n (by simp)) (fun b o _ e=>u.there b o e (by simp)) u.tups u.frzs u.tbls (fun m' hm=>by
  obtain ⟨o',es',ep',ho',r'⟩:=hm;rw [ho] at ho';cases ho'
  exact ⟨_,es',ep',hL,r'⟩) hok I.bare
theorem Inv.call {g' : Array GenState} {t' : Nat} {d' : Drawn} {ch : List Addr} (I : Inv X pins σ H s) (u : Un (frs X.stack) ch H H' s.heap h') (hok : HOk X.prog X.w H' h') (hg : AllBare g')
 (hch:∀b ∈ ch,(b ∈ X.ex\/X.s₀.heap.objs.size<=b)/\b≠X.env.locals/\(∀x c,X.env.cells.lookup x=some c->c≠b)/\∀p ∈ X.pn++pins,p.1≠b) :
 Inv X pins σ H' {s with heap:=h',gens:=g',drawn:=d',toks:=t' }:=by
 obtain ⟨m,⟨o,es,ep,ho,r⟩,_⟩:=id I.loc;obtain ⟨sl,hL⟩:=u.any ho I.free fun z=>(hch _ z).2.1 rfl
 exact I.step (ch:=ch) hch (fun b o hL hb hc e n=>u.keep b o e n (fun z=>(List.mem_cons.mp (I.stkSub b z)).elim hL hb) hc) (fun b o _ _ hc e n=>u.any e n hc) (fun b o hc e n=>u.free b o e n hc) (fun b o hc e=>u.there b o e hc) u.tups u.frzs u.tbls (fun m' hm=>by
  obtain ⟨o',es',ep',ho',r'⟩:=hm;rw [ho] at ho';cases ho'
  exact ⟨_,es',ep',hL,r'⟩) hok hg
theorem Inv.turned {t' : Nat} {it : Addr} (I : Inv X pins σ H s) (k : ∀ b o, b ≠ it -> s.heap.get? b = some o -> h'.get? b = some o) (hn : H it = none) (hL : it ≠ X.env.locals)
 (h1:it ∈ X.ex\/X.s₀.heap.objs.size<=it) (h2:∀x c,X.env.cells.lookup x=some c->c≠it) (h3:∀p ∈ X.pn++pins,p.1≠it):Inv X pins σ H {s with heap:=h',toks:=t' }:=by
 have nit:∀b u,H b=some u->b≠it:=fun b u e z=>by rw [z,hn] at e;cases e
 refine I.step (g':=s.gens) (d':=s.drawn) (ch:= [it]) (fun b hb=> ?_) (fun b o _ _ hc e _=>k b o (fun z=>hc (by simp [z])) e) (fun b o _ _ hc e _=>⟨o.slots,k b o (fun z=>hc (by simp [z])) e⟩) (fun _ _ _ _ n=>n)
  (fun b o hc e=>⟨o,k b o (fun z=>hc (by simp [z])) e⟩) (fun _ _ e=>e) (fun _ _ _ e=>e) (fun b ps e=>⟨#[],by rw [e];simp⟩) (fun m hm=> ?_) (fun b u e=> ?_) I.bare
 . have e:b=it:=by simpa using hb
   subst e;exact ⟨h1,hL,h2,h3⟩
 . obtain ⟨o,es,ep,ho,r⟩:=hm;exact ⟨o,es,ep,k _ o (Ne.symm hL) ho,r⟩
 . refine (I.hok b u e).stay (fun c v hc q=>k c v ?_ q) (fun _ q=>q) fun _ _ q=>q;rcases hc with z | z
   . rw [z];exact nit b u e
   . exact nit c _ z
theorem Inv.tok(I:Inv X pins σ H s)(t:Nat):Inv X pins σ H {s with toks:=t}:=I.un (h':=s.heap) (t':=t) Un.refl I.hok
theorem Inv.kept{t':Nat}(I:Inv X pins σ H s)(k:∀b u,s.heap.get? b=some u->h'.get? b=some u):Inv X pins σ H {s with heap:=h',toks:=t' }:=I.un (Un.kept k) (I.hok.kept k)
theorem Inv.laid {a : Addr} {o : HO} {t' : Nat} (I : Inv X pins σ H s) (k : ∀ b u, s.heap.get? b = some u -> h'.get? b = some u) (hp : s.heap.objs.size <= a) (new : ObjOk X.prog X.w (upd H a o) h' a o) :
 Inv X pins σ (upd H a o) {s with heap:=h',toks:=t' }:=I.un (Un.laid k hp (I.hok.fresh hp)) (I.hok.laid k hp new)
theorem Inv.write {x e : Addr} {o : HO} {t' : Nat} (I : Inv X pins σ H s) (mu : Mut (H x)) (he : e = x \/ H e = some (.own x)) (k : ∀ b u, b ≠ e -> s.heap.get? b = some u -> h'.get? b = some u) (heo : ∃ u, h'.get? e = some u)
 (new:ObjOk X.prog X.w (upd H x o) h' x o):Inv X pins σ (upd H x o) {s with heap:=h',toks:=t' }:=I.un (Un.write mu he k heo) (I.hok.write mu he k heo new)
theorem Inv.weak{σ':List (Option V)}(I:Inv X pins σ H s)(hl:σ'.length=σ.length)(w:∀(i:Nat) v,σ'[i]? = some (some v)->σ[i]? = some (some v)):Inv X pins σ' H s:=
 ⟨I.ok,I.os,I.bare,I.base,let ⟨m,hn,hl'⟩:=I.loc;⟨m,hn,fun i x v e1 e2 e3=>hl' i x v e1 (w i v e2) e3⟩,I.cell,I.free,I.freeC,I.pin,I.hok,hl.trans I.len⟩
theorem Inv.pins_of{pins':List (Addr×Obj)}(I:Inv X pins σ H s)(h:∀p ∈ pins',s.heap.get? p.1=some p.2/\H p.1=none/\p.1≠X.env.locals/\p.1 ∉ X.fs/\∀v,p.2.data ≠ .cell v):Inv X pins' σ H s:=
 ⟨I.ok,I.os,I.bare,I.base,I.loc,I.cell,I.free,I.freeC,fun p hp=>(List.mem_append.mp hp).elim (fun z=>I.pin p (List.mem_append_left _ z)) (h p),I.hok,I.len⟩
theorem nodup_ix{N:List Str}(hN:N.Nodup){i j:Nat}{x:Str}(a:N[i]? = some x)(b:N[j]? = some x):i=j:=by
 obtain ⟨h1,e1⟩:=List.getElem?_eq_some_iff.mp a;obtain ⟨h2,e2⟩:=List.getElem?_eq_some_iff.mp b;exact (List.getElem_inj hN).mp (e1.trans e2.symm)
theorem store_ok2 {M : Model} {A : Around} {E : Value -> Shared -> Prop} {i : Nat} {x : Str} {v : V} {u : Value} {Q : Unit -> Shared -> Prop} (I : Inv X pins σ H s) (hN : X.N.Nodup) (hi : X.N[i]? = some x) (hx : Loc X.env.scope x) (r : RelV v u)
 (h:∀s',Inv X pins (σ.set i (some v)) H s'->(∃a,Heap.SameBut a s.heap s'.heap/\(a=X.env.locals\/X.env.cells.lookup x=some a))->Q () s') (hf:X.fn x=true\/X.env.scope.names.lookup x=some .local:=by first | exact .inl rfl | exact .inr rfl | assumption):wpAny M A (storeName X.env x u) Q E s:=by
 obtain ⟨m,hn,hl⟩:=id I.loc;have hcls:(X.env.scope.kind == .class || (X.env.scope.kind == .module && X.env.locals != X.env.globals))=false:=by rw [I.ok.kind];rfl
 have hiσ:i<σ.length:=by rw [I.len];exact (List.getElem?_eq_some_iff.mp hi).1
 have cne:=I.cne
 have tracked:∀ {a:Addr} {h':Heap},(∃o,s.heap.get? a=some o/\H a=none)->Heap.SameBut a s.heap h'->HOk X.prog X.w H h':=fun {a h'} ha hs b ob e=>by
  obtain ⟨_,_,hfree⟩:=ha;refine (I.hok b ob e).stay (fun c w' hc q=>(hs.2 c ?_).trans q) (fun _ q=>q) fun _ _ q=>q;rintro rfl;rcases hc with rfl | hc
  . rw [hfree] at e;cases e
  . rw [hfree] at hc;cases hc
 rcases hx with hk | hk
 . refine wpAny_storeName_local hk hn (fun h' hn' hs=> ?_) hcls;obtain ⟨oL,_,_,hoL,_⟩:=id hn;refine h _ ⟨I.ok,I.os,I.bare,⟨fun b o e n hb hx=> ?_,fun b o e n hb hx=> ?_,I.base.free,fun b o e hx=> ?_,I.base.tups,I.base.frzs,I.base.tbls⟩,⟨_,hn',fun j y v' e1 e2 e3=> ?_⟩,fun y c e=> ?_,I.free,I.freeC,fun p hp=> ?_,tracked ⟨oL,hoL,I.free⟩ hs,by simpa using I.len⟩ ⟨_,hs, .inl rfl⟩
   . exact (hs.2 b (Nat.ne_of_lt (Nat.lt_of_lt_of_le (Heap.lt_size e) I.ok.above))).trans (I.base.keep b o e n hb hx)
   . obtain ⟨sl,e1⟩:=I.base.slot b o e n hb hx;exact ⟨sl,(hs.2 b (Nat.ne_of_lt (Nat.lt_of_lt_of_le (Heap.lt_size e) I.ok.above))).trans e1⟩
   . obtain ⟨o',e1⟩:=I.base.there b o e hx;exact ⟨o',(hs.2 b (Nat.ne_of_lt (Nat.lt_of_lt_of_le (Heap.lt_size e) I.ok.above))).trans e1⟩
   . by_cases hj:j=i
     . subst hj;rw [hi] at e1;cases e1
       rw [List.getElem?_set_self hiσ] at e2
       cases e2
       exact ⟨u,r, .inl ⟨hk,by simp⟩⟩
     . rw [List.getElem?_set_ne (Ne.symm hj)] at e2
       obtain ⟨u',r',q⟩:=hl j y v' e1 e2 e3;refine ⟨u',r',?_⟩;rcases q with ⟨k,e⟩ | ⟨k,c,e,z⟩
       . refine .inl ⟨k,?_⟩;have:y≠x:=fun e=>hj (nodup_ix hN e1 (e ▸ hi));simp [this,e]
       . exact .inr ⟨k,c,e,z.sameBut hs (cne y c e)⟩
   . obtain ⟨w',z⟩:=I.cell y c e;exact ⟨w',z.sameBut hs (cne y c e)⟩
   . obtain ⟨e,n,ne,nf,d⟩:=I.pin p hp;exact ⟨(hs.2 p.1 ne).trans e,n,ne,nf,d⟩
 . have hfn : X.fn x = true := by
    rcases hf with z | z
    . exact z
    . rw [z] at hk;cases hk
   obtain ⟨c,hc⟩:=I.ok.has x (.inl hk);obtain ⟨w',z⟩:=I.cell x c hc;refine wpAny_storeName_cell I.ok.kind hk hc z (fun h' hc' hs=> ?_);obtain ⟨oc,hoc,hocd⟩:=id z;refine h {s with heap:=h' } ⟨I.ok,I.os,I.bare,⟨fun b o e n hb hx=> ?_,fun b o e n hb hx=> ?_,I.base.free,fun b o e hx=> ?_,I.base.tups,I.base.frzs,I.base.tbls⟩,⟨m,hn.sameBut hs (Ne.symm (cne x c hc)),fun j y v' e1 e2 e3=> ?_⟩,fun y c' e=> ?_,I.free,I.freeC,fun p hp=> ?_,tracked ⟨oc,hoc,I.freeC x c hc⟩ hs,by simpa using I.len⟩ ⟨c,hs, .inr hc⟩
   . exact (hs.2 b (Nat.ne_of_lt (Nat.lt_of_lt_of_le (Heap.lt_size e) (I.ok.cab x c hfn hc)))).trans (I.base.keep b o e n hb hx)
   . obtain ⟨sl,e1⟩:=I.base.slot b o e n hb hx;exact ⟨sl,(hs.2 b (Nat.ne_of_lt (Nat.lt_of_lt_of_le (Heap.lt_size e) (I.ok.cab x c hfn hc)))).trans e1⟩
   . obtain ⟨o',e1⟩:=I.base.there b o e hx;exact ⟨o',(hs.2 b (Nat.ne_of_lt (Nat.lt_of_lt_of_le (Heap.lt_size e) (I.ok.cab x c hfn hc)))).trans e1⟩
   . by_cases hj:j=i
     . subst hj;rw [hi] at e1;cases e1
       rw [List.getElem?_set_self hiσ] at e2
       cases e2
       exact ⟨u,r, .inr ⟨.inl hk,c,hc,hc'⟩⟩
     . rw [List.getElem?_set_ne (Ne.symm hj)] at e2
       obtain ⟨u',r',q⟩:=hl j y v' e1 e2 e3;refine ⟨u',r',?_⟩;rcases q with q | ⟨k,c',e,z'⟩
       . exact .inl q
       . refine .inr ⟨k,c',e,z'.sameBut hs ?_⟩;rintro rfl;exact hj (nodup_ix hN e1 (I.ok.inj _ _ _ e hc ▸ hi))
   . by_cases hcc:c'=c
     . subst hcc;exact ⟨_,hc'⟩
     . obtain ⟨w2,z2⟩:=I.cell y c' e;exact ⟨w2,z2.sameBut hs hcc⟩
   . obtain ⟨e,n,ne,nf,d⟩:=I.pin p hp;refine ⟨(hs.2 p.1 ?_).trans e,n,ne,nf,d⟩;intro q;rw [q,hoc] at e
     have q':oc=p.2:=Option.some.inj e;exact d w' (by rw [<-q'];exact hocd)
theorem store_ok {M : Model} {A : Around} {E : Value -> Shared -> Prop} {i : Nat} {x : Str} {v : V} {u : Value} {Q : Unit -> Shared -> Prop} (I : Inv X pins σ H s) (hN : X.N.Nodup) (hi : X.N[i]? = some x) (hx : Loc X.env.scope x) (r : RelV v u)
 (h:∀s',Inv X pins (σ.set i (some v)) H s'->Q () s') (hf:X.fn x=true\/X.env.scope.names.lookup x=some .local:=by first | exact .inl rfl | exact .inr rfl | assumption):wpAny M A (storeName X.env x u) Q E s:=
 store_ok2 I hN hi hx r (fun s' I' _=>h s' I') hf
theorem Inv.call' {s' : Shared} {ch : List Addr} (I : Inv X pins σ H s) (ho : s'.os = s.os) (u : Un (frs X.stack) ch H H' s.heap s'.heap) (hok : HOk X.prog X.w H' s'.heap) (hg : AllBare s'.gens)
 (hch:∀b ∈ ch,(b ∈ X.ex\/X.s₀.heap.objs.size<=b)/\b≠X.env.locals/\(∀x c,X.env.cells.lookup x=some c->c≠b)/\∀p ∈ X.pn++pins,p.1≠b):Inv X pins σ H' s':=by
 obtain ⟨h',g',d',t',o'⟩:=s';have e:o'=s.os:=ho;subst e;exact I.call (g':=g') (t':=t') (d':=d') u hok hg hch
end
abbrev XK:=Value->Option Addr->Hp->Prop
abbrev St:=List (Option V)
abbrev VK:=V->Hp->Prop
abbrev TE:=St->Hp->VK->Prop
abbrev TT:=St->Hp->(Bool->Hp->Prop)->Prop
abbrev TA:=St->Hp->(List V->Hp->Prop)->Prop
structure Ends where
 nx:St->Hp->Prop
 rt:VK
 bk:St->Hp->Prop:=fun _ _=>False
 ct:St->Hp->Prop:=fun _ _=>False
abbrev TS:=Ends->St->Hp->Prop
def EP(X:Cx)(pins:List (Addr×Obj))(σ:St)(Q:VK)(u:Value)(s':Shared):Prop:=∃v H',Inv X pins σ H' s'/\RelV v u/\Q v H'
def TP(X:Cx)(pins:List (Addr×Obj))(σ:St)(Q:Bool->Hp->Prop)(b:Bool)(s':Shared):Prop:=∃H',Inv X pins σ H' s'/\Q b H'
def AP(X:Cx)(pins:List (Addr×Obj))(σ:St)(Q:List V->Hp->Prop)(us:List Value)(s':Shared):Prop:=∃vs H',Inv X pins σ H' s'/\Vals vs us/\Q vs H'
def SP(X:Cx)(pins:List (Addr×Obj))(D:Ends)(f:Flow)(s':Shared):Prop:=
 match f with
 | .next=>∃σ' H',Inv X pins σ' H' s'/\D.nx σ' H'
 | .brk=>∃σ' H',Inv X pins σ' H' s'/\D.bk σ' H'
 | .cont=>∃σ' H',Inv X pins σ' H' s'/\D.ct σ' H'
 | .ret u=>∃v σ' H',Inv X pins σ' H' s'/\RelV v u/\D.rt v H'
def PE(X:Cx)(e:Expr)(t:TE):Prop:=
 ∀(pins:List (Addr×Obj)) (s:Shared) (σ:St) (H:Hp) (Q:VK),Inv X pins σ H s->t σ H Q->wpAny (model X.prog X.w) X.A (eval e X.env) (EP X pins σ Q) X.xe s
def PT(X:Cx)(e:Expr)(t:TT):Prop:=
 ∀(pins:List (Addr×Obj)) (s:Shared) (σ:St) (H:Hp) (Q:Bool->Hp->Prop),Inv X pins σ H s->t σ H Q->wpAny (model X.prog X.w) X.A (isTrue e X.env (eval e X.env)) (TP X pins σ Q) X.xe s
def PW(X:Cx)(e:Expr)(t:TT):Prop:=
 ∀(whole:Sem Value) (pins:List (Addr×Obj)) (s:Shared) (σ:St) (H:Hp) (Q:Bool->Hp->Prop),Inv X pins σ H s->t σ H Q->wpAny (model X.prog X.w) X.A (isTrue e X.env whole) (TP X pins σ Q) X.xe s
theorem PW.pt{X:Cx}{e:Expr}{t:TT}(h:PW X e t):PT X e t:=h _
def PA(X:Cx)(es:List Expr)(t:TA):Prop:=
 ∀(pos:Pos) (pins:List (Addr×Obj)) (s:Shared) (σ:St) (H:Hp) (Q:List V->Hp->Prop),Inv X pins σ H s->t σ H Q->wpAny (model X.prog X.w) X.A (spliced (backTo pos (starEach es X.env))) (AP X pins σ Q) X.xe s
def PS(X:Cx)(st:Stmt)(t:TS):Prop:=
 ∀(pins:List (Addr×Obj)) (s:Shared) (σ:St) (H:Hp) (D:Ends),Inv X pins σ H s->t D σ H->wpAny (model X.prog X.w) X.A (exec st X.env) (SP X pins D) X.xe s
def PSs(X:Cx)(st:List Stmt)(t:TS):Prop:=
 ∀(pins:List (Addr×Obj)) (s:Shared) (σ:St) (H:Hp) (D:Ends),Inv X pins σ H s->t D σ H->wpAny (model X.prog X.w) X.A (execs st X.env) (SP X pins D) X.xe s
theorem thn{α:Type}{t:Sem α}{Q Q':α->Shared->Prop}{M:Model}{A:Around}{E:Value->Shared->Prop}{s:Shared}(h:wpAny M A t Q E s)(hQ:∀a s,Q a s->Q' a s):wpAny M A t Q' E s:=wpAny_mono h hQ fun _ _ x=>x
end L2
namespace L2
open PySem PySem.Spec PyProof.Rows
section
variable {X:Cx}
theorem bin {a b : Expr} {ta tb : TE} (ha : PE X a ta) (hb : PE X b tb) {pins : List (Addr × Obj)} {s : Shared} {σ : St} {H : Hp} {R : V -> V -> Hp -> Prop} (I : Inv X pins σ H s) (h : ta σ H fun x H1 => tb σ H1 fun y H2 => R x y H2)
 {α:Type} {Q:α->Shared->Prop} {f:Value->Value->Sem α}
 (hf:∀v u s2 x y H2,Inv X pins σ H2 s2->RelV x v->RelV y u->R x y H2->wpAny (model X.prog X.w) X.A (f v u) Q X.xe s2) :
 wpAny (model X.prog X.w) X.A (eval a X.env) (fun v s₁=>wpAny (model X.prog X.w) X.A (eval b X.env) (fun u s₂=>wpAny (model X.prog X.w) X.A (f v u) Q X.xe s₂) X.xe s₁) X.xe s:=by
 refine thn (ha pins s σ H _ I h) fun v s1 ⟨x,H1,I1,r1,q1⟩ => ?_;refine thn (hb pins s1 σ H1 _ I1 q1) fun u s2 ⟨y,H2,I2,r2,q2⟩ => ?_;exact hf v u s2 x y H2 I2 r1 r2 q2
def tVar(i:Nat):TE:=fun σ H Q=>∃v,σ[i]? = some (some v)/\Q v H
def tC(v:V):TE:=fun _ H Q=>Q v H
theorem pe_var {i:Nat} {x:Str} {pos:Pos} (hN:X.N[i]? = some x) (hv:Vis X.env.scope x) (hd:(x==("__debug__" : Str))=false:=by decide) (hcd:(x==("__classdict__" : Str))=false:=by decide):PE X (.Name x pos) (tVar i):=by
 intro pins s σ H Q I h;obtain ⟨v,e,h⟩:=h;obtain ⟨m,hn,hl⟩:=I.loc;obtain ⟨u,r,l⟩:=hl i x v hN e hv;have fin:EP X pins σ Q u s:=⟨v,H,I,r,h⟩;rcases l with ⟨hk,hm⟩ | ⟨hk,c,hc,hcell⟩
 . exact wpAny_Name (wpAny_loadName_local I.ok.kind hk hn hm fin) hd
 . rcases hk with hk | hk
   . exact wpAny_Name (wpAny_loadName_cell I.ok.kind hk hc hcell fin) hd
   . exact wpAny_Name (wpAny_loadName_free I.ok.kind hk hc hcell fin hcd) hd
theorem pe_int{i j pos}:PE X (.Constant (.int i) j pos) (tC (.int i)):=fun _ _ _ H _ I h=>wpAny_Constant_int ⟨.int i,H,I.tok _,⟨_,rfl⟩,h⟩
theorem pe_bl{b j pos}:PE X (.Constant (.bool b) j pos) (tC (.bl b)):=fun _ _ _ H _ I h=>Constant_bool ⟨.bl b,H,I,rfl,h⟩
theorem pe_non{j pos}:PE X (.Constant .none j pos) (tC .non):=fun _ _ _ H _ I h=>Constant_none ⟨.non,H,I,rfl,h⟩
def Gl(X:Cx)(x:Str):Prop:=X.env.kindOf x=some .globalImplicit
theorem ld_glob {E : Value -> Shared -> Prop} {pins : List (Addr × Obj)} {s : Shared} {σ : St} {H : Hp} {x : Str} {u : Value} {pos : Pos} {Q : Value -> Shared -> Prop} (I : Inv X pins σ H s) (hg : Gl X x) (hm : X.mg x = some u) (h : Q u s)
 (hd:(x==("__debug__" : Str))=false:=by decide):wpAny (model X.prog X.w) X.A (eval (.Name x pos) X.env) Q E s:=
 Calls.Name_function_global I.ok.kind hg (Calls.loadGlobal_global (by rw [I.ok.glob];exact I.mod.glob.keeps I.bk) hm h) hd
theorem ld_blt {E : Value -> Shared -> Prop} {pins : List (Addr × Obj)} {s : Shared} {σ : St} {H : Hp} {x : Str} {u : Value} {pos : Pos} {Q : Value -> Shared -> Prop} (I : Inv X pins σ H s) (hg : Gl X x) (hm : X.mg x = none) (hv : bootBuiltins x = some u) (h : Q u s)
 (hn:x ≠ "__name__" :=by decide) (hd:(x==("__debug__" : Str))=false:=by decide):wpAny (model X.prog X.w) X.A (eval (.Name x pos) X.env) Q E s:=by
 obtain ⟨mb,h1,h2⟩:=I.mod.blt;exact Calls.Name_function_global I.ok.kind hg (Calls.loadGlobal_builtin (by rw [I.ok.glob];exact I.mod.glob.keeps I.bk) hm (by rw [I.ok.blt];exact h1.keeps I.bk) ((h2 x hn).trans hv) h) hd
theorem pe_glob {x:Str} {v:V} {u:Value} {pos:Pos} (hg:Gl X x) (hm:X.mg x=some u) (r:RelV v u) (hd:(x==("__debug__" : Str))=false:=by decide):PE X (.Name x pos) (tC v) :=
 fun _ _ _ H _ I h=>ld_glob I hg hm ⟨v,H,I,r,h⟩ hd
theorem pe_bltn {x:Str} {v:V} {u:Value} {pos:Pos} (hg:Gl X x) (hm:X.mg x=none) (hv:bootBuiltins x=some u) (r:RelV v u) (hn:x ≠ "__name__" :=by decide) (hd:(x==("__debug__" : Str))=false:=by decide):PE X (.Name x pos) (tC v) :=
 fun _ _ _ H _ I h=>ld_blt I hg hm hv ⟨v,H,I,r,h⟩ hn hd
variable {a b:Expr} {ta tb:TE} {pos:Pos}
def PC(X:Cx)(op:CmpOp)(a b:Expr)(t:TE):Prop:=
 ∀(pins:List (Addr×Obj)) (s:Shared) (σ:St) (H:Hp) (Q:VK),Inv X pins σ H s->t σ H Q ->
   wpAny (model X.prog X.w) X.A (eval a X.env) (fun v s₁=>wpAny (model X.prog X.w) X.A (eval b X.env) (fun u s₂=>wpAny (model X.prog X.w) X.A (compareOp op v u) (EP X pins σ Q) X.xe s₂) X.xe s₁) X.xe s
theorem nobehind(b:Expr){op:CmpOp}(h:op ≠ .In)(h2:op ≠ .NotIn):behindInMarks op b=false:=by
 have e1:(op==CmpOp.In)=false:=by cases op <;> first | rfl | exact absurd rfl h
 have e2:(op==CmpOp.NotIn)=false:=by cases op <;> first | rfl | exact absurd rfl h2
 cases b <;> simp [behindInMarks,e1,e2]
def tB(t:TE):TT:=fun σ H Q=>t σ H fun x H1=>∃c,x = .bl c/\Q c H1
theorem pt_cmp{op:CmpOp}{t:TE}(h:PC X op a b t)(h1:behindInMarks op b=false:=by first | exact nobehind _ (by decide) (by decide) | rfl):PT X (.Compare a [op] [b] pos) (tB t):=by
 intro pins s σ H Q I hw;refine wpAny_isTrue_Compare1 (thn (h pins s σ H _ I hw) fun v s1 h1=>thn h1 fun u s2 h2=>thn h2 fun c s3 ⟨x,H1,I1,r1,q1⟩ => ?_) h1;obtain ⟨d,rfl,q⟩:=q1
 cases r1
 exact wpAny_truthy_bool ⟨H1,I1,q⟩
theorem pt_val{e:Expr}{t:TE}(h:PE X e t)(he:∀whole,isTrue e X.env whole=(do let v <-whole;standAt e.pos;holding [v] (truthy v)):=by intro _;rfl):PT X e (tB t):=by
 intro pins s σ H Q I hw;refine isTrue_plain (thn (h pins s σ H _ I hw) fun v s1 ⟨x,H1,I1,r1,q1⟩ => ?_) (he _);obtain ⟨d,rfl,q⟩:=q1
 cases r1
 exact wpAny_truthy_bool ⟨H1,I1,q⟩
variable {tA tB':TT} {rest:List Expr}
def tAnd(t u:TT):TT:=fun σ H Q=>t σ H fun c H1=>if c=true then u σ H1 Q else Q false H1
def tOr(t u:TT):TT:=fun σ H Q=>t σ H fun c H1=>if c=true then Q true H1 else u σ H1 Q
def tNot(t:TT):TT:=fun σ H Q=>t σ H fun c H1=>Q (!c) H1
theorem pw_and1(ha:PT X a tA):PW X (.BoolOp .And [a] pos) tA:=by
 intro wh pins s σ H Q I h;refine isTrue_and (thn (ha pins s σ H Q I h) fun c s1 e=> ?_)
 cases c with
 | true=>exact isTrue_and_nil e
 | false=>exact e
theorem pw_or1(ha:PT X a tA):PW X (.BoolOp .Or [a] pos) tA:=by
 intro wh pins s σ H Q I h;refine isTrue_or (thn (ha pins s σ H Q I h) fun c s1 e=> ?_)
 cases c with
 | false=>exact isTrue_or_nil e
 | true=>exact e
theorem pw_and(ha:PT X a tA)(hb:PW X (.BoolOp .And (b::rest) pos) tB'):PW X (.BoolOp .And (a::b::rest) pos) (tAnd tA tB'):=by
 intro wh pins s σ H Q I h;refine isTrue_and (thn (ha pins s σ H _ I h) fun c s1 ⟨H1,I1,q1⟩ => ?_)
 cases c with
 | true=>exact hb wh pins s1 σ H1 Q I1 q1
 | false=>exact ⟨H1,I1,q1⟩
theorem pw_or(ha:PT X a tA)(hb:PW X (.BoolOp .Or (b::rest) pos) tB'):PW X (.BoolOp .Or (a::b::rest) pos) (tOr tA tB'):=by
 intro wh pins s σ H Q I h;refine isTrue_or (thn (ha pins s σ H _ I h) fun c s1 ⟨H1,I1,q1⟩ => ?_)
 cases c with
 | true=>exact ⟨H1,I1,q1⟩
 | false=>exact hb wh pins s1 σ H1 Q I1 q1
theorem pt_not(ha:PT X a tA):PT X (.UnaryOp .Not a pos) (tNot tA):=by
 intro pins s σ H Q I h;exact isTrue_not (ha pins s σ H (fun c H1=>Q (!c) H1) I h)
def tAndV(ta tb:TE):TE:=fun σ H Q=>ta σ H fun x H1=>∃c,x = .bl c/\if c=true then tb σ H1 Q else Q (.bl false) H1
def tNotV(ta:TE):TE:=fun σ H Q=>ta σ H fun x H1=>∃c,x = .bl c/\Q (.bl (!c)) H1
theorem pe_one{op}{t:TE}(h:PE X a t):PE X (.BoolOp op [a] pos) t:=fun pins s σ H Q I hw=>BoolOp_one (h pins s σ H Q I hw)
theorem pe_and(ha:PE X a ta)(hb:PE X (.BoolOp .And (b::rest) pos) tb):PE X (.BoolOp .And (a::b::rest) pos) (tAndV ta tb):=by
 intro pins s σ H Q I h;refine BoolOp_and (thn (ha pins s σ H _ I h) fun v s1 ⟨x,H1,I1,r1,q1⟩ => ?_);obtain ⟨c,rfl,q1⟩:=q1
 cases r1
 refine wpAny_truthy_bool ?_
 cases c with
 | true=>exact hb pins s1 σ H1 Q I1 q1
 | false=>exact ⟨.bl false,H1,I1,rfl,q1⟩
theorem pe_not(ha:PE X a ta):PE X (.UnaryOp .Not a pos) (tNotV ta):=by
 intro pins s σ H Q I h;refine UnaryOp_ (thn (ha pins s σ H _ I h) fun v s1 ⟨x,H1,I1,r1,q1⟩ => ?_);obtain ⟨c,rfl,q1⟩:=q1
 cases r1
 exact not_of (wpAny_truthy_bool ⟨.bl (!c),H1,I1,rfl,q1⟩)
end
end L2
namespace L2
open PySem PySem.Spec PyProof.Rows
def SqL(K:PySem.W.Frag)(H:Hp)(a:Addr)(xs:List V):Prop:=
 Rd H a (.lst xs) \/
  ∃(o:Obj) (its:Array Value) (n:Nat),K.lookup a=some o/\o.cls = .type "list" /\ o.dict=none/\o.data = .seq its n/\its.size<=sizeLine/\Vals xs its.toList
def SqT(K:PySem.W.Frag)(H:Hp)(a:Addr)(xs:List V):Prop:=
 Rd H a (.tup xs) \/
  ∃(o:Obj) (its:Array Value) (n:Nat),K.lookup a=some o/\o.cls = .type "tuple" /\ o.data = .seq its n/\its.size<=sizeLine/\Vals xs its.toList
def absV:Value->Option V
 | .none=>some .non
 | .bool b=>some (.bl b)
 | .int i _=>some (.int i)
 | .str x _=>some (.str x)
 | .bytes b _=>some (.byt b)
 | .float b _=>some (.flt b)
 | .ref a=>some (.ref a)
 | .type n=>some (.ty n)
 | _=>none
theorem RelV.abs{x:V}{u:Value}(r:RelV x u):absV u=some x:=by
 cases x with
 | non=>cases r;rfl
 | bl _=>cases r;rfl
 | int _=>obtain ⟨t,rfl⟩:=r;rfl
 | str _=>obtain ⟨t,rfl⟩:=r;rfl
 | byt _=>obtain ⟨t,rfl⟩:=r;rfl
 | flt _=>obtain ⟨t,rfl⟩:=r;rfl
 | ref _=>cases r;rfl
 | ty _=>cases r;rfl
theorem RelV.inj{x y:V}{u:Value}(r:RelV x u)(q:RelV y u):x=y:=Option.some.inj (r.abs.symm.trans q.abs)
theorem Vals.inj:∀ {xs ys:List V} {us:List Value},Vals xs us->Vals ys us->xs=ys
 | _,_,_, .nil, .nil=>rfl
 | _,_,_, .cons r t, .cons r' t'=>by rw [r.inj r',Vals.inj t t']
section
variable {X:Cx} {pins:List (Addr×Obj)} {σ:St} {H:Hp} {s:Shared} {a:Addr} {xs ys:List V}
theorem SqL.of{K:PySem.W.Frag}(h:H a=some (.lst xs)):SqL K H a xs:= .inl (.inl h)
theorem SqT.of{K:PySem.W.Frag}(h:H a=some (.tup xs)):SqT K H a xs:= .inl (.inl h)
theorem Inv.list(I:Inv X pins σ H s)(h:SqL X.K H a xs):∃its:List Value,Vals xs its/\PlainL s.heap a its.toArray/\xs.length<=sizeLine:=by
 rcases h with h | ⟨o,its,n,hk,hc,hd,hs,hz,r⟩
 . obtain ⟨z,its,n,r,e⟩:=h.ok I.hok;exact ⟨its,r,⟨_,n,e,rfl,rfl,rfl⟩,z⟩
 . refine ⟨its.toList,r,⟨o,n,I.kIn a o hk,hc,hd,by simpa using hs⟩,?_⟩;have e:=r.length;simp only [Array.length_toList] at e
   omega
theorem Inv.tuple(I:Inv X pins σ H s)(h:SqT X.K H a xs):∃its:List Value,Vals xs its/\IsTup s.heap a its.toArray/\xs.length<=sizeLine:=by
 rcases h with h | ⟨o,its,n,hk,hc,hs,hz,r⟩
 . obtain ⟨z,its,r,p⟩:=h.ok I.hok;exact ⟨its,r,p,z⟩
 . refine ⟨its.toList,r,⟨o,I.kIn a o hk,hc,n,by simpa using hs⟩,?_⟩;have e:=r.length;simp only [Array.length_toList] at e
   omega
theorem Inv.list_inj(I:Inv X pins σ H s)(h:SqL X.K H a xs)(h':SqL X.K H a ys):xs=ys:=by
 obtain ⟨its,r,⟨o,n,e,_,_,d⟩,_⟩:=I.list h;obtain ⟨its',r',⟨o',n',e',_,_,d'⟩,_⟩:=I.list h';rw [e] at e';cases e'
 rw [d] at d'
 injection d' with d1 _
 have:its=its':=by simpa using congrArg Array.toList d1
 subst this;exact r.inj r'
theorem Inv.tuple_inj(I:Inv X pins σ H s)(h:SqT X.K H a xs)(h':SqT X.K H a ys):xs=ys:=by
 obtain ⟨its,r,⟨o,e,_,n,d⟩,_⟩:=I.tuple h;obtain ⟨its',r',⟨o',e',_,n',d'⟩,_⟩:=I.tuple h';rw [e] at e';cases e'
 rw [d] at d'
 injection d' with d1 _
 have:its=its':=by simpa using congrArg Array.toList d1
 subst this;exact r.inj r'
end
abbrev Cx.wish (X:Cx) (E:Value->Shared->Prop):Cx:={ X with xe:=E}
abbrev Cx.nox (X:Cx):Cx:=X.wish fun _ _=>False
theorem Cx.Ok.wish{X:Cx}(ok:X.Ok)(E:Value->Shared->Prop):(X.wish E).Ok:=
 ⟨ok.mod,ok.kind,ok.glob,ok.blt,ok.above,ok.inj,ok.has,ok.cab,ok.hd,ok.frames,ok.stk,ok.exf,ok.bs,ok.bsz,ok.noex,ok.exfs,ok.funs,ok.frf,ok.tb⟩
theorem Cx.Ok.unwish{X:Cx}{E:Value->Shared->Prop}(ok:(X.wish E).Ok):X.Ok:=
 ⟨ok.mod,ok.kind,ok.glob,ok.blt,ok.above,ok.inj,ok.has,ok.cab,ok.hd,ok.frames,ok.stk,ok.exf,ok.bs,ok.bsz,ok.noex,ok.exfs,ok.funs,ok.frf,ok.tb⟩
section
variable {X:Cx} {pins:List (Addr×Obj)} {σ:St} {H:Hp} {s:Shared} {E:Value->Shared->Prop}
theorem Inv.wish(I:Inv X pins σ H s)(E:Value->Shared->Prop):Inv (X.wish E) pins σ H s:=⟨I.ok.wish E,I.os,I.bare,I.base,I.loc,I.cell,I.free,I.freeC,I.pin,I.hok,I.len⟩
theorem Inv.unwish(I:Inv (X.wish E) pins σ H s):Inv X pins σ H s:=⟨I.ok.unwish,I.os,I.bare,I.base,I.loc,I.cell,I.free,I.freeC,I.pin,I.hok,I.len⟩
theorem SP.unwish{D:Ends}{f:Flow}{s':Shared}(h:SP (X.wish E) pins D f s'):SP X pins D f s':=by
 cases f with
 | next=>obtain ⟨σ',H',I,q⟩:=h;exact ⟨σ',H',I.unwish,q⟩
 | brk=>obtain ⟨σ',H',I,q⟩:=h;exact ⟨σ',H',I.unwish,q⟩
 | cont=>obtain ⟨σ',H',I,q⟩:=h;exact ⟨σ',H',I.unwish,q⟩
 | ret u=>obtain ⟨v,σ',H',I,r,q⟩:=h;exact ⟨v,σ',H',I.unwish,r,q⟩
theorem PSs.nox{st:List Stmt}{t:TS}(h:PSs X.nox st t):PSs X st t:=fun pins s σ H D I hw=>
 wpAny_mono (h pins s σ H D (I.wish _) hw) (fun _ _ q=>q.unwish) fun _ _ z=>False.elim z
end
section
variable {X:Cx} {st:Stmt} {rest:List Stmt} {t u:TS} {e:Expr} {te:TE} {pos:Pos}
def tNext:TS:=fun D σ H=>D.nx σ H
def tSeq(t u:TS):TS:=fun D σ H=>t { D with nx:=u D} σ H
theorem pss_nil:PSs X [] tNext:=fun _ _ σ H _ I h=>wpAny_execs_nil ⟨σ,H,I,h⟩
theorem pss_cons(h1:PS X st t)(h2:PSs X rest u):PSs X (st::rest) (tSeq t u):=by
 intro pins s σ H D I h;refine wpAny_execs_cons (thn (h1 pins s σ H { D with nx:=u D} I h) fun f s1 q=> ?_)
 cases f with
 | next=>
  obtain ⟨σ',H',I',q⟩:=q
  exact h2 pins s1 σ' H' D I' q
 | ret v=>exact q
 | brk=>exact q
 | cont=>exact q
theorem pss_one(h1:PS X st t):PSs X [st] t:=by
 intro pins s σ H D I h;refine wpAny_execs_cons (thn (h1 pins s σ H D I h) fun f s1 q=> ?_)
 cases f with
 | next=>exact wpAny_execs_nil q
 | ret v=>exact q
 | brk=>exact q
 | cont=>exact q
theorem Inv.quiet{pins:List (Addr×Obj)}{σ:St}{H:Hp}{s:Shared}(I:Inv X pins σ H s):interactive X.env=false:=by simp [interactive,I.ok.kind]
def tDrop(te:TE):TS:=fun D σ H=>te σ H fun _ H1=>D.nx σ H1
theorem ps_expr(he:PE X e te)(hs:swapsWith e none pos.line X.env=pure false:=by rfl):PS X (.Expr e pos) (tDrop te):=by
 intro pins s σ H D I h;exact wpAny_Expr_any (thn (he pins s σ H _ I h) fun v s1 ⟨x,H1,I1,r1,q1⟩=>⟨σ,H1,I1,q1⟩) I.quiet hs
def tRet(te:TE):TS:=fun D σ H=>te σ H D.rt
theorem ps_ret(he:PE X e te):PS X (.Return (some e) pos) (tRet te):=by
 intro pins s σ H D I h;exact wpAny_Return_some (thn (he pins s σ H _ I h) fun v s1 ⟨x,H1,I1,r1,q1⟩=>⟨x,σ,H1,I1,r1,q1⟩)
def tIfS(c:TT)(t u:TS):TS:=fun D σ H=>c σ H fun b H1=>if b=true then t D σ H1 else u D σ H1
theorem ps_if{c:Expr}{a b:List Stmt}{tc:TT}(hc:PT X c tc)(ha:PSs X a t)(hb:PSs X b u):PS X (.If c a b pos) (tIfS tc t u):=by
 intro pins s σ H D I h;refine wpAny_If (thn (hc pins s σ H _ I h) fun d s1 ⟨H1,I1,q1⟩ => ?_)
 cases d with
 | true=>exact ha pins s1 σ H1 D I1 q1
 | false=>exact hb pins s1 σ H1 D I1 q1
end
abbrev TG:=V->St->Hp->(St->Hp->Prop)->Prop
abbrev TGs:=List V->St->Hp->(St->Hp->Prop)->Prop
def PG(X:Cx)(target:Expr)(t:TG):Prop:=
 ∀(pins:List (Addr×Obj)) (s:Shared) (σ:St) (H:Hp) (v:V) (u:Value) (Q:St->Hp->Prop),Inv X pins σ H s->RelV v u->t v σ H Q ->
   wpAny (model X.prog X.w) X.A (assign target X.env u) (fun _ s'=>∃σ' H',Inv X pins σ' H' s'/\Q σ' H') X.xe s
def PGs(X:Cx)(ts:List Expr)(t:TGs):Prop:=
 ∀(pins:List (Addr×Obj)) (s:Shared) (σ:St) (H:Hp) (vs:List V) (us:List Value) (Q:St->Hp->Prop),Inv X pins σ H s->Vals vs us->t vs σ H Q ->
   wpAny (model X.prog X.w) X.A (assignInOrder ((assignEach ts X.env).map (·.2)) us) (fun _ s'=>∃σ' H',Inv X pins σ' H' s'/\Q σ' H') X.xe s
section
variable {X:Cx} {pos:Pos}
def gName(i:Nat):TG:=fun v σ H Q=>Q (σ.set i (some v)) H
theorem pg_name{i:Nat}{x:Str}(hN:X.N.Nodup)(hi:X.N[i]? = some x)(hx:Loc X.env.scope x)(hf:X.fn x=true\/X.env.scope.names.lookup x=some .local:=by first | exact .inl rfl | exact .inr rfl | assumption):PG X (.Name x pos) (gName i):=by
 intro pins s σ H v u Q I r h;exact wpAny_assign_Name (store_ok I hN hi hx r (fun s' I'=>⟨_,H,I',h⟩) hf)
def gNil:TGs:=fun vs σ H Q=>vs = []/\Q σ H
def gCons(t:TG)(u:TGs):TGs:=fun vs σ H Q=>∃v r,vs=v::r/\t v σ H fun σ' H'=>u r σ' H' Q
theorem pgs_nil:PGs X [] gNil:=by
 intro pins s σ H vs us Q I r h;obtain ⟨e,h⟩:=h;subst e
 cases r
 exact assignInOrder_nil ⟨σ,H,I,h⟩
theorem pgs_cons {e : Expr} {es : List Expr} {t : TG} {u : TGs} (h1 : PG X e t) (h2 : PGs X es u)
 (hs:(assignEach (e::es) X.env).map (·.2)=assign e X.env::(assignEach es X.env).map (·.2):=by rfl):PGs X (e::es) (gCons t u):=by
 intro pins s σ H vs us Q I r h;obtain ⟨v,vr,e1,h⟩:=h;subst e1
 cases r with
 | cons r rr=>
  rw [hs];refine assignInOrder_cons (thn (h1 pins s σ H _ _ _ I r h) fun _ s1 ⟨σ1,H1,I1,q1⟩ => ?_);exact h2 pins s1 σ1 H1 _ _ Q I1 rr q1
def gTup(K:PySem.W.Frag)(n:Nat)(t:TGs):TG:=fun v σ H Q=>∃a xs,v = .ref a/\SqT K H a xs/\xs.length=n/\t xs σ H Q
theorem pg_tup {es : List Expr} {k : Nat} {t : TGs} {n : Nat} (hc : X.calm = true) (h : PGs X es t)
 (hn:(assignEach es X.env).length=n:=by rfl) (hst:(assignEach es X.env).findIdx? (·.1)=none:=by rfl):PG X (.Tuple es k pos) (gTup X.K n t):=by
 intro pins s σ H v u Q I r hw;obtain ⟨a,xs,e1,hq,hl,hw⟩:=hw;subst e1
 cases r
 obtain ⟨its,rv,ht,hz⟩:=I.tuple hq;refine assign_Tuple_tuple (I.ok.hd hc) ht (by simp [hn, <-hl,rv.length]) hst fun h' hx=> ?_;have I1:Inv X pins σ H {s with heap:=h' }:=I.kept (t':=s.toks) fun b o e=>hx b o (Nat.ne_of_lt (Heap.lt_size e)) e;exact h pins _ σ H xs _ Q I1 (by simpa using rv) hw
def tAsg(te:TE)(g:TG):TS:=fun D σ H=>te σ H fun x H1=>g x σ H1 D.nx
theorem ps_asg {tg e : Expr} {te : TE} {g : TG} (he : PE X e te) (hg : PG X tg g) (hs : swapsWithSole [tg] e pos.line X.env = pure false := by rfl) (hw : swappedStores [tg] e X.env = pure none := by rfl)
 (h1:(assignEach [tg] X.env).map (·.2) = [assign tg X.env]:=by rfl):PS X (.Assign [tg] e pos) (tAsg te g):=by
 intro pins s σ H D I h;refine wpAny_Assign_stores (thn (he pins s σ H _ I h) fun v s1 ⟨x,H1,I1,r1,q1⟩ => ?_) hs hw;rw [h1];exact thn (hg pins s1 σ H1 x v _ I1 r1 q1) fun _ s2 q=>q
theorem ps_set {i : Nat} {x : Str} {e : Expr} {te : TE} {pos' : Pos} (hN : X.N.Nodup) (hi : X.N[i]? = some x) (hx : Loc X.env.scope x) (he : PE X e te) (hs : swapsWith e (some (.Name x pos')) pos.line X.env = pure false := by rfl) (hf : X.fn x = true \/ X.env.scope.names.lookup x = some .local := by first | exact .inl rfl | exact .inr rfl | assumption) :
 PS X (.Assign [.Name x pos'] e pos) (tAsg te (gName i)):=by
 intro pins s σ H D I h;refine wpAny_Assign_Name (thn (he pins s σ H _ I h) fun v s1 ⟨y,H1,I1,r1,q1⟩ => ?_) hs;exact store_ok I1 hN hi hx r1 (fun s2 I2=>⟨_,H1,I2,q1⟩) hf
end
section
variable {X:Cx} {pos:Pos}
def tWhile(c:TT)(tb:TS):TS:=fun D σ H=>∃W:Nat->St->Hp->Prop,(∃m,W m σ H)/\∀m σ H,W m σ H ->
 c σ H fun b H1=>if b=true then ∃N:St->Hp->Prop,(∀σ' H',N σ' H'->∃m',m'<m/\W m' σ' H')/\tb { D with nx:=N,ct:=N,bk:=D.nx} σ H1 else D.nx σ H1
theorem ps_while{c:Expr}{body:List Stmt}{tc:TT}{tb:TS}(hp:PassesOwn (model X.prog X.w) X.A X.env X.xe)(hc:PT X c tc)(hb:PSs X body tb):PS X (.While c body [] pos) (tWhile tc tb):=by
 intro pins s σ H D I h;obtain ⟨W,⟨m0,w0⟩,turn⟩:=h;refine wpAny_While (codeAny_whileLoop (fun n s'=>∃σ' H',Inv X pins σ' H' s'/\W n σ' H') ?_ m0 ⟨σ,H,I,w0⟩);rintro n s1 ⟨σ1,H1,I1,w1⟩;refine wpAny_passesOwn hp (thn (hc pins s1 σ1 H1 _ I1 (turn n σ1 H1 w1)) fun b s2 ⟨H2,I2,q2⟩ => ?_)
 cases b with
 | true=>
  obtain ⟨N,hN,q2⟩:=q2;rw [if_pos rfl];refine wpAny_passesOwn hp (thn (hb pins s2 σ1 H2 _ I2 q2) fun f s3 q3=> ?_)
  cases f with
  | next=>
   obtain ⟨σ3,H3,I3,n3⟩:=q3;obtain ⟨m',hm,w3⟩:=hN σ3 H3 n3
   exact ⟨m',hm,σ3,H3,I3,w3⟩
  | cont=>
   obtain ⟨σ3,H3,I3,n3⟩:=q3;obtain ⟨m',hm,w3⟩:=hN σ3 H3 n3
   exact ⟨m',hm,σ3,H3,I3,w3⟩
  | brk=>exact q3
  | ret v=>exact q3
 | false=>
  rw [if_neg Bool.false_ne_true];exact wpAny_execs_nil ⟨σ1,H2,I2,q2⟩
end
structure It where
 go:Nat->Hp->Prop
 yld:Nat->Hp->V->Hp->Prop
 stop:Nat->Hp->Prop
def FpOk(X:Cx)(pins:List (Addr×Obj))(H:Hp)(b:Addr):Prop:=
 H b=none/\b≠X.env.locals/\b ∉ X.fs/\(b ∈ X.ex\/X.s₀.heap.objs.size<=b)/\(∀x c,X.env.cells.lookup x=some c->c≠b)/\∀p ∈ X.pn++pins,p.1≠b
theorem Inv.fpOk{X:Cx}{pins:List (Addr×Obj)}{σ:St}{H H':Hp}{s:Shared}{b:Addr}(I:Inv X pins σ H s)(hb:s.heap.objs.size<=b)(hn:H' b=none):FpOk X pins H' b:=by
 refine ⟨hn,Nat.ne_of_gt (Nat.lt_of_lt_of_le I.lt hb),I.nofs hb, .inr (Nat.le_trans I.sz hb),fun x c e z=> ?_,fun p hp z=> ?_⟩
 . obtain ⟨v,q⟩:=I.cell x c e;exact absurd (Nat.lt_of_lt_of_le q.lt (by rw [z];exact hb)) (Nat.lt_irrefl _)
 . exact absurd (Nat.lt_of_lt_of_le (Heap.lt_size (I.pin p hp).1) (by rw [z];exact hb)) (Nat.lt_irrefl _)
structure Turn (P:Program) (w:World) (K:PySem.W.Frag) (tg:Expr) (J:It) (fp:List Addr) (it:Addr) (tn:Nat->Heap->Prop):Prop where
 mem:it ∈ fp
 obj:∀i h,tn i h->∀b ∈ fp,∃o,h.get? b=some o/\∀v,o.data ≠ .cell v
 keep:∀i h h',tn i h->(∀b ∈ fp,∀o,h.get? b=some o->h'.get? b=some o)->tn i h'
 item:∀(X:Cx),X.prog=P->X.w=w->X.K=K->X.calm=true->∀(i:Nat) (pins:List (Addr×Obj)) (s:Shared) (σ:St) (H:Hp) (E:Value->Shared->Prop),Inv X pins σ H s->(∀b ∈ fp,FpOk X pins H b)->tn i s.heap->J.go i H ->
  wpAny (model P w) X.A (pyNext (.ref it)) (fun r s1=>∃u,r=some u /\
   wpAny (model P w) X.A (letOwnedTupleGo tg (.ref it) u) (fun _ s2=>∃x H',Inv X pins σ H' s2/\RelV x u/\J.yld i H x H'/\tn (i+1) s2.heap/\∀b ∈ fp,H' b=none) E s1) E s
 done:∀(X:Cx),X.prog=P->X.w=w->X.K=K->X.calm=true->∀(i:Nat) (pins:List (Addr×Obj)) (s:Shared) (σ:St) (H:Hp) (E:Value->Shared->Prop),Inv X pins σ H s->(∀b ∈ fp,FpOk X pins H b)->tn i s.heap->J.stop i H ->
  wpAny (model P w) X.A (pyNext (.ref it)) (fun r s1=>r=none/\Inv X pins σ H s1) E s
 self:∀(A:Around) (i:Nat) (s:Shared) (Q:Value->Shared->Prop) (E:Value->Shared->Prop),tn i s.heap->Q (.ref it) s->wpAny (model P w) A (pyIter (.ref it)) Q E s
abbrev TI:=St->Hp->(It->Hp->Prop)->Prop
def PIE(X:Cx)(pins:List (Addr×Obj))(σ:St)(tg:Expr)(R:It->Hp->Prop)(itv:Value)(s2:Shared):Prop:=
 ∃(it:Addr) (fp:List Addr) (tn:Nat->Heap->Prop) (J:It) (H':Hp),itv = .ref it/\Inv X pins σ H' s2/\Turn X.prog X.w X.K tg J fp it tn/\tn 0 s2.heap/\(∀b ∈ fp,FpOk X pins H' b)/\R J H'
def PI(X:Cx)(tg iter:Expr)(wi:TI):Prop:=
 ∀(pins:List (Addr×Obj)) (s:Shared) (σ:St) (H:Hp) (R:It->Hp->Prop),Inv X pins σ H s->wi σ H R ->
   wpAny (model X.prog X.w) X.A (eval iter X.env) (fun v s1=>wpAny (model X.prog X.w) X.A (pyIter v) (PIE X pins σ tg R) X.xe s1) X.xe s
theorem go_of {M : Model} {A : Around} {E : Value -> Shared -> Prop} {s : Shared} {tg : Expr} {it : Addr} {u : Value} {o : Obj} {n : String} {vs : Array Value} {Q : Unit -> Shared -> Prop} (ho : s.heap.get? it = some o) (hc : o.cls = .type n) (hd : o.data = .fields vs)
 (hn : ["enumerate","zip","dict_itemiterator","dict_reverseitemiterator","odict_iterator","itertools.zip_longest","itertools.pairwise"].contains n=false) (hQ:Q () s):wpAny M A (letOwnedTupleGo tg (.ref it) u) Q E s:=by
 unfold letOwnedTupleGo
 cases tg <;> first
  | exact wpAny_pure hQ
  | (cases u <;> first
   | exact wpAny_pure hQ
   | (refine wpAny_bind (wpAny_load ho ?_)
      rw [hc,hd];show wpAny M A (if (["enumerate","zip","dict_itemiterator","dict_reverseitemiterator","odict_iterator","itertools.zip_longest","itertools.pairwise"].contains n && vs[0]? ==some (rawInt _))=true then _ else _) Q E s;rw [if_neg (by intro h;rw [hn,Bool.false_and] at h;cases h)];exact wpAny_pure hQ))
def Itl(K:PySem.W.Frag)(a:Addr):It:=
 ⟨fun i H=>∃xs x,SqL K H a xs/\xs[i]? = some x,fun i H x H'=>H'=H/\∀xs,SqL K H a xs->xs[i]? = some x,fun i H=>∃xs,SqL K H a xs/\xs.length<=i⟩
def Itt(K:PySem.W.Frag)(a:Addr):It:=
 ⟨fun i H=>∃xs x,SqT K H a xs/\xs[i]? = some x,fun i H x H'=>H'=H/\∀xs,SqT K H a xs->xs[i]? = some x,fun i H=>∃xs,SqT K H a xs/\xs.length<=i⟩
def Itr(lo:Int)(n:Nat):It:=⟨fun i _=>i<n,fun i H x H'=>H'=H/\x = .int (lo+i),fun i _=>n<=i⟩
theorem turn_list{P:Program}{w:World}{K:PySem.W.Frag}{tg:Expr}(a it:Addr):Turn P w K tg (Itl K a) [it] it (fun i h=>h.IsListIter it a i) where
 mem:=by simp
 obj:=fun i h st b hb=>by
  have e:b=it:=by simpa using hb
  subst e;obtain ⟨o,e,c,d⟩:=st;exact ⟨o,e,fun v z=>by rw [d] at z;cases z⟩
 keep:=fun i h h' st k=>st.at fun o e=>k it (by simp) o e
 item:=by
  intro X hP hw hK hc i pins s σ H E I hf st hg;subst hP hw hK;obtain ⟨xs,x,hq,hx⟩:=hg;obtain ⟨its,rv,p,hz⟩:=I.list hq;obtain ⟨u,hu,ru⟩:=rv.get hx;obtain ⟨f0,f1,f2,f3,f4,f5⟩:=hf it (by simp);refine wpAny_pyNext_list_item st p.isList (x:=u) (by simpa using hu) fun h' st' sb=> ?_;have I1:Inv X pins σ H {s with heap:=h' }:=I.turned (t':=s.toks) (fun b o hb e=>(sb.2 b hb).trans e) f0 f1 f3 f4 f5;obtain ⟨o,e,c,d⟩:=id st';exact ⟨u,rfl,go_of (s:={s with heap:=h' }) e c d (by decide) ⟨x,H,I1,ru,⟨rfl,fun ys hy=>by rw [I.list_inj hy hq];exact hx⟩,st',fun b hb=>(hf b hb).1⟩⟩
 done:=by
  intro X hP hw hK hc i pins s σ H E I hf st hg;subst hP hw hK;obtain ⟨xs,hq,hx⟩:=hg;obtain ⟨its,rv,p,hz⟩:=I.list hq;obtain ⟨f0,f1,f2,f3,f4,f5⟩:=hf it (by simp);have hl:=rv.length;exact wpAny_pyNext_list_end (I.ok.hd hc) st p.isList (by simp;omega) fun h' eb=>⟨rfl,I.turned (t':=s.toks) (fun b o hb e=>eb b o hb e) f0 f1 f3 f4 f5⟩
 self:=fun _ _ _ _ _ st h=>wpAny_pyIter_listiter st h
theorem turn_tuple{P:Program}{w:World}{K:PySem.W.Frag}{tg:Expr}(a it:Addr):Turn P w K tg (Itt K a) [it] it (fun i h=>h.IsTupleIter it a i) where
 mem:=by simp
 obj:=fun i h st b hb=>by
  have e:b=it:=by simpa using hb
  subst e;obtain ⟨o,e,c,d⟩:=st;exact ⟨o,e,fun v z=>by rw [d] at z;cases z⟩
 keep:=fun i h h' st k=>st.at fun o e=>k it (by simp) o e
 item:=by
  intro X hP hw hK hc i pins s σ H E I hf st hg;subst hP hw hK;obtain ⟨xs,x,hq,hx⟩:=hg;obtain ⟨its,rv,p,hz⟩:=I.tuple hq;obtain ⟨u,hu,ru⟩:=rv.get hx;obtain ⟨f0,f1,f2,f3,f4,f5⟩:=hf it (by simp);refine wpAny_pyNext_tuple_item st (show s.heap.IsTuple a its.toArray from p) (x:=u) (by simpa using hu) fun h' st' sb=> ?_;have I1:Inv X pins σ H {s with heap:=h' }:=I.turned (t':=s.toks) (fun b o hb e=>(sb.2 b hb).trans e) f0 f1 f3 f4 f5;obtain ⟨o,e,c,d⟩:=id st';exact ⟨u,rfl,go_of (s:={s with heap:=h' }) e c d (by decide) ⟨x,H,I1,ru,⟨rfl,fun ys hy=>by rw [I.tuple_inj hy hq];exact hx⟩,st',fun b hb=>(hf b hb).1⟩⟩
 done:=by
  intro X hP hw hK hc i pins s σ H E I hf st hg;subst hP hw hK;obtain ⟨xs,hq,hx⟩:=hg;obtain ⟨its,rv,p,hz⟩:=I.tuple hq;obtain ⟨f0,f1,f2,f3,f4,f5⟩:=hf it (by simp);have hl:=rv.length;exact wpAny_pyNext_tuple_end (I.ok.hd hc) st (show s.heap.IsTuple a its.toArray from p) (by simp;omega) fun h' eb=>⟨rfl,I.turned (t':=s.toks) (fun b o hb e=>eb b o hb e) f0 f1 f3 f4 f5⟩
 self:=fun _ _ _ _ _ st h=>wpAny_pyIter_tupleiter st h
theorem turn_range{P:Program}{w:World}{K:PySem.W.Frag}{tg:Expr}(it:Addr)(lo:Int)(n:Nat):Turn P w K tg (Itr lo n) [it] it (fun i h=>IsRangeIter h it (lo+(i:Nat)*1) ((n:Int) - (i:Nat)) 1) where
 mem:=by simp
 obj:=fun i h st b hb=>by
  have e:b=it:=by simpa using hb
  subst e
  exact ⟨_,st,fun v z=>by
   have z':Data.fields _=Data.cell v:=z
   cases z'⟩
 keep:=fun i h h' st k=>k it (by simp) _ st
 item:=by
  intro X hP hw hK hc i pins s σ H E I hf st hg;subst hP hw hK;obtain ⟨f0,f1,f2,f3,f4,f5⟩:=hf it (by simp);have W:=Walks.range (prog:=X.prog) (w:=X.w) (I.ok.hd hc) it lo 1 n;refine W.item i s _ _ hg st fun v h' tk hv st' kk=> ?_;obtain ⟨t,rfl⟩:=hv;have I1:Inv X pins σ H {s with heap:=h',toks:=tk}:=I.turned (fun b o hb e=>kk b o (by simpa using hb) e) f0 f1 f3 f4 f5;refine ⟨_,rfl,go_of (s:={s with heap:=h',toks:=tk}) (n:= "range_iterator") st' rfl rfl (by decide) ⟨.int (lo+i),H,I1,⟨t,?_⟩,⟨rfl,rfl⟩,st',fun b hb=>(hf b hb).1⟩⟩;rw [Int.mul_one]
 done:=by
  intro X hP hw hK hc i pins s σ H E I hf st hg;subst hP hw hK;obtain ⟨f0,f1,f2,f3,f4,f5⟩:=hf it (by simp);exact wpAny_pyNext_range_end (I.ok.hd hc) st (by have:n<=i:=hg;omega) fun h' eb=>⟨rfl,I.turned (t':=s.toks) (fun b o hb e=>eb b o hb e) f0 f1 f3 f4 f5⟩
 self:=fun _ _ _ _ _ st h=>wpAny_pyIter_rangeiter st h
end L2
namespace L2
open PySem PySem.Spec PyProof.Rows
section
variable {X:Cx} {tg:Expr}
theorem range_it {pins : List (Addr × Obj)} {σ : St} {H : Hp} {s : Shared} {R : It -> Hp -> Prop} {E : Value -> Shared -> Prop} {lo hi : Int} {t u v : Tok} {tk : Nat} (I : Inv X pins σ H s) (h1 : -(2 ^ 62) <= lo) (h2 : lo < 2 ^ 62) (h3 : -(2 ^ 62) <= hi) (h4 : hi < 2 ^ 62)
 (q:R (Itr lo (hi - lo).toNat) H):wpAny (model X.prog X.w) X.A (pyIter (.ref s.heap.objs.size)) (PIE X pins σ tg R) E {s with heap:=s.heap.push {cls:= .type "range",data:= .fields #[.int lo t, .int hi u, .int 1 v]},toks:=tk}:=by
 refine wpAny_pyIter_range (IsRange.new ..) (small_one h1 h2 h3 h4) ?_;have I1:Inv X pins σ H {s with heap:=s.heap.push {cls:= .type "range",data:= .fields #[.int lo t, .int hi u, .int 1 v]},toks:=tk}:=I.kept fun b o e=>Heap.get?_push_of_some _ e
 refine ⟨(s.heap.push {cls:= .type "range",data:= .fields #[.int lo t, .int hi u, .int 1 v]}).objs.size,[(s.heap.push {cls:= .type "range",data:= .fields #[.int lo t, .int hi u, .int 1 v]}).objs.size],_,_,H,rfl,
  I1.kept (t':=tk) fun b o e=>Heap.get?_push_of_some _ e,turn_range _ lo (hi - lo).toNat,?_,fun b hb=> ?_,q⟩
 . have e1:lo+((0:Nat):Int)*1=lo:=by simp
   have e2:(((hi - lo).toNat:Nat):Int) - ((0:Nat):Int)=Builtin.Range.rangeSize lo hi 1:=by rw [rangeSize_one];split <;> omega
   show IsRangeIter _ _ (lo+((0:Nat):Int)*1) ((((hi - lo).toNat:Nat):Int) - ((0:Nat):Int)) 1;rw [e1,e2];exact Heap.get?_push_size _ rfl
 . have e:b=(s.heap.push {cls:= .type "range",data:= .fields #[.int lo t, .int hi u, .int 1 v]}).objs.size:=by simpa using hb
   subst e;exact I1.fpOk (Nat.le_refl _) (I1.hok.fresh (Nat.le_refl _))
def iRng1(ta:TA):TI:=fun σ H R=>ta σ H fun vs H1=>∃j:Int,vs = [.int j] /\ -(2 ^ 62)<=j/\j<2 ^ 62/\R (Itr 0 j.toNat) H1
def iRng2(ta:TA):TI:=fun σ H R=>ta σ H fun vs H1=>∃i j:Int,vs = [.int i, .int j]/\(-(2 ^ 62)<=i/\i<2 ^ 62 /\ -(2 ^ 62)<=j/\j<2 ^ 62)/\R (Itr i (j - i).toNat) H1
theorem pi_range1 {a:Expr} {ta:TA} {p pos:Pos} (hg:Gl X "range") (hm:X.mg "range" = none) (ha:PA X [a] ta) (hs:starEach [a] X.env = [(false,eval a X.env)]:=by rfl):PI X tg (.Call (.Name "range" p) [a] [] pos) (iRng1 ta):=by
 intro pins s σ H R I h;refine Call_ (ld_blt I hg hm boot_range (PyProof.Rows.callWith_type1 (thn (ha pos pins s σ H _ I h) fun us s1 ⟨vs,H1,I1,r1,q1⟩ => ?_) hs rfl));obtain ⟨j,e,q1,q2,q⟩:=q1;subst e
 cases r1 with
 | cons r rr=>
  cases rr
  obtain ⟨t,rfl⟩:=r;exact call_range_1 (range_it I1 (by omega) (by omega) q1 q2 (by simpa using q))
theorem pi_range2 {a b : Expr} {ta : TA} {p pos : Pos} (hg : Gl X "range") (hm : X.mg "range" = none) (ha : PA X [a, b] ta) (hs : starEach [a, b] X.env = [(false, eval a X.env), (false, eval b X.env)] := by rfl) (hs2 : starEach [b] X.env = [(false, eval b X.env)] := by rfl) :
 PI X tg (.Call (.Name "range" p) [a,b] [] pos) (iRng2 ta):=by
 intro pins s σ H R I h;refine Call_ (ld_blt I hg hm boot_range (PyProof.Rows.callWith_type1 (thn (ha pos pins s σ H _ I h) fun us s1 ⟨vs,H1,I1,r1,q1⟩ => ?_) (by rw [hs,hs2]) (by rw [hs2];rfl)));obtain ⟨i,j,e,⟨q1,q2,q3,q4⟩,q⟩:=q1;subst e
 cases r1 with
 | cons r rr=>
  cases rr with
  | cons r' rr=>
   cases rr
   obtain ⟨t,rfl⟩:=r;obtain ⟨t',rfl⟩:=r';exact call_range_2 (range_it I1 q1 q2 q3 q4 q)
def tFor(wi:TI)(g:TG)(tb:TS):TS:=fun D σ H=>wi σ H fun J H1=>∃W:Nat->Nat->St->Hp->Prop,(∃m,W 0 m σ H1)/\∀i m σ H,W i m σ H ->
 (J.stop i H/\D.nx σ H)\/(J.go i H/\∃N:St->Hp->Prop,(∀σ' H',N σ' H'->∃m',m'<m/\W (i+1) m' σ' H')/\∀x H',J.yld i H x H'->g x σ H' fun σ2 H2=>tb { D with nx:=N,ct:=N,bk:=D.nx} σ2 H2)
def pinsAt(fp:List Addr)(h:Heap):List (Addr×Obj):=fp.filterMap fun b=>(h.get? b).map fun o=>(b,o)
theorem mem_pinsAt{fp:List Addr}{h:Heap}{b:Addr}{o:Obj}(hb:b ∈ fp)(e:h.get? b=some o):(b,o) ∈ pinsAt fp h:=List.mem_filterMap.mpr ⟨b,hb,by rw [e];rfl⟩
theorem of_pinsAt{fp:List Addr}{h:Heap}{p:Addr×Obj}(hp:p ∈ pinsAt fp h):p.1 ∈ fp/\h.get? p.1=some p.2:=by
 obtain ⟨b,hb,e⟩:=List.mem_filterMap.mp hp
 cases q:h.get? b with
 | none=>rw [q] at e;cases e
 | some o=>
  rw [q] at e
  have e':(b,o)=p:=Option.some.inj e;subst e';exact ⟨hb,q⟩
theorem Inv.pinned{pins:List (Addr×Obj)}{σ:St}{H:Hp}{s:Shared}{fp:List Addr}(I:Inv X pins σ H s)(hf:∀b ∈ fp,FpOk X pins H b)(ho:∀b ∈ fp,∃o,s.heap.get? b=some o/\∀v,o.data ≠ .cell v):Inv X (pins++pinsAt fp s.heap) σ H s:=
 I.pins_of fun p hp=>(List.mem_append.mp hp).elim (fun z=>I.pin p (List.mem_append_right _ z)) fun z=>by
  obtain ⟨hb,e⟩:=of_pinsAt z;obtain ⟨f0,f1,f2,_⟩:=hf p.1 hb;obtain ⟨o,e',d⟩:=ho p.1 hb;rw [e] at e';cases e'
  exact ⟨e,f0,f1,f2,d⟩
theorem Inv.unpinned{pins pl:List (Addr×Obj)}{σ:St}{H:Hp}{s:Shared}(I:Inv X (pins++pl) σ H s):Inv X pins σ H s:=I.pins_of fun p hp=>I.pin p (List.mem_append_right _ (List.mem_append_left _ hp))
theorem ps_for {iter : Expr} {body : List Stmt} {wi : TI} {g : TG} {tb : TS} {pos : Pos} (hp : PassesOwn (model X.prog X.w) X.A X.env X.xe) (hc : X.calm = true) (hi : PI X tg iter wi) (hg : PG X tg g) (hb : PSs X body tb)
 (hs:∀x,foldedSetIterable iter X.env x=pure x:=by intro _;rfl):PS X (.For tg iter body [] pos) (tFor wi g tb):=by
 intro pins s σ H D I h;refine wpAny_For (thn (hi pins s σ H _ I h) fun v s1 h1=>thn h1 fun itv s2 h2=> ?_) hs;obtain ⟨it,fp,tn,J,H2,e,I2,T,st2,f2,W,⟨m0,w0⟩,turn⟩:=h2;subst e;have stat:∀ {H':Hp},(∀b ∈ fp,H' b=none)->∀b ∈ fp,FpOk X pins H' b:=fun hn b hb=>⟨hn b hb,(f2 b hb).2⟩;refine codeAny_forLoop_any (fun n s'=>∃i σ' H',Inv X pins σ' H' s'/\tn i s'.heap/\(∀b ∈ fp,H' b=none)/\W i n σ' H') ?_ m0 ⟨0,σ,H2,I2,st2,fun b hb=>(f2 b hb).1,w0⟩;rintro n s3 ⟨i,σ3,H3,I3,st3,fr3,w3⟩;rcases turn i n σ3 H3 w3 with ⟨stop,qn⟩ | ⟨go,N,hN,step⟩
 . refine wpAny_passesOwn hp (thn (T.done X rfl rfl rfl hc i pins s3 σ3 H3 X.xe I3 (stat fr3) st3 stop) fun r s4 ⟨hr,I4⟩ => ?_);subst hr;exact wpAny_execs_nil ⟨σ3,H3,I4,qn⟩
 . refine wpAny_passesOwn hp (thn (T.item X rfl rfl rfl hc i pins s3 σ3 H3 X.xe I3 (stat fr3) st3 go) fun r s4 ⟨u,hr,h4⟩ => ?_);subst hr;refine wpAny_passesOwn hp (thn h4 fun _ s5 ⟨x,H5,I5,r5,y5,st5,fr5⟩ => ?_);have I5':=I5.pinned (stat fr5) (T.obj _ _ st5);refine wpAny_passesOwn hp (thn (hg _ s5 σ3 H5 x u _ I5' r5 (step x H5 y5)) fun _ s6 ⟨σ6,H6,I6,q6⟩ => ?_);refine wpAny_passesOwn hp (thn (hb _ s6 σ6 H6 _ I6 q6) fun f s7 q7=> ?_)
   have again:∀ {σ7:St} {H7:Hp},Inv X (pins++pinsAt fp s5.heap) σ7 H7 s7->N σ7 H7->∃m,m<n/\∃i σ' H',Inv X pins σ' H' s7/\tn i s7.heap/\(∀b ∈ fp,H' b=none)/\W i m σ' H':=fun {σ7 H7} I7 n7=>by
    obtain ⟨m',hm,w7⟩:=hN σ7 H7 n7;refine ⟨m',hm,i+1,σ7,H7,I7.unpinned,T.keep _ _ _ st5 fun b hb o e=>(I7.pin (b,o) (List.mem_append_right _ (List.mem_append_right _ (mem_pinsAt hb e)))).1,fun b hb=> ?_,w7⟩;obtain ⟨o,e,d⟩:=T.obj _ _ st5 b hb;exact (I7.pin (b,o) (List.mem_append_right _ (List.mem_append_right _ (mem_pinsAt hb e)))).2.1
   cases f with
   | next=>obtain ⟨σ7,H7,I7,n7⟩:=q7;exact again I7 n7
   | cont=>obtain ⟨σ7,H7,I7,n7⟩:=q7;exact again I7 n7
   | brk=>obtain ⟨σ7,H7,I7,q7⟩:=q7;exact ⟨σ7,H7,I7.unpinned,q7⟩
   | ret v=>obtain ⟨x7,σ7,H7,I7,r7,q7⟩:=q7;exact ⟨x7,σ7,H7,I7.unpinned,r7,q7⟩
end
end L2
namespace L2
open PySem PySem.Spec PyProof.Rows
abbrev R2:=V->V->Hp->VK->Prop
def OpR(X:Cx)(f:Value->Value->Sem Value)(r:R2):Prop:=
 ∀(pins:List (Addr×Obj)) (s:Shared) (σ:St) (H:Hp) (x y:V) (v u:Value) (Q:VK),Inv X pins σ H s->RelV x v->RelV y u->r x y H Q ->
   wpAny (model X.prog X.w) X.A (f v u) (EP X pins σ Q) X.xe s
def CallR(X:Cx)(f:Value)(r:List V->Hp->VK->Prop):Prop:=
 ∀(pins:List (Addr×Obj)) (s:Shared) (σ:St) (H:Hp) (xs:List V) (us:List Value) (Q:VK),Inv X pins σ H s->Vals xs us->r xs H Q ->
   wpAny (model X.prog X.w) X.A (call f us) (EP X pins σ Q) X.xe s
def tOp(r:R2)(ta tb:TE):TE:=fun σ H Q=>ta σ H fun x H1=>tb σ H1 fun y H2=>r x y H2 Q
def rI(C:Int->Int->Prop)(g:Int->Int->V):R2:=fun x y H Q=>∃i j,x = .int i/\y = .int j/\C i j/\Q (g i j) H
def rI0(g:Int->Int->V):R2:=fun x y H Q=>∃i j,x = .int i/\y = .int j/\Q (g i j) H
section
variable {X:Cx} {a b c:Expr} {ta tb tc:TE} {pos:Pos}
theorem binT (ha : PE X a ta) (hb : PE X b tb) {pins : List (Addr × Obj)} {s : Shared} {σ : St} {H : Hp} {R : V -> V -> Hp -> Prop} (I : Inv X pins σ H s)
 (h:ta σ H fun x H1=>tb σ H1 fun y H2=>R x y H2) {Q:Value->Shared->Prop} {f:Value->Value->Sem Value}
 (hf:∀v u s2 x y H2,Inv X pins σ H2 s2->RelV x v->RelV y u->R x y H2->wpAny (model X.prog X.w) X.A (f v u) Q X.xe s2) :
 wpAny (model X.prog X.w) X.A (eval a X.env) (fun v s₁=>wpAny (model X.prog X.w) X.A (eval b X.env) (fun u s₂=>wpAny (model X.prog X.w) X.A (f v u) Q X.xe s₂) X.xe s₁) X.xe s:=by
 refine thn (ha pins s σ H _ I h) fun v s1 ⟨x,H1,I1,r1,q1⟩ => ?_;refine thn (hb pins s1 σ H1 _ I1 q1) fun u s2 ⟨y,H2,I2,r2,q2⟩ => ?_;exact hf v u s2 x y H2 I2 r1 r2 q2
theorem pe_op{op:Operator}{r:R2}(ho:OpR X (binaryOp op) r)(ha:PE X a ta)(hb:PE X b tb):PE X (.BinOp a op b pos) (tOp r ta tb):=by
 intro pins s σ H Q I h;exact wpAny_BinOp (binT ha hb I h fun v u s2 x y H2 I2 rx ry q=>ho pins s2 σ H2 x y v u Q I2 rx ry q)
theorem opI {f : Value -> Value -> Sem Value} {C : Int -> Int -> Prop} {g : Int -> Int -> Int}
 (rule:∀(i j:Int) (t u:Tok) (s:Shared) (Q:Value->Shared->Prop) (E:Value->Shared->Prop),C i j->Q (.int (g i j) s.toks) {s with toks:=s.toks+1}->wpAny (model X.prog X.w) X.A (f (.int i t) (.int j u)) Q E s) :
 OpR X f (rI C fun i j=> .int (g i j)):=by
 intro pins s σ H x y v u Q I rx ry h;obtain ⟨i,j,rfl,rfl,hc,q⟩:=h;obtain ⟨t,rfl⟩:=rx;obtain ⟨t',rfl⟩:=ry;exact rule i j t t' s _ _ hc ⟨.int (g i j),H,I.tok _,⟨_,rfl⟩,q⟩
theorem opI0 {f : Value -> Value -> Sem Value} {g : Int -> Int -> Int}
 (rule:∀(i j:Int) (t u:Tok) (s:Shared) (Q:Value->Shared->Prop) (E:Value->Shared->Prop),Q (.int (g i j) s.toks) {s with toks:=s.toks+1}->wpAny (model X.prog X.w) X.A (f (.int i t) (.int j u)) Q E s) :
 OpR X f (rI0 fun i j=> .int (g i j)):=by
 intro pins s σ H x y v u Q I rx ry h;obtain ⟨i,j,rfl,rfl,q⟩:=h;obtain ⟨t,rfl⟩:=rx;obtain ⟨t',rfl⟩:=ry;exact rule i j t t' s _ _ ⟨.int (g i j),H,I.tok _,⟨_,rfl⟩,q⟩
theorem opB0 {f : Value -> Value -> Sem Value} {g : Int -> Int -> Bool}
 (rule:∀(i j:Int) (t u:Tok) (s:Shared) (Q:Value->Shared->Prop) (E:Value->Shared->Prop),Q (.bool (g i j)) s->wpAny (model X.prog X.w) X.A (f (.int i t) (.int j u)) Q E s) :
 OpR X f (rI0 fun i j=> .bl (g i j)):=by
 intro pins s σ H x y v u Q I rx ry h;obtain ⟨i,j,rfl,rfl,q⟩:=h;obtain ⟨t,rfl⟩:=rx;obtain ⟨t',rfl⟩:=ry;exact rule i j t t' s _ _ ⟨.bl (g i j),H,I,rfl,q⟩
def CMul(i j:Int):Prop:=(-(2 ^ 64)<i/\i<2 ^ 64)\/(-(2 ^ 64)<j/\j<2 ^ 64)
theorem CMul.ok{i j:Int}(h:CMul i j):IntMulOk i j:=by
 rcases h with ⟨h1,h2⟩ | ⟨h1,h2⟩
 . exact .of_left (intBits_le_64 h1 h2)
 . exact .of_right (intBits_le_64 h1 h2)
theorem op_add:OpR X (binaryOp .Add) (rI0 fun i j=> .int (i+j)):=opI0 fun _ _ _ _ _ _ _ q=>add_int q
theorem op_sub:OpR X (binaryOp .Sub) (rI0 fun i j=> .int (i - j)):=opI0 fun _ _ _ _ _ _ _ q=>sub_int q
theorem op_modN:OpR X (binaryOp .Mod) (rI (fun _ j=>j≠0) fun i j=> .int (i.fmod j)):=opI fun _ _ _ _ _ _ _ hc q=>mod_int' hc q
end
section
variable {X:Cx} {a b c:Expr} {ta tb tc:TE} {pos:Pos}
theorem fin_bl{pins:List (Addr×Obj)}{σ:St}{H:Hp}{s:Shared}{Q:VK}{k k':Bool}(I:Inv X pins σ H s)(q:Q (.bl k) H)(e:k=k'):EP X pins σ Q (.bool k') s:=by
 subst e;exact ⟨.bl k,H,I,rfl,q⟩
theorem op_lt:OpR X (compareOp .Lt) (rI0 fun i j=> .bl (decide (i<j))):=opB0 fun _ _ _ _ _ _ _ q=>lt_int q
theorem op_gt:OpR X (compareOp .Gt) (rI0 fun i j=> .bl (decide (j<i))):=opB0 fun _ _ _ _ _ _ _ q=>gt_int q
theorem op_isN:OpR X (compareOp .Is) (fun x y H Q=>y = .non/\Q (.bl (decide (x = .non))) H):=by
 intro pins s σ H x y v u Q I rx ry h;obtain ⟨rfl,q⟩:=h
 cases ry
 refine is_none_gen (fin_bl I q ?_)
 cases x <;> first
  | (cases rx;rfl)
  | (obtain ⟨t,rfl⟩:=rx;rfl)
theorem OpR.or{f:Value->Value->Sem Value}{r r':R2}(h:OpR X f r)(h':OpR X f r'):OpR X f (fun x y H Q=>r x y H Q\/r' x y H Q):=by
 intro pins s σ H x y v u Q I rx ry q;rcases q with q | q
 . exact h pins s σ H x y v u Q I rx ry q
 . exact h' pins s σ H x y v u Q I rx ry q
theorem nomark(b:Expr){op:CmpOp}(h:op ≠ .In:=by decide)(h2:op ≠ .NotIn:=by decide):behindInMarks op b=false:=by
 have e1:(op==CmpOp.In)=false:=by cases op <;> first | rfl | exact absurd rfl h
 have e2:(op==CmpOp.NotIn)=false:=by cases op <;> first | rfl | exact absurd rfl h2
 cases b <;> simp [behindInMarks,e1,e2]
theorem pe_cmpR{op:CmpOp}{r:R2}(ho:OpR X (compareOp op) r)(ha:PE X a ta)(hb:PE X b tb)(hm:behindInMarks op b=false):PE X (.Compare a [op] [b] pos) (tOp r ta tb):=by
 intro pins s σ H Q I h;exact wpAny_Compare1 (binT ha hb I h fun v u s2 x y H2 I2 rx ry q=>ho pins s2 σ H2 x y v u Q I2 rx ry q) hm
def tTest(t:TE):TT:=fun σ H Q=>t σ H fun x H'=>∃k,x = .bl k/\Q k H'
theorem pt_cmpR{op:CmpOp}{r:R2}(ho:OpR X (compareOp op) r)(ha:PE X a ta)(hb:PE X b tb)(hm:behindInMarks op b=false):PT X (.Compare a [op] [b] pos) (tTest (tOp r ta tb)):=by
 intro pins s σ H Q I h
 refine wpAny_isTrue_Compare1 (thn (ha pins s σ H _ I h) fun v s1 ⟨x,H1,I1,r1,q1⟩=>thn (hb pins s1 σ H1 _ I1 q1) fun u s2 ⟨y,H2,I2,r2,q2⟩ =>
  thn (ho pins s2 σ H2 x y v u _ I2 r1 r2 q2) fun c s3 ⟨z,H3,I3,r3,k,e,q3⟩ => ?_) hm
 subst e
 cases r3
 exact wpAny_truthy_bool ⟨H3,I3,q3⟩
theorem line63:(sizeLine:Nat)<2 ^ 63:=by rw [sizeLine_eq];decide
theorem op_add_str:OpR X (binaryOp .Add) (fun x y H Q=>∃i j,x = .str i/\y = .str j/\i.length+j.length<=sizeLine/\Q (.str (i++j)) H):=by
 intro pins s σ H x y v u Q I rx ry h;obtain ⟨i,j,rfl,rfl,hz,q⟩:=h;obtain ⟨t,rfl⟩:=rx;obtain ⟨t',rfl⟩:=ry;exact add_str (fun t' tk=>⟨.str (i++j),H,I.tok _,⟨_,rfl⟩,q⟩) hz
theorem vals1{x:V}{us:List Value}(r:Vals [x] us):∃u,us = [u]/\RelV x u:=by
 cases r with
 | cons r1 r2=>cases r2;exact ⟨_,rfl,r1⟩
theorem vals2{x y:V}{us:List Value}(r:Vals [x,y] us):∃u w',us = [u,w']/\RelV x u/\RelV y w':=by
 cases r with
 | cons r1 r2=>
  cases r2 with
  | cons r3 r4=>cases r4;exact ⟨_,_,rfl,r1,r3⟩
theorem call_int1:CallR X (.type "int") (fun xs H Q=>(∃i,xs = [.int i]/\Q (.int i) H)\/∃k,xs = [.bl k]/\Q (.int (if k then 1 else 0)) H):=by
 intro pins s σ H xs us Q I r h;rcases h with ⟨i,rfl,q⟩ | ⟨k,rfl,q⟩
 . obtain ⟨u,rfl,t,rfl⟩:=vals1 r;exact call_int_int ⟨.int i,H,I,⟨_,rfl⟩,q⟩
 . obtain ⟨u,rfl,r1⟩:=vals1 r
   cases r1
   exact call_int_bool ⟨.int (if k then 1 else 0),H,I.tok _,⟨_,rfl⟩,q⟩
end
end L2
namespace L2
open PySem PySem.Spec PyProof.Rows
structure ObjM (h:Heap) (x dx C:Addr) (mA:Str->Option Value):Prop where
 obj:h.get? x=some (PySem.W.instObj C dx)
 ns:h.Ns1 dx mA
 ne:dx≠x
section
variable {prog:Program} {w:World} {A:Around} {E:Value->Shared->Prop} {s:Shared} {K:PySem.W.Frag} {x dx C f:Addr} {mA:Str->Option Value} {name:Str} {v:Value}
end
section
variable {P:Program} {w:World} {H H':Hp} {h h':Heap} {a C dx:Addr} {fs fs':List (Str×V)}
end
structure Cls (K:PySem.W.Frag) (C:Addr):Prop where
 pg:PySem.W.plainGet K C Str.empty=true
 hd:PySem.W.hasDictIn K C=true
 po:PySem.W.plainOver K C=true
 sa:PySem.W.findIn K (.ref C) "__setattr__" = some (some (.builtin "object.__setattr__"))
structure Con (K:PySem.W.Frag) (C:Addr) (f:Str) (v:V) (u:Value):Prop where
 at_:PySem.W.findIn K (.ref C) f=some (some u)
 rel:RelV v u
 get:PySem.W.specialIn K u "__get__" = some none
 cp:PySem.W.copiedNames.contains f=false
structure Meth (K:PySem.W.Frag) (C:Addr) (m:Str) (f:Addr):Prop where
 at_:PySem.W.findIn K (.ref C) m=some (some (.ref f))
 fn:PySem.W.isFn K (.ref f)=true
 kp:PySem.W.keepIn K (.ref f)=true
section
variable {X:Cx} {pins:List (Addr×Obj)} {σ:St} {H:Hp} {s:Shared} {a C dx:Addr} {fs:List (Str×V)} {f:Str} {v:V} {A:Around} {E:Value->Shared->Prop}
theorem Inv.made (I : Inv X pins σ H s) : Inv X pins σ (upd (upd H s.heap.objs.size (.own (s.heap.objs.size + 1))) (s.heap.objs.size + 1) (.ins C s.heap.objs.size []))
 {s with heap:=(s.heap.push PySem.W.emptyDict).push (PySem.W.instObj C s.heap.objs.size)}:=by
 have e1:(s.heap.push PySem.W.emptyDict).get? s.heap.objs.size=some PySem.W.emptyDict:=Heap.get?_push_size s.heap rfl
 have e2:((s.heap.push PySem.W.emptyDict).push (PySem.W.instObj C s.heap.objs.size)).get? (s.heap.objs.size+1)=some (PySem.W.instObj C s.heap.objs.size):=by
  have:=Heap.get?_push_size (s.heap.push PySem.W.emptyDict) (o:=PySem.W.instObj C s.heap.objs.size) rfl
  rwa [Heap.size_push] at this
 have e3:(s.heap.push PySem.W.emptyDict).Ns s.heap.objs.size (fun _=>none):=⟨PySem.W.emptyDict, #[],_,e1,rfl,(fun e he=>absurd he (by simp)),fun _=>rfl⟩;have I1:=I.laid (a:=s.heap.objs.size) (o:= .own (s.heap.objs.size+1)) (h':=s.heap.push PySem.W.emptyDict) (t':=s.toks) (fun b u q=>Heap.get?_push_of_some _ q) (Nat.le_refl _) ⟨_,e1⟩;refine I1.laid (a:=s.heap.objs.size+1) (o:= .ins C s.heap.objs.size []) (t':=s.toks) (fun b u q=>Heap.get?_push_of_some _ q) (Nat.le_of_eq (Heap.size_push _ _)) ?_;have ne:s.heap.objs.size≠s.heap.objs.size+1:=Nat.ne_of_lt (Nat.lt_succ_self _);refine ⟨by rw [upd_ne ne,upd_same],Nat.zero_le _,ne,e2,fun _=>none,(Heap.Ns1.of_empty e3).at fun o q=>Heap.get?_push_of_some _ q,fun _=>True.intro,fun y hy=>absurd rfl hy⟩
end
section
variable {X:Cx} {o e value:Expr} {f:Str} {pos pos' tpos:Pos} {ta tv:TE}
end
section
variable {X:Cx} {pins:List (Addr×Obj)} {σ:St} {H:Hp} {s:Shared} {A:Around} {E:Value->Shared->Prop} {Q:Value->Shared->Prop} {c:Value} {b:Bool}
inductive TyOf (K:PySem.W.Frag) (H:Hp):V->Value->Prop where
 | non:TyOf K H .non (.type "NoneType")
 | bl (x:Bool):TyOf K H (.bl x) (.type "bool")
 | int (i:Int):TyOf K H (.int i) (.type "int")
 | str (x:Str):TyOf K H (.str x) (.type "str")
 | flt (x:UInt64):TyOf K H (.flt x) (.type "float")
 | lst {a:Addr} {xs:List V} (e:H a=some (.lst xs)):TyOf K H (.ref a) (.type "list")
 | frz {a:Addr} {o:Obj} {xs:List V} (e:H a=some (.frz o (.lst xs))):TyOf K H (.ref a) (.type "list")
 | tup {a:Addr} {xs:List V} (e:H a=some (.tup xs)):TyOf K H (.ref a) (.type "tuple")
 | dK {a:Addr} {kvs:List (Key×V)} (e:H a=some (.dK kvs)):TyOf K H (.ref a) (.type "dict")
 | dT {a:Addr} {kvs:List (List Key×V)} (e:H a=some (.dT kvs)):TyOf K H (.ref a) (.type "dict")
 | ins {a C dx : Addr} {fs : List (Str × V)} (e : H a = some (.ins C dx fs)) (cl : Cls K C) (ha : PySem.W.findIn K (.ref C) "__class__" = some (some (.builtin "object.__class__")))
  (hn:PySem.W.specialIn K (.builtin "object.__class__") "__get__" = some (some (.builtin "getset_descriptor.__get__"))) (htk:PySem.W.takesIn K (.builtin "object.__class__")=some true)
  (hm:PySem.W.mroIn K C (.type "object")=some true):TyOf K H (.ref a) (.ref C)
end
end L2
namespace L2
open PySem PySem.Spec PyProof.Rows
structure Room (k:Nat) (A:Around):Prop where
 hd:A.handled=none
 dp:A.depth+3*k+5<recursionLimit
 un:A.units+16*k+200<cLine
 gd:A.guards=some []
theorem Room.mono{j k:Nat}{A:Around}(r:Room k A)(h:j<=k):Room j A:=⟨r.hd,by have:=r.dp;omega,by have:=r.un;omega,r.gd⟩
theorem Room.deeper{k:Nat}{A:Around}(r:Room (k+1) A)(env:Env):Room k (A.deeper env) :=
 ⟨r.hd,by have:=r.dp;show A.depth+1+3*k+5<_;omega,by have:=r.un;show A.units+3+16*k+200<_;omega,r.gd⟩
theorem Room.in1{k:Nat}{A:Around}(r:Room (k+1) A):Room k A.in1:=
 ⟨r.hd,by have:=r.dp;show A.depth+3*k+5<_;omega,by have:=r.un;show A.units+1+16*k+200<_;omega,r.gd⟩
theorem Room.depth{k:Nat}{A:Around}(r:Room k A):A.depth<recursionLimit:=by have:=r.dp;omega
theorem Room.units{k:Nat}{A:Around}(r:Room k A):A.units+64<cLine:=by have:=r.un;omega
theorem Room.units0{k:Nat}{A:Around}(r:Room k A):A.units<cLine:=by have:=r.un;omega
def tNil:TA:=fun _ H Q=>Q [] H
def tCons(ta:TE)(tr:TA):TA:=fun σ H Q=>ta σ H fun x H1=>tr σ H1 fun xs H2=>Q (x::xs) H2
section
variable {X:Cx} {e:Expr} {es:List Expr} {te:TE} {t:TA} {pos:Pos}
theorem pa_nil:PA X [] tNil:=fun _ _ _ _ H Q I h=>Calls.spliced_nil ⟨[],H,I, .nil,h⟩
theorem pa_cons(ha:PE X e te)(hr:PA X es t)(hs:starEach (e::es) X.env=(false,eval e X.env)::starEach es X.env:=by rfl):PA X (e::es) (tCons te t):=by
 intro pos pins s σ H Q I h;rw [hs];show wpAny _ _ (spliced ((false,eval e X.env)::backTo pos (starEach es X.env))) _ _ s;refine Calls.spliced_cons (thn (ha pins s σ H _ I h) fun u s1 ⟨x,H1,I1,r1,q1⟩ => ?_);exact thn (hr pos pins s1 σ H1 _ I1 q1) fun us s2 ⟨xs,H2,I2,r2,q2⟩=>⟨x::xs,H2,I2, .cons r1 r2,q2⟩
def tTup(t:TA):TE:=fun σ H Q=>t σ H fun xs H1=>xs.length<=sizeLine/\∀p,H1 p=none->Q (.ref p) (upd H1 p (.tup xs))
def tLst(t:TA):TE:=fun σ H Q=>t σ H fun xs H1=>xs.length<=sizeLine/\∀p,H1 p=none->Q (.ref p) (upd H1 p (.lst xs))
theorem pe_tup{x1}(h:PA X es t):PE X (.Tuple es x1 pos) (tTup t):=by
 intro pins s σ H Q I hq;refine wpAny_Tuple_spliced (thn (h pos pins s σ H _ I hq) fun us s1 ⟨xs,H1,I1,r,z,q⟩=>⟨by rw [<-r.length];exact z,?_⟩);have hf:H1 s1.heap.objs.size=none:=I1.hok.fresh (Nat.le_refl _);refine ⟨.ref s1.heap.objs.size,upd H1 s1.heap.objs.size (.tup xs),I1.laid (t':=s1.toks) (fun b u e=>Heap.get?_push_of_some _ e) (Nat.le_refl _) ?_,rfl,q _ hf⟩;exact ⟨z,us,r,⟨_,Heap.get?_push_size _ rfl,rfl,_,rfl⟩⟩
theorem pe_lst(h:PA X es t):PE X (.List es pos) (tLst t):=by
 intro pins s σ H Q I hq;refine wpAny_List_spliced (thn (h pos pins s σ H _ I hq) fun us s1 ⟨xs,H1,I1,r,z,q⟩=>⟨by rw [<-r.length];exact z,?_⟩);have hf:H1 s1.heap.objs.size=none:=I1.hok.fresh (Nat.le_refl _);refine ⟨.ref s1.heap.objs.size,upd H1 s1.heap.objs.size (.lst xs),I1.laid (t':=s1.toks) (fun b u e=>Heap.get?_push_of_some _ e) (Nat.le_refl _) ?_,rfl,q _ hf⟩;exact ⟨z,us,0,r,Heap.get?_push_size _ rfl⟩
end
abbrev Sp:=List V->Hp->VK->XK->Prop
abbrev CXT:=List Env->Hp->Shared->XK->Value->Shared->Prop
structure Env0 (P:Program) (w:World) (K:PySem.W.Frag) (mg:Str->Option Value) (base:Heap) (A:Around) (outer:List Env) (s:Shared) (H:Hp):Prop where
 frames:A.frames=some outer
 mod:Mod K mg base
 bs:∀b o,base.get? b=some o->s.heap.get? b=some o/\H b=none
 bsz:base.objs.size<=s.heap.objs.size
 funs:s.heap.FunFrames base outer
 frf:∀b ∈ frs outer,H b=none
 hok:HOk P w H s.heap
 bare:AllBare s.gens
 tb:∀p ∈ tabsOf K,∃ps,H p=some (.tbl ps)
def CE(outer:List Env)(P:Program)(w:World)(H:Hp)(s:Shared)(Q:VK)(u:Value)(s':Shared):Prop:=
 ∃v H',s'.os=s.os/\AllBare s'.gens/\Un (frs outer) [] H H' s.heap s'.heap/\HOk P w H' s'.heap/\RelV v u/\Q v H'
def CR(CX:CXT)(outer:List Env)(P:Program)(w:World)(H:Hp)(s:Shared)(Q:VK)(E:XK)(r:Result)(s':Shared):Prop:=
 match r with
 | .ok (.ret u)=>CE outer P w H s Q u s'
 | .ok _=>False
 | .error e=>CX outer H s E e s'
structure FnOk (P:Program) (w:World) (K:PySem.W.Frag) (mg:Str->Option Value) (base:Heap) (CX:CXT) (k:Nat) (f:Addr) (fd:FuncData) (ps:List Str) (sp:Sp):Prop where
 len:∀vs H Q E,sp vs H Q E->vs.length=ps.length
 run:∀(A:Around) (outer:List Env) (s:Shared) (H:Hp) (args:Args) (us:List Value) (vs:List V) (Q:VK) (E:XK),Room k A->Env0 P w K mg base A outer s H->BindsTo s fd args (ps.zip us)->Vals vs us->sp vs H Q E ->
  codeAny (model P w) A (.call (.ref f) args) (CR CX outer P w H s Q E) s
theorem FnOk.imp {P : Program} {w : World} {K : PySem.W.Frag} {mg : Str -> Option Value} {base : Heap} {CX : CXT} {k : Nat} {f : Addr} {fd : FuncData} {ps : List Str} {sp sp' : Sp} (F : FnOk P w K mg base CX k f fd ps sp)
 (h:∀vs H Q E,sp' vs H Q E->sp vs H Q E):FnOk P w K mg base CX k f fd ps sp' :=
 ⟨fun vs H Q E q=>F.len vs H Q E (h _ _ _ _ q),fun A outer s H args us vs Q E hr he hb hv hs=>F.run A outer s H args us vs Q E hr he hb hv (h _ _ _ _ hs)⟩
theorem Env0.in1 {P : Program} {w : World} {K : PySem.W.Frag} {mg : Str -> Option Value} {base : Heap} {A : Around} {outer : List Env} {s : Shared} {H : Hp} (e : Env0 P w K mg base A outer s H) :
 Env0 P w K mg base A.in1 outer s H:=⟨e.frames,e.mod,e.bs,e.bsz,e.funs,e.frf,e.hok,e.bare,e.tb⟩
section
variable {X:Cx} {pins:List (Addr×Obj)} {σ:St} {H:Hp} {s s':Shared}
theorem Inv.env0(I:Inv X pins σ H s):Env0 X.prog X.w X.K X.mg X.base X.A X.stack s H:=
 ⟨I.ok.frames,I.ok.mod,I.bs,Nat.le_trans I.ok.bsz I.sz,I.stack,I.stkFree,I.hok,I.bare,I.tb⟩
theorem Inv.after{Q:VK}{u:Value}(I:Inv X pins σ H s)(h:CE X.stack X.prog X.w H s Q u s'):EP X pins σ Q u s':=by
 obtain ⟨v,H',os,bare,un,hok,r,q⟩:=h;obtain ⟨hh,g,d,t,os'⟩:=s';obtain rfl:os'=s.os:=os;exact ⟨v,H',I.call (h':=hh) (g':=g) (d':=d) (t':=t) (ch:= []) un hok bare (fun b z=>absurd z (by simp)),r,q⟩
end
def tCall(sp:Sp)(dvs:List V)(E:XK)(t:TA):TE:=fun σ H Q=>t σ H fun vs H1=>sp (vs++dvs) H1 Q E
def Binds(K:PySem.W.Frag)(fd:FuncData)(ps:List Str)(ds:List Value):Prop:=
 ∀(s:Shared) (us:List Value),K.In s.heap->(us++ds).length=ps.length->BindsTo s fd ⟨us,[]⟩ (ps.zip (us++ds))
theorem Binds.all{K:PySem.W.Frag}{fd:FuncData}{ps:List Str}(h:∀us:List Value,us.length=ps.length->bindArgs fd ⟨us,[]⟩=pure (ps.zip us)):Binds K fd ps []:=fun s us _ hl=>by
 rw [List.append_nil] at hl ⊢
 exact .of_eq (h us hl)
def Passes(CX:CXT)(X:Cx)(E:XK):Prop:=∀(pins:List (Addr×Obj)) (σ:St) (H:Hp) (s:Shared) (e:Value) (s':Shared),Inv X pins σ H s->CX X.stack H s E e s'->X.xe e s'
section
variable {X:Cx} {CX:CXT} {k:Nat} {f C:Addr} {fd:FuncData} {ps:List Str} {sp:Sp} {dvs:List V} {ds:List Value} {E:XK} {x m:Str} {p pos apos:Pos} {e o:Expr} {es:List Expr} {ta:TE} {t:TA}
theorem run_fn {pins : List (Addr × Obj)} {σ : St} {H : Hp} {s : Shared} {Q : VK} {us : List Value} {vs : List V} (F : FnOk X.prog X.w X.K X.mg X.base CX k f fd ps sp) (hr : Room k X.A) (hb : Binds X.K fd ps ds) (hd : Vals dvs ds) (hx : Passes CX X E)
 (I:Inv X pins σ H s) (r:Vals vs us) (h:sp (vs++dvs) H Q E):wpAny (model X.prog X.w) X.A (call (.ref f) us) (EP X pins σ Q) X.xe s:=by
 have r2:Vals (vs++dvs) (us++ds):=r.append hd;have hl:(us++ds).length=ps.length:=by rw [<-r2.length];exact F.len _ _ _ _ h
 refine wpAny_call (codeAny_mono (F.run X.A X.stack s H ⟨us,[]⟩ (us++ds) (vs++dvs) Q E hr I.env0 (hb s us I.kIn hl) r2 h) fun r s' hq=> ?_)
 cases r with
 | error e=>exact hx pins σ H s e s' I hq
 | ok fl=>
  cases fl with
  | ret u=>exact I.after hq
  | next=>exact False.elim hq
  | brk=>exact False.elim hq
  | cont=>exact False.elim hq
theorem pe_call (F : FnOk X.prog X.w X.K X.mg X.base CX k f fd ps sp) (hr : Room k X.A) (hg : Gl X x) (hm : X.mg x = some (.ref f)) (hk : PySem.W.keepIn X.K (.ref f) = true) (hb : Binds X.K fd ps ds) (hd : Vals dvs ds) (hx : Passes CX X E)
 (ha:PA X (e::es) t) (hdb:(x==("__debug__" : Str))=false:=by decide) (he:starEach (e::es) X.env=(false,eval e X.env)::starEach es X.env:=by rfl) (hpl:(backTo pos (starEach es X.env)).any (·.1)=false:=by rfl) :
 PE X (.Call (.Name x p) (e::es) [] pos) (tCall sp dvs E t):=by
 intro pins s σ H Q I h;refine wpAny_Call_Name_kw (ld_glob I hg hm ?_ hdb);refine PySem.W.callWith_K (h₀:=X.base) I.ok.mod.kin hk (thn (ha pos pins s σ H _ I h) fun us s1 ⟨vs,H1,I1,r,q⟩=>⟨I1.kIn,?_⟩) he hpl;exact run_fn F hr hb hd hx I1 r q
structure Mk (K:PySem.W.Frag) (C f:Addr):Prop where
 makes:PySem.W.makesIn K C=true
 init:PySem.W.findIn K (.ref C) "__init__" = some (some (.ref f))
 fn:PySem.W.isFn K (.ref f)=true
 kp:PySem.W.keepIn K (.ref C)=true
end
section
variable {X:Cx} {CX:CXT} {k:Nat} {f C:Addr} {fd:FuncData} {ps ks:List Str} {sp:Sp} {E:XK} {x m:Str} {p pos apos kpos:Pos} {e o:Expr} {es:List Expr} {kws:List Keyword} {te ta:TE} {t tk:TA} {nm:Option Str}
structure KBinds (K:PySem.W.Frag) (fd:FuncData) (ps ks:List Str) (g:List Value->List Value->List Value) (gV:List V->List V->List V):Prop where
 to:∀(s:Shared) (us ws:List Value),K.In s.heap->(g us ws).length=ps.length->BindsTo s fd ⟨us,ks.zip ws⟩ (ps.zip (g us ws))
 rel:∀ {vs:List V} {us:List Value} {zs:List V} {ws:List Value},Vals vs us->Vals zs ws->Vals (gV vs zs) (g us ws)
variable {g:List Value->List Value->List Value} {gV:List V->List V->List V}
end
structure FnScope (N P:List Str) (sc:Scope):Prop where
 kind:sc.kind = .function
 co:sc.isCoroutine=false
 gen:sc.isGenerator=false
 nd:N.Nodup
 pre:N.take P.length=P
 par:∀x ∈ P,sc.names.lookup x=some .local\/sc.names.lookup x=some .cell
 nofree:∀y ∈ sc.names,y.2 ≠ .free
theorem bindL_out{kindOf:Str->Option NameKind}{x:Str}:∀ {binds:List (Str×Value)} {m:Str->Option Value},(∀v,(x,v) ∉ binds)->bindL kindOf binds m x=m x
 | [],_,_=>rfl
 | (n,v)::r,m,h=>by
  unfold bindL;rw [bindL_out fun w hw=>h w (List.mem_cons_of_mem _ hw)]
  split
  . have:x≠n:=by rintro rfl;exact h v List.mem_cons_self
    simp [this]
  . rfl
theorem bindC_out{kindOf:Str->Option NameKind}{x:Str}:∀ {binds:List (Str×Value)} {m:Str->Option Value},(∀v,(x,v) ∉ binds)->bindC kindOf binds m x=m x
 | [],_,_=>rfl
 | (n,v)::r,m,h=>by
  unfold bindC;rw [bindC_out fun w hw=>h w (List.mem_cons_of_mem _ hw)]
  split
  . rfl
  . have:x≠n:=by rintro rfl;exact h v List.mem_cons_self
    simp [this]
theorem bindL_get {kindOf : Str -> Option NameKind} {x : Str} {v : Value} : ∀ {P : List Str} {vs : List Value} {i : Nat} {m : Str -> Option Value}, P.Nodup -> P[i]? = some x -> vs[i]? = some v -> kindOf x = some .local ->
 bindL kindOf (P.zip vs) m x=some v
 | [],_,_,_,_,h,_,_=>by simp at h
 | _::_,[],_,_,_,_,h,_=>by simp at h
 | p::P,w::vs,0,m,nd,h1,h2,hk=>by
  simp at h1 h2;subst h1;subst h2
  show bindL kindOf ((p,w)::P.zip vs) m p=_;unfold bindL;rw [bindL_out fun v hv=>(List.nodup_cons.mp nd).1 (List.of_mem_zip hv).1,if_pos hk]
  simp
 | p::P,w::vs,i+1,m,nd,h1,h2,hk=>by
  show bindL kindOf ((p,w)::P.zip vs) m x=_;unfold bindL;exact bindL_get (i:=i) (List.nodup_cons.mp nd).2 (by simpa using h1) (by simpa using h2) hk
theorem bindC_get {kindOf : Str -> Option NameKind} {x : Str} {v : Value} : ∀ {P : List Str} {vs : List Value} {i : Nat} {m : Str -> Option Value}, P.Nodup -> P[i]? = some x -> vs[i]? = some v -> kindOf x ≠ some .local ->
 bindC kindOf (P.zip vs) m x=some v
 | [],_,_,_,_,h,_,_=>by simp at h
 | _::_,[],_,_,_,_,h,_=>by simp at h
 | p::P,w::vs,0,m,nd,h1,h2,hk=>by
  simp at h1 h2;subst h1;subst h2
  show bindC kindOf ((p,w)::P.zip vs) m p=_;unfold bindC;rw [bindC_out fun v hv=>(List.nodup_cons.mp nd).1 (List.of_mem_zip hv).1,if_neg hk]
  simp
 | p::P,w::vs,i+1,m,nd,h1,h2,hk=>by
  show bindC kindOf ((p,w)::P.zip vs) m x=_;unfold bindC;exact bindC_get (i:=i) (List.nodup_cons.mp nd).2 (by simpa using h1) (by simpa using h2) hk
def start(N:List Str)(vs:List V):St:=vs.map some++List.replicate (N.length - vs.length) none
def cxOf(CX:CXT)(P:Program)(w:World)(K:PySem.W.Frag)(mg:Str->Option Value)(base:Heap)(N:List Str)(qual:Str)(scope:Scope)(f:Addr)(cd:Value)(A:Around)(outer:List Env)(s:Shared)(H:Hp)(E:XK):Cx where
 prog:=P
 w:=w
 K:=K
 mg:=mg
 base:=base
 A:=A.deeper (envOfC qual scope s.heap.objs.size f cd)
 N:=N
 s₀:=s
 H₀:=H
 env:=envOfC qual scope s.heap.objs.size f cd
 outer:=outer
 stack:=envOfC qual scope s.heap.objs.size f cd::outer
 ex:= []
 calm:=true
 fn:=fun _=>true
 pn:= []
 xe:=fun e s'=>wpAny (model P w) (A.deeper (envOfC qual scope s.heap.objs.size f cd)) (leaving (envOfC qual scope s.heap.objs.size f cd) e) (fun _ s''=>CX outer H s E e s'') (fun e' s''=>CX outer H s E e' s'') s'
theorem cell_has{sc:Scope}{n:Nat}{x:Str}(h:sc.names.lookup x=some .cell):∃c,(cellsFrom n sc.names []).lookup x=some c:=by
 have q:=PySem.W.cellsFrom_some sc.names n [] (.inl h);exact Option.isSome_iff_exists.mp q
theorem inv_start {CX : CXT} {P : Program} {w : World} {K : PySem.W.Frag} {mg : Str -> Option Value} {base : Heap} {N ps : List Str} {qual : Str} {scope : Scope} {f : Addr} {cd : Value} {A : Around} {outer : List Env} {s s1 : Shared} {H : Hp} {E : XK} {us : List Value} {vs : List V}
 (S:FnScope N ps scope) (hd:A.handled=none) (e0:Env0 P w K mg base A outer s H) (hl:vs.length=ps.length) (r:Vals vs us)
 (x:InCallC s s.heap.objs.size (bindL (envOfC qual scope s.heap.objs.size f cd).kindOf (ps.zip us) fun _=>none) (cellsFrom (s.heap.objs.size+1) scope.names []) (bindC (envOfC qual scope s.heap.objs.size f cd).kindOf (ps.zip us) fun _=>none) s1) :
 Inv (cxOf CX P w K mg base N qual scope f cd A outer s H E) [] (start N vs) H s1:=by
 have hpl:ps.length<=N.length:=by have:=congrArg List.length S.pre;rw [List.length_take] at this;omega
 obtain ⟨h1,tk,rfl,hk⟩:=x.done;have noA:∀b:Addr,b ∉ (cxOf CX P w K mg base N qual scope f cd A outer s H E).ex:=fun b z=>absurd (show b ∈ ([]:List Addr) from z) (by simp)
 refine ⟨⟨e0.mod,S.kind,rfl,rfl,Nat.le_refl _,fun y z c h1 h2=> ?_,fun y hy=> ?_,fun y c _ h=> ?_,fun _=>hd,Around.frames_deeper e0.frames, .inr ⟨rfl,rfl⟩,fun b z=>absurd z (noA b),e0.bs,e0.bsz,fun b _ _=>noA b,fun b z=>absurd z (noA b),e0.funs,e0.frf,e0.tb⟩,
  rfl,e0.bare,Un.kept hk,⟨_,x.toInCall.ns,fun i y v h1 h2 h3=> ?_⟩,fun y c h=>⟨_,x.cell y c h⟩,e0.hok.fresh (Nat.le_refl _),fun y c h=> ?_,fun p hp=>absurd (show p ∈ ([]:List (Addr×Obj)) from hp) (by simp),e0.hok.kept hk,?_⟩
 . exact name_of_addr x.apart (PySem.mem_of_lookup h1) (PySem.mem_of_lookup h2)
 . have hy:scope.names.lookup y=some .cell\/scope.names.lookup y=some .free:=hy;rcases hy with hy | hy
   . exact cell_has hy
   . exact absurd rfl (S.nofree _ (PySem.mem_of_lookup hy))
 . exact Nat.le_of_lt (x.above y c (PySem.mem_of_lookup h))
 . have hi : i < vs.length := by
    unfold start at h2
    by_cases hi:i<vs.length
    . exact hi
    . rw [List.getElem?_append_right (by simpa using hi)] at h2
      rw [List.getElem?_replicate] at h2
      split at h2 <;> cases h2
   have ha:vs[i]? = some v:=by
    unfold start at h2
    rw [List.getElem?_append_left (by simpa using hi),List.getElem?_map] at h2
    cases e:vs[i]? with
    | none=>rw [e] at h2;cases h2
    | some a=>rw [e] at h2;cases h2;rfl
   obtain ⟨u,hu,rv⟩:=r.get ha
   have hp:ps[i]? = some y:=by
    rw [<-S.pre,List.getElem?_take_of_lt (by omega)];exact h1
   have ndP:ps.Nodup:=by rw [<-S.pre];exact S.nd.sublist (List.take_sublist _ _)
   refine ⟨u,rv,?_⟩;rcases S.par y (List.mem_of_getElem? hp) with k | k
   . exact .inl ⟨k,bindL_get ndP hp hu k⟩
   . obtain ⟨c,e⟩:=cell_has (n:=s.heap.objs.size+1) k;refine .inr ⟨.inl k,c,e,?_⟩;have q:=x.cell y c e;rw [bindC_get ndP hp hu (by show scope.names.lookup y≠_;rw [k];decide)] at q
     exact q
 . exact e0.hok.fresh (Nat.le_of_lt (x.above y c (PySem.mem_of_lookup h)))
 . unfold start;show _=N.length;rw [List.length_append,List.length_map,List.length_replicate];omega
theorem fn_of {CX : CXT} {P : Program} {w : World} {K : PySem.W.Frag} {mg : Str -> Option Value} {base : Heap} {k : Nat} {f : Addr} {name qual : Str} {params : Arguments} {body : List Stmt} {scope : Scope} {dV kV doc pm cdv ct oc : Value} {an od : Option Addr}
 {osl:Array (Option Value)} {N ps:List Str} {sp:Sp} (lk:K.lookup f=some ⟨oc,od, .func (PySem.W.fnOf name qual params body scope dV kV doc pm an cdv ct),osl⟩) (hcd:PySem.W.codeIn K cdv qual=true) (S:FnScope N ps scope)
 (len:∀vs H Q E,sp vs H Q E->vs.length=ps.length)
 (hbody:∀(A:Around) (outer:List Env) (s:Shared) (H:Hp) (vs:List V) (Q:VK) (E:XK),Room k (A.deeper (envOfC qual scope s.heap.objs.size f cdv))->sp vs H Q E ->
  ∃t,PSs (cxOf CX P w K mg base N qual scope f cdv A outer s H E) body t/\t {nx:=fun _ H'=>Q .non H',rt:=Q} (start N vs) H) :
 FnOk P w K mg base CX (k+1) f (PySem.W.fnOf name qual params body scope dV kV doc pm an cdv ct) ps sp:=by
 refine ⟨len,fun A outer s H args us vs Q E hr e0 hb r hsp=> ?_⟩;have hl:=len _ _ _ _ hsp;have KX:K.In s.heap:=e0.mod.kin.keeps fun b o e=>(e0.bs b o e).1;have lim:s.heap.NoLimit:=e0.mod.nolimit.keeps fun b o e=>(e0.bs b o e).1
 have hkind:∀y ∈ ps.zip us,scope.names.lookup y.1=some .local\/(scope.names.lookup y.1=some .cell/\((cellsFrom (s.heap.objs.size+1) scope.names []).lookup y.1).isSome=true):=fun ⟨n,v⟩ hy=>by
  rcases S.par n (List.of_mem_zip hy).1 with q | q
  . exact .inl q
  . exact .inr ⟨q,PySem.W.cellsFrom_some _ _ _ (.inl q)⟩
 refine codeAny_call_function hr.depth (KX _ _ lk) rfl S.co S.gen rfl (PySem.W.codeRec_of KX hcd) (hb _ _ _ _ ?_);refine wpAny_newFunctionEnv_cells S.kind hkind fun env he s1 x=> ?_;subst he;refine ⟨lim.keeps x.toInCall.keep,codeAny_func ?_⟩;obtain ⟨t,ht,hq⟩:=hbody A outer s H vs Q E (hr.deeper _) hsp;have I:Inv (cxOf CX P w K mg base N qual scope f cdv A outer s H E) [] (start N vs) H s1:=inv_start S hr.hd e0 hl r x;refine wpAny_mono (ht [] s1 (start N vs) H _ I hq) (fun fl s' hs=> ?_) fun e s' hs=>hs
 have fin:∀ {σ':St} {H':Hp} {v:V} {u:Value},Inv (cxOf CX P w K mg base N qual scope f cdv A outer s H E) [] σ' H' s'->RelV v u->Q v H'->CE outer P w H s Q u s' :=
  fun {σ' H' v u} J rv q=>⟨v,H',J.os,J.bare,J.base,J.hok,rv,q⟩
 cases fl with
 | ret u=>
  obtain ⟨v,σ',H',J,rv,q⟩:=hs
  exact fin J rv q
 | next=>
  obtain ⟨σ',H',J,q⟩:=hs
  exact fin (v:=V.non) (u:=Value.none) J rfl q
 | brk=>
  obtain ⟨_,_,_,q⟩:=hs
  exact False.elim q
 | cont=>
  obtain ⟨_,_,_,q⟩:=hs;exact False.elim q
end L2
namespace L2
open PySem PySem.Spec PyProof.Rows
section
variable {X:Cx} {x:Str} {p pos:Pos} {e:Expr} {es:List Expr} {t:TA} {id T:String} {r:List V->Hp->VK->Prop}
def tCB(r:List V->Hp->VK->Prop)(t:TA):TE:=fun σ H Q=>t σ H fun vs H1=>r vs H1 Q
theorem pe_callB (hc : CallR X (.builtin id) r) (hg : Gl X x) (hm : X.mg x = none) (hv : bootBuiltins x = some (.builtin id)) (ha : PA X (e :: es) t) (hn : x ≠ "__name__" := by decide) (hdb : (x == ("__debug__" : Str)) = false := by decide)
 (he:starEach (e::es) X.env=(false,eval e X.env)::starEach es X.env:=by rfl) (hpl:(backTo pos (starEach es X.env)).any (·.1)=false:=by rfl):PE X (.Call (.Name x p) (e::es) [] pos) (tCB r t):=by
 intro pins s σ H Q I h;refine wpAny_Call_Name_kw (ld_blt I hg hm hv ?_ hn hdb);exact PyProof.Rows.callWith_builtin1 (thn (ha pos pins s σ H _ I h) fun us s1 ⟨vs,H1,I1,r1,q1⟩=>hc pins s1 σ H1 vs us Q I1 r1 q1) he hpl
theorem pe_callTy (hc : CallR X (.type T) r) (hg : Gl X x) (hm : X.mg x = none) (hv : bootBuiltins x = some (.type T)) (ha : PA X (e :: es) t) (hn : x ≠ "__name__" := by decide) (hdb : (x == ("__debug__" : Str)) = false := by decide)
 (he:starEach (e::es) X.env=(false,eval e X.env)::starEach es X.env:=by rfl) (hpl:(backTo pos (starEach es X.env)).any (·.1)=false:=by rfl):PE X (.Call (.Name x p) (e::es) [] pos) (tCB r t):=by
 intro pins s σ H Q I h;refine wpAny_Call_Name_kw (ld_blt I hg hm hv ?_ hn hdb);exact PyProof.Rows.callWith_type1 (thn (ha pos pins s σ H _ I h) fun us s1 ⟨vs,H1,I1,r1,q1⟩=>hc pins s1 σ H1 vs us Q I1 r1 q1) he hpl
end
end L2
namespace HT
open PySem PyProof.Rows
section
open PySem.SeqAt
open PySem.AutoSeq1 (wpAny_loadPart')
open PySem.MeetsSeq PySem.MeetsSeq2 PySem.MeetsSeq3
end
section
variable {prog:Program} {w:World} {A:Around} {E:Value->Shared->Prop} {s:Shared}
theorem cat_tup {t b : Addr} {vs ws : List Value} {Q : Value -> Shared -> Prop} (ht : IsTup s.heap t vs.toArray) (hb : IsTup s.heap b ws.toArray) (hv : vs ≠ [])
 (h1:ws = []->Q (.ref t) s) (h2:ws ≠ []->Q (.ref s.heap.objs.size) {s with heap:=s.heap.push {cls:= .type "tuple",data:= .seq (vs++ws).toArray} })
 (hsz:vs.length+ws.length<=sizeLine):wpAny (model prog w) A (binaryOp .Add (.ref t) (.ref b)) Q E s:=by
 obtain ⟨⟨cls,dd,data,sl⟩,ho,hc,n,hd⟩:=id ht;obtain ⟨⟨cls2,dd2,data2,sl2⟩,ho2,hc2,n2,hd2⟩:=id hb;simp only at hc hd hc2 hd2
 subst hc hd hc2 hd2;have e:vs.toArray++ws.toArray=(vs++ws).toArray:=by simp
 by_cases hw:ws = []
 . exact concat_meets ⟨_, ho, rfl⟩ ⟨_, ho2, rfl⟩ noFill_tuple_add seq_tuple_add PySem.F.slot_tuple_add PySem.F.entry_tuple_add (PySem.F.args_tuple_add_2 _ _)
    (tuple_addW1 t b vs.toArray ws.toArray n n2 dd dd2 sl sl2 (by simpa using hv) (by simp [hw])) ⟨ho,ho2,h1 hw⟩
 . refine concat_meets ⟨_, ho, rfl⟩ ⟨_, ho2, rfl⟩ noFill_tuple_add seq_tuple_add PySem.F.slot_tuple_add PySem.F.entry_tuple_add (PySem.F.args_tuple_add_2 _ _)
    (tuple_addW2 t b vs.toArray ws.toArray n n2 dd dd2 sl sl2 (by simpa using hv) (by simpa using hw) (by rw [List.size_toArray,List.size_toArray];exact hsz)) ⟨ho,ho2,?_⟩
   rw [e];exact h2 hw
def sIx(n d:Nat):Option Int->Nat
 | none=>d
 | some v=>if v<0 then (v+(n:Int)).toNat else min v.toNat n
theorem sIx_none(n d:Nat):sIx n d none=d:=rfl
theorem sIx_nat(n d k:Nat):sIx n d (some (k:Int))=min k n:=by
 show (if (k:Int)<0 then ((k:Int)+(n:Int)).toNat else min (k:Int).toNat n)=min k n;rw [if_neg (by omega),Int.toNat_natCast]
theorem sIx_le(n d:Nat)(hd:d<=n)(o:Option Int):sIx n d o<=n:=by
 cases o with
 | none=>exact hd
 | some v=>
  show (if v<0 then (v+(n:Int)).toNat else min v.toNat n)<=n
  by_cases hv:v<0
  . rw [if_pos hv];omega
  . rw [if_neg hv];exact Nat.min_le_right _ _
theorem clip_eq(v:Int)(n d:Nat):(if v<0 then max (v+(n:Int)) 0 else min v (n:Int))=((sIx n d (some v):Nat):Int):=by
 show (if v<0 then max (v+(n:Int)) 0 else min v (n:Int))=(((if v<0 then (v+(n:Int)).toNat else min v.toNat n):Nat):Int)
 by_cases hv:v<0
 . simp only [if_pos hv];omega
 . simp only [if_neg hv];omega
theorem adjust_gen(lo hi:Option Int)(n:Nat):Builtin.Slice.sliceAdjust lo hi 1 (n:Int)=(((sIx n 0 lo:Nat):Int),((sIx n n hi:Nat):Int)):=by
 have h1:¬((1:Int)<0):=by omega
 unfold Builtin.Slice.sliceAdjust;simp only [h1,if_false];refine Prod.ext ?_ ?_
 . cases lo with
   | none=>rfl
   | some v=>exact clip_eq v n 0
 . cases hi with
   | none=>rfl
   | some v=>exact clip_eq v n n
theorem places_gen(i j:Nat):Builtin.Slice.slicePlaces (i:Int) (j:Int) 1=j - i:=by
 unfold Builtin.Slice.slicePlaces;have h1:(1:Int)>0:=by omega
 simp only [h1,if_true,Int.ediv_one]
 split <;> omega
theorem slicePart_{v:Value}{o:Option Int}{Q:Option Int->Shared->Prop}(p:IsPart v o)(h:Q o s):wpAny (model prog w) A (Builtin.Slice.slicePartIndex v) Q E s:=by
 cases p with
 | none=>exact slicePart_none h
 | int i t=>exact slicePart_int h
theorem sliceApplied_gen {sl : Addr} {vl vu : Value} {lo hi : Option Int} {n : Nat} {Q : Int × Int × Nat -> Shared -> Prop} (hs : s.heap.IsSliceOf sl vl vu .none) (pl : IsPart vl lo) (pu : IsPart vu hi)
 (h:Q (((sIx n 0 lo:Nat):Int),1,sIx n n hi - sIx n 0 lo) s):wpAny (model prog w) A (Builtin.Slice.sliceApplied (.ref sl) (pure (n:Int))) Q E s:=by
 obtain ⟨os,hos,hcs,hds⟩:=id hs;unfold Builtin.Slice.sliceApplied Builtin.Slice.sliceFields;refine wpAny_bind (wpAny_bind (wpAny_field hos hds (x:=vl) rfl (wpAny_bind (wpAny_field hos hds (x:=vu) rfl (wpAny_bind (wpAny_field hos hds (x:= .none) rfl (wpAny_pure ?_)))))));refine wpAny_bind (slicePart_none ?_);show wpAny _ _ (if ((1:Int)==0)=true then _ else _) _ _ s;rw [if_neg (by decide)];refine wpAny_bind (slicePart_ pl (wpAny_bind (slicePart_ pu (wpAny_bind (wpAny_pure ?_)))));show wpAny _ _ (match Builtin.Slice.sliceAdjust lo hi 1 (n:Int) with | (lo,hi)=>pure (lo,(1:Int),Builtin.Slice.slicePlaces lo hi 1)) _ _ s;rw [adjust_gen lo hi n];show wpAny _ _ (pure (((sIx n 0 lo:Nat):Int),(1:Int),Builtin.Slice.slicePlaces ((sIx n 0 lo:Nat):Int) ((sIx n n hi:Nat):Int) 1)) _ _ s;rw [places_gen];exact wpAny_pure h
theorem pick_gen(xs:Array Value)(i k:Nat):((List.range k).filterMap fun (m:Nat)=>xs[((i:Int)+(m:Int)*1).toNat]?).toArray=((xs.toList.drop i).take k).toArray:=by
 have e:(fun (m:Nat)=>xs[((i:Int)+(m:Int)*1).toNat]?)=fun m=>xs[i+m]? :=by
  funext m;have:((i:Int)+(m:Int)*1).toNat=i+m:=by omega
  rw [this]
 rw [e];have:=pick_run xs i k;rw [List.filterMap_map] at this
 have e2:((fun x=>xs[x]?) ∘ fun x=>i+x)=fun m=>xs[i+m]? :=rfl;rw [e2] at this
 rw [this]
theorem getItem_tuple_cut {t sl : Addr} {items : Array Value} {vl vu : Value} {lo hi : Option Int} {Q : Value -> Shared -> Prop} (ht : IsTup s.heap t items) (hs : s.heap.IsSliceOf sl vl vu .none) (pl : IsPart vl lo) (pu : IsPart vu hi)
 (hw:¬(sIx items.size 0 lo=0/\sIx items.size items.size hi=items.size))
 (h:Q (.ref s.heap.objs.size) {s with heap:=s.heap.push {cls:= .type "tuple",data:= .seq ((items.toList.drop (sIx items.size 0 lo)).take (sIx items.size items.size hi - sIx items.size 0 lo)).toArray} })
 (hsz:items.size<=sizeLine):wpAny (model prog w) A (getItem (.ref t) (.ref sl)) Q E s:=by
 have htake:sizeOk (.seq ((items.toList.drop (sIx items.size 0 lo)).take (sIx items.size items.size hi - sIx items.size 0 lo)).toArray):=by
  show ((items.toList.drop (sIx items.size 0 lo)).take (sIx items.size items.size hi - sIx items.size 0 lo)).toArray.size<=sizeLine;rw [List.size_toArray,List.length_take,List.length_drop,Array.length_toList];omega
 have hj:sIx items.size items.size hi<=items.size:=sIx_le _ _ (Nat.le_refl _) hi;obtain ⟨os,hos,hcs,hds⟩:=id hs;have hTs:s.TypeIs (.ref sl) "slice" :=⟨os,hos,hcs⟩;unfold getItem
 try with_reducible refine wpAny_holding ?_
 first | refine wpAny_bind (wpAny_pure ?_) | skip
 refine wpAny_bind (wpAny_sequenceKey ht.typeIs (by decide) ?_)
 refine wpAny_bind (wpAny_callSpecial?_slot (name:=Str.ofString "__getitem__") ht.typeIs PyProof.Rows.slot_tuple_getitem
  (wpAny_call_entry PyProof.Rows.slot_tuple_getitem ht.typeIs entry_tuple_getitem ?_ (args_tuple_getitem _ _)))
 show wpAny _ _ (Builtin.Tuple.tupleItemsOf (.ref t) >>= _) _ _ s;refine wpAny_bind (tupleItemsOf_ ht ?_);refine wpAny_bind (wpAny_typeOf hTs ?_);rw [if_pos (by decide)];refine wpAny_bind (sliceApplied_gen hs pl pu ?_)
 have hno:¬((((sIx items.size 0 lo:Nat):Int)==0 && (1:Int)==1 && (sIx items.size items.size hi - sIx items.size 0 lo)==items.size)=true):=by
  intro q;rw [Bool.and_eq_true,Bool.and_eq_true] at q
  have q1:((sIx items.size 0 lo:Nat):Int)=0:=eq_of_beq q.1.1;have q2:sIx items.size items.size hi - sIx items.size 0 lo=items.size:=eq_of_beq q.2;exact hw ⟨by omega,by omega⟩
 show wpAny _ _ (if (((sIx items.size 0 lo:Nat):Int)==0 && (1:Int)==1 && (sIx items.size items.size hi - sIx items.size 0 lo)==items.size)=true then _ else _) _ _ s;rw [if_neg hno,pick_gen]
 first
  | exact wpAny_bind (m:=Builtin.Tuple.tupleExact _) (wpAny_newObj_type (wpAny_pure ⟨_,rfl,wpAny_pure h⟩) htake)
  | exact wpAny_bind (m:=Builtin.Tuple.tupleExact _) (wpAny_newObj_type (wpAny_bind (wpAny_pure (wpAny_pure ⟨_,rfl,wpAny_pure h⟩))) htake)
  | exact wpAny_bind (wpAny_bind (m:=Builtin.Tuple.tupleExact _) (wpAny_newObj_type (wpAny_pure (wpAny_pure ⟨_,rfl,wpAny_pure h⟩)) htake))
  | exact wpAny_bind (wpAny_bind (m:=Builtin.Tuple.tupleExact _) (wpAny_newObj_type (wpAny_pure ⟨_,rfl,wpAny_pure h⟩) htake))
end
end HT
namespace L2
open PySem PySem.Spec PyProof.Rows
abbrev TO:=St->Hp->(Option Int->Hp->Prop)->Prop
def PO(X:Cx)(e:Option Expr)(t:TO):Prop:=
 ∀(pins:List (Addr×Obj)) (s:Shared) (σ:St) (H:Hp) (Q:Option Int->Hp->Prop),Inv X pins σ H s->t σ H Q ->
   wpAny (model X.prog X.w) X.A (evalPart e X.env) (fun u s'=>∃o H',Inv X pins σ H' s'/\IsPart u o/\Q o H') X.xe s
def tNoPart:TO:=fun _ H Q=>Q none H
def tPart(t:TE):TO:=fun σ H Q=>t σ H fun x H1=>∃i,x = .int i/\Q (some i) H1
section
variable {X:Cx} {e:Expr} {te:TE} {lo hi:Option Expr} {tl th:TO} {pos p2:Pos}
theorem po_none:PO X none tNoPart:=by
 intro pins s σ H Q I h;rw [evalPart_none];exact wpAny_pure ⟨none,H,I, .none,h⟩
theorem po_some(h:PE X e te):PO X (some e) (tPart te):=by
 intro pins s σ H Q I hw;rw [evalPart_some];refine thn (h pins s σ H _ I hw) fun u s1 ⟨x,H1,I1,r1,q1⟩ => ?_;obtain ⟨i,rfl,q⟩:=q1;obtain ⟨t,rfl⟩:=r1;exact ⟨some i,H1,I1, .int i t,q⟩
def SlR(X:Cx)(r:V->Option Int->Option Int->Hp->VK->Prop):Prop:=
 ∀(pins:List (Addr×Obj)) (s:Shared) (σ:St) (H:Hp) (x:V) (v vl vu:Value) (lo hi:Option Int) (sl:Addr) (Q:VK),Inv X pins σ H s->RelV x v->s.heap.IsSliceOf sl vl vu .none->IsPart vl lo->IsPart vu hi->r x lo hi H Q ->
   ∃T id,typeLookup (.type T) "__getitem__" = pure (some (.builtin id))/\s.TypeIs v T/\wpAny (model X.prog X.w) X.A (getItem v (.ref sl)) (EP X pins σ Q) X.xe s
theorem SlR.or{r r':V->Option Int->Option Int->Hp->VK->Prop}(h:SlR X r)(h':SlR X r'):SlR X (fun x lo hi H Q=>r x lo hi H Q\/r' x lo hi H Q):=by
 intro pins s σ H x v vl vu lo hi sl Q I rx hs pl pu q;rcases q with q | q
 . exact h pins s σ H x v vl vu lo hi sl Q I rx hs pl pu q
 . exact h' pins s σ H x v vl vu lo hi sl Q I rx hs pl pu q
def tSl(r:V->Option Int->Option Int->Hp->VK->Prop)(te:TE)(tl th:TO):TE:=fun σ H Q=>te σ H fun x H1=>tl σ H1 fun l H2=>th σ H2 fun u H3=>r x l u H3 Q
theorem pe_slice{r:V->Option Int->Option Int->Hp->VK->Prop}(hr:SlR X r)(he:PE X e te)(hl:PO X lo tl)(hu:PO X hi th):PE X (.Subscript e (.Slice lo hi none p2) pos) (tSl r te tl th):=by
 intro pins s σ H Q I h;refine Subscript_ (thn (he pins s σ H _ I h) fun v s1 ⟨x,H1,I1,r1,q1⟩ => ?_);refine wpAny_Slice (thn (hl pins s1 σ H1 _ I1 q1) fun vl s2 ⟨l,H2,I2,pl,q2⟩=>thn (hu pins s2 σ H2 _ I2 q2) fun vu s3 ⟨u,H3,I3,pu,q3⟩ => ?_);rw [evalPart_none];refine wpAny_pure ?_;have I4:Inv X pins σ H3 {s3 with heap:=s3.heap.push {cls:= .type "slice",data:= .fields #[vl,vu, .none]} }:=I3.kept (t':=s3.toks) fun b ob q=>Heap.get?_push_of_some _ q;obtain ⟨T,id,hT,ht,hg⟩:=hr pins {s3 with heap:=s3.heap.push {cls:= .type "slice",data:= .fields #[vl,vu, .none]} } σ H3 x v vl vu l u s3.heap.objs.size Q I4 r1 (Heap.IsSliceOf.new ..) pl pu q3;show wpAny (model X.prog X.w) X.A (subscriptTail e (.Slice lo hi none p2) v (.ref s3.heap.objs.size)) (EP X pins σ Q) X.xe {s3 with heap:=s3.heap.push {cls:= .type "slice",data:= .fields #[vl,vu, .none]} };exact tail_any (ops:= [.ref s3.heap.objs.size,v]) ht hT hg (by with_unfolding_all rfl)
def cutV(xs:List V)(lo hi:Option Int):List V:=(xs.drop (HT.sIx xs.length 0 lo)).take (HT.sIx xs.length xs.length hi - HT.sIx xs.length 0 lo)
theorem cutV_length(xs:List V)(lo hi:Option Int):(cutV xs lo hi).length<=xs.length:=by
 unfold cutV;rw [List.length_take,List.length_drop];omega
def rSlT(K:PySem.W.Frag):V->Option Int->Option Int->Hp->VK->Prop:=fun x lo hi H Q=>∃a xs,x = .ref a/\SqT K H a xs /\
 ¬(HT.sIx xs.length 0 lo=0/\HT.sIx xs.length xs.length hi=xs.length)/\∀p,H p=none->Q (.ref p) (upd H p (.tup (cutV xs lo hi)))
theorem sl_tup:SlR X (rSlT X.K):=by
 intro pins s σ H x v vl vu lo hi sl Q I rx hs pl pu h;obtain ⟨a,xs,rfl,hx,hw,q⟩:=h
 cases rx
 obtain ⟨its,r,ht,hz⟩:=I.tuple hx;have hlen:its.toArray.size=xs.length:=by rw [List.size_toArray];exact r.length.symm
 refine ⟨"tuple",_,PyProof.Rows.slot_tuple_getitem.lookup,ht.typeIs,?_⟩;refine HT.getItem_tuple_cut ht hs pl pu (by rw [hlen];exact hw) ?_ (by rw [hlen];exact hz);rw [hlen];refine ⟨.ref s.heap.objs.size,_,I.laid (t':=s.toks) (o:= .tup (cutV xs lo hi)) (fun b ob q=>Heap.get?_push_of_some _ q) (Nat.le_refl _) ?_,rfl,q _ (I.hok.fresh (Nat.le_refl _))⟩;exact ⟨Nat.le_trans (cutV_length xs lo hi) hz,_,(r.drop (HT.sIx xs.length 0 lo)).take (HT.sIx xs.length xs.length hi - HT.sIx xs.length 0 lo),IsTup.new _ _⟩
def rCatT(K:PySem.W.Frag):R2:=fun x y H Q=>∃a b xs ys,x = .ref a/\y = .ref b/\SqT K H a xs/\SqT K H b ys/\xs ≠ []/\xs.length+ys.length<=sizeLine /\
 (ys = []->Q (.ref a) H)/\(ys ≠ []->∀p,H p=none->Q (.ref p) (upd H p (.tup (xs++ys))))
theorem Vals.nil_iff{xs:List V}{us:List Value}(r:Vals xs us):us = []↔xs = []:=by
 cases r with
 | nil=>simp
 | cons _ _=>simp
theorem op_catT:OpR X (binaryOp .Add) (rCatT X.K):=by
 intro pins s σ H x y v u Q I rx ry h;obtain ⟨a,b,xs,ys,rfl,rfl,ha,hb,hx,hz,q1,q2⟩:=h
 cases rx
 cases ry
 obtain ⟨its,r1,p1,_⟩:=I.tuple ha;obtain ⟨its2,r2,p2,_⟩:=I.tuple hb;refine HT.cat_tup p1 p2 (fun z=>hx (r1.nil_iff.mp z)) (fun z=>⟨.ref a,H,I,rfl,q1 (r2.nil_iff.mp z)⟩) (fun z=> ?_) (by rw [<-r1.length, <-r2.length];exact hz);refine ⟨.ref s.heap.objs.size,_,I.laid (t':=s.toks) (o:= .tup (xs++ys)) (fun b ob q=>Heap.get?_push_of_some _ q) (Nat.le_refl _) ?_,rfl,q2 (fun w=>z (r2.nil_iff.mpr w)) _ (I.hok.fresh (Nat.le_refl _))⟩;exact ⟨by rw [List.length_append];exact hz,_,r1.append r2,IsTup.new _ _⟩
end
end L2
namespace L2
open PySem PySem.Spec PyProof.Rows
def ixN(n:Nat)(i:Int):Option Nat:=if 0<=i then (if i<n then some i.toNat else none) else if -(n:Int)<=i then some (i+n).toNat else none
def atI{α:Type}(xs:List α)(i:Int):Option α:=(ixN xs.length i).bind fun j=>xs[j]?
theorem ixN_seq{n:Nat}{i:Int}{j:Nat}(h:ixN n i=some j):seqIndex? i n=some j/\j<n /\ -(n:Int)<=i/\i<n:=by
 unfold ixN at h
 by_cases h0:0<=i
 . rw [if_pos h0] at h
   by_cases h1:i<n
   . rw [if_pos h1] at h
     have e:i.toNat=j:=Option.some.inj h;exact ⟨by rw [seqIndex_of h0 h1,e],by omega,by omega,h1⟩
   . rw [if_neg h1] at h;cases h
 . rw [if_neg h0] at h
   by_cases h1 : -(n:Int)<=i
   . rw [if_pos h1] at h
     have e:(i+n).toNat=j:=Option.some.inj h;exact ⟨by rw [seqIndex_neg (by omega) h1,e],by omega,h1,by omega⟩
   . rw [if_neg h1] at h;cases h
theorem atI_get{α:Type}{xs:List α}{i:Int}{v:α}(h:atI xs i=some v):∃j,seqIndex? i xs.length=some j/\xs[j]? = some v/\j<xs.length /\ -(xs.length:Int)<=i/\i<xs.length:=by
 unfold atI at h
 cases e:ixN xs.length i with
 | none=>rw [e] at h;cases h
 | some j=>
  rw [e] at h
  obtain ⟨h1,h2,h3,h4⟩:=ixN_seq e;exact ⟨j,h1,h,h2,h3,h4⟩
def PlainIx(b:Expr):Prop:=∀o i,subscripted b false o i=operate [o,i] (getItem o i)
def IxR(X:Cx)(r:R2):Prop:=
 ∀(value slice:Expr) (pins:List (Addr×Obj)) (s:Shared) (σ:St) (H:Hp) (x y:V) (v u:Value) (Q:VK),Inv X pins σ H s->RelV x v->RelV y u->r x y H Q ->
   subscripted slice false v u=operate [v,u] (getItem v u)->wpAny (model X.prog X.w) X.A (subscriptTail value slice v u) (EP X pins σ Q) X.xe s
def MtR(X:Cx)(id:String)(r:V->List V->Hp->VK->Prop):Prop:=
 ∀(pins:List (Addr×Obj)) (s:Shared) (σ:St) (H:Hp) (x:V) (xs:List V) (v:Value) (us:List Value) (Q:VK),Inv X pins σ H s->RelV x v->Vals xs us->r x xs H Q ->
   wpAny (model X.prog X.w) X.A (call (.builtin id) (v::us)) (EP X pins σ Q) X.xe s
section
variable {X:Cx} {a b:Expr} {ta tb:TE} {pos:Pos}
theorem IxR.or{r r':R2}(h:IxR X r)(h':IxR X r'):IxR X (fun x y H Q=>r x y H Q\/r' x y H Q):=by
 intro value slice pins s σ H x y v u Q I rx ry q hs;rcases q with q | q
 . exact h value slice pins s σ H x y v u Q I rx ry q hs
 . exact h' value slice pins s σ H x y v u Q I rx ry q hs
theorem pe_ix{r:R2}(hr:IxR X r)(ha:PE X a ta)(hb:PE X b tb)(hs:PlainIx b):PE X (.Subscript a b pos) (tOp r ta tb):=by
 intro pins s σ H Q I h;exact Subscript_ (binT ha hb I h fun v u s2 x y H2 I2 rx ry q=>hr a b pins s2 σ H2 x y v u Q I2 rx ry q (hs _ _))
def rIxL(K:PySem.W.Frag):R2:=fun x y H Q=>∃p xs i v,x = .ref p/\y = .int i/\SqL K H p xs/\atI xs i=some v/\Q v H
def rIxT(K:PySem.W.Frag):R2:=fun x y H Q=>∃p xs i v,x = .ref p/\y = .int i/\SqT K H p xs/\atI xs i=some v/\Q v H
def rIxS:R2:=fun x y H Q=>∃z i c,x = .str z/\y = .int i/\z.length<=sizeLine/\atI z.cps.toList i=some c/\Q (.str ⟨#[c]⟩) H
theorem ix_list:IxR X (rIxL X.K):=by
 intro value slice pins s σ H x y v u Q I rx ry h hs;obtain ⟨p,xs,i,z,rfl,rfl,hq,he,q⟩:=h
 cases rx
 obtain ⟨t,rfl⟩:=ry;obtain ⟨its,r,pl,hz⟩:=I.list hq;obtain ⟨j,h1,h2,h3,h4,h5⟩:=atI_get he;obtain ⟨w,ew,rw'⟩:=r.get h2;have hl:=r.length;have hn:=line63;have fin:EP X pins σ Q w s:=⟨z,H,I,rw',q⟩
 by_cases h0:0<=i
 . have hj : i.toNat = j := by
    rw [seqIndex_of h0 h5] at h1
    exact Option.some.inj h1
   exact item_listR pl.isList h0 (by omega) (by rw [hj];simpa using ew) fin hs
 . have hj : (i + (its.toArray.size : Int)).toNat = j := by
    rw [seqIndex_neg (by omega) h4] at h1
    rw [List.size_toArray, <-hl];exact Option.some.inj h1
   exact subscriptTail_builtinR (x:=w) pl.isList.typeIs slot_list_getitem.lookup
    (wpAny_getItem_list_neg (Q:=fun r s'=>r=w/\EP X pins σ Q r s') pl.isList (by omega) (by rw [List.size_toArray] <;> omega) (by omega) (by rw [hj];simpa using ew) ⟨rfl,fin⟩) hs
theorem ix_tup:IxR X (rIxT X.K):=by
 intro value slice pins s σ H x y v u Q I rx ry h hs;obtain ⟨p,xs,i,z,rfl,rfl,hq,he,q⟩:=h
 cases rx
 obtain ⟨t,rfl⟩:=ry;obtain ⟨its,r,pl,hz⟩:=I.tuple hq;obtain ⟨j,h1,h2,h3,h4,h5⟩:=atI_get he;obtain ⟨w,ew,rw'⟩:=r.get h2;have hl:=r.length;have hn:=line63;have fin:EP X pins σ Q w s:=⟨z,H,I,rw',q⟩
 exact subscriptTail_builtinR (x:=w) pl.typeIs slot_tuple_getitem.lookup
  (getItem_tuple (j:=j) (Q:=fun r s'=>r=w/\EP X pins σ Q r s') pl (by omega) (by omega) (by rw [List.size_toArray, <-hl];exact h1) (by simpa using ew) ⟨rfl,fin⟩) hs
theorem ix_str:IxR X rIxS:=by
 intro value slice pins s σ H x y v u Q I rx ry h hs;obtain ⟨z,i,c,rfl,rfl,hz,he,q⟩:=h;obtain ⟨t,rfl⟩:=rx;obtain ⟨t',rfl⟩:=ry;obtain ⟨j,h1,h2,h3,h4,h5⟩:=atI_get he;have hl:z.cps.toList.length=z.length:=by simp [Str.length]
 rw [hl] at h1 h4 h5
 have hn:=line63
 exact tail_any (typeIs_str s z t) slot_str_getitem.lookup (getItem_str (c:=c) (by
  have e1:decide (i < -(2 ^ 63:Int))=false:=decide_eq_false (by omega);have e2:decide (i≥2 ^ 63)=false:=decide_eq_false (by omega);rw [e1,e2,Bool.or_false]) (by rw [h1];simpa using h2) ⟨.str ⟨#[c]⟩,H,I.tok _,⟨_,rfl⟩,q⟩) hs
def rIx(K:PySem.W.Frag):R2:=fun x y H Q=>rIxL K x y H Q\/rIxT K x y H Q\/rIxS x y H Q
theorem ix_seq:IxR X (rIx X.K):=ix_list.or (ix_tup.or ix_str)
theorem slice_bounds(lo hi:Option Int)(n:Nat):(sliceBounds lo hi none n).1=((HT.sIx n 0 lo:Nat):Int)/\(sliceBounds lo hi none n).2.1=((HT.sIx n n hi:Nat):Int)/\(sliceBounds lo hi none n).2.2=1:=by
 refine ⟨?_,?_,rfl⟩
 . cases lo with
   | none=>simp [sliceBounds,HT.sIx]
   | some i=>
    simp only [sliceBounds,HT.sIx,Option.getD_none,show (1:Int)>0 by decide,if_true]
    by_cases h:i<0
    . simp only [h,if_true] <;> omega
    . simp only [h,if_false] <;> omega
 . cases hi with
   | none=>simp [sliceBounds,HT.sIx]
   | some i=>
    simp only [sliceBounds,HT.sIx,Option.getD_none,show (1:Int)>0 by decide,if_true]
    by_cases h:i<0
    . simp only [h,if_true] <;> omega
    . simp only [h,if_false] <;> omega
theorem slicePick_cut(its:List Value)(lo hi:Option Int):slicePick its.toArray lo hi none=((its.drop (HT.sIx its.length 0 lo)).take (HT.sIx its.length its.length hi - HT.sIx its.length 0 lo)).toArray:=by
 obtain ⟨h1,h2,h3⟩:=slice_bounds lo hi its.toArray.size;unfold slicePick;rw [h1,h2,h3];simp only [sliceRange_one,pick_run,List.size_toArray] <;> rfl
def rSlL(K:PySem.W.Frag):V->Option Int->Option Int->Hp->VK->Prop:=fun x lo hi H Q=>∃a xs,x = .ref a/\SqL K H a xs/\∀p,H p=none->Q (.ref p) (upd H p (.lst (cutV xs lo hi)))
theorem sl_list:SlR X (rSlL X.K):=by
 intro pins s σ H x v vl vu lo hi sl Q I rx hs pl pu h;obtain ⟨a,xs,rfl,hx,q⟩:=h
 cases rx
 obtain ⟨its,r,ht,hz⟩:=I.list hx;have hlen:=r.length;refine ⟨"list",_,slot_list_getitem.lookup,ht.isList.typeIs,?_⟩;refine wpAny_getItem_list_slice ht.isList hs pl pu .none (by simp) ?_ (by rw [List.size_toArray] <;> omega);rw [slicePick_cut, <-hlen];refine ⟨.ref s.heap.objs.size,_,I.laid (t':=s.toks) (o:= .lst (cutV xs lo hi)) (fun b ob q=>Heap.get?_push_of_some _ q) (Nat.le_refl _) ?_,rfl,q _ (I.hok.fresh (Nat.le_refl _))⟩;exact ⟨Nat.le_trans (cutV_length xs lo hi) hz,_,0,(r.drop (HT.sIx xs.length 0 lo)).take (HT.sIx xs.length xs.length hi - HT.sIx xs.length 0 lo),Heap.get?_push_size _ rfl⟩
theorem call_len_seq:CallR X (.builtin "len") (fun xs H Q=>∃p ys,xs = [.ref p]/\(SqL X.K H p ys\/SqT X.K H p ys)/\Q (.int ys.length) H):=by
 intro pins s σ H xs us Q I r h;obtain ⟨p,ys,rfl,hq,q⟩:=h;obtain ⟨u,rfl,rx⟩:=vals1 r
 cases rx
 have hn:=line63;rcases hq with hq | hq
 . obtain ⟨its,r',pl,hz⟩:=I.list hq;have hlen:=r'.length;exact Calls.call_len_list pl.isList (by simp only [List.size_toArray] <;> omega) ⟨.int ys.length,H,I.tok _,⟨s.toks+1,by rw [List.size_toArray,hlen]⟩,q⟩
 . obtain ⟨its,r',pl,hz⟩:=I.tuple hq;have hlen:=r'.length;exact len_tuple pl (by simp only [List.size_toArray] <;> omega) ⟨.int ys.length,H,I.tok _,⟨s.toks+1,by rw [List.size_toArray,hlen]⟩,q⟩
theorem call_list_of:CallR X (.type "list") (fun xs H Q=>∃p ys,xs = [.ref p]/\(SqL X.K H p ys\/SqT X.K H p ys)/\∀l,H l=none->Q (.ref l) (upd H l (.lst ys))):=by
 intro pins s σ H xs us Q I r h;obtain ⟨p,ys,rfl,hq,q⟩:=h;obtain ⟨u,rfl,rx⟩:=vals1 r
 cases rx
 have fin : ∀ (its : List Value), Vals ys its -> ys.length <= sizeLine -> ∀ (h' : Heap) (c' : Nat), (∀ b o', s.heap.get? b = some o' -> h'.get? b = some o') ->
  h'.get? s.heap.objs.size=some {cls:= .type "list",dict:=none,data:= .seq its.toArray c',slots:= #[]}->EP X pins σ Q (.ref s.heap.objs.size) {s with heap:=h' }:=fun its r' hz h' c' kp e=>
  ⟨.ref s.heap.objs.size,_,I.laid (t':=s.toks) kp (Nat.le_refl _) (show ObjOk X.prog X.w _ h' _ (.lst ys) from ⟨hz,its,c',r',e⟩),rfl,q _ (I.hok.fresh (Nat.le_refl _))⟩
 rcases hq with hq | hq
 . obtain ⟨its,r',pl,hz⟩:=I.list hq;have hlen:=r'.length;obtain ⟨o,ho,hc,n,hd⟩:=pl.isList;exact call_list_seq p (.inl rfl) ho hc hd (fun h' c' kp e=>fin its r' hz h' c' kp e) (by simp only [List.size_toArray] <;> omega)
 . obtain ⟨its,r',pl,hz⟩:=I.tuple hq;have hlen:=r'.length;obtain ⟨o,ho,hc,n,hd⟩:=pl;exact call_list_seq p (.inr rfl) ho hc hd (fun h' c' kp e=>fin its r' hz h' c' kp e) (by simp only [List.size_toArray] <;> omega)
theorem call_tuple_of:CallR X (.type "tuple") (fun xs H Q=>∃p ys,xs = [.ref p]/\((SqL X.K H p ys/\∀l,H l=none->Q (.ref l) (upd H l (.tup ys)))\/(SqT X.K H p ys/\Q (.ref p) H))):=by
 intro pins s σ H xs us Q I r h;obtain ⟨p,ys,rfl,h⟩:=h;obtain ⟨u,rfl,rx⟩:=vals1 r
 cases rx
 rcases h with ⟨hq,q⟩ | ⟨hq,q⟩
 . obtain ⟨its,r',pl,hz⟩:=I.list hq;have hlen:=r'.length;refine call_tuple_list pl.isList (fun h' kp=> ?_) (by simp only [List.size_toArray] <;> omega);have I1:Inv X pins σ H {s with heap:=h' }:=I.kept (t':=s.toks) kp
   have I2:Inv X pins σ (upd H h'.objs.size (.tup ys)) {s with heap:=h'.push {cls:= .type "tuple",data:= .seq its.toArray} } :=
    I1.laid (t':=s.toks) (fun b o e=>Heap.get?_push_of_some _ e) (Nat.le_refl _) (show ObjOk X.prog X.w _ _ _ (.tup ys) from ⟨hz,its,r',IsTup.new _ _⟩)
   exact ⟨.ref h'.objs.size,_,I2,rfl,q _ (I1.hok.fresh (Nat.le_refl _))⟩
 . obtain ⟨its,r',pl,hz⟩:=I.tuple hq;exact call_tuple_same pl ⟨.ref p,H,I,rfl,q⟩
def tyV(K:PySem.W.Frag)(T:String)(x:V)(H:Hp):Prop:=match x with
 | .str _=>T = "str"
 | .int _=>T = "int"
 | .ref p => (T = "list" /\ ∃ xs, SqL K H p xs) \/ (T = "tuple" /\ ∃ o, K.lookup p = some o /\ o.cls = .type "tuple" /\ o.dict = none) \/
  (T = "dict" /\ ((∃kvs,H p=some (.dK kvs))\/∃kvs,H p=some (.dT kvs)))\/(T = "set" /\ ∃S n,H p=some (.set S n))
 | _=>False
theorem tyV_is {pins : List (Addr × Obj)} {σ : St} {H : Hp} {s : Shared} {T : String} {x : V} {v : Value} (I : Inv X pins σ H s) (r : RelV x v) (ty : tyV X.K T x H) :
 s.TypeIs v T/\∀a,v = .ref a->∃ob,s.heap.get? a=some ob/\ob.dict=none:=by
 cases x with
 | str z=>
  obtain ⟨t,rfl⟩:=r
  cases (show T = "str" from ty)
  exact ⟨typeIs_str s z t,fun _ e=>nomatch e⟩
 | int i=>
  obtain ⟨t,rfl⟩:=r
  cases (show T = "int" from ty)
  exact ⟨typeIs_int s i t,fun _ e=>nomatch e⟩
 | ref p=>
  cases r
  rcases ty with ⟨rfl,xs,hq⟩ | ⟨rfl,o,hk,hc,hd⟩ | ⟨rfl,hk⟩ | ⟨rfl,S,n,hk⟩
  . obtain ⟨its,_,pl,_⟩:=I.list hq;refine ⟨pl.isList.typeIs,fun a e=> ?_⟩
    cases e
    obtain ⟨o,n,e,c,hd,_⟩:=pl;exact ⟨o,e,hd⟩
  . refine ⟨⟨o,I.kIn p o hk,hc⟩,fun a e=> ?_⟩
    cases e
    exact ⟨o,I.kIn _ o hk,hd⟩
  . have z : ∃ o, s.heap.get? p = some o /\ o.ExactDict := by
     rcases hk with ⟨kvs,hk⟩ | ⟨kvs,hk⟩
     . obtain ⟨_,_,_,_,o,_,_,e,ex,_⟩:=I.hok p _ hk;exact ⟨o,e,ex⟩
     . obtain ⟨_,_,_,_,o,_,_,e,ex,_⟩:=I.hok p _ hk;exact ⟨o,e,ex⟩
    obtain ⟨o,e,ex⟩:=z;refine ⟨⟨o,e,ex.1⟩,fun a e2=> ?_⟩
    cases e2
    exact ⟨o,e,ex.2.1⟩
  . obtain ⟨o,_,_,_,e,ex,_⟩:=I.hok p _ hk;refine ⟨⟨o,e,ex.1⟩,fun a e2=> ?_⟩
    cases e2
    exact ⟨o,e,ex.2.1⟩
 | _=>exact False.elim ty
def tBM(K:PySem.W.Frag)(T:String)(r:V->List V->Hp->VK->Prop)(to:TE)(t:TA):TE:=fun σ H Q=>to σ H fun x H1=>tyV K T x H1/\t σ H1 fun xs H2=>r x xs H2 Q
variable {o e:Expr} {es:List Expr} {to:TE} {t:TA} {name:Str} {apos cpos:Pos} {T id:String} {r:V->List V->Hp->VK->Prop}
theorem pe_bm (pa : PlainAttrs T) (slot : Slot T name id) (hty : typeOf (.builtin id) = pure (.type "method_descriptor")) (hm : MtR X id r) (ho : PE X o to) (ha : PA X (e :: es) t)
 (hbase:attributeBase o name X.env (eval o X.env)=eval o X.env:=by rfl)
 (hfew:((backTo cpos (starEach (e::es) X.env)).all (fun x=> !x.1) && (backToKw cpos (keywordEach [] X.env)).all (fun x=>x.1.isSome)
  && decide ((e::es).length+([]:List Keyword).length+(if ([]:List Keyword).isEmpty then 0 else 1)<30))=true:=by rfl)
 (hline:(apos.endLine==cpos.line)=true:=by rfl) (hs:starEach (e::es) X.env=(false,eval e X.env)::starEach es X.env:=by rfl) (hplain:(backTo cpos (starEach es X.env)).any (·.1)=false:=by rfl) :
 PE X (.Call (.Attribute o name apos) (e::es) [] cpos) (tBM X.K T r to t):=by
 intro pins s σ H Q I h;refine wpAny_Call_method_late hbase hfew hline rfl (thn (ho pins s σ H _ I h) fun v s1 ⟨x,H1,I1,r1,ty,q1⟩ => ?_);obtain ⟨h1,h2⟩:=tyV_is I1 r1 ty;refine ⟨T,id,pa,slot,hty,h1,h2,?_⟩;have hA:=ha cpos pins s1 σ H1 _ I1 q1;rw [hs] at hA ⊢
 refine Calls.callWith_builtin (by show (false || (backTo cpos (starEach es X.env)).any (·.1))=false;rw [hplain] <;> rfl) (Calls.evalArgs_plain ?_);exact thn hA fun us s2 ⟨vs,H2,I2,r2,q2⟩=>hm pins s2 σ H2 x vs v us Q I2 r1 r2 q2
/- xs.append(e),list.index on a module's tuple .. are MtR facts of 06m -/
end
end L2
namespace L2
open PySem PySem.Spec PyProof.Rows
def MtM(X:Cx)(id:String)(r:V->List V->Hp->VK->Prop):Prop:=
 ∀(pins:List (Addr×Obj)) (s:Shared) (σ:St) (H:Hp) (x:V) (xs:List V) (v:Value) (us:List Value) (Q:VK),Inv X pins σ H s->RelV x v->Vals xs us->r x xs H Q ->
   wpAny (model X.prog X.w) X.A (call (.builtin id) (v::us)) (EP X pins σ Q) X.xe s
theorem Vals.one:∀ {x:V} {us:List Value},Vals [x] us->∃u,us = [u]/\RelV x u
 | _,_, .cons r .nil=>⟨_,rfl,r⟩
theorem Vals.two:∀ {x y:V} {us:List Value},Vals [x,y] us->∃u v,us = [u,v]/\RelV x u/\RelV y v
 | _,_,_, .cons r (.cons q .nil)=>⟨_,_,rfl,r,q⟩
theorem Vals.reverse{xs:List V}{us:List Value}(h:Vals xs us):Vals xs.reverse us.reverse:=by
 induction h with
 | nil=>exact .nil
 | cons r t ih=>rw [List.reverse_cons,List.reverse_cons];exact Vals.append ih (.cons r .nil)
theorem Vals.rep{xs:List V}{us:List Value}(h:Vals xs us):∀k:Nat,Vals (List.replicate k xs).flatten (List.replicate k us).flatten
 | 0=> .nil
 | k+1=>by
  rw [List.replicate_succ,List.replicate_succ,List.flatten_cons,List.flatten_cons];exact Vals.append h (Vals.rep h k)
theorem foldl_rep (its : List Value) : ∀ (k : Nat) (acc : List Value),
 List.foldl (fun x1 x2=>x1++x2) acc.toArray (List.replicate k its.toArray)=(acc++(List.replicate k its).flatten).toArray
 | 0,acc=>by simp
 | k+1,acc=>by
  have e:acc.toArray++its.toArray=(acc++its).toArray:=by simp
  have e2:(acc++its)++(List.replicate k its).flatten=acc++(List.replicate (k+1) its).flatten:=by
   rw [List.replicate_succ,List.flatten_cons,List.append_assoc]
  rw [<-e2, <-foldl_rep its k (acc++its), <-e,List.replicate_succ,List.foldl_cons]
section
variable {X:Cx} {pins:List (Addr×Obj)} {σ:St} {H:Hp} {s:Shared} {l b:Addr} {xs ys zs:List V}
theorem Inv.lset {its its' : List Value} {n : Nat} {f : Array Value -> Array Value} {t' : Nat} (I : Inv X pins σ H s) (hH : H l = some (.lst xs))
 (e:s.heap.get? l=some {cls:= .type "list",data:= .seq its.toArray n}) (hf:f its.toArray=its'.toArray) (hv:Vals ys its') (hz:ys.length<=sizeLine) :
 Inv X pins σ (upd H l (.lst ys)) {s with heap:=s.heap.update l (Obj.mapSeq f),toks:=t' }:=by
 have q:=PySem.IsL.update e f;rw [hf] at q
 refine I.write (x:=l) (e:=l) (by rw [hH];exact trivial) (.inl rfl) (fun b' u hb hu=>(Heap.get?_update_other s.heap (Obj.mapSeq f) (Ne.symm hb)).trans hu) ⟨_,q⟩ ?_;exact ⟨hz,its',_,hv,q⟩
theorem Inv.lnew {its : List Value} {t' : Nat} (I : Inv X pins σ H s) (hv : Vals ys its) (hz : ys.length <= sizeLine) :
 Inv X pins σ (upd H s.heap.objs.size (.lst ys)) {s with heap:=s.heap.push {cls:= .type "list",data:= .seq its.toArray},toks:=t' } :=
 I.laid (fun _ _ q=>Heap.get?_push_of_some _ q) (Nat.le_refl _) ⟨hz,its,0,hv,Heap.get?_push_size _ rfl⟩
theorem Inv.fresh(I:Inv X pins σ H s):H s.heap.objs.size=none:=I.hok.fresh (Nat.le_refl _)
theorem Inv.lstM(I:Inv X pins σ H s)(hH:H l=some (.lst xs)):xs.length<=sizeLine/\∃(its:List Value) (n:Nat),Vals xs its/\xs.length=its.length/\s.heap.get? l=some {cls:= .type "list",data:= .seq its.toArray n}:=by
 obtain ⟨z,its,n,r,e⟩:=I.hok l _ hH;exact ⟨z,its,n,r,r.length,e⟩
theorem notLongL{n:Nat}(h:n<=sizeLine):Builtin.List.listTooLong n=false:=by
 unfold Builtin.List.listTooLong;exact decide_eq_false (by omega)
end
section
variable {X:Cx}
def rAppend:V->List V->Hp->VK->Prop:=fun x vs H Q=>∃l xs y,x = .ref l/\vs = [y]/\H l=some (.lst xs)/\xs.length<sizeLine/\Q .non (upd H l (.lst (xs ++ [y])))
theorem mt_append:MtM X "list.append" rAppend:=by
 intro pins s σ H x vs v us Q I rx rv h;obtain ⟨l,xs,y,rfl,rfl,hH,hz,q⟩:=h
 cases rx
 obtain ⟨u,rfl,ru⟩:=rv.one;obtain ⟨z,its,n,r,hl,e⟩:=I.lstM hH;refine call_meets F.slot_list_append ⟨_,e,rfl⟩ F.entry_list_append (F.args_list_append_2 _ _) (PySem.list_append l its.toArray n u (by rw [List.size_toArray];omega)) ⟨e,?_⟩;refine ⟨.non,_,I.lset (its':=its ++ [u]) hH e (by simp) (r.append (.cons ru .nil)) ?_,rfl,q⟩;rw [List.length_append,List.length_singleton];omega
def rExtend:V->List V->Hp->VK->Prop:=fun x vs H Q=>∃l b xs zs,x = .ref l/\vs = [.ref b]/\H l=some (.lst xs)/\H b=some (.lst zs)/\xs.length+zs.length<=sizeLine/\Q .non (upd H l (.lst (xs++zs)))
theorem mt_extend:MtM X "list.extend" rExtend:=by
 intro pins s σ H x vs v us Q I rx rv h;obtain ⟨l,b,xs,zs,rfl,rfl,hH,hB,hz,q⟩:=h
 cases rx
 obtain ⟨u,rfl,ru⟩:=rv.one
 cases ru
 obtain ⟨z,its,n,r,hl,e⟩:=I.lstM hH;obtain ⟨z2,its2,n2,r2,hl2,e2⟩:=I.lstM hB;have hsz:its.toArray.size+its2.toArray.size<=sizeLine:=by rw [List.size_toArray,List.size_toArray];omega
 have hlong:¬(!its.toArray.isEmpty && Builtin.List.listTooLong (its.toArray.size+its2.toArray.size))=true:=by
  rw [notLongL hsz,Bool.and_false];exact Bool.false_ne_true
 refine call_meets F.slot_list_extend ⟨_,e,rfl⟩ F.entry_list_extend (F.args_list_extend_2 _ _)
  (AutoSeq1.list_extend_list_list_0 l its.toArray n b its2.toArray n2 hlong (by rw [List.size_toArray];omega) (by omega)) ⟨e,e2,?_⟩
 refine ⟨.non,_,I.lset (its':=its++its2) hH e (by simp) (r.append r2) ?_,rfl,q⟩;rw [List.length_append];omega
def rRep:R2:=fun x y H Q=>∃l k xs,x = .ref l/\y = .int k/\H l=some (.lst xs) /\ -(2 ^ 63)<=k/\k<2 ^ 63/\xs.length*k.toNat<=sizeLine /\
 ∀p,H p=none->Q (.ref p) (upd H p (.lst (List.replicate k.toNat xs).flatten))
theorem len_rep{α:Type}(xs:List α)(k:Nat):(List.replicate k xs).flatten.length=k*xs.length:=by
 induction k with
 | zero=>simp
 | succ k ih=>rw [List.replicate_succ,List.flatten_cons,List.length_append,ih,Nat.succ_mul,Nat.add_comm]
theorem op_rep:OpR X (binaryOp .Mult) rRep:=by
 intro pins s σ H x y v u Q I rx ry h;obtain ⟨l,k,xs,rfl,rfl,hH,h1,h2,hz,q⟩:=h
 cases rx
 obtain ⟨t,rfl⟩:=ry;obtain ⟨z,its,n,r,hl,e⟩:=I.lstM hH;have hlen:its.toArray.size*k.toNat<=sizeLine:=by rw [List.size_toArray, <-hl];exact hz
 have hcap:¬its.toArray.size*k.toNat>(2 ^ 63 - 1) / 8:=by
  have:(sizeLine:Nat)<=(2 ^ 63 - 1) / 8:=by decide
  omega
 have hfit:¬(!Builtin.List.listFitsIndex k)=true:=by
  rw [fitsIndex_both h1 h2];exact Bool.false_ne_true
 have hlong:¬Builtin.List.listTooLong (its.toArray.size*k.toNat)=true:=by
  rw [notLongL hlen];exact Bool.false_ne_true
 have hnew:List.foldl (fun x1 x2=>x1++x2) #[] (List.replicate (if its.toArray.isEmpty=true then 0 else k.toNat) its.toArray)=(List.replicate k.toNat its).flatten.toArray:=by
  have f0:∀m:Nat,List.foldl (fun x1 x2=>x1++x2) #[] (List.replicate m its.toArray)=(List.replicate m its).flatten.toArray:=fun m=>by
   have:=foldl_rep its m [];rw [List.nil_append] at this
   exact this
  rw [f0]
  cases its with
  | nil=>simp
  | cons a r'=>rw [if_neg (by simp)]
 refine wpAny_binaryOp_repeat_ref (T:= "list") (U:= "int") (by decide) ⟨_,e,rfl⟩ (fun s'=>typeIs_int s' k t) noFill_list_mul F.fills_int_mul F.slot_int_rmul repeat_list F.slot_int_index.lookup
  (call_meets F.slot_int_rmul (typeIs_int s k t) F.entry_int_rmul (F.args_int_rmul_2 _ _) (int___rmul___int_list k t l its.toArray n)
   ⟨e,rfl,⟨_,e,rfl⟩,call_meets F.slot_list_mul ⟨_,e,rfl⟩ F.entry_list_mul (F.args_list_mul_2 _ _) (AutoListH.list___mul___list_int_3 l its.toArray n k t hfit hcap hlong) ⟨e,?_⟩⟩)
 rw [hnew];exact ⟨.ref _,_,I.lnew (t':=s.toks) (r.rep k.toNat) (by rw [len_rep,Nat.mul_comm];exact hz),rfl,q _ I.fresh⟩
end
section
variable {prog:Program} {w:World} {A:Around} {E:Value->Shared->Prop} {s:Shared}
end
section
variable {X:Cx}
end
end L2
namespace Att
open PySem PySem.W PySem.Calls PyProof.Rows
theorem ints_of_wellAll{P:Params}{h:Heap}:∀(ns:List Int) (vs:List Value),WellAll P h vs (ns.map WData.int)->IntsAre vs ns:=by
 intro ns
 induction ns with
 | nil=>
  intro vs w;rw [List.map_nil] at w
  cases w
  exact .nil
 | cons n ns ih=>
  intro vs w;rw [List.map_cons] at w
  cases w with
  | cons a b=>
   cases a
   exact .cons _ _ (ih _ b)
theorem script_of {l : OpenLaw} {n : Nat} (hn : l.most = some n) {P : Params} {h : Heap} {args : List WData} {vals : List Value}
 (hpre:l.row.toRowW.claim.pre args=true) (hwl:WellAll P h vals args) :
 ∃a vs ns,vals = [Value.ref a]/\args = [WData.list (ns.map WData.int)]/\h.get? a=some {cls:= .type "list",data:= .seq vs.toArray}/\IntsAre vs ns/\ns.length<=n:=by
 have hsh:WShape.hasAll [] args [.list .int]=true:=(pre_splitW hpre).1;have hc:l.pre.holds [] {args:=args}=true:=(pre_splitW hpre).2;obtain ⟨d,r,rfl,h1,h2⟩:=hasAllW_cons hsh;obtain rfl:=hasAllW_nil h2;obtain ⟨xs,rfl,h3⟩:=hasW_list h1;obtain ⟨ns,rfl⟩:=items_int h3
 have hlen:ns.length<=n:=by
  unfold OpenLaw.pre at hc
  have h4:(WTm.not (.lt (.lit (.int (n:Int))) (.len (.arg 0)))).holds [] {args:= [.list (ns.map .int)]}=true:=by
   have h4:=(holds_andW hc).1;rw [hn] at h4
   exact h4
  have h5:=condW_of h4 (w_not (w_lt w_lit (w_len_list (w_arg rfl))));rw [List.length_map] at h5
  refine Nat.le_of_not_lt fun q=> ?_;have q':(n:Int)<((ns.length:Nat):Int):=by omega
  first
   | (rw [decide_eq_true q'] at h5;exact absurd h5 (by decide))
   | (simp at h5;omega)
 cases hwl with
 | cons w1 w2=>
  cases w2
  cases w1 with
  | list ho hall=>exact ⟨_,_,ns,rfl,rfl,ho,ints_of_wellAll ns _ hall,hlen⟩
theorem post_true(l:OpenLaw)(args:List WData):l.row.toRowW.claim.post args (.bool true) args=true:=
 postW_of (r:=l.row.toRowW) (X:=(true==true))
  (show WShape.has [] (.bool true) .bool=true by first | rfl | decide | simp [WShape.has,WShape.arms,WShape.armsAll])
  (show (WTm.eq .res (.lit (.bool true))).value [] {args:=args,res:=some (.bool true),after:=args}=some (.bool (true==true)) from w_eq_bool (w_res rfl) w_lit) rfl
theorem attach_call {l : OpenLaw} {n : Nat} {q : Program} {loose : List Str} {XP : (Str -> Option Value) -> Heap -> Prop} {YP : World -> Heap -> Prop} {d : DefRec}
 (hn:l.most=some n) (hdf:d.params.defaults = [])
 (call:∀(w:World) (s₀ s₁:Shared) (mg mb:Str->Option Value) (fa:Addr) (o:Obj) (pm cd doc:Value) (a:Addr) (vs:List Value) (ns:List Int),
  Ground q loose [] XP w s₀ mg mb s₁.heap->YP w s₁.heap ->
  s₁.heap.get? fa=some o->o.data = .func (docDef d.name d.params d.body d.scope pm cd doc)->s₁.heap.CodeRec cd d.name->mg d.name=some (.ref fa) ->
  s₁.heap.get? a=some {cls:= .type "list",data:= .seq vs.toArray}->IntsAre vs ns->ns.length<=n->s₁.gens = #[] ->
  codeAny (model l.prog w) callerA (.call (.ref fa) ⟨[.ref a],[]⟩) (fun r s'=>r = .ok (.ret (.bool true))/\OldK s₁.heap s'.heap/\s'.os=s₁.os/\AllBare s'.gens) s₁) :
 WalkO q loose XP YP l.row.toRowW d [] (fun f vs=>PySem.call f vs):=by
 intro w s₀ s₁ mg mb G Y fa o pm cd doc dV kV ho hd hcd hD hmg hg args vals as hpre hlay hrd hwl hlo;obtain rfl:dV = .none:=Dflts.none hD hdf;obtain rfl:kV = .none:=Dflts.noKw hD;obtain ⟨a,vs,ns,rfl,rfl,hobj,hints,hlen⟩:=script_of hn hpre hwl;refine enter_call (codeAny_mono (call w s₀ s₁ mg mb fa o pm cd doc a vs ns G Y ho (fd_plain hd) hcd hmg hobj hints hlen hg) fun r s' hq=> ?_);obtain ⟨rfl,h2,h3,h4⟩:=hq;exact ⟨.inl ⟨.bool true, .bool true,[],rfl,fun _=>rfl, .bool true,post_true l _,fun _=>⟨List.Pairwise.nil,fun _ hm=>(nomatch hm)⟩⟩,h2,h3,h4⟩
section
variable {prog:Program} {w:World} {A:Around} {E:Value->Shared->Prop} {s:Shared} {K:Frag}
end
end Att
namespace L2
open PySem PySem.Spec PyProof.Rows
theorem vals_ints:∀ {vs:List Value} {ns:List Int},IntsAre vs ns->Vals (ns.map V.int) vs
 | _,_, .nil=> .nil
 | _,_, .cons n t h=> .cons ⟨t,rfl⟩ (vals_ints h)
end L2
namespace L2
open PySem PySem.Spec PyProof.Rows
def defArgs(s:Stmt):Arguments:=match s with
 | .FunctionDef _ a _ _ _ _ _ _ _ _=>a
 | _=>{posonlyargs:= [],args:= [],vararg:=none,kwonlyargs:= [],kw_defaults:= [],kwarg:=none,defaults:= []}
def defBody(s:Stmt):List Stmt:=match s with
 | .FunctionDef _ _ b _ _ _ _ _ _ _=>b
 | _=> []
def defScope(s:Stmt):Scope:=match s with
 | .FunctionDef _ _ _ _ _ _ sc _ _ _=>sc
 | _=>{kind:= .function,names:= [],isGenerator:=false,isCoroutine:=false}
abbrev CX0:CXT:=fun _ _ _ _ _ _=>False
abbrev E0:XK:=fun _ _ _=>False
theorem pass0{X:Cx}:Passes CX0 X E0:=fun _ _ _ _ _ _ _ h=>h.elim
structure Fun (K:PySem.W.Frag) (x qual:Str) (st:Stmt) (f:Addr) (fd:FuncData):Prop where
 ex:∃(oc:Value) (od:Option Addr) (kV doc pm:Value) (an:Option Addr) (cdv ct:Value) (osl:Array (Option Value)),
  fd=PySem.W.fnOf x qual (defArgs st) (defBody st) (defScope st) .none kV doc pm an cdv ct/\K.lookup f=some ⟨oc,od, .func fd,osl⟩/\PySem.W.codeIn K cdv qual=true
 kp:PySem.W.keepIn K (.ref f)=true
section
variable {P:Program} {w:World} {K:PySem.W.Frag} {mg:Str->Option Value} {base:Heap}
theorem Fun.ok {x qual : Str} {st : Stmt} {f : Addr} {fd : FuncData} {N ps : List Str} {k : Nat} {sp : Sp} (F : Fun K x qual st f fd) (S : FnScope N ps (defScope st)) (len : ∀ vs H Q E, sp vs H Q E -> vs.length = ps.length)
 (hbody:∀(cdv:Value) (A:Around) (outer:List Env) (s:Shared) (H:Hp) (vs:List V) (Q:VK) (E:XK),Room k (A.deeper (envOfC qual (defScope st) s.heap.objs.size f cdv))->sp vs H Q E ->
  ∃t,PSs (cxOf CX0 P w K mg base N qual (defScope st) f cdv A outer s H E).nox (defBody st) t/\t {nx:=fun _ H'=>Q .non H',rt:=Q} (start N vs) H):FnOk P w K mg base CX0 (k+1) f fd ps sp:=by
 obtain ⟨oc,od,kV,doc,pm,an,cdv,ct,osl,rfl,lk,hcd⟩:=F.ex;refine fn_of lk hcd S len fun A outer s H vs Q E hr hsp=> ?_;obtain ⟨t,h,q⟩:=hbody cdv A outer s H vs Q E hr hsp;exact ⟨t,h.nox,q⟩
theorem Fun.binds {x qual : Str} {st : Stmt} {f : Addr} {fd : FuncData} {ps : List Str} (F : Fun K x qual st f fd)
 (h:∀(kV doc pm:Value) (an:Option Addr) (cdv ct:Value) (us:List Value),us.length=ps.length->bindArgs (PySem.W.fnOf x qual (defArgs st) (defBody st) (defScope st) .none kV doc pm an cdv ct) ⟨us,[]⟩=pure (ps.zip us)):Binds K fd ps []:=by
 obtain ⟨oc,od,kV,doc,pm,an,cdv,ct,osl,rfl,lk,hcd⟩:=F.ex;exact .all (h kV doc pm an cdv ct)
theorem fun_mk {x qual : Str} {st : Stmt} {f : Addr} {oc : Value} {od an : Option Addr} {osl : Array (Option Value)} {kV doc pm cdv ct : Value} (l : K.lookup f = some ⟨oc, od, .func (PySem.W.fnOf x qual (defArgs st) (defBody st) (defScope st) .none kV doc pm an cdv ct), osl⟩)
 (c:PySem.W.codeIn K cdv qual=true) (k:PySem.W.keepIn K (.ref f)=true):Fun K x qual st f (PySem.W.fnOf x qual (defArgs st) (defBody st) (defScope st) .none kV doc pm an cdv ct):=⟨⟨oc,od,kV,doc,pm,an,cdv,ct,osl,rfl,l,c⟩,k⟩
end
section
variable {X:Cx}
end
theorem iteF{A B:Prop}(h:B):if false=true then A else B:=by
 rw [if_neg Bool.false_ne_true];exact h
theorem iteT{A B:Prop}(h:A):if true=true then A else B:=by
 rw [if_pos rfl];exact h
def Same(H H':Hp):Prop:=∀b o,H b=some o->H' b=some o
theorem Same.refl(H:Hp):Same H H:=fun _ _ h=>h
theorem Same.trans{H H1 H2:Hp}(a:Same H H1)(b:Same H1 H2):Same H H2:=fun c o h=>b c o (a c o h)
theorem Same.free{H H':Hp}(e:Same H H'){l:Addr}(h:H' l=Option.none):H l=Option.none:=by
 cases q:H l with
 | none=>rfl
 | some o=>
  rw [e l o q] at h
  cases h
theorem Same.seq{K:PySem.W.Frag}{H H':Hp}{a:Addr}{xs:List V}(e:Same H H')(h:SqL K H a xs):SqL K H' a xs:=by
 rcases h with (h | ⟨o,h⟩) | h
 . exact .inl (.inl (e _ _ h))
 . exact .inl (.inr ⟨o,e _ _ h⟩)
 . exact .inr h
end L2
namespace L2
open PySem PySem.Spec PyProof.Rows
section
variable {κ:Type} [DecidableEq κ]
def valV(kvs:List (κ×V))(k:κ):Option V:=(kvs.find? fun kv=>decide (kv.1=k)).map (·.2)
def putK(kvs:List (κ×V))(k:κ)(v:V):List (κ×V) :=
 if (kvs.any fun kv=>decide (kv.1=k))=true then kvs.map (fun kv=>if kv.1=k then (kv.1,v) else kv) else kvs ++ [(k,v)]
theorem valV_pos{p:κ×V}{r:List (κ×V)}{k:κ}(e:p.1=k):valV (p::r) k=some p.2:=by simp [valV,List.find?_cons,e]
theorem valV_neg{p:κ×V}{r:List (κ×V)}{k:κ}(e:¬p.1=k):valV (p::r) k=valV r k:=by simp [valV,List.find?_cons,e]
theorem RelO.getD{o:Option V}{u:Option Value}{d:V}{d':Value}(r:RelO o u)(rd:RelV d d'):RelV (o.getD d) (u.getD d'):=by
 cases o with
 | none=>cases u with
  | none=>exact rd
  | some _=>exact (show False from r).elim
 | some _=>cases u with
  | none=>exact (show False from r).elim
  | some _=>exact r
theorem KV.val{kvs:List (κ×V)}{vs:List (κ×Value)}(r:KV kvs vs)(k:κ):RelO (valV kvs k) (valueAt vs k):=by
 unfold KV at r
 induction r with
 | nil=>exact True.intro
 | @cons p q ps qs h t ih=>
  obtain ⟨h1,h2⟩:=h
  by_cases e:p.1=k
  . have e':q.1=k:=h1.symm.trans e;have b:valueAt (q::qs) k=some q.2:=by simp [valueAt,List.find?_cons,e']
    rw [valV_pos e,b];exact h2
  . have e':¬q.1=k:=fun z=>e (h1.trans z);have b:valueAt (q::qs) k=valueAt qs k:=by simp [valueAt,List.find?_cons,e']
    rw [valV_neg e,b];exact ih
theorem KV.any{kvs:List (κ×V)}{vs:List (κ×Value)}(r:KV kvs vs)(k:κ):(kvs.any fun kv=>decide (kv.1=k))=vs.any fun kv=>decide (kv.1=k):=by
 unfold KV at r
 induction r with
 | nil=>rfl
 | cons h t ih=>rw [List.any_cons,List.any_cons,ih,h.1]
theorem KV.length{kvs:List (κ×V)}{vs:List (κ×Value)}(r:KV kvs vs):kvs.length=vs.length:=Paired.length r
end
abbrev KT (H:Hp):List (List Key×V)->List (List Key×Addr×Value)->Prop:=Paired fun p q=>p.1=q.1/\H q.2.1=some (.tup (p.1.map kV))/\RelV p.2 q.2.2
theorem KT.val{H:Hp}{kvs:List (List Key×V)}{xs:List (List Key×Addr×Value)}(r:KT H kvs xs)(k:List Key):RelO (valV kvs k) ((atKey xs k).map (·.2)):=by
 induction r with
 | nil=>exact True.intro
 | @cons p q ps qs h t ih=>
  obtain ⟨h1,_,h2⟩:=h
  by_cases e:p.1=k
  . have e':q.1=k:=h1.symm.trans e;have b:atKey (q::qs) k=some q.2:=by simp [atKey,List.find?_cons,e']
    rw [valV_pos e,b];exact h2
  . have e':¬q.1=k:=fun z=>e (h1.trans z);have b:atKey (q::qs) k=atKey qs k:=by simp [atKey,List.find?_cons,e']
    rw [valV_neg e,b];exact ih
theorem KT.keeps{H H':Hp}{kvs:List (List Key×V)}{xs:List (List Key×Addr×Value)}(r:KT H kvs xs)(ht:∀b ys,H b=some (.tup ys)->H' b=some (.tup ys)):KT H' kvs xs:=
 Paired.mapP r fun _ _ z=>⟨z.1,ht _ _ z.2.1,z.2.2⟩
section
variable {P:Program} {w:World} {H:Hp} {h:Heap} {a:Addr}
end
def DGet(H:Hp)(a:Addr)(y:V)(r:Option V):Prop:=
 (∃kvs k,Rd H a (.dK kvs)/\y=kV k/\r=valV kvs k)\/∃kvs k b,Rd H a (.dT kvs)/\y = .ref b/\H b=some (.tup (k.map kV))/\r=valV kvs k
def DPut(H:Hp)(a:Addr)(y v:V)(H':Hp):Prop:=
 (∃kvs k,H a=some (.dK kvs)/\y=kV k/\kvs.length<sizeLine/\H'=upd H a (.dK (putK kvs k v))) \/
 ∃kvs k b,H a=some (.dT kvs)/\y = .ref b/\H b=some (.tup (k.map kV))/\kvs.length<sizeLine/\H'=upd H a (.dT (putK kvs k v))
theorem DGet.k{H:Hp}{a:Addr}{kvs:List (Key×V)}{k:Key}(e:H a=some (.dK kvs)):DGet H a (kV k) (valV kvs k):= .inl ⟨kvs,k, .inl e,rfl,rfl⟩
theorem DGet.t{H:Hp}{a b:Addr}{kvs:List (List Key×V)}{k:List Key}(e:H a=some (.dT kvs))(eb:H b=some (.tup (k.map kV))):DGet H a (.ref b) (valV kvs k):= .inr ⟨kvs,k,b, .inl e,rfl,eb,rfl⟩
theorem DPut.k{H:Hp}{a:Addr}{kvs:List (Key×V)}{k:Key}{v:V}(e:H a=some (.dK kvs))(hl:kvs.length<sizeLine):DPut H a (kV k) v (upd H a (.dK (putK kvs k v))):= .inl ⟨kvs,k,e,rfl,hl,rfl⟩
theorem DPut.t {H : Hp} {a b : Addr} {kvs : List (List Key × V)} {k : List Key} {v : V} (e : H a = some (.dT kvs)) (eb : H b = some (.tup (k.map kV))) (hl : kvs.length < sizeLine) :
 DPut H a (.ref b) v (upd H a (.dT (putK kvs k v))):= .inr ⟨kvs,k,b,e,rfl,eb,hl,rfl⟩
section
variable {X:Cx} {pins:List (Addr×Obj)} {σ:St} {H:Hp} {s:Shared} {a:Addr} {y v:V} {u r:Value} {o:Option V} {A:Around} {E:Value->Shared->Prop}
end
section
variable {X:Cx} {pins:List (Addr×Obj)} {σ:St} {H:Hp} {s:Shared} {a:Addr} {kvs:List (Key×V)} {k:Key} {u:Value} {A:Around} {E:Value->Shared->Prop}
end
section
variable {X:Cx} {o i e value:Expr} {pos pos' tpos:Pos} {td ty tv:TE}
end
section
variable {X:Cx} {pos:Pos}
end
structure M1 (X:Cx) (o:Expr) (m:Str) (apos:Pos) (e:Expr) (cpos:Pos):Prop where
 base:attributeBase o m X.env (eval o X.env)=eval o X.env
 few:((backTo cpos (starEach [e] X.env)).all (fun x=> !x.1) && (backToKw cpos (keywordEach [] X.env)).all (fun x=>x.1.isSome)
  && decide (([e]:List Expr).length+([]:List Keyword).length+(if ([]:List Keyword).isEmpty then 0 else 1)<30))=true
 line:(apos.endLine==cpos.line)=true
 trees:backTo cpos (starEach [e] X.env) = [(false,eval e X.env)]
structure M2 (X:Cx) (o:Expr) (m:Str) (apos:Pos) (e f:Expr) (cpos:Pos):Prop where
 base:attributeBase o m X.env (eval o X.env)=eval o X.env
 few:((backTo cpos (starEach [e,f] X.env)).all (fun x=> !x.1) && (backToKw cpos (keywordEach [] X.env)).all (fun x=>x.1.isSome)
  && decide (([e,f]:List Expr).length+([]:List Keyword).length+(if ([]:List Keyword).isEmpty then 0 else 1)<30))=true
 line:(apos.endLine==cpos.line)=true
 trees:backTo cpos (starEach [e,f] X.env) = [(false,eval e X.env),(false,eval f X.env)]
section
variable {X:Cx} {pins:List (Addr×Obj)} {σ:St} {H:Hp} {s:Shared} {a:Addr} {y d:V} {u r:Value} {o:Option V} {A:Around} {E:Value->Shared->Prop}
end
section
variable {X:Cx} {o e f:Expr} {apos cpos:Pos} {td ty tx:TE}
end
section
variable {X:Cx} {pins:List (Addr×Obj)} {σ:St} {H:Hp} {s:Shared} {a:Addr} {kvs:List (Key×V)} {A:Around} {E:Value->Shared->Prop}
end
section
variable {X:Cx} {pins:List (Addr×Obj)} {σ:St} {H:Hp} {s:Shared} {a:Addr} {y:V} {u:Value} {A:Around} {E:Value->Shared->Prop}
end
section
variable {κ:Type} [DecidableEq κ]
end
end L2
namespace Tf
open PySem PySem.Spec PyProof.Rows L2
theorem bt_isinstance:bootBuiltins "isinstance" = some (.builtin "isinstance"):=by decide +kernel
theorem bt_len:bootBuiltins "len" = some (.builtin "len"):=by decide +kernel
theorem bt_sorted:bootBuiltins "sorted" = some (.builtin "sorted"):=by decide +kernel
theorem bt_all:bootBuiltins "all" = some (.builtin "all"):=by decide +kernel
theorem bt_int:bootBuiltins "int" = some (.type "int"):=by decide +kernel
theorem bt_bool:bootBuiltins "bool" = some (.type "bool"):=by decide +kernel
theorem bt_list:bootBuiltins "list" = some (.type "list"):=by decide +kernel
theorem bt_tuple:bootBuiltins "tuple" = some (.type "tuple"):=by decide +kernel
theorem bt_range:bootBuiltins "range" = some (.type "range"):=by decide +kernel
theorem bt_zip:bootBuiltins "zip" = some (.type "zip"):=by decide +kernel
def Bt(n:Nat)(i:Int):Prop:=i.natAbs<2 ^ n
theorem Bt.mul{n m:Nat}{i j:Int}(h:Bt n i)(k:Bt m j):Bt (n+m) (i*j):=by
 unfold Bt at *
 rw [Int.natAbs_mul,Nat.pow_add];exact Nat.mul_lt_mul_of_lt_of_le h (Nat.le_of_lt k) (Nat.lt_of_le_of_lt (Nat.zero_le _) k)
theorem Bt.neg{n:Nat}{i:Int}(h:Bt n i):Bt n (-i):=by
 unfold Bt at *
 rw [Int.natAbs_neg];exact h
theorem Bt.natAbs{n:Nat}{i:Int}(h:Bt n i):Bt n (i.natAbs:Int):=by
 unfold Bt at *
 simpa using h
theorem Bt.of_le{n:Nat}{i j:Int}(h:Bt n j)(k:i.natAbs<=j.natAbs):Bt n i:=Nat.lt_of_le_of_lt k h
theorem Bt.fdiv{n:Nat}{i j:Int}(h:Bt n i):Bt n (i.fdiv j):=by
 refine h.of_le ?_
 by_cases hj:j=0
 . subst hj;simp
 . have key : ∀ (a b : Int), 0 < b -> (a.fdiv b).natAbs <= a.natAbs := by
    intro a b hb;rw [Int.fdiv_eq_ediv_of_nonneg a (Int.le_of_lt hb)];exact Int.natAbs_ediv_le_natAbs a b
   rcases (by omega:0<j\/j<0) with p | p
   . exact key i j p
   . have:=key (-i) (-j) (by omega);rw [Int.neg_fdiv_neg] at this
     simpa using this
theorem Bt.fmod{n:Nat}{i j:Int}(hj:j≠0)(h:Bt n j):Bt n (i.fmod j):=by
 refine h.of_le ?_;rcases (by omega:0<j\/j<0) with p | p
 . have h1:=Int.fmod_nonneg_of_pos i p;have h2:=Int.fmod_lt_of_pos i p;omega
 . have e : i.fmod j = -((-i).fmod (-j)) := by
    rw [Int.fmod_def,Int.fmod_def,Int.neg_fdiv_neg];simp [Int.neg_mul];omega
   have h1:=Int.fmod_nonneg_of_pos (-i) (show 0 < -j by omega);have h2:=Int.fmod_lt_of_pos (-i) (show 0 < -j by omega);omega
theorem Bt.bits{n:Nat}{i:Int}(h:Bt n i):Builtin.Int.intBits i<=n:=by
 unfold Builtin.Int.intBits
 split
 . exact Nat.zero_le _
 . rename_i hz
   have h0:i.natAbs≠0:=by
    intro e;apply hz;have:i=0:=by omega
    subst this;rfl
   exact (Nat.log2_lt h0).mpr h
theorem Bt.log{n:Nat}{i:Int}(h:Bt n i)(hn:0<n):i.natAbs.log2<n:=by
 by_cases h0:i.natAbs=0
 . rw [h0];simpa using hn
 . exact (Nat.log2_lt h0).mpr h
theorem mulOk{n m:Nat}{i j:Int}(h:Bt n i)(k:Bt m j)(hn:n+m<=134217728):IntMulOk i j:=by
 unfold IntMulOk;have hb1:=h.bits;have hb2:=k.bits
 have:Builtin.Int.intTooBig (Builtin.Int.intBits i+Builtin.Int.intBits j)=false:=by
  unfold Builtin.Int.intTooBig;apply decide_eq_false;unfold bitsLine;have:(2:Nat) ^ 27=134217728:=by decide
  rw [this];omega
 rw [this];simp
def CMulB(i j:Int):Prop:=∃n m,Bt n i/\Bt m j/\n+m<=134217728
def CDivB(_i j:Int):Prop:=j≠0/\Bt 9000 j
section
variable {X:Cx}
theorem op_fdivB:OpR X (binaryOp .FloorDiv) (rI CDivB fun i j=> .int (i.fdiv j)):=opI fun _ _ _ _ _ _ _ hc q=>floordiv_int hc.1 q (.inl (PyProof.noPylong_of_log2 (hc.2.log (by decide))))
theorem Bt.lit{n:Nat}{i:Int}(h:decide (i.natAbs<2 ^ n)=true):Bt n i:=(of_decide_eq_true h:i.natAbs<2 ^ n)
theorem pe_ty {x:Str} {T:String} {pos:Pos} (hg:Gl X x) (hm:X.mg x=none) (hv:bootBuiltins x=some (.type T)) (hn:x ≠ "__name__" :=by decide) (hd:(x==("__debug__" : Str))=false:=by decide):PE X (.Name x pos) (tC (.ty T)) :=
 pe_bltn hg hm hv rfl hn hd
inductive TyV (K:PySem.W.Frag) (H:Hp):V->String->Prop where
 | non:TyV K H .non "NoneType"
 | bl (x:Bool):TyV K H (.bl x) "bool"
 | int (i:Int):TyV K H (.int i) "int"
 | str (x:Str):TyV K H (.str x) "str"
 | lst {a:Addr} {xs:List V} (e:SqL K H a xs):TyV K H (.ref a) "list"
 | tup {a:Addr} {xs:List V} (e:SqT K H a xs):TyV K H (.ref a) "tuple"
theorem isinst_ty {pins : List (Addr × Obj)} {σ : L2.St} {H : Hp} {s : Shared} {A : Around} {E : Value -> Shared -> Prop} {Q : Value -> Shared -> Prop} {c : Value} {b : Bool} {x : V} {u : Value} {t : String} (I : Inv X pins σ H s) (rx : RelV x u) (ty : TyV X.K H x t) (e : PySem.W.kitOne X.K (.type t) c = some b) (h : ∀ tk, Q (.bool b) { s with toks := tk }) :
 wpAny (model X.prog X.w) A (call (.builtin "isinstance") [u,c]) Q E s:=by
 cases ty with
 | non=>cases (show u=Value.none from rx);exact PySem.W.kia_one PySem.W.kitx_none I.kIn True.intro e (fun z=>nomatch z) h
 | bl y=>cases (show u=Value.bool y from rx);exact PySem.W.kia_one PySem.W.kitx_bool I.kIn True.intro e (fun z=>nomatch z) h
 | int i=>obtain ⟨t,q⟩:=(show ∃t,u=Value.int i t from rx);cases q;exact PySem.W.kia_one PySem.W.kitx_int I.kIn True.intro e (fun z=>nomatch z) h
 | str y=>obtain ⟨t,q⟩:=(show ∃t,u=Value.str y t from rx);cases q;exact PySem.W.kia_one PySem.W.kitx_str I.kIn True.intro e (fun z=>nomatch z) h
 | @lst a xs ea=>
  cases (show u=Value.ref a from rx)
  obtain ⟨its,_,⟨o,n,h1,h2,_⟩,_⟩:=I.list ea
  exact PySem.W.kia_one PySem.W.kitx_list I.kIn ⟨o,h1,h2⟩ e (fun z=>nomatch z) h
 | @tup a xs ea=>
  cases (show u=Value.ref a from rx)
  obtain ⟨its,_,⟨o,h1,h2,_⟩,_⟩:=I.tuple ea;exact PySem.W.kia_one PySem.W.kitx_tuple I.kIn ⟨o,h1,h2⟩ e (fun z=>nomatch z) h
def rIsI(K:PySem.W.Frag):List V->Hp->VK->Prop:=fun xs H Q=>∃x n t b,xs = [x, .ty n]/\TyV K H x t/\PySem.W.kitOne K (.type t) (.type n)=some b/\Q (.bl b) H
theorem call_isi:CallR X (.builtin "isinstance") (rIsI X.K):=by
 intro pins s σ H xs us Q I r h;obtain ⟨x,n,t,b,rfl,ty,e,q⟩:=h;obtain ⟨u,w',rfl,rx,rn⟩:=vals2 r
 cases (show w'=Value.type n from rn)
 exact isinst_ty I rx ty e fun tk=>⟨.bl b,H,I.tok _,rfl,q⟩
def keyD:Key->PyData
 | .inl i=> .int i
 | .inr x=> .str x
def tupD(k:List Key):PyData:= .tuple (k.map keyD)
def mkD:PyData×PyData:=(.none, .none)
mutual
inductive Rep (K:PySem.W.Frag) (H:Hp):V->PyData->Prop
 | none:Rep K H .non .none
 | bool (b:Bool):Rep K H (.bl b) (.bool b)
 | int (i:Int):Rep K H (.int i) (.int i)
 | str (x:Str):Rep K H (.str x) (.str x)
 | list {a:Addr} {xs:List V} {ds:List PyData}:SqL K H a xs->Reps K H xs ds->Rep K H (.ref a) (.list ds)
 | tuple {a:Addr} {xs:List V} {ds:List PyData}:H a=some (.tup xs)->Reps K H xs ds->Rep K H (.ref a) (.tuple ds)
 | dict {a:Addr} {ks:List (List Key)} {xs:List V} {ds:List PyData}:Rd H a (.dT (ks.zip xs))->ks.length=xs.length->Reps K H xs ds->Rep K H (.ref a) (.dict ((ks.map tupD).zip ds))
 | dictF {a:Addr} {o:Obj} {ks:List (List Key)} {xs:List V} {ds:List PyData}:H a=some (.frz o (.dT (ks.zip xs)))->ks.length=xs.length->Reps K H xs ds->Rep K H (.ref a) (.dict (mkD::(ks.map tupD).zip ds))
inductive Reps (K:PySem.W.Frag) (H:Hp):List V->List PyData->Prop
 | nil:Reps K H [] []
 | cons {v:V} {vs:List V} {d:PyData} {ds:List PyData}:Rep K H v d->Reps K H vs ds->Reps K H (v::vs) (d::ds)
end
theorem Reps.length{K:PySem.W.Frag}{H:Hp}:∀ {vs:List V} {ds:List PyData},Reps K H vs ds->vs.length=ds.length
 | _,_, .nil=>rfl
 | _,_, .cons _ t=>by rw [List.length_cons,List.length_cons,Reps.length t]
mutual
theorem Rep.reads{pins:List (Addr×Obj)}{σ:L2.St}{H:Hp}{s:Shared}(I:Inv X pins σ H s):∀ {v:V} {d:PyData} {u:Value},Rep X.K H v d->RelV v u->d.canLay0=true->∃as,Reads s.heap u d as
 | _,_,_, .none,r,_=>by cases (show _=Value.none from r);exact ⟨_, .none⟩
 | _,_,_, .bool b,r,_=>by cases (show _=Value.bool b from r);exact ⟨_, .bool b⟩
 | _,_,_, .int i,r,_=>by obtain ⟨t,q⟩:=(show ∃t,_=Value.int i t from r);cases q;exact ⟨_, .int i t⟩
 | _,_,_, .str x,r,_=>by obtain ⟨t,q⟩:=(show ∃t,_=Value.str x t from r);cases q;exact ⟨_, .str x t⟩
 | _,_,_, .list (a:=a) h hs,r,c=>by
  cases (show _=Value.ref a from r)
  obtain ⟨its,rv,⟨o,n,h1,h2,_,h3⟩,_⟩:=I.list h;obtain ⟨as,ra⟩:=Reps.reads I hs rv (by simpa [PyData.canLay0] using c)
  exact ⟨_, .list h1 h2 h3 (by simpa using ra)⟩
 | _,_,_, .tuple (a:=a) h hs,r,c=>by
  cases (show _=Value.ref a from r)
  obtain ⟨its,rv,⟨o,h1,h2,n,h3⟩,_⟩:=I.tuple (SqT.of h);obtain ⟨as,ra⟩:=Reps.reads I hs rv (by simpa [PyData.canLay0] using c)
  exact ⟨_, .tuple h1 h2 h3 (by simpa using ra)⟩
 | _,_,_, .dict _ _ _,_,c=>by simp [PyData.canLay0] at c
 | _,_,_, .dictF _ _ _,_,c=>by simp [PyData.canLay0] at c
theorem Reps.reads{pins:List (Addr×Obj)}{σ:L2.St}{H:Hp}{s:Shared}(I:Inv X pins σ H s):∀ {vs:List V} {ds:List PyData} {us:List Value},Reps X.K H vs ds->Vals vs us->PyData.canLayAll0 ds=true->∃as,ReadsAll s.heap us ds as
 | _,_,_, .nil,r,_=>by cases r;exact ⟨_, .nil⟩
 | _,_,_, .cons h hs,r,c=>by
  have c:=Bool.and_eq_true_iff.mp (show (_ && _)=true by rw [<-PyData.canLayAll0];exact c)
  cases r with
  | cons r1 r2=>
   obtain ⟨as,q⟩:=Rep.reads I h r1 c.1;obtain ⟨bs,q2⟩:=Reps.reads I hs r2 c.2;exact ⟨_, .cons q q2⟩
end
theorem layAll_of:∀ {ds:List PyData},(∀d ∈ ds,d.canLay0=true)->PyData.canLayAll0 ds=true
 | [],_=>by simp [PyData.canLayAll0]
 | d::ds,h=>by
  simp only [PyData.canLayAll0,Bool.and_eq_true];exact ⟨h d List.mem_cons_self,layAll_of fun e he=>h e (List.mem_cons_of_mem _ he)⟩
def rEqD(K:PySem.W.Frag):R2:=fun x y H Q=>∃dx dy,Rep K H x dx/\Rep K H y dy/\dx.canLay0=true/\dy.canLay0=true/\min dx.depth dy.depth<=60/\Q (.bl (PyData.eqv dx dy)) H
def rNeD(K:PySem.W.Frag):R2:=fun x y H Q=>∃dx dy,Rep K H x dx/\Rep K H y dy/\dx.canLay0=true/\dy.canLay0=true/\min dx.depth dy.depth<=60/\Q (.bl (!PyData.eqv dx dy)) H
theorem op_eqD(hu:X.A.units+64<cLine):OpR X (compareOp .Eq) (rEqD X.K):=by
 intro pins s σ H x y v u Q I rx ry h;obtain ⟨dx,dy,h1,h2,c1,c2,hd,q⟩:=h;obtain ⟨as,r1⟩:=h1.reads I rx c1;obtain ⟨bs,r2⟩:=h2.reads I ry c2;exact SeqAt.compareEq_reads r1 r2 c1 c2 (by omega) ⟨.bl _,H,I,rfl,q⟩
theorem op_neD(hu:X.A.units+64<cLine):OpR X (compareOp .NotEq) (rNeD X.K):=by
 intro pins s σ H x y v u Q I rx ry h;obtain ⟨dx,dy,h1,h2,c1,c2,hd,q⟩:=h;obtain ⟨as,r1⟩:=h1.reads I rx c1;obtain ⟨bs,r2⟩:=h2.reads I ry c2;exact SeqAt.compareNe_reads r1 r2 c1 c2 (by omega) ⟨.bl _,H,I,rfl,q⟩
end
theorem _root_.L2.Same.upd{H:Hp}{p:Addr}(h:H p=none)(o:HO):Same H (L2.upd H p o):=fun b u q=>by rw [upd_ne (ne_of_none q h)];exact q
theorem _root_.L2.Same.seqT{K:PySem.W.Frag}{H H':Hp}{a:Addr}{xs:List V}(e:Same H H')(h:SqT K H a xs):SqT K H' a xs:=by
 rcases h with (h | ⟨o,h⟩) | h
 . exact .inl (.inl (e _ _ h))
 . exact .inl (.inr ⟨o,e _ _ h⟩)
 . exact .inr h
theorem Rd.same{H H':Hp}{a:Addr}{u:HO}(e:Same H H')(h:Rd H a u):Rd H' a u:=by
 rcases h with h | ⟨o,h⟩
 . exact .inl (e _ _ h)
 . exact .inr ⟨o,e _ _ h⟩
mutual
theorem Rep.same{K:PySem.W.Frag}{H H':Hp}(e:Same H H'):∀ {v:V} {d:PyData},Rep K H v d->Rep K H' v d
 | _,_, .none=> .none
 | _,_, .bool b=> .bool b
 | _,_, .int i=> .int i
 | _,_, .str x=> .str x
 | _,_, .list h hs=> .list (e.seq h) (Reps.same e hs)
 | _,_, .tuple h hs=> .tuple (e _ _ h) (Reps.same e hs)
 | _,_, .dict h hl hs=> .dict (Rd.same e h) hl (Reps.same e hs)
 | _,_, .dictF h hl hs=> .dictF (e _ _ h) hl (Reps.same e hs)
theorem Reps.same{K:PySem.W.Frag}{H H':Hp}(e:Same H H'):∀ {vs:List V} {ds:List PyData},Reps K H vs ds->Reps K H' vs ds
 | _,_, .nil=> .nil
 | _,_, .cons h hs=> .cons (Rep.same e h) (Reps.same e hs)
end
section
variable {CX:CXT} {P:Program} {w:World} {K:PySem.W.Frag} {mg:Str->Option Value} {base:Heap} {N:List Str} {qual:Str} {scope:Scope} {f:Addr} {cd:Value} {A:Around} {outer:List Env} {s:Shared} {H:Hp} {E:XK}
end
structure Def (P:Program) (w:World) (K:PySem.W.Frag) (mg:Str->Option Value) (base:Heap) (k:Nat) (x:Str) (ps:List Str) (sp:Sp):Prop where
 ex:∃f fd,FnOk P w K mg base CX0 k f fd ps sp/\mg x=some (.ref f)/\PySem.W.keepIn K (.ref f)=true/\Binds K fd ps []
section
variable {X:Cx} {k j:Nat} {x:Str} {ps:List Str} {sp:Sp} {p pos:Pos} {e:Expr} {es:List Expr} {t:TA}
theorem pe_callD (D : Def X.prog X.w X.K X.mg X.base j x ps sp) (hr : Room k X.A) (ha : PA X (e :: es) t) (hj : j <= k := by decide) (hg : Gl X x := by rfl)
 (hdb:(x==("__debug__" : Str))=false:=by decide) (he:starEach (e::es) X.env=(false,eval e X.env)::starEach es X.env:=by rfl) (hpl:(backTo pos (starEach es X.env)).any (·.1)=false:=by rfl) :
 PE X (.Call (.Name x p) (e::es) [] pos) (tCall sp [] E0 t):=by
 obtain ⟨f,fd,F,hm,hk,hb⟩:=D.ex;exact pe_call F (hr.mono hj) hg hm hk hb .nil pass0 ha hdb he hpl
end
end Tf
namespace Tf
open PySem PySem.Spec PyProof.Rows L2
def closL(cells:List (Str×Addr)):List (Str×NameKind)->List (Str×Addr)->List (Str×Addr)
 | [],acc=>acc
 | (n,k)::r,acc=>if k == .free then closL cells r ((n,(cells.lookup n).getD 0)::acc) else closL cells r acc
theorem closL_forIn {env : Env} : ∀ (names : List (Str × NameKind)) (acc : List (Str × Addr)), (∀ y ∈ names, y.2 = .free -> ∃ c, env.cells.lookup y.1 = some c) ->
 (forIn names acc fun (x:Str×NameKind) (r:List (Str×Addr))=>(match x with | (name,kind)=>if (kind==NameKind.free)=true then do let a <-cellOf env name;pure (ForInStep.yield ((name,a)::r)) else pure (ForInStep.yield r):Sem (ForInStep (List (Str×Addr)))))=pure (closL env.cells names acc)
 | [],acc,_=>by rw [List.forIn_nil];rfl
 | (n,k)::r,acc,h=>by
  have ih:=fun acc=>closL_forIn r acc fun y hy=>h y (List.mem_cons_of_mem _ hy);rw [List.forIn_cons];unfold closL
  by_cases hk:(k==NameKind.free)=true
  . obtain ⟨c,hc⟩:=h (n,k) List.mem_cons_self (by simpa using hk);have e:cellOf env n=pure c:=by unfold cellOf;rw [hc]
    simp only [hk,if_true,e];rw [hc];exact ih ((n,c)::acc)
  . simp only [hk,if_false];exact ih acc
theorem closureFor_eq{scope:Scope}{env:Env}(h:∀y ∈ scope.names,y.2 = .free->∃c,env.cells.lookup y.1=some c):closureFor scope env=pure (closL env.cells scope.names []):=by
 unfold closureFor;have:=closL_forIn (env:=env) scope.names [] h;simp only [bind_pure];exact this
theorem closL_of{cells:List (Str×Addr)}:∀ {names:List (Str×NameKind)} {acc:List (Str×Addr)} {x:Str} {c:Addr},(closL cells names acc).lookup x=some c->acc.lookup x=some c\/((x,NameKind.free) ∈ names/\c=(cells.lookup x).getD 0)
 | [],_,_,_,h=> .inl h
 | (n,k)::r,acc,x,c,h=>by
  unfold closL at h
  split at h
  . rename_i hk;rcases closL_of h with q | ⟨q,e⟩
    . rw [List.lookup_cons] at q
      cases hx:x==n with
      | true=>
       rw [hx] at q
       have e:=beq_iff_eq.mp hx;subst e;have hk':k = .free:=by simpa using hk
       subst hk'
       exact .inr ⟨List.mem_cons_self,(Option.some.inj q).symm⟩
      | false=>rw [hx] at q;exact .inl q
    . exact .inr ⟨List.mem_cons_of_mem _ q,e⟩
  . rcases closL_of h with q | ⟨q,e⟩
    . exact .inl q
    . exact .inr ⟨List.mem_cons_of_mem _ q,e⟩
theorem closL_acc{cells:List (Str×Addr)}:∀ {names:List (Str×NameKind)} {acc:List (Str×Addr)} {x:Str},acc.lookup x=some ((cells.lookup x).getD 0)->(closL cells names acc).lookup x=some ((cells.lookup x).getD 0)
 | [],_,_,h=>h
 | (n,k)::r,acc,x,h=>by
  unfold closL
  split
  . refine closL_acc ?_;rw [List.lookup_cons]
    cases hx:x==n with
    | true=>have e:=beq_iff_eq.mp hx;subst e;rfl
    | false=>exact h
  . exact closL_acc h
theorem closL_free{cells:List (Str×Addr)}:∀ {names:List (Str×NameKind)} {acc:List (Str×Addr)} {x:Str},(x,NameKind.free) ∈ names->(closL cells names acc).lookup x=some ((cells.lookup x).getD 0)
 | (n,k)::r,acc,x,h=>by
  unfold closL;rcases List.mem_cons.mp h with e | h
  . cases e
    simp only [beq_self_eq_true,if_true];exact closL_acc (by rw [List.lookup_cons,beq_self_eq_true])
  . split
    . exact closL_free h
    . exact closL_free h
theorem cf_app:∀(names:List (Str×NameKind)) (n:Nat) (acc:List (Str×Addr)),cellsFrom n names acc=cellsFrom n names []++acc
 | [],_,_=>rfl
 | (x,k)::r,n,acc=>by
  unfold cellsFrom
  split
  . rw [cf_app r (n+1) ((x,n)::acc),cf_app r (n+1) [(x,n)],List.append_assoc];rfl
  . exact cf_app r n acc
theorem lookup_app{α:Type}(x:Str):∀(a b:List (Str×α)),(a++b).lookup x=(match a.lookup x with | some c=>some c | none=>b.lookup x)
 | [],b=>rfl
 | (k,v)::r,b=>by
  rw [List.cons_append,List.lookup_cons,List.lookup_cons]
  cases hx:x==k with
  | true=>rfl
  | false=>exact lookup_app x r b
theorem cf_has:∀ {names:List (Str×NameKind)} {n:Nat} {acc:List (Str×Addr)} {x:Str},(x,NameKind.cell) ∈ names->∃c,(cellsFrom n names acc).lookup x=some c
 | (y,k)::r,n,acc,x,h=>by
  unfold cellsFrom;rcases List.mem_cons.mp h with e | h
  . obtain ⟨rfl,rfl⟩:=Prod.mk.inj e;simp only [beq_self_eq_true,if_true];rw [cf_app,lookup_app]
    cases q:(cellsFrom (n+1) r []).lookup x with
    | some c=>exact ⟨c,rfl⟩
    | none=>exact ⟨n,by simp [List.lookup_cons]⟩
  . split
    . exact cf_has h
    . exact cf_has h
theorem cf_mem:∀ {names:List (Str×NameKind)} {n:Nat} {x:Str} {c:Addr},(x,c) ∈ cellsFrom n names []->(x,NameKind.cell) ∈ names
 | (y,k)::r,n,x,c,h=>by
  unfold cellsFrom at h
  split at h
  . rename_i hk;rw [cf_app] at h
    rcases List.mem_append.mp h with q | q
    . exact List.mem_cons_of_mem _ (cf_mem q)
    . have hk':k = .cell:=by simpa using hk
      subst hk';have e:(x,c)=(y,n):=by simpa using q
      cases e
      exact List.mem_cons_self
  . exact List.mem_cons_of_mem _ (cf_mem h)
def relabelS(sc osc:Scope):Scope:=
 {sc with names:=sc.names.map fun (n,k)=>if (k == .free && osc.kind == .function && osc.names.lookup n==some .cell) then (n, .cell) else (n,k)}
theorem relabel_eq(sc:Scope)(env:Env):relabel sc env=relabelS sc env.scope:=rfl
theorem relabelS_lookup {osc : Scope} : ∀ {names : List (Str × NameKind)} {x : Str} {k : NameKind}, (names.map fun (p : Str × NameKind) => (match p with | (n, k) => if (k == NameKind.free && osc.kind == .function && osc.names.lookup n == some NameKind.cell) = true then (n, NameKind.cell) else (n, k))).lookup x = some k ->
 ∃k',names.lookup x=some k'/\(k'=k\/(k' = .free/\k = .cell))
 | [],_,_,h=>by simp at h
 | (n,k0)::r,x,k,h=>by
  rw [List.map_cons] at h
  by_cases hc:(k0==NameKind.free && osc.kind == .function && osc.names.lookup n==some NameKind.cell)=true
  . simp only [hc,if_true] at h
    rw [List.lookup_cons] at h
    cases hx:x==n with
    | true=>
     rw [hx] at h
     simp only [Option.some.injEq] at h
     subst h;refine ⟨k0,by rw [List.lookup_cons,hx], .inr ⟨?_,rfl⟩⟩;simp only [Bool.and_eq_true,beq_iff_eq] at hc
     exact hc.1.1
    | false=>
     rw [hx] at h
     obtain ⟨k',e,d⟩:=relabelS_lookup h;exact ⟨k',by rw [List.lookup_cons,hx];exact e,d⟩
  . simp only [if_neg hc] at h
    rw [List.lookup_cons] at h
    cases hx:x==n with
    | true=>
     rw [hx] at h
     simp only [Option.some.injEq] at h
     subst h
     exact ⟨k0,by rw [List.lookup_cons,hx], .inl rfl⟩
    | false=>
     rw [hx] at h
     obtain ⟨k',e,d⟩:=relabelS_lookup h;exact ⟨k',by rw [List.lookup_cons,hx];exact e,d⟩
theorem lookup_of_mem{α:Type}:∀ {l:List (Str×α)} {x:Str} {k:α},(l.map (·.1)).Nodup->(x,k) ∈ l->l.lookup x=some k
 | (y,j)::r,x,k,nd,h=>by
  rw [List.map_cons,List.nodup_cons] at nd
  rw [List.lookup_cons];rcases List.mem_cons.mp h with e | h'
  . cases e;rw [beq_self_eq_true]
  . have : (x == y) = false := by
     apply beq_eq_false_iff_ne.mpr;intro e;subst e;exact nd.1 (List.mem_map.mpr ⟨_,h',rfl⟩)
    rw [this];exact lookup_of_mem nd.2 h'
def csOk(osc sc:Scope)(N N':List Str)(ix:List (Option Nat)):Bool:=
 decide (sc.kind = .function) && decide (osc.kind = .function) && sc.names.all (fun y=>decide (y.2 = .local->sc.names.lookup y.1=some .local)) &&
 sc.names.all (fun y=>decide (y.2 = .free->(osc.names.lookup y.1=some .cell\/osc.names.lookup y.1=some .free))) && decide (N'.Nodup) && decide ((sc.names.map (·.1)).Nodup) && decide (N'.length=ix.length) &&
 (List.range ix.length).all fun i=>match ix[i]? with
  | some (some j)=>decide (N[j]? = N'[i]?) && (match N'[i]? with | some x=>decide (sc.names.lookup x=some .free) | none=>false)
  | _=>true
structure CS (osc sc:Scope) (N N':List Str) (ix:List (Option Nat)):Prop where
 kind:sc.kind = .function
 okind:osc.kind = .function
 names:∀y ∈ sc.names,y.2 = .local->sc.names.lookup y.1=some .local
 free:∀y ∈ sc.names,y.2 = .free->osc.names.lookup y.1=some .cell\/osc.names.lookup y.1=some .free
 nd:N'.Nodup
 ns:(sc.names.map (·.1)).Nodup
 len:N'.length=ix.length
 ixs:∀(i j:Nat),ix[i]? = some (some j)->∃x,N'[i]? = some x/\N[j]? = some x/\sc.names.lookup x=some .free
theorem CS.of{osc sc:Scope}{N N':List Str}{ix:List (Option Nat)}(h:csOk osc sc N N' ix=true):CS osc sc N N' ix:=by
 unfold csOk at h
 simp only [Bool.and_eq_true,List.all_eq_true,decide_eq_true_eq] at h
 obtain ⟨⟨⟨⟨⟨⟨⟨h1,h2⟩,h3⟩,h4⟩,h5⟩,h8⟩,h6⟩,h7⟩:=h;refine ⟨h1,h2,h3,h4,h5,h8,h6,fun i j e=> ?_⟩;have hi:i<ix.length:=(List.getElem?_eq_some_iff.mp e).1;have q:=h7 i (List.mem_range.mpr hi);rw [e] at q
 simp only [Bool.and_eq_true,decide_eq_true_eq] at q
 cases e2:N'[i]? with
 | none=>rw [e2] at q;exact absurd q.2 (by simp)
 | some x=>
  rw [e2] at q
  exact ⟨x,rfl,q.1,by simpa using q.2⟩
def subS(ix:List (Option Nat))(σ:L2.St):L2.St:=ix.map fun o=>match o with | some j=>(σ[j]?).join | none=>none
structure CB where
 C:Addr
 s₀:Shared
 H₀:Hp
 ex:List Addr
def cEnv(osc sc:Scope)(cl:List (Str×Addr))(C:Addr)(env:Env):Env:=
 {scope:=relabelS sc osc,locals:=C,globals:=env.globals,cells:=cellsFrom (C+1) sc.names cl,qual:=env.qual,func:=none,code:=env.code,frame:=env.frame,builtins:=env.builtins}
def cxC(X:Cx)(osc sc:Scope)(N':List Str)(b:CB):Cx where
 prog:=X.prog
 w:=X.w
 K:=X.K
 mg:=X.mg
 base:=X.base
 A:=X.A
 N:=N'
 s₀:=b.s₀
 H₀:=b.H₀
 env:=cEnv osc sc (closL X.env.cells sc.names []) b.C X.env
 outer:=X.stack
 stack:=X.stack
 ex:=b.ex
 fn:=fun x=>decide (sc.names.lookup x=some .cell)
 calm:=X.calm
 pn:= []
 xe:=fun _ _=>False
def accObj:Obj:={cls:= .type "list",dict:=none,data:= .seq ([]:List Value).toArray}
def dctObj:Obj:={cls:= .type "dict",data:= .dict #[]}
def blkHeap(h:Heap)(sc:Scope):Heap:=pushCells ((h.push accObj).push dctObj) sc.names
theorem blk_keeps{h:Heap}{sc:Scope}:∀b o,h.get? b=some o->(blkHeap h sc).get? b=some o:=fun b o e=>pushCells_keeps _ _ b o (Heap.get?_push_of_some _ (Heap.get?_push_of_some _ e))
theorem wpAny_newEnv_comp {M : Model} {A : Around} {E : Value -> Shared -> Prop} {s : Shared} {scope : Scope} {globals : Addr} {cl : List (Str × Addr)} {qual : Str} {env : Env} {Q : Env -> Shared -> Prop}
 (h:Q (newEnv scope s.heap.objs.size globals (cellsFrom (s.heap.objs.size+1) scope.names cl) qual none .none (some env) builtinsNs) {s with heap:=pushCells (s.heap.push dctObj) scope.names}) :
 wpAny M A (newFunctionEnv scope globals cl [] qual none .none (some env)) Q E s:=by
 simp only [newFunctionEnv,Option.isSome_some,if_true];refine wpAny_bind (wpAny_alloc ?_);refine wpAny_bind (wpAny_layCells _ (fun name kind cells=>by cases hkc:kind==NameKind.cell <;> simp [hkc]) _ _ _ _ ?_);rw [show ({s with heap:=s.heap.push {cls:= .type "dict",data:= .dict #[]} }:Shared).heap.objs.size=s.heap.objs.size+1 from Heap.size_push ..];simp only [List.forIn_nil];exact wpAny_bind (wpAny_pure (wpAny_pure h))
section
variable {X:Cx} {pins:List (Addr×Obj)} {σ:L2.St} {H:Hp} {s:Shared} {osc sc:Scope} {N':List Str} {ix:List (Option Nat)} {fp:List Addr}
theorem closes(I:Inv X pins σ H s)(cs:CS osc sc X.N N' ix)(ho:X.env.scope=osc):∀y ∈ sc.names,y.2 = .free->∃c,X.env.cells.lookup y.1=some c:=fun y hy hf=>by
 refine I.ok.has y.1 ?_;have q:=cs.free y hy hf;rw [<-ho] at q
 exact q
theorem blk_cell (I : Inv X pins σ H s) (cs : CS osc sc X.N N' ix) (ho : X.env.scope = osc) {C : Addr} {x : Str} {c : Addr} (h : (cellsFrom (C + 1) sc.names (closL X.env.cells sc.names [])).lookup x = some c) :
 ((x,c) ∈ cellsFrom (C+1) sc.names [] )\/((x,NameKind.free) ∈ sc.names/\X.env.cells.lookup x=some c):=by
 rw [cf_app,lookup_app] at h
 cases e:(cellsFrom (C+1) sc.names []).lookup x with
 | some d=>rw [e] at h;cases h;exact .inl (mem_of_lookup e)
 | none=>
  rw [e] at h
  rcases closL_of h with q | ⟨q,d⟩
  . cases q
  . obtain ⟨c',hc⟩:=closes I cs ho _ q rfl;rw [show X.env.cells.lookup x=some c' from hc] at d
    exact .inr ⟨q,by rw [show X.env.cells.lookup x=some c' from hc];rw [d];rfl⟩
theorem inv_comp (I : Inv X pins σ H s) (cs : CS osc sc X.N N' ix) (ho : X.env.scope = osc) (hfp : ∀ b ∈ fp, FpOk X pins H b) (hlt : ∀ b ∈ fp, b < s.heap.objs.size) :
 Inv (cxC X osc sc N' ⟨s.heap.objs.size+1,s,H,fp ++ [s.heap.objs.size]⟩) [] (subS ix σ) H {s with heap:=blkHeap s.heap sc}:=by
 have okc:=cellsFrom_ok sc.names ((s.heap.push accObj).push dctObj) (s.heap.objs.size+2) [] ⟨fun _ _ hm=>(nomatch hm),List.Pairwise.nil⟩ (by rw [Heap.size_push,Heap.size_push];exact Nat.le_refl _);have esz:((s.heap.push accObj).push dctObj).objs.size=s.heap.objs.size+1+1:=by rw [Heap.size_push,Heap.size_push]
 rw [esz] at okc
 have cell:=fun {x:Str} {c:Addr}=>blk_cell (C:=s.heap.objs.size+1) (x:=x) (c:=c) I cs ho;have oldc:∀ {x:Str} {c:Addr},X.env.cells.lookup x=some c -> @LT.lt Nat _ c s.heap.objs.size:=fun {x c} h=>(I.cell x c h).elim fun v hv=>hv.lt;have ltS:∀ {h:Heap} {b:Addr} {o:Obj},h.get? b=some o -> @LT.lt Nat _ b h.objs.size:=fun e=>Heap.lt_size e;have newc:∀ {x:Str} {c:Addr},(x,c) ∈ cellsFrom (s.heap.objs.size+1+1) sc.names []->s.heap.objs.size+2<=c:=fun {x c} h=>(okc.empty x c h).2
 have nsC:∃m,(blkHeap s.heap sc).Ns (s.heap.objs.size+1) m:=⟨_,by
  have q:=(Heap.Ns.new (s.heap.push accObj) (.type "dict")).keeps (pushCells_keeps sc.names _);rw [Heap.size_push] at q
  exact q⟩
 refine ⟨?ok,rfl,I.bare,Un.kept blk_keeps,?loc,?cell,I.hok.fresh (Nat.le_succ _),?freeC,?pin,I.hok.kept blk_keeps,?len⟩
 case ok=>
  refine ⟨I.ok.mod,cs.kind,I.ok.glob,I.ok.blt,Nat.le_succ _,?inj,?has,?cab,I.ok.hd,I.ok.frames, .inl rfl,?exf,I.bs,?bsz,?noex,?exfs,I.stack,I.stkFree,I.tb⟩
  case inj=>
   intro x y c hx hy;rcases cell hx with p | ⟨p,p'⟩ <;> rcases cell hy with q | ⟨q,q'⟩
   . exact name_of_addr okc.apart p q
   . have a1:=newc p;have a2:=oldc q';omega
   . have a1:=newc q;have a2:=oldc p';omega
   . exact I.ok.inj x y c p' q'
  case has=>
   intro x hx
   have key:∀k,(relabelS sc osc).names.lookup x=some k->(k = .cell\/k = .free)->∃c,(cellsFrom (s.heap.objs.size+1+1) sc.names (closL X.env.cells sc.names [])).lookup x=some c:=by
    intro k hk hk2;obtain ⟨k',e,d⟩:=relabelS_lookup hk;have hm:=mem_of_lookup e
    have:k' = .cell\/k' = .free:=by
     rcases d with d | d
     . rcases hk2 with r | r
       . exact .inl (d.trans r)
       . exact .inr (d.trans r)
     . exact .inr d.1
    rcases this with r | r
    . subst r;exact cf_has hm
    . subst r;rw [cf_app,lookup_app,closL_free hm]
      cases (cellsFrom (s.heap.objs.size+1+1) sc.names []).lookup x with
      | some c=>exact ⟨c,rfl⟩
      | none=>exact ⟨_,rfl⟩
   rcases hx with hx | hx
   . exact key _ hx (.inl rfl)
   . exact key _ hx (.inr rfl)
  case cab=>
   intro x c hf hc;have hf':sc.names.lookup x=some .cell:=of_decide_eq_true hf;rcases cell hc with p | ⟨p,p'⟩
   . have:=newc p;show s.heap.objs.size<=c;omega
   . rw [lookup_of_mem cs.ns p] at hf'
     cases hf'
  case exf=>
   intro b hb;rcases List.mem_append.mp hb with hb | hb
   . have hl : @LT.lt Nat _ b s.heap.objs.size:=hlt b hb;obtain ⟨f0,f1,f2,f3,f4,f5⟩:=hfp b hb;refine ⟨fun e=> ?_,fun x c hc e=> ?_⟩
     . have e:b=s.heap.objs.size+1:=e;subst e;omega
     . rcases cell hc with p | ⟨p,p'⟩
       . have:=newc p;subst e;omega
       . exact f4 x c p' e
   . have hb:b=s.heap.objs.size:=by simpa using hb
     subst hb;refine ⟨fun e=>Nat.succ_ne_self _ (Eq.symm (show s.heap.objs.size=s.heap.objs.size+1 from e)),fun x c hc e=> ?_⟩;rcases cell hc with p | ⟨p,p'⟩
     . have:=newc p;subst e;omega
     . have:=oldc p';subst e;omega
  case bsz=>exact Nat.le_trans I.ok.bsz I.sz
  case noex=>
   intro b o e hb;have e:X.base.get? b=some o:=e;rcases List.mem_append.mp hb with hb | hb
   . obtain ⟨f0,f1,f2,f3,f4,f5⟩:=hfp b hb;rcases f3 with f3 | f3
     . exact I.ok.noex b o e f3
     . have:=ltS e;have:=I.ok.bsz;omega
   . have hb:b=s.heap.objs.size:=by simpa using hb
     have:=ltS e;have:=I.ok.bsz;have:=I.sz;subst hb;omega
  case exfs=>
   intro b hb hf;have hf:=I.stkSub b hf;rcases List.mem_append.mp hb with hb | hb
   . obtain ⟨f0,f1,f2,f3,f4,f5⟩:=hfp b hb;rcases List.mem_cons.mp hf with e | hf
     . exact f1 e
     . exact f2 hf
   . have hb:b=s.heap.objs.size:=by simpa using hb
     rcases List.mem_cons.mp hf with e | hf
     . have l : @LT.lt Nat _ X.env.locals s.heap.objs.size:=I.lt;rw [hb] at e
       rw [<-e] at l
       omega
     . exact I.nofs (Nat.le_of_eq hb.symm) hf
 case loc=>
  obtain ⟨m',hm'⟩:=nsC;obtain ⟨m,hm,hl⟩:=I.loc;refine ⟨m',hm',fun i x v hx hv hvis=> ?_⟩;unfold subS at hv
  rw [List.getElem?_map] at hv
  cases e:ix[i]? with
  | none=>rw [e] at hv;cases hv
  | some o=>
   rw [e] at hv
   cases o with
   | none=>cases hv
   | some j=>
    simp only [Option.map_some,Option.some.injEq] at hv
    obtain ⟨y,h1,h2,h3⟩:=cs.ixs i j e;have hx':N'[i]? = some x:=hx;rw [h1] at hx'
    cases hx'
    have hj:σ[j]? = some (some v):=by
     cases q:σ[j]? with
     | none=>rw [q] at hv;cases hv
     | some z=>rw [q] at hv;simp only [Option.join_some] at hv;rw [hv]
    have hfree:=mem_of_lookup h3;have hk:=cs.free _ hfree rfl;rw [<-ho] at hk
    have hvis0:Vis X.env.scope x:=by
     rcases hk with r | r
     . exact .inr (.inl r)
     . exact .inr (.inr r)
    obtain ⟨u,ru,lk⟩:=hl j x v h2 hj hvis0;refine ⟨u,ru, .inr ⟨?_,?_⟩⟩
    . rcases hvis with q | q | q
      . obtain ⟨k',e',d⟩:=relabelS_lookup q;rw [h3] at e'
        cases e'
        rcases d with d | d
        . cases d
        . cases d.2
      . exact .inl q
      . exact .inr q
    . rcases lk with ⟨lk,_⟩ | ⟨_,c,hc,hcell⟩
      . have:X.env.scope.names.lookup x=some .local:=lk;rw [this] at hk
        rcases hk with r | r <;> cases r
      . refine ⟨c,?_,hcell.keeps blk_keeps⟩;show (cellsFrom (s.heap.objs.size+1+1) sc.names (closL X.env.cells sc.names [])).lookup x=some c;rw [cf_app,lookup_app,closL_free hfree,hc]
        cases e2:(cellsFrom (s.heap.objs.size+1+1) sc.names []).lookup x with
        | some d=>
         have:=lookup_of_mem cs.ns (cf_mem (mem_of_lookup e2));rw [h3] at this
         cases this
        | none=>rfl
 case cell=>
  intro x c hc;rcases cell hc with p | ⟨p,p'⟩
  . exact ⟨_,(okc.empty x c p).1⟩
  . obtain ⟨v,hv⟩:=I.cell x c p';exact ⟨v,hv.keeps blk_keeps⟩
 case freeC=>
  intro x c hc;rcases cell hc with p | ⟨p,p'⟩
  . have:=newc p;exact I.hok.fresh (by omega)
  . exact I.freeC x c p'
 case pin=>intro p hp;cases hp
 case len=>
  show (subS ix σ).length=N'.length;unfold subS;rw [List.length_map,cs.len]
def GK(S:Nat->Bool)(g:TG):Prop:=∀v σ H Q,g v σ H Q->g v σ H fun σ' H'=>Q σ' H'/\σ'.length=σ.length/\∀i:Nat,S i=false->σ'[i]? = σ[i]?
def PTs(X:Cx)(ifs:List Expr)(t:TT):Prop:=
 ∀(pins:List (Addr×Obj)) (s:Shared) (σ:L2.St) (H:Hp) (Q:Bool->Hp->Prop),Inv X pins σ H s->t σ H Q ->
   wpAny (model X.prog X.w) X.A (forIn ifs true fun c r=>if r=true then do let ok <-isTrue c X.env (eval c X.env);pure (ForInStep.yield ok) else pure (ForInStep.yield r)) (TP X pins σ Q) X.xe s
def tNoTest:TT:=fun _ H Q=>Q true H
theorem pts_nil{X:Cx}:PTs X [] tNoTest:=fun _ _ _ H _ I h=>wpAny_tests_nil ⟨H,I,h⟩
def tLCg(J:It)(σ0:L2.St)(g:TG)(tt:TT)(te:TE)(H1:Hp)(Q:VK):Prop:=∃W:Nat->Nat->List V->Hp->Prop,(∃m,W 0 m [] H1)/\∀i m ys H,W i m ys H->ys.length<sizeLine /\
 ((J.stop i H/\∀p,H p=none->Q (.ref p) (upd H p (.lst ys))) \/
  (J.go i H/\∃N:List V->Hp->Prop,(∀ys' H',N ys' H'->∃m',m'<m/\W (i+1) m' ys' H')/\∀x H',J.yld i H x H'->g x σ0 H' fun σ2 H2=>tt σ2 H2 fun b H3=>if b=true then te σ2 H3 fun y H4=>N (ys ++ [y]) H4 else N ys H3))
theorem codeAny_compLoop_any {prog : Program} {w : World} {A : Around} {R : Result -> Shared -> Prop} {s : Shared} {elt target iter : Expr} {ifs : List Expr} {scope : Scope} {pos : Pos} {it acc : Value} {env : Env} (I : Nat -> Shared -> Prop)
 (turn:∀n s,I n s->wpAny (model prog w) A (pyNext it) (fun r s₁=>match r with
  | none=>R (.ok .next) s₁
  | some v => wpAny (model prog w) A (letOwnedTupleGo target it v) (fun _ s₁ => wpAny (model prog w) A (assign target env v) (fun _ s₂ =>
   wpAny (model prog w) A (forIn ifs true fun c r=>if r=true then do let ok <-isTrue c env (eval c env);pure (ForInStep.yield ok) else pure (ForInStep.yield r)) (fun ok s₃=>
    if ok=true then wpAny (model prog w) A (eval elt env) (fun x s₄=>
     wpAny (model prog w) A (call (.builtin "list.append") [acc,x]) (fun _ s₅=>∃m,m<n/\I m s₅) (fun _ _=>False) s₄) (fun _ _=>False) s₃
    else ∃m,m<n/\I m s₃) (fun _ _=>False) s₂) (fun _ _=>False) s₁) (fun _ _=>False) s₁) (fun _ _=>False) s)
 (n:Nat) (h:I n s) :
 codeAny (model prog w) A (.compLoop (.ListComp elt [⟨target,iter,ifs,0⟩] scope pos) 0 it acc env) R s:=by
 refine codeAny_loop rfl I (fun n s hI=> ?_) n h;show wpAny _ A ((compTurn (.ListComp elt [⟨target,iter,ifs,0⟩] scope pos) 0 it acc env).onRaise (fun x=>do noteFrame x env;theTreesLotGoes x)) _ _ s;refine wpAny_noted ?_;rw [compTurn_list];refine wpAny_bind (wpAny_standAt (wpAny_bind (wpAny_mono (turn n s hI) (fun r s₁ h₁=> ?_) fun _ _ h'=>h'.elim)))
 cases r with
 | none=>exact wpAny_pure h₁
 | some v=>
  refine wpAny_bind (wpAny_mono h₁ (fun _ s₁ h₁=> ?_) fun _ _ h'=>h'.elim);refine wpAny_bind (wpAny_mono h₁ (fun _ s₂ h₂=>wpAny_bind (wpAny_mono h₂ (fun ok s₃ h₃=> ?_) fun _ _ h'=>h'.elim)) fun _ _ h'=>h'.elim)
  cases ok with
  | false=>exact wpAny_pure ⟨rfl,h₃⟩
  | true=>
   exact wpAny_bind (wpAny_bind (wpAny_mono h₃ (fun x s₄ h₄=>wpAny_bind (wpAny_mono h₄ (fun _ s₅ h₅=>wpAny_pure (wpAny_pure ⟨rfl,h₅⟩)) fun _ _ h'=>h'.elim)) fun _ _ h'=>h'.elim))
theorem HOk_add{P:Program}{w:World}{H:Hp}{h:Heap}{a:Addr}{o:HO}(x:HOk P w H h)(hn:H a=none)(new:ObjOk P w (upd H a o) h a o):HOk P w (upd H a o) h:=fun b u e=>by
 by_cases hb:b=a
 . subst hb;rw [upd_same] at e
   cases e
   exact new
 . rw [upd_ne hb] at e
   refine (x b u e).stay (fun _ _ _ q=>q) (fun c q=> ?_) (fun c xs q=> ?_) fun c ob xs q=> ?_
   . rw [upd_ne (ne_of_none q hn)];exact q
   . rw [upd_ne (ne_of_none q hn)];exact q
   . rw [upd_ne (ne_of_none q hn)];exact q
def slotS(ix:List (Option Nat))(i:Nat):Bool:=match ix[i]? with | some (some _)=>false | _=>true
structure BlkEnd (X:Cx) (pins:List (Addr×Obj)) (σ:L2.St) (C D:Addr) (H:Hp) (ys:List V) (s':Shared):Prop where
 inv:Inv X pins σ (upd H D (.lst ys)) s'
 free:H D=none
 ns:∃m,s'.heap.Ns C m
 cfree:(upd H D (.lst ys)) C=none
 cl:C≠X.env.locals
 cn:X.s₀.heap.objs.size<=C
 cc:∀x c,X.env.cells.lookup x=some c->c≠C
 cp:∀p ∈ X.pn++pins,p.1≠C
theorem run_block {tg elt iter : Expr} {ifs : List Expr} {scope : Scope} {pos : Pos} {J : It} {it : Addr} {tn : Nat -> Heap -> Prop} {g : TG} {tt : TT} {te : TE} {Q : VK} {R : Result -> Shared -> Prop}
 (I2:Inv X pins σ H s) (cs:CS osc sc X.N N' ix) (ho:X.env.scope=osc) (hc:X.calm=true) (T:Turn X.prog X.w X.K tg J fp it tn) (st2:tn 0 s.heap) (f2:∀b ∈ fp,FpOk X pins H b)
 (hg:PG (cxC X osc sc N' ⟨s.heap.objs.size+1,s,H,fp ++ [s.heap.objs.size]⟩) tg g) (gk:GK (slotS ix) g)
 (ht:PTs (cxC X osc sc N' ⟨s.heap.objs.size+1,s,H,fp ++ [s.heap.objs.size]⟩) ifs tt) (he:PE (cxC X osc sc N' ⟨s.heap.objs.size+1,s,H,fp ++ [s.heap.objs.size]⟩) elt te)
 (rd:tLCg J (subS ix σ) g tt te H Q)
 (hR:∀ys H' s',BlkEnd X pins σ (s.heap.objs.size+1) s.heap.objs.size H' ys s'->Q (.ref s.heap.objs.size) (upd H' s.heap.objs.size (.lst ys))->R (.ok .next) s') :
 codeAny (model X.prog X.w) X.A (.compStart (.ListComp elt [⟨tg,iter,ifs,0⟩] scope pos) 0 (.ref it) (.ref s.heap.objs.size) (cEnv osc sc (closL X.env.cells sc.names []) (s.heap.objs.size+1) X.env)) R {s with heap:=blkHeap s.heap sc}:=by
 have ltS:∀ {h:Heap} {b:Addr} {o:Obj},h.get? b=some o -> @LT.lt Nat _ b h.objs.size:=fun e=>Heap.lt_size e;have hlt:∀b ∈ fp,b<s.heap.objs.size:=fun b hb=>(T.obj 0 _ st2 b hb).elim fun o h=>Heap.lt_size h.1;have I3:=inv_comp I2 cs ho f2 hlt;generalize eX:cxC X osc sc N' ⟨s.heap.objs.size+1,s,H,fp ++ [s.heap.objs.size]⟩=X' at *
 have eE:cEnv osc sc (closL X.env.cells sc.names []) (s.heap.objs.size+1) X.env=X'.env:=by rw [<-eX];rfl
 have eP:X'.prog=X.prog:=by rw [<-eX];rfl
 have eW:X'.w=X.w:=by rw [<-eX];rfl
 have eK:X'.K=X.K:=by rw [<-eX];rfl
 have eA:X'.A=X.A:=by rw [<-eX];rfl
 have eC:X'.calm=true:=by rw [<-eX];exact hc
 have eL:X'.env.locals=s.heap.objs.size+1:=by rw [<-eX];rfl
 have eF:X'.fs=frs X.stack:=by rw [<-eX];rfl
 have eEx:X'.ex=fp ++ [s.heap.objs.size]:=by rw [<-eX];rfl
 have eN:X'.pn = []:=by rw [<-eX];rfl
 have eS:X'.s₀=s:=by rw [<-eX];rfl
 have eH:X'.H₀=H:=by rw [<-eX];rfl
 have exe:X'.xe=fun _ _=>False:=by rw [<-eX];rfl
 have okX:=I3.ok;have mD:s.heap.objs.size ∈ X'.ex:=by rw [eEx];exact List.mem_append_right _ (List.mem_singleton.mpr rfl)
 have mF:∀b ∈ fp,b ∈ X'.ex:=fun b hb=>by rw [eEx];exact List.mem_append_left _ hb
 obtain ⟨W,⟨m0,w0⟩,turn⟩:=rd
 have stat:∀ {H':Hp} {o:Obj},(∀b ∈ fp,H' b=none)->∀b ∈ fp,FpOk X' [(s.heap.objs.size,o)] H' b:=fun {H' o} hn b hb=>by
  refine ⟨hn b hb,(okX.exf b (mF b hb)).1,okX.exfs b (mF b hb), .inl (mF b hb),(okX.exf b (mF b hb)).2,fun p hp e=> ?_⟩;rw [eN] at hp
  have hp:p=(s.heap.objs.size,o):=by simpa using hp
  subst hp;have l : @LT.lt Nat _ b s.heap.objs.size:=hlt b hb;have e:s.heap.objs.size=b:=e;rw [<-e] at l
  omega
 have pinD:∀ {σ':L2.St} {H':Hp} {s':Shared} {o:Obj},Inv X' [] σ' H' s'->s'.heap.get? s.heap.objs.size=some o->H' s.heap.objs.size=none->(∀v,o.data ≠ .cell v)->Inv X' [(s.heap.objs.size,o)] σ' H' s':=fun {σ' H' s' o} I e hn hd=>by
  refine I.pins_of fun p hp=> ?_;have hp:p=(s.heap.objs.size,o):=by simpa using hp
  subst hp;exact ⟨e,hn,(okX.exf _ mD).1,okX.exfs _ mD,hd⟩
 rw [eE];have I3':Inv X' [] (subS ix σ) H {s with heap:=blkHeap s.heap sc}:=I3;have dat:∀(its:List Value) (k:Nat) (v:Option Value),({cls:= .type "list",data:= .seq its.toArray k}:Obj).data ≠ .cell v:=fun _ _ _ z=>nomatch z;have acc0:(blkHeap s.heap sc).get? s.heap.objs.size=some {cls:= .type "list",data:= .seq ([]:List Value).toArray 0}:=pushCells_keeps _ _ _ _ (Heap.get?_push_of_some _ (Heap.get?_push_size _ rfl));have st3:tn 0 (blkHeap s.heap sc):=T.keep 0 _ _ st2 fun b hb o e=>blk_keeps b o e
 have loop:∀s3:Shared,s3={s with heap:=blkHeap s.heap sc}->codeAny (model X.prog X.w) X.A (.compLoop (.ListComp elt [⟨tg,iter,ifs,0⟩] scope pos) 0 (.ref it) (.ref s.heap.objs.size) X'.env) R s3:=by
  rintro s3 rfl
  refine codeAny_compLoop_any (fun n s'=>∃i ys H' its k,Inv X' [] (subS ix σ) H' s'/\tn i s'.heap/\(∀b ∈ fp,H' b=none)/\W i n ys H'/\s'.heap.get? s.heap.objs.size=some {cls:= .type "list",data:= .seq its.toArray k}/\Vals ys its/\H' s.heap.objs.size=none)
   ?_ m0 ⟨0,[],H,[],0,I3',st3,fun b hb=>(f2 b hb).1,w0,acc0, .nil,I2.hok.fresh (Nat.le_refl _)⟩
  rintro n s3 ⟨i,ys,H3,its,k,J3,t3,fr3,w3,a3,v3,d3⟩;obtain ⟨hz,w3⟩:=turn i n ys H3 w3;have J3p:=pinD J3 a3 d3 (dat its k);rcases w3 with ⟨stop,q⟩ | ⟨go,N,hN,step⟩
  . have TD:=T.done X' eP eW eK eC i [(s.heap.objs.size,_)] s3 (subS ix σ) H3 (fun _ _=>False) J3p (stat fr3) t3 stop;rw [eA] at TD
    refine thn TD fun r s4 ⟨hr,I4⟩ => ?_;subst hr;have a4:=(I4.pin (s.heap.objs.size,_) (List.mem_append_right _ (List.mem_singleton.mpr rfl))).1;have hd4:=I4.base;rw [eF,eEx,eH,eS] at hd4
    refine hR ys H3 s4 ⟨?_,d3,?_,?_,?_,?_,?_,?_⟩ (q _ d3)
    . refine I2.call' (ch:=fp ++ [s.heap.objs.size]) (by have z:=I4.os;rw [eS] at z;exact z) ?_ ?_ I4.bare ?_
      . refine ⟨hd4.keep,hd4.slot,fun b o e n x=> ?_,hd4.there,fun b xs e=> ?_,fun b o u e=> ?_,fun b ps e=> ?_⟩
        . have l:=ltS e;rw [upd_ne (by intro z;subst z;omega)];exact hd4.free b o e n x
        . have z:=hd4.tups b xs e;rw [upd_ne (ne_of_none z d3)];exact z
        . have z:=hd4.frzs b o u e;rw [upd_ne (ne_of_none z d3)];exact z
        . obtain ⟨more,z⟩:=hd4.tbls b ps e;exact ⟨more,by rw [upd_ne (ne_of_none z d3)];exact z⟩
      . have hk:=I4.hok;rw [eP,eW] at hk
        exact HOk_add hk d3 ⟨Nat.le_of_lt hz,its,k,v3,a4⟩
      . intro b hb;rcases List.mem_append.mp hb with hb | hb
        . obtain ⟨f0,f1,f2,f3,f4,f5⟩:=f2 b hb;exact ⟨f3,f1,f4,f5⟩
        . have hb:b=s.heap.objs.size:=by simpa using hb
          subst hb;refine ⟨.inr I2.sz,fun e=> ?_,fun x c hx e=> ?_,fun p hp e=> ?_⟩
          . have l : @LT.lt Nat _ X.env.locals s.heap.objs.size:=I2.lt;rw [<-e] at l
            omega
          . obtain ⟨v,hv⟩:=I2.cell x c hx;have l : @LT.lt Nat _ c s.heap.objs.size:=hv.lt;rw [e] at l
            omega
          . have l:=ltS (I2.pin p hp).1;rw [e] at l
            omega
    . obtain ⟨m,hm,_⟩:=I4.loc;rw [eL] at hm
      exact ⟨m,hm⟩
    . rw [upd_ne (Nat.succ_ne_self _)];have z:=I4.free;rw [eL] at z
      exact z
    . intro e;have l : @LT.lt Nat _ X.env.locals s.heap.objs.size:=I2.lt;rw [<-e] at l
      omega
    . have:=I2.sz;exact Nat.le_succ_of_le this
    . intro x c hx e;obtain ⟨v,hv⟩:=I2.cell x c hx;have l : @LT.lt Nat _ c s.heap.objs.size:=hv.lt;rw [e] at l
      omega
    . intro p hp e;have l:=ltS (I2.pin p hp).1;rw [e] at l
      omega
  . have TI:=T.item X' eP eW eK eC i [(s.heap.objs.size,_)] s3 (subS ix σ) H3 (fun _ _=>False) J3p (stat fr3) t3 go;rw [eA] at TI
    refine thn TI fun r s4 ⟨u,hr,h4⟩ => ?_;subst hr;refine thn h4 fun _ s5 ⟨x,H5,I5,r5,y5,st5,fr5⟩ => ?_;have I5':=I5.pinned (stat fr5) (T.obj _ _ st5);have HG:=hg _ s5 (subS ix σ) H5 x u _ I5' r5 (gk _ _ _ _ (step x H5 y5));rw [eP,eW,eA,exe] at HG
    refine thn HG fun _ s6 ⟨σ6,H6,I6,q6,l6,k6⟩ => ?_;have HT:=ht _ s6 σ6 H6 _ I6 q6;rw [eP,eW,eA,exe] at HT
    refine thn HT fun b s7 ⟨H7,I7,q7⟩ => ?_
    have weak:∀ {ps:List (Addr×Obj)} {H':Hp} {s':Shared},Inv X' ps σ6 H' s'->Inv X' ps (subS ix σ) H' s':=fun I=>I.weak l6.symm fun j v e=>by
     have hs:slotS ix j=false:=by
      unfold slotS;unfold subS at e
      rw [List.getElem?_map] at e
      cases e2:ix[j]? with
      | none=>rw [e2] at e;cases e
      | some o=>
       rw [e2] at e
       cases o with
       | none=>cases e
       | some z=>rfl
     rw [k6 j hs];exact e
    have pinA : ∀ {σ' : L2.St} {H' : Hp} {s' : Shared}, Inv X' ([(s.heap.objs.size, { cls := .type "list", data := .seq its.toArray k })] ++ pinsAt fp s5.heap) σ' H' s' ->
     s'.heap.get? s.heap.objs.size=some {cls:= .type "list",data:= .seq its.toArray k}/\H' s.heap.objs.size=none/\tn (i+1) s'.heap/\∀b ∈ fp,H' b=none:=fun {σ' H' s'} I=>by
     have z:=I.pin (s.heap.objs.size,_) (List.mem_append_right _ (List.mem_append_left _ (List.mem_singleton.mpr rfl)));refine ⟨z.1,z.2.1,T.keep _ _ _ st5 fun b hb o e=>(I.pin (b,o) (List.mem_append_right _ (List.mem_append_right _ (mem_pinsAt hb e)))).1,fun b hb=> ?_⟩;obtain ⟨o,e,d⟩:=T.obj _ _ st5 b hb;exact (I.pin (b,o) (List.mem_append_right _ (List.mem_append_right _ (mem_pinsAt hb e)))).2.1
    cases b with
    | false=>
     have q7:N ys H7:=q7;obtain ⟨m',hm,w7⟩:=hN ys H7 q7;obtain ⟨p1,p2,p3,p4⟩:=pinA I7
     exact ⟨m',hm,i+1,ys,H7,its,k,(weak I7).pins_of (fun _ z=>(nomatch z)),p3,p4,w7,p1,v3,p2⟩
    | true=>
     have HE:=he _ s7 σ6 H7 _ I7 q7;rw [eP,eW,eA,exe] at HE
     refine thn HE fun y s8 ⟨z,H8,I8,r8,q8⟩ => ?_;obtain ⟨m',hm,w8⟩:=hN _ H8 q8;obtain ⟨p1,p2,p3,p4⟩:=pinA I8;refine call_meets F.slot_list_append ⟨_,p1,rfl⟩ F.entry_list_append (F.args_list_append_2 _ _) (PySem.list_append s.heap.objs.size its.toArray k y (by rw [List.size_toArray, <-v3.length];omega)) ⟨p1,?_⟩;have q:=PySem.IsL.update p1 (fun a=>a.push y);have other:∀b o,b≠s.heap.objs.size->s8.heap.get? b=some o->(s8.heap.update s.heap.objs.size (Obj.mapSeq fun a=>a.push y)).get? b=some o:=fun b o hb e=>(Heap.get?_update_other s8.heap _ (Ne.symm hb)).trans e;have eq:its.toArray.push y=(its ++ [y]).toArray:=by simp
     have q:IsL (s8.heap.update s.heap.objs.size (Obj.mapSeq fun a=>a.push y)) s.heap.objs.size (its.toArray.push y) _:=q;rw [eq] at q
     refine ⟨m',hm,i+1,ys ++ [z],H8,its ++ [y],_,?_,T.keep _ _ _ p3 fun b hb o e=>other b o (fun z=> ?_) e,p4,w8,q,v3.append (.cons r8 .nil),p2⟩
     . have I8w:Inv X' [] (subS ix σ) H8 s8:=(weak I8).pins_of fun _ z=>nomatch z;refine I8w.turned (it:=s.heap.objs.size) other p2 (okX.exf _ mD).1 (.inl mD) (okX.exf _ mD).2 fun p hp=> ?_;rw [eN] at hp
       cases hp
     . have l : @LT.lt Nat _ b s.heap.objs.size:=hlt b hb;rw [z] at l
       omega
 exact codeAny_compStart_list (loop _ rfl) (T.self X.A 0 _ _ _ st3 (loop _ rfl))
def tLC(ix:List (Option Nat))(wi:TI)(g:CB->TG)(tt:CB->TT)(te:CB->TE):TE:=fun σ H Q=>wi σ H fun J H1=>∀b:CB,tLCg J (subS ix σ) (g b) (tt b) (te b) H1 Q
theorem pe_lc {tg elt iter : Expr} {ifs : List Expr} {pos : Pos} {wi : TI} {g : CB -> TG} {tt : CB -> TT} {te : CB -> TE} (hc : X.calm = true) (ho : X.env.scope = osc) {N : List Str} (hN : X.N = N) (hcs : csOk osc sc N N' ix = true) (hi : PI X tg iter wi)
 (hb:∀b:CB,PG (cxC X osc sc N' b) tg (g b)/\PTs (cxC X osc sc N' b) ifs (tt b)/\PE (cxC X osc sc N' b) elt (te b)) (gk:∀b:CB,GK (slotS ix) (g b))
 (hs:∀x,foldedSetIterable iter X.env x=pure x:=by intro _;rfl):PE X (.ListComp elt [⟨tg,iter,ifs,0⟩] sc pos) (tLC ix wi g tt te):=by
 subst hN;have cs:=CS.of hcs;intro pins s σ H Q I h;rw [eval_ListComp];have hcl:=closureFor_eq (closes I cs ho);refine wpAny_comprehension_free (use:=none) rfl hs hcl cs.kind cs.names (thn (hi pins s σ H _ I h) fun v s1 h1=>thn h1 fun itv s2 h2=> ?_);obtain ⟨it,fp,tn,J,H2,e,I2,T,st2,f2,rd⟩:=h2;subst e;refine wpAny_newObj_type ?_;refine wpAny_newEnv_comp ?_;have hb':=hb ⟨s2.heap.objs.size+1,s2,H2,fp ++ [s2.heap.objs.size]⟩
 have rb:=run_block (scope:=sc) (pos:=pos) (iter:=iter) (R:=compPost (model X.prog X.w) X.A X.xe none (EP X pins σ Q) (.ref s2.heap.objs.size) (s2.heap.objs.size+1)) I2 cs ho hc T st2 f2 hb'.1 (gk _) hb'.2.1 hb'.2.2 (rd _) (fun ys H' s' B q=>by
  obtain ⟨m,hm⟩:=B.ns;refine ⟨m,hm,fun h' hsb=> ?_⟩;refine ⟨.ref s2.heap.objs.size,upd H' s2.heap.objs.size (.lst ys),?_,rfl,q⟩;exact B.inv.turned (it:=s2.heap.objs.size+1) (fun b o hb e=>hsb.extBut b o hb e) B.cfree B.cl (.inr B.cn) B.cc B.cp)
 have sz:(s2.heap.push accObj).objs.size=s2.heap.objs.size+1:=Heap.size_push ..;show codeAny _ _ (.compStart _ 0 (.ref it) (.ref s2.heap.objs.size) {newEnv sc (s2.heap.push accObj).objs.size X.env.globals (cellsFrom ((s2.heap.push accObj).objs.size+1) sc.names (closL X.env.cells sc.names [])) X.env.qual none .none (some X.env) builtinsNs with scope:=relabel sc X.env}) (compPost _ _ _ none _ (.ref s2.heap.objs.size) (s2.heap.push accObj).objs.size) _;rw [sz,relabel_eq,ho];exact rb
end
end Tf
namespace Tf
open PySem PySem.Spec PyProof.Rows L2
def Itz(K:PySem.W.Frag)(a b:Addr):It:=
 ⟨fun i H=>∃xs ys x y,SqL K H a xs/\SqL K H b ys/\xs[i]? = some x/\ys[i]? = some y,
  fun i H v H'=>∃p x y,H p=none/\v = .ref p/\H'=upd H p (.tup [x,y])/\(∀xs,SqL K H a xs->xs[i]? = some x)/\(∀ys,SqL K H b ys->ys[i]? = some y),
  fun i H=>∃xs ys,SqL K H a xs/\SqL K H b ys/\(xs.length<=i\/ys.length<=i)⟩
def tnZip(z TI TO i1 i2 l1 l2:Addr)(i:Nat)(h:Heap):Prop:=IsZip h z TI TO .none/\IsPair h TI (.ref i1) (.ref i2)/\(∃a b,IsPair h TO a b)/\h.IsListIter i1 l1 i/\h.IsListIter i2 l2 i
theorem turn_zip {P : Program} {w : World} {K : PySem.W.Frag} {elts : List Expr} {k : Nat} {pos : Pos} {z TI TO i1 i2 l1 l2 : Addr} (D : ZipApart z TI TO i1 i2 l1 l2) :
 Turn P w K (.Tuple elts k pos) (Itz K l1 l2) [z,TI,TO,i1,i2] z (tnZip z TI TO i1 i2 l1 l2) where
 mem:=by simp
 obj:=fun i h st b hb=>by
  obtain ⟨h1,h2,⟨a,c,h3⟩,⟨o4,h4,_,d4⟩,⟨o5,h5,_,d5⟩⟩:=st;simp only [List.mem_cons,List.not_mem_nil,or_false] at hb
  rcases hb with rfl | rfl | rfl | rfl | rfl
  . exact ⟨_,h1,fun v e=>(nomatch e)⟩
  . exact ⟨_,h2,fun v e=>(nomatch e)⟩
  . exact ⟨_,h3,fun v e=>(nomatch e)⟩
  . exact ⟨_,h4,fun v e=>by rw [d4] at e;cases e⟩
  . exact ⟨_,h5,fun v e=>by rw [d5] at e;cases e⟩
 keep:=fun i h h' st kk=>by
  obtain ⟨h1,h2,⟨a,c,h3⟩,h4,h5⟩:=st;exact ⟨kk z (by simp) _ h1,kk TI (by simp) _ h2,⟨a,c,kk TO (by simp) _ h3⟩,h4.at fun o e=>kk i1 (by simp) o e,h5.at fun o e=>kk i2 (by simp) o e⟩
 item:=by
  intro X hP hw hK hc i pins s σ H E I hf st hg;subst hP hw hK;obtain ⟨h1,h2,⟨a,c,h3⟩,h4,h5⟩:=st;obtain ⟨xs,ys,x,y,q1,q2,hx,hy⟩:=hg;obtain ⟨its,rv,p,hz⟩:=I.list q1;obtain ⟨jts,rw',p',hz'⟩:=I.list q2;obtain ⟨u,hu,ru⟩:=rv.get hx;obtain ⟨u',hu',ru'⟩:=rw'.get hy;have ltS:∀ {h:Heap} {b:Addr} {o:Obj},h.get? b=some o -> @LT.lt Nat _ b h.objs.size:=fun e=>Heap.lt_size e;refine wpAny_pyNext_zip_item D h1 h2 h3 h4 h5 p.isList p'.isList (x:=u) (y:=u') (by simpa using hu) (by simpa using hu') fun h' a1 a2 a3 a4 a5 a6 hk=> ?_;refine ⟨_,rfl,wpAny_letOwnedTupleGo_zip a1 fun h'' a1' sb=> ?_⟩;have ch:∀b ∈ [z,TI,TO,i1,i2],H b=none:=fun b hb=>(hf b hb).1
  have kk:∀b o,b ∉ [z,TO,i1,i2]->s.heap.get? b=some o->h''.get? b=some o:=fun b o hb e=>by
   simp only [List.mem_cons,List.not_mem_nil,or_false,not_or] at hb
   exact sb.extBut b o hb.1 (hk b o hb.1 hb.2.1 hb.2.2.1 hb.2.2.2 e)
  have eT:h''.get? s.heap.objs.size=some {cls:= .type "tuple",data:= .seq #[u,u']}:=sb.extBut _ _ (fun e=>by have l:=ltS h1;rw [<-e] at l;omega) a5
  have sub:∀b,b ∈ [z,TO,i1,i2]->b ∈ [z,TI,TO,i1,i2]:=fun b hb=>by
   simp only [List.mem_cons,List.not_mem_nil,or_false] at hb ⊢
   rcases hb with r | r | r | r
   . exact .inl r
   . exact .inr (.inr (.inl r))
   . exact .inr (.inr (.inr (.inl r)))
   . exact .inr (.inr (.inr (.inr r)))
  have nT:H s.heap.objs.size=none:=I.hok.fresh (Nat.le_refl _)
  have hok1 : HOk X.prog X.w H h'' := fun b o e => (I.hok b o e).stay (fun d v hd q => kk d v (fun hm => by
   have n:=ch d (sub d hm);rcases hd with hd | hd
   . rw [hd,e] at n;cases n
   . rw [hd] at n;cases n) q) (fun _ q=>q) fun _ _ q=>q
  have hok2:HOk X.prog X.w (upd H s.heap.objs.size (.tup [x,y])) h'':=HOk_add hok1 nT ⟨by show 2<=sizeLine;decide,[u,u'], .cons ru (.cons ru' .nil),⟨_,eT,rfl,_,rfl⟩⟩
  have un:Un (frs X.stack) [z,TO,i1,i2] H (upd H s.heap.objs.size (.tup [x,y])) s.heap h'':=by
   refine ⟨fun b o e _ _ hx=>kk b o hx e,fun b o e _ _ hx=>⟨o.slots,kk b o hx e⟩,fun b o e n _=> ?_,fun b o e hx=>⟨o,kk b o hx e⟩,fun b zs e=> ?_,fun b o v e=> ?_,fun b ps e=>⟨#[],?_⟩⟩
   . have l:=ltS e;rw [upd_ne (by intro q;subst q;omega)];exact n
   . rw [upd_ne (ne_of_none e nT)];exact e
   . rw [upd_ne (ne_of_none e nT)];exact e
   . rw [upd_ne (ne_of_none e nT)];simpa using e
  have I2:Inv X pins σ (upd H s.heap.objs.size (.tup [x,y])) {s with heap:=h'' }:=I.call' rfl un hok2 I.bare fun b hb=>by
   obtain ⟨f0,f1,f2,f3,f4,f5⟩:=hf b (sub b hb);exact ⟨f3,f1,f4,f5⟩
  refine ⟨.ref s.heap.objs.size,_,I2,rfl,⟨s.heap.objs.size,x,y,nT,rfl,rfl,fun zs hq=> ?_,fun zs hq=> ?_⟩,⟨a1',?_,⟨_,_,sb.extBut _ _ D.TOz a2⟩,a3.extBut sb.extBut D.i1z,a4.extBut sb.extBut D.i2z⟩,fun b hb=> ?_⟩
  . rw [I.list_inj hq q1];exact hx
  . rw [I.list_inj hq q2];exact hy
  . exact sb.extBut _ _ D.TIz (hk TI _ D.TIz D.TITO D.TIi1 D.TIi2 h2)
  . have n:=ch b hb
    obtain ⟨o,e⟩:∃o,s.heap.get? b=some o:=by
     simp only [List.mem_cons,List.not_mem_nil,or_false] at hb
     rcases hb with rfl | rfl | rfl | rfl | rfl
     . exact ⟨_,h1⟩
     . exact ⟨_,h2⟩
     . exact ⟨_,h3⟩
     . obtain ⟨o,e,_⟩:=h4;exact ⟨o,e⟩
     . obtain ⟨o,e,_⟩:=h5;exact ⟨o,e⟩
    have l:=ltS e;rw [upd_ne (by intro q;subst q;omega)];exact n
 done:=by
  intro X hP hw hK hc i pins s σ H E I hf st hg;subst hP hw hK;obtain ⟨h1,h2,⟨a,c,h3⟩,h4,h5⟩:=st;obtain ⟨xs,ys,q1,q2,he⟩:=hg;obtain ⟨its,rv,p,hz⟩:=I.list q1;obtain ⟨jts,rw',p',hz'⟩:=I.list q2;have l1:=rv.length;have l2:=rw'.length
  refine wpAny_pyNext_zip_end (I.ok.hd hc) D h1 h2 h3 h4 h5 p.isList p'.isList (by rcases he with e | e; · left; simp; omega
                                                                                   . right;simp;omega) fun h' hk=>⟨rfl,?_⟩
  have ch:∀b ∈ [z,TI,TO,i1,i2],H b=none:=fun b hb=>(hf b hb).1
  have sub:∀b,b ∈ [z,TO,i1,i2]->b ∈ [z,TI,TO,i1,i2]:=fun b hb=>by
   simp only [List.mem_cons,List.not_mem_nil,or_false] at hb ⊢
   rcases hb with r | r | r | r
   . exact .inl r
   . exact .inr (.inr (.inl r))
   . exact .inr (.inr (.inr (.inl r)))
   . exact .inr (.inr (.inr (.inr r)))
  have kk:∀b o,b ∉ [z,TO,i1,i2]->s.heap.get? b=some o->h'.get? b=some o:=fun b o hb e=>by
   simp only [List.mem_cons,List.not_mem_nil,or_false,not_or] at hb
   exact hk b o hb.1 hb.2.1 hb.2.2.1 hb.2.2.2 e
  have hok1 : HOk X.prog X.w H h' := fun b o e => (I.hok b o e).stay (fun d v hd q => kk d v (fun hm => by
   have n:=ch d (sub d hm);rcases hd with hd | hd
   . rw [hd,e] at n;cases n
   . rw [hd] at n;cases n) q) (fun _ q=>q) fun _ _ q=>q
  have un:Un (frs X.stack) [z,TO,i1,i2] H H s.heap h' :=
   ⟨fun b o e _ _ hx=>kk b o hx e,fun b o e _ _ hx=>⟨o.slots,kk b o hx e⟩,fun b o e n _=>n,fun b o e hx=>⟨o,kk b o hx e⟩,fun b zs e=>e,fun b o v e=>e,fun b ps e=>⟨#[],by simpa using e⟩⟩
  exact I.call' rfl un hok1 I.bare fun b hb=>by
   obtain ⟨f0,f1,f2,f3,f4,f5⟩:=hf b (sub b hb);exact ⟨f3,f1,f4,f5⟩
 self:=fun _ _ _ _ _ st h=>wpAny_pyIter_zip st.1 h
section
variable {X:Cx}
section
variable {K:PySem.W.Frag} {σ0:L2.St} {g:TG} {tt:TT} {te:TE} {H:Hp} {Q:VK}
theorem Reps.snoc{vs:List V}{ds:List PyData}{v:V}{d:PyData}(h:Reps K H vs ds)(k:Rep K H v d):Reps K H (vs ++ [v]) (ds ++ [d]):=by
 induction vs generalizing ds with
 | nil=>cases h;exact .cons k .nil
 | cons x xs ih=>cases h with | cons a b=>exact .cons a (ih b)
theorem Reps.get:∀ {vs:List V} {ds:List PyData} {i:Nat} {d:PyData},Reps K H vs ds->ds[i]? = some d->∃v,vs[i]? = some v/\Rep K H v d
 | _,_,_,_, .nil,e=>by simp at e
 | _,_,0,_, .cons r _,e=>by simp at e;subst e;exact ⟨_,rfl,r⟩
 | _,_,i+1,d, .cons _ t,e=>by
  obtain ⟨u,h1,h2⟩:=Reps.get (i:=i) (d:=d) t (by simpa using e);exact ⟨u,by simpa using h1,h2⟩
end
end
end Tf
namespace Dm
open PySem PySem.Spec PyProof.Rows L2 Tf
inductive Sl where
 | val (d:PyData)
 | own (ds:List PyData)
 | dct (kvs:List (PyData×PyData))
def Sl.dat:Sl->PyData
 | .val d=>d
 | .own ds=> .list ds
 | .dct kvs=> .dict kvs
abbrev En:=List (Option Sl)
theorem same_upd2{H0 H:Hp}{p:Addr}{o:HO}(h:Same H0 H):Same (upd H0 p o) (upd H p o):=fun b u e=>by
 by_cases hb:b=p
 . subst hb;rw [upd_same] at e ⊢;exact e
 . rw [upd_ne hb] at e ⊢;exact h b u e
def Mu:HO->Prop
 | .tup _=>False
 | _=>True
structure Ext (H0 H H0' H':Hp):Prop where
 s:Same H H'
 s0:Same H0 H0'
 s1:Same H0' H'
 own:∀a o,H a=some o->Mu o->H0 a=none->H0' a=none
theorem Ext.refl{H0 H:Hp}(h:Same H0 H):Ext H0 H H0 H:=⟨Same.refl _,Same.refl _,h,fun _ _ _ _ h=>h⟩
theorem Ext.trans{H0 H H1 J1 H2 J2:Hp}(a:Ext H0 H H1 J1)(b:Ext H1 J1 H2 J2):Ext H0 H H2 J2:=
 ⟨a.s.trans b.s,a.s0.trans b.s0,b.s1,fun x o h m h0=>b.own x o (a.s x o h) m (a.own x o h m h0)⟩
theorem Ext.chain{S0 HB H0 H H1 J1:Hp}(a:Ext S0 HB H0 H)(b:Ext H0 H H1 J1):Ext S0 HB H1 J1:=
 ⟨a.s.trans b.s,a.s0.trans b.s0,b.s1,fun x o h m h0=>b.own x o (a.s x o h) m (a.own x o h m h0)⟩
theorem Ext.rebase{S0 HB H0 H:Hp}(a:Ext S0 HB H0 H):Ext H0 HB H0 H:=⟨a.s,Same.refl _,a.s1,fun _ _ _ _ h=>h⟩
theorem Ext.unbase{S0 HB H0 H H1 J1:Hp}(a:Ext S0 HB H0 H)(b:Ext H0 HB H1 J1):Ext S0 HB H1 J1:=
 ⟨b.s,a.s0.trans b.s0,b.s1,fun x o h m h0=>b.own x o h m (a.own x o h m h0)⟩
theorem Ext.alloc{H0 H:Hp}{p:Addr}(h:Same H0 H)(hp:H p=none)(o:HO):Ext H0 H H0 (upd H p o) :=
 ⟨Same.upd hp o,Same.refl _,h.trans (Same.upd hp o),fun _ _ _ _ h=>h⟩
theorem Ext.allocF{H0 H:Hp}{p:Addr}(h:Same H0 H)(hp:H p=none)(o:HO):Ext H0 H (upd H0 p o) (upd H p o) :=
 ⟨Same.upd hp o,Same.upd (h.free hp) o,same_upd2 h,fun a o' ha _ h0=>by rw [upd_ne (ne_of_none ha hp)];exact h0⟩
section
variable {K:PySem.W.Frag}
def DctR(K:PySem.W.Frag)(H0:Hp)(t:List (List Key×V))(kvs:List (PyData×PyData)):Prop:=∃(ks:List (List Key)) (xs:List V) (ds:List PyData),t=ks.zip xs/\ks.length=xs.length/\Reps K H0 xs ds/\kvs=(ks.map tupD).zip ds
theorem DctR.same{H0 H0':Hp}{t:List (List Key×V)}{kvs:List (PyData×PyData)}(s:Same H0 H0')(h:DctR K H0 t kvs):DctR K H0' t kvs:=by
 obtain ⟨ks,xs,ds,e1,e2,e3,e4⟩:=h;exact ⟨ks,xs,ds,e1,e2,Reps.same s e3,e4⟩
theorem DctR.rep{H:Hp}{a:Addr}{t:List (List Key×V)}{kvs:List (PyData×PyData)}(h:DctR K H t kvs)(e:H a=some (.dT t)):Rep K H (.ref a) (.dict kvs):=by
 obtain ⟨ks,xs,ds,rfl,e2,e3,rfl⟩:=h;exact .dict (.inl e) e2 e3
def SlP(K:PySem.W.Frag)(H0 H:Hp)(v:V):Sl->Prop
 | .val d=>Rep K H0 v d
 | .own ds=>∃a vs,v = .ref a/\H a=some (.lst vs)/\Reps K H0 vs ds
 | .dct kvs=>∃a t,v = .ref a/\H a=some (.dT t)/\DctR K H0 t kvs
def SlH(K:PySem.W.Frag)(HB H0 H:Hp)(v:V):Sl->Prop
 | .val d=>Rep K H0 v d
 | .own ds=>∃a vs,v = .ref a/\HB a=none/\H0 a=none/\H a=some (.lst vs)/\Reps K H0 vs ds
 | .dct kvs=>∃a t,v = .ref a/\HB a=none/\H0 a=none/\H a=some (.dT t)/\DctR K H0 t kvs
theorem SlH.p{HB H0 H:Hp}{v:V}:∀ {s:Sl},SlH K HB H0 H v s->SlP K H0 H v s
 | .val _,h=>h
 | .own _,⟨a,vs,e,_,_,h1,h2⟩=>⟨a,vs,e,h1,h2⟩
 | .dct _,⟨a,vs,e,_,_,h1,h2⟩=>⟨a,vs,e,h1,h2⟩
theorem SlH.base{HB HB' H0 H:Hp}{v:V}(s:Same HB HB'):∀ {r:Sl},SlH K HB' H0 H v r->SlH K HB H0 H v r
 | .val _,h=>h
 | .own _,⟨a,vs,e,h0,h1,h2,h3⟩=>⟨a,vs,e,s.free h0,h1,h2,h3⟩
 | .dct _,⟨a,vs,e,h0,h1,h2,h3⟩=>⟨a,vs,e,s.free h0,h1,h2,h3⟩
theorem SlH.ext{HB H0 H H0' H':Hp}{v:V}(x:Ext H0 H H0' H'):∀ {r:Sl},SlH K HB H0 H v r->SlH K HB H0' H' v r
 | .val _,h=>Rep.same x.s0 h
 | .own _,⟨a,vs,e,h0,h1,h2,h3⟩=>⟨a,vs,e,h0,x.own a _ h2 True.intro h1,x.s _ _ h2,Reps.same x.s0 h3⟩
 | .dct _,⟨a,vs,e,h0,h1,h2,h3⟩=>⟨a,vs,e,h0,x.own a _ h2 True.intro h1,x.s _ _ h2,h3.same x.s0⟩
theorem SlP.ext{H0 H H0' H':Hp}{v:V}(x:Ext H0 H H0' H'):∀ {r:Sl},SlP K H0 H v r->SlP K H0' H' v r
 | .val _,h=>Rep.same x.s0 h
 | .own _,⟨a,vs,e,h2,h3⟩=>⟨a,vs,e,x.s _ _ h2,Reps.same x.s0 h3⟩
 | .dct _,⟨a,vs,e,h2,h3⟩=>⟨a,vs,e,x.s _ _ h2,h3.same x.s0⟩
theorem SlP.rep{H0 H:Hp}{v:V}(s:Same H0 H):∀ {r:Sl},SlP K H0 H v r->Rep K H v r.dat
 | .val _,h=>Rep.same s h
 | .own _,⟨a,vs,e,h2,h3⟩=>by subst e;exact .list (SqL.of h2) (Reps.same s h3)
 | .dct _,⟨a,vs,e,h2,h3⟩=>by subst e;exact (h3.same s).rep h2
theorem SlP.lst{H0 H:Hp}{v:V}{ds:List PyData}(s:Same H0 H):∀ {r:Sl},SlP K H0 H v r->r.dat = .list ds->∃a vs,v = .ref a/\SqL K H a vs/\Reps K H0 vs ds
 | .val _,h,e=>by
  cases h with
  | list h1 h2=>cases e;exact ⟨_,_,rfl,s.seq h1,h2⟩
  | _=>cases e
 | .own _,⟨a,vs,e,h2,h3⟩,e2=>by cases e2;exact ⟨a,vs,e,SqL.of h2,h3⟩
 | .dct _,_,e2=>by cases e2
theorem SlP.tup{H0 H:Hp}{v:V}{ds:List PyData}:∀ {r:Sl},SlP K H0 H v r->r.dat = .tuple ds->∃a vs,v = .ref a/\H0 a=some (.tup vs)/\Reps K H0 vs ds
 | .val _,h,e=>by
  cases h with
  | tuple h1 h2=>cases e;exact ⟨_,_,rfl,h1,h2⟩
  | _=>cases e
 | .own _,_,e=>by cases e
 | .dct _,_,e=>by cases e
theorem SlP.int{H0 H:Hp}{v:V}{i:Int}(h:SlP K H0 H v (.val (.int i))):v = .int i:=by cases (show Rep K H0 v (.int i) from h);rfl
theorem SlP.bool{H0 H:Hp}{v:V}{i:Bool}(h:SlP K H0 H v (.val (.bool i))):v = .bl i:=by cases (show Rep K H0 v (.bool i) from h);rfl
theorem SlP.str{H0 H:Hp}{v:V}{i:Str}(h:SlP K H0 H v (.val (.str i))):v = .str i:=by cases (show Rep K H0 v (.str i) from h);rfl
theorem SlP.none{H0 H:Hp}{v:V}(h:SlP K H0 H v (.val .none)):v = .non:=by cases (show Rep K H0 v .none from h);rfl
structure ER (K:PySem.W.Frag) (HB H0 H:Hp) (σ:L2.St) (ρ:En):Prop where
 len:σ.length=ρ.length
 get:∀(i:Nat) s,ρ[i]? = some (some s)->∃v,σ[i]? = some (some v)/\SlH K HB H0 H v s
 apart:∀(i j:Nat) a ds es,i≠j->ρ[i]? = some (some (.own ds))->ρ[j]? = some (some (.own es))->σ[i]? = some (some (.ref a))->σ[j]? ≠ some (some (.ref a))
theorem ER.ext{HB H0 H H0' H':Hp}{σ:L2.St}{ρ:En}(x:Ext H0 H H0' H')(e:ER K HB H0 H σ ρ):ER K HB H0' H' σ ρ:=
 ⟨e.len,fun i s h=>by obtain ⟨v,h1,h2⟩:=e.get i s h;exact ⟨v,h1,h2.ext x⟩,e.apart⟩
structure Rl where
 r:Hp->Hp->Hp->L2.St->En->Prop
 slot:Nat->Prop
structure ST (R:Rl) (HB H0 H:Hp) (σ:L2.St) (ρ:En):Prop where
 r:R.r HB H0 H σ ρ
class RelOk (K:outParam PySem.W.Frag) (R:Rl):Prop where
 ext:∀ {HB H0 H H0' H':Hp} {σ:L2.St} {ρ:En},Ext H0 H H0' H'->R.r HB H0 H σ ρ->R.r HB H0' H' σ ρ
 get:∀ {HB H0 H:Hp} {σ:L2.St} {ρ:En} {i:Nat} {s:Sl},R.r HB H0 H σ ρ->R.slot i->ρ[i]? = some (some s)->∃v,σ[i]? = some (some v)/\SlH K HB H0 H v s
 set:∀ {HB H0 H H0' H':Hp} {σ:L2.St} {ρ:En} {i:Nat} {v:V} {s:Sl},R.r HB H0 H σ ρ->R.slot i->Ext H0 H H0' H'->Same HB H->SlH K H H0' H' v s->R.r HB H0' H' (σ.set i (some v)) (ρ.set i (some s))
 write:∀ {HB H0 H:Hp} {σ:L2.St} {ρ:En} {i:Nat} {a:Addr} {ds es:List PyData} {vs ys:List V},R.r HB H0 H σ ρ->R.slot i->ρ[i]? = some (some (.own ds))->σ[i]? = some (some (.ref a))->HB a=none->H0 a=none->H a=some (.lst vs)->Reps K H0 ys es->R.r HB H0 (upd H a (.lst ys)) σ (ρ.set i (some (.own es)))
 frz:∀ {S0 HB H0 H:Hp} {σ:L2.St} {ρ:En} {i:Nat} {ds:List PyData},R.r HB H0 H σ ρ->R.slot i->ρ[i]? = some (some (.own ds))->Ext S0 HB H0 H->∃H0',Ext S0 HB H0' H/\R.r HB H0' H σ (ρ.set i (some (.val (.list ds))))
theorem ST.ext{R:Rl} [RelOk K R] {HB H0 H H0' H':Hp} {σ:L2.St} {ρ:En} (x:Ext H0 H H0' H') (e:ST R HB H0 H σ ρ):ST R HB H0' H' σ ρ:=⟨RelOk.ext (K:=K) x e.r⟩
def PR(K:PySem.W.Frag):Rl:=⟨ER K,fun _=>True⟩
variable {R:Rl} [RelOk K R]
def RX{α:Type}(K:PySem.W.Frag)(R:Rl)(P:Hp->Hp->Hp->V->α->Prop)(te:TE)(f:En->Option α):Prop:=
 ∀(HB:Hp) (σ:L2.St) (ρ:En) (H0 H:Hp),Same H0 H->ST R HB H0 H σ ρ->∀r,f ρ=some r->∀Q:VK,(∀v H0' H',Ext H0 H H0' H'->P H H0' H' v r->Q v H')->te σ H Q
abbrev RE (K:PySem.W.Frag) (R:Rl):TE->(En->Option Sl)->Prop:=RX K R (fun H H0' H' v r=>SlH K H H0' H' v r)
abbrev RP (K:PySem.W.Frag) (R:Rl):TE->(En->Option Sl)->Prop:=RX K R (fun _ H0' H' v r=>SlP K H0' H' v r)
abbrev RV (K:PySem.W.Frag) (R:Rl):TE->(En->Option PyData)->Prop:=RX K R (fun _ H0' _ v d=>Rep K H0' v d)
def RT(K:PySem.W.Frag)(R:Rl)(tt:TT)(f:En->Option Bool):Prop:=
 ∀(HB:Hp) (σ:L2.St) (ρ:En) (H0 H:Hp),Same H0 H->ST R HB H0 H σ ρ->∀b,f ρ=some b->∀Q:Bool->Hp->Prop,(∀H0' H',Ext H0 H H0' H'->Q b H')->tt σ H Q
def RA(K:PySem.W.Frag)(R:Rl)(ta:TA)(f:En->Option (List PyData)):Prop:=
 ∀(HB:Hp) (σ:L2.St) (ρ:En) (H0 H:Hp),Same H0 H->ST R HB H0 H σ ρ->∀ds,f ρ=some ds->∀Q:List V->Hp->Prop,(∀vs H0' H',Ext H0 H H0' H'->Reps K H0' vs ds->Q vs H')->ta σ H Q
def RQ(K:PySem.W.Frag)(R:Rl)(ta:TA)(f:En->Option (List Sl)):Prop:=
 ∀(HB:Hp) (σ:L2.St) (ρ:En) (H0 H:Hp),Same H0 H->ST R HB H0 H σ ρ->∀ss,f ρ=some ss->∀Q:List V->Hp->Prop,(∀vs H0' H',Ext H0 H H0' H'->Paired (SlP K H0' H') vs ss->Q vs H')->ta σ H Q
theorem RE.rp{te:TE}{f:En->Option Sl}(h:RE K R te f):RP K R te f:=fun HB σ ρ H0 H s e r hr Q q=>h HB σ ρ H0 H s e r hr Q fun v H0' H' x p=>q v H0' H' x p.p
theorem frz_ext{H0 H H0' H':Hp}{a:Addr}{w:HO}(x:Ext H0 H H0' H')(hn:H a=none)(h1:H0' a=none)(h2:H' a=some w):Ext H0 H (upd H0' a w) H' :=
 ⟨x.s,x.s0.trans (Same.upd h1 _),fun b u e=>by
  by_cases hb:b=a
  . subst hb;rw [upd_same] at e;rw [h2];exact e
  . rw [upd_ne hb] at e;exact x.s1 b u e,fun b o hb m h0=>by
  rw [upd_ne (ne_of_none hb hn)];exact x.own b o hb m h0⟩
def mDat(f:En->Option Sl):En->Option PyData:=fun ρ=>(f ρ).map Sl.dat
theorem RE.rv{te:TE}{f:En->Option Sl}(h:RE K R te f):RV K R te (mDat f):=fun HB σ ρ H0 H s e d hd Q q=>by
 obtain ⟨r,hr,rfl⟩:=Option.map_eq_some_iff.mp hd;refine h HB σ ρ H0 H s e r hr Q fun v H0' H' x p=> ?_
 cases r with
 | val d=>exact q v H0' H' x p
 | own ds=>
  obtain ⟨a,vs,rfl,hn,h1,h2,h3⟩:=p
  exact q _ _ _ (frz_ext x hn h1 h2) (.list (SqL.of upd_same) (Reps.same (Same.upd h1 _) h3))
 | dct kvs=>
  obtain ⟨a,t,rfl,hn,h1,h2,h3⟩:=p;exact q _ _ _ (frz_ext x hn h1 h2) ((h3.same (Same.upd h1 _)).rep upd_same)
def mPk(i:Nat):En->Option Sl:=fun ρ=>(ρ[i]?).join
def mVar(i:Nat):En->Option Sl:=fun ρ=>match (ρ[i]?).join with
 | some (.val d)=>some (.val d)
 | _=>none
def mK(d:PyData):En->Option Sl:=fun _=>some (.val d)
theorem join_some{α:Type}{o:Option (Option α)}{a:α}(h:o.join=some a):o=some (some a):=by
 cases o with
 | none=>cases h
 | some b=>exact congrArg some h
theorem rp_var(i:Nat)(hs:R.slot i):RP K R (tVar i) (mPk i):=fun HB σ ρ H0 H s e r hr Q q=>by
 obtain ⟨v,h1,h2⟩:=RelOk.get (K:=K) e.r hs (join_some hr);exact ⟨v,h1,q v H0 H (Ext.refl s) h2.p⟩
theorem re_var(i:Nat)(hs:R.slot i):RE K R (tVar i) (mVar i):=fun HB σ ρ H0 H s e r hr Q q=>by
 unfold mVar at hr
 cases ej:(ρ[i]?).join with
 | none=>rw [ej] at hr;cases hr
 | some r' =>
  rw [ej] at hr
  cases r' with
  | own _=>cases hr
  | dct _=>cases hr
  | val d=>
   cases hr
   obtain ⟨v,h1,h2⟩:=RelOk.get (K:=K) e.r hs (join_some ej);exact ⟨v,h1,q v H0 H (Ext.refl s) h2⟩
theorem re_k{v:V}{d:PyData}(h:∀H0:Hp,Rep K H0 v d):RE K R (tC v) (mK d):=fun HB σ ρ H0 H s e r hr Q q=>by
 cases hr
 exact q v H0 H (Ext.refl s) (h H0)
def OpD(K:PySem.W.Frag)(r:R2)(op:Sl->Sl->Option Sl):Prop:=
 ∀(H0 H:Hp) (x y:V) (sx sy z:Sl),Same H0 H->SlP K H0 H x sx->SlP K H0 H y sy->op sx sy=some z->∀Q:VK,(∀v H0' H',Ext H0 H H0' H'->SlH K H H0' H' v z->Q v H')->r x y H Q
def mBin(op:Sl->Sl->Option Sl)(fa fb:En->Option Sl):En->Option Sl:=fun ρ=>(fa ρ).bind fun a=>(fb ρ).bind fun b=>op a b
def mUn(op:Sl->Option Sl)(fa:En->Option Sl):En->Option Sl:=fun ρ=>(fa ρ).bind op
theorem re_bin{r:R2}{op:Sl->Sl->Option Sl}{ta tb:TE}{fa fb:En->Option Sl}(ho:OpD K r op)(ha:RP K R ta fa)(hb:RP K R tb fb):RE K R (tOp r ta tb) (mBin op fa fb):=fun HB σ ρ H0 H s e z hz Q q=>by
 obtain ⟨x,hx,hz⟩:=Option.bind_eq_some_iff.mp hz;obtain ⟨y,hy,hz⟩:=Option.bind_eq_some_iff.mp hz;refine ha HB σ ρ H0 H s e x hx _ fun v H1 J1 x1 p1=> ?_;refine hb HB σ ρ H1 J1 x1.s1 (e.ext (K:=K) x1) y hy _ fun u H2 J2 x2 p2=> ?_;exact ho H2 J2 v u x y z x2.s1 (p1.ext x2) p2 hz Q fun w H3 J3 x3 p3=>q w H3 J3 ((x1.trans x2).trans x3) (p3.base (x1.trans x2).s)
def iop(g:Int->Int->Int):Sl->Sl->Option Sl
 | .val (.int i), .val (.int j)=>some (.val (.int (g i j)))
 | _,_=>none
open Classical in
noncomputable def iopC(C:Int->Int->Prop)(g:Int->Int->Int):Sl->Sl->Option Sl
 | .val (.int i), .val (.int j)=>if C i j then some (.val (.int (g i j))) else none
 | _,_=>none
def icmp(g:Int->Int->Bool):Sl->Sl->Option Sl
 | .val (.int i), .val (.int j)=>some (.val (.bool (g i j)))
 | _,_=>none
def iun(g:Int->Int):Sl->Option Sl
 | .val (.int i)=>some (.val (.int (g i)))
 | _=>none
theorem opd_iop{g:Int->Int->Int}:OpD K (rI0 fun i j=> .int (g i j)) (iop g):=fun H0 H x y sx sy z s px py hz Q q=>by
 unfold iop at hz
 split at hz
 . cases hz
   exact ⟨_,_,px.int,py.int,q _ _ _ (Ext.refl s) (.int _)⟩
 . cases hz
theorem opd_iopC{C:Int->Int->Prop}{g:Int->Int->Int}:OpD K (rI C fun i j=> .int (g i j)) (iopC C g):=fun H0 H x y sx sy z s px py hz Q q=>by
 unfold iopC at hz
 split at hz
 . split at hz
   . rename_i hc
     cases hz
     exact ⟨_,_,px.int,py.int,hc,q _ _ _ (Ext.refl s) (.int _)⟩
   . cases hz
 . cases hz
theorem opd_icmp{g:Int->Int->Bool}:OpD K (rI0 fun i j=> .bl (g i j)) (icmp g):=fun H0 H x y sx sy z s px py hz Q q=>by
 unfold icmp at hz
 split at hz
 . cases hz
   exact ⟨_,_,px.int,py.int,q _ _ _ (Ext.refl s) (.bool _)⟩
 . cases hz
def eqD(a b:PyData):Option Bool:=if a.canLay0=true/\b.canLay0=true/\min a.depth b.depth<=60 then some (PyData.eqv a b) else none
def deq:Sl->Sl->Option Sl:=fun a b=>(eqD a.dat b.dat).map fun k=> .val (.bool k)
def dne:Sl->Sl->Option Sl:=fun a b=>(eqD a.dat b.dat).map fun k=> .val (.bool (!k))
theorem opd_eq:OpD K (rEqD K) deq:=fun H0 H x y sx sy z s px py hz Q q=>by
 obtain ⟨k,hk,rfl⟩:=Option.map_eq_some_iff.mp hz;unfold eqD at hk
 split at hk
 . rename_i hc
   cases hk
   exact ⟨_,_,px.rep s,py.rep s,hc.1,hc.2.1,hc.2.2,q _ _ _ (Ext.refl s) (.bool _)⟩
 . cases hk
theorem opd_ne:OpD K (rNeD K) dne:=fun H0 H x y sx sy z s px py hz Q q=>by
 obtain ⟨k,hk,rfl⟩:=Option.map_eq_some_iff.mp hz;unfold eqD at hk
 split at hk
 . rename_i hc
   cases hk
   exact ⟨_,_,px.rep s,py.rep s,hc.1,hc.2.1,hc.2.2,q _ _ _ (Ext.refl s) (.bool _)⟩
 . cases hk
def isNone:PyData->Bool
 | .none=>true
 | _=>false
def disN:Sl->Sl->Option Sl
 | a, .val .none=>some (.val (.bool (isNone a.dat)))
 | _,_=>none
def disNN:Sl->Sl->Option Sl
 | a, .val .none=>some (.val (.bool (!isNone a.dat)))
 | _,_=>none
def dix:Sl->Sl->Option Sl
 | a, .val (.int i)=>match a.dat with
  | .list ds=>(atI ds i).map .val
  | .tuple ds=>(atI ds i).map .val
  | _=>none
 | _,_=>none
theorem Reps.atI{H:Hp}{vs:List V}{ds:List PyData}{i:Int}{d:PyData}(h:Reps K H vs ds)(e:atI ds i=some d):∃v,atI vs i=some v/\Rep K H v d:=by
 unfold L2.atI at e ⊢
 rw [h.length]
 cases ej:ixN ds.length i with
 | none=>rw [ej] at e;cases e
 | some j=>
  rw [ej] at e
  obtain ⟨v,h1,h2⟩:=Tf.Reps.get h (show ds[j]? = some d from e);exact ⟨v,h1,h2⟩
theorem opd_ix:OpD K (rIx K) dix:=fun H0 H x y sx sy z s px py hz Q q=>by
 unfold dix at hz
 split at hz
 . split at hz
   . rename_i i ds hd;obtain ⟨d,he,rfl⟩:=Option.map_eq_some_iff.mp hz;obtain ⟨a,vs,rfl,h1,h2⟩:=px.lst s hd;obtain ⟨v,h3,h4⟩:=Reps.atI h2 he;exact .inl ⟨a,vs,_,v,rfl,py.int,h1,h3,q _ _ _ (Ext.refl s) h4⟩
   . rename_i i ds hd;obtain ⟨d,he,rfl⟩:=Option.map_eq_some_iff.mp hz;obtain ⟨a,vs,rfl,h1,h2⟩:=px.tup hd;obtain ⟨v,h3,h4⟩:=Reps.atI h2 he;exact .inr (.inl ⟨a,vs,_,v,rfl,py.int,s.seqT (SqT.of h1),h3,q _ _ _ (Ext.refl s) h4⟩)
   . cases hz
 . cases hz
end
end Dm
namespace Dm
open PySem PySem.Spec PyProof.Rows L2 Tf
section
variable {K:PySem.W.Frag} {R:Rl} [RelOk K R]
def mNil:En->Option (List PyData):=fun _=>some []
def mCons(f:En->Option Sl)(g:En->Option (List PyData)):En->Option (List PyData):=fun ρ=>(f ρ).bind fun a=>(g ρ).bind fun as=>some (a.dat::as)
theorem ra_nil:RA K R tNil mNil:=fun HB σ ρ H0 H s e ds hd Q q=>by
 cases hd
 exact q [] H0 H (Ext.refl s) .nil
theorem ra_cons{te:TE}{ta:TA}{f:En->Option Sl}{g:En->Option (List PyData)}(hf:RE K R te f)(hg:RA K R ta g):RA K R (tCons te ta) (mCons f g):=fun HB σ ρ H0 H s e ds hd Q q=>by
 obtain ⟨a,ha,hd⟩:=Option.bind_eq_some_iff.mp hd;obtain ⟨as,has,hd⟩:=Option.bind_eq_some_iff.mp hd
 cases hd
 refine hf.rv HB σ ρ H0 H s e a.dat (by unfold mDat;rw [ha];rfl) _ fun v H1 J1 x1 p1=> ?_;exact hg HB σ ρ H1 J1 x1.s1 (e.ext (K:=K) x1) as has _ fun vs H2 J2 x2 p2=>q _ H2 J2 (x1.trans x2) (.cons (Rep.same x2.s0 p1) p2)
def mNilP:En->Option (List Sl):=fun _=>some []
def mConsP(f:En->Option Sl)(g:En->Option (List Sl)):En->Option (List Sl):=fun ρ=>(f ρ).bind fun a=>(g ρ).bind fun as=>some (a::as)
theorem rq_nil:RQ K R tNil mNilP:=fun HB σ ρ H0 H s e ds hd Q q=>by
 cases hd
 exact q [] H0 H (Ext.refl s) .nil
theorem rq_cons{te:TE}{ta:TA}{f:En->Option Sl}{g:En->Option (List Sl)}(hf:RP K R te f)(hg:RQ K R ta g):RQ K R (tCons te ta) (mConsP f g):=fun HB σ ρ H0 H s e ds hd Q q=>by
 obtain ⟨a,ha,hd⟩:=Option.bind_eq_some_iff.mp hd;obtain ⟨as,has,hd⟩:=Option.bind_eq_some_iff.mp hd
 cases hd
 refine hf HB σ ρ H0 H s e a ha _ fun v H1 J1 x1 p1=> ?_;exact hg HB σ ρ H1 J1 x1.s1 (e.ext (K:=K) x1) as has _ fun vs H2 J2 x2 p2=>q _ H2 J2 (x1.trans x2) (.cons (p1.ext x2) p2)
def mTup(f:En->Option (List PyData)):En->Option Sl:=fun ρ=>(f ρ).bind fun ds=>if ds.length<=sizeLine then some (.val (.tuple ds)) else none
def mLst(f:En->Option (List PyData)):En->Option Sl:=fun ρ=>(f ρ).bind fun ds=>if ds.length<=sizeLine then some (.own ds) else none
theorem re_tup{ta:TA}{f:En->Option (List PyData)}(h:RA K R ta f):RE K R (tTup ta) (mTup f):=fun HB σ ρ H0 H s e z hz Q q=>by
 obtain ⟨ds,hd,hz⟩:=Option.bind_eq_some_iff.mp hz
 split at hz
 . rename_i hl
   cases hz
   refine h HB σ ρ H0 H s e ds hd _ fun vs H1 J1 x1 p1=>⟨by rw [p1.length];exact hl,fun p hp=> ?_⟩;exact q _ _ _ (x1.trans (Ext.allocF x1.s1 hp _)) (.tuple upd_same (Reps.same (Same.upd (x1.s1.free hp) _) p1))
 . cases hz
theorem re_lst{ta:TA}{f:En->Option (List PyData)}(h:RA K R ta f):RE K R (tLst ta) (mLst f):=fun HB σ ρ H0 H s e z hz Q q=>by
 obtain ⟨ds,hd,hz⟩:=Option.bind_eq_some_iff.mp hz
 split at hz
 . rename_i hl
   cases hz
   refine h HB σ ρ H0 H s e ds hd _ fun vs H1 J1 x1 p1=>⟨by rw [p1.length];exact hl,fun p hp=> ?_⟩;exact q _ _ _ (x1.trans (Ext.alloc x1.s1 hp _)) ⟨p,vs,rfl,x1.s.free hp,x1.s1.free hp,upd_same,p1⟩
 . cases hz
def spD(K:PySem.W.Frag)(F:List PyData->Option Sl):Sp:=fun vs H Q _=>∃H0 ds r,Same H0 H/\Reps K H0 vs ds/\F ds=some r/\∀v H0' H',Ext H0 H H0' H'->SlH K H H0' H' v r->Q v H'
def mCall(F:List PyData->Option Sl)(f:En->Option (List PyData)):En->Option Sl:=fun ρ=>(f ρ).bind F
theorem re_call{F:List PyData->Option Sl}{E:XK}{ta:TA}{f:En->Option (List PyData)}(h:RA K R ta f):RE K R (tCall (spD K F) [] E ta) (mCall F f):=fun HB σ ρ H0 H s e z hz Q q=>by
 obtain ⟨ds,hd,hz⟩:=Option.bind_eq_some_iff.mp hz;refine h HB σ ρ H0 H s e ds hd _ fun vs H1 J1 x1 p1=> ?_;rw [List.append_nil];exact ⟨H1,ds,z,x1.s1,p1,hz,fun v H2 J2 x2 p2=>q v H2 J2 (x1.trans x2) (p2.base x1.s)⟩
def CallD(K:PySem.W.Frag)(r:List V->Hp->VK->Prop)(F:List Sl->Option Sl):Prop:=
 ∀(H0 H:Hp) (vs:List V) (ss:List Sl) (z:Sl),Same H0 H->Paired (SlP K H0 H) vs ss->F ss=some z->∀Q:VK,(∀v H0' H',Ext H0 H H0' H'->SlH K H H0' H' v z->Q v H')->r vs H Q
def mCallP(F:List Sl->Option Sl)(f:En->Option (List Sl)):En->Option Sl:=fun ρ=>(f ρ).bind F
theorem re_callB{r:List V->Hp->VK->Prop}{F:List Sl->Option Sl}{ta:TA}{f:En->Option (List Sl)}(hc:CallD K r F)(h:RQ K R ta f):RE K R (tCB r ta) (mCallP F f):=fun HB σ ρ H0 H s e z hz Q q=>by
 obtain ⟨ss,hd,hz⟩:=Option.bind_eq_some_iff.mp hz;refine h HB σ ρ H0 H s e ss hd _ fun vs H1 J1 x1 p1=> ?_;exact hc H1 J1 vs ss z x1.s1 p1 hz Q fun v H2 J2 x2 p2=>q v H2 J2 (x1.trans x2) (p2.base x1.s)
theorem paired1{H0 H:Hp}{vs:List V}{a:Sl}(h:Paired (SlP K H0 H) vs [a]):∃v,vs = [v]/\SlP K H0 H v a:=by
 cases h with | cons h t=>cases t;exact ⟨_,rfl,h⟩
theorem paired2{H0 H:Hp}{vs:List V}{a b:Sl}(h:Paired (SlP K H0 H) vs [a,b]):∃v w,vs = [v,w]/\SlP K H0 H v a/\SlP K H0 H w b:=by
 cases h with | cons h t=>cases t with | cons h2 t=>cases t;exact ⟨_,_,rfl,h,h2⟩
def dLen:List Sl->Option Sl
 | [a]=>match a.dat with
  | .list ds=>some (.val (.int ds.length))
  | .tuple ds=>some (.val (.int ds.length))
  | _=>none
 | _=>none
theorem cd_len:CallD K (fun xs H Q=>∃p ys,xs = [.ref p]/\(SqL K H p ys\/SqT K H p ys)/\Q (.int ys.length) H) dLen:=fun H0 H vs ss z s p hz Q q=>by
 unfold dLen at hz
 split at hz
 . obtain ⟨v,rfl,pa⟩:=paired1 p
   split at hz
   . rename_i ds hd
     cases hz
     obtain ⟨a,vs,rfl,h1,h2⟩:=pa.lst s hd;refine ⟨a,vs,rfl, .inl h1,?_⟩;rw [h2.length];exact q _ _ _ (Ext.refl s) (.int _)
   . rename_i ds hd
     cases hz
     obtain ⟨a,vs,rfl,h1,h2⟩:=pa.tup hd;refine ⟨a,vs,rfl, .inr (s.seqT (SqT.of h1)),?_⟩;rw [h2.length];exact q _ _ _ (Ext.refl s) (.int _)
   . cases hz
 . cases hz
def dAbs:List Sl->Option Sl
 | [.val (.int i)]=>some (.val (.int (if i<0 then -i else i)))
 | _=>none
def dList:List Sl->Option Sl
 | [a]=>match a.dat with
  | .list ds=>some (.own ds)
  | .tuple ds=>some (.own ds)
  | _=>none
 | _=>none
theorem cd_list:CallD K (fun xs H Q=>∃p ys,xs = [.ref p]/\(SqL K H p ys\/SqT K H p ys)/\∀l,H l=none->Q (.ref l) (upd H l (.lst ys))) dList:=fun H0 H vs ss z s p hz Q q=>by
 unfold dList at hz
 split at hz
 . obtain ⟨v,rfl,pa⟩:=paired1 p
   split at hz
   . rename_i ds hd
     cases hz
     obtain ⟨a,vs,rfl,h1,h2⟩:=pa.lst s hd;exact ⟨a,vs,rfl, .inl h1,fun l hl=>q _ _ _ (Ext.alloc s hl _) ⟨l,vs,rfl,hl,s.free hl,upd_same,h2⟩⟩
   . rename_i ds hd
     cases hz
     obtain ⟨a,vs,rfl,h1,h2⟩:=pa.tup hd;exact ⟨a,vs,rfl, .inr (s.seqT (SqT.of h1)),fun l hl=>q _ _ _ (Ext.alloc s hl _) ⟨l,vs,rfl,hl,s.free hl,upd_same,h2⟩⟩
   . cases hz
 . cases hz
def dTuple:List Sl->Option Sl
 | [a]=>match a.dat with
  | .list ds=>some (.val (.tuple ds))
  | .tuple ds=>some (.val (.tuple ds))
  | _=>none
 | _=>none
theorem cd_tuple:CallD K (fun xs H Q=>∃p ys,xs = [.ref p]/\((SqL K H p ys/\∀l,H l=none->Q (.ref l) (upd H l (.tup ys)))\/(SqT K H p ys/\Q (.ref p) H))) dTuple:=fun H0 H vs ss z s p hz Q q=>by
 unfold dTuple at hz
 split at hz
 . obtain ⟨v,rfl,pa⟩:=paired1 p
   split at hz
   . rename_i ds hd
     cases hz
     obtain ⟨a,vs,rfl,h1,h2⟩:=pa.lst s hd;exact ⟨a,vs,rfl, .inl ⟨h1,fun l hl=>q _ _ _ (Ext.allocF s hl _) (.tuple upd_same (Reps.same (Same.upd (s.free hl) _) h2))⟩⟩
   . rename_i ds hd
     cases hz
     obtain ⟨a,vs,rfl,h1,h2⟩:=pa.tup hd;exact ⟨a,vs,rfl, .inr ⟨s.seqT (SqT.of h1),q _ _ _ (Ext.refl s) (.tuple h1 h2)⟩⟩
   . cases hz
 . cases hz
def intsOf:List PyData->Option (List Int)
 | []=>some []
 | .int i::r=>(intsOf r).map (i :: ·)
 | _::_=>none
theorem intsOf_eq:∀ {ds:List PyData} {ns:List Int},intsOf ds=some ns->ds=ns.map .int
 | [],ns,h=>by cases h;rfl
 | .int i::r,ns,h=>by
  obtain ⟨ms,h1,rfl⟩:=Option.map_eq_some_iff.mp (show (intsOf r).map (i :: ·)=some ns from h);rw [intsOf_eq h1];rfl
theorem intsOf_map:∀ns:List Int,intsOf (ns.map .int)=some ns
 | []=>rfl
 | i::r=>by show (intsOf (r.map .int)).map (i :: ·)=_;rw [intsOf_map r];rfl
def dInt:List Sl->Option Sl
 | [.val (.int i)]=>some (.val (.int i))
 | [.val (.bool k)]=>some (.val (.int (if k then 1 else 0)))
 | _=>none
theorem cd_int:CallD K (fun xs H Q=>(∃i,xs = [.int i]/\Q (.int i) H)\/∃k,xs = [.bl k]/\Q (.int (if k then 1 else 0)) H) dInt:=fun H0 H vs ss z s p hz Q q=>by
 unfold dInt at hz
 split at hz
 . obtain ⟨v,rfl,pa⟩:=paired1 p
   cases hz
   exact .inl ⟨_,by rw [pa.int],q _ _ _ (Ext.refl s) (.int _)⟩
 . obtain ⟨v,rfl,pa⟩:=paired1 p
   cases hz
   exact .inr ⟨_,by rw [pa.bool],q _ _ _ (Ext.refl s) (.int _)⟩
 . cases hz
def tyD:PyData->Option String
 | .none=>some "NoneType"
 | .bool _=>some "bool"
 | .int _=>some "int"
 | .str _=>some "str"
 | .list _=>some "list"
 | .tuple _=>some "tuple"
 | _=>none
theorem tyD_of{H:Hp}{v:V}{d:PyData}(h:Rep K H v d)(hn:(tyD d).isSome=true):∃t,tyD d=some t/\TyV K H v t:=by
 cases h with
 | none=>exact ⟨_,rfl, .non⟩
 | bool b=>exact ⟨_,rfl, .bl b⟩
 | int i=>exact ⟨_,rfl, .int i⟩
 | str x=>exact ⟨_,rfl, .str x⟩
 | list h _=>exact ⟨_,rfl, .lst h⟩
 | tuple h _=>exact ⟨_,rfl, .tup (SqT.of h)⟩
 | dict h _ _=>cases hn
 | dictF h _ _=>cases hn
def isiD(n:String)(t:String):Option Bool:=
 if n = "int" then some (t == "int" || t == "bool") else if n = "bool" \/ n = "str" \/ n = "list" \/ n = "tuple" then some (t==n) else none
def mIsi(n:String)(f:En->Option Sl):En->Option Sl:=fun ρ=>(f ρ).bind fun a=>(tyD a.dat).bind fun t=>(isiD n t).map fun b=> .val (.bool b)
theorem re_isi {te:TE} {f:En->Option Sl} {n:String} (hk:∀t b,isiD n t=some b->(t = "NoneType" \/ t = "bool" \/ t = "int" \/ t = "str" \/ t = "list" \/ t = "tuple")->PySem.W.kitOne K (.type t) (.type n)=some b) (h:RP K R te f):RE K R (tCB (rIsI K) (tCons te (tCons (tC (.ty n)) tNil))) (mIsi n f):=fun HB σ ρ H0 H s e z hz Q q=>by
 obtain ⟨a,ha,hz⟩:=Option.bind_eq_some_iff.mp hz;obtain ⟨t,ht,hz⟩:=Option.bind_eq_some_iff.mp hz;obtain ⟨b,hb,rfl⟩:=Option.map_eq_some_iff.mp hz;refine h HB σ ρ H0 H s e a ha _ fun v H1 J1 x1 p1=> ?_;obtain ⟨t',ht',ty⟩:=tyD_of (p1.rep x1.s1) (by rw [ht];rfl);rw [ht] at ht'
 cases ht'
 refine ⟨v,n,t,b,rfl,ty,hk t b hb ?_,q _ _ _ x1 (.bool _)⟩
 cases ty <;> simp
def mTest(f:En->Option Sl):En->Option Bool:=fun ρ=>(f ρ).bind fun a=>match a with
 | .val (.bool b)=>some b
 | _=>none
theorem mTest_some{f:En->Option Sl}{ρ:En}{b:Bool}(h:mTest f ρ=some b):f ρ=some (.val (.bool b)):=by
 obtain ⟨a,ha,h⟩:=Option.bind_eq_some_iff.mp h;rw [ha]
 split at h
 . cases h;rfl
 . cases h
theorem rt_test{te:TE}{f:En->Option Sl}(h:RP K R te f):RT K R (tTest te) (mTest f):=fun HB σ ρ H0 H s e b hb Q q=>
 h HB σ ρ H0 H s e _ (mTest_some hb) _ fun v H1 J1 x1 p1=>⟨b,p1.bool,q _ _ x1⟩
theorem rt_b{te:TE}{f:En->Option Sl}(h:RP K R te f):RT K R (tB te) (mTest f):=fun HB σ ρ H0 H s e b hb Q q=>
 h HB σ ρ H0 H s e _ (mTest_some hb) _ fun v H1 J1 x1 p1=>⟨b,p1.bool,q _ _ x1⟩
def mAnd(f g:En->Option Bool):En->Option Bool:=fun ρ=>(f ρ).bind fun b=>if b then g ρ else some false
def mOr(f g:En->Option Bool):En->Option Bool:=fun ρ=>(f ρ).bind fun b=>if b then some true else g ρ
def mNot(f:En->Option Bool):En->Option Bool:=fun ρ=>(f ρ).map (!·)
theorem rt_and{t u:TT}{f g:En->Option Bool}(h:RT K R t f)(k:RT K R u g):RT K R (tAnd t u) (mAnd f g):=fun HB σ ρ H0 H s e b hb Q q=>by
 obtain ⟨c,hc,hb⟩:=Option.bind_eq_some_iff.mp hb;refine h HB σ ρ H0 H s e c hc _ fun H1 J1 x1=> ?_
 cases c with
 | true=>exact iteT (k HB σ ρ H1 J1 x1.s1 (e.ext (K:=K) x1) b hb Q fun H2 J2 x2=>q _ _ (x1.trans x2))
 | false=>cases hb;exact iteF (q _ _ x1)
theorem rt_or{t u:TT}{f g:En->Option Bool}(h:RT K R t f)(k:RT K R u g):RT K R (tOr t u) (mOr f g):=fun HB σ ρ H0 H s e b hb Q q=>by
 obtain ⟨c,hc,hb⟩:=Option.bind_eq_some_iff.mp hb;refine h HB σ ρ H0 H s e c hc _ fun H1 J1 x1=> ?_
 cases c with
 | false=>exact iteF (k HB σ ρ H1 J1 x1.s1 (e.ext (K:=K) x1) b hb Q fun H2 J2 x2=>q _ _ (x1.trans x2))
 | true=>cases hb;exact iteT (q _ _ x1)
theorem rt_not{t:TT}{f:En->Option Bool}(h:RT K R t f):RT K R (tNot t) (mNot f):=fun HB σ ρ H0 H s e b hb Q q=>by
 obtain ⟨c,hc,rfl⟩:=Option.map_eq_some_iff.mp hb;exact h HB σ ρ H0 H s e c hc _ fun H1 J1 x1=>q _ _ x1
def mAndV(f g:En->Option Sl):En->Option Sl:=fun ρ=>(mTest f ρ).bind fun b=>if b then g ρ else some (.val (.bool false))
def mOrV(f g:En->Option Sl):En->Option Sl:=fun ρ=>(mTest f ρ).bind fun b=>if b then some (.val (.bool true)) else g ρ
def mNotV(f:En->Option Sl):En->Option Sl:=fun ρ=>(mTest f ρ).map fun b=> .val (.bool (!b))
theorem re_andV{t u:TE}{f g:En->Option Sl}(h:RP K R t f)(k:RE K R u g):RE K R (tAndV t u) (mAndV f g):=fun HB σ ρ H0 H s e z hz Q q=>by
 obtain ⟨c,hc,hz⟩:=Option.bind_eq_some_iff.mp hz;refine h HB σ ρ H0 H s e _ (mTest_some hc) _ fun v H1 J1 x1 p1=>⟨c,p1.bool,?_⟩
 cases c with
 | true=>exact iteT (k HB σ ρ H1 J1 x1.s1 (e.ext (K:=K) x1) z hz Q fun v H2 J2 x2 p2=>q _ _ _ (x1.trans x2) (p2.base x1.s))
 | false=>cases hz;exact iteF (q _ _ _ x1 (.bool _))
theorem re_notV{t:TE}{f:En->Option Sl}(h:RP K R t f):RE K R (tNotV t) (mNotV f):=fun HB σ ρ H0 H s e z hz Q q=>by
 obtain ⟨c,hc,rfl⟩:=Option.map_eq_some_iff.mp hz;exact h HB σ ρ H0 H s e _ (mTest_some hc) _ fun v H1 J1 x1 p1=>⟨c,p1.bool,q _ _ _ x1 (.bool _)⟩
def mIfE(c:En->Option Bool)(f g:En->Option Sl):En->Option Sl:=fun ρ=>(c ρ).bind fun b=>if b then f ρ else g ρ
def RO(K:PySem.W.Frag)(R:Rl)(to:TO)(f:En->Option (Option Int)):Prop:=
 ∀(HB:Hp) (σ:L2.St) (ρ:En) (H0 H:Hp),Same H0 H->ST R HB H0 H σ ρ->∀o,f ρ=some o->∀Q:Option Int->Hp->Prop,(∀H0' H',Ext H0 H H0' H'->Q o H')->to σ H Q
def mNoPart:En->Option (Option Int):=fun _=>some none
def mPart(f:En->Option Sl):En->Option (Option Int):=fun ρ=>(f ρ).bind fun a=>match a with
 | .val (.int i)=>some (some i)
 | _=>none
theorem ro_none:RO K R tNoPart mNoPart:=fun HB σ ρ H0 H s e o ho Q q=>by cases ho;exact q _ _ (Ext.refl s)
theorem ro_some{te:TE}{f:En->Option Sl}(h:RP K R te f):RO K R (tPart te) (mPart f):=fun HB σ ρ H0 H s e o ho Q q=>by
 obtain ⟨a,ha,ho⟩:=Option.bind_eq_some_iff.mp ho
 split at ho
 . cases ho
   exact h HB σ ρ H0 H s e _ ha _ fun v H1 J1 x1 p1=>⟨_,p1.int,q _ _ x1⟩
 . cases ho
def cutD{α:Type}(xs:List α)(lo hi:Option Int):List α:=(xs.drop (HT.sIx xs.length 0 lo)).take (HT.sIx xs.length xs.length hi - HT.sIx xs.length 0 lo)
theorem Reps.drop{H:Hp}:∀ {vs:List V} {ds:List PyData} (n:Nat),Reps K H vs ds->Reps K H (vs.drop n) (ds.drop n)
 | _,_,0,h=>h
 | _,_,_+1, .nil=> .nil
 | _,_,n+1, .cons _ t=>Reps.drop n t
theorem Reps.take{H:Hp}:∀ {vs:List V} {ds:List PyData} (n:Nat),Reps K H vs ds->Reps K H (vs.take n) (ds.take n)
 | _,_,0,_=> .nil
 | _,_,_+1, .nil=> .nil
 | _,_,n+1, .cons h t=> .cons h (Reps.take n t)
theorem Reps.cut{H:Hp}{vs:List V}{ds:List PyData}(h:Reps K H vs ds)(lo hi:Option Int):Reps K H (cutV vs lo hi) (cutD ds lo hi):=by
 unfold cutV cutD;rw [h.length];exact Reps.take _ (Reps.drop _ h)
def dSl(a:Sl)(lo hi:Option Int):Option Sl:=match a.dat with
 | .list ds=>some (.own (cutD ds lo hi))
 | .tuple ds=>if HT.sIx ds.length 0 lo=0/\HT.sIx ds.length ds.length hi=ds.length then none else some (.val (.tuple (cutD ds lo hi)))
 | _=>none
def mSl(f:En->Option Sl)(l h:En->Option (Option Int)):En->Option Sl:=fun ρ=>(f ρ).bind fun a=>(l ρ).bind fun lo=>(h ρ).bind fun hi=>dSl a lo hi
theorem re_sl{te:TE}{tl th:TO}{f:En->Option Sl}{fl fh:En->Option (Option Int)}(h:RP K R te f)(hl:RO K R tl fl)(hh:RO K R th fh):RE K R (tSl (fun x lo hi H Q=>rSlL K x lo hi H Q\/rSlT K x lo hi H Q) te tl th) (mSl f fl fh):=fun HB σ ρ H0 H s e z hz Q q=>by
 obtain ⟨a,ha,hz⟩:=Option.bind_eq_some_iff.mp hz;obtain ⟨lo,hlo,hz⟩:=Option.bind_eq_some_iff.mp hz;obtain ⟨hi,hhi,hz⟩:=Option.bind_eq_some_iff.mp hz;refine h HB σ ρ H0 H s e a ha _ fun v H1 J1 x1 p1=> ?_;refine hl HB σ ρ H1 J1 x1.s1 (e.ext (K:=K) x1) lo hlo _ fun H2 J2 x2=> ?_;refine hh HB σ ρ H2 J2 x2.s1 ((e.ext (K:=K) x1).ext (K:=K) x2) hi hhi _ fun H3 J3 x3=> ?_;have x:=(x1.trans x2).trans x3;have p:=p1.ext (x2.trans x3);unfold dSl at hz
 split at hz
 . rename_i ds hd
   cases hz
   obtain ⟨b,vs,rfl,h1,h2⟩:=p.lst x.s1 hd;exact .inl ⟨b,vs,rfl,h1,fun l hl=>q _ _ _ (x.trans (Ext.alloc x.s1 hl _)) ⟨l,_,rfl,x.s.free hl,x.s1.free hl,upd_same,Reps.cut h2 lo hi⟩⟩
 . rename_i ds hd
   split at hz
   . cases hz
   . rename_i hw
     cases hz
     obtain ⟨b,vs,rfl,h1,h2⟩:=p.tup hd;refine .inr ⟨b,vs,rfl,x.s1.seqT (SqT.of h1),by rw [h2.length];exact hw,fun l hl=>q _ _ _ (x.trans (Ext.allocF x.s1 hl _)) (.tuple upd_same (Reps.same (Same.upd (x.s1.free hl) _) (Reps.cut h2 lo hi)))⟩
 . cases hz
end
end Dm
namespace Dm
open PySem PySem.Spec PyProof.Rows L2 Tf
inductive Out where
 | nx (ρ:En) | rt (r:Sl) (ρ:En) | bk (ρ:En) | ct (ρ:En)
section
variable {K:PySem.W.Frag} {R:Rl} [RelOk K R]
def EndR(K:PySem.W.Frag)(R:Rl)(HB S0:Hp)(D:Ends):Out->Prop
 | .nx ρ=>∀σ H0 H,Ext S0 HB H0 H->ST R HB H0 H σ ρ->D.nx σ H
 | .bk ρ=>∀σ H0 H,Ext S0 HB H0 H->ST R HB H0 H σ ρ->D.bk σ H
 | .ct ρ=>∀σ H0 H,Ext S0 HB H0 H->ST R HB H0 H σ ρ->D.ct σ H
 | .rt r ρ=>∀v σ H0 H,Ext S0 HB H0 H->ST R HB H0 H σ ρ->SlH K HB H0 H v r->D.rt v H
def RS(K:PySem.W.Frag)(R:Rl)(ts:TS)(g:En->Option Out):Prop:=
 ∀(HB S0:Hp) (σ:L2.St) (ρ:En) (H0 H:Hp),Ext S0 HB H0 H->ST R HB H0 H σ ρ->∀o,g ρ=some o->∀D:Ends,EndR K R HB S0 D o->ts D σ H
def mNext:En->Option Out:=fun ρ=>some (.nx ρ)
def mBrk:En->Option Out:=fun ρ=>some (.bk ρ)
def mCt:En->Option Out:=fun ρ=>some (.ct ρ)
def mRetN:En->Option Out:=fun ρ=>some (.rt (.val .none) ρ)
theorem rs_next:RS K R tNext mNext:=fun HB S0 σ ρ H0 H x e o ho D d=>by cases ho;exact d σ H0 H x e
def mSeq(f g:En->Option Out):En->Option Out:=fun ρ=>(f ρ).bind fun o=>match o with
 | .nx ρ'=>g ρ'
 | o=>some o
theorem rs_seq{t u:TS}{f g:En->Option Out}(h:RS K R t f)(k:RS K R u g):RS K R (tSeq t u) (mSeq f g):=fun HB S0 σ ρ H0 H x e o ho D d=>by
 obtain ⟨o1,h1,ho⟩:=Option.bind_eq_some_iff.mp ho;refine h HB S0 σ ρ H0 H x e o1 h1 { D with nx:=u D} ?_
 cases o1 with
 | nx ρ'=>exact fun σ' H0' H' x' e'=>k HB S0 σ' ρ' H0' H' x' e' o ho D d
 | rt r _=>cases ho;exact d
 | bk r=>cases ho;exact d
 | ct r=>cases ho;exact d
theorem ER.set{HB H0 H H0' H':Hp}{σ:L2.St}{ρ:En}{i:Nat}{v:V}{r:Sl}(e:ER K HB H0 H σ ρ)(x:Ext H0 H H0' H')(sb:Same HB H)(h:SlH K H H0' H' v r):ER K HB H0' H' (σ.set i (some v)) (ρ.set i (some r)):=by
 have e':=e.ext x;refine ⟨by rw [List.length_set,List.length_set];exact e.len,fun j s hs=> ?_,fun j k a ds es hjk hj hk h1 h2=> ?_⟩
 . by_cases hj:i=j
   . subst hj;rw [List.getElem?_set_self'] at hs ⊢
     cases hq:ρ[i]? with
     | none=>rw [hq] at hs;cases hs
     | some q=>
      rw [hq] at hs
      have hi:i<σ.length:=by rw [e.len];exact (List.getElem?_eq_some_iff.mp hq).1
      rw [List.getElem?_eq_getElem hi]
      cases hs
      exact ⟨v,rfl,h.base sb⟩
   . rw [List.getElem?_set_ne hj] at hs ⊢
     exact e'.get j s hs
 . have key : ∀ (j' k' : Nat) (b : Addr) ds' es', i = j' -> i ≠ k' -> (ρ.set i (some r))[j']? = some (some (.own ds')) -> ρ[k']? = some (some (.own es')) -> (σ.set i (some v))[j']? = some (some (.ref b)) -> σ[k']? ≠ some (some (.ref b)) := by
    clear hj hk h1 h2 hjk;intro j' k' b ds' es' hij hik hj hk h1 h2;subst hij;rw [List.getElem?_set_self'] at hj h1
    cases hq:ρ[i]? with
    | none=>rw [hq] at hj;cases hj
    | some q=>
     rw [hq] at hj
     cases hj
     have hi:i<σ.length:=by rw [e.len];exact (List.getElem?_eq_some_iff.mp hq).1
     rw [List.getElem?_eq_getElem hi] at h1
     cases h1
     obtain ⟨a',vs,ea,hn,_⟩:=h
     cases ea
     obtain ⟨w,hw,hb⟩:=e.get k' _ hk;rw [h2] at hw
     cases hw
     obtain ⟨b',ws,eb,_,_,hs,_⟩:=hb
     cases eb
     rw [hn] at hs
     cases hs
   by_cases hij:i=j
   . have hik:i≠k:=fun z=>hjk (hij.symm.trans z);rw [List.getElem?_set_ne hik] at hk h2
     exact key j k a ds es hij hik hj hk h1 h2
   . rw [List.getElem?_set_ne hij] at hj h1
     by_cases hik:i=k
     . exact key k j a es ds hik hij hk hj h2 h1
     . rw [List.getElem?_set_ne hik] at hk h2
       exact e.apart j k a ds es hjk hj hk h1 h2
def mAsg(i:Nat)(f:En->Option Sl):En->Option Out:=fun ρ=>(f ρ).map fun r=> .nx (ρ.set i (some r))
theorem rs_asg{te:TE}{f:En->Option Sl}{i:Nat}(hsl:R.slot i)(h:RE K R te f):RS K R (tAsg te (gName i)) (mAsg i f):=fun HB S0 σ ρ H0 H x e o ho D d=>by
 obtain ⟨r,hr,rfl⟩:=Option.map_eq_some_iff.mp ho;exact h HB σ ρ H0 H x.s1 e r hr _ fun v H1 J1 x1 p1=>d _ H1 J1 (x.chain x1) ⟨RelOk.set e.r hsl x1 x.s p1⟩
def mRet(f:En->Option Sl):En->Option Out:=fun ρ=>(f ρ).map fun r=> .rt r ρ
theorem rs_ret{te:TE}{f:En->Option Sl}(h:RE K R te f):RS K R (tRet te) (mRet f):=fun HB S0 σ ρ H0 H x e o ho D d=>by
 obtain ⟨r,hr,rfl⟩:=Option.map_eq_some_iff.mp ho;exact h HB σ ρ H0 H x.s1 e r hr _ fun v H1 J1 x1 p1=>d v σ H1 J1 (x.chain x1) (e.ext (K:=K) x1) (p1.base x.s)
theorem rs_retV(i:Nat)(hsl:R.slot i):RS K R (tRet (tVar i)) (mRet (mPk i)):=fun HB S0 σ ρ H0 H x e o ho D d=>by
 obtain ⟨r,hr,rfl⟩:=Option.map_eq_some_iff.mp ho;obtain ⟨v,h1,h2⟩:=RelOk.get (K:=K) e.r hsl (join_some hr);exact ⟨v,h1,d v σ H0 H x e h2⟩
def mIf(c:En->Option Bool)(f g:En->Option Out):En->Option Out:=fun ρ=>(c ρ).bind fun b=>if b then f ρ else g ρ
theorem rs_if{c:TT}{t u:TS}{fc:En->Option Bool}{f g:En->Option Out}(hc:RT K R c fc)(h:RS K R t f)(k:RS K R u g):RS K R (tIfS c t u) (mIf fc f g):=fun HB S0 σ ρ H0 H x e o ho D d=>by
 obtain ⟨b,hb,ho⟩:=Option.bind_eq_some_iff.mp ho;refine hc HB σ ρ H0 H x.s1 e b hb _ fun H1 J1 x1=> ?_
 cases b with
 | true=>exact iteT (h HB S0 σ ρ H1 J1 (x.chain x1) (e.ext (K:=K) x1) o ho D d)
 | false=>exact iteF (k HB S0 σ ρ H1 J1 (x.chain x1) (e.ext (K:=K) x1) o ho D d)
def mDrop(f:En->Option Sl):En->Option Out:=fun ρ=>(f ρ).map fun _=> .nx ρ
theorem Ext.write{S0 HB H0 H:Hp}{a:Addr}(x:Ext S0 HB H0 H)(hb:HB a=none)(h0:H0 a=none)(o:HO):Ext S0 HB H0 (upd H a o) :=
 ⟨fun b u e=>by rw [upd_ne (ne_of_none e hb)];exact x.s b u e,x.s0,fun b u e=>by rw [upd_ne (ne_of_none e h0)];exact x.s1 b u e,x.own⟩
theorem ER.write {HB H0 H : Hp} {σ : L2.St} {ρ : En} {i : Nat} {a : Addr} {ds es : List PyData} {ys : List V} (e : ER K HB H0 H σ ρ) (hi : ρ[i]? = some (some (.own ds))) (hs : σ[i]? = some (some (.ref a))) (hb : HB a = none) (h0 : H0 a = none) (hr : Reps K H0 ys es) :
 ER K HB H0 (upd H a (.lst ys)) σ (ρ.set i (some (.own es))):=by
 have own:∀(j:Nat),∀ts,(ρ.set i (some (.own es)))[j]? = some (some (.own ts))->∃ts',ρ[j]? = some (some (.own ts')):=by
  intro j ts h
  by_cases hj:i=j
  . subst hj;exact ⟨_,hi⟩
  . rw [List.getElem?_set_ne hj] at h;exact ⟨_,h⟩
 refine ⟨by rw [List.length_set];exact e.len,fun j s hq=> ?_,fun j k b ts us hjk hj hk h1 h2=> ?_⟩
 . by_cases hj:i=j
   . subst hj;rw [List.getElem?_set_self',hi] at hq
     cases hq
     exact ⟨.ref a,hs,a,ys,rfl,hb,h0,upd_same,hr⟩
   . rw [List.getElem?_set_ne hj] at hq
     obtain ⟨v,h1,h2⟩:=e.get j s hq;refine ⟨v,h1,?_⟩
     cases s with
     | val d=>exact h2
     | own ts=>
      obtain ⟨b,vs,rfl,g1,g2,g3,g4⟩:=h2;refine ⟨b,vs,rfl,g1,g2,?_,g4⟩;rw [upd_ne]
      . exact g3
      . rintro rfl
        exact e.apart i j b ds ts hj hi hq hs h1
     | dct ts=>
      obtain ⟨b,t,rfl,g1,g2,g3,g4⟩:=h2;refine ⟨b,t,rfl,g1,g2,?_,g4⟩;rw [upd_ne]
      . exact g3
      . rintro rfl;obtain ⟨v',hs',a',vs',e',_,_,g5,_⟩:=e.get i _ hi;rw [hs] at hs'
        cases hs'
        cases e'
        rw [g3] at g5
        cases g5
 . obtain ⟨ts',hj⟩:=own j ts hj;obtain ⟨us',hk⟩:=own k us hk;exact e.apart j k b ts' us' hjk hj hk h1 h2
def mApp(i:Nat)(f:En->Option Sl):En->Option Out:=fun ρ=>match (ρ[i]?).join with
 | some (.own ds)=>(f ρ).bind fun r=>if ds.length<sizeLine then some (.nx (ρ.set i (some (.own (ds ++ [r.dat]))))) else none
 | _=>none
theorem own_of {HB H0 H : Hp} {σ : L2.St} {ρ : En} {i : Nat} {ds : List PyData} (e : ST R HB H0 H σ ρ) (hsl : R.slot i) (h : (ρ[i]?).join = some (.own ds)) :
 ∃a vs,ρ[i]? = some (some (.own ds))/\σ[i]? = some (some (.ref a))/\HB a=none/\H0 a=none/\H a=some (.lst vs)/\Reps K H0 vs ds:=by
 obtain ⟨v,h1,a,vs,rfl,g1,g2,g3,g4⟩:=RelOk.get (K:=K) e.r hsl (join_some h);exact ⟨a,vs,join_some h,h1,g1,g2,g3,g4⟩
theorem rs_app{te:TE}{f:En->Option Sl}{i:Nat}(hsl:R.slot i)(h:RE K R te f):RS K R (tDrop (tBM K "list" rAppend (tVar i) (tCons te tNil))) (mApp i f):=fun HB S0 σ ρ H0 H x e o ho D d=>by
 unfold mApp at ho
 split at ho
 . rename_i ds hj;obtain ⟨r,hr,ho⟩:=Option.bind_eq_some_iff.mp ho
   split at ho
   . rename_i hl
     cases ho
     obtain ⟨a,vs,hi,hs,g1,g2,g3,g4⟩:=own_of (K:=K) e hsl hj;refine ⟨.ref a,hs, .inl ⟨rfl,vs,SqL.of g3⟩,?_⟩;refine h.rv HB σ ρ H0 H x.s1 e r.dat (by unfold mDat;rw [hr];rfl) _ fun v H1 J1 x1 p1=> ?_;have l0:=x1.own a _ g3 True.intro g2;refine ⟨a,vs,v,rfl,rfl,x1.s _ _ g3,by rw [g4.length];exact hl,?_⟩;exact d σ H1 _ ((x.chain x1).write g1 l0 _) ⟨RelOk.write (K:=K) (e.ext (K:=K) x1).r hsl hi hs g1 l0 (x1.s _ _ g3) (Tf.Reps.snoc (Reps.same x1.s0 g4) p1)⟩
   . cases ho
 . cases ho
def mSet(i:Nat)(fj f:En->Option Sl):En->Option Out:=fun ρ=>(f ρ).bind fun r=>match (ρ[i]?).join with
 | some (.own ds)=>(fj ρ).bind fun k=>match k with
  | .val (.int k)=>(ixN ds.length k).map fun j=> .nx (ρ.set i (some (.own (ds.set j r.dat))))
  | _=>none
 | _=>none
theorem Reps.set{H:Hp}{v:V}{d:PyData}(r:Rep K H v d):∀ {vs:List V} {ds:List PyData} (i:Nat),Reps K H vs ds->Reps K H (vs.set i v) (ds.set i d)
 | _,_,_, .nil=> .nil
 | _,_,0, .cons _ t=> .cons r t
 | _,_,i+1, .cons q t=> .cons q (Reps.set r i t)
def frz1(i:Nat)(ρ:En):En:=match (ρ[i]?).join with
 | some (.own ds)=>ρ.set i (some (.val (.list ds)))
 | _=>ρ
def mFrz(i:Nat)(g:En->Option Out):En->Option Out:=fun ρ=>g (frz1 i ρ)
theorem ER.frz{S0 HB H0 H:Hp}{σ:L2.St}{ρ:En}{i:Nat}{ds:List PyData}(e:ER K HB H0 H σ ρ)(hi:ρ[i]? = some (some (.own ds)))(x:Ext S0 HB H0 H):∃a vs,H a=some (.lst vs)/\Ext S0 HB (upd H0 a (.lst vs)) H/\ER K HB (upd H0 a (.lst vs)) H σ (ρ.set i (some (.val (.list ds)))):=by
 obtain ⟨v,hs,a,vs,rfl,g1,g2,g3,g4⟩:=e.get i _ hi;have s0:Same H0 (upd H0 a (.lst vs)):=Same.upd g2 _
 have x' : Ext S0 HB (upd H0 a (.lst vs)) H := ⟨x.s, x.s0.trans s0, fun b u q => by
  by_cases hb:b=a
  . subst hb;rw [upd_same] at q;rw [g3];exact q
  . rw [upd_ne hb] at q;exact x.s1 b u q,fun b u q m q0=>by rw [upd_ne (ne_of_none q g1)];exact x.own b u q m q0⟩
 refine ⟨a,vs,g3,x',⟨by rw [List.length_set];exact e.len,fun j s hq=> ?_,fun j k b ts us hjk h1 h2 h3 h4=> ?_⟩⟩
 . by_cases hij:i=j
   . subst hij;rw [List.getElem?_set_self',hi] at hq
     cases hq
     exact ⟨.ref a,hs, .list (SqL.of upd_same) (Reps.same s0 g4)⟩
   . rw [List.getElem?_set_ne hij] at hq
     obtain ⟨v,h1,h2⟩:=e.get j s hq;refine ⟨v,h1,?_⟩
     cases s with
     | val d=>exact Rep.same s0 h2
     | own ts=>
      obtain ⟨b,ws,rfl,q1,q2,q3,q4⟩:=h2;refine ⟨b,ws,rfl,q1,?_,q3,Reps.same s0 q4⟩;rw [upd_ne]
      . exact q2
      . rintro rfl
        exact e.apart i j b ds ts hij hi hq hs h1
     | dct ts=>
      obtain ⟨b,t,rfl,q1,q2,q3,q4⟩:=h2;refine ⟨b,t,rfl,q1,?_,q3,q4.same s0⟩;rw [upd_ne]
      . exact q2
      . rintro rfl;rw [q3] at g3
        cases g3
 . have hij : i ≠ j := by
    rintro rfl;rw [List.getElem?_set_self',hi] at h1
    cases h1
   have hik:i≠k:=by
    rintro rfl;rw [List.getElem?_set_self',hi] at h2
    cases h2
   rw [List.getElem?_set_ne hij] at h1
   rw [List.getElem?_set_ne hik] at h2
   exact e.apart j k b ts us hjk h1 h2 h3 h4
instance relOk_PR:RelOk K (PR K) where
 ext:=fun x e=>ER.ext x e
 get:=fun e _ h=>ER.get e _ _ h
 set:=fun e _ x s h=>ER.set e x s h
 write:=fun e _ h1 h2 h3 h4 _ h5=>ER.write e h1 h2 h3 h4 h5
 frz:=fun e _ h x=>by obtain ⟨a,vs,_,h1,h2⟩:=ER.frz e h x;exact ⟨_,h1,h2⟩
theorem rs_frz{ts:TS}{g:En->Option Out}(i:Nat)(hsl:R.slot i)(h:RS K R ts g):RS K R ts (mFrz i g):=fun HB S0 σ ρ H0 H x e o ho D d=>by
 unfold mFrz frz1 at ho
 split at ho
 . rename_i ds hj;obtain ⟨H0',x',e'⟩:=RelOk.frz (K:=K) e.r hsl (join_some hj) x;exact h HB S0 σ _ H0' H x' ⟨e'⟩ o ho D d
 . exact h HB S0 σ ρ H0 H x e o ho D d
def RG(K:PySem.W.Frag)(R:Rl)(g:TG)(fg:PyData->En->Option En):Prop:=
 ∀(HB:Hp) (σ:L2.St) (ρ ρ':En) (H0 H:Hp) (v:V) (d:PyData),Same H0 H->Same HB H->ST R HB H0 H σ ρ->Rep K H0 v d->fg d ρ=some ρ'->∀Q:L2.St->Hp->Prop,(∀σ',ST R HB H0 H σ' ρ'->Q σ' H)->g v σ H Q
def gVar(i:Nat):PyData->En->Option En:=fun d ρ=>some (ρ.set i (some (.val d)))
theorem rg_name(i:Nat)(hsl:R.slot i):RG K R (gName i) (gVar i):=fun HB σ ρ ρ' H0 H v d s sb e r h Q q=>by
 cases h
 exact q _ ⟨RelOk.set (K:=K) e.r hsl (Ext.refl s) sb (show SlH K H H0 H v (.val d) from r)⟩
def gsAll:List (PyData->En->Option En)->List PyData->En->Option En
 | [],[],ρ=>some ρ
 | g::gs,d::ds,ρ=>(g d ρ).bind fun ρ'=>gsAll gs ds ρ'
 | _,_,_=>none
def gTupD(gs:List (PyData->En->Option En)):PyData->En->Option En:=fun d ρ=>match d with
 | .tuple ds=>if ds.length=gs.length then gsAll gs ds ρ else none
 | _=>none
def RGs(K:PySem.W.Frag)(R:Rl)(g:TGs)(gs:List (PyData->En->Option En)):Prop:=
 ∀(HB:Hp) (σ:L2.St) (ρ ρ':En) (H0 H:Hp) (vs:List V) (ds:List PyData),Same H0 H->Same HB H->ST R HB H0 H σ ρ->Reps K H0 vs ds->gsAll gs ds ρ=some ρ'->∀Q:L2.St->Hp->Prop,(∀σ',ST R HB H0 H σ' ρ'->Q σ' H)->g vs σ H Q
theorem rgs_nil:RGs K R gNil []:=fun HB σ ρ ρ' H0 H vs ds s sb e r h Q q=>by
 cases r with
 | nil=>cases h;exact ⟨rfl,q _ e⟩
 | cons _ _=>cases h
theorem rgs_cons{g:TG}{u:TGs}{fg:PyData->En->Option En}{gs:List (PyData->En->Option En)}(h1:RG K R g fg)(h2:RGs K R u gs):RGs K R (gCons g u) (fg::gs):=fun HB σ ρ ρ' H0 H vs ds s sb e r h Q q=>by
 cases r with
 | nil=>cases h
 | cons r1 r2=>
  obtain ⟨ρ1,e1,h⟩:=Option.bind_eq_some_iff.mp (show (fg _ ρ).bind _=some ρ' from h);exact ⟨_,_,rfl,h1 HB σ ρ ρ1 H0 H _ _ s sb e r1 e1 _ fun σ' e'=>h2 HB σ' ρ1 ρ' H0 H _ _ s sb e' r2 h Q q⟩
theorem rg_tup{g:TGs}{gs:List (PyData->En->Option En)}{n:Nat}(hn:n=gs.length)(h:RGs K R g gs):RG K R (gTup K n g) (gTupD gs):=fun HB σ ρ ρ' H0 H v d s sb e r hd Q q=>by
 unfold gTupD at hd
 split at hd
 . split at hd
   . rename_i ds hl
     cases r with
     | tuple r1 r2=>exact ⟨_,_,rfl,s.seqT (SqT.of r1),by rw [r2.length,hl,hn],h HB σ ρ ρ' H0 H _ _ s sb e r2 hd Q q⟩
   . cases hd
 . cases hd
def ItR(K:PySem.W.Frag)(H0:Hp)(J:It)(ds:List PyData):Prop:=∀H0' H',Same H0 H0'->Same H0' H'->∀i:Nat,(∀d,ds[i]? = some d->J.go i H'/\∀x H2,J.yld i H' x H2->∃H02,Ext H0' H' H02 H2/\Rep K H02 x d)/\(ds.length<=i->J.stop i H')
def RI(K:PySem.W.Frag)(R:Rl)(wi:TI)(f:En->Option (List PyData)):Prop:=
 ∀(HB:Hp) (σ:L2.St) (ρ:En) (H0 H:Hp),Same H0 H->ST R HB H0 H σ ρ->∀ds,f ρ=some ds->∀R:It->Hp->Prop,(∀J H0' H',Ext H0 H H0' H'->ItR K H0' J ds->R J H')->wi σ H R
def mItems(f:En->Option Sl):En->Option (List PyData):=fun ρ=>(f ρ).bind fun a=>match a.dat with
 | .list ds=>some ds
 | _=>none
def mItemsT(f:En->Option Sl):En->Option (List PyData):=fun ρ=>(f ρ).bind fun a=>match a.dat with
 | .tuple ds=>some ds
 | _=>none
theorem it_list{H0:Hp}{a:Addr}{vs:List V}{ds:List PyData}(h:SqL K H0 a vs)(r:Reps K H0 vs ds):ItR K H0 (Itl K a) ds:=fun H0' H' s s' i=>by
 have h':=s'.seq (s.seq h);refine ⟨fun d hd=> ?_,fun hi=>⟨vs,h',by rw [r.length];exact hi⟩⟩;obtain ⟨v,e1,e2⟩:=Tf.Reps.get r hd;refine ⟨⟨vs,v,h',e1⟩,fun x H2 y=> ?_⟩;obtain ⟨rfl,y⟩:=y;have:=y vs h';rw [e1] at this
 cases this
 exact ⟨H0',Ext.refl s',Rep.same s e2⟩
theorem it_tup{H0:Hp}{a:Addr}{vs:List V}{ds:List PyData}(h:SqT K H0 a vs)(r:Reps K H0 vs ds):ItR K H0 (Itt K a) ds:=fun H0' H' s s' i=>by
 have h':=s'.seqT (s.seqT h);refine ⟨fun d hd=> ?_,fun hi=>⟨vs,h',by rw [r.length];exact hi⟩⟩;obtain ⟨v,e1,e2⟩:=Tf.Reps.get r hd;refine ⟨⟨vs,v,h',e1⟩,fun x H2 y=> ?_⟩;obtain ⟨rfl,y⟩:=y;have:=y vs h';rw [e1] at this
 cases this
 exact ⟨H0',Ext.refl s',Rep.same s e2⟩
def rngD(lo:Int)(n:Nat):List PyData:=(List.range n).map fun i=> .int (lo+(i:Nat))
theorem rngD_get{lo:Int}{n i:Nat}:(rngD lo n)[i]? = if i<n then some (.int (lo+(i:Nat))) else none:=by
 unfold rngD;rw [List.getElem?_map]
 by_cases h:i<n
 . rw [List.getElem?_range h,if_pos h];rfl
 . rw [if_neg h,List.getElem?_eq_none (by simpa using h)];rfl
theorem it_range{H0:Hp}{lo:Int}{n:Nat}:ItR K H0 (Itr lo n) (rngD lo n):=fun H0' H' s s' i=>by
 refine ⟨fun d hd=> ?_,fun hi=>show n<=i by simpa [rngD] using hi⟩;rw [rngD_get] at hd
 split at hd
 . rename_i hi
   cases hd
   exact ⟨hi,fun x H2 y=>by obtain ⟨rfl,rfl⟩:=y;exact ⟨H0',Ext.refl s', .int _⟩⟩
 . cases hd
def inB(i:Int):Prop:= -(2 ^ 62)<=i/\i<2 ^ 62
noncomputable instance (i:Int):Decidable (inB i):=Classical.propDecidable _
noncomputable def mRng1(f:En->Option (List Sl)):En->Option (List PyData):=fun ρ=>(f ρ).bind fun a=>match a with
 | [.val (.int j)]=>if inB j then some (rngD 0 j.toNat) else none
 | _=>none
theorem ri_range1{ta:TA}{f:En->Option (List Sl)}(h:RQ K R ta f):RI K R (iRng1 ta) (mRng1 f):=fun HB σ ρ H0 H s e ds hd R q=>by
 obtain ⟨a,ha,hd⟩:=Option.bind_eq_some_iff.mp hd
 split at hd
 . split at hd
   . rename_i j hb
     cases hd
     refine h HB σ ρ H0 H s e _ ha _ fun vs H1 J1 x1 p1=> ?_;obtain ⟨v,rfl,pa⟩:=paired1 p1;exact ⟨j,by rw [pa.int],hb.1,hb.2,q _ _ _ x1 it_range⟩
   . cases hd
 . cases hd
noncomputable def mRng2(f:En->Option (List Sl)):En->Option (List PyData):=fun ρ=>(f ρ).bind fun a=>match a with
 | [.val (.int i), .val (.int j)]=>if inB i/\inB j then some (rngD i (j - i).toNat) else none
 | _=>none
theorem ri_range2{ta:TA}{f:En->Option (List Sl)}(h:RQ K R ta f):RI K R (iRng2 ta) (mRng2 f):=fun HB σ ρ H0 H s e ds hd R q=>by
 obtain ⟨a,ha,hd⟩:=Option.bind_eq_some_iff.mp hd
 split at hd
 . split at hd
   . rename_i i j hb
     cases hd
     refine h HB σ ρ H0 H s e _ ha _ fun vs H1 J1 x1 p1=> ?_;obtain ⟨v,w,rfl,pa,pb⟩:=paired2 p1;exact ⟨i,j,by rw [pa.int,pb.int],⟨hb.1.1,hb.1.2,hb.2.1,hb.2.2⟩,q _ _ _ x1 it_range⟩
   . cases hd
 . cases hd
def zipD(xs ys:List PyData):List PyData:=List.zipWith (fun x y=> .tuple [x,y]) xs ys
theorem it_zip{H0:Hp}{a b:Addr}{vs ws:List V}{ds es:List PyData}(h:SqL K H0 a vs)(r:Reps K H0 vs ds)(h2:SqL K H0 b ws)(r2:Reps K H0 ws es):ItR K H0 (Itz K a b) (zipD ds es):=fun H0' H' s s' i=>by
 have h':=s'.seq (s.seq h);have h2':=s'.seq (s.seq h2);refine ⟨fun d hd=> ?_,fun hi=>⟨vs,ws,h',h2',?_⟩⟩
 . unfold zipD at hd
   rw [List.getElem?_zipWith] at hd
   cases e1:ds[i]? with
   | none=>rw [e1] at hd;cases hd
   | some x=>
    cases e2:es[i]? with
    | none=>rw [e1,e2] at hd;cases hd
    | some y=>
     rw [e1,e2] at hd
     cases hd
     obtain ⟨v,q1,q2⟩:=Tf.Reps.get r e1;obtain ⟨w,q3,q4⟩:=Tf.Reps.get r2 e2;refine ⟨⟨vs,ws,v,w,h',h2',q1,q3⟩,fun z H2 yl=> ?_⟩;obtain ⟨p,x',y',hp,rfl,rfl,hx,hy⟩:=yl;have:=hx vs h';rw [q1] at this
     cases this
     have:=hy ws h2';rw [q3] at this
     cases this
     refine ⟨_,Ext.allocF s' hp _, .tuple upd_same ?_⟩;have s2:=s.trans (Same.upd (s'.free hp) (.tup [v,w]));exact .cons (Rep.same s2 q2) (.cons (Rep.same s2 q4) .nil)
 . rw [r.length,r2.length];unfold zipD at hi
   rw [List.length_zipWith] at hi
   omega
def forM(fg:PyData->En->Option En)(gb:En->Option Out):List PyData->En->Option Out
 | [],ρ=>some (.nx ρ)
 | d::ds,ρ=>(fg d ρ).bind fun ρ1=>(gb ρ1).bind fun o=>match o with
  | .nx ρ2=>forM fg gb ds ρ2
  | .ct ρ2=>forM fg gb ds ρ2
  | .bk ρ2=>some (.nx ρ2)
  | .rt r ρ2=>some (.rt r ρ2)
def mFor(fi:En->Option (List PyData))(fg:PyData->En->Option En)(gb:En->Option Out):En->Option Out:=fun ρ=>(fi ρ).bind fun ds=>forM fg gb ds ρ
theorem forM_drop {fg : PyData -> En -> Option En} {gb : En -> Option Out} {ds : List PyData} {i : Nat} {d : PyData} {ρ : En} (h : ds[i]? = some d) : forM fg gb (ds.drop i) ρ = (fg d ρ).bind fun ρ1 => (gb ρ1).bind fun o => match o with
 | .nx ρ2=>forM fg gb (ds.drop (i+1)) ρ2
 | .ct ρ2=>forM fg gb (ds.drop (i+1)) ρ2
 | .bk ρ2=>some (.nx ρ2)
 | .rt r ρ2=>some (.rt r ρ2):=by
 obtain ⟨hi,e⟩:=List.getElem?_eq_some_iff.mp h;rw [List.drop_eq_getElem_cons hi,e];rfl
theorem rs_for{wi:TI}{g:TG}{tb:TS}{fi:En->Option (List PyData)}{fg:PyData->En->Option En}{gb:En->Option Out}(hi:RI K R wi fi)(hg:RG K R g fg)(hb:RS K R tb gb):RS K R (tFor wi g tb) (mFor fi fg gb):=fun HB S0 σ ρ H0 H x e o ho D d=>by
 obtain ⟨ds,hds,ho⟩:=Option.bind_eq_some_iff.mp ho;refine hi HB σ ρ H0 H x.s1 e ds hds _ fun J H1 J1 x1 it=> ?_;have x':=x.chain x1;refine ⟨fun i m σ H=>m=ds.length - i/\((∃ρ H0',i<=ds.length/\Ext H1 HB H0' H/\ST R HB H0' H σ ρ/\forM fg gb (ds.drop i) ρ=some o)),⟨_,rfl,ρ,H1,Nat.zero_le _,x'.rebase,e.ext (K:=K) x1,ho⟩,?_⟩;rintro i m σ1 H2 ⟨rfl,ρ1,H0',hile,xx,e1,hf⟩;obtain ⟨ig,is⟩:=it H0' H2 xx.s0 xx.s1 i
 by_cases hlt:i<ds.length
 . right;obtain ⟨go,yl⟩:=ig ds[i] (by simp [hlt]);rw [forM_drop (d:=ds[i]) (by simp [hlt])] at hf
   obtain ⟨ρ2,hr2,hf⟩:=Option.bind_eq_some_iff.mp hf;obtain ⟨o2,ho2,hf⟩:=Option.bind_eq_some_iff.mp hf;refine ⟨go,fun σ' H'=>∃ρ H0',Ext H1 HB H0' H'/\ST R HB H0' H' σ' ρ/\forM fg gb (ds.drop (i+1)) ρ=some o,fun σ' H' ⟨ρ',H0'',a1,a2,a3⟩=>⟨ds.length - (i+1),by omega,rfl,ρ',H0'',hlt,a1,a2,a3⟩,fun v H3 y=> ?_⟩;obtain ⟨H03,x3,r3⟩:=yl v H3 y;have xx3:=xx.chain x3;refine hg HB σ1 ρ1 ρ2 H03 H3 v _ xx3.s1 xx3.s (e1.ext (K:=K) x3) r3 hr2 _ fun σ2 e2=> ?_;refine hb HB H1 σ2 ρ2 H03 H3 xx3 e2 o2 ho2 _ ?_
   cases o2 with
   | nx ρ3=>exact fun σ' H0'' H' a b=>⟨ρ3,H0'',a,b,hf⟩
   | ct ρ3=>exact fun σ' H0'' H' a b=>⟨ρ3,H0'',a,b,hf⟩
   | bk ρ3=>cases hf;exact fun σ' H0'' H' a b=>d σ' H0'' H' (x'.unbase a) b
   | rt r ρ3=>cases hf;exact fun v σ' H0'' H' a b c=>d v σ' H0'' H' (x'.unbase a) b c
 . left;refine ⟨is (by omega),?_⟩;rw [List.drop_eq_nil_of_le (by omega)] at hf
   cases hf
   exact d σ1 H0' H2 (x'.unbase xx) e1
def whileF(c:En->Option Bool)(b:En->Option Out):Nat->En->Option Out
 | 0,_=>none
 | n + 1, ρ => (c ρ).bind fun k => if k then (b ρ).bind fun o => match o with
  | .nx ρ2=>whileF c b n ρ2
  | .ct ρ2=>whileF c b n ρ2
  | .bk ρ2=>some (.nx ρ2)
  | .rt r ρ2=>some (.rt r ρ2)
  else some (.nx ρ)
open Classical in
noncomputable def mWhile(c:En->Option Bool)(b:En->Option Out):En->Option Out:=fun ρ=>if h:∃o n,whileF c b n ρ=some o then some h.choose else none
theorem whileF_mono{c:En->Option Bool}{b:En->Option Out}:∀ {n:Nat} {ρ:En} {o:Out},whileF c b n ρ=some o->∀m,n<=m->whileF c b m ρ=some o
 | 0,_,_,h,_,_=>by cases h
 | n+1,ρ,o,h,m,hm=>by
  obtain ⟨m,rfl⟩:∃k,m=k+1:=⟨m - 1,by omega⟩;unfold whileF at h ⊢
  obtain ⟨k,hk,h⟩:=Option.bind_eq_some_iff.mp h;rw [hk]
  cases k with
  | false=>exact h
  | true=>
   show Option.bind _ _=_;simp only [if_true] at h
   obtain ⟨o2,h2,h⟩:=Option.bind_eq_some_iff.mp h;rw [h2]
   cases o2 with
   | nx ρ2=>exact whileF_mono (n:=n) h m (by omega)
   | ct ρ2=>exact whileF_mono (n:=n) h m (by omega)
   | bk ρ2=>exact h
   | rt r _=>exact h
theorem mWhile_of{c:En->Option Bool}{b:En->Option Out}{ρ:En}{o:Out}{n:Nat}(h:whileF c b n ρ=some o):mWhile c b ρ=some o:=by
 have hx:∃o n,whileF c b n ρ=some o:=⟨o,n,h⟩;unfold mWhile;rw [dif_pos hx];obtain ⟨m,hm⟩:=hx.choose_spec;have h1:=whileF_mono h (max n m) (Nat.le_max_left _ _);have h2:=whileF_mono hm (max n m) (Nat.le_max_right _ _);rw [<-h2,h1]
theorem mWhile_fuel{c:En->Option Bool}{b:En->Option Out}{ρ:En}{o:Out}(h:mWhile c b ρ=some o):∃n,whileF c b n ρ=some o:=by
 unfold mWhile at h
 split at h
 . rename_i hx;obtain ⟨m,hm⟩:=hx.choose_spec
   cases h
   exact ⟨m,hm⟩
 . cases h
theorem rs_while{c:TT}{tb:TS}{fc:En->Option Bool}{gb:En->Option Out}(hc:RT K R c fc)(hb:RS K R tb gb):RS K R (tWhile c tb) (mWhile fc gb):=fun HB S0 σ ρ H0 H x e o ho D d=>by
 obtain ⟨n,hn⟩:=mWhile_fuel ho;refine ⟨fun m σ H=>∃ρ H0,Ext S0 HB H0 H/\ST R HB H0 H σ ρ/\whileF fc gb m ρ=some o,⟨n,ρ,H0,x,e,hn⟩,?_⟩;rintro m σ1 H1 ⟨ρ1,H01,x1,e1,hw⟩
 cases m with
 | zero=>cases hw
 | succ m=>
  unfold whileF at hw
  obtain ⟨k,hk,hw⟩:=Option.bind_eq_some_iff.mp hw;refine hc HB σ1 ρ1 H01 H1 x1.s1 e1 k hk _ fun H2 J2 x2=> ?_;have x12:=x1.chain x2
  cases k with
  | false=>cases hw;exact iteF (d σ1 H2 J2 x12 (e1.ext (K:=K) x2))
  | true=>
   simp only [if_true] at hw
   obtain ⟨o2,h2,hw⟩:=Option.bind_eq_some_iff.mp hw;refine iteT ⟨fun σ' H'=>∃ρ H0,Ext S0 HB H0 H'/\ST R HB H0 H' σ' ρ/\whileF fc gb m ρ=some o,fun σ' H' h=>⟨m,Nat.lt_succ_self m,h⟩,?_⟩;refine hb HB S0 σ1 ρ1 H2 J2 x12 (e1.ext (K:=K) x2) o2 h2 _ ?_
   cases o2 with
   | nx ρ3=>exact fun σ' H0'' H' a b=>⟨ρ3,H0'',a,b,hw⟩
   | ct ρ3=>exact fun σ' H0'' H' a b=>⟨ρ3,H0'',a,b,hw⟩
   | bk ρ3=>cases hw;exact fun σ' H0'' H' a b=>d σ' H0'' H' a b
   | rt r ρ3=>cases hw;exact fun v σ' H0'' H' a b c=>d v σ' H0'' H' a b c
def mAsgT(g:PyData->En->Option En)(f:En->Option Sl):En->Option Out:=fun ρ=>(f ρ).bind fun r=>(g r.dat ρ).map .nx
theorem rs_asgT{te:TE}{g:TG}{f:En->Option Sl}{fg:PyData->En->Option En}(h:RE K R te f)(hg:RG K R g fg):RS K R (tAsg te g) (mAsgT fg f):=fun HB S0 σ ρ H0 H x e o ho D d=>by
 obtain ⟨r,hr,ho⟩:=Option.bind_eq_some_iff.mp ho;obtain ⟨ρ',hg',rfl⟩:=Option.map_eq_some_iff.mp ho;refine h.rv HB σ ρ H0 H x.s1 e r.dat (by unfold mDat;rw [hr];rfl) _ fun v H1 J1 x1 p1=> ?_;have x':=x.chain x1;exact hg HB σ ρ ρ' H1 J1 v _ x'.s1 x'.s (e.ext (K:=K) x1) p1 hg' _ fun σ' e'=>d σ' H1 J1 x' e'
def mPar(i j:Nat)(f:En->Option (List PyData)):En->Option Out:=fun ρ=>(f ρ).bind fun ds=>match ds with
 | [a,b]=>some (.nx ((ρ.set i (some (.val a))).set j (some (.val b))))
 | _=>none
end
end Dm
namespace Tf
open PySem L2
def spLaw(K:PySem.W.Frag):Sp:=fun vs H Q _=>∃(a:Addr) (ns:List Int),vs = [.ref a]/\SqL K H a (ns.map V.int)/\ns.length<=63/\∀H',Q (.bl true) H'
end Tf
namespace Dm
open PySem PySem.Spec PyProof.Rows L2 Tf
section
variable {K:PySem.W.Frag}
def subE(ix:List (Option Nat))(ρ:En):En:=ix.map fun o=>match o with | some j=>(ρ[j]?).join | none=>none
theorem ix_inj:∀ {ix:List (Option Nat)},(ix.filterMap id).Nodup->∀ {i k j:Nat},ix[i]? = some (some j)->ix[k]? = some (some j)->i=k
 | [],_,i,k,j,h,_=>by simp at h
 | o::r,hn,i,k,j,h1,h2=>by
  have hr:(r.filterMap id).Nodup:=by
   cases o with
   | none=>simpa using hn
   | some a=>have hn:(a::r.filterMap id).Nodup:=hn;exact (List.nodup_cons.mp hn).2
  have out:∀ {k:Nat},o=some j->r[k]? = some (some j)->False:=by
   intro k ho hk;subst ho;have hn:(j::r.filterMap id).Nodup:=hn;exact (List.nodup_cons.mp hn).1 (List.mem_filterMap.mpr ⟨some j,List.mem_of_getElem? hk,rfl⟩)
  cases i with
  | zero=>
   cases k with
   | zero=>rfl
   | succ k=>simp at h1 h2;exact (out h1 h2).elim
  | succ i=>
   cases k with
   | zero=>simp at h1 h2;exact (out h2 h1).elim
   | succ k=>simp at h1 h2;rw [ix_inj hr h1 h2]
theorem subE_get{ix:List (Option Nat)}{ρ:En}{i:Nat}{s:Sl}(h:(subE ix ρ)[i]? = some (some s)):∃j,ix[i]? = some (some j)/\ρ[j]? = some (some s):=by
 unfold subE at h
 rw [List.getElem?_map] at h
 cases e:ix[i]? with
 | none=>rw [e] at h;cases h
 | some o=>
  rw [e] at h
  cases o with
  | none=>cases h
  | some j=>exact ⟨j,rfl,join_some (Option.some.inj h)⟩
theorem subS_get{ix:List (Option Nat)}{σ:L2.St}{i j:Nat}(h:ix[i]? = some (some j)):(subS ix σ)[i]? = some (σ[j]?).join:=by
 unfold subS;rw [List.getElem?_map,h];rfl
theorem ER.sub{HB H0 H:Hp}{σ:L2.St}{ρ:En}{ix:List (Option Nat)}(hx:(ix.filterMap id).Nodup)(e:ER K HB H0 H σ ρ):ER K (fun _=>none) H0 H (subS ix σ) (subE ix ρ):=by
 refine ⟨by unfold subS subE;rw [List.length_map,List.length_map],fun i s h=> ?_,fun i k a ds es hik h1 h2 h3 h4=> ?_⟩
 . obtain ⟨j,h1,h2⟩:=subE_get h;obtain ⟨v,h3,h4⟩:=e.get j s h2;refine ⟨v,by rw [subS_get h1,h3];rfl,?_⟩
   cases s with
   | val d=>exact h4
   | own ds=>
    obtain ⟨a,vs,q1,_,q2⟩:=h4
    exact ⟨a,vs,q1,rfl,q2⟩
   | dct ds=>
    obtain ⟨a,vs,q1,_,q2⟩:=h4;exact ⟨a,vs,q1,rfl,q2⟩
 . obtain ⟨j,g1,g2⟩:=subE_get h1;obtain ⟨l,g3,g4⟩:=subE_get h2
   have hjl:j≠l:=by
    rintro rfl;exact hik (ix_inj hx g1 g3)
   rw [subS_get g1] at h3
   rw [subS_get g3] at h4
   exact e.apart j l a ds es hjl g2 g4 (join_some (Option.some.inj h3)) (join_some (Option.some.inj h4))
def compM(f:PyData->Option (Option PyData)):List PyData->Option (List PyData)
 | []=>some []
 | d::ds=>(f d).bind fun r=>(compM f ds).map fun rest=>match r with
  | some x=>x::rest
  | none=>rest
def elM(fg:PyData->En->Option En)(ft:En->Option Bool)(fe:En->Option Sl)(ρ0:En):PyData->Option (Option PyData):=fun d=>(fg d ρ0).bind fun ρ'=>(ft ρ').bind fun b=>if b then (fe ρ').map (fun r=>some r.dat) else some none
def mLC(sb:En->En)(fi:En->Option (List PyData))(fg:PyData->En->Option En)(ft:En->Option Bool)(fe:En->Option Sl):En->Option Sl:=fun ρ=>(fi ρ).bind fun ds=>
 if ds.length<sizeLine then (compM (elM fg ft fe (sb ρ)) ds).map .own else none
def mYes:En->Option Bool:=fun _=>some true
theorem rt_yes{R:Rl}:RT K R tNoTest mYes:=fun HB σ ρ H0 H s e b hb Q q=>by cases hb;exact q _ _ (Ext.refl s)
theorem re_lc {R R' : Rl} [RelOk K R] [RelOk K R'] {sb : En -> En} {ix : List (Option Nat)} {wi : TI} {g : CB -> TG} {tt : CB -> TT} {te : CB -> TE} {fi : En -> Option (List PyData)} {fg : PyData -> En -> Option En} {ft : En -> Option Bool} {fe : En -> Option Sl}
 (hx:∀(HB:Hp) (σ:L2.St) (ρ:En) (H0 H:Hp),R.r HB H0 H σ ρ->R'.r (fun _=>none) H0 H (subS ix σ) (sb ρ))
 (hi:RI K R wi fi) (hg:∀b,RG K R' (g b) fg) (ht:∀b,RT K R' (tt b) ft) (he:∀b,RE K R' (te b) fe):RE K R (tLC ix wi g tt te) (mLC sb fi fg ft fe):=fun HB σ ρ H0 H s e z hz Q q=>by
 obtain ⟨ds,hds,hz⟩:=Option.bind_eq_some_iff.mp hz
 split at hz
 . rename_i hlen;obtain ⟨all,hall,rfl⟩:=Option.map_eq_some_iff.mp hz;refine hi HB σ ρ H0 H s e ds hds _ fun J H1 J1 x1 it b=> ?_;have e1:ST R' (fun _=>none) H1 J1 (subS ix σ) (sb ρ):=⟨hx HB σ ρ H1 J1 (e.ext (K:=K) x1).r⟩;refine ⟨fun i m ys H=>m=ds.length - i/\i<=ds.length/\∃H0' es rest,Ext H1 J1 H0' H/\Reps K H0' ys es/\es.length<=i/\compM (elM fg ft fe (sb ρ)) (ds.drop i)=some rest/\es++rest=all,⟨_,rfl,Nat.zero_le _,H1,[],all,Ext.refl x1.s1, .nil,Nat.le_refl _,hall,rfl⟩,?_⟩;rintro i m ys H2 ⟨rfl,hile,H0',es,rest,xx,hr,hel,hc,hsum⟩;obtain ⟨ig,is⟩:=it H0' H2 xx.s0 xx.s1 i;refine ⟨by rw [hr.length];omega,?_⟩
   by_cases hlt:i<ds.length
   . right;obtain ⟨go,yl⟩:=ig ds[i] (by simp [hlt]);rw [List.drop_eq_getElem_cons hlt] at hc
     obtain ⟨r,hr1,hc⟩:=Option.bind_eq_some_iff.mp (show (elM fg ft fe (sb ρ) ds[i]).bind _=some rest from hc);obtain ⟨rest',hr2,hc⟩:=Option.map_eq_some_iff.mp hc;refine ⟨go,fun ys' H'=>∃H0' es rest,Ext H1 J1 H0' H'/\Reps K H0' ys' es/\es.length<=i+1/\compM (elM fg ft fe (sb ρ)) (ds.drop (i+1))=some rest/\es++rest=all,fun ys' H' h=>⟨ds.length - (i+1),by omega,rfl,hlt,h⟩,fun v H3 y=> ?_⟩;obtain ⟨H03,x3,r3⟩:=yl v H3 y;obtain ⟨ρ',hg',hb'⟩:=Option.bind_eq_some_iff.mp hr1;obtain ⟨bb,hbb,hb'⟩:=Option.bind_eq_some_iff.mp hb';have xx3:=xx.trans x3;refine hg b (fun _=>none) _ _ ρ' H03 H3 v _ x3.s1 (fun _ _ h=>by cases h) (e1.ext (K:=K) xx3) r3 hg' _ fun σ2 e2=> ?_;refine ht b _ σ2 ρ' H03 H3 x3.s1 e2 bb hbb _ fun H4 J4 x4=> ?_
     cases bb with
     | true=>
      refine iteT ?_;obtain ⟨rr,hrr,rfl⟩:=Option.map_eq_some_iff.mp (show (fe ρ').map (fun r=>some r.dat)=some r from hb');refine (he b).rv _ σ2 ρ' H4 J4 x4.s1 (e2.ext (K:=K) x4) rr.dat (by unfold mDat;rw [hrr];rfl) _ fun w H5 J5 x5 p5=> ?_;refine ⟨H5,es ++ [rr.dat],rest',(xx3.trans x4).trans x5,Tf.Reps.snoc (Reps.same ((x3.s0.trans x4.s0).trans x5.s0) hr) p5,by rw [List.length_append];simpa using hel,hr2,?_⟩;rw [<-hsum, <-hc,List.append_assoc]
      rfl
     | false=>
      refine iteF ?_
      cases hb'
      exact ⟨H4,es,rest',xx3.trans x4,Reps.same (x3.s0.trans x4.s0) hr,by omega,hr2,by rw [<-hsum, <-hc]⟩
   . left;have hi':i=ds.length:=by omega
     refine ⟨is (by omega),fun p hp=> ?_⟩;rw [List.drop_eq_nil_of_le (by omega)] at hc
     cases hc
     rw [List.append_nil] at hsum
     subst hsum;have xy:=x1.trans xx;exact q _ _ _ (xy.trans (Ext.alloc xx.s1 hp _)) ⟨p,ys,rfl,xy.s.free hp,xx.s1.free hp,upd_same,hr⟩
 . cases hz
def runD(n:Nat)(g:En->Option Out)(k:Nat):List PyData->Option Sl:=fun ds=>if ds.length=k then (g (ds.map (fun d=>some (.val d))++List.replicate (n - ds.length) none)).bind fun o=>match o with
 | .rt r _=>some r
 | .nx _=>some (.val .none)
 | _=>none else none
theorem Reps.lenV{H:Hp}{vs:List V}{ds:List PyData}(h:Reps K H vs ds):vs.length=ds.length:=h.length
theorem er_start{N:List Str}{H0 H:Hp}{vs:List V}{ds:List PyData}(h:Reps K H0 vs ds):ER K H H0 H (L2.start N vs) (ds.map (fun d=>some (.val d))++List.replicate (N.length - ds.length) none):=by
 have hl:=h.length
 have noown:∀(i:Nat) s,(ds.map (fun d=>some (Sl.val d))++List.replicate (N.length - ds.length) none)[i]? = some (some s)->∃d,ds[i]? = some d/\s = .val d:=by
  intro i s hs
  by_cases hi:i<ds.length
  . rw [List.getElem?_append_left (by simpa using hi),List.getElem?_map,List.getElem?_eq_getElem hi] at hs
    cases hs
    exact ⟨_,List.getElem?_eq_getElem hi,rfl⟩
  . rw [List.getElem?_append_right (by simpa using hi),List.getElem?_replicate] at hs
    split at hs <;> cases hs
 refine ⟨?_,fun i s hs=> ?_,fun i j a xs ys _ h1 _ _ _=> ?_⟩
 . unfold L2.start;simp only [List.length_append,List.length_map,List.length_replicate,hl]
 . obtain ⟨d,hd,rfl⟩:=noown i s hs;obtain ⟨v,h1,h2⟩:=Tf.Reps.get h hd;refine ⟨v,?_,h2⟩;unfold L2.start;have hi:i<vs.length:=(List.getElem?_eq_some_iff.mp h1).1;rw [List.getElem?_append_left (by simpa using hi),List.getElem?_map,h1];rfl
 . obtain ⟨d,_,e⟩:=noown i _ h1
   cases e
section
variable {P:Program} {w:World} {mg:Str->Option Value} {base:Heap}
def DSs(X:Cx)(R:Rl)(st:List Stmt)(g:En->Option Out):Prop:=∃t,PSs X st t/\RS X.K R t g
theorem fnD {x qual : Str} {st : Stmt} {f : Addr} {fd : FuncData} {N ps : List Str} {k n m : Nat} {g : En -> Option Out} (F : Fun K x qual st f fd) (S : FnScope N ps (defScope st)) (hn : N.length = n) (hm : ps.length = m)
 (hb:∀(cdv:Value) (A:Around) (outer:List Env) (s:Shared) (H:Hp) (E:XK),Room k (A.deeper (envOfC qual (defScope st) s.heap.objs.size f cdv))->DSs (cxOf CX0 P w K mg base N qual (defScope st) f cdv A outer s H E).nox (PR K) (defBody st) g) :
 FnOk P w K mg base CX0 (k+1) f fd ps (spD K (runD n g m)):=by
 subst hn hm;refine F.ok S (fun vs H Q E h=> ?_) fun cdv A outer s H vs Q E hr h=> ?_
 . obtain ⟨H0,ds,r,s,hr,hf,_⟩:=h;unfold runD at hf
   split at hf
   . rename_i hl;rw [hr.length,hl]
   . cases hf
 . obtain ⟨t,ht,rs⟩:=hb cdv A outer s H E hr;refine ⟨t,ht,?_⟩;obtain ⟨H0,ds,r,s0,hr,hf,q⟩:=h;unfold runD at hf
   split at hf
   . obtain ⟨o,ho,hf⟩:=Option.bind_eq_some_iff.mp hf;refine rs H H0 _ _ H0 H (Ext.refl s0) ⟨er_start hr⟩ o ho _ ?_
     cases o with
     | rt r' _=>cases hf;exact fun v σ H1 J1 a _ b=>q v H1 J1 a b
     | nx _=>cases hf;exact fun σ H1 J1 a b=>q .non H1 J1 a .none
     | bk _=>cases hf
     | ct _=>cases hf
   . cases hf
end
end
theorem law_imp{K:PySem.W.Frag}{F:List PyData->Option Sl}(hL:∀ns:List Int,ns.length<=63->F [.list (ns.map .int)]=some (.val (.bool true))){vs:List V}{H:Hp}{Q:VK}{E:XK}(h:spLaw K vs H Q E):spD K F vs H Q E:=by
 obtain ⟨a,ns,rfl,h1,h2,q⟩:=h
 have allI:∀ns:List Int,Reps K H (ns.map V.int) (ns.map .int):=fun ns=>by
  induction ns with
  | nil=>exact .nil
  | cons n r ih=>exact .cons (.int n) ih
 refine ⟨H,[.list (ns.map .int)], .val (.bool true),Same.refl H, .cons (.list h1 (allI ns)) .nil,hL ns h2,fun v H0' H' x p=> ?_⟩
 cases (show Rep K H0' v (.bool true) from p)
 exact q H'
section
variable {X:Cx} {R R':Rl} [RelOk X.K R] [RelOk X.K R'] {a b c e:Expr} {pos p:Pos} {f g fa fb fc:En->Option Sl}
def DE(X:Cx)(R:Rl)(e:Expr)(f:En->Option Sl):Prop:=∃te,PE X e te/\RE X.K R te f
def DP(X:Cx)(R:Rl)(e:Expr)(f:En->Option Sl):Prop:=∃te,PE X e te/\RP X.K R te f
def DA(X:Cx)(R:Rl)(es:List Expr)(f:En->Option (List PyData)):Prop:=∃ta,PA X es ta/\RA X.K R ta f
def DQ(X:Cx)(R:Rl)(es:List Expr)(f:En->Option (List Sl)):Prop:=∃ta,PA X es ta/\RQ X.K R ta f
def DT(X:Cx)(R:Rl)(e:Expr)(f:En->Option Bool):Prop:=∃tt,PT X e tt/\RT X.K R tt f
def DW(X:Cx)(R:Rl)(e:Expr)(f:En->Option Bool):Prop:=∃tt,PW X e tt/\RT X.K R tt f
def DO(X:Cx)(R:Rl)(e:Option Expr)(f:En->Option (Option Int)):Prop:=∃to,PO X e to/\RO X.K R to f
def DS(X:Cx)(R:Rl)(st:Stmt)(g:En->Option Out):Prop:=∃t,PS X st t/\RS X.K R t g
def DG(X:Cx)(R:Rl)(e:Expr)(g:PyData->En->Option En):Prop:=∃t,PG X e t/\RG X.K R t g
def DGs(X:Cx)(R:Rl)(es:List Expr)(gs:List (PyData->En->Option En)):Prop:=∃t,PGs X es t/\RGs X.K R t gs
def DI(X:Cx)(R:Rl)(tg e:Expr)(f:En->Option (List PyData)):Prop:=∃wi,PI X tg e wi/\RI X.K R wi f
theorem DE.dp(h:DE X R e f):DP X R e f:=by obtain ⟨t,h1,h2⟩:=h;exact ⟨t,h1,h2.rp⟩
theorem dp_var (i : Nat) {x : Str} (hN : X.N[i]? = some x := by rfl) (hv : Vis X.env.scope x := by first | exact Or.inl rfl | exact Or.inr (Or.inl rfl) | exact Or.inr (Or.inr rfl)) (hd : (x == ("__debug__" : Str)) = false := by decide)
 (hcd:(x==("__classdict__" : Str))=false:=by decide) (hsl:R.slot i:=by first | exact True.intro | exact ⟨of_decide_eq_true rfl,of_decide_eq_true rfl⟩):DP X R (.Name x pos) (mPk i):=⟨_,pe_var hN hv hd hcd,rp_var i hsl⟩
theorem de_var (i : Nat) {x : Str} (hN : X.N[i]? = some x := by rfl) (hv : Vis X.env.scope x := by first | exact Or.inl rfl | exact Or.inr (Or.inl rfl) | exact Or.inr (Or.inr rfl)) (hd : (x == ("__debug__" : Str)) = false := by decide)
 (hcd:(x==("__classdict__" : Str))=false:=by decide) (hsl:R.slot i:=by first | exact True.intro | exact ⟨of_decide_eq_true rfl,of_decide_eq_true rfl⟩):DE X R (.Name x pos) (mVar i):=⟨_,pe_var hN hv hd hcd,re_var i hsl⟩
theorem de_int{i:Int}{j}:DE X R (.Constant (.int i) j pos) (mK (.int i)):=⟨_,pe_int,re_k fun _=> .int i⟩
theorem de_bool{i:Bool}{j}:DE X R (.Constant (.bool i) j pos) (mK (.bool i)):=⟨_,pe_bl,re_k fun _=> .bool i⟩
theorem de_none{j}:DE X R (.Constant .none j pos) (mK .none):=⟨_,pe_non,re_k fun _=> .none⟩
theorem de_op{o:Operator}{r:R2}{op:Sl->Sl->Option Sl}(ho:OpR X (binaryOp o) r)(hd:OpD X.K r op)(ha:DP X R a fa)(hb:DP X R b fb):DE X R (.BinOp a o b pos) (mBin op fa fb):=by
 obtain ⟨ta,h1,h2⟩:=ha;obtain ⟨tb,h3,h4⟩:=hb;exact ⟨_,pe_op ho h1 h3,re_bin hd h2 h4⟩
def dAddI:Sl->Sl->Option Sl:=iop fun i j=>i+j
def dSub:Sl->Sl->Option Sl:=iop fun i j=>i - j
def CMulA(i j:Int):Prop:=CMul i j\/CMulB i j
theorem op_mulA:OpR X (binaryOp .Mult) (rI CMulA fun i j=> .int (i*j)):=opI fun _ _ _ _ _ _ _ hc q=>by
 rcases hc with hc | ⟨n,m,h1,h2,h3⟩
 . exact mul_int q hc.ok
 . exact mul_int q (mulOk h1 h2 h3)
noncomputable def dMulI:Sl->Sl->Option Sl:=iopC CMulA fun i j=>i*j
noncomputable def dFdiv:Sl->Sl->Option Sl:=iopC CDivB fun i j=>i.fdiv j
noncomputable def dMod:Sl->Sl->Option Sl:=iopC (fun _ j=>j≠0) fun i j=>i.fmod j
theorem de_sub(ha:DP X R a fa)(hb:DP X R b fb):DE X R (.BinOp a .Sub b pos) (mBin dSub fa fb):=de_op op_sub opd_iop ha hb
theorem de_fdiv(ha:DP X R a fa)(hb:DP X R b fb):DE X R (.BinOp a .FloorDiv b pos) (mBin dFdiv fa fb):=de_op op_fdivB opd_iopC ha hb
theorem de_mod(ha:DP X R a fa)(hb:DP X R b fb):DE X R (.BinOp a .Mod b pos) (mBin dMod fa fb):=de_op op_modN opd_iopC ha hb
def rCatG(K:PySem.W.Frag):R2:=fun x y H Q=>∃l b xs zs,x = .ref l/\y = .ref b/\SqL K H l xs/\SqL K H b zs/\xs.length+zs.length<=sizeLine/\∀p,H p=none->Q (.ref p) (upd H p (.lst (xs++zs)))
theorem op_catG:OpR X (binaryOp .Add) (rCatG X.K):=by
 intro pins s σ H x y v u Q I rx ry h;obtain ⟨l,b,xs,zs,rfl,rfl,hH,hB,hz,q⟩:=h
 cases rx
 cases ry
 obtain ⟨its,r,p1,_⟩:=I.list hH;obtain ⟨its2,r2,p2,_⟩:=I.list hB;obtain ⟨⟨cls,dd,data,sl⟩,n,ho,hc,hd1,hd⟩:=id p1;obtain ⟨⟨cls2,dd2,data2,sl2⟩,n2,ho2,hc2,hd2',hd2⟩:=id p2;simp only at hc hd hc2 hd2
 subst hc hd hc2 hd2;have l1:=r.length;have l2:=r2.length;refine concat_meets ⟨_,ho,rfl⟩ ⟨_,ho2,rfl⟩ noFill_list_add seq_list_add PySem.F.slot_list_add PySem.F.entry_list_add (PySem.F.args_list_add_2 _ _) (list_addW l b its.toArray its2.toArray n n2 dd dd2 sl sl2 (by rw [List.size_toArray,List.size_toArray];omega)) ⟨ho,ho2,?_⟩;have ea:its.toArray++its2.toArray=(its++its2).toArray:=by simp
 rw [ea];exact ⟨.ref _,_,I.lnew (t':=s.toks) (r.append r2) (by rw [List.length_append];omega),rfl,q _ I.fresh⟩
def rCatT0(K:PySem.W.Frag):R2:=fun x y H Q=>∃a b ys,x = .ref a/\y = .ref b/\SqT K H a []/\SqT K H b ys/\Q (.ref b) H
theorem op_catT0:OpR X (binaryOp .Add) (rCatT0 X.K):=by
 intro pins s σ H x y v u Q I rx ry h;obtain ⟨a,b,ys,rfl,rfl,ha,hb,q⟩:=h
 cases rx
 cases ry
 obtain ⟨its,r1,p1,_⟩:=I.tuple ha;obtain ⟨its2,r2,p2,_⟩:=I.tuple hb
 cases r1
 obtain ⟨⟨cls,dd,data,sl⟩,ho,hc,n,hd⟩:=id p1;obtain ⟨⟨cls2,dd2,data2,sl2⟩,ho2,hc2,n2,hd2⟩:=id p2;simp only at hc hd hc2 hd2
 subst hc hd hc2 hd2
 exact concat_meets ⟨_, ho, rfl⟩ ⟨_, ho2, rfl⟩ noFill_tuple_add seq_tuple_add PySem.F.slot_tuple_add PySem.F.entry_tuple_add (PySem.F.args_tuple_add_2 _ _)
  (tuple_addW0 a b ([]:List Value).toArray its2.toArray n n2 dd dd2 sl sl2 (by simp)) ⟨ho,ho2, .ref b,H,I,rfl,q⟩
def rAddA(K:PySem.W.Frag):R2:=fun x y H Q=>rI0 (fun i j=> .int (i+j)) x y H Q\/rCatG K x y H Q\/rCatT0 K x y H Q\/rCatT K x y H Q\/(∃i j,x = .str i/\y = .str j/\i.length+j.length<=sizeLine/\Q (.str (i++j)) H)
theorem op_addA:OpR X (binaryOp .Add) (rAddA X.K):=op_add.or (op_catG.or (op_catT0.or (op_catT.or op_add_str)))
def dAdd(a b:Sl):Option Sl:=match a.dat,b.dat with
 | .int i, .int j=>some (.val (.int (i+j)))
 | .list xs, .list ys=>if xs.length+ys.length<=sizeLine then some (.own (xs++ys)) else none
 | .tuple xs, .tuple ys=>if xs.length+ys.length<=sizeLine then some (.val (.tuple (xs++ys))) else none
 | .str i, .str j=>if i.length+j.length<=sizeLine then some (.val (.str (i++j))) else none
 | _,_=>none
theorem SlP.atom{K:PySem.W.Frag}{H0 H:Hp}{v:V}{d:PyData}{r:Sl}(h:SlP K H0 H v r)(e:r.dat=d)(n:∀ds,d ≠ .list ds)(n2:∀kvs,d ≠ .dict kvs:=by intro _ h;cases h):Rep K H0 v d:=by
 cases r with
 | val _=>cases e;exact h
 | own _=>exact absurd e.symm (n _)
 | dct _=>exact absurd e.symm (n2 _)
theorem Reps.append{K:PySem.W.Frag}{H:Hp}:∀ {vs ws:List V} {ds es:List PyData},Reps K H vs ds->Reps K H ws es->Reps K H (vs++ws) (ds++es)
 | _,_,_,_, .nil,h=>h
 | _,_,_,_, .cons a t,h=> .cons a (Reps.append t h)
theorem opd_add{K:PySem.W.Frag}:OpD K (rAddA K) dAdd:=fun H0 H x y sx sy z s px py hz Q q=>by
 unfold dAdd at hz
 split at hz
 . rename_i i j e1 e2
   cases hz
   cases px.atom e1 (fun _ h=>nomatch h)
   cases py.atom e2 (fun _ h=>nomatch h)
   exact .inl ⟨_,_,rfl,rfl,q _ _ _ (Ext.refl s) (.int _)⟩
 . rename_i xs ys e1 e2
   split at hz
   . rename_i hl
     cases hz
     obtain ⟨a,vs,rfl,h1,h2⟩:=px.lst s e1;obtain ⟨b,ws,rfl,h3,h4⟩:=py.lst s e2;exact .inr (.inl ⟨a,b,vs,ws,rfl,rfl,h1,h3,by rw [h2.length,h4.length];exact hl,fun p hp=>q _ _ _ (Ext.alloc s hp _) ⟨p,_,rfl,hp,s.free hp,upd_same,Reps.append h2 h4⟩⟩)
   . cases hz
 . rename_i xs ys e1 e2
   split at hz
   . rename_i hl
     cases hz
     obtain ⟨a,vs,rfl,h1,h2⟩:=px.tup e1;obtain ⟨b,ws,rfl,h3,h4⟩:=py.tup e2
     by_cases hv:vs = []
     . subst hv
       cases h2
       exact .inr (.inr (.inl ⟨a,b,ws,rfl,rfl,s.seqT (SqT.of h1),s.seqT (SqT.of h3),q _ _ _ (Ext.refl s) (.tuple h3 h4)⟩))
     . refine .inr (.inr (.inr (.inl ⟨a,b,vs,ws,rfl,rfl,s.seqT (SqT.of h1),s.seqT (SqT.of h3),hv,by rw [h2.length,h4.length];exact hl,fun hw=> ?_,fun hw p hp=> ?_⟩)))
       . subst hw
         cases h4
         rw [List.append_nil] at q
         exact q _ _ _ (Ext.refl s) (.tuple h1 h2)
       . exact q _ _ _ (Ext.allocF s hp _) (.tuple upd_same (Reps.same (Same.upd (s.free hp) _) (Reps.append h2 h4)))
   . cases hz
 . rename_i i j e1 e2
   split at hz
   . rename_i hl
     cases hz
     cases px.atom e1 (fun _ h=>nomatch h)
     cases py.atom e2 (fun _ h=>nomatch h)
     exact .inr (.inr (.inr (.inr ⟨_,_,rfl,rfl,hl,q _ _ _ (Ext.refl s) (.str _)⟩)))
   . cases hz
 . cases hz
theorem de_add(ha:DP X R a fa)(hb:DP X R b fb):DE X R (.BinOp a .Add b pos) (mBin dAdd fa fb):=de_op op_addA opd_add ha hb
noncomputable def dRep(a b:Sl):Option Sl:=match a,b with
 | .own xs, .val (.int k)=>if -(2 ^ 63)<=k/\k<2 ^ 63/\xs.length*k.toNat<=sizeLine then some (.own (List.replicate k.toNat xs).flatten) else none
 | a,b=>dMulI a b
theorem Reps.rep{K:PySem.W.Frag}{H:Hp}{vs:List V}{ds:List PyData}(h:Reps K H vs ds):∀k:Nat,Reps K H (List.replicate k vs).flatten (List.replicate k ds).flatten
 | 0=> .nil
 | k+1=>by
  rw [List.replicate_succ,List.replicate_succ,List.flatten_cons,List.flatten_cons];exact Reps.append h (Reps.rep h k)
theorem opd_rep{K:PySem.W.Frag}:OpD K (fun x y H Q=>rRep x y H Q\/rI CMulA (fun i j=> .int (i*j)) x y H Q) dRep:=fun H0 H x y sx sy z s px py hz Q q=>by
 unfold dRep at hz
 split at hz
 . split at hz
   . rename_i hl
     cases hz
     obtain ⟨a,vs,rfl,h1,h2⟩:=px;exact .inl ⟨a,_,vs,rfl,py.int,h1,hl.1,hl.2.1,by rw [h2.length];exact hl.2.2,fun p hp=>q _ _ _ (Ext.alloc s hp _) ⟨p,_,rfl,hp,s.free hp,upd_same,Reps.rep h2 _⟩⟩
   . cases hz
 . exact .inr (opd_iopC H0 H x y _ _ z s px py hz Q q)
theorem de_mul(ha:DP X R a fa)(hb:DP X R b fb):DE X R (.BinOp a .Mult b pos) (mBin dRep fa fb):=de_op (op_rep.or op_mulA) opd_rep ha hb
theorem de_cmp{o:CmpOp}{r:R2}{op:Sl->Sl->Option Sl}(ho:OpR X (compareOp o) r)(hd:OpD X.K r op)(ha:DP X R a fa)(hb:DP X R b fb)(hm:behindInMarks o b=false):DE X R (.Compare a [o] [b] pos) (mBin op fa fb):=by
 obtain ⟨ta,h1,h2⟩:=ha;obtain ⟨tb,h3,h4⟩:=hb;exact ⟨_,pe_cmpR ho h1 h3 hm,re_bin hd h2 h4⟩
theorem dt_cmp{o:CmpOp}{r:R2}{op:Sl->Sl->Option Sl}(ho:OpR X (compareOp o) r)(hd:OpD X.K r op)(ha:DP X R a fa)(hb:DP X R b fb)(hm:behindInMarks o b=false):DT X R (.Compare a [o] [b] pos) (mTest (mBin op fa fb)):=by
 obtain ⟨ta,h1,h2⟩:=ha;obtain ⟨tb,h3,h4⟩:=hb;exact ⟨_,pt_cmpR ho h1 h3 hm,rt_test (re_bin hd h2 h4).rp⟩
def dLt:Sl->Sl->Option Sl:=icmp fun i j=>decide (i<j)
def dLe:Sl->Sl->Option Sl:=icmp fun i j=>decide (i<=j)
def dGt:Sl->Sl->Option Sl:=icmp fun i j=>decide (j<i)
def dGe:Sl->Sl->Option Sl:=icmp fun i j=>decide (j<=i)
theorem de_gt(ha:DP X R a fa)(hb:DP X R b fb):DE X R (.Compare a [.Gt] [b] pos) (mBin dGt fa fb):=de_cmp op_gt opd_icmp ha hb (nomark _)
theorem de_eq(hu:X.A.units+64<cLine)(ha:DP X R a fa)(hb:DP X R b fb):DE X R (.Compare a [.Eq] [b] pos) (mBin deq fa fb):=de_cmp (op_eqD hu) opd_eq ha hb (nomark _)
theorem dt_lt(ha:DP X R a fa)(hb:DP X R b fb):DT X R (.Compare a [.Lt] [b] pos) (mTest (mBin dLt fa fb)):=dt_cmp op_lt opd_icmp ha hb (nomark _)
theorem dt_gt(ha:DP X R a fa)(hb:DP X R b fb):DT X R (.Compare a [.Gt] [b] pos) (mTest (mBin dGt fa fb)):=dt_cmp op_gt opd_icmp ha hb (nomark _)
theorem dt_eq(hu:X.A.units+64<cLine)(ha:DP X R a fa)(hb:DP X R b fb):DT X R (.Compare a [.Eq] [b] pos) (mTest (mBin deq fa fb)):=dt_cmp (op_eqD hu) opd_eq ha hb (nomark _)
theorem dt_ne(hu:X.A.units+64<cLine)(ha:DP X R a fa)(hb:DP X R b fb):DT X R (.Compare a [.NotEq] [b] pos) (mTest (mBin dne fa fb)):=dt_cmp (op_neD hu) opd_ne ha hb (nomark _)
theorem dt_val(h:DP X R e f)(he:∀whole,isTrue e X.env whole=(do let v <-whole;standAt e.pos;holding [v] (truthy v)):=by intro _;rfl):DT X R e (mTest f):=by
 obtain ⟨t,h1,h2⟩:=h;exact ⟨_,pt_val h1 he,rt_b h2⟩
variable {ft gt:En->Option Bool} {rest:List Expr}
theorem dt_w(h:DW X R e ft):DT X R e ft:=by obtain ⟨t,h1,h2⟩:=h;exact ⟨t,h1.pt,h2⟩
theorem dw_and1(h:DT X R a ft):DW X R (.BoolOp .And [a] pos) ft:=by obtain ⟨t,h1,h2⟩:=h;exact ⟨t,pw_and1 h1,h2⟩
theorem dw_or1(h:DT X R a ft):DW X R (.BoolOp .Or [a] pos) ft:=by obtain ⟨t,h1,h2⟩:=h;exact ⟨t,pw_or1 h1,h2⟩
theorem dw_and(h:DT X R a ft)(k:DW X R (.BoolOp .And (b::rest) pos) gt):DW X R (.BoolOp .And (a::b::rest) pos) (mAnd ft gt):=by obtain ⟨t,h1,h2⟩:=h;obtain ⟨u,h3,h4⟩:=k;exact ⟨_,pw_and h1 h3,rt_and h2 h4⟩
theorem dw_or(h:DT X R a ft)(k:DW X R (.BoolOp .Or (b::rest) pos) gt):DW X R (.BoolOp .Or (a::b::rest) pos) (mOr ft gt):=by obtain ⟨t,h1,h2⟩:=h;obtain ⟨u,h3,h4⟩:=k;exact ⟨_,pw_or h1 h3,rt_or h2 h4⟩
theorem dt_not(h:DT X R a ft):DT X R (.UnaryOp .Not a pos) (mNot ft):=by obtain ⟨t,h1,h2⟩:=h;exact ⟨_,pt_not h1,rt_not h2⟩
theorem de_and1(h:DE X R a f):DE X R (.BoolOp .And [a] pos) f:=by obtain ⟨t,h1,h2⟩:=h;exact ⟨t,pe_one h1,h2⟩
theorem de_and(h:DE X R a f)(k:DE X R (.BoolOp .And (b::rest) pos) g):DE X R (.BoolOp .And (a::b::rest) pos) (mAndV f g):=by obtain ⟨t,h1,h2⟩:=h;obtain ⟨u,h3,h4⟩:=k;exact ⟨_,pe_and h1 h3,re_andV h2.rp h4⟩
theorem de_not(h:DE X R a f):DE X R (.UnaryOp .Not a pos) (mNotV f):=by obtain ⟨t,h1,h2⟩:=h;exact ⟨_,pe_not h1,re_notV h2.rp⟩
theorem de_ix(ha:DP X R a fa)(hb:DP X R b fb)(hs:PlainIx b:=by intro _ _;rfl):DE X R (.Subscript a b pos) (mBin dix fa fb):=by
 obtain ⟨ta,h1,h2⟩:=ha;obtain ⟨tb,h3,h4⟩:=hb;exact ⟨_,pe_ix ix_seq h1 h3 hs,re_bin opd_ix h2 h4⟩
variable {lo hi:Option Expr} {fl fh:En->Option (Option Int)} {p2:Pos}
theorem do_none:DO X R none mNoPart:=⟨_,po_none,ro_none⟩
theorem do_some(h:DP X R e f):DO X R (some e) (mPart f):=by obtain ⟨t,h1,h2⟩:=h;exact ⟨_,po_some h1,ro_some h2⟩
theorem de_sl(h:DP X R e f)(hl:DO X R lo fl)(hh:DO X R hi fh):DE X R (.Subscript e (.Slice lo hi none p2) pos) (mSl f fl fh):=by
 obtain ⟨t,h1,h2⟩:=h;obtain ⟨u,h3,h4⟩:=hl;obtain ⟨v,h5,h6⟩:=hh;exact ⟨_,pe_slice (sl_list.or sl_tup) h1 h3 h5,re_sl h2 h4 h6⟩
variable {es:List Expr} {fs:En->Option (List PyData)} {fq:En->Option (List Sl)}
theorem da_nil:DA X R [] mNil:=⟨_,pa_nil,ra_nil⟩
theorem da_cons(h:DE X R e f)(k:DA X R es fs)(hs:starEach (e::es) X.env=(false,eval e X.env)::starEach es X.env:=by rfl):DA X R (e::es) (mCons f fs):=by obtain ⟨t,h1,h2⟩:=h;obtain ⟨u,h3,h4⟩:=k;exact ⟨_,pa_cons h1 h3 hs,ra_cons h2 h4⟩
theorem dq_nil:DQ X R [] mNilP:=⟨_,pa_nil,rq_nil⟩
theorem dq_cons(h:DP X R e f)(k:DQ X R es fq)(hs:starEach (e::es) X.env=(false,eval e X.env)::starEach es X.env:=by rfl):DQ X R (e::es) (mConsP f fq):=by obtain ⟨t,h1,h2⟩:=h;obtain ⟨u,h3,h4⟩:=k;exact ⟨_,pa_cons h1 h3 hs,rq_cons h2 h4⟩
theorem de_tup{x1}(h:DA X R es fs):DE X R (.Tuple es x1 pos) (mTup fs):=by obtain ⟨t,h1,h2⟩:=h;exact ⟨_,pe_tup h1,re_tup h2⟩
theorem de_lst(h:DA X R es fs):DE X R (.List es pos) (mLst fs):=by obtain ⟨t,h1,h2⟩:=h;exact ⟨_,pe_lst h1,re_lst h2⟩
theorem de_call {k j : Nat} {x : Str} {ps : List Str} {F : List PyData -> Option Sl} (D : Tf.Def X.prog X.w X.K X.mg X.base j x ps (spD X.K F)) (hr : Room k X.A) (h : DA X R (e :: es) fs) (hj : j <= k := by decide) (hg : Gl X x := by rfl)
 (hdb:(x==("__debug__" : Str))=false:=by decide) (he:starEach (e::es) X.env=(false,eval e X.env)::starEach es X.env:=by rfl) (hpl:(backTo pos (starEach es X.env)).any (·.1)=false:=by rfl):DE X R (.Call (.Name x p) (e::es) [] pos) (mCall F fs):=by
 obtain ⟨t,h1,h2⟩:=h;exact ⟨_,pe_callD D hr h1 hj hg hdb he hpl,re_call h2⟩
theorem de_blt {x : Str} {id : String} {r : List V -> Hp -> VK -> Prop} {F : List Sl -> Option Sl} (hc : CallR X (.builtin id) r) (hd : CallD X.K r F) (hv : bootBuiltins x = some (.builtin id)) (hm : X.mg x = none) (h : DQ X R (e :: es) fq) (hg : Gl X x := by rfl) (hn : x ≠ "__name__" := by decide) (hdb : (x == ("__debug__" : Str)) = false := by decide)
 (he:starEach (e::es) X.env=(false,eval e X.env)::starEach es X.env:=by rfl) (hpl:(backTo pos (starEach es X.env)).any (·.1)=false:=by rfl):DE X R (.Call (.Name x p) (e::es) [] pos) (mCallP F fq):=by
 obtain ⟨t,h1,h2⟩:=h;exact ⟨_,pe_callB hc hg hm hv h1 hn hdb he hpl,re_callB hd h2⟩
theorem de_ty {x : Str} {id : String} {r : List V -> Hp -> VK -> Prop} {F : List Sl -> Option Sl} (hc : CallR X (.type id) r) (hd : CallD X.K r F) (hv : bootBuiltins x = some (.type id)) (hm : X.mg x = none) (h : DQ X R (e :: es) fq) (hg : Gl X x := by rfl) (hn : x ≠ "__name__" := by decide) (hdb : (x == ("__debug__" : Str)) = false := by decide)
 (he:starEach (e::es) X.env=(false,eval e X.env)::starEach es X.env:=by rfl) (hpl:(backTo pos (starEach es X.env)).any (·.1)=false:=by rfl):DE X R (.Call (.Name x p) (e::es) [] pos) (mCallP F fq):=by
 obtain ⟨t,h1,h2⟩:=h;exact ⟨_,pe_callTy hc hg hm hv h1 hn hdb he hpl,re_callB hd h2⟩
theorem kit_ok{K:PySem.W.Frag}{n:String}:∀t b,isiD n t=some b->(t = "NoneType" \/ t = "bool" \/ t = "int" \/ t = "str" \/ t = "list" \/ t = "tuple")->PySem.W.kitOne K (.type t) (.type n)=some b:=by
 intro t b h ht;unfold isiD at h
 split at h
 . rename_i hn;subst hn
   cases h
   rcases ht with rfl | rfl | rfl | rfl | rfl | rfl <;> rfl
 . split at h
   . rename_i hn
     cases h
     rcases hn with rfl | rfl | rfl | rfl <;> rcases ht with rfl | rfl | rfl | rfl | rfl | rfl <;> rfl
   . cases h
theorem de_isi {x : Str} {T : String} {p1 : Pos} (hv : bootBuiltins x = some (.type T)) (hx : X.mg x = none) (hm : X.mg "isinstance" = none) (h : DP X R e f) (hgx : Gl X x := by rfl) (hg : Gl X "isinstance" := by rfl) (hnx : x ≠ "__name__" := by decide) (hdx : (x == ("__debug__" : Str)) = false := by decide)
 (he:starEach [e, .Name x p1] X.env=(false,eval e X.env)::starEach [.Name x p1] X.env:=by rfl) (he2:starEach [.Name x p1] X.env=(false,eval (.Name x p1) X.env)::starEach [] X.env:=by rfl) (hpl:(backTo pos (starEach [.Name x p1] X.env)).any (·.1)=false:=by rfl) :
 DE X R (.Call (.Name "isinstance" p) [e, .Name x p1] [] pos) (mIsi T f):=by
 obtain ⟨t,h1,h2⟩:=h;exact ⟨_,pe_callB call_isi hg hm bt_isinstance (pa_cons h1 (pa_cons (pe_ty hgx hx hv hnx hdx) pa_nil he2) he) (by decide) (by decide) he hpl,re_isi kit_ok h2⟩
theorem pr_sub{K:PySem.W.Frag}{ix:List (Option Nat)}(hx:(ix.filterMap id).Nodup:=by decide):∀(HB:Hp) (σ:L2.St) (ρ:En) (H0 H:Hp),(PR K).r HB H0 H σ ρ->(PR K).r (fun _=>none) H0 H (subS ix σ) (subE ix ρ):=fun HB σ ρ H0 H e=>ER.sub hx e
variable {st:Stmt} {sts:List Stmt} {gs gs':En->Option Out} {x y:Str} {pos':Pos} {i j:Nat}
theorem dss_nil:DSs X R [] mNext:=⟨_,pss_nil,rs_next⟩
theorem dss_one(h:DS X R st gs):DSs X R [st] gs:=by obtain ⟨t,h1,h2⟩:=h;exact ⟨_,pss_one h1,h2⟩
theorem dss_cons(h:DS X R st gs)(k:DSs X R sts gs'):DSs X R (st::sts) (mSeq gs gs'):=by obtain ⟨t,h1,h2⟩:=h;obtain ⟨u,h3,h4⟩:=k;exact ⟨_,pss_cons h1 h3,rs_seq h2 h4⟩
theorem ds_frz(i:Nat)(h:DS X R st gs)(hsl:R.slot i:=by first | exact True.intro | exact ⟨of_decide_eq_true rfl,of_decide_eq_true rfl⟩):DS X R st (mFrz i gs):=by obtain ⟨t,h1,h2⟩:=h;exact ⟨_,h1,rs_frz i hsl h2⟩
theorem ds_set (i : Nat) (h : DE X R e f) (hN : X.N.Nodup) (hi : X.N[i]? = some x := by rfl) (hx : Loc X.env.scope x := by first | exact Or.inl rfl | exact Or.inr rfl) (hs : swapsWith e (some (.Name x pos')) pos.line X.env = pure false := by rfl) (hf : X.fn x = true \/ X.env.scope.names.lookup x = some .local := by first | exact .inl rfl | exact .inr rfl) (hsl : R.slot i := by first | exact True.intro | exact ⟨of_decide_eq_true rfl, of_decide_eq_true rfl⟩) :
 DS X R (.Assign [.Name x pos'] e pos) (mAsg i f):=by obtain ⟨t,h1,h2⟩:=h;exact ⟨_,ps_set hN hi hx h1 hs hf,rs_asg hsl h2⟩
theorem ds_ret(h:DE X R e f):DS X R (.Return (some e) pos) (mRet f):=by obtain ⟨t,h1,h2⟩:=h;exact ⟨_,ps_ret h1,rs_ret h2⟩
theorem ds_retV (i : Nat) (hN : X.N[i]? = some x := by rfl) (hv : Vis X.env.scope x := by first | exact Or.inl rfl | exact Or.inr (Or.inl rfl) | exact Or.inr (Or.inr rfl)) (hd : (x == ("__debug__" : Str)) = false := by decide)
 (hcd:(x==("__classdict__" : Str))=false:=by decide) (hsl:R.slot i:=by first | exact True.intro | exact ⟨of_decide_eq_true rfl,of_decide_eq_true rfl⟩):DS X R (.Return (some (.Name x pos')) pos) (mRet (mPk i)):=⟨_,ps_ret (pe_var hN hv hd hcd),rs_retV i hsl⟩
theorem ds_if{A B:List Stmt}(hc:DT X R c ft)(h:DSs X R A gs)(k:DSs X R B gs'):DS X R (.If c A B pos) (mIf ft gs gs'):=by obtain ⟨t,h1,h2⟩:=hc;obtain ⟨u,h3,h4⟩:=h;obtain ⟨v,h5,h6⟩:=k;exact ⟨_,ps_if h1 h3 h5,rs_if h2 h4 h6⟩
theorem ds_while(hp:PassesOwn (model X.prog X.w) X.A X.env X.xe)(hc:DT X R c ft)(h:DSs X R sts gs):DS X R (.While c sts [] pos) (mWhile ft gs):=by obtain ⟨t,h1,h2⟩:=hc;obtain ⟨u,h3,h4⟩:=h;exact ⟨_,ps_while hp h1 h3,rs_while h2 h4⟩
variable {tg:Expr} {fi:En->Option (List PyData)} {fg:PyData->En->Option En} {gg:List (PyData->En->Option En)}
theorem ds_for(hp:PassesOwn (model X.prog X.w) X.A X.env X.xe)(hi:DI X R tg e fi)(hg:DG X R tg fg)(h:DSs X R sts gs)(hc:X.calm=true:=by rfl)(hs:∀x,foldedSetIterable e X.env x=pure x:=by intro _;rfl):DS X R (.For tg e sts [] pos) (mFor fi fg gs):=by
 obtain ⟨t,h1,h2⟩:=hi;obtain ⟨u,h3,h4⟩:=hg;obtain ⟨v,h5,h6⟩:=h;exact ⟨_,ps_for hp hc h1 h3 h5 hs,rs_for h2 h4 h6⟩
theorem dg_name(i:Nat)(hN:X.N.Nodup)(hi:X.N[i]? = some x:=by rfl)(hx:Loc X.env.scope x:=by first | exact Or.inl rfl | exact Or.inr rfl)(hf:X.fn x=true\/X.env.scope.names.lookup x=some .local:=by first | exact .inl rfl | exact .inr rfl)(hsl:R.slot i:=by first | exact True.intro | exact ⟨of_decide_eq_true rfl,of_decide_eq_true rfl⟩):DG X R (.Name x pos) (gVar i):=⟨_,pg_name hN hi hx hf,rg_name i hsl⟩
theorem dgs_nil:DGs X R [] []:=⟨_,pgs_nil,rgs_nil⟩
theorem dgs_cons(h:DG X R e fg)(k:DGs X R es gg)(hs:(assignEach (e::es) X.env).map (·.2)=assign e X.env::(assignEach es X.env).map (·.2):=by rfl):DGs X R (e::es) (fg::gg):=by obtain ⟨t,h1,h2⟩:=h;obtain ⟨u,h3,h4⟩:=k;exact ⟨_,pgs_cons h1 h3 hs,rgs_cons h2 h4⟩
theorem dg_tup{k}{n:Nat}(h:DGs X R es gg)(hl:n=gg.length:=by rfl)(hc:X.calm=true:=by rfl)(hn:(assignEach es X.env).length=n:=by rfl)(hst:(assignEach es X.env).findIdx? (·.1)=none:=by rfl):DG X R (.Tuple es k pos) (gTupD gg):=by
 obtain ⟨t,h1,h2⟩:=h;exact ⟨_,pg_tup hc h1 hn hst,rg_tup hl h2⟩
theorem di_range1 (hm:X.mg "range" = none) (h:DQ X R [a] fq) (hg:Gl X "range" :=by rfl) (hs:starEach [a] X.env = [(false,eval a X.env)]:=by rfl):DI X R tg (.Call (.Name "range" p) [a] [] pos) (mRng1 fq):=by obtain ⟨t,h1,h2⟩:=h;exact ⟨_,pi_range1 hg hm h1 hs,ri_range1 h2⟩
theorem di_range2 (hm:X.mg "range" = none) (h:DQ X R [a,b] fq) (hg:Gl X "range" :=by rfl) (hs:starEach [a,b] X.env = [(false,eval a X.env),(false,eval b X.env)]:=by rfl) (hs2:starEach [b] X.env = [(false,eval b X.env)]:=by rfl):DI X R tg (.Call (.Name "range" p) [a,b] [] pos) (mRng2 fq):=by
 obtain ⟨t,h1,h2⟩:=h;exact ⟨_,pi_range2 hg hm h1 hs hs2,ri_range2 h2⟩
theorem ds_app (i : Nat) {apos cpos : Pos} (h : DE X R e f) (hN : X.N[i]? = some x := by rfl) (hv : Vis X.env.scope x := by first | exact Or.inl rfl | exact Or.inr (Or.inl rfl) | exact Or.inr (Or.inr rfl)) (hd : (x == ("__debug__" : Str)) = false := by decide) (hcd : (x == ("__classdict__" : Str)) = false := by decide)
 (hst:starEach [e] X.env=(false,eval e X.env)::starEach [] X.env:=by rfl) (hbase:attributeBase (.Name x p) "append" X.env (eval (.Name x p) X.env)=eval (.Name x p) X.env:=by rfl)
 (hfew:((backTo cpos (starEach [e] X.env)).all (fun x=> !x.1) && (backToKw cpos (keywordEach [] X.env)).all (fun x=>x.1.isSome) && decide ([e].length+([]:List Keyword).length+(if ([]:List Keyword).isEmpty then 0 else 1)<30))=true:=by rfl)
 (hline:(apos.endLine==cpos.line)=true:=by rfl) (hplain:(backTo cpos (starEach [] X.env)).any (·.1)=false:=by rfl)
 (hs:swapsWith (.Call (.Attribute (.Name x p) "append" apos) [e] [] cpos) none pos.line X.env=pure false:=by rfl) (hsl:R.slot i:=by first | exact True.intro | exact ⟨of_decide_eq_true rfl,of_decide_eq_true rfl⟩):DS X R (.Expr (.Call (.Attribute (.Name x p) "append" apos) [e] [] cpos) pos) (mApp i f):=by
 obtain ⟨t,h1,h2⟩:=h;exact ⟨_,ps_expr (pe_bm PySem.F.plainAttrs_list PySem.F.slot_list_append PySem.F.type_list_append mt_append (pe_var hN hv hd hcd) (pa_cons h1 pa_nil hst) hbase hfew hline hst hplain) hs,rs_app hsl h2⟩
theorem ds_asgT(h:DE X R e f)(hg:DG X R tg fg)(hs:swapsWithSole [tg] e pos.line X.env=pure false:=by rfl)(hw:swappedStores [tg] e X.env=pure none:=by rfl)(h1:(assignEach [tg] X.env).map (·.2) = [assign tg X.env]:=by rfl):DS X R (.Assign [tg] e pos) (mAsgT fg f):=by
 obtain ⟨t,a1,a2⟩:=h;obtain ⟨u,b1,b2⟩:=hg;exact ⟨_,ps_asg a1 b1 hs hw h1,rs_asgT a2 b2⟩
theorem cx_scope1{CX:CXT}{P:Program}{w:World}{K:PySem.W.Frag}{mg:Str->Option Value}{base:Heap}{N:List Str}{qual:Str}{scope:Scope}{f:Addr}{cd:Value}{A:Around}{outer:List Env}{s:Shared}{H:Hp}{E:XK}:(cxOf CX P w K mg base N qual scope f cd A outer s H E).nox.env.scope=scope:=rfl
theorem cx_names1{CX:CXT}{P:Program}{w:World}{K:PySem.W.Frag}{mg:Str->Option Value}{base:Heap}{N:List Str}{qual:Str}{scope:Scope}{f:Addr}{cd:Value}{A:Around}{outer:List Env}{s:Shared}{H:Hp}{E:XK}:(cxOf CX P w K mg base N qual scope f cd A outer s H E).nox.N=N:=rfl
theorem cxC_names{X:Cx}{osc sc:Scope}{N':List Str}{b:CB}:(cxC X osc sc N' b).N=N':=rfl
theorem cxC_scope{X:Cx}{osc sc:Scope}{N':List Str}{b:CB}:(cxC X osc sc N' b).env.scope=relabelS sc osc:=rfl
def GKm(S:Nat->Bool)(g:TG):Prop:=∀v σ H Q Q',g v σ H Q->(∀σ' H',Q σ' H'->σ'.length=σ.length->(∀i:Nat,S i=false->σ'[i]? = σ[i]?)->Q' σ' H')->g v σ H Q'
def GKs(S:Nat->Bool)(g:TGs):Prop:=∀v σ H Q Q',g v σ H Q->(∀σ' H',Q σ' H'->σ'.length=σ.length->(∀i:Nat,S i=false->σ'[i]? = σ[i]?)->Q' σ' H')->g v σ H Q'
theorem GKm.gk{S:Nat->Bool}{t:TG}(h:GKm S t):GK S t:=fun v σ H Q q=>h v σ H Q _ q fun _ _ a b c=>⟨a,b,c⟩
theorem gkm_name{S:Nat->Bool}{i:Nat}(h:S i=true):GKm S (gName i):=fun v σ H Q Q' q k=>k _ _ q (List.length_set ..) fun j hj=>by
 rw [List.getElem?_set_ne];intro e;subst e;rw [h] at hj
 cases hj
theorem gks_nil{S:Nat->Bool}:GKs S gNil:=fun v σ H Q Q' q k=>⟨q.1,k _ _ q.2 rfl fun _ _=>rfl⟩
theorem gks_cons{S:Nat->Bool}{t:TG}{u:TGs}(h:GKm S t)(k:GKs S u):GKs S (gCons t u):=fun v σ H Q Q' q w=>by
 obtain ⟨x,r,e,q⟩:=q;refine ⟨x,r,e,h x σ H _ _ q fun σ' H' q' l1 k1=>k r σ' H' _ _ q' fun σ2 H2 q2 l2 k2=>w σ2 H2 q2 (l2.trans l1) fun i hi=>(k2 i hi).trans (k1 i hi)⟩
theorem gkm_tup{S:Nat->Bool}{u:TGs}{K:PySem.W.Frag}{n:Nat}(k:GKs S u):GKm S (gTup K n u):=fun v σ H Q Q' q w=>by
 obtain ⟨a,xs,e,h1,h2,q⟩:=q;exact ⟨a,xs,e,h1,h2,k xs σ H _ _ q w⟩
def DGk(X:Cx)(R:Rl)(S:Nat->Bool)(e:Expr)(g:PyData->En->Option En):Prop:=∃t,PG X e t/\RG X.K R t g/\GKm S t
def DGks(X:Cx)(R:Rl)(S:Nat->Bool)(es:List Expr)(gs:List (PyData->En->Option En)):Prop:=∃t,PGs X es t/\RGs X.K R t gs/\GKs S t
def DTs(X:Cx)(R:Rl)(ifs:List Expr)(f:En->Option Bool):Prop:=∃tt,PTs X ifs tt/\RT X.K R tt f
theorem dts_nil:DTs X R [] mYes:=⟨_,pts_nil,rt_yes⟩
theorem dgk_name{S:Nat->Bool}(i:Nat)(hN:X.N.Nodup)(hS:S i=true:=by rfl)(hi:X.N[i]? = some x:=by rfl)(hx:Loc X.env.scope x:=by first | exact Or.inl rfl | exact Or.inr rfl)(hf:X.fn x=true\/X.env.scope.names.lookup x=some .local:=by first | exact .inl rfl | exact .inr rfl)(hsl:R.slot i:=by first | exact True.intro | exact ⟨of_decide_eq_true rfl,of_decide_eq_true rfl⟩):DGk X R S (.Name x pos) (gVar i):=⟨_,pg_name hN hi hx hf,rg_name i hsl,gkm_name hS⟩
theorem dgks_nil{S:Nat->Bool}:DGks X R S [] []:=⟨_,pgs_nil,rgs_nil,gks_nil⟩
theorem dgks_cons{S:Nat->Bool}(h:DGk X R S e fg)(k:DGks X R S es gg)(hs:(assignEach (e::es) X.env).map (·.2)=assign e X.env::(assignEach es X.env).map (·.2):=by rfl):DGks X R S (e::es) (fg::gg):=by obtain ⟨t,h1,h2,h5⟩:=h;obtain ⟨u,h3,h4,h6⟩:=k;exact ⟨_,pgs_cons h1 h3 hs,rgs_cons h2 h4,gks_cons h5 h6⟩
theorem dgk_tup{S:Nat->Bool}{k}{n:Nat}(h:DGks X R S es gg)(hl:n=gg.length:=by rfl)(hc:X.calm=true:=by rfl)(hn:(assignEach es X.env).length=n:=by rfl)(hst:(assignEach es X.env).findIdx? (·.1)=none:=by rfl):DGk X R S (.Tuple es k pos) (gTupD gg):=by
 obtain ⟨t,h1,h2,h3⟩:=h;exact ⟨_,pg_tup hc h1 hn hst,rg_tup hl h2,gkm_tup h3⟩
variable {osc sc:Scope} {N':List Str} {ix:List (Option Nat)} {ifs:List Expr} {elt iter:Expr} {fe:En->Option Sl}
theorem de_lc {N : List Str} (ho : X.env.scope = osc) (hN : X.N = N) (ix : List (Option Nat)) (sb : En -> En) (hx : ∀ (HB : Hp) (σ : L2.St) (ρ : En) (H0 H : Hp), R.r HB H0 H σ ρ -> R'.r (fun _ => none) H0 H (subS ix σ) (sb ρ)) (hi : DI X R tg iter fi) (hg : ∀ b : CB, DGk (cxC X osc sc N' b) R' (slotS ix) tg fg) (ht : ∀ b : CB, DTs (cxC X osc sc N' b) R' ifs ft) (he : ∀ b : CB, DE (cxC X osc sc N' b) R' elt fe)
 (hcs:csOk osc sc N N' ix=true:=by decide +kernel) (hc:X.calm=true:=by rfl)
 (hs:∀x,foldedSetIterable iter X.env x=pure x:=by intro _;rfl):DE X R (.ListComp elt [⟨tg,iter,ifs,0⟩] sc pos) (mLC sb fi fg ft fe):=by
 obtain ⟨wi,h1,h2⟩:=hi
 exact ⟨_,pe_lc (g:=fun b=>(hg b).choose) (tt:=fun b=>(ht b).choose) (te:=fun b=>(he b).choose) hc ho hN hcs h1 (fun b=>⟨(hg b).choose_spec.1,(ht b).choose_spec.1,(he b).choose_spec.1⟩) (fun b=>(hg b).choose_spec.2.2.gk) hs,
  re_lc hx h2 (fun b=>(hg b).choose_spec.2.1) (fun b=>(ht b).choose_spec.2) (fun b=>(he b).choose_spec.2)⟩
end
end Dm
namespace Dm
open PySem PySem.Spec L2 Tf
theorem compM_map{α:Type}{f:PyData->Option (Option PyData)}{en:α->PyData}{g:α->PyData}:∀ {xs:List α},(∀x ∈ xs,f (en x)=some (some (g x)))->compM f (xs.map en)=some (xs.map g)
 | [],_=>rfl
 | x::xs,h=>by
  rw [List.map_cons,compM,h x List.mem_cons_self,compM_map (fun y hy=>h y (List.mem_cons_of_mem _ hy))];rfl
def Rts(g:En->Option Out)(ρ:En)(r:Sl):Prop:=∃ρ',g ρ=some (.rt r ρ')
theorem runD_rt{n k:Nat}{g:En->Option Out}{ds:List PyData}{ρ:En}{r:Sl}(hl:ds.length=k)(e:ds.map (fun d=>some (Sl.val d))++List.replicate (n - ds.length) none=ρ)(h:Rts g ρ r):runD n g k ds=some r:=by
 obtain ⟨ρ',h⟩:=h;unfold runD;rw [if_pos hl,e,h];rfl
theorem seq_to{f g:En->Option Out}{ρ ρ':En}{o:Out}(h:f ρ=some (.nx ρ'))(k:g ρ'=some o):mSeq f g ρ=some o:=by
 unfold mSeq;rw [h];exact k
theorem if_to{c:En->Option Bool}{f g:En->Option Out}{ρ:En}{o:Out}{b:Bool}(h:c ρ=some b)(k:(if b then f ρ else g ρ)=some o):mIf c f g ρ=some o:=by
 unfold mIf;rw [h];exact k
theorem asg_to{i:Nat}{f:En->Option Sl}{ρ:En}{r:Sl}(h:f ρ=some r):mAsg i f ρ=some (.nx (ρ.set i (some r))):=by
 unfold mAsg;rw [h];rfl
theorem ret_to{f:En->Option Sl}{ρ:En}{r:Sl}(h:f ρ=some r):mRet f ρ=some (.rt r ρ):=by
 unfold mRet;rw [h];rfl
theorem call_to{F:List PyData->Option Sl}{f:En->Option (List PyData)}{ρ:En}{ds:List PyData}{r:Sl}(h:f ρ=some ds)(k:F ds=some r):mCall F f ρ=some r:=by
 unfold mCall;rw [h];exact k
theorem for_to{fi:En->Option (List PyData)}{fg:PyData->En->Option En}{gb:En->Option Out}{ρ:En}{ds:List PyData}{o:Out}(h:fi ρ=some ds)(k:forM fg gb ds ρ=some o):mFor fi fg gb ρ=some o:=by
 unfold mFor;rw [h];exact k
theorem lc_to{sb:En->En}{fi:En->Option (List PyData)}{fg:PyData->En->Option En}{ft:En->Option Bool}{fe:En->Option Sl}{ρ:En}{ds es:List PyData}(h:fi ρ=some ds)(hl:ds.length<sizeLine)(k:compM (elM fg ft fe (sb ρ)) ds=some es):mLC sb fi fg ft fe ρ=some (.own es):=by
 unfold mLC;rw [h];show (if ds.length<sizeLine then _ else _)=_;rw [if_pos hl,k];rfl
theorem mulS{i j:Int}(h:CMulA i j):dRep (.val (.int i)) (.val (.int j))=some (.val (.int (i*j))):=by
 unfold dRep dMulI iopC;simp only [if_pos h]
theorem divS{i j:Int}(h:CDivB i j):dFdiv (.val (.int i)) (.val (.int j))=some (.val (.int (i.fdiv j))):=by
 unfold dFdiv iopC;simp only [if_pos h]
theorem modS{i j:Int}(h:j≠0):dMod (.val (.int i)) (.val (.int j))=some (.val (.int (i.fmod j))):=by
 unfold dMod iopC;simp only [if_pos h]
theorem rng1_to{f:En->Option (List Sl)}{ρ:En}{j:Nat}(h:f ρ=some [.val (.int j)])(hj:j<=1000):mRng1 f ρ=some (rngD 0 j):=by
 have b:inB (j:Int):=by
  constructor
  . have : -(2 ^ 62:Int)<=0:=by decide
    omega
  . have:(1000:Int)<2 ^ 62:=by decide
    omega
 unfold mRng1;rw [h];show (if inB (j:Int) then some (rngD 0 ((j:Int).toNat)) else none)=_;rw [if_pos b,Int.toNat_natCast]
theorem rng2_to{f:En->Option (List Sl)}{ρ:En}{i j:Nat}(h:f ρ=some [.val (.int i), .val (.int j)])(hi:i<=1000)(hj:j<=1000):mRng2 f ρ=some (rngD i (j - i)):=by
 have b:∀j:Nat,j<=1000->inB (j:Int):=by
  intro j hj
  constructor
  . have : -(2 ^ 62:Int)<=0:=by decide
    omega
  . have:(1000:Int)<2 ^ 62:=by decide
    omega
 unfold mRng2;rw [h];show (if inB (i:Int)/\inB (j:Int) then some (rngD i (((j:Int) - (i:Int)).toNat)) else none)=_;rw [if_pos ⟨b i hi,b j hj⟩,Int.toNat_sub]
theorem eqD_int(i j:Int):eqD (.int i) (.int j)=some (decide (i=j)):=by
 have:PyData.eqv (.int i) (.int j)=decide (i=j):=by simp [PyData.eqv,Bool.beq_eq_decide_eq]
 unfold eqD;rw [if_pos ⟨rfl,rfl,by simp [PyData.depth]⟩,this]
theorem lay_list{α:Type}{en:α->PyData}(h:∀x,(en x).canLay0=true):∀xs:List α,PyData.canLayAll0 (xs.map en)=true
 | []=>rfl
 | x::xs=>by rw [List.map_cons,PyData.canLayAll0,h x,lay_list h xs];rfl
theorem dep_list{α:Type}{en:α->PyData}{k:Nat}(h:∀x,(en x).depth<=k):∀xs:List α,PyData.depthAll (xs.map en)<=k
 | []=>Nat.zero_le _
 | x::xs=>by rw [List.map_cons,PyData.depthAll];exact Nat.max_le.mpr ⟨h x,dep_list h xs⟩
theorem eqD_same{d:PyData}(h:d.canLay0=true)(k:d.depth<=60):eqD d d=some true:=by
 unfold eqD;rw [if_pos ⟨h,h,by omega⟩,SeqAt.eqv_refl d h]
end Dm
namespace Dm
open PySem PySem.Spec PyProof.Rows L2 Tf
section
variable {X:Cx}
theorem bools_of{bs:List Bool}:∀ {us:List Value},Vals (bs.map V.bl) us->LSm.BoolsAre us bs:=by
 induction bs with
 | nil=>intro us r;cases r;exact .nil
 | cons b bs ih=>
  intro us r
  cases r with
  | cons r1 r2=>cases (show _=Value.bool b from r1);exact .cons b (ih r2)
theorem call_all(hc:X.calm=true):CallR X (.builtin "all") (fun xs H Q=>∃(p:Addr) (bs:List Bool),xs = [.ref p]/\SqL X.K H p (bs.map V.bl)/\Q (.bl (bs.all id)) H):=by
 intro pins s σ H xs us Q I r h;obtain ⟨p,bs,rfl,hq,q⟩:=h;obtain ⟨u,rfl,ru⟩:=vals1 r
 cases (show u=Value.ref p from ru)
 obtain ⟨its,rv,pl,hz⟩:=I.list hq;have hb:=bools_of rv;have hl:s.heap.IsList p its.toArray:=pl.isList;have hlt:p<s.heap.objs.size:=by obtain ⟨_,e,_⟩:=hl;exact Heap.lt_size e
 refine call_all_walk (wpAny_pyIter_list hl ?_)
 refine ⟨s.heap.objs.size,[s.heap.objs.size,p],[s.heap.objs.size],its.toArray.size,_,_,fun i=>(bs[i]?).getD true,rfl,Walks.list (A:=X.A.in1) (I.ok.hd hc) _ p (Nat.ne_of_lt hlt) its.toArray,
  ⟨⟨_,Heap.get?_push_size _ rfl,rfl,rfl⟩,hl.push _⟩,fun i v s' Q' E' hP hQ=> ?_,fun h' tk hk=> ?_⟩
 . obtain ⟨b,e,rfl⟩:=hb.get i v (by simpa using hP);simp only [e,Option.getD_some] at hQ
   exact wpAny_truthy_bool hQ
 . have e : ((List.range its.toArray.size).all fun i => (bs[i]?).getD true) = bs.all id := by
    rw [List.size_toArray,hb.length];exact LSm.range_all bs
   rw [e];exact ⟨.bl _,H,I.kept (LSm.kept_iter hk),rfl,q⟩
def boolsOf:List PyData->Option (List Bool)
 | []=>some []
 | .bool i::r=>(boolsOf r).map (i :: ·)
 | _::_=>none
theorem boolsOf_eq:∀ {ds:List PyData} {bs:List Bool},boolsOf ds=some bs->ds=bs.map .bool
 | [],bs,h=>by cases h;rfl
 | .bool i::r,bs,h=>by
  obtain ⟨ms,h1,rfl⟩:=Option.map_eq_some_iff.mp (show (boolsOf r).map (i :: ·)=some bs from h);rw [boolsOf_eq h1];rfl
theorem reps_bools{K:PySem.W.Frag}{H:Hp}:∀ {vs:List V} {bs:List Bool},Reps K H vs (bs.map .bool)->vs=bs.map .bl
 | _,[],h=>by cases h;rfl
 | _,n::r,h=>by
  cases h with
  | cons h t=>cases h;rw [reps_bools t];rfl
def dAll:List Sl->Option Sl
 | [a]=>match a.dat with
  | .list ds=>(boolsOf ds).map fun bs=> .val (.bool (bs.all id))
  | _=>none
 | _=>none
theorem cd_all{K:PySem.W.Frag}:CallD K (fun xs H Q=>∃(p:Addr) (bs:List Bool),xs = [.ref p]/\SqL K H p (bs.map V.bl)/\Q (.bl (bs.all id)) H) dAll:=fun H0 H vs ss z s p hz Q q=>by
 unfold dAll at hz
 split at hz
 . obtain ⟨v,rfl,pa⟩:=paired1 p
   split at hz
   . rename_i ds hd;obtain ⟨bs,hn,rfl⟩:=Option.map_eq_some_iff.mp hz;obtain ⟨a,vs,rfl,h1,h2⟩:=pa.lst s hd;rw [boolsOf_eq hn] at h2
     rw [reps_bools h2] at h1
     exact ⟨a,bs,rfl,h1,q _ _ _ (Ext.refl s) (.bool _)⟩
   . cases hz
 . cases hz
def rInD(K:PySem.W.Frag)(neg:Bool):R2:=fun x y H Q=>∃p xs dx ds,y = .ref p/\(SqL K H p xs\/SqT K H p xs)/\Rep K H x dx/\Reps K H xs ds/\dx.canLay0=true/\(∀d ∈ ds,d.canLay0=true)/\dx.depth<=60/\Q (.bl (if neg then !(ds.any fun d=>PyData.eqv d dx) else ds.any fun d=>PyData.eqv d dx)) H
open Classical in
noncomputable def eqW(h:Heap)(ds:List PyData)(dx:PyData)(u:Value):Bool:=decide (∃d ∈ ds,(∃as,Reads h u d as)/\PyData.eqv d dx=true)
open Classical in
theorem eqW_of{h:Heap}{ds:List PyData}{dx d:PyData}{u:Value}{as:List Addr}(hd:d ∈ ds)(hl:∀d ∈ ds,d.canLay0=true)(r:Reads h u d as):eqW h ds dx u=PyData.eqv d dx:=by
 unfold eqW
 by_cases e:PyData.eqv d dx=true
 . rw [e];exact decide_eq_true ⟨d,hd,⟨as,r⟩,e⟩
 . rw [Bool.eq_false_iff.mpr e];refine decide_eq_false ?_;rintro ⟨d',hd',⟨as',r'⟩,e'⟩;rw [<-SeqAt.Reads.unique d d' u as as' (hl d hd) r r'] at e'
   exact e e'
theorem any_eqW{h:Heap}{dx:PyData}{all:List PyData}(hl:∀d ∈ all,d.canLay0=true):∀ {us:List Value} {ds:List PyData} {as:List Addr},ReadsAll h us ds as->(∀d ∈ ds,d ∈ all)->us.any (eqW h all dx)=ds.any fun d=>PyData.eqv d dx
 | _,_,_, .nil,_=>rfl
 | _,_,_, .cons r t,hs=>by
  rw [List.any_cons,List.any_cons,eqW_of (hs _ List.mem_cons_self) hl r,any_eqW hl t fun d hd=>hs d (List.mem_cons_of_mem _ hd)]
theorem mem_readsAll{h:Heap}:∀ {us:List Value} {ds:List PyData} {as:List Addr},ReadsAll h us ds as->∀u ∈ us,∃d ∈ ds,∃bs,Reads h u d bs
 | _,_,_, .nil,u,hu=>by cases hu
 | _,_,_, .cons r t,u,hu=>by
  rcases List.mem_cons.mp hu with rfl | hu
  . exact ⟨_,List.mem_cons_self,_,r⟩
  . obtain ⟨d,hd,q⟩:=mem_readsAll t u hu;exact ⟨d,List.mem_cons_of_mem _ hd,q⟩
theorem in1_units(A:Around):A.in1.units=A.units+1:=rfl
theorem op_inD(hu:X.A.units+64<cLine):OpR X (compareOp .In) (rInD X.K false):=by
 intro pins s σ H x y v u Q I rx ry h;obtain ⟨p,xs,dx,ds,rfl,hq,hx,hs,lx,ld,dp,q⟩:=h
 cases ry
 obtain ⟨bs,r2⟩:=hx.reads I rx lx;rcases hq with hq | hq
 . obtain ⟨its,r,pl,hz⟩:=I.list hq;obtain ⟨as,ra⟩:=Reps.reads I hs r (layAll_of ld);refine SeqAt.in_listAt (eqW s.heap ds dx) pl.isList (fun w hw=> ?_) ⟨.bl _,H,I,rfl,?_⟩
   . obtain ⟨d,hd,cs,rd⟩:=mem_readsAll ra w (by simpa using hw);rw [eqW_of hd ld rd];exact SeqAt.eqAt_reads d dx _ _ _ _ _ _ rd r2 (ld d hd) lx (by have:=in1_units X.A;omega)
   . rw [show its.toArray.any (eqW s.heap ds dx)=its.any (eqW s.heap ds dx) by simp,any_eqW ld ra fun _ h=>h];exact q
 . obtain ⟨its,r,pl,hz⟩:=I.tuple hq;obtain ⟨as,ra⟩:=Reps.reads I hs r (layAll_of ld);refine SeqAt.in_tupleAt (eqW s.heap ds dx) pl (fun w hw=> ?_) ⟨.bl _,H,I,rfl,?_⟩
   . obtain ⟨d,hd,cs,rd⟩:=mem_readsAll ra w (by simpa using hw);rw [eqW_of hd ld rd];exact SeqAt.eqAt_reads d dx _ _ _ _ _ _ rd r2 (ld d hd) lx (by have:=in1_units X.A;omega)
   . rw [show its.toArray.any (eqW s.heap ds dx)=its.any (eqW s.heap ds dx) by simp,any_eqW ld ra fun _ h=>h];exact q
theorem op_notInD(hu:X.A.units+64<cLine):OpR X (compareOp .NotIn) (rInD X.K true):=by
 intro pins s σ H x y v u Q I rx ry h;obtain ⟨p,xs,dx,ds,rfl,hq,hx,hs,lx,ld,dp,q⟩:=h
 cases ry
 obtain ⟨bs,r2⟩:=hx.reads I rx lx;rcases hq with hq | hq
 . obtain ⟨its,r,pl,hz⟩:=I.list hq;obtain ⟨as,ra⟩:=Reps.reads I hs r (layAll_of ld);refine SeqAt.notIn_listAt (eqW s.heap ds dx) pl.isList (fun w hw=> ?_) ⟨.bl _,H,I,rfl,?_⟩
   . obtain ⟨d,hd,cs,rd⟩:=mem_readsAll ra w (by simpa using hw);rw [eqW_of hd ld rd];exact SeqAt.eqAt_reads d dx _ _ _ _ _ _ rd r2 (ld d hd) lx (by have:=in1_units X.A;omega)
   . rw [show its.toArray.any (eqW s.heap ds dx)=its.any (eqW s.heap ds dx) by simp,any_eqW ld ra fun _ h=>h];exact q
 . obtain ⟨its,r,pl,hz⟩:=I.tuple hq;obtain ⟨as,ra⟩:=Reps.reads I hs r (layAll_of ld);refine SeqAt.notIn_tupleAt (eqW s.heap ds dx) pl (fun w hw=> ?_) ⟨.bl _,H,I,rfl,?_⟩
   . obtain ⟨d,hd,cs,rd⟩:=mem_readsAll ra w (by simpa using hw);rw [eqW_of hd ld rd];exact SeqAt.eqAt_reads d dx _ _ _ _ _ _ rd r2 (ld d hd) lx (by have:=in1_units X.A;omega)
   . rw [show its.toArray.any (eqW s.heap ds dx)=its.any (eqW s.heap ds dx) by simp,any_eqW ld ra fun _ h=>h];exact q
def inD(neg:Bool)(dx:PyData)(ds:List PyData):Option Sl:=if dx.canLay0=true/\(ds.all fun d=>d.canLay0)=true/\dx.depth<=60 then some (.val (.bool (if neg then !(ds.any fun d=>PyData.eqv d dx) else ds.any fun d=>PyData.eqv d dx))) else none
def dInD(neg:Bool)(a b:Sl):Option Sl:=match b.dat with
 | .list ds=>inD neg a.dat ds
 | .tuple ds=>inD neg a.dat ds
 | _=>none
theorem opd_inD{K:PySem.W.Frag}{neg:Bool}:OpD K (rInD K neg) (dInD neg):=fun H0 H x y sx sy z s px py hz Q q=>by
 unfold dInD at hz
 split at hz
 . rename_i ds hd;unfold inD at hz
   split at hz
   . rename_i hc
     cases hz
     obtain ⟨a,vs,rfl,h1,h2⟩:=py.lst s hd;exact ⟨a,vs,_,ds,rfl, .inl h1,px.rep s,Reps.same s h2,hc.1,fun d hd=>List.all_eq_true.mp hc.2.1 d hd,hc.2.2,q _ _ _ (Ext.refl s) (.bool _)⟩
   . cases hz
 . rename_i ds hd;unfold inD at hz
   split at hz
   . rename_i hc
     cases hz
     obtain ⟨a,vs,rfl,h1,h2⟩:=py.tup hd;exact ⟨a,vs,_,ds,rfl, .inr (s.seqT (SqT.of h1)),px.rep s,Reps.same s h2,hc.1,fun d hd=>List.all_eq_true.mp hc.2.1 d hd,hc.2.2,q _ _ _ (Ext.refl s) (.bool _)⟩
   . cases hz
 . cases hz
variable {R:Rl} [RelOk X.K R] {a b e:Expr} {pos p:Pos} {fa fb f:En->Option Sl}
theorem dt_inD(hu:X.A.units+64<cLine)(ha:DP X R a fa)(hb:DP X R b fb)(hm:behindInMarks .In b=false:=by with_unfolding_all rfl):DT X R (.Compare a [.In] [b] pos) (mTest (mBin (dInD false) fa fb)):=dt_cmp (op_inD hu) opd_inD ha hb hm
theorem dt_notinD(hu:X.A.units+64<cLine)(ha:DP X R a fa)(hb:DP X R b fb)(hm:behindInMarks .NotIn b=false:=by with_unfolding_all rfl):DT X R (.Compare a [.NotIn] [b] pos) (mTest (mBin (dInD true) fa fb)):=dt_cmp (op_notInD hu) opd_inD ha hb hm
end
end Dm
namespace Tf
open PySem PySem.Spec PyProof.Rows L2
variable {X:Cx}
end Tf
namespace Dm
open PySem PySem.Spec L2 Tf
def Wp(g:En->Option Out)(ρ:En)(Z:Out->Prop):Prop:=∃o,g ρ=some o/\Z o
def Nx(P:En->Prop):Out->Prop
 | .nx ρ=>P ρ
 | _=>False
def Rt(r:Sl):Out->Prop
 | .rt r' _=>r'=r
 | _=>False
def Lp(N:En->Prop)(Z:Out->Prop):Out->Prop
 | .nx ρ=>N ρ
 | .ct ρ=>N ρ
 | .bk ρ=>Z (.nx ρ)
 | .rt r ρ=>Z (.rt r ρ)
section
variable {f g:En->Option Out} {ρ:En} {Z:Out->Prop}
theorem wp_of{o:Out}(h:g ρ=some o)(z:Z o):Wp g ρ Z:=⟨o,h,z⟩
theorem Wp.imp{Y:Out->Prop}(h:Wp g ρ Y)(k:∀o,Y o->Z o):Wp g ρ Z:=by
 obtain ⟨o,h1,h2⟩:=h;exact ⟨o,h1,k o h2⟩
theorem wp_seqG(h:Wp f ρ (fun o=>match o with | .nx ρ'=>Wp g ρ' Z | o=>Z o)):Wp (mSeq f g) ρ Z:=by
 obtain ⟨o,h1,h2⟩:=h
 cases o with
 | nx ρ' =>
  obtain ⟨o2,h3,h4⟩:=h2
  exact ⟨o2,by unfold mSeq;rw [h1];exact h3,h4⟩
 | rt r ρ'=>exact ⟨_,by unfold mSeq;rw [h1];rfl,h2⟩
 | bk ρ'=>exact ⟨_,by unfold mSeq;rw [h1];rfl,h2⟩
 | ct ρ'=>exact ⟨_,by unfold mSeq;rw [h1];rfl,h2⟩
theorem wp_seq{P:En->Prop}(h:Wp f ρ (Nx P))(k:∀ρ',P ρ'->Wp g ρ' Z):Wp (mSeq f g) ρ Z:=by
 refine wp_seqG (h.imp fun o ho=> ?_)
 cases o with
 | nx ρ'=>exact k ρ' ho
 | _=>exact ho.elim
theorem wp_seqN{ρ':En}(h:f ρ=some (.nx ρ'))(k:Wp g ρ' Z):Wp (mSeq f g) ρ Z:=by
 obtain ⟨o,h1,h2⟩:=k;exact ⟨o,seq_to h h1,h2⟩
variable {i:Nat} {fe:En->Option Sl} {r:Sl} {c:En->Option Bool} {b:Bool}
theorem wp_asg(h:fe ρ=some r)(k:Z (.nx (ρ.set i (some r)))):Wp (mAsg i fe) ρ Z:=⟨_,asg_to h,k⟩
theorem wp_asgS(h:fe ρ=some r)(k:Wp g (ρ.set i (some r)) Z):Wp (mSeq (mAsg i fe) g) ρ Z:=wp_seqN (asg_to h) k
theorem wp_frz(h:Wp g (frz1 i ρ) Z):Wp (mFrz i g) ρ Z:=h
theorem wp_ret(h:fe ρ=some r)(k:Z (.rt r ρ)):Wp (mRet fe) ρ Z:=⟨_,ret_to h,k⟩
theorem wp_if(h:c ρ=some b)(k:Wp (if b then f else g) ρ Z):Wp (mIf c f g) ρ Z:=by
 obtain ⟨o,h1,h2⟩:=k;refine ⟨o,if_to h ?_,h2⟩
 cases b <;> exact h1
theorem wp_ifT(h:c ρ=some true)(k:Wp f ρ Z):Wp (mIf c f g) ρ Z:=wp_if (b:=true) h k
theorem wp_ifF(h:c ρ=some false)(k:Wp g ρ Z):Wp (mIf c f g) ρ Z:=wp_if (b:=false) h k
theorem wp_next(k:Z (.nx ρ)):Wp mNext ρ Z:=⟨_,rfl,k⟩
theorem wp_skip{h:En->Option Out}(hc:c ρ=some false)(k:Wp h ρ Z):Wp (mSeq (mIf c f mNext) h) ρ Z:=wp_seqN (if_to hc rfl) k
variable {fi:En->Option (List PyData)} {fg:PyData->En->Option En} {ds:List PyData}
theorem wp_for(P:Nat->En->Prop)(hi:fi ρ=some ds)(h0:P 0 ρ)(hs:∀(j:Nat) d ρ,ds[j]? = some d->P j ρ->∃ρ1,fg d ρ=some ρ1/\Wp g ρ1 (Lp (P (j+1)) Z))(k:∀ρ',P ds.length ρ'->Z (.nx ρ')):Wp (mFor fi fg g) ρ Z:=by
 have gen:∀(n j:Nat) ρ,j+n=ds.length->P j ρ->∃o,forM fg g (ds.drop j) ρ=some o/\Z o:=by
  intro n
  induction n with
  | zero=>
   intro j ρ hj hp;have:j=ds.length:=by omega
   subst this;rw [List.drop_eq_nil_of_le (Nat.le_refl _)]
   exact ⟨_,rfl,k ρ hp⟩
  | succ n ih=>
   intro j ρ hj hp;have hd:ds[j]? = some ds[j]:=List.getElem?_eq_getElem (by omega);obtain ⟨ρ1,h1,o,h2,h3⟩:=hs j ds[j] ρ hd hp;rw [forM_drop hd,h1];simp only [Option.bind_some,h2]
   cases o with
   | nx ρ2=>exact ih (j+1) ρ2 (by omega) h3
   | ct ρ2=>exact ih (j+1) ρ2 (by omega) h3
   | bk ρ2=>exact ⟨_,rfl,h3⟩
   | rt r ρ2=>exact ⟨_,rfl,h3⟩
 obtain ⟨o,h1,h2⟩:=gen ds.length 0 ρ (by omega) h0;refine ⟨o,for_to hi ?_,h2⟩;simpa using h1
theorem wp_forR(P:Nat->En->Prop){lo:Int}{n:Nat}(hi:fi ρ=some (rngD lo n))(h0:P 0 ρ)(hs:∀(j:Nat) ρ,j<n->P j ρ->∃ρ1,fg (.int (lo+(j:Nat))) ρ=some ρ1/\Wp g ρ1 (Lp (P (j+1)) Z))(k:∀ρ',P n ρ'->Z (.nx ρ')):Wp (mFor fi fg g) ρ Z:=by
 refine wp_for P hi h0 (fun j d ρ hd hp=> ?_) (by simpa [rngD] using k);rw [rngD_get] at hd
 split at hd
 . rename_i hlt
   cases hd
   exact hs j ρ hlt hp
 . cases hd
theorem wp_forR0(P:Nat->En->Prop){n:Nat}(hi:fi ρ=some (rngD 0 n))(h0:P 0 ρ)(hs:∀(j:Nat) ρ,j<n->P j ρ->∃ρ1,fg (.int (j:Nat)) ρ=some ρ1/\Wp g ρ1 (Lp (P (j+1)) Z))(k:∀ρ',P n ρ'->Z (.nx ρ')):Wp (mFor fi fg g) ρ Z:=
 wp_forR P hi h0 (fun j ρ hj hp=>by rw [Int.zero_add];exact hs j ρ hj hp) k
theorem wp_forL{α:Type}{en:α->PyData}{xs:List α}(P:Nat->En->Prop)(hi:fi ρ=some (xs.map en))(h0:P 0 ρ)(hs:∀(j:Nat) x ρ,xs[j]? = some x->P j ρ->∃ρ1,fg (en x) ρ=some ρ1/\Wp g ρ1 (Lp (P (j+1)) Z))(k:∀ρ',P xs.length ρ'->Z (.nx ρ')):Wp (mFor fi fg g) ρ Z:=by
 refine wp_for P hi h0 (fun j d ρ hd hp=> ?_) (by simpa using k);rw [List.getElem?_map] at hd
 obtain ⟨x,hx,rfl⟩:=Option.map_eq_some_iff.mp hd;exact hs j x ρ hx hp
theorem wp_while(P:En->Prop)(μ:En->Nat)(h0:P ρ)(hs:∀ρ,P ρ->(c ρ=some false/\Z (.nx ρ))\/(c ρ=some true/\Wp g ρ (Lp (fun ρ'=>P ρ'/\μ ρ'<μ ρ) Z))):Wp (mWhile c g) ρ Z:=by
 have gen:∀(n:Nat) ρ,μ ρ<n->P ρ->∃o,whileF c g n ρ=some o/\Z o:=by
  intro n
  induction n with
  | zero=>intro ρ h;omega
  | succ n ih=>
   intro ρ hm hp;rcases hs ρ hp with ⟨h,z⟩ | ⟨h,o,h1,h2⟩
   . exact ⟨.nx ρ,by simp [whileF,h],z⟩
   . cases o with
     | nx ρ2=>
      obtain ⟨o,h4,h5⟩:=ih ρ2 (by have:=h2.2;omega) h2.1
      exact ⟨o,by simp [whileF,h,h1,h4],h5⟩
     | ct ρ2=>
      obtain ⟨o,h4,h5⟩:=ih ρ2 (by have:=h2.2;omega) h2.1
      exact ⟨o,by simp [whileF,h,h1,h4],h5⟩
     | bk ρ2=>exact ⟨_,by simp [whileF,h,h1],h2⟩
     | rt r ρ2=>exact ⟨_,by simp [whileF,h,h1],h2⟩
 obtain ⟨o,h1,h2⟩:=gen (μ ρ+1) ρ (by omega) h0;exact ⟨o,mWhile_of h1,h2⟩
theorem run_wp{n k:Nat}{ds:List PyData}(hl:ds.length=k)(e:ds.map (fun d=>some (Sl.val d))++List.replicate (n - ds.length) none=ρ)(h:Wp g ρ (Rt r)):runD n g k ds=some r:=by
 obtain ⟨o,h1,h2⟩:=h
 cases o with
 | rt r' ρ'=>cases h2;exact runD_rt hl e ⟨ρ',h1⟩
 | _=>exact h2.elim
end
theorem and_false{a b:En->Option Bool}{ρ:En}{k:Bool}(h1:a ρ=some k)(h2:b ρ=some false):mAnd a b ρ=some false:=by
 unfold mAnd;rw [h1]
 cases k
 . rfl
 . exact h2
theorem and_to{a b:En->Option Bool}{ρ:En}{k l:Bool}(h1:a ρ=some k)(h2:b ρ=some l):mAnd a b ρ=some (k && l):=by
 unfold mAnd;rw [h1]
 cases k
 . rfl
 . exact h2
theorem or_to{a b:En->Option Bool}{ρ:En}{k l:Bool}(h1:a ρ=some k)(h2:b ρ=some l):mOr a b ρ=some (k || l):=by
 unfold mOr;rw [h1]
 cases k
 . exact h2
 . rfl
theorem not_to{a:En->Option Bool}{ρ:En}{k:Bool}(h1:a ρ=some k):mNot a ρ=some (!k):=by
 unfold mNot;rw [h1];rfl
theorem ne_int{fa fb:En->Option Sl}{ρ:En}{i j:Int}(ha:fa ρ=some (.val (.int i)))(hb:fb ρ=some (.val (.int j))):mTest (mBin dne fa fb) ρ=some (!decide (i=j)):=by
 unfold mTest mBin;rw [ha,Option.bind_some,hb,Option.bind_some];show Option.bind ((eqD (.int i) (.int j)).map _) _=_;rw [eqD_int];rfl
theorem eq_int{fa fb:En->Option Sl}{ρ:En}{i j:Int}(ha:fa ρ=some (.val (.int i)))(hb:fb ρ=some (.val (.int j))):mTest (mBin deq fa fb) ρ=some (decide (i=j)):=by
 unfold mTest mBin;rw [ha,Option.bind_some,hb,Option.bind_some];show Option.bind ((eqD (.int i) (.int j)).map _) _=_;rw [eqD_int];rfl
theorem ne_same{fa fb:En->Option Sl}{ρ:En}{a b:Sl}(ha:fa ρ=some a)(hb:fb ρ=some b)(h:a.dat=b.dat)(h1:b.dat.canLay0=true)(h2:b.dat.depth<=60):mTest (mBin dne fa fb) ρ=some false:=by
 unfold mTest mBin;rw [ha,Option.bind_some,hb,Option.bind_some];show Option.bind ((eqD a.dat b.dat).map _) _=_;rw [h,eqD_same h1 h2];rfl
theorem eq_same{fa fb:En->Option Sl}{ρ:En}{a b:Sl}(ha:fa ρ=some a)(hb:fb ρ=some b)(h:a.dat=b.dat)(h1:b.dat.canLay0=true)(h2:b.dat.depth<=60):mBin deq fa fb ρ=some (.val (.bool true)):=by
 unfold mBin;rw [ha,Option.bind_some,hb,Option.bind_some];show (eqD a.dat b.dat).map _=_;rw [h,eqD_same h1 h2];rfl
def il(l:List Int):List PyData:=l.map .int
def nl(l:List Nat):List PyData:=l.map fun n:Nat=>PyData.int (n:Int)
theorem il_len(l:List Int):(il l).length=l.length:=List.length_map ..
theorem nl_len(l:List Nat):(nl l).length=l.length:=List.length_map ..
theorem nl_app(a b:List Nat):nl (a++b)=nl a++nl b:=List.map_append ..
theorem il_app(a b:List Int):il (a++b)=il a++il b:=List.map_append ..
theorem atI_nat{α:Type}{xs:List α}{j:Nat}{x:α}(h:xs[j]? = some x):atI xs (j:Int)=some x:=by
 obtain ⟨hj,e⟩:=List.getElem?_eq_some_iff.mp h;unfold atI ixN;rw [if_pos (by omega),if_pos (by omega)];simpa using h
theorem dix_nat{s:Sl}{ds:List PyData}{j:Nat}{d:PyData}(hs:s.dat = .list ds\/s.dat = .tuple ds)(h:ds[j]? = some d):dix s (.val (.int (j:Int)))=some (.val d):=by
 unfold dix;rcases hs with hs | hs <;> simp only [hs,atI_nat h,Option.map_some]
end Dm
namespace Tf
open PySem PySem.Spec PyProof.Rows L2
section
variable {X:Cx}
end
section
variable {prog:Program} {w:World} {A:Around} {E:Value->Shared->Prop} {s:Shared} {it:Addr} {F W:List Addr} {G:Array GenState->Array GenState->Prop} {n:Nat} {P:Nat->Value->Prop} {St:Nat->Shared->Prop}
end
section
variable {X:Cx}
def iSeq(K:PySem.W.Frag)(tl:TE):TI:=fun σ H R=>tl σ H fun x H1=>∃a,x = .ref a/\(((∃xs,SqL K H1 a xs)/\R (Itl K a) H1)\/((∃xs,SqT K H1 a xs)/\R (Itt K a) H1))
theorem pi_seq{tg l:Expr}{tl:TE}(hl:PE X l tl):PI X tg l (iSeq X.K tl):=by
 intro pins s σ H R I h;refine thn (hl pins s σ H _ I h) fun v s1 ⟨x,H1,I1,r1,q1⟩ => ?_;obtain ⟨a,e,⟨⟨xs,hq⟩,q⟩ | ⟨⟨xs,hq⟩,q⟩⟩:=q1
 . subst e
   cases r1
   obtain ⟨its,rv,p,hz⟩:=I1.list hq;refine wpAny_pyIter_list p.isList ?_;refine ⟨s1.heap.objs.size,[s1.heap.objs.size],_,_,H1,rfl,I1.kept (t':=s1.toks) fun b o e=>Heap.get?_push_of_some _ e,turn_list a _,⟨_,Heap.get?_push_size _ rfl,rfl,rfl⟩,fun b hb=> ?_,q⟩
   cases List.mem_singleton.mp hb
   exact I1.fpOk (Nat.le_refl _) (I1.hok.fresh (Nat.le_refl _))
 . subst e
   cases r1
   obtain ⟨its,rv,p,hz⟩:=I1.tuple hq;refine wpAny_pyIter_tuple (show s1.heap.IsTuple a its.toArray from p) ?_;refine ⟨s1.heap.objs.size,[s1.heap.objs.size],_,_,H1,rfl,I1.kept (t':=s1.toks) fun b o e=>Heap.get?_push_of_some _ e,turn_tuple a _,⟨_,Heap.get?_push_size _ rfl,rfl,rfl⟩,fun b hb=> ?_,q⟩
   cases List.mem_singleton.mp hb
   exact I1.fpOk (Nat.le_refl _) (I1.hok.fresh (Nat.le_refl _))
end
end Tf
namespace Dm
open PySem PySem.Spec PyProof.Rows L2 Tf
section
variable {K:PySem.W.Frag} {R:Rl} [RelOk K R]
def mItemsS(f:En->Option Sl):En->Option (List PyData):=fun ρ=>(f ρ).bind fun a=>match a.dat with
 | .list ds=>some ds
 | .tuple ds=>some ds
 | _=>none
theorem ri_seq{te:TE}{f:En->Option Sl}(h:RE K R te f):RI K R (iSeq K te) (mItemsS f):=fun HB σ ρ H0 H s e ds hd R q=>by
 obtain ⟨a,ha,hd⟩:=Option.bind_eq_some_iff.mp hd
 split at hd
 . rename_i es he
   cases hd
   refine h.rv HB σ ρ H0 H s e a.dat (by unfold mDat;rw [ha];rfl) _ fun v H1 J1 x1 p1=> ?_;rw [he] at p1
   cases p1 with
   | list h1 h2=>exact ⟨_,rfl, .inl ⟨⟨_,x1.s1.seq h1⟩,q _ _ _ x1 (it_list h1 h2)⟩⟩
 . rename_i es he
   cases hd
   refine h.rv HB σ ρ H0 H s e a.dat (by unfold mDat;rw [ha];rfl) _ fun v H1 J1 x1 p1=> ?_;rw [he] at p1
   cases p1 with
   | tuple h1 h2=>exact ⟨_,rfl, .inr ⟨⟨_,x1.s1.seqT (SqT.of h1)⟩,q _ _ _ x1 (it_tup (SqT.of h1) h2)⟩⟩
 . cases hd
def mExt(i:Nat)(f:En->Option Sl):En->Option Out:=fun ρ=>match (ρ[i]?).join with
 | some (.own ds)=>(f ρ).bind fun r=>match r with
  | .own es=>if ds.length+es.length<=sizeLine then some (.nx (ρ.set i (some (.own (ds++es))))) else none
  | _=>none
 | _=>none
theorem rs_ext{te:TE}{f:En->Option Sl}{i:Nat}(hsl:R.slot i)(h:RE K R te f):RS K R (tDrop (tBM K "list" rExtend (tVar i) (tCons te tNil))) (mExt i f):=fun HB S0 σ ρ H0 H x e o ho D d=>by
 unfold mExt at ho
 split at ho
 . rename_i ds hj;obtain ⟨r,hr,ho⟩:=Option.bind_eq_some_iff.mp ho
   split at ho
   . rename_i es
     split at ho
     . rename_i hl
       cases ho
       obtain ⟨a,vs,hi,hs,g1,g2,g3,g4⟩:=own_of (K:=K) e hsl hj;refine ⟨.ref a,hs, .inl ⟨rfl,vs,SqL.of g3⟩,?_⟩;refine h HB σ ρ H0 H x.s1 e _ hr _ fun v H1 J1 x1 p1=> ?_;obtain ⟨a',vs',rfl,n1,n2,n3,n4⟩:=p1;have l0:=x1.own a _ g3 True.intro g2;refine ⟨a,a',vs,vs',rfl,rfl,x1.s _ _ g3,n3,by rw [g4.length,n4.length];exact hl,?_⟩;exact d σ H1 _ ((x.chain x1).write g1 l0 _) ⟨RelOk.write (K:=K) (e.ext (K:=K) x1).r hsl hi hs g1 l0 (x1.s _ _ g3) (Reps.append (Reps.same x1.s0 g4) n4)⟩
     . cases ho
   . cases ho
 . cases ho
def PinP(K:PySem.W.Frag)(i:Nat)(a:Addr)(ds:List PyData):Rl:=⟨fun HB H0 H σ ρ=>ER K HB H0 H σ ρ/\σ[i]? = some (some (.ref a))/\ρ[i]? = some (some (.own ds)),fun k=>k≠i/\(0:Nat)=0⟩
instance relOk_Pin {i:Nat} {a:Addr} {ds:List PyData}:RelOk K (PinP K i a ds) where
 ext:=fun x e=>⟨ER.ext x e.1,e.2⟩
 get:=fun e _ h=>ER.get e.1 _ _ h
 set:=fun {_ _ _ _ _ _ _ k _ _} e hs x s h=>⟨(relOk_PR (K:=K)).set e.1 trivial x s h,by rw [List.getElem?_set_ne hs.1];exact e.2.1,by rw [List.getElem?_set_ne hs.1];exact e.2.2⟩
 write:=fun e hs h1 h2 h3 h4 h5 h6=>⟨(relOk_PR (K:=K)).write e.1 trivial h1 h2 h3 h4 h5 h6,e.2.1,by rw [List.getElem?_set_ne hs.1];exact e.2.2⟩
 frz:=fun e hs h x=>by
  obtain ⟨H0',h1,h2⟩:=(relOk_PR (K:=K)).frz e.1 trivial h x;exact ⟨H0',h1,h2,e.2.1,by rw [List.getElem?_set_ne hs.1];exact e.2.2⟩
end
section
variable {X:Cx} {R R':Rl} [RelOk X.K R] [RelOk X.K R'] {a b c e:Expr} {pos p p2 pos2:Pos} {f g fa fb fc:En->Option Sl} {fs:En->Option (List PyData)} {fq:En->Option (List Sl)} {tg:Expr} {x:Str}
theorem di_seq(h:DE X R e f):DI X R tg e (mItemsS f):=by
 obtain ⟨t,h1,h2⟩:=h;exact ⟨_,pi_seq h1,ri_seq h2⟩
theorem ds_ext (i : Nat) {apos cpos : Pos} (h : DE X R e f) (hN : X.N[i]? = some x := by rfl) (hv : Vis X.env.scope x := by first | exact Or.inl rfl | exact Or.inr (Or.inl rfl) | exact Or.inr (Or.inr rfl)) (hd : (x == ("__debug__" : Str)) = false := by decide) (hcd : (x == ("__classdict__" : Str)) = false := by decide)
 (hst:starEach [e] X.env=(false,eval e X.env)::starEach [] X.env:=by rfl) (hbase:attributeBase (.Name x p) "extend" X.env (eval (.Name x p) X.env)=eval (.Name x p) X.env:=by rfl)
 (hfew:((backTo cpos (starEach [e] X.env)).all (fun x=> !x.1) && (backToKw cpos (keywordEach [] X.env)).all (fun x=>x.1.isSome) && decide ([e].length+([]:List Keyword).length+(if ([]:List Keyword).isEmpty then 0 else 1)<30))=true:=by rfl)
 (hline:(apos.endLine==cpos.line)=true:=by rfl) (hplain:(backTo cpos (starEach [] X.env)).any (·.1)=false:=by rfl)
 (hs:swapsWith (.Call (.Attribute (.Name x p) "extend" apos) [e] [] cpos) none pos.line X.env=pure false:=by rfl) (hsl:R.slot i:=by first | exact True.intro | exact ⟨of_decide_eq_true rfl,of_decide_eq_true rfl⟩):DS X R (.Expr (.Call (.Attribute (.Name x p) "extend" apos) [e] [] cpos) pos) (mExt i f):=by
 obtain ⟨t,h1,h2⟩:=h;exact ⟨_,ps_expr (pe_bm PySem.F.plainAttrs_list PySem.F.slot_list_extend PySem.F.type_list_extend mt_extend (pe_var hN hv hd hcd) (pa_cons h1 pa_nil hst) hbase hfew hline hst hplain) hs,rs_ext hsl h2⟩
end
theorem ext_to{i:Nat}{f:En->Option Sl}{ρ:En}{ds es:List PyData}(h:f ρ=some (.own es))(ho:(ρ[i]?).join=some (.own ds))(hl:ds.length+es.length<=sizeLine):mExt i f ρ=some (.nx (ρ.set i (some (.own (ds++es))))):=by
 unfold mExt;rw [ho];show Option.bind (f ρ) _=_;rw [h];show (if ds.length+es.length<=sizeLine then _ else _)=_;rw [if_pos hl]
end Dm
namespace Tf
open PySem PySem.Spec PyProof.Rows L2
section
variable {prog:Program} {w:World} {A:Around} {E:Value->Shared->Prop} {s:Shared}
theorem nxt_tup {j t : Addr} {n : Nat} {us} {u : Value} {Q : Value -> Shared -> Prop} (st : s.heap.IsTupleIter j t n) (tu : s.heap.IsTuple t us) (hu : us[n]? = some u)
 (q:∀h',h'.IsTupleIter j t (n+1)->Heap.SameBut j s.heap h'->Q u {s with heap:=h' }):wpAny (model prog w) A (Builtin.SmallTypes.nextOf (.ref j)) Q E s:=by
 obtain ⟨o1,g1,c1,d1⟩:=id st;obtain ⟨o2,g2,_,n2,d2⟩:=tu;unfold Builtin.SmallTypes.nextOf
 refine wpAny_bind (wpAny_callSpecial?_slot (name:=Str.ofString "__next__") st.typeIs PySem.F.slot_tuple_iterator_next
  (wpAny_call_entry PySem.F.slot_tuple_iterator_next st.typeIs PySem.F.entry_tuple_iterator_next ?_ (PySem.F.args_tuple_iterator_next_1 _)))
 show wpAny _ _ (field (.ref j) 0 >>= _) _ _ s;refine wpAny_bind (wpAny_field g1 d1 (x:= .ref t) rfl ?_);show wpAny _ _ (if (Value.ref t==Value.none)=true then _ else _) _ _ s;rw [if_neg (show ¬((Value.ref t==Value.none)=true) from Bool.false_ne_true)];show wpAny _ _ (field (.ref j) 1 >>= _) _ _ s;refine wpAny_bind (wpAny_field g1 d1 (x:= .int n 0) rfl ?_);show wpAny _ _ (seqItems? (.ref t) >>= _) _ _ s;refine wpAny_bind (wpAny_seqItems g2 d2 ?_);simp only [Int.toNat_natCast,hu];refine wpAny_bind (wpAny_setField g1 d1 (by simp) (wpAny_pure ⟨u,rfl,wpAny_pure (q _ ?_ (Heap.SameBut.update ..))⟩));exact ⟨_,Heap.get?_update_self _ g1 (Obj.isFreed_of_fields (Obj.data_mapFields d1 _)),(Obj.cls_mapFields ..).trans c1,by rw [Obj.data_mapFields d1];simp [rawInt]⟩
theorem nxt_tupEnd {j t : Addr} {n : Nat} {us} {Q : Value -> Shared -> Prop} (hh : A.handled = none) (st : s.heap.IsTupleIter j t n) (tu : s.heap.IsTuple t us) (hu : us[n]? = none)
 (q:∀h' e,Heap.ExtBut j s.heap h'->(∃o,h'.get? e=some o/\o.cls = .type "StopIteration")->E (.ref e) {s with heap:=h' }):wpAny (model prog w) A (Builtin.SmallTypes.nextOf (.ref j)) Q E s:=by
 obtain ⟨o1,g1,c1,d1⟩:=id st;obtain ⟨o2,g2,_,n2,d2⟩:=tu;unfold Builtin.SmallTypes.nextOf
 refine wpAny_bind (wpAny_callSpecial?_slot (name:=Str.ofString "__next__") st.typeIs PySem.F.slot_tuple_iterator_next
  (wpAny_call_entry PySem.F.slot_tuple_iterator_next st.typeIs PySem.F.entry_tuple_iterator_next ?_ (PySem.F.args_tuple_iterator_next_1 _)))
 show wpAny _ _ (field (.ref j) 0 >>= _) _ _ s;refine wpAny_bind (wpAny_field g1 d1 (x:= .ref t) rfl ?_);show wpAny _ _ (if (Value.ref t==Value.none)=true then _ else _) _ _ s;rw [if_neg (show ¬((Value.ref t==Value.none)=true) from Bool.false_ne_true)];show wpAny _ _ (field (.ref j) 1 >>= _) _ _ s;refine wpAny_bind (wpAny_field g1 d1 (x:= .int n 0) rfl ?_);show wpAny _ _ (seqItems? (.ref t) >>= _) _ _ s;refine wpAny_bind (wpAny_seqItems g2 d2 ?_);simp only [Int.toNat_natCast,hu];refine wpAny_bind (wpAny_rule (wpAny_bind (wpAny_setField g1 d1 (by simp) ?_)));show wpAny _ _ (newExc (.type "StopIteration") [] >>= _) _ _ _;refine wpAny_bind ?_;simp only [newExc,newTuple];refine wpAny_bind (wpAny_newObj_type ?_ (by size_fits));refine wpAny_bind (m:=firstArgMember _ _) (wpAny_of_eq (a:=Value.none) (by first | rfl | (simp only [firstArgMember];rfl)) ?_);refine wpAny_newObj_type ?_ (by size_fits);simp only [raiseNew];refine wpAny_bind (wpAny_handled ?_)
 first | rw [show A.in1.handled=none from hh] | rw [hh]
 refine wpAny_bind (wpAny_pure (wpAny_throw ?_));exact q _ _ (((Heap.SameBut.update ..).extBut.push _).push _) ⟨_,Heap.get?_push_size _ rfl,rfl⟩
theorem tupIter_ext{h h':Heap}{j t b:Addr}{n:Nat}(st:h.IsTupleIter j t n)(k:∀c o,c≠b->h.get? c=some o->h'.get? c=some o)(hb:j≠b):h'.IsTupleIter j t n:=st.at fun o e=>k j o hb e
theorem tup_ext{h h':Heap}{t b:Addr}{us}(st:h.IsTuple t us)(k:∀c o,c≠b->h.get? c=some o->h'.get? c=some o)(hb:t≠b):h'.IsTuple t us:=by
 obtain ⟨o,e,r⟩:=st;exact ⟨o,k t o hb e,r⟩
theorem zipT_item {z TI TO j1 j2 t1 t2 : Addr} {n1 n2 : Nat} {xs ys : Array Value} {x y a b : Value} {Q : Value -> Shared -> Prop} (D : ZipApart z TI TO j1 j2 t1 t2)
 (hz:IsZip s.heap z TI TO .none) (hI:IsPair s.heap TI (.ref j1) (.ref j2)) (hO:IsPair s.heap TO a b)
 (s1:s.heap.IsTupleIter j1 t1 n1) (s2:s.heap.IsTupleIter j2 t2 n2) (l1:s.heap.IsTuple t1 xs) (l2:s.heap.IsTuple t2 ys) (hx:xs[n1]? = some x) (hy:ys[n2]? = some y)
 (q:∀h',IsZip h' z TI TO (rawInt s.heap.objs.size)->IsPair h' TO x y->h'.IsTupleIter j1 t1 (n1+1)->h'.IsTupleIter j2 t2 (n2+1)->IsPair h' s.heap.objs.size x y->h'.objs.size=s.heap.objs.size+1 ->
  (∀c o,c≠z->c≠TO->c≠j1->c≠j2->s.heap.get? c=some o->h'.get? c=some o)->Q (.ref s.heap.objs.size) {s with heap:=h' }) :
 wpAny (model prog w) A (Builtin.«zip.__next__» ⟨[.ref z], []⟩) (fun fin s' => ∃ v, fin = .done (.ret v) /\ Q v s') E s := by
 show wpAny _ _ (field (.ref z) 2 >>= _) _ _ _;refine wpAny_bind (wpAny_field hz rfl (x:= .bool false) rfl ?_);show wpAny _ _ (field (.ref z) 3 >>= _) _ _ _;refine wpAny_bind (wpAny_field hz rfl (x:= .ref TI) rfl ?_);refine wpAny_bind (wpAny_seqItems hI rfl ?_);show wpAny _ _ (Builtin.SmallTypes.ownedTupleIsFree (.ref z) >>= _) _ _ _;refine wpAny_bind ?_;unfold Builtin.SmallTypes.ownedTupleIsFree;refine wpAny_bind (wpAny_field hz rfl (x:= .none) rfl (wpAny_pure ?_));simp only [if_true];refine wpAny_bind (wpAny_rule ?_);refine wpAny_bind (wpAny_field hz rfl (x:= .ref TO) rfl ?_);refine wpAny_bind (wpAny_setField_rec hz (by simp) fun H1 z1 k1=> ?_)
 replace z1:IsZip H1 z TI TO .ellipsis:=z1
 refine wpAny_bind ?_;simp only [List.zipIdx_cons,List.zipIdx_nil,List.forIn_cons,List.forIn_nil];refine wpAny_bind (wpAny_bind (wpAny_onRaise ?_));show wpAny _ _ (Builtin.SmallTypes.nextOf (.ref j1) >>= _) _ _ _;refine wpAny_bind (nxt_tup (tupIter_ext s1 k1.extBut D.i1z) (tup_ext l1 k1.extBut D.l1z) hx fun H2 i2 k2=>wpAny_pure ?_);have O2:IsPair H2 TO a b:=k2.extBut _ _ D.TOi1 (k1.extBut _ _ D.TOz hO);refine wpAny_bind (wpAny_seqItems O2 rfl ?_);refine wpAny_bind (wpAny_updateSeq_pair O2 fun H3 O3 k3=> ?_)
 replace O3:IsPair H3 TO x b:=O3
 refine wpAny_bind (wpAny_letGo (wpAny_pure ?_));refine wpAny_bind (wpAny_bind (wpAny_onRaise ?_));show wpAny _ _ (Builtin.SmallTypes.nextOf (.ref j2) >>= _) _ _ _;refine wpAny_bind (nxt_tup (tupIter_ext (tupIter_ext (tupIter_ext s2 k1.extBut D.i2z) k2.extBut D.i12.symm) k3.extBut D.TOi2.symm) (tup_ext (tup_ext (tup_ext l2 k1.extBut D.l2z) k2.extBut D.l2i1) k3.extBut D.l2TO) hy fun H4 i4 k4=>wpAny_pure ?_);have O4:IsPair H4 TO x b:=k4.extBut _ _ D.TOi2 O3;refine wpAny_bind (wpAny_seqItems O4 rfl ?_);refine wpAny_bind (wpAny_updateSeq_pair O4 fun H5 O5 k5=> ?_)
 replace O5:IsPair H5 TO x y:=O5
 refine wpAny_bind (wpAny_letGo (wpAny_pure (wpAny_pure ?_)));refine wpAny_bind (wpAny_seqItems O5 rfl ?_);refine wpAny_bind (wpAny_newTuple ?_);have sz:H5.objs.size=s.heap.objs.size:=by rw [k5.1,k4.1,k3.1,k2.1,k1.1]
 have z5:IsZip H5 z TI TO .ellipsis:=k5.extBut _ _ D.TOz.symm (k4.extBut _ _ D.i2z.symm (k3.extBut _ _ D.TOz.symm (k2.extBut _ _ D.i1z.symm z1)))
 have keep:∀c o,c≠z->c≠TO->c≠j1->c≠j2->s.heap.get? c=some o->H5.get? c=some o:=fun c o c1 c2 c3 c4 e=>
  k5.extBut _ _ c2 (k4.extBut _ _ c4 (k3.extBut _ _ c2 (k2.extBut _ _ c3 (k1.extBut _ _ c1 e))))
 have i5:H5.IsTupleIter j1 t1 (n1+1):=tupIter_ext (tupIter_ext (tupIter_ext i2 k3.extBut D.TOi1.symm) k4.extBut D.i12) k5.extBut D.TOi1.symm;have i5':H5.IsTupleIter j2 t2 (n2+1):=tupIter_ext i4 k5.extBut D.TOi2.symm;have zlt:z<H5.objs.size:=Heap.lt_size z5;show wpAny _ _ (Builtin.SmallTypes.ownedTupleHandOut (.ref z) (.ref H5.objs.size) >>= _) _ _ _;refine wpAny_bind ?_;unfold Builtin.SmallTypes.ownedTupleHandOut;have z6:IsZip (H5.push {cls:= .type "tuple",data:= .seq #[x,y]}) z TI TO .ellipsis:=Heap.get?_push_of_some _ z5;refine wpAny_bind (wpAny_setField_rec z6 (by simp) fun H7 z7 k7=> ?_)
 replace z7:IsZip H7 z TI TO (rawInt H5.objs.size):=z7
 refine wpAny_setField_rec z7 (by simp) fun H8 z8 k8=> ?_
 replace z8:IsZip H8 z TI TO (rawInt H5.objs.size):=z8
 have up:∀c o,c≠z->H5.get? c=some o->H8.get? c=some o:=fun c o c1 e=>k8.extBut _ _ c1 (k7.extBut _ _ c1 (Heap.get?_push_of_some _ e));have T8:IsPair H8 H5.objs.size x y:=k8.extBut _ _ (Nat.ne_of_gt zlt) (k7.extBut _ _ (Nat.ne_of_gt zlt) (Heap.get?_push_size _ rfl));have n8:H8.objs.size=H5.objs.size+1:=by rw [k8.1,k7.1,Heap.size_push]
 rw [sz] at z8 T8 n8
 refine wpAny_pure ⟨_,rfl,?_⟩;show Q (.ref H5.objs.size) _;rw [sz];exact q H8 z8 (up _ _ D.TOz O5) (i5.at fun o e=>up _ o D.i1z e) (i5'.at fun o e=>up _ o D.i2z e) T8 n8 fun c o c1 c2 c3 c4 e=>up c o c1 (keep c o c1 c2 c3 c4 e)
theorem zipT_end {z TI TO j1 j2 t1 t2 : Addr} {n1 n2 : Nat} {xs ys : Array Value} {a b : Value} {Q : Fin -> Shared -> Prop} (hh : A.handled = none) (D : ZipApart z TI TO j1 j2 t1 t2)
 (hz:IsZip s.heap z TI TO .none) (hI:IsPair s.heap TI (.ref j1) (.ref j2)) (hO:IsPair s.heap TO a b)
 (s1:s.heap.IsTupleIter j1 t1 n1) (s2:s.heap.IsTupleIter j2 t2 n2) (l1:s.heap.IsTuple t1 xs) (l2:s.heap.IsTuple t2 ys) (fin:xs[n1]? = none\/ys[n2]? = none)
 (q:∀h' e,(∀c o,c≠z->c≠TO->c≠j1->c≠j2->s.heap.get? c=some o->h'.get? c=some o)->(∃o,h'.get? e=some o/\o.cls = .type "StopIteration")->E (.ref e) {s with heap:=h' }) :
 wpAny (model prog w) A (Builtin.«zip.__next__» ⟨[.ref z], []⟩) Q E s := by
 show wpAny _ _ (field (.ref z) 2 >>= _) _ _ _;refine wpAny_bind (wpAny_field hz rfl (x:= .bool false) rfl ?_);show wpAny _ _ (field (.ref z) 3 >>= _) _ _ _;refine wpAny_bind (wpAny_field hz rfl (x:= .ref TI) rfl ?_);refine wpAny_bind (wpAny_seqItems hI rfl ?_);show wpAny _ _ (Builtin.SmallTypes.ownedTupleIsFree (.ref z) >>= _) _ _ _;refine wpAny_bind ?_;unfold Builtin.SmallTypes.ownedTupleIsFree;refine wpAny_bind (wpAny_field hz rfl (x:= .none) rfl (wpAny_pure ?_));simp only [if_true];refine wpAny_bind (wpAny_rule ?_);refine wpAny_bind (wpAny_field hz rfl (x:= .ref TO) rfl ?_);refine wpAny_bind (wpAny_setField_rec hz (by simp) fun H1 z1 k1=> ?_)
 replace z1:IsZip H1 z TI TO .ellipsis:=z1
 refine wpAny_bind ?_;simp only [List.zipIdx_cons,List.zipIdx_nil,List.forIn_cons,List.forIn_nil];refine wpAny_bind (wpAny_bind (wpAny_onRaise ?_));show wpAny _ _ (Builtin.SmallTypes.nextOf (.ref j1) >>= _) _ _ _
 cases hx:xs[n1]? with
 | none=>
  refine wpAny_bind (nxt_tupEnd hh (tupIter_ext s1 k1.extBut D.i1z) (tup_ext l1 k1.extBut D.l1z) hx fun H2 e k2 st=> ?_);obtain ⟨oe,ge,ce⟩:=st;have z2:IsZip H2 z TI TO .ellipsis:=k2 _ _ D.i1z.symm z1;have ez:e≠z:=fun x=>by subst x;rw [z2] at ge;cases ge;simp at ce
  refine wpAny_setField_rec z2 (by simp) fun H3 _ k3=>q H3 e (fun c o c1 _ c3 _ x=>k3.extBut _ _ c1 (k2 _ _ c3 (k1.extBut _ _ c1 x))) ⟨oe,k3.extBut _ _ ez ge,ce⟩
 | some x=>
  have hy:ys[n2]? = none:=by rcases fin with h | h;rw [hx] at h;cases h;exact h
  refine wpAny_bind (nxt_tup (tupIter_ext s1 k1.extBut D.i1z) (tup_ext l1 k1.extBut D.l1z) hx fun H2 i2 k2=>wpAny_pure ?_);have O2:IsPair H2 TO a b:=k2.extBut _ _ D.TOi1 (k1.extBut _ _ D.TOz hO);refine wpAny_bind (wpAny_seqItems O2 rfl ?_);refine wpAny_bind (wpAny_updateSeq_pair O2 fun H3 O3 k3=> ?_);refine wpAny_bind (wpAny_letGo (wpAny_pure ?_));refine wpAny_bind (wpAny_bind (wpAny_onRaise ?_));show wpAny _ _ (Builtin.SmallTypes.nextOf (.ref j2) >>= _) _ _ _;refine wpAny_bind (nxt_tupEnd hh (tupIter_ext (tupIter_ext (tupIter_ext s2 k1.extBut D.i2z) k2.extBut D.i12.symm) k3.extBut D.TOi2.symm) (tup_ext (tup_ext (tup_ext l2 k1.extBut D.l2z) k2.extBut D.l2i1) k3.extBut D.l2TO) hy fun H4 e k4 st=> ?_);obtain ⟨oe,ge,ce⟩:=st;have z4:IsZip H4 z TI TO .ellipsis:=k4 _ _ D.i2z.symm (k3.extBut _ _ D.TOz.symm (k2.extBut _ _ D.i1z.symm z1));have ez:e≠z:=fun x=>by subst x;rw [z4] at ge;cases ge;simp at ce
  refine wpAny_setField_rec z4 (by simp) fun H5 _ k5=>q H5 e (fun c o c1 c2 c3 c4 x=>k5.extBut _ _ c1 (k4 _ _ c4 (k3.extBut _ _ c2 (k2.extBut _ _ c3 (k1.extBut _ _ c1 x))))) ⟨oe,k5.extBut _ _ ez ge,ce⟩
theorem nextT_item {z TI TO j1 j2 t1 t2 : Addr} {n1 n2 : Nat} {xs ys : Array Value} {x y a b : Value} {Q : Option Value -> Shared -> Prop} (D : ZipApart z TI TO j1 j2 t1 t2)
 (hz:IsZip s.heap z TI TO .none) (hI:IsPair s.heap TI (.ref j1) (.ref j2)) (hO:IsPair s.heap TO a b)
 (s1:s.heap.IsTupleIter j1 t1 n1) (s2:s.heap.IsTupleIter j2 t2 n2) (l1:s.heap.IsTuple t1 xs) (l2:s.heap.IsTuple t2 ys) (hx:xs[n1]? = some x) (hy:ys[n2]? = some y)
 (q:∀h',IsZip h' z TI TO (rawInt s.heap.objs.size)->IsPair h' TO x y->h'.IsTupleIter j1 t1 (n1+1)->h'.IsTupleIter j2 t2 (n2+1)->IsPair h' s.heap.objs.size x y->h'.objs.size=s.heap.objs.size+1 ->
  (∀c o,c≠z->c≠TO->c≠j1->c≠j2->s.heap.get? c=some o->h'.get? c=some o)->Q (some (.ref s.heap.objs.size)) {s with heap:=h' }) :
 wpAny (model prog w) A (pyNext (.ref z)) Q E s:=by
 have ty:s.TypeIs (.ref z) "zip" :=⟨_,hz,rfl⟩;unfold pyNext
 exact wpAny_bind (wpAny_attempt (wpAny_callSpecial?_slot (name:=Str.ofString "__next__") ty PySem.F.slot_zip_next
  (wpAny_call_entry PySem.F.slot_zip_next ty PySem.F.entry_zip_next
   (zipT_item D hz hI hO s1 s2 l1 l2 hx hy fun h' a1 a2 a3 a4 a5 a6 a7=>wpAny_pure (q h' a1 a2 a3 a4 a5 a6 a7)) (PySem.F.args_zip_next_1 _))))
theorem nextT_end {z TI TO j1 j2 t1 t2 : Addr} {n1 n2 : Nat} {xs ys : Array Value} {a b : Value} {Q : Option Value -> Shared -> Prop} (hh : A.handled = none) (D : ZipApart z TI TO j1 j2 t1 t2)
 (hz:IsZip s.heap z TI TO .none) (hI:IsPair s.heap TI (.ref j1) (.ref j2)) (hO:IsPair s.heap TO a b)
 (s1:s.heap.IsTupleIter j1 t1 n1) (s2:s.heap.IsTupleIter j2 t2 n2) (l1:s.heap.IsTuple t1 xs) (l2:s.heap.IsTuple t2 ys) (fin:xs[n1]? = none\/ys[n2]? = none)
 (q:∀h',(∀c o,c≠z->c≠TO->c≠j1->c≠j2->s.heap.get? c=some o->h'.get? c=some o)->Q none {s with heap:=h' }):wpAny (model prog w) A (pyNext (.ref z)) Q E s:=by
 have ty:s.TypeIs (.ref z) "zip" :=⟨_,hz,rfl⟩;unfold pyNext
 refine wpAny_bind (wpAny_attempt (wpAny_callSpecial?_slot (name:=Str.ofString "__next__") ty PySem.F.slot_zip_next
  (wpAny_call_entry PySem.F.slot_zip_next ty PySem.F.entry_zip_next (zipT_end hh D hz hI hO s1 s2 l1 l2 fin fun h' e k st=> ?_) (PySem.F.args_zip_next_1 _))))
 obtain ⟨o,g,c⟩:=st;refine wpAny_bind (wpAny_isInstance (T:= "StopIteration") (b:=true) ⟨o,g,c⟩ isSubtype_stop ?_);exact wpAny_pure (q _ k)
end
abbrev zt1 (h:Heap) (a:Addr):Heap:=h.push {cls:= .type "tuple_iterator",data:= .fields #[.ref a, .int 0 0]}
abbrev zt2 (h:Heap) (a b:Addr):Heap:=(zt1 h a).push {cls:= .type "tuple_iterator",data:= .fields #[.ref b, .int 0 0]}
abbrev zt3 (h:Heap) (a b:Addr):Heap:=(zt2 h a b).push {cls:= .type "tuple",data:= .seq #[.ref h.objs.size, .ref (zt1 h a).objs.size]}
abbrev zt4 (h:Heap) (a b:Addr):Heap:=(zt3 h a b).push {cls:= .type "tuple",data:= .seq #[.none, .none]}
abbrev zt5 (h:Heap) (a b:Addr):Heap:=(zt4 h a b).push {cls:= .type "zip",data:= .fields #[.none, .bool false, .bool false, .ref (zt2 h a b).objs.size, .ref (zt3 h a b).objs.size]}
theorem tuple_push{h:Heap}{t:Addr}{us}{o:Obj}(x:h.IsTuple t us):(h.push o).IsTuple t us:=by
 obtain ⟨o',e,r⟩:=x;exact ⟨o',Heap.get?_push_of_some _ e,r⟩
theorem meetsT_new (a b : Addr) (xs ys : Array Value) :
 Meets (Builtin.«zip.__new__» ⟨[.type "zip", .ref a, .ref b], []⟩) (fun _ R s => s.heap.IsTuple a xs /\ s.heap.IsTuple b ys /\ R (.ok (.ret (.ref (zt4 s.heap a b).objs.size))) { s with heap := zt5 s.heap a b }) :=
 .of_wp fun prog w A R s h=>by
  obtain ⟨hp,g,d,tk,os⟩:=s;obtain ⟨x1,x2,h⟩:=h;have hsub:=sub_zip;have y1:Heap.IsTuple (Shared.heap ⟨hp,g,d,tk,os⟩) a xs:=x1;have y2:Heap.IsTuple (Shared.heap ⟨hp.push {cls:= .type "tuple_iterator",data:= .fields #[.ref a, .int 0 0]},g,d,tk,os⟩) b ys:=tuple_push x2
  wp_walk using wpAny_pyIter_tuple y1,wpAny_pyIter_tuple y2
  exact ⟨_,rfl,h⟩
section
variable {prog:Program} {w:World} {A:Around} {E:Value->Shared->Prop} {s:Shared}
theorem call_zipT {a b : Addr} {xs ys : Array Value} {Q : Value -> Shared -> Prop} (x1 : s.heap.IsTuple a xs) (x2 : s.heap.IsTuple b ys)
 (q:∀h',IsZip h' (s.heap.objs.size+4) (s.heap.objs.size+2) (s.heap.objs.size+3) .none->IsPair h' (s.heap.objs.size+2) (.ref s.heap.objs.size) (.ref (s.heap.objs.size+1)) ->
  IsPair h' (s.heap.objs.size+3) .none .none->h'.IsTupleIter s.heap.objs.size a 0->h'.IsTupleIter (s.heap.objs.size+1) b 0->(∀c o,s.heap.get? c=some o->h'.get? c=some o)->Q (.ref (s.heap.objs.size+4)) {s with heap:=h' }) :
 wpAny (model prog w) A (call (.type "zip") [.ref a, .ref b]) Q E s:=by
 refine callType_new PySem.F.called_zip (by decide) (PySem.F.typeCall_zip_2 _ _) (PySem.F.newCall_zip_2 _ _) (fun obj=>PySem.F.args_object_init_3 obj _ _) PySem.F.entry_zip_new (meetsT_new a b xs ys) ⟨x1,x2,?_⟩;have e1:(zt1 s.heap a).objs.size=s.heap.objs.size+1:=Heap.size_push ..;have e2:(zt2 s.heap a b).objs.size=s.heap.objs.size+2:=by rw [Heap.size_push,e1]
 have e3:(zt3 s.heap a b).objs.size=s.heap.objs.size+3:=by rw [Heap.size_push,e2]
 have e4:(zt4 s.heap a b).objs.size=s.heap.objs.size+4:=by rw [Heap.size_push,e3]
 have g5:(zt5 s.heap a b).get? (zt4 s.heap a b).objs.size=some _:=Heap.get?_push_size _ rfl;have g4:(zt5 s.heap a b).get? (zt3 s.heap a b).objs.size=some _:=Heap.get?_push_of_some _ (Heap.get?_push_size _ rfl);have g3:(zt5 s.heap a b).get? (zt2 s.heap a b).objs.size=some _:=Heap.get?_push_of_some _ (Heap.get?_push_of_some _ (Heap.get?_push_size _ rfl));have g2:(zt5 s.heap a b).get? (zt1 s.heap a).objs.size=some _:=Heap.get?_push_of_some _ (Heap.get?_push_of_some _ (Heap.get?_push_of_some _ (Heap.get?_push_size _ rfl)));have g1:(zt5 s.heap a b).get? s.heap.objs.size=some _:=Heap.get?_push_of_some _ (Heap.get?_push_of_some _ (Heap.get?_push_of_some _ (Heap.get?_push_of_some _ (Heap.get?_push_size _ rfl))));show _/\_;rw [e2,e3,e4] at g5
 rw [e1,e2] at g3
 rw [e3] at g4
 rw [e1] at g2
 rw [e4];refine ⟨⟨_,g5,rfl⟩,q _ g5 g3 g4 ⟨_,g1,rfl,rfl⟩ ⟨_,g2,rfl,rfl⟩ fun c o e=> ?_⟩;exact Heap.get?_push_of_some _ (Heap.get?_push_of_some _ (Heap.get?_push_of_some _ (Heap.get?_push_of_some _ (Heap.get?_push_of_some _ e))))
end
def Ity(K:PySem.W.Frag)(a b:Addr):It:=
 ⟨fun i H=>∃xs ys x y,SqT K H a xs/\SqT K H b ys/\xs[i]? = some x/\ys[i]? = some y,
  fun i H v H'=>∃p x y,H p=none/\v = .ref p/\H'=upd H p (.tup [x,y])/\(∀xs,SqT K H a xs->xs[i]? = some x)/\(∀ys,SqT K H b ys->ys[i]? = some y),
  fun i H=>∃xs ys,SqT K H a xs/\SqT K H b ys/\(xs.length<=i\/ys.length<=i)⟩
def tnZipT(z TI TO i1 i2 l1 l2:Addr)(i:Nat)(h:Heap):Prop:=IsZip h z TI TO .none/\IsPair h TI (.ref i1) (.ref i2)/\(∃a b,IsPair h TO a b)/\h.IsTupleIter i1 l1 i/\h.IsTupleIter i2 l2 i
theorem turn_zipT {P : Program} {w : World} {K : PySem.W.Frag} {elts : List Expr} {k : Nat} {pos : Pos} {z TI TO i1 i2 l1 l2 : Addr} (D : ZipApart z TI TO i1 i2 l1 l2) :
 Turn P w K (.Tuple elts k pos) (Ity K l1 l2) [z,TI,TO,i1,i2] z (tnZipT z TI TO i1 i2 l1 l2) where
 mem:=by simp
 obj:=fun i h st b hb=>by
  obtain ⟨h1,h2,⟨a,c,h3⟩,⟨o4,h4,_,d4⟩,⟨o5,h5,_,d5⟩⟩:=st;simp only [List.mem_cons,List.not_mem_nil,or_false] at hb
  rcases hb with rfl | rfl | rfl | rfl | rfl
  . exact ⟨_,h1,fun v e=>(nomatch e)⟩
  . exact ⟨_,h2,fun v e=>(nomatch e)⟩
  . exact ⟨_,h3,fun v e=>(nomatch e)⟩
  . exact ⟨_,h4,fun v e=>by rw [d4] at e;cases e⟩
  . exact ⟨_,h5,fun v e=>by rw [d5] at e;cases e⟩
 keep:=fun i h h' st kk=>by
  obtain ⟨h1,h2,⟨a,c,h3⟩,h4,h5⟩:=st;exact ⟨kk z (by simp) _ h1,kk TI (by simp) _ h2,⟨a,c,kk TO (by simp) _ h3⟩,h4.at fun o e=>kk i1 (by simp) o e,h5.at fun o e=>kk i2 (by simp) o e⟩
 item:=by
  intro X hP hw hK hc i pins s σ H E I hf st hg;subst hP hw hK;obtain ⟨h1,h2,⟨a,c,h3⟩,h4,h5⟩:=st;obtain ⟨xs,ys,x,y,q1,q2,hx,hy⟩:=hg;obtain ⟨its,rv,p,hz⟩:=I.tuple q1;obtain ⟨jts,rw',p',hz'⟩:=I.tuple q2;obtain ⟨u,hu,ru⟩:=rv.get hx;obtain ⟨u',hu',ru'⟩:=rw'.get hy;have ltS:∀ {h:Heap} {b:Addr} {o:Obj},h.get? b=some o -> @LT.lt Nat _ b h.objs.size:=fun e=>Heap.lt_size e;refine nextT_item D h1 h2 h3 h4 h5 p p' (x:=u) (y:=u') (by simpa using hu) (by simpa using hu') fun h' a1 a2 a3 a4 a5 a6 hk=> ?_;refine ⟨_,rfl,wpAny_letOwnedTupleGo_zip a1 fun h'' a1' sb=> ?_⟩;have ch:∀b ∈ [z,TI,TO,i1,i2],H b=none:=fun b hb=>(hf b hb).1
  have kk:∀b o,b ∉ [z,TO,i1,i2]->s.heap.get? b=some o->h''.get? b=some o:=fun b o hb e=>by
   simp only [List.mem_cons,List.not_mem_nil,or_false,not_or] at hb
   exact sb.extBut b o hb.1 (hk b o hb.1 hb.2.1 hb.2.2.1 hb.2.2.2 e)
  have eT:h''.get? s.heap.objs.size=some {cls:= .type "tuple",data:= .seq #[u,u']}:=sb.extBut _ _ (fun e=>by have l:=ltS h1;rw [<-e] at l;omega) a5
  have sub:∀b,b ∈ [z,TO,i1,i2]->b ∈ [z,TI,TO,i1,i2]:=fun b hb=>by
   simp only [List.mem_cons,List.not_mem_nil,or_false] at hb ⊢
   rcases hb with r | r | r | r
   . exact .inl r
   . exact .inr (.inr (.inl r))
   . exact .inr (.inr (.inr (.inl r)))
   . exact .inr (.inr (.inr (.inr r)))
  have nT:H s.heap.objs.size=none:=I.hok.fresh (Nat.le_refl _)
  have hok1 : HOk X.prog X.w H h'' := fun b o e => (I.hok b o e).stay (fun d v hd q => kk d v (fun hm => by
   have n:=ch d (sub d hm);rcases hd with hd | hd
   . rw [hd,e] at n;cases n
   . rw [hd] at n;cases n) q) (fun _ q=>q) fun _ _ q=>q
  have hok2:HOk X.prog X.w (upd H s.heap.objs.size (.tup [x,y])) h'':=HOk_add hok1 nT ⟨by show 2<=sizeLine;decide,[u,u'], .cons ru (.cons ru' .nil),⟨_,eT,rfl,_,rfl⟩⟩
  have un:Un (frs X.stack) [z,TO,i1,i2] H (upd H s.heap.objs.size (.tup [x,y])) s.heap h'':=by
   refine ⟨fun b o e _ _ hx=>kk b o hx e,fun b o e _ _ hx=>⟨o.slots,kk b o hx e⟩,fun b o e n _=> ?_,fun b o e hx=>⟨o,kk b o hx e⟩,fun b zs e=> ?_,fun b o v e=> ?_,fun b ps e=>⟨#[],?_⟩⟩
   . have l:=ltS e;rw [upd_ne (by intro q;subst q;omega)];exact n
   . rw [upd_ne (ne_of_none e nT)];exact e
   . rw [upd_ne (ne_of_none e nT)];exact e
   . rw [upd_ne (ne_of_none e nT)];simpa using e
  have I2:Inv X pins σ (upd H s.heap.objs.size (.tup [x,y])) {s with heap:=h'' }:=I.call' rfl un hok2 I.bare fun b hb=>by
   obtain ⟨f0,f1,f2,f3,f4,f5⟩:=hf b (sub b hb);exact ⟨f3,f1,f4,f5⟩
  refine ⟨.ref s.heap.objs.size,_,I2,rfl,⟨s.heap.objs.size,x,y,nT,rfl,rfl,fun zs hq=> ?_,fun zs hq=> ?_⟩,⟨a1',?_,⟨_,_,sb.extBut _ _ D.TOz a2⟩,a3.extBut sb.extBut D.i1z,a4.extBut sb.extBut D.i2z⟩,fun b hb=> ?_⟩
  . rw [I.tuple_inj hq q1];exact hx
  . rw [I.tuple_inj hq q2];exact hy
  . exact sb.extBut _ _ D.TIz (hk TI _ D.TIz D.TITO D.TIi1 D.TIi2 h2)
  . have n:=ch b hb
    obtain ⟨o,e⟩:∃o,s.heap.get? b=some o:=by
     simp only [List.mem_cons,List.not_mem_nil,or_false] at hb
     rcases hb with rfl | rfl | rfl | rfl | rfl
     . exact ⟨_,h1⟩
     . exact ⟨_,h2⟩
     . exact ⟨_,h3⟩
     . obtain ⟨o,e,_⟩:=h4;exact ⟨o,e⟩
     . obtain ⟨o,e,_⟩:=h5;exact ⟨o,e⟩
    have l:=ltS e;rw [upd_ne (by intro q;subst q;omega)];exact n
 done:=by
  intro X hP hw hK hc i pins s σ H E I hf st hg;subst hP hw hK;obtain ⟨h1,h2,⟨a,c,h3⟩,h4,h5⟩:=st;obtain ⟨xs,ys,q1,q2,he⟩:=hg;obtain ⟨its,rv,p,hz⟩:=I.tuple q1;obtain ⟨jts,rw',p',hz'⟩:=I.tuple q2;have l1:=rv.length;have l2:=rw'.length;refine nextT_end (I.ok.hd hc) D h1 h2 h3 h4 h5 p p' (by rcases he with e | e;exact .inl (by simp;omega);exact .inr (by simp;omega)) fun h' hk=>⟨rfl,?_⟩;have ch:∀b ∈ [z,TI,TO,i1,i2],H b=none:=fun b hb=>(hf b hb).1
  have sub:∀b,b ∈ [z,TO,i1,i2]->b ∈ [z,TI,TO,i1,i2]:=fun b hb=>by
   simp only [List.mem_cons,List.not_mem_nil,or_false] at hb ⊢
   rcases hb with r | r | r | r
   . exact .inl r
   . exact .inr (.inr (.inl r))
   . exact .inr (.inr (.inr (.inl r)))
   . exact .inr (.inr (.inr (.inr r)))
  have kk:∀b o,b ∉ [z,TO,i1,i2]->s.heap.get? b=some o->h'.get? b=some o:=fun b o hb e=>by
   simp only [List.mem_cons,List.not_mem_nil,or_false,not_or] at hb
   exact hk b o hb.1 hb.2.1 hb.2.2.1 hb.2.2.2 e
  have hok1 : HOk X.prog X.w H h' := fun b o e => (I.hok b o e).stay (fun d v hd q => kk d v (fun hm => by
   have n:=ch d (sub d hm);rcases hd with hd | hd
   . rw [hd,e] at n;cases n
   . rw [hd] at n;cases n) q) (fun _ q=>q) fun _ _ q=>q
  have un:Un (frs X.stack) [z,TO,i1,i2] H H s.heap h' :=
   ⟨fun b o e _ _ hx=>kk b o hx e,fun b o e _ _ hx=>⟨o.slots,kk b o hx e⟩,fun b o e n _=>n,fun b o e hx=>⟨o,kk b o hx e⟩,fun b zs e=>e,fun b o v e=>e,fun b ps e=>⟨#[],by simpa using e⟩⟩
  exact I.call' rfl un hok1 I.bare fun b hb=>by
   obtain ⟨f0,f1,f2,f3,f4,f5⟩:=hf b (sub b hb);exact ⟨f3,f1,f4,f5⟩
 self:=fun _ _ _ _ _ st h=>wpAny_pyIter_zip st.1 h
section
variable {X:Cx}
def iZipS(K:PySem.W.Frag)(ta:TA):TI:=fun σ H R=>ta σ H fun vs H1=>∃l1 l2,vs = [.ref l1, .ref l2]/\(((∃xs,SqL K H1 l1 xs)/\(∃ys,SqL K H1 l2 ys)/\R (Itz K l1 l2) H1)\/((∃xs,SqT K H1 l1 xs)/\(∃ys,SqT K H1 l2 ys)/\R (Ity K l1 l2) H1))
theorem new5{n b:Nat}(hb:b ∈ [n+4,n+2,n+3,n,n+1]):n<=b:=by
 simp only [List.mem_cons,List.not_mem_nil,or_false] at hb
 omega
theorem pi_zipS {a b : Expr} {ta : TA} {elts : List Expr} {k : Nat} {tp p pos : Pos} (hg : Gl X "zip") (hm : X.mg "zip" = none) (ha : PA X [a, b] ta) (hs : starEach [a, b] X.env = [(false, eval a X.env), (false, eval b X.env)] := by rfl) (hs2 : starEach [b] X.env = [(false, eval b X.env)] := by rfl) :
 PI X (.Tuple elts k tp) (.Call (.Name "zip" p) [a,b] [] pos) (iZipS X.K ta):=by
 intro pins s σ H R I h;refine Call_ (ld_blt I hg hm bt_zip (PyProof.Rows.callWith_type1 (thn (ha pos pins s σ H _ I h) fun us s1 ⟨vs,H1,I1,r1,q1⟩ => ?_) (by rw [hs,hs2]) (by rw [hs2];rfl)));obtain ⟨l1,l2,e,q1⟩:=q1;subst e;obtain ⟨u,w',rfl,ru,rw'⟩:=vals2 r1
 cases (show u=Value.ref l1 from ru)
 cases (show w'=Value.ref l2 from rw')
 rcases q1 with ⟨⟨xs,q1⟩,⟨ys,q2⟩,q⟩ | ⟨⟨xs,q1⟩,⟨ys,q2⟩,q⟩
 . obtain ⟨its,rv,p1,hz⟩:=I1.list q1;obtain ⟨jts,rv',p2,hz'⟩:=I1.list q2;have lt1:l1<s1.heap.objs.size:=by obtain ⟨o,n,e,_⟩:=p1;exact Heap.lt_size e
   have lt2:l2<s1.heap.objs.size:=by obtain ⟨o,n,e,_⟩:=p2;exact Heap.lt_size e
   refine call_zip_2 p1.isList p2.isList fun h' a1 a2 a3 a4 a5 a6 hk=> ?_;refine wpAny_pyIter_zip (s:={s1 with heap:=h' }) a1 ?_;exact ⟨_,[s1.heap.objs.size+4,s1.heap.objs.size+2,s1.heap.objs.size+3,s1.heap.objs.size,s1.heap.objs.size+1],_,_,H1,rfl,I1.kept (t':=s1.toks) hk,turn_zip (zipApart_new lt1 lt2),⟨a1,a2,⟨_,_,a3⟩,a4,a5⟩,fun b hb=>I1.fpOk (new5 hb) (I1.hok.fresh (new5 hb)),q⟩
 . obtain ⟨its,rv,p1,hz⟩:=I1.tuple q1;obtain ⟨jts,rv',p2,hz'⟩:=I1.tuple q2;have lt1:l1<s1.heap.objs.size:=by obtain ⟨o,e,_⟩:=p1;exact Heap.lt_size e
   have lt2:l2<s1.heap.objs.size:=by obtain ⟨o,e,_⟩:=p2;exact Heap.lt_size e
   refine call_zipT p1 p2 fun h' a1 a2 a3 a4 a5 hk=> ?_;refine wpAny_pyIter_zip (s:={s1 with heap:=h' }) a1 ?_;exact ⟨_,[s1.heap.objs.size+4,s1.heap.objs.size+2,s1.heap.objs.size+3,s1.heap.objs.size,s1.heap.objs.size+1],_,_,H1,rfl,I1.kept (t':=s1.toks) hk,turn_zipT (zipApart_new lt1 lt2),⟨a1,a2,⟨_,_,a3⟩,a4,a5⟩,fun b hb=>I1.fpOk (new5 hb) (I1.hok.fresh (new5 hb)),q⟩
end
end Tf
namespace Dm
open PySem PySem.Spec PyProof.Rows L2 Tf
section
variable {K:PySem.W.Frag} {R:Rl} [RelOk K R]
theorem it_zipT{H0:Hp}{a b:Addr}{vs ws:List V}{ds es:List PyData}(h:SqT K H0 a vs)(r:Reps K H0 vs ds)(h2:SqT K H0 b ws)(r2:Reps K H0 ws es):ItR K H0 (Ity K a b) (zipD ds es):=fun H0' H' s s' i=>by
 have h':=s'.seqT (s.seqT h);have h2':=s'.seqT (s.seqT h2);refine ⟨fun d hd=> ?_,fun hi=>⟨vs,ws,h',h2',?_⟩⟩
 . unfold zipD at hd
   rw [List.getElem?_zipWith] at hd
   cases e1:ds[i]? with
   | none=>rw [e1] at hd;cases hd
   | some x=>
    cases e2:es[i]? with
    | none=>rw [e1,e2] at hd;cases hd
    | some y=>
     rw [e1,e2] at hd
     cases hd
     obtain ⟨v,q1,q2⟩:=Tf.Reps.get r e1;obtain ⟨w,q3,q4⟩:=Tf.Reps.get r2 e2;refine ⟨⟨vs,ws,v,w,h',h2',q1,q3⟩,fun z H2 yl=> ?_⟩;obtain ⟨p,x',y',hp,rfl,rfl,hx,hy⟩:=yl;have:=hx vs h';rw [q1] at this
     cases this
     have:=hy ws h2';rw [q3] at this
     cases this
     refine ⟨_,Ext.allocF s' hp _, .tuple upd_same ?_⟩;have s2:=s.trans (Same.upd (s'.free hp) (.tup [v,w]));exact .cons (Rep.same s2 q2) (.cons (Rep.same s2 q4) .nil)
 . rw [r.length,r2.length];unfold zipD at hi
   rw [List.length_zipWith] at hi
   omega
def mZipS(f:En->Option (List PyData)):En->Option (List PyData):=fun ρ=>(f ρ).bind fun a=>match a with
 | [.list xs, .list ys]=>some (zipD xs ys)
 | [.tuple xs, .tuple ys]=>some (zipD xs ys)
 | _=>none
theorem ri_zipS{ta:TA}{f:En->Option (List PyData)}(h:RA K R ta f):RI K R (iZipS K ta) (mZipS f):=fun HB σ ρ H0 H s e ds hd R q=>by
 obtain ⟨a,ha,hd⟩:=Option.bind_eq_some_iff.mp hd
 split at hd
 . cases hd
   refine h HB σ ρ H0 H s e _ ha _ fun vs H1 J1 x1 p1=> ?_
   cases p1 with | cons p1 t=>cases t with | cons p2 t=>
    cases t
    cases p1 with | list a1 a2=>cases p2 with | list b1 b2=>
     exact ⟨_,_,rfl, .inl ⟨⟨_,x1.s1.seq a1⟩,⟨_,x1.s1.seq b1⟩,q _ _ _ x1 (it_zip a1 a2 b1 b2)⟩⟩
 . cases hd
   refine h HB σ ρ H0 H s e _ ha _ fun vs H1 J1 x1 p1=> ?_
   cases p1 with | cons p1 t=>cases t with | cons p2 t=>
    cases t
    cases p1 with | tuple a1 a2=>cases p2 with | tuple b1 b2=>
     exact ⟨_,_,rfl, .inr ⟨⟨_,x1.s1.seqT (SqT.of a1)⟩,⟨_,x1.s1.seqT (SqT.of b1)⟩,q _ _ _ x1 (it_zipT (SqT.of a1) a2 (SqT.of b1) b2)⟩⟩
 . cases hd
end
section
variable {X:Cx} {R:Rl} [RelOk X.K R] {a b:Expr} {pos p:Pos} {fs:En->Option (List PyData)}
theorem di_zipS {elts:List Expr} {k} {tp:Pos} (hm:X.mg "zip" = none) (h:DA X R [a,b] fs) (hg:Gl X "zip" :=by rfl) (hs:starEach [a,b] X.env = [(false,eval a X.env),(false,eval b X.env)]:=by rfl) (hs2:starEach [b] X.env = [(false,eval b X.env)]:=by rfl):DI X R (.Tuple elts k tp) (.Call (.Name "zip" p) [a,b] [] pos) (mZipS fs):=by
 obtain ⟨t,h1,h2⟩:=h;exact ⟨_,pi_zipS hg hm h1 hs hs2,ri_zipS h2⟩
end
end Dm
namespace Dm
open PySem PySem.Spec PyProof.Rows L2 Tf
theorem keyD_inj{a b:Key}(h:keyD a=keyD b):a=b:=by
 cases a <;> cases b <;> simp [keyD] at h <;> rw [h]
theorem tupD_inj{a b:List Key}(h:tupD a=tupD b):a=b:=by
 have h:a.map keyD=b.map keyD:=by
  unfold tupD at h
  exact PyData.tuple.inj h
 exact List.map_inj_right (fun _ _=>keyD_inj) |>.mp h
section
variable {K:PySem.W.Frag}
theorem DctR.nil{H:Hp}:DctR K H [] []:=⟨[],[],[],rfl,rfl, .nil,rfl⟩
theorem DctR.cons{H:Hp}{k:List Key}{v:V}{d:PyData}{t:List (List Key×V)}{kvs:List (PyData×PyData)}(r:Rep K H v d)(h:DctR K H t kvs):DctR K H ((k,v)::t) ((tupD k,d)::kvs):=by
 obtain ⟨ks,xs,ds,rfl,e2,e3,rfl⟩:=h;exact ⟨k::ks,v::xs,d::ds,rfl,by rw [List.length_cons,List.length_cons,e2], .cons r e3,rfl⟩
theorem DctR.out{H:Hp}{t:List (List Key×V)}{kvs:List (PyData×PyData)}(h:DctR K H t kvs):(t = []/\kvs = [])\/∃k v d t' kvs',t=(k,v)::t'/\kvs=(tupD k,d)::kvs'/\Rep K H v d/\DctR K H t' kvs':=by
 obtain ⟨ks,xs,ds,rfl,e2,e3,rfl⟩:=h
 cases ks with
 | nil=>exact .inl ⟨rfl,rfl⟩
 | cons k ks=>
  cases e3 with
  | nil=>simp at e2
  | cons r t=>exact .inr ⟨k,_,_,_,_,rfl,rfl,r,ks,_,_,rfl,by simpa using e2,t,rfl⟩
open Classical in
noncomputable def lookD:List (PyData×PyData)->List Key->Option PyData
 | [],_=>none
 | (q,d)::r,k=>if q=tupD k then some d else lookD r k
theorem DctR.val{H:Hp}{k:List Key}:∀ {t:List (List Key×V)} {kvs:List (PyData×PyData)},DctR K H t kvs->(valV t k=none/\lookD kvs k=none)\/∃v d,valV t k=some v/\lookD kvs k=some d/\Rep K H v d
 | [],kvs,h=>by
  rcases h.out with ⟨_,rfl⟩ | ⟨k',v,d,t',kvs',e,_⟩
  . exact .inl ⟨rfl,rfl⟩
  . cases e
 | p::t,kvs,h=>by
  rcases h.out with ⟨e,_⟩ | ⟨k',v,d,t',kvs',e,rfl,r,h'⟩
  . cases e
  . cases e
    by_cases hk:k'=k
    . subst hk;exact .inr ⟨v,d,valV_pos rfl,if_pos rfl,r⟩
    . rw [valV_neg (p:=(k',v)) hk,show lookD ((tupD k',d)::kvs') k=lookD kvs' k from if_neg fun z=>hk (tupD_inj z)];exact DctR.val h'
theorem DctR.length{H:Hp}:∀ {t:List (List Key×V)} {kvs:List (PyData×PyData)},DctR K H t kvs->t.length=kvs.length
 | [],kvs,h=>by
  rcases h.out with ⟨_,rfl⟩ | ⟨k',v,d,t',kvs',e,_⟩
  . rfl
  . cases e
 | p::t,kvs,h=>by
  rcases h.out with ⟨e,_⟩ | ⟨k',v',d',t',kvs',e,rfl,r',h'⟩
  . cases e
  . cases e
    rw [List.length_cons,List.length_cons,DctR.length h']
def unD:List (PyData×PyData)->List (PyData×PyData)
 | (.none, .none)::r=>r
 | r=>r
theorem unD_mk(r:List (PyData×PyData)):unD (mkD::r)=r:=rfl
theorem unD_of{H:Hp}{t:List (List Key×V)}{kvs:List (PyData×PyData)}(h:DctR K H t kvs):unD kvs=kvs:=by
 rcases h.out with ⟨_,rfl⟩ | ⟨k',v',d',t',kvs',_,rfl,_⟩ <;> rfl
theorem SlP.dct{H0 H:Hp}{v:V}{kvs:List (PyData×PyData)}(s:Same H0 H):∀ {r:Sl},SlP K H0 H v r->r.dat = .dict kvs->∃a t,v = .ref a/\Rd H a (.dT t)/\DctR K H0 t (unD kvs)
 | .val _,h,e=>by
  cases h with
  | dict h1 h2 h3=>
   cases e
   have r:DctR K H0 _ _:=⟨_,_,_,rfl,h2,h3,rfl⟩;rw [unD_of r]
   exact ⟨_,_,rfl,Rd.same s h1,r⟩
  | dictF h1 h2 h3=>cases e;rw [unD_mk];exact ⟨_,_,rfl, .inr ⟨_,s _ _ h1⟩,_,_,_,rfl,h2,h3,rfl⟩
  | _=>cases e
 | .own _,_,e=>by cases e
 | .dct _,⟨a,t,e,h2,h3⟩,e2=>by cases e2;rw [unD_of h3];exact ⟨a,t,e, .inl h2,h3⟩
variable {R:Rl} [RelOk K R]
end
end Dm
namespace Tf
open PySem PySem.Spec PyProof.Rows L2
section
variable {prog:Program} {w:World} {A:Around} {E:Value->Shared->Prop} {s:Shared} {d:Addr} {o:Obj} {es:Array DictEntry} {ep:Nat}
end
variable {X:Cx}
end Tf
namespace Tf
open PySem PySem.Spec PyProof.Rows L2
section
variable {prog:Program} {w:World} {A:Around} {E:Value->Shared->Prop} {s:Shared} {d it v:Addr} {od:Obj} {es:Array DictEntry} {i ep:Nat}
end
end Tf
namespace Tf
open PySem PySem.Spec PyProof.Rows L2
section
variable {prog:Program} {w:World} {A:Around} {E:Value->Shared->Prop} {s:Shared} {d it:Addr} {od:Obj} {es:Array DictEntry} {i ep:Nat}
end
section
variable {X:Cx}
end
end Tf
namespace Tf
open PySem PySem.Spec PyProof.Rows L2
def BM(h:Heap)(mg:Str->Option Value):Prop:=∃bm o,mg "__builtins__" = some (.ref bm)/\bm≠builtinsNs/\h.get? bm=some o/\o.cls = .type "module" /\ o.dict=some builtinsNs/\o.data = .plain
def FnAt(f:Addr)(fo:Obj):HO:= .ext fun h=>h.get? f=some fo
structure Made (H H':Hp) (f c:Addr) (oc fo:Obj):Prop where
 same:∃H1,(H1=H\/(H c=none/\H1=upd H c (.frz oc (.own 0))))/\H1 f=none/\H'=upd H1 f (FnAt f fo)
 code:H' c=some (.frz oc (.own 0))
 fn:H' f=some (FnAt f fo)
 rec_:∃vs x,oc.data = .fields vs/\vs[1]? = some x
variable {X:Cx}
end Tf
namespace Tf
open PySem PySem.Spec PyProof.Rows L2
structure LB where
 q:Str
 f:Addr
 cd:Value
 s:Shared
 H:Hp
structure LamSc (X:Cx) (sc:Scope) (cl:List (Str×Addr)) (x:Str) (ys:List Str):Prop where
 kind:sc.kind = .function
 co:sc.isCoroutine=false
 gen:sc.isGenerator=false
 par:sc.names.lookup x=some .local
 nocell:∀y ∈ sc.names,y.2 ≠ .cell
 free:∀y,sc.names.lookup y=some .free->y ∈ ys
 fr:∀y ∈ ys,sc.names.lookup y=some .free
 cells:∀y c,cl.lookup y=some c->X.env.cells.lookup y=some c
 has:∀y ∈ ys,∃c,cl.lookup y=some c
 out:∀y ∈ ys,X.env.scope.names.lookup y=some .cell
variable {X:Cx}
end Tf
namespace Tf
open PySem PySem.Spec PyProof.Rows L2
variable {X:Cx}
end Tf
namespace Dm
open PySem PySem.Spec PyProof.Rows L2 Tf
section
variable {X:Cx} {a:Expr} {ta:TE} {p1 p2 pos pos2:Pos}
def rngV(n:Nat):List V:=(List.range n).map fun k:Nat=>V.int (k:Int)
def tLR(ta:TE):TE:=fun σ H Q=>ta σ H fun x H1=>∃n:Nat,x = .int (n:Int)/\n<=1000/\∀p,H1 p=none->Q (.ref p) (upd H1 p (.lst (rngV n)))
theorem vals_of:∀ {xs:List V} {us:List Value},xs.length=us.length->(∀(j:Nat) x u,xs[j]? = some x->us[j]? = some u->RelV x u)->Vals xs us
 | [],[],_,_=> .nil
 | x::xs,u::us,hl,h=> .cons (h 0 x u rfl rfl) (vals_of (by simpa using hl) fun j y v h1 h2=>h (j+1) y v (by simpa using h1) (by simpa using h2))
theorem pe_listrange (hml : X.mg "list" = none) (hmr : X.mg "range" = none) (ha : PE X a ta) (hgl : Gl X "list" := by rfl) (hgr : Gl X "range" := by rfl) (hc : X.calm = true := by rfl)
 (hs1:starEach [.Call (.Name "range" p2) [a] [] pos2] X.env=(false,eval (.Call (.Name "range" p2) [a] [] pos2) X.env)::starEach [] X.env:=by rfl) (hs0:(backTo pos (starEach [] X.env)).any (·.1)=false:=by rfl) (hs2:backTo pos (starEach [] X.env) = []:=by rfl)
 (hsa:starEach [a] X.env=(false,eval a X.env)::starEach [] X.env:=by rfl) (hs3:(backTo pos2 (starEach [] X.env)).any (·.1)=false:=by rfl):PE X (.Call (.Name "list" p1) [.Call (.Name "range" p2) [a] [] pos2] [] pos) (tLR ta):=by
 intro pins s σ H Q I h;refine Call_ (ld_blt I hgl hml bt_list (PyProof.Rows.callWith_type1 ?_ hs1 hs0));rw [hs1];show wpAny _ _ (spliced ((false,eval (.Call (.Name "range" p2) [a] [] pos2) X.env)::backTo pos (starEach [] X.env))) _ _ s;rw [hs2];refine Calls.spliced_cons ?_;refine Call_ (ld_blt I hgr hmr bt_range (PyProof.Rows.callWith_type1 (thn (pa_cons ha pa_nil hsa pos2 pins s σ H (fun vs H1=>∃n:Nat,vs = [.int (n:Int)]/\n<=1000/\∀p,H1 p=none->Q (.ref p) (upd H1 p (.lst (rngV n)))) I ?_) fun us s1 ⟨vs,H1,I1,r1,q1⟩ => ?_) hsa hs3))
 . have h:ta σ H fun x H1=>∃n:Nat,x = .int (n:Int)/\n<=1000/\∀p,H1 p=none->Q (.ref p) (upd H1 p (.lst (rngV n))):=h;refine (show ta σ H (fun x H1=>∃n:Nat,[x] = [V.int (n:Int)]/\n<=1000/\∀p,H1 p=none->Q (.ref p) (upd H1 p (.lst (rngV n)))) from ?_)
   have e:(fun (x:V) (H1:Hp)=>∃n:Nat,[x] = [V.int (n:Int)]/\n<=1000/\∀p,H1 p=none->Q (.ref p) (upd H1 p (.lst (rngV n))))=fun x H1=>∃n:Nat,x = .int (n:Int)/\n<=1000/\∀p,H1 p=none->Q (.ref p) (upd H1 p (.lst (rngV n))):=by
    funext x H1;simp only [List.cons.injEq,and_true]
   rw [e];exact h
 obtain ⟨n,e,hn,q⟩:=q1;subst e
 cases r1 with
 | cons r rr=>
  cases rr
  obtain ⟨t,rfl⟩:=r;refine call_range_1 ?_;refine Calls.spliced_nil ?_
  let s2:Shared:={s1 with heap:=s1.heap.push {cls:= .type "range",data:= .fields #[.int 0 s1.toks, .int (n:Int) t, .int 1 (s1.toks+1)]},toks:=s1.toks+1+1}
  have I2:Inv X pins σ H1 s2:=I1.kept fun b o e=>Heap.get?_push_of_some _ e;refine call_list_range (s:=s2) (n:=n) (I1.ok.hd hc) (IsRange.new ..) (small_one (by decide) (by decide) (by omega) (by omega)) (by rw [rangeSize_one];split <;> omega) (by omega) fun h' tk acc' c' hk hS' hacc=> ?_;have hs:=hacc.1;refine ⟨.ref s2.heap.objs.size,_,I2.laid (t':=tk) (o:= .lst (rngV n)) hk (Nat.le_refl _) ?_,rfl,q _ (I2.hok.fresh (Nat.le_refl _))⟩;refine ⟨by unfold rngV;rw [List.length_map,List.length_range];exact Nat.le_trans hn (by decide),acc'.toList,c',vals_of (by unfold rngV;rw [List.length_map,List.length_range,Array.length_toList,hs]) fun j x u h1 h2=> ?_,by simpa using hS'⟩;unfold rngV at h1
  rw [List.getElem?_map] at h1
  obtain ⟨k,hk1,hk2⟩:=Option.map_eq_some_iff.mp h1;obtain ⟨hj,ej⟩:=List.getElem?_eq_some_iff.mp hk1;rw [List.getElem_range] at ej
  subst ej hk2;obtain ⟨tk',e⟩:=hacc.2 j u (by simpa using h2);subst e;exact ⟨tk',by simp⟩
end
def intS':Sl->Option Int
 | .val (.int n)=>some n
 | _=>none
theorem intS'_some{s:Sl}{n:Int}(h:intS' s=some n):s = .val (.int n):=by
 unfold intS' at h
 split at h
 . cases h;rfl
 . cases h
section
variable {K:PySem.W.Frag} {R:Rl} [RelOk K R]
def mLR(fa:En->Option Sl):En->Option Sl:=fun ρ=>((fa ρ).bind intS').bind fun n=>if 0<=n/\n<=1000 then some (.own ((List.range n.toNat).map fun k:Nat=> .int (k:Int))) else none
theorem reps_rng{H:Hp}:∀ks:List Nat,Reps K H (ks.map fun k:Nat=>V.int (k:Int)) (ks.map fun k:Nat=> .int (k:Int))
 | []=> .nil
 | k::ks=> .cons (.int _) (reps_rng ks)
theorem re_LR{ta:TE}{fa:En->Option Sl}(hA:RP K R ta fa):RE K R (tLR ta) (mLR fa):=fun HB σ ρ H0 H s e z hz Q q=>by
 obtain ⟨n,hn,hz⟩:=Option.bind_eq_some_iff.mp hz;obtain ⟨s1,e1,hn⟩:=Option.bind_eq_some_iff.mp hn;have hn:=intS'_some hn;subst hn
 split at hz
 . rename_i h0
   cases hz
   refine hA HB σ ρ H0 H s e _ e1 _ fun w H1 J1 x1 p1=>⟨n.toNat,by rw [Int.toNat_of_nonneg h0.1];exact p1.int,by omega,fun l hp=> ?_⟩;have xp:=Ext.alloc x1.s1 hp (.lst (rngV n.toNat));exact q _ _ _ (x1.trans xp) ⟨l,_,rfl,x1.s.free hp,x1.s1.free hp,upd_same,reps_rng _⟩
 . cases hz
end
section
variable {X:Cx} {R:Rl} [RelOk X.K R] {a:Expr} {p1 p2 pos pos2:Pos} {fa:En->Option Sl}
theorem de_LR (hml : X.mg "list" = none) (hmr : X.mg "range" = none) (ha : DP X R a fa) (hgl : Gl X "list" := by rfl) (hgr : Gl X "range" := by rfl) (hc : X.calm = true := by rfl)
 (hs1:starEach [.Call (.Name "range" p2) [a] [] pos2] X.env=(false,eval (.Call (.Name "range" p2) [a] [] pos2) X.env)::starEach [] X.env:=by rfl) (hs0:(backTo pos (starEach [] X.env)).any (·.1)=false:=by rfl) (hs2:backTo pos (starEach [] X.env) = []:=by rfl)
 (hsa:starEach [a] X.env=(false,eval a X.env)::starEach [] X.env:=by rfl) (hs3:(backTo pos2 (starEach [] X.env)).any (·.1)=false:=by rfl):DE X R (.Call (.Name "list" p1) [.Call (.Name "range" p2) [a] [] pos2] [] pos) (mLR fa):=by
 obtain ⟨t,h1,h2⟩:=ha;exact ⟨_,pe_listrange hml hmr h1 hgl hgr hc hs1 hs0 hs2 hsa hs3,re_LR h2⟩
end
end Dm
namespace Tf
open PySem PySem.Spec PyProof.Rows L2
variable {X:Cx}
end Tf
namespace Dm
open PySem PySem.Spec PyProof.Rows L2 Tf
section
variable {K:PySem.W.Frag} {R:Rl} [RelOk K R]
end
section
variable {X:Cx} {R:Rl} [RelOk X.K R]
end
end Dm
namespace Tf
open PySem PySem.Spec PyProof.Rows L2
theorem Made.up{H H':Hp}{f c:Addr}{oc fo:Obj}(M:Made H H' f c oc fo){b:Addr}{u:HO}(e:H b=some u):H' b=some u:=by
 obtain ⟨H1,h1,hn,rfl⟩:=M.same
 have e1:H1 b=some u:=by
  rcases h1 with rfl | ⟨h1n,rfl⟩
  . exact e
  . rw [upd_ne (ne_of_none e h1n)];exact e
 rw [upd_ne (ne_of_none e1 hn)];exact e1
variable {X:Cx}
end Tf
namespace Tf
open PySem PySem.Spec PyProof.Rows L2
variable {X:Cx}
end Tf
namespace Dm
open PySem PySem.Spec PyProof.Rows L2 Tf
section
variable {K:PySem.W.Frag}
variable {R:Rl} [RelOk K R]
end
section
variable {X:Cx} {R:Rl} [RelOk X.K R] {a b c e tg:Expr} {pos p apos:Pos} {fa fb fc f:En->Option Sl} {st:Stmt} {gs:En->Option Out}
end
end Dm
namespace Tf
open PySem PySem.Spec PyProof.Rows L2
section
variable {prog:Program} {w:World} {A:Around} {E:Value->Shared->Prop} {s:Shared}
end
variable {X:Cx}
end Tf
namespace Dm
open PySem PySem.Spec PyProof.Rows L2 Tf
section
variable {K:PySem.W.Frag}
end
end Dm
namespace Dm
open PySem PySem.Spec PyProof.Rows L2 Tf
section
variable {K:PySem.W.Frag}
end
section
variable {X:Cx}
end
end Dm
namespace Tf
open PySem PySem.Spec PyProof.Rows L2
theorem ints_of_vals:∀ {us:List Value} {ns:List Int},Vals (ns.map V.int) us->IntsAre us ns
 | _,[],r=>by cases r;exact .nil
 | _,n::ns,r=>by
  cases r with
  | cons r1 r2=>
   obtain ⟨t,q⟩:=(show ∃t,_=Value.int n t from r1);subst q;exact .cons n t (ints_of_vals r2)
variable {X:Cx}
end Tf
namespace Dm
open PySem PySem.Spec PyProof.Rows L2 Tf
def srt(ns:List Int):List Int:=ns.mergeSort fun a b=>decide (a<=b)
section
variable {K:PySem.W.Frag}
end
end Dm
namespace Dm
open PySem PySem.Spec PyProof.Rows L2 Tf
section
variable {K:PySem.W.Frag} {R:Rl} [RelOk K R]
end
section
variable {X:Cx} {R:Rl} [RelOk X.K R] {a b e o:Expr} {f fa fb:En->Option Sl} {p pos apos cpos:Pos} {st:Stmt}
end
end Dm
namespace Tf
open PySem PySem.Spec PyProof.Rows L2
def markT(ts:List Addr):Obj:={cls:= .type "tables",data:= .fields (ts.map Value.ref).toArray}
def cutK(K:PySem.W.Frag)(ts:List Addr):PySem.W.Frag:=K.filter (fun p=>decide (p.1 ∉ ts)) ++ [(mainGlobals,markT ts)]
def tbK(names:List Str)(K:PySem.W.Frag):List (Addr×Addr):=names.filterMap (PySem.W.tabIn K)
theorem tabsOf_cut(K:PySem.W.Frag)(ts:List Addr):tabsOf (cutK K ts)=ts:=by
 have e:(cutK K ts).getLast? = some (mainGlobals,markT ts):=by unfold cutK;simp
 unfold tabsOf;rw [e];show ((ts.map Value.ref).toArray.toList.filterMap _)=ts;rw [List.toList_toArray,List.filterMap_map];exact List.filterMap_some
theorem lookup_filt{ts:List Addr}{a:Addr}(h:a ∉ ts):∀K:PySem.W.Frag,List.lookup a (K.filter fun p=>decide (p.1 ∉ ts))=List.lookup a K
 | []=>rfl
 | (b,o)::K=>by
  have ih:=lookup_filt h K;rw [List.filter_cons]
  by_cases hb:b ∈ ts
  . have ne : (a == b) = false := by
     refine Bool.eq_false_iff.mpr fun z=> ?_;have:=beq_iff_eq.mp z;exact h (this ▸ hb)
    rw [if_neg (by simp [hb]),ih,List.lookup,ne]
  . rw [if_pos (by simp [hb]),List.lookup,List.lookup]
    cases a==b
    . exact ih
    . rfl
theorem lookup_in{ts:List Addr}{a:Addr}(h:a ∈ ts):∀K:PySem.W.Frag,List.lookup a (K.filter fun p=>decide (p.1 ∉ ts))=none
 | []=>rfl
 | (b,o)::K=>by
  have ih:=lookup_in h K;rw [List.filter_cons]
  by_cases hb:b ∈ ts
  . rw [if_neg (by simp [hb]),ih]
  . rw [if_pos (by simp [hb]),List.lookup]
    have ne:(a==b)=false:=by
     refine Bool.eq_false_iff.mpr fun z=> ?_;have:=beq_iff_eq.mp z;exact hb (this ▸ h)
    rw [ne];exact ih
theorem lookup_cut{K:PySem.W.Frag}{ts:List Addr}{a:Addr}{o:Obj}(h:a ∉ ts)(e:K.lookup a=some o):(cutK K ts).lookup a=some o:=by
 unfold cutK;rw [List.lookup_append,lookup_filt h,e];rfl
theorem of_cut{K:PySem.W.Frag}{ts:List Addr}{a:Addr}{o:Obj}(hm:∃o,K.lookup mainGlobals=some o)(hn:mainGlobals ∉ ts)(e:(cutK K ts).lookup a=some o):K.lookup a=some o/\a ∉ ts:=by
 unfold cutK at e
 rw [List.lookup_append] at e
 by_cases ha:a ∈ ts
 . rw [lookup_in ha] at e
   have ne:(a==mainGlobals)=false:=by
    refine Bool.eq_false_iff.mpr fun z=> ?_;have:=beq_iff_eq.mp z;exact hn (this ▸ ha)
   simp [List.lookup,ne] at e
 . refine ⟨?_,ha⟩;rw [lookup_filt ha] at e
   by_cases hg:a=mainGlobals
   . subst hg;obtain ⟨o',ho'⟩:=hm;rw [ho'] at e
     simpa [ho'] using e
   . have ne:(a==mainGlobals)=false:=Bool.eq_false_iff.mpr fun z=>hg (beq_iff_eq.mp z)
     cases hk:K.lookup a with
     | none=>rw [hk] at e;simp [List.lookup,ne] at e
     | some o'=>rw [hk] at e;simpa using e
theorem not_tab{K:PySem.W.Frag}{h:Heap}{ts:List Addr}{a:Addr}{o:Obj}(KX:K.In h)(hT:∀p ∈ ts,h.get? p=some (PySem.W.tabObj #[]))(e:K.lookup a=some o)(hne:o≠PySem.W.tabObj #[]):a ∉ ts:=fun hm=>by
 have e1:=KX a o e;rw [hT a hm] at e1
 exact hne (Option.some.inj e1).symm
theorem Fun_cut{K:PySem.W.Frag}{h:Heap}{ts:List Addr}{x qual:Str}{st:Stmt}{f:Addr}{fd:FuncData}(KX:K.In h)(hT:∀p ∈ ts,h.get? p=some (PySem.W.tabObj #[]))(F:Fun K x qual st f fd):Fun (cutK K ts) x qual st f fd:=by
 obtain ⟨oc,od,kV,doc,pm,an,cdv,ct,osl,rfl,lk,hcd⟩:=F.ex;have l2:=lookup_cut (not_tab KX hT lk (fun z=>by cases z)) lk;refine ⟨⟨oc,od,kV,doc,pm,an,cdv,ct,osl,rfl,l2,?_⟩,?_⟩
 . unfold PySem.W.codeIn at hcd ⊢
   split at hcd
   . rename_i c
     split at hcd
     . rename_i oc' od' vs sl' hc
       have hne:(⟨oc',od', .fields vs,sl'⟩:Obj)≠PySem.W.tabObj #[]:=fun z=>by
        cases z
        simp at hcd
       rw [lookup_cut (not_tab KX hT hc hne) hc];exact hcd
     . cases hcd
   . cases hcd
 . unfold PySem.W.keepIn
   dsimp only
   rw [l2]
theorem law_callT {P : Program} {w : World} {K : PySem.W.Frag} {mg mb : Str -> Option Value} {k : Nat} {fa a : Addr} {fd : FuncData} {x : Str} {sp : Sp} {s₁ : Shared} {vs : List Value} {ns : List Int} {tb : List (Addr × Addr)}
 (KX:K.In s₁.heap) (hmain:∃o,K.lookup mainGlobals=some o) (hns:s₁.heap.Ns mainGlobals mg) (hb:s₁.heap.Ns builtinsNs mb) (hbb:∀x:Str,x ≠ "__name__" -> mb x=bootBuiltins x) (hlim:s₁.heap.NoLimit) (hg:s₁.gens = #[])
 (ha:s₁.heap.get? a=some {cls:= .type "list",data:= .seq vs.toArray}) (hi:IntsAre vs ns) (hl:ns.length<=sizeLine) (hr:Room k callerA)
 (hT:∀p ∈ tb,PySem.W.CodeHd s₁.heap p.1 p.2/\s₁.heap.get? p.2=some (PySem.W.tabObj #[])) (hbm:BM s₁.heap mg)
 (F:∀base:Heap,(cutK K (tb.map (·.2))).In base->base.Ns mainGlobals mg->(∀p ∈ tb,PySem.W.CodeHd base p.1 p.2)->BM base mg->FnOk P w (cutK K (tb.map (·.2))) mg base CX0 k fa fd [x] sp) (hbind:∀(s:Shared) (u:Value),BindsTo s fd ⟨[u],[]⟩ [(x,u)])
 (hsp:∀H:Hp,SqL (cutK K (tb.map (·.2))) H a (ns.map V.int)->sp [.ref a] H (fun v _=>v = .bl true) fun _ _ _=>False) :
 codeAny (model P w) callerA (.call (.ref fa) ⟨[.ref a],[]⟩) (fun r s'=>r = .ok (.ret (.bool true))/\OldK s₁.heap s'.heap/\s'.os=s₁.os/\AllBare s'.gens) s₁:=by
 have rv:=vals_ints hi;have lenV:=hi.length
 let ts:=tb.map (·.2)
 have hts:∀p ∈ ts,s₁.heap.get? p=some (PySem.W.tabObj #[]):=fun p hp=>by
  obtain ⟨q,hq,rfl⟩:=List.mem_map.mp hp;exact (hT q hq).2
 have nts:∀ {b:Addr} {o:Obj},s₁.heap.get? b=some o->o≠PySem.W.tabObj #[]->b ∉ ts:=fun {b o} e n hm=>by
  rw [hts b hm] at e
  exact n (Option.some.inj e).symm
 have hat:a ∉ ts:=nts ha fun z=>by cases z
 have hmt:mainGlobals ∉ ts:=by
  obtain ⟨o,es,ep,e,d,_⟩:=hns;exact nts e fun z=>by rw [z] at d;cases d
 let ao:Obj:={cls:= .type "list",data:= .seq vs.toArray}
 let H:Hp:=fun b=>if b ∈ ts then some (.tbl #[]) else if b=a/\K.lookup a=none then some (.frz ao (.lst (ns.map V.int))) else none
 have Ht:∀ {b:Addr},b ∈ ts->H b=some (.tbl #[]):=fun {b} hm=>if_pos hm
 have Hc:∀b,(b ∈ ts/\H b=some (.tbl #[]))\/(b=a/\K.lookup a=none/\H b=some (.frz ao (.lst (ns.map V.int))))\/(H b=none/\b ∉ ts/\(b=a->K.lookup a≠none)):=fun b=>by
  by_cases h1:b ∈ ts
  . exact .inl ⟨h1,Ht h1⟩
  . by_cases h2:b=a/\K.lookup a=none
    . exact .inr (.inl ⟨h2.1,h2.2,(if_neg h1).trans (if_pos h2)⟩)
    . exact .inr (.inr ⟨(if_neg h1).trans (if_neg h2),h1,fun z c=>h2 ⟨z,c⟩⟩)
 have hok:HOk P w H s₁.heap:=fun b u e=>by
  rcases Hc b with ⟨h1,h2⟩ | ⟨rfl,h1,h2⟩ | ⟨h1,_,_⟩
  . rw [h2] at e
    cases e
    exact ⟨#[],hts b h1,True.intro,fun pos v z=>by simp [codeAmong] at z⟩
  . rw [h2] at e
    cases e
    exact ⟨ha,by rw [List.length_map];exact hl,vs,_,rv,ha⟩
  . rw [h1] at e
    cases e
 have free:∀ {b:Addr} {o:Obj},s₁.heap.get? b=some o->o≠PySem.W.tabObj #[]->o≠ao->H b=none:=fun {b o} e n1 n2=>by
  rcases Hc b with ⟨h1,_⟩ | ⟨rfl,_,_⟩ | ⟨h1,_,_⟩
  . exact absurd h1 (nts e n1)
  . rw [ha] at e
    exact absurd (Option.some.inj e).symm n2
  . exact h1
 have base_of:∀ {b:Addr} {o:Obj},s₁.heap.get? b=some o->H b=none->(hidT s₁.heap H).get? b=some o:=fun e n=>hidT_get e n;have nsK:∀ {b:Addr} {m:Str->Option Value},s₁.heap.Ns b m->(hidT s₁.heap H).Ns b m:=fun {b m} ⟨o,es,ep,e,d,r⟩=>⟨o,es,ep,base_of e (free e (fun z=>by rw [z] at d;cases d) (fun z=>by rw [z] at d;cases d)),d,r⟩
 have hKb:(cutK K ts).In (hidT s₁.heap H):=fun b o e=>by
  obtain ⟨e1,e2⟩:=of_cut hmain hmt e;refine base_of (KX b o e1) ?_;rcases Hc b with ⟨h1,_⟩ | ⟨rfl,h1,_⟩ | ⟨h1,_,_⟩
  . exact absurd h1 e2
  . rw [h1] at e1;cases e1
  . exact h1
 have hM:Mod (cutK K ts) mg (hidT s₁.heap H):=⟨hKb,nsK hns,⟨mb,nsK hb,hbb⟩,let ⟨mc,h1,h2⟩:=hlim;⟨mc,nsK h1,h2⟩⟩
 have hCb:∀p ∈ tb,PySem.W.CodeHd (hidT s₁.heap H) p.1 p.2:=fun p hp=>by
  obtain ⟨o,vs',file,tf,flags,tg,inF,text,tt,e,c,r⟩:=(hT p hp).1;exact ⟨o,vs',file,tf,flags,tg,inF,text,tt,base_of e (free e (fun z=>by rw [z] at c;cases c) (fun z=>by rw [z] at c;exact absurd (Value.type.inj c) (by decide))),c,r⟩
 have hBb:BM (hidT s₁.heap H) mg:=by
  obtain ⟨b,ob,b1,b2,b3,b4,b5,b6⟩:=hbm;exact ⟨b,ob,b1,b2,base_of b3 (free b3 (fun z=>by rw [z] at b4;cases b4) (fun z=>by rw [z] at b4;exact absurd (Value.type.inj b4) (by decide))),b4,b5,b6⟩
 have e0:Env0 P w (cutK K ts) mg (hidT s₁.heap H) callerA [] s₁ H:=⟨rfl,hM,fun b o e=>of_hidT e,Nat.le_of_eq (hidT_size _ _),trivial,fun b hb=>absurd (show b ∈ ([]:List Addr) from hb) (by simp),hok, .of_eq hg,fun p hp=>by rw [tabsOf_cut] at hp;exact ⟨_,Ht hp⟩⟩
 have hS:SqL (cutK K ts) H a (ns.map V.int):=by
  cases hk:K.lookup a with
  | some o=>
   have e:=KX a o hk;rw [ha] at e
   cases e
   exact .inr ⟨_,vs.toArray,_,lookup_cut hat hk,rfl,rfl,rfl,by rw [List.size_toArray,lenV];exact hl,by simpa using rv⟩
  | none=>exact .inl (.inr ⟨ao,(if_neg hat).trans (if_pos ⟨rfl,hk⟩)⟩)
 refine codeAny_mono ((F _ hKb (nsK hns) hCb hBb).run callerA [] s₁ H ⟨[.ref a],[]⟩ [.ref a] [.ref a] _ _ hr e0 (hbind s₁ (.ref a)) (.cons rfl .nil) (hsp H hS)) fun r s' h=> ?_
 cases r with
 | error e=>exact False.elim h
 | ok fl=>
  cases fl with
  | next=>exact False.elim h
  | brk=>exact False.elim h
  | cont=>exact False.elim h
  | ret u=>
   obtain ⟨v,H',os,bare,un,hok',r',q⟩:=h;have q':v = .bl true:=q;subst q';obtain rfl:u=Value.bool true:=r'
   have grown:∀ {b:Addr},b ∈ ts->∃qs,s'.heap.get? b=some (PySem.W.tabObj qs):=fun {b} hm=>by
    obtain ⟨more,e⟩:=un.tbls b _ (Ht hm);obtain ⟨qs,e1,_⟩:=hok' b _ e;exact ⟨qs,e1⟩
   have keep:∀ {b:Addr} {o:Obj},b ∉ ts->s₁.heap.get? b=some o->s'.heap.get? b=some o:=fun {b o} hb' e=>by
    rcases Hc b with ⟨h1,_⟩ | ⟨rfl,_,h2⟩ | ⟨h1,_,_⟩
    . exact absurd h1 hb'
    . have z2:=un.frzs _ _ _ h2;obtain ⟨e2,_⟩:=hok' _ _ z2;rw [ha] at e
      cases e
      exact e2
    . exact un.keep b o e h1 (by intro z;exact absurd (show b ∈ ([]:List Addr) from z) (by simp)) (by simp)
   refine ⟨rfl,⟨fun b o e=> ?_,fun b o e=> ?_⟩,os,bare⟩
   . by_cases hm:b ∈ ts
     . obtain ⟨q,hq,rfl⟩:=List.mem_map.mp hm;obtain ⟨qs,e1⟩:=grown hm;rw [hts _ hm] at e
       cases e
       exact .inr (.inl ⟨((hT q hq).1.tab (hT q hq).2).isCodeTable,rfl, #[],qs,rfl,by rw [Array.empty_append];exact e1⟩)
     . exact .inl (keep hm e)
   . by_cases hm:b ∈ ts
     . obtain ⟨qs,e1⟩:=grown hm;exact ⟨_,e1⟩
     . exact ⟨o,keep hm e⟩
theorem walk_ofT {l : PySem.W.OpenLaw} {n k : Nat} {q : Program} {loose : List Str} {XP : (Str -> Option Value) -> Heap -> Prop} {YP : World -> Heap -> Prop} {d : DefRec} {K : Params -> PySem.W.Frag} {names : List Str} {sp : PySem.W.Frag -> Sp} {x : Str}
 (hn:l.most=some n) (hn2:n<=sizeLine) (hdf:d.params.defaults = []) (hr:Room k callerA)
 (hY:∀(w:World) (h:Heap),YP w h->(K w.params).In h)
 (hrec:∀y ∈ names,∃e,(recsOf q).find? (fun e=>e.name==y)=some e)
 (F:∀(w:World) (mg:Str->Option Value) (fa:Addr) (h:Heap),(K w.params).In h->h.Ns mainGlobals mg->mg d.name=some (.ref fa)->(∀p ∈ (tbK names (K w.params)).map (·.2),h.get? p=some (PySem.W.tabObj #[])) ->
  (∃o,(K w.params).lookup mainGlobals=some o)/\∃fd:FuncData,(∀(s:Shared) (u:Value),BindsTo s fd ⟨[u],[]⟩ [(x,u)]) /\
   ∀base:Heap,(cutK (K w.params) ((tbK names (K w.params)).map (·.2))).In base->base.Ns mainGlobals mg->(∀p ∈ tbK names (K w.params),PySem.W.CodeHd base p.1 p.2)->BM base mg->FnOk l.prog w (cutK (K w.params) ((tbK names (K w.params)).map (·.2))) mg base CX0 k fa fd [x] (sp (cutK (K w.params) ((tbK names (K w.params)).map (·.2)))))
 (hsp:∀(K:PySem.W.Frag) (H:Hp) (a:Addr) (ns:List Int),ns.length<=n->SqL K H a (ns.map V.int)->sp K [.ref a] H (fun v _=>v = .bl true) fun _ _ _=>False) :
 PySem.W.WalkO q loose XP YP l.row.toRowW d [] (fun f vs=>PySem.call f vs):=by
 refine Att.attach_call hn hdf fun w s₀ s₁ mg mb fa o pm cd doc a vs ns G Y ho hd hcd hmg hobj hints hlen hg=> ?_;have KX:=hY w _ Y
 have hT:∀p ∈ tbK names (K w.params),PySem.W.CodeHd s₁.heap p.1 p.2/\s₁.heap.get? p.2=some (PySem.W.tabObj #[]):=fun p hp=>by
  obtain ⟨y,hy,e⟩:=List.mem_filterMap.mp hp;obtain ⟨e',he'⟩:=hrec y hy;exact PySem.W.tab_of G.T KX he' e
 obtain ⟨hmain,fd,hb,hF⟩:=F w mg fa _ KX G.T.g hmg fun p hp=>by
  obtain ⟨r,hr',rfl⟩:=List.mem_map.mp hp;exact (hT r hr').2
 obtain ⟨bm,ob,b1,b2,b3,b4⟩:=G.T.bmain;exact law_callT KX hmain G.T.g G.T.b G.T.builtins G.T.nolimit hg hobj hints (Nat.le_trans hlen hn2) hr hT ⟨bm,ob,b1,b2,b3,b4⟩ hF hb fun H hS=>hsp _ H a ns hlen hS
theorem main_of{K:PySem.W.Frag}{x:Str}{v:Option Value}(h:PySem.W.nsIn K mainGlobals x=some v):∃o,K.lookup mainGlobals=some o:=by
 unfold PySem.W.nsIn at h
 cases e:K.lookup mainGlobals with
 | none=>rw [e] at h;simp at h
 | some o=>exact ⟨o,rfl⟩
end Tf
namespace Dm
open PySem PySem.Spec PyProof.Rows L2 Tf
section
variable {K:PySem.W.Frag} {P:Program} {w:World} {mg:Str->Option Value} {base:Heap}
end
end Dm
namespace Dm
open PySem PySem.Spec PyProof.Rows L2 Tf
section
variable {X:Cx} {e b:Expr} {te tb:TE} {pos p2:Pos}
end
section
variable {K:PySem.W.Frag} {R:Rl} [RelOk K R]
end
section
variable {X:Cx} {R:Rl} [RelOk X.K R] {e b:Expr} {pos p2:Pos} {f fb:En->Option Sl}
end
end Dm
namespace Tf
open PySem PySem.Spec PyProof.Rows L2
section
variable {prog:Program} {w:World} {A:Around} {E:Value->Shared->Prop} {s:Shared} {r:Addr} {a b c:Int} {t u v:Tok} {n:Nat}
end
end Tf
namespace Dm
open PySem PySem.Spec PyProof.Rows L2 Tf
section
variable {X:Cx} {a:Expr} {ta:TE} {p1 p2 pos pos2:Pos}
end
section
variable {K:PySem.W.Frag} {R:Rl} [RelOk K R]
end
section
variable {X:Cx} {R:Rl} [RelOk X.K R] {a:Expr} {p1 p2 pos pos2:Pos} {fa:En->Option Sl}
end
end Dm
namespace Dm
open PySem PySem.Spec PyProof.Rows L2 Tf
section
variable {X:Cx} {e:Expr} {te:TE}
end
section
variable {K:PySem.W.Frag} {R:Rl} [RelOk K R]
end
section
variable {X:Cx} {R:Rl} [RelOk X.K R] {e:Expr} {f:En->Option Sl}
end
end Dm
namespace Tf
open PySem PySem.Spec PyProof.Rows L2
theorem noFill_tuple_mul:fillsNumberSlot (.type "tuple") "mul" = pure false:=
 PySem.fillsNumberSlot_seq (id:= "tuple.__mul__") (r:=some (.builtin "tuple.__rmul__")) PySem.F.slot_tuple_mul.lookup (by decide +kernel) PySem.F.slot_tuple_rmul.lookup (by decide +kernel)
theorem repeat_tuple:seqRepeat? (.type "tuple")=pure (some (.builtin "tuple.__mul__")):=by
 unfold seqRepeat?;rw [PySem.seqSlot_of (T:= "tuple") (name:= "__mul__") (id:= "tuple.__mul__") PySem.F.slot_tuple_mul.lookup (by decide +kernel),PySem.seqSlot_of (T:= "tuple") (name:= "__rmul__") (id:= "tuple.__rmul__") PySem.F.slot_tuple_rmul.lookup (by decide +kernel)];rfl
theorem rmul_tup (a : Int) (t : Tok) (l : Addr) (items : Array Value) (n : Nat) (dd : Option Addr) (sl : Array (Option Value)) :
 Meets (Builtin.«int.__rmul__» ⟨[.int a t, .ref l], []⟩) (fun _ R s => s.heap.get? l = some { cls := .type "tuple", dict := dd, data := .seq items n, slots := sl } /\ R (.ok (.ret Value.notImplemented)) s) :=
 .of_wp fun prog w A R s h=>by obtain ⟨hp,g,d,tk,os⟩:=s;obtain ⟨hl,h⟩:=h;wp_walk;exact ⟨_,rfl,h⟩
theorem mul_tup1 (l : Addr) (items : Array Value) (n : Nat) (dd : Option Addr) (sl : Array (Option Value)) (u : Tok) :
 Meets (Builtin.«tuple.__mul__» ⟨[.ref l, .int 1 u], []⟩) (fun _ R s => s.heap.get? l = some { cls := .type "tuple", dict := dd, data := .seq items n, slots := sl } /\ R (.ok (.ret (Value.ref l))) { s with heap := s.heap, toks := s.toks }) :=
 .of_wp fun prog w A R s h=>by
  obtain ⟨hp,g,d,tk,os⟩:=s;obtain ⟨hl,h⟩:=h;have f1:=AutoSeq1.idx_int
  wp_walk using wpAny_loadPart' hl
  exact ⟨_,rfl,h⟩
theorem mul_tup2 (l : Addr) (items : Array Value) (n : Nat) (dd : Option Addr) (sl : Array (Option Value)) (k : Int) (u : Tok) (h0 : ¬ (decide (k < -(2 ^ 63)) || decide (k ≥ 2 ^ 63)) = true) (h1 : ¬ (items.isEmpty || k == 1) = true) (h2 : ¬ (decide (k <= 0) || items.isEmpty) = true) (h3 : ¬ ((items.size : Int) * k > (2 ^ 63 - 1) / 8)) (h4 : ¬ Builtin.Tuple.tupleTooMany ((items.size : Int) * k) = true) (h5 : ¬ (List.foldl (fun x1 x2 => x1 ++ x2) #[] (List.replicate k.toNat items)).size > sizeLine) :
 Meets (Builtin.«tuple.__mul__» ⟨[.ref l, .int k u], []⟩) (fun _ R s => s.heap.get? l = some { cls := .type "tuple", dict := dd, data := .seq items n, slots := sl } /\ R (.ok (.ret (Value.ref s.heap.objs.size))) { s with heap := s.heap.push { cls := Value.type "tuple", data := Data.seq (List.foldl (fun x1 x2 => x1 ++ x2) #[] (List.replicate k.toNat items)) }, toks := s.toks }) :=
 .of_wp fun prog w A R s h=>by
  obtain ⟨hp,g,d,tk,os⟩:=s;obtain ⟨hl,h⟩:=h;have f1:=AutoSeq1.idx_int
  wp_walk using wpAny_loadPart' hl
  rw [if_neg h0];refine wpAny_bind (wpAny_tupleItemsOf hl rfl ?_)
  dsimp only
  rw [if_neg h1,if_neg h2,if_neg h3,if_neg h4]
  wp_walk using wpAny_loadPart' hl
  exact ⟨_,rfl,h⟩
theorem foldl_app{α:Type}(xs:List α):∀(k:Nat) (acc:Array α),List.foldl (fun x1 x2=>x1++x2) acc (List.replicate k xs.toArray)=(acc.toList++(List.replicate k xs).flatten).toArray
 | 0,acc=>by simp
 | k+1,acc=>by
  rw [List.replicate_succ,List.foldl_cons,foldl_app xs k,List.replicate_succ,List.flatten_cons];simp
theorem len_flat{α:Type}(xs:List α)(k:Nat):(List.replicate k xs).flatten.length=xs.length*k:=by
 rw [len_rep,Nat.mul_comm]
section
variable {prog:Program} {w:World} {A:Around} {E:Value->Shared->Prop} {s:Shared}
theorem mul_tup {t : Addr} {vs : List Value} {k : Nat} {u : Tok} {Q : Value -> Shared -> Prop} (ht : IsTup s.heap t vs.toArray) (hv : vs ≠ []) (hk : 1 <= k) (hk2 : k <= 1000) (hz : vs.length * k <= 100000)
 (h1:k=1->Q (.ref t) s) (h2:k≠1->Q (.ref s.heap.objs.size) {s with heap:=s.heap.push {cls:= .type "tuple",data:= .seq (List.replicate k vs).flatten.toArray} }):wpAny (model prog w) A (binaryOp .Mult (.ref t) (.int (k:Int) u)) Q E s:=by
 obtain ⟨⟨cls,dd,data,sl⟩,ho,hc,n,hd⟩:=id ht;simp only at hc hd
 subst hc hd;have hsl:100000<=sizeLine:=by decide
 refine wpAny_binaryOp_repeat_ref (T:= "tuple") (U:= "int") (by decide) ⟨_,ho,rfl⟩ (fun s'=>typeIs_int s' k u) noFill_tuple_mul F.fills_int_mul F.slot_int_rmul repeat_tuple F.slot_int_index.lookup
  (call_meets F.slot_int_rmul (typeIs_int s k u) F.entry_int_rmul (F.args_int_rmul_2 _ _) (rmul_tup k u t vs.toArray n dd sl) ⟨ho,rfl,⟨_,ho,rfl⟩,?_⟩)
 by_cases h:k=1
 . subst h;exact call_meets F.slot_tuple_mul ⟨_,ho,rfl⟩ F.entry_tuple_mul (F.args_tuple_mul_2 _ _) (mul_tup1 t vs.toArray n dd sl u) ⟨ho,h1 rfl⟩
 . have he : vs.toArray.isEmpty = false := by
    cases vs with
    | nil=>exact absurd rfl hv
    | cons a r=>rfl
   have ef:List.foldl (fun x1 x2=>x1++x2) #[] (List.replicate ((k:Int).toNat) vs.toArray)=(List.replicate k vs).flatten.toArray:=by
    rw [Int.toNat_natCast,foldl_app];simp
   have hm:(vs.toArray.size:Int)*(k:Int)<=100000:=by
    rw [List.size_toArray, <-Int.natCast_mul];omega
   refine call_meets F.slot_tuple_mul ⟨_,ho,rfl⟩ F.entry_tuple_mul (F.args_tuple_mul_2 _ _) (mul_tup2 t vs.toArray n dd sl k u ?_ ?_ ?_ ?_ ?_ ?_) ⟨ho,?_⟩
   . simp only [Bool.or_eq_true,decide_eq_true_eq];omega
   . rw [he];simp only [Bool.false_or,beq_iff_eq];omega
   . rw [he];simp only [Bool.or_false,decide_eq_true_eq];omega
   . omega
   . unfold Builtin.Tuple.tupleTooMany;simp only [decide_eq_true_eq];omega
   . rw [ef,List.size_toArray,len_flat];omega
   . rw [ef];exact h2 h
end
variable {X:Cx}
def rRepT(K:PySem.W.Frag):R2:=fun x y H Q=>∃(l:Addr) (k:Nat) (xs:List V),x = .ref l/\y = .int (k:Int)/\SqT K H l xs/\xs ≠ []/\1<=k/\k<=1000/\xs.length*k<=1000/\(k=1->Q (.ref l) H)/\(k≠1->∀p,H p=none->Q (.ref p) (upd H p (.tup (List.replicate k xs).flatten)))
theorem op_repT:OpR X (binaryOp .Mult) (rRepT X.K):=by
 intro pins s σ H x y v u Q I rx ry h;obtain ⟨l,k,xs,rfl,rfl,hH,hx,k1,k2,hz,q1,q2⟩:=h
 cases rx
 obtain ⟨t,rfl⟩:=ry;obtain ⟨its,r,p1,_⟩:=I.tuple hH;have hl:=r.length;have hsl:100000<=sizeLine:=by decide
 refine mul_tup p1 (fun e=>hx (by subst e;exact (r.nil_iff).mp rfl)) k1 k2 (by rw [<-hl];omega) (fun h=>⟨.ref l,H,I,rfl,q1 h⟩) fun h=> ?_;exact ⟨.ref _,_,I.laid (a:=s.heap.objs.size) (o:= .tup (List.replicate k xs).flatten) (t':=s.toks) (fun _ _ q=>Heap.get?_push_of_some _ q) (Nat.le_refl _) ⟨by rw [len_flat];omega,_,r.rep k,⟨_,Heap.get?_push_size _ rfl,rfl,0,rfl⟩⟩,rfl,q2 h _ I.fresh⟩
end Tf
namespace Dm
open PySem PySem.Spec PyProof.Rows L2 Tf
def dRepT(a b:Sl):Option Sl:=match a.dat,b.dat with
 | .tuple xs, .int k=>if xs ≠ []/\1<=k/\k<=1000/\xs.length*k.toNat<=1000 then some (.val (.tuple (List.replicate k.toNat xs).flatten)) else none
 | _,_=>none
theorem opd_repT{K:PySem.W.Frag}:OpD K (rRepT K) dRepT:=fun H0 H x y sx sy z s px py hz Q q=>by
 unfold dRepT at hz
 split at hz
 . rename_i xs k e1 e2
   split at hz
   . rename_i hl;obtain ⟨h0,h1,h2,h3⟩:=hl
     cases hz
     obtain ⟨a,vs,rfl,g1,g2⟩:=px.tup e1
     cases py.atom e2 (fun _ h=>nomatch h)
     obtain ⟨n,rfl⟩:∃n:Nat,k=(n:Int):=⟨k.toNat,by omega⟩;rw [Int.toNat_natCast] at h3 q
     refine ⟨a,n,vs,rfl,rfl,s.seqT (SqT.of g1),fun e=>h0 (by subst e;cases g2;rfl),by omega,by omega,by rw [g2.length];exact h3,fun e=> ?_,fun e p hp=> ?_⟩
     . subst e;refine q _ _ _ (Ext.refl s) ?_;have er:(List.replicate 1 xs).flatten=xs:=by simp
       rw [er];exact .tuple g1 g2
     . exact q _ _ _ (Ext.allocF s hp _) (.tuple upd_same (Reps.same (Same.upd (s.free hp) _) (Reps.rep g2 n)))
   . cases hz
 . cases hz
section
variable {X:Cx} {R:Rl} [RelOk X.K R] {a b:Expr} {fa fb:En->Option Sl} {pos:Pos}
theorem de_mulT(ha:DP X R a fa)(hb:DP X R b fb):DE X R (.BinOp a .Mult b pos) (mBin dRepT fa fb):=de_op op_repT opd_repT ha hb
end
end Dm
namespace Dm
open PySem PySem.Spec PyProof.Rows L2 Tf
mutual
def noL:PyData->Bool
 | .list _=>false
 | .dict _=>false
 | .tuple ds=>noLs ds
 | _=>true
def noLs:List PyData->Bool
 | []=>true
 | d::ds=>noL d && noLs ds
end
section
variable {K:PySem.W.Frag}
mutual
theorem Rep.dropL{H H':Hp}(e:∀a xs,H a=some (.tup xs)->H' a=some (.tup xs)):∀ {v:V} {d:PyData},Rep K H v d->noL d=true->Rep K H' v d
 | _,_, .none,_=> .none
 | _,_, .bool b,_=> .bool b
 | _,_, .int i,_=> .int i
 | _,_, .str x,_=> .str x
 | _,_, .list _ _,n=>by simp [noL] at n
 | _,_, .tuple h hs,n=> .tuple (e _ _ h) (Reps.dropL e hs (by simpa [noL] using n))
 | _,_, .dict _ _ _,n=>by simp [noL] at n
 | _,_, .dictF _ _ _,n=>by simp [noL] at n
theorem Reps.dropL{H H':Hp}(e:∀a xs,H a=some (.tup xs)->H' a=some (.tup xs)):∀ {vs:List V} {ds:List PyData},Reps K H vs ds->noLs ds=true->Reps K H' vs ds
 | _,_, .nil,_=> .nil
 | _,_, .cons h hs,n=>by
  have n:=Bool.and_eq_true_iff.mp (show (_ && _)=true by rw [<-noLs];exact n);exact .cons (Rep.dropL e h n.1) (Reps.dropL e hs n.2)
end
end
section
variable {X:Cx} {e:Expr} {f:En->Option Sl}
end
end Dm
namespace Ts
open PySem PyProof.Rows
def gal:Bool->Keyed->Array Keyed->Nat->Nat->Nat->StateT SortSt Sem (Option Nat):=sortPriv% PySem.Builtin.gallop
def mLo:Array Keyed->Array Keyed->StateT SortSt Sem (Array Keyed):=sortPriv% PySem.Builtin.mergeLo
def mHi:Array Keyed->Array Keyed->StateT SortSt Sem (Array Keyed):=sortPriv% PySem.Builtin.mergeHi
def LtOk(prog:Program)(w:World)(A:Around)(E:Value->Shared->Prop)(s:Shared)(kd:SortKind)(D:Keyed->Prop)(κ:Keyed->Int):Prop:=∀(x y:Keyed) (st:SortSt) (Q:Option Bool->SortSt->Prop),kindOf st=kd->D x->D y->Q (some (decide (κ x<κ y))) st->wpS (model prog w) A E s (lt' x y) Q st
def bey(κ:Keyed->Int)(left:Bool)(key x:Keyed):Bool:=if left then decide (κ x<κ key) else !(decide (κ key<κ x))
section
variable {prog:Program} {w:World} {A:Around} {E:Value->Shared->Prop} {s:Shared} {kd:SortKind} {D:Keyed->Prop} {κ:Keyed->Int}
theorem wpS_elem{arr:Array Keyed}{i:Nat}{p:Keyed}{Q:Keyed->SortSt->Prop}{st:SortSt}(h:arr[i]? = some p)(q:Q p st):wpS (model prog w) A E s (elem' arr i) Q st:=by
 rw [elem'_eq,h];exact wpS_pure q
theorem wpS_bey (H : LtOk prog w A E s kd D κ) {left : Bool} {key x : Keyed} {arr : Array Keyed} {i : Nat} {st : SortSt} {Q : Option Bool -> SortSt -> Prop} (hk : kindOf st = kd) (hx : arr[i]? = some x) (dx : D x) (dk : D key) (q : Q (some (bey κ left key x)) st) : wpS (model prog w) A E s (do
 let x <-elem' arr i
 if left=true then lt' x key else do
  let r <-lt' key x
  pure (r.map fun b=> !b)) Q st:=by
 refine wpS_bind (wpS_elem hx ?_);unfold bey at q
 cases left
 . simp only [Bool.false_eq_true,if_false] at q ⊢
   exact wpS_bind (H _ _ _ _ hk dk dx (wpS_pure q))
 . simp only [if_true] at q ⊢
   exact H _ _ _ _ hk dx dk q
theorem wpS_gal (H : LtOk prog w A E s kd D κ) {left : Bool} {key : Keyed} {arr : Array Keyed} {base n hint : Nat} {st : SortSt} {Q : Option Nat -> SortSt -> Prop} {b : Nat -> Bool} (hk : kindOf st = kd) (dk : D key) (hh : hint < n)
 (hb:∀i,i<n->∃x,arr[base+i]? = some x/\D x/\bey κ left key x=b i) (mono:∀i j,i<=j->j<n->b j=true->b i=true)
 (q:∀k,k<=n->(∀i,i<k->b i=true)->(∀i,k<=i->i<n->b i=false)->Q (some k) st):wpS (model prog w) A E s (gal left key arr base n hint) Q st:=by
 have monf:∀i j,i<=j->j<n->b i=false->b j=false:=fun i j hij hj h=>by
  cases e:b j
  . rfl
  . rw [mono i j hij hj e] at h;exact h
 refine wpS_bind ?_;obtain ⟨x0,hx0,dx0,e0⟩:=hb hint hh;refine wpS_bey H hk hx0 dx0 dk ?_;rw [e0]
 cases hr:b hint
 . dsimp only
   rw [if_neg (by simp)]
   refine wpS_bind (wpS_mono (wpS_forRange (I:=fun x c st'=>st'=st/\∃lo of,c=(none,lo,of)/\lo<of/\x+1<=of/\lo<=hint/\b (hint - lo)=false)
    (Q:=fun c st'=>st'=st/\∃lo of,c=(none,lo,of)/\lo<of/\lo<=hint/\b (hint - lo)=false/\(hint+1<=of\/(of<=hint/\b (hint - of)=true))) ?s1 ?f1 ?i1) ?p1)
   case i1=>exact ⟨rfl,0,1,rfl,by omega,by omega,by omega,hr⟩
   case f1=>
    rintro c st' ⟨rfl,lo,of,rfl,h1,h2,h3,h4⟩;exact ⟨rfl,lo,of,rfl,h1,h3,h4, .inl (by omega)⟩
   case s1=>
    rintro i c st' _ hi ⟨rfl,lo,of,rfl,h1,h2,h3,h4⟩
    dsimp only
    by_cases hge:of≥hint+1
    . rw [if_pos hge];exact wpS_pure ⟨rfl,lo,of,rfl,h1,h3,h4, .inl hge⟩
    . rw [if_neg hge];obtain ⟨x1,hx1,dx1,e1⟩:=hb (hint - of) (by omega);refine wpS_bind (wpS_bey H hk hx1 dx1 dk ?_);rw [e1]
      cases hm:b (hint - of)
      . dsimp only
        rw [if_neg (by simp)];exact wpS_pure ⟨rfl,of,2*of+1,rfl,by omega,by omega,by omega,hm⟩
      . dsimp only
        rw [if_pos rfl];exact wpS_pure ⟨rfl,lo,of,rfl,h1,h3,h4, .inr ⟨by omega,hm⟩⟩
   case p1=>
    rintro c st' ⟨rfl,lo,of,rfl,h1,h3,h4,h5⟩
    dsimp only
    refine wpS_bind (wpS_mono (wpS_forRange (I:=fun x c st2=>st2=st'/\∃l h,c=(none,l,h)/\l<=h/\h<=n/\h - l<=n - x/\(∀i,i<l->b i=true)/\(∀i,h<=i->i<n->b i=false))
     (Q:=fun c st2=>st2=st'/\∃l,c=(none,l,l)/\l<=n/\(∀i,i<l->b i=true)/\(∀i,l<=i->i<n->b i=false)) ?s2 ?f2 ?i2) ?p2)
    case i2=>
     refine ⟨rfl,_,_,rfl,by omega,by omega,by omega,fun i hi=> ?_,fun i h6 h7=>monf _ i h6 h7 h4⟩;rcases h5 with h5 | ⟨h5,h6⟩
     . omega
     . exact mono i (hint - of) (by omega) (by omega) h6
    case f2=>
     rintro c st' ⟨rfl,l,h,rfl,g1,g2,g3,g4,g5⟩;have:l=h:=by omega
     subst this;exact ⟨rfl,l,rfl,g2,g4,g5⟩
    case s2=>
     rintro i c st' _ hi ⟨rfl,l,h,rfl,g1,g2,g3,g4,g5⟩
     dsimp only
     by_cases hge:l≥h
     . rw [if_pos hge];have:l=h:=by omega
       subst this;exact wpS_pure ⟨rfl,l,rfl,g2,g4,g5⟩
     . rw [if_neg hge];obtain ⟨x1,hx1,dx1,e1⟩:=hb (l+(h - l) / 2) (by omega);refine wpS_bind (wpS_bey H hk hx1 dx1 dk ?_);rw [e1]
       cases hm:b (l+(h - l) / 2)
       . dsimp only
         rw [if_neg (by simp)];exact wpS_pure ⟨rfl,l,_,rfl,by omega,by omega,by omega,g4,fun i h6 h7=>monf _ i h6 h7 hm⟩
       . dsimp only
         rw [if_pos rfl];exact wpS_pure ⟨rfl,_,h,rfl,by omega,by omega,by omega,fun i h6=>mono i _ (by omega) (by omega) hm,g5⟩
    case p2=>
     rintro c st' ⟨rfl,l,rfl,g2,g4,g5⟩;exact wpS_pure (q l g2 g4 g5)
 . dsimp only
   rw [if_pos rfl]
   refine wpS_bind (wpS_mono (wpS_forRange (I:=fun x c st'=>st'=st/\∃lo of,c=(none,lo,of)/\lo<of/\x+1<=of/\hint+lo<n/\b (hint+lo)=true)
    (Q:=fun c st'=>st'=st/\∃lo of,c=(none,lo,of)/\lo<of/\hint+lo<n/\b (hint+lo)=true/\(n - hint<=of\/(hint+of<n/\b (hint+of)=false))) ?s1 ?f1 ?i1) ?p1)
   case i1=>exact ⟨rfl,0,1,rfl,by omega,by omega,by omega,hr⟩
   case f1=>
    rintro c st' ⟨rfl,lo,of,rfl,h1,h2,h3,h4⟩;exact ⟨rfl,lo,of,rfl,h1,h3,h4, .inl (by omega)⟩
   case s1=>
    rintro i c st' _ hi ⟨rfl,lo,of,rfl,h1,h2,h3,h4⟩
    dsimp only
    by_cases hge:of≥n - hint
    . rw [if_pos hge];exact wpS_pure ⟨rfl,lo,of,rfl,h1,h3,h4, .inl hge⟩
    . rw [if_neg hge];obtain ⟨x1,hx1,dx1,e1⟩:=hb (hint+of) (by omega);refine wpS_bind (wpS_bey H hk hx1 dx1 dk ?_);rw [e1]
      cases hm:b (hint+of)
      . dsimp only
        rw [if_pos (show (!false)=true from rfl)];exact wpS_pure ⟨rfl,lo,of,rfl,h1,h3,h4, .inr ⟨by omega,hm⟩⟩
      . dsimp only
        rw [if_neg (by simp)];exact wpS_pure ⟨rfl,of,2*of+1,rfl,by omega,by omega,by omega,hm⟩
   case p1=>
    rintro c st' ⟨rfl,lo,of,rfl,h1,h3,h4,h5⟩
    dsimp only
    refine wpS_bind (wpS_mono (wpS_forRange (I:=fun x c st2=>st2=st'/\∃l h,c=(none,l,h)/\l<=h/\h<=n/\h - l<=n - x/\(∀i,i<l->b i=true)/\(∀i,h<=i->i<n->b i=false))
     (Q:=fun c st2=>st2=st'/\∃l,c=(none,l,l)/\l<=n/\(∀i,i<l->b i=true)/\(∀i,l<=i->i<n->b i=false)) ?s2 ?f2 ?i2) ?p2)
    case i2=>
     refine ⟨rfl,_,_,rfl,by omega,by omega,by omega,fun i hi=>mono i (hint+lo) (by omega) h3 h4,fun i h6 h7=> ?_⟩;rcases h5 with h5 | ⟨h5,h8⟩
     . omega
     . exact monf (hint+of) i (by omega) h7 h8
    case f2=>
     rintro c st' ⟨rfl,l,h,rfl,g1,g2,g3,g4,g5⟩;have:l=h:=by omega
     subst this;exact ⟨rfl,l,rfl,g2,g4,g5⟩
    case s2=>
     rintro i c st' _ hi ⟨rfl,l,h,rfl,g1,g2,g3,g4,g5⟩
     dsimp only
     by_cases hge:l≥h
     . rw [if_pos hge];have:l=h:=by omega
       subst this;exact wpS_pure ⟨rfl,l,rfl,g2,g4,g5⟩
     . rw [if_neg hge];obtain ⟨x1,hx1,dx1,e1⟩:=hb (l+(h - l) / 2) (by omega);refine wpS_bind (wpS_bey H hk hx1 dx1 dk ?_);rw [e1]
       cases hm:b (l+(h - l) / 2)
       . dsimp only
         rw [if_neg (by simp)];exact wpS_pure ⟨rfl,l,_,rfl,by omega,by omega,by omega,g4,fun i h6 h7=>monf _ i h6 h7 hm⟩
       . dsimp only
         rw [if_pos rfl];exact wpS_pure ⟨rfl,_,h,rfl,by omega,by omega,by omega,fun i h6=>mono i _ (by omega) (by omega) hm,g5⟩
    case p2=>
     rintro c st' ⟨rfl,l,rfl,g2,g4,g5⟩;exact wpS_pure (q l g2 g4 g5)
end
end Ts
namespace Ts
open PySem PyProof.Rows
def Srt(κ:Keyed->Int)(l:List Keyed):Prop:=l.Pairwise fun x y=>κ x<=κ y
structure MI (κ:Keyed->Int) (al bl ol:List Keyed) (i j:Nat):Prop where
 hi:i<=al.length
 hj:j<=bl.length
 perm:ol.Perm (al.take i++bl.take j)
 srt:Srt κ ol
 la:∀x ∈ ol,∀y ∈ al.drop i,κ x<=κ y
 lb:∀x ∈ ol,∀y ∈ bl.drop j,κ x<=κ y
section
variable {κ:Keyed->Int} {al bl ol:List Keyed} {i j k:Nat} {x:Keyed}
theorem MI.symm(h:MI κ al bl ol i j):MI κ bl al ol j i:=⟨h.hj,h.hi,h.perm.trans List.perm_append_comm,h.srt,h.lb,h.la⟩
theorem Srt.drop(h:Srt κ al):Srt κ (al.drop i):=List.Pairwise.sublist (List.drop_sublist _ _) h
theorem Srt.take(h:Srt κ al):Srt κ (al.take i):=List.Pairwise.sublist (List.take_sublist _ _) h
theorem Srt.head(h:Srt κ al)(hx:al[i]? = some x):∀y ∈ al.drop i,κ x<=κ y:=by
 have hi:i<al.length:=(List.getElem?_eq_some_iff.mp hx).1;rw [List.drop_eq_getElem_cons hi];have e:=(List.getElem?_eq_some_iff.mp hx).2;have h2:=h.drop (i:=i);rw [List.drop_eq_getElem_cons hi,e] at h2
 rw [e];intro y hy;rcases List.mem_cons.mp hy with rfl | hy
 . exact Int.le_refl _
 . exact (List.pairwise_cons.mp h2).1 y hy
theorem Srt.app(h1:Srt κ al)(h2:Srt κ bl)(h:∀x ∈ al,∀y ∈ bl,κ x<=κ y):Srt κ (al++bl):=List.pairwise_append.mpr ⟨h1,h2,h⟩
theorem Srt.get(h:Srt κ al){x y:Keyed}(hij:i<=j)(hx:al[i]? = some x)(hy:al[j]? = some y):κ x<=κ y:=by
 refine h.head hx y ?_;refine List.mem_iff_getElem?.mpr ⟨j - i,?_⟩;rw [List.getElem?_drop,show i+(j - i)=j by omega];exact hy
theorem mem_chunk(h:x ∈ (al.drop i).take k):∃t,t<k/\al[i+t]? = some x:=by
 obtain ⟨t,ht⟩:=List.mem_iff_getElem?.mp h;rw [List.getElem?_take] at ht
 split at ht
 . rename_i hlt;rw [List.getElem?_drop] at ht
   exact ⟨t,hlt,ht⟩
 . cases ht
theorem chunk_drop{y:Keyed}(h:Srt κ al)(hx:x ∈ (al.drop i).take k)(hy:y ∈ al.drop (i+k)):κ x<=κ y:=by
 obtain ⟨t,ht,e⟩:=mem_chunk hx;obtain ⟨u,hu⟩:=List.mem_iff_getElem?.mp hy;rw [List.getElem?_drop] at hu
 exact h.get (by omega) e hu
theorem MI.stepA(h:MI κ al bl ol i j)(sa:Srt κ al)(hk:i+k<=al.length)(hle:∀x ∈ (al.drop i).take k,∀y ∈ bl.drop j,κ x<=κ y):MI κ al bl (ol++(al.drop i).take k) (i+k) j:=by
 have hm:∀y,y ∈ (al.drop i).take k->y ∈ al.drop i:=fun y hy=>List.mem_of_mem_take hy;refine ⟨hk,h.hj,?_,h.srt.app sa.drop.take fun x hx y hy=>h.la x hx y (hm y hy),?_,?_⟩
 . rw [List.take_add];refine (h.perm.append_right _).trans ?_;rw [List.append_assoc,List.append_assoc];exact List.perm_append_comm.append_left _
 . intro x hx y hy;rcases List.mem_append.mp hx with hx | hx
   . refine h.la x hx y ?_;rw [<-List.drop_drop] at hy
     exact List.mem_of_mem_drop hy
   . exact chunk_drop sa hx hy
 . intro x hx y hy;rcases List.mem_append.mp hx with hx | hx
   . exact h.lb x hx y hy
   . exact hle x hx y hy
theorem MI.fin(h:MI κ al bl ol i j){t:List Keyed}(ht:t.Perm (al.drop i++bl.drop j))(st:Srt κ t):(ol++t).Perm (al++bl)/\Srt κ (ol++t):=by
 constructor
 . refine (h.perm.append ht).trans ?_;have e1:(al++bl)=(al.take i++al.drop i)++(bl.take j++bl.drop j):=by rw [List.take_append_drop,List.take_append_drop]
   rw [e1,List.append_assoc,List.append_assoc];refine List.Perm.append_left _ ?_;rw [<-List.append_assoc, <-List.append_assoc];exact List.perm_append_comm.append_right _
 . refine h.srt.app st fun x hx y hy=> ?_;rcases List.mem_append.mp (ht.mem_iff.mp hy) with hy | hy
   . exact h.la x hx y hy
   . exact h.lb x hx y hy
theorem one_chunk(hx:al[i]? = some x):(al.drop i).take 1 = [x]:=by
 have hi:i<al.length:=(List.getElem?_eq_some_iff.mp hx).1;rw [List.drop_eq_getElem_cons hi,(List.getElem?_eq_some_iff.mp hx).2];rfl
theorem MI.one(h:MI κ al bl ol i j)(sa:Srt κ al)(hx:al[i]? = some x)(hle:∀y ∈ bl.drop j,κ x<=κ y):MI κ al bl (ol ++ [x]) (i+1) j:=by
 have hi:i<al.length:=(List.getElem?_eq_some_iff.mp hx).1;have:=h.stepA sa (k:=1) hi (by rw [one_chunk hx];intro y hy;rw [List.mem_singleton.mp hy];exact hle)
 rwa [one_chunk hx] at this
end
def Mia(κ:Keyed->Int)(a b out:Array Keyed)(i j:Nat):Prop:=MI κ a.toList b.toList out.toList i j
def Mr(κ:Keyed->Int)(a b r:Array Keyed):Prop:=r.toList.Perm (a.toList++b.toList)/\Srt κ r.toList
section
variable {κ:Keyed->Int} {a b out:Array Keyed} {i j k:Nat} {x:Keyed}
theorem Mia.pushA(h:Mia κ a b out i j)(sa:Srt κ a.toList)(hx:a[i]? = some x)(hle:∀y ∈ b.toList.drop j,κ x<=κ y):Mia κ a b (out.push x) (i+1) j:=by
 unfold Mia at h ⊢
 rw [Array.toList_push];exact h.one sa (by rw [Array.getElem?_toList];exact hx) hle
theorem Mia.pushB(h:Mia κ a b out i j)(sb:Srt κ b.toList)(hx:b[j]? = some x)(hle:∀y ∈ a.toList.drop i,κ x<=κ y):Mia κ a b (out.push x) i (j+1):=by
 unfold Mia at h ⊢
 rw [Array.toList_push];exact (h.symm.one sb (by rw [Array.getElem?_toList];exact hx) hle).symm
theorem ext_list{lo hi:Nat}:(a.extract lo hi).toList=(a.toList.drop lo).take (hi - lo):=by
 rw [Array.toList_extract,List.extract_eq_drop_take]
theorem ext_all{lo:Nat}:(a.extract lo a.size).toList=a.toList.drop lo:=by
 rw [ext_list,List.take_of_length_le];simp
theorem Mia.chunkA(h:Mia κ a b out i j)(sa:Srt κ a.toList)(hk:i+k<=a.size)(hle:∀t,t<k->∀x,a[i+t]? = some x->∀y ∈ b.toList.drop j,κ x<=κ y):Mia κ a b (out++a.extract i (i+k)) (i+k) j:=by
 unfold Mia at h ⊢
 rw [Array.toList_append,ext_list,show i+k - i=k by omega];refine h.stepA sa (by simpa using hk) fun x hx y hy=> ?_;obtain ⟨t,ht,e⟩:=mem_chunk hx;exact hle t ht x (by rw [<-Array.getElem?_toList];exact e) y hy
theorem Mia.chunkB(h:Mia κ a b out i j)(sb:Srt κ b.toList)(hk:j+k<=b.size)(hle:∀t,t<k->∀x,b[j+t]? = some x->∀y ∈ a.toList.drop i,κ x<=κ y):Mia κ a b (out++b.extract j (j+k)) i (j+k):=by
 unfold Mia at h ⊢
 rw [Array.toList_append,ext_list,show j+k - j=k by omega];refine (h.symm.stepA sb (by simpa using hk) fun x hx y hy=> ?_).symm;obtain ⟨t,ht,e⟩:=mem_chunk hx;exact hle t ht x (by rw [<-Array.getElem?_toList];exact e) y hy
theorem Mia.done(h:Mia κ a b out i j)(sa:Srt κ a.toList)(sb:Srt κ b.toList)(he:i=a.size\/j=b.size):Mr κ a b (out++a.extract i a.size++b.extract j b.size):=by
 unfold Mia at h
 unfold Mr;rw [Array.toList_append,Array.toList_append,ext_all,ext_all,List.append_assoc];refine h.fin (List.Perm.refl _) ?_;rcases he with he | he
 . rw [List.drop_eq_nil_of_le (by simp [he]),List.nil_append];exact sb.drop
 . rw [List.drop_eq_nil_of_le (i:=j) (by simp [he]),List.append_nil];exact sa.drop
theorem Mia.last(h:Mia κ a b out i j)(sb:Srt κ b.toList)(he:i+1=a.size)(hl:∀x,a[a.size - 1]? = some x->∀y ∈ b.toList,κ y<=κ x):Mr κ a b (out++b.extract j b.size++a.extract i a.size):=by
 unfold Mia at h
 unfold Mr;rw [Array.toList_append,Array.toList_append,ext_all,ext_all,List.append_assoc];have hi:i<a.toList.length:=by simp;omega
 have e:a.toList.drop i = [a.toList[i]]:=by rw [List.drop_eq_getElem_cons hi,List.drop_eq_nil_of_le (by simp;omega)]
 refine h.fin List.perm_append_comm ?_;refine sb.drop.app ?_ ?_
 . rw [e];exact List.pairwise_singleton _ _
 . rw [e];intro y hy z hz;rw [List.mem_singleton.mp hz];refine hl _ ?_ y (List.mem_of_mem_drop hy);rw [show a.size - 1=i by omega];simp
end
end Ts
namespace Ts
open PySem PyProof.Rows
def Sm(st st':SortSt):Prop:=kindOf st'=kindOf st/\arrOf st'=arrOf st/\pendingOf st'=pendingOf st/\failedOf st'=failedOf st
section
variable {prog:Program} {w:World} {A:Around} {E:Value->Shared->Prop} {s:Shared} {kd:SortKind} {D:Keyed->Prop} {κ:Keyed->Int}
theorem bey_right{key x:Keyed}:bey κ false key x=decide (κ x<=κ key):=by
 unfold bey;simp only [Bool.false_eq_true,if_false]
 by_cases h:κ key<κ x
 . rw [decide_eq_true h,decide_eq_false (by omega)];rfl
 . rw [decide_eq_false h,decide_eq_true (by omega)];rfl
theorem bey_left{key x:Keyed}:bey κ true key x=decide (κ x<κ key):=rfl
def atB(f:Keyed->Bool)(arr:Array Keyed)(i:Nat):Bool:=match arr[i]? with | some x=>f x | none=>false
theorem atB_some{f:Keyed->Bool}{arr:Array Keyed}{i:Nat}{x:Keyed}(h:arr[i]? = some x):atB f arr i=f x:=by unfold atB;rw [h]
theorem gal_any (H : LtOk prog w A E s kd D κ) {left : Bool} {key : Keyed} {arr : Array Keyed} {base n hint : Nat} {st : SortSt} {Q : Option Nat -> SortSt -> Prop} (hk : kindOf st = kd) (dk : D key) (hh : hint < n) (hn : base + n <= arr.size)
 (da:∀(i:Nat) x,arr[i]? = some x->D x) (sa:∀(i j:Nat) x y,base<=i->i<=j->j<base+n->arr[i]? = some x->arr[j]? = some y->κ x<=κ y)
 (q:∀k,k<=n->(∀t,t<k->∀x,arr[base+t]? = some x->bey κ left key x=true)->(∀t,k<=t->t<n->∀x,arr[base+t]? = some x->bey κ left key x=false)->Q (some k) st):wpS (model prog w) A E s (gal left key arr base n hint) Q st:=by
 refine wpS_gal H (b:=fun i=>atB (bey κ left key) arr (base+i)) hk dk hh (fun i hi=> ?_) (fun i j hij hj hb=> ?_) fun k h1 h2 h3=>q k h1 (fun t ht x hx=> ?_) fun t h4 h5 x hx=> ?_
 . have h1:arr[base+i]? = some arr[base+i]:=getElem?_pos arr (base+i) (by omega);exact ⟨_,h1,da _ _ h1,(atB_some h1).symm⟩
 . have h1:arr[base+i]? = some arr[base+i]:=getElem?_pos arr (base+i) (by omega);have h2:arr[base+j]? = some arr[base+j]:=getElem?_pos arr (base+j) (by omega);have h3:=sa _ _ _ _ (by omega) (by omega) (by omega) h1 h2;rw [atB_some h2] at hb
   rw [atB_some h1]
   cases left
   . rw [bey_right] at hb ⊢
     have:=of_decide_eq_true hb;exact decide_eq_true (by omega)
   . rw [bey_left] at hb ⊢
     have:=of_decide_eq_true hb;exact decide_eq_true (by omega)
 . have:=h2 t ht;rwa [atB_some hx] at this
 . have:=h3 t h4 h5;rwa [atB_some hx] at this
theorem gal_right (H : LtOk prog w A E s kd D κ) {key : Keyed} {arr : Array Keyed} {base n hint : Nat} {st : SortSt} {Q : Option Nat -> SortSt -> Prop} (hk : kindOf st = kd) (dk : D key) (hh : hint < n) (hn : base + n <= arr.size)
 (da:∀(i:Nat) x,arr[i]? = some x->D x) (sa:∀(i j:Nat) x y,base<=i->i<=j->j<base+n->arr[i]? = some x->arr[j]? = some y->κ x<=κ y)
 (q:∀k,k<=n->(∀t,t<k->∀x,arr[base+t]? = some x->κ x<=κ key)->(∀t,k<=t->t<n->∀x,arr[base+t]? = some x->κ key<κ x)->Q (some k) st):wpS (model prog w) A E s (gal false key arr base n hint) Q st:=
 gal_any H hk dk hh hn da sa fun k h1 h2 h3=>q k h1 (fun t ht x hx=>by have:=h2 t ht x hx;rw [bey_right] at this;exact of_decide_eq_true this) fun t h4 h5 x hx=>by have:=h3 t h4 h5 x hx;rw [bey_right] at this;have:=of_decide_eq_false this;omega
theorem gal_left (H : LtOk prog w A E s kd D κ) {key : Keyed} {arr : Array Keyed} {base n hint : Nat} {st : SortSt} {Q : Option Nat -> SortSt -> Prop} (hk : kindOf st = kd) (dk : D key) (hh : hint < n) (hn : base + n <= arr.size)
 (da:∀(i:Nat) x,arr[i]? = some x->D x) (sa:∀(i j:Nat) x y,base<=i->i<=j->j<base+n->arr[i]? = some x->arr[j]? = some y->κ x<=κ y)
 (q:∀k,k<=n->(∀t,t<k->∀x,arr[base+t]? = some x->κ x<κ key)->(∀t,k<=t->t<n->∀x,arr[base+t]? = some x->κ key<=κ x)->Q (some k) st):wpS (model prog w) A E s (gal true key arr base n hint) Q st:=
 gal_any H hk dk hh hn da sa fun k h1 h2 h3=>q k h1 (fun t ht x hx=>by have:=h2 t ht x hx;rw [bey_left] at this;exact of_decide_eq_true this) fun t h4 h5 x hx=>by have:=h3 t h4 h5 x hx;rw [bey_left] at this;have:=of_decide_eq_false this;omega
theorem Mia.nil{a b:Array Keyed}:Mia κ a b #[] 0 0:=⟨Nat.zero_le _,Nat.zero_le _,by simp,List.Pairwise.nil,fun x hx=>by simp at hx,fun x hx=>by simp at hx⟩
theorem Srt.at{a:Array Keyed}(h:Srt κ a.toList){i j:Nat}{x y:Keyed}(hij:i<=j)(hx:a[i]? = some x)(hy:a[j]? = some y):κ x<=κ y:=h.get hij (by rw [Array.getElem?_toList];exact hx) (by rw [Array.getElem?_toList];exact hy)
theorem Srt.hd{a:Array Keyed}(h:Srt κ a.toList){i:Nat}{x:Keyed}(hx:a[i]? = some x):∀y ∈ a.toList.drop i,κ x<=κ y:=h.head (by rw [Array.getElem?_toList];exact hx)
theorem mem_dropA{a:Array Keyed}{i:Nat}{y:Keyed}(h:y ∈ a.toList.drop i):∃t,a[i+t]? = some y/\i+t<a.size:=by
 obtain ⟨t,ht⟩:=List.mem_iff_getElem?.mp h;rw [List.getElem?_drop,Array.getElem?_toList] at ht
 exact ⟨t,ht,(Array.getElem?_eq_some_iff.mp ht).1⟩
end
end Ts
namespace Ts
open PySem PyProof.Rows
section
variable {prog:Program} {w:World} {A:Around} {E:Value->Shared->Prop} {s:Shared} {kd:SortKind} {D:Keyed->Prop} {κ:Keyed->Int}
theorem wpS_mLo (H : LtOk prog w A E s kd D κ) {a b : Array Keyed} {st : SortSt} {Q : Array Keyed -> SortSt -> Prop} (hk : kindOf st = kd) (da : ∀ (i : Nat) x, a[i]? = some x -> D x) (db : ∀ (i : Nat) x, b[i]? = some x -> D x) (ha : 0 < a.size) (hb : 0 < b.size) (sa : Srt κ a.toList) (sb : Srt κ b.toList)
 (hf:∀x y,a[0]? = some x->b[0]? = some y->κ y<=κ x) (hl:∀x,a[a.size - 1]? = some x->∀y ∈ b.toList,κ y<=κ x) (q:∀r st',Sm st st'->Mr κ a b r->Q r st'):wpS (model prog w) A E s (mLo a b) Q st:=by
 refine wpS_bind (wpS_lift (wpAny_rule ⟨rfl,?_⟩));obtain ⟨b0,eb0⟩:∃x,b[0]? = some x:=⟨_,getElem?_pos b 0 hb⟩;obtain ⟨a0,ea0⟩:∃x,a[0]? = some x:=⟨_,getElem?_pos a 0 ha⟩;refine wpS_bind (wpS_elem eb0 ?_)
 dsimp only
 have M0:Mia κ a b #[b0] 0 1:=Mia.nil.pushB sb eb0 fun y hy=>Int.le_trans (hf _ _ ea0 eb0) (sa.hd ea0 y hy);have Srf:Sm st st:=⟨rfl,rfl,rfl,rfl⟩
 by_cases e1:1=b.size
 . rw [if_pos (by simpa using e1)];exact wpS_pure (q _ _ Srf (M0.done sa sb (.inr e1)))
 rw [if_neg (by simpa using e1)]
 by_cases e2:0+1=a.size
 . rw [if_pos (by simpa using e2)];exact wpS_pure (q _ _ Srf (M0.last sb e2 hl))
 rw [if_neg (by simpa using e2)];refine wpS_bind (wpS_get ?_)
 refine wpS_bind (wpS_mono (wpS_forRange
  (I:=fun x c st'=>Sm st st'/\∃out ia ib g,c=(none,out,ia,ib,g)/\Mia κ a b out ia ib/\ia+1<a.size/\ib<b.size/\x+1<=ia+ib)
  (Q:=fun c st'=>Sm st st'/\∃r v,c=(some r,v)/\Mr κ a b r) ?s1 ?f1 ?i1) ?p1)
 case p1=>
  rintro c st' ⟨hs,r,v,rfl,hr⟩;exact wpS_pure (q r st' hs hr)
 case i1=>exact ⟨Srf,_,_,_,_,rfl,M0,by omega,by omega,by omega⟩
 case f1=>
  rintro c st' ⟨hs,out,ia,ib,g,rfl,hM,hia,hib,hpr⟩;omega
 case s1=>
  rintro x c st1 _ hx ⟨hs,out,ia,ib,g,rfl,hM,hia,hib,hpr⟩
  dsimp only
  refine wpS_bind (wpS_mono (wpS_forRange
   (I:=fun y c st'=>st'=st1/\∃out ia ib ac bc,c=(none,out,ia,ib,ac,bc)/\Mia κ a b out ia ib/\ia+1<a.size/\ib<b.size/\x+1+y<=ia+ib)
   (Q:=fun c st'=>st'=st1/\((∃r v,c=(some r,v)/\Mr κ a b r)\/∃out ia ib ac bc,c=(none,out,ia,ib,ac,bc)/\Mia κ a b out ia ib/\ia+1<a.size/\ib<b.size/\x+2<=ia+ib)) ?s2 ?f2 ?i2) ?p2)
  case i2=>exact ⟨rfl,_,_,_,_,_,rfl,hM,hia,hib,by omega⟩
  case f2=>
   rintro c st' ⟨rfl,out,ia,ib,ac,bc,rfl,hM,hia,hib,hpr⟩;omega
  case s2=>
   rintro y c st2 _ hy ⟨rfl,out,ia,ib,ac,bc,rfl,hM,hia,hib,hpr⟩;obtain ⟨xb,eb⟩:∃x,b[ib]? = some x:=⟨_,getElem?_pos b ib hib⟩;obtain ⟨xa,ea⟩:∃x,a[ia]? = some x:=⟨_,getElem?_pos a ia (by omega)⟩
   dsimp only
   refine wpS_bind (wpS_elem eb (wpS_bind (wpS_elem ea (wpS_bind (H _ _ _ _ (hs.1.trans hk) (db _ _ eb) (da _ _ ea) ?_)))))
   by_cases hlt:κ xb<κ xa
   . rw [decide_eq_true hlt]
     dsimp only
     rw [if_pos rfl];refine wpS_bind (wpS_elem eb ?_);have M2:=hM.pushB sb eb (fun y hy=>Int.le_trans (Int.le_of_lt hlt) (sa.hd ea y hy))
     by_cases e1:ib+1=b.size
     . rw [if_pos (by simpa using e1)];exact wpS_pure ⟨rfl, .inl ⟨_,_,rfl,M2.done sa sb (.inr e1)⟩⟩
     rw [if_neg (by simpa using e1)]
     split
     . exact wpS_pure ⟨rfl, .inr ⟨_,_,_,_,_,rfl,M2,hia,by omega,by omega⟩⟩
     . exact wpS_pure ⟨rfl,_,_,_,_,_,rfl,M2,hia,by omega,by omega⟩
   . rw [decide_eq_false hlt]
     dsimp only
     rw [if_neg (by simp)];refine wpS_bind (wpS_elem ea ?_);have M2:=hM.pushA sa ea (fun y hy=>Int.le_trans (Int.not_lt.mp hlt) (sb.hd eb y hy))
     by_cases e1:ia+1+1=a.size
     . rw [if_pos (by simpa using e1)];exact wpS_pure ⟨rfl, .inl ⟨_,_,rfl,M2.last sb e1 hl⟩⟩
     rw [if_neg (by simpa using e1)]
     split
     . exact wpS_pure ⟨rfl, .inr ⟨_,_,_,_,_,rfl,M2,by omega,by omega,by omega⟩⟩
     . exact wpS_pure ⟨rfl,_,_,_,_,_,rfl,M2,by omega,by omega,by omega⟩
  case p2=>
   rintro c st2 ⟨rfl,(⟨r,v,rfl,hr⟩ | ⟨out,ia,ib,ac,bc,rfl,hM,hia,hib,hpr⟩)⟩
   . exact wpS_pure ⟨hs,_,_,rfl,hr⟩
   . dsimp only
     refine wpS_bind (wpS_lift (wpAny_rule ⟨rfl,?_⟩))
     refine wpS_bind (wpS_mono (wpS_forRange
      (I:=fun y c st'=>Sm st st'/\∃out ia ib g ac bc,c=(none,out,ia,ib,g,ac,bc)/\Mia κ a b out ia ib/\ia+1<a.size/\ib<b.size/\x+2<=ia+ib)
      (Q:=fun c st'=>Sm st st'/\((∃r v,c=(some r,v)/\Mr κ a b r)\/∃out ia ib g ac bc,c=(none,out,ia,ib,g,ac,bc)/\Mia κ a b out ia ib/\ia+1<a.size/\ib<b.size/\x+2<=ia+ib)) ?s3 ?f3 ?i3) ?p3)
     case i3=>exact ⟨hs,_,_,_,_,_,_,rfl,hM,hia,hib,hpr⟩
     case f3=>
      rintro c st' ⟨hs',h⟩;exact ⟨hs', .inr h⟩
     case p3=>
      rintro c st3 ⟨hs3,(⟨r,v,rfl,hr⟩ | ⟨out,ia,ib,g,ac,bc,rfl,hM,hia,hib,hpr⟩)⟩
      . exact wpS_pure ⟨hs3,_,_,rfl,hr⟩
      . dsimp only
        exact wpS_bind (wpS_modify (wpS_pure ⟨⟨hs3.1,hs3.2.1,hs3.2.2.1,hs3.2.2.2⟩,_,_,_,_,rfl,hM,hia,hib,by omega⟩))
     case s3=>
      rintro y c st3 _ hy ⟨hs3,out,ia,ib,g,ac,bc,rfl,hM,hia,hib,hpr⟩;obtain ⟨xb,eb⟩:∃x,b[ib]? = some x:=⟨_,getElem?_pos b ib hib⟩
      dsimp only
      by_cases hg:g>1
      . rw [if_pos hg];refine wpS_bind (wpS_modify ?_);have hs4:Sm st _:=⟨hs3.1,hs3.2.1,hs3.2.2.1,hs3.2.2.2⟩;refine wpS_bind (wpS_elem eb ?_);refine wpS_bind (gal_right H (hs3.1.trans hk) (db _ _ eb) (by omega) (by omega) da (fun i j x y _ hij _ hx hy=>sa.at hij hx hy) fun k k1 k2 k3' => ?_)
        dsimp only
        have k3:∀t x,a[ia+k+t]? = some x->κ xb<κ x:=fun t x hx=>k3' (k+t) (by omega) (by have:=(Array.getElem?_eq_some_iff.mp hx).1;omega) x (by rw [<-Nat.add_assoc];exact hx)
        by_cases hk0:k>0
        . rw [if_pos hk0];have M1:=hM.chunkA (k:=k) sa (by omega) (fun t ht x hx y hy=>Int.le_trans (k2 t ht x hx) (sb.hd eb y hy))
          by_cases e1:ia+k+1=a.size
          . rw [if_pos (by simpa using e1)];exact wpS_pure ⟨hs4, .inl ⟨_,_,rfl,M1.last sb e1 hl⟩⟩
          rw [if_neg (by simpa using e1)]
          by_cases e2:ia+k=a.size
          . rw [if_pos (by simpa using e2)];exact wpS_pure ⟨hs4, .inl ⟨_,_,rfl,M1.done sa sb (.inl e2)⟩⟩
          rw [if_neg (by simpa using e2)]
          replace k3:∀x,a[ia+k]? = some x->κ xb<κ x:=fun x hx=>k3 0 x hx
          obtain ⟨xa,ea⟩:∃x,a[(ia+k)]? = some x:=⟨_,getElem?_pos a _ (by omega)⟩;have R1:κ xb<κ xa:=k3 _ ea;refine wpS_bind (wpS_elem eb ?_);have M2:=M1.pushB sb eb (fun y hy=>Int.le_trans (Int.le_of_lt R1) (sa.hd ea y hy))
          by_cases e3:ib+1=b.size
          . rw [if_pos (by simpa using e3)];exact wpS_pure ⟨hs4, .inl ⟨_,_,rfl,M2.done sa sb (.inr e3)⟩⟩
          rw [if_neg (by simpa using e3)];refine wpS_bind (wpS_elem ea ?_);refine wpS_bind (gal_left H (hs4.1.trans hk) (da _ _ ea) (by omega) (by omega) db (fun i j x y _ hij _ hx hy=>sb.at hij hx hy) fun k2 l1 l2 l3=> ?_)
          dsimp only
          have R2:∀y ∈ b.toList.drop (ib+1+k2),κ xa<=κ y:=fun y hy=>by
           obtain ⟨t,ht,ht2⟩:=mem_dropA hy;exact l3 (k2+t) (by omega) (by omega) y (by rw [<-Nat.add_assoc];exact ht)
          by_cases hk2:k2>0
          . rw [if_pos hk2];have M3:=M2.chunkB (k:=k2) sb (by omega) (fun t ht x hx y hy=>Int.le_trans (Int.le_of_lt (l2 t ht x hx)) (sa.hd ea y hy))
            by_cases e5:ib+1+k2=b.size
            . rw [if_pos (by simpa using e5)];exact wpS_pure ⟨hs4, .inl ⟨_,_,rfl,M3.done sa sb (.inr e5)⟩⟩
            . rw [if_neg (by simpa using e5)];refine wpS_bind (wpS_elem ea ?_);have M4:=M3.pushA sa ea R2
              by_cases e4:(ia+k)+1+1=a.size
              . rw [if_pos (by simpa using e4)];exact wpS_pure ⟨hs4, .inl ⟨_,_,rfl,M4.last sb e4 hl⟩⟩
              . rw [if_neg (by simpa using e4)]
                split
                . exact wpS_pure ⟨hs4, .inr ⟨_,_,_,_,_,_,rfl,M4,by omega,by omega,by omega⟩⟩
                . exact wpS_pure ⟨hs4,_,_,_,_,_,_,rfl,M4,by omega,by omega,by omega⟩
          . rw [if_neg hk2];have hz2:k2=0:=by omega
            subst hz2;refine wpS_bind (wpS_elem ea ?_);have M4:=M2.pushA sa ea R2
            by_cases e4:(ia+k)+1+1=a.size
            . rw [if_pos (by simpa using e4)];exact wpS_pure ⟨hs4, .inl ⟨_,_,rfl,M4.last sb e4 hl⟩⟩
            . rw [if_neg (by simpa using e4)]
              split
              . exact wpS_pure ⟨hs4, .inr ⟨_,_,_,_,_,_,rfl,M4,by omega,by omega,by omega⟩⟩
              . exact wpS_pure ⟨hs4,_,_,_,_,_,_,rfl,M4,by omega,by omega,by omega⟩
        . rw [if_neg hk0];have hz:k=0:=by omega
          subst hz
          replace k3:∀x,a[ia]? = some x->κ xb<κ x:=fun x hx=>k3 0 x hx
          obtain ⟨xa,ea⟩:∃x,a[ia]? = some x:=⟨_,getElem?_pos a _ (by omega)⟩;have R1:κ xb<κ xa:=k3 _ ea;refine wpS_bind (wpS_elem eb ?_);have M2:=hM.pushB sb eb (fun y hy=>Int.le_trans (Int.le_of_lt R1) (sa.hd ea y hy))
          by_cases e3:ib+1=b.size
          . rw [if_pos (by simpa using e3)];exact wpS_pure ⟨hs4, .inl ⟨_,_,rfl,M2.done sa sb (.inr e3)⟩⟩
          rw [if_neg (by simpa using e3)];refine wpS_bind (wpS_elem ea ?_);refine wpS_bind (gal_left H (hs4.1.trans hk) (da _ _ ea) (by omega) (by omega) db (fun i j x y _ hij _ hx hy=>sb.at hij hx hy) fun k2 l1 l2 l3=> ?_)
          dsimp only
          have R2:∀y ∈ b.toList.drop (ib+1+k2),κ xa<=κ y:=fun y hy=>by
           obtain ⟨t,ht,ht2⟩:=mem_dropA hy;exact l3 (k2+t) (by omega) (by omega) y (by rw [<-Nat.add_assoc];exact ht)
          by_cases hk2:k2>0
          . rw [if_pos hk2];have M3:=M2.chunkB (k:=k2) sb (by omega) (fun t ht x hx y hy=>Int.le_trans (Int.le_of_lt (l2 t ht x hx)) (sa.hd ea y hy))
            by_cases e5:ib+1+k2=b.size
            . rw [if_pos (by simpa using e5)];exact wpS_pure ⟨hs4, .inl ⟨_,_,rfl,M3.done sa sb (.inr e5)⟩⟩
            . rw [if_neg (by simpa using e5)];refine wpS_bind (wpS_elem ea ?_);have M4:=M3.pushA sa ea R2
              by_cases e4:ia+1+1=a.size
              . rw [if_pos (by simpa using e4)];exact wpS_pure ⟨hs4, .inl ⟨_,_,rfl,M4.last sb e4 hl⟩⟩
              . rw [if_neg (by simpa using e4)]
                split
                . exact wpS_pure ⟨hs4, .inr ⟨_,_,_,_,_,_,rfl,M4,by omega,by omega,by omega⟩⟩
                . exact wpS_pure ⟨hs4,_,_,_,_,_,_,rfl,M4,by omega,by omega,by omega⟩
          . rw [if_neg hk2];have hz2:k2=0:=by omega
            subst hz2;refine wpS_bind (wpS_elem ea ?_);have M4:=M2.pushA sa ea R2
            by_cases e4:ia+1+1=a.size
            . rw [if_pos (by simpa using e4)];exact wpS_pure ⟨hs4, .inl ⟨_,_,rfl,M4.last sb e4 hl⟩⟩
            . rw [if_neg (by simpa using e4)]
              split
              . exact wpS_pure ⟨hs4, .inr ⟨_,_,_,_,_,_,rfl,M4,by omega,by omega,by omega⟩⟩
              . exact wpS_pure ⟨hs4,_,_,_,_,_,_,rfl,M4,by omega,by omega,by omega⟩
      . rw [if_neg hg];refine wpS_bind (wpS_modify ?_);have hs4:Sm st _:=⟨hs3.1,hs3.2.1,hs3.2.2.1,hs3.2.2.2⟩;refine wpS_bind (wpS_elem eb ?_);refine wpS_bind (gal_right H (hs3.1.trans hk) (db _ _ eb) (by omega) (by omega) da (fun i j x y _ hij _ hx hy=>sa.at hij hx hy) fun k k1 k2 k3' => ?_)
        dsimp only
        have k3:∀t x,a[ia+k+t]? = some x->κ xb<κ x:=fun t x hx=>k3' (k+t) (by omega) (by have:=(Array.getElem?_eq_some_iff.mp hx).1;omega) x (by rw [<-Nat.add_assoc];exact hx)
        by_cases hk0:k>0
        . rw [if_pos hk0];have M1:=hM.chunkA (k:=k) sa (by omega) (fun t ht x hx y hy=>Int.le_trans (k2 t ht x hx) (sb.hd eb y hy))
          by_cases e1:ia+k+1=a.size
          . rw [if_pos (by simpa using e1)];exact wpS_pure ⟨hs4, .inl ⟨_,_,rfl,M1.last sb e1 hl⟩⟩
          rw [if_neg (by simpa using e1)]
          by_cases e2:ia+k=a.size
          . rw [if_pos (by simpa using e2)];exact wpS_pure ⟨hs4, .inl ⟨_,_,rfl,M1.done sa sb (.inl e2)⟩⟩
          rw [if_neg (by simpa using e2)]
          replace k3:∀x,a[ia+k]? = some x->κ xb<κ x:=fun x hx=>k3 0 x hx
          obtain ⟨xa,ea⟩:∃x,a[(ia+k)]? = some x:=⟨_,getElem?_pos a _ (by omega)⟩;have R1:κ xb<κ xa:=k3 _ ea;refine wpS_bind (wpS_elem eb ?_);have M2:=M1.pushB sb eb (fun y hy=>Int.le_trans (Int.le_of_lt R1) (sa.hd ea y hy))
          by_cases e3:ib+1=b.size
          . rw [if_pos (by simpa using e3)];exact wpS_pure ⟨hs4, .inl ⟨_,_,rfl,M2.done sa sb (.inr e3)⟩⟩
          rw [if_neg (by simpa using e3)];refine wpS_bind (wpS_elem ea ?_);refine wpS_bind (gal_left H (hs4.1.trans hk) (da _ _ ea) (by omega) (by omega) db (fun i j x y _ hij _ hx hy=>sb.at hij hx hy) fun k2 l1 l2 l3=> ?_)
          dsimp only
          have R2:∀y ∈ b.toList.drop (ib+1+k2),κ xa<=κ y:=fun y hy=>by
           obtain ⟨t,ht,ht2⟩:=mem_dropA hy;exact l3 (k2+t) (by omega) (by omega) y (by rw [<-Nat.add_assoc];exact ht)
          by_cases hk2:k2>0
          . rw [if_pos hk2];have M3:=M2.chunkB (k:=k2) sb (by omega) (fun t ht x hx y hy=>Int.le_trans (Int.le_of_lt (l2 t ht x hx)) (sa.hd ea y hy))
            by_cases e5:ib+1+k2=b.size
            . rw [if_pos (by simpa using e5)];exact wpS_pure ⟨hs4, .inl ⟨_,_,rfl,M3.done sa sb (.inr e5)⟩⟩
            . rw [if_neg (by simpa using e5)];refine wpS_bind (wpS_elem ea ?_);have M4:=M3.pushA sa ea R2
              by_cases e4:(ia+k)+1+1=a.size
              . rw [if_pos (by simpa using e4)];exact wpS_pure ⟨hs4, .inl ⟨_,_,rfl,M4.last sb e4 hl⟩⟩
              . rw [if_neg (by simpa using e4)]
                split
                . exact wpS_pure ⟨hs4, .inr ⟨_,_,_,_,_,_,rfl,M4,by omega,by omega,by omega⟩⟩
                . exact wpS_pure ⟨hs4,_,_,_,_,_,_,rfl,M4,by omega,by omega,by omega⟩
          . rw [if_neg hk2];have hz2:k2=0:=by omega
            subst hz2;refine wpS_bind (wpS_elem ea ?_);have M4:=M2.pushA sa ea R2
            by_cases e4:(ia+k)+1+1=a.size
            . rw [if_pos (by simpa using e4)];exact wpS_pure ⟨hs4, .inl ⟨_,_,rfl,M4.last sb e4 hl⟩⟩
            . rw [if_neg (by simpa using e4)]
              split
              . exact wpS_pure ⟨hs4, .inr ⟨_,_,_,_,_,_,rfl,M4,by omega,by omega,by omega⟩⟩
              . exact wpS_pure ⟨hs4,_,_,_,_,_,_,rfl,M4,by omega,by omega,by omega⟩
        . rw [if_neg hk0];have hz:k=0:=by omega
          subst hz
          replace k3:∀x,a[ia]? = some x->κ xb<κ x:=fun x hx=>k3 0 x hx
          obtain ⟨xa,ea⟩:∃x,a[ia]? = some x:=⟨_,getElem?_pos a _ (by omega)⟩;have R1:κ xb<κ xa:=k3 _ ea;refine wpS_bind (wpS_elem eb ?_);have M2:=hM.pushB sb eb (fun y hy=>Int.le_trans (Int.le_of_lt R1) (sa.hd ea y hy))
          by_cases e3:ib+1=b.size
          . rw [if_pos (by simpa using e3)];exact wpS_pure ⟨hs4, .inl ⟨_,_,rfl,M2.done sa sb (.inr e3)⟩⟩
          rw [if_neg (by simpa using e3)];refine wpS_bind (wpS_elem ea ?_);refine wpS_bind (gal_left H (hs4.1.trans hk) (da _ _ ea) (by omega) (by omega) db (fun i j x y _ hij _ hx hy=>sb.at hij hx hy) fun k2 l1 l2 l3=> ?_)
          dsimp only
          have R2:∀y ∈ b.toList.drop (ib+1+k2),κ xa<=κ y:=fun y hy=>by
           obtain ⟨t,ht,ht2⟩:=mem_dropA hy;exact l3 (k2+t) (by omega) (by omega) y (by rw [<-Nat.add_assoc];exact ht)
          by_cases hk2:k2>0
          . rw [if_pos hk2];have M3:=M2.chunkB (k:=k2) sb (by omega) (fun t ht x hx y hy=>Int.le_trans (Int.le_of_lt (l2 t ht x hx)) (sa.hd ea y hy))
            by_cases e5:ib+1+k2=b.size
            . rw [if_pos (by simpa using e5)];exact wpS_pure ⟨hs4, .inl ⟨_,_,rfl,M3.done sa sb (.inr e5)⟩⟩
            . rw [if_neg (by simpa using e5)];refine wpS_bind (wpS_elem ea ?_);have M4:=M3.pushA sa ea R2
              by_cases e4:ia+1+1=a.size
              . rw [if_pos (by simpa using e4)];exact wpS_pure ⟨hs4, .inl ⟨_,_,rfl,M4.last sb e4 hl⟩⟩
              . rw [if_neg (by simpa using e4)]
                split
                . exact wpS_pure ⟨hs4, .inr ⟨_,_,_,_,_,_,rfl,M4,by omega,by omega,by omega⟩⟩
                . exact wpS_pure ⟨hs4,_,_,_,_,_,_,rfl,M4,by omega,by omega,by omega⟩
          . rw [if_neg hk2];have hz2:k2=0:=by omega
            subst hz2;refine wpS_bind (wpS_elem ea ?_);have M4:=M2.pushA sa ea R2
            by_cases e4:ia+1+1=a.size
            . rw [if_pos (by simpa using e4)];exact wpS_pure ⟨hs4, .inl ⟨_,_,rfl,M4.last sb e4 hl⟩⟩
            . rw [if_neg (by simpa using e4)]
              split
              . exact wpS_pure ⟨hs4, .inr ⟨_,_,_,_,_,_,rfl,M4,by omega,by omega,by omega⟩⟩
              . exact wpS_pure ⟨hs4,_,_,_,_,_,_,rfl,M4,by omega,by omega,by omega⟩
end
end Ts
namespace Ts
open PySem PyProof.Rows
structure MH (κ:Keyed->Int) (al bl ol:List Keyed) (i j:Nat):Prop where
 hi:i<=al.length
 hj:j<=bl.length
 perm:ol.Perm (al.drop i++bl.drop j)
 srt:ol.Pairwise fun x y=>κ y<=κ x
 la:∀x ∈ ol,∀y ∈ al.take i,κ y<=κ x
 lb:∀x ∈ ol,∀y ∈ bl.take j,κ y<=κ x
section
variable {κ:Keyed->Int} {al bl ol:List Keyed} {i j k:Nat} {x:Keyed}
theorem MH.symm(h:MH κ al bl ol i j):MH κ bl al ol j i:=⟨h.hj,h.hi,h.perm.trans List.perm_append_comm,h.srt,h.lb,h.la⟩
theorem mem_takeL{y:Keyed}(h:y ∈ al.take i):∃t,t<i/\al[t]? = some y:=by
 obtain ⟨t,ht⟩:=List.mem_iff_getElem?.mp h;rw [List.getElem?_take] at ht
 split at ht
 . exact ⟨t,by assumption,ht⟩
 . cases ht
theorem MH.stepA(h:MH κ al bl ol i j)(sa:Srt κ al)(hk:k<=i)(hle:∀x ∈ (al.drop k).take (i - k),∀y ∈ bl.take j,κ y<=κ x):MH κ al bl (ol++((al.drop k).take (i - k)).reverse) k j:=by
 have hc:∀y,y ∈ (al.drop k).take (i - k)->y ∈ al.take i:=fun y hy=>by
  obtain ⟨t,ht,e⟩:=mem_chunk hy;refine List.mem_iff_getElem?.mpr ⟨k+t,?_⟩;rw [List.getElem?_take,if_pos (by omega)];exact e
 have hd:(al.drop k).take (i - k)++al.drop i=al.drop k:=by
  have e:=List.take_append_drop (i - k) (al.drop k)
  rwa [List.drop_drop,show k+(i - k)=i by omega] at e
 refine ⟨Nat.le_trans hk h.hi,h.hj,?_,List.pairwise_append.mpr ⟨h.srt,List.pairwise_reverse.mpr sa.drop.take,fun x hx y hy=>h.la x hx y (hc y (List.mem_reverse.mp hy))⟩,?_,?_⟩
 . refine (h.perm.append (List.reverse_perm _)).trans ?_;refine List.perm_append_comm.trans ?_;rw [<-List.append_assoc,hd]
 . intro x hx y hy;obtain ⟨u,hu,eu⟩:=mem_takeL hy;rcases List.mem_append.mp hx with hx | hx
   . refine h.la x hx y (List.mem_iff_getElem?.mpr ⟨u,?_⟩);rw [List.getElem?_take,if_pos (by omega)];exact eu
   . obtain ⟨t,ht,e⟩:=mem_chunk (List.mem_reverse.mp hx);exact sa.get (by omega) eu e
 . intro x hx y hy;rcases List.mem_append.mp hx with hx | hx
   . exact h.lb x hx y hy
   . exact hle x (List.mem_reverse.mp hx) y hy
theorem MH.fin(h:MH κ al bl ol i j){t:List Keyed}(ht:t.Perm (al.take i++bl.take j))(st:Srt κ t):(t++ol.reverse).Perm (al++bl)/\Srt κ (t++ol.reverse):=by
 constructor
 . refine (ht.append ((List.reverse_perm _).trans h.perm)).trans ?_;have e1:(al++bl)=(al.take i++al.drop i)++(bl.take j++bl.drop j):=by rw [List.take_append_drop,List.take_append_drop]
   rw [e1,List.append_assoc,List.append_assoc];refine List.Perm.append_left _ ?_;rw [<-List.append_assoc, <-List.append_assoc];exact List.perm_append_comm.append_right _
 . refine st.app (List.pairwise_reverse.mpr h.srt) fun x hx y hy=> ?_;rcases List.mem_append.mp (ht.mem_iff.mp hx) with hx | hx
   . exact h.la y (List.mem_reverse.mp hy) x hx
   . exact h.lb y (List.mem_reverse.mp hy) x hx
theorem MH.one(h:MH κ al bl ol i j)(sa:Srt κ al)(hi:0<i)(hx:al[i - 1]? = some x)(hle:∀y ∈ bl.take j,κ y<=κ x):MH κ al bl (ol ++ [x]) (i - 1) j:=by
 have e:(al.drop (i - 1)).take (i - (i - 1)) = [x]:=by rw [show i - (i - 1)=1 by omega];exact one_chunk hx
 have:=h.stepA sa (k:=i - 1) (by omega) (by rw [e];intro y hy;rw [List.mem_singleton.mp hy];exact hle)
 rwa [e] at this
end
def Mha(κ:Keyed->Int)(a b out:Array Keyed)(i j:Nat):Prop:=MH κ a.toList b.toList out.toList i j
section
variable {κ:Keyed->Int} {a b out:Array Keyed} {i j k:Nat} {x:Keyed}
theorem Mha.pushA(h:Mha κ a b out i j)(sa:Srt κ a.toList)(hi:0<i)(hx:a[i - 1]? = some x)(hle:∀y ∈ b.toList.take j,κ y<=κ x):Mha κ a b (out.push x) (i - 1) j:=by
 unfold Mha at h ⊢
 rw [Array.toList_push];exact h.one sa hi (by rw [Array.getElem?_toList];exact hx) hle
theorem Mha.pushB(h:Mha κ a b out i j)(sb:Srt κ b.toList)(hj:0<j)(hx:b[j - 1]? = some x)(hle:∀y ∈ a.toList.take i,κ y<=κ x):Mha κ a b (out.push x) i (j - 1):=by
 unfold Mha at h ⊢
 rw [Array.toList_push];exact (h.symm.one sb hj (by rw [Array.getElem?_toList];exact hx) hle).symm
theorem Mha.chunkA(h:Mha κ a b out i j)(sa:Srt κ a.toList)(hk:k<=i)(hle:∀t,k<=t->t<i->∀x,a[t]? = some x->∀y ∈ b.toList.take j,κ y<=κ x):Mha κ a b (out++(a.extract k i).reverse) k j:=by
 unfold Mha at h ⊢
 rw [Array.toList_append,Array.toList_reverse,ext_list];refine h.stepA sa hk fun x hx y hy=> ?_;obtain ⟨t,ht,e⟩:=mem_chunk hx;exact hle (k+t) (by omega) (by omega) x (by rw [<-Array.getElem?_toList];exact e) y hy
theorem Mha.chunkB(h:Mha κ a b out i j)(sb:Srt κ b.toList)(hk:k<=j)(hle:∀t,k<=t->t<j->∀x,b[t]? = some x->∀y ∈ a.toList.take i,κ y<=κ x):Mha κ a b (out++(b.extract k j).reverse) i k:=by
 unfold Mha at h ⊢
 rw [Array.toList_append,Array.toList_reverse,ext_list];refine (h.symm.stepA sb hk fun x hx y hy=> ?_).symm;obtain ⟨t,ht,e⟩:=mem_chunk hx;exact hle (k+t) (by omega) (by omega) x (by rw [<-Array.getElem?_toList];exact e) y hy
theorem ext_zero:(a.extract 0 i).toList=a.toList.take i:=by rw [ext_list];rfl
theorem Mha.done(h:Mha κ a b out i j)(sa:Srt κ a.toList)(sb:Srt κ b.toList)(he:i=0\/j=0):Mr κ a b (a.extract 0 i++b.extract 0 j++out.reverse):=by
 unfold Mha at h
 unfold Mr;rw [Array.toList_append,Array.toList_append,ext_zero,ext_zero,Array.toList_reverse];refine h.fin (List.Perm.refl _) ?_;rcases he with rfl | rfl
 . rw [List.take_zero,List.nil_append];exact sb.take
 . rw [List.take_zero,List.append_nil];exact sa.take
theorem Mha.first(h:Mha κ a b out i j)(sa:Srt κ a.toList)(he:j=1)(hf:∀y,b[0]? = some y->∀x ∈ a.toList,κ y<=κ x):Mr κ a b (b.extract 0 j++a.extract 0 i++out.reverse):=by
 unfold Mha at h
 unfold Mr;subst he;rw [Array.toList_append,Array.toList_append,ext_zero,ext_zero,Array.toList_reverse];refine h.fin List.perm_append_comm ?_;have hb:0<b.size:=by have:=h.hj;rw [Array.length_toList] at this;omega
 have e:b.toList.take 1 = [b[0]]:=by
  have:=one_chunk (al:=b.toList) (i:=0) (x:=b[0]) (by simp)
  rwa [List.drop_zero] at this
 rw [e];refine Srt.app (List.pairwise_singleton _ _) sa.take fun y hy x hx=> ?_;rw [List.mem_singleton.mp hy];exact hf _ (getElem?_pos b 0 hb) x (List.mem_of_mem_take hx)
theorem Mha.nil:Mha κ a b #[] a.size b.size:=⟨by simp,by simp,by simp,List.Pairwise.nil,fun x hx=>by simp at hx,fun x hx=>by simp at hx⟩
theorem mem_takeA{y:Keyed}(h:y ∈ a.toList.take i):∃t,t<i/\a[t]? = some y:=by
 obtain ⟨t,ht,e⟩:=mem_takeL h;exact ⟨t,ht,by rw [<-Array.getElem?_toList];exact e⟩
theorem Srt.tl(h:Srt κ a.toList)(hx:a[i - 1]? = some x):∀y ∈ a.toList.take i,κ y<=κ x:=fun y hy=>by
 obtain ⟨t,ht,e⟩:=mem_takeA hy;exact h.at (by omega) e hx
end
end Ts
namespace Ts
open PySem PyProof.Rows
section
variable {prog:Program} {w:World} {A:Around} {E:Value->Shared->Prop} {s:Shared} {kd:SortKind} {D:Keyed->Prop} {κ:Keyed->Int}
theorem wpS_mHi (H : LtOk prog w A E s kd D κ) {a b : Array Keyed} {st : SortSt} {Q : Array Keyed -> SortSt -> Prop} (hk : kindOf st = kd) (da : ∀ (i : Nat) x, a[i]? = some x -> D x) (db : ∀ (i : Nat) x, b[i]? = some x -> D x) (ha : 0 < a.size) (hb : 0 < b.size) (sa : Srt κ a.toList) (sb : Srt κ b.toList)
 (hf:∀y,b[0]? = some y->∀x ∈ a.toList,κ y<=κ x) (hl:∀x,a[a.size - 1]? = some x->∀y ∈ b.toList,κ y<=κ x) (q:∀r st',Sm st st'->Mr κ a b r->Q r st'):wpS (model prog w) A E s (mHi a b) Q st:=by
 refine wpS_bind (wpS_lift (wpAny_rule ⟨rfl,?_⟩));obtain ⟨a0,ea0⟩:∃x,a[a.size - 1]? = some x:=⟨_,getElem?_pos a (a.size - 1) (by omega)⟩;refine wpS_bind (wpS_elem ea0 ?_)
 dsimp only
 have M0:Mha κ a b #[a0] (a.size - 1) b.size:=Mha.nil.pushA sa ha ea0 fun y hy=>hl _ ea0 y (List.mem_of_mem_take hy);have Srf:Sm st st:=⟨rfl,rfl,rfl,rfl⟩
 by_cases e1:a.size - 1=0
 . rw [if_pos (by simpa using e1)];exact wpS_pure (q _ _ Srf (M0.done sa sb (.inl e1)))
 rw [if_neg (by simpa using e1)]
 by_cases e2:b.size=1
 . rw [if_pos (by simpa using e2)];exact wpS_pure (q _ _ Srf (M0.first sa e2 hf))
 rw [if_neg (by simpa using e2)];refine wpS_bind (wpS_get ?_)
 refine wpS_bind (wpS_mono (wpS_forRange
  (I:=fun x c st'=>Sm st st'/\∃na nb out g,c=(none,na,nb,out,g)/\Mha κ a b out na nb/\0<na/\1<nb/\x+1+na+nb<=a.size+b.size)
  (Q:=fun c st'=>Sm st st'/\∃r v,c=(some r,v)/\Mr κ a b r) ?s1 ?f1 ?i1) ?p1)
 case p1=>
  rintro c st' ⟨hs,r,v,rfl,hr⟩;exact wpS_pure (q r st' hs hr)
 case i1=>exact ⟨Srf,_,_,_,_,rfl,M0,by omega,by omega,by omega⟩
 case f1=>
  rintro c st' ⟨hs,na,nb,out,g,rfl,hM,hna,hnb,hpr⟩;omega
 case s1=>
  rintro x c st1 _ hx ⟨hs,na,nb,out,g,rfl,hM,hna,hnb,hpr⟩
  dsimp only
  refine wpS_bind (wpS_mono (wpS_forRange
   (I:=fun y c st'=>st'=st1/\∃na nb out ac bc,c=(none,na,nb,out,ac,bc)/\Mha κ a b out na nb/\0<na/\1<nb/\x+1+y+na+nb<=a.size+b.size)
   (Q:=fun c st'=>st'=st1/\((∃r v,c=(some r,v)/\Mr κ a b r)\/∃na nb out ac bc,c=(none,na,nb,out,ac,bc)/\Mha κ a b out na nb/\0<na/\1<nb/\x+2+na+nb<=a.size+b.size)) ?s2 ?f2 ?i2) ?p2)
  case i2=>exact ⟨rfl,_,_,_,_,_,rfl,hM,hna,hnb,by omega⟩
  case f2=>
   rintro c st' ⟨rfl,na,nb,out,ac,bc,rfl,hM,hna,hnb,hpr⟩;omega
  case s2=>
   rintro y c st2 _ hy ⟨rfl,na,nb,out,ac,bc,rfl,hM,hna,hnb,hpr⟩;have hi1:na<=a.size:=by have:=hM.hi;rwa [Array.length_toList] at this
   have hj1:nb<=b.size:=by have:=hM.hj;rwa [Array.length_toList] at this
   obtain ⟨xb,eb⟩:∃x,b[nb - 1]? = some x:=⟨_,getElem?_pos b _ (by omega)⟩;obtain ⟨xa,ea⟩:∃x,a[na - 1]? = some x:=⟨_,getElem?_pos a _ (by omega)⟩
   dsimp only
   refine wpS_bind (wpS_elem eb (wpS_bind (wpS_elem ea (wpS_bind (H _ _ _ _ (hs.1.trans hk) (db _ _ eb) (da _ _ ea) ?_)))))
   by_cases hlt:κ xb<κ xa
   . rw [decide_eq_true hlt]
     dsimp only
     rw [if_pos rfl];refine wpS_bind (wpS_elem ea ?_);have M2:=hM.pushA sa hna ea (fun y hy=>Int.le_trans (sb.tl eb y hy) (Int.le_of_lt hlt))
     by_cases e1:na - 1=0
     . rw [if_pos (by simpa using e1)];exact wpS_pure ⟨rfl, .inl ⟨_,_,rfl,M2.done sa sb (.inl e1)⟩⟩
     rw [if_neg (by simpa using e1)]
     split
     . exact wpS_pure ⟨rfl, .inr ⟨_,_,_,_,_,rfl,M2,by omega,by omega,by omega⟩⟩
     . exact wpS_pure ⟨rfl,_,_,_,_,_,rfl,M2,by omega,by omega,by omega⟩
   . rw [decide_eq_false hlt]
     dsimp only
     rw [if_neg (by simp)];refine wpS_bind (wpS_elem eb ?_);have M2:=hM.pushB sb (by omega) eb (fun y hy=>Int.le_trans (sa.tl ea y hy) (Int.not_lt.mp hlt))
     by_cases e1:nb - 1=1
     . rw [if_pos (by simpa using e1)];exact wpS_pure ⟨rfl, .inl ⟨_,_,rfl,M2.first sa e1 hf⟩⟩
     rw [if_neg (by simpa using e1)]
     split
     . exact wpS_pure ⟨rfl, .inr ⟨_,_,_,_,_,rfl,M2,by omega,by omega,by omega⟩⟩
     . exact wpS_pure ⟨rfl,_,_,_,_,_,rfl,M2,by omega,by omega,by omega⟩
  case p2=>
   rintro c st2 ⟨rfl,(⟨r,v,rfl,hr⟩ | ⟨na,nb,out,ac,bc,rfl,hM,hna,hnb,hpr⟩)⟩
   . exact wpS_pure ⟨hs,_,_,rfl,hr⟩
   . dsimp only
     refine wpS_bind (wpS_lift (wpAny_rule ⟨rfl,?_⟩))
     refine wpS_bind (wpS_mono (wpS_forRange
      (I:=fun y c st'=>Sm st st'/\∃na nb out g ac bc,c=(none,na,nb,out,g,ac,bc)/\Mha κ a b out na nb/\0<na/\1<nb/\x+2+na+nb<=a.size+b.size)
      (Q:=fun c st'=>Sm st st'/\((∃r v,c=(some r,v)/\Mr κ a b r)\/∃na nb out g ac bc,c=(none,na,nb,out,g,ac,bc)/\Mha κ a b out na nb/\0<na/\1<nb/\x+2+na+nb<=a.size+b.size)) ?s3 ?f3 ?i3) ?p3)
     case i3=>exact ⟨hs,_,_,_,_,_,_,rfl,hM,hna,hnb,hpr⟩
     case f3=>
      rintro c st' ⟨hs',h⟩;exact ⟨hs', .inr h⟩
     case p3=>
      rintro c st3 ⟨hs3,(⟨r,v,rfl,hr⟩ | ⟨na,nb,out,g,ac,bc,rfl,hM,hna,hnb,hpr⟩)⟩
      . exact wpS_pure ⟨hs3,_,_,rfl,hr⟩
      . dsimp only
        exact wpS_bind (wpS_modify (wpS_pure ⟨⟨hs3.1,hs3.2.1,hs3.2.2.1,hs3.2.2.2⟩,_,_,_,_,rfl,hM,hna,hnb,by omega⟩))
     case s3=>
      rintro y c st3 _ hy ⟨hs3,na,nb,out,g,ac,bc,rfl,hM,hna,hnb,hpr⟩;have hi1:na<=a.size:=by have:=hM.hi;rwa [Array.length_toList] at this
      have hj1:nb<=b.size:=by have:=hM.hj;rwa [Array.length_toList] at this
      obtain ⟨xb,eb⟩:∃x,b[nb - 1]? = some x:=⟨_,getElem?_pos b _ (by omega)⟩
      dsimp only
      by_cases hg:g>1
      . rw [if_pos hg];refine wpS_bind (wpS_modify ?_);have hs4:Sm st _:=⟨hs3.1,hs3.2.1,hs3.2.2.1,hs3.2.2.2⟩;refine wpS_bind (wpS_elem eb ?_);refine wpS_bind (gal_right H (hs3.1.trans hk) (db _ _ eb) (by omega) (by omega) da (fun i j x y _ hij _ hx hy=>sa.at hij hx hy) fun k k1 k2 k3' => ?_)
        dsimp only
        have k3:∀y ∈ a.toList.take k,κ y<=κ xb:=fun y hy=>by
         obtain ⟨t,ht,ht2⟩:=mem_takeA hy;exact k2 t ht y (by rw [Nat.zero_add];exact ht2)
        by_cases hk0:na - k>0
        . rw [if_pos hk0];have M1:=hM.chunkA (k:=k) sa (by omega) (fun t ht ht2 x hx y hy=>Int.le_trans (sb.tl eb y hy) (Int.le_of_lt (k3' t ht ht2 x (by rw [Nat.zero_add];exact hx))))
          by_cases e1:k=0
          . rw [if_pos (by simpa using e1)];exact wpS_pure ⟨hs4, .inl ⟨_,_,rfl,M1.done sa sb (.inl e1)⟩⟩
          rw [if_neg (by simpa using e1)];obtain ⟨xa,ea⟩:∃x,a[k - 1]? = some x:=⟨_,getElem?_pos a _ (by omega)⟩;refine wpS_bind (wpS_elem eb ?_);have M2:=M1.pushB sb (by omega) eb k3
          by_cases e3:nb - 1=1
          . rw [if_pos (by simpa using e3)];exact wpS_pure ⟨hs4, .inl ⟨_,_,rfl,M2.first sa e3 hf⟩⟩
          rw [if_neg (by simpa using e3)];refine wpS_bind (wpS_elem ea ?_);refine wpS_bind (gal_left H (hs4.1.trans hk) (da _ _ ea) (by omega) (by omega) db (fun i j x y _ hij _ hx hy=>sb.at hij hx hy) fun k2 l1 l2 l3=> ?_)
          dsimp only
          have R2:∀y ∈ b.toList.take k2,κ y<=κ xa:=fun y hy=>by
           obtain ⟨t,ht,ht2⟩:=mem_takeA hy;exact Int.le_of_lt (l2 t ht y (by rw [Nat.zero_add];exact ht2))
          by_cases hk2:nb - 1 - k2>0
          . rw [if_pos hk2];have M3:=M2.chunkB (k:=k2) sb (by omega) (fun t ht ht2 x hx y hy=>Int.le_trans (sa.tl ea y hy) (l3 t ht ht2 x (by rw [Nat.zero_add];exact hx)))
            by_cases e5:k2=1
            . rw [if_pos (by simpa using e5)];exact wpS_pure ⟨hs4, .inl ⟨_,_,rfl,M3.first sa e5 hf⟩⟩
            rw [if_neg (by simpa using e5)]
            by_cases e6:k2=0
            . rw [if_pos (by simpa using e6)];exact wpS_pure ⟨hs4, .inl ⟨_,_,rfl,M3.done sa sb (.inr e6)⟩⟩
            rw [if_neg (by simpa using e6)];refine wpS_bind (wpS_elem ea ?_);have M4:=M3.pushA sa (by omega) ea R2
            by_cases e4:k - 1=0
            . rw [if_pos (by simpa using e4)];exact wpS_pure ⟨hs4, .inl ⟨_,_,rfl,M4.done sa sb (.inl e4)⟩⟩
            . rw [if_neg (by simpa using e4)]
              split
              . exact wpS_pure ⟨hs4, .inr ⟨_,_,_,_,_,_,rfl,M4,by omega,by omega,by omega⟩⟩
              . exact wpS_pure ⟨hs4,_,_,_,_,_,_,rfl,M4,by omega,by omega,by omega⟩
          . rw [if_neg hk2];have hz2:k2=nb - 1:=by omega
            subst hz2;refine wpS_bind (wpS_elem ea ?_);have M4:=M2.pushA sa (by omega) ea R2
            by_cases e4:k - 1=0
            . rw [if_pos (by simpa using e4)];exact wpS_pure ⟨hs4, .inl ⟨_,_,rfl,M4.done sa sb (.inl e4)⟩⟩
            . rw [if_neg (by simpa using e4)]
              split
              . exact wpS_pure ⟨hs4, .inr ⟨_,_,_,_,_,_,rfl,M4,by omega,by omega,by omega⟩⟩
              . exact wpS_pure ⟨hs4,_,_,_,_,_,_,rfl,M4,by omega,by omega,by omega⟩
        . rw [if_neg hk0];have hz:k=na:=by omega
          subst hz;obtain ⟨xa,ea⟩:∃x,a[k - 1]? = some x:=⟨_,getElem?_pos a _ (by omega)⟩;refine wpS_bind (wpS_elem eb ?_);have M2:=hM.pushB sb (by omega) eb k3
          by_cases e3:nb - 1=1
          . rw [if_pos (by simpa using e3)];exact wpS_pure ⟨hs4, .inl ⟨_,_,rfl,M2.first sa e3 hf⟩⟩
          rw [if_neg (by simpa using e3)];refine wpS_bind (wpS_elem ea ?_);refine wpS_bind (gal_left H (hs4.1.trans hk) (da _ _ ea) (by omega) (by omega) db (fun i j x y _ hij _ hx hy=>sb.at hij hx hy) fun k2 l1 l2 l3=> ?_)
          dsimp only
          have R2:∀y ∈ b.toList.take k2,κ y<=κ xa:=fun y hy=>by
           obtain ⟨t,ht,ht2⟩:=mem_takeA hy;exact Int.le_of_lt (l2 t ht y (by rw [Nat.zero_add];exact ht2))
          by_cases hk2:nb - 1 - k2>0
          . rw [if_pos hk2];have M3:=M2.chunkB (k:=k2) sb (by omega) (fun t ht ht2 x hx y hy=>Int.le_trans (sa.tl ea y hy) (l3 t ht ht2 x (by rw [Nat.zero_add];exact hx)))
            by_cases e5:k2=1
            . rw [if_pos (by simpa using e5)];exact wpS_pure ⟨hs4, .inl ⟨_,_,rfl,M3.first sa e5 hf⟩⟩
            rw [if_neg (by simpa using e5)]
            by_cases e6:k2=0
            . rw [if_pos (by simpa using e6)];exact wpS_pure ⟨hs4, .inl ⟨_,_,rfl,M3.done sa sb (.inr e6)⟩⟩
            rw [if_neg (by simpa using e6)];refine wpS_bind (wpS_elem ea ?_);have M4:=M3.pushA sa (by omega) ea R2
            by_cases e4:k - 1=0
            . rw [if_pos (by simpa using e4)];exact wpS_pure ⟨hs4, .inl ⟨_,_,rfl,M4.done sa sb (.inl e4)⟩⟩
            . rw [if_neg (by simpa using e4)]
              split
              . exact wpS_pure ⟨hs4, .inr ⟨_,_,_,_,_,_,rfl,M4,by omega,by omega,by omega⟩⟩
              . exact wpS_pure ⟨hs4,_,_,_,_,_,_,rfl,M4,by omega,by omega,by omega⟩
          . rw [if_neg hk2];have hz2:k2=nb - 1:=by omega
            subst hz2;refine wpS_bind (wpS_elem ea ?_);have M4:=M2.pushA sa (by omega) ea R2
            by_cases e4:k - 1=0
            . rw [if_pos (by simpa using e4)];exact wpS_pure ⟨hs4, .inl ⟨_,_,rfl,M4.done sa sb (.inl e4)⟩⟩
            . rw [if_neg (by simpa using e4)]
              split
              . exact wpS_pure ⟨hs4, .inr ⟨_,_,_,_,_,_,rfl,M4,by omega,by omega,by omega⟩⟩
              . exact wpS_pure ⟨hs4,_,_,_,_,_,_,rfl,M4,by omega,by omega,by omega⟩
      . rw [if_neg hg];refine wpS_bind (wpS_modify ?_);have hs4:Sm st _:=⟨hs3.1,hs3.2.1,hs3.2.2.1,hs3.2.2.2⟩;refine wpS_bind (wpS_elem eb ?_);refine wpS_bind (gal_right H (hs3.1.trans hk) (db _ _ eb) (by omega) (by omega) da (fun i j x y _ hij _ hx hy=>sa.at hij hx hy) fun k k1 k2 k3' => ?_)
        dsimp only
        have k3:∀y ∈ a.toList.take k,κ y<=κ xb:=fun y hy=>by
         obtain ⟨t,ht,ht2⟩:=mem_takeA hy;exact k2 t ht y (by rw [Nat.zero_add];exact ht2)
        by_cases hk0:na - k>0
        . rw [if_pos hk0];have M1:=hM.chunkA (k:=k) sa (by omega) (fun t ht ht2 x hx y hy=>Int.le_trans (sb.tl eb y hy) (Int.le_of_lt (k3' t ht ht2 x (by rw [Nat.zero_add];exact hx))))
          by_cases e1:k=0
          . rw [if_pos (by simpa using e1)];exact wpS_pure ⟨hs4, .inl ⟨_,_,rfl,M1.done sa sb (.inl e1)⟩⟩
          rw [if_neg (by simpa using e1)];obtain ⟨xa,ea⟩:∃x,a[k - 1]? = some x:=⟨_,getElem?_pos a _ (by omega)⟩;refine wpS_bind (wpS_elem eb ?_);have M2:=M1.pushB sb (by omega) eb k3
          by_cases e3:nb - 1=1
          . rw [if_pos (by simpa using e3)];exact wpS_pure ⟨hs4, .inl ⟨_,_,rfl,M2.first sa e3 hf⟩⟩
          rw [if_neg (by simpa using e3)];refine wpS_bind (wpS_elem ea ?_);refine wpS_bind (gal_left H (hs4.1.trans hk) (da _ _ ea) (by omega) (by omega) db (fun i j x y _ hij _ hx hy=>sb.at hij hx hy) fun k2 l1 l2 l3=> ?_)
          dsimp only
          have R2:∀y ∈ b.toList.take k2,κ y<=κ xa:=fun y hy=>by
           obtain ⟨t,ht,ht2⟩:=mem_takeA hy;exact Int.le_of_lt (l2 t ht y (by rw [Nat.zero_add];exact ht2))
          by_cases hk2:nb - 1 - k2>0
          . rw [if_pos hk2];have M3:=M2.chunkB (k:=k2) sb (by omega) (fun t ht ht2 x hx y hy=>Int.le_trans (sa.tl ea y hy) (l3 t ht ht2 x (by rw [Nat.zero_add];exact hx)))
            by_cases e5:k2=1
            . rw [if_pos (by simpa using e5)];exact wpS_pure ⟨hs4, .inl ⟨_,_,rfl,M3.first sa e5 hf⟩⟩
            rw [if_neg (by simpa using e5)]
            by_cases e6:k2=0
            . rw [if_pos (by simpa using e6)];exact wpS_pure ⟨hs4, .inl ⟨_,_,rfl,M3.done sa sb (.inr e6)⟩⟩
            rw [if_neg (by simpa using e6)];refine wpS_bind (wpS_elem ea ?_);have M4:=M3.pushA sa (by omega) ea R2
            by_cases e4:k - 1=0
            . rw [if_pos (by simpa using e4)];exact wpS_pure ⟨hs4, .inl ⟨_,_,rfl,M4.done sa sb (.inl e4)⟩⟩
            . rw [if_neg (by simpa using e4)]
              split
              . exact wpS_pure ⟨hs4, .inr ⟨_,_,_,_,_,_,rfl,M4,by omega,by omega,by omega⟩⟩
              . exact wpS_pure ⟨hs4,_,_,_,_,_,_,rfl,M4,by omega,by omega,by omega⟩
          . rw [if_neg hk2];have hz2:k2=nb - 1:=by omega
            subst hz2;refine wpS_bind (wpS_elem ea ?_);have M4:=M2.pushA sa (by omega) ea R2
            by_cases e4:k - 1=0
            . rw [if_pos (by simpa using e4)];exact wpS_pure ⟨hs4, .inl ⟨_,_,rfl,M4.done sa sb (.inl e4)⟩⟩
            . rw [if_neg (by simpa using e4)]
              split
              . exact wpS_pure ⟨hs4, .inr ⟨_,_,_,_,_,_,rfl,M4,by omega,by omega,by omega⟩⟩
              . exact wpS_pure ⟨hs4,_,_,_,_,_,_,rfl,M4,by omega,by omega,by omega⟩
        . rw [if_neg hk0];have hz:k=na:=by omega
          subst hz;obtain ⟨xa,ea⟩:∃x,a[k - 1]? = some x:=⟨_,getElem?_pos a _ (by omega)⟩;refine wpS_bind (wpS_elem eb ?_);have M2:=hM.pushB sb (by omega) eb k3
          by_cases e3:nb - 1=1
          . rw [if_pos (by simpa using e3)];exact wpS_pure ⟨hs4, .inl ⟨_,_,rfl,M2.first sa e3 hf⟩⟩
          rw [if_neg (by simpa using e3)];refine wpS_bind (wpS_elem ea ?_);refine wpS_bind (gal_left H (hs4.1.trans hk) (da _ _ ea) (by omega) (by omega) db (fun i j x y _ hij _ hx hy=>sb.at hij hx hy) fun k2 l1 l2 l3=> ?_)
          dsimp only
          have R2:∀y ∈ b.toList.take k2,κ y<=κ xa:=fun y hy=>by
           obtain ⟨t,ht,ht2⟩:=mem_takeA hy;exact Int.le_of_lt (l2 t ht y (by rw [Nat.zero_add];exact ht2))
          by_cases hk2:nb - 1 - k2>0
          . rw [if_pos hk2];have M3:=M2.chunkB (k:=k2) sb (by omega) (fun t ht ht2 x hx y hy=>Int.le_trans (sa.tl ea y hy) (l3 t ht ht2 x (by rw [Nat.zero_add];exact hx)))
            by_cases e5:k2=1
            . rw [if_pos (by simpa using e5)];exact wpS_pure ⟨hs4, .inl ⟨_,_,rfl,M3.first sa e5 hf⟩⟩
            rw [if_neg (by simpa using e5)]
            by_cases e6:k2=0
            . rw [if_pos (by simpa using e6)];exact wpS_pure ⟨hs4, .inl ⟨_,_,rfl,M3.done sa sb (.inr e6)⟩⟩
            rw [if_neg (by simpa using e6)];refine wpS_bind (wpS_elem ea ?_);have M4:=M3.pushA sa (by omega) ea R2
            by_cases e4:k - 1=0
            . rw [if_pos (by simpa using e4)];exact wpS_pure ⟨hs4, .inl ⟨_,_,rfl,M4.done sa sb (.inl e4)⟩⟩
            . rw [if_neg (by simpa using e4)]
              split
              . exact wpS_pure ⟨hs4, .inr ⟨_,_,_,_,_,_,rfl,M4,by omega,by omega,by omega⟩⟩
              . exact wpS_pure ⟨hs4,_,_,_,_,_,_,rfl,M4,by omega,by omega,by omega⟩
          . rw [if_neg hk2];have hz2:k2=nb - 1:=by omega
            subst hz2;refine wpS_bind (wpS_elem ea ?_);have M4:=M2.pushA sa (by omega) ea R2
            by_cases e4:k - 1=0
            . rw [if_pos (by simpa using e4)];exact wpS_pure ⟨hs4, .inl ⟨_,_,rfl,M4.done sa sb (.inl e4)⟩⟩
            . rw [if_neg (by simpa using e4)]
              split
              . exact wpS_pure ⟨hs4, .inr ⟨_,_,_,_,_,_,rfl,M4,by omega,by omega,by omega⟩⟩
              . exact wpS_pure ⟨hs4,_,_,_,_,_,_,rfl,M4,by omega,by omega,by omega⟩
end
end Ts
namespace Ts
open PySem PyProof.Rows
def kk(κ:Keyed->Int)(xs:Array Keyed)(i:Nat):Int:=match xs[i]? with | some x=>κ x | none=>0
def Ou(xs ys:Array Keyed)(lo n:Nat):Prop:=∀k:Nat,(k<lo\/lo+n<=k)->ys[k]? = xs[k]?
def Sg(κ:Keyed->Int)(xs:Array Keyed)(lo n:Nat):Prop:=∀i j:Nat,lo<=i->i<=j->j<lo+n->kk κ xs i<=kk κ xs j
def Ni(κ:Keyed->Int)(xs:Array Keyed)(lo n:Nat):Prop:=∀i j:Nat,lo<=i->i<=j->j<lo+n->kk κ xs j<=kk κ xs i
structure SE (st0 st:SortSt) (lo n:Nat):Prop where
 kind:kindOf st=kindOf st0
 fail:failedOf st=failedOf st0
 pend:pendingOf st=pendingOf st0
 perm:(arrOf st).Perm (arrOf st0)
 out:Ou (arrOf st0) (arrOf st) lo n
section
variable {κ:Keyed->Int} {xs ys:Array Keyed} {i j lo n:Nat}
theorem kk_some{x:Keyed}(h:xs[i]? = some x):kk κ xs i=κ x:=by unfold kk;rw [h]
theorem kk_congr(h:xs[i]? = ys[j]?):kk κ xs i=kk κ ys j:=by unfold kk;rw [h]
theorem kk_bubble{src d:Nat}(hs:src<xs.size)(hd:d<=src)(k:Nat):kk κ (bubble xs src d) k=if k=src - d then kk κ xs src else if src - d<k/\k<=src then kk κ xs (k - 1) else kk κ xs k:=by
 have e:=getElem?_bubble hs d hd k
 split
 . rw [if_pos (by assumption)] at e;exact kk_congr e
 . rw [if_neg (by assumption)] at e
   split
   . rw [if_pos (by assumption)] at e;exact kk_congr e
   . rw [if_neg (by assumption)] at e;exact kk_congr e
theorem kk_mirror(hj:j<=xs.size)(k:Nat):kk κ (mirror xs i j ((j - i) / 2)) k=if i<=k/\k<j then kk κ xs (i+j - 1 - k) else kk κ xs k:=by
 have e:=getElem?_mirror_all (i:=i) hj k
 split
 . rw [if_pos (by assumption)] at e;exact kk_congr e
 . rw [if_neg (by assumption)] at e;exact kk_congr e
theorem kk_mirror_eq(hj:j<=xs.size)(he:∀k,i<=k->k<j->kk κ xs k=kk κ xs (j - 1))(k:Nat):kk κ (mirror xs i j ((j - i) / 2)) k=kk κ xs k:=by
 rw [kk_mirror hj]
 split
 . rw [he _ (by omega) (by omega),he k (by omega) (by omega)]
 . rfl
theorem ou_mirror(hj:j<=xs.size)(h1:lo<=i)(h2:j<=lo+n):Ou xs (mirror xs i j ((j - i) / 2)) lo n:=fun k hk=>by
 rw [getElem?_mirror_all hj,if_neg (by omega)]
theorem ou_bubble{src d:Nat}(hs:src<xs.size)(hd:d<=src)(h1:lo<=src - d)(h2:src<lo+n):Ou xs (bubble xs src d) lo n:=fun k hk=>by
 rw [getElem?_bubble hs d hd,if_neg (by omega),if_neg (by omega)]
theorem SE.rfl'{st:SortSt}:SE st st lo n:=⟨rfl,rfl,rfl,Array.Perm.refl _,fun _ _=>rfl⟩
theorem SE.set{st0 st:SortSt}(h:SE st0 st lo n)(hp:xs.Perm (arrOf st))(ho:Ou (arrOf st) xs lo n):SE st0 (setArr st xs) lo n:=⟨h.kind,h.fail,h.pend,hp.trans h.perm,fun k hk=>(ho k hk).trans (h.out k hk)⟩
theorem SE.size{st0 st:SortSt}(h:SE st0 st lo n):(arrOf st).size=(arrOf st0).size:=h.perm.size_eq
theorem SE.trans{st0 st1 st2:SortSt}{lo' n':Nat}(h:SE st0 st1 lo n)(h':SE st1 st2 lo' n')(hl:lo<=lo')(hn:lo'+n'<=lo+n):SE st0 st2 lo n:=⟨h'.kind.trans h.kind,h'.fail.trans h.fail,h'.pend.trans h.pend,h'.perm.trans h.perm,fun k hk=>(h'.out k (by omega)).trans (h.out k hk)⟩
end
section
variable {prog:Program} {w:World} {A:Around} {E:Value->Shared->Prop} {s:Shared} {kd:SortKind} {D:Keyed->Prop} {κ:Keyed->Int} {st0:SortSt}
theorem SE.dom{st:SortSt}{lo n:Nat}(h:SE st0 st lo n)(hD:∀x ∈ (arrOf st0).toList,D x){i:Nat}(hi:i<(arrOf st0).size):∃x,(arrOf st)[i]? = some x/\D x:=by
 have hi':i<(arrOf st).size:=by rw [h.size];exact hi
 exact ⟨_,getElem?_pos _ i hi',hD _ ((Array.perm_iff_toList_perm.mp h.perm).mem_iff.mp (by simp))⟩
theorem wpS_lta(H:LtOk prog w A E s kd D κ){st:SortSt}{lo n i j:Nat}{Q:Option Bool->SortSt->Prop}(h:SE st0 st lo n)(hk:kindOf st0=kd)(hD:∀x ∈ (arrOf st0).toList,D x)(hi:i<(arrOf st0).size)(hj:j<(arrOf st0).size)(q:Q (some (decide (kk κ (arrOf st) i<kk κ (arrOf st) j))) st):wpS (model prog w) A E s (ltAt' i j) Q st:=by
 obtain ⟨x,ex,dx⟩:=h.dom hD hi;obtain ⟨y,ey,dy⟩:=h.dom hD hj;rw [kk_some ex,kk_some ey] at q
 rw [ltAt'_eq];exact wpS_bind (wpS_get (wpS_bind (wpS_elem ex (wpS_bind (wpS_elem ey (H _ _ _ _ (h.kind.trans hk) dx dy q))))))
theorem wpS_bin (H : LtOk prog w A E s kd D κ) {st : SortSt} {lo n ok : Nat} {Q : Bool -> SortSt -> Prop} (hk : kindOf st0 = kd) (hD : ∀ x ∈ (arrOf st0).toList, D x) (hn : lo + n <= (arrOf st0).size) (hok : ok <= n) (hS : SE st0 st lo n) (hs : Sg κ (arrOf st) lo ok)
 (q:∀st',SE st0 st' lo n->Sg κ (arrOf st') lo n->Q true st'):wpS (model prog w) A E s (binarySort' lo n ok) Q st:=by
 refine wpS_bind (wpS_mono (wpS_forRange (I:=fun k c st'=>c=(none,())/\SE st0 st' lo n/\Sg κ (arrOf st') lo (min k n))
  (Q:=fun c st'=>c=(none,())/\SE st0 st' lo n/\Sg κ (arrOf st') lo n) ?s1 ?f1 ?i1) ?p1)
 case p1=>
  rintro c st' ⟨rfl,h1,h2⟩;exact wpS_pure (q st' h1 h2)
 case i1=>
  refine ⟨rfl,hS,fun i j h1 h2 h3=> ?_⟩
  by_cases h0:ok=0
  . have:i=j:=by omega
    subst this;exact Int.le_refl _
  . exact hs i j h1 h2 (by omega)
 case f1=>
  rintro c st' ⟨hc,h1,h2⟩;refine ⟨hc,h1,?_⟩
  rwa [show min (max (max ok 1) n) n=n by omega] at h2
 case s1=>
  rintro k c st1 hk1 hkn ⟨rfl,h1,h2⟩;rw [show min k n=k by omega] at h2
  dsimp only
  refine wpS_bind (wpS_mono (wpS_forRange (I := fun x c st' => st' = st1 /\ ∃ l r, c = (none, l, r) /\ l <= r /\ r <= k /\ r - l <= k - x /\
   (∀i,lo<=i->i<lo+l->kk κ (arrOf st1) i<=kk κ (arrOf st1) (lo+k))/\(∀i,lo+r<=i->i<lo+k->kk κ (arrOf st1) (lo+k)<kk κ (arrOf st1) i))
   (Q:=fun c st'=>st'=st1/\∃l,c=(none,l,l)/\l<=k /\
    (∀i,lo<=i->i<lo+l->kk κ (arrOf st1) i<=kk κ (arrOf st1) (lo+k))/\(∀i,lo+l<=i->i<lo+k->kk κ (arrOf st1) (lo+k)<kk κ (arrOf st1) i)) ?s2 ?f2 ?i2) ?p2)
  case i2=>exact ⟨rfl,0,k,rfl,by omega,by omega,by omega,fun i _ hi=>by omega,fun i h1 h2=>by omega⟩
  case f2=>
   rintro c st' ⟨rfl,l,r,rfl,g1,g2,g3,g4,g5⟩;have:l=r:=by omega
   subst this;exact ⟨rfl,l,rfl,g2,g4,g5⟩
  case s2=>
   rintro x c st' _ hx ⟨rfl,l,r,rfl,g1,g2,g3,g4,g5⟩
   dsimp only
   by_cases hge:l≥r
   . rw [if_pos hge];have:l=r:=by omega
     subst this;exact wpS_pure ⟨rfl,l,rfl,g2,g4,g5⟩
   . rw [if_neg hge];refine wpS_bind (wpS_lta H h1 hk hD (by omega) (by omega) ?_)
     by_cases hlt:kk κ (arrOf st') (lo+k)<kk κ (arrOf st') (lo+(l+r) / 2)
     . rw [decide_eq_true hlt]
       dsimp only
       rw [if_pos rfl];refine wpS_pure ⟨rfl,l,(l+r) / 2,rfl,by omega,by omega,by omega,g4,fun i h6 h7=> ?_⟩;have:=h2 (lo+(l+r) / 2) i (by omega) h6 h7;omega
     . rw [decide_eq_false hlt]
       dsimp only
       rw [if_neg (by simp)];refine wpS_pure ⟨rfl,(l+r) / 2+1,r,rfl,by omega,by omega,by omega,fun i h6 h7=> ?_,g5⟩;have:=h2 i (lo+(l+r) / 2) h6 (by omega) (by omega);omega
  case p2=>
   rintro c st' ⟨rfl,l,rfl,g2,g4,g5⟩
   dsimp only
   have hsz:lo+k<(arrOf st').size:=by rw [h1.size];omega
   refine wpS_bind (m:=moveDown' (lo+k) (lo+l)) ?_;rw [moveDown'_eq];refine wpS_modify (wpS_pure ⟨rfl,h1.set (bubble_perm _ _ _) (ou_bubble hsz (by omega) (by omega) (by omega)),?_⟩);rw [show min (k+1) n=k+1 by omega];intro i j h6 h7 h8;show kk κ (bubble (arrOf st') (lo+k) (lo+k - (lo+l))) i<=kk κ (bubble (arrOf st') (lo+k) (lo+k - (lo+l))) j;rw [kk_bubble hsz (by omega),kk_bubble hsz (by omega),show lo+k - (lo+k - (lo+l))=lo+l by omega]
   repeat' split
   all_goals first
    | (exfalso;omega)
    | exact Int.le_refl _
    | exact g4 _ (by omega) (by omega)
    | exact Int.le_of_lt (g5 _ (by omega) (by omega))
    | exact h2 _ _ (by omega) (by omega) (by omega)
end
end Ts
namespace Ts
open PySem PyProof.Rows
section
variable {prog:Program} {w:World} {A:Around} {E:Value->Shared->Prop} {s:Shared} {kd:SortKind} {D:Keyed->Prop} {κ:Keyed->Int} {st0:SortSt}
theorem wpS_asc (H : LtOk prog w A E s kd D κ) {st : SortSt} {lo nrem a : Nat} (hk : kindOf st0 = kd) (hD : ∀ x ∈ (arrOf st0).toList, D x) (hn : lo + nrem <= (arrOf st0).size) (h1 : 1 <= a) (h2 : a <= nrem) (hS : SE st0 st lo nrem) (hs : Sg κ (arrOf st) lo a) :
 wpS (model prog w) A E s (forIn [a:nrem] ((none,a):Option (Option Nat)×Nat) fun _ c=>do
  let o <-ltAt' (lo+c.2) (lo+c.2 - 1)
  match o with
  | some b=>if b=true then pure (ForInStep.done (none,c.2)) else pure (ForInStep.yield (none,c.2+1))
  | _=>pure (ForInStep.done (some none,c.2))) (fun c st'=>st'=st/\∃n,c=(none,n)/\a<=n/\n<=nrem/\Sg κ (arrOf st) lo n/\(n=nrem\/kk κ (arrOf st) (lo+n)<kk κ (arrOf st) (lo+n - 1))) st:=by
 refine wpS_forRange (I:=fun y c st'=>st'=st/\c=(none,y)/\Sg κ (arrOf st) lo y) ?s1 ?f1 ⟨rfl,rfl,hs⟩
 case f1=>
  rintro c st' ⟨rfl,rfl,g⟩;rw [show max a nrem=nrem by omega] at g ⊢
  exact ⟨rfl,nrem,rfl,h2,Nat.le_refl _,g, .inl rfl⟩
 case s1=>
  rintro x c st' hx1 hx2 ⟨rfl,rfl,g⟩
  dsimp only
  refine wpS_bind (wpS_lta H hS hk hD (by omega) (by omega) ?_)
  by_cases hlt:kk κ (arrOf st') (lo+x)<kk κ (arrOf st') (lo+x - 1)
  . rw [decide_eq_true hlt]
    dsimp only
    rw [if_pos rfl];exact wpS_pure ⟨rfl,x,rfl,hx1,by omega,g, .inr hlt⟩
  . rw [decide_eq_false hlt]
    dsimp only
    rw [if_neg (by simp)];refine wpS_pure ⟨rfl,rfl,fun i j h3 h4 h5=> ?_⟩
    by_cases hj:j<lo+x
    . exact g i j h3 h4 hj
    . have hj':j=lo+x:=by omega
      subst hj'
      by_cases hi':i=lo+x
      . subst hi';exact Int.le_refl _
      . have:=g i (lo+x - 1) h3 (by omega) (by omega);omega
theorem wpS_cnt (H : LtOk prog w A E s kd D κ) {st : SortSt} {lo nrem : Nat} {Q : Option Nat -> SortSt -> Prop} (hk : kindOf st0 = kd) (hD : ∀ x ∈ (arrOf st0).toList, D x) (hn : lo + nrem <= (arrOf st0).size) (h1 : 1 <= nrem) (hS : SE st0 st lo nrem)
 (q:∀m st',SE st0 st' lo nrem->1<=m->m<=nrem->Sg κ (arrOf st') lo m->Q (some m) st'):wpS (model prog w) A E s (countRun' lo nrem) Q st:=by
 refine wpS_bind (wpS_mono (wpS_asc H hk hD hn (Nat.le_refl 1) h1 hS (fun i j g1 g2 g3=>by have:i=j:=(by omega);subst this;exact Int.le_refl _)) ?p1);rintro c st' ⟨rfl,n,rfl,n1,n2,hG0,hor⟩
 dsimp only
 by_cases e1:n=nrem
 . rw [if_pos (by simpa using e1)];exact wpS_pure (q n st' hS n1 n2 hG0)
 rw [if_neg (by simpa using e1)];have hlt:kk κ (arrOf st') (lo+n)<kk κ (arrOf st') (lo+n - 1):=hor.resolve_left e1
 by_cases e2:n>1
 . rw [if_pos e2];refine wpS_bind (wpS_lta H hS hk hD (by omega) (by omega) ?_)
   by_cases hr:kk κ (arrOf st') lo<kk κ (arrOf st') (lo+n - 1)
   . rw [decide_eq_true hr]
     dsimp only
     rw [if_pos rfl];exact wpS_pure (q n st' hS n1 n2 hG0)
   . rw [decide_eq_false hr]
     dsimp only
     rw [if_neg (by simp)];have hzz:lo+n<=(arrOf st').size:=by rw [hS.size];omega
     have hall:∀k,lo<=k->k<lo+n->kk κ (arrOf st') k=kk κ (arrOf st') (lo+n - 1):=fun k h3 h4=>by
      have a1:=hG0 lo k (by omega) h3 h4;have a2:=hG0 k (lo+n - 1) h3 (by omega) (by omega);omega
     refine wpS_bind (wpS_reverse ?_);have hS2:=hS.set (mirror_perm (arrOf st') lo (lo+n) ((lo+n - lo) / 2)) (ou_mirror hzz (Nat.le_refl _) (by omega))
     have hN:Ni κ (arrOf (setArr st' (mirror (arrOf st') lo (lo+n) ((lo+n - lo) / 2)))) lo (n+1):=fun i j h3 h4 h5=>by
      show kk κ (mirror (arrOf st') _ _ _) j<=kk κ (mirror (arrOf st') _ _ _) i;rw [kk_mirror_eq hzz hall,kk_mirror_eq hzz hall]
      by_cases hj:j<lo+n
      . rw [hall i h3 (by omega),hall j (by omega) hj];exact Int.le_refl _
      . have hj':j=lo+n:=by omega
        subst hj'
        by_cases hi':i=lo+n
        . subst hi';exact Int.le_refl _
        . rw [hall i h3 (by omega)];omega
     clear hall hlt hr hG0 hor hzz;generalize setArr st' (mirror (arrOf st') lo (lo+n) ((lo+n - lo) / 2))=st2 at hS2 hN ⊢
     refine wpS_bind (wpS_lift (wpAny_rule ⟨rfl,?_⟩))
     refine wpS_bind (wpS_mono (wpS_forRange (I:=fun x c st'=>∃nq,c=(none,x,nq)/\SE st0 st' lo nrem/\Ni κ (arrOf st') lo x/\nq+1<=x/\(∀i,lo+x - (nq+1)<=i->i<lo+x->kk κ (arrOf st') i=kk κ (arrOf st') (lo+x - 1)))
      (Q:=fun c st'=>∃m nq,c=(none,m,nq)/\SE st0 st' lo nrem/\1<=m/\m<=nrem/\Ni κ (arrOf st') lo m/\nq+1<=m/\(∀i,lo+m - (nq+1)<=i->i<lo+m->kk κ (arrOf st') i=kk κ (arrOf st') (lo+m - 1))) ?s2 ?f2 ?i2) ?p2)
     case i2=>exact ⟨0,rfl,hS2,hN,by omega,fun i h1 h2=>by congr 1;omega⟩
     case f2=>
      rintro c st' ⟨nq,rfl,g1,g2,g3,g4⟩;rw [show max (n+1) nrem=nrem by omega] at g2 g3 g4 ⊢
      exact ⟨nrem,nq,rfl,g1,h1,Nat.le_refl _,g2,g3,g4⟩
     case s2=>
      rintro x c st' hx1 hx2 ⟨nq,rfl,g1,g2,g3,g4⟩
      dsimp only
      have hz:lo+x<=(arrOf st').size:=by rw [g1.size];omega
      refine wpS_bind (wpS_lta H g1 hk hD (by omega) (by omega) ?_)
      by_cases hlt:kk κ (arrOf st') (lo+x)<kk κ (arrOf st') (lo+x - 1)
      . rw [decide_eq_true hlt]
        dsimp only
        rw [if_pos rfl]
        have step:∀xs:Array Keyed,(∀k,kk κ xs k=kk κ (arrOf st') k)->Ni κ xs lo (x+1):=by
         intro xs hxs i j h1 h2 h3;rw [hxs,hxs]
         by_cases hj:j<lo+x
         . exact g2 i j h1 h2 hj
         . have hj':j=lo+x:=by omega
           subst hj'
           by_cases hi':i=lo+x
           . subst hi';exact Int.le_refl _
           . have:=g2 i (lo+x - 1) h1 (by omega) (by omega);omega
        by_cases hq:nq>0
        . rw [if_pos hq];refine wpS_bind (wpS_reverse (wpS_pure ⟨0,rfl,g1.set (mirror_perm _ _ _ _) (ou_mirror hz (by omega) (by omega)),step _ (kk_mirror_eq hz g4),by omega,fun i h1 h2=>by congr 1;omega⟩))
        . rw [if_neg hq];exact wpS_pure ⟨0,rfl,g1,step _ (fun _=>rfl),by omega,fun i h1 h2=>by congr 1;omega⟩
      . rw [decide_eq_false hlt]
        dsimp only
        rw [if_neg (by simp)];refine wpS_bind (wpS_lta H g1 hk hD (by omega) (by omega) ?_)
        by_cases hgt:kk κ (arrOf st') (lo+x - 1)<kk κ (arrOf st') (lo+x)
        . rw [decide_eq_true hgt]
          dsimp only
          rw [if_pos rfl];exact wpS_pure ⟨x,nq,rfl,g1,by omega,by omega,g2,g3,g4⟩
        . rw [decide_eq_false hgt]
          dsimp only
          rw [if_neg (by simp)];have he:kk κ (arrOf st') (lo+x)=kk κ (arrOf st') (lo+x - 1):=by omega
          refine wpS_pure ⟨nq+1,rfl,g1,fun i j h1 h2 h3=> ?_,by omega,fun i h1 h2=> ?_⟩
          . by_cases hj:j<lo+x
            . exact g2 i j h1 h2 hj
            . have hj':j=lo+x:=by omega
              subst hj'
              by_cases hi':i=lo+x
              . subst hi';exact Int.le_refl _
              . rw [he];exact g2 i (lo+x - 1) h1 (by omega) (by omega)
          . rw [show lo+(x+1) - 1=lo+x by omega]
            by_cases hi':i=lo+x
            . subst hi';rfl
            . rw [he];exact g4 i (by omega) (by omega)
     case p2=>
      rintro c st3 ⟨m,nq,rfl,hS3,m1,m2,hN3,m4,m5⟩
      dsimp only
      have hz0:lo+m<=(arrOf st3).size:=by rw [hS3.size];omega
      by_cases hq:nq>0
      . rw [if_pos hq];refine wpS_bind (wpS_reverse ?_)
        replace hS3:=hS3.set (mirror_perm (arrOf st3) (lo+m - (nq+1)) (lo+m) ((lo+m - (lo+m - (nq+1))) / 2)) (ou_mirror hz0 (by omega) (by omega))
        replace hN3:Ni κ (arrOf (setArr st3 (mirror (arrOf st3) (lo+m - (nq+1)) (lo+m) ((lo+m - (lo+m - (nq+1))) / 2)))) lo m:=fun i j h1 h2 h3=>by
         show kk κ (mirror (arrOf st3) _ _ _) j<=kk κ (mirror (arrOf st3) _ _ _) i;rw [kk_mirror_eq hz0 m5,kk_mirror_eq hz0 m5];exact hN3 i j h1 h2 h3
        clear hz0 m5;generalize setArr st3 (mirror (arrOf st3) (lo+m - (nq+1)) (lo+m) ((lo+m - (lo+m - (nq+1))) / 2))=st5 at hS3 hN3 ⊢
        have hz3:lo+m<=(arrOf st5).size:=by rw [hS3.size];omega
        refine wpS_bind (wpS_reverse ?_);have hS4:=hS3.set (mirror_perm (arrOf st5) lo (lo+m) ((lo+m - lo) / 2)) (ou_mirror hz3 (Nat.le_refl _) (by omega))
        have hG:Sg κ (mirror (arrOf st5) lo (lo+m) ((lo+m - lo) / 2)) lo m:=fun i j h1 h2 h3=>by
         rw [kk_mirror hz3,kk_mirror hz3,if_pos (by omega),if_pos (by omega)];exact hN3 _ _ (by omega) (by omega) (by omega)
        exact wpS_bind (wpS_mono (wpS_asc H hk hD hn (by omega) (by omega) hS4 hG) fun c st' hc=>by
         obtain ⟨rfl,n',rfl,g1,g2,g3,_⟩:=hc;exact wpS_pure (q n' _ hS4 (by omega) g2 g3))
      . rw [if_neg hq];have hz3:lo+m<=(arrOf st3).size:=by rw [hS3.size];omega
        refine wpS_bind (wpS_reverse ?_);have hS4:=hS3.set (mirror_perm (arrOf st3) lo (lo+m) ((lo+m - lo) / 2)) (ou_mirror hz3 (Nat.le_refl _) (by omega))
        have hG:Sg κ (mirror (arrOf st3) lo (lo+m) ((lo+m - lo) / 2)) lo m:=fun i j h1 h2 h3=>by
         rw [kk_mirror hz3,kk_mirror hz3,if_pos (by omega),if_pos (by omega)];exact hN3 _ _ (by omega) (by omega) (by omega)
        exact wpS_bind (wpS_mono (wpS_asc H hk hD hn (by omega) (by omega) hS4 hG) fun c st' hc=>by
         obtain ⟨rfl,n',rfl,g1,g2,g3,_⟩:=hc;exact wpS_pure (q n' _ hS4 (by omega) g2 g3))
 . rw [if_neg e2];have hn1:n=1:=by omega
   have hS2:=hS
   have hN:Ni κ (arrOf st') lo (n+1):=fun i j h3 h4 h5=>by
    by_cases hi':i=j
    . subst hi';exact Int.le_refl _
    . have hi0:i=lo:=by omega
      have hj1:j=lo+1:=by omega
      subst hi0;subst hj1;subst hn1;have:i+1 - 1=i:=by omega
      rw [this] at hlt
      omega
   clear hlt hG0 hor;refine wpS_bind (wpS_lift (wpAny_rule ⟨rfl,?_⟩))
   refine wpS_bind (wpS_mono (wpS_forRange (I:=fun x c st'=>∃nq,c=(none,x,nq)/\SE st0 st' lo nrem/\Ni κ (arrOf st') lo x/\nq+1<=x/\(∀i,lo+x - (nq+1)<=i->i<lo+x->kk κ (arrOf st') i=kk κ (arrOf st') (lo+x - 1)))
    (Q:=fun c st'=>∃m nq,c=(none,m,nq)/\SE st0 st' lo nrem/\1<=m/\m<=nrem/\Ni κ (arrOf st') lo m/\nq+1<=m/\(∀i,lo+m - (nq+1)<=i->i<lo+m->kk κ (arrOf st') i=kk κ (arrOf st') (lo+m - 1))) ?s2 ?f2 ?i2) ?p2)
   case i2=>exact ⟨0,rfl,hS2,hN,by omega,fun i h1 h2=>by congr 1;omega⟩
   case f2=>
    rintro c st' ⟨nq,rfl,g1,g2,g3,g4⟩;rw [show max (n+1) nrem=nrem by omega] at g2 g3 g4 ⊢
    exact ⟨nrem,nq,rfl,g1,h1,Nat.le_refl _,g2,g3,g4⟩
   case s2=>
    rintro x c st' hx1 hx2 ⟨nq,rfl,g1,g2,g3,g4⟩
    dsimp only
    have hz:lo+x<=(arrOf st').size:=by rw [g1.size];omega
    refine wpS_bind (wpS_lta H g1 hk hD (by omega) (by omega) ?_)
    by_cases hlt:kk κ (arrOf st') (lo+x)<kk κ (arrOf st') (lo+x - 1)
    . rw [decide_eq_true hlt]
      dsimp only
      rw [if_pos rfl]
      have step:∀xs:Array Keyed,(∀k,kk κ xs k=kk κ (arrOf st') k)->Ni κ xs lo (x+1):=by
       intro xs hxs i j h1 h2 h3;rw [hxs,hxs]
       by_cases hj:j<lo+x
       . exact g2 i j h1 h2 hj
       . have hj':j=lo+x:=by omega
         subst hj'
         by_cases hi':i=lo+x
         . subst hi';exact Int.le_refl _
         . have:=g2 i (lo+x - 1) h1 (by omega) (by omega);omega
      by_cases hq:nq>0
      . rw [if_pos hq];refine wpS_bind (wpS_reverse (wpS_pure ⟨0,rfl,g1.set (mirror_perm _ _ _ _) (ou_mirror hz (by omega) (by omega)),step _ (kk_mirror_eq hz g4),by omega,fun i h1 h2=>by congr 1;omega⟩))
      . rw [if_neg hq];exact wpS_pure ⟨0,rfl,g1,step _ (fun _=>rfl),by omega,fun i h1 h2=>by congr 1;omega⟩
    . rw [decide_eq_false hlt]
      dsimp only
      rw [if_neg (by simp)];refine wpS_bind (wpS_lta H g1 hk hD (by omega) (by omega) ?_)
      by_cases hgt:kk κ (arrOf st') (lo+x - 1)<kk κ (arrOf st') (lo+x)
      . rw [decide_eq_true hgt]
        dsimp only
        rw [if_pos rfl];exact wpS_pure ⟨x,nq,rfl,g1,by omega,by omega,g2,g3,g4⟩
      . rw [decide_eq_false hgt]
        dsimp only
        rw [if_neg (by simp)];have he:kk κ (arrOf st') (lo+x)=kk κ (arrOf st') (lo+x - 1):=by omega
        refine wpS_pure ⟨nq+1,rfl,g1,fun i j h1 h2 h3=> ?_,by omega,fun i h1 h2=> ?_⟩
        . by_cases hj:j<lo+x
          . exact g2 i j h1 h2 hj
          . have hj':j=lo+x:=by omega
            subst hj'
            by_cases hi':i=lo+x
            . subst hi';exact Int.le_refl _
            . rw [he];exact g2 i (lo+x - 1) h1 (by omega) (by omega)
        . rw [show lo+(x+1) - 1=lo+x by omega]
          by_cases hi':i=lo+x
          . subst hi';rfl
          . rw [he];exact g4 i (by omega) (by omega)
   case p2=>
    rintro c st3 ⟨m,nq,rfl,hS3,m1,m2,hN3,m4,m5⟩
    dsimp only
    have hz0:lo+m<=(arrOf st3).size:=by rw [hS3.size];omega
    by_cases hq:nq>0
    . rw [if_pos hq];refine wpS_bind (wpS_reverse ?_)
      replace hS3:=hS3.set (mirror_perm (arrOf st3) (lo+m - (nq+1)) (lo+m) ((lo+m - (lo+m - (nq+1))) / 2)) (ou_mirror hz0 (by omega) (by omega))
      replace hN3:Ni κ (arrOf (setArr st3 (mirror (arrOf st3) (lo+m - (nq+1)) (lo+m) ((lo+m - (lo+m - (nq+1))) / 2)))) lo m:=fun i j h1 h2 h3=>by
       show kk κ (mirror (arrOf st3) _ _ _) j<=kk κ (mirror (arrOf st3) _ _ _) i;rw [kk_mirror_eq hz0 m5,kk_mirror_eq hz0 m5];exact hN3 i j h1 h2 h3
      clear hz0 m5;generalize setArr st3 (mirror (arrOf st3) (lo+m - (nq+1)) (lo+m) ((lo+m - (lo+m - (nq+1))) / 2))=st5 at hS3 hN3 ⊢
      have hz3:lo+m<=(arrOf st5).size:=by rw [hS3.size];omega
      refine wpS_bind (wpS_reverse ?_);have hS4:=hS3.set (mirror_perm (arrOf st5) lo (lo+m) ((lo+m - lo) / 2)) (ou_mirror hz3 (Nat.le_refl _) (by omega))
      have hG:Sg κ (mirror (arrOf st5) lo (lo+m) ((lo+m - lo) / 2)) lo m:=fun i j h1 h2 h3=>by
       rw [kk_mirror hz3,kk_mirror hz3,if_pos (by omega),if_pos (by omega)];exact hN3 _ _ (by omega) (by omega) (by omega)
      exact wpS_bind (wpS_mono (wpS_asc H hk hD hn (by omega) (by omega) hS4 hG) fun c st' hc=>by
       obtain ⟨rfl,n',rfl,g1,g2,g3,_⟩:=hc;exact wpS_pure (q n' _ hS4 (by omega) g2 g3))
    . rw [if_neg hq];have hz3:lo+m<=(arrOf st3).size:=by rw [hS3.size];omega
      refine wpS_bind (wpS_reverse ?_);have hS4:=hS3.set (mirror_perm (arrOf st3) lo (lo+m) ((lo+m - lo) / 2)) (ou_mirror hz3 (Nat.le_refl _) (by omega))
      have hG:Sg κ (mirror (arrOf st3) lo (lo+m) ((lo+m - lo) / 2)) lo m:=fun i j h1 h2 h3=>by
       rw [kk_mirror hz3,kk_mirror hz3,if_pos (by omega),if_pos (by omega)];exact hN3 _ _ (by omega) (by omega) (by omega)
      exact wpS_bind (wpS_mono (wpS_asc H hk hD hn (by omega) (by omega) hS4 hG) fun c st' hc=>by
       obtain ⟨rfl,n',rfl,g1,g2,g3,_⟩:=hc;exact wpS_pure (q n' _ hS4 (by omega) g2 g3))
end
end Ts
namespace Ts
open PySem PyProof.Rows
theorem fold_put(sa:Nat):∀(l:List Keyed) (k:Nat) (arr:Array Keyed),sa+k+l.length<=arr.size->((l.zipIdx k).foldl (fun a x=>a.setIfInBounds (sa+x.2) x.1) arr).toList=arr.toList.take (sa+k)++l++arr.toList.drop (sa+k+l.length)
 | [],k,arr,h=>by simp
 | p::l,k,arr,h=>by
  have hl:sa+k<arr.toList.length:=by rw [Array.length_toList];simp only [List.length_cons] at h;omega
  rw [List.zipIdx_cons,List.foldl_cons,fold_put sa l (k+1) _ (by simp only [List.length_cons] at h;simp;omega)]
  dsimp only
  rw [Array.toList_setIfInBounds,List.length_cons]
  have e1:(arr.toList.set (sa+k) p).take (sa+(k+1))=arr.toList.take (sa+k) ++ [p]:=by
   rw [List.set_eq_take_append_cons_drop,if_pos hl, <-Nat.add_assoc,List.take_append,List.length_take,Nat.min_eq_left (by omega),show sa+k+1 - (sa+k)=1 by omega,List.take_of_length_le (by simp;omega)];rfl
  have e2:(arr.toList.set (sa+k) p).drop (sa+(k+1)+l.length)=arr.toList.drop (sa+k+(l.length+1)):=by
   rw [List.drop_set_of_lt (by omega)];congr 1
   omega
  rw [e1,e2];simp
section
variable {κ:Keyed->Int} {arr:Array Keyed} {i j lo n m:Nat}
theorem sg_at(h:Sg κ arr lo n){x y:Keyed}(h1:lo<=i)(h2:i<=j)(h3:j<lo+n)(hx:arr[i]? = some x)(hy:arr[j]? = some y):κ x<=κ y:=by
 have:=h i j h1 h2 h3
 rwa [kk_some hx,kk_some hy] at this
theorem srt_of{l:List Keyed}(h:∀(i j:Nat) x y,i<=j->l[i]? = some x->l[j]? = some y->κ x<=κ y):Srt κ l:=by
 refine List.pairwise_iff_getElem.mpr fun i j hi hj hij=>h i j _ _ (by omega) (List.getElem?_eq_getElem hi) (List.getElem?_eq_getElem hj)
theorem chunk_get{x:Keyed}{l:List Keyed}(h:((l.drop i).take m)[j]? = some x):j<m/\l[i+j]? = some x:=by
 rw [List.getElem?_take] at h
 split at h
 . rw [List.getElem?_drop] at h;exact ⟨by assumption,h⟩
 . cases h
theorem srt_ext(h:Sg κ arr lo n)(h1:lo<=i)(h2:i+m<=lo+n):Srt κ ((arr.toList.drop i).take m):=srt_of fun a b x y hab hx hy=>by
 obtain ⟨a1,a2⟩:=chunk_get hx;obtain ⟨b1,b2⟩:=chunk_get hy;rw [Array.getElem?_toList] at a2 b2
 exact sg_at h (by omega) (by omega) (by omega) a2 b2
theorem srt_all(h:Sg κ arr 0 arr.size):Srt κ arr.toList:=srt_of fun a b x y hab hx hy=>by
 rw [Array.getElem?_toList] at hx hy
 exact sg_at h (by omega) hab (by have:=(Array.getElem?_eq_some_iff.mp hy).1;omega) hx hy
end
theorem wpS_set{M:Model}{A:Around}{E:Value->Shared->Prop}{s:Shared}{σ:Type}{t:σ}{Q:PUnit->σ->Prop}{st:σ}(h:Q ⟨⟩ t):wpS M A E s (set t:StateT σ Sem PUnit) Q st:=by
 unfold wpS;rw [StateT.run_set];exact wpAny_pure ⟨rfl,h⟩
section
variable {prog:Program} {w:World} {A:Around} {E:Value->Shared->Prop} {s:Shared} {kd:SortKind} {D:Keyed->Prop} {κ:Keyed->Int}
theorem wpS_mat (H : LtOk prog w A E s kd D κ) {st : SortSt} {n1 n2 p : Nat} {Q : Bool -> SortSt -> Prop} (hk : kindOf st = kd) (hD : ∀ x ∈ (arrOf st).toList, D x) (hp : pendingOf st = #[(0, n1, p), (n1, n2, 0)]) (h1 : 1 <= n1) (h2 : 1 <= n2) (hz : n1 + n2 = (arrOf st).size) (hf : failedOf st = none)
 (g1:Sg κ (arrOf st) 0 n1) (g2:Sg κ (arrOf st) n1 n2) (q:∀st',failedOf st'=none->pendingOf st' = #[(0,n1+n2,p)]->(arrOf st').Perm (arrOf st)->Srt κ (arrOf st').toList->Q true st'):wpS (model prog w) A E s (mergeAt' 0) Q st:=by
 obtain ⟨kd',arr,pend,g,fl⟩:=st
 replace hp:pend=_:=hp
 replace hf:fl=none:=hf
 replace hD:∀x ∈ arr.toList,D x:=hD
 replace hz:n1+n2=arr.size:=hz
 replace g1:Sg κ arr 0 n1:=g1
 replace g2:Sg κ arr n1 n2:=g2
 replace q:∀st',failedOf st'=none->pendingOf st' = #[(0,n1+n2,p)]->(arrOf st').Perm arr->Srt κ (arrOf st').toList->Q true st':=q
 subst hp hf;have hd:∀(i:Nat) x,arr[i]? = some x->D x:=fun i x hx=>hD x (by rw [<-Array.getElem?_toList] at hx;exact List.mem_of_getElem? hx)
 have hpd:(#[(0,n1,p),(n1,n2,0)].setIfInBounds 0 (0,n1+n2,p)).eraseIdxIfInBounds (0+1) = #[(0,n1+n2,p)]:=by
  simp [Array.eraseIdxIfInBounds]
 refine wpS_bind (wpS_get ?_);refine wpS_bind (wpS_set ?_);obtain ⟨b0,eb0⟩:∃x,arr[n1]? = some x:=⟨_,getElem?_pos arr n1 (by omega)⟩;obtain ⟨al,eal⟩:∃x,arr[n1 - 1]? = some x:=⟨_,getElem?_pos arr (n1 - 1) (by omega)⟩;refine wpS_bind (wpS_elem eb0 ?_);refine wpS_bind (gal_right H hk (hd _ _ eb0) (by omega) (show 0+n1<=arr.size by omega) hd (fun i j x y a1 a2 a3 hx hy=>sg_at g1 a1 a2 a3 hx hy) fun k k1 k2 k3=> ?_)
 dsimp only
 by_cases e1:n1 - k=0
 . rw [if_pos (by simpa using e1)];refine wpS_pure (q _ rfl hpd (Array.Perm.refl _) (srt_of fun i j x y hij hx hy=> ?_));rw [Array.getElem?_toList] at hx hy
   have hjz:=(Array.getElem?_eq_some_iff.mp hy).1
   replace hx:arr[i]? = some x:=hx
   replace hy:arr[j]? = some y:=hy
   replace hjz:j<arr.size:=hjz
   by_cases c1:j<n1
   . exact sg_at g1 (by omega) hij (by omega) hx hy
   . by_cases c2:n1<=i
     . exact sg_at g2 c2 hij (by omega) hx hy
     . have a1:=k2 i (by omega) x (by rw [Nat.zero_add];exact hx);have a2:=sg_at g2 (Nat.le_refl _) (by omega) (by omega) eb0 hy;omega
 rw [if_neg (by simpa using e1)];refine wpS_bind (wpS_elem (p:=al) (by rw [show 0+k+(n1 - k) - 1=n1 - 1 by omega];exact eal) ?_);refine wpS_bind (gal_left H hk (hd _ _ eal) (by omega) (show n1+n2<=arr.size by omega) hd (fun i j x y a1 a2 a3 hx hy=>sg_at g2 a1 a2 a3 hx hy) fun m m1 m2 m3=> ?_)
 dsimp only
 have T1:∀(i j:Nat) x y,i<k->n1<=j->j<arr.size->arr[i]? = some x->arr[j]? = some y->κ x<=κ y:=fun i j x y c1 c2 c3 hx hy=>by
  have a1:=k2 i c1 x (by rw [Nat.zero_add];exact hx);have a2:=sg_at g2 (Nat.le_refl _) c2 (by omega) eb0 hy;omega
 have T2:∀(i j:Nat) x y,i<n1->n1+m<=j->j<arr.size->arr[i]? = some x->arr[j]? = some y->κ x<=κ y:=fun i j x y c1 c2 c3 hx hy=>by
  have a1:=sg_at g1 (Nat.zero_le _) (show i<=n1 - 1 by omega) (by omega) hx eal;have a2:=m3 (j - n1) (by omega) (by omega) y (by rw [show n1+(j - n1)=j by omega];exact hy);omega
 by_cases e2:m=0
 . rw [if_pos (by simpa using e2)];refine wpS_pure (q _ rfl hpd (Array.Perm.refl _) (srt_of fun i j x y hij hx hy=> ?_));rw [Array.getElem?_toList] at hx hy
   have hjz:=(Array.getElem?_eq_some_iff.mp hy).1
   replace hx:arr[i]? = some x:=hx
   replace hy:arr[j]? = some y:=hy
   replace hjz:j<arr.size:=hjz
   by_cases c1:j<n1
   . exact sg_at g1 (by omega) hij (by omega) hx hy
   . by_cases c2:n1<=i
     . exact sg_at g2 c2 hij (by omega) hx hy
     . exact T2 i j x y (by omega) (by omega) hjz hx hy
 rw [if_neg (by simpa using e2)]
 have dxs:∀(i:Nat) x,(arr.extract (0+k) n1)[i]? = some x->D x:=fun i x hx=>by
  rw [<-Array.getElem?_toList,ext_list] at hx
  obtain ⟨_,b2⟩:=chunk_get hx;rw [Array.getElem?_toList] at b2
  exact hd _ _ b2
 have dys:∀(i:Nat) x,(arr.extract n1 (n1+m))[i]? = some x->D x:=fun i x hx=>by
  rw [<-Array.getElem?_toList,ext_list] at hx
  obtain ⟨_,b2⟩:=chunk_get hx;rw [Array.getElem?_toList] at b2
  exact hd _ _ b2
 have zx:(arr.extract (0+k) n1).size=n1 - k:=by rw [Array.size_extract];omega
 have zy:(arr.extract n1 (n1+m)).size=m:=by rw [Array.size_extract];omega
 have sx:Srt κ (arr.extract (0+k) n1).toList:=by rw [ext_list];exact srt_ext g1 (by omega) (by omega)
 have sy:Srt κ (arr.extract n1 (n1+m)).toList:=by rw [ext_list];exact srt_ext g2 (by omega) (by omega)
 have mx:∀x ∈ (arr.extract (0+k) n1).toList,∃i,k<=i/\i<n1/\arr[i]? = some x:=fun x hx=>by
  rw [ext_list] at hx
  obtain ⟨t,ht,e⟩:=mem_chunk hx;rw [Array.getElem?_toList] at e
  exact ⟨0+k+t,by omega,by omega,e⟩
 have my:∀y ∈ (arr.extract n1 (n1+m)).toList,∃j,n1<=j/\j<n1+m/\arr[j]? = some y:=fun y hy=>by
  rw [ext_list] at hy
  obtain ⟨t,ht,e⟩:=mem_chunk hy;rw [Array.getElem?_toList] at e
  exact ⟨n1+t,by omega,by omega,e⟩
 have hl:∀x,(arr.extract (0+k) n1)[(arr.extract (0+k) n1).size - 1]? = some x->∀y ∈ (arr.extract n1 (n1+m)).toList,κ y<=κ x:=fun x hx y hy=>by
  rw [<-Array.getElem?_toList,ext_list,zx] at hx
  obtain ⟨_,b2⟩:=chunk_get hx;rw [Array.getElem?_toList,show 0+k+(n1 - k - 1)=n1 - 1 by omega,eal] at b2
  obtain ⟨j,j1,j2,ej⟩:=my y hy;have:=m2 (j - n1) (by omega) y (by rw [show n1+(j - n1)=j by omega];exact ej)
  cases b2
  omega
 have hf0:∀y,(arr.extract n1 (n1+m))[0]? = some y->∀x ∈ (arr.extract (0+k) n1).toList,κ y<=κ x:=fun y hy x hx=>by
  rw [<-Array.getElem?_toList,ext_list] at hy
  obtain ⟨_,b2⟩:=chunk_get hy;rw [Array.getElem?_toList,Nat.add_zero,eb0] at b2
  obtain ⟨i,i1,i2,ei⟩:=mx x hx;have:=k3 i (by omega) (by omega) x (by rw [Nat.zero_add];exact ei)
  cases b2
  omega
 have fin:∀r,Mr κ (arr.extract (0+k) n1) (arr.extract n1 (n1+m)) r->(List.foldl (fun a x=>a.setIfInBounds (0+k+x.2) x.1) arr r.toList.zipIdx).Perm arr/\Srt κ (List.foldl (fun a x=>a.setIfInBounds (0+k+x.2) x.1) arr r.toList.zipIdx).toList:=fun r hr=>by
  obtain ⟨p1,p2⟩:=hr
  have hlen:r.toList.length=n1 - k+m:=by
   have:=p1.length_eq;rw [List.length_append,Array.length_toList,Array.length_toList,Array.length_toList,zx,zy] at this
   rw [Array.length_toList];exact this
  have e:=fold_put (0+k) r.toList 0 arr (by rw [hlen];omega);rw [hlen,show 0+k+0=k by omega,show k+(n1 - k+m)=n1+m by omega] at e
  have ed:arr.toList=arr.toList.take k++((arr.extract (0+k) n1).toList++(arr.extract n1 (n1+m)).toList)++arr.toList.drop (n1+m):=by
   rw [ext_list,ext_list,Nat.zero_add,show n1+m - n1=m by omega];have w1:=List.take_append_drop k arr.toList;have w2:=List.take_append_drop (n1 - k) (arr.toList.drop k);have w3:=List.take_append_drop m (arr.toList.drop n1);rw [List.drop_drop,show k+(n1 - k)=n1 by omega] at w2
   rw [List.drop_drop] at w3
   rw [List.append_assoc,List.append_assoc,w3,w2,w1]
  constructor
  . refine Array.perm_iff_toList_perm.mpr ?_;rw [e]
    conv=>rhs;rw [ed]
    exact (p1.append_left _).append_right _
  . rw [e]
    have mr:∀z ∈ r.toList,(∃i,k<=i/\i<n1/\arr[i]? = some z)\/(∃j,n1<=j/\j<n1+m/\arr[j]? = some z):=fun z hz=>by
     rcases List.mem_append.mp (p1.mem_iff.mp hz) with hz | hz
     . exact .inl (mx z hz)
     . exact .inr (my z hz)
    have mt:∀z ∈ arr.toList.take k,∃i,i<k/\arr[i]? = some z:=fun z hz=>mem_takeA hz;have md:∀z ∈ arr.toList.drop (n1+m),∃t,arr[n1+m+t]? = some z/\n1+m+t<arr.size:=fun z hz=>mem_dropA hz
    have s1:Srt κ (arr.toList.take k):=by
     have:=srt_ext (i:=0) (m:=k) g1 (by omega) (by omega)
     rwa [List.drop_zero] at this
    have s3:Srt κ (arr.toList.drop (n1+m)):=by
     have:=srt_ext (i:=n1+m) (m:=n2 - m) g2 (by omega) (by omega)
     rwa [List.take_of_length_le (by rw [List.length_drop,Array.length_toList];omega)] at this
    refine Srt.app (Srt.app s1 p2 fun x hx z hz=> ?_) s3 fun x hx y hy=> ?_
    . obtain ⟨i,i1,ei⟩:=mt x hx;rcases mr z hz with ⟨j,j1,j2,ej⟩ | ⟨j,j1,j2,ej⟩
      . exact sg_at g1 (by omega) (by omega) (by omega) ei ej
      . exact T1 i j x z i1 j1 (by omega) ei ej
    . obtain ⟨t,et,ht⟩:=md y hy;rcases List.mem_append.mp hx with hx | hx
      . obtain ⟨i,i1,ei⟩:=mt x hx;exact T1 i _ x y i1 (by omega) ht ei et
      . rcases mr x hx with ⟨j,j1,j2,ej⟩ | ⟨j,j1,j2,ej⟩
        . exact T2 j _ x y j2 (by omega) ht ej et
        . exact sg_at g2 j1 (by omega) (by omega) ej et
 by_cases e3:n1 - k<=m
 . rw [if_pos e3];refine wpS_bind (wpS_mLo H hk dxs dys (by rw [zx];omega) (by rw [zy];omega) sx sy (fun x y hx hy=>hf0 y hy x (by rw [<-Array.getElem?_toList] at hx;exact List.mem_of_getElem? hx)) hl fun r st' hs hr=> ?_);refine wpS_bind (wpS_modify (wpS_bind (wpS_get ?_)));obtain ⟨hr1,hr2⟩:=fin r hr;have ea:arrOf st'=arr:=hs.2.1;have hfl:failedOf st'=none:=hs.2.2.2
   have hb:((sortPriv% PySem.Builtin.SortState.failed) st').isNone=true:=by
    show (failedOf st').isNone=true;rw [hfl];rfl
   refine wpS_pure ?_;show Q ((sortPriv% PySem.Builtin.SortState.failed) st').isNone _;rw [hb];refine q _ hfl (hs.2.2.1.trans hpd) ?_ ?_
   . show Array.Perm (List.foldl (fun a x=>a.setIfInBounds (0+k+x.2) x.1) (arrOf st') r.toList.zipIdx) arr;rw [ea];exact hr1
   . show Srt κ (List.foldl (fun a x=>a.setIfInBounds (0+k+x.2) x.1) (arrOf st') r.toList.zipIdx).toList;rw [ea];exact hr2
 . rw [if_neg e3];refine wpS_bind (wpS_mHi H hk dxs dys (by rw [zx];omega) (by rw [zy];omega) sx sy hf0 hl fun r st' hs hr=> ?_);refine wpS_bind (wpS_modify (wpS_bind (wpS_get ?_)));obtain ⟨hr1,hr2⟩:=fin r hr;have ea:arrOf st'=arr:=hs.2.1;have hfl:failedOf st'=none:=hs.2.2.2
   have hb:((sortPriv% PySem.Builtin.SortState.failed) st').isNone=true:=by
    show (failedOf st').isNone=true;rw [hfl];rfl
   refine wpS_pure ?_;show Q ((sortPriv% PySem.Builtin.SortState.failed) st').isNone _;rw [hb];refine q _ hfl (hs.2.2.1.trans hpd) ?_ ?_
   . show Array.Perm (List.foldl (fun a x=>a.setIfInBounds (0+k+x.2) x.1) (arrOf st') r.toList.zipIdx) arr;rw [ea];exact hr1
   . show Srt κ (List.foldl (fun a x=>a.setIfInBounds (0+k+x.2) x.1) (arrOf st') r.toList.zipIdx).toList;rw [ea];exact hr2
end
end Ts
namespace Ts
open PySem PyProof.Rows
theorem minRun_two{n:Nat}(h:1<=n)(h':n<128):n<=2*minRun' n n 0/\1<=minRun' n n 0:=by
 obtain ⟨f,rfl⟩:∃f,n=f+1:=⟨n - 1,by omega⟩;rw [minRun'_succ]
 split
 . omega
 . obtain ⟨g,rfl⟩:∃g,f=g+1:=⟨f - 1,by omega⟩;rw [minRun'_succ,if_pos (by omega)];omega
theorem sg_congr{κ:Keyed->Int}{xs ys:Array Keyed}{lo n lo' n':Nat}(h:Sg κ xs lo n)(ho:Ou xs ys lo' n')(hd:lo+n<=lo'\/lo'+n'<=lo):Sg κ ys lo n:=fun i j h1 h2 h3=>by
 rw [kk_congr (ho i (by omega)),kk_congr (ho j (by omega))];exact h i j h1 h2 h3
section
variable {prog:Program} {w:World} {A:Around} {E:Value->Shared->Prop} {s:Shared} {kd:SortKind} {D:Keyed->Prop} {κ:Keyed->Int} {a₀:Array Keyed}
structure SX (kd:SortKind) (a₀:Array Keyed) (st:SortSt):Prop where
 kind:kindOf st=kd
 fail:failedOf st=none
 perm:(arrOf st).Perm a₀
theorem SX.se{st st':SortSt}{lo n:Nat}(h:SX kd a₀ st)(h':SE st st' lo n):SX kd a₀ st':=⟨h'.kind.trans h.kind,h'.fail.trans h.fail,h'.perm.trans h.perm⟩
theorem SX.size{st:SortSt}(h:SX kd a₀ st):(arrOf st).size=a₀.size:=h.perm.size_eq
theorem SX.dom{st:SortSt}(h:SX kd a₀ st)(hD:∀x ∈ a₀.toList,D x):∀x ∈ (arrOf st).toList,D x:=fun x hx=>hD x ((Array.perm_iff_toList_perm.mp h.perm).mem_iff.mp hx)
theorem wpS_runs (H : LtOk prog w A E s kd D κ) {st : SortSt} {Q : Unit -> SortSt -> Prop} (hD : ∀ x ∈ a₀.toList, D x) (hX : SX kd a₀ st) (hp : pendingOf st = #[]) (h2 : 2 <= a₀.size) (h128 : a₀.size < 128)
 (q:∀st',(arrOf st').Perm a₀->failedOf st'=none->Srt κ (arrOf st').toList->Q () st'):wpS (model prog w) A E s sortRuns' Q st:=by
 obtain ⟨r1,r2⟩:=minRun_two (n:=a₀.size) (by omega) h128;rw [sortRuns'_eq];refine wpS_bind (wpS_get ?_)
 dsimp only
 rw [hX.size];generalize minRun' a₀.size a₀.size 0=mr at r1 r2 ⊢
 refine wpS_bind (wpS_mono (wpS_forRange
  (I:=fun x c st'=>SX kd a₀ st'/\((x=0/\c=(none,0)/\pendingOf st' = #[])\/(∃n1,1<=x/\c=(none,n1)/\1<=n1/\n1<=a₀.size/\(mr<=n1\/n1=a₀.size)/\(2<=x->n1=a₀.size)/\pendingOf st' = #[(0,n1,0)]/\Sg κ (arrOf st') 0 n1)\/(∃n1 n2 p,c=(none,a₀.size)/\1<=n1/\1<=n2/\n1+n2=a₀.size/\pendingOf st' = #[(0,n1,p),(n1,n2,0)]/\Sg κ (arrOf st') 0 n1/\Sg κ (arrOf st') n1 n2)))
  (Q:=fun c st'=>SX kd a₀ st'/\c=(none,a₀.size)/\((pendingOf st' = #[(0,a₀.size,0)]/\Sg κ (arrOf st') 0 a₀.size)\/(∃n1 n2 p,1<=n1/\1<=n2/\n1+n2=a₀.size/\pendingOf st' = #[(0,n1,p),(n1,n2,0)]/\Sg κ (arrOf st') 0 n1/\Sg κ (arrOf st') n1 n2))) ?s1 ?f1 ?i1) ?p1)
 case i1=>exact ⟨hX, .inl ⟨rfl,rfl,hp⟩⟩
 case f1=>
  rintro c st' ⟨hX',(⟨h,_⟩ | ⟨n1,_,rfl,_,_,_,h5,h6,h7⟩ | ⟨n1,n2,p,rfl,h3,h4,h5,h6,h7,h8⟩)⟩
  . omega
  . have:=h5 (by omega);subst this;exact ⟨hX',rfl, .inl ⟨h6,h7⟩⟩
  . exact ⟨hX',rfl, .inr ⟨n1,n2,p,h3,h4,h5,h6,h7,h8⟩⟩
 case p1=>
  rintro c st1 ⟨hX1,rfl,hc⟩
  dsimp only
  refine wpS_bind (wpS_mono (wpS_forRange
   (I:=fun x c st'=>c=(none,())/\((x=0/\st'=st1)\/(∃y,pendingOf st' = #[y]/\(arrOf st').Perm a₀/\failedOf st'=none/\Srt κ (arrOf st').toList)))
   (Q:=fun c st'=>c=(none,())/\(arrOf st').Perm a₀/\failedOf st'=none/\Srt κ (arrOf st').toList) ?s2 ?f2 ?i2) ?p2)
  case i2=>exact ⟨rfl, .inl ⟨rfl,rfl⟩⟩
  case f2=>
   rintro c st' ⟨rfl,(⟨h,_⟩ | ⟨y,h3,h4,h5,h6⟩)⟩
   . omega
   . exact ⟨rfl,h4,h5,h6⟩
  case p2=>
   rintro c st' ⟨rfl,h4,h5,h6⟩;exact wpS_pure (q st' h4 h5 h6)
  case s2=>
   rintro x c st' _ hx ⟨rfl,(⟨rfl,rfl⟩ | ⟨y,h3,h4,h5,h6⟩)⟩
   . refine wpS_bind (wpS_get ?_);rcases hc with ⟨hc1,hc2⟩ | ⟨n1,n2,p,c3,c4,c5,c6,c7,c8⟩
     . rw [hc1];rw [if_pos (show #[(0,a₀.size,0)].size<=1 from Nat.le_refl 1)];rw [<-hX1.size] at hc2
       exact wpS_pure ⟨rfl,hX1.perm,hX1.fail,srt_all hc2⟩
     . rw [c6];rw [if_neg (show ¬(#[(0,n1,p),(n1,n2,0)].size<=1) from by show ¬(2<=1);omega)];refine wpS_bind (wpS_mat H hX1.kind (hX1.dom hD) c6 c3 c4 (by rw [hX1.size];exact c5) hX1.fail c7 c8 fun st2 d1 d2 d3 d4=> ?_);exact wpS_pure ⟨rfl, .inr ⟨_,d2,d3.trans hX1.perm,d1,d4⟩⟩
   . refine wpS_bind (wpS_get ?_);rw [h3];rw [if_pos (show #[y].size<=1 from Nat.le_refl 1)];exact wpS_pure ⟨rfl,h4,h5,h6⟩
 case s1=>
  rintro x c st1 _ hx ⟨hX1,(⟨rfl,rfl,hp1⟩ | ⟨n1,x1,rfl,m1,m2,m3,m4,m5,m6⟩ | ⟨n1,n2,p,rfl,h3,h4,h5,h6,h7,h8⟩)⟩
  . dsimp only
    rw [if_neg (by omega)];refine wpS_bind (wpS_cnt H hX1.kind (hX1.dom hD) (by rw [hX1.size];omega) (by omega) SE.rfl' fun m st2 c1 c2 c3 c4=> ?_)
    dsimp only
    have X2:=hX1.se c1;have P2:pendingOf st2 = #[]:=c1.pend.trans hp1
    by_cases hlt:m<mr
    . rw [if_pos hlt];refine wpS_bind (wpS_lift (wpAny_rule ⟨rfl,?_⟩));refine wpS_bind (wpS_bin H X2.kind (X2.dom hD) (by rw [X2.size];omega) (show m<=min (a₀.size - 0) mr by omega) SE.rfl' c4 fun st3 d1 d2=> ?_);have X3:=X2.se d1;have P3:pendingOf st3 = #[]:=d1.pend.trans P2;rw [if_neg (by simp)];refine wpS_bind (wpS_get ?_);have hb:(pendingOf st3).back? = none:=by rw [P3];rfl
      rw [hb]
      dsimp only
      exact wpS_bind (wpS_modify (wpS_pure ⟨⟨X3.kind,X3.fail,X3.perm⟩, .inr (.inl ⟨_,by omega,rfl,by omega,by omega,by omega,fun _=>by omega,by show (pendingOf st3).push _=_;rw [P3,Nat.zero_add];rfl,by rw [Nat.zero_add];exact d2⟩)⟩))
    . rw [if_neg hlt];refine wpS_bind (wpS_get ?_);have hb:(pendingOf st2).back? = none:=by rw [P2];rfl
      rw [hb]
      dsimp only
      exact wpS_bind (wpS_modify (wpS_pure ⟨⟨X2.kind,X2.fail,X2.perm⟩, .inr (.inl ⟨_,by omega,rfl,by omega,by omega,by omega,fun _=>by omega,by show (pendingOf st2).push _=_;rw [P2,Nat.zero_add];rfl,by rw [Nat.zero_add];exact c4⟩)⟩))
  . dsimp only
    by_cases hge:n1≥a₀.size
    . rw [if_pos hge];have:n1=a₀.size:=by omega
      subst this;exact wpS_pure ⟨hX1,rfl, .inl ⟨m5,m6⟩⟩
    rw [if_neg hge];have hmr:mr<=n1:=m3.resolve_right (by omega);refine wpS_bind (wpS_cnt H hX1.kind (hX1.dom hD) (by rw [hX1.size];omega) (by omega) SE.rfl' fun m st2 c1 c2 c3 c4=> ?_)
    dsimp only
    have X2:=hX1.se c1;have P2:pendingOf st2 = #[(0,n1,0)]:=c1.pend.trans m5;have G2:Sg κ (arrOf st2) 0 n1:=sg_congr m6 c1.out (by omega)
    by_cases hlt:m<mr
    . rw [if_pos hlt];refine wpS_bind (wpS_lift (wpAny_rule ⟨rfl,?_⟩));refine wpS_bind (wpS_bin H X2.kind (X2.dom hD) (by rw [X2.size];omega) (show m<=min (a₀.size - n1) mr by omega) SE.rfl' c4 fun st3 d1 d2=> ?_);have X3:=X2.se d1;have P3:pendingOf st3 = #[(0,n1,0)]:=d1.pend.trans P2;have G3:Sg κ (arrOf st3) 0 n1:=sg_congr G2 d1.out (by omega);rw [show min (a₀.size - n1) mr=a₀.size - n1 by omega] at d2
      rw [if_neg (by simp)];refine wpS_bind (wpS_get ?_);have hb:(pendingOf st3).back? = some (0,n1,0):=by rw [P3];rfl
      rw [hb]
      dsimp only
      refine wpS_bind (wpS_mono (wpS_forRange (I:=fun x c st'=>c=(none,())/\st'=st3) (Q:=fun c st'=>c=(none,())/\st'=st3) ?s3 ?f3 ⟨rfl,rfl⟩) ?p3)
      case f3=>exact fun c st' h=>h
      case s3=>
       rintro x c st' _ _ ⟨rfl,rfl⟩;refine wpS_bind (wpS_get ?_);rw [P3];rw [if_neg (show ¬(#[(0,n1,0)].size>1) from by show ¬(1>1);omega)];exact wpS_pure ⟨rfl,rfl⟩
      case p3=>
       rintro c st' ⟨rfl,rfl⟩
       dsimp only
       refine wpS_bind (wpS_modify (wpS_bind (wpS_modify (wpS_pure ⟨⟨X3.kind,X3.fail,X3.perm⟩, .inr (.inr ⟨n1,a₀.size - n1,power' a₀.size (2*0+n1) (2*0+n1+n1+min (a₀.size - n1) mr) a₀.size,?_,m1,by omega,by omega,?_,G3,d2⟩)⟩))))
       . show (none,n1+min (a₀.size - n1) mr)=_;rw [show n1+min (a₀.size - n1) mr=a₀.size by omega]
       . show ((pendingOf st').modify ((pendingOf st').size - 1) _).push (n1,min (a₀.size - n1) mr,0)=_;rw [P3,show min (a₀.size - n1) mr=a₀.size - n1 by omega];rfl
    . rw [if_neg hlt];rw [show m=a₀.size - n1 by omega] at c4
      refine wpS_bind (wpS_get ?_);have hb:(pendingOf st2).back? = some (0,n1,0):=by rw [P2];rfl
      rw [hb]
      dsimp only
      refine wpS_bind (wpS_mono (wpS_forRange (I:=fun x c st'=>c=(none,())/\st'=st2) (Q:=fun c st'=>c=(none,())/\st'=st2) ?s3 ?f3 ⟨rfl,rfl⟩) ?p3)
      case f3=>exact fun c st' h=>h
      case s3=>
       rintro x c st' _ _ ⟨rfl,rfl⟩;refine wpS_bind (wpS_get ?_);rw [P2];rw [if_neg (show ¬(#[(0,n1,0)].size>1) from by show ¬(1>1);omega)];exact wpS_pure ⟨rfl,rfl⟩
      case p3=>
       rintro c st' ⟨rfl,rfl⟩
       dsimp only
       refine wpS_bind (wpS_modify (wpS_bind (wpS_modify (wpS_pure ⟨⟨X2.kind,X2.fail,X2.perm⟩, .inr (.inr ⟨n1,a₀.size - n1,power' a₀.size (2*0+n1) (2*0+n1+n1+m) a₀.size,?_,m1,by omega,by omega,?_,G2,c4⟩)⟩))))
       . show (none,n1+m)=_;rw [show n1+m=a₀.size by omega]
       . show ((pendingOf st').modify ((pendingOf st').size - 1) _).push (n1,m,0)=_;rw [P2,show m=a₀.size - n1 by omega];rfl
  . dsimp only
    rw [if_pos (Nat.le_refl _)];exact wpS_pure ⟨hX1,rfl, .inr ⟨n1,n2,p,h3,h4,h5,h6,h7,h8⟩⟩
end
end Ts
namespace Ts
open PySem PySem.W PyProof.Rows
theorem countP_lt{α:Type}{p q:α->Bool}:∀ {l:List α},(∀z,p z=true->q z=true)->(∃a ∈ l,q a=true/\p a=false)->l.countP p<l.countP q
 | [],_,⟨a,h,_⟩=>by cases h
 | b::l,h,⟨a,ha,h1,h2⟩=>by
  rw [List.countP_cons,List.countP_cons];have mono:l.countP p<=l.countP q:=List.countP_mono_left fun x _ hx=>h x hx;rcases List.mem_cons.mp ha with rfl | ha
  . rw [h1,h2];simp;omega
  . have ih:=countP_lt h ⟨a,ha,h1,h2⟩
    by_cases hb:p b=true
    . rw [hb,h b hb];simp;omega
    . rw [if_neg hb];split <;> omega
def rk(L:List (List Int))(x:List Int):Int:=((L.countP fun z=>decide (z<x):Nat):Int)
theorem rk_lt{L:List (List Int)}{x y:List Int}(hx:x ∈ L)(hy:y ∈ L):decide (rk L x<rk L y)=decide (x<y):=by
 by_cases h:x<y
 . rw [decide_eq_true h];refine decide_eq_true ?_;unfold rk;have:=countP_lt (l:=L) (p:=fun z=>decide (z<x)) (q:=fun z=>decide (z<y)) (fun z hz=>decide_eq_true (List.lt_trans (of_decide_eq_true hz) h)) ⟨x,hx,decide_eq_true h,decide_eq_false (List.lt_irrefl x)⟩;omega
 . rw [decide_eq_false h];refine decide_eq_false ?_;unfold rk
   have:=List.countP_mono_left (l:=L) (p:=fun z=>decide (z<y)) (q:=fun z=>decide (z<x)) fun z _ hz=>by
    have hz:=of_decide_eq_true hz;refine decide_eq_true ?_;exact Decidable.byContradiction fun c=>h (List.lt_of_le_of_lt (List.not_lt.mp c) hz)
   omega
theorem rk_le{L:List (List Int)}{x y:List Int}(hx:x ∈ L)(hy:y ∈ L)(h:rk L x<=rk L y):x<=y:=by
 have e:=rk_lt hy hx;refine List.not_lt.mp fun c=> ?_;rw [decide_eq_true c] at e
 have:=of_decide_eq_true e;omega
theorem dec_nil(x:Int)(xs:List Int):decide (x::xs<([]:List Int))=false:=decide_eq_false (List.not_lt_nil _)
theorem dec_eq(x:Int)(xs ys:List Int):decide (x::xs<x::ys)=decide (xs<ys):=decide_eq_decide.mpr ⟨fun h=>(List.cons_lt_cons_iff.mp h).elim (fun h=>absurd h (Int.lt_irrefl _)) fun h=>h.2,fun h=>List.cons_lt_cons_iff.mpr (.inr ⟨rfl,h⟩)⟩
theorem dec_ne{x y:Int}(he:x≠y)(xs ys:List Int):decide (x::xs<y::ys)=decide (x<y):=decide_eq_decide.mpr ⟨fun h=>(List.cons_lt_cons_iff.mp h).elim (fun h=>h) fun h=>absurd h.1 he,fun h=>List.cons_lt_cons_iff.mpr (.inl h)⟩
def Tup(h:Heap)(v:Value)(ns:List Int):Prop:=∃a o xs n,v = .ref a/\h.get? a=some o/\o.cls = .type "tuple" /\ o.data = .seq xs n/\IntsAre xs.toList ns
theorem ints_inj:∀ {us:List Value} {ns ms:List Int},IntsAre us ns->IntsAre us ms->ns=ms:=fun h1 h2=>by rw [<-h1.nums, <-h2.nums]
theorem Tup.inj{h:Heap}{v:Value}{ns ms:List Int}(h1:Tup h v ns)(h2:Tup h v ms):ns=ms:=by
 obtain ⟨a,o,xs,n,rfl,e1,_,e2,e3⟩:=h1;obtain ⟨a',o',xs',n',e0,e1',_,e2',e3'⟩:=h2
 cases e0
 rw [e1] at e1'
 cases e1'
 rw [e2] at e2'
 cases e2'
 exact ints_inj e3 e3'
section
variable {prog:Program} {w:World} {A:Around} {E:Value->Shared->Prop} {s:Shared}
theorem lex_at{Q:Bool->Shared->Prop}{fin:Bool}:∀ {us ws:List Value} {xs ys:List Int} (i:Nat),IntsAre us xs->IntsAre ws ys->fin=decide (xs.length<ys.length)->Q (decide (xs<ys)) s->KatLex prog w A true fin Q (us.zip ws) i s
 | _,_,_,_,i, .nil, .nil,hf,q=>by
  refine kat_nil ?_
  rw [hf];exact q
 | _,_,_,_,i, .nil, .cons y u r,hf,q=>by
  refine kat_nil ?_
  rw [hf];exact q
 | _,_,_,_,i, .cons x t r, .nil,hf,q=>by
  refine kat_nil ?_;rw [hf];rw [dec_nil] at q
  exact q
 | _,_,_,_,i, .cons x t r, .cons y u r',hf,q=>by
  refine kat_cons (wpAny_eqBool_int (kat_go (fun he=>kat_yes ?_) fun he=>kat_no ?_))
  . have he:x=y:=by simpa using he
    subst he;refine lex_at (i+1) r r' (by rw [hf];simp) ?_;rw [dec_eq] at q
    exact q
  . have he:x≠y:=by simpa using he
    rw [dec_ne he] at q
    cases hi:(true && i==0)
    . exact kat_one _ _ (PyProof.Rows.lt_int q)
    . exact oneLt_int q
end
end Ts
namespace Ts
open PySem PySem.W PyProof.Rows
open Classical in
noncomputable def nsOf(h:Heap)(v:Value):List Int:=if e:∃ns,Tup h v ns then e.choose else []
theorem nsOf_eq{h:Heap}{v:Value}{ns:List Int}(t:Tup h v ns):nsOf h v=ns:=by
 have e:∃ns,Tup h v ns:=⟨ns,t⟩;unfold nsOf;rw [dif_pos e];exact e.choose_spec.inj t
section
variable {prog:Program} {w:World} {A:Around} {E:Value->Shared->Prop} {s:Shared}
theorem pw_short:∀ {l:List (List Int)},l.length<2->l.Pairwise (· <= ·)
 | [],_=>List.Pairwise.nil
 | [_],_=>List.pairwise_singleton _ _
 | _::_::_,h=>by simp only [List.length_cons] at h;omega
theorem ltok_tup(L:List (List Int)):LtOk prog w A E s (tuples' true) (fun x=>∃ns,Tup s.heap x.1 ns/\ns ∈ L) (fun x=>rk L (nsOf s.heap x.1)):=fun x y st Q hk dx dy q=>by
 obtain ⟨ns,tx,mx⟩:=dx;obtain ⟨ms,ty,my⟩:=dy;have q':Q (some (decide (rk L (nsOf s.heap x.1)<rk L (nsOf s.heap y.1)))) st:=q
 have e:decide (rk L (nsOf s.heap x.1)<rk L (nsOf s.heap y.1))=decide (ns<ms):=by
  have e1:=nsOf_eq tx;have e2:=nsOf_eq ty;rw [<-rk_lt mx my, <-e1, <-e2]
 rw [e] at q'
 rw [lt'_eq];refine wpS_bind (wpS_get ?_);rw [hk];obtain ⟨a,o,xs,n,ex,e1,_,e2,e3⟩:=tx;obtain ⟨a',o',xs',n',ey,e1',_,e2',e3'⟩:=ty;rw [ex,ey];have l1:xs.size=ns.length:=by rw [<-Array.length_toList, <-e3.nums,List.length_map]
 have l2:xs'.size=ms.length:=by rw [<-Array.length_toList, <-e3'.nums,List.length_map]
 refine wpS_bind (wpS_lift (wpAny_attempt (kat_lt e1 e2 e1' e2' (lex_at 0 e3 e3' (by rw [l1,l2]) ⟨rfl,?_⟩))));exact wpS_pure q'
theorem katTups{h:Heap}:∀ {vs:List Value},(∀v ∈ vs,∃ns,Tup h v ns/\ns ≠ [])->∃fs,KatTups h vs fs/\fs.length=vs.length/\∀v ∈ fs,∃i t,v=Value.int i t
 | [],_=>⟨[],KatTups.nil,rfl,fun v hv=>by cases hv⟩
 | v::vs,r=>by
  obtain ⟨fs,h1,h2,h3⟩:=katTups fun v hv=>r v (List.mem_cons_of_mem _ hv);obtain ⟨ns,t,hn⟩:=r v List.mem_cons_self;obtain ⟨a,o,xs,n,rfl,e1,e0,e2,e3⟩:=t
  have:∃i u,xs[0]? = some (Value.int i u):=by
   rw [<-Array.getElem?_toList];generalize xs.toList=ys at e3
   cases e3 with
   | nil=>exact absurd rfl hn
   | cons i u _=>exact ⟨i,u,rfl⟩
  obtain ⟨i,u,e⟩:=this;refine ⟨.int i u::fs,KatTups.cons e1 e0 e2 e h1,by simp [h2],fun v hv=> ?_⟩;rcases List.mem_cons.mp hv with rfl | hv
  . exact ⟨i,u,rfl⟩
  . exact h3 v hv
theorem kind_tup{vs:List Value}(r:∀v ∈ vs,∃ns,Tup s.heap v ns/\ns ≠ [])(h0:0<vs.length){Q:SortKind->Shared->Prop}(q:Q (tuples' true) s):wpAny (model prog w) A (keyKind' vs.toArray) Q E s:=by
 obtain ⟨fs,h1,h2,h3⟩:=katTups r;refine kat_kind (T:= .type "int") h1 (by omega) (fun v hv=> ?_) (by rfl) (by exact q);obtain ⟨i,t,rfl⟩:=h3 v hv;exact .now
theorem list_sort_tup {a : Addr} {vs : List Value} {n : Nat} {P : PySem.Fin -> Shared -> Prop} (ho : s.heap.get? a = some (seqObj "list" vs.toArray n))
 (r:∀v ∈ vs,∃ns,Tup s.heap v ns/\ns ≠ []) (hl:vs.length<128)
 (h:∀out:Array Value,out.toList.Perm vs->(out.toList.map (nsOf s.heap)).Pairwise (· <= ·)->P (.done (.ret .none)) {s with heap:=sortedHeap s.heap a vs out}) :
 wpAny (model prog w) A (Builtin.«list.sort» ⟨[.ref a], []⟩) P E s := by
 rw [list_sort_plain];have ha:a<s.heap.objs.size:=Heap.lt_size ho;refine wpAny_bind (listItems_at ho rfl ?_);refine wpAny_bind (listUpdate_at ho rfl ?_ (by rw [List.size_toArray,sizeLine_eq];omega) (Nat.zero_le _));obtain ⟨e1,ho1⟩:∃e1,(s.heap.update a (Obj.mapSeq fun _=> #[])).get? a=some (seqObj "list" #[] e1):=⟨_,get?_update_seq ho (fun _=> #[])⟩;refine wpAny_bind (seqEpoch_at ho1 rfl ?_);refine wpAny_bind (wpAny_newTuple ?_ (by show vs.length<=_;rw [sizeLine_eq];omega));refine wpAny_bind (wpAny_newList ?_ (Nat.zero_le _));refine wpAny_holding ?_;have ho6:(((s.heap.update a (Obj.mapSeq fun _=> #[])).push (seqObj "tuple" vs.toArray 0)).push (seqObj "list" #[] 0)).get? a=some (seqObj "list" #[] e1):=Heap.get?_push_of_some _ (Heap.get?_push_of_some _ ho1)
 have keep:∀v ns,Tup s.heap v ns->Tup (((s.heap.update a (Obj.mapSeq fun _=> #[])).push (seqObj "tuple" vs.toArray 0)).push (seqObj "list" #[] 0)) v ns:=fun v ns t=>by
  obtain ⟨b,o,xs,k,rfl,t1,t2,t3,t4⟩:=t
  have hb:b≠a:=fun e=>by
   subst e;rw [ho] at t1
   cases t1
   simp at t2
  exact ⟨b,o,xs,k,rfl,Heap.get?_push_of_some _ (Heap.get?_push_of_some _ (by rw [Heap.get?_update_ne _ _ _ _ hb];exact t1)),t2,t3,t4⟩
 show wpAny (model prog w) A _ P E {s with heap:=((s.heap.update a (Obj.mapSeq fun _=> #[])).push (seqObj "tuple" vs.toArray 0)).push (seqObj "list" #[] 0)}
 dsimp only
 have fin : ∀ st' : SortSt, (arrOf st').Perm (pairsOf vs) -> (((arrOf st').map (·.2)).toList.map (nsOf s.heap)).Pairwise (· <= ·) ->
  P (.done (.ret .none)) {s with heap:=sortedHeap s.heap a vs ((arrOf st').map (·.2))}:=fun st' hp hs=>by
  refine h _ ?_ hs;have:=((Array.perm_iff_toList_perm.mp hp).map (·.2));rw [pairsOf_toList] at this
  rw [Array.toList_map];refine this.trans (List.Perm.of_eq ?_);exact List.map_snd_zip (Nat.le_refl _)
 by_cases h2:vs.toArray.size<2
 . rw [if_pos h2,if_pos h2];refine wpAny_bind (wpAny_pure ?_);rw [StateT.run_pure];refine wpAny_bind (wpAny_pure ?_)
   dsimp only
   refine wpAny_bind (seqEpoch_at ho6 rfl ?_);refine wpAny_bind (listUpdate_at ho6 rfl ?_ (Nat.zero_le _) (by rw [Array.size_map];show (pairsOf vs).size<=_;rw [pairsOf_size,sizeLine_eq];omega));simp only [bne_self_eq_false,Bool.false_eq_true,if_false];refine wpAny_pure (fin (SortSt.mk' general' (vs.toArray.zip vs.toArray) #[] 7 none) (Array.Perm.refl _) ?_);have hz:vs.length<2:=by rwa [List.size_toArray] at h2
   refine pw_short ?_;rw [List.length_map,Array.length_toList,Array.size_map];show (pairsOf vs).size<2;rw [pairsOf_size];exact hz
 . rw [if_neg h2,if_neg h2];have hz:2<=vs.length:=by rw [List.size_toArray] at h2;omega
   refine wpAny_bind (kind_tup (fun v hv=>let ⟨ns,t,hn⟩:=r v hv;⟨ns,keep v ns t,hn⟩) (by omega) ?_);have hmem:∀x ∈ (pairsOf vs).toList,x.1=x.2/\x.1 ∈ vs:=fun x hx=>by rw [pairsOf_toList] at hx;exact mem_zip_self hx
   refine wpAny_bind (wpAny_mono (wpS_runs (ltok_tup (vs.map (nsOf s.heap))) (a₀:=pairsOf vs) (st:=SortSt.mk' (tuples' true) (vs.toArray.zip vs.toArray) #[] 7 none)
    (Q:=fun _ st'=>(arrOf st').Perm (pairsOf vs)/\failedOf st'=none/\(((arrOf st').map (·.2)).toList.map (nsOf s.heap)).Pairwise (· <= ·))
    (fun x hx=>by
     obtain ⟨_,hv⟩:=hmem x hx;obtain ⟨ns,t,hn⟩:=r x.1 hv;exact ⟨ns,keep _ _ t,List.mem_map.mpr ⟨x.1,hv,nsOf_eq t⟩⟩)
    ⟨rfl,rfl,Array.Perm.refl _⟩ rfl (by rw [pairsOf_size];exact hz) (by rw [pairsOf_size];exact hl) fun st' a1 a2 a3=>⟨a1,a2,?_⟩) ?_ fun _ _ e=>e)
   . rw [Array.toList_map,List.map_map,List.pairwise_map];refine List.Pairwise.imp_of_mem (fun {x y} hx hy hxy=> ?_) a3;obtain ⟨ex,vx⟩:=hmem x ((Array.perm_iff_toList_perm.mp a1).mem_iff.mp hx);obtain ⟨ey,vy⟩:=hmem y ((Array.perm_iff_toList_perm.mp a1).mem_iff.mp hy);obtain ⟨ns,tx,_⟩:=r x.1 vx;obtain ⟨ms,ty,_⟩:=r y.1 vy;show nsOf s.heap x.2<=nsOf s.heap y.2;rw [<-ex, <-ey];refine rk_le (L:=vs.map (nsOf s.heap)) (List.mem_map.mpr ⟨_,vx,rfl⟩) (List.mem_map.mpr ⟨_,vy,rfl⟩) ?_;rw [nsOf_eq tx,nsOf_eq ty];have hxy':=hxy
     dsimp only at hxy'
     rwa [nsOf_eq (keep _ _ tx),nsOf_eq (keep _ _ ty)] at hxy'
   . rintro ⟨⟨⟩,st'⟩ s' ⟨rfl,hp,hf,hs⟩
     dsimp only
     refine wpAny_bind (seqEpoch_at ho6 rfl ?_);refine wpAny_bind (listUpdate_at ho6 rfl ?_ (Nat.zero_le _) (by refine Nat.le_trans (Nat.le_of_eq ((Array.size_map ..).trans (hp.size_eq.trans (pairsOf_size _)))) ?_;rw [sizeLine_eq];omega));rw [hf];simp only [bne_self_eq_false,Bool.false_eq_true,if_false];exact wpAny_pure (fin st' hp hs)
theorem sorted_tup {l : Addr} {vs : List Value} {Q : Value -> Shared -> Prop} (hl : s.heap.IsList l vs.toArray) (r : ∀ v ∈ vs, ∃ ns, Tup s.heap v ns /\ ns ≠ []) (h128 : vs.length < 128)
 (h:∀out:Array Value,out.toList.Perm vs->(out.toList.map (nsOf s.heap)).Pairwise (· <= ·)->Q (.ref (s.heap.objs.size+1)) {s with heap:=sortedAll s.heap vs out}) :
 wpAny (model prog w) A (call (.builtin "sorted") [.ref l]) Q E s:=by
 refine Calls.call_function_entry kind_sorted plain_sorted entry_sorted (args_sorted1 _) ?_;unfold Builtin.«sorted»;refine wpAny_bind (m:=checkCount "sorted" 1 1 _) (wpAny_pure ?_);refine wpAny_bind (collect_list hl ?_ (by rw [sizeLine_eq];omega));refine wpAny_bind (wpAny_newList ?_ (by rw [sizeLine_eq];omega))
 have hsz:((s.heap.push (seqObj "list" #[] 0)).update s.heap.objs.size (Obj.mapSeq (· ++ vs.toArray))).objs.size=s.heap.objs.size+1:=by
  rw [Heap.size_update,size_push']
 have hoL:(((s.heap.push (seqObj "list" #[] 0)).update s.heap.objs.size (Obj.mapSeq (· ++ vs.toArray))).push (seqObj "list" vs.toArray 0)).get? (s.heap.objs.size+1)=some (seqObj "list" vs.toArray 0):=by
  rw [<-hsz];exact Heap.get?_push_size _ rfl
 have keep:∀b o,s.heap.get? b=some o->(((s.heap.push (seqObj "list" #[] 0)).update s.heap.objs.size (Obj.mapSeq (· ++ vs.toArray))).push (seqObj "list" vs.toArray 0)).get? b=some o:=fun b o q=>by
  have hlt:b<s.heap.objs.size:=Heap.lt_size q;rw [Heap.get?_push_ne _ _ _ (by rw [hsz];exact Nat.ne_of_lt (Nat.lt_succ_of_lt hlt)),Heap.get?_update_ne _ _ _ _ (Nat.ne_of_lt hlt),Heap.get?_push_ne _ _ _ (Nat.ne_of_lt hlt)];exact q
 have keepT:∀v ns,Tup s.heap v ns->Tup (((s.heap.push (seqObj "list" #[] 0)).update s.heap.objs.size (Obj.mapSeq (· ++ vs.toArray))).push (seqObj "list" vs.toArray 0)) v ns:=fun v ns t=>by
  obtain ⟨b,o,xs,k,rfl,t1,t2,t3,t4⟩:=t;exact ⟨b,o,xs,k,rfl,keep _ _ t1,t2,t3,t4⟩
 show wpAny _ _ _ _ _ {s with heap:=((s.heap.push (seqObj "list" #[] 0)).update s.heap.objs.size (Obj.mapSeq (· ++ vs.toArray))).push (seqObj "list" vs.toArray 0)};rw [hsz];refine wpAny_bind (wpAny_holding (wpAny_call_entry slot_list_sort ⟨_,hoL,rfl⟩ entry_list_sort (list_sort_tup hoL (fun v hv=>let ⟨ns,t,hn⟩:=r v hv;⟨ns,keepT v ns t,hn⟩) h128 fun out a1 a2=>⟨_,rfl,?_⟩) (args_list_sort _)));refine wpAny_pure ⟨_,rfl,h out a1 ?_⟩
 have e:out.toList.map (nsOf s.heap)=out.toList.map (nsOf (((s.heap.push (seqObj "list" #[] 0)).update s.heap.objs.size (Obj.mapSeq (· ++ vs.toArray))).push (seqObj "list" vs.toArray 0))):=List.map_congr_left fun v hv=>by
  obtain ⟨ns,t,_⟩:=r v (a1.mem_iff.mp hv);rw [nsOf_eq t,nsOf_eq (keepT v ns t)]
 rw [e];exact a2
end
end Ts
namespace Tf
open PySem PySem.Spec PyProof.Rows L2
def tI(ns:List Int):PyData:= .tuple (ns.map .int)
def unI:PyData->List Int
 | .tuple ds=>ds.map fun d=>match d with | .int i=>i | _=>0
 | _=> []
theorem unI_tI(ns:List Int):unI (tI ns)=ns:=by
 show (ns.map PyData.int).map (fun d=>match d with | .int i=>i | _=>0)=ns;rw [List.map_map];exact (List.map_congr_left fun x _=>rfl).trans (List.map_id _)
def srtL(nss:List (List Int)):List (List Int):=nss.mergeSort fun a b=>decide (a<=b)
theorem srtL_perm(ns:List (List Int)):(srtL ns).Perm ns:=List.mergeSort_perm _ _
theorem srtL_pair(ns:List (List Int)):(srtL ns).Pairwise (· <= ·):=by
 have:=List.pairwise_mergeSort (le:=fun a b:List Int=>decide (a<=b)) (fun a b c h1 h2=>decide_eq_true (List.le_trans (of_decide_eq_true h1) (of_decide_eq_true h2))) (fun a b=>by
  rcases List.le_total a b with h | h
  . rw [decide_eq_true h];rfl
  . rw [decide_eq_true h,Bool.or_true]) ns
 exact this.imp fun h=>of_decide_eq_true h
theorem srtL_eq{ns ns':List (List Int)}(h:ns'.Perm ns)(p:ns'.Pairwise (· <= ·)):ns'=srtL ns:=
 List.Perm.eq_of_pairwise (fun a b _ _ h1 h2=>List.le_antisymm h1 h2) p (srtL_pair ns) (h.trans (srtL_perm ns).symm)
theorem perm3{K:PySem.W.Frag}{its out:List Value}(h:its.Perm out):∀ {vs:List V} {ds:List PyData},Vals vs its->ds.length=its.length->∃vs' ds',Vals vs' out/\ds'.Perm ds/\(∀H1,Reps K H1 vs ds->Reps K H1 vs' ds'):=by
 induction h with
 | nil=>
  intro vs ds r hl
  cases r
  exact ⟨[],ds, .nil,List.Perm.refl _,fun _ h=>h⟩
 | cons x _ ih=>
  intro vs ds r hl
  cases r with
  | cons r1 r2=>
   match ds,hl with
   | d::ds,hl=>
    obtain ⟨vs',ds',h1,h2,h3⟩:=ih r2 (by simpa using hl);refine ⟨_,d::ds', .cons r1 h1,h2.cons d,fun H1 h=> ?_⟩
    cases h with
    | cons g1 g2=>exact .cons g1 (h3 H1 g2)
 | swap x y l=>
  intro vs ds r hl
  cases r with
  | cons r1 r2=>cases r2 with
   | cons r2 r3=>
    match ds,hl with
    | d::e::ds,hl=>
     refine ⟨_,e::d::ds, .cons r2 (.cons r1 r3),List.Perm.swap _ _ _,fun H1 h=> ?_⟩
     cases h with
     | cons g1 g2=>cases g2 with
      | cons g2 g3=>exact .cons g2 (.cons g1 g3)
 | trans h1 _ ih1 ih2=>
  intro vs ds r hl;obtain ⟨vs1,ds1,a1,a2,a3⟩:=ih1 r hl;obtain ⟨vs2,ds2,b1,b2,b3⟩:=ih2 a1 (by rw [a2.length_eq,hl,h1.length_eq]);exact ⟨vs2,ds2,b1,b2.trans a2,fun H1 h=>b3 H1 (a3 H1 h)⟩
variable {X:Cx}
theorem reps_ints'{K:PySem.W.Frag}{H:Hp}:∀ {vs:List V} {ns:List Int},Reps K H vs (ns.map PyData.int)->vs=ns.map V.int
 | _,[], .nil=>rfl
 | _,n::ns, .cons h t=>by
  cases h
  rw [reps_ints' t];rfl
theorem tup_of{pins:List (Addr×Obj)}{s:Shared}{σ:L2.St}{H:Hp}{v:V}{u:Value}{ns:List Int}(I:Inv X pins σ H s)(h:Rep X.K H v (tI ns))(r:RelV v u):Ts.Tup s.heap u ns:=by
 unfold tI at h
 cases h with
 | tuple h1 h2=>
  rw [reps_ints' h2] at h1
  obtain ⟨its,rv,⟨o,e1,e2,n,e3⟩,_⟩:=I.tuple (SqT.of (K:=X.K) h1)
  cases r
  exact ⟨_,o,_,n,rfl,e1,e2,e3,ints_of_vals rv⟩
theorem tups_of{pins:List (Addr×Obj)}{s:Shared}{σ:L2.St}{H:Hp}(I:Inv X pins σ H s):∀ {vs:List V} {us:List Value} {nss:List (List Int)},Reps X.K H vs (nss.map tI)->Vals vs us->(∀ns ∈ nss,ns ≠ [])->∀u ∈ us,∃ns,Ts.Tup s.heap u ns/\ns ≠ []
 | _,_,[], .nil, .nil,_,u,hu=>by cases hu
 | _,_,ns::nss, .cons h t, .cons r rs,hn,u,hu=>by
  rcases List.mem_cons.mp hu with rfl | hu
  . exact ⟨ns,tup_of I h r,hn ns List.mem_cons_self⟩
  . exact tups_of I t rs (fun m hm=>hn m (List.mem_cons_of_mem _ hm)) u hu
theorem reps_ns{pins:List (Addr×Obj)}{s:Shared}{σ:L2.St}{H:Hp}(I:Inv X pins σ H s):∀ {vs:List V} {us:List Value} {ds:List PyData},Reps X.K H vs ds->Vals vs us->(∀d ∈ ds,∃ns,d=tI ns)->ds=(us.map (Ts.nsOf s.heap)).map tI
 | _,_,_, .nil, .nil,_=>rfl
 | _,_,_, .cons h t, .cons r rs,hd=>by
  obtain ⟨ns,rfl⟩:=hd _ List.mem_cons_self;rw [List.map_cons,List.map_cons,Ts.nsOf_eq (tup_of I h r), <-reps_ns I t rs fun d hm=>hd d (List.mem_cons_of_mem _ hm)]
theorem call_sortedT:CallR X (.builtin "sorted") (fun xs H Q=>∃a vs nss,xs = [V.ref a]/\SqL X.K H a vs/\Reps X.K H vs (nss.map tI)/\(∀ns ∈ nss,ns ≠ [])/\nss.length<128/\∀p,H p=none->∀vs',(∀H1,Reps X.K H1 vs (nss.map tI)->Reps X.K H1 vs' ((srtL nss).map tI))->Q (.ref p) (upd H p (.lst vs'))):=by
 intro pins s σ H xs us Q I r h;obtain ⟨a,vs,nss,rfl,hq,hr,hn,hl,q⟩:=h;obtain ⟨u,rfl,ru⟩:=vals1 r
 cases ru
 obtain ⟨its,rv,p1,hz⟩:=I.list hq;have l:=rv.length;have l2:=hr.length;rw [List.length_map] at l2
 refine Ts.sorted_tup p1.isList (tups_of I hr rv hn) (by omega) fun out a1 a2=> ?_;obtain ⟨vs',ds',b1,b2,b3⟩:=perm3 (K:=X.K) a1.symm rv (ds:=nss.map tI) (by rw [List.length_map];omega)
 have e1:ds'=(out.toList.map (Ts.nsOf s.heap)).map tI:=reps_ns I (b3 H hr) b1 fun d hd=>by
  obtain ⟨ns,_,e⟩:=List.mem_map.mp (b2.mem_iff.mp hd);exact ⟨ns,e.symm⟩
 have e2:out.toList.map (Ts.nsOf s.heap)=srtL nss:=by
  refine srtL_eq ?_ a2;have:=b2.map unI
  have un:∀l:List (List Int),(l.map tI).map unI=l:=fun l=>by
   rw [List.map_map,show (unI ∘ tI)=id from funext unI_tI,List.map_id]
  rwa [e1,un,un] at this
 rw [e2] at e1
 subst e1;obtain ⟨e,he⟩:=sortedAll_at s.heap its out;refine ⟨.ref (s.heap.objs.size+1),_,I.laid (a:=s.heap.objs.size+1) (o:= .lst vs') (t':=s.toks) (fun b o z=>sortedAll_old z) (Nat.le_succ _) ⟨?_,out.toList,e,b1,?_⟩,rfl,q _ (I.hok.fresh (Nat.le_succ _)) vs' b3⟩
 . have:=(b3 H hr).length;rw [List.length_map,(srtL_perm nss).length_eq] at this
   rw [this];exact Nat.le_of_lt (Nat.lt_trans hl (by decide))
 . rw [he]
end Tf
namespace Dm
open PySem PySem.Spec PyProof.Rows L2 Tf
def tupsOf:List PyData->Option (List (List Int))
 | []=>some []
 | .tuple ds::r=>(intsOf ds).bind fun ns=>if ns = [] then none else (tupsOf r).bind fun nss=>some (ns::nss)
 | _::_=>none
theorem tupsOf_eq:∀ {ds:List PyData} {nss:List (List Int)},tupsOf ds=some nss->ds=nss.map tI/\∀ns ∈ nss,ns ≠ []
 | [],nss,h=>by cases h;exact ⟨rfl,fun _ h=>by cases h⟩
 | d::r,nss,h=>by
  cases d with
  | tuple ds=>
   unfold tupsOf at h
   obtain ⟨ns,h1,h⟩:=Option.bind_eq_some_iff.mp h
   split at h
   . cases h
   . rename_i hne;obtain ⟨ms,h2,h⟩:=Option.bind_eq_some_iff.mp h
     cases h
     obtain ⟨e1,e2⟩:=tupsOf_eq h2;refine ⟨?_,fun m hm=> ?_⟩
     . rw [List.map_cons,e1,intsOf_eq h1];rfl
     . rcases List.mem_cons.mp hm with rfl | hm
       . exact hne
       . exact e2 m hm
  | _=>cases h
theorem tupsOf_map:∀ {nss:List (List Int)},(∀ns ∈ nss,ns ≠ [])->tupsOf (nss.map tI)=some nss
 | [],_=>rfl
 | ns::nss,h=>by
  show ((intsOf (ns.map PyData.int)).bind fun ns=>if ns = [] then none else (tupsOf (nss.map tI)).bind fun nss=>some (ns::nss))=_;rw [intsOf_map,Option.bind_some,if_neg (h ns List.mem_cons_self),tupsOf_map fun m hm=>h m (List.mem_cons_of_mem _ hm)];rfl
def dSortT:List Sl->Option Sl
 | [s]=>match s.dat with
  | .list ds=>(tupsOf ds).bind fun nss=>if nss.length<128 then some (.own ((srtL nss).map tI)) else none
  | _=>none
 | _=>none
section
variable {K:PySem.W.Frag}
theorem cd_sortT:CallD K (fun xs H Q=>∃a vs nss,xs = [V.ref a]/\SqL K H a vs/\Reps K H vs (nss.map tI)/\(∀ns ∈ nss,ns ≠ [])/\nss.length<128/\∀p,H p=none->∀vs',(∀H1,Reps K H1 vs (nss.map tI)->Reps K H1 vs' ((srtL nss).map tI))->Q (.ref p) (upd H p (.lst vs'))) dSortT:=fun H0 H vs ss z s p hz Q q=>by
 unfold dSortT at hz
 split at hz
 . obtain ⟨v,rfl,pa⟩:=paired1 p
   split at hz
   . rename_i ds hd;obtain ⟨nss,hn,hz⟩:=Option.bind_eq_some_iff.mp hz
     split at hz
     . rename_i hl
       cases hz
       obtain ⟨a,vs,rfl,h1,h2⟩:=pa.lst s hd;obtain ⟨e1,e2⟩:=tupsOf_eq hn;rw [e1] at h2
       refine ⟨a,vs,nss,rfl,h1,Reps.same s h2,e2,hl,fun b hb vs' p1=> ?_⟩;exact q _ _ _ (Ext.alloc s hb _) ⟨b,_,rfl,hb,s.free hb,upd_same,p1 _ h2⟩
     . cases hz
   . cases hz
 . cases hz
end
end Dm
namespace Dm
open PySem PySem.Spec PyProof.Rows L2 Tf
section
variable {K:PySem.W.Frag} {R:Rl} [RelOk K R]
end
section
variable {X:Cx} {R:Rl} [RelOk X.K R] {a:Expr} {pos p:Pos} {fs:En->Option (List PyData)}
end
section
variable {K:PySem.W.Frag} {R:Rl} [RelOk K R]
def mLR2(fa fb:En->Option Sl):En->Option Sl:=fun ρ=>((fa ρ).bind intS').bind fun a=>((fb ρ).bind intS').bind fun b=>if 0<=a/\a<=b/\b<=1000 then some (.own ((List.range (b - a).toNat).map fun k:Nat=> .int (a+(k:Int)))) else none
def tLR2(ta tb:TE):TE:=fun σ H Q=>ta σ H fun x H1=>tb σ H1 fun y H2=>∃(a b:Int),x = .int a/\y = .int b/\0<=a/\a<=b/\b<=1000/\∀p,H2 p=none->Q (.ref p) (upd H2 p (.lst ((List.range (b - a).toNat).map fun k:Nat=>V.int (a+(k:Int)))))
theorem reps_rng2{H:Hp}{a:Int}:∀ks:List Nat,Reps K H (ks.map fun k:Nat=>V.int (a+(k:Int))) (ks.map fun k:Nat=> .int (a+(k:Int)))
 | []=> .nil
 | k::ks=> .cons (.int _) (reps_rng2 ks)
theorem re_LR2{ta tb:TE}{fa fb:En->Option Sl}(hA:RP K R ta fa)(hB:RP K R tb fb):RE K R (tLR2 ta tb) (mLR2 fa fb):=fun HB σ ρ H0 H s e z hz Q q=>by
 obtain ⟨a,ha,hz⟩:=Option.bind_eq_some_iff.mp hz;obtain ⟨b,hb,hz⟩:=Option.bind_eq_some_iff.mp hz;obtain ⟨s1,e1,ha⟩:=Option.bind_eq_some_iff.mp ha;obtain ⟨s2,e2,hb⟩:=Option.bind_eq_some_iff.mp hb;have ha:=intS'_some ha;have hb:=intS'_some hb;subst ha hb
 split at hz
 . rename_i h0
   cases hz
   refine hA HB σ ρ H0 H s e _ e1 _ fun w H1 J1 x1 p1=> ?_;refine hB HB σ ρ H1 J1 x1.s1 (e.ext (K:=K) x1) _ e2 _ fun w2 H2 J2 x2 p2=>⟨a,b,p1.int,p2.int,h0.1,h0.2.1,h0.2.2,fun l hp=> ?_⟩;have x12:=x1.trans x2;exact q _ _ _ (x12.trans (Ext.alloc x12.s1 hp _)) ⟨l,_,rfl,x12.s.free hp,x12.s1.free hp,upd_same,reps_rng2 _⟩
 . cases hz
end
section
variable {X:Cx} {R:Rl} [RelOk X.K R] {a b:Expr} {es:List Expr} {pos p1 p2 pos2 px ps1 ps2:Pos} {fa fb:En->Option Sl} {gg:List (PyData->En->Option En)} {x:Str} {ta tb:TE}
theorem pe_listrange2 (hml : X.mg "list" = none) (hmr : X.mg "range" = none) (ha : PE X a ta) (hb : PE X b tb) (hgl : Gl X "list" := by rfl) (hgr : Gl X "range" := by rfl) (hc : X.calm = true := by rfl)
 (hs1:starEach [.Call (.Name "range" p2) [a,b] [] pos2] X.env=(false,eval (.Call (.Name "range" p2) [a,b] [] pos2) X.env)::starEach [] X.env:=by rfl) (hs0:(backTo pos (starEach [] X.env)).any (·.1)=false:=by rfl) (hs2:backTo pos (starEach [] X.env) = []:=by rfl)
 (hsa:starEach [a,b] X.env=(false,eval a X.env)::starEach [b] X.env:=by rfl) (hsb:starEach [b] X.env=(false,eval b X.env)::starEach [] X.env:=by rfl) (hs3:(backTo pos2 (starEach [b] X.env)).any (·.1)=false:=by rfl):PE X (.Call (.Name "list" p1) [.Call (.Name "range" p2) [a,b] [] pos2] [] pos) (tLR2 ta tb):=by
 intro pins s σ H Q I h;refine Call_ (ld_blt I hgl hml bt_list (PyProof.Rows.callWith_type1 ?_ hs1 hs0));rw [hs1];show wpAny _ _ (spliced ((false,eval (.Call (.Name "range" p2) [a,b] [] pos2) X.env)::backTo pos (starEach [] X.env))) _ _ s;rw [hs2];refine Calls.spliced_cons ?_;refine Call_ (ld_blt I hgr hmr bt_range (PyProof.Rows.callWith_type1 (thn (pa_cons ha (pa_cons hb pa_nil hsb) hsa pos2 pins s σ H (fun vs H1=>∃(a b:Int),vs = [.int a, .int b]/\0<=a/\a<=b/\b<=1000/\∀p,H1 p=none->Q (.ref p) (upd H1 p (.lst ((List.range (b - a).toNat).map fun k:Nat=>V.int (a+(k:Int)))))) I ?_) fun us s1 ⟨vs,H1,I1,r1,q1⟩ => ?_) hsa hs3))
 . have h:ta σ H fun x H1=>tb σ H1 fun y H2=>∃(a b:Int),x = .int a/\y = .int b/\0<=a/\a<=b/\b<=1000/\∀p,H2 p=none->Q (.ref p) (upd H2 p (.lst ((List.range (b - a).toNat).map fun k:Nat=>V.int (a+(k:Int))))):=h;refine (show ta σ H (fun x H1=>tb σ H1 fun y H2=>∃(a b:Int),[x,y] = [V.int a,V.int b]/\0<=a/\a<=b/\b<=1000/\∀p,H2 p=none->Q (.ref p) (upd H2 p (.lst ((List.range (b - a).toNat).map fun k:Nat=>V.int (a+(k:Int)))))) from ?_)
   have e:(fun (x:V) (H1:Hp)=>tb σ H1 fun y H2=>∃(a b:Int),[x,y] = [V.int a,V.int b]/\0<=a/\a<=b/\b<=1000/\∀p,H2 p=none->Q (.ref p) (upd H2 p (.lst ((List.range (b - a).toNat).map fun k:Nat=>V.int (a+(k:Int))))))=fun x H1=>tb σ H1 fun y H2=>∃(a b:Int),x = .int a/\y = .int b/\0<=a/\a<=b/\b<=1000/\∀p,H2 p=none->Q (.ref p) (upd H2 p (.lst ((List.range (b - a).toNat).map fun k:Nat=>V.int (a+(k:Int))))):=by
    funext x H1;congr 1
    funext y H2;simp only [List.cons.injEq,and_true,and_assoc]
   rw [e];exact h
 obtain ⟨a',b',e,h1,h2,h3,q⟩:=q1;subst e
 cases r1 with
 | cons r rr=>
  cases rr with
  | cons r2 rr=>
   cases rr
   obtain ⟨t,rfl⟩:=r;obtain ⟨t2,rfl⟩:=r2;refine call_range_2 ?_;refine Calls.spliced_nil ?_
   let s2:Shared:={s1 with heap:=s1.heap.push {cls:= .type "range",data:= .fields #[.int a' t, .int b' t2, .int 1 s1.toks]},toks:=s1.toks+1}
   have I2:Inv X pins σ H1 s2:=I1.kept fun b o e=>Heap.get?_push_of_some _ e;refine call_list_range (s:=s2) (n:=(b' - a').toNat) (I1.ok.hd hc) (IsRange.new ..) (small_one (by omega) (by omega) (by omega) (by omega)) (by rw [rangeSize_one];split <;> omega) (by omega) fun h' tk acc' c' hk hS' hacc=> ?_;have hs:=hacc.1;refine ⟨.ref s2.heap.objs.size,_,I2.laid (t':=tk) (o:= .lst ((List.range (b' - a').toNat).map fun k:Nat=>V.int (a'+(k:Int)))) hk (Nat.le_refl _) ?_,rfl,q _ (I2.hok.fresh (Nat.le_refl _))⟩
   refine ⟨by rw [List.length_map, List.length_range]; have : 1000 <= sizeLine := by decide
              omega,acc'.toList,c',vals_of (by rw [List.length_map,List.length_range,Array.length_toList,hs]) fun j x u g1 g2=> ?_,by simpa using hS'⟩
   rw [List.getElem?_map] at g1
   obtain ⟨k,hk1,hk2⟩:=Option.map_eq_some_iff.mp g1;obtain ⟨hj,ej⟩:=List.getElem?_eq_some_iff.mp hk1;rw [List.getElem_range] at ej
   subst ej hk2;obtain ⟨tk',e⟩:=hacc.2 j u (by simpa using g2);subst e;exact ⟨tk',by simp⟩
theorem de_LR2 (hml : X.mg "list" = none) (hmr : X.mg "range" = none) (ha : DP X R a fa) (hb : DP X R b fb) (hgl : Gl X "list" := by rfl) (hgr : Gl X "range" := by rfl) (hc : X.calm = true := by rfl)
 (hs1:starEach [.Call (.Name "range" p2) [a,b] [] pos2] X.env=(false,eval (.Call (.Name "range" p2) [a,b] [] pos2) X.env)::starEach [] X.env:=by rfl) (hs0:(backTo pos (starEach [] X.env)).any (·.1)=false:=by rfl) (hs2:backTo pos (starEach [] X.env) = []:=by rfl)
 (hsa:starEach [a,b] X.env=(false,eval a X.env)::starEach [b] X.env:=by rfl) (hsb:starEach [b] X.env=(false,eval b X.env)::starEach [] X.env:=by rfl) (hs3:(backTo pos2 (starEach [b] X.env)).any (·.1)=false:=by rfl):DE X R (.Call (.Name "list" p1) [.Call (.Name "range" p2) [a,b] [] pos2] [] pos) (mLR2 fa fb):=by
 obtain ⟨t,h1,h2⟩:=ha;obtain ⟨u,h3,h4⟩:=hb;exact ⟨_,pe_listrange2 hml hmr h1 h3 hgl hgr hc hs1 hs0 hs2 hsa hsb hs3,re_LR2 h2 h4⟩
end
end Dm
namespace Tf
open PySem PySem.Spec PyProof.Rows L2
section
variable {K:PySem.W.Frag} {prog:Program} {w:World} {A:Around} {E:Value->Shared->Prop} {s:Shared} {x D:Addr}
structure XCls (K:PySem.W.Frag) (D:Addr):Prop where
 ga:PySem.W.findIn K (.ref D) "__getattribute__" = some (some (.builtin "BaseException.__getattribute__"))
 gg:PySem.W.findIn K (.ref D) "__getattr__" = some none
 cl:PySem.W.findIn K (.ref D) "__class__" = some (some (.builtin "object.__class__"))
 gt:PySem.W.specialIn K (.builtin "object.__class__") "__get__" = some (some (.builtin "getset_descriptor.__get__"))
 tk:PySem.W.takesIn K (.builtin "object.__class__")=some true
 mo:PySem.W.mroIn K D (.type "object")=some true
 mb:PySem.W.mroIn K D (.type "BaseException")=some true
 ci:(PySem.W.clsIn K D).isSome=true
def AtC(h:Heap)(x D:Addr):Prop:=∃ox,h.get? x=some ox/\ox.cls = .ref D
theorem AtC.type{M:Model}{h:Heap}(I:AtC h x D):PySem.W.Looks M h (typeOf (.ref x)) (.ref D):=by
 obtain ⟨ox,h1,h2⟩:=I;exact h2 ▸ (PySem.W.Looks.ld h1).andThen .now
theorem XCls.find(c:XCls K D){M:Model}{h:Heap}(X:K.In h):PySem.W.Looks M h (Builtin.ObjectAttr.find (.ref x) (.ref D) "__class__") (.bind (.builtin "getset_descriptor.__get__") (.builtin "object.__class__")):=by
 have L1:=PySem.W.looks_findIn (M:=M) X c.cl;have L2:=PySem.W.looks_specialIn (M:=M) X c.gt;have L3:=PySem.W.looks_takesIn (M:=M) X c.tk;have L4:PySem.W.Looks M h (Builtin.ObjectAttr.getOf (some (Value.builtin "object.__class__"))) (some (Value.builtin "getset_descriptor.__get__")):=L2;exact L1.andThen (L4.andThen ((show PySem.W.Looks M h (Builtin.ObjectAttr.dataDescriptor? (some (Value.builtin "object.__class__")) (some (Value.builtin "getset_descriptor.__get__"))) (some (Value.builtin "getset_descriptor.__get__",Value.builtin "object.__class__")) from L3.andThen .now).andThen (PySem.W.Looks.tag .now)))
theorem xget (c : XCls K D) {R : Result -> Shared -> Prop} {tp : Value} (X : K.In s.heap) (I : AtC s.heap x D)
 (h:R (.ok (.ret (.ref D))) s):codeAny (model prog w) A (.call (.builtin "getset_descriptor.__get__") ⟨[.builtin "object.__class__", .ref x,tp],[]⟩) R s:=by
 obtain ⟨hh,g,dr,t,os⟩:=s;have L0:=I.type (M:=model prog w);have L1:=PySem.W.looks_mroIn (M:=model prog w) X c.mo
 open PySem.W in
 refine codeAny_call_builtin KF.slot_gs.plain KF.entry_gs (KF.slot_gs.check _ _ _ _ _ _ _ _ KF.type_class (KF.args_gs _ _ _) ?_);unfold Builtin.«getset_descriptor.__get__» Builtin.Getset_descriptor.descrGet
 open PySem.W in rw [dga_obj]
 refine wpAny_bind (wpAny_pure ?_);unfold Builtin.Getset_descriptor.descrGetter Builtin.Getset_descriptor.descrCheckInstance Builtin.Getset_descriptor.descrNameAndClass isInstance
 open PySem.W in simp only [KF.owner_class]
 repeat lk
 open PySem.W in
 refine ⟨Code.quiet_builtin _ (by decide +kernel),codeAny_builtin KF.entry_class ?_⟩;unfold Builtin.«object.__class__» shownTypeOf
 repeat lk
 exact h
theorem xent (c : XCls K D) {tk : Tok} {Q : Fin -> Shared -> Prop} (X : K.In s.heap) (I : AtC s.heap x D) (hq : Q (.done (.ret (.ref D))) s) :
 wpAny (model prog w) A (Builtin.«object.__getattribute__» ⟨[.ref x, .str "__class__" tk], []⟩) Q E s := by
 obtain ⟨hh,gg,d,t,os⟩:=s;have L0:=I.type (M:=model prog w);have L1:=c.find (x:=x) (M:=model prog w) X;refine wpAny_bind (wpAny_pure (wpAny_bind (wpAny_pure (wpAny_bind (L0.at (wpAny_bind (L1.at ?_)))))));show wpAny _ _ (Builtin.ObjectAttr.bindTo _ _ _ _) _ _ _;unfold Builtin.ObjectAttr.bindTo;refine wpAny_bind (wpAny_holding (wpAny_call (xget c X I ?_)));exact wpAny_pure hq
theorem xchk (c : XCls K D) {tk : Tok} {M : Model} {Q : Unit -> Shared -> Prop} (X : K.In s.heap) (I : AtC s.heap x D) (hq : Q () s) :
 wpAny M A (checkBuiltinCall "BaseException.__getattribute__" ⟨[.ref x, .str "__class__" tk],[]⟩) Q E s:=by
 obtain ⟨hh,gg,d,t,os⟩:=s;have hk:builtinKind "BaseException.__getattribute__" = some .slot:=by decide +kernel
 have hsplit:splitId "BaseException.__getattribute__" = some ("BaseException","__getattribute__"):=by decide +kernel
 have ha:=F.args_bexc_ga (.ref x) (.str "__class__" tk);have L0:=I.type (M:=M);have L1:=PySem.W.looks_mroIn (M:=M) X c.mb;simp only [checkBuiltinCall,hk,hsplit];refine wpAny_bind ?_
 . unfold isInstance;refine wpAny_bind (L0.at (L1.at ?_))
   repeat (any_goals (first | assumption | wp_step))
theorem xby (c : XCls K D) {tk : Tok} {Q : Value -> Shared -> Prop} (X : K.In s.heap) (I : AtC s.heap x D) (hq : Q (.ref D) s) :
 wpAny (model prog w) A (getAttrBy (.ref x) (.str "__class__" tk) false) Q E s:=by
 obtain ⟨hh,gg,d,t,os⟩:=s;have L0:=I.type (M:=model prog w);have L1:=PySem.W.looks_findIn (M:=model prog w) X c.ga;have L2:=PySem.W.looks_findIn (M:=model prog w) X c.gg;have f3:=F.excAttr_ValueError.ga.bind (.ref x);have hx2:(Value.builtin "BaseException.__getattribute__" ==Value.builtin "object.__getattribute__")=false:=by decide +kernel
 unfold getAttrBy;refine wpAny_holding (wpAny_bind (L0.at (wpAny_bind (L1.at ?_))));show wpAny _ _ (if (onTheHeap (Value.ref D) && Value.builtin "BaseException.__getattribute__" ==Value.builtin "object.__getattribute__")=true then _ else _) _ _ _;rw [if_neg (by rw [hx2,Bool.and_false];decide)];unfold getAttrByItsOwn hookBefore;have hx0:(false && onTheHeap (Value.builtin "BaseException.__getattribute__"))=false:=rfl;refine wpAny_bind (L2.at (wpAny_bind (wpAny_attempt (wpAny_holding ?_))));unfold callGetattribute boundAndCalled;rw [if_neg (by decide)];refine wpAny_bind (wpAny_of_eq f3 (wpAny_call ?_));refine codeAny_call_builtin F.excAttr_ValueError.ga.plain F.entry_bexc_ga (xchk c X I (xent c X I ?_))
 repeat (any_goals (first | assumption | wp_step))
theorem xattr (c : XCls K D) {Q : Option Value -> Shared -> Prop} (X : K.In s.heap) (I : AtC s.heap x D) (hq : Q (some (.ref D)) { s with toks := s.toks + 1 }) :
 wpAny (model prog w) A (getAttr? (.ref x) "__class__") Q E s:=by
 obtain ⟨hh,gg,d,t,os⟩:=s;unfold getAttr? getAttrBy?;refine wpAny_bind (wpAny_mkText (wpAny_bind (wpAny_attempt (xby (s:=⟨hh,gg,d,t+1,os⟩) c X I ?_))));exact wpAny_pure hq
theorem kitx_exc(c:XCls K D):PySem.W.KitX K (.ref x) (.ref D) (fun h=>AtC h x D) where
 ty:=fun _ _ _ I=>I.type
 it:=fun _ _ X _=>by
  obtain ⟨cdD,hcD⟩:=Option.isSome_iff_exists.mp c.ci;unfold PySem.W.clsIn at hcD
  split at hcD
  . rename_i c' d' cd' sl' ho;intro A' Q' E' s' k q;unfold isType loadHead;exact wpAny_bind (wpAny_loadPart (k _ _ (X _ _ ho)) (wpAny_pure q))
  . cases hcD
 ne:=fun h tp dd its n sl X htp=>by
  obtain ⟨cdD,hcD⟩:=Option.isSome_iff_exists.mp c.ci;refine Bool.eq_false_iff.mpr fun q=> ?_;have e:D=tp:=Value.ref.inj (beq_iff_eq.mp q);subst e;unfold PySem.W.clsIn at hcD
  split at hcD
  . rename_i c' d' cd' sl' ho;have z:=(X _ _ ho).symm.trans htp
    cases z
  . cases hcD
 ca:=fun X I k=>xattr c X I k
end
end Tf
namespace Tf
open PySem PySem.Spec PyProof.Rows L2
theorem obj_ex{P:Program}{w:World}{H:Hp}{h:Heap}{a:Addr}{o:HO}(x:ObjOk P w H h a o):∃u,h.get? a=some u:=by
 cases o with
 | lst xs=>obtain ⟨_,_,_,_,e⟩:=x;exact ⟨_,e⟩
 | tup xs=>obtain ⟨_,_,_,_,e,_⟩:=x;exact ⟨_,e⟩
 | dK kvs=>obtain ⟨_,_,_,_,o,_,_,e,_⟩:=x;exact ⟨_,e⟩
 | dT kvs=>obtain ⟨_,_,_,_,o,_,_,e,_⟩:=x;exact ⟨_,e⟩
 | set S n=>obtain ⟨o,_,_,_,e,_⟩:=x;exact ⟨_,e⟩
 | ins C dx fs=>obtain ⟨_,_,_,e,_⟩:=x;exact ⟨_,e⟩
 | own y=>exact x
 | xd fs=>obtain ⟨_,⟨_,_,_,e,_⟩,_⟩:=x;exact ⟨_,e⟩
 | rng lo hi=>obtain ⟨_,_,_,e⟩:=x;exact ⟨_,e⟩
 | frz ob u=>obtain ⟨e,_⟩:=x;exact ⟨_,e⟩
 | tbl ps=>obtain ⟨_,e,_⟩:=x;exact ⟨_,e⟩
 | met f y=>exact ⟨_,(show h.get? a=some _ from x)⟩
 | ext φ=>obtain ⟨_,e,_⟩:=x;exact e
def IsX(a C:Addr)(h:Heap):Prop:=∃o vs,h.get? a=some o/\o.cls = .ref C/\o.data = .fields vs
def xO(a C:Addr):HO:= .ext (IsX a C)
theorem xO_ok{P:Program}{w:World}{H:Hp}{h:Heap}{a C:Addr}(x:IsX a C h):ObjOk P w H h a (xO a C) :=
 ⟨x,let ⟨o,_,e,_⟩:=x;⟨o,e⟩,fun _ _ ⟨o,vs,e,r⟩ k=>⟨o,vs,k o e,r⟩⟩
def CXe(P:Program)(w:World)(C:Addr):CXT:=fun outer H s E e s'=>∃(a:Addr) (a0:Value) (B:Heap) (H':Hp),
 e = .ref a/\s'.os=s.os/\AllBare s'.gens/\Un (frs outer) [] H H' s.heap s'.heap/\HOk P w H' s'.heap/\s.heap.get? a=none/\H' a=none /\
 Heap.FlyingW B outer a (.ref C) a0 s'.heap /\
 (∀b o,s.heap.get? b=some o->b ∉ frs outer->∀o',s'.heap.get? b=some o'->B.get? b=some o') /\
 (∀b u,H' b=some u->∀o',s'.heap.get? b=some o'->B.get? b=some o')/\E e none H'
theorem frs_mem{l:List Env}{env:Env}{a:Addr}(hm:env ∈ l)(hf:env.frame=some a):a ∈ frs l:=List.mem_filterMap.mpr ⟨env,hm,hf⟩
section
variable {P:Program} {w:World} {K:PySem.W.Frag} {mg:Str->Option Value} {base:Heap} {N:List Str} {qual:Str} {scope:Scope} {f C:Addr} {cd:Value} {A:Around} {outer:List Env} {s s2:Shared} {H0 H:Hp} {E:XK} {pins:List (Addr×Obj)} {σ:L2.St}
theorem xe_leave {h' : Heap} {e : Addr} {args : List Value} (I : Inv (cxOf (CXe P w C) P w K mg base N qual scope f cd A outer s H0 E) pins σ H s2) (hm : Heap.MadeExcOf s2.heap h' e (.ref C) args) (hE : E (.ref e) none H) :
 (cxOf (CXe P w C) P w K mg base N qual scope f cd A outer s H0 E).xe (.ref e) {s2 with heap:=h' }:=by
 obtain ⟨t,he,htn,ht⟩:=hm.there
 let env:=envOfC qual scope s.heap.objs.size f cd
 let as:List Addr:=e::frs (env::outer)
 let B:=PySem.W.hideAll h' as
 have Ibase:Un (frs outer) [] H0 H s.heap s2.heap:=I.base;have hfr:(A.deeper env).frames=some (env::outer):=I.ok.frames;have hst:s2.heap.FunFrames base (env::outer):=I.stack;have hst':h'.FunFrames base (env::outer):=hst.of_keeps fun b o ho _=>⟨o,hm.keeps b o ho,rfl⟩;have hl:h'.FunFrames B (env::outer):=PySem.W.funFrames_hide hst' fun env' he' a ha=>List.mem_cons_of_mem _ (frs_mem he' ha);have hkb:B.StaysIn h':=fun b o q=>PySem.W.of_hideAll as q;have hen:B.get? e=none:=PySem.W.hideAll_none as (by simp [as]);have frx:∀b ∈ frs (env::outer),∃o,h'.get? b=some o/\∀vs,o.data ≠ .fields vs:=fun b hb=>(hst'.mem hb).2;have ene:∀b o,s2.heap.get? b=some o->b≠e:=fun b o q z=>by rw [z,hm.new] at q;cases q
 have frf:∀b ∈ frs (env::outer),H b=none:=fun b hb=>I.stkFree b hb;have old:∀b o,s.heap.get? b=some o->b≠s.heap.objs.size:=fun b o q=>Nat.ne_of_lt (Heap.lt_size q)
 have memL:∀b,b ∈ frs (env::outer)->b=s.heap.objs.size\/b ∈ frs outer:=fun b hb=>by
  have hb:b ∈ List.filterMap (·.frame) (env::outer):=hb;rw [List.filterMap_cons] at hb
  exact List.mem_cons.mp hb
 refine wpAny_leaving_firstW (base:=B) (outer:=outer) (L:=s.heap.objs.size) (a0:= .ref t) hfr hl rfl he hkb hen rfl rfl rfl fun h'' hL=> ?_;obtain ⟨l1,l2,l3,l4⟩:=hL
 have inB:∀b o,s2.heap.get? b=some o->b ∉ frs (env::outer)->B.get? b=some o:=fun b o q n=>
  PySem.W.hideAll_get as (hm.keeps b o q) fun hb=>by
   rcases List.mem_cons.mp hb with z | z
   . exact ene b o q z
   . exact n z
 have nfr:∀b o,s.heap.get? b=some o->b ∉ frs outer->b ∉ frs (env::outer):=fun b o q n hb=>(memL b hb).elim (old b o q) n
 have slotK:∀b o,b ∈ frs (env::outer)->s2.heap.get? b=some o->∃sl,h''.get? b=some {o with slots:=sl}:=fun b o hb q=>by
  obtain ⟨o1,e1,d1⟩:=frx b hb;rw [hm.keeps b o q] at e1
  cases e1
  exact l4 b o (hm.keeps b o q) d1
 have trB:∀b u,H b=some u->∀o',h''.get? b=some o'->B.get? b=some o':=fun b u q o' e'=>by
  obtain ⟨o,ho⟩:=obj_ex (I.hok b u q);have hb:B.get? b=some o:=inB b o ho fun z=>by rw [frf b z] at q;cases q
  rw [l1 b o hb] at e'
  cases e'
  exact hb
 refine ⟨e, .ref t,B,H,rfl,I.os,I.bare,⟨fun b o q n hb _=> ?_,fun b o q n hb _=> ?_,fun b o q n hx=>Ibase.free b o q n hx,fun b o q _=> ?_,Ibase.tups,Ibase.frzs,Ibase.tbls⟩,fun b u q=> ?_,?_,?_,⟨l1,hen,?_,l3⟩,fun b o q n o' e' => ?_,trB,hE⟩
 . exact l1 b o (inB b o (Ibase.keep b o q n hb (by simp)) (nfr b o q hb))
 . obtain ⟨sl,e1⟩:=Ibase.slot b o q n hb (by simp);obtain ⟨sl',e2⟩:=slotK b _ (by show b ∈ List.filterMap (·.frame) (env::outer);rw [List.filterMap_cons];exact List.mem_cons_of_mem _ hb) e1;exact ⟨sl',e2⟩
 . obtain ⟨o',e1⟩:=Ibase.there b o q (by simp)
   by_cases hb:b ∈ frs (env::outer)
   . obtain ⟨sl,e2⟩:=slotK b o' hb e1;exact ⟨_,e2⟩
   . exact ⟨o',l1 b o' (inB b o' e1 hb)⟩
 . refine (I.hok b u q).stay (fun c v hc qc=> ?_) (fun _ z=>z) (fun _ _ z=>z);refine l1 c v (inB c v qc fun z=> ?_);rcases hc with rfl | hc
   . rw [frf c z] at q;cases q
   . rw [frf c z] at hc;cases hc
 . cases q:s.heap.get? e with
   | none=>rfl
   | some o=>
    obtain ⟨o',e1⟩:=Ibase.there e o q (by simp);rw [hm.new] at e1
    cases e1
 . cases q:H e with
   | none=>rfl
   | some u=>
    obtain ⟨o,ho⟩:=obj_ex (I.hok e u q);rw [hm.new] at ho
    cases ho
 . obtain ⟨_,_,r⟩:=l2;exact r
 . obtain ⟨o1,e1⟩:=Ibase.there b o q (by simp);have hb:=inB b o1 e1 (nfr b o q n);rw [l1 b o1 hb] at e'
   cases e'
   exact hb
end
section
variable {X:Cx} {pins:List (Addr×Obj)} {σ:L2.St} {H:Hp} {s s':Shared} {C D:Addr} {E:XK} {e:Value} {cx n:Str} {jn:Nat} {np hpos:Pos} {b0:Stmt} {suite:List Stmt} {Q:Flow->Shared->Prop} {E':Value->Shared->Prop}
theorem x_caught (I : Inv X pins σ H s) (hX : X.stack = X.env :: X.outer /\ X.env.frame = some X.env.locals) (hx : CXe X.prog X.w C X.stack H s E e s') (hg : Gl X cx) (hm : X.mg cx = some (.ref D)) (hc : PySem.W.exmOne X.K (.ref C) (.ref D) = some true)
 (hN:X.N.Nodup) (hi:X.N[jn]? = some n) (hl:X.env.scope.names.lookup n=some .local)
 (k:∀(a:Addr) (H':Hp) (E'':Value->Shared->Prop) (s4:Shared),E (.ref a) none H'->H' a=none->Inv X pins (σ.set jn (some (.ref a))) (upd H' a (xO a C)) s4 ->
  wpAny (model X.prog X.w) (X.A.mark (some (.ref a))) (execs (b0::suite) X.env) (fun f s5=>wpAny (model X.prog X.w) X.A (do bindName X.env n .none;unbindBehindTheSuite X.env n hpos) (fun _ s6=>Q f s6) E' s5) E'' s4)
 (hd:(cx==("__debug__" : Str))=false:=by decide) :
 wpAny (model X.prog X.w) X.A (noteFrame e X.env) (fun _ s₂=>wpAny (model X.prog X.w) X.A (setFlight e none) (fun _ s₃=>wpAny (model X.prog X.w) X.A (handleBy e X.env [.ExceptHandler (some (.Name cx np)) (some n) (b0::suite) hpos]) Q E' s₃) E' s₂) E' s':=by
 obtain ⟨a,a0,B,H',rfl,os,bare,un,hok,hna,hHa,hfl,hold,htr,hE⟩:=hx;obtain ⟨h1,g1,d1,t1,o1⟩:=s';obtain rfl:o1=s.os:=os
 dsimp only at bare un hok hfl hold htr
 have hfr:X.A.frames=some (X.env::X.outer):=by rw [<-hX.1];exact I.ok.frames
 have hfl':Heap.FlyingW B (X.env::X.outer) a (.ref C) a0 h1:=by rw [<-hX.1];exact hfl
 have frx:∀b o,b ∈ frs X.stack->h1.get? b=some o->∀vs,o.data ≠ .fields vs:=fun b o hb q=>by
  obtain ⟨_,o',e',d'⟩:=hfl.2.2.1.mem hb;rw [q] at e'
  cases e'
  exact d'
 have bas:∀ {h:Heap},B.StaysIn h->∀b o,X.base.get? b=some o->h.get? b=some o:=fun {h} hB b o q=>by
  have nf:b ∉ frs X.stack:=fun hb=>by
   have:=(I.stack.mem hb).1;rw [q] at this
   cases this
  exact hB b o (hold b o (I.bk b o q) nf o (un.keep b o (I.bk b o q) (I.bs b o q).2 nf (by simp)))
 refine wpAny_looks_onW hfr hX.2 hfl' fun h4 hh4 sm4=> ?_;refine wpAny_landsW hh4 fun h5 hf5 sm5=> ?_;refine wpAny_handleBy_cons (codeAny_handlers_test ?_) (by intro q;cases q);have kb5:=bas hf5.1;refine Calls.Name_function_global I.ok.kind hg (Calls.loadGlobal_global (by rw [I.ok.glob];exact I.mod.glob.keeps kb5) hm ?_) hd;have K5:X.K.In h5:=I.mod.kin.keeps kb5
 have LT:PySem.W.Looks (model X.prog X.w) h5 (typeOf (.ref a)) (.ref C):=by
  obtain ⟨ob,e1,e2⟩:=hf5.there;exact AtC.type ⟨ob,e1,e2⟩
 refine PySem.W.exm_one K5 LT hc _ _ _ _ (fun _ _ q=>q) ?_;refine codeAny_handlers_suite_as ?_;refine lands_againW hf5 fun h6 hf6 sm6=> ?_;have sm:=(sm4.trans sm5).trans sm6;have slotK:∀b o,b ∈ frs X.stack->h1.get? b=some o->∃sl,h6.get? b=some {o with slots:=sl}:=fun b o hb q=>sm b o q (frx b o hb q);have ane:∀b o,s.heap.get? b=some o->b≠a:=fun b o q z=>by rw [z,hna] at q;cases q
 have tne:∀b u,H' b=some u->b≠a:=fun b u q z=>by rw [z,hHa] at q;cases q
 have un6:Un (frs X.stack) [] H (upd H' a (xO a C)) s.heap h6:=by
  refine ⟨fun b o q nn hb _=> ?_,fun b o q nn hb _=> ?_,fun b o q nn hx=> ?_,fun b o q _=> ?_,fun b xs q=> ?_,fun b o u q=> ?_,fun b ps q=> ?_⟩
  . exact hf6.1 b o (hold b o q hb o (un.keep b o q nn hb (by simp)))
  . obtain ⟨sl,e1⟩:=un.slot b o q nn hb (by simp);obtain ⟨sl',e2⟩:=slotK b _ hb e1;exact ⟨sl',e2⟩
  . rw [upd_ne (ane b o q)];exact un.free b o q nn hx
  . obtain ⟨o',e1⟩:=un.there b o q (by simp)
    by_cases hb:b ∈ frs X.stack
    . obtain ⟨sl,e2⟩:=slotK b o' hb e1;exact ⟨_,e2⟩
    . exact ⟨o',hf6.1 b o' (hold b o q hb o' e1)⟩
  . have z:=un.tups b xs q;rw [upd_ne (tne b _ z)];exact z
  . have z:=un.frzs b o u q;rw [upd_ne (tne b _ z)];exact z
  . obtain ⟨m,z⟩:=un.tbls b ps q;refine ⟨m,?_⟩;rw [upd_ne (tne b _ z)];exact z
 have hok6:HOk X.prog X.w (upd H' a (xO a C)) h6:=fun b u q=>by
  by_cases hb:b=a
  . subst hb;rw [upd_same] at q
    cases q
    obtain ⟨oe,vs,e1,e2,e3,_⟩:=hf6.first;exact xO_ok ⟨oe,vs,e1,e2,e3⟩
  . rw [upd_ne hb] at q
    refine (hok b u q).stay (fun c v hc' qc=> ?_) (fun c z=> ?_) (fun c xs z=> ?_) fun c o xs z=> ?_
    . rcases hc' with rfl | hc'
      . exact hf6.1 _ _ (htr _ _ q _ qc)
      . exact hf6.1 _ _ (htr _ _ hc' _ qc)
    . rw [upd_ne (tne c _ z)];exact z
    . rw [upd_ne (tne c _ z)];exact z
    . rw [upd_ne (tne c _ z)];exact z
 have I6:Inv X pins σ (upd H' a (xO a C)) {s with heap:=h6,gens:=g1,drawn:=d1,toks:=t1}:=I.call (ch:= []) un6 hok6 bare (fun b z=>absurd z (by simp));refine store_ok I6 hN hi (.inl hl) (show RelV (.ref a) (.ref a) from rfl) (fun s4 I4=> ?_) (.inr hl);exact k a H' _ s4 hE hHa I4
end
end Tf
namespace Tf
open PySem PySem.Spec PyProof.Rows L2
section
variable {X:Cx} {pins:List (Addr×Obj)} {σ:L2.St} {H:Hp} {s s':Shared}
theorem goes_ok {M : Model} {A : Around} {E : Value -> Shared -> Prop} {j : Nat} {n : Str} {pos : Pos} {Q : Unit -> Shared -> Prop} (I : Inv X pins σ H s) (hN : X.N.Nodup) (hi : X.N[j]? = some n) (hk : X.env.scope.names.lookup n = some .local)
 (h:∀s',Inv X pins (σ.set j none) H s'->Q () s'):wpAny M A (do bindName X.env n .none;unbindBehindTheSuite X.env n pos) Q E s:=by
 obtain ⟨m,hn,hl⟩:=id I.loc;have hcls:(X.env.scope.kind == .class || (X.env.scope.kind == .module && X.env.locals != X.env.globals))=false:=by rw [I.ok.kind];rfl
 have cne:=I.cne
 have tracked:∀ {a:Addr} {h':Heap},(∃o,s.heap.get? a=some o/\H a=none)->Heap.SameBut a s.heap h'->HOk X.prog X.w H h':=fun {a h'} ha hs b ob e=>by
  obtain ⟨_,_,hfree⟩:=ha;refine (I.hok b ob e).stay (fun c w' hc q=>(hs.2 c ?_).trans q) (fun _ q=>q) fun _ _ q=>q;rintro rfl;rcases hc with rfl | hc
  . rw [hfree] at e;cases e
  . rw [hfree] at hc;cases hc
 refine wpAny_nameGoes_keeps hk hn hcls fun h' v hn' hs=> ?_;obtain ⟨oL,_,_,hoL,_⟩:=id hn;refine h _ ⟨I.ok,I.os,I.bare,⟨fun b o e n hb hx=> ?_,fun b o e n hb hx=> ?_,I.base.free,fun b o e hx=> ?_,I.base.tups,I.base.frzs,I.base.tbls⟩,⟨_,hn',fun i y v' e1 e2 e3=> ?_⟩,fun y c e=> ?_,I.free,I.freeC,fun p hp=> ?_,tracked ⟨oL,hoL,I.free⟩ hs,by simpa using I.len⟩
 . exact (hs.2 b (Nat.ne_of_lt (Nat.lt_of_lt_of_le (Heap.lt_size e) I.ok.above))).trans (I.base.keep b o e n hb hx)
 . obtain ⟨sl,e1⟩:=I.base.slot b o e n hb hx;exact ⟨sl,(hs.2 b (Nat.ne_of_lt (Nat.lt_of_lt_of_le (Heap.lt_size e) I.ok.above))).trans e1⟩
 . obtain ⟨o',e1⟩:=I.base.there b o e hx;exact ⟨o',(hs.2 b (Nat.ne_of_lt (Nat.lt_of_lt_of_le (Heap.lt_size e) I.ok.above))).trans e1⟩
 . by_cases hj:i=j
   . subst hj;rw [List.getElem?_set_self'] at e2
     cases q:σ[i]? with
     | none=>rw [q] at e2;cases e2
     | some z=>rw [q] at e2;cases e2
   . rw [List.getElem?_set_ne (Ne.symm hj)] at e2
     obtain ⟨u',r',q⟩:=hl i y v' e1 e2 e3;refine ⟨u',r',?_⟩;rcases q with ⟨k,e⟩ | ⟨k,c,e,z⟩
     . refine .inl ⟨k,?_⟩;have:y≠n:=fun e=>hj (nodup_ix hN e1 (e ▸ hi));simp [this,e]
     . exact .inr ⟨k,c,e,z.sameBut hs (cne y c e)⟩
 . obtain ⟨w',z⟩:=I.cell y c e;exact ⟨w',z.sameBut hs (cne y c e)⟩
 . obtain ⟨e,n,ne,nf,d⟩:=I.pin p hp;exact ⟨(hs.2 p.1 ne).trans e,n,ne,nf,d⟩
abbrev mkX (X:Cx) (v:Value) (E:Value->Shared->Prop):Cx:={ X with A:=X.A.mark (some v),calm:=false,xe:=E}
theorem inv_mk{v:Value}{E:Value->Shared->Prop}(I:Inv X pins σ H s):Inv (mkX X v E) pins σ H s:=
 ⟨⟨I.ok.mod,I.ok.kind,I.ok.glob,I.ok.blt,I.ok.above,I.ok.inj,I.ok.has,I.ok.cab,(fun z=>nomatch z),I.ok.frames,I.ok.stk,I.ok.exf,I.ok.bs,I.ok.bsz,I.ok.noex,I.ok.exfs,I.ok.funs,I.ok.frf,I.ok.tb⟩,I.os,I.bare,I.base,I.loc,I.cell,I.free,I.freeC,I.pin,I.hok,I.len⟩
theorem inv_unmk{v:Value}{E:Value->Shared->Prop}(ok:X.Ok)(I:Inv (mkX X v E) pins σ H s):Inv X pins σ H s:=
 ⟨ok,I.os,I.bare,I.base,I.loc,I.cell,I.free,I.freeC,I.pin,I.hok,I.len⟩
variable {k:Nat} {f C D:Addr} {fd:FuncData} {ps:List Str} {sp:Sp} {fn cx n xf xg:Str} {jf jg jn:Nat} {p cpos pf apos np hpos pg pn gpos pos:Pos} {e:Expr} {es:List Expr} {t:TA}
def tTry(sp:Sp)(t:TA)(C:Addr)(jf jg jn:Nat):TS:=fun D σ H=>t σ H fun vs H1=>sp (vs ++ []) H1 (fun v H2=>D.nx (σ.set jf (some v)) H2)
 (fun u _ H2=>∀a,u = .ref a->H2 a=none->D.nx (((σ.set jn (some (.ref a))).set jg (some (.ref a))).set jn none) (upd H2 a (xO a C)))
theorem ps_try (F : FnOk X.prog X.w X.K X.mg X.base (CXe X.prog X.w C) k f fd ps sp) (hr : Room k X.A) (hgf : Gl X fn) (hmf : X.mg fn = some (.ref f)) (hk : PySem.W.keepIn X.K (.ref f) = true) (hb : Binds X.K fd ps []) (ha : PA X (e :: es) t)
 (hno:∀e s,X.xe e s->False) (hX:X.stack=X.env::X.outer/\X.env.frame=some X.env.locals) (hg:Gl X cx) (hm:X.mg cx=some (.ref D)) (hc:PySem.W.exmOne X.K (.ref C) (.ref D)=some true)
 (hN:X.N.Nodup) (hif:X.N[jf]? = some xf) (hlf:X.env.scope.names.lookup xf=some .local) (hig:X.N[jg]? = some xg) (hlg:X.env.scope.names.lookup xg=some .local) (hin:X.N[jn]? = some n) (hln:X.env.scope.names.lookup n=some .local)
 (hdb:(fn==("__debug__" : Str))=false:=by decide) (hdc:(cx==("__debug__" : Str))=false:=by decide) (hdn:(n==("__debug__" : Str))=false:=by decide) (hcn:(n==("__classdict__" : Str))=false:=by decide)
 (he:starEach (e::es) X.env=(false,eval e X.env)::starEach es X.env:=by rfl) (hpl:(backTo cpos (starEach es X.env)).any (·.1)=false:=by rfl)
 (hs:swapsWith (.Call (.Name fn p) (e::es) [] cpos) (some (.Name xf pf)) apos.line X.env=pure false:=by rfl) (hs2:swapsWith (.Name n pn) (some (.Name xg pg)) gpos.line X.env=pure false:=by rfl) :
 PS X (.Try [.Assign [.Name xf pf] (.Call (.Name fn p) (e::es) [] cpos) apos] [.ExceptHandler (some (.Name cx np)) (some n) [.Assign [.Name xg pg] (.Name n pn) gpos] hpos] [] [] pos) (tTry sp t C jf jg jn):=by
 intro pins s σ H D' I h;refine wpAny_Try_except (wpAny_execs_cons (wpAny_Assign_Name (wpAny_Call_Name_kw (ld_glob I hgf hmf ?_ hdb)) hs));refine PySem.W.callWith_K (h₀:=X.base) I.ok.mod.kin hk (wpAny_mono (ha cpos pins s σ H _ I h) (fun us s1 ⟨vs,H1,I1,r,q⟩=>⟨I1.kIn,?_⟩) fun _ _ z=>(hno _ _ z).elim) he hpl;have r2:Vals (vs ++ []) (us ++ []):=r.append .nil;have hl:(us ++ []).length=ps.length:=by rw [<-r2.length];exact F.len _ _ _ _ q
 refine wpAny_call (codeAny_mono (F.run X.A X.stack s1 H1 ⟨us,[]⟩ (us ++ []) (vs ++ []) _ _ hr I1.env0 (hb s1 us I1.kIn hl) r2 q) fun rr s' hq=> ?_)
 cases rr with
 | error ex=>
  have hq':CXe X.prog X.w C X.stack H1 s1 (fun u _ H2=>∀a,u = .ref a->H2 a=none->D'.nx (((σ.set jn (some (.ref a))).set jg (some (.ref a))).set jn none) (upd H2 a (xO a C))) ex s':=hq;refine x_caught I1 hX hq' hg hm hc hN hin hln (fun a H' E'' s4 hE hHa I4=> ?_) hdc;have I4':Inv (mkX X (.ref a) E'') pins (σ.set jn (some (.ref a))) (upd H' a (xO a C)) s4:=inv_mk I4;have hjn:jn<σ.length:=by rw [I1.len];exact (List.getElem?_eq_some_iff.mp hin).1
  have hp:=pss_one (ps_set (X:=mkX X (.ref a) E'') (pos:=gpos) (pos':=pg) hN hig (.inl hlg) (pe_var (X:=mkX X (.ref a) E'') (pos:=pn) hin (.inl hln) hdn hcn) hs2 (.inr hlg));refine thn (hp pins s4 _ _ {nx:=fun σ' H''=>σ'=(σ.set jn (some (.ref a))).set jg (some (.ref a))/\H''=upd H' a (xO a C),rt:=fun _ _=>False} I4' ⟨.ref a,List.getElem?_set_self hjn,rfl,rfl⟩) fun fl s5 q5=> ?_
  cases fl with
  | next=>
   obtain ⟨σ',H'',J,rfl,rfl⟩:=q5;refine goes_ok (inv_unmk I4.ok J) hN hin hln fun s6 I6=> ?_
   exact ⟨_,_,I6,hE a rfl hHa⟩
  | ret v=>obtain ⟨_,_,_,_,_,q⟩:=q5;exact q.elim
  | brk=>obtain ⟨_,_,_,q⟩:=q5;exact q.elim
  | cont=>obtain ⟨_,_,_,q⟩:=q5;exact q.elim
 | ok fl=>
  cases fl with
  | ret u=>
   obtain ⟨v,H2,I2,rv,q2⟩:=I1.after hq;refine store_ok I2 hN hif (.inl hlf) rv (fun s3 I3=> ?_) (.inr hlf)
   exact wpAny_execs_nil (wpAny_execs_nil ⟨_,H2,I3,q2⟩)
  | next=>exact False.elim hq
  | brk=>exact False.elim hq
  | cont=>exact False.elim hq
end
end Tf
namespace Tf
open PySem PySem.Spec PyProof.Rows L2
section
variable {X:Cx} {k:Nat}
def Dig(n:Int):Prop:=0<=n/\n<10
theorem dig_len{n:Int}(h:Dig n):(Str.ofString (toString n)).length=1:=by
 obtain ⟨h1,h2⟩:=h;have:n=0\/n=1\/n=2\/n=3\/n=4\/n=5\/n=6\/n=7\/n=8\/n=9:=by omega
 rcases this with rfl | rfl | rfl | rfl | rfl | rfl | rfl | rfl | rfl | rfl <;> decide +kernel
theorem dig_log{n:Int}(h:Dig n):n.natAbs.log2<1920:=by
 obtain ⟨h1,h2⟩:=h;have:n=0\/n=1\/n=2\/n=3\/n=4\/n=5\/n=6\/n=7\/n=8\/n=9:=by omega
 rcases this with rfl | rfl | rfl | rfl | rfl | rfl | rfl | rfl | rfl | rfl <;> decide +kernel
theorem repr_ints{P:Program}{w:World}:∀ {ns:List Int} {us:List Value},Vals (ns.map V.int) us->(∀n ∈ ns,Dig n)->ReprAll P w us (ns.map fun n=>Str.ofString (toString n))
 | [],_,h,_=>by cases h;exact .nil
 | n::r,_,h,hd=>by
  cases h with
  | cons h t=>
   obtain ⟨tk,e⟩:=(show ∃t,_=Value.int n t from h)
   cases e
   exact .cons (ReprIs.int tk (dig_log (hd n (by simp)))) (repr_ints t fun m hm=>hd m (by simp [hm]))
theorem repr_len{ns:List Int}(hd:∀n ∈ ns,Dig n):(tupleText (ns.map fun n=>Str.ofString (toString n))).length<=3*ns.length+3:=by
 have h:=tupleText_len_le (ns.map fun n=>Str.ofString (toString n))
 have e:∀l:List Int,(∀n ∈ l,Dig n)->((l.map fun n=>Str.ofString (toString n)).map (·.length)).sum=l.length:=by
  intro l
  induction l with
  | nil=>intro _;rfl
  | cons n r ih=>
   intro hl;rw [List.map_cons,List.map_cons,List.sum_cons,ih fun m hm=>hl m (by simp [hm]),dig_len (hl n (by simp)),List.length_cons];omega
 rw [e ns hd,List.length_map] at h
 omega
def tFs(i:Nat):TE:=fun σ H Q=>∃(a:Addr) (ns:List Int),σ[i]? = some (some (.ref a))/\H a=some (.tup (ns.map .int))/\ns.length<=1000/\(∀n ∈ ns,Dig n)/\∀x,Q (.str x) H
theorem pe_fs {i : Nat} {x txt : Str} {j : Nat} {p1 p2 p3 pos : Pos} (hr : Room k X.A) (hi : X.N[i]? = some x) (hv : Vis X.env.scope x) (ht : txt.length <= 1000) (hd : (x == ("__debug__" : Str)) = false := by decide) (hcd : (x == ("__classdict__" : Str)) = false := by decide) :
 PE X (.JoinedStr [.FormattedValue (.Name x p1) 114 none p2, .Constant (.str txt) j p3] pos) (tFs i):=by
 intro pins s σ H Q I h;obtain ⟨a,ns,h1,h2,h3,h4,q⟩:=h;have hz:sizeLine=2 ^ 24:=rfl;refine wpAny_JoinedStr (Joins_cons (wpAny_FormattedValue_repr (thn ((pe_var (pos:=p1) hi hv hd hcd) pins s σ H (fun v' H'=>v' = .ref a/\H'=H) I ⟨_,h1,rfl,rfl⟩) fun u s1 ⟨v,H1,I1,rv,e1,e2⟩ => ?_)));subst e1 e2;obtain rfl:u=Value.ref a:=rv;obtain ⟨_,its,r,o,e1,e2,⟨m,e3⟩⟩:=(show ObjOk X.prog X.w H1 s1.heap a (.tup (ns.map .int)) from I1.hok a _ h2);have hl:=repr_len h4;refine wpAny_pyReprObj_tuple (g:= []) ⟨o,e1,e2⟩ hr.gd (fun c hc=>absurd hc (by simp)) hr.units0 e1 e3 (show ReprAll X.prog X.w its.toArray.toList _ from repr_ints r h4) (fun u tk=> ?_) (by rw [hz];omega);refine SB.field_str (fun t' tk'=>⟨_,t',rfl,?_,Joins_cons (Calls.Constant_str ⟨_,_,rfl,?_,Joins_nil ⟨?_,?_⟩⟩)⟩) (by rw [hz];omega)
 . rw [strLen_append,hz];have:Str.empty.length=0:=rfl;omega
 . rw [strLen_append,strLen_append,hz];have:Str.empty.length=0:=rfl;omega
 . rw [strLen_append,strLen_append,hz];have:Str.empty.length=0:=rfl;omega
 . exact ⟨.str _,_,I1.tok _,⟨_,rfl⟩,q _⟩
end
section
theorem exc_obj {K : PySem.W.Frag} {h : Heap} {C : Addr} {bmB : List Value} {newId : String} (X : K.In h) (q : PySem.W.excIn K C bmB newId = true) :
 ∃bm N nm q bs hdct sn sub ab col dd k0 k1 k2 k3 k5 mN,h.get? C=some (excClassObj nm q C N bs bm hdct sn sub ab col dd k0 k1 k2 k3 k5 newId)/\h.Ns N mN/\mN "__init__" = none/\OwnTail h bmB bm:=by
 unfold PySem.W.excIn at q
 split at q
 . rename_i dd cd sl ho
   split at q
   . rename_i C' bm k0 k1 k2 k3 n k5 hm hs;simp only [Bool.and_eq_true,beq_iff_eq,Bool.not_eq_true'] at q
     obtain ⟨⟨⟨⟨⟨rfl,rfl⟩,hdel⟩,ht⟩,hok⟩,hni⟩:=q;obtain ⟨nm,bs,mro,ns,qn,hd,sn,sub,ab,col,del⟩:=cd
     dsimp only at hm hdel hok hni
     subst hm hdel
     have hsl:sl = #[k0,k1,k2,k3,some (.builtin n),k5]:=by
      obtain ⟨l⟩:=sl;simp only at hs
      rw [hs]
     subst hsl;exact ⟨bm,ns,nm,qn,bs,hd,sn,sub,ab,col,dd,k0,k1,k2,k3,k5,_,X _ _ ho, .of_isNs (PySem.W.isNs_of_in X hok),PySem.W.nsMap_none_of_in X hok hni,PySem.W.tail_of_in X ht⟩
   . cases q
 . cases q
abbrev bmV:List Value:= [.type "ValueError", .type "Exception", .type "BaseException", .type "object"]
variable {P:Program} {w:World} {K:PySem.W.Frag} {mg:Str->Option Value} {base:Heap} {N:List Str} {qual:Str} {scope:Scope} {f C:Addr} {cd:Value} {A:Around} {outer:List Env} {s0:Shared} {H0:Hp} {E:XK}
def tRse(te:TE)(W:Hp->Prop):TS:=fun _ σ H=>te σ H fun _ H1=>W H1
theorem ps_raise {cx : Str} {np cpos pos : Pos} {a : Expr} {te : TE} {W : Hp -> Prop} (hW : ∀ H e, W H -> E (.ref e) none H) (hg : Gl (cxOf (CXe P w C) P w K mg base N qual scope f cd A outer s0 H0 E) cx) (hm : mg cx = some (.ref C)) (hx : PySem.W.excIn K C bmV "ValueError.__new__" = true)
 (ha:PE (cxOf (CXe P w C) P w K mg base N qual scope f cd A outer s0 H0 E) a te) (hd:(cx==("__debug__" : Str))=false:=by decide)
 (he:starEach [a] (envOfC qual scope s0.heap.objs.size f cd) = [(false,eval a (envOfC qual scope s0.heap.objs.size f cd))]:=by rfl) :
 PS (cxOf (CXe P w C) P w K mg base N qual scope f cd A outer s0 H0 E) (.Raise (some (.Call (.Name cx np) [a] [] cpos)) none pos) (tRse te W):=by
 intro pins s σ H D I h;have hpl:(backTo cpos (starEach [a] (envOfC qual scope s0.heap.objs.size f cd))).any (·.1)=false:=by rw [he];rfl
 obtain ⟨bm,Nn,nm,q,bs,hdct,sn,sub,ab,col,dd,k0,k1,k2,k3,k5,mN,hC,hN,hni,T⟩:=exc_obj (h:=base) I.ok.mod.kin hx;refine wpAny_Raise_call_subT (nm:=nm) (q:=q) (C:=C) (N:=Nn) (bs:=bs) (bm:=bm) (hdct:=hdct) (sn:=sn) (sub:=sub) (ab:=ab) (col:=col) (dd:=dd) (k0:=k0) (k1:=k1) (k2:=k2) (k3:=k3) (k5:=k5) F.excBase_ValueError (T.hasType (X:= "BaseException") (b:=true) (by decide +kernel)) (I.ok.hd rfl) hpl hni (ld_glob I hg hm ⟨rfl,?_⟩ hd);show wpAny _ _ (evalArgs _ _ (backTo cpos (starEach [a] (envOfC qual scope s0.heap.objs.size f cd))) _) _ _ _;rw [he];refine Calls.evalArgs_plain (Calls.spliced_cons (thn (ha pins s σ H _ I h) fun u s1 ⟨v,H1,I1,rv,q1⟩=>Calls.spliced_nil ⟨rfl,?_,I1.bk _ _ hC,hN.keeps I1.bk,T.keeps I1.bk,fun h' e hm=> ?_⟩))
 . show 1<=sizeLine;decide
 . exact xe_leave I1 hm (hW _ _ q1)
end
end Tf
namespace Dm
open PySem PySem.Spec PyProof.Rows L2 Tf
section
variable {K:PySem.W.Frag} {R:Rl} [RelOk K R]
def spX(K:PySem.W.Frag)(F:List PyData->Option (Option Sl)):Sp:=fun vs H Q E=>∃H0 ds r,Same H0 H/\Reps K H0 vs ds/\F ds=some r/\match r with
 | some z=>∀v H0' H',Ext H0 H H0' H'->SlH K H H0' H' v z->Q v H'
 | none=>∀u H0' H',Ext H0 H H0' H'->E u none H'
def RSx(K:PySem.W.Frag)(R:Rl)(W:Hp->Prop)(ts:TS)(g:En->Option (Option Out)):Prop:=
 ∀(HB S0:Hp) (σ:L2.St) (ρ:En) (H0 H:Hp),Ext S0 HB H0 H->ST R HB H0 H σ ρ->∀o,g ρ=some o->∀D:Ends,(match o with | some o=>EndR K R HB S0 D o | none=>∀H0' H',Ext S0 HB H0' H'->W H')->ts D σ H
def mLf(g:En->Option Out):En->Option (Option Out):=fun ρ=>(g ρ).map some
theorem rsx_of{W:Hp->Prop}{ts:TS}{g:En->Option Out}(h:RS K R ts g):RSx K R W ts (mLf g):=fun HB S0 σ ρ H0 H x e o ho D d=>by
 obtain ⟨o',h1,rfl⟩:=Option.map_eq_some_iff.mp ho;exact h HB S0 σ ρ H0 H x e o' h1 D d
def mSqx(f g:En->Option (Option Out)):En->Option (Option Out):=fun ρ=>(f ρ).bind fun o=>match o with
 | some (.nx ρ')=>g ρ'
 | o=>some o
theorem rsx_seq{W:Hp->Prop}{t u:TS}{f g:En->Option (Option Out)}(h:RSx K R W t f)(k:RSx K R W u g):RSx K R W (tSeq t u) (mSqx f g):=fun HB S0 σ ρ H0 H x e o ho D d=>by
 obtain ⟨o1,h1,ho⟩:=Option.bind_eq_some_iff.mp ho;refine h HB S0 σ ρ H0 H x e o1 h1 { D with nx:=u D} ?_
 cases o1 with
 | none=>cases ho;exact d
 | some o1=>
  cases o1 with
  | nx ρ'=>exact fun σ' H0' H' x' e'=>k HB S0 σ' ρ' H0' H' x' e' o ho D d
  | rt r _=>cases ho;exact d
  | bk r=>cases ho;exact d
  | ct r=>cases ho;exact d
def mIfx(c:En->Option Bool)(f g:En->Option (Option Out)):En->Option (Option Out):=fun ρ=>(c ρ).bind fun b=>if b then f ρ else g ρ
theorem rsx_if{W:Hp->Prop}{c:TT}{t u:TS}{fc:En->Option Bool}{f g:En->Option (Option Out)}(hc:RT K R c fc)(h:RSx K R W t f)(k:RSx K R W u g):RSx K R W (tIfS c t u) (mIfx fc f g):=fun HB S0 σ ρ H0 H x e o ho D d=>by
 obtain ⟨b,hb,ho⟩:=Option.bind_eq_some_iff.mp ho;refine hc HB σ ρ H0 H x.s1 e b hb _ fun H1 J1 x1=> ?_
 cases b with
 | true=>exact iteT (h HB S0 σ ρ H1 J1 (x.chain x1) (e.ext (K:=K) x1) o ho D d)
 | false=>exact iteF (k HB S0 σ ρ H1 J1 (x.chain x1) (e.ext (K:=K) x1) o ho D d)
def digs:List PyData->Bool
 | []=>true
 | .int i::r=>decide (0<=i) && decide (i<10) && digs r
 | _::_=>false
theorem digs_of{H:Hp}:∀ {ds:List PyData} {vs:List V},Reps K H vs ds->digs ds=true->∃ns:List Int,vs=ns.map V.int/\(∀n ∈ ns,Dig n)/\ns.length=ds.length
 | [],_,h,_=>by cases h;exact ⟨[],rfl,by simp,rfl⟩
 | d::r,_,h,hd=>by
  cases h with
  | cons h t=>
   cases h with
   | int i=>
    simp only [digs,Bool.and_eq_true,decide_eq_true_eq] at hd
    obtain ⟨ns,e1,e2,e3⟩:=digs_of t hd.2
    exact ⟨i::ns,by rw [e1];rfl,fun n hn=>by
     rcases List.mem_cons.mp hn with rfl | hn
     . exact hd.1
     . exact e2 n hn,by simp [e3]⟩
   | _=>cases hd
def mRse(i:Nat):En->Option (Option Out):=fun ρ=>match (ρ[i]?).join with
 | some (.val (.tuple ds))=>if digs ds=true/\ds.length<=1000 then some none else none
 | _=>none
theorem rsx_raise{W:Hp->Prop}(i:Nat)(hs:R.slot i):RSx K R W (tRse (tFs i) W) (mRse i):=fun HB S0 σ ρ H0 H x e o ho D d=>by
 unfold mRse at ho
 split at ho
 . rename_i ds hj
   split at ho
   . rename_i hd
     cases ho
     obtain ⟨v,h1,h2⟩:=RelOk.get (K:=K) e.r hs (join_some hj)
     cases (show Rep K H0 v (.tuple ds) from h2) with
     | tuple g1 g2=>
      obtain ⟨ns,rfl,e2,e3⟩:=digs_of g2 hd.1;exact ⟨_,ns,h1,x.s1 _ _ g1,by rw [e3];exact hd.2,e2,fun y=>d H0 H x⟩
   . cases ho
 . cases ho
def runX(n:Nat)(g:En->Option (Option Out))(k:Nat):List PyData->Option (Option Sl):=fun ds=>if ds.length=k then (g (ds.map (fun d=>some (.val d))++List.replicate (n - ds.length) none)).bind fun o=>match o with
 | some (.rt r _)=>some (some r)
 | some (.nx _)=>some (some (.val .none))
 | none=>some none
 | _=>none else none
section
variable {P:Program} {w:World} {mg:Str->Option Value} {base:Heap}
def DSx(X:Cx)(R:Rl)(W:Hp->Prop)(st:List Stmt)(g:En->Option (Option Out)):Prop:=∃t,PSs X st t/\RSx X.K R W t g
theorem fnX {x qual : Str} {st : Stmt} {f C : Addr} {fd : FuncData} {N ps : List Str} {k n m : Nat} {g : En -> Option (Option Out)} (F : Fun K x qual st f fd) (S : FnScope N ps (defScope st)) (hn : N.length = n) (hm : ps.length = m)
 (hb:∀(cdv:Value) (A:Around) (outer:List Env) (s:Shared) (H:Hp) (E:XK),Room k (A.deeper (envOfC qual (defScope st) s.heap.objs.size f cdv))->DSx (cxOf (CXe P w C) P w K mg base N qual (defScope st) f cdv A outer s H E) (PR K) (fun H'=>∀u,E u none H') (defBody st) g) :
 FnOk P w K mg base (CXe P w C) (k+1) f fd ps (spX K (runX n g m)):=by
 subst hn hm;obtain ⟨oc,od,kV,doc,pm,an,cdv,ct,osl,rfl,lk,hcd⟩:=F.ex;refine fn_of lk hcd S (fun vs H Q E h=> ?_) fun A outer s H vs Q E hr h=> ?_
 . obtain ⟨H0,ds,r,s,hr,hf,_⟩:=h;unfold runX at hf
   split at hf
   . rename_i hl;rw [hr.length,hl]
   . cases hf
 . obtain ⟨t,ht,rs⟩:=hb cdv A outer s H E hr;refine ⟨t,ht,?_⟩;obtain ⟨H0,ds,r,s0,hr,hf,q⟩:=h;unfold runX at hf
   split at hf
   . obtain ⟨o,ho,hf⟩:=Option.bind_eq_some_iff.mp hf;refine rs H H0 _ _ H0 H (Ext.refl s0) ⟨er_start hr⟩ o ho _ ?_
     cases o with
     | none=>cases hf;exact fun H1 J1 a u=>q u H1 J1 a
     | some o=>
      cases o with
      | rt r' _=>cases hf;exact fun v σ H1 J1 a _ b=>q v H1 J1 a b
      | nx _=>cases hf;exact fun σ H1 J1 a b=>q .non H1 J1 a .none
      | bk _=>cases hf
      | ct _=>cases hf
   . cases hf
end
end
section
variable {X:Cx} {R:Rl} [RelOk X.K R] {W:Hp->Prop} {st:Stmt} {sts A B:List Stmt} {g:En->Option Out} {f gx gx':En->Option (Option Out)} {c:Expr} {pos:Pos} {ft:En->Option Bool}
theorem dx_of(h:DSs X R sts g):DSx X R W sts (mLf g):=by obtain ⟨t,h1,h2⟩:=h;exact ⟨t,h1,rsx_of h2⟩
theorem dx_cons(h:DS X R st g)(k:DSx X R W sts gx):DSx X R W (st::sts) (mSqx (mLf g) gx):=by
 obtain ⟨t,h1,h2⟩:=h;obtain ⟨u,h3,h4⟩:=k;exact ⟨_,pss_cons h1 h3,rsx_seq (rsx_of h2) h4⟩
theorem dx_if(hc:DT X R c ft)(h:DSx X R W A gx)(j:DSx X R W B gx')(k:DSx X R W sts f):DSx X R W (.If c A B pos::sts) (mSqx (mIfx ft gx gx') f):=by
 obtain ⟨t,h1,h2⟩:=hc;obtain ⟨u,h3,h4⟩:=h;obtain ⟨v,h5,h6⟩:=j;obtain ⟨w,h7,h8⟩:=k;exact ⟨_,pss_cons (ps_if h1 h3 h5) h7,rsx_seq (rsx_if h2 h4 h6) h8⟩
end
section
variable {P:Program} {w:World} {K:PySem.W.Frag} {mg:Str->Option Value} {base:Heap} {N:List Str} {qual:Str} {scope:Scope} {fa C:Addr} {cd:Value} {A:Around} {outer:List Env} {s0:Shared} {H0:Hp} {E:XK}
theorem dx_raise {k : Nat} {cx x txt : Str} {j : Nat} {np cpos pos p1 p2 p3 p4 : Pos} (i : Nat) (hr : Room k (A.deeper (envOfC qual scope s0.heap.objs.size fa cd))) (hm : mg cx = some (.ref C)) (hx : PySem.W.excIn K C bmV "ValueError.__new__" = true)
 (hi:N[i]? = some x:=by rfl) (hv:Vis scope x:=by first | exact Or.inl rfl | exact Or.inr (Or.inl rfl) | exact Or.inr (Or.inr rfl)) (ht:txt.length<=1000:=by decide) (hg:Gl (cxOf (CXe P w C) P w K mg base N qual scope fa cd A outer s0 H0 E) cx:=by rfl)
 (hd:(cx==("__debug__" : Str))=false:=by decide) (hd2:(x==("__debug__" : Str))=false:=by decide) (hcd:(x==("__classdict__" : Str))=false:=by decide) :
 DSx (cxOf (CXe P w C) P w K mg base N qual scope fa cd A outer s0 H0 E) (PR K) (fun H'=>∀u,E u none H') [.Raise (some (.Call (.Name cx np) [.JoinedStr [.FormattedValue (.Name x p1) 114 none p2, .Constant (.str txt) j p3] p4] [] cpos)) none pos] (mRse i) :=
 ⟨_,pss_one (ps_raise (fun H e h=>h _) hg hm hx (pe_fs hr hi hv ht hd2 hcd) hd),rsx_raise i True.intro⟩
end
end Dm
namespace Dm
open PySem PySem.Spec PyProof.Rows L2 Tf
def xD:PyData:= .str "exception"
section
variable {K:PySem.W.Frag}
theorem xset_get{ρ:En}{i j:Nat}(h:i≠j):(ρ.set i none)[j]? = ρ[j]? :=List.getElem?_set_ne h
theorem xset_comm{ρ:En}{i k:Nat}{a b:Option Sl}(h:i≠k):(ρ.set k a).set i b=(ρ.set i b).set k a:=List.set_comm a b (Ne.symm h)
structure XS (K:PySem.W.Frag) (i:Nat) (C:Addr) (HB H0 H:Hp) (σ:L2.St) (ρ:En):Prop where
 er:ER K HB H0 H σ (ρ.set i none)
 in_:ρ[i]? = some none\/(ρ[i]? = some (some (.val .none))/\σ[i]? = some (some .non))\/(ρ[i]? = some (some (.val xD))/\∃a,σ[i]? = some (some (.ref a))/\H0 a=some (xO a C))
def PinX(K:PySem.W.Frag)(i:Nat)(C:Addr):Rl:=⟨XS K i C,fun k=>k≠i/\(0:Nat)=0⟩
instance relOk_PinX {i:Nat} {C:Addr}:RelOk K (PinX K i C) where
 ext:=fun x r=>⟨r.er.ext x,r.in_.imp id (Or.imp id fun ⟨h1,a,h2,h3⟩=>⟨h1,a,h2,x.s0 _ _ h3⟩)⟩
 get:=fun {_ _ _ _ _ k _} r hs h=>r.er.get k _ (by rw [xset_get (Ne.symm hs.1)];exact h)
 set:=fun {HB H0 H H0' H' σ ρ k v s} r hs x sb h=>by
  refine ⟨?_,?_⟩
  . rw [xset_comm (Ne.symm hs.1)];exact ER.set r.er x sb h
  . rw [List.getElem?_set_ne hs.1,List.getElem?_set_ne hs.1];exact r.in_.imp id (Or.imp id fun ⟨h1,a,h2,h3⟩=>⟨h1,a,h2,x.s0 _ _ h3⟩)
 write:=fun {HB H0 H σ ρ k c ds es vs ys} r hs h1 h2 h3 h4 h5 h6=>by
  refine ⟨?_,?_⟩
  . rw [xset_comm (Ne.symm hs.1)];exact ER.write r.er (by rw [xset_get (Ne.symm hs.1)];exact h1) h2 h3 h4 h6
  . rw [List.getElem?_set_ne hs.1];exact r.in_
 frz:=fun {S0 HB H0 H σ ρ k ds} r hs h x=>by
  obtain ⟨b,vs,g1,g2,g3⟩:=ER.frz r.er (i:=k) (by rw [xset_get (Ne.symm hs.1)];exact h) x;refine ⟨_,g2,?_,?_⟩
  . rw [xset_comm (Ne.symm hs.1)];exact g3
  . rw [List.getElem?_set_ne hs.1];refine r.in_.imp id (Or.imp id fun ⟨h1,a,h2,h3⟩=>⟨h1,a,h2,?_⟩);rw [upd_ne]
    . exact h3
    . rintro rfl;have:=x.s1 _ _ h3;rw [g1] at this
      cases this
theorem pinX_sub{i:Nat}{C:Addr}{ix:List (Option Nat)}(hn:(ix.filterMap id).Nodup:=by decide)(hi:some i ∉ ix:=by decide)(HB:Hp)(σ:L2.St)(ρ:En)(H0 H:Hp)(h:(PinX K i C).r HB H0 H σ ρ):(PR K).r (fun _=>none) H0 H (subS ix σ) (subE ix ρ):=by
 have e:subE ix ρ=subE ix (ρ.set i none):=by
  unfold subE;refine List.map_congr_left fun o ho=> ?_
  cases o with
  | none=>rfl
  | some j=>
   have:i≠j:=fun z=>hi (z ▸ ho);show (ρ[j]?).join=((ρ.set i none)[j]?).join;rw [xset_get this]
 rw [e];exact pr_sub hn HB σ _ H0 H h.er
theorem ER.sig{HB H0 H:Hp}{σ:L2.St}{ρ:En}{i:Nat}{o:Option V}(e:ER K HB H0 H σ ρ)(hi:∀s,ρ[i]? ≠ some (some s)):ER K HB H0 H (σ.set i o) ρ:=by
 have ne:∀(j:Nat) s,ρ[j]? = some (some s)->i≠j:=fun j s h z=>hi s (z ▸ h);refine ⟨by rw [List.length_set];exact e.len,fun j s h=> ?_,fun j k a ds es hjk h1 h2 h3 h4=> ?_⟩
 . rw [List.getElem?_set_ne (ne j s h)];exact e.get j s h
 . rw [List.getElem?_set_ne (ne j _ h1)] at h3
   rw [List.getElem?_set_ne (ne k _ h2)] at h4
   exact e.apart j k a ds es hjk h1 h2 h3 h4
theorem ER.drop{HB H0 H:Hp}{σ:L2.St}{ρ:En}(e:ER K HB H0 H σ ρ)(i:Nat):ER K HB H0 H σ (ρ.set i none):=by
 have f:∀(j:Nat) s,(ρ.set i none)[j]? = some (some s)->ρ[j]? = some (some s):=fun j s h=>by
  by_cases hj:i=j
  . subst hj;rw [List.getElem?_set_self'] at h
    cases q:ρ[i]? with
    | none=>rw [q] at h;cases h
    | some z=>rw [q] at h;cases h
  . rw [List.getElem?_set_ne hj] at h
    exact h
 exact ⟨by rw [List.length_set];exact e.len,fun j s h=>e.get j s (f j s h),fun j k a ds es hjk h1 h2 h3 h4=>e.apart j k a ds es hjk (f j _ h1) (f k _ h2) h3 h4⟩
theorem set_no{ρ:En}{i:Nat}(s:Sl):(ρ.set i none)[i]? ≠ some (some s):=fun h=>by
 rw [List.getElem?_set_self'] at h
 cases q:ρ[i]? with
 | none=>rw [q] at h;cases h
 | some z=>rw [q] at h;cases h
theorem XS.lt{i:Nat}{C:Addr}{HB H0 H:Hp}{σ:L2.St}{ρ:En}(r:XS K i C HB H0 H σ ρ):i<ρ.length:=by
 rcases r.in_ with h | ⟨h,_⟩ | ⟨h,_⟩ <;> exact (List.getElem?_eq_some_iff.mp h).1
theorem XS.ltσ{i:Nat}{C:Addr}{HB H0 H:Hp}{σ:L2.St}{ρ:En}(r:XS K i C HB H0 H σ ρ):i<σ.length:=by
 rw [r.er.len,List.length_set];exact r.lt
def mXN(i:Nat):En->Option Out:=fun ρ=>some (.nx (ρ.set i (some (.val .none))))
theorem rs_xn{i:Nat}{C:Addr}:RS K (PinX K i C) (tAsg (tC .non) (gName i)) (mXN i):=fun HB S0 σ ρ H0 H x e o ho D d=>by
 cases ho
 have r:XS K i C HB H0 H σ ρ:=e.r;refine d _ H0 H x ⟨⟨?_, .inr (.inl ⟨List.getElem?_set_self r.lt,List.getElem?_set_self r.ltσ⟩)⟩⟩;rw [List.set_set];exact r.er.sig set_no
def mTry(jf jg jn:Nat)(F:List PyData->Option (Option Sl))(f:En->Option (List PyData)):En->Option Out:=fun ρ=>(f ρ).bind fun ds=>(F ds).map fun r=>match r with
 | some z=> .nx (ρ.set jf (some z))
 | none=> .nx ((ρ.set jn none).set jg (some (.val xD)))
theorem rs_try{jf jg jn:Nat}{C:Addr}{F:List PyData->Option (Option Sl)}{t:TA}{f:En->Option (List PyData)}(hf:jf≠jg)(hn:jn≠jg)(h:RA K (PinX K jg C) t f):RS K (PinX K jg C) (tTry (spX K F) t C jf jg jn) (mTry jf jg jn F f):=fun HB S0 σ ρ H0 H x e o ho D d=>by
 obtain ⟨ds,hd,ho⟩:=Option.bind_eq_some_iff.mp ho;obtain ⟨r,hr,rfl⟩:=Option.map_eq_some_iff.mp ho;refine h HB σ ρ H0 H x.s1 e ds hd _ fun vs H1 J1 x1 p1=> ?_;refine ⟨H1,ds,r,x1.s1,by rw [List.append_nil];exact p1,hr,?_⟩
 cases r with
 | some z=>
  refine fun v H2 J2 x2 p2=>d _ H2 J2 (x.chain (x1.trans x2)) ⟨?_⟩
  exact RelOk.set (K:=K) (R:=PinX K jg C) e.r ⟨hf,rfl⟩ (x1.trans x2) x.s (p2.base x1.s)
 | none=>
  refine fun u H2 J2 x2 a _ ha=> ?_;have xx:=x1.trans x2;have x3:=Ext.allocF xx.s1 ha (xO a C);have r:XS K jg C HB H0 H σ ρ:=e.r;have r3:ER K HB (upd H2 a (xO a C)) (upd J2 a (xO a C)) σ (ρ.set jg none):=r.er.ext (xx.trans x3);have lt:=r.lt;have ltσ:=r.ltσ;refine d _ _ _ (x.chain (xx.trans x3)) ⟨⟨?_, .inr (.inr ⟨List.getElem?_set_self (by rw [List.length_set];exact lt),a,?_,upd_same⟩)⟩⟩
  . rw [List.set_set];have e1:((ρ.set jn none).set jg none)=(ρ.set jg none).set jn none:=xset_comm (Ne.symm hn);rw [e1];have r4:=r3.drop jn;have n1:∀s,((ρ.set jg none).set jn none)[jn]? ≠ some (some s):=set_no;have n2:∀s,((ρ.set jg none).set jn none)[jg]? ≠ some (some s):=fun s=>by rw [<-e1];exact set_no s
    exact ((r4.sig n1).sig n2).sig n1
  . rw [List.getElem?_set_ne hn];exact List.getElem?_set_self (by rw [List.length_set];exact ltσ)
def mXis(i:Nat):En->Option Sl:=fun ρ=>match ρ[i]? with
 | some (some (.val .none))=>some (.val (.bool true))
 | some (some (.val (.str _)))=>some (.val (.bool false))
 | _=>none
theorem re_xis{i:Nat}{C:Addr}:RE K (PinX K i C) (tOp (fun x y H Q=>y = .non/\Q (.bl (decide (x = .non))) H) (tVar i) (tC .non)) (mXis i):=fun HB σ ρ H0 H s e z hz Q q=>by
 have r:XS K i C HB H0 H σ ρ:=e.r;unfold mXis at hz
 rcases r.in_ with h | ⟨h,h2⟩ | ⟨h,a,h2,_⟩
 . rw [h] at hz;cases hz
 . rw [h] at hz;cases hz
   exact ⟨_,h2,rfl,q _ _ _ (Ext.refl s) (.bool _)⟩
 . rw [h] at hz;cases hz
   exact ⟨_,h2,rfl,q _ _ _ (Ext.refl s) (.bool _)⟩
def spRef(C:Addr):Sp:=fun vs H Q _=>∃(a:Addr) (H0:Hp),vs = [.ref a]/\Same H0 H/\H0 a=some (xO a C)/\∀H0' H',Ext H0 H H0' H'->Q (.bl true) H'
def mXref(i:Nat):En->Option Sl:=fun ρ=>match ρ[i]? with
 | some (some (.val (.str _)))=>some (.val (.bool true))
 | _=>none
theorem re_xref{i:Nat}{C:Addr}{E:XK}:RE K (PinX K i C) (tCall (spRef C) [] E (tCons (tVar i) tNil)) (mXref i):=fun HB σ ρ H0 H s e z hz Q q=>by
 have r:XS K i C HB H0 H σ ρ:=e.r;unfold mXref at hz
 rcases r.in_ with h | ⟨h,h2⟩ | ⟨h,a,h2,h3⟩
 . rw [h] at hz;cases hz
 . rw [h] at hz;cases hz
 . rw [h] at hz;cases hz
   exact ⟨_,h2,a,H0,rfl,s,h3,fun H0' H' x=>q _ _ _ x (.bool _)⟩
end
end Dm
namespace Dm
open PySem PySem.Spec PyProof.Rows L2 Tf
def UpK(K J:PySem.W.Frag):Prop:=∀a o,K.lookup a=some o->o≠PySem.W.tabObj #[]->J.lookup a=some o
theorem upK_cut{K:PySem.W.Frag}{h:Heap}{ts:List Addr}(KX:K.In h)(hT:∀p ∈ ts,h.get? p=some (PySem.W.tabObj #[])):UpK K (cutK K ts):=fun _ _ e hne=>lookup_cut (not_tab KX hT e hne) e
section
variable {K J:PySem.W.Frag}
theorem UpK.ns(u:UpK K J){n:Addr}{x:Str}{v:Option Value}(h:PySem.W.nsIn K n x=some v):PySem.W.nsIn J n x=some v:=by
 unfold PySem.W.nsIn at h ⊢
 split at h
 . rename_i oc od es ep sl e;rw [u _ _ e (fun z=>by cases z)];exact h
 . cases h
theorem UpK.own(u:UpK K J){x:Str}{c:Value}{v:Option Value}(h:PySem.W.ownIn K x c=some v):PySem.W.ownIn J x c=some v:=by
 unfold PySem.W.ownIn at h ⊢
 split at h
 . exact h
 . split at h
   . rename_i oc od cd sl e
     try dsimp only
     rw [u _ _ e (fun z=>by cases z)];exact u.ns h
   . cases h
 . exact h
theorem UpK.along(u:UpK K J){x:Str}{v:Option Value}:∀ {cs:List Value},PySem.W.alongIn K x cs=some v->PySem.W.alongIn J x cs=some v
 | [],h=>h
 | c::r,h=>by
  rw [PySem.W.alongIn] at h ⊢
  split at h
  . rename_i w e;rw [u.own e];exact h
  . rename_i e;rw [u.own e];exact u.along h
  . cases h
theorem UpK.find(u:UpK K J){t:Value}{x:Str}{v:Option Value}(h:PySem.W.findIn K t x=some v):PySem.W.findIn J t x=some v:=by
 unfold PySem.W.findIn at h ⊢
 split at h
 . exact h
 . split at h
   . rename_i oc od cd sl e
     try dsimp only
     rw [u _ _ e (fun z=>by cases z)];exact u.along h
   . cases h
 . cases h
theorem UpK.cls(u:UpK K J){C:Addr}{cd:ClassData}(h:PySem.W.clsIn K C=some cd):PySem.W.clsIn J C=some cd:=by
 unfold PySem.W.clsIn at h ⊢
 split at h
 . rename_i oc od c sl e;rw [u _ _ e (fun z=>by cases z)];exact h
 . cases h
theorem UpK.type(u:UpK K J){v t:Value}(h:PySem.W.typeIn K v=some t)(hne:t ≠ .none\/∀a,v ≠ .ref a):PySem.W.typeIn J v=some t:=by
 unfold PySem.W.typeIn at h ⊢
 split at h
 . rename_i a;obtain ⟨o,e,rfl⟩:=Option.map_eq_some_iff.mp h;rcases hne with hne | hne
   . try dsimp only
     rw [u _ _ e (fun z=>by rw [z] at hne;exact hne rfl)];rfl
   . exact absurd rfl (hne a)
 . exact h
 . exact h
 . exact h
theorem UpK.special(u:UpK K J){w:Value}{x:Str}{v:Option Value}(h:PySem.W.specialIn K w x=some v):PySem.W.specialIn J w x=some v:=by
 unfold PySem.W.specialIn at h ⊢
 obtain ⟨t,ht,h⟩:=Option.bind_eq_some_iff.mp h;rw [u.type ht (.inl fun z=>by subst z;cases h)];exact u.find h
theorem UpK.mro(u:UpK K J){C:Addr}{b:Value}{r:Bool}(h:PySem.W.mroIn K C b=some r):PySem.W.mroIn J C b=some r:=by
 unfold PySem.W.mroIn at h ⊢
 obtain ⟨cd,e,h⟩:=Option.bind_eq_some_iff.mp h;rw [u.cls e];exact h
theorem UpK.takes(u:UpK K J){a:Value}{r:Bool}(h:PySem.W.takesIn K a=some r):PySem.W.takesIn J a=some r:=by
 unfold PySem.W.takesIn at h ⊢
 split at h
 . rename_i e;rw [u.special e];exact h
 . rename_i e;rw [u.special e]
   try dsimp only
   obtain ⟨v,e2,h⟩:=Option.map_eq_some_iff.mp h;rw [u.special e2, <-h];rfl
 . cases h
theorem UpK.sub(u:UpK K J){t b:Value}{r:Bool}(h:PySem.W.subIn K t b=some r):PySem.W.subIn J t b=some r:=by
 unfold PySem.W.subIn at h ⊢
 split at h
 . exact h
 . exact u.mro h
 . cases h
theorem UpK.kitC(u:UpK K J){t c:Value}{r:Bool}(h:PySem.W.kitCls K t c=some r):PySem.W.kitCls J t c=some r:=by
 unfold PySem.W.kitCls at h ⊢
 split at h
 . split at h
   . rename_i C z;rw [Bool.and_eq_true] at z
     obtain ⟨cd,e⟩:=Option.isSome_iff_exists.mp z.1
     try dsimp only
     rw [if_pos (by rw [u.cls e,u.type (beq_iff_eq.mp z.2) (.inl fun q=>by cases q)];rfl)];exact u.sub h
   . cases h
 . split at h
   . rename_i z
     try dsimp only
     rw [if_pos z];exact u.sub h
   . cases h
 . cases h
theorem UpK.kit(u:UpK K J){t c:Value}{r:Bool}(h:PySem.W.kitOne K t c=some r):PySem.W.kitOne J t c=some r:=by
 unfold PySem.W.kitOne at h ⊢
 split at h
 . rename_i z;rw [if_pos z];exact h
 . rename_i z;rw [if_neg z];exact u.kitC h
theorem UpK.exm(u:UpK K J){t c:Value}{r:Bool}(h:PySem.W.exmOne K t c=some r):PySem.W.exmOne J t c=some r:=by
 unfold PySem.W.exmOne at h ⊢
 split at h
 . rename_i z;rw [if_pos (by rw [u.sub (beq_iff_eq.mp z)];rfl)];exact u.kitC h
 . cases h
theorem UpK.nsOk(u:UpK K J){n:Addr}(h:PySem.W.nsOkIn K n=true):PySem.W.nsOkIn J n=true:=by
 unfold PySem.W.nsOkIn at h ⊢
 split at h
 . rename_i e;rw [u _ _ e (fun z=>by cases z)];exact h
 . cases h
theorem UpK.tail(u:UpK K J){bm:List Value}:∀ {l:List Value},PySem.W.tailIn K bm l=true->PySem.W.tailIn J bm l=true
 | [],h=>h
 | v::r,h=>by
  unfold PySem.W.tailIn at h ⊢
  rcases Bool.or_eq_true_iff.mp h with q | q
  . exact Bool.or_eq_true_iff.mpr (.inl q)
  . refine Bool.or_eq_true_iff.mpr (.inr ?_)
    split at q
    . split at q
      . rename_i e
        try dsimp only
        rw [u _ _ e (fun z=>by cases z)];simp only [Bool.and_eq_true] at q ⊢
        exact ⟨⟨u.nsOk q.1.1,by rw [u.ns (beq_iff_eq.mp q.1.2)];rfl⟩,u.tail q.2⟩
      . cases q
    . cases q
theorem UpK.exc(u:UpK K J){C:Addr}{bm:List Value}{n:String}(h:PySem.W.excIn K C bm n=true):PySem.W.excIn J C bm n=true:=by
 unfold PySem.W.excIn at h ⊢
 split at h
 . rename_i e;rw [u _ _ e (fun z=>by cases z)]
   try dsimp only
   split at h
   . rename_i hm hs;simp only [hm,hs,Bool.and_eq_true] at h ⊢
     obtain ⟨⟨⟨h1,h2⟩,h3⟩,h4⟩:=h;exact ⟨⟨⟨h1,u.tail h2⟩,u.nsOk h3⟩,by rw [u.ns (beq_iff_eq.mp h4)];rfl⟩
   . cases h
 . cases h
theorem UpK.xcls(u:UpK K J){D:Addr}(c:XCls K D):XCls J D:=⟨u.find c.ga,u.find c.gg,u.find c.cl,u.special c.gt,u.takes c.tk,u.mro c.mo,u.mro c.mb,by
 obtain ⟨cd,e⟩:=Option.isSome_iff_exists.mp c.ci;rw [u.cls e];rfl⟩
end
section
variable {K:PySem.W.Frag} {C D:Addr}
theorem kit_self{v:Value}:PySem.W.kitOne K v v=some true:=by
 unfold PySem.W.kitOne;rw [if_pos (by simp)]
theorem kitC_mk {b:Bool} (h1:PySem.W.isClsIn K D=true) (h2:PySem.W.typeIn K (.ref D)=some (.type "type")) (h3:PySem.W.mroIn K C (.ref D)=some b):PySem.W.kitCls K (.ref C) (.ref D)=some b:=by
 unfold PySem.W.kitCls
 dsimp only
 rw [if_pos (by rw [h2,Bool.and_eq_true];exact ⟨h1,by decide +kernel⟩)];exact h3
theorem kit_t (h1:PySem.W.isClsIn K D=true) (h2:PySem.W.typeIn K (.ref D)=some (.type "type")) (h3:PySem.W.mroIn K C (.ref D)=some true):PySem.W.kitOne K (.ref C) (.ref D)=some true:=by
 unfold PySem.W.kitOne
 split
 . rfl
 . exact kitC_mk h1 h2 h3
theorem kit_f (hne:(Value.ref C==Value.ref D)=false) (h1:PySem.W.isClsIn K D=true) (h2:PySem.W.typeIn K (.ref D)=some (.type "type")) (h3:PySem.W.mroIn K C (.ref D)=some false):PySem.W.kitOne K (.ref C) (.ref D)=some false:=by
 unfold PySem.W.kitOne;rw [if_neg (by rw [hne];decide)];exact kitC_mk h1 h2 h3
theorem kit_b{T:String}{b:Bool}(h1:PySem.W.kitMeta T=true)(h3:PySem.W.mroIn K C (.type T)=some b):PySem.W.kitOne K (.ref C) (.type T)=some b:=by
 unfold PySem.W.kitOne;rw [if_neg (fun z=>by cases beq_iff_eq.mp z)];unfold PySem.W.kitCls
 dsimp only
 rw [if_pos h1];exact h3
theorem exm_mk (h0:PySem.W.mroIn K D (.type "BaseException")=some true) (h1:PySem.W.isClsIn K D=true) (h2:PySem.W.typeIn K (.ref D)=some (.type "type")) (h3:PySem.W.mroIn K C (.ref D)=some true):PySem.W.exmOne K (.ref C) (.ref D)=some true:=by
 unfold PySem.W.exmOne;rw [if_pos (by rw [show PySem.W.subIn K (.ref D) (.type "BaseException")=some true from h0];decide +kernel)];exact kitC_mk h1 h2 h3
structure NsQ (K:PySem.W.Frag) (N:Addr):Prop where
 ok:∃c d es n sl,K.lookup N=some ⟨c,d, .dict es n,sl⟩/\(es.toList.all fun e=>match e.key with | .str _ _=>true | _=>false)=true
 no:PySem.W.nsIn K N "__init__" = some none
theorem NsQ.in_{N:Addr}(q:NsQ K N):PySem.W.nsOkIn K N=true:=by
 obtain ⟨c,d,es,n,sl,e,h⟩:=q.ok;unfold PySem.W.nsOkIn;rw [e];show es.all _=true;rw [<-Array.all_toList];exact h
theorem exc_mk {T : Addr} {bm : List Value} {newId : String} {dd od : Option Addr} {oc : Value} {cd ct : ClassData} {k0 k1 k2 k3 k5 : Option Value} {sl : Array (Option Value)} (h1 : K.lookup C = some ⟨.type "type", dd, .cls cd, #[k0, k1, k2, k3, some (.builtin newId), k5]⟩) (hm : cd.mro = .ref C :: .ref T :: bm) (hd : cd.hasDel = false) (h2 : K.lookup T = some ⟨oc, od, .cls ct, sl⟩)
 (n1:NsQ K cd.ns) (n2:NsQ K ct.ns):PySem.W.excIn K C bm newId=true:=by
 have tl:PySem.W.tailIn K bm bm=true:=by
  cases bm with
  | nil=>rfl
  | cons v r=>unfold PySem.W.tailIn;simp
 have t2:PySem.W.tailIn K bm (.ref T::bm)=true:=by
  unfold PySem.W.tailIn;refine Bool.or_eq_true_iff.mpr (.inr ?_)
  dsimp only
  rw [h2]
  dsimp only
  rw [n2.in_,n2.no,tl];decide +kernel
 unfold PySem.W.excIn;rw [h1]
 split
 . rename_i heq
   cases heq
   split
   . rename_i hm' hs';rw [hm] at hm'
     cases hm'
     cases hs'
     rw [hd,t2,n1.in_,n1.no];simp
   . rename_i hx;exact (hx _ _ _ _ _ _ _ _ hm rfl).elim
 . rename_i hx;exact (hx _ _ _ rfl).elim
end
structure DefX (P:Program) (w:World) (K:PySem.W.Frag) (mg:Str->Option Value) (base:Heap) (C:Addr) (k:Nat) (x:Str) (ps:List Str) (sp:Sp):Prop where
 ex:∃f fd,FnOk P w K mg base (CXe P w C) k f fd ps sp/\mg x=some (.ref f)/\PySem.W.keepIn K (.ref f)=true/\Binds K fd ps []
section
variable {P:Program} {w:World} {K:PySem.W.Frag} {mg:Str->Option Value} {base:Heap}
theorem xs_start{N:List Str}{H0 H:Hp}{vs:List V}{ds:List PyData}{i:Nat}{C:Addr}(h:Reps K H0 vs ds)(h1:ds.length<=i)(h2:i<N.length):XS K i C H H0 H (L2.start N vs) (ds.map (fun d=>some (.val d))++List.replicate (N.length - ds.length) none):=by
 refine ⟨(er_start h).drop i, .inl ?_⟩;rw [List.getElem?_append_right (by simpa using h1),List.getElem?_replicate];simp only [List.length_map];rw [if_pos (by omega)]
theorem fnDX {x qual : Str} {st : Stmt} {f C : Addr} {fd : FuncData} {N ps : List Str} {k n m : Nat} {g : En -> Option Out} (i : Nat) (F : Fun K x qual st f fd) (S : FnScope N ps (defScope st)) (hn : N.length = n) (hm : ps.length = m)
 (hb:∀(cdv:Value) (A:Around) (outer:List Env) (s:Shared) (H:Hp) (E:XK),Room k (A.deeper (envOfC qual (defScope st) s.heap.objs.size f cdv))->DSs (cxOf CX0 P w K mg base N qual (defScope st) f cdv A outer s H E).nox (PinX K i C) (defBody st) g) (h1:m<=i:=by decide) (h2:i<n:=by decide) :
 FnOk P w K mg base CX0 (k+1) f fd ps (spD K (runD n g m)):=by
 subst hn hm;refine F.ok S (fun vs H Q E h=> ?_) fun cdv A outer s H vs Q E hr h=> ?_
 . obtain ⟨H0,ds,r,s,hr,hf,_⟩:=h;unfold runD at hf
   split at hf
   . rename_i hl;rw [hr.length,hl]
   . cases hf
 . obtain ⟨t,ht,rs⟩:=hb cdv A outer s H E hr;refine ⟨t,ht,?_⟩;obtain ⟨H0,ds,r,s0,hr,hf,q⟩:=h;unfold runD at hf
   split at hf
   . rename_i hl;obtain ⟨o,ho,hf⟩:=Option.bind_eq_some_iff.mp hf;refine rs H H0 _ _ H0 H (Ext.refl s0) ⟨xs_start hr (by rw [hl];exact h1) h2⟩ o ho _ ?_
     cases o with
     | rt r' _=>cases hf;exact fun v σ H1 J1 a _ b=>q v H1 J1 a b
     | nx _=>cases hf;exact fun σ H1 J1 a b=>q .non H1 J1 a .none
     | bk _=>cases hf
     | ct _=>cases hf
   . cases hf
theorem fnRef {x qual y : Str} {st : Stmt} {f C : Addr} {fd : FuncData} {k : Nat} {g : En -> Option Out} {ρ : En} (F : Fun K x qual st f fd) (S : FnScope [y] [y] (defScope st)) (hg : g [some (.val xD)] = some (.rt (.val (.bool true)) ρ))
 (hb:∀(cdv:Value) (A:Around) (outer:List Env) (s:Shared) (H:Hp) (E:XK),Room k (A.deeper (envOfC qual (defScope st) s.heap.objs.size f cdv))->DSs (cxOf CX0 P w K mg base [y] qual (defScope st) f cdv A outer s H E).nox (PinX K 0 C) (defBody st) g) :
 FnOk P w K mg base CX0 (k+1) f fd [y] (spRef C):=by
 refine F.ok S (fun vs H Q E h=> ?_) fun cdv A outer s H vs Q E hr h=> ?_
 . obtain ⟨a,H0,rfl,_⟩:=h;rfl
 . obtain ⟨t,ht,rs⟩:=hb cdv A outer s H E hr;refine ⟨t,ht,?_⟩;obtain ⟨a,H0,rfl,s0,h1,q⟩:=h;refine rs H H0 _ [some (.val xD)] H0 H (Ext.refl s0) ⟨⟨⟨rfl,fun i s hs=> ?_,fun i j b ds es _ h2 _ _ _=> ?_⟩, .inr (.inr ⟨rfl,a,rfl,h1⟩)⟩⟩ _ hg _ ?_
   . match i,hs with
     | 0,hs=>cases hs
     | i+1,hs=>cases hs
   . match i,h2 with
     | 0,h2=>cases h2
     | i+1,h2=>cases h2
   . intro v σ H1 J1 x1 _ p
     cases (show Rep K H1 v (.bool true) from p)
     exact q H1 J1 x1
end
end Dm
namespace Dm
open PySem PySem.Spec PyProof.Rows L2 Tf
section
variable {X:Cx} {C D:Addr} {x y n fn cx:Str} {p p1 p2 pos:Pos} {j:Nat}
theorem ds_xn (i : Nat) (hN : X.N.Nodup) (hi : X.N[i]? = some x := by rfl) (hx : Loc X.env.scope x := by first | exact Or.inl rfl | exact Or.inr rfl) (hs : swapsWith (.Constant .none j p2) (some (.Name x p)) pos.line X.env = pure false := by rfl) (hf : X.fn x = true \/ X.env.scope.names.lookup x = some .local := by first | exact .inl rfl | exact .inr rfl) :
 DS X (PinX X.K i C) (.Assign [.Name x p] (.Constant .none j p2) pos) (mXN i):=⟨_,ps_set hN hi hx pe_non hs hf,rs_xn⟩
theorem de_xis (i : Nat) (hN : X.N[i]? = some x := by rfl) (hv : Vis X.env.scope x := by first | exact Or.inl rfl | exact Or.inr (Or.inl rfl) | exact Or.inr (Or.inr rfl)) (hd : (x == ("__debug__" : Str)) = false := by decide) (hcd : (x == ("__classdict__" : Str)) = false := by decide) :
 DE X (PinX X.K i C) (.Compare (.Name x p) [.Is] [.Constant .none j p2] pos) (mXis i):=⟨_,pe_cmpR op_isN (pe_var hN hv hd hcd) pe_non (nomark _),re_xis⟩
theorem de_xref {k l : Nat} {ps : List Str} (i : Nat) (F : Tf.Def X.prog X.w X.K X.mg X.base l fn ps (spRef C)) (hr : Room k X.A) (hj : l <= k := by decide) (hg : Gl X fn := by rfl) (hN : X.N[i]? = some x := by rfl) (hv : Vis X.env.scope x := by first | exact Or.inl rfl | exact Or.inr (Or.inl rfl) | exact Or.inr (Or.inr rfl)) (hd : (x == ("__debug__" : Str)) = false := by decide) (hcd : (x == ("__classdict__" : Str)) = false := by decide)
 (hdb:(fn==("__debug__" : Str))=false:=by decide) (he:starEach [.Name x p1] X.env=(false,eval (.Name x p1) X.env)::starEach [] X.env:=by rfl) (hpl:(backTo pos (starEach [] X.env)).any (·.1)=false:=by rfl) :
 DE X (PinX X.K i C) (.Call (.Name fn p) [.Name x p1] [] pos) (mXref i):=⟨_,pe_callD F hr (pa_cons (pe_var hN hv hd hcd) pa_nil he) hj hg hdb he hpl,re_xref⟩
theorem ds_try {k l : Nat} {ps : List Str} {F : List PyData -> Option (Option Sl)} {xf xg : Str} {pf apos cpos np hpos pg pn gpos : Pos} {e : Expr} {es : List Expr} {fs : En -> Option (List PyData)} (jf jg jn : Nat) (Fx : DefX X.prog X.w X.K X.mg X.base C l fn ps (spX X.K F)) (hr : Room k X.A) (ha : DA X (PinX X.K jg C) (e :: es) fs)
 (hm:X.mg cx=some (.ref D)) (hc:PySem.W.exmOne X.K (.ref C) (.ref D)=some true) (hN:X.N.Nodup) (hno:∀e s,X.xe e s->False:=by exact fun _ _ h=>h) (hX:X.stack=X.env::X.outer/\X.env.frame=some X.env.locals:=by exact ⟨rfl,rfl⟩) (hj:l<=k:=by decide) (hgf:Gl X fn:=by rfl) (hg:Gl X cx:=by rfl)
 (hif:X.N[jf]? = some xf:=by rfl) (hlf:X.env.scope.names.lookup xf=some .local:=by rfl) (hig:X.N[jg]? = some xg:=by rfl) (hlg:X.env.scope.names.lookup xg=some .local:=by rfl) (hin:X.N[jn]? = some n:=by rfl) (hln:X.env.scope.names.lookup n=some .local:=by rfl)
 (hfg:jf≠jg:=by decide) (hng:jn≠jg:=by decide)
 (hdb:(fn==("__debug__" : Str))=false:=by decide) (hdc:(cx==("__debug__" : Str))=false:=by decide) (hdn:(n==("__debug__" : Str))=false:=by decide) (hcn:(n==("__classdict__" : Str))=false:=by decide)
 (he:starEach (e::es) X.env=(false,eval e X.env)::starEach es X.env:=by rfl) (hpl:(backTo cpos (starEach es X.env)).any (·.1)=false:=by rfl)
 (hs:swapsWith (.Call (.Name fn p) (e::es) [] cpos) (some (.Name xf pf)) apos.line X.env=pure false:=by rfl) (hs2:swapsWith (.Name n pn) (some (.Name xg pg)) gpos.line X.env=pure false:=by rfl) :
 DS X (PinX X.K jg C) (.Try [.Assign [.Name xf pf] (.Call (.Name fn p) (e::es) [] cpos) apos] [.ExceptHandler (some (.Name cx np)) (some n) [.Assign [.Name xg pg] (.Name n pn) gpos] hpos] [] [] pos) (mTry jf jg jn F fs):=by
 obtain ⟨f,fd,F',hmf,hk,hb⟩:=Fx.ex;obtain ⟨ta,h1,h2⟩:=ha;exact ⟨_,ps_try F' (hr.mono hj) hgf hmf hk hb h1 hno hX hg hm hc hN hif hlf hig hlg hin hln hdb hdc hdn hcn he hpl hs hs2,rs_try hfg hng h2⟩
def rXi(K:PySem.W.Frag)(C:Addr):List V->Hp->VK->Prop:=fun xs H Q=>∃a y b,xs = [.ref a,y]/\H a=some (xO a C)/\(∀c,RelV y c->PySem.W.kitOne K (.ref C) c=some b)/\Q (.bl b) H
theorem call_xi(c:XCls X.K C):CallR X (.builtin "isinstance") (rXi X.K C):=by
 intro pins s σ H xs us Q I r h;obtain ⟨a,y,b,rfl,h1,e,q⟩:=h;obtain ⟨u,w',rfl,rx,rn⟩:=vals2 r;obtain rfl:u=Value.ref a:=rx;obtain ⟨⟨o,vs,e1,e2,_⟩,_⟩:=(show ObjOk X.prog X.w H s.heap a (xO a C) from I.hok a _ h1);exact PySem.W.kia_one (kitx_exc c) I.kIn ⟨o,e1,e2⟩ (e w' rn) (fun z=>nomatch z) fun tk=>⟨.bl b,H,I.tok _,rfl,q⟩
def mXi(i:Nat)(b:Bool):En->Option Sl:=fun ρ=>match ρ[i]? with
 | some (some (.val (.str _)))=>some (.val (.bool b))
 | _=>none
theorem re_xi{K:PySem.W.Frag}{i:Nat}{b:Bool}{y:V}(e:∀c,RelV y c->PySem.W.kitOne K (.ref C) c=some b):RE K (PinX K i C) (tCB (rXi K C) (tCons (tVar i) (tCons (tC y) tNil))) (mXi i b):=fun HB σ ρ H0 H s e' z hz Q q=>by
 have r:XS K i C HB H0 H σ ρ:=e'.r;unfold mXi at hz
 rcases r.in_ with h | ⟨h,h2⟩ | ⟨h,a,h2,h3⟩
 . rw [h] at hz;cases hz
 . rw [h] at hz;cases hz
 . rw [h] at hz;cases hz
   exact ⟨_,h2,a,y,b,rfl,s _ _ h3,e,q _ _ _ (Ext.refl s) (.bool _)⟩
theorem de_xi {b : Bool} (i : Nat) (c : XCls X.K C) (hm : X.mg "isinstance" = none) (hx : X.mg y = some (.ref D)) (e : PySem.W.kitOne X.K (.ref C) (.ref D) = some b) (hN : X.N[i]? = some x := by rfl) (hv : Vis X.env.scope x := by first | exact Or.inl rfl | exact Or.inr (Or.inl rfl) | exact Or.inr (Or.inr rfl)) (hd : (x == ("__debug__" : Str)) = false := by decide) (hcd : (x == ("__classdict__" : Str)) = false := by decide)
 (hgx:Gl X y:=by rfl) (hg:Gl X "isinstance" :=by rfl) (hdx:(y==("__debug__" : Str))=false:=by decide)
 (he:starEach [.Name x p1, .Name y p2] X.env=(false,eval (.Name x p1) X.env)::starEach [.Name y p2] X.env:=by rfl) (he2:starEach [.Name y p2] X.env=(false,eval (.Name y p2) X.env)::starEach [] X.env:=by rfl) (hpl:(backTo pos (starEach [.Name y p2] X.env)).any (·.1)=false:=by rfl) :
 DE X (PinX X.K i C) (.Call (.Name "isinstance" p) [.Name x p1, .Name y p2] [] pos) (mXi i b) :=
 ⟨_,pe_callB (call_xi c) hg hm bt_isinstance (pa_cons (pe_var hN hv hd hcd) (pa_cons (pe_glob (v:= .ref D) hgx hx rfl hdx) pa_nil he2) he) (by decide) (by decide) he hpl,re_xi fun c' r=>by
  obtain rfl:c'=Value.ref D:=r;exact e⟩
theorem de_xb {b : Bool} {T : String} (i : Nat) (c : XCls X.K C) (hm : X.mg "isinstance" = none) (hx : X.mg y = none) (hv' : bootBuiltins y = some (.type T)) (e : PySem.W.kitOne X.K (.ref C) (.type T) = some b) (hN : X.N[i]? = some x := by rfl) (hv : Vis X.env.scope x := by first | exact Or.inl rfl | exact Or.inr (Or.inl rfl) | exact Or.inr (Or.inr rfl)) (hd : (x == ("__debug__" : Str)) = false := by decide) (hcd : (x == ("__classdict__" : Str)) = false := by decide)
 (hgx:Gl X y:=by rfl) (hg:Gl X "isinstance" :=by rfl) (hnx:y ≠ "__name__" :=by decide) (hdx:(y==("__debug__" : Str))=false:=by decide)
 (he:starEach [.Name x p1, .Name y p2] X.env=(false,eval (.Name x p1) X.env)::starEach [.Name y p2] X.env:=by rfl) (he2:starEach [.Name y p2] X.env=(false,eval (.Name y p2) X.env)::starEach [] X.env:=by rfl) (hpl:(backTo pos (starEach [.Name y p2] X.env)).any (·.1)=false:=by rfl) :
 DE X (PinX X.K i C) (.Call (.Name "isinstance" p) [.Name x p1, .Name y p2] [] pos) (mXi i b) :=
 ⟨_,pe_callB (call_xi c) hg hm bt_isinstance (pa_cons (pe_var hN hv hd hcd) (pa_cons (pe_ty hgx hx hv' hnx hdx) pa_nil he2) he) (by decide) (by decide) he hpl,re_xi fun c' r=>by
  obtain rfl:c'=Value.type T:=r;exact e⟩
end
end Dm
namespace Tr
def E:List Int->Nat->Int
 | [],0=>1
 | [],_+1=>0
 | _::_,0=>1
 | s::l,k+1=>E l (k+1)+(s - 1)*E l k
def S:List Int->Nat->Int
 | [],_=>1
 | _::_,0=>1
 | s::l,u+1=>S l (u+1)+(s - 1)*S l u
end Tr
namespace Sp
abbrev Wd:=List Nat
def Ok(p n:Nat)(w:Wd):Prop:=w.length=n/\∀r ∈ w,r<p
def put(p:Nat)(u:Wd)(f:Nat)(w:Wd):Wd:=List.zipWith (fun a b=>(a+f*b) % p) u w
theorem mod_of{A B p s t:Nat}(h:A+p*s=B+p*t):A % p=B % p:=by
 rw [<-Nat.add_mul_mod_self_left A p s, <-Nat.add_mul_mod_self_left B p t,h]
theorem mod_split(A p:Nat):∃q,A=A % p+p*q:=⟨A / p,by rw [Nat.mod_add_div]⟩
theorem Ok.get{p n:Nat}{w:Wd}(h:Ok p n w){i:Nat}(hi:i<n):∃x,w[i]? = some x/\x<p:=by
 have:i<w.length:=by rw [h.1];exact hi
 exact ⟨w[i],List.getElem?_eq_getElem this,h.2 _ (List.getElem_mem this)⟩
theorem put_ok{p n:Nat}(hp:0<p){u w:Wd}(hu:u.length=n)(hw:w.length=n)(f:Nat):Ok p n (put p u f w):=by
 refine ⟨by unfold put;rw [List.length_zipWith,hu,hw,Nat.min_self],fun r hr=> ?_⟩;unfold put at hr
 obtain ⟨i,hi,e⟩:=List.mem_iff_getElem.mp hr;rw [List.getElem_zipWith] at e
 rw [<-e];exact Nat.mod_lt _ hp
theorem put_get{p n:Nat}{u w:Wd}(hu:Ok p n u)(hw:Ok p n w){f i x y:Nat}(hx:u[i]? = some x)(hy:w[i]? = some y):(put p u f w)[i]? = some ((x+f*y) % p):=by
 unfold put;rw [List.getElem?_zipWith,hx,hy]
theorem ext{p n:Nat}{u w:Wd}(hu:Ok p n u)(hw:Ok p n w)(h:∀i x y,i<n->u[i]? = some x->w[i]? = some y->x=y):u=w:=by
 refine List.ext_getElem? fun i=> ?_
 by_cases hi:i<n
 . obtain ⟨x,ex,_⟩:=hu.get hi;obtain ⟨y,ey,_⟩:=hw.get hi;rw [ex,ey,h i x y hi ex ey]
 . rw [List.getElem?_eq_none (by rw [hu.1];omega),List.getElem?_eq_none (by rw [hw.1];omega)]
theorem put_zero{p n:Nat}(hp:0<p){u w:Wd}(hu:Ok p n u)(hw:Ok p n w):put p u 0 w=u:=by
 refine ext (put_ok hp hu.1 hw.1 0) hu fun i x y hi hx hy=> ?_;obtain ⟨z,ez,_⟩:=hw.get hi;obtain ⟨y',ey,hy'⟩:=hu.get hi;rw [put_get hu hw hy ez] at hx
 cases hx
 rw [hy] at ey
 cases ey
 rw [Nat.zero_mul,Nat.add_zero,Nat.mod_eq_of_lt hy']
theorem put_put{p n:Nat}(hp:0<p){u u' w:Wd}(hu:Ok p n u)(hu':Ok p n u')(hw:Ok p n w)(f f' h:Nat):put p (put p u f w) h (put p u' f' w)=put p (put p u h u') ((f+h*f') % p) w:=by
 have o1:=put_ok hp hu.1 hw.1 f;have o2:=put_ok hp hu'.1 hw.1 f';have o3:=put_ok hp hu.1 hu'.1 h;refine ext (put_ok hp o1.1 o2.1 h) (put_ok hp o3.1 hw.1 _) fun i x y hi hx hy=> ?_;obtain ⟨a,ea,_⟩:=hu.get hi;obtain ⟨b,eb,_⟩:=hu'.get hi;obtain ⟨c,ec,_⟩:=hw.get hi;rw [put_get o1 o2 (put_get hu hw ea ec) (put_get hu' hw eb ec)] at hx
 rw [put_get o3 hw (put_get hu hu' ea eb) ec] at hy
 cases hx
 cases hy
 obtain ⟨q1,h1⟩:=mod_split (a+f*c) p;obtain ⟨q2,h2⟩:=mod_split (b+f'*c) p;obtain ⟨q3,h3⟩:=mod_split (a+h*b) p;obtain ⟨q4,h4⟩:=mod_split (f+h*f') p;generalize (a+f*c) % p=r at h1 ⊢
 generalize (b+f'*c) % p=r' at h2 ⊢
 generalize (a+h*b) % p=t at h3 ⊢
 generalize (f+h*f') % p=g at h4 ⊢
 refine mod_of (s:=q1+h*q2) (t:=q3+q4*c) ?_
 grind
theorem put_inj{p n:Nat}(hp:0<p){u u' w:Wd}(hu:Ok p n u)(hu':Ok p n u')(hw:Ok p n w){f:Nat}(h:put p u f w=put p u' f w):u=u':=by
 refine ext hu hu' fun i x y hi hx hy=> ?_;obtain ⟨x',ex,bx⟩:=hu.get hi;obtain ⟨y',ey,bz⟩:=hu'.get hi;obtain ⟨c,ec,_⟩:=hw.get hi;rw [hx] at ex;cases ex
 rw [hy] at ey;cases ey
 have e:=congrArg (fun l:Wd=>l[i]?) h;rw [put_get hu hw hx ec,put_get hu' hw hy ec] at e
 have e:=Option.some.inj e;obtain ⟨q1,h1⟩:=mod_split (x+f*c) p;obtain ⟨q2,h2⟩:=mod_split (y+f*c) p;rw [e] at h1
 generalize (y+f*c) % p=r at h1 h2
 have h3:x+p*q2=y+p*q1:=by omega
 have:=mod_of h3
 rwa [Nat.mod_eq_of_lt bx,Nat.mod_eq_of_lt bz] at this
theorem inv{p:Nat}(hp:p=2\/p=3\/p=5\/p=7){f f':Nat}(hf:f<p)(hf':f'<p)(h:f≠f'):∃g k,g*(f+(p - f'))=1+p*k:=by
 rcases hp with rfl | rfl | rfl | rfl
 . have:∀f<2,∀f'<2,f≠f'->∃g<2,∃k<20,g*(f+(2 - f'))=1+2*k:=by decide
   obtain ⟨g,_,k,_,e⟩:=this f hf f' hf' h;exact ⟨g,k,e⟩
 . have:∀f<3,∀f'<3,f≠f'->∃g<3,∃k<20,g*(f+(3 - f'))=1+3*k:=by decide
   obtain ⟨g,_,k,_,e⟩:=this f hf f' hf' h;exact ⟨g,k,e⟩
 . have:∀f<5,∀f'<5,f≠f'->∃g<5,∃k<20,g*(f+(5 - f'))=1+5*k:=by decide
   obtain ⟨g,_,k,_,e⟩:=this f hf f' hf' h;exact ⟨g,k,e⟩
 . have:∀f<7,∀f'<7,f≠f'->∃g<7,∃k<20,g*(f+(7 - f'))=1+7*k:=by decide
   obtain ⟨g,_,k,_,e⟩:=this f hf f' hf' h;exact ⟨g,k,e⟩
def zero(n:Nat):Wd:=List.replicate n 0
theorem zero_ok{p:Nat}(hp:0<p)(n:Nat):Ok p n (zero n):=⟨List.length_replicate,fun r hr=>by rw [(List.mem_replicate.mp hr).2];exact hp⟩
theorem zero_get{n i:Nat}(hi:i<n):(zero n)[i]? = some 0:=by unfold zero;rw [List.getElem?_replicate,if_pos hi]
theorem put_w {p n : Nat} (hp : 0 < p) {u u' w : Wd} (hu : Ok p n u) (hu' : Ok p n u') (hw : Ok p n w) {f f' g k : Nat} (hf' : f' < p) (hg : g * (f + (p - f')) = 1 + p * k) (h : put p u f w = put p u' f' w) :
 put p (put p (zero n) g u') (g*(p - 1)) u=w:=by
 have o0:=zero_ok hp n;have o1:=put_ok hp o0.1 hu'.1 g;refine ext (put_ok hp o1.1 hu.1 _) hw fun i x y hi hx hy=> ?_;obtain ⟨a,ea,_⟩:=hu.get hi;obtain ⟨b,eb,_⟩:=hu'.get hi;obtain ⟨c,ec,bc⟩:=hw.get hi;rw [hy] at ec;cases ec
 rw [put_get o1 hu (put_get o0 hu' (zero_get hi) eb) ea] at hx
 cases hx
 have e:=congrArg (fun l:Wd=>l[i]?) h;rw [put_get hu hw ea hy,put_get hu' hw eb hy] at e
 have e:=Option.some.inj e;obtain ⟨q1,h1⟩:=mod_split (a+f*y) p;obtain ⟨q2,h2⟩:=mod_split (b+f'*y) p;rw [e] at h1
 generalize (b+f'*y) % p=r at h1 h2
 obtain ⟨q3,h3⟩:=mod_split (0+g*b) p;generalize (0+g*b) % p=t at h3 ⊢
 rw [<-Nat.mod_eq_of_lt bc];obtain ⟨p',rfl⟩:∃p',p=p'+1:=⟨p - 1,by omega⟩;obtain ⟨d,hd⟩:∃d,p'+1=f'+d:=⟨p'+1 - f',by omega⟩;rw [show p'+1 - f'=d by omega] at hg
 rw [show p'+1 - 1=p' by omega];have h4:b+f'*y+(p'+1)*q1=a+f*y+(p'+1)*q2:=by omega
 refine mod_of (s:=q3+g*q1+g*y) (t:=g*a+y*k+g*q2) ?_
 grind
structure Cl (p n:Nat) (M:List Wd):Prop where
 ok:∀u ∈ M,Ok p n u
 z:zero n ∈ M
 put:∀u ∈ M,∀v ∈ M,∀f,put p u f v ∈ M
def mults(p:Nat)(F:List Nat)(M:List Wd)(w:Wd):List Wd:=F.flatMap fun f=>M.map fun u=>put p u f w
theorem mem_mults{p:Nat}{F:List Nat}{M:List Wd}{w x:Wd}:x ∈ mults p F M w↔∃f ∈ F,∃u ∈ M,put p u f w=x:=by
 unfold mults;rw [List.mem_flatMap]
 constructor
 . rintro ⟨f,hf,h⟩;obtain ⟨u,hu,e⟩:=List.mem_map.mp h;exact ⟨f,hf,u,hu,e⟩
 . rintro ⟨f,hf,u,hu,e⟩;exact ⟨f,hf,List.mem_map.mpr ⟨u,hu,e⟩⟩
def stepM(p:Nat)(M:List Wd)(w:Wd):List Wd:=if w ∈ M then M else mults p (List.range p) M w
def spanM(p n:Nat)(W:List Wd):List Wd:=W.foldl (stepM p) [zero n]
def addT(acc:List Wd)(x:Wd):List Wd:=if x ∈ acc then acc else acc ++ [x]
def stepT(p:Nat)(T:List Wd)(w:Wd):List Wd:=(mults p (List.range' 1 (p - 1)) T w).foldl addT T
def spanT(p n:Nat)(W:List Wd):List Wd:=W.foldl (stepT p) [zero n]
theorem mults_cl{p n:Nat}(hp:0<p){M:List Wd}(h:Cl p n M){w:Wd}(hw:Ok p n w):Cl p n (mults p (List.range p) M w):=by
 refine ⟨fun x hx=> ?_,?_,fun x hx y hy f=> ?_⟩
 . obtain ⟨f,_,u,hu,rfl⟩:=mem_mults.mp hx;exact put_ok hp (h.ok u hu).1 hw.1 f
 . exact mem_mults.mpr ⟨0,List.mem_range.mpr hp,_,h.z,put_zero hp (zero_ok hp n) hw⟩
 . obtain ⟨f1,_,u,hu,rfl⟩:=mem_mults.mp hx;obtain ⟨f2,_,v,hv,rfl⟩:=mem_mults.mp hy;rw [put_put hp (h.ok u hu) (h.ok v hv) hw];exact mem_mults.mpr ⟨_,List.mem_range.mpr (Nat.mod_lt _ hp),_,h.put u hu v hv f,rfl⟩
theorem mults_nodup{p n:Nat}(hq:p=2\/p=3\/p=5\/p=7){M:List Wd}(h:Cl p n M)(nd:M.Nodup){w:Wd}(hw:Ok p n w)(hn:w ∉ M):∀ {F:List Nat},F.Nodup->(∀f ∈ F,f<p)->(mults p F M w).Nodup:=by
 have hp:0<p:=by omega
 intro F
 induction F with
 | nil=>intro _ _;exact List.nodup_nil
 | cons f F ih=>
  intro hF hb;rw [List.nodup_cons] at hF
  have e:mults p (f::F) M w=(M.map fun u=>put p u f w)++mults p F M w:=by unfold mults;rw [List.flatMap_cons]
  rw [e,List.nodup_append];refine ⟨?_,ih hF.2 fun g hg=>hb g (List.mem_cons_of_mem _ hg),fun x hx y hy exy=> ?_⟩
  . refine List.pairwise_map.mpr (List.Pairwise.imp_of_mem (fun {u v} hu hv huv e=>huv ?_) nd);exact put_inj hp (h.ok u hu) (h.ok v hv) hw e
  . subst exy;obtain ⟨u,hu,e1⟩:=List.mem_map.mp hx;obtain ⟨g,hg,v,hv,e2⟩:=mem_mults.mp hy;have bf:=hb f List.mem_cons_self;have bg:=hb g (List.mem_cons_of_mem _ hg);have hfg:f≠g:=fun c=>hF.1 (c ▸ hg);obtain ⟨i,k,hi⟩:=inv hq bf bg hfg;have:=put_w hp (h.ok u hu) (h.ok v hv) hw bg hi (e1.trans e2.symm);refine hn ?_;rw [<-this];exact h.put _ (h.put _ h.z _ hv _) _ hu _
theorem addT_fold:∀(l:List Wd) (acc:List Wd),acc.Nodup->(l.foldl addT acc).Nodup/\∀x,x ∈ l.foldl addT acc↔x ∈ acc\/x ∈ l
 | [],acc,h=>⟨h,fun x=>by simp⟩
 | y::l,acc,h=>by
  rw [List.foldl_cons]
  have h1:(addT acc y).Nodup/\∀x,x ∈ addT acc y↔x ∈ acc\/x=y:=by
   unfold addT
   split
   . rename_i hy;exact ⟨h,fun x=>⟨.inl,fun hx=>hx.elim id fun e=>e ▸ hy⟩⟩
   . rename_i hy;refine ⟨?_,fun x=>by simp⟩;rw [List.nodup_append];exact ⟨h,by simp,fun a ha b hb e=>hy (by rw [List.mem_singleton.mp hb] at e;exact e ▸ ha)⟩
  obtain ⟨g1,g2⟩:=addT_fold l _ h1.1;refine ⟨g1,fun x=> ?_⟩;rw [g2,h1.2,List.mem_cons,or_assoc]
theorem steps {p n : Nat} (hq : p = 2 \/ p = 3 \/ p = 5 \/ p = 7) {M T : List Wd} (h : Cl p n M) (nd : M.Nodup) (ndT : T.Nodup) (hs : ∀ x, x ∈ M ↔ x ∈ T) {w : Wd} (hw : Ok p n w) :
 Cl p n (stepM p M w)/\(stepM p M w).Nodup/\(stepT p T w).Nodup/\∀x,x ∈ stepM p M w↔x ∈ stepT p T w:=by
 have hp:0<p:=by omega
 obtain ⟨t1,t2⟩:=addT_fold (mults p (List.range' 1 (p - 1)) T w) T ndT;unfold stepM
 split
 . rename_i hin;refine ⟨h,nd,t1,fun x=> ?_⟩;unfold stepT;rw [t2,hs];refine ⟨.inl,fun hx=>hx.elim id fun hx=> ?_⟩;obtain ⟨f,_,u,hu,rfl⟩:=mem_mults.mp hx;exact (hs _).mp (h.put u ((hs u).mpr hu) w hin f)
 . rename_i hin;refine ⟨mults_cl hp h hw,mults_nodup hq h nd hw hin List.nodup_range (fun f hf=>List.mem_range.mp hf),t1,fun x=> ?_⟩;unfold stepT;rw [t2]
   constructor
   . intro hx;obtain ⟨f,hf,u,hu,rfl⟩:=mem_mults.mp hx
     by_cases h0:f=0
     . subst h0;left;rw [put_zero hp (h.ok u hu) hw];exact (hs u).mp hu
     . right;have:=List.mem_range.mp hf;exact mem_mults.mpr ⟨f,List.mem_range'_1.mpr ⟨by omega,by omega⟩,u,(hs u).mp hu,rfl⟩
   . rintro (hx | hx)
     . have hx:=(hs x).mpr hx;exact mem_mults.mpr ⟨0,List.mem_range.mpr hp,x,hx,put_zero hp (h.ok x hx) hw⟩
     . obtain ⟨f,hf,u,hu,rfl⟩:=mem_mults.mp hx;have:=List.mem_range'_1.mp hf;exact mem_mults.mpr ⟨f,List.mem_range.mpr (by omega),u,(hs u).mpr hu,rfl⟩
theorem spans {p n : Nat} (hq : p = 2 \/ p = 3 \/ p = 5 \/ p = 7) : ∀ (W : List Wd) (M T : List Wd), (∀ w ∈ W, Ok p n w) -> Cl p n M -> M.Nodup -> T.Nodup -> (∀ x, x ∈ M ↔ x ∈ T) ->
 Cl p n (W.foldl (stepM p) M)/\(W.foldl (stepM p) M).Nodup/\(W.foldl (stepT p) T).Nodup/\∀x,x ∈ W.foldl (stepM p) M↔x ∈ W.foldl (stepT p) T
 | [],M,T,_,h,a,b,c=>⟨h,a,b,c⟩
 | w::W,M,T,hW,h,a,b,c=>by
  obtain ⟨h',a',b',c'⟩:=steps hq h a b c (hW w List.mem_cons_self);exact spans hq W _ _ (fun v hv=>hW v (List.mem_cons_of_mem _ hv)) h' a' b' c'
theorem zero_cl{p:Nat}(hp:0<p)(n:Nat):Cl p n [zero n]:=by
 have o:=zero_ok hp n;refine ⟨fun u hu=>by rw [List.mem_singleton.mp hu];exact o,List.mem_singleton.mpr rfl,fun u hu v hv f=> ?_⟩;rw [List.mem_singleton.mp hu,List.mem_singleton.mp hv];refine List.mem_singleton.mpr (ext (put_ok hp o.1 o.1 f) o fun i x y hi hx hy=> ?_);rw [put_get o o (zero_get hi) (zero_get hi)] at hx
 rw [zero_get hi] at hy
 cases hx
 cases hy
 rw [Nat.mul_zero,Nat.add_zero,Nat.zero_mod]
theorem span_take{p n:Nat}(hq:p=2\/p=3\/p=5\/p=7){W:List Wd}(hW:∀w ∈ W,Ok p n w):Cl p n (spanM p n W)/\(spanM p n W).Nodup/\(spanT p n W).Nodup/\∀x,x ∈ spanM p n W↔x ∈ spanT p n W:=
 spans hq W _ _ hW (zero_cl (by omega) n) (List.pairwise_singleton _ _) (List.pairwise_singleton _ _) fun _=>Iff.rfl
theorem span_perm{p n:Nat}(hq:p=2\/p=3\/p=5\/p=7){W:List Wd}(hW:∀w ∈ W,Ok p n w):(spanM p n W).Perm (spanT p n W):=by
 obtain ⟨_,a,b,c⟩:=span_take hq hW;exact (List.perm_ext_iff_of_nodup a b).mpr c
def allW(p:Nat):Nat->List Wd
 | 0=> [[]]
 | n+1=>(allW p n).flatMap fun w=>(List.range p).map fun r=>r::w
theorem allW_len(p:Nat):∀n,(allW p n).length=p ^ n
 | 0=>rfl
 | n+1=>by
  have e:∀l:List Wd,(l.flatMap fun w=>(List.range p).map fun r=>r::w).length=l.length*p:=fun l=>by
   induction l with
   | nil=>simp
   | cons x l ih=>rw [List.flatMap_cons,List.length_append,ih,List.length_map,List.length_range,List.length_cons,Nat.succ_mul,Nat.add_comm]
  rw [allW,e,allW_len p n,Nat.pow_succ]
theorem allW_mem{p:Nat}:∀ {n:Nat} {w:Wd},Ok p n w->w ∈ allW p n
 | 0,w,h=>by
  have:w = []:=List.length_eq_zero_iff.mp h.1;rw [this]
  exact List.mem_singleton.mpr rfl
 | n+1,r::w,h=>by
  refine List.mem_flatMap.mpr ⟨w,allW_mem ⟨by simpa using h.1,fun x hx=>h.2 x (List.mem_cons_of_mem _ hx)⟩,List.mem_map.mpr ⟨r,List.mem_range.mpr (h.2 r List.mem_cons_self),rfl⟩⟩
 | n+1,[],h=>by cases h.1
theorem len_le{p n:Nat}{M:List Wd}(nd:M.Nodup)(ok:∀w ∈ M,Ok p n w):M.length<=p ^ n:=by
 rw [<-allW_len p n];exact List.Nodup.length_le_of_subset nd fun w hw=>allW_mem (ok w hw)
end Sp
namespace K23
noncomputable section
open PySem L2 Tf Dm
def top (i : Nat) : Stmt := PySem.Challenge.pw_trialfield_k23_hides.main.body.getD i (.Pass ⟨0, 0, 0, 0⟩)
structure Bl (mg:Str->Option Value):Prop where
 ValueError:mg "ValueError" = none
 all:mg "all" = none
 bool:mg "bool" = none
 e:mg "e" = none
 int:mg "int" = none
 isinstance:mg "isinstance" = none
 len:mg "len" = none
 list:mg "list" = none
 range:mg "range" = none
 sorted:mg "sorted" = none
 sum:mg "sum" = none
 tuple:mg "tuple" = none
 zip:mg "zip" = none
structure Xf (K:PySem.W.Frag) (mg:Str->Option Value) (c_TrialError c_NoEffect c_NoText c_NoRow c_NoThing c_NoFit:Addr):Prop where
 m_TrialError:mg "TrialError" = some (.ref c_TrialError)
 m_NoEffect:mg "NoEffect" = some (.ref c_NoEffect)
 m_NoText:mg "NoText" = some (.ref c_NoText)
 m_NoRow:mg "NoRow" = some (.ref c_NoRow)
 m_NoThing:mg "NoThing" = some (.ref c_NoThing)
 m_NoFit:mg "NoFit" = some (.ref c_NoFit)
 xc:XCls K c_NoEffect
 ex:PySem.W.excIn K c_NoEffect bmV "ValueError.__new__" = true
 em:PySem.W.exmOne K (.ref c_NoEffect) (.ref c_TrialError)=some true
 k_NoText:PySem.W.kitOne K (.ref c_NoEffect) (.ref c_NoText)=some false
 k_NoRow:PySem.W.kitOne K (.ref c_NoEffect) (.ref c_NoRow)=some false
 k_NoThing:PySem.W.kitOne K (.ref c_NoEffect) (.ref c_NoThing)=some false
 k_NoFit:PySem.W.kitOne K (.ref c_NoEffect) (.ref c_NoFit)=some false
 k_NoEffect:PySem.W.kitOne K (.ref c_NoEffect) (.ref c_NoEffect)=some true
 k_TrialError:PySem.W.kitOne K (.ref c_NoEffect) (.ref c_TrialError)=some true
 kb_ValueError:PySem.W.kitOne K (.ref c_NoEffect) (.type "ValueError")=some true
abbrev s_q13:Stmt:=top 8
theorem sc_q13:FnScope ["n"] ["n"] (defScope s_q13):=⟨rfl,rfl,rfl,by decide +kernel,rfl,by decide +kernel,by decide +kernel⟩
abbrev s_q11:Stmt:=top 9
theorem sc_q11:FnScope ["p","word","factor","other"] ["p","word","factor","other"] (defScope s_q11):=⟨rfl,rfl,rfl,by decide +kernel,rfl,by decide +kernel,by decide +kernel⟩
abbrev s_q12:Stmt:=top 10
theorem sc_q12:FnScope ["p","words","factors","other","made","factor"] ["p","words","factors","other"] (defScope s_q12):=⟨rfl,rfl,rfl,by decide +kernel,rfl,by decide +kernel,by decide +kernel⟩
abbrev s_q14:Stmt:=top 11
theorem sc_q14:FnScope ["p","n","words","members","word"] ["p","n","words"] (defScope s_q14):=⟨rfl,rfl,rfl,by decide +kernel,rfl,by decide +kernel,by decide +kernel⟩
abbrev s_q10:Stmt:=top 12
theorem sc_q10:FnScope ["p","words","effect","members"] ["p","words","effect"] (defScope s_q10):=⟨rfl,rfl,rfl,by decide +kernel,rfl,by decide +kernel,by decide +kernel⟩
abbrev s_q7:Stmt:=top 14
theorem sc_q7:FnScope ["_law_found"] ["_law_found"] (defScope s_q7):=⟨rfl,rfl,rfl,by decide +kernel,rfl,by decide +kernel,by decide +kernel⟩
abbrev s_q2:Stmt:=top 15
theorem sc_q2:FnScope ["_law_cell","_law_k","_law_one"] ["_law_cell","_law_k"] (defScope s_q2):=⟨rfl,rfl,rfl,by decide +kernel,rfl,by decide +kernel,by decide +kernel⟩
abbrev s_q5:Stmt:=top 16
theorem sc_q5:FnScope ["_law_cell","_law_p","_law_most"] ["_law_cell"] (defScope s_q5):=⟨rfl,rfl,rfl,by decide +kernel,rfl,by decide +kernel,by decide +kernel⟩
abbrev s_q8:Stmt:=top 17
theorem sc_q8:FnScope ["_law_cell","_law_k","_law_p","_law_n","_law_left","_law_j","_law_told","_law_number","_law_rest"] ["_law_cell","_law_k","_law_p","_law_n"] (defScope s_q8):=⟨rfl,rfl,rfl,by decide +kernel,rfl,by decide +kernel,by decide +kernel⟩
abbrev s_q9:Stmt:=top 18
theorem sc_q9:FnScope ["_law_cells","_law_p","_law_n","_law_told","_law_cell","_law_word_here","_law_last"] ["_law_cells","_law_p","_law_n"] (defScope s_q9):=⟨rfl,rfl,rfl,by decide +kernel,rfl,by decide +kernel,by decide +kernel⟩
abbrev s_q6:Stmt:=top 20
theorem sc_q6:FnScope ["_law_p","_law_n","_law_words_here","_law_told","_law_word_here","_law_more","_law_by","_law_one","_law_there"] ["_law_p","_law_n","_law_words_here"] (defScope s_q6):=⟨rfl,rfl,rfl,by decide +kernel,rfl,by decide +kernel,by decide +kernel⟩
abbrev s_q0:Stmt:=top 21
theorem sc_q0:FnScope ["_law_found","_law_due","_law_one"] ["_law_found","_law_due"] (defScope s_q0):=⟨rfl,rfl,rfl,by decide +kernel,rfl,by decide +kernel,by decide +kernel⟩
abbrev s_q1:Stmt:=top 22
theorem sc_q1:FnScope ["_law_cells","_law_at","_law_most","_law_head","_law_many","_law_words_here","_law_p","_law_n"] ["_law_cells","_law_at","_law_most"] (defScope s_q1):=⟨rfl,rfl,rfl,by decide +kernel,rfl,by decide +kernel,by decide +kernel⟩
abbrev s_q3:Stmt:=top 23
theorem sc_q3:FnScope ["_law_got"] ["_law_got"] (defScope s_q3):=⟨rfl,rfl,rfl,by decide +kernel,rfl,by decide +kernel,by decide +kernel⟩
abbrev s_q4:Stmt:=top 24
theorem sc_q4:FnScope ["_law_p","_law_n","_law_words_here","_law_effect","_law_some","_law_handed","_law_got","_law_found","_law_due","_law_by","e"] ["_law_p","_law_n","_law_words_here","_law_effect"] (defScope s_q4):=⟨rfl,rfl,rfl,by decide +kernel,rfl,by decide +kernel,by decide +kernel⟩
abbrev s_law:Stmt:=top 25
theorem sc_law:FnScope ["_law_script","_law_cells","_law_at","_law_head","_law_effect","_law_some","_law_p","_law_n","_law_words_here"] ["_law_script"] (defScope s_law):=⟨rfl,rfl,rfl,by decide +kernel,rfl,by decide +kernel,by decide +kernel⟩
section
variable {P:Program} {w:World} {K:PySem.W.Frag} {mg:Str->Option Value} {base:Heap} {f:Addr} {fd:FuncData} {c_TrialError:Addr} {c_NoEffect:Addr} {c_NoText:Addr} {c_NoRow:Addr} {c_NoThing:Addr} {c_NoFit:Addr}
def b_q13 : En -> Option Out :=
 (mRet (mBin dRepT (mTup (mCons (mK (.int 0)) mNil)) (mPk 0)))
def m_q13:List PyData->Option Sl:=runD 1 b_q13 1
theorem ok_q13 (B:Bl mg) (F:Fun K "nought_word" "nought_word" s_q13 f fd):FnOk P w K mg base CX0 1 f fd ["n"] (spD K m_q13):=by
 have sc:=sc_q13
 exact fnD F sc_q13 rfl rfl fun cdv A outer s H E hr=>
  (dss_one (ds_ret (de_mulT (DE.dp (de_tup (da_cons de_int da_nil))) (dp_var 0))))
def b_q11 : En -> Option Out :=
 (mRet (mCallP dTuple (mConsP (mLC (subE [some 2,some 0,none,none]) (mZipS (mCons (mVar 1) (mCons (mVar 3) mNil))) (gTupD [(gVar 2),(gVar 3)]) mYes (mBin dMod (mBin dAdd (mPk 2) (mBin dRep (mPk 0) (mPk 3))) (mPk 1))) mNilP)))
def m_q11:List PyData->Option Sl:=runD 4 b_q11 4
theorem ok_q11 (B:Bl mg) (F:Fun K "multiple_put_to" "multiple_put_to" s_q11 f fd):FnOk P w K mg base CX0 1 f fd ["p","word","factor","other"] (spD K m_q11):=by
 have sc:=sc_q11
 exact fnD F sc_q11 rfl rfl fun cdv A outer s H E hr=>
  (dss_one (ds_ret (de_ty call_tuple_of cd_tuple bt_tuple B.tuple (dq_cons (DE.dp (de_lc (N':= ["factor","p","one","two"]) (R':=PR K) cx_scope1 cx_names1 [some 2,some 0,none,none] (subE [some 2,some 0,none,none]) pr_sub (di_zipS B.zip (da_cons (de_var 1) (da_cons (de_var 3) da_nil))) (fun _=>(dgk_tup (dgks_cons (dgk_name 2 (show List.Nodup (α:=Str) ["factor","p","one","two"] by decide +kernel)) (dgks_cons (dgk_name 3 (show List.Nodup (α:=Str) ["factor","p","one","two"] by decide +kernel)) dgks_nil)))) (fun _=>dts_nil) (fun _=>(de_mod (DE.dp (de_add (dp_var 2) (DE.dp (de_mul (dp_var 0) (dp_var 3))))) (dp_var 1))))) dq_nil))))
def b_q12 : En -> Option Out :=
 (mSeq (mAsg 4 (mLst mNil))
 (mSeq (mFor (mItemsS (mVar 2)) (gVar 5) (mExt 4 (mLC (subE [some 0,some 5,some 3,none]) (mItemsS (mVar 1)) (gVar 3) mYes (mCall m_q11 (mCons (mVar 0) (mCons (mVar 3) (mCons (mVar 1) (mCons (mVar 2) mNil))))))))
 (mRet (mPk 4))))
def m_q12:List PyData->Option Sl:=runD 6 b_q12 4
theorem ok_q12 (B:Bl mg) (D_q11:Def P w K mg base 1 "multiple_put_to" ["p","word","factor","other"] (spD K m_q11)) (F:Fun K "multiples_put_to" "multiples_put_to" s_q12 f fd):FnOk P w K mg base CX0 2 f fd ["p","words","factors","other"] (spD K m_q12):=by
 have sc:=sc_q12
 exact fnD F sc_q12 rfl rfl fun cdv A outer s H E hr=>
  (dss_cons (ds_set 4 (de_lst da_nil) sc.nd)
  (dss_cons (ds_for PassesOwn.never (di_seq (de_var 2)) (dg_name 5 sc.nd) (dss_one (ds_ext 4 (de_lc (N':= ["p","factor","other","word"]) (R':=PR K) cx_scope1 cx_names1 [some 0,some 5,some 3,none] (subE [some 0,some 5,some 3,none]) pr_sub (di_seq (de_var 1)) (fun _=>(dgk_name 3 (show List.Nodup (α:=Str) ["p","factor","other","word"] by decide +kernel))) (fun _=>dts_nil) (fun _=>(de_call D_q11 hr (da_cons (de_var 0) (da_cons (de_var 3) (da_cons (de_var 1) (da_cons (de_var 2) da_nil))))))))))
  (dss_one (ds_retV 4))))
def b_q14 : En -> Option Out :=
 (mSeq (mAsg 3 (mLst (mCons (mCall m_q13 (mCons (mVar 1) mNil)) mNil)))
 (mSeq (mFor (mItemsS (mVar 2)) (gVar 4) (mIf (mTest (mBin (dInD true) (mPk 4) (mPk 3))) (mFrz 3 (mAsg 3 (mCall m_q12 (mCons (mVar 0) (mCons (mVar 3) (mCons (mLR (mPk 0)) (mCons (mVar 4) mNil))))))) mNext))
 (mRet (mCallP dSortT (mConsP (mPk 3) mNilP)))))
def m_q14:List PyData->Option Sl:=runD 5 b_q14 3
theorem ok_q14 (B:Bl mg) (D_q13:Def P w K mg base 1 "nought_word" ["n"] (spD K m_q13)) (D_q12:Def P w K mg base 2 "multiples_put_to" ["p","words","factors","other"] (spD K m_q12)) (F:Fun K "span" "span" s_q14 f fd):FnOk P w K mg base CX0 3 f fd ["p","n","words"] (spD K m_q14):=by
 have sc:=sc_q14
 exact fnD F sc_q14 rfl rfl fun cdv A outer s H E hr=>
  (dss_cons (ds_set 3 (de_lst (da_cons (de_call D_q13 hr (da_cons (de_var 1) da_nil)) da_nil)) sc.nd)
  (dss_cons (ds_for PassesOwn.never (di_seq (de_var 2)) (dg_name 4 sc.nd) (dss_one (ds_if (dt_notinD hr.units (dp_var 4) (dp_var 3)) (dss_one (ds_frz 3 (ds_set 3 (de_call D_q12 hr (da_cons (de_var 0) (da_cons (de_var 3) (da_cons (de_LR B.list B.range (dp_var 0)) (da_cons (de_var 4) da_nil))))) sc.nd))) dss_nil)))
  (dss_one (ds_ret (de_blt call_sortedT cd_sortT bt_sorted B.sorted (dq_cons (dp_var 3) dq_nil))))))
def b_q10 : En -> Option (Option Out) :=
 (mSqx (mLf (mAsg 3 (mCall m_q14 (mCons (mVar 0) (mCons (mCallP dLen (mConsP (mPk 2) mNilP)) (mCons (mVar 1) mNil))))))
 (mSqx (mIfx (mTest (mBin (dInD false) (mPk 2) (mPk 3))) (mRse 2) (mLf mNext))
 (mLf (mFrz 3 (mRet (mCallP dSortT (mConsP (mCall m_q12 (mCons (mVar 0) (mCons (mVar 3) (mCons (mLR2 (mK (.int 1)) (mPk 0)) (mCons (mVar 2) mNil))))) mNilP)))))))
def m_q10:List PyData->Option (Option Sl):=runX 4 b_q10 3
theorem ok_q10 (B:Bl mg) (D_q14:Def P w K mg base 3 "span" ["p","n","words"] (spD K m_q14)) (D_q12:Def P w K mg base 2 "multiples_put_to" ["p","words","factors","other"] (spD K m_q12)) (Y:Xf K mg c_TrialError c_NoEffect c_NoText c_NoRow c_NoThing c_NoFit) (F:Fun K "hides" "hides" s_q10 f fd):FnOk P w K mg base (CXe P w c_NoEffect) 4 f fd ["p","words","effect"] (spX K m_q10):=by
 have sc:=sc_q10
 exact fnX F sc_q10 rfl rfl fun cdv A outer s H E hr=>
  (dx_cons (ds_set 3 (de_call D_q14 hr (da_cons (de_var 0) (da_cons (de_blt call_len_seq cd_len bt_len B.len (dq_cons (dp_var 2) dq_nil)) (da_cons (de_var 1) da_nil)))) sc.nd)
  (dx_if (dt_inD hr.units (dp_var 2) (dp_var 3)) (dx_raise 2 hr Y.m_NoEffect Y.ex) (dx_of dss_nil)
  (dx_of (dss_one (ds_frz 3 (ds_ret (de_blt call_sortedT cd_sortT bt_sorted B.sorted (dq_cons (DE.dp (de_call D_q12 hr (da_cons (de_var 0) (da_cons (de_var 3) (da_cons (de_LR2 B.list B.range (DE.dp de_int) (dp_var 0)) (da_cons (de_var 2) da_nil)))))) dq_nil))))))))
def b_q7 : En -> Option Out :=
 (mRet (mAndV (mIsi "int" (mPk 0)) (mNotV (mIsi "bool" (mPk 0)))))
def m_q7:List PyData->Option Sl:=runD 1 b_q7 1
theorem ok_q7 (B:Bl mg) (F:Fun K "_law_whole" "_law_whole" s_q7 f fd):FnOk P w K mg base CX0 1 f fd ["_law_found"] (spD K m_q7):=by
 have sc:=sc_q7
 exact fnD F sc_q7 rfl rfl fun cdv A outer s H E hr=>
  (dss_one (ds_ret (de_and (de_isi bt_int B.int B.isinstance (dp_var 0)) (de_and1 (de_not (de_isi bt_bool B.bool B.isinstance (dp_var 0)))))))
def b_q2 : En -> Option Out :=
 (mSeq (mAsg 2 (mBin dMod (mBin dRep (mBin dAdd (mBin dAdd (mBin dMod (mPk 0) (mK (.int 2147483647))) (mBin dRep (mBin dRep (mK (.int 40503)) (mPk 1)) (mPk 1))) (mBin dRep (mK (.int 17)) (mPk 1))) (mK (.int 48271))) (mK (.int 2147483647))))
 (mRet (mBin dMod (mBin dRep (mPk 2) (mBin dAdd (mBin dAdd (mBin dMod (mPk 2) (mK (.int 65537))) (mBin dRep (mK (.int 3)) (mPk 1))) (mK (.int 1)))) (mK (.int 2147483629)))))
def m_q2:List PyData->Option Sl:=runD 3 b_q2 2
theorem ok_q2 (B:Bl mg) (F:Fun K "_law_mixed" "_law_mixed" s_q2 f fd):FnOk P w K mg base CX0 1 f fd ["_law_cell","_law_k"] (spD K m_q2):=by
 have sc:=sc_q2
 exact fnD F sc_q2 rfl rfl fun cdv A outer s H E hr=>
  (dss_cons (ds_set 2 (de_mod (DE.dp (de_mul (DE.dp (de_add (DE.dp (de_add (DE.dp (de_mod (dp_var 0) (DE.dp de_int))) (DE.dp (de_mul (DE.dp (de_mul (DE.dp de_int) (dp_var 1))) (dp_var 1))))) (DE.dp (de_mul (DE.dp de_int) (dp_var 1))))) (DE.dp de_int))) (DE.dp de_int)) sc.nd)
  (dss_one (ds_ret (de_mod (DE.dp (de_mul (dp_var 2) (DE.dp (de_add (DE.dp (de_add (DE.dp (de_mod (dp_var 2) (DE.dp de_int))) (DE.dp (de_mul (DE.dp de_int) (dp_var 1))))) (DE.dp de_int))))) (DE.dp de_int)))))
def b_q5 : En -> Option Out :=
 (mSeq (mAsg 1 (mBin dix (mLst (mCons (mK (.int 2)) (mCons (mK (.int 3)) (mCons (mK (.int 5)) (mCons (mK (.int 7)) (mCons (mK (.int 2)) (mCons (mK (.int 3)) (mCons (mK (.int 2)) mNil)))))))) (mBin dMod (mPk 0) (mK (.int 7)))))
 (mSeq (mAsg 2 (mBin dix (mLst (mCons (mK (.int 0)) (mCons (mK (.int 0)) (mCons (mK (.int 6)) (mCons (mK (.int 4)) (mCons (mK (.int 0)) (mCons (mK (.int 3)) (mCons (mK (.int 0)) (mCons (mK (.int 2)) mNil))))))))) (mPk 1)))
 (mFrz 1 (mRet (mTup (mCons (mVar 1) (mCons (mBin dAdd (mK (.int 1)) (mBin dMod (mBin dFdiv (mPk 0) (mK (.int 7))) (mPk 2))) mNil)))))))
def m_q5:List PyData->Option Sl:=runD 3 b_q5 1
theorem ok_q5 (B:Bl mg) (F:Fun K "_law_size" "_law_size" s_q5 f fd):FnOk P w K mg base CX0 1 f fd ["_law_cell"] (spD K m_q5):=by
 have sc:=sc_q5
 exact fnD F sc_q5 rfl rfl fun cdv A outer s H E hr=>
  (dss_cons (ds_set 1 (de_ix (DE.dp (de_lst (da_cons de_int (da_cons de_int (da_cons de_int (da_cons de_int (da_cons de_int (da_cons de_int (da_cons de_int da_nil))))))))) (DE.dp (de_mod (dp_var 0) (DE.dp de_int)))) sc.nd)
  (dss_cons (ds_set 2 (de_ix (DE.dp (de_lst (da_cons de_int (da_cons de_int (da_cons de_int (da_cons de_int (da_cons de_int (da_cons de_int (da_cons de_int (da_cons de_int da_nil)))))))))) (dp_var 1)) sc.nd)
  (dss_one (ds_frz 1 (ds_ret (de_tup (da_cons (de_var 1) (da_cons (de_add (DE.dp de_int) (DE.dp (de_mod (DE.dp (de_fdiv (dp_var 0) (DE.dp de_int))) (dp_var 2)))) da_nil))))))))
def b_q8 : En -> Option Out :=
 (mSeq (mAsg 4 (mBin dFdiv (mPk 0) (mK (.int 2))))
 (mSeq (mFor (mRng1 (mConsP (mBin dRep (mBin dMod (mPk 1) (mK (.int 10))) (mPk 3)) mNilP)) (gVar 5) (mAsg 4 (mBin dFdiv (mPk 4) (mPk 2))))
 (mSeq (mAsg 6 (mLst mNil))
 (mSeq (mFor (mRng1 (mConsP (mPk 3) mNilP)) (gVar 5) (mSeq (mAsg 7 (mCall m_q2 (mCons (mVar 0) (mCons (mBin dAdd (mBin dRep (mK (.int 10)) (mPk 1)) (mPk 5)) mNil))))
 (mSeq (mAsg 8 (mBin dRep (mBin dMod (mBin dFdiv (mPk 7) (mK (.int 2))) (mPk 2)) (mCallP dInt (mConsP (mBin dGt (mBin dAdd (mBin dMod (mPk 7) (mK (.int 2))) (mBin dMod (mBin dFdiv (mPk 0) (mK (.int 11))) (mK (.int 2)))) (mK (.int 0))) mNilP))))
 (mSeq (mIf (mTest (mBin deq (mBin dMod (mPk 0) (mK (.int 2))) (mK (.int 1)))) (mSeq (mAsg 8 (mBin dMod (mPk 4) (mPk 2)))
 (mAsg 4 (mBin dFdiv (mPk 4) (mPk 2)))) mNext)
 (mFrz 8 (mApp 6 (mVar 8)))))))
 (mRet (mCallP dTuple (mConsP (mPk 6) mNilP)))))))
def m_q8:List PyData->Option Sl:=runD 9 b_q8 4
theorem ok_q8 (B:Bl mg) (D_q2:Def P w K mg base 1 "_law_mixed" ["_law_cell","_law_k"] (spD K m_q2)) (F:Fun K "_law_word" "_law_word" s_q8 f fd):FnOk P w K mg base CX0 2 f fd ["_law_cell","_law_k","_law_p","_law_n"] (spD K m_q8):=by
 have sc:=sc_q8
 exact fnD F sc_q8 rfl rfl fun cdv A outer s H E hr=>
  (dss_cons (ds_set 4 (de_fdiv (dp_var 0) (DE.dp de_int)) sc.nd)
  (dss_cons (ds_for PassesOwn.never (di_range1 B.range (dq_cons (DE.dp (de_mul (DE.dp (de_mod (dp_var 1) (DE.dp de_int))) (dp_var 3))) dq_nil)) (dg_name 5 sc.nd) (dss_one (ds_set 4 (de_fdiv (dp_var 4) (dp_var 2)) sc.nd)))
  (dss_cons (ds_set 6 (de_lst da_nil) sc.nd)
  (dss_cons (ds_for PassesOwn.never (di_range1 B.range (dq_cons (dp_var 3) dq_nil)) (dg_name 5 sc.nd) (dss_cons (ds_set 7 (de_call D_q2 hr (da_cons (de_var 0) (da_cons (de_add (DE.dp (de_mul (DE.dp de_int) (dp_var 1))) (dp_var 5)) da_nil))) sc.nd)
  (dss_cons (ds_set 8 (de_mul (DE.dp (de_mod (DE.dp (de_fdiv (dp_var 7) (DE.dp de_int))) (dp_var 2))) (DE.dp (de_ty call_int1 cd_int bt_int B.int (dq_cons (DE.dp (de_gt (DE.dp (de_add (DE.dp (de_mod (dp_var 7) (DE.dp de_int))) (DE.dp (de_mod (DE.dp (de_fdiv (dp_var 0) (DE.dp de_int))) (DE.dp de_int))))) (DE.dp de_int))) dq_nil)))) sc.nd)
  (dss_cons (ds_if (dt_eq hr.units (DE.dp (de_mod (dp_var 0) (DE.dp de_int))) (DE.dp de_int)) (dss_cons (ds_set 8 (de_mod (dp_var 4) (dp_var 2)) sc.nd)
  (dss_one (ds_set 4 (de_fdiv (dp_var 4) (dp_var 2)) sc.nd))) dss_nil)
  (dss_one (ds_frz 8 (ds_app 6 (de_var 8))))))))
  (dss_one (ds_ret (de_ty call_tuple_of cd_tuple bt_tuple B.tuple (dq_cons (dp_var 6) dq_nil))))))))
def b_q9 : En -> Option Out :=
 (mSeq (mAsg 3 (mLst mNil))
 (mSeq (mFor (mItemsS (mVar 0)) (gVar 4) (mSeq (mAsg 5 (mCall m_q8 (mCons (mVar 4) (mCons (mK (.int 1)) (mCons (mVar 1) (mCons (mVar 2) mNil))))))
 (mSeq (mIf (mAnd (mTest (mBin deq (mBin dMod (mPk 4) (mK (.int 2))) (mK (.int 0)))) (mAnd (mTest (mBin dGt (mCallP dLen (mConsP (mPk 3) mNilP)) (mK (.int 0)))) (mTest (mBin deq (mBin dMod (mBin dFdiv (mPk 4) (mK (.int 5))) (mK (.int 4))) (mK (.int 0)))))) (mSeq (mAsg 6 (mBin dix (mPk 3) (mBin dSub (mCallP dLen (mConsP (mPk 3) mNilP)) (mK (.int 1)))))
 (mFrz 6 (mAsg 5 (mCallP dTuple (mConsP (mLC (subE [some 4,some 1,none,none]) (mZipS (mCons (mVar 6) (mCons (mBin dix (mPk 3) (mK (.int 0))) mNil))) (gTupD [(gVar 2),(gVar 3)]) mYes (mBin dMod (mBin dAdd (mBin dRep (mPk 2) (mBin dAdd (mK (.int 1)) (mBin dMod (mPk 0) (mPk 1)))) (mBin dRep (mPk 3) (mBin dMod (mBin dFdiv (mPk 0) (mK (.int 7))) (mK (.int 2))))) (mPk 1))) mNilP))))) mNext)
 (mFrz 5 (mApp 3 (mVar 5))))))
 (mRet (mPk 3))))
def m_q9:List PyData->Option Sl:=runD 7 b_q9 3
theorem ok_q9 (B:Bl mg) (D_q8:Def P w K mg base 2 "_law_word" ["_law_cell","_law_k","_law_p","_law_n"] (spD K m_q8)) (F:Fun K "_law_words" "_law_words" s_q9 f fd):FnOk P w K mg base CX0 3 f fd ["_law_cells","_law_p","_law_n"] (spD K m_q9):=by
 have sc:=sc_q9
 exact fnD F sc_q9 rfl rfl fun cdv A outer s H E hr=>
  (dss_cons (ds_set 3 (de_lst da_nil) sc.nd)
  (dss_cons (ds_for PassesOwn.never (di_seq (de_var 0)) (dg_name 4 sc.nd) (dss_cons (ds_set 5 (de_call D_q8 hr (da_cons (de_var 4) (da_cons de_int (da_cons (de_var 1) (da_cons (de_var 2) da_nil))))) sc.nd)
  (dss_cons (ds_if (dt_w (dw_and (dt_eq hr.units (DE.dp (de_mod (dp_var 4) (DE.dp de_int))) (DE.dp de_int)) (dw_and (dt_gt (DE.dp (de_blt call_len_seq cd_len bt_len B.len (dq_cons (dp_var 3) dq_nil))) (DE.dp de_int)) (dw_and1 (dt_eq hr.units (DE.dp (de_mod (DE.dp (de_fdiv (dp_var 4) (DE.dp de_int))) (DE.dp de_int))) (DE.dp de_int)))))) (dss_cons (ds_set 6 (de_ix (dp_var 3) (DE.dp (de_sub (DE.dp (de_blt call_len_seq cd_len bt_len B.len (dq_cons (dp_var 3) dq_nil))) (DE.dp de_int)))) sc.nd)
  (dss_one (ds_frz 6 (ds_set 5 (de_ty call_tuple_of cd_tuple bt_tuple B.tuple (dq_cons (DE.dp (de_lc (N':= ["_law_cell","_law_p","_law_x","_law_y"]) (R':=PR K) cx_scope1 cx_names1 [some 4,some 1,none,none] (subE [some 4,some 1,none,none]) pr_sub (di_zipS B.zip (da_cons (de_var 6) (da_cons (de_ix (dp_var 3) (DE.dp de_int)) da_nil))) (fun _=>(dgk_tup (dgks_cons (dgk_name 2 (show List.Nodup (α:=Str) ["_law_cell","_law_p","_law_x","_law_y"] by decide +kernel)) (dgks_cons (dgk_name 3 (show List.Nodup (α:=Str) ["_law_cell","_law_p","_law_x","_law_y"] by decide +kernel)) dgks_nil)))) (fun _=>dts_nil) (fun _=>(de_mod (DE.dp (de_add (DE.dp (de_mul (dp_var 2) (DE.dp (de_add (DE.dp de_int) (DE.dp (de_mod (dp_var 0) (dp_var 1))))))) (DE.dp (de_mul (dp_var 3) (DE.dp (de_mod (DE.dp (de_fdiv (dp_var 0) (DE.dp de_int))) (DE.dp de_int))))))) (dp_var 1))))) dq_nil)) sc.nd)))) dss_nil)
  (dss_one (ds_frz 5 (ds_app 3 (de_var 5)))))))
  (dss_one (ds_retV 3))))
def b_q6 : En -> Option Out :=
 (mSeq (mAsg 3 (mLst (mCons (mBin dRepT (mTup (mCons (mK (.int 0)) mNil)) (mPk 1)) mNil)))
 (mSeq (mFor (mItemsS (mVar 2)) (gVar 4) (mSeq (mAsg 5 (mCallP dList (mConsP (mPk 3) mNilP)))
 (mSeq (mFor (mRng2 (mConsP (mK (.int 1)) (mConsP (mPk 0) mNilP))) (gVar 6) (mFrz 3 (mFor (mItemsS (mVar 3)) (gVar 7) (mSeq (mAsg 8 (mCallP dTuple (mConsP (mLC (subE [some 6,some 0,none,none]) (mZipS (mCons (mVar 7) (mCons (mVar 4) mNil))) (gTupD [(gVar 2),(gVar 3)]) mYes (mBin dMod (mBin dAdd (mPk 2) (mBin dRep (mPk 0) (mPk 3))) (mPk 1))) mNilP)))
 (mIf (mTest (mBin (dInD true) (mPk 8) (mPk 5))) (mFrz 8 (mApp 5 (mVar 8))) mNext)))))
 (mFrz 5 (mAsg 3 (mVar 5))))))
 (mRet (mCallP dSortT (mConsP (mPk 3) mNilP)))))
def m_q6:List PyData->Option Sl:=runD 9 b_q6 3
theorem ok_q6 (B:Bl mg) (F:Fun K "_law_span" "_law_span" s_q6 f fd):FnOk P w K mg base CX0 1 f fd ["_law_p","_law_n","_law_words_here"] (spD K m_q6):=by
 have sc:=sc_q6
 exact fnD F sc_q6 rfl rfl fun cdv A outer s H E hr=>
  (dss_cons (ds_set 3 (de_lst (da_cons (de_mulT (DE.dp (de_tup (da_cons de_int da_nil))) (dp_var 1)) da_nil)) sc.nd)
  (dss_cons (ds_for PassesOwn.never (di_seq (de_var 2)) (dg_name 4 sc.nd) (dss_cons (ds_set 5 (de_ty call_list_of cd_list bt_list B.list (dq_cons (dp_var 3) dq_nil)) sc.nd)
  (dss_cons (ds_for PassesOwn.never (di_range2 B.range (dq_cons (DE.dp de_int) (dq_cons (dp_var 0) dq_nil))) (dg_name 6 sc.nd) (dss_one (ds_frz 3 (ds_for PassesOwn.never (di_seq (de_var 3)) (dg_name 7 sc.nd) (dss_cons (ds_set 8 (de_ty call_tuple_of cd_tuple bt_tuple B.tuple (dq_cons (DE.dp (de_lc (N':= ["_law_by","_law_p","_law_x","_law_y"]) (R':=PR K) cx_scope1 cx_names1 [some 6,some 0,none,none] (subE [some 6,some 0,none,none]) pr_sub (di_zipS B.zip (da_cons (de_var 7) (da_cons (de_var 4) da_nil))) (fun _=>(dgk_tup (dgks_cons (dgk_name 2 (show List.Nodup (α:=Str) ["_law_by","_law_p","_law_x","_law_y"] by decide +kernel)) (dgks_cons (dgk_name 3 (show List.Nodup (α:=Str) ["_law_by","_law_p","_law_x","_law_y"] by decide +kernel)) dgks_nil)))) (fun _=>dts_nil) (fun _=>(de_mod (DE.dp (de_add (dp_var 2) (DE.dp (de_mul (dp_var 0) (dp_var 3))))) (dp_var 1))))) dq_nil)) sc.nd)
  (dss_one (ds_if (dt_notinD hr.units (dp_var 8) (dp_var 5)) (dss_one (ds_frz 8 (ds_app 5 (de_var 8)))) dss_nil)))))))
  (dss_one (ds_frz 5 (ds_set 3 (de_var 5) sc.nd))))))
  (dss_one (ds_ret (de_blt call_sortedT cd_sortT bt_sorted B.sorted (dq_cons (dp_var 3) dq_nil))))))
def b_q0 : En -> Option Out :=
 (mSeq (mIf (mOr (mNot (mTest (mIsi "list" (mPk 0)))) (mTest (mBin dne (mCallP dLen (mConsP (mPk 0) mNilP)) (mCallP dLen (mConsP (mPk 1) mNilP))))) (mRet (mK (.bool false))) mNext)
 (mSeq (mFor (mItemsS (mVar 0)) (gVar 2) (mIf (mOr (mNot (mTest (mIsi "tuple" (mPk 2)))) (mNot (mTest (mCallP dAll (mConsP (mLC (subE [none]) (mItemsS (mVar 2)) (gVar 0) mYes (mCall m_q7 (mCons (mVar 0) mNil))) mNilP))))) (mRet (mK (.bool false))) mNext))
 (mRet (mBin deq (mPk 0) (mPk 1)))))
def m_q0:List PyData->Option Sl:=runD 3 b_q0 2
theorem ok_q0 (B:Bl mg) (D_q7:Def P w K mg base 1 "_law_whole" ["_law_found"] (spD K m_q7)) (F:Fun K "_law_is_lines" "_law_is_lines" s_q0 f fd):FnOk P w K mg base CX0 2 f fd ["_law_found","_law_due"] (spD K m_q0):=by
 have sc:=sc_q0
 exact fnD F sc_q0 rfl rfl fun cdv A outer s H E hr=>
  (dss_cons (ds_if (dt_w (dw_or (dt_not (dt_val (DE.dp (de_isi bt_list B.list B.isinstance (dp_var 0))))) (dw_or1 (dt_ne hr.units (DE.dp (de_blt call_len_seq cd_len bt_len B.len (dq_cons (dp_var 0) dq_nil))) (DE.dp (de_blt call_len_seq cd_len bt_len B.len (dq_cons (dp_var 1) dq_nil))))))) (dss_one (ds_ret de_bool)) dss_nil)
  (dss_cons (ds_for PassesOwn.never (di_seq (de_var 0)) (dg_name 2 sc.nd) (dss_one (ds_if (dt_w (dw_or (dt_not (dt_val (DE.dp (de_isi bt_tuple B.tuple B.isinstance (dp_var 2))))) (dw_or1 (dt_not (dt_val (DE.dp (de_blt (call_all rfl) cd_all bt_all B.all (dq_cons (DE.dp (de_lc (N':= ["_law_number"]) (R':=PR K) cx_scope1 cx_names1 [none] (subE [none]) pr_sub (di_seq (de_var 2)) (fun _=>(dgk_name 0 (show List.Nodup (α:=Str) ["_law_number"] by decide +kernel))) (fun _=>dts_nil) (fun _=>(de_call D_q7 hr (da_cons (de_var 0) da_nil))))) dq_nil)))))))) (dss_one (ds_ret de_bool)) dss_nil)))
  (dss_one (ds_ret (de_eq hr.units (dp_var 0) (dp_var 1))))))
def b_q1 : En -> Option Out :=
 (mSeq (mAsg 3 (mBin dix (mPk 0) (mPk 1)))
 (mSeq (mFrz 3 (mAsgT (gTupD [(gVar 6),(gVar 7)]) (mCall m_q5 (mCons (mVar 3) mNil))))
 (mSeq (mAsg 4 (mBin dMod (mBin dFdiv (mPk 3) (mK (.int 42))) (mBin dAdd (mPk 2) (mK (.int 1)))))
 (mSeq (mAsg 5 (mCall m_q9 (mCons (mSl (mPk 0) (mPart (mBin dAdd (mPk 1) (mK (.int 1)))) (mPart (mBin dAdd (mBin dAdd (mPk 1) (mK (.int 1))) (mPk 4)))) (mCons (mVar 6) (mCons (mVar 7) mNil)))))
 (mFrz 5 (mRet (mTup (mCons (mVar 6) (mCons (mVar 7) (mCons (mVar 5) (mCons (mBin dAdd (mBin dAdd (mPk 1) (mK (.int 1))) (mPk 4)) mNil)))))))))))
def m_q1:List PyData->Option Sl:=runD 8 b_q1 3
theorem ok_q1 (B:Bl mg) (D_q5:Def P w K mg base 1 "_law_size" ["_law_cell"] (spD K m_q5)) (D_q9:Def P w K mg base 3 "_law_words" ["_law_cells","_law_p","_law_n"] (spD K m_q9)) (F:Fun K "_law_made" "_law_made" s_q1 f fd):FnOk P w K mg base CX0 4 f fd ["_law_cells","_law_at","_law_most"] (spD K m_q1):=by
 have sc:=sc_q1
 exact fnD F sc_q1 rfl rfl fun cdv A outer s H E hr=>
  (dss_cons (ds_set 3 (de_ix (dp_var 0) (dp_var 1)) sc.nd)
  (dss_cons (ds_frz 3 (ds_asgT (de_call D_q5 hr (da_cons (de_var 3) da_nil)) (dg_tup (dgs_cons (dg_name 6 sc.nd) (dgs_cons (dg_name 7 sc.nd) dgs_nil)))))
  (dss_cons (ds_set 4 (de_mod (DE.dp (de_fdiv (dp_var 3) (DE.dp de_int))) (DE.dp (de_add (dp_var 2) (DE.dp de_int)))) sc.nd)
  (dss_cons (ds_set 5 (de_call D_q9 hr (da_cons (de_sl (dp_var 0) (do_some (DE.dp (de_add (dp_var 1) (DE.dp de_int)))) (do_some (DE.dp (de_add (DE.dp (de_add (dp_var 1) (DE.dp de_int))) (dp_var 4))))) (da_cons (de_var 6) (da_cons (de_var 7) da_nil)))) sc.nd)
  (dss_one (ds_frz 5 (ds_ret (de_tup (da_cons (de_var 6) (da_cons (de_var 7) (da_cons (de_var 5) (da_cons (de_add (DE.dp (de_add (dp_var 1) (DE.dp de_int))) (dp_var 4)) da_nil))))))))))))
def b_q3 : En -> Option Out :=
 (mSeq (mIf (mTest (mXi 0 false)) (mRet (mK (.bool false))) mNext)
 (mSeq (mIf (mTest (mXi 0 false)) (mRet (mK (.bool false))) mNext)
 (mSeq (mIf (mTest (mXi 0 false)) (mRet (mK (.bool false))) mNext)
 (mSeq (mIf (mTest (mXi 0 false)) (mRet (mK (.bool false))) mNext)
 (mRet (mAndV (mXi 0 true) (mAndV (mXi 0 true) (mXi 0 true))))))))
theorem ok_q3 (B:Bl mg) (Y:Xf K mg c_TrialError c_NoEffect c_NoText c_NoRow c_NoThing c_NoFit) (F:Fun K "_law_refusal" "_law_refusal" s_q3 f fd):FnOk P w K mg base CX0 1 f fd ["_law_got"] (spRef c_NoEffect):=by
 have sc:=sc_q3
 exact fnRef (g:=b_q3) F sc_q3 rfl fun cdv A outer s H E hr=>
  (dss_cons (ds_if (dt_val (DE.dp (de_xi 0 Y.xc B.isinstance Y.m_NoText Y.k_NoText))) (dss_one (ds_ret de_bool)) dss_nil)
  (dss_cons (ds_if (dt_val (DE.dp (de_xi 0 Y.xc B.isinstance Y.m_NoRow Y.k_NoRow))) (dss_one (ds_ret de_bool)) dss_nil)
  (dss_cons (ds_if (dt_val (DE.dp (de_xi 0 Y.xc B.isinstance Y.m_NoThing Y.k_NoThing))) (dss_one (ds_ret de_bool)) dss_nil)
  (dss_cons (ds_if (dt_val (DE.dp (de_xi 0 Y.xc B.isinstance Y.m_NoFit Y.k_NoFit))) (dss_one (ds_ret de_bool)) dss_nil)
  (dss_one (ds_ret (de_and (de_xi 0 Y.xc B.isinstance Y.m_NoEffect Y.k_NoEffect) (de_and (de_xi 0 Y.xc B.isinstance Y.m_TrialError Y.k_TrialError) (de_and1 (de_xb 0 Y.xc B.isinstance B.ValueError rfl Y.kb_ValueError))))))))))
def b_q4 : En -> Option Out :=
 (mSeq (mAsg 4 (mCall m_q6 (mCons (mVar 0) (mCons (mVar 1) (mCons (mVar 2) mNil)))))
 (mSeq (mAsg 5 (mCallP dList (mConsP (mPk 2) mNilP)))
 (mSeq (mXN 6)
 (mSeq (mAsg 7 (mK .none))
 (mSeq (mFrz 5 (mTry 7 6 10 m_q10 (mCons (mVar 0) (mCons (mVar 5) (mCons (mVar 3) mNil)))))
 (mSeq (mIf (mTest (mBin dne (mPk 5) (mPk 2))) (mRet (mK (.bool false))) mNext)
 (mSeq (mIf (mTest (mBin (dInD false) (mPk 3) (mPk 4))) (mRet (mXref 6)) mNext)
 (mSeq (mAsg 8 (mLst mNil))
 (mSeq (mFor (mRng2 (mConsP (mK (.int 1)) (mConsP (mPk 0) mNilP))) (gVar 9) (mFrz 4 (mAsg 8 (mBin dAdd (mPk 8) (mLC (subE [some 3,some 9,some 0,none]) (mItemsS (mVar 4)) (gVar 3) mYes (mCallP dTuple (mConsP (mLC (subE [some 1,some 2,none,none]) (mZipS (mCons (mVar 3) (mCons (mVar 0) mNil))) (gTupD [(gVar 2),(gVar 3)]) mYes (mBin dMod (mBin dAdd (mPk 2) (mBin dRep (mPk 0) (mPk 3))) (mPk 1))) mNilP)))))))
 (mFrz 7 (mRet (mAndV (mXis 6) (mCall m_q0 (mCons (mVar 7) (mCons (mCallP dSortT (mConsP (mPk 8) mNilP)) mNil)))))))))))))))
def m_q4:List PyData->Option Sl:=runD 11 b_q4 4
theorem ok_q4 (B:Bl mg) (D_q6:Def P w K mg base 1 "_law_span" ["_law_p","_law_n","_law_words_here"] (spD K m_q6)) (D_q10:DefX P w K mg base c_NoEffect 4 "hides" ["p","words","effect"] (spX K m_q10)) (D_q3:Def P w K mg base 1 "_law_refusal" ["_law_got"] (spRef c_NoEffect)) (D_q0:Def P w K mg base 2 "_law_is_lines" ["_law_found","_law_due"] (spD K m_q0)) (Y:Xf K mg c_TrialError c_NoEffect c_NoText c_NoRow c_NoThing c_NoFit) (F:Fun K "_law_right" "_law_right" s_q4 f fd):FnOk P w K mg base CX0 5 f fd ["_law_p","_law_n","_law_words_here","_law_effect"] (spD K m_q4):=by
 have sc:=sc_q4
 exact fnDX (C:=c_NoEffect) 6 F sc_q4 rfl rfl fun cdv A outer s H E hr=>
  (dss_cons (ds_set 4 (de_call D_q6 hr (da_cons (de_var 0) (da_cons (de_var 1) (da_cons (de_var 2) da_nil)))) sc.nd)
  (dss_cons (ds_set 5 (de_ty call_list_of cd_list bt_list B.list (dq_cons (dp_var 2) dq_nil)) sc.nd)
  (dss_cons (ds_xn 6 sc.nd)
  (dss_cons (ds_set 7 de_none sc.nd)
  (dss_cons (ds_frz 5 (ds_try 7 6 10 D_q10 hr (da_cons (de_var 0) (da_cons (de_var 5) (da_cons (de_var 3) da_nil))) Y.m_TrialError Y.em sc.nd))
  (dss_cons (ds_if (dt_ne hr.units (dp_var 5) (dp_var 2)) (dss_one (ds_ret de_bool)) dss_nil)
  (dss_cons (ds_if (dt_inD hr.units (dp_var 3) (dp_var 4)) (dss_one (ds_ret (de_xref 6 D_q3 hr))) dss_nil)
  (dss_cons (ds_set 8 (de_lst da_nil) sc.nd)
  (dss_cons (ds_for PassesOwn.never (di_range2 B.range (dq_cons (DE.dp de_int) (dq_cons (dp_var 0) dq_nil))) (dg_name 9 sc.nd) (dss_one (ds_frz 4 (ds_set 8 (de_add (dp_var 8) (DE.dp (de_lc (N':= ["_law_effect","_law_by","_law_p","_law_one"]) (R':=PR K) cx_scope1 cx_names1 [some 3,some 9,some 0,none] (subE [some 3,some 9,some 0,none]) pinX_sub (di_seq (de_var 4)) (fun _=>(dgk_name 3 (show List.Nodup (α:=Str) ["_law_effect","_law_by","_law_p","_law_one"] by decide +kernel))) (fun _=>dts_nil) (fun _=>(de_ty call_tuple_of cd_tuple bt_tuple B.tuple (dq_cons (DE.dp (de_lc (N':= ["_law_by","_law_p","_law_x","_law_y"]) (R':=PR K) cxC_scope cxC_names [some 1,some 2,none,none] (subE [some 1,some 2,none,none]) pr_sub (di_zipS B.zip (da_cons (de_var 3) (da_cons (de_var 0) da_nil))) (fun _=>(dgk_tup (dgks_cons (dgk_name 2 (show List.Nodup (α:=Str) ["_law_by","_law_p","_law_x","_law_y"] by decide +kernel)) (dgks_cons (dgk_name 3 (show List.Nodup (α:=Str) ["_law_by","_law_p","_law_x","_law_y"] by decide +kernel)) dgks_nil)))) (fun _=>dts_nil) (fun _=>(de_mod (DE.dp (de_add (dp_var 2) (DE.dp (de_mul (dp_var 0) (dp_var 3))))) (dp_var 1))))) dq_nil)))))) sc.nd))))
  (dss_one (ds_frz 7 (ds_ret (de_and (de_xis 6) (de_and1 (de_call D_q0 hr (da_cons (de_var 7) (da_cons (de_blt call_sortedT cd_sortT bt_sorted B.sorted (dq_cons (dp_var 8) dq_nil)) da_nil)))))))))))))))))
def b_law : En -> Option Out :=
 (mSeq (mAsg 1 (mBin dAdd (mSl (mPk 0) mNoPart (mPart (mK (.int 63)))) (mLst (mCons (mK (.int 0)) mNil))))
 (mSeq (mAsg 2 (mK (.int 0)))
 (mSeq (mWhile (mTest (mBin dLt (mPk 2) (mCallP dLen (mConsP (mPk 1) mNilP)))) (mSeq (mAsg 3 (mBin dix (mPk 1) (mPk 2)))
 (mSeq (mFrz 1 (mAsgT (gTupD [(gVar 6),(gVar 7),(gVar 8),(gVar 2)]) (mCall m_q1 (mCons (mVar 1) (mCons (mVar 2) (mCons (mK (.int 3)) mNil))))))
 (mSeq (mFrz 3 (mAsg 4 (mCall m_q8 (mCons (mVar 3) (mCons (mK (.int 7)) (mCons (mVar 6) (mCons (mVar 7) mNil)))))))
 (mSeq (mAsg 5 (mCall m_q6 (mCons (mVar 6) (mCons (mVar 7) (mCons (mVar 8) mNil)))))
 (mSeq (mIf (mTest (mBin deq (mBin dMod (mBin dFdiv (mPk 3) (mK (.int 5))) (mK (.int 4))) (mK (.int 1)))) (mAsg 4 (mBin dix (mPk 5) (mBin dMod (mBin dFdiv (mPk 3) (mK (.int 20))) (mCallP dLen (mConsP (mPk 5) mNilP))))) mNext)
 (mSeq (mIf (mTest (mBin deq (mBin dMod (mBin dFdiv (mPk 3) (mK (.int 5))) (mK (.int 8))) (mK (.int 2)))) (mAsg 4 (mBin dRepT (mTup (mCons (mK (.int 0)) mNil)) (mPk 7))) mNext)
 (mFrz 4 (mIf (mNot (mTest (mCall m_q4 (mCons (mVar 6) (mCons (mVar 7) (mCons (mVar 8) (mCons (mVar 4) mNil))))))) (mRet (mK (.bool false))) mNext)))))))))
 (mRet (mK (.bool true))))))
def m_law:List PyData->Option Sl:=runD 9 b_law 1
theorem ok_law (B:Bl mg) (D_q1:Def P w K mg base 4 "_law_made" ["_law_cells","_law_at","_law_most"] (spD K m_q1)) (D_q8:Def P w K mg base 2 "_law_word" ["_law_cell","_law_k","_law_p","_law_n"] (spD K m_q8)) (D_q6:Def P w K mg base 1 "_law_span" ["_law_p","_law_n","_law_words_here"] (spD K m_q6)) (D_q4:Def P w K mg base 5 "_law_right" ["_law_p","_law_n","_law_words_here","_law_effect"] (spD K m_q4)) (F:Fun K "law" "law" s_law f fd):FnOk P w K mg base CX0 6 f fd ["_law_script"] (spD K m_law):=by
 have sc:=sc_law
 exact fnD F sc_law rfl rfl fun cdv A outer s H E hr=>
  (dss_cons (ds_set 1 (de_add (DE.dp (de_sl (dp_var 0) do_none (do_some (DE.dp de_int)))) (DE.dp (de_lst (da_cons de_int da_nil)))) sc.nd)
  (dss_cons (ds_set 2 de_int sc.nd)
  (dss_cons (ds_while PassesOwn.never (dt_lt (dp_var 2) (DE.dp (de_blt call_len_seq cd_len bt_len B.len (dq_cons (dp_var 1) dq_nil)))) (dss_cons (ds_set 3 (de_ix (dp_var 1) (dp_var 2)) sc.nd)
  (dss_cons (ds_frz 1 (ds_asgT (de_call D_q1 hr (da_cons (de_var 1) (da_cons (de_var 2) (da_cons de_int da_nil)))) (dg_tup (dgs_cons (dg_name 6 sc.nd) (dgs_cons (dg_name 7 sc.nd) (dgs_cons (dg_name 8 sc.nd) (dgs_cons (dg_name 2 sc.nd) dgs_nil)))))))
  (dss_cons (ds_frz 3 (ds_set 4 (de_call D_q8 hr (da_cons (de_var 3) (da_cons de_int (da_cons (de_var 6) (da_cons (de_var 7) da_nil))))) sc.nd))
  (dss_cons (ds_set 5 (de_call D_q6 hr (da_cons (de_var 6) (da_cons (de_var 7) (da_cons (de_var 8) da_nil)))) sc.nd)
  (dss_cons (ds_if (dt_eq hr.units (DE.dp (de_mod (DE.dp (de_fdiv (dp_var 3) (DE.dp de_int))) (DE.dp de_int))) (DE.dp de_int)) (dss_one (ds_set 4 (de_ix (dp_var 5) (DE.dp (de_mod (DE.dp (de_fdiv (dp_var 3) (DE.dp de_int))) (DE.dp (de_blt call_len_seq cd_len bt_len B.len (dq_cons (dp_var 5) dq_nil)))))) sc.nd)) dss_nil)
  (dss_cons (ds_if (dt_eq hr.units (DE.dp (de_mod (DE.dp (de_fdiv (dp_var 3) (DE.dp de_int))) (DE.dp de_int))) (DE.dp de_int)) (dss_one (ds_set 4 (de_mulT (DE.dp (de_tup (da_cons de_int da_nil))) (dp_var 7)) sc.nd)) dss_nil)
  (dss_one (ds_frz 4 (ds_if (dt_not (dt_val (DE.dp (de_call D_q4 hr (da_cons (de_var 6) (da_cons (de_var 7) (da_cons (de_var 8) (da_cons (de_var 4) da_nil)))))))) (dss_one (ds_ret de_bool)) dss_nil))))))))))
  (dss_one (ds_ret de_bool)))))
end
local macro_rules | `(tactic| walk_at "ev") => `(tactic| simp only [mSeq, mIf, mTest, mBin, mUn, mK, mPk, mVar, mAsg, mRet, mRetN, mCall, mCons, mNil, mCallP, mConsP, mNilP, mTup, mLst, mOr, mAnd, mNot, mNotV, mAndV, mOrV, mIfE, mNext, mBrk, mCt, mDrop, mApp, mSet, mFrz, frz1, mPar, mAsgT, gVar, gTupD, gsAll, mItems, mItemsT, mSl, mPart, mNoPart, mDat, Sl.dat, mYes, mIsi, tyD, isiD, iop, icmp, iun, dAddI, dSub, dAdd, dLt, dLe, dGt, dGe, deq, dne, disN, disNN, isNone, dix, dLen, dAbs, dList, dTuple, dInt, dSl, Option.bind_some, Option.map_some, Option.join_some, Option.some.injEq, List.getElem?_cons_zero, List.getElem?_cons_succ, List.set_cons_zero, List.set_cons_succ, List.length_cons, List.length_nil, eqD_int, List.cons_append, List.nil_append, List.append_nil, List.map_cons, List.map_nil, if_true, if_false, Bool.false_eq_true, reduceIte, reduceCtorEq, Bool.not_true, Bool.not_false, decide_true, decide_false])
theorem bin_eq{op:Sl->Sl->Option Sl}{fa fb:En->Option Sl}{ρ:En}{a b:Sl}(ha:fa ρ=some a)(hb:fb ρ=some b):mBin op fa fb ρ=op a b:=by
 unfold mBin;rw [ha];show Option.bind (fb ρ) _=_;rw [hb];rfl
theorem test_eq{f:En->Option Sl}{ρ:En}{b:Bool}(h:f ρ=some (.val (.bool b))):mTest f ρ=some b:=by
 unfold mTest;rw [h];rfl
theorem deq_int(i j:Int):deq (.val (.int i)) (.val (.int j))=some (.val (.bool (decide (i=j)))):=by
 show (eqD (.int i) (.int j)).map _=_;rw [eqD_int];rfl
theorem app_to{i:Nat}{f:En->Option Sl}{ρ:En}{r:Sl}{ds:List PyData}(h:f ρ=some r)(ho:(ρ[i]?).join=some (.own ds))(hl:ds.length<sizeLine):mApp i f ρ=some (.nx (ρ.set i (some (.own (ds ++ [r.dat]))))):=by
 unfold mApp;rw [ho];show Option.bind (f ρ) _=_;rw [h];show (if ds.length<sizeLine then _ else _)=_;rw [if_pos hl]
theorem callP_to{F:List Sl->Option Sl}{f:En->Option (List Sl)}{ρ:En}{ss:List Sl}{r:Sl}(h:f ρ=some ss)(k:F ss=some r):mCallP F f ρ=some r:=by
 unfold mCallP;rw [h];exact k
theorem cons_to{f:En->Option Sl}{g:En->Option (List PyData)}{ρ:En}{a:Sl}{as:List PyData}(h:f ρ=some a)(k:g ρ=some as):mCons f g ρ=some (a.dat::as):=by
 unfold mCons;rw [h];show Option.bind (g ρ) _=_;rw [k];rfl
theorem consP_to{f:En->Option Sl}{g:En->Option (List Sl)}{ρ:En}{a:Sl}{as:List Sl}(h:f ρ=some a)(k:g ρ=some as):mConsP f g ρ=some (a::as):=by
 unfold mConsP;rw [h];show Option.bind (g ρ) _=_;rw [k];rfl
theorem sl1000:1000<sizeLine:=by decide
theorem lst1{f:En->Option Sl}{ρ:En}{a:Sl}(h:f ρ=some a):mLst (mCons f mNil) ρ=some (.own [a.dat]):=by
 unfold mLst;rw [cons_to h (show mNil ρ=some [] from rfl)];exact if_pos (e:=none) (show 1<=sizeLine by decide)
theorem add_own{a b:Sl}{xs ys:List PyData}(ha:a.dat = .list xs)(hb:b.dat = .list ys)(h:xs.length+ys.length<=sizeLine):dAdd a b=some (.own (xs++ys)):=by
 unfold dAdd;rw [ha,hb];exact if_pos (h)
theorem el_to{fg:PyData->En->Option En}{fe:En->Option Sl}{ρ0 ρ1:En}{d:PyData}{r:Sl}(h1:fg d ρ0=some ρ1)(h2:fe ρ1=some r):elM fg mYes fe ρ0 d=some (some r.dat):=by
 unfold elM;rw [h1];simp only [Option.bind_some,mYes,if_true,h2,Option.map_some]
def cellsOf(ns:List Int):List Int:=ns.take 63 ++ [0]
theorem cells_len(ns:List Int):(cellsOf ns).length<=64:=by simp [cellsOf];omega
theorem run_cells{ns:List Int}{ρ:En}{n:Nat}(h:(ρ[0]?).join=some (.val (.list (ns.map .int)))):(mBin dAdd (mSl (mPk 0) mNoPart (mPart (mK (.int 63)))) (mLst (mCons (mK (.int 0)) mNil))) ρ=some (.own (il (cellsOf ns))):=by
 have c1:(mSl (mPk 0) mNoPart (mPart (mK (.int 63)))) ρ=some (.own (il (ns.take 63))):=by
  have e:cutD (ns.map PyData.int) none (some ((63:Nat):Int))=il (ns.take 63):=by
   unfold cutD il;rw [HT.sIx_none,HT.sIx_nat,List.length_map,List.drop_zero,Nat.sub_zero, <-List.map_take];congr 1
   by_cases h:63<=ns.length
   . rw [Nat.min_eq_left h]
   . rw [Nat.min_eq_right (by omega),List.take_of_length_le (Nat.le_refl _),List.take_of_length_le (by omega)]
  rw [<-e];unfold mSl mPk;rw [h];rfl
 refine (bin_eq (op:=dAdd) c1 (lst1 (a:= .val (.int 0)) rfl)).trans ?_;refine (add_own (xs:=il (ns.take 63)) (ys:= [.int 0]) rfl rfl ?_).trans ?_
 . rw [il_len,List.length_take];have:=sl1000;simp;omega
 . rw [cellsOf,il_app];rfl
theorem bt_k{j:Int}(h0:0<j)(h:j<=1000):Bt 9000 j:=by
 unfold Bt;have:2 ^ 10<=2 ^ 9000:=Nat.pow_le_pow_right (by decide) (by decide);have e:(2:Nat) ^ 10=1024:=by decide
 rw [e] at this
 refine Nat.lt_of_lt_of_le ?_ this;omega
theorem div_k{i j:Int}(h0:0<j)(h:j<=1000):dFdiv (.val (.int i)) (.val (.int j))=some (.val (.int (i.fdiv j))):=divS ⟨by omega,bt_k h0 h⟩
theorem andV_to{f g:En->Option Sl}{ρ:En}{r:Sl}(h:f ρ=some (.val (.bool true)))(k:g ρ=some r):mAndV f g ρ=some r:=by
 unfold mAndV;rw [test_eq h];exact k
theorem frz_eq{i:Nat}{g:En->Option Out}{ρ:En}:mFrz i g ρ=g (frz1 i ρ):=rfl
theorem tup2{f g:En->Option Sl}{ρ:En}{a b:Sl}(h1:f ρ=some a)(h2:g ρ=some b):mTup (mCons f (mCons g mNil)) ρ=some (.val (.tuple [a.dat,b.dat])):=by
 unfold mTup;rw [cons_to h1 (cons_to h2 (show mNil ρ=some [] from rfl))];exact if_pos (e:=none) (show 2<=sizeLine by decide)
theorem tup1{f:En->Option Sl}{ρ:En}{a:Sl}(h1:f ρ=some a):mTup (mCons f mNil) ρ=some (.val (.tuple [a.dat])):=by
 unfold mTup;rw [cons_to h1 (show mNil ρ=some [] from rfl)];exact if_pos (e:=none) (show 1<=sizeLine by decide)
theorem asgT_to{fg:PyData->En->Option En}{f:En->Option Sl}{ρ ρ':En}{r:Sl}(h:f ρ=some r)(k:fg r.dat ρ=some ρ'):mAsgT fg f ρ=some (.nx ρ'):=by
 unfold mAsgT;rw [h,Option.bind_some,k];rfl
theorem cmL{i j:Int}(h1 : -(2 ^ 64)<i)(h2:i<2 ^ 64):CMulA i j:= .inl (.inl ⟨h1,h2⟩)
theorem cmR{i j:Int}(h1 : -(2 ^ 64)<j)(h2:j<2 ^ 64):CMulA i j:= .inl (.inr ⟨h1,h2⟩)
theorem run_mixed(c:Int){k:Int}(h0:0<=k)(h1:k<1000000):∃v,m_q2 [.int c, .int k]=some (.val (.int v))/\0<=v:=by
 let o1:=((c.fmod 2147483647+40503*k*k+17*k)*48271).fmod 2147483647
 refine ⟨(o1*(o1.fmod 65537+3*k+1)).fmod 2147483629,run_wp (ρ:= [some (.val (.int c)),some (.val (.int k)),none]) rfl rfl ?_,Int.fmod_nonneg_of_pos _ (by decide)⟩;unfold b_q2;have a1:=Int.fmod_nonneg_of_pos ((c.fmod 2147483647+40503*k*k+17*k)*48271) (show (0:Int)<2147483647 by decide);have a2:=Int.fmod_lt_of_pos ((c.fmod 2147483647+40503*k*k+17*k)*48271) (show (0:Int)<2147483647 by decide);refine wp_asgS (r:= .val (.int o1)) ?_ (wp_ret (r:= .val (.int ((o1*(o1.fmod 65537+3*k+1)).fmod 2147483629))) ?_ rfl)
 . refine (bin_eq (op:=dMod) ((bin_eq (op:=dRep) ((bin_eq (op:=dAdd) ((bin_eq (op:=dAdd) ((bin_eq (op:=dMod) rfl rfl).trans (modS (by decide))) ((bin_eq (op:=dRep) ((bin_eq (op:=dRep) rfl rfl).trans (mulS (cmL (by decide) (by decide)))) rfl).trans (mulS (cmR (by omega) (by omega))))).trans rfl) ((bin_eq (op:=dRep) rfl rfl).trans (mulS (cmL (by decide) (by decide))))).trans rfl) rfl).trans (mulS (cmR (by decide) (by decide)))) rfl).trans (modS (by decide))
 . refine (bin_eq (op:=dMod) ((bin_eq (op:=dRep) (a:= .val (.int o1)) rfl ((bin_eq (op:=dAdd) ((bin_eq (op:=dAdd) ((bin_eq (op:=dMod) rfl rfl).trans (modS (by decide))) ((bin_eq (op:=dRep) rfl rfl).trans (mulS (cmL (by decide) (by decide))))).trans rfl) rfl).trans rfl)).trans (mulS (cmL (by show _<o1;omega) (by show o1<_;omega)))) rfl).trans (modS (by decide))
theorem mixed_to{args:En->Option (List PyData)}{ρ:En}{c j:Int}(ha:args ρ=some [.int c, .int j])(h0:0<=j)(h1:j<1000000):∃v:Nat,mCall m_q2 args ρ=some (.val (.int v)):=by
 obtain ⟨v,hv,v0⟩:=run_mixed c h0 h1;exact ⟨v.toNat,by rw [Int.toNat_of_nonneg v0];exact call_to ha hv⟩
theorem mod_nat{fa fb:En->Option Sl}{ρ:En}{i m:Int}(ha:fa ρ=some (.val (.int i)))(hb:fb ρ=some (.val (.int m)))(hp:0<m):∃v:Nat,mBin dMod fa fb ρ=some (.val (.int v))/\(v:Int)<m:=by
 refine ⟨(i.fmod m).toNat,?_,?_⟩
 . rw [Int.toNat_of_nonneg (Int.fmod_nonneg_of_pos _ hp)];exact (bin_eq (op:=dMod) ha hb).trans (modS (by omega))
 . rw [Int.toNat_of_nonneg (Int.fmod_nonneg_of_pos _ hp)];exact Int.fmod_lt_of_pos _ hp
theorem run_whole(a:Int):m_q7 [.int a]=some (.val (.bool true)):=by
 refine run_wp (ρ:= [some (.val (.int a))]) rfl rfl ?_;unfold b_q7;exact wp_ret rfl rfl
abbrev enN:Nat->PyData:=fun n=> .int (n:Int)
def tupN(t:List Nat):PyData:= .tuple (nl t)
theorem lstNil{ρ:En}:mLst mNil ρ=some (.own []):=by
 exact if_pos (e:=none) (show 0<=sizeLine by decide)
theorem run_size(c:Int):∃p n:Nat,m_q5 [.int c]=some (.val (.tuple [.int p, .int n]))/\(p=2\/p=3\/p=5\/p=7)/\1<=n/\n<=6/\p ^ n<=125:=by
 have sl:=sl1000
 let C:Option Sl:=some (.val (.int c))
 obtain ⟨v,ev,bv⟩:=mod_nat (fa:=mPk 0) (fb:=mK (.int 7)) (ρ:= [C,none,none]) rfl rfl (by decide);have l7:(mLst (mCons (mK (.int 2)) (mCons (mK (.int 3)) (mCons (mK (.int 5)) (mCons (mK (.int 7)) (mCons (mK (.int 2)) (mCons (mK (.int 3)) (mCons (mK (.int 2)) mNil)))))))) [C,none,none]=some (.own [.int 2, .int 3, .int 5, .int 7, .int 2, .int 3, .int 2]):=if_pos (e:=none) (show 7<=sizeLine by omega)
 obtain ⟨p,ep,hp⟩:∃p:Nat,[PyData.int 2, .int 3, .int 5, .int 7, .int 2, .int 3, .int 2][v]? = some (.int p)/\(p=2\/p=3\/p=5\/p=7):=by
  match v,(show v<7 by omega) with
  | 0,_=>exact ⟨2,rfl, .inl rfl⟩
  | 1,_=>exact ⟨3,rfl, .inr (.inl rfl)⟩
  | 2,_=>exact ⟨5,rfl, .inr (.inr (.inl rfl))⟩
  | 3,_=>exact ⟨7,rfl, .inr (.inr (.inr rfl))⟩
  | 4,_=>exact ⟨2,rfl, .inl rfl⟩
  | 5,_=>exact ⟨3,rfl, .inr (.inl rfl)⟩
  | 6,_=>exact ⟨2,rfl, .inl rfl⟩
 obtain ⟨m,em,m0,hm⟩:∃m:Nat,[PyData.int 0, .int 0, .int 6, .int 4, .int 0, .int 3, .int 0, .int 2][p]? = some (.int m)/\0<m/\∀n,n<=m->n<=6/\p ^ n<=125:=by
  rcases hp with rfl | rfl | rfl | rfl
  . exact ⟨6,rfl,by decide,fun n hn=>⟨hn,Nat.le_trans (Nat.pow_le_pow_right (by decide) hn) (by decide)⟩⟩
  . exact ⟨4,rfl,by decide,fun n hn=>⟨by omega,Nat.le_trans (Nat.pow_le_pow_right (by decide) hn) (by decide)⟩⟩
  . exact ⟨3,rfl,by decide,fun n hn=>⟨by omega,Nat.le_trans (Nat.pow_le_pow_right (by decide) hn) (by decide)⟩⟩
  . exact ⟨2,rfl,by decide,fun n hn=>⟨by omega,Nat.le_trans (Nat.pow_le_pow_right (by decide) hn) (by decide)⟩⟩
 let P1:Option Sl:=some (.val (.int p))
 let M2:Option Sl:=some (.val (.int m))
 have l8:(mLst (mCons (mK (.int 0)) (mCons (mK (.int 0)) (mCons (mK (.int 6)) (mCons (mK (.int 4)) (mCons (mK (.int 0)) (mCons (mK (.int 3)) (mCons (mK (.int 0)) (mCons (mK (.int 2)) mNil))))))))) [C,P1,none]=some (.own [.int 0, .int 0, .int 6, .int 4, .int 0, .int 3, .int 0, .int 2]):=if_pos (e:=none) (show 8<=sizeLine by omega);obtain ⟨w,ew,bw⟩:=mod_nat (fa:=mBin dFdiv (mPk 0) (mK (.int 7))) (fb:=mPk 2) (ρ:= [C,P1,M2]) ((bin_eq (op:=dFdiv) rfl rfl).trans (div_k (by decide) (by decide))) (i:=c.fdiv 7) (m:=m) rfl (by omega);obtain ⟨h6,h125⟩:=hm (w+1) (by omega);refine ⟨p,w+1,run_wp (ρ:= [C,none,none]) rfl rfl ?_,hp,by omega,h6,h125⟩;unfold b_q5;refine wp_asgS ((bin_eq (op:=dix) l7 ev).trans (dix_nat (.inl rfl) ep)) (wp_asgS ((bin_eq (op:=dix) l8 (b:= .val (.int p)) rfl).trans (dix_nat (.inl rfl) em)) (wp_frz (wp_ret (r:= .val (.tuple [.int p, .int ((w+1:Nat):Int)])) ?_ rfl)))
 have e1:mBin dAdd (mK (.int 1)) (mBin dMod (mBin dFdiv (mPk 0) (mK (.int 7))) (mPk 2)) [C,P1,M2]=some (.val (.int ((w+1:Nat):Int))):=by
  refine (bin_eq (op:=dAdd) (fa:=mK (.int 1)) rfl ew).trans ?_;show some (Sl.val (.int (1+(w:Int))))=_;rw [show 1+(w:Int)=((w+1:Nat):Int) by omega]
 exact tup2 (a:= .val (.int p)) (b:= .val (.int ((w+1:Nat):Int))) (ρ:= [C,P1,M2]) rfl e1
def WdOk(p n:Nat)(w:List Nat):Prop:=w.length=n/\∀r ∈ w,r<p
theorem run_word(c:Int){k p n:Nat}(hk:k<=99)(p2:2<=p)(p7:p<=7)(n6:n<=6):∃w:List Nat,m_q8 [.int c, .int k, .int p, .int n]=some (.val (tupN w))/\WdOk p n w:=by
 have sl:=sl1000
 let C:Option Sl:=some (.val (.int c))
 let K1:Option Sl:=some (.val (.int k))
 let P2:Option Sl:=some (.val (.int p))
 let N3:Option Sl:=some (.val (.int n))
 have key:Wp b_q8 [C,K1,P2,N3,none,none,none,none,none] (fun o=>∃(w:List Nat) (ρ':En),o = .rt (.val (tupN w)) ρ'/\WdOk p n w):=by
  unfold b_q8;refine wp_asgS (r:= .val (.int (c.fdiv 2))) ((bin_eq (op:=dFdiv) rfl rfl).trans (div_k (by decide) (by decide))) ?_;refine wp_seq (P:=fun ρ=>∃(l:Int) (z5:Option Sl),ρ = [C,K1,P2,N3,some (.val (.int l)),z5,none,none,none]) ?_ ?_
  . refine wp_forR0 (n:=k % 10*n) (fun _ ρ=>∃(l:Int) (z5:Option Sl),ρ = [C,K1,P2,N3,some (.val (.int l)),z5,none,none,none]) ?_ ⟨_,_,rfl⟩ ?_ (fun ρ h=>h)
    . refine rng1_to (j:=k % 10*n) (consP_to (a:= .val (.int ((k % 10*n:Nat):Int))) (as:= []) ((bin_eq (op:=dRep) ((bin_eq (op:=dMod) (a:= .val (.int k)) (b:= .val (.int 10)) rfl rfl).trans (modS (by decide))) (b:= .val (.int n)) rfl).trans ((mulS (cmR (by omega) (by omega))).trans ?_)) rfl) ?_
      . rw [Int.fmod_eq_emod_of_nonneg _ (by decide),Int.natCast_mul];rfl
      . have:k % 10*n<=9*6:=Nat.mul_le_mul (by omega) n6;omega
    . rintro j ρ hj ⟨l,z5,rfl⟩;exact ⟨_,rfl,wp_asg (r:= .val (.int (l.fdiv p))) ((bin_eq (op:=dFdiv) (a:= .val (.int l)) (b:= .val (.int p)) rfl rfl).trans (div_k (by omega) (by omega))) ⟨_,_,rfl⟩⟩
  rintro ρ ⟨l,z5,rfl⟩;refine wp_asgS lstNil ?_;refine wp_seq (P:=fun ρ=>∃(w:List Nat) (l:Int) (z5 z7 z8:Option Sl),ρ = [C,K1,P2,N3,some (.val (.int l)),z5,some (.own (nl w)),z7,z8]/\w.length=n/\∀r ∈ w,r<p) ?_ ?_
  . refine wp_forR0 (n:=n) (fun j ρ=>∃(w:List Nat) (l:Int) (z5 z7 z8:Option Sl),ρ = [C,K1,P2,N3,some (.val (.int l)),z5,some (.own (nl w)),z7,z8]/\w.length=j/\∀r ∈ w,r<p) (rng1_to (j:=n) rfl (by omega)) ⟨[],_,_,_,_,rfl,rfl,by simp⟩ ?_ (fun ρ h=>h);rintro j ρ hj ⟨w,l,z5,z7,z8,rfl,hw,hr⟩;refine ⟨_,rfl,?_⟩
    let J5:Option Sl:=some (.val (.int (j:Nat)))
    let WO:Option Sl:=some (.own (nl w))
    show Wp _ [C,K1,P2,N3,some (.val (.int l)),J5,WO,z7,z8] _;obtain ⟨x,ex⟩:=mixed_to (args:=(mCons (mVar 0) (mCons (mBin dAdd (mBin dRep (mK (.int 10)) (mPk 1)) (mPk 5)) mNil))) (ρ:= [C,K1,P2,N3,some (.val (.int l)),J5,WO,z7,z8]) (c:=c) (j:=10*(k:Int)+(j:Nat)) (cons_to (a:= .val (.int c)) rfl (cons_to (a:= .val (.int (10*(k:Int)+(j:Nat)))) (as:= []) ((bin_eq (op:=dAdd) ((bin_eq (op:=dRep) (a:= .val (.int 10)) (b:= .val (.int k)) rfl rfl).trans (mulS (cmL (by decide) (by decide)))) (b:= .val (.int (j:Nat))) rfl).trans rfl) rfl)) (by omega) (by omega);refine wp_asgS ex ?_
    let X7:Option Sl:=some (.val (.int x))
    show Wp _ [C,K1,P2,N3,some (.val (.int l)),J5,WO,X7,z8] _;obtain ⟨y,ey,by1⟩:=mod_nat (fa:=mBin dFdiv (mPk 7) (mK (.int 2))) (fb:=mPk 2) (ρ:= [C,K1,P2,N3,some (.val (.int l)),J5,WO,X7,z8]) (i:=(x:Int).fdiv 2) (m:=p) ((bin_eq (op:=dFdiv) (a:= .val (.int x)) (b:= .val (.int 2)) rfl rfl).trans (div_k (by decide) (by decide))) rfl (by omega)
    obtain ⟨r8,e8,b8⟩:∃r8:Nat,(mBin dRep (mBin dMod (mBin dFdiv (mPk 7) (mK (.int 2))) (mPk 2)) (mCallP dInt (mConsP (mBin dGt (mBin dAdd (mBin dMod (mPk 7) (mK (.int 2))) (mBin dMod (mBin dFdiv (mPk 0) (mK (.int 11))) (mK (.int 2)))) (mK (.int 0))) mNilP))) [C,K1,P2,N3,some (.val (.int l)),J5,WO,X7,z8]=some (.val (.int r8))/\r8<p:=by
     obtain ⟨a,ea,_⟩:=mod_nat (fa:=mPk 7) (fb:=mK (.int 2)) (ρ:= [C,K1,P2,N3,some (.val (.int l)),J5,WO,X7,z8]) (i:=x) rfl rfl (by decide);obtain ⟨b,eb,_⟩:=mod_nat (fa:=mBin dFdiv (mPk 0) (mK (.int 11))) (fb:=mK (.int 2)) (ρ:= [C,K1,P2,N3,some (.val (.int l)),J5,WO,X7,z8]) (i:=c.fdiv 11) ((bin_eq (op:=dFdiv) (a:= .val (.int c)) (b:= .val (.int 11)) rfl rfl).trans (div_k (by decide) (by decide))) rfl (by decide);have eg:(mCallP dInt (mConsP (mBin dGt (mBin dAdd (mBin dMod (mPk 7) (mK (.int 2))) (mBin dMod (mBin dFdiv (mPk 0) (mK (.int 11))) (mK (.int 2)))) (mK (.int 0))) mNilP)) [C,K1,P2,N3,some (.val (.int l)),J5,WO,X7,z8]=some (.val (.int (if decide ((a:Int)+(b:Int)>0) then 1 else 0))):=callP_to (ss:= [.val (.bool (decide ((a:Int)+(b:Int)>0)))]) (consP_to (as:= []) ((bin_eq (op:=dGt) ((bin_eq (op:=dAdd) ea eb).trans rfl) (b:= .val (.int 0)) rfl).trans rfl) rfl) rfl;generalize decide ((a:Int)+(b:Int)>0)=bb at eg
     cases bb
     . exact ⟨0,((bin_eq (op:=dRep) ey eg).trans (mulS (cmR (by decide) (by decide)))).trans (by simp),by omega⟩
     . exact ⟨y,((bin_eq (op:=dRep) ey eg).trans (mulS (cmR (by decide) (by decide)))).trans (by simp),by omega⟩
    refine wp_asgS e8 ?_;refine wp_seq (P:=fun ρ=>∃(r8:Nat) (l:Int),ρ = [C,K1,P2,N3,some (.val (.int l)),J5,WO,X7,some (.val (.int r8))]/\r8<p) ?_ ?_
    . obtain ⟨q,eq,_⟩:=mod_nat (fa:=mPk 0) (fb:=mK (.int 2)) (ρ:= [C,K1,P2,N3,some (.val (.int l)),J5,WO,X7,some (.val (.int r8))]) (i:=c) rfl rfl (by decide);refine wp_if (eq_int eq rfl) ?_
      cases decide ((q:Int)=1)
      . exact wp_next ⟨r8,l,rfl,b8⟩
      . obtain ⟨t,et,bt⟩:=mod_nat (fa:=mPk 4) (fb:=mPk 2) (ρ:= [C,K1,P2,N3,some (.val (.int l)),J5,WO,X7,some (.val (.int r8))]) (i:=l) (m:=p) rfl rfl (by omega);exact wp_asgS et (wp_asg (r:= .val (.int (l.fdiv p))) ((bin_eq (op:=dFdiv) (a:= .val (.int l)) (b:= .val (.int p)) rfl rfl).trans (div_k (by omega) (by omega))) ⟨t,_,rfl,by omega⟩)
    . rintro ρ ⟨r8,l,rfl,b8⟩;refine wp_frz (wp_of (app_to (r:= .val (.int r8)) (ds:=nl w) rfl rfl (by rw [nl_len];omega)) ⟨w ++ [r8],l,J5,X7,some (.val (.int r8)),?_,by simp [hw],?_⟩)
      . rw [nl_app];rfl
      . intro r hr';rcases List.mem_append.mp hr' with h | h
        . exact hr r h
        . cases List.mem_singleton.mp h
          exact b8
  . rintro ρ ⟨w,l,z5,z7,z8,rfl,hw,hr⟩;exact wp_ret (r:= .val (tupN w)) rfl ⟨w,_,rfl,hw,hr⟩
 obtain ⟨o,h1,w,ρ',rfl,h2⟩:=key;exact ⟨w,runD_rt (ρ:= [C,K1,P2,N3,none,none,none,none,none]) rfl rfl ⟨ρ',h1⟩,h2⟩
def enP(q:Nat×Nat):PyData:= .tuple [.int (q.1:Int), .int (q.2:Int)]
theorem zipD_nl:∀a b:List Nat,zipD (nl a) (nl b)=(List.zip a b).map enP
 | [],_=>by simp [zipD,nl]
 | _::_,[]=>by simp [zipD,nl]
 | x::a,y::b=>by
  have:=zipD_nl a b;unfold zipD nl at this ⊢
  simp only [List.map_cons,List.zipWith_cons_cons,List.zip_cons_cons,this];rfl
theorem zip_mem{a b:List Nat}{q:Nat×Nat}(h:q ∈ List.zip a b):q.1 ∈ a/\q.2 ∈ b:=List.of_mem_zip h
theorem run_words{p n:Nat}(p2:2<=p)(p7:p<=7)(n6:n<=6)(cs:List Int)(hc:cs.length<=900):∃W:List (List Nat),m_q9 [.list (il cs), .int p, .int n]=some (.own (W.map tupN))/\W.length=cs.length/\∀w ∈ W,WdOk p n w:=by
 have sl:=sl1000
 let CS:Option Sl:=some (.val (.list (il cs)))
 let P1:Option Sl:=some (.val (.int p))
 let N2:Option Sl:=some (.val (.int n))
 have key:Wp b_q9 [CS,P1,N2,none,none,none,none] (fun o=>∃(W:List (List Nat)) (ρ':En),o = .rt (.own (W.map tupN)) ρ'/\W.length=cs.length/\∀w ∈ W,WdOk p n w):=by
  unfold b_q9;refine wp_asgS lstNil ?_;refine wp_seq (P:=fun ρ=>∃(W:List (List Nat)) (z4 z5 z6:Option Sl),ρ = [CS,P1,N2,some (.own (W.map tupN)),z4,z5,z6]/\W.length=cs.length/\∀w ∈ W,WdOk p n w) ?_ ?_
  . refine wp_forL (en:=PyData.int) (xs:=cs) (fun i ρ=>∃(W:List (List Nat)) (z4 z5 z6:Option Sl),ρ = [CS,P1,N2,some (.own (W.map tupN)),z4,z5,z6]/\W.length=i/\∀w ∈ W,WdOk p n w) rfl ⟨[],_,_,_,rfl,rfl,by simp⟩ ?_ (fun ρ h=>h);rintro i c ρ hi ⟨W,z4,z5,z6,rfl,hW,hw⟩;obtain ⟨hil,_⟩:=List.getElem?_eq_some_iff.mp hi;refine ⟨_,rfl,?_⟩;obtain ⟨w,ew,ok⟩:=run_word c (k:=1) (by decide) p2 p7 n6
    let C4:Option Sl:=some (.val (.int c))
    let WO:Option Sl:=some (.own (W.map tupN))
    refine wp_asgS (r:= .val (tupN w)) (call_to (ds:= [.int c, .int (1:Nat), .int p, .int n]) rfl ew) ?_;show Wp _ [CS,P1,N2,WO,C4,some (.val (tupN w)),z6] _;refine wp_seq (P:=fun ρ=>∃(w:List Nat) (z6:Option Sl),ρ = [CS,P1,N2,WO,C4,some (.val (tupN w)),z6]/\WdOk p n w) ?_ ?_
    . let ρ0:En:= [CS,P1,N2,WO,C4,some (.val (tupN w)),z6]
      obtain ⟨a,ea,_⟩:=mod_nat (fa:=mPk 4) (fb:=mK (.int 2)) (ρ:=ρ0) (i:=c) rfl rfl (by decide);obtain ⟨b,eb,_⟩:=mod_nat (fa:=mBin dFdiv (mPk 4) (mK (.int 5))) (fb:=mK (.int 4)) (ρ:=ρ0) (i:=c.fdiv 5) ((bin_eq (op:=dFdiv) (a:= .val (.int c)) (b:= .val (.int 5)) rfl rfl).trans (div_k (by decide) (by decide))) rfl (by decide)
      have eg:(mTest (mBin dGt (mCallP dLen (mConsP (mPk 3) mNilP)) (mK (.int 0)))) ρ0=some (decide (((W.length:Nat):Int)>0)):=by
       refine test_eq ((bin_eq (op:=dGt) (a:= .val (.int ((W.length:Nat):Int))) (b:= .val (.int 0)) (callP_to (ss:= [.own (W.map tupN)]) rfl ?_) rfl).trans rfl);show some (Sl.val (.int ((W.map tupN).length:Nat)))=_;rw [List.length_map]
      refine wp_if (and_to (eq_int ea rfl) (and_to eg (eq_int eb rfl))) ?_;generalize hb:(decide ((a:Int)=0) && (decide (((W.length:Nat):Int)>0) && decide ((b:Int)=0)))=bb
      cases bb
      . exact wp_next ⟨w,z6,rfl,ok⟩
      . have hpos : 0 < W.length := by
         simp only [Bool.and_eq_true,decide_eq_true_eq] at hb
         omega
        have g1:W[W.length - 1]? = some W[W.length - 1]:=List.getElem?_eq_getElem (by omega);have g0:W[0]? = some W[0]:=List.getElem?_eq_getElem hpos;have o1:=hw _ (List.mem_of_getElem? g1);have o0:=hw _ (List.mem_of_getElem? g0);generalize W[W.length - 1]=wl at g1 o1
        generalize W[0]=wf at g0 o0
        refine wp_asgS (r:= .val (tupN wl)) ((bin_eq (op:=dix) (a:= .own (W.map tupN)) (b:= .val (.int ((W.length - 1:Nat):Int))) rfl ?_).trans (dix_nat (.inl rfl) (by rw [List.getElem?_map,g1];rfl))) ?_
        . refine (bin_eq (op:=dSub) (a:= .val (.int ((W.length:Nat):Int))) (b:= .val (.int 1)) (callP_to (ss:= [.own (W.map tupN)]) rfl ?_) rfl).trans ?_
          . show some (Sl.val (.int ((W.map tupN).length:Nat)))=_;rw [List.length_map]
          . show some (Sl.val (.int (((W.length:Nat):Int) - 1)))=_;rw [show ((W.length:Nat):Int) - 1=((W.length - 1:Nat):Int) by omega]
        . let ρ1:En:= [CS,P1,N2,WO,C4,some (.val (tupN w)),some (.val (tupN wl))]
          let el:Nat×Nat->Int:=fun q=>((q.1:Int)*(1+c.fmod p)+(q.2:Int)*((c.fdiv 7).fmod 2)).fmod p
          let nw:List Nat:=(List.zip wl wf).map fun q=>(el q).toNat
          have el0:∀q,0<=el q/\el q<p:=fun q=>⟨Int.fmod_nonneg_of_pos _ (by omega),Int.fmod_lt_of_pos _ (by omega)⟩;have zl:(List.zip wl wf).length=n:=by rw [List.length_zip,o1.1,o0.1,Nat.min_self]
          refine wp_frz (wp_asg (r:= .val (tupN nw)) (callP_to (consP_to (a:= .own (nl nw)) (as:= []) (lc_to (ds:=(List.zip wl wf).map enP) ?_ ?_ ?_) rfl) rfl) ⟨nw,some (.val (tupN wl)),rfl,by simp [nw,zl],?_⟩)
          . have ar:(mCons (mVar 6) (mCons (mBin dix (mPk 3) (mK (.int 0))) mNil)) ρ1=some [tupN wl,tupN wf]:=cons_to (a:= .val (tupN wl)) rfl (cons_to (a:= .val (tupN wf)) (as:= []) ((bin_eq (op:=dix) (a:= .own (W.map tupN)) (b:= .val (.int ((0:Nat):Int))) rfl rfl).trans (dix_nat (.inl rfl) (by rw [List.getElem?_map,g0];rfl))) rfl);show mZipS (mCons (mVar 6) (mCons (mBin dix (mPk 3) (mK (.int 0))) mNil)) ρ1=_;unfold mZipS;rw [ar];show some (zipD (nl wl) (nl wf))=_;rw [zipD_nl]
          . rw [List.length_map];omega
          . refine (compM_map (en:=enP) (g:=fun q=> .int (((el q).toNat:Nat):Int)) (xs:=List.zip wl wf) fun q hq=> ?_).trans (by simp [nl,nw]);have zm:=zip_mem hq;have b1:=o1.2 _ zm.1;have b2:=o0.2 _ zm.2;rw [Int.toNat_of_nonneg (el0 q).1];have f2a:=Int.fmod_nonneg_of_pos (c.fdiv 7) (show (0:Int)<2 by decide);exact el_to (fg:=gTupD [gVar 2,gVar 3]) (ρ0:= [C4,P1,none,none]) (d:=enP q) (ρ1:= [C4,P1,some (.val (.int (q.1:Nat))),some (.val (.int (q.2:Nat)))]) (r:= .val (.int (el q))) rfl ((bin_eq (op:=dMod) ((bin_eq (op:=dAdd) ((bin_eq (op:=dRep) (a:= .val (.int (q.1:Nat))) rfl ((bin_eq (op:=dAdd) (a:= .val (.int 1)) rfl ((bin_eq (op:=dMod) (a:= .val (.int c)) (b:= .val (.int p)) rfl rfl).trans (modS (by omega)))).trans rfl)).trans (mulS (cmL (by omega) (by omega)))) ((bin_eq (op:=dRep) (a:= .val (.int (q.2:Nat))) rfl ((bin_eq (op:=dMod) ((bin_eq (op:=dFdiv) (a:= .val (.int c)) (b:= .val (.int 7)) rfl rfl).trans (div_k (by decide) (by decide))) (b:= .val (.int 2)) rfl).trans (modS (by decide)))).trans (mulS (cmL (by omega) (by omega))))).trans rfl) (b:= .val (.int p)) rfl).trans (modS (by omega)))
          . intro r hr;obtain ⟨q,_,rfl⟩:=List.mem_map.mp hr;have:=el0 q;show (el q).toNat<p;omega
    . rintro ρ ⟨w,z6,rfl,ok⟩;refine wp_frz (wp_of (app_to (r:= .val (tupN w)) (ds:=W.map tupN) rfl rfl (by rw [List.length_map];omega)) ⟨W ++ [w],C4,some (.val (tupN w)),z6,?_,by simp [hW],?_⟩)
      . rw [List.map_append];rfl
      . intro v hv;rcases List.mem_append.mp hv with h | h
        . exact hw v h
        . cases List.mem_singleton.mp h
          exact ok
  . rintro ρ ⟨W,z4,z5,z6,rfl,hW,hw⟩;exact wp_ret rfl ⟨W,_,rfl,hW,hw⟩
 obtain ⟨o,h1,W,ρ',rfl,h2⟩:=key;exact ⟨W,runD_rt (ρ:= [CS,P1,N2,none,none,none,none]) rfl rfl ⟨ρ',h1⟩,h2⟩
theorem cut_il(l:List Int)(lo hi:Option Int):cutD (il l) lo hi=il (cutD l lo hi):=by
 unfold cutD il;rw [List.length_map, <-List.map_drop, <-List.map_take]
theorem cut_len(l:List Int)(lo hi:Option Int):(cutD l lo hi).length<=l.length:=by
 unfold cutD;rw [List.length_take,List.length_drop];omega
theorem run_made {cs : List Int} (hcs : cs.length <= 900) {at_ most : Nat} (ha : at_ < cs.length) (hm : most <= 100) :
 ∃(p n m:Nat) (W:List (List Nat)),m_q1 [.list (il cs), .int at_, .int most]=some (.val (.tuple [.int p, .int n, .list (W.map tupN), .int ((at_+1+m:Nat):Int)]))/\(p=2\/p=3\/p=5\/p=7)/\1<=n/\n<=6/\p ^ n<=125/\m<=most/\W.length<=900/\∀w ∈ W,WdOk p n w:=by
 have sl:=sl1000;have gc:cs[at_]? = some cs[at_]:=List.getElem?_eq_getElem ha;generalize cs[at_]=c at gc
 let CS:Option Sl:=some (.val (.list (il cs)))
 let A1:Option Sl:=some (.val (.int at_))
 let M2:Option Sl:=some (.val (.int most))
 let C3:Option Sl:=some (.val (.int c))
 obtain ⟨p,n,esz,hp,n1,n6,hpn⟩:=run_size c
 let P6:Option Sl:=some (.val (.int p))
 let N7:Option Sl:=some (.val (.int n))
 obtain ⟨m,em,bm⟩:=mod_nat (fa:=mBin dFdiv (mPk 3) (mK (.int 42))) (fb:=mBin dAdd (mPk 2) (mK (.int 1))) (ρ:= [CS,A1,M2,C3,none,none,P6,N7]) (i:=c.fdiv 42) (m:=(most:Int)+1) ((bin_eq (op:=dFdiv) (a:= .val (.int c)) (b:= .val (.int 42)) rfl rfl).trans (div_k (by decide) (by decide))) rfl (by omega)
 let M4:Option Sl:=some (.val (.int m))
 have p2:2<=p:=by omega
 have p7:p<=7:=by omega
 let lo:Option Int:=some ((at_:Int)+1)
 let hi:Option Int:=some ((at_:Int)+1+(m:Int))
 obtain ⟨W,ew,hW,hw⟩:=run_words p2 p7 n6 (cutD cs lo hi) (by have:=cut_len cs lo hi;omega);refine ⟨p,n,m,W,run_wp (ρ:= [CS,A1,M2,none,none,none,none,none]) rfl rfl ?_,hp,n1,n6,hpn,by omega,by have:=cut_len cs lo hi;omega,hw⟩;unfold b_q1;refine wp_asgS (r:= .val (.int c)) ((bin_eq (op:=dix) (a:= .val (.list (il cs))) (b:= .val (.int (at_:Nat))) rfl rfl).trans (dix_nat (.inl rfl) (by unfold il;rw [List.getElem?_map,gc];rfl))) ?_;refine wp_seqN (f:=mFrz 3 _) (ρ':= [CS,A1,M2,C3,none,none,P6,N7]) (asgT_to (ρ:= [CS,A1,M2,C3,none,none,none,none]) (call_to (ds:= [.int c]) rfl esz) rfl) ?_;refine wp_asgS em ?_;show Wp _ [CS,A1,M2,C3,M4,none,P6,N7] _
 have sle:(mSl (mPk 0) (mPart (mBin dAdd (mPk 1) (mK (.int 1)))) (mPart (mBin dAdd (mBin dAdd (mPk 1) (mK (.int 1))) (mPk 4)))) [CS,A1,M2,C3,M4,none,P6,N7]=some (.own (il (cutD cs lo hi))):=by
  rw [<-cut_il];rfl
 refine wp_asgS (r:= .own (W.map tupN)) (call_to (ds:= [.list (il (cutD cs lo hi)), .int p, .int n]) (cons_to sle rfl) ew) ?_;refine wp_frz (wp_ret (r:= .val (.tuple [.int p, .int n, .list (W.map tupN), .int ((at_+1+m:Nat):Int)])) ?_ rfl);show mTup _ [CS,A1,M2,C3,M4,some (.val (.list (W.map tupN))),P6,N7]=_
 have e4:mBin dAdd (mBin dAdd (mPk 1) (mK (.int 1))) (mPk 4) [CS,A1,M2,C3,M4,some (.val (.list (W.map tupN))),P6,N7]=some (.val (.int ((at_+1+m:Nat):Int))):=by
  show some (Sl.val (.int ((at_:Int)+1+(m:Int))))=_;rw [show (at_:Int)+1+(m:Int)=((at_+1+m:Nat):Int) by omega]
 unfold mTup;rw [cons_to (a:= .val (.int p)) rfl (cons_to (a:= .val (.int n)) rfl (cons_to (a:= .val (.list (W.map tupN))) rfl (cons_to e4 (show mNil _=some [] from rfl))))];exact if_pos (e:=none) (show 4<=sizeLine by omega)
theorem lay_tup(l:List Nat):(tupN l).canLay0=true:=lay_list (en:=fun n:Nat=>PyData.int (n:Int)) (fun _=>rfl) l
theorem dep_tup(l:List Nat):(tupN l).depth<=3:=by
 have:=dep_list (en:=fun n:Nat=>PyData.int (n:Int)) (k:=1) (fun x=>by simp [PyData.depth]) l;simp only [tupN,PyData.depth,nl];omega
theorem lay_tl(M:List (List Nat)):(PyData.list (M.map tupN)).canLay0=true:=lay_list (en:=tupN) lay_tup M
theorem dep_tl(M:List (List Nat)):(PyData.list (M.map tupN)).depth<=5:=by
 have:=dep_list (en:=tupN) (k:=3) dep_tup M;simp only [PyData.depth];omega
theorem all_true{α:Type}(xs:List α):dAll [.own (xs.map fun _=>PyData.bool true)]=some (.val (.bool true)):=by
 have:∀xs:List α,boolsOf (xs.map fun _=>PyData.bool true)=some (xs.map fun _=>true):=by
  intro xs
  induction xs with
  | nil=>rfl
  | cons x xs ih=>rw [List.map_cons,boolsOf,ih];rfl
 show (boolsOf (xs.map fun _=>PyData.bool true)).map _=_;rw [this,Option.map_some];congr 3
 simp
theorem run_lines{X:List (List Nat)}(hX:∀x ∈ X,x.length<=900):m_q0 [.list (X.map tupN), .list (X.map tupN)]=some (.val (.bool true)):=by
 have sl:=sl1000
 let A:Option Sl:=some (.val (.list (X.map tupN)))
 have dx:=dep_tl X;refine run_wp (ρ:= [A,A,none]) rfl rfl ?_;unfold b_q0;refine wp_skip (or_to (k:=false) (l:=false) rfl ((ne_int (i:=((X.map tupN).length:Nat)) (j:=((X.map tupN).length:Nat)) rfl rfl).trans (by simp))) ?_;refine wp_seq (P:=fun ρ=>∃z,ρ = [A,A,z]) ?_ ?_
 . refine wp_forL (en:=tupN) (xs:=X) (fun _ ρ=>∃z,ρ = [A,A,z]) rfl ⟨_,rfl⟩ ?_ (fun ρ h=>h);rintro j x ρ hj ⟨z,rfl⟩;have hx:=hX x (List.mem_of_getElem? hj);refine ⟨_,rfl,wp_ifF (or_to (k:=false) (l:=false) rfl (not_to (k:=true) (test_eq (callP_to (ss:= [.own (x.map fun _=>PyData.bool true)]) (consP_to (a:= .own (x.map fun _=>PyData.bool true)) (as:= []) (lc_to (ds:=nl x) rfl (by rw [nl_len];omega) ?_) rfl) (all_true _))))) (wp_next ⟨_,rfl⟩)⟩;exact compM_map (en:=enN) (xs:=x) fun s _=>el_to (fg:=gVar 0) (ρ0:= [none]) (d:= .int (s:Nat)) (r:= .val (.bool true)) rfl (call_to (ds:= [.int (s:Nat)]) rfl (run_whole _))
 . rintro ρ ⟨z,rfl⟩;exact wp_ret (eq_same (a:= .val (.list (X.map tupN))) (b:= .val (.list (X.map tupN))) rfl rfl rfl (lay_tl X) (by show (PyData.list (X.map tupN)).depth<=60;omega)) rfl
theorem eqv_nl:∀a b:List Nat,PyData.eqvAll (nl a) (nl b)=decide (a=b)
 | [],[]=>by simp [nl,PyData.eqvAll]
 | [],_::_=>by simp [nl,PyData.eqvAll]
 | _::_,[]=>by simp [nl,PyData.eqvAll]
 | x::a,y::b=>by
  have:=eqv_nl a b;simp only [nl] at this
  simp only [nl,List.map_cons,PyData.eqvAll,this,PyData.eqv]
  by_cases h:x=y
  . subst h;simp
  . have:¬((x:Int)=(y:Int)):=by omega
    simp [h,this]
theorem eqv_tup(a b:List Nat):PyData.eqv (tupN a) (tupN b)=decide (a=b):=by
 unfold tupN;simp only [PyData.eqv];exact eqv_nl a b
theorem notin_tup(e:List Nat)(M:List (List Nat)):inD true (tupN e) (M.map tupN)=some (.val (.bool (decide (e ∉ M)))):=by
 have dt:=dep_tup e;unfold inD;rw [if_pos ⟨lay_tup e,by simp [lay_tup],by omega⟩];congr 3
 simp only [if_true,List.any_map]
 have:(M.any ((fun d=>PyData.eqv d (tupN e)) ∘ tupN))=decide (e ∈ M):=by
  induction M with
  | nil=>simp
  | cons m M ih=>
   rw [List.any_cons,ih];show (PyData.eqv (tupN m) (tupN e) || _)=_;rw [eqv_tup]
   by_cases h:m=e
   . subst h;simp
   . have h':e≠m:=fun z=>h z.symm;simp [h,h']
 rw [this];simp
theorem rep1(a:PyData):∀n:Nat,(List.replicate n [a]).flatten=List.replicate n a
 | 0=>rfl
 | n+1=>by rw [List.replicate_succ,List.flatten_cons,rep1 a n,List.replicate_succ];rfl
theorem repT_one{n:Nat}(r:Nat)(h1:1<=n)(h2:n<=900):dRepT (.val (.tuple [.int (r:Int)])) (.val (.int (n:Int)))=some (.val (tupN (List.replicate n r))):=by
 show (if [PyData.int (r:Int)] ≠ []/\1<=(n:Int)/\(n:Int)<=1000 /\ [PyData.int (r:Int)].length*(n:Int).toNat<=1000 then some (Sl.val (.tuple (List.replicate (n:Int).toNat [PyData.int (r:Int)]).flatten)) else none)=_;rw [if_pos ⟨by simp,by omega,by omega,by simp;omega⟩,Int.toNat_natCast,rep1];unfold tupN nl;rw [List.map_replicate]
theorem run_nought{n:Nat}(h1:1<=n)(h2:n<=900):m_q13 [.int (n:Int)]=some (.val (tupN (Sp.zero n))):=by
 refine run_wp (ρ:= [some (.val (.int n))]) rfl rfl ?_;unfold b_q13;exact wp_ret ((bin_eq (op:=dRepT) (tup1 (a:= .val (.int 0)) rfl) (b:= .val (.int n)) rfl).trans (repT_one 0 h1 h2)) rfl
theorem put_zip(p f:Nat):∀u w:List Nat,Sp.put p u f w=(List.zip u w).map fun q=>(q.1+f*q.2) % p
 | [],_=>by simp [Sp.put]
 | _::_,[]=>by simp [Sp.put]
 | a::u,b::w=>by
  have:=put_zip p f u w;unfold Sp.put at this ⊢
  rw [List.zipWith_cons_cons,List.zip_cons_cons,List.map_cons,this]
theorem put_eval {p f : Nat} (hp : 0 < p) (p7 : p <= 7) (hf : f <= 7) {u w : List Nat} (hu : u.length <= 900) {jf jp ju jw : Nat} {ρ : En} (hs : subE [some jf, some jp, none, none] ρ = [some (.val (.int (f : Int))), some (.val (.int (p : Int))), none, none]) (h1 : (ρ[ju]?).join = some (.val (tupN u))) (h2 : (ρ[jw]?).join = some (.val (tupN w))) :
 (mCallP dTuple (mConsP (mLC (subE [some jf,some jp,none,none]) (mZipS (mCons (mVar ju) (mCons (mVar jw) mNil))) (gTupD [(gVar 2),(gVar 3)]) mYes (mBin dMod (mBin dAdd (mPk 2) (mBin dRep (mPk 0) (mPk 3))) (mPk 1))) mNilP)) ρ=some (.val (tupN (Sp.put p u f w))):=by
 have sl:=sl1000;have v1:mVar ju ρ=some (.val (tupN u)):=by unfold mVar;rw [h1]
 have v2:mVar jw ρ=some (.val (tupN w)):=by unfold mVar;rw [h2]
 have zi:mZipS (mCons (mVar ju) (mCons (mVar jw) mNil)) ρ=some ((List.zip u w).map enP):=by
  unfold mZipS;rw [cons_to v1 (cons_to v2 (show mNil ρ=some [] from rfl))];show some (zipD (nl u) (nl w))=_;rw [zipD_nl]
 have zl:((List.zip u w).map enP).length<sizeLine:=by
  rw [List.length_map,List.length_zip];omega
 refine callP_to (consP_to (a:= .own (nl (Sp.put p u f w))) (as:= []) (lc_to zi zl ?_) rfl) rfl;rw [hs,put_zip];refine (compM_map (en:=enP) (g:=fun q=> .int (((q.1+f*q.2) % p:Nat):Int)) (xs:=List.zip u w) fun q hq=> ?_).trans (by simp [nl]);refine el_to (fg:=gTupD [gVar 2,gVar 3]) (ρ0:= [some (.val (.int (f:Int))),some (.val (.int (p:Int))),none,none]) (d:=enP q) (ρ1:= [some (.val (.int (f:Int))),some (.val (.int (p:Int))),some (.val (.int (q.1:Nat))),some (.val (.int (q.2:Nat)))]) (r:= .val (.int (((q.1+f*q.2) % p:Nat):Int))) rfl ?_;refine (bin_eq (op:=dMod) ((bin_eq (op:=dAdd) (a:= .val (.int (q.1:Nat))) rfl ((bin_eq (op:=dRep) (a:= .val (.int (f:Nat))) (b:= .val (.int (q.2:Nat))) rfl rfl).trans (mulS (cmL (by omega) (by omega))))).trans (show _=some (Sl.val (.int ((q.1:Int)+(f:Int)*(q.2:Int)))) from rfl)) (b:= .val (.int (p:Nat))) rfl).trans ((modS (by omega)).trans ?_);rw [Int.fmod_eq_emod_of_nonneg _ (by omega), <-Int.natCast_mul, <-Int.natCast_add];rfl
theorem run_mpt{p f:Nat}(hp:0<p)(p7:p<=7)(hf:f<=7){u w:List Nat}(hu:u.length<=900):m_q11 [.int (p:Int),tupN u, .int (f:Int),tupN w]=some (.val (tupN (Sp.put p u f w))):=by
 refine run_wp (ρ:= [some (.val (.int p)),some (.val (tupN u)),some (.val (.int f)),some (.val (tupN w))]) rfl rfl ?_;unfold b_q11;exact wp_ret (put_eval (jf:=2) (jp:=0) (ju:=1) (jw:=3) hp p7 hf hu rfl rfl rfl) rfl
theorem mults_snoc(p:Nat)(F:List Nat)(f:Nat)(M:List (List Nat))(w:List Nat):Sp.mults p (F ++ [f]) M w=Sp.mults p F M w++M.map fun u=>Sp.put p u f w:=by
 unfold Sp.mults;rw [List.flatMap_append];simp
theorem mults_len(p:Nat)(F:List Nat)(M:List (List Nat))(w:List Nat):(Sp.mults p F M w).length=F.length*M.length:=by
 induction F with
 | nil=>simp [Sp.mults]
 | cons f F ih=>
  unfold Sp.mults at ih ⊢
  rw [List.flatMap_cons,List.length_append,ih,List.length_map,List.length_cons,Nat.succ_mul,Nat.add_comm]
theorem run_mpts{p:Nat}(hp:0<p)(p7:p<=7){M:List (List Nat)}{F w:List Nat}(hM:∀u ∈ M,u.length<=900)(hF:∀f ∈ F,f<=7)(hl:M.length<=125)(hl2:F.length<=7):m_q12 [.int (p:Int), .list (M.map tupN), .list (nl F),tupN w]=some (.own ((Sp.mults p F M w).map tupN)):=by
 have sl:=sl1000
 let P0:Option Sl:=some (.val (.int p))
 let MV:Option Sl:=some (.val (.list (M.map tupN)))
 let FV:Option Sl:=some (.val (.list (nl F)))
 let WV:Option Sl:=some (.val (tupN w))
 refine run_wp (ρ:= [P0,MV,FV,WV,none,none]) rfl rfl ?_;unfold b_q12;refine wp_asgS lstNil ?_;refine wp_seq (P:=fun ρ=>∃z,ρ = [P0,MV,FV,WV,some (.own ((Sp.mults p F M w).map tupN)),z]) ?_ (by rintro ρ ⟨z,rfl⟩;exact wp_ret rfl rfl);refine wp_forL (en:=enN) (xs:=F) (fun k ρ=>∃z,ρ = [P0,MV,FV,WV,some (.own ((Sp.mults p (F.take k) M w).map tupN)),z]) rfl ⟨_,rfl⟩ ?_ ?_
 . rintro k f ρ hk ⟨z,rfl⟩;have tk:F.take (k+1)=F.take k ++ [f]:=by rw [List.take_add_one,hk];rfl
   have hkl:=(List.getElem?_eq_some_iff.mp hk).1;refine ⟨_,rfl,?_⟩;refine wp_of (ext_to (ds:=(Sp.mults p (F.take k) M w).map tupN) (es:=(M.map fun u=>Sp.put p u f w).map tupN) (lc_to (ds:=M.map tupN) rfl (by rw [List.length_map];omega) ?_) rfl ?_) ⟨some (.val (.int (f:Nat))),?_⟩
   . refine (compM_map (g:=fun u=>tupN (Sp.put p u f w)) fun u hu=> ?_).trans (by rw [List.map_map];rfl);exact el_to (fg:=gVar 3) (ρ0:= [P0,some (.val (.int (f:Nat))),WV,none]) (d:=tupN u) (r:= .val (tupN (Sp.put p u f w))) rfl (call_to (ds:= [.int (p:Int),tupN u, .int (f:Int),tupN w]) rfl (run_mpt hp p7 (hF f (List.mem_of_getElem? hk)) (hM u hu)))
   . rw [List.length_map,mults_len,List.length_map,List.length_map,List.length_take];have h1:min k F.length*M.length<=7*125:=Nat.mul_le_mul (by omega) hl;omega
   . rw [tk,mults_snoc,List.map_append];rfl
 . rintro ρ ⟨z,rfl⟩;rw [List.take_of_length_le (Nat.le_refl _)];exact ⟨z,rfl⟩
def cN(w:List Nat):List Int:=w.map fun n:Nat=>(n:Int)
def uN(w:List Int):List Nat:=w.map Int.toNat
theorem uN_cN(w:List Nat):uN (cN w)=w:=by
 unfold uN cN;rw [List.map_map];exact (List.map_congr_left fun x _=>Int.toNat_natCast x).trans (List.map_id _)
theorem tupN_tI(w:List Nat):tupN w=tI (cN w):=by
 unfold tupN tI nl cN;rw [List.map_map];rfl
def srtW(M:List (List Nat)):List (List Nat):=(srtL (M.map cN)).map uN
theorem srtW_cN(M:List (List Nat)):(srtW M).map cN=srtL (M.map cN):=by
 unfold srtW;rw [List.map_map];refine (List.map_congr_left fun x hx=> ?_).trans (List.map_id _);obtain ⟨w,_,rfl⟩:=List.mem_map.mp ((srtL_perm _).mem_iff.mp hx);show cN (uN (cN w))=cN w;rw [uN_cN]
theorem srtW_perm(M:List (List Nat)):(srtW M).Perm M:=by
 have:=(srtL_perm (M.map cN)).map uN;rw [List.map_map] at this
 refine this.trans (List.Perm.of_eq ?_);exact (List.map_congr_left fun x _=>uN_cN x).trans (List.map_id _)
theorem srtW_eq{M T:List (List Nat)}(h:M.Perm T):srtW M=srtW T:=by
 unfold srtW;rw [srtL_eq ((srtL_perm (M.map cN)).trans (h.map cN)) (srtL_pair _)]
theorem sort_to{M:List (List Nat)}(hM:∀w ∈ M,w ≠ [])(hl:M.length<128){s:Sl}(hs:s.dat = .list (M.map tupN)):dSortT [s]=some (.own ((srtW M).map tupN)):=by
 have e1:M.map tupN=(M.map cN).map tI:=by rw [List.map_map];exact List.map_congr_left fun w _=>tupN_tI w
 have e2:(srtW M).map tupN=(srtL (M.map cN)).map tI:=by
  rw [<-srtW_cN,List.map_map];exact List.map_congr_left fun w _=>tupN_tI w
 unfold dSortT
 dsimp only
 rw [hs,e1];show ((tupsOf ((M.map cN).map tI)).bind fun nss=>if nss.length<128 then some (Sl.own ((srtL nss).map tI)) else none)=_;rw [tupsOf_map fun ns hn=> ?_,Option.bind_some,List.length_map,if_pos hl,e2];obtain ⟨w,hw,rfl⟩:=List.mem_map.mp hn;intro e;exact hM w hw (by have:=congrArg uN e;rwa [uN_cN] at this)
abbrev Pr (p:Nat):Prop:=p=2\/p=3\/p=5\/p=7
theorem ok_ne{p n:Nat}{w:List Nat}(h:Sp.Ok p n w)(n1:1<=n):w ≠ []:=fun e=>by
 have:=h.1;rw [e] at this
 simp at this
 omega
theorem span_snoc(p n:Nat)(W:List (List Nat))(w:List Nat):Sp.spanM p n (W ++ [w])=Sp.stepM p (Sp.spanM p n W) w:=by
 unfold Sp.spanM;rw [List.foldl_append];rfl
theorem spanT_snoc(p n:Nat)(W:List (List Nat))(w:List Nat):Sp.spanT p n (W ++ [w])=Sp.stepT p (Sp.spanT p n W) w:=by
 unfold Sp.spanT;rw [List.foldl_append];rfl
theorem run_span{p n:Nat}(hq:Pr p)(n1:1<=n)(n6:n<=6)(hpn:p ^ n<=125){W:List (List Nat)}(hW:∀w ∈ W,WdOk p n w):m_q14 [.int (p:Int), .int (n:Int), .list (W.map tupN)]=some (.own ((srtW (Sp.spanM p n W)).map tupN)):=by
 have sl:=sl1000;have hp:0<p:=by omega
 have p7:p<=7:=by omega
 let P0:Option Sl:=some (.val (.int p))
 let N1:Option Sl:=some (.val (.int n))
 let WV:Option Sl:=some (.val (.list (W.map tupN)))
 refine run_wp (ρ:= [P0,N1,WV,none,none]) rfl rfl ?_;unfold b_q14;refine wp_asgS (r:= .own [tupN (Sp.zero n)]) (lst1 (a:= .val (tupN (Sp.zero n))) (call_to (ds:= [.int (n:Int)]) rfl (run_nought n1 (by omega)))) ?_
 have facts:∀k,Sp.Cl p n (Sp.spanM p n (W.take k))/\(Sp.spanM p n (W.take k)).Nodup/\(Sp.spanM p n (W.take k)).length<=125:=fun k=>by
  obtain ⟨a,b,_,_⟩:=Sp.span_take (n:=n) hq (W:=W.take k) fun w hw=>hW w (List.mem_of_mem_take hw);exact ⟨a,b,Nat.le_trans (Sp.len_le b a.ok) hpn⟩
 refine wp_seq (P:=fun ρ=>∃z,ρ = [P0,N1,WV,some (.own ((Sp.spanM p n W).map tupN)),z]) ?_ ?_
 . refine wp_forL (en:=tupN) (xs:=W) (fun k ρ=>∃z,ρ = [P0,N1,WV,some (.own ((Sp.spanM p n (W.take k)).map tupN)),z]) rfl ⟨_,rfl⟩ ?_ ?_
   . rintro k w ρ hk ⟨z,rfl⟩;have tk:W.take (k+1)=W.take k ++ [w]:=by rw [List.take_add_one,hk];rfl
     obtain ⟨f1,f2,f3⟩:=facts k;rw [tk,span_snoc];generalize Sp.spanM p n (W.take k)=M at f1 f2 f3
     have tn:(mTest (mBin (dInD true) (mPk 4) (mPk 3))) [P0,N1,WV,some (.own (M.map tupN)),some (.val (tupN w))]=some (decide (w ∉ M)):=test_eq ((bin_eq (op:=dInD true) (a:= .val (tupN w)) (b:= .own (M.map tupN)) rfl rfl).trans (notin_tup w M));refine ⟨_,rfl,?_⟩
     by_cases hin:w ∈ M
     . refine wp_ifF (tn.trans (by rw [decide_eq_false (by simpa using hin)])) (wp_next ⟨some (.val (tupN w)),?_⟩);have e:Sp.stepM p M w=M:=by unfold Sp.stepM;rw [if_pos hin]
       rw [e];rfl
     . refine wp_ifT (tn.trans (by rw [decide_eq_true hin])) (wp_frz (wp_asg (r:= .own ((Sp.stepM p M w).map tupN)) ?_ ⟨some (.val (tupN w)),rfl⟩));have e:Sp.stepM p M w=Sp.mults p (List.range p) M w:=by unfold Sp.stepM;rw [if_neg hin]
       rw [e]
       have lr:mLR (mPk 0) [P0,N1,WV,some (.val (.list (M.map tupN))),some (.val (tupN w))]=some (.own (nl (List.range p))):=by
        unfold mLR;show (if 0<=((p:Nat):Int)/\((p:Nat):Int)<=1000 then _ else _)=_;rw [if_pos ⟨by omega,by omega⟩,Int.toNat_natCast];rfl
       exact call_to (ds:= [.int (p:Int), .list (M.map tupN), .list (nl (List.range p)),tupN w]) (cons_to (a:= .val (.int p)) rfl (cons_to (a:= .val (.list (M.map tupN))) rfl (cons_to lr (cons_to (a:= .val (tupN w)) (as:= []) rfl rfl)))) (run_mpts hp p7 (fun u hu=>by rw [(f1.ok u hu).1];omega) (fun f hf=>by have:=List.mem_range.mp hf;omega) f3 (by rw [List.length_range];exact p7))
   . rintro ρ ⟨z,rfl⟩;rw [List.take_of_length_le (Nat.le_refl _)];exact ⟨z,rfl⟩
 . rintro ρ ⟨z,rfl⟩;obtain ⟨f1,f2,f3⟩:=facts W.length;rw [List.take_of_length_le (Nat.le_refl _)] at f1 f2 f3
   exact wp_ret (callP_to (ss:= [.own ((Sp.spanM p n W).map tupN)]) rfl (sort_to (fun w hw=>ok_ne (f1.ok w hw) n1) (by omega) rfl)) rfl
theorem run_lspan{p n:Nat}(hq:Pr p)(n1:1<=n)(n6:n<=6)(hpn:p ^ n<=125){W:List (List Nat)}(hW:∀w ∈ W,WdOk p n w):m_q6 [.int (p:Int), .int (n:Int), .list (W.map tupN)]=some (.own ((srtW (Sp.spanT p n W)).map tupN)):=by
 have sl:=sl1000;have hp:0<p:=by omega
 have p7:p<=7:=by omega
 let P0:Option Sl:=some (.val (.int p))
 let N1:Option Sl:=some (.val (.int n))
 let WV:Option Sl:=some (.val (.list (W.map tupN)))
 refine run_wp (ρ:= [P0,N1,WV,none,none,none,none,none,none]) rfl rfl ?_;unfold b_q6;refine wp_asgS (r:= .own [tupN (Sp.zero n)]) (lst1 (a:= .val (tupN (Sp.zero n))) ((bin_eq (op:=dRepT) (tup1 (a:= .val (.int 0)) rfl) (b:= .val (.int n)) rfl).trans (repT_one 0 n1 (by omega)))) ?_
 have facts:∀k,(∀u ∈ Sp.spanT p n (W.take k),Sp.Ok p n u)/\(Sp.spanT p n (W.take k)).Nodup/\(Sp.spanT p n (W.take k)).length<=125:=fun k=>by
  obtain ⟨a,_,b,c⟩:=Sp.span_take (n:=n) hq (W:=W.take k) fun w hw=>hW w (List.mem_of_mem_take hw);have ok:∀u ∈ Sp.spanT p n (W.take k),Sp.Ok p n u:=fun u hu=>a.ok u ((c u).mpr hu);exact ⟨ok,b,Nat.le_trans (Sp.len_le b ok) hpn⟩
 refine wp_seq (P:=fun ρ=>∃(s3:Sl) (z4 z5 z6 z7 z8:Option Sl),s3.dat = .list ((Sp.spanT p n W).map tupN)/\ρ = [P0,N1,WV,some s3,z4,z5,z6,z7,z8]) ?_ ?_
 . refine wp_forL (en:=tupN) (xs:=W) (fun k ρ=>∃(s3:Sl) (z4 z5 z6 z7 z8:Option Sl),(s3 = .own ((Sp.spanT p n (W.take k)).map tupN)\/s3 = .val (.list ((Sp.spanT p n (W.take k)).map tupN)))/\ρ = [P0,N1,WV,some s3,z4,z5,z6,z7,z8]) rfl ⟨_,_,_,_,_,_, .inl rfl,rfl⟩ ?_ ?_
   . rintro k w ρ hk ⟨s3,z4,z5,z6,z7,z8,hs3,rfl⟩;have tk:W.take (k+1)=W.take k ++ [w]:=by rw [List.take_add_one,hk];rfl
     have okw:Sp.Ok p n w:=hW w (List.mem_of_getElem? hk);obtain ⟨f1,f2,f3⟩:=facts k;rw [tk,spanT_snoc];generalize Sp.spanT p n (W.take k)=T at hs3 f1 f2 f3
     let W4:Option Sl:=some (.val (tupN w))
     let TV:Option Sl:=some (.val (.list (T.map tupN)))
     refine ⟨_,rfl,?_⟩;refine wp_asgS (r:= .own (T.map tupN)) (callP_to (ss:= [s3]) rfl (by rcases hs3 with rfl | rfl <;> rfl)) ?_;show Wp _ [P0,N1,WV,some s3,W4,some (.own (T.map tupN)),z6,z7,z8] _;refine wp_seq (P:=fun ρ=>∃(s3:Sl) (z6 z7 z8:Option Sl),ρ = [P0,N1,WV,some s3,W4,some (.own ((Sp.stepT p T w).map tupN)),z6,z7,z8]) ?_ ?_
     . refine wp_forR (lo:=((1:Nat):Int)) (n:=p - 1) (fun j ρ=>∃(s3:Sl) (z6 z7 z8:Option Sl),(s3 = .own (T.map tupN)\/s3 = .val (.list (T.map tupN)))/\ρ = [P0,N1,WV,some s3,W4,some (.own (((Sp.mults p (List.range' 1 j) T w).foldl Sp.addT T).map tupN)),z6,z7,z8]) (rng2_to (i:=1) (j:=p) rfl (by decide) (by omega)) ⟨s3,_,_,_,hs3,rfl⟩ ?_ ?_
       . rintro j ρ hj ⟨s3,z6,z7,z8,hs3,rfl⟩;refine ⟨_,rfl,wp_frz ?_⟩
         let J6:Option Sl:=some (.val (.int ((1+j:Nat):Int)))
         have ej:((1:Nat):Int)+((j:Nat):Int)=((1+j:Nat):Int):=by omega
         have fz:frz1 3 [P0,N1,WV,some s3,W4,some (.own (((Sp.mults p (List.range' 1 j) T w).foldl Sp.addT T).map tupN)),J6,z7,z8] = [P0,N1,WV,TV,W4,some (.own (((Sp.mults p (List.range' 1 j) T w).foldl Sp.addT T).map tupN)),J6,z7,z8]:=by rcases hs3 with rfl | rfl <;> rfl
         show Wp _ (frz1 3 [P0,N1,WV,some s3,W4,some (.own (((Sp.mults p (List.range' 1 j) T w).foldl Sp.addT T).map tupN)),some (.val (.int (((1:Nat):Int)+((j:Nat):Int)))),z7,z8]) _;rw [ej,fz];have er:List.range' 1 (j+1)=List.range' 1 j ++ [1+j]:=by rw [List.range'_1_concat]
         rw [er];refine wp_forL (en:=tupN) (xs:=T) (fun i ρ=>∃(z7 z8:Option Sl),ρ = [P0,N1,WV,TV,W4,some (.own (((Sp.mults p (List.range' 1 j) T w++(T.take i).map fun u=>Sp.put p u (1+j) w).foldl Sp.addT T).map tupN)),J6,z7,z8]) rfl ⟨_,_,by rw [List.take_zero,List.map_nil,List.append_nil]⟩ ?_ ?_
         . rintro i u ρ hi ⟨z7,z8,rfl⟩;have ti:T.take (i+1)=T.take i ++ [u]:=by rw [List.take_add_one,hi];rfl
           have oku:=f1 u (List.mem_of_getElem? hi)
           have ea:(Sp.mults p (List.range' 1 j) T w++(T.take (i+1)).map fun u=>Sp.put p u (1+j) w).foldl Sp.addT T=Sp.addT ((Sp.mults p (List.range' 1 j) T w++(T.take i).map fun u=>Sp.put p u (1+j) w).foldl Sp.addT T) (Sp.put p u (1+j) w):=by
            rw [ti,List.map_append, <-List.append_assoc,List.foldl_append];rfl
           obtain ⟨g1,g2⟩:=Sp.addT_fold (Sp.mults p (List.range' 1 j) T w++(T.take i).map fun u=>Sp.put p u (1+j) w) T f2
           have gl:((Sp.mults p (List.range' 1 j) T w++(T.take i).map fun u=>Sp.put p u (1+j) w).foldl Sp.addT T).length<=125:=by
            refine Nat.le_trans (Sp.len_le (p:=p) (n:=n) g1 fun x hx=> ?_) hpn;rcases (g2 x).mp hx with hx | hx
            . exact f1 x hx
            . rcases List.mem_append.mp hx with hx | hx
              . obtain ⟨f,_,v,hv,rfl⟩:=Sp.mem_mults.mp hx;exact Sp.put_ok hp (f1 v hv).1 okw.1 f
              . obtain ⟨v,hv,rfl⟩:=List.mem_map.mp hx;exact Sp.put_ok hp (f1 v (List.mem_of_mem_take hv)).1 okw.1 _
           rw [ea];generalize (Sp.mults p (List.range' 1 j) T w++(T.take i).map fun u=>Sp.put p u (1+j) w).foldl Sp.addT T=acc at gl
           refine ⟨_,rfl,?_⟩;refine wp_asgS (r:= .val (tupN (Sp.put p u (1+j) w))) (put_eval (jf:=6) (jp:=0) (ju:=7) (jw:=4) hp p7 (by omega) (by rw [oku.1];omega) rfl rfl rfl) ?_;generalize Sp.put p u (1+j) w=x
           let U7:Option Sl:=some (.val (tupN u))
           let X8:Option Sl:=some (.val (tupN x))
           show Wp _ [P0,N1,WV,TV,W4,some (.own (acc.map tupN)),J6,U7,X8] _;have tn:(mTest (mBin (dInD true) (mPk 8) (mPk 5))) [P0,N1,WV,TV,W4,some (.own (acc.map tupN)),J6,U7,X8]=some (decide (x ∉ acc)):=test_eq ((bin_eq (op:=dInD true) (a:= .val (tupN x)) (b:= .own (acc.map tupN)) rfl rfl).trans (notin_tup x acc))
           by_cases hin:x ∈ acc
           . refine wp_ifF (tn.trans (by rw [decide_eq_false (by simpa using hin)])) (wp_next ⟨U7,X8,?_⟩);have e:Sp.addT acc x=acc:=by unfold Sp.addT;rw [if_pos hin]
             rw [e]
           . refine wp_ifT (tn.trans (by rw [decide_eq_true hin])) (wp_frz (wp_of (app_to (r:= .val (tupN x)) (ds:=acc.map tupN) rfl rfl (by rw [List.length_map];omega)) ⟨U7,X8,?_⟩));have e:Sp.addT acc x=acc ++ [x]:=by unfold Sp.addT;rw [if_neg hin]
             rw [e,List.map_append];rfl
         . rintro ρ ⟨z7,z8,rfl⟩;rw [List.take_of_length_le (Nat.le_refl _), <-mults_snoc];exact ⟨.val (.list (T.map tupN)),_,_,_, .inr rfl,rfl⟩
       . rintro ρ ⟨s3,z6,z7,z8,_,rfl⟩;exact ⟨s3,z6,z7,z8,rfl⟩
     . rintro ρ ⟨s3,z6,z7,z8,rfl⟩;exact wp_frz (wp_asg (r:= .val (.list ((Sp.stepT p T w).map tupN))) rfl ⟨_,_,_,_,_,_, .inr rfl,rfl⟩)
   . rintro ρ ⟨s3,z4,z5,z6,z7,z8,hs3,rfl⟩;rw [List.take_of_length_le (Nat.le_refl _)] at hs3
     exact ⟨s3,z4,z5,z6,z7,z8,by rcases hs3 with rfl | rfl <;> rfl,rfl⟩
 . rintro ρ ⟨s3,z4,z5,z6,z7,z8,hs3,rfl⟩;obtain ⟨f1,f2,f3⟩:=facts W.length;rw [List.take_of_length_le (Nat.le_refl _)] at f1 f2 f3
   exact wp_ret (callP_to (ss:= [s3]) rfl (sort_to (fun w hw=>ok_ne (f1 w hw) n1) (by omega) hs3)) rfl
theorem in_tup(e:List Nat)(M:List (List Nat)):inD false (tupN e) (M.map tupN)=some (.val (.bool (decide (e ∈ M)))):=by
 have dt:=dep_tup e;unfold inD;rw [if_pos ⟨lay_tup e,by simp [lay_tup],by omega⟩];congr 3
 simp only [List.any_map]
 have:(M.any ((fun d=>PyData.eqv d (tupN e)) ∘ tupN))=decide (e ∈ M):=by
  induction M with
  | nil=>simp
  | cons m M ih=>
   rw [List.any_cons,ih];show (PyData.eqv (tupN m) (tupN e) || _)=_;rw [eqv_tup]
   by_cases h:m=e
   . subst h;simp
   . have h':e≠m:=fun z=>h z.symm;simp [h,h']
 rw [this];simp
def hidL(p n:Nat)(U:List (List Nat))(e:List Nat):List (List Nat):=srtW (Sp.mults p (List.range' 1 (p - 1)) (srtW (Sp.spanM p n U)) e)
theorem sqx_nx{f:En->Option Out}{g:En->Option (Option Out)}{ρ ρ':En}(h:f ρ=some (.nx ρ')):mSqx (mLf f) g ρ=g ρ':=by
 unfold mSqx mLf;rw [h];rfl
theorem sqx_t{c:En->Option Bool}{f:En->Option (Option Out)}{g:En->Option (Option Out)}{ρ:En}(h:c ρ=some true)(k:f ρ=some none):mSqx (mIfx c f (mLf mNext)) g ρ=some none:=by
 unfold mSqx mIfx;rw [h];show Option.bind (f ρ) _=_;rw [k];rfl
theorem sqx_f{c:En->Option Bool}{f:En->Option (Option Out)}{g:En->Option (Option Out)}{ρ:En}(h:c ρ=some false):mSqx (mIfx c f (mLf mNext)) g ρ=g ρ:=by
 unfold mSqx mIfx;rw [h];rfl
theorem runX_to {n k : Nat} {g : En -> Option (Option Out)} {ds : List PyData} {ρ : En} (hl : ds.length = k) (e : ds.map (fun d => some (Sl.val d)) ++ List.replicate (n - ds.length) none = ρ) : runX n g k ds = (g ρ).bind fun o => match o with
 | some (.rt r _)=>some (some r)
 | some (.nx _)=>some (some (.val .none))
 | none=>some none
 | _=>none:=by
 unfold runX;rw [if_pos hl,e];all_goals rfl
theorem digs_nl:∀ {l:List Nat},(∀r ∈ l,r<10)->digs (nl l)=true
 | [],_=>rfl
 | a::r,h=>by
  have:=h a (by simp);show (decide (0<=((a:Nat):Int)) && decide (((a:Nat):Int)<10) && digs (nl r))=true;rw [digs_nl fun x hx=>h x (by simp [hx]),decide_eq_true (by omega),decide_eq_true (by omega)];rfl
theorem run_hides {p n : Nat} (hq : Pr p) (n1 : 1 <= n) (n6 : n <= 6) (hpn : p ^ n <= 125) {U : List (List Nat)} (hU : ∀ w ∈ U, WdOk p n w) {e : List Nat} (he : WdOk p n e) :
 m_q10 [.int (p:Int), .list (U.map tupN),tupN e]=some (if e ∈ Sp.spanM p n U then none else some (.own ((hidL p n U e).map tupN))):=by
 have sl:=sl1000;have hp:0<p:=by omega
 have p7:p<=7:=by omega
 obtain ⟨cl,nd,_,_⟩:=Sp.span_take (n:=n) hq hU;have rs:=run_span hq n1 n6 hpn hU
 let F:=List.range' 1 (p - 1)
 have hF:∀f ∈ F,f<p:=fun f hf=>by have:=List.mem_range'_1.mp hf;omega
 have lenS:(srtW (Sp.spanM p n U)).length=(Sp.spanM p n U).length:=(srtW_perm _).length_eq;have okS:∀u ∈ srtW (Sp.spanM p n U),Sp.Ok p n u:=fun u hu=>cl.ok u ((srtW_perm _).mem_iff.mp hu)
 have okM:∀w ∈ Sp.mults p F (srtW (Sp.spanM p n U)) e,Sp.Ok p n w:=fun w hw=>by
  obtain ⟨f,_,u,hu,rfl⟩:=Sp.mem_mults.mp hw;exact Sp.put_ok hp (okS u hu).1 he.1 f
 have lS:(Sp.spanM p n U).length<=125:=Nat.le_trans (Sp.len_le nd cl.ok) hpn
 let P0:Option Sl:=some (.val (.int p))
 let U1:Option Sl:=some (.val (.list (U.map tupN)))
 let E2:Option Sl:=some (.val (tupN e))
 let M3:Option Sl:=some (.own ((srtW (Sp.spanM p n U)).map tupN))
 let M3v:Option Sl:=some (.val (.list ((srtW (Sp.spanM p n U)).map tupN)))
 unfold m_q10;rw [runX_to (n:=4) (k:=3) (g:=b_q10) (ds:= [.int (p:Int), .list (U.map tupN),tupN e]) (ρ:= [P0,U1,E2,none]) rfl rfl]
 have eb:b_q10 [P0,U1,E2,none]=some (if e ∈ Sp.spanM p n U then none else some (.rt (.own ((hidL p n U e).map tupN)) [P0,U1,E2,M3v])):=by
  unfold b_q10
  rw [sqx_nx (ρ':= [P0,U1,E2,M3]) (asg_to (ρ:= [P0,U1,E2,none]) (call_to (ds:= [.int (p:Int), .int (n:Int), .list (U.map tupN)]) (cons_to (a:= .val (.int p)) rfl (cons_to (a:= .val (.int (n:Int))) (callP_to (ss:= [.val (tupN e)]) rfl (by
   show some (Sl.val (.int (((nl e).length:Nat):Int)))=_;rw [nl_len,he.1])) (cons_to (a:= .val (.list (U.map tupN))) (as:= []) rfl rfl))) rs))]
  have tst:(mTest (mBin (dInD false) (mPk 2) (mPk 3))) [P0,U1,E2,M3]=some (decide (e ∈ srtW (Sp.spanM p n U))):=test_eq ((bin_eq (op:=dInD false) (a:= .val (tupN e)) (b:= .own ((srtW (Sp.spanM p n U)).map tupN)) rfl rfl).trans (in_tup e _))
  by_cases ne:e ∈ Sp.spanM p n U
  . rw [if_pos ne,sqx_t (tst.trans (by rw [decide_eq_true ((srtW_perm _).mem_iff.mpr ne)]))];show (if digs (nl e)=true/\(nl e).length<=1000 then some (none:Option Out) else none)=_;rw [if_pos ⟨digs_nl fun r hr=>by have:=he.2 r hr;omega,by rw [nl_len,he.1];omega⟩]
  . rw [if_neg ne,sqx_f (tst.trans (by rw [decide_eq_false fun h=>ne ((srtW_perm _).mem_iff.mp h)]))]
    have lenM:(Sp.mults p F (srtW (Sp.spanM p n U)) e).length<=125:=by
     have ndM:=Sp.mults_nodup hq cl nd he ne (F:=F) List.nodup_range' hF
     have:=Sp.len_le ndM (n:=n) (p:=p) fun w hw=>by
      obtain ⟨f,_,u,hu,rfl⟩:=Sp.mem_mults.mp hw;exact Sp.put_ok hp (cl.ok u hu).1 he.1 f
     rw [mults_len] at this ⊢
     rw [lenS];omega
    have lr:mLR2 (mK (.int 1)) (mPk 0) [P0,U1,E2,M3v]=some (.own (nl F)):=by
     show (if 0<=(1:Int)/\(1:Int)<=((p:Nat):Int)/\((p:Nat):Int)<=1000 then some (Sl.own ((List.range (((p:Nat):Int) - 1).toNat).map fun k:Nat=>PyData.int (1+(k:Int)))) else none)=_;rw [if_pos ⟨by decide,by omega,by omega⟩,show (((p:Nat):Int) - 1).toNat=p - 1 by omega];unfold F nl;rw [List.range'_eq_map_range,List.map_map];congr 2
    have er:(mRet (mCallP dSortT (mConsP (mCall m_q12 (mCons (mVar 0) (mCons (mVar 3) (mCons (mLR2 (mK (.int 1)) (mPk 0)) (mCons (mVar 2) mNil))))) mNilP))) [P0,U1,E2,M3v]=some (.rt (.own ((hidL p n U e).map tupN)) [P0,U1,E2,M3v]):=ret_to (ρ:= [P0,U1,E2,M3v]) (callP_to (ss:= [.own ((Sp.mults p F (srtW (Sp.spanM p n U)) e).map tupN)]) (consP_to (as:= []) (call_to (ds:= [.int (p:Int), .list ((srtW (Sp.spanM p n U)).map tupN), .list (nl F),tupN e]) (cons_to (a:= .val (.int p)) rfl (cons_to (a:= .val (.list ((srtW (Sp.spanM p n U)).map tupN))) rfl (cons_to lr (cons_to (a:= .val (tupN e)) (as:= []) rfl rfl)))) (run_mpts hp p7 (fun u hu=>by rw [(okS u hu).1];omega) (fun f hf=>by have:=hF f hf;omega) (by omega) (by unfold F;rw [List.length_range'];omega))) rfl) (sort_to (fun w hw=>ok_ne (okM w hw) n1) (by omega) rfl));show Option.map some (mRet _ [P0,U1,E2,M3v])=_;rw [er];rfl
 rw [eb]
 by_cases ne:e ∈ Sp.spanM p n U
 . rw [if_pos ne,if_pos ne];rfl
 . rw [if_neg ne,if_neg ne];rfl
theorem try_to{jf jg jn:Nat}{F:List PyData->Option (Option Sl)}{f:En->Option (List PyData)}{ρ:En}{ds:List PyData}{z:Sl}(h:f ρ=some ds)(k:F ds=some (some z)):mTry jf jg jn F f ρ=some (.nx (ρ.set jf (some z))):=by
 unfold mTry;rw [h,Option.bind_some,k];rfl
theorem try_no{jf jg jn:Nat}{F:List PyData->Option (Option Sl)}{f:En->Option (List PyData)}{ρ:En}{ds:List PyData}(h:f ρ=some ds)(k:F ds=some none):mTry jf jg jn F f ρ=some (.nx ((ρ.set jn none).set jg (some (.val xD)))):=by
 unfold mTry;rw [h,Option.bind_some,k];rfl
theorem run_right {p n : Nat} (hq : Pr p) (n1 : 1 <= n) (n6 : n <= 6) (hpn : p ^ n <= 125) {W : List (List Nat)} (hWl : W.length <= 900) (hW : ∀ w ∈ W, WdOk p n w) {e : List Nat} (he : WdOk p n e) :
 m_q4 [.int (p:Int), .int (n:Int), .list (W.map tupN),tupN e]=some (.val (.bool true)):=by
 have sl:=sl1000;have hp:0<p:=by omega
 have p7:p<=7:=by omega
 have hls:=run_lspan hq n1 n6 hpn hW;rw [<-srtW_eq (Sp.span_perm hq hW)] at hls
 have hh:=run_hides hq n1 n6 hpn hW he;obtain ⟨cl,nd,_,_⟩:=Sp.span_take (n:=n) hq hW;have lW:=lay_tl W;have dW:(PyData.list (W.map tupN)).depth<=60:=by have:=dep_tl W;omega
 have okG:∀u ∈ srtW (Sp.spanM p n W),Sp.Ok p n u:=fun u hu=>cl.ok u ((srtW_perm _).mem_iff.mp hu);have lenG:(srtW (Sp.spanM p n W)).length<=125:=by rw [(srtW_perm _).length_eq];exact Nat.le_trans (Sp.len_le nd cl.ok) hpn
 have memG:e ∈ srtW (Sp.spanM p n W)↔e ∈ Sp.spanM p n W:=(srtW_perm _).mem_iff
 let P0:Option Sl:=some (.val (.int p))
 let N1:Option Sl:=some (.val (.int n))
 let W2:Option Sl:=some (.val (.list (W.map tupN)))
 let E3:Option Sl:=some (.val (tupN e))
 let G4:Option Sl:=some (.own ((srtW (Sp.spanM p n W)).map tupN))
 let G4v:Option Sl:=some (.val (.list ((srtW (Sp.spanM p n W)).map tupN)))
 let H5:Option Sl:=some (.val (.list (W.map tupN)))
 let NN:Option Sl:=some (.val .none)
 refine run_wp (ρ:= [P0,N1,W2,E3,none,none,none,none,none,none,none]) rfl rfl ?_;unfold b_q4;refine wp_asgS (r:= .own ((srtW (Sp.spanM p n W)).map tupN)) (call_to (ds:= [.int p, .int n, .list (W.map tupN)]) rfl hls) (wp_asgS (r:= .own (W.map tupN)) rfl ?_);refine wp_seqN (ρ':= [P0,N1,W2,E3,G4,some (.own (W.map tupN)),NN,none,none,none,none]) rfl (wp_asgS (r:= .val .none) rfl ?_);have tin:∀z6 z7 z8 z9 z10,(mTest (mBin (dInD false) (mPk 3) (mPk 4))) [P0,N1,W2,E3,G4,H5,z6,z7,z8,z9,z10]=some (decide (e ∈ srtW (Sp.spanM p n W))):=fun _ _ _ _ _=>test_eq ((bin_eq (op:=dInD false) (a:= .val (tupN e)) (b:= .own ((srtW (Sp.spanM p n W)).map tupN)) rfl rfl).trans (in_tup e _));have tne:∀z6 z7 z8 z9 z10,(mTest (mBin dne (mPk 5) (mPk 2))) [P0,N1,W2,E3,G4,H5,z6,z7,z8,z9,z10]=some false:=fun _ _ _ _ _=>ne_same (a:= .val (.list (W.map tupN))) (b:= .val (.list (W.map tupN))) rfl rfl rfl lW dW
 by_cases ne:e ∈ Sp.spanM p n W
 . rw [if_pos ne] at hh
   refine wp_seqN (ρ':= [P0,N1,W2,E3,G4,H5,some (.val xD),NN,none,none,none]) ?_ ?_
   . rw [frz_eq];exact try_no (ρ:= [P0,N1,W2,E3,G4,H5,NN,NN,none,none,none]) (ds:= [.int p, .list (W.map tupN),tupN e]) rfl hh
   refine wp_skip (tne _ _ _ _ _) ?_;exact wp_seqG (wp_ifT ((tin _ _ _ _ _).trans (by rw [decide_eq_true (memG.mpr ne)])) (wp_ret (r:= .val (.bool true)) rfl rfl))
 . rw [if_neg ne] at hh
   let F7:Option Sl:=some (.own ((hidL p n W e).map tupN))
   refine wp_seqN (ρ':= [P0,N1,W2,E3,G4,H5,NN,F7,none,none,none]) ?_ ?_
   . rw [frz_eq];exact try_to (ρ:= [P0,N1,W2,E3,G4,H5,NN,NN,none,none,none]) (ds:= [.int p, .list (W.map tupN),tupN e]) rfl hh
   refine wp_skip (tne _ _ _ _ _) (wp_skip ((tin _ _ _ _ _).trans (by rw [decide_eq_false fun h=>ne (memG.mp h)])) ?_);refine wp_asgS (r:= .own []) lstNil ?_
   let G:=srtW (Sp.spanM p n W)
   have lenM:∀j,j<=p - 1->(Sp.mults p (List.range' 1 j) G e).length<=1000:=fun j hj=>by
    rw [mults_len,List.length_range'];have:j*G.length<=7*125:=Nat.mul_le_mul (by omega) lenG;omega
   refine wp_seq (P:=fun ρ=>∃(s4 z9:Option Sl),ρ = [P0,N1,W2,E3,s4,H5,NN,F7,some (.own ((Sp.mults p (List.range' 1 (p - 1)) G e).map tupN)),z9,none]) ?_ ?_
   . refine wp_forR (lo:=((1:Nat):Int)) (n:=p - 1) (fun j ρ=>∃(s4:Sl) (z9:Option Sl),(s4 = .own (G.map tupN)\/s4 = .val (.list (G.map tupN)))/\ρ = [P0,N1,W2,E3,some s4,H5,NN,F7,some (.own ((Sp.mults p (List.range' 1 j) G e).map tupN)),z9,none]) (rng2_to (i:=1) (j:=p) rfl (by decide) (by omega)) ⟨_,_, .inl rfl,rfl⟩ ?_ ?_
     . rintro j ρ hj ⟨s4,z9,hs4,rfl⟩;refine ⟨_,rfl,wp_frz ?_⟩
       let J9:Option Sl:=some (.val (.int ((1+j:Nat):Int)))
       have ej:((1:Nat):Int)+((j:Nat):Int)=((1+j:Nat):Int):=by omega
       have fz:frz1 4 [P0,N1,W2,E3,some s4,H5,NN,F7,some (.own ((Sp.mults p (List.range' 1 j) G e).map tupN)),J9,none] = [P0,N1,W2,E3,G4v,H5,NN,F7,some (.own ((Sp.mults p (List.range' 1 j) G e).map tupN)),J9,none]:=by rcases hs4 with rfl | rfl <;> rfl
       show Wp _ (frz1 4 [P0,N1,W2,E3,some s4,H5,NN,F7,some (.own ((Sp.mults p (List.range' 1 j) G e).map tupN)),some (.val (.int (((1:Nat):Int)+((j:Nat):Int)))),none]) _;rw [ej,fz];have er:List.range' 1 (j+1)=List.range' 1 j ++ [1+j]:=by rw [List.range'_1_concat]
       rw [er,mults_snoc];refine wp_asg (r:= .own ((Sp.mults p (List.range' 1 j) G e).map tupN++G.map fun u=>tupN (Sp.put p u (1+j) e))) ?_ ⟨_,_, .inr rfl,by rw [List.map_append,List.map_map];rfl⟩;refine (bin_eq (op:=dAdd) (a:= .own ((Sp.mults p (List.range' 1 j) G e).map tupN)) rfl (b:= .own (G.map fun u=>tupN (Sp.put p u (1+j) e))) ?_).trans (add_own rfl rfl ?_)
       . refine lc_to (ds:=G.map tupN) rfl (by rw [List.length_map];show (srtW (Sp.spanM p n W)).length<_;omega) ?_;refine compM_map (en:=tupN) (g:=fun u=>tupN (Sp.put p u (1+j) e)) (xs:=G) fun u hu=> ?_;refine el_to (fg:=gVar 3) (ρ0:= [E3,J9,P0,none]) (d:=tupN u) (ρ1:= [E3,J9,P0,some (.val (tupN u))]) (r:= .val (tupN (Sp.put p u (1+j) e))) rfl ?_;exact put_eval (jf:=1) (jp:=2) (ju:=3) (jw:=0) hp p7 (by omega) (by rw [(okG u hu).1];omega) rfl rfl rfl
       . have:=lenM j (by omega);rw [List.length_map,List.length_map];have:G.length<=125:=lenG;have h24:sizeLine=2 ^ 24:=rfl;omega
     . rintro ρ ⟨s4,z9,_,rfl⟩;exact ⟨_,_,rfl⟩
   . rintro ρ ⟨s4,z9,rfl⟩;refine wp_frz ?_;show Wp _ [P0,N1,W2,E3,s4,H5,NN,some (.val (.list ((hidL p n W e).map tupN))),some (.own ((Sp.mults p (List.range' 1 (p - 1)) G e).map tupN)),z9,none] _
     have okM:∀w ∈ Sp.mults p (List.range' 1 (p - 1)) G e,Sp.Ok p n w:=fun w hw=>by
      obtain ⟨f,_,u,hu,rfl⟩:=Sp.mem_mults.mp hw;exact Sp.put_ok hp (okG u hu).1 he.1 f
     have lenM2:(Sp.mults p (List.range' 1 (p - 1)) G e).length<128:=by
      have hF:∀f ∈ List.range' 1 (p - 1),f<p:=fun f hf=>by have:=List.mem_range'_1.mp hf;omega
      have ndM:=Sp.mults_nodup hq cl nd he ne (F:=List.range' 1 (p - 1)) List.nodup_range' hF
      have:=Sp.len_le ndM (n:=n) (p:=p) fun w hw=>by
       obtain ⟨f,_,u,hu,rfl⟩:=Sp.mem_mults.mp hw;exact Sp.put_ok hp (cl.ok u hu).1 he.1 f
      rw [mults_len] at this ⊢
      have e2:G.length=(Sp.spanM p n W).length:=(srtW_perm _).length_eq;rw [e2];omega
     have hsrt:=sort_to (M:=Sp.mults p (List.range' 1 (p - 1)) G e) (s:= .own ((Sp.mults p (List.range' 1 (p - 1)) G e).map tupN)) (fun w hw=>ok_ne (okM w hw) n1) lenM2 rfl;refine wp_ret (andV_to rfl (call_to (ds:= [.list ((hidL p n W e).map tupN), .list ((hidL p n W e).map tupN)]) (cons_to (a:= .val (.list ((hidL p n W e).map tupN))) rfl (cons_to (a:= .own ((hidL p n W e).map tupN)) (as:= []) (callP_to rfl hsrt) rfl)) (run_lines fun x hx=> ?_))) rfl;have:=okM x ((srtW_perm _).mem_iff.mp hx);rw [this.1];omega
theorem law_true(ns:List Int)(hns:ns.length<=63):m_law [.list (ns.map .int)]=some (.val (.bool true)):=by
 have sl:=sl1000
 let S:Option Sl:=some (.val (.list (ns.map .int)))
 have hlen:=cells_len ns
 let CV:Option Sl:=some (.val (.list (il (cellsOf ns))))
 refine run_wp (ρ:= [S,none,none,none,none,none,none,none,none]) rfl rfl ?_;unfold b_law;refine wp_asgS (run_cells (n:=0) rfl) (wp_asgS (r:= .val (.int 0)) rfl ?_);refine wp_seq (P:=fun _=>True) ?_ (fun ρ _=>wp_ret (r:= .val (.bool true)) rfl rfl)
 refine wp_while (fun ρ=>∃(s1:Sl) (a:Nat) (z3 z4 z5 z6 z7 z8:Option Sl),ρ = [S,some s1,some (.val (.int (a:Nat))),z3,z4,z5,z6,z7,z8]/\(s1 = .own (il (cellsOf ns))\/s1 = .val (.list (il (cellsOf ns))))/\a<=1000)
  (fun ρ=>match ρ with | [_,_,some (.val (.int a)),_,_,_,_,_,_]=>(64 - a).toNat | _=>0) ⟨_,0,_,_,_,_,_,_,rfl, .inl rfl,by decide⟩ ?_
 rintro ρ ⟨s1,a,z3,z4,z5,z6,z7,z8,rfl,hs,ha⟩;have ds:s1.dat = .list (il (cellsOf ns)):=by rcases hs with rfl | rfl <;> rfl
 have tst:(mTest (mBin dLt (mPk 2) (mCallP dLen (mConsP (mPk 1) mNilP)))) [S,some s1,some (.val (.int (a:Nat))),z3,z4,z5,z6,z7,z8]=some (decide ((a:Int)<((cellsOf ns).length:Nat))):=by
  refine test_eq ((bin_eq (op:=dLt) (a:= .val (.int (a:Nat))) rfl (callP_to (ss:= [s1]) rfl (r:= .val (.int (((cellsOf ns).length:Nat):Int))) ?_)).trans rfl);rcases hs with rfl | rfl <;> exact congrArg (fun n:Nat=>some (Sl.val (.int (n:Int)))) (il_len _)
 by_cases hlt:a<(cellsOf ns).length
 . right;refine ⟨tst.trans (by rw [decide_eq_true (by omega)]),?_⟩;have gc:(cellsOf ns)[a]? = some (cellsOf ns)[a]:=List.getElem?_eq_getElem hlt;generalize (cellsOf ns)[a]=c at gc
   obtain ⟨p,n,m,W,em,hp,n1,n6,hpn,hm,hWl,hW⟩:=run_made (cs:=cellsOf ns) (by omega) hlt (most:=3) (by decide);have p2:2<=p:=by omega
   have p7:p<=7:=by omega
   let A2:Option Sl:=some (.val (.int (a:Nat)))
   let B2:Option Sl:=some (.val (.int ((a+1+m:Nat):Int)))
   let C3:Option Sl:=some (.val (.int c))
   let P6:Option Sl:=some (.val (.int p))
   let N7:Option Sl:=some (.val (.int n))
   let W8:Option Sl:=some (.val (.list (W.map tupN)))
   have hls:=run_lspan hp n1 n6 hpn hW;rw [<-srtW_eq (Sp.span_perm hp hW)] at hls
   obtain ⟨cl,nd,_,_⟩:=Sp.span_take (n:=n) hp hW;have okG:∀x ∈ srtW (Sp.spanM p n W),WdOk p n x:=fun x hx=>cl.ok x ((srtW_perm _).mem_iff.mp hx)
   have neG:0<(srtW (Sp.spanM p n W)).length:=by
    rw [(srtW_perm _).length_eq];exact List.length_pos_of_mem cl.z
   generalize srtW (Sp.spanM p n W)=G at hls okG neG
   refine wp_asgS (r:= .val (.int c)) ((bin_eq (op:=dix) (a:=s1) (b:= .val (.int (a:Nat))) rfl rfl).trans (dix_nat (.inl ds) (by unfold il;rw [List.getElem?_map,gc];rfl))) ?_;have fz:frz1 1 [S,some s1,A2,C3,z4,z5,z6,z7,z8] = [S,CV,A2,C3,z4,z5,z6,z7,z8]:=by rcases hs with rfl | rfl <;> rfl
   refine wp_seqN (ρ':= [S,CV,B2,C3,z4,z5,P6,N7,W8]) ?_ ?_
   . rw [frz_eq];show mAsgT _ _ (frz1 1 [S,some s1,A2,C3,z4,z5,z6,z7,z8])=_;rw [fz];exact asgT_to (call_to (ds:= [.list (il (cellsOf ns)), .int (a:Nat), .int (3:Nat)]) rfl em) rfl
   obtain ⟨x,ex,okx⟩:=run_word c (k:=7) (by decide) p2 p7 n6;refine wp_seqN (ρ':= [S,CV,B2,C3,some (.val (tupN x)),z5,P6,N7,W8]) ?_ ?_
   . rw [frz_eq];exact asg_to (ρ:= [S,CV,B2,C3,z4,z5,P6,N7,W8]) (call_to (ds:= [.int c, .int (7:Nat), .int p, .int n]) rfl ex)
   refine wp_asgS (r:= .own (G.map tupN)) (call_to (ds:= [.int p, .int n, .list (W.map tupN)]) rfl hls) ?_
   let G5:Option Sl:=some (.own (G.map tupN))
   refine wp_seq (P:=fun ρ=>∃x,WdOk p n x/\ρ = [S,CV,B2,C3,some (.val (tupN x)),G5,P6,N7,W8]) ?_ ?_
   . have t1 : ∀ x : List Nat, (mTest (mBin deq (mBin dMod (mBin dFdiv (mPk 3) (mK (.int 5))) (mK (.int 4))) (mK (.int 1)))) [S, CV, B2, C3, some (.val (tupN x)), G5, P6, N7, W8] = some (decide ((c.fdiv 5).fmod 4 = 1)) := fun x =>
      test_eq ((bin_eq (op:=deq) ((bin_eq (op:=dMod) ((bin_eq (op:=dFdiv) (a:= .val (.int c)) (b:= .val (.int 5)) rfl rfl).trans (div_k (by decide) (by decide))) (b:= .val (.int 4)) rfl).trans (modS (by decide))) (b:= .val (.int 1)) rfl).trans (deq_int _ _))
     refine wp_if (t1 x) ?_
     by_cases h1:(c.fdiv 5).fmod 4=1
     . rw [if_pos (decide_eq_true h1)]
       obtain ⟨v,ev,hv⟩:=mod_nat (fa:=mBin dFdiv (mPk 3) (mK (.int 20))) (fb:=mCallP dLen (mConsP (mPk 5) mNilP)) (ρ:= [S,CV,B2,C3,some (.val (tupN x)),G5,P6,N7,W8]) (i:=c.fdiv 20) (m:=((G.length:Nat):Int)) ((bin_eq (op:=dFdiv) (a:= .val (.int c)) (b:= .val (.int 20)) rfl rfl).trans (div_k (by decide) (by decide))) (callP_to (ss:= [.own (G.map tupN)]) rfl (by
        show some (Sl.val (.int (((G.map tupN).length:Nat):Int)))=_;rw [List.length_map])) (by omega)
       have hv':v<G.length:=by omega
       have gv:G[v]? = some G[v]:=List.getElem?_eq_getElem hv';have ogv:=okG _ (List.mem_of_getElem? gv);refine wp_asg (r:= .val (tupN G[v])) ((bin_eq (op:=dix) (a:= .own (G.map tupN)) (b:= .val (.int (v:Nat))) rfl ev).trans (dix_nat (.inl rfl) (by rw [List.getElem?_map,gv];rfl))) ⟨_,ogv,rfl⟩
     . rw [if_neg (by rw [decide_eq_false h1];decide)];exact wp_next ⟨x,okx,rfl⟩
   . rintro ρ ⟨x,okx,rfl⟩;refine wp_seq (P:=fun ρ=>∃x,WdOk p n x/\ρ = [S,CV,B2,C3,some (.val (tupN x)),G5,P6,N7,W8]) ?_ ?_
     . have t2 : (mTest (mBin deq (mBin dMod (mBin dFdiv (mPk 3) (mK (.int 5))) (mK (.int 8))) (mK (.int 2)))) [S, CV, B2, C3, some (.val (tupN x)), G5, P6, N7, W8] = some (decide ((c.fdiv 5).fmod 8 = 2)) :=
        test_eq ((bin_eq (op:=deq) ((bin_eq (op:=dMod) ((bin_eq (op:=dFdiv) (a:= .val (.int c)) (b:= .val (.int 5)) rfl rfl).trans (div_k (by decide) (by decide))) (b:= .val (.int 8)) rfl).trans (modS (by decide))) (b:= .val (.int 2)) rfl).trans (deq_int _ _))
       refine wp_if t2 ?_
       by_cases h2:(c.fdiv 5).fmod 8=2
       . rw [if_pos (decide_eq_true h2)];refine wp_asg (r:= .val (tupN (List.replicate n 0))) ((bin_eq (op:=dRepT) (tup1 (a:= .val (.int 0)) rfl) (b:= .val (.int n)) rfl).trans (repT_one 0 n1 (by omega))) ⟨List.replicate n 0,⟨List.length_replicate,fun r hr=>by rw [(List.mem_replicate.mp hr).2];omega⟩,rfl⟩
       . rw [if_neg (by rw [decide_eq_false h2];decide)];exact wp_next ⟨x,okx,rfl⟩
     . rintro ρ ⟨x,okx,rfl⟩;have hr:=run_right hp n1 n6 hpn (W:=W) (by omega) hW okx;refine wp_of (o:= .nx [S,CV,B2,C3,some (.val (tupN x)),G5,P6,N7,W8]) ?_ ⟨⟨.val (.list (il (cellsOf ns))),a+1+m,_,_,_,_,_,_,rfl, .inr rfl,by omega⟩,?_⟩
       . rw [frz_eq];exact if_to (b:=false) (not_to (k:=true) (test_eq (call_to (ds:= [.int p, .int n, .list (W.map tupN),tupN x]) rfl hr))) rfl
       . show (64 - ((a+1+m:Nat):Int)).toNat<(64 - ((a:Nat):Int)).toNat;omega
 . left;exact ⟨tst.trans (by rw [decide_eq_false (by omega)]),trivial⟩
abbrev Na_ (K:PySem.W.Frag) (n:Str) (f:Addr):Prop:=PySem.W.nsIn K mainGlobals n=some (some (.ref f))
abbrev Nz_ (K:PySem.W.Frag) (n:Str):Prop:=PySem.W.nsIn K mainGlobals n=some none
abbrev Co_ (K:PySem.W.Frag) (c:Value) (n:Str):Prop:=PySem.W.codeIn K c n=true
abbrev Ke_ (K:PySem.W.Frag) (f:Addr):Prop:=PySem.W.keepIn K (.ref f)=true
abbrev Lo_ (K:PySem.W.Frag) (f:Addr) (oc:Value) (od:Option Addr) (n q:Str) (s:Stmt) (kV dc pm:Value) (an:Option Addr) (cd ct:Value) (sl:Array (Option Value)):Prop:=K.lookup f=some ⟨oc,od, .func (PySem.W.fnOf n q (defArgs s) (defBody s) (defScope s) .none kV dc pm an cd ct),sl⟩
local macro_rules | `(tactic| walk_at "u1") => `(tactic| exact fun _ _ _ _ _ _ us hl => match us, hl with | [_], _ => rfl)
local macro_rules | `(tactic| walk_at "u2") => `(tactic| exact fun _ _ _ _ _ _ us hl => match us, hl with | [_, _], _ => rfl)
local macro_rules | `(tactic| walk_at "u3") => `(tactic| exact fun _ _ _ _ _ _ us hl => match us, hl with | [_, _, _], _ => rfl)
local macro_rules | `(tactic| walk_at "u4") => `(tactic| exact fun _ _ _ _ _ _ us hl => match us, hl with | [_, _, _, _], _ => rfl)
theorem all_mk {l : PySem.W.OpenLaw} {w : World} {K : PySem.W.Frag} {h : Heap} {mg : Str -> Option Value} {fa f1 f2 f3 f4 f5 f6 f7 f8 f9 f10 f11 f12 f13 f14 f15 f16 c_TrialError c_NoEffect c_NoText c_NoRow c_NoThing c_NoFit : Addr} {od1 an1 od2 an2 od3 an3 od4 an4 od5 an5 od6 an6 od7 an7 od8 an8 od9 an9 od10 an10 od11 an11 od12 an12 od13 an13 od14 an14 od15 an15 od16 an16 dd_x od_x e3_x e4_x : Option Addr} {sl1 sl2 sl3 sl4 sl5 sl6 sl7 sl8 sl9 sl10 sl11 sl12 sl13 sl14 sl15 sl16 sl_x e9_x ea_x : Array (Option Value)} {oc1 kV1 dc1 pm1 cd1 ct1 oc2 kV2 dc2 pm2 cd2 ct2 oc3 kV3 dc3 pm3 cd3 ct3 oc4 kV4 dc4 pm4 cd4 ct4 oc5 kV5 dc5 pm5 cd5 ct5 oc6 kV6 dc6 pm6 cd6 ct6 oc7 kV7 dc7 pm7 cd7 ct7 oc8 kV8 dc8 pm8 cd8 ct8 oc9 kV9 dc9 pm9 cd9 ct9 oc10 kV10 dc10 pm10 cd10 ct10 oc11 kV11 dc11 pm11 cd11 ct11 oc12 kV12 dc12 pm12 cd12 ct12 oc13 kV13 dc13 pm13 cd13 ct13 oc14 kV14 dc14 pm14 cd14 ct14 oc15 kV15 dc15 pm15 cd15 ct15 oc16 kV16 dc16 pm16 cd16 ct16 oc_x e1_x e2_x : Value} {cd_x ct_x : ClassData} {k0_x k1_x k2_x k3_x k5_x : Option Value} {e5_x e6_x : Array DictEntry} {e7_x e8_x : Nat} (X : K.In h) (G : h.Ns mainGlobals mg) (hfa : mg "law" = some (.ref fa)) (hT : ∀ p ∈ (tbK [] K).map (·.2), h.get? p = some (PySem.W.tabObj #[]))
 (ax_TrialError:Na_ K "TrialError" c_TrialError)
 (ax_NoEffect:Na_ K "NoEffect" c_NoEffect)
 (ax_NoText:Na_ K "NoText" c_NoText)
 (ax_NoRow:Na_ K "NoRow" c_NoRow)
 (ax_NoThing:Na_ K "NoThing" c_NoThing)
 (ax_NoFit:Na_ K "NoFit" c_NoFit)
 (x_ga:PySem.W.findIn K (.ref c_NoEffect) "__getattribute__" = some (some (.builtin "BaseException.__getattribute__")))
 (x_gg:PySem.W.findIn K (.ref c_NoEffect) "__getattr__" = some none)
 (x_cl:PySem.W.findIn K (.ref c_NoEffect) "__class__" = some (some (.builtin "object.__class__")))
 (x_mo:PySem.W.mroIn K c_NoEffect (.type "object")=some true)
 (x_mb:PySem.W.mroIn K c_NoEffect (.type "BaseException")=some true)
 (x_gt:PySem.W.specialIn K (.builtin "object.__class__") "__get__" = some (some (.builtin "getset_descriptor.__get__")))
 (x_tk:PySem.W.takesIn K (.builtin "object.__class__")=some true)
 (xi_TrialError:PySem.W.isClsIn K c_TrialError=true)
 (xt_TrialError:PySem.W.typeIn K (.ref c_TrialError)=some (.type "type"))
 (xm_TrialError:PySem.W.mroIn K c_NoEffect (.ref c_TrialError)=some true)
 (xi_NoEffect:PySem.W.isClsIn K c_NoEffect=true)
 (xt_NoEffect:PySem.W.typeIn K (.ref c_NoEffect)=some (.type "type"))
 (xm_NoEffect:PySem.W.mroIn K c_NoEffect (.ref c_NoEffect)=some true)
 (xi_NoText:PySem.W.isClsIn K c_NoText=true)
 (xt_NoText:PySem.W.typeIn K (.ref c_NoText)=some (.type "type"))
 (xm_NoText:PySem.W.mroIn K c_NoEffect (.ref c_NoText)=some false)
 (xi_NoRow:PySem.W.isClsIn K c_NoRow=true)
 (xt_NoRow:PySem.W.typeIn K (.ref c_NoRow)=some (.type "type"))
 (xm_NoRow:PySem.W.mroIn K c_NoEffect (.ref c_NoRow)=some false)
 (xi_NoThing:PySem.W.isClsIn K c_NoThing=true)
 (xt_NoThing:PySem.W.typeIn K (.ref c_NoThing)=some (.type "type"))
 (xm_NoThing:PySem.W.mroIn K c_NoEffect (.ref c_NoThing)=some false)
 (xi_NoFit:PySem.W.isClsIn K c_NoFit=true)
 (xt_NoFit:PySem.W.typeIn K (.ref c_NoFit)=some (.type "type"))
 (xm_NoFit:PySem.W.mroIn K c_NoEffect (.ref c_NoFit)=some false)
 (r_n_NoText:(Value.ref c_NoEffect==Value.ref c_NoText)=false)
 (r_n_NoRow:(Value.ref c_NoEffect==Value.ref c_NoRow)=false)
 (r_n_NoThing:(Value.ref c_NoEffect==Value.ref c_NoThing)=false)
 (r_n_NoFit:(Value.ref c_NoEffect==Value.ref c_NoFit)=false)
 (xm_ValueError:PySem.W.mroIn K c_NoEffect (.type "ValueError")=some true)
 (x_eb:PySem.W.mroIn K c_TrialError (.type "BaseException")=some true)
 (xl_1:K.lookup c_NoEffect=some ⟨.type "type",dd_x, .cls cd_x, #[k0_x,k1_x,k2_x,k3_x,some (.builtin "ValueError.__new__"),k5_x]⟩)
 (r_mro:cd_x.mro = .ref c_NoEffect :: .ref c_TrialError::bmV)
 (r_del:cd_x.hasDel=false)
 (xl_2:K.lookup c_TrialError=some ⟨oc_x,od_x, .cls ct_x,sl_x⟩)
 (xl_3:K.lookup cd_x.ns=some ⟨e1_x,e3_x, .dict e5_x e7_x,e9_x⟩)
 (r_es1:(e5_x.toList.all fun e=>match e.key with | .str _ _=>true | _=>false)=true)
 (xn_1:PySem.W.nsIn K cd_x.ns "__init__" = some none)
 (xl_4:K.lookup ct_x.ns=some ⟨e2_x,e4_x, .dict e6_x e8_x,ea_x⟩)
 (r_es2:(e6_x.toList.all fun e=>match e.key with | .str _ _=>true | _=>false)=true)
 (xn_2:PySem.W.nsIn K ct_x.ns "__init__" = some none)
 (a1:Na_ K "_law_size" f1)
 (l1:Lo_ K f1 oc1 od1 "_law_size" "_law_size" s_q5 kV1 dc1 pm1 an1 cd1 ct1 sl1)
 (c1:Co_ K cd1 "_law_size")
 (k1:Ke_ K f1)
 (a2:Na_ K "_law_mixed" f2)
 (l2:Lo_ K f2 oc2 od2 "_law_mixed" "_law_mixed" s_q2 kV2 dc2 pm2 an2 cd2 ct2 sl2)
 (c2:Co_ K cd2 "_law_mixed")
 (k2:Ke_ K f2)
 (a3:Na_ K "_law_word" f3)
 (l3:Lo_ K f3 oc3 od3 "_law_word" "_law_word" s_q8 kV3 dc3 pm3 an3 cd3 ct3 sl3)
 (c3:Co_ K cd3 "_law_word")
 (k3:Ke_ K f3)
 (a4:Na_ K "_law_words" f4)
 (l4:Lo_ K f4 oc4 od4 "_law_words" "_law_words" s_q9 kV4 dc4 pm4 an4 cd4 ct4 sl4)
 (c4:Co_ K cd4 "_law_words")
 (k4:Ke_ K f4)
 (a5:Na_ K "_law_made" f5)
 (l5:Lo_ K f5 oc5 od5 "_law_made" "_law_made" s_q1 kV5 dc5 pm5 an5 cd5 ct5 sl5)
 (c5:Co_ K cd5 "_law_made")
 (k5:Ke_ K f5)
 (a6:Na_ K "_law_span" f6)
 (l6:Lo_ K f6 oc6 od6 "_law_span" "_law_span" s_q6 kV6 dc6 pm6 an6 cd6 ct6 sl6)
 (c6:Co_ K cd6 "_law_span")
 (k6:Ke_ K f6)
 (a7:Na_ K "nought_word" f7)
 (l7:Lo_ K f7 oc7 od7 "nought_word" "nought_word" s_q13 kV7 dc7 pm7 an7 cd7 ct7 sl7)
 (c7:Co_ K cd7 "nought_word")
 (k7:Ke_ K f7)
 (a8:Na_ K "multiple_put_to" f8)
 (l8:Lo_ K f8 oc8 od8 "multiple_put_to" "multiple_put_to" s_q11 kV8 dc8 pm8 an8 cd8 ct8 sl8)
 (c8:Co_ K cd8 "multiple_put_to")
 (k8:Ke_ K f8)
 (a9:Na_ K "multiples_put_to" f9)
 (l9:Lo_ K f9 oc9 od9 "multiples_put_to" "multiples_put_to" s_q12 kV9 dc9 pm9 an9 cd9 ct9 sl9)
 (c9:Co_ K cd9 "multiples_put_to")
 (k9:Ke_ K f9)
 (a10:Na_ K "span" f10)
 (l10:Lo_ K f10 oc10 od10 "span" "span" s_q14 kV10 dc10 pm10 an10 cd10 ct10 sl10)
 (c10:Co_ K cd10 "span")
 (k10:Ke_ K f10)
 (a11:Na_ K "hides" f11)
 (l11:Lo_ K f11 oc11 od11 "hides" "hides" s_q10 kV11 dc11 pm11 an11 cd11 ct11 sl11)
 (c11:Co_ K cd11 "hides")
 (k11:Ke_ K f11)
 (a12:Na_ K "_law_refusal" f12)
 (l12:Lo_ K f12 oc12 od12 "_law_refusal" "_law_refusal" s_q3 kV12 dc12 pm12 an12 cd12 ct12 sl12)
 (c12:Co_ K cd12 "_law_refusal")
 (k12:Ke_ K f12)
 (a13:Na_ K "_law_whole" f13)
 (l13:Lo_ K f13 oc13 od13 "_law_whole" "_law_whole" s_q7 kV13 dc13 pm13 an13 cd13 ct13 sl13)
 (c13:Co_ K cd13 "_law_whole")
 (k13:Ke_ K f13)
 (a14:Na_ K "_law_is_lines" f14)
 (l14:Lo_ K f14 oc14 od14 "_law_is_lines" "_law_is_lines" s_q0 kV14 dc14 pm14 an14 cd14 ct14 sl14)
 (c14:Co_ K cd14 "_law_is_lines")
 (k14:Ke_ K f14)
 (a15:Na_ K "_law_right" f15)
 (l15:Lo_ K f15 oc15 od15 "_law_right" "_law_right" s_q4 kV15 dc15 pm15 an15 cd15 ct15 sl15)
 (c15:Co_ K cd15 "_law_right")
 (k15:Ke_ K f15)
 (a16:Na_ K "law" f16)
 (l16:Lo_ K f16 oc16 od16 "law" "law" s_law kV16 dc16 pm16 an16 cd16 ct16 sl16)
 (c16:Co_ K cd16 "law")
 (k16:Ke_ K f16)
 (z0:Nz_ K "ValueError")
 (z1:Nz_ K "all")
 (z2:Nz_ K "bool")
 (z3:Nz_ K "e")
 (z4:Nz_ K "int")
 (z5:Nz_ K "isinstance")
 (z6:Nz_ K "len")
 (z7:Nz_ K "list")
 (z8:Nz_ K "range")
 (z9:Nz_ K "sorted")
 (z10:Nz_ K "sum")
 (z11:Nz_ K "tuple")
 (z12:Nz_ K "zip")
 : (∃o,K.lookup mainGlobals=some o)/\∃fd:FuncData,(∀(s:Shared) (v:Value),BindsTo s fd ⟨[v],[]⟩ [("_law_script",v)])/\∀base:Heap,(cutK K ((tbK [] K).map (·.2))).In base->base.Ns mainGlobals mg->(∀p ∈ tbK [] K,PySem.W.CodeHd base p.1 p.2)->BM base mg->FnOk l.prog w (cutK K ((tbK [] K).map (·.2))) mg base CX0 6 fa fd ["_law_script"] (spLaw (cutK K ((tbK [] K).map (·.2)))):=by
 have e:=hfa.symm.trans (PySem.W.mg_of X G a16)
 cases e
 have F_q5:=Fun_cut X hT (fun_mk (st:=s_q5) l1 c1 k1);have b_q5:=F_q5.binds (ps:= ["_law_cell"]) (by walk_at "u1");have F_q2:=Fun_cut X hT (fun_mk (st:=s_q2) l2 c2 k2);have b_q2:=F_q2.binds (ps:= ["_law_cell","_law_k"]) (by walk_at "u2");have F_q8:=Fun_cut X hT (fun_mk (st:=s_q8) l3 c3 k3);have b_q8:=F_q8.binds (ps:= ["_law_cell","_law_k","_law_p","_law_n"]) (by walk_at "u4");have F_q9:=Fun_cut X hT (fun_mk (st:=s_q9) l4 c4 k4);have b_q9:=F_q9.binds (ps:= ["_law_cells","_law_p","_law_n"]) (by walk_at "u3");have F_q1:=Fun_cut X hT (fun_mk (st:=s_q1) l5 c5 k5);have b_q1:=F_q1.binds (ps:= ["_law_cells","_law_at","_law_most"]) (by walk_at "u3");have F_q6:=Fun_cut X hT (fun_mk (st:=s_q6) l6 c6 k6);have b_q6:=F_q6.binds (ps:= ["_law_p","_law_n","_law_words_here"]) (by walk_at "u3");have F_q13:=Fun_cut X hT (fun_mk (st:=s_q13) l7 c7 k7);have b_q13:=F_q13.binds (ps:= ["n"]) (by walk_at "u1");have F_q11:=Fun_cut X hT (fun_mk (st:=s_q11) l8 c8 k8);have b_q11:=F_q11.binds (ps:= ["p","word","factor","other"]) (by walk_at "u4");have F_q12:=Fun_cut X hT (fun_mk (st:=s_q12) l9 c9 k9);have b_q12:=F_q12.binds (ps:= ["p","words","factors","other"]) (by walk_at "u4");have F_q14:=Fun_cut X hT (fun_mk (st:=s_q14) l10 c10 k10);have b_q14:=F_q14.binds (ps:= ["p","n","words"]) (by walk_at "u3");have F_q10:=Fun_cut X hT (fun_mk (st:=s_q10) l11 c11 k11);have b_q10:=F_q10.binds (ps:= ["p","words","effect"]) (by walk_at "u3");have F_q3:=Fun_cut X hT (fun_mk (st:=s_q3) l12 c12 k12);have b_q3:=F_q3.binds (ps:= ["_law_got"]) (by walk_at "u1");have F_q7:=Fun_cut X hT (fun_mk (st:=s_q7) l13 c13 k13);have b_q7:=F_q7.binds (ps:= ["_law_found"]) (by walk_at "u1");have F_q0:=Fun_cut X hT (fun_mk (st:=s_q0) l14 c14 k14);have b_q0:=F_q0.binds (ps:= ["_law_found","_law_due"]) (by walk_at "u2");have F_q4:=Fun_cut X hT (fun_mk (st:=s_q4) l15 c15 k15);have b_q4:=F_q4.binds (ps:= ["_law_p","_law_n","_law_words_here","_law_effect"]) (by walk_at "u4");have F_law:=Fun_cut X hT (fun_mk (st:=s_law) l16 c16 k16);have b_law:=F_law.binds (ps:= ["_law_script"]) (by walk_at "u1");have B:Bl mg:=⟨PySem.W.mg_none_of X G z0,PySem.W.mg_none_of X G z1,PySem.W.mg_none_of X G z2,PySem.W.mg_none_of X G z3,PySem.W.mg_none_of X G z4,PySem.W.mg_none_of X G z5,PySem.W.mg_none_of X G z6,PySem.W.mg_none_of X G z7,PySem.W.mg_none_of X G z8,PySem.W.mg_none_of X G z9,PySem.W.mg_none_of X G z10,PySem.W.mg_none_of X G z11,PySem.W.mg_none_of X G z12⟩;have u:=upK_cut X hT;have Y:Xf (cutK K ((tbK [] K).map (·.2))) mg c_TrialError c_NoEffect c_NoText c_NoRow c_NoThing c_NoFit:=⟨PySem.W.mg_of X G ax_TrialError,PySem.W.mg_of X G ax_NoEffect,PySem.W.mg_of X G ax_NoText,PySem.W.mg_of X G ax_NoRow,PySem.W.mg_of X G ax_NoThing,PySem.W.mg_of X G ax_NoFit,u.xcls ⟨x_ga,x_gg,x_cl,x_gt,x_tk,x_mo,x_mb,xi_NoEffect⟩,u.exc (exc_mk xl_1 r_mro r_del xl_2 ⟨⟨_,_,_,_,_,xl_3,r_es1⟩,xn_1⟩ ⟨⟨_,_,_,_,_,xl_4,r_es2⟩,xn_2⟩),u.exm (exm_mk x_eb xi_TrialError xt_TrialError xm_TrialError),u.kit (kit_f r_n_NoText xi_NoText xt_NoText xm_NoText),u.kit (kit_f r_n_NoRow xi_NoRow xt_NoRow xm_NoRow),u.kit (kit_f r_n_NoThing xi_NoThing xt_NoThing xm_NoThing),u.kit (kit_f r_n_NoFit xi_NoFit xt_NoFit xm_NoFit),u.kit kit_self,u.kit (kit_t xi_TrialError xt_TrialError xm_TrialError),u.kit (kit_b (by decide +kernel) xm_ValueError)⟩
 refine ⟨main_of a16,PySem.W.fnOf "law" "law" (defArgs s_law) (defBody s_law) (defScope s_law) .none kV16 dc16 pm16 an16 cd16 ct16,fun s v=> .of_eq rfl,fun base _ _ hC bm=> ?_⟩;have D_q5:Def l.prog w (cutK K ((tbK [] K).map (·.2))) mg base 1 "_law_size" ["_law_cell"] (spD (cutK K ((tbK [] K).map (·.2))) m_q5):=⟨_,_,ok_q5 B F_q5,PySem.W.mg_of X G a1,F_q5.kp,b_q5⟩;have D_q2:Def l.prog w (cutK K ((tbK [] K).map (·.2))) mg base 1 "_law_mixed" ["_law_cell","_law_k"] (spD (cutK K ((tbK [] K).map (·.2))) m_q2):=⟨_,_,ok_q2 B F_q2,PySem.W.mg_of X G a2,F_q2.kp,b_q2⟩;have D_q8:Def l.prog w (cutK K ((tbK [] K).map (·.2))) mg base 2 "_law_word" ["_law_cell","_law_k","_law_p","_law_n"] (spD (cutK K ((tbK [] K).map (·.2))) m_q8):=⟨_,_,ok_q8 B D_q2 F_q8,PySem.W.mg_of X G a3,F_q8.kp,b_q8⟩;have D_q9:Def l.prog w (cutK K ((tbK [] K).map (·.2))) mg base 3 "_law_words" ["_law_cells","_law_p","_law_n"] (spD (cutK K ((tbK [] K).map (·.2))) m_q9):=⟨_,_,ok_q9 B D_q8 F_q9,PySem.W.mg_of X G a4,F_q9.kp,b_q9⟩;have D_q1:Def l.prog w (cutK K ((tbK [] K).map (·.2))) mg base 4 "_law_made" ["_law_cells","_law_at","_law_most"] (spD (cutK K ((tbK [] K).map (·.2))) m_q1):=⟨_,_,ok_q1 B D_q5 D_q9 F_q1,PySem.W.mg_of X G a5,F_q1.kp,b_q1⟩;have D_q6:Def l.prog w (cutK K ((tbK [] K).map (·.2))) mg base 1 "_law_span" ["_law_p","_law_n","_law_words_here"] (spD (cutK K ((tbK [] K).map (·.2))) m_q6):=⟨_,_,ok_q6 B F_q6,PySem.W.mg_of X G a6,F_q6.kp,b_q6⟩;have D_q13:Def l.prog w (cutK K ((tbK [] K).map (·.2))) mg base 1 "nought_word" ["n"] (spD (cutK K ((tbK [] K).map (·.2))) m_q13):=⟨_,_,ok_q13 B F_q13,PySem.W.mg_of X G a7,F_q13.kp,b_q13⟩;have D_q11:Def l.prog w (cutK K ((tbK [] K).map (·.2))) mg base 1 "multiple_put_to" ["p","word","factor","other"] (spD (cutK K ((tbK [] K).map (·.2))) m_q11):=⟨_,_,ok_q11 B F_q11,PySem.W.mg_of X G a8,F_q11.kp,b_q11⟩;have D_q12:Def l.prog w (cutK K ((tbK [] K).map (·.2))) mg base 2 "multiples_put_to" ["p","words","factors","other"] (spD (cutK K ((tbK [] K).map (·.2))) m_q12):=⟨_,_,ok_q12 B D_q11 F_q12,PySem.W.mg_of X G a9,F_q12.kp,b_q12⟩;have D_q14:Def l.prog w (cutK K ((tbK [] K).map (·.2))) mg base 3 "span" ["p","n","words"] (spD (cutK K ((tbK [] K).map (·.2))) m_q14):=⟨_,_,ok_q14 B D_q13 D_q12 F_q14,PySem.W.mg_of X G a10,F_q14.kp,b_q14⟩;have D_q10:DefX l.prog w (cutK K ((tbK [] K).map (·.2))) mg base c_NoEffect 4 "hides" ["p","words","effect"] (spX (cutK K ((tbK [] K).map (·.2))) m_q10):=⟨_,_,ok_q10 B D_q14 D_q12 Y F_q10,PySem.W.mg_of X G a11,F_q10.kp,b_q10⟩;have D_q3:Def l.prog w (cutK K ((tbK [] K).map (·.2))) mg base 1 "_law_refusal" ["_law_got"] (spRef c_NoEffect):=⟨_,_,ok_q3 B Y F_q3,PySem.W.mg_of X G a12,F_q3.kp,b_q3⟩;have D_q7:Def l.prog w (cutK K ((tbK [] K).map (·.2))) mg base 1 "_law_whole" ["_law_found"] (spD (cutK K ((tbK [] K).map (·.2))) m_q7):=⟨_,_,ok_q7 B F_q7,PySem.W.mg_of X G a13,F_q7.kp,b_q7⟩;have D_q0:Def l.prog w (cutK K ((tbK [] K).map (·.2))) mg base 2 "_law_is_lines" ["_law_found","_law_due"] (spD (cutK K ((tbK [] K).map (·.2))) m_q0):=⟨_,_,ok_q0 B D_q7 F_q0,PySem.W.mg_of X G a14,F_q0.kp,b_q0⟩
 have D_q4:Def l.prog w (cutK K ((tbK [] K).map (·.2))) mg base 5 "_law_right" ["_law_p","_law_n","_law_words_here","_law_effect"] (spD (cutK K ((tbK [] K).map (·.2))) m_q4):=⟨_,_,ok_q4 B D_q6 D_q10 D_q3 D_q0 Y F_q4,PySem.W.mg_of X G a15,F_q4.kp,b_q4⟩;exact (ok_law B D_q1 D_q8 D_q6 D_q4 F_law).imp (fun vs H Q E h=>law_imp law_true h)
theorem walk {l : PySem.W.OpenLaw} {q : Program} {loose : List Str} {XP : (Str -> Option Value) -> Heap -> Prop} {YP : World -> Heap -> Prop} {d : DefRec} {K : Params -> PySem.W.Frag} (hn : l.most = some 63) (hdf : d.params.defaults = [])
 (hY:∀(w:World) (h:Heap),YP w h->(K w.params).In h)
 (hrec:∀y ∈ ([]:List Str),∃e,(PyProof.Rows.recsOf q).find? (fun e=>e.name==y)=some e)
 (F:∀(w:World) (mg:Str->Option Value) (fa:Addr) (h:Heap),(K w.params).In h->h.Ns mainGlobals mg->mg d.name=some (.ref fa)->(∀p ∈ (tbK [] (K w.params)).map (·.2),h.get? p=some (PySem.W.tabObj #[])) ->
  (∃o,(K w.params).lookup mainGlobals=some o)/\∃fd:FuncData,(∀(s:Shared) (u:Value),BindsTo s fd ⟨[u],[]⟩ [("_law_script",u)])/\∀base:Heap,(cutK (K w.params) ((tbK [] (K w.params)).map (·.2))).In base->base.Ns mainGlobals mg->(∀p ∈ tbK [] (K w.params),PySem.W.CodeHd base p.1 p.2)->BM base mg->FnOk l.prog w (cutK (K w.params) ((tbK [] (K w.params)).map (·.2))) mg base CX0 6 fa fd ["_law_script"] (spLaw (cutK (K w.params) ((tbK [] (K w.params)).map (·.2))))) :
 PySem.W.WalkO q loose XP YP l.row.toRowW d [] (fun f vs=>PySem.call f vs) :=
 walk_ofT (n:=63) (k:=6) (x:= "_law_script") (sp:=spLaw) hn (by decide) hdf ⟨rfl,by decide,by decide,rfl⟩ hY hrec F fun _ _ a ns hl hS=>⟨a,ns,rfl,hS,hl,fun _=>rfl⟩
end
end K23
namespace PySem.W.Fast
def tw13858776377941598530:=0
def tw8837631929203129852:=0
def tw3236915883280060546:=0
def tw9504284867649702887:=0
def tw13959797165079728014:=0
def tw8470761649396404337:=0
def tw7357008509975699301:=0
def tw5969397140033563928:=0
def tw4378856804520219735:=0
def tw8030238714840760940:=0
def tw8412118931100781950:=0
def tw10119641324423966592:=0
def tw12888783532553093793:=0
def tw4353015162625328307:=0
def tw17894469679995130629:=0
def tw16104429870535227082:=0
end PySem.W.Fast
open PySem PySem.W PyProof.Rows
set_option maxRecDepth 100000 in
set_option maxHeartbeats 0 in
theorem PySem.Challenge.cw_trialfield_k23_hides_holds : PySem.Challenge.rw_trialfield_k23_hides.Holds := by
 w_on;o_law;k_head;(case hw=>w_witness2)
 k_fill
 refine K23.walk (l := PySem.Challenge.rw_trialfield_k23_hides) rfl rfl (fun w h Y => PySem.W.kIn_of Y) ?R ?F
 case R=>
  intro y hy;exact absurd hy List.not_mem_nil
 case F=>
  intro w mg fa h KX G hmg hT;refine' K23.all_mk KX G hmg hT ?_ ?_ ?_ ?_ ?_ ?_ ?_ ?_ ?_ ?_ ?_ ?_ ?_ ?_ ?_ ?_ ?_ ?_ ?_ ?_ ?_ ?_ ?_ ?_ ?_ ?_ ?_ ?_ ?_ ?_ ?_ ?r_n_NoText ?r_n_NoRow ?r_n_NoThing ?r_n_NoFit ?_ ?_ ?_ ?r_mro ?r_del ?_ ?_ ?r_es1 ?_ ?_ ?r_es2 ?_ ?_ ?_ ?_ ?_ ?_ ?_ ?_ ?_ ?_ ?_ ?_ ?_ ?_ ?_ ?_ ?_ ?_ ?_ ?_ ?_ ?_ ?_ ?_ ?_ ?_ ?_ ?_ ?_ ?_ ?_ ?_ ?_ ?_ ?_ ?_ ?_ ?_ ?_ ?_ ?_ ?_ ?_ ?_ ?_ ?_ ?_ ?_ ?_ ?_ ?_ ?_ ?_ ?_ ?_ ?_ ?_ ?_ ?_ ?_ ?_ ?_ ?_ ?_ ?_ ?_ ?_ ?_ ?_ ?_ ?_ ?_ ?_ ?_ ?_ ?_ ?_ ?_
  all_goals (first | ((first | unfold K23.Na_ | unfold K23.Nz_ | unfold K23.Co_ | unfold K23.Ke_ | unfold K23.Lo_);k_is) | k_is | skip)
  (case r_n_NoText=>exact rfl)
  (case r_n_NoRow=>exact rfl)
  (case r_n_NoThing=>exact rfl)
  (case r_n_NoFit=>exact rfl)
  all_goals (first | ((first | unfold K23.Na_ | unfold K23.Nz_ | unfold K23.Co_ | unfold K23.Ke_ | unfold K23.Lo_);k_is) | k_is | skip)
  (case r_mro=>exact rfl)
  (case r_del=>exact rfl)
  all_goals (first | ((first | unfold K23.Na_ | unfold K23.Nz_ | unfold K23.Co_ | unfold K23.Ke_ | unfold K23.Lo_);k_is) | k_is | skip)
  (case r_es1=>exact rfl)
  all_goals (first | ((first | unfold K23.Na_ | unfold K23.Nz_ | unfold K23.Co_ | unfold K23.Ke_ | unfold K23.Lo_);k_is) | k_is | skip)
  (case r_es2=>exact rfl)
  all_goals (first | ((first | unfold K23.Na_ | unfold K23.Nz_ | unfold K23.Co_ | unfold K23.Ke_ | unfold K23.Lo_);k_is) | k_is | skip)
