import PyProof.Rows.All
import Wide.All
import OpenK.AllK
import Wide.FinOn
import Lean
import PyProof.EqAt
import PyProof.EqKinds
import PyProof.TupleCall
import PySem.Challenge.RW_trialfield_k83_squares
set_option Elab.async false
set_option linter.all false
set_option maxRecDepth 100000
set_option maxHeartbeats 4000000
namespace L2
open PySem PySem.Spec PyProof.Rows
abbrev Key:=Sum Int Str
def keyIs:Key->Value->Bool
 | .inl k,v=>Value.isInt k v
 | .inr x,v=>Value.isStrOf x v
def keyH(w:World):Key->Int
 | .inl k=>hashInt k
 | .inr x=>hashStr w x
theorem keyIs_shape:∀ {k:Key} {v:Value},keyIs k v=true->(∃i t,k=Sum.inl i/\v=Value.int i t)\/(∃x t,k=Sum.inr x/\v=Value.str x t)
 | .inl i,v,h=>by
  obtain ⟨t,e⟩:=Value.isInt_shape (k:=i) (v:=v) h
  exact .inl ⟨i,t,rfl,e⟩
 | .inr x,v,h=>by
  obtain ⟨t,e⟩:=Value.isStrOf_shape (x:=x) (v:=v) h;exact .inr ⟨x,t,rfl,e⟩
theorem keyIs_int(i:Int)(t:Tok):keyIs (.inl i) (.int i t)=true:=by simp [keyIs,Value.isInt]
theorem keyIs_str(x:Str)(t:Tok):keyIs (.inr x) (.str x t)=true:=by simp [keyIs,Value.isStrOf]
theorem key_ll(a b:Int):decide ((Sum.inl a:Key)=Sum.inl b)=(a==b):=by
 by_cases e:a=b
 . subst e;simp
 . have h:¬(Sum.inl a:Key)=Sum.inl b:=fun q=>e (Sum.inl.inj q);rw [decide_eq_false h];exact (beq_eq_false_iff_ne.mpr e).symm
theorem key_rr(a b:Str):decide ((Sum.inr a:Key)=Sum.inr b)=decide (a=b):=by
 by_cases e:a=b
 . subst e;simp
 . have h:¬(Sum.inr a:Key)=Sum.inr b:=fun q=>e (Sum.inr.inj q);rw [decide_eq_false h,decide_eq_false e]
theorem key_lr(a:Int)(b:Str):decide ((Sum.inl a:Key)=Sum.inr b)=false:=decide_eq_false (fun q=>nomatch q)
theorem key_rl(a:Str)(b:Int):decide ((Sum.inr a:Key)=Sum.inl b)=false:=decide_eq_false (fun q=>nomatch q)
def mixKind(prog:Program)(w:World):PySem.KeyKind prog w Key where
 is:=keyIs
 hash:=keyH w
 inj:=fun v a b ha hb=>by
  rcases keyIs_shape ha with ⟨i,t,rfl,rfl⟩ | ⟨x,t,rfl,rfl⟩
  . rcases keyIs_shape hb with ⟨j,u,rfl,e⟩ | ⟨y,u,rfl,e⟩
    . injection e with e1 _;rw [e1]
    . exact nomatch e
  . rcases keyIs_shape hb with ⟨j,u,rfl,e⟩ | ⟨y,u,rfl,e⟩
    . exact nomatch e
    . injection e with e1 _;rw [e1]
 byValue:=fun k v h=>by
  rcases keyIs_shape h with ⟨i,t,rfl,rfl⟩ | ⟨x,t,rfl,rfl⟩ <;> rfl
 pyHash:=fun hv h=>by
  rcases keyIs_shape hv with ⟨i,t,rfl,rfl⟩ | ⟨x,t,rfl,rfl⟩
  . exact wpAny_pyHash_int h
  . exact wpAny_pyHash_str h
 eqBool:=fun hu hv h=>by
  rcases keyIs_shape hu with ⟨i,t,rfl,rfl⟩ | ⟨x,t,rfl,rfl⟩
  . rcases keyIs_shape hv with ⟨j,u,rfl,rfl⟩ | ⟨y,u,rfl,rfl⟩
    . rw [key_ll] at h;exact wpAny_eqBool_int h
    . rw [key_lr] at h;exact SeqAt.EqAt.int_str i t y u _ _ _ _ h
  . rcases keyIs_shape hv with ⟨j,u,rfl,rfl⟩ | ⟨y,u,rfl,rfl⟩
    . rw [key_rl] at h;exact SeqAt.EqAt.str_int x t j u _ _ _ _ h
    . rw [key_rr] at h;exact wpAny_eqBool_str h
 «strs» := fun k x t v h => by
  rcases keyIs_shape h with ⟨i,u,rfl,e⟩ | ⟨y,u,rfl,e⟩
  . exact nomatch e
  . injection e with e1 _
    subst e1
    cases v <;> rfl
theorem mixKind_int(prog:Program)(w:World)(i:Int)(t:Tok):(mixKind prog w).is (.inl i) (.int i t)=true:=keyIs_int i t
theorem mixKind_str(prog:Program)(w:World)(x:Str)(t:Tok):(mixKind prog w).is (.inr x) (.str x t)=true:=keyIs_str x t
end L2
namespace L2
open PySem PySem.Spec PyProof.Rows
inductive V where
 | non | bl (b:Bool) | int (i:Int) | str (x:Str) | byt (b:Array UInt8) | flt (b:UInt64) | ref (a:Addr) | ty (n:String)
 deriving DecidableEq
def RelV:V->Value->Prop
 | .non,u=>u=Value.none
 | .bl b,u=>u=Value.bool b
 | .int i,u=>∃t,u=Value.int i t
 | .str x,u=>∃t,u=Value.str x t
 | .byt b,u=>∃t,u=Value.bytes b t
 | .flt b,u=>∃t,u=Value.float b t
 | .ref a,u=>u=Value.ref a
 | .ty n,u=>u=Value.type n
abbrev Vals:List V->List Value->Prop:=Paired RelV
theorem Vals.length{xs:List V}{us:List Value}(r:Vals xs us):xs.length=us.length:=Paired.length r
theorem Vals.get:∀ {xs:List V} {us:List Value} {i:Nat} {x:V},Vals xs us->xs[i]? = some x->∃u,us[i]? = some u/\RelV x u
 | _,_,_,_, .nil,e=>by simp at e
 | _,_,0,_, .cons r _,e=>by simp at e;subst e;exact ⟨_,rfl,r⟩
 | _,_,i+1,x, .cons _ t,e=>by
  obtain ⟨u,h1,h2⟩:=Vals.get (i:=i) (x:=x) t (by simpa using e);exact ⟨u,by simpa using h1,h2⟩
theorem Vals.set{x:V}{u:Value}(r:RelV x u):∀ {xs:List V} {us:List Value} (i:Nat),Vals xs us->Vals (xs.set i x) (us.set i u)
 | _,_,_, .nil=> .nil
 | _,_,0, .cons _ t=> .cons r t
 | _,_,i+1, .cons q t=> .cons q (Vals.set r i t)
theorem Vals.append:∀ {xs ys:List V} {us ws:List Value},Vals xs us->Vals ys ws->Vals (xs++ys) (us++ws)
 | _,_,_,_, .nil,s=>s
 | _,_,_,_, .cons r t,s=> .cons r (Vals.append t s)
theorem Vals.take:∀ {xs:List V} {us:List Value} (n:Nat),Vals xs us->Vals (xs.take n) (us.take n)
 | _,_,0,_=> .nil
 | _,_,_+1, .nil=> .nil
 | _,_,n+1, .cons r t=> .cons r (Vals.take n t)
theorem Vals.drop:∀ {xs:List V} {us:List Value} (n:Nat),Vals xs us->Vals (xs.drop n) (us.drop n)
 | _,_,0,r=>r
 | _,_,_+1, .nil=> .nil
 | _,_,n+1, .cons _ t=>Vals.drop n t
def RelO:Option V->Option Value->Prop
 | some v,some u=>RelV v u
 | none,none=>True
 | _,_=>False
def KV{κ:Type}:List (κ×V)->List (κ×Value)->Prop:=Paired fun (p:κ×V) (q:κ×Value)=>p.1=q.1/\RelV p.2 q.2
def kV:Key->V
 | .inl i=> .int i
 | .inr x=> .str x
inductive HO where
 | lst (xs:List V)
 | tup (xs:List V)
 | dK (kvs:List (Key×V)) | dT (kvs:List (List Key×V))
 | set (S:Int->Bool) (n:Nat)
 | ins (C dx:Addr) (fs:List (Str×V))
 | own (x:Addr)
 | xd (fs:List (Str×V))
 | met (f x:Addr)
 | rng (lo hi:Int)
 | frz (o:Obj) (u:HO)
 | tbl (ps:Array Value)
 | ext (φ:Heap->Prop)
abbrev Hp:=Addr->Option HO
def upd(H:Hp)(a:Addr)(o:HO):Hp:=fun b=>if b=a then some o else H b
theorem upd_same{H:Hp}{a:Addr}{o:HO}:upd H a o a=some o:=by unfold upd;rw [if_pos rfl]
theorem upd_ne{H:Hp}{a b:Addr}{o:HO}(h:b≠a):upd H a o b=H b:=by unfold upd;rw [if_neg h]
theorem ne_of{H:Hp}{a b:Addr}{o u:HO}(h:H a=some o)(h':H b=some u)(d:o≠u):a≠b:=by
 intro e;subst e;rw [h] at h';exact d (Option.some.inj h')
theorem ne_of_none{H:Hp}{a b:Addr}{o:HO}(h:H a=some o)(h':H b=none):a≠b:=by
 intro e;subst e;rw [h] at h';cases h'
section
variable (P:Program) (w:World)
def ObjOk(H:Hp)(h:Heap)(a:Addr):HO->Prop
 | .lst xs=>xs.length<=sizeLine/\∃(its:List Value) (n:Nat),Vals xs its/\h.get? a=some {cls:= .type "list",data:= .seq its.toArray n}
 | .tup xs=>xs.length<=sizeLine/\∃its:List Value,Vals xs its/\IsTup h a its.toArray
 | .dK kvs=>kvs.length<=sizeLine/\(a==sysModules)=false/\∃vs,KV kvs vs/\h.DictOf (mixKind P w) a vs
 | .dT kvs => kvs.length <= sizeLine /\ (a == sysModules) = false /\ ∃ xs : List (List Key × Addr × Value),
  Paired (fun (p:List Key×V) (q:List Key×Addr×Value)=>p.1=q.1/\H q.2.1=some (.tup (p.1.map kV))/\RelV p.2 q.2.2) kvs xs /\
  ∃o es ep,h.get? a=some o/\o.ExactDict/\o.data = .dict es ep/\es.toList=xs.map (entryOfKey (tupleKind (mixKind P w)))/\(xs.map (·.1)).Nodup
 | .set S n=>h.SetOf (intKind P w) a S n
 | .ins C dx fs => H dx = some (.own a) /\ fs.length <= 1000 /\ dx ≠ a /\ h.get? a = some (PySem.W.instObj C dx) /\
  ∃mA,h.Ns1 dx mA/\(∀f,RelO (fs.lookup f) (mA f))/\PySem.Within mA (fs.map (·.1))
 | .own _=>∃o,h.get? a=some o
 | .xd fs=>∃mA,h.Ns1 a mA/\∀f,RelO (fs.lookup f) (mA f)
 | .rng lo hi=>∃t u v,h.get? a=some {cls:= .type "range",data:= .fields #[.int lo t, .int hi u, .int 1 v]}
 | .frz o u=>h.get? a=some o/\ObjOk H h a u
 | .tbl _=>∃qs:Array Value,h.get? a=some {cls:= .none,data:= .fields qs}/\TriplesOk qs.toList/\∀pos v,codeAmong pos qs.toList=some v->∃c oc vs x,v=Value.ref c/\H c=some (.frz oc (.own 0))/\oc.data = .fields vs/\vs[1]? = some x
 | .met f x=>h.get? a=some (PySem.W.methodObj (.ref f) (.ref x))
 | .ext φ=>φ h/\(∃o,h.get? a=some o)/\∀h1 h2:Heap,φ h1->(∀o,h1.get? a=some o->h2.get? a=some o)->φ h2
def HOk(H:Hp)(h:Heap):Prop:=∀a o,H a=some o->ObjOk P w H h a o
end
section
variable {P:Program} {w:World} {H H':Hp} {h h':Heap} {a:Addr} {o:HO}
theorem ObjOk.lt(x:ObjOk P w H h a o):a<h.objs.size:=by
 cases o with
 | lst xs=>obtain ⟨_,_,_,_,e⟩:=x;exact Heap.lt_size e
 | tup xs=>obtain ⟨_,_,_,p⟩:=x;exact p.lt
 | dK kvs=>obtain ⟨_,_,_,_,o,_,_,e,_⟩:=x;exact Heap.lt_size e
 | dT kvs=>obtain ⟨_,_,_,_,o,_,_,e,_⟩:=x;exact Heap.lt_size e
 | set S n=>obtain ⟨o,_,_,_,e,_⟩:=x;exact Heap.lt_size e
 | ins C dx fs=>obtain ⟨_,_,_,e,_⟩:=x;exact Heap.lt_size e
 | own y=>obtain ⟨_,e⟩:=x;exact Heap.lt_size e
 | xd fs=>obtain ⟨_,⟨_,_,_,e,_⟩,_⟩:=x;exact Heap.lt_size e
 | rng lo hi=>obtain ⟨_,_,_,e⟩:=x;exact Heap.lt_size e
 | frz ob u=>obtain ⟨e,_⟩:=x;exact Heap.lt_size e
 | tbl ps=>obtain ⟨_,e,_⟩:=x;exact Heap.lt_size e
 | met f y=>exact Heap.lt_size (show h.get? a=some _ from x)
 | ext φ=>obtain ⟨_,⟨_,e⟩,_⟩:=x;exact Heap.lt_size e
theorem Paired.mapP{α β:Type}{F G:α->β->Prop}:∀ {l₁:List α} {l₂:List β},Paired F l₁ l₂->(∀a b,F a b->G a b)->Paired G l₁ l₂
 | _,_, .nil,_=> .nil
 | _,_, .cons r t,f=> .cons (f _ _ r) (Paired.mapP t f)
theorem ObjOk.stay (x : ObjOk P w H h a o) (k : ∀ b u, (b = a \/ H b = some (.own a)) -> h.get? b = some u -> h'.get? b = some u)
 (ho:∀b,H b=some (.own a)->H' b=some (.own a)) (ht:∀b xs,H b=some (.tup xs)->H' b=some (.tup xs)) (hf:∀b o u,H b=some (.frz o u)->H' b=some (.frz o u):=by exact fun _ _ _ q=>q):ObjOk P w H' h' a o:=by
 induction o with
 | lst xs=>obtain ⟨z,its,n,r,e⟩:=x;exact ⟨z,its,n,r,k _ _ (.inl rfl) e⟩
 | tup xs=>obtain ⟨z,its,r,ob,e,c⟩:=x;exact ⟨z,its,r,ob,k _ _ (.inl rfl) e,c⟩
 | dK kvs=>obtain ⟨z,y,vs,r,ob,es,ep,e,c⟩:=x;exact ⟨z,y,vs,r,ob,es,ep,k _ _ (.inl rfl) e,c⟩
 | dT kvs=>
  obtain ⟨z,y,xs,r,ob,es,ep,e,c⟩:=x
  exact ⟨z,y,xs,Paired.mapP r fun p q z=>⟨z.1,ht _ _ z.2.1,z.2.2⟩,ob,es,ep,k _ _ (.inl rfl) e,c⟩
 | set S n=>obtain ⟨ob,es,ep,t,e,c⟩:=x;exact ⟨ob,es,ep,t,k _ _ (.inl rfl) e,c⟩
 | ins C dx fs=>
  obtain ⟨d,z,ne,e,mA,⟨od,es,ep,e2,c⟩,r⟩:=x
  exact ⟨ho _ d,z,ne,k _ _ (.inl rfl) e,mA,⟨od,es,ep,k _ _ (.inr d) e2,c⟩,r⟩
 | own y=>obtain ⟨ob,e⟩:=x;exact ⟨ob,k _ _ (.inl rfl) e⟩
 | xd fs=>obtain ⟨mA,⟨od,es,ep,e,c⟩,r⟩:=x;exact ⟨mA,⟨od,es,ep,k _ _ (.inl rfl) e,c⟩,r⟩
 | rng lo hi=>obtain ⟨t,u,v,e⟩:=x;exact ⟨t,u,v,k _ _ (.inl rfl) e⟩
 | frz ob u ih=>obtain ⟨e,q⟩:=x;exact ⟨k _ _ (.inl rfl) e,ih q⟩
 | tbl ps=>obtain ⟨qs,e,t,c⟩:=x;exact ⟨qs,k _ _ (.inl rfl) e,t,fun pos v q=>let ⟨c',oc,vs,y,e1,e2,e3⟩:=c pos v q;⟨c',oc,vs,y,e1,hf _ _ _ e2,e3⟩⟩
 | met f y=>
  have e:h.get? a=some (PySem.W.methodObj (.ref f) (.ref y)):=x;show h'.get? a=some (PySem.W.methodObj (.ref f) (.ref y))
  exact k a _ (.inl rfl) e
 | ext φ=>obtain ⟨p,⟨o,e⟩,st⟩:=x;exact ⟨st _ _ p fun o q=>k _ _ (.inl rfl) q,⟨o,k _ _ (.inl rfl) e⟩,st⟩
theorem HOk.lt(x:HOk P w H h)(e:H a=some o):a<h.objs.size:=(x a o e).lt
theorem HOk.fresh(x:HOk P w H h)(e:h.objs.size<=a):H a=none:=by
 cases q:H a with
 | none=>rfl
 | some u=>exact absurd (Nat.lt_of_lt_of_le (x.lt q) e) (Nat.lt_irrefl _)
theorem HOk.kept(x:HOk P w H h)(k:∀b u,h.get? b=some u->h'.get? b=some u):HOk P w H h':=fun a o e=>
 (x a o e).stay (fun b u _ q=>k b u q) (fun _ q=>q) fun _ _ q=>q
theorem HOk.laid(x:HOk P w H h)(k:∀b u,h.get? b=some u->h'.get? b=some u)(hp:h.objs.size<=a)(new:ObjOk P w (upd H a o) h' a o):HOk P w (upd H a o) h':=fun b u e=>by
 have hn:=x.fresh hp
 by_cases hb:b=a
 . subst hb;rw [upd_same] at e;cases e;exact new
 . rw [upd_ne hb] at e
   exact (x b u e).stay (fun c v _ q=>k c v q) (fun c q=>by rw [upd_ne (ne_of_none q hn)];exact q) (fun c xs q=>by rw [upd_ne (ne_of_none q hn)];exact q) fun c ob xs q=>by rw [upd_ne (ne_of_none q hn)];exact q
end
def Rd(H:Hp)(a:Addr)(u:HO):Prop:=H a=some u\/∃o,H a=some (.frz o u)
theorem Rd.of{H:Hp}{a:Addr}{u:HO}(h:H a=some u):Rd H a u:= .inl h
theorem Rd.ok{P:Program}{w:World}{H:Hp}{h:Heap}{a:Addr}{u:HO}(r:Rd H a u)(x:HOk P w H h):ObjOk P w H h a u:=by
 rcases r with r | ⟨o,r⟩
 . exact x a u r
 . obtain ⟨_,q⟩:=x a _ r;exact q
def Mut:Option HO->Prop
 | some (.lst _)=>True
 | some (.dK _)=>True
 | some (.dT _)=>True
 | some (.set _ _)=>True
 | some (.ins _ _ _)=>True
 | some (.ext _)=>True
 | _=>False
section
variable {P:Program} {w:World} {H:Hp} {h h':Heap} {x e:Addr} {o':HO}
theorem HOk.write (ok : HOk P w H h) (mu : Mut (H x)) (he : e = x \/ H e = some (.own x)) (k : ∀ b u, b ≠ e -> h.get? b = some u -> h'.get? b = some u) (heo : ∃ u, h'.get? e = some u)
 (new:ObjOk P w (upd H x o') h' x o'):HOk P w (upd H x o') h':=fun b u q=>by
 have nown:∀c y,H c=some (.own y)->c≠x:=fun c y r z=>by subst z;rw [r] at mu;exact mu
 have ntup:∀c xs,H c=some (.tup xs)->c≠x:=fun c xs r z=>by subst z;rw [r] at mu;exact mu
 by_cases hb:b=x
 . subst hb;rw [upd_same] at q;cases q;exact new
 . rw [upd_ne hb] at q
   by_cases hbe:b=e
   . have q' : H b = some (.own x) := by
      rcases he with z | z
      . exact absurd (hbe.trans z) hb
      . rw [hbe];exact z
     rw [q] at q';cases q'
     obtain ⟨v,hv⟩:=heo;exact ⟨v,by rw [hbe];exact hv⟩
   . refine (ok b u q).stay (fun c v hc r=>k c v ?_ r) (fun c r=>by rw [upd_ne (nown c b r)];exact r) (fun c xs r=>by rw [upd_ne (ntup c xs r)];exact r) fun c ob xs r=>by rw [upd_ne (fun z=>by subst z;rw [r] at mu;exact mu)];exact r
     rcases hc with rfl | hc
     . exact hbe
     . rintro rfl;rcases he with z | z
       . exact nown c b hc z
       . rw [hc] at z;cases z;exact hb rfl
end
structure Un (fs ex:List Addr) (H H':Hp) (h h':Heap):Prop where
 keep:∀b o,h.get? b=some o->H b=none->b ∉ fs->b ∉ ex->h'.get? b=some o
 slot:∀b o,h.get? b=some o->H b=none->b ∈ fs->b ∉ ex->∃sl,h'.get? b=some {o with slots:=sl}
 free:∀b o,h.get? b=some o->H b=none->b ∉ ex->H' b=none
 there:∀b o,h.get? b=some o->b ∉ ex->∃o',h'.get? b=some o'
 tups:∀b xs,H b=some (.tup xs)->H' b=some (.tup xs)
 frzs:∀b o u,H b=some (.frz o u)->H' b=some (.frz o u)
 tbls:∀b ps,H b=some (.tbl ps)->∃more,H' b=some (.tbl (ps++more))
section
variable {fs fs' ex ex':List Addr} {H H1 H2:Hp} {h h1 h2 h':Heap} {a x e:Addr} {o:HO}
theorem Un.any(u:Un fs ex H H1 h h1){b:Addr}{ob:Obj}(q:h.get? b=some ob)(n:H b=none)(hx:b ∉ ex):∃sl,h1.get? b=some {ob with slots:=sl}:=by
 by_cases hb:b ∈ fs
 . exact u.slot b ob q n hb hx
 . exact ⟨ob.slots,u.keep b ob q n hb hx⟩
theorem Un.trans(a:Un fs ex H H1 h h1)(b:Un fs ex H1 H2 h1 h2):Un fs ex H H2 h h2 where
 keep:=fun c ob q n hc hx=>b.keep c ob (a.keep c ob q n hc hx) (a.free c ob q n hx) hc hx
 slot:=fun c ob q n hc hx=>by
  obtain ⟨sl,e1⟩:=a.slot c ob q n hc hx;obtain ⟨sl',e2⟩:=b.slot c _ e1 (a.free c ob q n hx) hc hx;exact ⟨sl',e2⟩
 free:=fun c ob q n hx=>by
  obtain ⟨o',e1⟩:=a.there c ob q hx;exact b.free c o' e1 (a.free c ob q n hx) hx
 there:=fun c ob q hx=>by
  obtain ⟨o',e1⟩:=a.there c ob q hx;exact b.there c o' e1 hx
 tups:=fun c xs q=>b.tups c xs (a.tups c xs q)
 frzs:=fun c ob xs q=>b.frzs c ob xs (a.frzs c ob xs q)
 tbls:=fun c ps q=>by
  obtain ⟨m1,e1⟩:=a.tbls c ps q;obtain ⟨m2,e2⟩:=b.tbls c _ e1;exact ⟨m1++m2,by rw [e2,Array.append_assoc]⟩
theorem Un.kept(k:∀b u,h.get? b=some u->h'.get? b=some u):Un fs ex H H h h' :=
 ⟨fun b ob q _ _ _=>k b ob q,fun b ob q _ _ _=>⟨ob.slots,k b ob q⟩,fun _ _ _ n _=>n,fun b ob q _=>⟨ob,k b ob q⟩,fun _ _ q=>q,fun _ _ _ q=>q,fun _ ps q=>⟨#[],by rw [q];simp⟩⟩
theorem Un.refl:Un fs ex H H h h:=Un.kept fun _ _ q=>q
theorem Un.laid(k:∀b u,h.get? b=some u->h'.get? b=some u)(hp:h.objs.size<=a)(hn:H a=none):Un fs ex H (upd H a o) h h' where
 keep:=fun b u q _ _ _=>k b u q
 slot:=fun b u q _ _ _=>⟨u.slots,k b u q⟩
 free:=fun b u q n _=>by rw [upd_ne (Nat.ne_of_lt (Nat.lt_of_lt_of_le (Heap.lt_size q) hp))];exact n
 there:=fun b u q _=>⟨u,k b u q⟩
 tups:=fun b xs q=>by rw [upd_ne (ne_of_none q hn)];exact q
 frzs:=fun b u xs q=>by rw [upd_ne (ne_of_none q hn)];exact q
 tbls:=fun b ps q=>⟨#[],by rw [upd_ne (ne_of_none q hn),q];simp⟩
theorem Un.write(mu:Mut (H x))(he:e=x\/H e=some (.own x))(k:∀b u,b≠e->h.get? b=some u->h'.get? b=some u)(heo:∃u,h'.get? e=some u):Un fs ex H (upd H x o) h h':=by
 have hx:∀b,H b=none->b≠x:=fun b n z=>by subst z;rw [n] at mu;exact mu
 have hb:∀b,H b=none->b≠e:=fun b n z=>by
  subst z;rcases he with r | r
  . exact hx b n r
  . rw [n] at r;cases r
 have hm:∀b u,H b=some u->¬Mut (some u)->b≠x:=fun b u q nm z=>by subst z;rw [q] at mu;exact nm mu
 refine ⟨fun b u q n _ _=>k b u (hb b n) q,fun b u q n _ _=>⟨u.slots,k b u (hb b n) q⟩,fun b u q n _=>by rw [upd_ne (hx b n)];exact n,fun b u q _=> ?_,
  fun b xs q=>by rw [upd_ne (hm b _ q fun z=>z)];exact q,fun b u xs q=>by rw [upd_ne (hm b _ q fun z=>z)];exact q,fun b ps q=>⟨#[],by rw [upd_ne (hm b _ q fun z=>z),q];simp⟩⟩
 by_cases hbe:b=e
 . subst hbe;exact heo
 . exact ⟨u,k b u hbe q⟩
end
def trk(h:Heap)(H:Hp):List Addr:=(List.range h.objs.size).filter fun a=>(H a).isSome
def hidT(h:Heap)(H:Hp):Heap:=PySem.W.hideAll h (trk h H)
theorem hidT_size(h:Heap)(H:Hp):(hidT h H).objs.size=h.objs.size:=PySem.W.hideAll_size _ _
theorem hidT_get{h:Heap}{H:Hp}{b:Addr}{o:Obj}(e:h.get? b=some o)(n:H b=none):(hidT h H).get? b=some o:=
 PySem.W.hideAll_get _ e fun hm=>by
  have q:(H b).isSome=true:=(List.mem_filter.mp hm).2;rw [n] at q;simp at q
theorem of_hidT{h:Heap}{H:Hp}{b:Addr}{o:Obj}(e:(hidT h H).get? b=some o):h.get? b=some o/\H b=none:=by
 have e':h.get? b=some o:=PySem.W.of_hideAll (trk h H) e;refine ⟨e',?_⟩
 cases q:H b with
 | none=>rfl
 | some x=>
  have hm:b ∈ trk h H:=List.mem_filter.mpr ⟨List.mem_range.mpr (Heap.lt_size e'),by simp [q]⟩;have z:(hidT h H).get? b=none:=PySem.W.hideAll_none (trk h H) hm;rw [z] at e;cases e
def allNews(g h:Heap)(L:Addr):List (Addr×Obj):=(List.range h.objs.size).filterMap fun a=>if a=L\/(g.get? a).isSome=true then none else (h.get? a).map fun o=>(a,o)
def rest(g h:Heap)(L d:Addr):List (Addr×Obj):=(allNews g h L).filter fun p=>decide (p.1≠d)
end L2
namespace L2
open PySem PySem.Spec PyProof.Rows
def tabsOf(K:PySem.W.Frag):List Addr:=match K.getLast? with
 | some (_,⟨.type "tables",_, .fields vs,_⟩)=>vs.toList.filterMap fun v=>match v with
  | .ref a=>some a
  | _=>none
 | _=> []
structure Mod (K:PySem.W.Frag) (mg:Str->Option Value) (base:Heap):Prop where
 kin:K.In base
 glob:base.Ns mainGlobals mg
 blt:∃mb,base.Ns builtinsNs mb/\∀x:Str,x ≠ "__name__" -> mb x=bootBuiltins x
 nolimit:base.NoLimit
structure Cx where
 prog:Program
 w:World
 K:PySem.W.Frag
 mg:Str->Option Value
 base:Heap
 A:Around
 N:List Str
 s₀:Shared
 H₀:Hp
 env:Env
 outer:List Env
 stack:List Env
 ex:List Addr
 fn:Str->Bool
 calm:Bool
 pn:List (Addr×Obj)
 xe:Value->Shared->Prop
def frs(l:List Env):List Addr:=l.filterMap (·.frame)
abbrev Cx.fs (X:Cx):List Addr:=frs X.outer
def Vis(sc:Scope)(x:Str):Prop:=sc.names.lookup x=some .local\/sc.names.lookup x=some .cell\/sc.names.lookup x=some .free
def Loc(sc:Scope)(x:Str):Prop:=sc.names.lookup x=some .local\/sc.names.lookup x=some .cell
def Look(env:Env)(h:Heap)(m:Str->Option Value)(x:Str)(u:Value):Prop:=
 (env.kindOf x=some .local/\m x=some u)\/((env.kindOf x=some .cell\/env.kindOf x=some .free)/\∃c,env.cells.lookup x=some c/\h.IsCell c (some u))
structure Cx.Ok (X:Cx):Prop where
 mod:Mod X.K X.mg X.base
 kind:X.env.scope.kind = .function
 glob:X.env.globals=mainGlobals
 blt:X.env.builtins=builtinsNs
 above:X.s₀.heap.objs.size<=X.env.locals
 inj:∀x y c,X.env.cells.lookup x=some c->X.env.cells.lookup y=some c->x=y
 has:∀x,(X.env.kindOf x=some .cell\/X.env.kindOf x=some .free)->∃c,X.env.cells.lookup x=some c
 cab:∀x c,X.fn x=true->X.env.cells.lookup x=some c->X.s₀.heap.objs.size<=c
 hd:X.calm=true->X.A.handled=none
 frames:X.A.frames=some X.stack
 stk:X.stack=X.outer\/(X.stack=X.env::X.outer/\X.env.frame=some X.env.locals)
 exf:∀b ∈ X.ex,b≠X.env.locals/\∀x c,X.env.cells.lookup x=some c->c≠b
 bs:∀b o,X.base.get? b=some o->X.s₀.heap.get? b=some o/\X.H₀ b=none
 bsz:X.base.objs.size<=X.s₀.heap.objs.size
 noex:∀b o,X.base.get? b=some o->b ∉ X.ex
 exfs:∀b ∈ X.ex,b ∉ X.fs
 funs:X.s₀.heap.FunFrames X.base X.outer
 frf:∀b ∈ X.fs,X.H₀ b=none
 tb:∀p ∈ tabsOf X.K,∃ps,X.H₀ p=some (.tbl ps)
structure Inv (X:Cx) (pins:List (Addr×Obj)) (σ:List (Option V)) (H:Hp) (s:Shared):Prop where
 ok:X.Ok
 os:s.os=X.s₀.os
 bare:AllBare s.gens
 base:Un X.fs X.ex X.H₀ H X.s₀.heap s.heap
 loc:∃m,s.heap.Ns X.env.locals m/\∀(i:Nat) (x:Str) (v:V),X.N[i]? = some x->σ[i]? = some (some v)->Vis X.env.scope x->∃u,RelV v u/\Look X.env s.heap m x u
 cell:∀x c,X.env.cells.lookup x=some c->∃v,s.heap.IsCell c v
 free:H X.env.locals=none
 freeC:∀x c,X.env.cells.lookup x=some c->H c=none
 pin:∀p ∈ X.pn++pins,s.heap.get? p.1=some p.2/\H p.1=none/\p.1≠X.env.locals/\p.1 ∉ X.fs/\∀v,p.2.data ≠ .cell v
 hok:HOk X.prog X.w H s.heap
 len:σ.length=X.N.length
section
variable {X:Cx} {pins:List (Addr×Obj)} {σ:List (Option V)} {H H':Hp} {s:Shared} {h':Heap}
theorem Cx.Ok.nofr(ok:X.Ok){b:Addr}{o:Obj}(e:X.base.get? b=some o):b ∉ X.fs:=fun hb=>by
 have:=(ok.funs.mem hb).1;rw [e] at this;cases this
theorem Inv.bs(I:Inv X pins σ H s):∀b o,X.base.get? b=some o->s.heap.get? b=some o/\H b=none:=fun b o e=>
 ⟨I.base.keep b o (I.ok.bs b o e).1 (I.ok.bs b o e).2 (I.ok.nofr e) (I.ok.noex b o e),I.base.free b o (I.ok.bs b o e).1 (I.ok.bs b o e).2 (I.ok.noex b o e)⟩
theorem Inv.bk(I:Inv X pins σ H s):∀b o,X.base.get? b=some o->s.heap.get? b=some o:=fun b o e=>(I.bs b o e).1
theorem Inv.tb(I:Inv X pins σ H s):∀p ∈ tabsOf X.K,∃ps,H p=some (.tbl ps):=fun p hp=>by
 obtain ⟨ps,e⟩:=I.ok.tb p hp;obtain ⟨m,e2⟩:=I.base.tbls p ps e;exact ⟨_,e2⟩
theorem Inv.mod(I:Inv X pins σ H s):Mod X.K X.mg X.base:=I.ok.mod
theorem Inv.kIn(I:Inv X pins σ H s):X.K.In s.heap:=I.ok.mod.kin.keeps I.bk
theorem Inv.nolimit(I:Inv X pins σ H s):s.heap.NoLimit:=I.ok.mod.nolimit.keeps I.bk
theorem Inv.fr(I:Inv X pins σ H s):∃m,Fr X.base X.env.locals s.heap m:=
 let ⟨m,hn,_⟩:=I.loc
 ⟨m,hn,I.bk,Nat.le_trans I.ok.bsz I.ok.above⟩
theorem Inv.lt(I:Inv X pins σ H s):X.env.locals<s.heap.objs.size:=let ⟨_,hn,_⟩:=I.loc;hn.lt
theorem Inv.sz(I:Inv X pins σ H s):X.s₀.heap.objs.size<=s.heap.objs.size:=Nat.le_trans I.ok.above (Nat.le_of_lt I.lt)
theorem Inv.nofs(I:Inv X pins σ H s){a:Addr}(h:s.heap.objs.size<=a):a ∉ X.fs:=fun hb=>by
 obtain ⟨_,o,ho,_⟩:=I.ok.funs.mem hb;exact absurd (Nat.lt_of_lt_of_le (Heap.lt_size ho) (Nat.le_trans I.sz h)) (Nat.lt_irrefl _)
theorem Inv.cne(I:Inv X pins σ H s):∀x c,X.env.cells.lookup x=some c->c≠X.env.locals:=fun x c e z=>by
 obtain ⟨v,o,ho,hd⟩:=I.cell x c e;obtain ⟨m,⟨o',es,ep,ho',hd',_⟩,_⟩:=I.loc;rw [z,ho'] at ho;cases ho;rw [hd'] at hd;cases hd
theorem Inv.funs(I:Inv X pins σ H s):s.heap.FunFrames X.base X.outer:=by
 have all:∀(l:List Env),(∀b ∈ frs l,b ∈ X.fs)->X.s₀.heap.FunFrames X.base l->s.heap.FunFrames X.base l:=by
  intro l
  induction l with
  | nil=>intro _ _;trivial
  | cons env r ih=>
   intro hs hl;obtain ⟨hk,⟨L,o,hf,hn,ho,hd⟩,hr⟩:=hl;have hL:L ∈ X.fs:=hs L (by unfold frs;rw [List.filterMap_cons,hf];exact List.mem_cons_self);obtain ⟨sl,e⟩:=I.base.slot L o ho (I.ok.frf L hL) hL fun z=>I.ok.exfs L z hL;exact ⟨hk,⟨L,_,hf,hn,e,hd⟩,ih (fun b hb=>hs b (by unfold frs;rw [List.filterMap_cons,hf];exact List.mem_cons_of_mem _ hb)) hr⟩
 exact all X.outer (fun _ hb=>hb) I.ok.funs
theorem Inv.stack(I:Inv X pins σ H s):s.heap.FunFrames X.base X.stack:=by
 rcases I.ok.stk with e | ⟨e,hf⟩
 . rw [e];exact I.funs
 . rw [e];obtain ⟨m,hn,_⟩:=I.loc;refine .cons (by rw [I.ok.kind];decide) hf hn ?_ I.funs;exact Heap.get?_none_of_le (Nat.le_trans I.ok.bsz I.ok.above)
theorem Inv.stkSub(I:Inv X pins σ H s):∀b ∈ frs X.stack,b ∈ X.env.locals::X.fs:=fun b hb=>by
 rcases I.ok.stk with e | ⟨e,hf⟩
 . rw [e] at hb;exact List.mem_cons_of_mem _ hb
 . rw [e] at hb
   unfold frs at hb
   rw [List.filterMap_cons,hf] at hb
   exact hb
theorem Inv.stkFree(I:Inv X pins σ H s):∀b ∈ frs X.stack,H b=none:=fun b hb=>by
 rcases List.mem_cons.mp (I.stkSub b hb) with e | hb
 . rw [e];exact I.free
 . obtain ⟨_,o,ho,_⟩:=I.ok.funs.mem hb;exact I.base.free b o ho (I.ok.frf b hb) fun z=>I.ok.exfs b z hb
theorem Inv.step {g' : Array GenState} {t' : Nat} {d' : Drawn} {ch : List Addr} (I : Inv X pins σ H s)
 (hch:∀b ∈ ch,(b ∈ X.ex\/X.s₀.heap.objs.size<=b)/\b≠X.env.locals/\(∀x c,X.env.cells.lookup x=some c->c≠b)/\∀p ∈ X.pn++pins,p.1≠b)
 (keep:∀b o,b≠X.env.locals->b ∉ X.fs->b ∉ ch->s.heap.get? b=some o->H b=none->h'.get? b=some o)
 (slot:∀b o,b≠X.env.locals->b ∈ X.fs->b ∉ ch->s.heap.get? b=some o->H b=none->∃sl,h'.get? b=some {o with slots:=sl}) (free:∀b o,b ∉ ch->s.heap.get? b=some o->H b=none->H' b=none)
 (there:∀b o,b ∉ ch->s.heap.get? b=some o->∃o',h'.get? b=some o')
 (tups:∀b xs,H b=some (.tup xs)->H' b=some (.tup xs)) (frzs:∀b o u,H b=some (.frz o u)->H' b=some (.frz o u)) (tbls:∀b ps,H b=some (.tbl ps)->∃more,H' b=some (.tbl (ps++more)))
 (ns:∀m,s.heap.Ns X.env.locals m->h'.Ns X.env.locals m) (hok:HOk X.prog X.w H' h') (hg:AllBare g') :
 Inv X pins σ H' {s with heap:=h',gens:=g',drawn:=d',toks:=t' }:=by
 have neL:∀b o,X.s₀.heap.get? b=some o->b≠X.env.locals:=fun b o e=>Nat.ne_of_lt (Nat.lt_of_lt_of_le (Heap.lt_size e) I.ok.above)
 have neC:∀b o,X.s₀.heap.get? b=some o->b ∉ X.ex->b ∉ ch:=fun b o e hx hb=>by
  rcases (hch b hb).1 with z | z
  . exact hx z
  . exact absurd (Nat.lt_of_lt_of_le (Heap.lt_size e) z) (Nat.lt_irrefl _)
 have cellK:∀x c,X.env.cells.lookup x=some c->∀v,s.heap.IsCell c v->h'.IsCell c v:=fun x c e v ⟨o,ho,hd⟩=>by
  have nch:c ∉ ch:=fun z=>(hch c z).2.2.1 x c e rfl
  by_cases hc:c ∈ X.fs
  . obtain ⟨sl,q⟩:=slot c o (I.cne x c e) hc nch ho (I.freeC x c e);exact ⟨_,q,hd⟩
  . exact ⟨o,keep c o (I.cne x c e) hc nch ho (I.freeC x c e),hd⟩
 refine ⟨I.ok,I.os,hg,⟨fun b o e n hb hx=> ?_,fun b o e n hb hx=> ?_,fun b o e n hx=> ?_,fun b o e hx=> ?_,fun b xs e=>tups b xs (I.base.tups b xs e),fun b o xs e=>frzs b o xs (I.base.frzs b o xs e),fun b ps e=> ?_⟩,?_,fun x c e=> ?_,?_,fun x c e=> ?_,fun p hp=> ?_,hok,I.len⟩
 . exact keep b o (neL b o e) hb (neC b o e hx) (I.base.keep b o e n hb hx) (I.base.free b o e n hx)
 . obtain ⟨sl,e1⟩:=I.base.slot b o e n hb hx;obtain ⟨sl',e2⟩:=slot b _ (neL b o e) hb (neC b o e hx) e1 (I.base.free b o e n hx);exact ⟨sl',e2⟩
 . obtain ⟨o',e1⟩:=I.base.there b o e hx;exact free b o' (neC b o e hx) e1 (I.base.free b o e n hx)
 . obtain ⟨o',e1⟩:=I.base.there b o e hx;exact there b o' (neC b o e hx) e1
 . obtain ⟨m1,e1⟩:=I.base.tbls b ps e;obtain ⟨m2,e2⟩:=tbls b _ e1;exact ⟨m1++m2,by rw [e2,Array.append_assoc]⟩
 . obtain ⟨m,hn,hl⟩:=I.loc;refine ⟨m,ns m hn,fun i x v e1 e2 e3=> ?_⟩;obtain ⟨u,r,l⟩:=hl i x v e1 e2 e3;refine ⟨u,r,?_⟩;rcases l with l | ⟨k,c,e,z⟩
   . exact .inl l
   . exact .inr ⟨k,c,e,cellK x c e _ z⟩
 . obtain ⟨v,z⟩:=I.cell x c e;exact ⟨v,cellK x c e v z⟩
 . obtain ⟨m,⟨o,_,_,ho,_⟩,_⟩:=I.loc;exact free _ o (fun z=>(hch _ z).2.1 rfl) ho I.free
 . obtain ⟨v,o,ho,hd⟩:=I.cell x c e;exact free c o (fun z=>(hch c z).2.2.1 x c e rfl) ho (I.freeC x c e)
 . obtain ⟨e,n,ne,nf,d⟩:=I.pin p hp;have nch:p.1 ∉ ch:=fun z=>(hch p.1 z).2.2.2 p hp rfl;exact ⟨keep p.1 p.2 ne nf nch e n,free p.1 p.2 nch e n,ne,nf,d⟩
theorem Inv.un{t':Nat}(I:Inv X pins σ H s)(u:Un X.fs [] H H' s.heap h')(hok:HOk X.prog X.w H' h'):Inv X pins σ H' {s with heap:=h',toks:=t' }:=by
 obtain ⟨m,⟨o,es,ep,ho,r⟩,_⟩:=id I.loc;obtain ⟨sl,hL⟩:=u.any ho I.free (by simp)
 exact I.step (g':=s.gens) (d':=s.drawn) (ch:= []) (fun _ z=>nomatch z) (fun b o _ hb _ e n=>u.keep b o e n hb (by simp)) (fun b o _ hb _ e n=>u.slot b o e n hb (by simp)) (fun b o _ e n=>u.free b o e n (by simp)) (fun b o _ e=>u.there b o e (by simp)) u.tups u.frzs u.tbls (fun m' hm=>by
  obtain ⟨o',es',ep',ho',r'⟩:=hm;rw [ho] at ho';cases ho'
  exact ⟨_,es',ep',hL,r'⟩) hok I.bare
theorem Inv.call {g' : Array GenState} {t' : Nat} {d' : Drawn} {ch : List Addr} (I : Inv X pins σ H s) (u : Un (frs X.stack) ch H H' s.heap h') (hok : HOk X.prog X.w H' h') (hg : AllBare g')
 (hch:∀b ∈ ch,(b ∈ X.ex\/X.s₀.heap.objs.size<=b)/\b≠X.env.locals/\(∀x c,X.env.cells.lookup x=some c->c≠b)/\∀p ∈ X.pn++pins,p.1≠b) :
 Inv X pins σ H' {s with heap:=h',gens:=g',drawn:=d',toks:=t' }:=by
 obtain ⟨m,⟨o,es,ep,ho,r⟩,_⟩:=id I.loc;obtain ⟨sl,hL⟩:=u.any ho I.free fun z=>(hch _ z).2.1 rfl
 exact I.step (ch:=ch) hch (fun b o hL hb hc e n=>u.keep b o e n (fun z=>(List.mem_cons.mp (I.stkSub b z)).elim hL hb) hc) (fun b o _ _ hc e n=>u.any e n hc) (fun b o hc e n=>u.free b o e n hc) (fun b o hc e=>u.there b o e hc) u.tups u.frzs u.tbls (fun m' hm=>by
  obtain ⟨o',es',ep',ho',r'⟩:=hm;rw [ho] at ho';cases ho'
  exact ⟨_,es',ep',hL,r'⟩) hok hg
theorem Inv.turned {t' : Nat} {it : Addr} (I : Inv X pins σ H s) (k : ∀ b o, b ≠ it -> s.heap.get? b = some o -> h'.get? b = some o) (hn : H it = none) (hL : it ≠ X.env.locals)
 (h1:it ∈ X.ex\/X.s₀.heap.objs.size<=it) (h2:∀x c,X.env.cells.lookup x=some c->c≠it) (h3:∀p ∈ X.pn++pins,p.1≠it):Inv X pins σ H {s with heap:=h',toks:=t' }:=by
 have nit:∀b u,H b=some u->b≠it:=fun b u e z=>by rw [z,hn] at e;cases e
 refine I.step (g':=s.gens) (d':=s.drawn) (ch:= [it]) (fun b hb=> ?_) (fun b o _ _ hc e _=>k b o (fun z=>hc (by simp [z])) e) (fun b o _ _ hc e _=>⟨o.slots,k b o (fun z=>hc (by simp [z])) e⟩) (fun _ _ _ _ n=>n)
  (fun b o hc e=>⟨o,k b o (fun z=>hc (by simp [z])) e⟩) (fun _ _ e=>e) (fun _ _ _ e=>e) (fun b ps e=>⟨#[],by rw [e];simp⟩) (fun m hm=> ?_) (fun b u e=> ?_) I.bare
 . have e:b=it:=by simpa using hb
   subst e;exact ⟨h1,hL,h2,h3⟩
 . obtain ⟨o,es,ep,ho,r⟩:=hm;exact ⟨o,es,ep,k _ o (Ne.symm hL) ho,r⟩
 . refine (I.hok b u e).stay (fun c v hc q=>k c v ?_ q) (fun _ q=>q) fun _ _ q=>q;rcases hc with z | z
   . rw [z];exact nit b u e
   . exact nit c _ z
theorem Inv.tok(I:Inv X pins σ H s)(t:Nat):Inv X pins σ H {s with toks:=t}:=I.un (h':=s.heap) (t':=t) Un.refl I.hok
theorem Inv.kept{t':Nat}(I:Inv X pins σ H s)(k:∀b u,s.heap.get? b=some u->h'.get? b=some u):Inv X pins σ H {s with heap:=h',toks:=t' }:=I.un (Un.kept k) (I.hok.kept k)
theorem Inv.laid {a : Addr} {o : HO} {t' : Nat} (I : Inv X pins σ H s) (k : ∀ b u, s.heap.get? b = some u -> h'.get? b = some u) (hp : s.heap.objs.size <= a) (new : ObjOk X.prog X.w (upd H a o) h' a o) :
 Inv X pins σ (upd H a o) {s with heap:=h',toks:=t' }:=I.un (Un.laid k hp (I.hok.fresh hp)) (I.hok.laid k hp new)
theorem Inv.write {x e : Addr} {o : HO} {t' : Nat} (I : Inv X pins σ H s) (mu : Mut (H x)) (he : e = x \/ H e = some (.own x)) (k : ∀ b u, b ≠ e -> s.heap.get? b = some u -> h'.get? b = some u) (heo : ∃ u, h'.get? e = some u)
 (new:ObjOk X.prog X.w (upd H x o) h' x o):Inv X pins σ (upd H x o) {s with heap:=h',toks:=t' }:=I.un (Un.write mu he k heo) (I.hok.write mu he k heo new)
theorem Inv.weak{σ':List (Option V)}(I:Inv X pins σ H s)(hl:σ'.length=σ.length)(w:∀(i:Nat) v,σ'[i]? = some (some v)->σ[i]? = some (some v)):Inv X pins σ' H s:=
 ⟨I.ok,I.os,I.bare,I.base,let ⟨m,hn,hl'⟩:=I.loc;⟨m,hn,fun i x v e1 e2 e3=>hl' i x v e1 (w i v e2) e3⟩,I.cell,I.free,I.freeC,I.pin,I.hok,hl.trans I.len⟩
theorem Inv.pins_of{pins':List (Addr×Obj)}(I:Inv X pins σ H s)(h:∀p ∈ pins',s.heap.get? p.1=some p.2/\H p.1=none/\p.1≠X.env.locals/\p.1 ∉ X.fs/\∀v,p.2.data ≠ .cell v):Inv X pins' σ H s:=
 ⟨I.ok,I.os,I.bare,I.base,I.loc,I.cell,I.free,I.freeC,fun p hp=>(List.mem_append.mp hp).elim (fun z=>I.pin p (List.mem_append_left _ z)) (h p),I.hok,I.len⟩
theorem nodup_ix{N:List Str}(hN:N.Nodup){i j:Nat}{x:Str}(a:N[i]? = some x)(b:N[j]? = some x):i=j:=by
 obtain ⟨h1,e1⟩:=List.getElem?_eq_some_iff.mp a;obtain ⟨h2,e2⟩:=List.getElem?_eq_some_iff.mp b;exact (List.getElem_inj hN).mp (e1.trans e2.symm)
theorem store_ok2 {M : Model} {A : Around} {E : Value -> Shared -> Prop} {i : Nat} {x : Str} {v : V} {u : Value} {Q : Unit -> Shared -> Prop} (I : Inv X pins σ H s) (hN : X.N.Nodup) (hi : X.N[i]? = some x) (hx : Loc X.env.scope x) (r : RelV v u)
 (h:∀s',Inv X pins (σ.set i (some v)) H s'->(∃a,Heap.SameBut a s.heap s'.heap/\(a=X.env.locals\/X.env.cells.lookup x=some a))->Q () s') (hf:X.fn x=true\/X.env.scope.names.lookup x=some .local:=by first | exact .inl rfl | exact .inr rfl | assumption):wpAny M A (storeName X.env x u) Q E s:=by
 obtain ⟨m,hn,hl⟩:=id I.loc;have hcls:(X.env.scope.kind == .class || (X.env.scope.kind == .module && X.env.locals != X.env.globals))=false:=by rw [I.ok.kind];rfl
 have hiσ:i<σ.length:=by rw [I.len];exact (List.getElem?_eq_some_iff.mp hi).1
 have cne:=I.cne
 have tracked:∀ {a:Addr} {h':Heap},(∃o,s.heap.get? a=some o/\H a=none)->Heap.SameBut a s.heap h'->HOk X.prog X.w H h':=fun {a h'} ha hs b ob e=>by
  obtain ⟨_,_,hfree⟩:=ha;refine (I.hok b ob e).stay (fun c w' hc q=>(hs.2 c ?_).trans q) (fun _ q=>q) fun _ _ q=>q;rintro rfl;rcases hc with rfl | hc
  . rw [hfree] at e;cases e
  . rw [hfree] at hc;cases hc
 rcases hx with hk | hk
 . refine wpAny_storeName_local hk hn (fun h' hn' hs=> ?_) hcls;obtain ⟨oL,_,_,hoL,_⟩:=id hn;refine h _ ⟨I.ok,I.os,I.bare,⟨fun b o e n hb hx=> ?_,fun b o e n hb hx=> ?_,I.base.free,fun b o e hx=> ?_,I.base.tups,I.base.frzs,I.base.tbls⟩,⟨_,hn',fun j y v' e1 e2 e3=> ?_⟩,fun y c e=> ?_,I.free,I.freeC,fun p hp=> ?_,tracked ⟨oL,hoL,I.free⟩ hs,by simpa using I.len⟩ ⟨_,hs, .inl rfl⟩
   . exact (hs.2 b (Nat.ne_of_lt (Nat.lt_of_lt_of_le (Heap.lt_size e) I.ok.above))).trans (I.base.keep b o e n hb hx)
   . obtain ⟨sl,e1⟩:=I.base.slot b o e n hb hx;exact ⟨sl,(hs.2 b (Nat.ne_of_lt (Nat.lt_of_lt_of_le (Heap.lt_size e) I.ok.above))).trans e1⟩
   . obtain ⟨o',e1⟩:=I.base.there b o e hx;exact ⟨o',(hs.2 b (Nat.ne_of_lt (Nat.lt_of_lt_of_le (Heap.lt_size e) I.ok.above))).trans e1⟩
   . by_cases hj:j=i
     . subst hj;rw [hi] at e1;cases e1
       rw [List.getElem?_set_self hiσ] at e2
       cases e2
       exact ⟨u,r, .inl ⟨hk,by simp⟩⟩
     . rw [List.getElem?_set_ne (Ne.symm hj)] at e2
       obtain ⟨u',r',q⟩:=hl j y v' e1 e2 e3;refine ⟨u',r',?_⟩;rcases q with ⟨k,e⟩ | ⟨k,c,e,z⟩
       . refine .inl ⟨k,?_⟩;have:y≠x:=fun e=>hj (nodup_ix hN e1 (e ▸ hi));simp [this,e]
       . exact .inr ⟨k,c,e,z.sameBut hs (cne y c e)⟩
   . obtain ⟨w',z⟩:=I.cell y c e;exact ⟨w',z.sameBut hs (cne y c e)⟩
   . obtain ⟨e,n,ne,nf,d⟩:=I.pin p hp;exact ⟨(hs.2 p.1 ne).trans e,n,ne,nf,d⟩
 . have hfn : X.fn x = true := by
    rcases hf with z | z
    . exact z
    . rw [z] at hk;cases hk
   obtain ⟨c,hc⟩:=I.ok.has x (.inl hk);obtain ⟨w',z⟩:=I.cell x c hc;refine wpAny_storeName_cell I.ok.kind hk hc z (fun h' hc' hs=> ?_);obtain ⟨oc,hoc,hocd⟩:=id z;refine h {s with heap:=h' } ⟨I.ok,I.os,I.bare,⟨fun b o e n hb hx=> ?_,fun b o e n hb hx=> ?_,I.base.free,fun b o e hx=> ?_,I.base.tups,I.base.frzs,I.base.tbls⟩,⟨m,hn.sameBut hs (Ne.symm (cne x c hc)),fun j y v' e1 e2 e3=> ?_⟩,fun y c' e=> ?_,I.free,I.freeC,fun p hp=> ?_,tracked ⟨oc,hoc,I.freeC x c hc⟩ hs,by simpa using I.len⟩ ⟨c,hs, .inr hc⟩
   . exact (hs.2 b (Nat.ne_of_lt (Nat.lt_of_lt_of_le (Heap.lt_size e) (I.ok.cab x c hfn hc)))).trans (I.base.keep b o e n hb hx)
   . obtain ⟨sl,e1⟩:=I.base.slot b o e n hb hx;exact ⟨sl,(hs.2 b (Nat.ne_of_lt (Nat.lt_of_lt_of_le (Heap.lt_size e) (I.ok.cab x c hfn hc)))).trans e1⟩
   . obtain ⟨o',e1⟩:=I.base.there b o e hx;exact ⟨o',(hs.2 b (Nat.ne_of_lt (Nat.lt_of_lt_of_le (Heap.lt_size e) (I.ok.cab x c hfn hc)))).trans e1⟩
   . by_cases hj:j=i
     . subst hj;rw [hi] at e1;cases e1
       rw [List.getElem?_set_self hiσ] at e2
       cases e2
       exact ⟨u,r, .inr ⟨.inl hk,c,hc,hc'⟩⟩
     . rw [List.getElem?_set_ne (Ne.symm hj)] at e2
       obtain ⟨u',r',q⟩:=hl j y v' e1 e2 e3;refine ⟨u',r',?_⟩;rcases q with q | ⟨k,c',e,z'⟩
       . exact .inl q
       . refine .inr ⟨k,c',e,z'.sameBut hs ?_⟩;rintro rfl;exact hj (nodup_ix hN e1 (I.ok.inj _ _ _ e hc ▸ hi))
   . by_cases hcc:c'=c
     . subst hcc;exact ⟨_,hc'⟩
     . obtain ⟨w2,z2⟩:=I.cell y c' e;exact ⟨w2,z2.sameBut hs hcc⟩
   . obtain ⟨e,n,ne,nf,d⟩:=I.pin p hp;refine ⟨(hs.2 p.1 ?_).trans e,n,ne,nf,d⟩;intro q;rw [q,hoc] at e
     have q':oc=p.2:=Option.some.inj e;exact d w' (by rw [<-q'];exact hocd)
theorem store_ok {M : Model} {A : Around} {E : Value -> Shared -> Prop} {i : Nat} {x : Str} {v : V} {u : Value} {Q : Unit -> Shared -> Prop} (I : Inv X pins σ H s) (hN : X.N.Nodup) (hi : X.N[i]? = some x) (hx : Loc X.env.scope x) (r : RelV v u)
 (h:∀s',Inv X pins (σ.set i (some v)) H s'->Q () s') (hf:X.fn x=true\/X.env.scope.names.lookup x=some .local:=by first | exact .inl rfl | exact .inr rfl | assumption):wpAny M A (storeName X.env x u) Q E s:=
 store_ok2 I hN hi hx r (fun s' I' _=>h s' I') hf
theorem Inv.call' {s' : Shared} {ch : List Addr} (I : Inv X pins σ H s) (ho : s'.os = s.os) (u : Un (frs X.stack) ch H H' s.heap s'.heap) (hok : HOk X.prog X.w H' s'.heap) (hg : AllBare s'.gens)
 (hch:∀b ∈ ch,(b ∈ X.ex\/X.s₀.heap.objs.size<=b)/\b≠X.env.locals/\(∀x c,X.env.cells.lookup x=some c->c≠b)/\∀p ∈ X.pn++pins,p.1≠b):Inv X pins σ H' s':=by
 obtain ⟨h',g',d',t',o'⟩:=s';have e:o'=s.os:=ho;subst e;exact I.call (g':=g') (t':=t') (d':=d') u hok hg hch
end
abbrev XK:=Value->Option Addr->Hp->Prop
abbrev St:=List (Option V)
abbrev VK:=V->Hp->Prop
abbrev TE:=St->Hp->VK->Prop
abbrev TT:=St->Hp->(Bool->Hp->Prop)->Prop
abbrev TA:=St->Hp->(List V->Hp->Prop)->Prop
structure Ends where
 nx:St->Hp->Prop
 rt:VK
 bk:St->Hp->Prop:=fun _ _=>False
 ct:St->Hp->Prop:=fun _ _=>False
abbrev TS:=Ends->St->Hp->Prop
def EP(X:Cx)(pins:List (Addr×Obj))(σ:St)(Q:VK)(u:Value)(s':Shared):Prop:=∃v H',Inv X pins σ H' s'/\RelV v u/\Q v H'
def TP(X:Cx)(pins:List (Addr×Obj))(σ:St)(Q:Bool->Hp->Prop)(b:Bool)(s':Shared):Prop:=∃H',Inv X pins σ H' s'/\Q b H'
def AP(X:Cx)(pins:List (Addr×Obj))(σ:St)(Q:List V->Hp->Prop)(us:List Value)(s':Shared):Prop:=∃vs H',Inv X pins σ H' s'/\Vals vs us/\Q vs H'
def SP(X:Cx)(pins:List (Addr×Obj))(D:Ends)(f:Flow)(s':Shared):Prop:=
 match f with
 | .next=>∃σ' H',Inv X pins σ' H' s'/\D.nx σ' H'
 | .brk=>∃σ' H',Inv X pins σ' H' s'/\D.bk σ' H'
 | .cont=>∃σ' H',Inv X pins σ' H' s'/\D.ct σ' H'
 | .ret u=>∃v σ' H',Inv X pins σ' H' s'/\RelV v u/\D.rt v H'
def PE(X:Cx)(e:Expr)(t:TE):Prop:=
 ∀(pins:List (Addr×Obj)) (s:Shared) (σ:St) (H:Hp) (Q:VK),Inv X pins σ H s->t σ H Q->wpAny (model X.prog X.w) X.A (eval e X.env) (EP X pins σ Q) X.xe s
def PT(X:Cx)(e:Expr)(t:TT):Prop:=
 ∀(pins:List (Addr×Obj)) (s:Shared) (σ:St) (H:Hp) (Q:Bool->Hp->Prop),Inv X pins σ H s->t σ H Q->wpAny (model X.prog X.w) X.A (isTrue e X.env (eval e X.env)) (TP X pins σ Q) X.xe s
def PW(X:Cx)(e:Expr)(t:TT):Prop:=
 ∀(whole:Sem Value) (pins:List (Addr×Obj)) (s:Shared) (σ:St) (H:Hp) (Q:Bool->Hp->Prop),Inv X pins σ H s->t σ H Q->wpAny (model X.prog X.w) X.A (isTrue e X.env whole) (TP X pins σ Q) X.xe s
theorem PW.pt{X:Cx}{e:Expr}{t:TT}(h:PW X e t):PT X e t:=h _
def PA(X:Cx)(es:List Expr)(t:TA):Prop:=
 ∀(pos:Pos) (pins:List (Addr×Obj)) (s:Shared) (σ:St) (H:Hp) (Q:List V->Hp->Prop),Inv X pins σ H s->t σ H Q->wpAny (model X.prog X.w) X.A (spliced (backTo pos (starEach es X.env))) (AP X pins σ Q) X.xe s
def PS(X:Cx)(st:Stmt)(t:TS):Prop:=
 ∀(pins:List (Addr×Obj)) (s:Shared) (σ:St) (H:Hp) (D:Ends),Inv X pins σ H s->t D σ H->wpAny (model X.prog X.w) X.A (exec st X.env) (SP X pins D) X.xe s
def PSs(X:Cx)(st:List Stmt)(t:TS):Prop:=
 ∀(pins:List (Addr×Obj)) (s:Shared) (σ:St) (H:Hp) (D:Ends),Inv X pins σ H s->t D σ H->wpAny (model X.prog X.w) X.A (execs st X.env) (SP X pins D) X.xe s
theorem thn{α:Type}{t:Sem α}{Q Q':α->Shared->Prop}{M:Model}{A:Around}{E:Value->Shared->Prop}{s:Shared}(h:wpAny M A t Q E s)(hQ:∀a s,Q a s->Q' a s):wpAny M A t Q' E s:=wpAny_mono h hQ fun _ _ x=>x
end L2
namespace L2
open PySem PySem.Spec PyProof.Rows
section
variable {X:Cx}
theorem bin {a b : Expr} {ta tb : TE} (ha : PE X a ta) (hb : PE X b tb) {pins : List (Addr × Obj)} {s : Shared} {σ : St} {H : Hp} {R : V -> V -> Hp -> Prop} (I : Inv X pins σ H s) (h : ta σ H fun x H1 => tb σ H1 fun y H2 => R x y H2)
 {α:Type} {Q:α->Shared->Prop} {f:Value->Value->Sem α}
 (hf:∀v u s2 x y H2,Inv X pins σ H2 s2->RelV x v->RelV y u->R x y H2->wpAny (model X.prog X.w) X.A (f v u) Q X.xe s2) :
 wpAny (model X.prog X.w) X.A (eval a X.env) (fun v s₁=>wpAny (model X.prog X.w) X.A (eval b X.env) (fun u s₂=>wpAny (model X.prog X.w) X.A (f v u) Q X.xe s₂) X.xe s₁) X.xe s:=by
 refine thn (ha pins s σ H _ I h) fun v s1 ⟨x,H1,I1,r1,q1⟩ => ?_;refine thn (hb pins s1 σ H1 _ I1 q1) fun u s2 ⟨y,H2,I2,r2,q2⟩ => ?_;exact hf v u s2 x y H2 I2 r1 r2 q2
def tVar(i:Nat):TE:=fun σ H Q=>∃v,σ[i]? = some (some v)/\Q v H
def tC(v:V):TE:=fun _ H Q=>Q v H
theorem pe_var {i:Nat} {x:Str} {pos:Pos} (hN:X.N[i]? = some x) (hv:Vis X.env.scope x) (hd:(x==("__debug__" : Str))=false:=by decide) (hcd:(x==("__classdict__" : Str))=false:=by decide):PE X (.Name x pos) (tVar i):=by
 intro pins s σ H Q I h;obtain ⟨v,e,h⟩:=h;obtain ⟨m,hn,hl⟩:=I.loc;obtain ⟨u,r,l⟩:=hl i x v hN e hv;have fin:EP X pins σ Q u s:=⟨v,H,I,r,h⟩;rcases l with ⟨hk,hm⟩ | ⟨hk,c,hc,hcell⟩
 . exact wpAny_Name (wpAny_loadName_local I.ok.kind hk hn hm fin) hd
 . rcases hk with hk | hk
   . exact wpAny_Name (wpAny_loadName_cell I.ok.kind hk hc hcell fin) hd
   . exact wpAny_Name (wpAny_loadName_free I.ok.kind hk hc hcell fin hcd) hd
theorem pe_int{i j pos}:PE X (.Constant (.int i) j pos) (tC (.int i)):=fun _ _ _ H _ I h=>wpAny_Constant_int ⟨.int i,H,I.tok _,⟨_,rfl⟩,h⟩
theorem pe_bl{b j pos}:PE X (.Constant (.bool b) j pos) (tC (.bl b)):=fun _ _ _ H _ I h=>Constant_bool ⟨.bl b,H,I,rfl,h⟩
theorem pe_str{x j pos}:PE X (.Constant (.str x) j pos) (tC (.str x)):=fun _ _ _ H _ I h=>Calls.Constant_str ⟨.str x,H,I.tok _,⟨_,rfl⟩,h⟩
def Gl(X:Cx)(x:Str):Prop:=X.env.kindOf x=some .globalImplicit
theorem ld_glob {E : Value -> Shared -> Prop} {pins : List (Addr × Obj)} {s : Shared} {σ : St} {H : Hp} {x : Str} {u : Value} {pos : Pos} {Q : Value -> Shared -> Prop} (I : Inv X pins σ H s) (hg : Gl X x) (hm : X.mg x = some u) (h : Q u s)
 (hd:(x==("__debug__" : Str))=false:=by decide):wpAny (model X.prog X.w) X.A (eval (.Name x pos) X.env) Q E s:=
 Calls.Name_function_global I.ok.kind hg (Calls.loadGlobal_global (by rw [I.ok.glob];exact I.mod.glob.keeps I.bk) hm h) hd
theorem ld_blt {E : Value -> Shared -> Prop} {pins : List (Addr × Obj)} {s : Shared} {σ : St} {H : Hp} {x : Str} {u : Value} {pos : Pos} {Q : Value -> Shared -> Prop} (I : Inv X pins σ H s) (hg : Gl X x) (hm : X.mg x = none) (hv : bootBuiltins x = some u) (h : Q u s)
 (hn:x ≠ "__name__" :=by decide) (hd:(x==("__debug__" : Str))=false:=by decide):wpAny (model X.prog X.w) X.A (eval (.Name x pos) X.env) Q E s:=by
 obtain ⟨mb,h1,h2⟩:=I.mod.blt;exact Calls.Name_function_global I.ok.kind hg (Calls.loadGlobal_builtin (by rw [I.ok.glob];exact I.mod.glob.keeps I.bk) hm (by rw [I.ok.blt];exact h1.keeps I.bk) ((h2 x hn).trans hv) h) hd
theorem pe_bltn {x:Str} {v:V} {u:Value} {pos:Pos} (hg:Gl X x) (hm:X.mg x=none) (hv:bootBuiltins x=some u) (r:RelV v u) (hn:x ≠ "__name__" :=by decide) (hd:(x==("__debug__" : Str))=false:=by decide):PE X (.Name x pos) (tC v) :=
 fun _ _ _ H _ I h=>ld_blt I hg hm hv ⟨v,H,I,r,h⟩ hn hd
variable {a b:Expr} {ta tb:TE} {pos:Pos}
def PC(X:Cx)(op:CmpOp)(a b:Expr)(t:TE):Prop:=
 ∀(pins:List (Addr×Obj)) (s:Shared) (σ:St) (H:Hp) (Q:VK),Inv X pins σ H s->t σ H Q ->
   wpAny (model X.prog X.w) X.A (eval a X.env) (fun v s₁=>wpAny (model X.prog X.w) X.A (eval b X.env) (fun u s₂=>wpAny (model X.prog X.w) X.A (compareOp op v u) (EP X pins σ Q) X.xe s₂) X.xe s₁) X.xe s
theorem nobehind(b:Expr){op:CmpOp}(h:op ≠ .In)(h2:op ≠ .NotIn):behindInMarks op b=false:=by
 have e1:(op==CmpOp.In)=false:=by cases op <;> first | rfl | exact absurd rfl h
 have e2:(op==CmpOp.NotIn)=false:=by cases op <;> first | rfl | exact absurd rfl h2
 cases b <;> simp [behindInMarks,e1,e2]
def tB(t:TE):TT:=fun σ H Q=>t σ H fun x H1=>∃c,x = .bl c/\Q c H1
theorem pt_cmp{op:CmpOp}{t:TE}(h:PC X op a b t)(h1:behindInMarks op b=false:=by first | exact nobehind _ (by decide) (by decide) | rfl):PT X (.Compare a [op] [b] pos) (tB t):=by
 intro pins s σ H Q I hw;refine wpAny_isTrue_Compare1 (thn (h pins s σ H _ I hw) fun v s1 h1=>thn h1 fun u s2 h2=>thn h2 fun c s3 ⟨x,H1,I1,r1,q1⟩ => ?_) h1;obtain ⟨d,rfl,q⟩:=q1
 cases r1
 exact wpAny_truthy_bool ⟨H1,I1,q⟩
theorem pt_val{e:Expr}{t:TE}(h:PE X e t)(he:∀whole,isTrue e X.env whole=(do let v <-whole;standAt e.pos;holding [v] (truthy v)):=by intro _;rfl):PT X e (tB t):=by
 intro pins s σ H Q I hw;refine isTrue_plain (thn (h pins s σ H _ I hw) fun v s1 ⟨x,H1,I1,r1,q1⟩ => ?_) (he _);obtain ⟨d,rfl,q⟩:=q1
 cases r1
 exact wpAny_truthy_bool ⟨H1,I1,q⟩
variable {tA tB':TT} {rest:List Expr}
def tAnd(t u:TT):TT:=fun σ H Q=>t σ H fun c H1=>if c=true then u σ H1 Q else Q false H1
def tOr(t u:TT):TT:=fun σ H Q=>t σ H fun c H1=>if c=true then Q true H1 else u σ H1 Q
def tNot(t:TT):TT:=fun σ H Q=>t σ H fun c H1=>Q (!c) H1
theorem pw_and1(ha:PT X a tA):PW X (.BoolOp .And [a] pos) tA:=by
 intro wh pins s σ H Q I h;refine isTrue_and (thn (ha pins s σ H Q I h) fun c s1 e=> ?_)
 cases c with
 | true=>exact isTrue_and_nil e
 | false=>exact e
theorem pw_or1(ha:PT X a tA):PW X (.BoolOp .Or [a] pos) tA:=by
 intro wh pins s σ H Q I h;refine isTrue_or (thn (ha pins s σ H Q I h) fun c s1 e=> ?_)
 cases c with
 | false=>exact isTrue_or_nil e
 | true=>exact e
theorem pw_and(ha:PT X a tA)(hb:PW X (.BoolOp .And (b::rest) pos) tB'):PW X (.BoolOp .And (a::b::rest) pos) (tAnd tA tB'):=by
 intro wh pins s σ H Q I h;refine isTrue_and (thn (ha pins s σ H _ I h) fun c s1 ⟨H1,I1,q1⟩ => ?_)
 cases c with
 | true=>exact hb wh pins s1 σ H1 Q I1 q1
 | false=>exact ⟨H1,I1,q1⟩
theorem pw_or(ha:PT X a tA)(hb:PW X (.BoolOp .Or (b::rest) pos) tB'):PW X (.BoolOp .Or (a::b::rest) pos) (tOr tA tB'):=by
 intro wh pins s σ H Q I h;refine isTrue_or (thn (ha pins s σ H _ I h) fun c s1 ⟨H1,I1,q1⟩ => ?_)
 cases c with
 | true=>exact ⟨H1,I1,q1⟩
 | false=>exact hb wh pins s1 σ H1 Q I1 q1
theorem pt_not(ha:PT X a tA):PT X (.UnaryOp .Not a pos) (tNot tA):=by
 intro pins s σ H Q I h;exact isTrue_not (ha pins s σ H (fun c H1=>Q (!c) H1) I h)
def tAndV(ta tb:TE):TE:=fun σ H Q=>ta σ H fun x H1=>∃c,x = .bl c/\if c=true then tb σ H1 Q else Q (.bl false) H1
def tNotV(ta:TE):TE:=fun σ H Q=>ta σ H fun x H1=>∃c,x = .bl c/\Q (.bl (!c)) H1
theorem pe_one{op}{t:TE}(h:PE X a t):PE X (.BoolOp op [a] pos) t:=fun pins s σ H Q I hw=>BoolOp_one (h pins s σ H Q I hw)
theorem pe_and(ha:PE X a ta)(hb:PE X (.BoolOp .And (b::rest) pos) tb):PE X (.BoolOp .And (a::b::rest) pos) (tAndV ta tb):=by
 intro pins s σ H Q I h;refine BoolOp_and (thn (ha pins s σ H _ I h) fun v s1 ⟨x,H1,I1,r1,q1⟩ => ?_);obtain ⟨c,rfl,q1⟩:=q1
 cases r1
 refine wpAny_truthy_bool ?_
 cases c with
 | true=>exact hb pins s1 σ H1 Q I1 q1
 | false=>exact ⟨.bl false,H1,I1,rfl,q1⟩
theorem pe_not(ha:PE X a ta):PE X (.UnaryOp .Not a pos) (tNotV ta):=by
 intro pins s σ H Q I h;refine UnaryOp_ (thn (ha pins s σ H _ I h) fun v s1 ⟨x,H1,I1,r1,q1⟩ => ?_);obtain ⟨c,rfl,q1⟩:=q1
 cases r1
 exact not_of (wpAny_truthy_bool ⟨.bl (!c),H1,I1,rfl,q1⟩)
end
end L2
namespace L2
open PySem PySem.Spec PyProof.Rows
def SqL(K:PySem.W.Frag)(H:Hp)(a:Addr)(xs:List V):Prop:=
 Rd H a (.lst xs) \/
  ∃(o:Obj) (its:Array Value) (n:Nat),K.lookup a=some o/\o.cls = .type "list" /\ o.dict=none/\o.data = .seq its n/\its.size<=sizeLine/\Vals xs its.toList
def SqT(K:PySem.W.Frag)(H:Hp)(a:Addr)(xs:List V):Prop:=
 Rd H a (.tup xs) \/
  ∃(o:Obj) (its:Array Value) (n:Nat),K.lookup a=some o/\o.cls = .type "tuple" /\ o.data = .seq its n/\its.size<=sizeLine/\Vals xs its.toList
def absV:Value->Option V
 | .none=>some .non
 | .bool b=>some (.bl b)
 | .int i _=>some (.int i)
 | .str x _=>some (.str x)
 | .bytes b _=>some (.byt b)
 | .float b _=>some (.flt b)
 | .ref a=>some (.ref a)
 | .type n=>some (.ty n)
 | _=>none
theorem RelV.abs{x:V}{u:Value}(r:RelV x u):absV u=some x:=by
 cases x with
 | non=>cases r;rfl
 | bl _=>cases r;rfl
 | int _=>obtain ⟨t,rfl⟩:=r;rfl
 | str _=>obtain ⟨t,rfl⟩:=r;rfl
 | byt _=>obtain ⟨t,rfl⟩:=r;rfl
 | flt _=>obtain ⟨t,rfl⟩:=r;rfl
 | ref _=>cases r;rfl
 | ty _=>cases r;rfl
theorem RelV.inj{x y:V}{u:Value}(r:RelV x u)(q:RelV y u):x=y:=Option.some.inj (r.abs.symm.trans q.abs)
theorem Vals.inj:∀ {xs ys:List V} {us:List Value},Vals xs us->Vals ys us->xs=ys
 | _,_,_, .nil, .nil=>rfl
 | _,_,_, .cons r t, .cons r' t'=>by rw [r.inj r',Vals.inj t t']
section
variable {X:Cx} {pins:List (Addr×Obj)} {σ:St} {H:Hp} {s:Shared} {a:Addr} {xs ys:List V}
theorem SqL.of{K:PySem.W.Frag}(h:H a=some (.lst xs)):SqL K H a xs:= .inl (.inl h)
theorem SqT.of{K:PySem.W.Frag}(h:H a=some (.tup xs)):SqT K H a xs:= .inl (.inl h)
theorem Inv.list(I:Inv X pins σ H s)(h:SqL X.K H a xs):∃its:List Value,Vals xs its/\PlainL s.heap a its.toArray/\xs.length<=sizeLine:=by
 rcases h with h | ⟨o,its,n,hk,hc,hd,hs,hz,r⟩
 . obtain ⟨z,its,n,r,e⟩:=h.ok I.hok;exact ⟨its,r,⟨_,n,e,rfl,rfl,rfl⟩,z⟩
 . refine ⟨its.toList,r,⟨o,n,I.kIn a o hk,hc,hd,by simpa using hs⟩,?_⟩;have e:=r.length;simp only [Array.length_toList] at e
   omega
theorem Inv.tuple(I:Inv X pins σ H s)(h:SqT X.K H a xs):∃its:List Value,Vals xs its/\IsTup s.heap a its.toArray/\xs.length<=sizeLine:=by
 rcases h with h | ⟨o,its,n,hk,hc,hs,hz,r⟩
 . obtain ⟨z,its,r,p⟩:=h.ok I.hok;exact ⟨its,r,p,z⟩
 . refine ⟨its.toList,r,⟨o,I.kIn a o hk,hc,n,by simpa using hs⟩,?_⟩;have e:=r.length;simp only [Array.length_toList] at e
   omega
theorem Inv.list_inj(I:Inv X pins σ H s)(h:SqL X.K H a xs)(h':SqL X.K H a ys):xs=ys:=by
 obtain ⟨its,r,⟨o,n,e,_,_,d⟩,_⟩:=I.list h;obtain ⟨its',r',⟨o',n',e',_,_,d'⟩,_⟩:=I.list h';rw [e] at e';cases e'
 rw [d] at d'
 injection d' with d1 _
 have:its=its':=by simpa using congrArg Array.toList d1
 subst this;exact r.inj r'
theorem Inv.tuple_inj(I:Inv X pins σ H s)(h:SqT X.K H a xs)(h':SqT X.K H a ys):xs=ys:=by
 obtain ⟨its,r,⟨o,e,_,n,d⟩,_⟩:=I.tuple h;obtain ⟨its',r',⟨o',e',_,n',d'⟩,_⟩:=I.tuple h';rw [e] at e';cases e'
 rw [d] at d'
 injection d' with d1 _
 have:its=its':=by simpa using congrArg Array.toList d1
 subst this;exact r.inj r'
end
abbrev Cx.wish (X:Cx) (E:Value->Shared->Prop):Cx:={ X with xe:=E}
abbrev Cx.nox (X:Cx):Cx:=X.wish fun _ _=>False
theorem Cx.Ok.wish{X:Cx}(ok:X.Ok)(E:Value->Shared->Prop):(X.wish E).Ok:=
 ⟨ok.mod,ok.kind,ok.glob,ok.blt,ok.above,ok.inj,ok.has,ok.cab,ok.hd,ok.frames,ok.stk,ok.exf,ok.bs,ok.bsz,ok.noex,ok.exfs,ok.funs,ok.frf,ok.tb⟩
theorem Cx.Ok.unwish{X:Cx}{E:Value->Shared->Prop}(ok:(X.wish E).Ok):X.Ok:=
 ⟨ok.mod,ok.kind,ok.glob,ok.blt,ok.above,ok.inj,ok.has,ok.cab,ok.hd,ok.frames,ok.stk,ok.exf,ok.bs,ok.bsz,ok.noex,ok.exfs,ok.funs,ok.frf,ok.tb⟩
section
variable {X:Cx} {pins:List (Addr×Obj)} {σ:St} {H:Hp} {s:Shared} {E:Value->Shared->Prop}
theorem Inv.wish(I:Inv X pins σ H s)(E:Value->Shared->Prop):Inv (X.wish E) pins σ H s:=⟨I.ok.wish E,I.os,I.bare,I.base,I.loc,I.cell,I.free,I.freeC,I.pin,I.hok,I.len⟩
theorem Inv.unwish(I:Inv (X.wish E) pins σ H s):Inv X pins σ H s:=⟨I.ok.unwish,I.os,I.bare,I.base,I.loc,I.cell,I.free,I.freeC,I.pin,I.hok,I.len⟩
theorem SP.unwish{D:Ends}{f:Flow}{s':Shared}(h:SP (X.wish E) pins D f s'):SP X pins D f s':=by
 cases f with
 | next=>obtain ⟨σ',H',I,q⟩:=h;exact ⟨σ',H',I.unwish,q⟩
 | brk=>obtain ⟨σ',H',I,q⟩:=h;exact ⟨σ',H',I.unwish,q⟩
 | cont=>obtain ⟨σ',H',I,q⟩:=h;exact ⟨σ',H',I.unwish,q⟩
 | ret u=>obtain ⟨v,σ',H',I,r,q⟩:=h;exact ⟨v,σ',H',I.unwish,r,q⟩
theorem PSs.nox{st:List Stmt}{t:TS}(h:PSs X.nox st t):PSs X st t:=fun pins s σ H D I hw=>
 wpAny_mono (h pins s σ H D (I.wish _) hw) (fun _ _ q=>q.unwish) fun _ _ z=>False.elim z
end
section
variable {X:Cx} {st:Stmt} {rest:List Stmt} {t u:TS} {e:Expr} {te:TE} {pos:Pos}
def tNext:TS:=fun D σ H=>D.nx σ H
def tSeq(t u:TS):TS:=fun D σ H=>t { D with nx:=u D} σ H
theorem pss_nil:PSs X [] tNext:=fun _ _ σ H _ I h=>wpAny_execs_nil ⟨σ,H,I,h⟩
theorem pss_cons(h1:PS X st t)(h2:PSs X rest u):PSs X (st::rest) (tSeq t u):=by
 intro pins s σ H D I h;refine wpAny_execs_cons (thn (h1 pins s σ H { D with nx:=u D} I h) fun f s1 q=> ?_)
 cases f with
 | next=>
  obtain ⟨σ',H',I',q⟩:=q
  exact h2 pins s1 σ' H' D I' q
 | ret v=>exact q
 | brk=>exact q
 | cont=>exact q
theorem pss_one(h1:PS X st t):PSs X [st] t:=by
 intro pins s σ H D I h;refine wpAny_execs_cons (thn (h1 pins s σ H D I h) fun f s1 q=> ?_)
 cases f with
 | next=>exact wpAny_execs_nil q
 | ret v=>exact q
 | brk=>exact q
 | cont=>exact q
theorem Inv.quiet{pins:List (Addr×Obj)}{σ:St}{H:Hp}{s:Shared}(I:Inv X pins σ H s):interactive X.env=false:=by simp [interactive,I.ok.kind]
def tDrop(te:TE):TS:=fun D σ H=>te σ H fun _ H1=>D.nx σ H1
theorem ps_expr(he:PE X e te)(hs:swapsWith e none pos.line X.env=pure false:=by rfl):PS X (.Expr e pos) (tDrop te):=by
 intro pins s σ H D I h;exact wpAny_Expr_any (thn (he pins s σ H _ I h) fun v s1 ⟨x,H1,I1,r1,q1⟩=>⟨σ,H1,I1,q1⟩) I.quiet hs
def tRet(te:TE):TS:=fun D σ H=>te σ H D.rt
theorem ps_ret(he:PE X e te):PS X (.Return (some e) pos) (tRet te):=by
 intro pins s σ H D I h;exact wpAny_Return_some (thn (he pins s σ H _ I h) fun v s1 ⟨x,H1,I1,r1,q1⟩=>⟨x,σ,H1,I1,r1,q1⟩)
def tIfS(c:TT)(t u:TS):TS:=fun D σ H=>c σ H fun b H1=>if b=true then t D σ H1 else u D σ H1
theorem ps_if{c:Expr}{a b:List Stmt}{tc:TT}(hc:PT X c tc)(ha:PSs X a t)(hb:PSs X b u):PS X (.If c a b pos) (tIfS tc t u):=by
 intro pins s σ H D I h;refine wpAny_If (thn (hc pins s σ H _ I h) fun d s1 ⟨H1,I1,q1⟩ => ?_)
 cases d with
 | true=>exact ha pins s1 σ H1 D I1 q1
 | false=>exact hb pins s1 σ H1 D I1 q1
end
abbrev TG:=V->St->Hp->(St->Hp->Prop)->Prop
def PG(X:Cx)(target:Expr)(t:TG):Prop:=
 ∀(pins:List (Addr×Obj)) (s:Shared) (σ:St) (H:Hp) (v:V) (u:Value) (Q:St->Hp->Prop),Inv X pins σ H s->RelV v u->t v σ H Q ->
   wpAny (model X.prog X.w) X.A (assign target X.env u) (fun _ s'=>∃σ' H',Inv X pins σ' H' s'/\Q σ' H') X.xe s
abbrev TSet:=V->V->V->Hp->(Hp->Prop)->Prop
def PSet(X:Cx)(t:TSet):Prop:=
 ∀(pins:List (Addr×Obj)) (s:Shared) (σ:St) (H:Hp) (o i v:V) (ov iv u:Value) (Q:Hp->Prop),Inv X pins σ H s->RelV o ov->RelV i iv->RelV v u->t o i v H Q ->
   wpAny (model X.prog X.w) X.A (setItem ov iv u) (fun _ s'=>∃H',Inv X pins σ H' s'/\Q H') X.xe s
section
variable {X:Cx} {pos:Pos}
def gName(i:Nat):TG:=fun v σ H Q=>Q (σ.set i (some v)) H
theorem pg_name{i:Nat}{x:Str}(hN:X.N.Nodup)(hi:X.N[i]? = some x)(hx:Loc X.env.scope x)(hf:X.fn x=true\/X.env.scope.names.lookup x=some .local:=by first | exact .inl rfl | exact .inr rfl | assumption):PG X (.Name x pos) (gName i):=by
 intro pins s σ H v u Q I r h;exact wpAny_assign_Name (store_ok I hN hi hx r (fun s' I'=>⟨_,H,I',h⟩) hf)
def gSub(to ti:TE)(t:TSet):TG:=fun v σ H Q=>to σ H fun o H1=>ti σ H1 fun i H2=>t o i v H2 fun H3=>Q σ H3
theorem pg_sub {o i : Expr} {to ti : TE} {t : TSet} (ho : PE X o to) (hi : PE X i ti) (hs : PSet X t)
 (ha:∀v,assign (.Subscript o i pos) X.env v=(do
  let ov <-holding [v] (eval o X.env)
  let iv <-holding [v,ov] (eval i X.env)
  standAt pos
  holding [v,ov,iv] (setItem ov iv v)
  release [v,ov,iv] []):=by intro _;rfl):PG X (.Subscript o i pos) (gSub to ti t):=by
 intro pins s σ H v u Q I r h;rw [ha];refine wpAny_bind (wpAny_holding (thn (ho pins s σ H _ I h) fun ov s1 ⟨x,H1,I1,r1,q1⟩ => ?_));refine wpAny_bind (wpAny_holding (thn (hi pins s1 σ H1 _ I1 q1) fun iv s2 ⟨y,H2,I2,r2,q2⟩ => ?_));refine wpAny_bind (wpAny_standAt (wpAny_bind (wpAny_holding (thn (hs pins s2 σ H2 x y v ov iv u _ I2 r1 r2 r q2) fun _ s3 ⟨H3,I3,q3⟩ => ?_))));exact wpAny_release ⟨σ,H3,I3,q3⟩
def tAsg(te:TE)(g:TG):TS:=fun D σ H=>te σ H fun x H1=>g x σ H1 D.nx
theorem ps_asg {tg e : Expr} {te : TE} {g : TG} (he : PE X e te) (hg : PG X tg g) (hs : swapsWithSole [tg] e pos.line X.env = pure false := by rfl) (hw : swappedStores [tg] e X.env = pure none := by rfl)
 (h1:(assignEach [tg] X.env).map (·.2) = [assign tg X.env]:=by rfl):PS X (.Assign [tg] e pos) (tAsg te g):=by
 intro pins s σ H D I h;refine wpAny_Assign_stores (thn (he pins s σ H _ I h) fun v s1 ⟨x,H1,I1,r1,q1⟩ => ?_) hs hw;rw [h1];exact thn (hg pins s1 σ H1 x v _ I1 r1 q1) fun _ s2 q=>q
theorem ps_set {i : Nat} {x : Str} {e : Expr} {te : TE} {pos' : Pos} (hN : X.N.Nodup) (hi : X.N[i]? = some x) (hx : Loc X.env.scope x) (he : PE X e te) (hs : swapsWith e (some (.Name x pos')) pos.line X.env = pure false := by rfl) (hf : X.fn x = true \/ X.env.scope.names.lookup x = some .local := by first | exact .inl rfl | exact .inr rfl | assumption) :
 PS X (.Assign [.Name x pos'] e pos) (tAsg te (gName i)):=by
 intro pins s σ H D I h;refine wpAny_Assign_Name (thn (he pins s σ H _ I h) fun v s1 ⟨y,H1,I1,r1,q1⟩ => ?_) hs;exact store_ok I1 hN hi hx r1 (fun s2 I2=>⟨_,H1,I2,q1⟩) hf
end
section
variable {X:Cx} {pos:Pos}
def tWhile(c:TT)(tb:TS):TS:=fun D σ H=>∃W:Nat->St->Hp->Prop,(∃m,W m σ H)/\∀m σ H,W m σ H ->
 c σ H fun b H1=>if b=true then ∃N:St->Hp->Prop,(∀σ' H',N σ' H'->∃m',m'<m/\W m' σ' H')/\tb { D with nx:=N,ct:=N,bk:=D.nx} σ H1 else D.nx σ H1
theorem ps_while{c:Expr}{body:List Stmt}{tc:TT}{tb:TS}(hp:PassesOwn (model X.prog X.w) X.A X.env X.xe)(hc:PT X c tc)(hb:PSs X body tb):PS X (.While c body [] pos) (tWhile tc tb):=by
 intro pins s σ H D I h;obtain ⟨W,⟨m0,w0⟩,turn⟩:=h;refine wpAny_While (codeAny_whileLoop (fun n s'=>∃σ' H',Inv X pins σ' H' s'/\W n σ' H') ?_ m0 ⟨σ,H,I,w0⟩);rintro n s1 ⟨σ1,H1,I1,w1⟩;refine wpAny_passesOwn hp (thn (hc pins s1 σ1 H1 _ I1 (turn n σ1 H1 w1)) fun b s2 ⟨H2,I2,q2⟩ => ?_)
 cases b with
 | true=>
  obtain ⟨N,hN,q2⟩:=q2;rw [if_pos rfl];refine wpAny_passesOwn hp (thn (hb pins s2 σ1 H2 _ I2 q2) fun f s3 q3=> ?_)
  cases f with
  | next=>
   obtain ⟨σ3,H3,I3,n3⟩:=q3;obtain ⟨m',hm,w3⟩:=hN σ3 H3 n3
   exact ⟨m',hm,σ3,H3,I3,w3⟩
  | cont=>
   obtain ⟨σ3,H3,I3,n3⟩:=q3;obtain ⟨m',hm,w3⟩:=hN σ3 H3 n3
   exact ⟨m',hm,σ3,H3,I3,w3⟩
  | brk=>exact q3
  | ret v=>exact q3
 | false=>
  rw [if_neg Bool.false_ne_true];exact wpAny_execs_nil ⟨σ1,H2,I2,q2⟩
end
structure It where
 go:Nat->Hp->Prop
 yld:Nat->Hp->V->Hp->Prop
 stop:Nat->Hp->Prop
def FpOk(X:Cx)(pins:List (Addr×Obj))(H:Hp)(b:Addr):Prop:=
 H b=none/\b≠X.env.locals/\b ∉ X.fs/\(b ∈ X.ex\/X.s₀.heap.objs.size<=b)/\(∀x c,X.env.cells.lookup x=some c->c≠b)/\∀p ∈ X.pn++pins,p.1≠b
theorem Inv.fpOk{X:Cx}{pins:List (Addr×Obj)}{σ:St}{H H':Hp}{s:Shared}{b:Addr}(I:Inv X pins σ H s)(hb:s.heap.objs.size<=b)(hn:H' b=none):FpOk X pins H' b:=by
 refine ⟨hn,Nat.ne_of_gt (Nat.lt_of_lt_of_le I.lt hb),I.nofs hb, .inr (Nat.le_trans I.sz hb),fun x c e z=> ?_,fun p hp z=> ?_⟩
 . obtain ⟨v,q⟩:=I.cell x c e;exact absurd (Nat.lt_of_lt_of_le q.lt (by rw [z];exact hb)) (Nat.lt_irrefl _)
 . exact absurd (Nat.lt_of_lt_of_le (Heap.lt_size (I.pin p hp).1) (by rw [z];exact hb)) (Nat.lt_irrefl _)
structure Turn (P:Program) (w:World) (K:PySem.W.Frag) (tg:Expr) (J:It) (fp:List Addr) (it:Addr) (tn:Nat->Heap->Prop):Prop where
 mem:it ∈ fp
 obj:∀i h,tn i h->∀b ∈ fp,∃o,h.get? b=some o/\∀v,o.data ≠ .cell v
 keep:∀i h h',tn i h->(∀b ∈ fp,∀o,h.get? b=some o->h'.get? b=some o)->tn i h'
 item:∀(X:Cx),X.prog=P->X.w=w->X.K=K->X.calm=true->∀(i:Nat) (pins:List (Addr×Obj)) (s:Shared) (σ:St) (H:Hp) (E:Value->Shared->Prop),Inv X pins σ H s->(∀b ∈ fp,FpOk X pins H b)->tn i s.heap->J.go i H ->
  wpAny (model P w) X.A (pyNext (.ref it)) (fun r s1=>∃u,r=some u /\
   wpAny (model P w) X.A (letOwnedTupleGo tg (.ref it) u) (fun _ s2=>∃x H',Inv X pins σ H' s2/\RelV x u/\J.yld i H x H'/\tn (i+1) s2.heap/\∀b ∈ fp,H' b=none) E s1) E s
 done:∀(X:Cx),X.prog=P->X.w=w->X.K=K->X.calm=true->∀(i:Nat) (pins:List (Addr×Obj)) (s:Shared) (σ:St) (H:Hp) (E:Value->Shared->Prop),Inv X pins σ H s->(∀b ∈ fp,FpOk X pins H b)->tn i s.heap->J.stop i H ->
  wpAny (model P w) X.A (pyNext (.ref it)) (fun r s1=>r=none/\Inv X pins σ H s1) E s
 self:∀(A:Around) (i:Nat) (s:Shared) (Q:Value->Shared->Prop) (E:Value->Shared->Prop),tn i s.heap->Q (.ref it) s->wpAny (model P w) A (pyIter (.ref it)) Q E s
abbrev TI:=St->Hp->(It->Hp->Prop)->Prop
def PIE(X:Cx)(pins:List (Addr×Obj))(σ:St)(tg:Expr)(R:It->Hp->Prop)(itv:Value)(s2:Shared):Prop:=
 ∃(it:Addr) (fp:List Addr) (tn:Nat->Heap->Prop) (J:It) (H':Hp),itv = .ref it/\Inv X pins σ H' s2/\Turn X.prog X.w X.K tg J fp it tn/\tn 0 s2.heap/\(∀b ∈ fp,FpOk X pins H' b)/\R J H'
def PI(X:Cx)(tg iter:Expr)(wi:TI):Prop:=
 ∀(pins:List (Addr×Obj)) (s:Shared) (σ:St) (H:Hp) (R:It->Hp->Prop),Inv X pins σ H s->wi σ H R ->
   wpAny (model X.prog X.w) X.A (eval iter X.env) (fun v s1=>wpAny (model X.prog X.w) X.A (pyIter v) (PIE X pins σ tg R) X.xe s1) X.xe s
theorem go_of {M : Model} {A : Around} {E : Value -> Shared -> Prop} {s : Shared} {tg : Expr} {it : Addr} {u : Value} {o : Obj} {n : String} {vs : Array Value} {Q : Unit -> Shared -> Prop} (ho : s.heap.get? it = some o) (hc : o.cls = .type n) (hd : o.data = .fields vs)
 (hn : ["enumerate","zip","dict_itemiterator","dict_reverseitemiterator","odict_iterator","itertools.zip_longest","itertools.pairwise"].contains n=false) (hQ:Q () s):wpAny M A (letOwnedTupleGo tg (.ref it) u) Q E s:=by
 unfold letOwnedTupleGo
 cases tg <;> first
  | exact wpAny_pure hQ
  | (cases u <;> first
   | exact wpAny_pure hQ
   | (refine wpAny_bind (wpAny_load ho ?_)
      rw [hc,hd];show wpAny M A (if (["enumerate","zip","dict_itemiterator","dict_reverseitemiterator","odict_iterator","itertools.zip_longest","itertools.pairwise"].contains n && vs[0]? ==some (rawInt _))=true then _ else _) Q E s;rw [if_neg (by intro h;rw [hn,Bool.false_and] at h;cases h)];exact wpAny_pure hQ))
def Itl(K:PySem.W.Frag)(a:Addr):It:=
 ⟨fun i H=>∃xs x,SqL K H a xs/\xs[i]? = some x,fun i H x H'=>H'=H/\∀xs,SqL K H a xs->xs[i]? = some x,fun i H=>∃xs,SqL K H a xs/\xs.length<=i⟩
def Itt(K:PySem.W.Frag)(a:Addr):It:=
 ⟨fun i H=>∃xs x,SqT K H a xs/\xs[i]? = some x,fun i H x H'=>H'=H/\∀xs,SqT K H a xs->xs[i]? = some x,fun i H=>∃xs,SqT K H a xs/\xs.length<=i⟩
def Itr(lo:Int)(n:Nat):It:=⟨fun i _=>i<n,fun i H x H'=>H'=H/\x = .int (lo+i),fun i _=>n<=i⟩
theorem turn_list{P:Program}{w:World}{K:PySem.W.Frag}{tg:Expr}(a it:Addr):Turn P w K tg (Itl K a) [it] it (fun i h=>h.IsListIter it a i) where
 mem:=by simp
 obj:=fun i h st b hb=>by
  have e:b=it:=by simpa using hb
  subst e;obtain ⟨o,e,c,d⟩:=st;exact ⟨o,e,fun v z=>by rw [d] at z;cases z⟩
 keep:=fun i h h' st k=>st.at fun o e=>k it (by simp) o e
 item:=by
  intro X hP hw hK hc i pins s σ H E I hf st hg;subst hP hw hK;obtain ⟨xs,x,hq,hx⟩:=hg;obtain ⟨its,rv,p,hz⟩:=I.list hq;obtain ⟨u,hu,ru⟩:=rv.get hx;obtain ⟨f0,f1,f2,f3,f4,f5⟩:=hf it (by simp);refine wpAny_pyNext_list_item st p.isList (x:=u) (by simpa using hu) fun h' st' sb=> ?_;have I1:Inv X pins σ H {s with heap:=h' }:=I.turned (t':=s.toks) (fun b o hb e=>(sb.2 b hb).trans e) f0 f1 f3 f4 f5;obtain ⟨o,e,c,d⟩:=id st';exact ⟨u,rfl,go_of (s:={s with heap:=h' }) e c d (by decide) ⟨x,H,I1,ru,⟨rfl,fun ys hy=>by rw [I.list_inj hy hq];exact hx⟩,st',fun b hb=>(hf b hb).1⟩⟩
 done:=by
  intro X hP hw hK hc i pins s σ H E I hf st hg;subst hP hw hK;obtain ⟨xs,hq,hx⟩:=hg;obtain ⟨its,rv,p,hz⟩:=I.list hq;obtain ⟨f0,f1,f2,f3,f4,f5⟩:=hf it (by simp);have hl:=rv.length;exact wpAny_pyNext_list_end (I.ok.hd hc) st p.isList (by simp;omega) fun h' eb=>⟨rfl,I.turned (t':=s.toks) (fun b o hb e=>eb b o hb e) f0 f1 f3 f4 f5⟩
 self:=fun _ _ _ _ _ st h=>wpAny_pyIter_listiter st h
theorem turn_tuple{P:Program}{w:World}{K:PySem.W.Frag}{tg:Expr}(a it:Addr):Turn P w K tg (Itt K a) [it] it (fun i h=>h.IsTupleIter it a i) where
 mem:=by simp
 obj:=fun i h st b hb=>by
  have e:b=it:=by simpa using hb
  subst e;obtain ⟨o,e,c,d⟩:=st;exact ⟨o,e,fun v z=>by rw [d] at z;cases z⟩
 keep:=fun i h h' st k=>st.at fun o e=>k it (by simp) o e
 item:=by
  intro X hP hw hK hc i pins s σ H E I hf st hg;subst hP hw hK;obtain ⟨xs,x,hq,hx⟩:=hg;obtain ⟨its,rv,p,hz⟩:=I.tuple hq;obtain ⟨u,hu,ru⟩:=rv.get hx;obtain ⟨f0,f1,f2,f3,f4,f5⟩:=hf it (by simp);refine wpAny_pyNext_tuple_item st (show s.heap.IsTuple a its.toArray from p) (x:=u) (by simpa using hu) fun h' st' sb=> ?_;have I1:Inv X pins σ H {s with heap:=h' }:=I.turned (t':=s.toks) (fun b o hb e=>(sb.2 b hb).trans e) f0 f1 f3 f4 f5;obtain ⟨o,e,c,d⟩:=id st';exact ⟨u,rfl,go_of (s:={s with heap:=h' }) e c d (by decide) ⟨x,H,I1,ru,⟨rfl,fun ys hy=>by rw [I.tuple_inj hy hq];exact hx⟩,st',fun b hb=>(hf b hb).1⟩⟩
 done:=by
  intro X hP hw hK hc i pins s σ H E I hf st hg;subst hP hw hK;obtain ⟨xs,hq,hx⟩:=hg;obtain ⟨its,rv,p,hz⟩:=I.tuple hq;obtain ⟨f0,f1,f2,f3,f4,f5⟩:=hf it (by simp);have hl:=rv.length;exact wpAny_pyNext_tuple_end (I.ok.hd hc) st (show s.heap.IsTuple a its.toArray from p) (by simp;omega) fun h' eb=>⟨rfl,I.turned (t':=s.toks) (fun b o hb e=>eb b o hb e) f0 f1 f3 f4 f5⟩
 self:=fun _ _ _ _ _ st h=>wpAny_pyIter_tupleiter st h
theorem turn_range{P:Program}{w:World}{K:PySem.W.Frag}{tg:Expr}(it:Addr)(lo:Int)(n:Nat):Turn P w K tg (Itr lo n) [it] it (fun i h=>IsRangeIter h it (lo+(i:Nat)*1) ((n:Int) - (i:Nat)) 1) where
 mem:=by simp
 obj:=fun i h st b hb=>by
  have e:b=it:=by simpa using hb
  subst e
  exact ⟨_,st,fun v z=>by
   have z':Data.fields _=Data.cell v:=z
   cases z'⟩
 keep:=fun i h h' st k=>k it (by simp) _ st
 item:=by
  intro X hP hw hK hc i pins s σ H E I hf st hg;subst hP hw hK;obtain ⟨f0,f1,f2,f3,f4,f5⟩:=hf it (by simp);have W:=Walks.range (prog:=X.prog) (w:=X.w) (I.ok.hd hc) it lo 1 n;refine W.item i s _ _ hg st fun v h' tk hv st' kk=> ?_;obtain ⟨t,rfl⟩:=hv;have I1:Inv X pins σ H {s with heap:=h',toks:=tk}:=I.turned (fun b o hb e=>kk b o (by simpa using hb) e) f0 f1 f3 f4 f5;refine ⟨_,rfl,go_of (s:={s with heap:=h',toks:=tk}) (n:= "range_iterator") st' rfl rfl (by decide) ⟨.int (lo+i),H,I1,⟨t,?_⟩,⟨rfl,rfl⟩,st',fun b hb=>(hf b hb).1⟩⟩;rw [Int.mul_one]
 done:=by
  intro X hP hw hK hc i pins s σ H E I hf st hg;subst hP hw hK;obtain ⟨f0,f1,f2,f3,f4,f5⟩:=hf it (by simp);exact wpAny_pyNext_range_end (I.ok.hd hc) st (by have:n<=i:=hg;omega) fun h' eb=>⟨rfl,I.turned (t':=s.toks) (fun b o hb e=>eb b o hb e) f0 f1 f3 f4 f5⟩
 self:=fun _ _ _ _ _ st h=>wpAny_pyIter_rangeiter st h
end L2
namespace L2
open PySem PySem.Spec PyProof.Rows
section
variable {X:Cx} {tg:Expr}
theorem range_it {pins : List (Addr × Obj)} {σ : St} {H : Hp} {s : Shared} {R : It -> Hp -> Prop} {E : Value -> Shared -> Prop} {lo hi : Int} {t u v : Tok} {tk : Nat} (I : Inv X pins σ H s) (h1 : -(2 ^ 62) <= lo) (h2 : lo < 2 ^ 62) (h3 : -(2 ^ 62) <= hi) (h4 : hi < 2 ^ 62)
 (q:R (Itr lo (hi - lo).toNat) H):wpAny (model X.prog X.w) X.A (pyIter (.ref s.heap.objs.size)) (PIE X pins σ tg R) E {s with heap:=s.heap.push {cls:= .type "range",data:= .fields #[.int lo t, .int hi u, .int 1 v]},toks:=tk}:=by
 refine wpAny_pyIter_range (IsRange.new ..) (small_one h1 h2 h3 h4) ?_;have I1:Inv X pins σ H {s with heap:=s.heap.push {cls:= .type "range",data:= .fields #[.int lo t, .int hi u, .int 1 v]},toks:=tk}:=I.kept fun b o e=>Heap.get?_push_of_some _ e
 refine ⟨(s.heap.push {cls:= .type "range",data:= .fields #[.int lo t, .int hi u, .int 1 v]}).objs.size,[(s.heap.push {cls:= .type "range",data:= .fields #[.int lo t, .int hi u, .int 1 v]}).objs.size],_,_,H,rfl,
  I1.kept (t':=tk) fun b o e=>Heap.get?_push_of_some _ e,turn_range _ lo (hi - lo).toNat,?_,fun b hb=> ?_,q⟩
 . have e1:lo+((0:Nat):Int)*1=lo:=by simp
   have e2:(((hi - lo).toNat:Nat):Int) - ((0:Nat):Int)=Builtin.Range.rangeSize lo hi 1:=by rw [rangeSize_one];split <;> omega
   show IsRangeIter _ _ (lo+((0:Nat):Int)*1) ((((hi - lo).toNat:Nat):Int) - ((0:Nat):Int)) 1;rw [e1,e2];exact Heap.get?_push_size _ rfl
 . have e:b=(s.heap.push {cls:= .type "range",data:= .fields #[.int lo t, .int hi u, .int 1 v]}).objs.size:=by simpa using hb
   subst e;exact I1.fpOk (Nat.le_refl _) (I1.hok.fresh (Nat.le_refl _))
def iRng1(ta:TA):TI:=fun σ H R=>ta σ H fun vs H1=>∃j:Int,vs = [.int j] /\ -(2 ^ 62)<=j/\j<2 ^ 62/\R (Itr 0 j.toNat) H1
theorem pi_range1 {a:Expr} {ta:TA} {p pos:Pos} (hg:Gl X "range") (hm:X.mg "range" = none) (ha:PA X [a] ta) (hs:starEach [a] X.env = [(false,eval a X.env)]:=by rfl):PI X tg (.Call (.Name "range" p) [a] [] pos) (iRng1 ta):=by
 intro pins s σ H R I h;refine Call_ (ld_blt I hg hm boot_range (PyProof.Rows.callWith_type1 (thn (ha pos pins s σ H _ I h) fun us s1 ⟨vs,H1,I1,r1,q1⟩ => ?_) hs rfl));obtain ⟨j,e,q1,q2,q⟩:=q1;subst e
 cases r1 with
 | cons r rr=>
  cases rr
  obtain ⟨t,rfl⟩:=r;exact call_range_1 (range_it I1 (by omega) (by omega) q1 q2 (by simpa using q))
def tFor(wi:TI)(g:TG)(tb:TS):TS:=fun D σ H=>wi σ H fun J H1=>∃W:Nat->Nat->St->Hp->Prop,(∃m,W 0 m σ H1)/\∀i m σ H,W i m σ H ->
 (J.stop i H/\D.nx σ H)\/(J.go i H/\∃N:St->Hp->Prop,(∀σ' H',N σ' H'->∃m',m'<m/\W (i+1) m' σ' H')/\∀x H',J.yld i H x H'->g x σ H' fun σ2 H2=>tb { D with nx:=N,ct:=N,bk:=D.nx} σ2 H2)
def pinsAt(fp:List Addr)(h:Heap):List (Addr×Obj):=fp.filterMap fun b=>(h.get? b).map fun o=>(b,o)
theorem mem_pinsAt{fp:List Addr}{h:Heap}{b:Addr}{o:Obj}(hb:b ∈ fp)(e:h.get? b=some o):(b,o) ∈ pinsAt fp h:=List.mem_filterMap.mpr ⟨b,hb,by rw [e];rfl⟩
theorem of_pinsAt{fp:List Addr}{h:Heap}{p:Addr×Obj}(hp:p ∈ pinsAt fp h):p.1 ∈ fp/\h.get? p.1=some p.2:=by
 obtain ⟨b,hb,e⟩:=List.mem_filterMap.mp hp
 cases q:h.get? b with
 | none=>rw [q] at e;cases e
 | some o=>
  rw [q] at e
  have e':(b,o)=p:=Option.some.inj e;subst e';exact ⟨hb,q⟩
theorem Inv.pinned{pins:List (Addr×Obj)}{σ:St}{H:Hp}{s:Shared}{fp:List Addr}(I:Inv X pins σ H s)(hf:∀b ∈ fp,FpOk X pins H b)(ho:∀b ∈ fp,∃o,s.heap.get? b=some o/\∀v,o.data ≠ .cell v):Inv X (pins++pinsAt fp s.heap) σ H s:=
 I.pins_of fun p hp=>(List.mem_append.mp hp).elim (fun z=>I.pin p (List.mem_append_right _ z)) fun z=>by
  obtain ⟨hb,e⟩:=of_pinsAt z;obtain ⟨f0,f1,f2,_⟩:=hf p.1 hb;obtain ⟨o,e',d⟩:=ho p.1 hb;rw [e] at e';cases e'
  exact ⟨e,f0,f1,f2,d⟩
theorem Inv.unpinned{pins pl:List (Addr×Obj)}{σ:St}{H:Hp}{s:Shared}(I:Inv X (pins++pl) σ H s):Inv X pins σ H s:=I.pins_of fun p hp=>I.pin p (List.mem_append_right _ (List.mem_append_left _ hp))
theorem ps_for {iter : Expr} {body : List Stmt} {wi : TI} {g : TG} {tb : TS} {pos : Pos} (hp : PassesOwn (model X.prog X.w) X.A X.env X.xe) (hc : X.calm = true) (hi : PI X tg iter wi) (hg : PG X tg g) (hb : PSs X body tb)
 (hs:∀x,foldedSetIterable iter X.env x=pure x:=by intro _;rfl):PS X (.For tg iter body [] pos) (tFor wi g tb):=by
 intro pins s σ H D I h;refine wpAny_For (thn (hi pins s σ H _ I h) fun v s1 h1=>thn h1 fun itv s2 h2=> ?_) hs;obtain ⟨it,fp,tn,J,H2,e,I2,T,st2,f2,W,⟨m0,w0⟩,turn⟩:=h2;subst e;have stat:∀ {H':Hp},(∀b ∈ fp,H' b=none)->∀b ∈ fp,FpOk X pins H' b:=fun hn b hb=>⟨hn b hb,(f2 b hb).2⟩;refine codeAny_forLoop_any (fun n s'=>∃i σ' H',Inv X pins σ' H' s'/\tn i s'.heap/\(∀b ∈ fp,H' b=none)/\W i n σ' H') ?_ m0 ⟨0,σ,H2,I2,st2,fun b hb=>(f2 b hb).1,w0⟩;rintro n s3 ⟨i,σ3,H3,I3,st3,fr3,w3⟩;rcases turn i n σ3 H3 w3 with ⟨stop,qn⟩ | ⟨go,N,hN,step⟩
 . refine wpAny_passesOwn hp (thn (T.done X rfl rfl rfl hc i pins s3 σ3 H3 X.xe I3 (stat fr3) st3 stop) fun r s4 ⟨hr,I4⟩ => ?_);subst hr;exact wpAny_execs_nil ⟨σ3,H3,I4,qn⟩
 . refine wpAny_passesOwn hp (thn (T.item X rfl rfl rfl hc i pins s3 σ3 H3 X.xe I3 (stat fr3) st3 go) fun r s4 ⟨u,hr,h4⟩ => ?_);subst hr;refine wpAny_passesOwn hp (thn h4 fun _ s5 ⟨x,H5,I5,r5,y5,st5,fr5⟩ => ?_);have I5':=I5.pinned (stat fr5) (T.obj _ _ st5);refine wpAny_passesOwn hp (thn (hg _ s5 σ3 H5 x u _ I5' r5 (step x H5 y5)) fun _ s6 ⟨σ6,H6,I6,q6⟩ => ?_);refine wpAny_passesOwn hp (thn (hb _ s6 σ6 H6 _ I6 q6) fun f s7 q7=> ?_)
   have again:∀ {σ7:St} {H7:Hp},Inv X (pins++pinsAt fp s5.heap) σ7 H7 s7->N σ7 H7->∃m,m<n/\∃i σ' H',Inv X pins σ' H' s7/\tn i s7.heap/\(∀b ∈ fp,H' b=none)/\W i m σ' H':=fun {σ7 H7} I7 n7=>by
    obtain ⟨m',hm,w7⟩:=hN σ7 H7 n7;refine ⟨m',hm,i+1,σ7,H7,I7.unpinned,T.keep _ _ _ st5 fun b hb o e=>(I7.pin (b,o) (List.mem_append_right _ (List.mem_append_right _ (mem_pinsAt hb e)))).1,fun b hb=> ?_,w7⟩;obtain ⟨o,e,d⟩:=T.obj _ _ st5 b hb;exact (I7.pin (b,o) (List.mem_append_right _ (List.mem_append_right _ (mem_pinsAt hb e)))).2.1
   cases f with
   | next=>obtain ⟨σ7,H7,I7,n7⟩:=q7;exact again I7 n7
   | cont=>obtain ⟨σ7,H7,I7,n7⟩:=q7;exact again I7 n7
   | brk=>obtain ⟨σ7,H7,I7,q7⟩:=q7;exact ⟨σ7,H7,I7.unpinned,q7⟩
   | ret v=>obtain ⟨x7,σ7,H7,I7,r7,q7⟩:=q7;exact ⟨x7,σ7,H7,I7.unpinned,r7,q7⟩
end
end L2
namespace L2
open PySem PySem.Spec PyProof.Rows
abbrev R2:=V->V->Hp->VK->Prop
def OpR(X:Cx)(f:Value->Value->Sem Value)(r:R2):Prop:=
 ∀(pins:List (Addr×Obj)) (s:Shared) (σ:St) (H:Hp) (x y:V) (v u:Value) (Q:VK),Inv X pins σ H s->RelV x v->RelV y u->r x y H Q ->
   wpAny (model X.prog X.w) X.A (f v u) (EP X pins σ Q) X.xe s
def UnR(X:Cx)(f:Value->Sem Value)(r:V->Hp->VK->Prop):Prop:=
 ∀(pins:List (Addr×Obj)) (s:Shared) (σ:St) (H:Hp) (x:V) (v:Value) (Q:VK),Inv X pins σ H s->RelV x v->r x H Q ->
   wpAny (model X.prog X.w) X.A (f v) (EP X pins σ Q) X.xe s
def CallR(X:Cx)(f:Value)(r:List V->Hp->VK->Prop):Prop:=
 ∀(pins:List (Addr×Obj)) (s:Shared) (σ:St) (H:Hp) (xs:List V) (us:List Value) (Q:VK),Inv X pins σ H s->Vals xs us->r xs H Q ->
   wpAny (model X.prog X.w) X.A (call f us) (EP X pins σ Q) X.xe s
def tOp(r:R2)(ta tb:TE):TE:=fun σ H Q=>ta σ H fun x H1=>tb σ H1 fun y H2=>r x y H2 Q
def tUn(r:V->Hp->VK->Prop)(ta:TE):TE:=fun σ H Q=>ta σ H fun x H1=>r x H1 Q
def rI(C:Int->Int->Prop)(g:Int->Int->V):R2:=fun x y H Q=>∃i j,x = .int i/\y = .int j/\C i j/\Q (g i j) H
def rI0(g:Int->Int->V):R2:=fun x y H Q=>∃i j,x = .int i/\y = .int j/\Q (g i j) H
def rU(g:Int->V):V->Hp->VK->Prop:=fun x H Q=>∃i,x = .int i/\Q (g i) H
section
variable {X:Cx} {a b c:Expr} {ta tb tc:TE} {pos:Pos}
theorem binT (ha : PE X a ta) (hb : PE X b tb) {pins : List (Addr × Obj)} {s : Shared} {σ : St} {H : Hp} {R : V -> V -> Hp -> Prop} (I : Inv X pins σ H s)
 (h:ta σ H fun x H1=>tb σ H1 fun y H2=>R x y H2) {Q:Value->Shared->Prop} {f:Value->Value->Sem Value}
 (hf:∀v u s2 x y H2,Inv X pins σ H2 s2->RelV x v->RelV y u->R x y H2->wpAny (model X.prog X.w) X.A (f v u) Q X.xe s2) :
 wpAny (model X.prog X.w) X.A (eval a X.env) (fun v s₁=>wpAny (model X.prog X.w) X.A (eval b X.env) (fun u s₂=>wpAny (model X.prog X.w) X.A (f v u) Q X.xe s₂) X.xe s₁) X.xe s:=by
 refine thn (ha pins s σ H _ I h) fun v s1 ⟨x,H1,I1,r1,q1⟩ => ?_;refine thn (hb pins s1 σ H1 _ I1 q1) fun u s2 ⟨y,H2,I2,r2,q2⟩ => ?_;exact hf v u s2 x y H2 I2 r1 r2 q2
theorem pe_op{op:Operator}{r:R2}(ho:OpR X (binaryOp op) r)(ha:PE X a ta)(hb:PE X b tb):PE X (.BinOp a op b pos) (tOp r ta tb):=by
 intro pins s σ H Q I h;exact wpAny_BinOp (binT ha hb I h fun v u s2 x y H2 I2 rx ry q=>ho pins s2 σ H2 x y v u Q I2 rx ry q)
theorem pe_un{op:UnaryOp}{r:V->Hp->VK->Prop}(ho:UnR X (unaryOp op) r)(ha:PE X a ta):PE X (.UnaryOp op a pos) (tUn r ta):=by
 intro pins s σ H Q I h;exact UnaryOp_ (thn (ha pins s σ H _ I h) fun v s1 ⟨x,H1,I1,r1,q1⟩=>ho pins s1 σ H1 x v Q I1 r1 q1)
theorem opI {f : Value -> Value -> Sem Value} {C : Int -> Int -> Prop} {g : Int -> Int -> Int}
 (rule:∀(i j:Int) (t u:Tok) (s:Shared) (Q:Value->Shared->Prop) (E:Value->Shared->Prop),C i j->Q (.int (g i j) s.toks) {s with toks:=s.toks+1}->wpAny (model X.prog X.w) X.A (f (.int i t) (.int j u)) Q E s) :
 OpR X f (rI C fun i j=> .int (g i j)):=by
 intro pins s σ H x y v u Q I rx ry h;obtain ⟨i,j,rfl,rfl,hc,q⟩:=h;obtain ⟨t,rfl⟩:=rx;obtain ⟨t',rfl⟩:=ry;exact rule i j t t' s _ _ hc ⟨.int (g i j),H,I.tok _,⟨_,rfl⟩,q⟩
theorem opI0 {f : Value -> Value -> Sem Value} {g : Int -> Int -> Int}
 (rule:∀(i j:Int) (t u:Tok) (s:Shared) (Q:Value->Shared->Prop) (E:Value->Shared->Prop),Q (.int (g i j) s.toks) {s with toks:=s.toks+1}->wpAny (model X.prog X.w) X.A (f (.int i t) (.int j u)) Q E s) :
 OpR X f (rI0 fun i j=> .int (g i j)):=by
 intro pins s σ H x y v u Q I rx ry h;obtain ⟨i,j,rfl,rfl,q⟩:=h;obtain ⟨t,rfl⟩:=rx;obtain ⟨t',rfl⟩:=ry;exact rule i j t t' s _ _ ⟨.int (g i j),H,I.tok _,⟨_,rfl⟩,q⟩
theorem opB0 {f : Value -> Value -> Sem Value} {g : Int -> Int -> Bool}
 (rule:∀(i j:Int) (t u:Tok) (s:Shared) (Q:Value->Shared->Prop) (E:Value->Shared->Prop),Q (.bool (g i j)) s->wpAny (model X.prog X.w) X.A (f (.int i t) (.int j u)) Q E s) :
 OpR X f (rI0 fun i j=> .bl (g i j)):=by
 intro pins s σ H x y v u Q I rx ry h;obtain ⟨i,j,rfl,rfl,q⟩:=h;obtain ⟨t,rfl⟩:=rx;obtain ⟨t',rfl⟩:=ry;exact rule i j t t' s _ _ ⟨.bl (g i j),H,I,rfl,q⟩
def CMul(i j:Int):Prop:=(-(2 ^ 64)<i/\i<2 ^ 64)\/(-(2 ^ 64)<j/\j<2 ^ 64)
theorem CMul.ok{i j:Int}(h:CMul i j):IntMulOk i j:=by
 rcases h with ⟨h1,h2⟩ | ⟨h1,h2⟩
 . exact .of_left (intBits_le_64 h1 h2)
 . exact .of_right (intBits_le_64 h1 h2)
theorem two_pow_nn(k:Nat):(0:Int)<=2 ^ k:=by
 rw [two_pow_cast];exact Int.natCast_nonneg _
theorem op_add:OpR X (binaryOp .Add) (rI0 fun i j=> .int (i+j)):=opI0 fun _ _ _ _ _ _ _ q=>add_int q
theorem op_modN:OpR X (binaryOp .Mod) (rI (fun _ j=>j≠0) fun i j=> .int (i.fmod j)):=opI fun _ _ _ _ _ _ _ hc q=>mod_int' hc q
theorem op_shr:OpR X (binaryOp .RShift) (rI (fun _ j=>0<=j) fun i j=> .int (i / 2 ^ j.toNat)):=opI fun i j _ _ _ _ _ hc q=>
 rshift_int hc (by rw [Int.fdiv_eq_ediv_of_nonneg i (two_pow_nn _)];exact q)
theorem unI {f : Value -> Sem Value} {g : Int -> Int}
 (rule:∀(i:Int) (t:Tok) (s:Shared) (Q:Value->Shared->Prop) (E:Value->Shared->Prop),Q (.int (g i) s.toks) {s with toks:=s.toks+1}->wpAny (model X.prog X.w) X.A (f (.int i t)) Q E s) :
 UnR X f (rU fun i=> .int (g i)):=by
 intro pins s σ H x v Q I rx h;obtain ⟨i,rfl,q⟩:=h;obtain ⟨t,rfl⟩:=rx;exact rule i t s _ _ ⟨.int (g i),H,I.tok _,⟨_,rfl⟩,q⟩
theorem un_neg:UnR X (unaryOp .USub) (rU fun i=> .int (-i)):=unI fun _ _ _ _ _ q=>neg_int q
end
section
variable {X:Cx} {a b c:Expr} {ta tb tc:TE} {pos:Pos}
theorem op_gt:OpR X (compareOp .Gt) (rI0 fun i j=> .bl (decide (j<i))):=opB0 fun _ _ _ _ _ _ _ q=>gt_int q
theorem OpR.or{f:Value->Value->Sem Value}{r r':R2}(h:OpR X f r)(h':OpR X f r'):OpR X f (fun x y H Q=>r x y H Q\/r' x y H Q):=by
 intro pins s σ H x y v u Q I rx ry q;rcases q with q | q
 . exact h pins s σ H x y v u Q I rx ry q
 . exact h' pins s σ H x y v u Q I rx ry q
theorem nomark(b:Expr){op:CmpOp}(h:op ≠ .In:=by decide)(h2:op ≠ .NotIn:=by decide):behindInMarks op b=false:=by
 have e1:(op==CmpOp.In)=false:=by cases op <;> first | rfl | exact absurd rfl h
 have e2:(op==CmpOp.NotIn)=false:=by cases op <;> first | rfl | exact absurd rfl h2
 cases b <;> simp [behindInMarks,e1,e2]
theorem pe_cmpR{op:CmpOp}{r:R2}(ho:OpR X (compareOp op) r)(ha:PE X a ta)(hb:PE X b tb)(hm:behindInMarks op b=false):PE X (.Compare a [op] [b] pos) (tOp r ta tb):=by
 intro pins s σ H Q I h;exact wpAny_Compare1 (binT ha hb I h fun v u s2 x y H2 I2 rx ry q=>ho pins s2 σ H2 x y v u Q I2 rx ry q) hm
def tTest(t:TE):TT:=fun σ H Q=>t σ H fun x H'=>∃k,x = .bl k/\Q k H'
theorem pt_cmpR{op:CmpOp}{r:R2}(ho:OpR X (compareOp op) r)(ha:PE X a ta)(hb:PE X b tb)(hm:behindInMarks op b=false):PT X (.Compare a [op] [b] pos) (tTest (tOp r ta tb)):=by
 intro pins s σ H Q I h
 refine wpAny_isTrue_Compare1 (thn (ha pins s σ H _ I h) fun v s1 ⟨x,H1,I1,r1,q1⟩=>thn (hb pins s1 σ H1 _ I1 q1) fun u s2 ⟨y,H2,I2,r2,q2⟩ =>
  thn (ho pins s2 σ H2 x y v u _ I2 r1 r2 q2) fun c s3 ⟨z,H3,I3,r3,k,e,q3⟩ => ?_) hm
 subst e
 cases r3
 exact wpAny_truthy_bool ⟨H3,I3,q3⟩
theorem line63:(sizeLine:Nat)<2 ^ 63:=by rw [sizeLine_eq];decide
theorem op_add_str:OpR X (binaryOp .Add) (fun x y H Q=>∃i j,x = .str i/\y = .str j/\i.length+j.length<=sizeLine/\Q (.str (i++j)) H):=by
 intro pins s σ H x y v u Q I rx ry h;obtain ⟨i,j,rfl,rfl,hz,q⟩:=h;obtain ⟨t,rfl⟩:=rx;obtain ⟨t',rfl⟩:=ry;exact add_str (fun t' tk=>⟨.str (i++j),H,I.tok _,⟨_,rfl⟩,q⟩) hz
theorem vals1{x:V}{us:List Value}(r:Vals [x] us):∃u,us = [u]/\RelV x u:=by
 cases r with
 | cons r1 r2=>cases r2;exact ⟨_,rfl,r1⟩
theorem vals2{x y:V}{us:List Value}(r:Vals [x,y] us):∃u w',us = [u,w']/\RelV x u/\RelV y w':=by
 cases r with
 | cons r1 r2=>
  cases r2 with
  | cons r3 r4=>cases r4;exact ⟨_,_,rfl,r1,r3⟩
end
end L2
namespace L2
open PySem PySem.Spec PyProof.Rows
structure ObjM (h:Heap) (x dx C:Addr) (mA:Str->Option Value):Prop where
 obj:h.get? x=some (PySem.W.instObj C dx)
 ns:h.Ns1 dx mA
 ne:dx≠x
section
variable {prog:Program} {w:World} {A:Around} {E:Value->Shared->Prop} {s:Shared} {K:PySem.W.Frag} {x dx C f:Addr} {mA:Str->Option Value} {name:Str} {v:Value}
end
theorem RelO.some_of{v:V}{o:Option Value}(r:RelO (some v) o):∃u,o=some u/\RelV v u:=by
 cases o with
 | none=>exact (show False from r).elim
 | some u=>exact ⟨u,rfl,r⟩
theorem RelO.none_of{o:Option Value}(r:RelO none o):o=none:=by
 cases o with
 | none=>rfl
 | some u=>exact (show False from r).elim
section
variable {P:Program} {w:World} {H H':Hp} {h h':Heap} {a C dx:Addr} {fs fs':List (Str×V)}
end
structure Cls (K:PySem.W.Frag) (C:Addr):Prop where
 pg:PySem.W.plainGet K C Str.empty=true
 hd:PySem.W.hasDictIn K C=true
 po:PySem.W.plainOver K C=true
 sa:PySem.W.findIn K (.ref C) "__setattr__" = some (some (.builtin "object.__setattr__"))
theorem Cls.get{K:PySem.W.Frag}{C:Addr}(c:Cls K C)(f:Str):PySem.W.plainGet K C f=true:=c.pg
structure Con (K:PySem.W.Frag) (C:Addr) (f:Str) (v:V) (u:Value):Prop where
 at_:PySem.W.findIn K (.ref C) f=some (some u)
 rel:RelV v u
 get:PySem.W.specialIn K u "__get__" = some none
 cp:PySem.W.copiedNames.contains f=false
structure Meth (K:PySem.W.Frag) (C:Addr) (m:Str) (f:Addr):Prop where
 at_:PySem.W.findIn K (.ref C) m=some (some (.ref f))
 fn:PySem.W.isFn K (.ref f)=true
 kp:PySem.W.keepIn K (.ref f)=true
section
variable {X:Cx} {pins:List (Addr×Obj)} {σ:St} {H:Hp} {s:Shared} {a C dx:Addr} {fs:List (Str×V)} {f:Str} {v:V} {A:Around} {E:Value->Shared->Prop}
theorem Inv.made (I : Inv X pins σ H s) : Inv X pins σ (upd (upd H s.heap.objs.size (.own (s.heap.objs.size + 1))) (s.heap.objs.size + 1) (.ins C s.heap.objs.size []))
 {s with heap:=(s.heap.push PySem.W.emptyDict).push (PySem.W.instObj C s.heap.objs.size)}:=by
 have e1:(s.heap.push PySem.W.emptyDict).get? s.heap.objs.size=some PySem.W.emptyDict:=Heap.get?_push_size s.heap rfl
 have e2:((s.heap.push PySem.W.emptyDict).push (PySem.W.instObj C s.heap.objs.size)).get? (s.heap.objs.size+1)=some (PySem.W.instObj C s.heap.objs.size):=by
  have:=Heap.get?_push_size (s.heap.push PySem.W.emptyDict) (o:=PySem.W.instObj C s.heap.objs.size) rfl
  rwa [Heap.size_push] at this
 have e3:(s.heap.push PySem.W.emptyDict).Ns s.heap.objs.size (fun _=>none):=⟨PySem.W.emptyDict, #[],_,e1,rfl,(fun e he=>absurd he (by simp)),fun _=>rfl⟩;have I1:=I.laid (a:=s.heap.objs.size) (o:= .own (s.heap.objs.size+1)) (h':=s.heap.push PySem.W.emptyDict) (t':=s.toks) (fun b u q=>Heap.get?_push_of_some _ q) (Nat.le_refl _) ⟨_,e1⟩;refine I1.laid (a:=s.heap.objs.size+1) (o:= .ins C s.heap.objs.size []) (t':=s.toks) (fun b u q=>Heap.get?_push_of_some _ q) (Nat.le_of_eq (Heap.size_push _ _)) ?_;have ne:s.heap.objs.size≠s.heap.objs.size+1:=Nat.ne_of_lt (Nat.lt_succ_self _);refine ⟨by rw [upd_ne ne,upd_same],Nat.zero_le _,ne,e2,fun _=>none,(Heap.Ns1.of_empty e3).at fun o q=>Heap.get?_push_of_some _ q,fun _=>True.intro,fun y hy=>absurd rfl hy⟩
end
section
variable {X:Cx} {o e value:Expr} {f:Str} {pos pos' tpos:Pos} {ta tv:TE}
end
section
variable {X:Cx} {pins:List (Addr×Obj)} {σ:St} {H:Hp} {s:Shared} {A:Around} {E:Value->Shared->Prop} {Q:Value->Shared->Prop} {c:Value} {b:Bool}
inductive TyOf (K:PySem.W.Frag) (H:Hp):V->Value->Prop where
 | non:TyOf K H .non (.type "NoneType")
 | bl (x:Bool):TyOf K H (.bl x) (.type "bool")
 | int (i:Int):TyOf K H (.int i) (.type "int")
 | str (x:Str):TyOf K H (.str x) (.type "str")
 | flt (x:UInt64):TyOf K H (.flt x) (.type "float")
 | lst {a:Addr} {xs:List V} (e:H a=some (.lst xs)):TyOf K H (.ref a) (.type "list")
 | frz {a:Addr} {o:Obj} {xs:List V} (e:H a=some (.frz o (.lst xs))):TyOf K H (.ref a) (.type "list")
 | tup {a:Addr} {xs:List V} (e:H a=some (.tup xs)):TyOf K H (.ref a) (.type "tuple")
 | dK {a:Addr} {kvs:List (Key×V)} (e:H a=some (.dK kvs)):TyOf K H (.ref a) (.type "dict")
 | dT {a:Addr} {kvs:List (List Key×V)} (e:H a=some (.dT kvs)):TyOf K H (.ref a) (.type "dict")
 | ins {a C dx : Addr} {fs : List (Str × V)} (e : H a = some (.ins C dx fs)) (cl : Cls K C) (ha : PySem.W.findIn K (.ref C) "__class__" = some (some (.builtin "object.__class__")))
  (hn:PySem.W.specialIn K (.builtin "object.__class__") "__get__" = some (some (.builtin "getset_descriptor.__get__"))) (htk:PySem.W.takesIn K (.builtin "object.__class__")=some true)
  (hm:PySem.W.mroIn K C (.type "object")=some true):TyOf K H (.ref a) (.ref C)
end
end L2
namespace L2
open PySem PySem.Spec PyProof.Rows
structure Room (k:Nat) (A:Around):Prop where
 hd:A.handled=none
 dp:A.depth+3*k+5<recursionLimit
 un:A.units+16*k+200<cLine
theorem Room.mono{j k:Nat}{A:Around}(r:Room k A)(h:j<=k):Room j A:=⟨r.hd,by have:=r.dp;omega,by have:=r.un;omega⟩
theorem Room.deeper{k:Nat}{A:Around}(r:Room (k+1) A)(env:Env):Room k (A.deeper env) :=
 ⟨r.hd,by have:=r.dp;show A.depth+1+3*k+5<_;omega,by have:=r.un;show A.units+3+16*k+200<_;omega⟩
theorem Room.in1{k:Nat}{A:Around}(r:Room (k+1) A):Room k A.in1:=
 ⟨r.hd,by have:=r.dp;show A.depth+3*k+5<_;omega,by have:=r.un;show A.units+1+16*k+200<_;omega⟩
theorem Room.depth{k:Nat}{A:Around}(r:Room k A):A.depth<recursionLimit:=by have:=r.dp;omega
theorem Room.units{k:Nat}{A:Around}(r:Room k A):A.units+64<cLine:=by have:=r.un;omega
def tNil:TA:=fun _ H Q=>Q [] H
def tCons(ta:TE)(tr:TA):TA:=fun σ H Q=>ta σ H fun x H1=>tr σ H1 fun xs H2=>Q (x::xs) H2
section
variable {X:Cx} {e:Expr} {es:List Expr} {te:TE} {t:TA} {pos:Pos}
theorem pa_nil:PA X [] tNil:=fun _ _ _ _ H Q I h=>Calls.spliced_nil ⟨[],H,I, .nil,h⟩
theorem pa_cons(ha:PE X e te)(hr:PA X es t)(hs:starEach (e::es) X.env=(false,eval e X.env)::starEach es X.env:=by rfl):PA X (e::es) (tCons te t):=by
 intro pos pins s σ H Q I h;rw [hs];show wpAny _ _ (spliced ((false,eval e X.env)::backTo pos (starEach es X.env))) _ _ s;refine Calls.spliced_cons (thn (ha pins s σ H _ I h) fun u s1 ⟨x,H1,I1,r1,q1⟩ => ?_);exact thn (hr pos pins s1 σ H1 _ I1 q1) fun us s2 ⟨xs,H2,I2,r2,q2⟩=>⟨x::xs,H2,I2, .cons r1 r2,q2⟩
def tTup(t:TA):TE:=fun σ H Q=>t σ H fun xs H1=>xs.length<=sizeLine/\∀p,H1 p=none->Q (.ref p) (upd H1 p (.tup xs))
def tLst(t:TA):TE:=fun σ H Q=>t σ H fun xs H1=>xs.length<=sizeLine/\∀p,H1 p=none->Q (.ref p) (upd H1 p (.lst xs))
theorem pe_tup{x1}(h:PA X es t):PE X (.Tuple es x1 pos) (tTup t):=by
 intro pins s σ H Q I hq;refine wpAny_Tuple_spliced (thn (h pos pins s σ H _ I hq) fun us s1 ⟨xs,H1,I1,r,z,q⟩=>⟨by rw [<-r.length];exact z,?_⟩);have hf:H1 s1.heap.objs.size=none:=I1.hok.fresh (Nat.le_refl _);refine ⟨.ref s1.heap.objs.size,upd H1 s1.heap.objs.size (.tup xs),I1.laid (t':=s1.toks) (fun b u e=>Heap.get?_push_of_some _ e) (Nat.le_refl _) ?_,rfl,q _ hf⟩;exact ⟨z,us,r,⟨_,Heap.get?_push_size _ rfl,rfl,_,rfl⟩⟩
theorem pe_lst(h:PA X es t):PE X (.List es pos) (tLst t):=by
 intro pins s σ H Q I hq;refine wpAny_List_spliced (thn (h pos pins s σ H _ I hq) fun us s1 ⟨xs,H1,I1,r,z,q⟩=>⟨by rw [<-r.length];exact z,?_⟩);have hf:H1 s1.heap.objs.size=none:=I1.hok.fresh (Nat.le_refl _);refine ⟨.ref s1.heap.objs.size,upd H1 s1.heap.objs.size (.lst xs),I1.laid (t':=s1.toks) (fun b u e=>Heap.get?_push_of_some _ e) (Nat.le_refl _) ?_,rfl,q _ hf⟩;exact ⟨z,us,0,r,Heap.get?_push_size _ rfl⟩
end
abbrev Sp:=List V->Hp->VK->XK->Prop
abbrev CXT:=List Env->Hp->Shared->XK->Value->Shared->Prop
structure Env0 (P:Program) (w:World) (K:PySem.W.Frag) (mg:Str->Option Value) (base:Heap) (A:Around) (outer:List Env) (s:Shared) (H:Hp):Prop where
 frames:A.frames=some outer
 mod:Mod K mg base
 bs:∀b o,base.get? b=some o->s.heap.get? b=some o/\H b=none
 bsz:base.objs.size<=s.heap.objs.size
 funs:s.heap.FunFrames base outer
 frf:∀b ∈ frs outer,H b=none
 hok:HOk P w H s.heap
 bare:AllBare s.gens
 tb:∀p ∈ tabsOf K,∃ps,H p=some (.tbl ps)
def CE(outer:List Env)(P:Program)(w:World)(H:Hp)(s:Shared)(Q:VK)(u:Value)(s':Shared):Prop:=
 ∃v H',s'.os=s.os/\AllBare s'.gens/\Un (frs outer) [] H H' s.heap s'.heap/\HOk P w H' s'.heap/\RelV v u/\Q v H'
def CR(CX:CXT)(outer:List Env)(P:Program)(w:World)(H:Hp)(s:Shared)(Q:VK)(E:XK)(r:Result)(s':Shared):Prop:=
 match r with
 | .ok (.ret u)=>CE outer P w H s Q u s'
 | .ok _=>False
 | .error e=>CX outer H s E e s'
structure FnOk (P:Program) (w:World) (K:PySem.W.Frag) (mg:Str->Option Value) (base:Heap) (CX:CXT) (k:Nat) (f:Addr) (fd:FuncData) (ps:List Str) (sp:Sp):Prop where
 len:∀vs H Q E,sp vs H Q E->vs.length=ps.length
 run:∀(A:Around) (outer:List Env) (s:Shared) (H:Hp) (args:Args) (us:List Value) (vs:List V) (Q:VK) (E:XK),Room k A->Env0 P w K mg base A outer s H->BindsTo s fd args (ps.zip us)->Vals vs us->sp vs H Q E ->
  codeAny (model P w) A (.call (.ref f) args) (CR CX outer P w H s Q E) s
theorem FnOk.imp {P : Program} {w : World} {K : PySem.W.Frag} {mg : Str -> Option Value} {base : Heap} {CX : CXT} {k : Nat} {f : Addr} {fd : FuncData} {ps : List Str} {sp sp' : Sp} (F : FnOk P w K mg base CX k f fd ps sp)
 (h:∀vs H Q E,sp' vs H Q E->sp vs H Q E):FnOk P w K mg base CX k f fd ps sp' :=
 ⟨fun vs H Q E q=>F.len vs H Q E (h _ _ _ _ q),fun A outer s H args us vs Q E hr he hb hv hs=>F.run A outer s H args us vs Q E hr he hb hv (h _ _ _ _ hs)⟩
theorem Env0.in1 {P : Program} {w : World} {K : PySem.W.Frag} {mg : Str -> Option Value} {base : Heap} {A : Around} {outer : List Env} {s : Shared} {H : Hp} (e : Env0 P w K mg base A outer s H) :
 Env0 P w K mg base A.in1 outer s H:=⟨e.frames,e.mod,e.bs,e.bsz,e.funs,e.frf,e.hok,e.bare,e.tb⟩
section
variable {X:Cx} {pins:List (Addr×Obj)} {σ:St} {H:Hp} {s s':Shared}
theorem Inv.env0(I:Inv X pins σ H s):Env0 X.prog X.w X.K X.mg X.base X.A X.stack s H:=
 ⟨I.ok.frames,I.ok.mod,I.bs,Nat.le_trans I.ok.bsz I.sz,I.stack,I.stkFree,I.hok,I.bare,I.tb⟩
theorem Inv.after{Q:VK}{u:Value}(I:Inv X pins σ H s)(h:CE X.stack X.prog X.w H s Q u s'):EP X pins σ Q u s':=by
 obtain ⟨v,H',os,bare,un,hok,r,q⟩:=h;obtain ⟨hh,g,d,t,os'⟩:=s';obtain rfl:os'=s.os:=os;exact ⟨v,H',I.call (h':=hh) (g':=g) (d':=d) (t':=t) (ch:= []) un hok bare (fun b z=>absurd z (by simp)),r,q⟩
end
def tCall(sp:Sp)(dvs:List V)(E:XK)(t:TA):TE:=fun σ H Q=>t σ H fun vs H1=>sp (vs++dvs) H1 Q E
def Binds(K:PySem.W.Frag)(fd:FuncData)(ps:List Str)(ds:List Value):Prop:=
 ∀(s:Shared) (us:List Value),K.In s.heap->(us++ds).length=ps.length->BindsTo s fd ⟨us,[]⟩ (ps.zip (us++ds))
theorem Binds.all{K:PySem.W.Frag}{fd:FuncData}{ps:List Str}(h:∀us:List Value,us.length=ps.length->bindArgs fd ⟨us,[]⟩=pure (ps.zip us)):Binds K fd ps []:=fun s us _ hl=>by
 rw [List.append_nil] at hl ⊢
 exact .of_eq (h us hl)
def Passes(CX:CXT)(X:Cx)(E:XK):Prop:=∀(pins:List (Addr×Obj)) (σ:St) (H:Hp) (s:Shared) (e:Value) (s':Shared),Inv X pins σ H s->CX X.stack H s E e s'->X.xe e s'
section
variable {X:Cx} {CX:CXT} {k:Nat} {f C:Addr} {fd:FuncData} {ps:List Str} {sp:Sp} {dvs:List V} {ds:List Value} {E:XK} {x m:Str} {p pos apos:Pos} {e o:Expr} {es:List Expr} {ta:TE} {t:TA}
theorem run_fn {pins : List (Addr × Obj)} {σ : St} {H : Hp} {s : Shared} {Q : VK} {us : List Value} {vs : List V} (F : FnOk X.prog X.w X.K X.mg X.base CX k f fd ps sp) (hr : Room k X.A) (hb : Binds X.K fd ps ds) (hd : Vals dvs ds) (hx : Passes CX X E)
 (I:Inv X pins σ H s) (r:Vals vs us) (h:sp (vs++dvs) H Q E):wpAny (model X.prog X.w) X.A (call (.ref f) us) (EP X pins σ Q) X.xe s:=by
 have r2:Vals (vs++dvs) (us++ds):=r.append hd;have hl:(us++ds).length=ps.length:=by rw [<-r2.length];exact F.len _ _ _ _ h
 refine wpAny_call (codeAny_mono (F.run X.A X.stack s H ⟨us,[]⟩ (us++ds) (vs++dvs) Q E hr I.env0 (hb s us I.kIn hl) r2 h) fun r s' hq=> ?_)
 cases r with
 | error e=>exact hx pins σ H s e s' I hq
 | ok fl=>
  cases fl with
  | ret u=>exact I.after hq
  | next=>exact False.elim hq
  | brk=>exact False.elim hq
  | cont=>exact False.elim hq
theorem pe_call (F : FnOk X.prog X.w X.K X.mg X.base CX k f fd ps sp) (hr : Room k X.A) (hg : Gl X x) (hm : X.mg x = some (.ref f)) (hk : PySem.W.keepIn X.K (.ref f) = true) (hb : Binds X.K fd ps ds) (hd : Vals dvs ds) (hx : Passes CX X E)
 (ha:PA X (e::es) t) (hdb:(x==("__debug__" : Str))=false:=by decide) (he:starEach (e::es) X.env=(false,eval e X.env)::starEach es X.env:=by rfl) (hpl:(backTo pos (starEach es X.env)).any (·.1)=false:=by rfl) :
 PE X (.Call (.Name x p) (e::es) [] pos) (tCall sp dvs E t):=by
 intro pins s σ H Q I h;refine wpAny_Call_Name_kw (ld_glob I hg hm ?_ hdb);refine PySem.W.callWith_K (h₀:=X.base) I.ok.mod.kin hk (thn (ha pos pins s σ H _ I h) fun us s1 ⟨vs,H1,I1,r,q⟩=>⟨I1.kIn,?_⟩) he hpl;exact run_fn F hr hb hd hx I1 r q
structure Mk (K:PySem.W.Frag) (C f:Addr):Prop where
 makes:PySem.W.makesIn K C=true
 init:PySem.W.findIn K (.ref C) "__init__" = some (some (.ref f))
 fn:PySem.W.isFn K (.ref f)=true
 kp:PySem.W.keepIn K (.ref C)=true
end
section
variable {X:Cx} {CX:CXT} {k:Nat} {f C:Addr} {fd:FuncData} {ps ks:List Str} {sp:Sp} {E:XK} {x m:Str} {p pos apos kpos:Pos} {e o:Expr} {es:List Expr} {kws:List Keyword} {te ta:TE} {t tk:TA} {nm:Option Str}
structure KBinds (K:PySem.W.Frag) (fd:FuncData) (ps ks:List Str) (g:List Value->List Value->List Value) (gV:List V->List V->List V):Prop where
 to:∀(s:Shared) (us ws:List Value),K.In s.heap->(g us ws).length=ps.length->BindsTo s fd ⟨us,ks.zip ws⟩ (ps.zip (g us ws))
 rel:∀ {vs:List V} {us:List Value} {zs:List V} {ws:List Value},Vals vs us->Vals zs ws->Vals (gV vs zs) (g us ws)
variable {g:List Value->List Value->List Value} {gV:List V->List V->List V}
end
structure FnScope (N P:List Str) (sc:Scope):Prop where
 kind:sc.kind = .function
 co:sc.isCoroutine=false
 gen:sc.isGenerator=false
 nd:N.Nodup
 pre:N.take P.length=P
 par:∀x ∈ P,sc.names.lookup x=some .local\/sc.names.lookup x=some .cell
 nofree:∀y ∈ sc.names,y.2 ≠ .free
theorem bindL_out{kindOf:Str->Option NameKind}{x:Str}:∀ {binds:List (Str×Value)} {m:Str->Option Value},(∀v,(x,v) ∉ binds)->bindL kindOf binds m x=m x
 | [],_,_=>rfl
 | (n,v)::r,m,h=>by
  unfold bindL;rw [bindL_out fun w hw=>h w (List.mem_cons_of_mem _ hw)]
  split
  . have:x≠n:=by rintro rfl;exact h v List.mem_cons_self
    simp [this]
  . rfl
theorem bindC_out{kindOf:Str->Option NameKind}{x:Str}:∀ {binds:List (Str×Value)} {m:Str->Option Value},(∀v,(x,v) ∉ binds)->bindC kindOf binds m x=m x
 | [],_,_=>rfl
 | (n,v)::r,m,h=>by
  unfold bindC;rw [bindC_out fun w hw=>h w (List.mem_cons_of_mem _ hw)]
  split
  . rfl
  . have:x≠n:=by rintro rfl;exact h v List.mem_cons_self
    simp [this]
theorem bindL_get {kindOf : Str -> Option NameKind} {x : Str} {v : Value} : ∀ {P : List Str} {vs : List Value} {i : Nat} {m : Str -> Option Value}, P.Nodup -> P[i]? = some x -> vs[i]? = some v -> kindOf x = some .local ->
 bindL kindOf (P.zip vs) m x=some v
 | [],_,_,_,_,h,_,_=>by simp at h
 | _::_,[],_,_,_,_,h,_=>by simp at h
 | p::P,w::vs,0,m,nd,h1,h2,hk=>by
  simp at h1 h2;subst h1;subst h2
  show bindL kindOf ((p,w)::P.zip vs) m p=_;unfold bindL;rw [bindL_out fun v hv=>(List.nodup_cons.mp nd).1 (List.of_mem_zip hv).1,if_pos hk]
  simp
 | p::P,w::vs,i+1,m,nd,h1,h2,hk=>by
  show bindL kindOf ((p,w)::P.zip vs) m x=_;unfold bindL;exact bindL_get (i:=i) (List.nodup_cons.mp nd).2 (by simpa using h1) (by simpa using h2) hk
theorem bindC_get {kindOf : Str -> Option NameKind} {x : Str} {v : Value} : ∀ {P : List Str} {vs : List Value} {i : Nat} {m : Str -> Option Value}, P.Nodup -> P[i]? = some x -> vs[i]? = some v -> kindOf x ≠ some .local ->
 bindC kindOf (P.zip vs) m x=some v
 | [],_,_,_,_,h,_,_=>by simp at h
 | _::_,[],_,_,_,_,h,_=>by simp at h
 | p::P,w::vs,0,m,nd,h1,h2,hk=>by
  simp at h1 h2;subst h1;subst h2
  show bindC kindOf ((p,w)::P.zip vs) m p=_;unfold bindC;rw [bindC_out fun v hv=>(List.nodup_cons.mp nd).1 (List.of_mem_zip hv).1,if_neg hk]
  simp
 | p::P,w::vs,i+1,m,nd,h1,h2,hk=>by
  show bindC kindOf ((p,w)::P.zip vs) m x=_;unfold bindC;exact bindC_get (i:=i) (List.nodup_cons.mp nd).2 (by simpa using h1) (by simpa using h2) hk
def start(N:List Str)(vs:List V):St:=vs.map some++List.replicate (N.length - vs.length) none
def cxOf(CX:CXT)(P:Program)(w:World)(K:PySem.W.Frag)(mg:Str->Option Value)(base:Heap)(N:List Str)(qual:Str)(scope:Scope)(f:Addr)(cd:Value)(A:Around)(outer:List Env)(s:Shared)(H:Hp)(E:XK):Cx where
 prog:=P
 w:=w
 K:=K
 mg:=mg
 base:=base
 A:=A.deeper (envOfC qual scope s.heap.objs.size f cd)
 N:=N
 s₀:=s
 H₀:=H
 env:=envOfC qual scope s.heap.objs.size f cd
 outer:=outer
 stack:=envOfC qual scope s.heap.objs.size f cd::outer
 ex:= []
 calm:=true
 fn:=fun _=>true
 pn:= []
 xe:=fun e s'=>wpAny (model P w) (A.deeper (envOfC qual scope s.heap.objs.size f cd)) (leaving (envOfC qual scope s.heap.objs.size f cd) e) (fun _ s''=>CX outer H s E e s'') (fun e' s''=>CX outer H s E e' s'') s'
theorem cell_has{sc:Scope}{n:Nat}{x:Str}(h:sc.names.lookup x=some .cell):∃c,(cellsFrom n sc.names []).lookup x=some c:=by
 have q:=PySem.W.cellsFrom_some sc.names n [] (.inl h);exact Option.isSome_iff_exists.mp q
theorem inv_start {CX : CXT} {P : Program} {w : World} {K : PySem.W.Frag} {mg : Str -> Option Value} {base : Heap} {N ps : List Str} {qual : Str} {scope : Scope} {f : Addr} {cd : Value} {A : Around} {outer : List Env} {s s1 : Shared} {H : Hp} {E : XK} {us : List Value} {vs : List V}
 (S:FnScope N ps scope) (hd:A.handled=none) (e0:Env0 P w K mg base A outer s H) (hl:vs.length=ps.length) (r:Vals vs us)
 (x:InCallC s s.heap.objs.size (bindL (envOfC qual scope s.heap.objs.size f cd).kindOf (ps.zip us) fun _=>none) (cellsFrom (s.heap.objs.size+1) scope.names []) (bindC (envOfC qual scope s.heap.objs.size f cd).kindOf (ps.zip us) fun _=>none) s1) :
 Inv (cxOf CX P w K mg base N qual scope f cd A outer s H E) [] (start N vs) H s1:=by
 have hpl:ps.length<=N.length:=by have:=congrArg List.length S.pre;rw [List.length_take] at this;omega
 obtain ⟨h1,tk,rfl,hk⟩:=x.done;have noA:∀b:Addr,b ∉ (cxOf CX P w K mg base N qual scope f cd A outer s H E).ex:=fun b z=>absurd (show b ∈ ([]:List Addr) from z) (by simp)
 refine ⟨⟨e0.mod,S.kind,rfl,rfl,Nat.le_refl _,fun y z c h1 h2=> ?_,fun y hy=> ?_,fun y c _ h=> ?_,fun _=>hd,Around.frames_deeper e0.frames, .inr ⟨rfl,rfl⟩,fun b z=>absurd z (noA b),e0.bs,e0.bsz,fun b _ _=>noA b,fun b z=>absurd z (noA b),e0.funs,e0.frf,e0.tb⟩,
  rfl,e0.bare,Un.kept hk,⟨_,x.toInCall.ns,fun i y v h1 h2 h3=> ?_⟩,fun y c h=>⟨_,x.cell y c h⟩,e0.hok.fresh (Nat.le_refl _),fun y c h=> ?_,fun p hp=>absurd (show p ∈ ([]:List (Addr×Obj)) from hp) (by simp),e0.hok.kept hk,?_⟩
 . exact name_of_addr x.apart (PySem.mem_of_lookup h1) (PySem.mem_of_lookup h2)
 . have hy:scope.names.lookup y=some .cell\/scope.names.lookup y=some .free:=hy;rcases hy with hy | hy
   . exact cell_has hy
   . exact absurd rfl (S.nofree _ (PySem.mem_of_lookup hy))
 . exact Nat.le_of_lt (x.above y c (PySem.mem_of_lookup h))
 . have hi : i < vs.length := by
    unfold start at h2
    by_cases hi:i<vs.length
    . exact hi
    . rw [List.getElem?_append_right (by simpa using hi)] at h2
      rw [List.getElem?_replicate] at h2
      split at h2 <;> cases h2
   have ha:vs[i]? = some v:=by
    unfold start at h2
    rw [List.getElem?_append_left (by simpa using hi),List.getElem?_map] at h2
    cases e:vs[i]? with
    | none=>rw [e] at h2;cases h2
    | some a=>rw [e] at h2;cases h2;rfl
   obtain ⟨u,hu,rv⟩:=r.get ha
   have hp:ps[i]? = some y:=by
    rw [<-S.pre,List.getElem?_take_of_lt (by omega)];exact h1
   have ndP:ps.Nodup:=by rw [<-S.pre];exact S.nd.sublist (List.take_sublist _ _)
   refine ⟨u,rv,?_⟩;rcases S.par y (List.mem_of_getElem? hp) with k | k
   . exact .inl ⟨k,bindL_get ndP hp hu k⟩
   . obtain ⟨c,e⟩:=cell_has (n:=s.heap.objs.size+1) k;refine .inr ⟨.inl k,c,e,?_⟩;have q:=x.cell y c e;rw [bindC_get ndP hp hu (by show scope.names.lookup y≠_;rw [k];decide)] at q
     exact q
 . exact e0.hok.fresh (Nat.le_of_lt (x.above y c (PySem.mem_of_lookup h)))
 . unfold start;show _=N.length;rw [List.length_append,List.length_map,List.length_replicate];omega
theorem fn_of {CX : CXT} {P : Program} {w : World} {K : PySem.W.Frag} {mg : Str -> Option Value} {base : Heap} {k : Nat} {f : Addr} {name qual : Str} {params : Arguments} {body : List Stmt} {scope : Scope} {dV kV doc pm cdv ct oc : Value} {an od : Option Addr}
 {osl:Array (Option Value)} {N ps:List Str} {sp:Sp} (lk:K.lookup f=some ⟨oc,od, .func (PySem.W.fnOf name qual params body scope dV kV doc pm an cdv ct),osl⟩) (hcd:PySem.W.codeIn K cdv qual=true) (S:FnScope N ps scope)
 (len:∀vs H Q E,sp vs H Q E->vs.length=ps.length)
 (hbody:∀(A:Around) (outer:List Env) (s:Shared) (H:Hp) (vs:List V) (Q:VK) (E:XK),Room k (A.deeper (envOfC qual scope s.heap.objs.size f cdv))->sp vs H Q E ->
  ∃t,PSs (cxOf CX P w K mg base N qual scope f cdv A outer s H E) body t/\t {nx:=fun _ H'=>Q .non H',rt:=Q} (start N vs) H) :
 FnOk P w K mg base CX (k+1) f (PySem.W.fnOf name qual params body scope dV kV doc pm an cdv ct) ps sp:=by
 refine ⟨len,fun A outer s H args us vs Q E hr e0 hb r hsp=> ?_⟩;have hl:=len _ _ _ _ hsp;have KX:K.In s.heap:=e0.mod.kin.keeps fun b o e=>(e0.bs b o e).1;have lim:s.heap.NoLimit:=e0.mod.nolimit.keeps fun b o e=>(e0.bs b o e).1
 have hkind:∀y ∈ ps.zip us,scope.names.lookup y.1=some .local\/(scope.names.lookup y.1=some .cell/\((cellsFrom (s.heap.objs.size+1) scope.names []).lookup y.1).isSome=true):=fun ⟨n,v⟩ hy=>by
  rcases S.par n (List.of_mem_zip hy).1 with q | q
  . exact .inl q
  . exact .inr ⟨q,PySem.W.cellsFrom_some _ _ _ (.inl q)⟩
 refine codeAny_call_function hr.depth (KX _ _ lk) rfl S.co S.gen rfl (PySem.W.codeRec_of KX hcd) (hb _ _ _ _ ?_);refine wpAny_newFunctionEnv_cells S.kind hkind fun env he s1 x=> ?_;subst he;refine ⟨lim.keeps x.toInCall.keep,codeAny_func ?_⟩;obtain ⟨t,ht,hq⟩:=hbody A outer s H vs Q E (hr.deeper _) hsp;have I:Inv (cxOf CX P w K mg base N qual scope f cdv A outer s H E) [] (start N vs) H s1:=inv_start S hr.hd e0 hl r x;refine wpAny_mono (ht [] s1 (start N vs) H _ I hq) (fun fl s' hs=> ?_) fun e s' hs=>hs
 have fin:∀ {σ':St} {H':Hp} {v:V} {u:Value},Inv (cxOf CX P w K mg base N qual scope f cdv A outer s H E) [] σ' H' s'->RelV v u->Q v H'->CE outer P w H s Q u s' :=
  fun {σ' H' v u} J rv q=>⟨v,H',J.os,J.bare,J.base,J.hok,rv,q⟩
 cases fl with
 | ret u=>
  obtain ⟨v,σ',H',J,rv,q⟩:=hs
  exact fin J rv q
 | next=>
  obtain ⟨σ',H',J,q⟩:=hs
  exact fin (v:=V.non) (u:=Value.none) J rfl q
 | brk=>
  obtain ⟨_,_,_,q⟩:=hs
  exact False.elim q
 | cont=>
  obtain ⟨_,_,_,q⟩:=hs;exact False.elim q
end L2
namespace L2
open PySem PySem.Spec PyProof.Rows
section
variable {X:Cx} {x:Str} {p pos:Pos} {e:Expr} {es:List Expr} {t:TA} {id T:String} {r:List V->Hp->VK->Prop}
def tCB(r:List V->Hp->VK->Prop)(t:TA):TE:=fun σ H Q=>t σ H fun vs H1=>r vs H1 Q
theorem pe_callB (hc : CallR X (.builtin id) r) (hg : Gl X x) (hm : X.mg x = none) (hv : bootBuiltins x = some (.builtin id)) (ha : PA X (e :: es) t) (hn : x ≠ "__name__" := by decide) (hdb : (x == ("__debug__" : Str)) = false := by decide)
 (he:starEach (e::es) X.env=(false,eval e X.env)::starEach es X.env:=by rfl) (hpl:(backTo pos (starEach es X.env)).any (·.1)=false:=by rfl):PE X (.Call (.Name x p) (e::es) [] pos) (tCB r t):=by
 intro pins s σ H Q I h;refine wpAny_Call_Name_kw (ld_blt I hg hm hv ?_ hn hdb);exact PyProof.Rows.callWith_builtin1 (thn (ha pos pins s σ H _ I h) fun us s1 ⟨vs,H1,I1,r1,q1⟩=>hc pins s1 σ H1 vs us Q I1 r1 q1) he hpl
theorem pe_callTy (hc : CallR X (.type T) r) (hg : Gl X x) (hm : X.mg x = none) (hv : bootBuiltins x = some (.type T)) (ha : PA X (e :: es) t) (hn : x ≠ "__name__" := by decide) (hdb : (x == ("__debug__" : Str)) = false := by decide)
 (he:starEach (e::es) X.env=(false,eval e X.env)::starEach es X.env:=by rfl) (hpl:(backTo pos (starEach es X.env)).any (·.1)=false:=by rfl):PE X (.Call (.Name x p) (e::es) [] pos) (tCB r t):=by
 intro pins s σ H Q I h;refine wpAny_Call_Name_kw (ld_blt I hg hm hv ?_ hn hdb);exact PyProof.Rows.callWith_type1 (thn (ha pos pins s σ H _ I h) fun us s1 ⟨vs,H1,I1,r1,q1⟩=>hc pins s1 σ H1 vs us Q I1 r1 q1) he hpl
end
end L2
namespace HT
open PySem PyProof.Rows
def lexLt:List Int->List Int->Bool
 | [],[]=>false
 | [],_::_=>true
 | _::_,[]=>false
 | x::xs,y::ys=>if x=y then lexLt xs ys else decide (x<y)
theorem lexLt_cons(x y:Int)(xs ys:List Int):lexLt (x::xs) (y::ys)=if x=y then lexLt xs ys else decide (x<y):=rfl
theorem lexLt_nil_nil:lexLt [] []=false:=rfl
theorem lexLt_nil_cons(y:Int)(ys:List Int):lexLt [] (y::ys)=true:=rfl
theorem lexLt_cons_nil(x:Int)(xs:List Int):lexLt (x::xs) []=false:=rfl
theorem eqAt_int(A:Around)(s:Shared)(a:Int)(t:Tok)(c:Int)(u:Tok):∃e,SeqAt.EqAt A s (.int a t) (.int c u) e/\(e=true↔a=c) :=
 ⟨(a==c),SeqAt.EqAt.int_int a t c u,by simp⟩
section
open PySem.SeqAt
open PySem.AutoSeq1 (wpAny_loadPart')
open PySem.MeetsSeq PySem.MeetsSeq2 PySem.MeetsSeq3
end
section
variable {prog:Program} {w:World} {A:Around} {E:Value->Shared->Prop} {s:Shared}
theorem cat_tup {t b : Addr} {vs ws : List Value} {Q : Value -> Shared -> Prop} (ht : IsTup s.heap t vs.toArray) (hb : IsTup s.heap b ws.toArray) (hv : vs ≠ [])
 (h1:ws = []->Q (.ref t) s) (h2:ws ≠ []->Q (.ref s.heap.objs.size) {s with heap:=s.heap.push {cls:= .type "tuple",data:= .seq (vs++ws).toArray} })
 (hsz:vs.length+ws.length<=sizeLine):wpAny (model prog w) A (binaryOp .Add (.ref t) (.ref b)) Q E s:=by
 obtain ⟨⟨cls,dd,data,sl⟩,ho,hc,n,hd⟩:=id ht;obtain ⟨⟨cls2,dd2,data2,sl2⟩,ho2,hc2,n2,hd2⟩:=id hb;simp only at hc hd hc2 hd2
 subst hc hd hc2 hd2;have e:vs.toArray++ws.toArray=(vs++ws).toArray:=by simp
 by_cases hw:ws = []
 . exact concat_meets ⟨_, ho, rfl⟩ ⟨_, ho2, rfl⟩ noFill_tuple_add seq_tuple_add PySem.F.slot_tuple_add PySem.F.entry_tuple_add (PySem.F.args_tuple_add_2 _ _)
    (tuple_addW1 t b vs.toArray ws.toArray n n2 dd dd2 sl sl2 (by simpa using hv) (by simp [hw])) ⟨ho,ho2,h1 hw⟩
 . refine concat_meets ⟨_, ho, rfl⟩ ⟨_, ho2, rfl⟩ noFill_tuple_add seq_tuple_add PySem.F.slot_tuple_add PySem.F.entry_tuple_add (PySem.F.args_tuple_add_2 _ _)
    (tuple_addW2 t b vs.toArray ws.toArray n n2 dd dd2 sl sl2 (by simpa using hv) (by simpa using hw) (by rw [List.size_toArray,List.size_toArray];exact hsz)) ⟨ho,ho2,?_⟩
   rw [e];exact h2 hw
def sIx(n d:Nat):Option Int->Nat
 | none=>d
 | some v=>if v<0 then (v+(n:Int)).toNat else min v.toNat n
theorem sIx_none(n d:Nat):sIx n d none=d:=rfl
theorem sIx_nat(n d k:Nat):sIx n d (some (k:Int))=min k n:=by
 show (if (k:Int)<0 then ((k:Int)+(n:Int)).toNat else min (k:Int).toNat n)=min k n;rw [if_neg (by omega),Int.toNat_natCast]
theorem sIx_le(n d:Nat)(hd:d<=n)(o:Option Int):sIx n d o<=n:=by
 cases o with
 | none=>exact hd
 | some v=>
  show (if v<0 then (v+(n:Int)).toNat else min v.toNat n)<=n
  by_cases hv:v<0
  . rw [if_pos hv];omega
  . rw [if_neg hv];exact Nat.min_le_right _ _
theorem clip_eq(v:Int)(n d:Nat):(if v<0 then max (v+(n:Int)) 0 else min v (n:Int))=((sIx n d (some v):Nat):Int):=by
 show (if v<0 then max (v+(n:Int)) 0 else min v (n:Int))=(((if v<0 then (v+(n:Int)).toNat else min v.toNat n):Nat):Int)
 by_cases hv:v<0
 . simp only [if_pos hv];omega
 . simp only [if_neg hv];omega
theorem adjust_gen(lo hi:Option Int)(n:Nat):Builtin.Slice.sliceAdjust lo hi 1 (n:Int)=(((sIx n 0 lo:Nat):Int),((sIx n n hi:Nat):Int)):=by
 have h1:¬((1:Int)<0):=by omega
 unfold Builtin.Slice.sliceAdjust;simp only [h1,if_false];refine Prod.ext ?_ ?_
 . cases lo with
   | none=>rfl
   | some v=>exact clip_eq v n 0
 . cases hi with
   | none=>rfl
   | some v=>exact clip_eq v n n
theorem places_gen(i j:Nat):Builtin.Slice.slicePlaces (i:Int) (j:Int) 1=j - i:=by
 unfold Builtin.Slice.slicePlaces;have h1:(1:Int)>0:=by omega
 simp only [h1,if_true,Int.ediv_one]
 split <;> omega
theorem slicePart_{v:Value}{o:Option Int}{Q:Option Int->Shared->Prop}(p:IsPart v o)(h:Q o s):wpAny (model prog w) A (Builtin.Slice.slicePartIndex v) Q E s:=by
 cases p with
 | none=>exact slicePart_none h
 | int i t=>exact slicePart_int h
theorem sliceApplied_gen {sl : Addr} {vl vu : Value} {lo hi : Option Int} {n : Nat} {Q : Int × Int × Nat -> Shared -> Prop} (hs : s.heap.IsSliceOf sl vl vu .none) (pl : IsPart vl lo) (pu : IsPart vu hi)
 (h:Q (((sIx n 0 lo:Nat):Int),1,sIx n n hi - sIx n 0 lo) s):wpAny (model prog w) A (Builtin.Slice.sliceApplied (.ref sl) (pure (n:Int))) Q E s:=by
 obtain ⟨os,hos,hcs,hds⟩:=id hs;unfold Builtin.Slice.sliceApplied Builtin.Slice.sliceFields;refine wpAny_bind (wpAny_bind (wpAny_field hos hds (x:=vl) rfl (wpAny_bind (wpAny_field hos hds (x:=vu) rfl (wpAny_bind (wpAny_field hos hds (x:= .none) rfl (wpAny_pure ?_)))))));refine wpAny_bind (slicePart_none ?_);show wpAny _ _ (if ((1:Int)==0)=true then _ else _) _ _ s;rw [if_neg (by decide)];refine wpAny_bind (slicePart_ pl (wpAny_bind (slicePart_ pu (wpAny_bind (wpAny_pure ?_)))));show wpAny _ _ (match Builtin.Slice.sliceAdjust lo hi 1 (n:Int) with | (lo,hi)=>pure (lo,(1:Int),Builtin.Slice.slicePlaces lo hi 1)) _ _ s;rw [adjust_gen lo hi n];show wpAny _ _ (pure (((sIx n 0 lo:Nat):Int),(1:Int),Builtin.Slice.slicePlaces ((sIx n 0 lo:Nat):Int) ((sIx n n hi:Nat):Int) 1)) _ _ s;rw [places_gen];exact wpAny_pure h
theorem pick_gen(xs:Array Value)(i k:Nat):((List.range k).filterMap fun (m:Nat)=>xs[((i:Int)+(m:Int)*1).toNat]?).toArray=((xs.toList.drop i).take k).toArray:=by
 have e:(fun (m:Nat)=>xs[((i:Int)+(m:Int)*1).toNat]?)=fun m=>xs[i+m]? :=by
  funext m;have:((i:Int)+(m:Int)*1).toNat=i+m:=by omega
  rw [this]
 rw [e];have:=pick_run xs i k;rw [List.filterMap_map] at this
 have e2:((fun x=>xs[x]?) ∘ fun x=>i+x)=fun m=>xs[i+m]? :=rfl;rw [e2] at this
 rw [this]
theorem getItem_tuple_cut {t sl : Addr} {items : Array Value} {vl vu : Value} {lo hi : Option Int} {Q : Value -> Shared -> Prop} (ht : IsTup s.heap t items) (hs : s.heap.IsSliceOf sl vl vu .none) (pl : IsPart vl lo) (pu : IsPart vu hi)
 (hw:¬(sIx items.size 0 lo=0/\sIx items.size items.size hi=items.size))
 (h:Q (.ref s.heap.objs.size) {s with heap:=s.heap.push {cls:= .type "tuple",data:= .seq ((items.toList.drop (sIx items.size 0 lo)).take (sIx items.size items.size hi - sIx items.size 0 lo)).toArray} })
 (hsz:items.size<=sizeLine):wpAny (model prog w) A (getItem (.ref t) (.ref sl)) Q E s:=by
 have htake:sizeOk (.seq ((items.toList.drop (sIx items.size 0 lo)).take (sIx items.size items.size hi - sIx items.size 0 lo)).toArray):=by
  show ((items.toList.drop (sIx items.size 0 lo)).take (sIx items.size items.size hi - sIx items.size 0 lo)).toArray.size<=sizeLine;rw [List.size_toArray,List.length_take,List.length_drop,Array.length_toList];omega
 have hj:sIx items.size items.size hi<=items.size:=sIx_le _ _ (Nat.le_refl _) hi;obtain ⟨os,hos,hcs,hds⟩:=id hs;have hTs:s.TypeIs (.ref sl) "slice" :=⟨os,hos,hcs⟩;unfold getItem
 try with_reducible refine wpAny_holding ?_
 first | refine wpAny_bind (wpAny_pure ?_) | skip
 refine wpAny_bind (wpAny_sequenceKey ht.typeIs (by decide) ?_)
 refine wpAny_bind (wpAny_callSpecial?_slot (name:=Str.ofString "__getitem__") ht.typeIs PyProof.Rows.slot_tuple_getitem
  (wpAny_call_entry PyProof.Rows.slot_tuple_getitem ht.typeIs entry_tuple_getitem ?_ (args_tuple_getitem _ _)))
 show wpAny _ _ (Builtin.Tuple.tupleItemsOf (.ref t) >>= _) _ _ s;refine wpAny_bind (tupleItemsOf_ ht ?_);refine wpAny_bind (wpAny_typeOf hTs ?_);rw [if_pos (by decide)];refine wpAny_bind (sliceApplied_gen hs pl pu ?_)
 have hno:¬((((sIx items.size 0 lo:Nat):Int)==0 && (1:Int)==1 && (sIx items.size items.size hi - sIx items.size 0 lo)==items.size)=true):=by
  intro q;rw [Bool.and_eq_true,Bool.and_eq_true] at q
  have q1:((sIx items.size 0 lo:Nat):Int)=0:=eq_of_beq q.1.1;have q2:sIx items.size items.size hi - sIx items.size 0 lo=items.size:=eq_of_beq q.2;exact hw ⟨by omega,by omega⟩
 show wpAny _ _ (if (((sIx items.size 0 lo:Nat):Int)==0 && (1:Int)==1 && (sIx items.size items.size hi - sIx items.size 0 lo)==items.size)=true then _ else _) _ _ s;rw [if_neg hno,pick_gen]
 first
  | exact wpAny_bind (m:=Builtin.Tuple.tupleExact _) (wpAny_newObj_type (wpAny_pure ⟨_,rfl,wpAny_pure h⟩) htake)
  | exact wpAny_bind (m:=Builtin.Tuple.tupleExact _) (wpAny_newObj_type (wpAny_bind (wpAny_pure (wpAny_pure ⟨_,rfl,wpAny_pure h⟩))) htake)
  | exact wpAny_bind (wpAny_bind (m:=Builtin.Tuple.tupleExact _) (wpAny_newObj_type (wpAny_pure (wpAny_pure ⟨_,rfl,wpAny_pure h⟩)) htake))
  | exact wpAny_bind (wpAny_bind (m:=Builtin.Tuple.tupleExact _) (wpAny_newObj_type (wpAny_pure ⟨_,rfl,wpAny_pure h⟩) htake))
end
end HT
namespace L2
open PySem PySem.Spec PyProof.Rows
abbrev TO:=St->Hp->(Option Int->Hp->Prop)->Prop
def PO(X:Cx)(e:Option Expr)(t:TO):Prop:=
 ∀(pins:List (Addr×Obj)) (s:Shared) (σ:St) (H:Hp) (Q:Option Int->Hp->Prop),Inv X pins σ H s->t σ H Q ->
   wpAny (model X.prog X.w) X.A (evalPart e X.env) (fun u s'=>∃o H',Inv X pins σ H' s'/\IsPart u o/\Q o H') X.xe s
def tNoPart:TO:=fun _ H Q=>Q none H
def tPart(t:TE):TO:=fun σ H Q=>t σ H fun x H1=>∃i,x = .int i/\Q (some i) H1
theorem intsAre_of{ns:List Int}:∀ {us:List Value},Vals (ns.map V.int) us->IntsAre us ns:=by
 induction ns with
 | nil=>intro us r;rw [List.map_nil] at r;cases r;exact .nil
 | cons n ns ih=>
  intro us r;rw [List.map_cons] at r
  cases r with
  | cons r1 r2=>
   obtain ⟨t,e⟩:=r1;subst e;exact .cons n t (ih r2)
section
variable {X:Cx} {e:Expr} {te:TE} {lo hi:Option Expr} {tl th:TO} {pos p2:Pos}
theorem po_none:PO X none tNoPart:=by
 intro pins s σ H Q I h;rw [evalPart_none];exact wpAny_pure ⟨none,H,I, .none,h⟩
theorem po_some(h:PE X e te):PO X (some e) (tPart te):=by
 intro pins s σ H Q I hw;rw [evalPart_some];refine thn (h pins s σ H _ I hw) fun u s1 ⟨x,H1,I1,r1,q1⟩ => ?_;obtain ⟨i,rfl,q⟩:=q1;obtain ⟨t,rfl⟩:=r1;exact ⟨some i,H1,I1, .int i t,q⟩
def SlR(X:Cx)(r:V->Option Int->Option Int->Hp->VK->Prop):Prop:=
 ∀(pins:List (Addr×Obj)) (s:Shared) (σ:St) (H:Hp) (x:V) (v vl vu:Value) (lo hi:Option Int) (sl:Addr) (Q:VK),Inv X pins σ H s->RelV x v->s.heap.IsSliceOf sl vl vu .none->IsPart vl lo->IsPart vu hi->r x lo hi H Q ->
   ∃T id,typeLookup (.type T) "__getitem__" = pure (some (.builtin id))/\s.TypeIs v T/\wpAny (model X.prog X.w) X.A (getItem v (.ref sl)) (EP X pins σ Q) X.xe s
theorem SlR.or{r r':V->Option Int->Option Int->Hp->VK->Prop}(h:SlR X r)(h':SlR X r'):SlR X (fun x lo hi H Q=>r x lo hi H Q\/r' x lo hi H Q):=by
 intro pins s σ H x v vl vu lo hi sl Q I rx hs pl pu q;rcases q with q | q
 . exact h pins s σ H x v vl vu lo hi sl Q I rx hs pl pu q
 . exact h' pins s σ H x v vl vu lo hi sl Q I rx hs pl pu q
def tSl(r:V->Option Int->Option Int->Hp->VK->Prop)(te:TE)(tl th:TO):TE:=fun σ H Q=>te σ H fun x H1=>tl σ H1 fun l H2=>th σ H2 fun u H3=>r x l u H3 Q
theorem pe_slice{r:V->Option Int->Option Int->Hp->VK->Prop}(hr:SlR X r)(he:PE X e te)(hl:PO X lo tl)(hu:PO X hi th):PE X (.Subscript e (.Slice lo hi none p2) pos) (tSl r te tl th):=by
 intro pins s σ H Q I h;refine Subscript_ (thn (he pins s σ H _ I h) fun v s1 ⟨x,H1,I1,r1,q1⟩ => ?_);refine wpAny_Slice (thn (hl pins s1 σ H1 _ I1 q1) fun vl s2 ⟨l,H2,I2,pl,q2⟩=>thn (hu pins s2 σ H2 _ I2 q2) fun vu s3 ⟨u,H3,I3,pu,q3⟩ => ?_);rw [evalPart_none];refine wpAny_pure ?_;have I4:Inv X pins σ H3 {s3 with heap:=s3.heap.push {cls:= .type "slice",data:= .fields #[vl,vu, .none]} }:=I3.kept (t':=s3.toks) fun b ob q=>Heap.get?_push_of_some _ q;obtain ⟨T,id,hT,ht,hg⟩:=hr pins {s3 with heap:=s3.heap.push {cls:= .type "slice",data:= .fields #[vl,vu, .none]} } σ H3 x v vl vu l u s3.heap.objs.size Q I4 r1 (Heap.IsSliceOf.new ..) pl pu q3;show wpAny (model X.prog X.w) X.A (subscriptTail e (.Slice lo hi none p2) v (.ref s3.heap.objs.size)) (EP X pins σ Q) X.xe {s3 with heap:=s3.heap.push {cls:= .type "slice",data:= .fields #[vl,vu, .none]} };exact tail_any (ops:= [.ref s3.heap.objs.size,v]) ht hT hg (by with_unfolding_all rfl)
def cutV(xs:List V)(lo hi:Option Int):List V:=(xs.drop (HT.sIx xs.length 0 lo)).take (HT.sIx xs.length xs.length hi - HT.sIx xs.length 0 lo)
theorem cutV_length(xs:List V)(lo hi:Option Int):(cutV xs lo hi).length<=xs.length:=by
 unfold cutV;rw [List.length_take,List.length_drop];omega
def rSlT(K:PySem.W.Frag):V->Option Int->Option Int->Hp->VK->Prop:=fun x lo hi H Q=>∃a xs,x = .ref a/\SqT K H a xs /\
 ¬(HT.sIx xs.length 0 lo=0/\HT.sIx xs.length xs.length hi=xs.length)/\∀p,H p=none->Q (.ref p) (upd H p (.tup (cutV xs lo hi)))
theorem sl_tup:SlR X (rSlT X.K):=by
 intro pins s σ H x v vl vu lo hi sl Q I rx hs pl pu h;obtain ⟨a,xs,rfl,hx,hw,q⟩:=h
 cases rx
 obtain ⟨its,r,ht,hz⟩:=I.tuple hx;have hlen:its.toArray.size=xs.length:=by rw [List.size_toArray];exact r.length.symm
 refine ⟨"tuple",_,PyProof.Rows.slot_tuple_getitem.lookup,ht.typeIs,?_⟩;refine HT.getItem_tuple_cut ht hs pl pu (by rw [hlen];exact hw) ?_ (by rw [hlen];exact hz);rw [hlen];refine ⟨.ref s.heap.objs.size,_,I.laid (t':=s.toks) (o:= .tup (cutV xs lo hi)) (fun b ob q=>Heap.get?_push_of_some _ q) (Nat.le_refl _) ?_,rfl,q _ (I.hok.fresh (Nat.le_refl _))⟩;exact ⟨Nat.le_trans (cutV_length xs lo hi) hz,_,(r.drop (HT.sIx xs.length 0 lo)).take (HT.sIx xs.length xs.length hi - HT.sIx xs.length 0 lo),IsTup.new _ _⟩
def rCatT(K:PySem.W.Frag):R2:=fun x y H Q=>∃a b xs ys,x = .ref a/\y = .ref b/\SqT K H a xs/\SqT K H b ys/\xs ≠ []/\xs.length+ys.length<=sizeLine /\
 (ys = []->Q (.ref a) H)/\(ys ≠ []->∀p,H p=none->Q (.ref p) (upd H p (.tup (xs++ys))))
theorem Vals.nil_iff{xs:List V}{us:List Value}(r:Vals xs us):us = []↔xs = []:=by
 cases r with
 | nil=>simp
 | cons _ _=>simp
theorem op_catT:OpR X (binaryOp .Add) (rCatT X.K):=by
 intro pins s σ H x y v u Q I rx ry h;obtain ⟨a,b,xs,ys,rfl,rfl,ha,hb,hx,hz,q1,q2⟩:=h
 cases rx
 cases ry
 obtain ⟨its,r1,p1,_⟩:=I.tuple ha;obtain ⟨its2,r2,p2,_⟩:=I.tuple hb;refine HT.cat_tup p1 p2 (fun z=>hx (r1.nil_iff.mp z)) (fun z=>⟨.ref a,H,I,rfl,q1 (r2.nil_iff.mp z)⟩) (fun z=> ?_) (by rw [<-r1.length, <-r2.length];exact hz);refine ⟨.ref s.heap.objs.size,_,I.laid (t':=s.toks) (o:= .tup (xs++ys)) (fun b ob q=>Heap.get?_push_of_some _ q) (Nat.le_refl _) ?_,rfl,q2 (fun w=>z (r2.nil_iff.mpr w)) _ (I.hok.fresh (Nat.le_refl _))⟩;exact ⟨by rw [List.length_append];exact hz,_,r1.append r2,IsTup.new _ _⟩
end
end L2
namespace L2
open PySem PySem.Spec PyProof.Rows
def ixN(n:Nat)(i:Int):Option Nat:=if 0<=i then (if i<n then some i.toNat else none) else if -(n:Int)<=i then some (i+n).toNat else none
def atI{α:Type}(xs:List α)(i:Int):Option α:=(ixN xs.length i).bind fun j=>xs[j]?
theorem ixN_seq{n:Nat}{i:Int}{j:Nat}(h:ixN n i=some j):seqIndex? i n=some j/\j<n /\ -(n:Int)<=i/\i<n:=by
 unfold ixN at h
 by_cases h0:0<=i
 . rw [if_pos h0] at h
   by_cases h1:i<n
   . rw [if_pos h1] at h
     have e:i.toNat=j:=Option.some.inj h;exact ⟨by rw [seqIndex_of h0 h1,e],by omega,by omega,h1⟩
   . rw [if_neg h1] at h;cases h
 . rw [if_neg h0] at h
   by_cases h1 : -(n:Int)<=i
   . rw [if_pos h1] at h
     have e:(i+n).toNat=j:=Option.some.inj h;exact ⟨by rw [seqIndex_neg (by omega) h1,e],by omega,h1,by omega⟩
   . rw [if_neg h1] at h;cases h
theorem atI_get{α:Type}{xs:List α}{i:Int}{v:α}(h:atI xs i=some v):∃j,seqIndex? i xs.length=some j/\xs[j]? = some v/\j<xs.length /\ -(xs.length:Int)<=i/\i<xs.length:=by
 unfold atI at h
 cases e:ixN xs.length i with
 | none=>rw [e] at h;cases h
 | some j=>
  rw [e] at h
  obtain ⟨h1,h2,h3,h4⟩:=ixN_seq e;exact ⟨j,h1,h,h2,h3,h4⟩
def PlainIx(b:Expr):Prop:=∀o i,subscripted b false o i=operate [o,i] (getItem o i)
def IxR(X:Cx)(r:R2):Prop:=
 ∀(value slice:Expr) (pins:List (Addr×Obj)) (s:Shared) (σ:St) (H:Hp) (x y:V) (v u:Value) (Q:VK),Inv X pins σ H s->RelV x v->RelV y u->r x y H Q ->
   subscripted slice false v u=operate [v,u] (getItem v u)->wpAny (model X.prog X.w) X.A (subscriptTail value slice v u) (EP X pins σ Q) X.xe s
def MtR(X:Cx)(id:String)(r:V->List V->Hp->VK->Prop):Prop:=
 ∀(pins:List (Addr×Obj)) (s:Shared) (σ:St) (H:Hp) (x:V) (xs:List V) (v:Value) (us:List Value) (Q:VK),Inv X pins σ H s->RelV x v->Vals xs us->r x xs H Q ->
   wpAny (model X.prog X.w) X.A (call (.builtin id) (v::us)) (EP X pins σ Q) X.xe s
section
variable {X:Cx} {a b:Expr} {ta tb:TE} {pos:Pos}
theorem IxR.or{r r':R2}(h:IxR X r)(h':IxR X r'):IxR X (fun x y H Q=>r x y H Q\/r' x y H Q):=by
 intro value slice pins s σ H x y v u Q I rx ry q hs;rcases q with q | q
 . exact h value slice pins s σ H x y v u Q I rx ry q hs
 . exact h' value slice pins s σ H x y v u Q I rx ry q hs
theorem pe_ix{r:R2}(hr:IxR X r)(ha:PE X a ta)(hb:PE X b tb)(hs:PlainIx b):PE X (.Subscript a b pos) (tOp r ta tb):=by
 intro pins s σ H Q I h;exact Subscript_ (binT ha hb I h fun v u s2 x y H2 I2 rx ry q=>hr a b pins s2 σ H2 x y v u Q I2 rx ry q (hs _ _))
def rIxL(K:PySem.W.Frag):R2:=fun x y H Q=>∃p xs i v,x = .ref p/\y = .int i/\SqL K H p xs/\atI xs i=some v/\Q v H
def rIxT(K:PySem.W.Frag):R2:=fun x y H Q=>∃p xs i v,x = .ref p/\y = .int i/\SqT K H p xs/\atI xs i=some v/\Q v H
def rIxS:R2:=fun x y H Q=>∃z i c,x = .str z/\y = .int i/\z.length<=sizeLine/\atI z.cps.toList i=some c/\Q (.str ⟨#[c]⟩) H
theorem ix_list:IxR X (rIxL X.K):=by
 intro value slice pins s σ H x y v u Q I rx ry h hs;obtain ⟨p,xs,i,z,rfl,rfl,hq,he,q⟩:=h
 cases rx
 obtain ⟨t,rfl⟩:=ry;obtain ⟨its,r,pl,hz⟩:=I.list hq;obtain ⟨j,h1,h2,h3,h4,h5⟩:=atI_get he;obtain ⟨w,ew,rw'⟩:=r.get h2;have hl:=r.length;have hn:=line63;have fin:EP X pins σ Q w s:=⟨z,H,I,rw',q⟩
 by_cases h0:0<=i
 . have hj : i.toNat = j := by
    rw [seqIndex_of h0 h5] at h1
    exact Option.some.inj h1
   exact item_listR pl.isList h0 (by omega) (by rw [hj];simpa using ew) fin hs
 . have hj : (i + (its.toArray.size : Int)).toNat = j := by
    rw [seqIndex_neg (by omega) h4] at h1
    rw [List.size_toArray, <-hl];exact Option.some.inj h1
   exact subscriptTail_builtinR (x:=w) pl.isList.typeIs slot_list_getitem.lookup
    (wpAny_getItem_list_neg (Q:=fun r s'=>r=w/\EP X pins σ Q r s') pl.isList (by omega) (by rw [List.size_toArray] <;> omega) (by omega) (by rw [hj];simpa using ew) ⟨rfl,fin⟩) hs
theorem ix_tup:IxR X (rIxT X.K):=by
 intro value slice pins s σ H x y v u Q I rx ry h hs;obtain ⟨p,xs,i,z,rfl,rfl,hq,he,q⟩:=h
 cases rx
 obtain ⟨t,rfl⟩:=ry;obtain ⟨its,r,pl,hz⟩:=I.tuple hq;obtain ⟨j,h1,h2,h3,h4,h5⟩:=atI_get he;obtain ⟨w,ew,rw'⟩:=r.get h2;have hl:=r.length;have hn:=line63;have fin:EP X pins σ Q w s:=⟨z,H,I,rw',q⟩
 exact subscriptTail_builtinR (x:=w) pl.typeIs slot_tuple_getitem.lookup
  (getItem_tuple (j:=j) (Q:=fun r s'=>r=w/\EP X pins σ Q r s') pl (by omega) (by omega) (by rw [List.size_toArray, <-hl];exact h1) (by simpa using ew) ⟨rfl,fin⟩) hs
theorem ix_str:IxR X rIxS:=by
 intro value slice pins s σ H x y v u Q I rx ry h hs;obtain ⟨z,i,c,rfl,rfl,hz,he,q⟩:=h;obtain ⟨t,rfl⟩:=rx;obtain ⟨t',rfl⟩:=ry;obtain ⟨j,h1,h2,h3,h4,h5⟩:=atI_get he;have hl:z.cps.toList.length=z.length:=by simp [Str.length]
 rw [hl] at h1 h4 h5
 have hn:=line63
 exact tail_any (typeIs_str s z t) slot_str_getitem.lookup (getItem_str (c:=c) (by
  have e1:decide (i < -(2 ^ 63:Int))=false:=decide_eq_false (by omega);have e2:decide (i≥2 ^ 63)=false:=decide_eq_false (by omega);rw [e1,e2,Bool.or_false]) (by rw [h1];simpa using h2) ⟨.str ⟨#[c]⟩,H,I.tok _,⟨_,rfl⟩,q⟩) hs
def rIx(K:PySem.W.Frag):R2:=fun x y H Q=>rIxL K x y H Q\/rIxT K x y H Q\/rIxS x y H Q
theorem ix_seq:IxR X (rIx X.K):=ix_list.or (ix_tup.or ix_str)
theorem mapSeq_set(its:List Value)(n j:Nat)(u:Value):Obj.mapSeq (·.setIfInBounds j u) {cls:= .type "list",data:= .seq its.toArray n}={cls:= .type "list",data:= .seq (its.set j u).toArray n}:=by
 simp [Obj.mapSeq]
theorem Inv.lst {pins : List (Addr × Obj)} {σ : St} {H : Hp} {s : Shared} {p : Addr} {xs : List V} (I : Inv X pins σ H s) (h : H p = some (.lst xs)) :
 ∃(its:List Value) (n:Nat),Vals xs its/\s.heap.get? p=some {cls:= .type "list",data:= .seq its.toArray n}/\xs.length<=sizeLine:=by
 obtain ⟨z,its,n,r,e⟩:=I.hok p _ h;exact ⟨its,n,r,e,z⟩
theorem Inv.lstUpd {pins : List (Addr × Obj)} {σ : St} {H : Hp} {s : Shared} {p : Addr} {xs ys : List V} {its its' : List Value} {n n' : Nat} {f : Obj -> Obj} (I : Inv X pins σ H s) (h : H p = some (.lst xs))
 (ho:s.heap.get? p=some {cls:= .type "list",data:= .seq its.toArray n}) (hf:f {cls:= .type "list",data:= .seq its.toArray n}={cls:= .type "list",data:= .seq its'.toArray n' }) (r:Vals ys its') (hz:ys.length<=sizeLine) (t:Nat) :
 Inv X pins σ (upd H p (.lst ys)) {s with heap:=s.heap.update p f,toks:=t}:=by
 have e:(s.heap.update p f).get? p=some {cls:= .type "list",data:= .seq its'.toArray n' }:=by
  rw [Heap.get?_update_self f ho (by rw [hf] <;> rfl),hf]
 refine I.write (x:=p) (e:=p) (by rw [h];trivial) (.inl rfl) (fun b u hb q=>(Heap.get?_update_other _ _ (Ne.symm hb)).trans q) ⟨_,e⟩ ?_;exact ⟨hz,its',n',r,e⟩
def rSetL:V->V->V->Hp->(Hp->Prop)->Prop:=fun o i v H Q=>∃p xs k j,o = .ref p/\i = .int k/\H p=some (.lst xs)/\ixN xs.length k=some j/\Q (upd H p (.lst (xs.set j v)))
theorem set_list:PSet X rSetL:=by
 intro pins s σ H o i v ov iv u Q I ro ri rv h;obtain ⟨p,xs,k,j,rfl,rfl,hp,hj,q⟩:=h
 cases ro
 obtain ⟨t,rfl⟩:=ri;obtain ⟨its,n,r,ho,hz⟩:=I.lst hp;obtain ⟨h1,h2,h3,h4⟩:=ixN_seq hj;have hl:=r.length;have hn:=line63
 have I':Inv X pins σ (upd H p (.lst (xs.set j v))) {s with heap:=s.heap.update p (Obj.mapSeq (·.setIfInBounds j u))} :=
  I.lstUpd hp ho (mapSeq_set its n j u) (r.set rv j) (by rw [List.length_set];exact hz) s.toks
 by_cases h0:0<=k
 . have hk : k.toNat = j := by
    rw [seqIndex_of h0 h4] at h1
    exact Option.some.inj h1
   exact PySem.W.ki_setAt ho h0 (by omega) (by rw [List.size_toArray, <-hl];exact h4) (by rw [hk];exact ⟨_,I',q⟩)
 . have hk : (k + (its.toArray.size : Int)).toNat = j := by
    rw [seqIndex_neg (by omega) h3] at h1
    rw [List.size_toArray, <-hl];exact Option.some.inj h1
   exact PySem.W.ki_setBack ho (by omega) (by rw [List.size_toArray, <-hl];exact h3) (by omega) (by rw [hk];exact ⟨_,I',q⟩)
theorem slice_bounds(lo hi:Option Int)(n:Nat):(sliceBounds lo hi none n).1=((HT.sIx n 0 lo:Nat):Int)/\(sliceBounds lo hi none n).2.1=((HT.sIx n n hi:Nat):Int)/\(sliceBounds lo hi none n).2.2=1:=by
 refine ⟨?_,?_,rfl⟩
 . cases lo with
   | none=>simp [sliceBounds,HT.sIx]
   | some i=>
    simp only [sliceBounds,HT.sIx,Option.getD_none,show (1:Int)>0 by decide,if_true]
    by_cases h:i<0
    . simp only [h,if_true] <;> omega
    . simp only [h,if_false] <;> omega
 . cases hi with
   | none=>simp [sliceBounds,HT.sIx]
   | some i=>
    simp only [sliceBounds,HT.sIx,Option.getD_none,show (1:Int)>0 by decide,if_true]
    by_cases h:i<0
    . simp only [h,if_true] <;> omega
    . simp only [h,if_false] <;> omega
theorem slicePick_cut(its:List Value)(lo hi:Option Int):slicePick its.toArray lo hi none=((its.drop (HT.sIx its.length 0 lo)).take (HT.sIx its.length its.length hi - HT.sIx its.length 0 lo)).toArray:=by
 obtain ⟨h1,h2,h3⟩:=slice_bounds lo hi its.toArray.size;unfold slicePick;rw [h1,h2,h3];simp only [sliceRange_one,pick_run,List.size_toArray] <;> rfl
def rSlL(K:PySem.W.Frag):V->Option Int->Option Int->Hp->VK->Prop:=fun x lo hi H Q=>∃a xs,x = .ref a/\SqL K H a xs/\∀p,H p=none->Q (.ref p) (upd H p (.lst (cutV xs lo hi)))
theorem sl_list:SlR X (rSlL X.K):=by
 intro pins s σ H x v vl vu lo hi sl Q I rx hs pl pu h;obtain ⟨a,xs,rfl,hx,q⟩:=h
 cases rx
 obtain ⟨its,r,ht,hz⟩:=I.list hx;have hlen:=r.length;refine ⟨"list",_,slot_list_getitem.lookup,ht.isList.typeIs,?_⟩;refine wpAny_getItem_list_slice ht.isList hs pl pu .none (by simp) ?_ (by rw [List.size_toArray] <;> omega);rw [slicePick_cut, <-hlen];refine ⟨.ref s.heap.objs.size,_,I.laid (t':=s.toks) (o:= .lst (cutV xs lo hi)) (fun b ob q=>Heap.get?_push_of_some _ q) (Nat.le_refl _) ?_,rfl,q _ (I.hok.fresh (Nat.le_refl _))⟩;exact ⟨Nat.le_trans (cutV_length xs lo hi) hz,_,0,(r.drop (HT.sIx xs.length 0 lo)).take (HT.sIx xs.length xs.length hi - HT.sIx xs.length 0 lo),Heap.get?_push_size _ rfl⟩
theorem call_len_seq:CallR X (.builtin "len") (fun xs H Q=>∃p ys,xs = [.ref p]/\(SqL X.K H p ys\/SqT X.K H p ys)/\Q (.int ys.length) H):=by
 intro pins s σ H xs us Q I r h;obtain ⟨p,ys,rfl,hq,q⟩:=h;obtain ⟨u,rfl,rx⟩:=vals1 r
 cases rx
 have hn:=line63;rcases hq with hq | hq
 . obtain ⟨its,r',pl,hz⟩:=I.list hq;have hlen:=r'.length;exact Calls.call_len_list pl.isList (by simp only [List.size_toArray] <;> omega) ⟨.int ys.length,H,I.tok _,⟨s.toks+1,by rw [List.size_toArray,hlen]⟩,q⟩
 . obtain ⟨its,r',pl,hz⟩:=I.tuple hq;have hlen:=r'.length;exact len_tuple pl (by simp only [List.size_toArray] <;> omega) ⟨.int ys.length,H,I.tok _,⟨s.toks+1,by rw [List.size_toArray,hlen]⟩,q⟩
theorem call_list_of:CallR X (.type "list") (fun xs H Q=>∃p ys,xs = [.ref p]/\(SqL X.K H p ys\/SqT X.K H p ys)/\∀l,H l=none->Q (.ref l) (upd H l (.lst ys))):=by
 intro pins s σ H xs us Q I r h;obtain ⟨p,ys,rfl,hq,q⟩:=h;obtain ⟨u,rfl,rx⟩:=vals1 r
 cases rx
 have fin : ∀ (its : List Value), Vals ys its -> ys.length <= sizeLine -> ∀ (h' : Heap) (c' : Nat), (∀ b o', s.heap.get? b = some o' -> h'.get? b = some o') ->
  h'.get? s.heap.objs.size=some {cls:= .type "list",dict:=none,data:= .seq its.toArray c',slots:= #[]}->EP X pins σ Q (.ref s.heap.objs.size) {s with heap:=h' }:=fun its r' hz h' c' kp e=>
  ⟨.ref s.heap.objs.size,_,I.laid (t':=s.toks) kp (Nat.le_refl _) (show ObjOk X.prog X.w _ h' _ (.lst ys) from ⟨hz,its,c',r',e⟩),rfl,q _ (I.hok.fresh (Nat.le_refl _))⟩
 rcases hq with hq | hq
 . obtain ⟨its,r',pl,hz⟩:=I.list hq;have hlen:=r'.length;obtain ⟨o,ho,hc,n,hd⟩:=pl.isList;exact call_list_seq p (.inl rfl) ho hc hd (fun h' c' kp e=>fin its r' hz h' c' kp e) (by simp only [List.size_toArray] <;> omega)
 . obtain ⟨its,r',pl,hz⟩:=I.tuple hq;have hlen:=r'.length;obtain ⟨o,ho,hc,n,hd⟩:=pl;exact call_list_seq p (.inr rfl) ho hc hd (fun h' c' kp e=>fin its r' hz h' c' kp e) (by simp only [List.size_toArray] <;> omega)
def tyV(K:PySem.W.Frag)(T:String)(x:V)(H:Hp):Prop:=match x with
 | .str _=>T = "str"
 | .int _=>T = "int"
 | .ref p => (T = "list" /\ ∃ xs, SqL K H p xs) \/ (T = "tuple" /\ ∃ o, K.lookup p = some o /\ o.cls = .type "tuple" /\ o.dict = none) \/
  (T = "dict" /\ ((∃kvs,H p=some (.dK kvs))\/∃kvs,H p=some (.dT kvs)))\/(T = "set" /\ ∃S n,H p=some (.set S n))
 | _=>False
theorem tyV_is {pins : List (Addr × Obj)} {σ : St} {H : Hp} {s : Shared} {T : String} {x : V} {v : Value} (I : Inv X pins σ H s) (r : RelV x v) (ty : tyV X.K T x H) :
 s.TypeIs v T/\∀a,v = .ref a->∃ob,s.heap.get? a=some ob/\ob.dict=none:=by
 cases x with
 | str z=>
  obtain ⟨t,rfl⟩:=r
  cases (show T = "str" from ty)
  exact ⟨typeIs_str s z t,fun _ e=>nomatch e⟩
 | int i=>
  obtain ⟨t,rfl⟩:=r
  cases (show T = "int" from ty)
  exact ⟨typeIs_int s i t,fun _ e=>nomatch e⟩
 | ref p=>
  cases r
  rcases ty with ⟨rfl,xs,hq⟩ | ⟨rfl,o,hk,hc,hd⟩ | ⟨rfl,hk⟩ | ⟨rfl,S,n,hk⟩
  . obtain ⟨its,_,pl,_⟩:=I.list hq;refine ⟨pl.isList.typeIs,fun a e=> ?_⟩
    cases e
    obtain ⟨o,n,e,c,hd,_⟩:=pl;exact ⟨o,e,hd⟩
  . refine ⟨⟨o,I.kIn p o hk,hc⟩,fun a e=> ?_⟩
    cases e
    exact ⟨o,I.kIn _ o hk,hd⟩
  . have z : ∃ o, s.heap.get? p = some o /\ o.ExactDict := by
     rcases hk with ⟨kvs,hk⟩ | ⟨kvs,hk⟩
     . obtain ⟨_,_,_,_,o,_,_,e,ex,_⟩:=I.hok p _ hk;exact ⟨o,e,ex⟩
     . obtain ⟨_,_,_,_,o,_,_,e,ex,_⟩:=I.hok p _ hk;exact ⟨o,e,ex⟩
    obtain ⟨o,e,ex⟩:=z;refine ⟨⟨o,e,ex.1⟩,fun a e2=> ?_⟩
    cases e2
    exact ⟨o,e,ex.2.1⟩
  . obtain ⟨o,_,_,_,e,ex,_⟩:=I.hok p _ hk;refine ⟨⟨o,e,ex.1⟩,fun a e2=> ?_⟩
    cases e2
    exact ⟨o,e,ex.2.1⟩
 | _=>exact False.elim ty
def tBM(K:PySem.W.Frag)(T:String)(r:V->List V->Hp->VK->Prop)(to:TE)(t:TA):TE:=fun σ H Q=>to σ H fun x H1=>tyV K T x H1/\t σ H1 fun xs H2=>r x xs H2 Q
variable {o e:Expr} {es:List Expr} {to:TE} {t:TA} {name:Str} {apos cpos:Pos} {T id:String} {r:V->List V->Hp->VK->Prop}
theorem pe_bm (pa : PlainAttrs T) (slot : Slot T name id) (hty : typeOf (.builtin id) = pure (.type "method_descriptor")) (hm : MtR X id r) (ho : PE X o to) (ha : PA X (e :: es) t)
 (hbase:attributeBase o name X.env (eval o X.env)=eval o X.env:=by rfl)
 (hfew:((backTo cpos (starEach (e::es) X.env)).all (fun x=> !x.1) && (backToKw cpos (keywordEach [] X.env)).all (fun x=>x.1.isSome)
  && decide ((e::es).length+([]:List Keyword).length+(if ([]:List Keyword).isEmpty then 0 else 1)<30))=true:=by rfl)
 (hline:(apos.endLine==cpos.line)=true:=by rfl) (hs:starEach (e::es) X.env=(false,eval e X.env)::starEach es X.env:=by rfl) (hplain:(backTo cpos (starEach es X.env)).any (·.1)=false:=by rfl) :
 PE X (.Call (.Attribute o name apos) (e::es) [] cpos) (tBM X.K T r to t):=by
 intro pins s σ H Q I h;refine wpAny_Call_method_late hbase hfew hline rfl (thn (ho pins s σ H _ I h) fun v s1 ⟨x,H1,I1,r1,ty,q1⟩ => ?_);obtain ⟨h1,h2⟩:=tyV_is I1 r1 ty;refine ⟨T,id,pa,slot,hty,h1,h2,?_⟩;have hA:=ha cpos pins s1 σ H1 _ I1 q1;rw [hs] at hA ⊢
 refine Calls.callWith_builtin (by show (false || (backTo cpos (starEach es X.env)).any (·.1))=false;rw [hplain] <;> rfl) (Calls.evalArgs_plain ?_);exact thn hA fun us s2 ⟨vs,H2,I2,r2,q2⟩=>hm pins s2 σ H2 x vs v us Q I2 r1 r2 q2
/- xs.append(e),list.index on a module's tuple .. are MtR facts of 06m -/
end
end L2
namespace L2
open PySem PySem.Spec PyProof.Rows
def MtM(X:Cx)(id:String)(r:V->List V->Hp->VK->Prop):Prop:=
 ∀(pins:List (Addr×Obj)) (s:Shared) (σ:St) (H:Hp) (x:V) (xs:List V) (v:Value) (us:List Value) (Q:VK),Inv X pins σ H s->RelV x v->Vals xs us->r x xs H Q ->
   wpAny (model X.prog X.w) X.A (call (.builtin id) (v::us)) (EP X pins σ Q) X.xe s
theorem Vals.one:∀ {x:V} {us:List Value},Vals [x] us->∃u,us = [u]/\RelV x u
 | _,_, .cons r .nil=>⟨_,rfl,r⟩
theorem Vals.zero:∀ {us:List Value},Vals [] us->us = []
 | _, .nil=>rfl
theorem Vals.eraseIdx:∀ {xs:List V} {us:List Value} (i:Nat),Vals xs us->Vals (xs.eraseIdx i) (us.eraseIdx i)
 | _,_,_, .nil=> .nil
 | _,_,0, .cons _ t=>t
 | _,_,i+1, .cons r t=> .cons r (Vals.eraseIdx i t)
theorem Vals.reverse{xs:List V}{us:List Value}(h:Vals xs us):Vals xs.reverse us.reverse:=by
 induction h with
 | nil=>exact .nil
 | cons r t ih=>rw [List.reverse_cons,List.reverse_cons];exact Vals.append ih (.cons r .nil)
theorem Vals.rep{xs:List V}{us:List Value}(h:Vals xs us):∀k:Nat,Vals (List.replicate k xs).flatten (List.replicate k us).flatten
 | 0=> .nil
 | k+1=>by
  rw [List.replicate_succ,List.replicate_succ,List.flatten_cons,List.flatten_cons];exact Vals.append h (Vals.rep h k)
theorem len_erase{α:Type}:∀(l:List α) (i:Nat),(l.eraseIdx i).length<=l.length
 | [],_=>Nat.le_refl _
 | _::_,0=>Nat.le_succ _
 | _::r,i+1=>Nat.succ_le_succ (len_erase r i)
theorem foldl_rep (its : List Value) : ∀ (k : Nat) (acc : List Value),
 List.foldl (fun x1 x2=>x1++x2) acc.toArray (List.replicate k its.toArray)=(acc++(List.replicate k its).flatten).toArray
 | 0,acc=>by simp
 | k+1,acc=>by
  have e:acc.toArray++its.toArray=(acc++its).toArray:=by simp
  have e2:(acc++its)++(List.replicate k its).flatten=acc++(List.replicate (k+1) its).flatten:=by
   rw [List.replicate_succ,List.flatten_cons,List.append_assoc]
  rw [<-e2, <-foldl_rep its k (acc++its), <-e,List.replicate_succ,List.foldl_cons]
section
variable {X:Cx} {pins:List (Addr×Obj)} {σ:St} {H:Hp} {s:Shared} {l b:Addr} {xs ys zs:List V}
theorem Inv.lset {its its' : List Value} {n : Nat} {f : Array Value -> Array Value} {t' : Nat} (I : Inv X pins σ H s) (hH : H l = some (.lst xs))
 (e:s.heap.get? l=some {cls:= .type "list",data:= .seq its.toArray n}) (hf:f its.toArray=its'.toArray) (hv:Vals ys its') (hz:ys.length<=sizeLine) :
 Inv X pins σ (upd H l (.lst ys)) {s with heap:=s.heap.update l (Obj.mapSeq f),toks:=t' }:=by
 have q:=PySem.IsL.update e f;rw [hf] at q
 refine I.write (x:=l) (e:=l) (by rw [hH];exact trivial) (.inl rfl) (fun b' u hb hu=>(Heap.get?_update_other s.heap (Obj.mapSeq f) (Ne.symm hb)).trans hu) ⟨_,q⟩ ?_;exact ⟨hz,its',_,hv,q⟩
theorem Inv.lnew {its : List Value} {t' : Nat} (I : Inv X pins σ H s) (hv : Vals ys its) (hz : ys.length <= sizeLine) :
 Inv X pins σ (upd H s.heap.objs.size (.lst ys)) {s with heap:=s.heap.push {cls:= .type "list",data:= .seq its.toArray},toks:=t' } :=
 I.laid (fun _ _ q=>Heap.get?_push_of_some _ q) (Nat.le_refl _) ⟨hz,its,0,hv,Heap.get?_push_size _ rfl⟩
theorem Inv.fresh(I:Inv X pins σ H s):H s.heap.objs.size=none:=I.hok.fresh (Nat.le_refl _)
theorem Inv.lstM(I:Inv X pins σ H s)(hH:H l=some (.lst xs)):xs.length<=sizeLine/\∃(its:List Value) (n:Nat),Vals xs its/\xs.length=its.length/\s.heap.get? l=some {cls:= .type "list",data:= .seq its.toArray n}:=by
 obtain ⟨z,its,n,r,e⟩:=I.hok l _ hH;exact ⟨z,its,n,r,r.length,e⟩
theorem notLongL{n:Nat}(h:n<=sizeLine):Builtin.List.listTooLong n=false:=by
 unfold Builtin.List.listTooLong;exact decide_eq_false (by omega)
end
section
variable {X:Cx}
def rAppend:V->List V->Hp->VK->Prop:=fun x vs H Q=>∃l xs y,x = .ref l/\vs = [y]/\H l=some (.lst xs)/\xs.length<sizeLine/\Q .non (upd H l (.lst (xs ++ [y])))
theorem mt_append:MtM X "list.append" rAppend:=by
 intro pins s σ H x vs v us Q I rx rv h;obtain ⟨l,xs,y,rfl,rfl,hH,hz,q⟩:=h
 cases rx
 obtain ⟨u,rfl,ru⟩:=rv.one;obtain ⟨z,its,n,r,hl,e⟩:=I.lstM hH;refine call_meets F.slot_list_append ⟨_,e,rfl⟩ F.entry_list_append (F.args_list_append_2 _ _) (PySem.list_append l its.toArray n u (by rw [List.size_toArray];omega)) ⟨e,?_⟩;refine ⟨.non,_,I.lset (its':=its ++ [u]) hH e (by simp) (r.append (.cons ru .nil)) ?_,rfl,q⟩;rw [List.length_append,List.length_singleton];omega
def rPopAt:V->List V->Hp->VK->Prop:=fun x vs H Q=>∃l xs i k y,x = .ref l/\vs = [.int i]/\H l=some (.lst xs) /\ -(2 ^ 63)<=i/\i<2 ^ 63/\seqIndex? i xs.length=some k/\xs[k]? = some y/\Q y (upd H l (.lst (xs.eraseIdx k)))
theorem mt_popAt:MtM X "list.pop" rPopAt:=by
 intro pins s σ H x vs v us Q I rx rv h;obtain ⟨l,xs,i,k,y,rfl,rfl,hH,h1,h2,hk,hy,q⟩:=h
 cases rx
 obtain ⟨u,rfl,ru⟩:=rv.one;obtain ⟨t,rfl⟩:=ru;obtain ⟨z,its,n,r,hl,e⟩:=I.lstM hH;obtain ⟨w,hw,rw'⟩:=r.get hy
 refine call_meets F.slot_list_pop ⟨_,e,rfl⟩ F.entry_list_pop (F.args_list_pop_2 _ _)
  (MeetsSeq.list_pop_at l its.toArray n i t k w (fitsIndex_both h1 h2) (by rw [List.size_toArray, <-hl];exact hk) (by rw [<-Array.getElem?_toList];exact hw) (by rw [List.size_toArray];omega)) ⟨e,?_⟩
 refine ⟨y,_,I.lset (its':=its.eraseIdx k) hH e ?_ (r.eraseIdx k) ?_,rw',q⟩
 . show its.toArray.eraseIdxIfInBounds k=(its.eraseIdx k).toArray;rw [List.eraseIdxIfInBounds_toArray]
 . have:=len_erase xs k;omega
def rRep:R2:=fun x y H Q=>∃l k xs,x = .ref l/\y = .int k/\H l=some (.lst xs) /\ -(2 ^ 63)<=k/\k<2 ^ 63/\xs.length*k.toNat<=sizeLine /\
 ∀p,H p=none->Q (.ref p) (upd H p (.lst (List.replicate k.toNat xs).flatten))
theorem len_rep{α:Type}(xs:List α)(k:Nat):(List.replicate k xs).flatten.length=k*xs.length:=by
 induction k with
 | zero=>simp
 | succ k ih=>rw [List.replicate_succ,List.flatten_cons,List.length_append,ih,Nat.succ_mul,Nat.add_comm]
theorem op_rep:OpR X (binaryOp .Mult) rRep:=by
 intro pins s σ H x y v u Q I rx ry h;obtain ⟨l,k,xs,rfl,rfl,hH,h1,h2,hz,q⟩:=h
 cases rx
 obtain ⟨t,rfl⟩:=ry;obtain ⟨z,its,n,r,hl,e⟩:=I.lstM hH;have hlen:its.toArray.size*k.toNat<=sizeLine:=by rw [List.size_toArray, <-hl];exact hz
 have hcap:¬its.toArray.size*k.toNat>(2 ^ 63 - 1) / 8:=by
  have:(sizeLine:Nat)<=(2 ^ 63 - 1) / 8:=by decide
  omega
 have hfit:¬(!Builtin.List.listFitsIndex k)=true:=by
  rw [fitsIndex_both h1 h2];exact Bool.false_ne_true
 have hlong:¬Builtin.List.listTooLong (its.toArray.size*k.toNat)=true:=by
  rw [notLongL hlen];exact Bool.false_ne_true
 have hnew:List.foldl (fun x1 x2=>x1++x2) #[] (List.replicate (if its.toArray.isEmpty=true then 0 else k.toNat) its.toArray)=(List.replicate k.toNat its).flatten.toArray:=by
  have f0:∀m:Nat,List.foldl (fun x1 x2=>x1++x2) #[] (List.replicate m its.toArray)=(List.replicate m its).flatten.toArray:=fun m=>by
   have:=foldl_rep its m [];rw [List.nil_append] at this
   exact this
  rw [f0]
  cases its with
  | nil=>simp
  | cons a r'=>rw [if_neg (by simp)]
 refine wpAny_binaryOp_repeat_ref (T:= "list") (U:= "int") (by decide) ⟨_,e,rfl⟩ (fun s'=>typeIs_int s' k t) noFill_list_mul F.fills_int_mul F.slot_int_rmul repeat_list F.slot_int_index.lookup
  (call_meets F.slot_int_rmul (typeIs_int s k t) F.entry_int_rmul (F.args_int_rmul_2 _ _) (int___rmul___int_list k t l its.toArray n)
   ⟨e,rfl,⟨_,e,rfl⟩,call_meets F.slot_list_mul ⟨_,e,rfl⟩ F.entry_list_mul (F.args_list_mul_2 _ _) (AutoListH.list___mul___list_int_3 l its.toArray n k t hfit hcap hlong) ⟨e,?_⟩⟩)
 rw [hnew];exact ⟨.ref _,_,I.lnew (t':=s.toks) (r.rep k.toNat) (by rw [len_rep,Nat.mul_comm];exact hz),rfl,q _ I.fresh⟩
end
section
variable {prog:Program} {w:World} {A:Around} {E:Value->Shared->Prop} {s:Shared}
end
section
variable {X:Cx}
end
end L2
namespace Att
open PySem PySem.W PySem.Calls PyProof.Rows
theorem ints_of_wellAll{P:Params}{h:Heap}:∀(ns:List Int) (vs:List Value),WellAll P h vs (ns.map WData.int)->IntsAre vs ns:=by
 intro ns
 induction ns with
 | nil=>
  intro vs w;rw [List.map_nil] at w
  cases w
  exact .nil
 | cons n ns ih=>
  intro vs w;rw [List.map_cons] at w
  cases w with
  | cons a b=>
   cases a
   exact .cons _ _ (ih _ b)
theorem script_of {l : OpenLaw} {n : Nat} (hn : l.most = some n) {P : Params} {h : Heap} {args : List WData} {vals : List Value}
 (hpre:l.row.toRowW.claim.pre args=true) (hwl:WellAll P h vals args) :
 ∃a vs ns,vals = [Value.ref a]/\args = [WData.list (ns.map WData.int)]/\h.get? a=some {cls:= .type "list",data:= .seq vs.toArray}/\IntsAre vs ns/\ns.length<=n:=by
 have hsh:WShape.hasAll [] args [.list .int]=true:=(pre_splitW hpre).1;have hc:l.pre.holds [] {args:=args}=true:=(pre_splitW hpre).2;obtain ⟨d,r,rfl,h1,h2⟩:=hasAllW_cons hsh;obtain rfl:=hasAllW_nil h2;obtain ⟨xs,rfl,h3⟩:=hasW_list h1;obtain ⟨ns,rfl⟩:=items_int h3
 have hlen:ns.length<=n:=by
  unfold OpenLaw.pre at hc
  have h4:(WTm.not (.lt (.lit (.int (n:Int))) (.len (.arg 0)))).holds [] {args:= [.list (ns.map .int)]}=true:=by
   have h4:=(holds_andW hc).1;rw [hn] at h4
   exact h4
  have h5:=condW_of h4 (w_not (w_lt w_lit (w_len_list (w_arg rfl))));rw [List.length_map] at h5
  refine Nat.le_of_not_lt fun q=> ?_;have q':(n:Int)<((ns.length:Nat):Int):=by omega
  first
   | (rw [decide_eq_true q'] at h5;exact absurd h5 (by decide))
   | (simp at h5;omega)
 cases hwl with
 | cons w1 w2=>
  cases w2
  cases w1 with
  | list ho hall=>exact ⟨_,_,ns,rfl,rfl,ho,ints_of_wellAll ns _ hall,hlen⟩
theorem post_true(l:OpenLaw)(args:List WData):l.row.toRowW.claim.post args (.bool true) args=true:=
 postW_of (r:=l.row.toRowW) (X:=(true==true))
  (show WShape.has [] (.bool true) .bool=true by first | rfl | decide | simp [WShape.has,WShape.arms,WShape.armsAll])
  (show (WTm.eq .res (.lit (.bool true))).value [] {args:=args,res:=some (.bool true),after:=args}=some (.bool (true==true)) from w_eq_bool (w_res rfl) w_lit) rfl
theorem attach_call {l : OpenLaw} {n : Nat} {q : Program} {loose : List Str} {XP : (Str -> Option Value) -> Heap -> Prop} {YP : World -> Heap -> Prop} {d : DefRec}
 (hn:l.most=some n) (hdf:d.params.defaults = [])
 (call:∀(w:World) (s₀ s₁:Shared) (mg mb:Str->Option Value) (fa:Addr) (o:Obj) (pm cd doc:Value) (a:Addr) (vs:List Value) (ns:List Int),
  Ground q loose [] XP w s₀ mg mb s₁.heap->YP w s₁.heap ->
  s₁.heap.get? fa=some o->o.data = .func (docDef d.name d.params d.body d.scope pm cd doc)->s₁.heap.CodeRec cd d.name->mg d.name=some (.ref fa) ->
  s₁.heap.get? a=some {cls:= .type "list",data:= .seq vs.toArray}->IntsAre vs ns->ns.length<=n->s₁.gens = #[] ->
  codeAny (model l.prog w) callerA (.call (.ref fa) ⟨[.ref a],[]⟩) (fun r s'=>r = .ok (.ret (.bool true))/\OldK s₁.heap s'.heap/\s'.os=s₁.os/\AllBare s'.gens) s₁) :
 WalkO q loose XP YP l.row.toRowW d [] (fun f vs=>PySem.call f vs):=by
 intro w s₀ s₁ mg mb G Y fa o pm cd doc dV kV ho hd hcd hD hmg hg args vals as hpre hlay hrd hwl hlo;obtain rfl:dV = .none:=Dflts.none hD hdf;obtain rfl:kV = .none:=Dflts.noKw hD;obtain ⟨a,vs,ns,rfl,rfl,hobj,hints,hlen⟩:=script_of hn hpre hwl;refine enter_call (codeAny_mono (call w s₀ s₁ mg mb fa o pm cd doc a vs ns G Y ho (fd_plain hd) hcd hmg hobj hints hlen hg) fun r s' hq=> ?_);obtain ⟨rfl,h2,h3,h4⟩:=hq;exact ⟨.inl ⟨.bool true, .bool true,[],rfl,fun _=>rfl, .bool true,post_true l _,fun _=>⟨List.Pairwise.nil,fun _ hm=>(nomatch hm)⟩⟩,h2,h3,h4⟩
section
variable {prog:Program} {w:World} {A:Around} {E:Value->Shared->Prop} {s:Shared} {K:Frag}
end
end Att
namespace L2
open PySem PySem.Spec PyProof.Rows
theorem vals_ints:∀ {vs:List Value} {ns:List Int},IntsAre vs ns->Vals (ns.map V.int) vs
 | _,_, .nil=> .nil
 | _,_, .cons n t h=> .cons ⟨t,rfl⟩ (vals_ints h)
end L2
namespace L2
open PySem PySem.Spec PyProof.Rows
def defArgs(s:Stmt):Arguments:=match s with
 | .FunctionDef _ a _ _ _ _ _ _ _ _=>a
 | _=>{posonlyargs:= [],args:= [],vararg:=none,kwonlyargs:= [],kw_defaults:= [],kwarg:=none,defaults:= []}
def defBody(s:Stmt):List Stmt:=match s with
 | .FunctionDef _ _ b _ _ _ _ _ _ _=>b
 | _=> []
def defScope(s:Stmt):Scope:=match s with
 | .FunctionDef _ _ _ _ _ _ sc _ _ _=>sc
 | _=>{kind:= .function,names:= [],isGenerator:=false,isCoroutine:=false}
abbrev CX0:CXT:=fun _ _ _ _ _ _=>False
abbrev E0:XK:=fun _ _ _=>False
theorem pass0{X:Cx}:Passes CX0 X E0:=fun _ _ _ _ _ _ _ h=>h.elim
structure Fun (K:PySem.W.Frag) (x qual:Str) (st:Stmt) (f:Addr) (fd:FuncData):Prop where
 ex:∃(oc:Value) (od:Option Addr) (kV doc pm:Value) (an:Option Addr) (cdv ct:Value) (osl:Array (Option Value)),
  fd=PySem.W.fnOf x qual (defArgs st) (defBody st) (defScope st) .none kV doc pm an cdv ct/\K.lookup f=some ⟨oc,od, .func fd,osl⟩/\PySem.W.codeIn K cdv qual=true
 kp:PySem.W.keepIn K (.ref f)=true
section
variable {P:Program} {w:World} {K:PySem.W.Frag} {mg:Str->Option Value} {base:Heap}
theorem Fun.ok {x qual : Str} {st : Stmt} {f : Addr} {fd : FuncData} {N ps : List Str} {k : Nat} {sp : Sp} (F : Fun K x qual st f fd) (S : FnScope N ps (defScope st)) (len : ∀ vs H Q E, sp vs H Q E -> vs.length = ps.length)
 (hbody:∀(cdv:Value) (A:Around) (outer:List Env) (s:Shared) (H:Hp) (vs:List V) (Q:VK) (E:XK),Room k (A.deeper (envOfC qual (defScope st) s.heap.objs.size f cdv))->sp vs H Q E ->
  ∃t,PSs (cxOf CX0 P w K mg base N qual (defScope st) f cdv A outer s H E).nox (defBody st) t/\t {nx:=fun _ H'=>Q .non H',rt:=Q} (start N vs) H):FnOk P w K mg base CX0 (k+1) f fd ps sp:=by
 obtain ⟨oc,od,kV,doc,pm,an,cdv,ct,osl,rfl,lk,hcd⟩:=F.ex;refine fn_of lk hcd S len fun A outer s H vs Q E hr hsp=> ?_;obtain ⟨t,h,q⟩:=hbody cdv A outer s H vs Q E hr hsp;exact ⟨t,h.nox,q⟩
theorem Fun.binds {x qual : Str} {st : Stmt} {f : Addr} {fd : FuncData} {ps : List Str} (F : Fun K x qual st f fd)
 (h:∀(kV doc pm:Value) (an:Option Addr) (cdv ct:Value) (us:List Value),us.length=ps.length->bindArgs (PySem.W.fnOf x qual (defArgs st) (defBody st) (defScope st) .none kV doc pm an cdv ct) ⟨us,[]⟩=pure (ps.zip us)):Binds K fd ps []:=by
 obtain ⟨oc,od,kV,doc,pm,an,cdv,ct,osl,rfl,lk,hcd⟩:=F.ex;exact .all (h kV doc pm an cdv ct)
theorem fun_mk {x qual : Str} {st : Stmt} {f : Addr} {oc : Value} {od an : Option Addr} {osl : Array (Option Value)} {kV doc pm cdv ct : Value} (l : K.lookup f = some ⟨oc, od, .func (PySem.W.fnOf x qual (defArgs st) (defBody st) (defScope st) .none kV doc pm an cdv ct), osl⟩)
 (c:PySem.W.codeIn K cdv qual=true) (k:PySem.W.keepIn K (.ref f)=true):Fun K x qual st f (PySem.W.fnOf x qual (defArgs st) (defBody st) (defScope st) .none kV doc pm an cdv ct):=⟨⟨oc,od,kV,doc,pm,an,cdv,ct,osl,rfl,l,c⟩,k⟩
end
theorem hu_of{A:Around}{k:Nat}(hr:Room k A):A.units+1<cLine:=Nat.lt_of_le_of_lt (Nat.add_le_add_left (by decide:1<=64) _) hr.units
section
variable {X:Cx}
end
theorem iteF{A B:Prop}(h:B):if false=true then A else B:=by
 rw [if_neg Bool.false_ne_true];exact h
theorem iteT{A B:Prop}(h:A):if true=true then A else B:=by
 rw [if_pos rfl];exact h
def Same(H H':Hp):Prop:=∀b o,H b=some o->H' b=some o
theorem Same.refl(H:Hp):Same H H:=fun _ _ h=>h
theorem Same.trans{H H1 H2:Hp}(a:Same H H1)(b:Same H1 H2):Same H H2:=fun c o h=>b c o (a c o h)
theorem Same.free{H H':Hp}(e:Same H H'){l:Addr}(h:H' l=Option.none):H l=Option.none:=by
 cases q:H l with
 | none=>rfl
 | some o=>
  rw [e l o q] at h
  cases h
theorem Same.seq{K:PySem.W.Frag}{H H':Hp}{a:Addr}{xs:List V}(e:Same H H')(h:SqL K H a xs):SqL K H' a xs:=by
 rcases h with (h | ⟨o,h⟩) | h
 . exact .inl (.inl (e _ _ h))
 . exact .inl (.inr ⟨o,e _ _ h⟩)
 . exact .inr h
end L2
namespace L2
open PySem PySem.Spec PyProof.Rows
section
variable {κ:Type} [DecidableEq κ]
def valV(kvs:List (κ×V))(k:κ):Option V:=(kvs.find? fun kv=>decide (kv.1=k)).map (·.2)
def putK(kvs:List (κ×V))(k:κ)(v:V):List (κ×V) :=
 if (kvs.any fun kv=>decide (kv.1=k))=true then kvs.map (fun kv=>if kv.1=k then (kv.1,v) else kv) else kvs ++ [(k,v)]
theorem valV_pos{p:κ×V}{r:List (κ×V)}{k:κ}(e:p.1=k):valV (p::r) k=some p.2:=by simp [valV,List.find?_cons,e]
theorem valV_neg{p:κ×V}{r:List (κ×V)}{k:κ}(e:¬p.1=k):valV (p::r) k=valV r k:=by simp [valV,List.find?_cons,e]
theorem valV_any(k:κ):∀kvs:List (κ×V),(kvs.any fun kv=>decide (kv.1=k))=(valV kvs k).isSome
 | []=>rfl
 | p::r=>by
  rw [List.any_cons]
  by_cases e:p.1=k
  . simp only [valV_pos e,decide_eq_true e,Bool.true_or,Option.isSome_some]
  . rw [valV_neg e,decide_eq_false e,Bool.false_or];exact valV_any k r
theorem length_putK(kvs:List (κ×V))(k:κ)(v:V):(putK kvs k v).length<=kvs.length+1:=by
 unfold putK
 split
 . rw [List.length_map];omega
 . rw [List.length_append,List.length_cons,List.length_nil];omega
theorem putK_new{kvs:List (κ×V)}{k:κ}(v:V)(h:valV kvs k=none):putK kvs k v=kvs ++ [(k,v)]:=by
 unfold putK;rw [valV_any,h];exact if_neg (by decide)
theorem RelO.isSome_eq{o:Option V}{u:Option Value}(r:RelO o u):o.isSome=u.isSome:=by
 cases o with
 | none=>cases u with
  | none=>rfl
  | some _=>exact (show False from r).elim
 | some _=>cases u with
  | none=>exact (show False from r).elim
  | some _=>rfl
theorem RelO.getD{o:Option V}{u:Option Value}{d:V}{d':Value}(r:RelO o u)(rd:RelV d d'):RelV (o.getD d) (u.getD d'):=by
 cases o with
 | none=>cases u with
  | none=>exact rd
  | some _=>exact (show False from r).elim
 | some _=>cases u with
  | none=>exact (show False from r).elim
  | some _=>exact r
theorem KV.val{kvs:List (κ×V)}{vs:List (κ×Value)}(r:KV kvs vs)(k:κ):RelO (valV kvs k) (valueAt vs k):=by
 unfold KV at r
 induction r with
 | nil=>exact True.intro
 | @cons p q ps qs h t ih=>
  obtain ⟨h1,h2⟩:=h
  by_cases e:p.1=k
  . have e':q.1=k:=h1.symm.trans e;have b:valueAt (q::qs) k=some q.2:=by simp [valueAt,List.find?_cons,e']
    rw [valV_pos e,b];exact h2
  . have e':¬q.1=k:=fun z=>e (h1.trans z);have b:valueAt (q::qs) k=valueAt qs k:=by simp [valueAt,List.find?_cons,e']
    rw [valV_neg e,b];exact ih
theorem KV.any{kvs:List (κ×V)}{vs:List (κ×Value)}(r:KV kvs vs)(k:κ):(kvs.any fun kv=>decide (kv.1=k))=vs.any fun kv=>decide (kv.1=k):=by
 unfold KV at r
 induction r with
 | nil=>rfl
 | cons h t ih=>rw [List.any_cons,List.any_cons,ih,h.1]
theorem KV.repl {kvs : List (κ × V)} {vs : List (κ × Value)} (r : KV kvs vs) (k : κ) {y : V} {u : Value} (ry : RelV y u) :
 KV (kvs.map fun kv=>if kv.1=k then (kv.1,y) else kv) (vs.map fun kv=>if kv.1=k then (kv.1,u) else kv):=by
 unfold KV at r ⊢
 induction r with
 | nil=>exact .nil
 | @cons p q ps qs h t ih=>
  rw [List.map_cons,List.map_cons];refine .cons ?_ ih;obtain ⟨h1,h2⟩:=h
  by_cases e:p.1=k
  . rw [if_pos e,if_pos (h1.symm.trans e)];exact ⟨h1,ry⟩
  . rw [if_neg e,if_neg (fun z=>e (h1.trans z))];exact ⟨h1,h2⟩
theorem KV.put{kvs:List (κ×V)}{vs:List (κ×Value)}(r:KV kvs vs)(k:κ){y:V}{u:Value}(ry:RelV y u):KV (putK kvs k y) (stored vs k u):=by
 unfold putK stored;rw [r.any k]
 by_cases e:(vs.any fun kv=>decide (kv.1=k))=true
 . rw [if_pos e,if_pos e];exact r.repl k ry
 . rw [if_neg e,if_neg e];exact Paired.snoc r ⟨rfl,ry⟩
theorem KV.length{kvs:List (κ×V)}{vs:List (κ×Value)}(r:KV kvs vs):kvs.length=vs.length:=Paired.length r
end
theorem kV_is{P:Program}{w:World}{k:Key}{u:Value}(r:RelV (kV k) u):(mixKind P w).is k u=true:=by
 cases k with
 | inl i=>obtain ⟨t,e⟩:=(show ∃t,u=Value.int i t from r);subst e;exact mixKind_int P w i t
 | inr x=>obtain ⟨t,e⟩:=(show ∃t,u=Value.str x t from r);subst e;exact mixKind_str P w x t
theorem items_are{P:Program}{w:World}:∀ {ks:List Key} {us:List Value},Vals (ks.map kV) us->ItemsAre (mixKind P w) ks us
 | [],_,r=>by rw [List.map_nil] at r;cases r;exact .nil
 | k::ks,_,r=>by
  rw [List.map_cons] at r
  cases r with
  | cons h t=>exact .cons (kV_is h) (items_are t)
abbrev KT (H:Hp):List (List Key×V)->List (List Key×Addr×Value)->Prop:=Paired fun p q=>p.1=q.1/\H q.2.1=some (.tup (p.1.map kV))/\RelV p.2 q.2.2
theorem KT.val{H:Hp}{kvs:List (List Key×V)}{xs:List (List Key×Addr×Value)}(r:KT H kvs xs)(k:List Key):RelO (valV kvs k) ((atKey xs k).map (·.2)):=by
 induction r with
 | nil=>exact True.intro
 | @cons p q ps qs h t ih=>
  obtain ⟨h1,_,h2⟩:=h
  by_cases e:p.1=k
  . have e':q.1=k:=h1.symm.trans e;have b:atKey (q::qs) k=some q.2:=by simp [atKey,List.find?_cons,e']
    rw [valV_pos e,b];exact h2
  . have e':¬q.1=k:=fun z=>e (h1.trans z);have b:atKey (q::qs) k=atKey qs k:=by simp [atKey,List.find?_cons,e']
    rw [valV_neg e,b];exact ih
theorem KT.repl {H : Hp} {kvs : List (List Key × V)} {xs : List (List Key × Addr × Value)} (r : KT H kvs xs) (k : List Key) {y : V} {u : Value} (ry : RelV y u) :
 KT H (kvs.map fun kv=>if kv.1=k then (kv.1,y) else kv) (xs.map (putAt k u)):=by
 induction r with
 | nil=>exact .nil
 | @cons p q ps qs h t ih=>
  rw [List.map_cons,List.map_cons];refine .cons ?_ ih;obtain ⟨h1,h2,h3⟩:=h;unfold putAt
  by_cases e:p.1=k
  . rw [if_pos e,if_pos (h1.symm.trans e)];exact ⟨h1,h2,ry⟩
  . rw [if_neg e,if_neg (fun z=>e (h1.trans z))];exact ⟨h1,h2,h3⟩
theorem KT.put {H : Hp} {kvs : List (List Key × V)} {xs : List (List Key × Addr × Value)} (r : KT H kvs xs) (k : List Key) {b : Addr} {y : V} {u : Value} (hb : H b = some (.tup (k.map kV))) (ry : RelV y u) :
 KT H (putK kvs k y) (storedH xs k b u):=by
 have e:(kvs.any fun kv=>decide (kv.1=k))=(atKey xs k).isSome:=by
  rw [valV_any,(r.val k).isSome_eq,Option.isSome_map]
 unfold putK storedH;rw [e]
 by_cases q:(atKey xs k).isSome=true
 . rw [if_pos q,if_pos q];exact r.repl k ry
 . rw [if_neg q,if_neg q];exact Paired.snoc r ⟨rfl,hb,ry⟩
theorem KT.keeps{H H':Hp}{kvs:List (List Key×V)}{xs:List (List Key×Addr×Value)}(r:KT H kvs xs)(ht:∀b ys,H b=some (.tup ys)->H' b=some (.tup ys)):KT H' kvs xs:=
 Paired.mapP r fun _ _ z=>⟨z.1,ht _ _ z.2.1,z.2.2⟩
section
variable {P:Program} {w:World} {H:Hp} {h:Heap} {a:Addr}
theorem rd_of{u:HO}(ok:HOk P w H h)(e:Rd H a u):ObjOk P w H h a u:=e.ok ok
theorem dk_rd{kvs:List (Key×V)}(ok:HOk P w H h)(e:Rd H a (.dK kvs)):kvs.length<=sizeLine/\(a==sysModules)=false/\∃vs,KV kvs vs/\h.DictOf (mixKind P w) a vs:=
 show ObjOk P w H h a (.dK kvs) from rd_of ok e
theorem dk_of{kvs:List (Key×V)}(ok:HOk P w H h)(e:H a=some (.dK kvs)):kvs.length<=sizeLine/\(a==sysModules)=false/\∃vs,KV kvs vs/\h.DictOf (mixKind P w) a vs:=dk_rd ok (.inl e)
theorem key_of{ks:List Key}(ok:HOk P w H h)(e:H a=some (.tup (ks.map kV))):(tupleKind (mixKind P w)).is h ks a:=by
 obtain ⟨_,its,r,o,h1,h2,n,h3⟩:=(show ObjOk P w H h a (.tup (ks.map kV)) from ok a _ e);exact ⟨o,its.toArray,n,h1,h2,h3,by simpa using items_are r⟩
theorem dt_rd {kvs : List (List Key × V)} (ok : HOk P w H h) (e : Rd H a (.dT kvs)) : kvs.length <= sizeLine /\ (a == sysModules) = false /\
 ∃xs,KT H kvs xs/\h.DictOfH (tupleKind (mixKind P w)) a xs:=by
 obtain ⟨z,y,xs,r,o,es,ep,h1,h2,h3,h4,h5⟩:=(show ObjOk P w H h a (.dT kvs) from rd_of ok e);refine ⟨z,y,xs,r,o,es,ep,h1,h2,h3,h4,fun x hx=> ?_,h5⟩
 have all:∀ {l:List (List Key×V)} {m:List (List Key×Addr×Value)},KT H l m->∀x ∈ m,(tupleKind (mixKind P w)).is h x.1 x.2.1:=by
  intro l m q
  induction q with
  | nil=>intro x hx;exact nomatch hx
  | @cons p q ps qs hq t ih=>
   intro x hx;rcases List.mem_cons.mp hx with e | hx
   . subst e;exact key_of ok (by rw [<-hq.1];exact hq.2.1)
   . exact ih x hx
 exact all r x hx
theorem dt_of {kvs : List (List Key × V)} (ok : HOk P w H h) (e : H a = some (.dT kvs)) : kvs.length <= sizeLine /\ (a == sysModules) = false /\
 ∃xs,KT H kvs xs/\h.DictOfH (tupleKind (mixKind P w)) a xs:=dt_rd ok (.inl e)
end
def DGet(H:Hp)(a:Addr)(y:V)(r:Option V):Prop:=
 (∃kvs k,Rd H a (.dK kvs)/\y=kV k/\r=valV kvs k)\/∃kvs k b,Rd H a (.dT kvs)/\y = .ref b/\H b=some (.tup (k.map kV))/\r=valV kvs k
def DPut(H:Hp)(a:Addr)(y v:V)(H':Hp):Prop:=
 (∃kvs k,H a=some (.dK kvs)/\y=kV k/\kvs.length<sizeLine/\H'=upd H a (.dK (putK kvs k v))) \/
 ∃kvs k b,H a=some (.dT kvs)/\y = .ref b/\H b=some (.tup (k.map kV))/\kvs.length<sizeLine/\H'=upd H a (.dT (putK kvs k v))
theorem DGet.k{H:Hp}{a:Addr}{kvs:List (Key×V)}{k:Key}(e:H a=some (.dK kvs)):DGet H a (kV k) (valV kvs k):= .inl ⟨kvs,k, .inl e,rfl,rfl⟩
theorem DGet.t{H:Hp}{a b:Addr}{kvs:List (List Key×V)}{k:List Key}(e:H a=some (.dT kvs))(eb:H b=some (.tup (k.map kV))):DGet H a (.ref b) (valV kvs k):= .inr ⟨kvs,k,b, .inl e,rfl,eb,rfl⟩
theorem DPut.k{H:Hp}{a:Addr}{kvs:List (Key×V)}{k:Key}{v:V}(e:H a=some (.dK kvs))(hl:kvs.length<sizeLine):DPut H a (kV k) v (upd H a (.dK (putK kvs k v))):= .inl ⟨kvs,k,e,rfl,hl,rfl⟩
theorem DPut.t {H : Hp} {a b : Addr} {kvs : List (List Key × V)} {k : List Key} {v : V} (e : H a = some (.dT kvs)) (eb : H b = some (.tup (k.map kV))) (hl : kvs.length < sizeLine) :
 DPut H a (.ref b) v (upd H a (.dT (putK kvs k v))):= .inr ⟨kvs,k,b,e,rfl,eb,hl,rfl⟩
section
variable {X:Cx} {pins:List (Addr×Obj)} {σ:St} {H:Hp} {s:Shared} {a:Addr} {y v:V} {u r:Value} {o:Option V} {A:Around} {E:Value->Shared->Prop}
theorem Inv.big(I:Inv X pins σ H s):sysModules<s.heap.objs.size:=by
 have h:mainGlobals<s.heap.objs.size:=(I.mod.glob.keeps I.bk).lt;exact Nat.lt_trans (by decide) h
theorem d_getItem {Q : Value -> Shared -> Prop} (hu : A.units + 1 < cLine) (I : Inv X pins σ H s) (g : DGet H a y (some v)) (ry : RelV y u) (h : ∀ w' s', Inv X pins σ H s' -> RelV v w' -> Q w' s') :
 wpAny (model X.prog X.w) A (getItem (.ref a) u) Q E s:=by
 rcases g with ⟨kvs,k,e,ey,l⟩ | ⟨kvs,k,b,e,ey,eb,l⟩
 . subst ey;obtain ⟨z,hd,vs,rel,dd⟩:=dk_rd I.hok e;obtain ⟨w',hw,rw'⟩:=RelO.some_of (v:=v) (o:=valueAt vs k) (by rw [l];exact rel.val k);exact wpAny_getItem_of (kV_is ry) dd.mapOf hw (h w' _ (I.tok _) rw')
 . subst ey
   cases (show u=Value.ref b from ry)
   obtain ⟨z,hd,xs,rel,dd⟩:=dt_rd I.hok e;obtain ⟨w',hw,rw'⟩:=RelO.some_of (v:=v) (o:=(atKey xs k).map (·.2)) (by rw [l];exact rel.val k);obtain ⟨p,hp,hp2⟩:=Option.map_eq_some_iff.mp hw;refine wpAny_getItem_heap (tupleKind_room_in1 hu) (key_of I.hok eb) dd hp ?_;rw [hp2];exact h w' _ (I.tok _) rw'
theorem d_in {Q : Value -> Shared -> Prop} (hu : A.units + 1 < cLine) (I : Inv X pins σ H s) (g : DGet H a y o) (ry : RelV y u) (h : ∀ s', Inv X pins σ H s' -> Q (.bool o.isSome) s') :
 wpAny (model X.prog X.w) A (compareOp .In u (.ref a)) Q E s:=by
 rcases g with ⟨kvs,k,e,ey,l⟩ | ⟨kvs,k,b,e,ey,eb,l⟩
 . subst ey;obtain ⟨z,hd,vs,rel,dd⟩:=dk_rd I.hok e;refine wpAny_in_of (kV_is ry) hd dd.mapOf ?_;rw [<-(rel.val k).isSome_eq, <-l];exact h _ (I.tok _)
 . subst ey
   cases (show u=Value.ref b from ry)
   obtain ⟨z,hd,xs,rel,dd⟩:=dt_rd I.hok e;refine wpAny_in_heap (tupleKind_room_in1 hu) (key_of I.hok eb) hd dd ?_;have q:=(rel.val k).isSome_eq;rw [Option.isSome_map] at q
   rw [<-q, <-l];exact h _ (I.tok _)
theorem d_write {h' : Heap} {t' : Nat} {ob : HO} (I : Inv X pins σ H s) (mu : Mut (H a)) (hs : Heap.SameBut a s.heap h') (he : ∃ q, h'.get? a = some q) (new : ObjOk X.prog X.w (upd H a ob) h' a ob) :
 Inv X pins σ (upd H a ob) {s with heap:=h',toks:=t' } :=
 I.write (x:=a) (e:=a) mu (.inl rfl) (fun b q hb z=>(hs.2 b hb).trans z) he new
theorem dk_new {P : Program} {w : World} {H' : Hp} {h' : Heap} {kvs : List (Key × V)} {vs : List (Key × Value)} (z : kvs.length <= sizeLine) (hd : (a == sysModules) = false) (rel : KV kvs vs) (dd : h'.DictOf (mixKind P w) a vs) :
 ObjOk P w H' h' a (.dK kvs):=⟨z,hd,vs,rel,dd⟩
theorem d_setItem {H' : Hp} {Q : Unit -> Shared -> Prop} (hu : A.units + 1 < cLine) (I : Inv X pins σ H s) (g : DPut H a y v H') (ry : RelV y u) (rv : RelV v r) (h : ∀ s', Inv X pins σ H' s' -> Q () s') :
 wpAny (model X.prog X.w) A (setItem (.ref a) u r) Q E s:=by
 rcases g with ⟨kvs,k,e,ey,l,eH⟩ | ⟨kvs,k,b,e,ey,eb,l,eH⟩
 . subst ey eH;obtain ⟨z,hd,vs,rel,dd⟩:=dk_of I.hok e;have hz:vs.length<=sizeLine:=by rw [<-rel.length];exact z
   have hl:(putK kvs k v).length<=sizeLine:=by have:=length_putK kvs k v;omega
   refine wpAny_setItem_pairs (hsz:=hz) (kV_is ry) dd fun h' dd' hs=>h _ ?_;have he:∃q,h'.get? a=some q:=let ⟨q,_,_,hq,_⟩:=dd';⟨q,hq⟩;exact d_write I (by rw [e];exact True.intro) hs he (dk_new hl hd (rel.put k rv) dd')
 . subst ey eH
   cases (show u=Value.ref b from ry)
   obtain ⟨z,hd,xs,rel,dd⟩:=dt_of I.hok e;have hz:xs.length<=sizeLine:=by rw [<-Paired.length rel];exact z
   have hl:(putK kvs k v).length<=sizeLine:=by have:=length_putK kvs k v;omega
   refine wpAny_setItem_heap (hsz:=hz) (tupleKind_room_in1 hu) (key_of I.hok eb) dd fun h' dd' hs=>h _ ?_;obtain ⟨q,es,ep,hq,h2,h3,h4,_,h5⟩:=dd';refine d_write I (by rw [e];exact True.intro) hs ⟨q,hq⟩ ⟨hl,hd,_,(rel.put k eb rv).keeps fun c ys ec=> ?_,q,es,ep,hq,h2,h3,h4,h5⟩;rw [upd_ne (ne_of ec e (fun z=>nomatch z))];exact ec
end
section
variable {X:Cx} {pins:List (Addr×Obj)} {σ:St} {H:Hp} {s:Shared} {a:Addr} {kvs:List (Key×V)} {k:Key} {u:Value} {A:Around} {E:Value->Shared->Prop}
end
def NoSl(i:Expr):Prop:=∀ov iv,subscripted i false ov iv=operate [ov,iv] (getItem ov iv)
theorem subD_of {prog : Program} {w : World} {A : Around} {E : Value -> Shared -> Prop} {s : Shared} {env : Env} {value slice : Expr} {pos : Pos} {T id : String} {Q : Value -> Shared -> Prop}
 (hl:typeLookup (.type T) "__getitem__" = pure (some (.builtin id))) (hs:NoSl slice)
 (h:wpAny (model prog w) A (eval value env) (fun o s₁=>wpAny (model prog w) A (eval slice env) (fun i s₂=>s₂.TypeIs o T/\wpAny (model prog w) A (getItem o i) Q E s₂) E s₁) E s) :
 wpAny (model prog w) A (eval (.Subscript value slice pos) env) Q E s:=by
 refine Subscript_ (wpAny_mono h (fun o s₁ h₁=>wpAny_mono h₁ (fun i s₂ h₂=> ?_) fun _ _ x=>x) fun _ _ x=>x);obtain ⟨hT,h₂⟩:=h₂;unfold subscriptTail;refine wpAny_bind ?_;rw [getitemInPython_of_ne hT.not_modules];refine wpAny_bind (wpAny_specialOf hT hl ?_)
 have fin:wpAny (model prog w) A (subscripted slice false o i) (fun r s₃=>wpAny (model prog w) A (letTemporaryGo value o r >>= fun _=>pure r) Q E s₃) E s₂:=by
  rw [hs o i];exact wpAny_operating (wpAny_mono h₂ (fun r s₃ h₃=>wpAny_bind (wpAny_letTemporaryGo (wpAny_pure h₃))) fun _ _ x=>x)
 first
  | exact wpAny_pure (wpAny_bind fin)
  | exact wpAny_bind (wpAny_pure (wpAny_bind fin))
  | exact wpAny_bind fin
theorem dict_typeIs{X:Cx}{pins:List (Addr×Obj)}{σ:St}{H:Hp}{s:Shared}{a:Addr}{y:V}{o:Option V}(I:Inv X pins σ H s)(g:DGet H a y o):s.TypeIs (.ref a) "dict" :=by
 rcases g with ⟨kvs,k,e,_,_⟩ | ⟨kvs,k,b,e,_,_,_⟩
 . obtain ⟨_,_,vs,_,dd⟩:=dk_rd I.hok e;exact dd.typeIs
 . obtain ⟨_,_,xs,_,dd⟩:=dt_rd I.hok e;exact dd.typeIs
def tDGet(td ty:TE):TE:=fun σ H Q=>td σ H fun x H1=>ty σ H1 fun y H2=>∃a v,x = .ref a/\DGet H2 a y (some v)/\Q v H2
def tDIn(ty td:TE):TE:=fun σ H Q=>ty σ H fun y H1=>td σ H1 fun x H2=>∃a o,x = .ref a/\DGet H2 a y o/\Q (.bl o.isSome) H2
def sDPut(td ty tv:TE):TS:=fun D σ H=>tv σ H fun v H1=>td σ H1 fun x H2=>ty σ H2 fun y H3=>∃a H4,x = .ref a/\DPut H3 a y v H4/\D.nx σ H4
section
variable {X:Cx} {o i e value:Expr} {pos pos' tpos:Pos} {td ty tv:TE}
theorem pe_dget(hu:X.A.units+1<cLine)(ho:PE X o td)(hi:PE X i ty)(hs:NoSl i):PE X (.Subscript o i pos) (tDGet td ty):=by
 intro pins s σ H Q I h;refine subD_of PySem.F.slot_dict_getitem.lookup hs (thn (ho pins s σ H _ I h) fun u s1 ⟨x,H1,I1,rx,q1⟩=>thn (hi pins s1 σ H1 _ I1 q1) fun iv s2 ⟨y,H2,I2,ry,a,v,ex,g,q2⟩ => ?_);subst ex;obtain rfl:u=Value.ref a:=rx;exact ⟨dict_typeIs I2 g,d_getItem hu I2 g ry fun w' s3 I3 rw'=>⟨v,H2,I3,rw',q2⟩⟩
theorem pc_din(hu:X.A.units+1<cLine)(hi:PE X i ty)(ho:PE X o td):PC X .In i o (tDIn ty td):=by
 intro pins s σ H Q I h;refine thn (hi pins s σ H _ I h) fun iv s1 ⟨y,H1,I1,ry,q1⟩=>thn (ho pins s1 σ H1 _ I1 q1) fun u s2 ⟨x,H2,I2,rx,a,ov,ex,g,q2⟩ => ?_;subst ex;obtain rfl:u=Value.ref a:=rx;exact d_in hu I2 g ry fun s3 I3=>⟨.bl ov.isSome,H2,I3,rfl,q2⟩
theorem ps_dput (hu : X.A.units + 1 < cLine) (ho : PE X o td) (hi : PE X i ty) (hv : PE X value tv) (hs : swapsWith value (some (.Subscript o i pos')) pos.line X.env = pure false) :
 PS X (.Assign [.Subscript o i pos'] value pos) (sDPut td ty tv):=by
 intro pins s σ H D I h;refine wpAny_Assign_Subscript (thn (hv pins s σ H _ I h) fun r s1 ⟨v,H1,I1,rv,q1⟩=>thn (ho pins s1 σ H1 _ I1 q1) fun u s2 ⟨x,H2,I2,rx,q2⟩=>thn (hi pins s2 σ H2 _ I2 q2) fun iv s3 ⟨y,H3,I3,ry,a,H4,ex,g,q3⟩ => ?_) hs;subst ex;obtain rfl:u=Value.ref a:=rx;exact d_setItem hu I3 g ry rv fun s4 I4=>⟨σ,H4,I4,q3⟩
end
theorem dt_empty{P:Program}{w:World}{H:Hp}(h:Heap)(hb:sysModules<h.objs.size):ObjOk P w H (h.push {cls:= .type "dict",data:= .dict #[]}) h.objs.size (.dT []) :=
 ⟨Nat.zero_le _,beq_eq_false_iff_ne.mpr (Ne.symm (Nat.ne_of_lt hb)),[], .nil,_, #[],0,Heap.get?_push_size _ rfl,⟨rfl,rfl,rfl⟩,rfl,rfl,List.nodup_nil⟩
def tDNewT:TE:=fun _ H Q=>∀p,H p=none->Q (.ref p) (upd H p (.dT []))
section
variable {X:Cx} {pos:Pos}
theorem pe_dnewT:PE X (.Dict [] [] pos) tDNewT:=fun pins s σ H Q I h=>
 wpAny_Dict_empty ⟨.ref s.heap.objs.size,_,I.laid (a:=s.heap.objs.size) (o:= .dT []) (t':=s.toks) (fun _ _ q=>Heap.get?_push_of_some _ q) (Nat.le_refl _) (dt_empty s.heap I.big),rfl,h _ (I.hok.fresh (Nat.le_refl _))⟩
end
structure M1 (X:Cx) (o:Expr) (m:Str) (apos:Pos) (e:Expr) (cpos:Pos):Prop where
 base:attributeBase o m X.env (eval o X.env)=eval o X.env
 few:((backTo cpos (starEach [e] X.env)).all (fun x=> !x.1) && (backToKw cpos (keywordEach [] X.env)).all (fun x=>x.1.isSome)
  && decide (([e]:List Expr).length+([]:List Keyword).length+(if ([]:List Keyword).isEmpty then 0 else 1)<30))=true
 line:(apos.endLine==cpos.line)=true
 trees:backTo cpos (starEach [e] X.env) = [(false,eval e X.env)]
structure M2 (X:Cx) (o:Expr) (m:Str) (apos:Pos) (e f:Expr) (cpos:Pos):Prop where
 base:attributeBase o m X.env (eval o X.env)=eval o X.env
 few:((backTo cpos (starEach [e,f] X.env)).all (fun x=> !x.1) && (backToKw cpos (keywordEach [] X.env)).all (fun x=>x.1.isSome)
  && decide (([e,f]:List Expr).length+([]:List Keyword).length+(if ([]:List Keyword).isEmpty then 0 else 1)<30))=true
 line:(apos.endLine==cpos.line)=true
 trees:backTo cpos (starEach [e,f] X.env) = [(false,eval e X.env),(false,eval f X.env)]
def IsD(H:Hp)(a:Addr):Prop:=(∃kvs,Rd H a (.dK kvs))\/∃kvs,Rd H a (.dT kvs)
theorem isD_at {X : Cx} {pins : List (Addr × Obj)} {σ : St} {H : Hp} {s : Shared} {a : Addr} (I : Inv X pins σ H s) (d : IsD H a) :
 s.TypeIs (.ref a) "dict" /\ (∀b,Value.ref a = .ref b->∃ob,s.heap.get? b=some ob/\ob.dict=none)/\(a==sysModules)=false:=by
 rcases d with ⟨kvs,e⟩ | ⟨kvs,e⟩
 . obtain ⟨_,hd,vs,_,dd⟩:=dk_rd I.hok e;refine ⟨dd.typeIs,fun b q=> ?_,hd⟩
   cases q
   obtain ⟨ob,_,_,h1,h2,_⟩:=dd;exact ⟨ob,h1,h2.2.1⟩
 . obtain ⟨_,hd,xs,_,dd⟩:=dt_rd I.hok e;refine ⟨dd.typeIs,fun b q=> ?_,hd⟩
   cases q
   obtain ⟨ob,_,_,h1,h2,_⟩:=dd;exact ⟨ob,h1,h2.2.1⟩
section
variable {X:Cx} {pins:List (Addr×Obj)} {σ:St} {H:Hp} {s:Shared} {a:Addr} {y d:V} {u r:Value} {o:Option V} {A:Around} {E:Value->Shared->Prop}
end
section
variable {X:Cx} {o e f:Expr} {apos cpos:Pos} {td ty tx:TE}
end
section
variable {X:Cx} {pins:List (Addr×Obj)} {σ:St} {H:Hp} {s:Shared} {a:Addr} {kvs:List (Key×V)} {A:Around} {E:Value->Shared->Prop}
end
section
variable {X:Cx} {pins:List (Addr×Obj)} {σ:St} {H:Hp} {s:Shared} {a:Addr} {y:V} {u:Value} {A:Around} {E:Value->Shared->Prop}
end
section
variable {κ:Type} [DecidableEq κ]
end
end L2
namespace Tf
open PySem PySem.Spec PyProof.Rows L2
theorem bt_isinstance:bootBuiltins "isinstance" = some (.builtin "isinstance"):=by decide +kernel
theorem bt_len:bootBuiltins "len" = some (.builtin "len"):=by decide +kernel
theorem bt_sorted:bootBuiltins "sorted" = some (.builtin "sorted"):=by decide +kernel
theorem bt_all:bootBuiltins "all" = some (.builtin "all"):=by decide +kernel
theorem bt_any:bootBuiltins "any" = some (.builtin "any"):=by decide +kernel
theorem bt_int:bootBuiltins "int" = some (.type "int"):=by decide +kernel
theorem bt_bool:bootBuiltins "bool" = some (.type "bool"):=by decide +kernel
theorem bt_list:bootBuiltins "list" = some (.type "list"):=by decide +kernel
theorem bt_tuple:bootBuiltins "tuple" = some (.type "tuple"):=by decide +kernel
theorem bt_range:bootBuiltins "range" = some (.type "range"):=by decide +kernel
theorem bt_reversed:bootBuiltins "reversed" = some (.type "reversed"):=by decide +kernel
def Bt(n:Nat)(i:Int):Prop:=i.natAbs<2 ^ n
theorem Bt.neg{n:Nat}{i:Int}(h:Bt n i):Bt n (-i):=by
 unfold Bt at *
 rw [Int.natAbs_neg];exact h
theorem Bt.natAbs{n:Nat}{i:Int}(h:Bt n i):Bt n (i.natAbs:Int):=by
 unfold Bt at *
 simpa using h
theorem Bt.of_le{n:Nat}{i j:Int}(h:Bt n j)(k:i.natAbs<=j.natAbs):Bt n i:=Nat.lt_of_le_of_lt k h
theorem Bt.fdiv{n:Nat}{i j:Int}(h:Bt n i):Bt n (i.fdiv j):=by
 refine h.of_le ?_
 by_cases hj:j=0
 . subst hj;simp
 . have key : ∀ (a b : Int), 0 < b -> (a.fdiv b).natAbs <= a.natAbs := by
    intro a b hb;rw [Int.fdiv_eq_ediv_of_nonneg a (Int.le_of_lt hb)];exact Int.natAbs_ediv_le_natAbs a b
   rcases (by omega:0<j\/j<0) with p | p
   . exact key i j p
   . have:=key (-i) (-j) (by omega);rw [Int.neg_fdiv_neg] at this
     simpa using this
theorem Bt.fmod{n:Nat}{i j:Int}(hj:j≠0)(h:Bt n j):Bt n (i.fmod j):=by
 refine h.of_le ?_;rcases (by omega:0<j\/j<0) with p | p
 . have h1:=Int.fmod_nonneg_of_pos i p;have h2:=Int.fmod_lt_of_pos i p;omega
 . have e : i.fmod j = -((-i).fmod (-j)) := by
    rw [Int.fmod_def,Int.fmod_def,Int.neg_fdiv_neg];simp [Int.neg_mul];omega
   have h1:=Int.fmod_nonneg_of_pos (-i) (show 0 < -j by omega);have h2:=Int.fmod_lt_of_pos (-i) (show 0 < -j by omega);omega
theorem Bt.zero(n:Nat):Bt n 0:=by
 unfold Bt;simpa using Nat.pow_pos (by decide)
theorem Bt.one{n:Nat}(h:0<n):Bt n 1:=by
 unfold Bt;show 1<2 ^ n;exact Nat.one_lt_pow (by omega) (by decide)
theorem Bt.bits{n:Nat}{i:Int}(h:Bt n i):Builtin.Int.intBits i<=n:=by
 unfold Builtin.Int.intBits
 split
 . exact Nat.zero_le _
 . rename_i hz
   have h0:i.natAbs≠0:=by
    intro e;apply hz;have:i=0:=by omega
    subst this;rfl
   exact (Nat.log2_lt h0).mpr h
theorem Bt.log{n:Nat}{i:Int}(h:Bt n i)(hn:0<n):i.natAbs.log2<n:=by
 by_cases h0:i.natAbs=0
 . rw [h0];simpa using hn
 . exact (Nat.log2_lt h0).mpr h
theorem mulOk{n m:Nat}{i j:Int}(h:Bt n i)(k:Bt m j)(hn:n+m<=134217728):IntMulOk i j:=by
 unfold IntMulOk;have hb1:=h.bits;have hb2:=k.bits
 have:Builtin.Int.intTooBig (Builtin.Int.intBits i+Builtin.Int.intBits j)=false:=by
  unfold Builtin.Int.intTooBig;apply decide_eq_false;unfold bitsLine;have:(2:Nat) ^ 27=134217728:=by decide
  rw [this];omega
 rw [this];simp
def CMulB(i j:Int):Prop:=∃n m,Bt n i/\Bt m j/\n+m<=134217728
def CDivB(_i j:Int):Prop:=j≠0/\Bt 9000 j
section
variable {X:Cx}
theorem op_fdivB:OpR X (binaryOp .FloorDiv) (rI CDivB fun i j=> .int (i.fdiv j)):=opI fun _ _ _ _ _ _ _ hc q=>floordiv_int hc.1 q (.inl (PyProof.noPylong_of_log2 (hc.2.log (by decide))))
theorem Bt.lit{n:Nat}{i:Int}(h:decide (i.natAbs<2 ^ n)=true):Bt n i:=(of_decide_eq_true h:i.natAbs<2 ^ n)
theorem pe_ty {x:Str} {T:String} {pos:Pos} (hg:Gl X x) (hm:X.mg x=none) (hv:bootBuiltins x=some (.type T)) (hn:x ≠ "__name__" :=by decide) (hd:(x==("__debug__" : Str))=false:=by decide):PE X (.Name x pos) (tC (.ty T)) :=
 pe_bltn hg hm hv rfl hn hd
inductive TyV (K:PySem.W.Frag) (H:Hp):V->String->Prop where
 | non:TyV K H .non "NoneType"
 | bl (x:Bool):TyV K H (.bl x) "bool"
 | int (i:Int):TyV K H (.int i) "int"
 | str (x:Str):TyV K H (.str x) "str"
 | lst {a:Addr} {xs:List V} (e:SqL K H a xs):TyV K H (.ref a) "list"
 | tup {a:Addr} {xs:List V} (e:SqT K H a xs):TyV K H (.ref a) "tuple"
theorem isinst_ty {pins : List (Addr × Obj)} {σ : L2.St} {H : Hp} {s : Shared} {A : Around} {E : Value -> Shared -> Prop} {Q : Value -> Shared -> Prop} {c : Value} {b : Bool} {x : V} {u : Value} {t : String} (I : Inv X pins σ H s) (rx : RelV x u) (ty : TyV X.K H x t) (e : PySem.W.kitOne X.K (.type t) c = some b) (h : ∀ tk, Q (.bool b) { s with toks := tk }) :
 wpAny (model X.prog X.w) A (call (.builtin "isinstance") [u,c]) Q E s:=by
 cases ty with
 | non=>cases (show u=Value.none from rx);exact PySem.W.kia_one PySem.W.kitx_none I.kIn True.intro e (fun z=>nomatch z) h
 | bl y=>cases (show u=Value.bool y from rx);exact PySem.W.kia_one PySem.W.kitx_bool I.kIn True.intro e (fun z=>nomatch z) h
 | int i=>obtain ⟨t,q⟩:=(show ∃t,u=Value.int i t from rx);cases q;exact PySem.W.kia_one PySem.W.kitx_int I.kIn True.intro e (fun z=>nomatch z) h
 | str y=>obtain ⟨t,q⟩:=(show ∃t,u=Value.str y t from rx);cases q;exact PySem.W.kia_one PySem.W.kitx_str I.kIn True.intro e (fun z=>nomatch z) h
 | @lst a xs ea=>
  cases (show u=Value.ref a from rx)
  obtain ⟨its,_,⟨o,n,h1,h2,_⟩,_⟩:=I.list ea
  exact PySem.W.kia_one PySem.W.kitx_list I.kIn ⟨o,h1,h2⟩ e (fun z=>nomatch z) h
 | @tup a xs ea=>
  cases (show u=Value.ref a from rx)
  obtain ⟨its,_,⟨o,h1,h2,_⟩,_⟩:=I.tuple ea;exact PySem.W.kia_one PySem.W.kitx_tuple I.kIn ⟨o,h1,h2⟩ e (fun z=>nomatch z) h
def rIsI(K:PySem.W.Frag):List V->Hp->VK->Prop:=fun xs H Q=>∃x n t b,xs = [x, .ty n]/\TyV K H x t/\PySem.W.kitOne K (.type t) (.type n)=some b/\Q (.bl b) H
theorem call_isi:CallR X (.builtin "isinstance") (rIsI X.K):=by
 intro pins s σ H xs us Q I r h;obtain ⟨x,n,t,b,rfl,ty,e,q⟩:=h;obtain ⟨u,w',rfl,rx,rn⟩:=vals2 r
 cases (show w'=Value.type n from rn)
 exact isinst_ty I rx ty e fun tk=>⟨.bl b,H,I.tok _,rfl,q⟩
def keyD:Key->PyData
 | .inl i=> .int i
 | .inr x=> .str x
def tupD(k:List Key):PyData:= .tuple (k.map keyD)
def mkD:PyData×PyData:=(.none, .none)
mutual
inductive Rep (K:PySem.W.Frag) (H:Hp):V->PyData->Prop
 | none:Rep K H .non .none
 | bool (b:Bool):Rep K H (.bl b) (.bool b)
 | int (i:Int):Rep K H (.int i) (.int i)
 | str (x:Str):Rep K H (.str x) (.str x)
 | list {a:Addr} {xs:List V} {ds:List PyData}:SqL K H a xs->Reps K H xs ds->Rep K H (.ref a) (.list ds)
 | tuple {a:Addr} {xs:List V} {ds:List PyData}:H a=some (.tup xs)->Reps K H xs ds->Rep K H (.ref a) (.tuple ds)
 | dict {a:Addr} {ks:List (List Key)} {xs:List V} {ds:List PyData}:Rd H a (.dT (ks.zip xs))->ks.length=xs.length->Reps K H xs ds->Rep K H (.ref a) (.dict ((ks.map tupD).zip ds))
 | dictF {a:Addr} {o:Obj} {ks:List (List Key)} {xs:List V} {ds:List PyData}:H a=some (.frz o (.dT (ks.zip xs)))->ks.length=xs.length->Reps K H xs ds->Rep K H (.ref a) (.dict (mkD::(ks.map tupD).zip ds))
inductive Reps (K:PySem.W.Frag) (H:Hp):List V->List PyData->Prop
 | nil:Reps K H [] []
 | cons {v:V} {vs:List V} {d:PyData} {ds:List PyData}:Rep K H v d->Reps K H vs ds->Reps K H (v::vs) (d::ds)
end
theorem Reps.length{K:PySem.W.Frag}{H:Hp}:∀ {vs:List V} {ds:List PyData},Reps K H vs ds->vs.length=ds.length
 | _,_, .nil=>rfl
 | _,_, .cons _ t=>by rw [List.length_cons,List.length_cons,Reps.length t]
mutual
theorem Rep.reads{pins:List (Addr×Obj)}{σ:L2.St}{H:Hp}{s:Shared}(I:Inv X pins σ H s):∀ {v:V} {d:PyData} {u:Value},Rep X.K H v d->RelV v u->d.canLay0=true->∃as,Reads s.heap u d as
 | _,_,_, .none,r,_=>by cases (show _=Value.none from r);exact ⟨_, .none⟩
 | _,_,_, .bool b,r,_=>by cases (show _=Value.bool b from r);exact ⟨_, .bool b⟩
 | _,_,_, .int i,r,_=>by obtain ⟨t,q⟩:=(show ∃t,_=Value.int i t from r);cases q;exact ⟨_, .int i t⟩
 | _,_,_, .str x,r,_=>by obtain ⟨t,q⟩:=(show ∃t,_=Value.str x t from r);cases q;exact ⟨_, .str x t⟩
 | _,_,_, .list (a:=a) h hs,r,c=>by
  cases (show _=Value.ref a from r)
  obtain ⟨its,rv,⟨o,n,h1,h2,_,h3⟩,_⟩:=I.list h;obtain ⟨as,ra⟩:=Reps.reads I hs rv (by simpa [PyData.canLay0] using c)
  exact ⟨_, .list h1 h2 h3 (by simpa using ra)⟩
 | _,_,_, .tuple (a:=a) h hs,r,c=>by
  cases (show _=Value.ref a from r)
  obtain ⟨its,rv,⟨o,h1,h2,n,h3⟩,_⟩:=I.tuple (SqT.of h);obtain ⟨as,ra⟩:=Reps.reads I hs rv (by simpa [PyData.canLay0] using c)
  exact ⟨_, .tuple h1 h2 h3 (by simpa using ra)⟩
 | _,_,_, .dict _ _ _,_,c=>by simp [PyData.canLay0] at c
 | _,_,_, .dictF _ _ _,_,c=>by simp [PyData.canLay0] at c
theorem Reps.reads{pins:List (Addr×Obj)}{σ:L2.St}{H:Hp}{s:Shared}(I:Inv X pins σ H s):∀ {vs:List V} {ds:List PyData} {us:List Value},Reps X.K H vs ds->Vals vs us->PyData.canLayAll0 ds=true->∃as,ReadsAll s.heap us ds as
 | _,_,_, .nil,r,_=>by cases r;exact ⟨_, .nil⟩
 | _,_,_, .cons h hs,r,c=>by
  have c:=Bool.and_eq_true_iff.mp (show (_ && _)=true by rw [<-PyData.canLayAll0];exact c)
  cases r with
  | cons r1 r2=>
   obtain ⟨as,q⟩:=Rep.reads I h r1 c.1;obtain ⟨bs,q2⟩:=Reps.reads I hs r2 c.2;exact ⟨_, .cons q q2⟩
end
theorem layAll_of:∀ {ds:List PyData},(∀d ∈ ds,d.canLay0=true)->PyData.canLayAll0 ds=true
 | [],_=>by simp [PyData.canLayAll0]
 | d::ds,h=>by
  simp only [PyData.canLayAll0,Bool.and_eq_true];exact ⟨h d List.mem_cons_self,layAll_of fun e he=>h e (List.mem_cons_of_mem _ he)⟩
def rEqD(K:PySem.W.Frag):R2:=fun x y H Q=>∃dx dy,Rep K H x dx/\Rep K H y dy/\dx.canLay0=true/\dy.canLay0=true/\min dx.depth dy.depth<=60/\Q (.bl (PyData.eqv dx dy)) H
def rNeD(K:PySem.W.Frag):R2:=fun x y H Q=>∃dx dy,Rep K H x dx/\Rep K H y dy/\dx.canLay0=true/\dy.canLay0=true/\min dx.depth dy.depth<=60/\Q (.bl (!PyData.eqv dx dy)) H
theorem op_eqD(hu:X.A.units+64<cLine):OpR X (compareOp .Eq) (rEqD X.K):=by
 intro pins s σ H x y v u Q I rx ry h;obtain ⟨dx,dy,h1,h2,c1,c2,hd,q⟩:=h;obtain ⟨as,r1⟩:=h1.reads I rx c1;obtain ⟨bs,r2⟩:=h2.reads I ry c2;exact SeqAt.compareEq_reads r1 r2 c1 c2 (by omega) ⟨.bl _,H,I,rfl,q⟩
theorem op_neD(hu:X.A.units+64<cLine):OpR X (compareOp .NotEq) (rNeD X.K):=by
 intro pins s σ H x y v u Q I rx ry h;obtain ⟨dx,dy,h1,h2,c1,c2,hd,q⟩:=h;obtain ⟨as,r1⟩:=h1.reads I rx c1;obtain ⟨bs,r2⟩:=h2.reads I ry c2;exact SeqAt.compareNe_reads r1 r2 c1 c2 (by omega) ⟨.bl _,H,I,rfl,q⟩
end
theorem _root_.L2.Same.upd{H:Hp}{p:Addr}(h:H p=none)(o:HO):Same H (L2.upd H p o):=fun b u q=>by rw [upd_ne (ne_of_none q h)];exact q
theorem _root_.L2.Same.seqT{K:PySem.W.Frag}{H H':Hp}{a:Addr}{xs:List V}(e:Same H H')(h:SqT K H a xs):SqT K H' a xs:=by
 rcases h with (h | ⟨o,h⟩) | h
 . exact .inl (.inl (e _ _ h))
 . exact .inl (.inr ⟨o,e _ _ h⟩)
 . exact .inr h
theorem Rd.same{H H':Hp}{a:Addr}{u:HO}(e:Same H H')(h:Rd H a u):Rd H' a u:=by
 rcases h with h | ⟨o,h⟩
 . exact .inl (e _ _ h)
 . exact .inr ⟨o,e _ _ h⟩
mutual
theorem Rep.same{K:PySem.W.Frag}{H H':Hp}(e:Same H H'):∀ {v:V} {d:PyData},Rep K H v d->Rep K H' v d
 | _,_, .none=> .none
 | _,_, .bool b=> .bool b
 | _,_, .int i=> .int i
 | _,_, .str x=> .str x
 | _,_, .list h hs=> .list (e.seq h) (Reps.same e hs)
 | _,_, .tuple h hs=> .tuple (e _ _ h) (Reps.same e hs)
 | _,_, .dict h hl hs=> .dict (Rd.same e h) hl (Reps.same e hs)
 | _,_, .dictF h hl hs=> .dictF (e _ _ h) hl (Reps.same e hs)
theorem Reps.same{K:PySem.W.Frag}{H H':Hp}(e:Same H H'):∀ {vs:List V} {ds:List PyData},Reps K H vs ds->Reps K H' vs ds
 | _,_, .nil=> .nil
 | _,_, .cons h hs=> .cons (Rep.same e h) (Reps.same e hs)
end
section
variable {CX:CXT} {P:Program} {w:World} {K:PySem.W.Frag} {mg:Str->Option Value} {base:Heap} {N:List Str} {qual:Str} {scope:Scope} {f:Addr} {cd:Value} {A:Around} {outer:List Env} {s:Shared} {H:Hp} {E:XK}
end
structure Def (P:Program) (w:World) (K:PySem.W.Frag) (mg:Str->Option Value) (base:Heap) (k:Nat) (x:Str) (ps:List Str) (sp:Sp):Prop where
 ex:∃f fd,FnOk P w K mg base CX0 k f fd ps sp/\mg x=some (.ref f)/\PySem.W.keepIn K (.ref f)=true/\Binds K fd ps []
section
variable {X:Cx} {k j:Nat} {x:Str} {ps:List Str} {sp:Sp} {p pos:Pos} {e:Expr} {es:List Expr} {t:TA}
theorem pe_callD (D : Def X.prog X.w X.K X.mg X.base j x ps sp) (hr : Room k X.A) (ha : PA X (e :: es) t) (hj : j <= k := by decide) (hg : Gl X x := by rfl)
 (hdb:(x==("__debug__" : Str))=false:=by decide) (he:starEach (e::es) X.env=(false,eval e X.env)::starEach es X.env:=by rfl) (hpl:(backTo pos (starEach es X.env)).any (·.1)=false:=by rfl) :
 PE X (.Call (.Name x p) (e::es) [] pos) (tCall sp [] E0 t):=by
 obtain ⟨f,fd,F,hm,hk,hb⟩:=D.ex;exact pe_call F (hr.mono hj) hg hm hk hb .nil pass0 ha hdb he hpl
end
end Tf
namespace Tf
open PySem PySem.Spec PyProof.Rows L2
def closL(cells:List (Str×Addr)):List (Str×NameKind)->List (Str×Addr)->List (Str×Addr)
 | [],acc=>acc
 | (n,k)::r,acc=>if k == .free then closL cells r ((n,(cells.lookup n).getD 0)::acc) else closL cells r acc
theorem closL_forIn {env : Env} : ∀ (names : List (Str × NameKind)) (acc : List (Str × Addr)), (∀ y ∈ names, y.2 = .free -> ∃ c, env.cells.lookup y.1 = some c) ->
 (forIn names acc fun (x:Str×NameKind) (r:List (Str×Addr))=>(match x with | (name,kind)=>if (kind==NameKind.free)=true then do let a <-cellOf env name;pure (ForInStep.yield ((name,a)::r)) else pure (ForInStep.yield r):Sem (ForInStep (List (Str×Addr)))))=pure (closL env.cells names acc)
 | [],acc,_=>by rw [List.forIn_nil];rfl
 | (n,k)::r,acc,h=>by
  have ih:=fun acc=>closL_forIn r acc fun y hy=>h y (List.mem_cons_of_mem _ hy);rw [List.forIn_cons];unfold closL
  by_cases hk:(k==NameKind.free)=true
  . obtain ⟨c,hc⟩:=h (n,k) List.mem_cons_self (by simpa using hk);have e:cellOf env n=pure c:=by unfold cellOf;rw [hc]
    simp only [hk,if_true,e];rw [hc];exact ih ((n,c)::acc)
  . simp only [hk,if_false];exact ih acc
theorem closureFor_eq{scope:Scope}{env:Env}(h:∀y ∈ scope.names,y.2 = .free->∃c,env.cells.lookup y.1=some c):closureFor scope env=pure (closL env.cells scope.names []):=by
 unfold closureFor;have:=closL_forIn (env:=env) scope.names [] h;simp only [bind_pure];exact this
theorem closL_of{cells:List (Str×Addr)}:∀ {names:List (Str×NameKind)} {acc:List (Str×Addr)} {x:Str} {c:Addr},(closL cells names acc).lookup x=some c->acc.lookup x=some c\/((x,NameKind.free) ∈ names/\c=(cells.lookup x).getD 0)
 | [],_,_,_,h=> .inl h
 | (n,k)::r,acc,x,c,h=>by
  unfold closL at h
  split at h
  . rename_i hk;rcases closL_of h with q | ⟨q,e⟩
    . rw [List.lookup_cons] at q
      cases hx:x==n with
      | true=>
       rw [hx] at q
       have e:=beq_iff_eq.mp hx;subst e;have hk':k = .free:=by simpa using hk
       subst hk'
       exact .inr ⟨List.mem_cons_self,(Option.some.inj q).symm⟩
      | false=>rw [hx] at q;exact .inl q
    . exact .inr ⟨List.mem_cons_of_mem _ q,e⟩
  . rcases closL_of h with q | ⟨q,e⟩
    . exact .inl q
    . exact .inr ⟨List.mem_cons_of_mem _ q,e⟩
theorem closL_acc{cells:List (Str×Addr)}:∀ {names:List (Str×NameKind)} {acc:List (Str×Addr)} {x:Str},acc.lookup x=some ((cells.lookup x).getD 0)->(closL cells names acc).lookup x=some ((cells.lookup x).getD 0)
 | [],_,_,h=>h
 | (n,k)::r,acc,x,h=>by
  unfold closL
  split
  . refine closL_acc ?_;rw [List.lookup_cons]
    cases hx:x==n with
    | true=>have e:=beq_iff_eq.mp hx;subst e;rfl
    | false=>exact h
  . exact closL_acc h
theorem closL_free{cells:List (Str×Addr)}:∀ {names:List (Str×NameKind)} {acc:List (Str×Addr)} {x:Str},(x,NameKind.free) ∈ names->(closL cells names acc).lookup x=some ((cells.lookup x).getD 0)
 | (n,k)::r,acc,x,h=>by
  unfold closL;rcases List.mem_cons.mp h with e | h
  . cases e
    simp only [beq_self_eq_true,if_true];exact closL_acc (by rw [List.lookup_cons,beq_self_eq_true])
  . split
    . exact closL_free h
    . exact closL_free h
theorem cf_app:∀(names:List (Str×NameKind)) (n:Nat) (acc:List (Str×Addr)),cellsFrom n names acc=cellsFrom n names []++acc
 | [],_,_=>rfl
 | (x,k)::r,n,acc=>by
  unfold cellsFrom
  split
  . rw [cf_app r (n+1) ((x,n)::acc),cf_app r (n+1) [(x,n)],List.append_assoc];rfl
  . exact cf_app r n acc
theorem lookup_app{α:Type}(x:Str):∀(a b:List (Str×α)),(a++b).lookup x=(match a.lookup x with | some c=>some c | none=>b.lookup x)
 | [],b=>rfl
 | (k,v)::r,b=>by
  rw [List.cons_append,List.lookup_cons,List.lookup_cons]
  cases hx:x==k with
  | true=>rfl
  | false=>exact lookup_app x r b
theorem cf_has:∀ {names:List (Str×NameKind)} {n:Nat} {acc:List (Str×Addr)} {x:Str},(x,NameKind.cell) ∈ names->∃c,(cellsFrom n names acc).lookup x=some c
 | (y,k)::r,n,acc,x,h=>by
  unfold cellsFrom;rcases List.mem_cons.mp h with e | h
  . obtain ⟨rfl,rfl⟩:=Prod.mk.inj e;simp only [beq_self_eq_true,if_true];rw [cf_app,lookup_app]
    cases q:(cellsFrom (n+1) r []).lookup x with
    | some c=>exact ⟨c,rfl⟩
    | none=>exact ⟨n,by simp [List.lookup_cons]⟩
  . split
    . exact cf_has h
    . exact cf_has h
theorem cf_mem:∀ {names:List (Str×NameKind)} {n:Nat} {x:Str} {c:Addr},(x,c) ∈ cellsFrom n names []->(x,NameKind.cell) ∈ names
 | (y,k)::r,n,x,c,h=>by
  unfold cellsFrom at h
  split at h
  . rename_i hk;rw [cf_app] at h
    rcases List.mem_append.mp h with q | q
    . exact List.mem_cons_of_mem _ (cf_mem q)
    . have hk':k = .cell:=by simpa using hk
      subst hk';have e:(x,c)=(y,n):=by simpa using q
      cases e
      exact List.mem_cons_self
  . exact List.mem_cons_of_mem _ (cf_mem h)
def relabelS(sc osc:Scope):Scope:=
 {sc with names:=sc.names.map fun (n,k)=>if (k == .free && osc.kind == .function && osc.names.lookup n==some .cell) then (n, .cell) else (n,k)}
theorem relabel_eq(sc:Scope)(env:Env):relabel sc env=relabelS sc env.scope:=rfl
theorem relabelS_lookup {osc : Scope} : ∀ {names : List (Str × NameKind)} {x : Str} {k : NameKind}, (names.map fun (p : Str × NameKind) => (match p with | (n, k) => if (k == NameKind.free && osc.kind == .function && osc.names.lookup n == some NameKind.cell) = true then (n, NameKind.cell) else (n, k))).lookup x = some k ->
 ∃k',names.lookup x=some k'/\(k'=k\/(k' = .free/\k = .cell))
 | [],_,_,h=>by simp at h
 | (n,k0)::r,x,k,h=>by
  rw [List.map_cons] at h
  by_cases hc:(k0==NameKind.free && osc.kind == .function && osc.names.lookup n==some NameKind.cell)=true
  . simp only [hc,if_true] at h
    rw [List.lookup_cons] at h
    cases hx:x==n with
    | true=>
     rw [hx] at h
     simp only [Option.some.injEq] at h
     subst h;refine ⟨k0,by rw [List.lookup_cons,hx], .inr ⟨?_,rfl⟩⟩;simp only [Bool.and_eq_true,beq_iff_eq] at hc
     exact hc.1.1
    | false=>
     rw [hx] at h
     obtain ⟨k',e,d⟩:=relabelS_lookup h;exact ⟨k',by rw [List.lookup_cons,hx];exact e,d⟩
  . simp only [if_neg hc] at h
    rw [List.lookup_cons] at h
    cases hx:x==n with
    | true=>
     rw [hx] at h
     simp only [Option.some.injEq] at h
     subst h
     exact ⟨k0,by rw [List.lookup_cons,hx], .inl rfl⟩
    | false=>
     rw [hx] at h
     obtain ⟨k',e,d⟩:=relabelS_lookup h;exact ⟨k',by rw [List.lookup_cons,hx];exact e,d⟩
theorem lookup_of_mem{α:Type}:∀ {l:List (Str×α)} {x:Str} {k:α},(l.map (·.1)).Nodup->(x,k) ∈ l->l.lookup x=some k
 | (y,j)::r,x,k,nd,h=>by
  rw [List.map_cons,List.nodup_cons] at nd
  rw [List.lookup_cons];rcases List.mem_cons.mp h with e | h'
  . cases e;rw [beq_self_eq_true]
  . have : (x == y) = false := by
     apply beq_eq_false_iff_ne.mpr;intro e;subst e;exact nd.1 (List.mem_map.mpr ⟨_,h',rfl⟩)
    rw [this];exact lookup_of_mem nd.2 h'
def csOk(osc sc:Scope)(N N':List Str)(ix:List (Option Nat)):Bool:=
 decide (sc.kind = .function) && decide (osc.kind = .function) && sc.names.all (fun y=>decide (y.2 = .local->sc.names.lookup y.1=some .local)) &&
 sc.names.all (fun y=>decide (y.2 = .free->(osc.names.lookup y.1=some .cell\/osc.names.lookup y.1=some .free))) && decide (N'.Nodup) && decide ((sc.names.map (·.1)).Nodup) && decide (N'.length=ix.length) &&
 (List.range ix.length).all fun i=>match ix[i]? with
  | some (some j)=>decide (N[j]? = N'[i]?) && (match N'[i]? with | some x=>decide (sc.names.lookup x=some .free) | none=>false)
  | _=>true
structure CS (osc sc:Scope) (N N':List Str) (ix:List (Option Nat)):Prop where
 kind:sc.kind = .function
 okind:osc.kind = .function
 names:∀y ∈ sc.names,y.2 = .local->sc.names.lookup y.1=some .local
 free:∀y ∈ sc.names,y.2 = .free->osc.names.lookup y.1=some .cell\/osc.names.lookup y.1=some .free
 nd:N'.Nodup
 ns:(sc.names.map (·.1)).Nodup
 len:N'.length=ix.length
 ixs:∀(i j:Nat),ix[i]? = some (some j)->∃x,N'[i]? = some x/\N[j]? = some x/\sc.names.lookup x=some .free
theorem CS.of{osc sc:Scope}{N N':List Str}{ix:List (Option Nat)}(h:csOk osc sc N N' ix=true):CS osc sc N N' ix:=by
 unfold csOk at h
 simp only [Bool.and_eq_true,List.all_eq_true,decide_eq_true_eq] at h
 obtain ⟨⟨⟨⟨⟨⟨⟨h1,h2⟩,h3⟩,h4⟩,h5⟩,h8⟩,h6⟩,h7⟩:=h;refine ⟨h1,h2,h3,h4,h5,h8,h6,fun i j e=> ?_⟩;have hi:i<ix.length:=(List.getElem?_eq_some_iff.mp e).1;have q:=h7 i (List.mem_range.mpr hi);rw [e] at q
 simp only [Bool.and_eq_true,decide_eq_true_eq] at q
 cases e2:N'[i]? with
 | none=>rw [e2] at q;exact absurd q.2 (by simp)
 | some x=>
  rw [e2] at q
  exact ⟨x,rfl,q.1,by simpa using q.2⟩
def subS(ix:List (Option Nat))(σ:L2.St):L2.St:=ix.map fun o=>match o with | some j=>(σ[j]?).join | none=>none
structure CB where
 C:Addr
 s₀:Shared
 H₀:Hp
 ex:List Addr
def cEnv(osc sc:Scope)(cl:List (Str×Addr))(C:Addr)(env:Env):Env:=
 {scope:=relabelS sc osc,locals:=C,globals:=env.globals,cells:=cellsFrom (C+1) sc.names cl,qual:=env.qual,func:=none,code:=env.code,frame:=env.frame,builtins:=env.builtins}
def cxC(X:Cx)(osc sc:Scope)(N':List Str)(b:CB):Cx where
 prog:=X.prog
 w:=X.w
 K:=X.K
 mg:=X.mg
 base:=X.base
 A:=X.A
 N:=N'
 s₀:=b.s₀
 H₀:=b.H₀
 env:=cEnv osc sc (closL X.env.cells sc.names []) b.C X.env
 outer:=X.stack
 stack:=X.stack
 ex:=b.ex
 fn:=fun x=>decide (sc.names.lookup x=some .cell)
 calm:=X.calm
 pn:= []
 xe:=fun _ _=>False
def accObj:Obj:={cls:= .type "list",dict:=none,data:= .seq ([]:List Value).toArray}
def dctObj:Obj:={cls:= .type "dict",data:= .dict #[]}
def blkHeap(h:Heap)(sc:Scope):Heap:=pushCells ((h.push accObj).push dctObj) sc.names
theorem blk_keeps{h:Heap}{sc:Scope}:∀b o,h.get? b=some o->(blkHeap h sc).get? b=some o:=fun b o e=>pushCells_keeps _ _ b o (Heap.get?_push_of_some _ (Heap.get?_push_of_some _ e))
theorem wpAny_newEnv_comp {M : Model} {A : Around} {E : Value -> Shared -> Prop} {s : Shared} {scope : Scope} {globals : Addr} {cl : List (Str × Addr)} {qual : Str} {env : Env} {Q : Env -> Shared -> Prop}
 (h:Q (newEnv scope s.heap.objs.size globals (cellsFrom (s.heap.objs.size+1) scope.names cl) qual none .none (some env) builtinsNs) {s with heap:=pushCells (s.heap.push dctObj) scope.names}) :
 wpAny M A (newFunctionEnv scope globals cl [] qual none .none (some env)) Q E s:=by
 simp only [newFunctionEnv,Option.isSome_some,if_true];refine wpAny_bind (wpAny_alloc ?_);refine wpAny_bind (wpAny_layCells _ (fun name kind cells=>by cases hkc:kind==NameKind.cell <;> simp [hkc]) _ _ _ _ ?_);rw [show ({s with heap:=s.heap.push {cls:= .type "dict",data:= .dict #[]} }:Shared).heap.objs.size=s.heap.objs.size+1 from Heap.size_push ..];simp only [List.forIn_nil];exact wpAny_bind (wpAny_pure (wpAny_pure h))
section
variable {X:Cx} {pins:List (Addr×Obj)} {σ:L2.St} {H:Hp} {s:Shared} {osc sc:Scope} {N':List Str} {ix:List (Option Nat)} {fp:List Addr}
theorem closes(I:Inv X pins σ H s)(cs:CS osc sc X.N N' ix)(ho:X.env.scope=osc):∀y ∈ sc.names,y.2 = .free->∃c,X.env.cells.lookup y.1=some c:=fun y hy hf=>by
 refine I.ok.has y.1 ?_;have q:=cs.free y hy hf;rw [<-ho] at q
 exact q
theorem blk_cell (I : Inv X pins σ H s) (cs : CS osc sc X.N N' ix) (ho : X.env.scope = osc) {C : Addr} {x : Str} {c : Addr} (h : (cellsFrom (C + 1) sc.names (closL X.env.cells sc.names [])).lookup x = some c) :
 ((x,c) ∈ cellsFrom (C+1) sc.names [] )\/((x,NameKind.free) ∈ sc.names/\X.env.cells.lookup x=some c):=by
 rw [cf_app,lookup_app] at h
 cases e:(cellsFrom (C+1) sc.names []).lookup x with
 | some d=>rw [e] at h;cases h;exact .inl (mem_of_lookup e)
 | none=>
  rw [e] at h
  rcases closL_of h with q | ⟨q,d⟩
  . cases q
  . obtain ⟨c',hc⟩:=closes I cs ho _ q rfl;rw [show X.env.cells.lookup x=some c' from hc] at d
    exact .inr ⟨q,by rw [show X.env.cells.lookup x=some c' from hc];rw [d];rfl⟩
theorem inv_comp (I : Inv X pins σ H s) (cs : CS osc sc X.N N' ix) (ho : X.env.scope = osc) (hfp : ∀ b ∈ fp, FpOk X pins H b) (hlt : ∀ b ∈ fp, b < s.heap.objs.size) :
 Inv (cxC X osc sc N' ⟨s.heap.objs.size+1,s,H,fp ++ [s.heap.objs.size]⟩) [] (subS ix σ) H {s with heap:=blkHeap s.heap sc}:=by
 have okc:=cellsFrom_ok sc.names ((s.heap.push accObj).push dctObj) (s.heap.objs.size+2) [] ⟨fun _ _ hm=>(nomatch hm),List.Pairwise.nil⟩ (by rw [Heap.size_push,Heap.size_push];exact Nat.le_refl _);have esz:((s.heap.push accObj).push dctObj).objs.size=s.heap.objs.size+1+1:=by rw [Heap.size_push,Heap.size_push]
 rw [esz] at okc
 have cell:=fun {x:Str} {c:Addr}=>blk_cell (C:=s.heap.objs.size+1) (x:=x) (c:=c) I cs ho;have oldc:∀ {x:Str} {c:Addr},X.env.cells.lookup x=some c -> @LT.lt Nat _ c s.heap.objs.size:=fun {x c} h=>(I.cell x c h).elim fun v hv=>hv.lt;have ltS:∀ {h:Heap} {b:Addr} {o:Obj},h.get? b=some o -> @LT.lt Nat _ b h.objs.size:=fun e=>Heap.lt_size e;have newc:∀ {x:Str} {c:Addr},(x,c) ∈ cellsFrom (s.heap.objs.size+1+1) sc.names []->s.heap.objs.size+2<=c:=fun {x c} h=>(okc.empty x c h).2
 have nsC:∃m,(blkHeap s.heap sc).Ns (s.heap.objs.size+1) m:=⟨_,by
  have q:=(Heap.Ns.new (s.heap.push accObj) (.type "dict")).keeps (pushCells_keeps sc.names _);rw [Heap.size_push] at q
  exact q⟩
 refine ⟨?ok,rfl,I.bare,Un.kept blk_keeps,?loc,?cell,I.hok.fresh (Nat.le_succ _),?freeC,?pin,I.hok.kept blk_keeps,?len⟩
 case ok=>
  refine ⟨I.ok.mod,cs.kind,I.ok.glob,I.ok.blt,Nat.le_succ _,?inj,?has,?cab,I.ok.hd,I.ok.frames, .inl rfl,?exf,I.bs,?bsz,?noex,?exfs,I.stack,I.stkFree,I.tb⟩
  case inj=>
   intro x y c hx hy;rcases cell hx with p | ⟨p,p'⟩ <;> rcases cell hy with q | ⟨q,q'⟩
   . exact name_of_addr okc.apart p q
   . have a1:=newc p;have a2:=oldc q';omega
   . have a1:=newc q;have a2:=oldc p';omega
   . exact I.ok.inj x y c p' q'
  case has=>
   intro x hx
   have key:∀k,(relabelS sc osc).names.lookup x=some k->(k = .cell\/k = .free)->∃c,(cellsFrom (s.heap.objs.size+1+1) sc.names (closL X.env.cells sc.names [])).lookup x=some c:=by
    intro k hk hk2;obtain ⟨k',e,d⟩:=relabelS_lookup hk;have hm:=mem_of_lookup e
    have:k' = .cell\/k' = .free:=by
     rcases d with d | d
     . rcases hk2 with r | r
       . exact .inl (d.trans r)
       . exact .inr (d.trans r)
     . exact .inr d.1
    rcases this with r | r
    . subst r;exact cf_has hm
    . subst r;rw [cf_app,lookup_app,closL_free hm]
      cases (cellsFrom (s.heap.objs.size+1+1) sc.names []).lookup x with
      | some c=>exact ⟨c,rfl⟩
      | none=>exact ⟨_,rfl⟩
   rcases hx with hx | hx
   . exact key _ hx (.inl rfl)
   . exact key _ hx (.inr rfl)
  case cab=>
   intro x c hf hc;have hf':sc.names.lookup x=some .cell:=of_decide_eq_true hf;rcases cell hc with p | ⟨p,p'⟩
   . have:=newc p;show s.heap.objs.size<=c;omega
   . rw [lookup_of_mem cs.ns p] at hf'
     cases hf'
  case exf=>
   intro b hb;rcases List.mem_append.mp hb with hb | hb
   . have hl : @LT.lt Nat _ b s.heap.objs.size:=hlt b hb;obtain ⟨f0,f1,f2,f3,f4,f5⟩:=hfp b hb;refine ⟨fun e=> ?_,fun x c hc e=> ?_⟩
     . have e:b=s.heap.objs.size+1:=e;subst e;omega
     . rcases cell hc with p | ⟨p,p'⟩
       . have:=newc p;subst e;omega
       . exact f4 x c p' e
   . have hb:b=s.heap.objs.size:=by simpa using hb
     subst hb;refine ⟨fun e=>Nat.succ_ne_self _ (Eq.symm (show s.heap.objs.size=s.heap.objs.size+1 from e)),fun x c hc e=> ?_⟩;rcases cell hc with p | ⟨p,p'⟩
     . have:=newc p;subst e;omega
     . have:=oldc p';subst e;omega
  case bsz=>exact Nat.le_trans I.ok.bsz I.sz
  case noex=>
   intro b o e hb;have e:X.base.get? b=some o:=e;rcases List.mem_append.mp hb with hb | hb
   . obtain ⟨f0,f1,f2,f3,f4,f5⟩:=hfp b hb;rcases f3 with f3 | f3
     . exact I.ok.noex b o e f3
     . have:=ltS e;have:=I.ok.bsz;omega
   . have hb:b=s.heap.objs.size:=by simpa using hb
     have:=ltS e;have:=I.ok.bsz;have:=I.sz;subst hb;omega
  case exfs=>
   intro b hb hf;have hf:=I.stkSub b hf;rcases List.mem_append.mp hb with hb | hb
   . obtain ⟨f0,f1,f2,f3,f4,f5⟩:=hfp b hb;rcases List.mem_cons.mp hf with e | hf
     . exact f1 e
     . exact f2 hf
   . have hb:b=s.heap.objs.size:=by simpa using hb
     rcases List.mem_cons.mp hf with e | hf
     . have l : @LT.lt Nat _ X.env.locals s.heap.objs.size:=I.lt;rw [hb] at e
       rw [<-e] at l
       omega
     . exact I.nofs (Nat.le_of_eq hb.symm) hf
 case loc=>
  obtain ⟨m',hm'⟩:=nsC;obtain ⟨m,hm,hl⟩:=I.loc;refine ⟨m',hm',fun i x v hx hv hvis=> ?_⟩;unfold subS at hv
  rw [List.getElem?_map] at hv
  cases e:ix[i]? with
  | none=>rw [e] at hv;cases hv
  | some o=>
   rw [e] at hv
   cases o with
   | none=>cases hv
   | some j=>
    simp only [Option.map_some,Option.some.injEq] at hv
    obtain ⟨y,h1,h2,h3⟩:=cs.ixs i j e;have hx':N'[i]? = some x:=hx;rw [h1] at hx'
    cases hx'
    have hj:σ[j]? = some (some v):=by
     cases q:σ[j]? with
     | none=>rw [q] at hv;cases hv
     | some z=>rw [q] at hv;simp only [Option.join_some] at hv;rw [hv]
    have hfree:=mem_of_lookup h3;have hk:=cs.free _ hfree rfl;rw [<-ho] at hk
    have hvis0:Vis X.env.scope x:=by
     rcases hk with r | r
     . exact .inr (.inl r)
     . exact .inr (.inr r)
    obtain ⟨u,ru,lk⟩:=hl j x v h2 hj hvis0;refine ⟨u,ru, .inr ⟨?_,?_⟩⟩
    . rcases hvis with q | q | q
      . obtain ⟨k',e',d⟩:=relabelS_lookup q;rw [h3] at e'
        cases e'
        rcases d with d | d
        . cases d
        . cases d.2
      . exact .inl q
      . exact .inr q
    . rcases lk with ⟨lk,_⟩ | ⟨_,c,hc,hcell⟩
      . have:X.env.scope.names.lookup x=some .local:=lk;rw [this] at hk
        rcases hk with r | r <;> cases r
      . refine ⟨c,?_,hcell.keeps blk_keeps⟩;show (cellsFrom (s.heap.objs.size+1+1) sc.names (closL X.env.cells sc.names [])).lookup x=some c;rw [cf_app,lookup_app,closL_free hfree,hc]
        cases e2:(cellsFrom (s.heap.objs.size+1+1) sc.names []).lookup x with
        | some d=>
         have:=lookup_of_mem cs.ns (cf_mem (mem_of_lookup e2));rw [h3] at this
         cases this
        | none=>rfl
 case cell=>
  intro x c hc;rcases cell hc with p | ⟨p,p'⟩
  . exact ⟨_,(okc.empty x c p).1⟩
  . obtain ⟨v,hv⟩:=I.cell x c p';exact ⟨v,hv.keeps blk_keeps⟩
 case freeC=>
  intro x c hc;rcases cell hc with p | ⟨p,p'⟩
  . have:=newc p;exact I.hok.fresh (by omega)
  . exact I.freeC x c p'
 case pin=>intro p hp;cases hp
 case len=>
  show (subS ix σ).length=N'.length;unfold subS;rw [List.length_map,cs.len]
def GK(S:Nat->Bool)(g:TG):Prop:=∀v σ H Q,g v σ H Q->g v σ H fun σ' H'=>Q σ' H'/\σ'.length=σ.length/\∀i:Nat,S i=false->σ'[i]? = σ[i]?
def PTs(X:Cx)(ifs:List Expr)(t:TT):Prop:=
 ∀(pins:List (Addr×Obj)) (s:Shared) (σ:L2.St) (H:Hp) (Q:Bool->Hp->Prop),Inv X pins σ H s->t σ H Q ->
   wpAny (model X.prog X.w) X.A (forIn ifs true fun c r=>if r=true then do let ok <-isTrue c X.env (eval c X.env);pure (ForInStep.yield ok) else pure (ForInStep.yield r)) (TP X pins σ Q) X.xe s
def tNoTest:TT:=fun _ H Q=>Q true H
theorem pts_nil{X:Cx}:PTs X [] tNoTest:=fun _ _ _ H _ I h=>wpAny_tests_nil ⟨H,I,h⟩
theorem pts_one{X:Cx}{c:Expr}{t:TT}(h:PT X c t):PTs X [c] t:=fun pins s σ H Q I q=>wpAny_tests_one (h pins s σ H Q I q)
def tLCg(J:It)(σ0:L2.St)(g:TG)(tt:TT)(te:TE)(H1:Hp)(Q:VK):Prop:=∃W:Nat->Nat->List V->Hp->Prop,(∃m,W 0 m [] H1)/\∀i m ys H,W i m ys H->ys.length<sizeLine /\
 ((J.stop i H/\∀p,H p=none->Q (.ref p) (upd H p (.lst ys))) \/
  (J.go i H/\∃N:List V->Hp->Prop,(∀ys' H',N ys' H'->∃m',m'<m/\W (i+1) m' ys' H')/\∀x H',J.yld i H x H'->g x σ0 H' fun σ2 H2=>tt σ2 H2 fun b H3=>if b=true then te σ2 H3 fun y H4=>N (ys ++ [y]) H4 else N ys H3))
theorem codeAny_compLoop_any {prog : Program} {w : World} {A : Around} {R : Result -> Shared -> Prop} {s : Shared} {elt target iter : Expr} {ifs : List Expr} {scope : Scope} {pos : Pos} {it acc : Value} {env : Env} (I : Nat -> Shared -> Prop)
 (turn:∀n s,I n s->wpAny (model prog w) A (pyNext it) (fun r s₁=>match r with
  | none=>R (.ok .next) s₁
  | some v => wpAny (model prog w) A (letOwnedTupleGo target it v) (fun _ s₁ => wpAny (model prog w) A (assign target env v) (fun _ s₂ =>
   wpAny (model prog w) A (forIn ifs true fun c r=>if r=true then do let ok <-isTrue c env (eval c env);pure (ForInStep.yield ok) else pure (ForInStep.yield r)) (fun ok s₃=>
    if ok=true then wpAny (model prog w) A (eval elt env) (fun x s₄=>
     wpAny (model prog w) A (call (.builtin "list.append") [acc,x]) (fun _ s₅=>∃m,m<n/\I m s₅) (fun _ _=>False) s₄) (fun _ _=>False) s₃
    else ∃m,m<n/\I m s₃) (fun _ _=>False) s₂) (fun _ _=>False) s₁) (fun _ _=>False) s₁) (fun _ _=>False) s)
 (n:Nat) (h:I n s) :
 codeAny (model prog w) A (.compLoop (.ListComp elt [⟨target,iter,ifs,0⟩] scope pos) 0 it acc env) R s:=by
 refine codeAny_loop rfl I (fun n s hI=> ?_) n h;show wpAny _ A ((compTurn (.ListComp elt [⟨target,iter,ifs,0⟩] scope pos) 0 it acc env).onRaise (fun x=>do noteFrame x env;theTreesLotGoes x)) _ _ s;refine wpAny_noted ?_;rw [compTurn_list];refine wpAny_bind (wpAny_standAt (wpAny_bind (wpAny_mono (turn n s hI) (fun r s₁ h₁=> ?_) fun _ _ h'=>h'.elim)))
 cases r with
 | none=>exact wpAny_pure h₁
 | some v=>
  refine wpAny_bind (wpAny_mono h₁ (fun _ s₁ h₁=> ?_) fun _ _ h'=>h'.elim);refine wpAny_bind (wpAny_mono h₁ (fun _ s₂ h₂=>wpAny_bind (wpAny_mono h₂ (fun ok s₃ h₃=> ?_) fun _ _ h'=>h'.elim)) fun _ _ h'=>h'.elim)
  cases ok with
  | false=>exact wpAny_pure ⟨rfl,h₃⟩
  | true=>
   exact wpAny_bind (wpAny_bind (wpAny_mono h₃ (fun x s₄ h₄=>wpAny_bind (wpAny_mono h₄ (fun _ s₅ h₅=>wpAny_pure (wpAny_pure ⟨rfl,h₅⟩)) fun _ _ h'=>h'.elim)) fun _ _ h'=>h'.elim))
theorem HOk_add{P:Program}{w:World}{H:Hp}{h:Heap}{a:Addr}{o:HO}(x:HOk P w H h)(hn:H a=none)(new:ObjOk P w (upd H a o) h a o):HOk P w (upd H a o) h:=fun b u e=>by
 by_cases hb:b=a
 . subst hb;rw [upd_same] at e
   cases e
   exact new
 . rw [upd_ne hb] at e
   refine (x b u e).stay (fun _ _ _ q=>q) (fun c q=> ?_) (fun c xs q=> ?_) fun c ob xs q=> ?_
   . rw [upd_ne (ne_of_none q hn)];exact q
   . rw [upd_ne (ne_of_none q hn)];exact q
   . rw [upd_ne (ne_of_none q hn)];exact q
def slotS(ix:List (Option Nat))(i:Nat):Bool:=match ix[i]? with | some (some _)=>false | _=>true
structure BlkEnd (X:Cx) (pins:List (Addr×Obj)) (σ:L2.St) (C D:Addr) (H:Hp) (ys:List V) (s':Shared):Prop where
 inv:Inv X pins σ (upd H D (.lst ys)) s'
 free:H D=none
 ns:∃m,s'.heap.Ns C m
 cfree:(upd H D (.lst ys)) C=none
 cl:C≠X.env.locals
 cn:X.s₀.heap.objs.size<=C
 cc:∀x c,X.env.cells.lookup x=some c->c≠C
 cp:∀p ∈ X.pn++pins,p.1≠C
theorem run_block {tg elt iter : Expr} {ifs : List Expr} {scope : Scope} {pos : Pos} {J : It} {it : Addr} {tn : Nat -> Heap -> Prop} {g : TG} {tt : TT} {te : TE} {Q : VK} {R : Result -> Shared -> Prop}
 (I2:Inv X pins σ H s) (cs:CS osc sc X.N N' ix) (ho:X.env.scope=osc) (hc:X.calm=true) (T:Turn X.prog X.w X.K tg J fp it tn) (st2:tn 0 s.heap) (f2:∀b ∈ fp,FpOk X pins H b)
 (hg:PG (cxC X osc sc N' ⟨s.heap.objs.size+1,s,H,fp ++ [s.heap.objs.size]⟩) tg g) (gk:GK (slotS ix) g)
 (ht:PTs (cxC X osc sc N' ⟨s.heap.objs.size+1,s,H,fp ++ [s.heap.objs.size]⟩) ifs tt) (he:PE (cxC X osc sc N' ⟨s.heap.objs.size+1,s,H,fp ++ [s.heap.objs.size]⟩) elt te)
 (rd:tLCg J (subS ix σ) g tt te H Q)
 (hR:∀ys H' s',BlkEnd X pins σ (s.heap.objs.size+1) s.heap.objs.size H' ys s'->Q (.ref s.heap.objs.size) (upd H' s.heap.objs.size (.lst ys))->R (.ok .next) s') :
 codeAny (model X.prog X.w) X.A (.compStart (.ListComp elt [⟨tg,iter,ifs,0⟩] scope pos) 0 (.ref it) (.ref s.heap.objs.size) (cEnv osc sc (closL X.env.cells sc.names []) (s.heap.objs.size+1) X.env)) R {s with heap:=blkHeap s.heap sc}:=by
 have ltS:∀ {h:Heap} {b:Addr} {o:Obj},h.get? b=some o -> @LT.lt Nat _ b h.objs.size:=fun e=>Heap.lt_size e;have hlt:∀b ∈ fp,b<s.heap.objs.size:=fun b hb=>(T.obj 0 _ st2 b hb).elim fun o h=>Heap.lt_size h.1;have I3:=inv_comp I2 cs ho f2 hlt;generalize eX:cxC X osc sc N' ⟨s.heap.objs.size+1,s,H,fp ++ [s.heap.objs.size]⟩=X' at *
 have eE:cEnv osc sc (closL X.env.cells sc.names []) (s.heap.objs.size+1) X.env=X'.env:=by rw [<-eX];rfl
 have eP:X'.prog=X.prog:=by rw [<-eX];rfl
 have eW:X'.w=X.w:=by rw [<-eX];rfl
 have eK:X'.K=X.K:=by rw [<-eX];rfl
 have eA:X'.A=X.A:=by rw [<-eX];rfl
 have eC:X'.calm=true:=by rw [<-eX];exact hc
 have eL:X'.env.locals=s.heap.objs.size+1:=by rw [<-eX];rfl
 have eF:X'.fs=frs X.stack:=by rw [<-eX];rfl
 have eEx:X'.ex=fp ++ [s.heap.objs.size]:=by rw [<-eX];rfl
 have eN:X'.pn = []:=by rw [<-eX];rfl
 have eS:X'.s₀=s:=by rw [<-eX];rfl
 have eH:X'.H₀=H:=by rw [<-eX];rfl
 have exe:X'.xe=fun _ _=>False:=by rw [<-eX];rfl
 have okX:=I3.ok;have mD:s.heap.objs.size ∈ X'.ex:=by rw [eEx];exact List.mem_append_right _ (List.mem_singleton.mpr rfl)
 have mF:∀b ∈ fp,b ∈ X'.ex:=fun b hb=>by rw [eEx];exact List.mem_append_left _ hb
 obtain ⟨W,⟨m0,w0⟩,turn⟩:=rd
 have stat:∀ {H':Hp} {o:Obj},(∀b ∈ fp,H' b=none)->∀b ∈ fp,FpOk X' [(s.heap.objs.size,o)] H' b:=fun {H' o} hn b hb=>by
  refine ⟨hn b hb,(okX.exf b (mF b hb)).1,okX.exfs b (mF b hb), .inl (mF b hb),(okX.exf b (mF b hb)).2,fun p hp e=> ?_⟩;rw [eN] at hp
  have hp:p=(s.heap.objs.size,o):=by simpa using hp
  subst hp;have l : @LT.lt Nat _ b s.heap.objs.size:=hlt b hb;have e:s.heap.objs.size=b:=e;rw [<-e] at l
  omega
 have pinD:∀ {σ':L2.St} {H':Hp} {s':Shared} {o:Obj},Inv X' [] σ' H' s'->s'.heap.get? s.heap.objs.size=some o->H' s.heap.objs.size=none->(∀v,o.data ≠ .cell v)->Inv X' [(s.heap.objs.size,o)] σ' H' s':=fun {σ' H' s' o} I e hn hd=>by
  refine I.pins_of fun p hp=> ?_;have hp:p=(s.heap.objs.size,o):=by simpa using hp
  subst hp;exact ⟨e,hn,(okX.exf _ mD).1,okX.exfs _ mD,hd⟩
 rw [eE];have I3':Inv X' [] (subS ix σ) H {s with heap:=blkHeap s.heap sc}:=I3;have dat:∀(its:List Value) (k:Nat) (v:Option Value),({cls:= .type "list",data:= .seq its.toArray k}:Obj).data ≠ .cell v:=fun _ _ _ z=>nomatch z;have acc0:(blkHeap s.heap sc).get? s.heap.objs.size=some {cls:= .type "list",data:= .seq ([]:List Value).toArray 0}:=pushCells_keeps _ _ _ _ (Heap.get?_push_of_some _ (Heap.get?_push_size _ rfl));have st3:tn 0 (blkHeap s.heap sc):=T.keep 0 _ _ st2 fun b hb o e=>blk_keeps b o e
 have loop:∀s3:Shared,s3={s with heap:=blkHeap s.heap sc}->codeAny (model X.prog X.w) X.A (.compLoop (.ListComp elt [⟨tg,iter,ifs,0⟩] scope pos) 0 (.ref it) (.ref s.heap.objs.size) X'.env) R s3:=by
  rintro s3 rfl
  refine codeAny_compLoop_any (fun n s'=>∃i ys H' its k,Inv X' [] (subS ix σ) H' s'/\tn i s'.heap/\(∀b ∈ fp,H' b=none)/\W i n ys H'/\s'.heap.get? s.heap.objs.size=some {cls:= .type "list",data:= .seq its.toArray k}/\Vals ys its/\H' s.heap.objs.size=none)
   ?_ m0 ⟨0,[],H,[],0,I3',st3,fun b hb=>(f2 b hb).1,w0,acc0, .nil,I2.hok.fresh (Nat.le_refl _)⟩
  rintro n s3 ⟨i,ys,H3,its,k,J3,t3,fr3,w3,a3,v3,d3⟩;obtain ⟨hz,w3⟩:=turn i n ys H3 w3;have J3p:=pinD J3 a3 d3 (dat its k);rcases w3 with ⟨stop,q⟩ | ⟨go,N,hN,step⟩
  . have TD:=T.done X' eP eW eK eC i [(s.heap.objs.size,_)] s3 (subS ix σ) H3 (fun _ _=>False) J3p (stat fr3) t3 stop;rw [eA] at TD
    refine thn TD fun r s4 ⟨hr,I4⟩ => ?_;subst hr;have a4:=(I4.pin (s.heap.objs.size,_) (List.mem_append_right _ (List.mem_singleton.mpr rfl))).1;have hd4:=I4.base;rw [eF,eEx,eH,eS] at hd4
    refine hR ys H3 s4 ⟨?_,d3,?_,?_,?_,?_,?_,?_⟩ (q _ d3)
    . refine I2.call' (ch:=fp ++ [s.heap.objs.size]) (by have z:=I4.os;rw [eS] at z;exact z) ?_ ?_ I4.bare ?_
      . refine ⟨hd4.keep,hd4.slot,fun b o e n x=> ?_,hd4.there,fun b xs e=> ?_,fun b o u e=> ?_,fun b ps e=> ?_⟩
        . have l:=ltS e;rw [upd_ne (by intro z;subst z;omega)];exact hd4.free b o e n x
        . have z:=hd4.tups b xs e;rw [upd_ne (ne_of_none z d3)];exact z
        . have z:=hd4.frzs b o u e;rw [upd_ne (ne_of_none z d3)];exact z
        . obtain ⟨more,z⟩:=hd4.tbls b ps e;exact ⟨more,by rw [upd_ne (ne_of_none z d3)];exact z⟩
      . have hk:=I4.hok;rw [eP,eW] at hk
        exact HOk_add hk d3 ⟨Nat.le_of_lt hz,its,k,v3,a4⟩
      . intro b hb;rcases List.mem_append.mp hb with hb | hb
        . obtain ⟨f0,f1,f2,f3,f4,f5⟩:=f2 b hb;exact ⟨f3,f1,f4,f5⟩
        . have hb:b=s.heap.objs.size:=by simpa using hb
          subst hb;refine ⟨.inr I2.sz,fun e=> ?_,fun x c hx e=> ?_,fun p hp e=> ?_⟩
          . have l : @LT.lt Nat _ X.env.locals s.heap.objs.size:=I2.lt;rw [<-e] at l
            omega
          . obtain ⟨v,hv⟩:=I2.cell x c hx;have l : @LT.lt Nat _ c s.heap.objs.size:=hv.lt;rw [e] at l
            omega
          . have l:=ltS (I2.pin p hp).1;rw [e] at l
            omega
    . obtain ⟨m,hm,_⟩:=I4.loc;rw [eL] at hm
      exact ⟨m,hm⟩
    . rw [upd_ne (Nat.succ_ne_self _)];have z:=I4.free;rw [eL] at z
      exact z
    . intro e;have l : @LT.lt Nat _ X.env.locals s.heap.objs.size:=I2.lt;rw [<-e] at l
      omega
    . have:=I2.sz;exact Nat.le_succ_of_le this
    . intro x c hx e;obtain ⟨v,hv⟩:=I2.cell x c hx;have l : @LT.lt Nat _ c s.heap.objs.size:=hv.lt;rw [e] at l
      omega
    . intro p hp e;have l:=ltS (I2.pin p hp).1;rw [e] at l
      omega
  . have TI:=T.item X' eP eW eK eC i [(s.heap.objs.size,_)] s3 (subS ix σ) H3 (fun _ _=>False) J3p (stat fr3) t3 go;rw [eA] at TI
    refine thn TI fun r s4 ⟨u,hr,h4⟩ => ?_;subst hr;refine thn h4 fun _ s5 ⟨x,H5,I5,r5,y5,st5,fr5⟩ => ?_;have I5':=I5.pinned (stat fr5) (T.obj _ _ st5);have HG:=hg _ s5 (subS ix σ) H5 x u _ I5' r5 (gk _ _ _ _ (step x H5 y5));rw [eP,eW,eA,exe] at HG
    refine thn HG fun _ s6 ⟨σ6,H6,I6,q6,l6,k6⟩ => ?_;have HT:=ht _ s6 σ6 H6 _ I6 q6;rw [eP,eW,eA,exe] at HT
    refine thn HT fun b s7 ⟨H7,I7,q7⟩ => ?_
    have weak:∀ {ps:List (Addr×Obj)} {H':Hp} {s':Shared},Inv X' ps σ6 H' s'->Inv X' ps (subS ix σ) H' s':=fun I=>I.weak l6.symm fun j v e=>by
     have hs:slotS ix j=false:=by
      unfold slotS;unfold subS at e
      rw [List.getElem?_map] at e
      cases e2:ix[j]? with
      | none=>rw [e2] at e;cases e
      | some o=>
       rw [e2] at e
       cases o with
       | none=>cases e
       | some z=>rfl
     rw [k6 j hs];exact e
    have pinA : ∀ {σ' : L2.St} {H' : Hp} {s' : Shared}, Inv X' ([(s.heap.objs.size, { cls := .type "list", data := .seq its.toArray k })] ++ pinsAt fp s5.heap) σ' H' s' ->
     s'.heap.get? s.heap.objs.size=some {cls:= .type "list",data:= .seq its.toArray k}/\H' s.heap.objs.size=none/\tn (i+1) s'.heap/\∀b ∈ fp,H' b=none:=fun {σ' H' s'} I=>by
     have z:=I.pin (s.heap.objs.size,_) (List.mem_append_right _ (List.mem_append_left _ (List.mem_singleton.mpr rfl)));refine ⟨z.1,z.2.1,T.keep _ _ _ st5 fun b hb o e=>(I.pin (b,o) (List.mem_append_right _ (List.mem_append_right _ (mem_pinsAt hb e)))).1,fun b hb=> ?_⟩;obtain ⟨o,e,d⟩:=T.obj _ _ st5 b hb;exact (I.pin (b,o) (List.mem_append_right _ (List.mem_append_right _ (mem_pinsAt hb e)))).2.1
    cases b with
    | false=>
     have q7:N ys H7:=q7;obtain ⟨m',hm,w7⟩:=hN ys H7 q7;obtain ⟨p1,p2,p3,p4⟩:=pinA I7
     exact ⟨m',hm,i+1,ys,H7,its,k,(weak I7).pins_of (fun _ z=>(nomatch z)),p3,p4,w7,p1,v3,p2⟩
    | true=>
     have HE:=he _ s7 σ6 H7 _ I7 q7;rw [eP,eW,eA,exe] at HE
     refine thn HE fun y s8 ⟨z,H8,I8,r8,q8⟩ => ?_;obtain ⟨m',hm,w8⟩:=hN _ H8 q8;obtain ⟨p1,p2,p3,p4⟩:=pinA I8;refine call_meets F.slot_list_append ⟨_,p1,rfl⟩ F.entry_list_append (F.args_list_append_2 _ _) (PySem.list_append s.heap.objs.size its.toArray k y (by rw [List.size_toArray, <-v3.length];omega)) ⟨p1,?_⟩;have q:=PySem.IsL.update p1 (fun a=>a.push y);have other:∀b o,b≠s.heap.objs.size->s8.heap.get? b=some o->(s8.heap.update s.heap.objs.size (Obj.mapSeq fun a=>a.push y)).get? b=some o:=fun b o hb e=>(Heap.get?_update_other s8.heap _ (Ne.symm hb)).trans e;have eq:its.toArray.push y=(its ++ [y]).toArray:=by simp
     have q:IsL (s8.heap.update s.heap.objs.size (Obj.mapSeq fun a=>a.push y)) s.heap.objs.size (its.toArray.push y) _:=q;rw [eq] at q
     refine ⟨m',hm,i+1,ys ++ [z],H8,its ++ [y],_,?_,T.keep _ _ _ p3 fun b hb o e=>other b o (fun z=> ?_) e,p4,w8,q,v3.append (.cons r8 .nil),p2⟩
     . have I8w:Inv X' [] (subS ix σ) H8 s8:=(weak I8).pins_of fun _ z=>nomatch z;refine I8w.turned (it:=s.heap.objs.size) other p2 (okX.exf _ mD).1 (.inl mD) (okX.exf _ mD).2 fun p hp=> ?_;rw [eN] at hp
       cases hp
     . have l : @LT.lt Nat _ b s.heap.objs.size:=hlt b hb;rw [z] at l
       omega
 exact codeAny_compStart_list (loop _ rfl) (T.self X.A 0 _ _ _ st3 (loop _ rfl))
def tLC(ix:List (Option Nat))(wi:TI)(g:CB->TG)(tt:CB->TT)(te:CB->TE):TE:=fun σ H Q=>wi σ H fun J H1=>∀b:CB,tLCg J (subS ix σ) (g b) (tt b) (te b) H1 Q
theorem pe_lc {tg elt iter : Expr} {ifs : List Expr} {pos : Pos} {wi : TI} {g : CB -> TG} {tt : CB -> TT} {te : CB -> TE} (hc : X.calm = true) (ho : X.env.scope = osc) {N : List Str} (hN : X.N = N) (hcs : csOk osc sc N N' ix = true) (hi : PI X tg iter wi)
 (hb:∀b:CB,PG (cxC X osc sc N' b) tg (g b)/\PTs (cxC X osc sc N' b) ifs (tt b)/\PE (cxC X osc sc N' b) elt (te b)) (gk:∀b:CB,GK (slotS ix) (g b))
 (hs:∀x,foldedSetIterable iter X.env x=pure x:=by intro _;rfl):PE X (.ListComp elt [⟨tg,iter,ifs,0⟩] sc pos) (tLC ix wi g tt te):=by
 subst hN;have cs:=CS.of hcs;intro pins s σ H Q I h;rw [eval_ListComp];have hcl:=closureFor_eq (closes I cs ho);refine wpAny_comprehension_free (use:=none) rfl hs hcl cs.kind cs.names (thn (hi pins s σ H _ I h) fun v s1 h1=>thn h1 fun itv s2 h2=> ?_);obtain ⟨it,fp,tn,J,H2,e,I2,T,st2,f2,rd⟩:=h2;subst e;refine wpAny_newObj_type ?_;refine wpAny_newEnv_comp ?_;have hb':=hb ⟨s2.heap.objs.size+1,s2,H2,fp ++ [s2.heap.objs.size]⟩
 have rb:=run_block (scope:=sc) (pos:=pos) (iter:=iter) (R:=compPost (model X.prog X.w) X.A X.xe none (EP X pins σ Q) (.ref s2.heap.objs.size) (s2.heap.objs.size+1)) I2 cs ho hc T st2 f2 hb'.1 (gk _) hb'.2.1 hb'.2.2 (rd _) (fun ys H' s' B q=>by
  obtain ⟨m,hm⟩:=B.ns;refine ⟨m,hm,fun h' hsb=> ?_⟩;refine ⟨.ref s2.heap.objs.size,upd H' s2.heap.objs.size (.lst ys),?_,rfl,q⟩;exact B.inv.turned (it:=s2.heap.objs.size+1) (fun b o hb e=>hsb.extBut b o hb e) B.cfree B.cl (.inr B.cn) B.cc B.cp)
 have sz:(s2.heap.push accObj).objs.size=s2.heap.objs.size+1:=Heap.size_push ..;show codeAny _ _ (.compStart _ 0 (.ref it) (.ref s2.heap.objs.size) {newEnv sc (s2.heap.push accObj).objs.size X.env.globals (cellsFrom ((s2.heap.push accObj).objs.size+1) sc.names (closL X.env.cells sc.names [])) X.env.qual none .none (some X.env) builtinsNs with scope:=relabel sc X.env}) (compPost _ _ _ none _ (.ref s2.heap.objs.size) (s2.heap.push accObj).objs.size) _;rw [sz,relabel_eq,ho];exact rb
def tSetC(i:Nat)(t:TE):TS:=fun D σ H=>t σ H fun v H1=>D.nx (σ.set i (some v)) H1
theorem ps_setC {tg elt iter : Expr} {ifs : List Expr} {pos py spos : Pos} {wi : TI} {g : CB -> TG} {tt : CB -> TT} {te : CB -> TE} {i : Nat} {y : Str} (hnd : X.N.Nodup) (hi' : X.N[i]? = some y) (hy : X.env.scope.names.lookup y = some .local)
 (hsw:swapsWith (.ListComp elt [⟨tg,iter,ifs,0⟩] sc pos) (some (.Name y py)) spos.line X.env=pure true)
 (hc:X.calm=true) (ho:X.env.scope=osc) {N:List Str} (hN:X.N=N) (hcs:csOk osc sc N N' ix=true) (hi:PI X tg iter wi)
 (hb:∀b:CB,PG (cxC X osc sc N' b) tg (g b)/\PTs (cxC X osc sc N' b) ifs (tt b)/\PE (cxC X osc sc N' b) elt (te b)) (gk:∀b:CB,GK (slotS ix) (g b))
 (hs:∀x,foldedSetIterable iter X.env x=pure x:=by intro _;rfl):PS X (.Assign [.Name y py] (.ListComp elt [⟨tg,iter,ifs,0⟩] sc pos) spos) (tSetC i (tLC ix wi g tt te)):=by
 have hN':=hN;subst hN;have cs:=CS.of hcs;intro pins s σ H D I h;rw [exec_Assign_Name_used _ _ _ _ hsw];have hcl:=closureFor_eq (closes I cs ho);refine wpAny_bind (wpAny_standAt (wpAny_bind ?_));show wpAny _ X.A (do let _ <-comprehension (.ListComp elt [⟨tg,iter,ifs,0⟩] sc pos) sc X.env _ (newList []) false (eval iter X.env) (some (assign (.Name y py) X.env))) _ _ s
 refine wpAny_bind (wpAny_mono (wpAny_comprehension_free (use:=some (assign (.Name y py) X.env)) (Q:=fun _ s'=>SP X pins D .next s') rfl hs hcl cs.kind cs.names
  (thn (hi pins s σ H _ I h) fun v s1 h1=>thn h1 fun itv s2 h2=> ?_)) (fun _ s' hq=>wpAny_pure (wpAny_pure hq)) fun _ _ e=>e)
 obtain ⟨it,fp,tn,J,H2,e,I2,T,st2,f2,rd⟩:=h2;subst e;refine wpAny_newObj_type ?_;refine wpAny_newEnv_comp ?_;have hb':=hb ⟨s2.heap.objs.size+1,s2,H2,fp ++ [s2.heap.objs.size]⟩
 have rb:=run_block (scope:=sc) (pos:=pos) (iter:=iter) (R:=compPost (model X.prog X.w) X.A X.xe (some (assign (.Name y py) X.env)) (fun _ s'=>SP X pins D .next s') (.ref s2.heap.objs.size) (s2.heap.objs.size+1)) I2 cs ho hc T st2 f2 hb'.1 (gk _) hb'.2.1 hb'.2.2 (rd _) (fun ys H' s' B q=>by
  show wpAny _ X.A (assign (.Name y py) X.env (.ref s2.heap.objs.size)) _ _ s';refine wpAny_assign_Name (store_ok2 (v:= .ref s2.heap.objs.size) B.inv hnd hi' (.inl hy) rfl (fun s'' I'' ⟨a,sb,ha⟩ => ?_) (.inr hy))
  have hne:s2.heap.objs.size+1≠a:=by
   rcases ha with ha | ha
   . rw [ha];exact B.cl
   . exact (B.cc y a ha).symm
  obtain ⟨m,hm⟩:=B.ns;refine ⟨m,hm.sameBut sb hne,fun h' hsb=> ?_⟩;exact ⟨_,_,I''.turned (it:=s2.heap.objs.size+1) (fun b o hb e=>hsb.extBut b o hb e) B.cfree B.cl (.inr B.cn) B.cc B.cp,q⟩)
 have sz:(s2.heap.push accObj).objs.size=s2.heap.objs.size+1:=Heap.size_push ..;show codeAny _ _ (.compStart _ 0 (.ref it) (.ref s2.heap.objs.size) {newEnv sc (s2.heap.push accObj).objs.size X.env.globals (cellsFrom ((s2.heap.push accObj).objs.size+1) sc.names (closL X.env.cells sc.names [])) X.env.qual none .none (some X.env) builtinsNs with scope:=relabel sc X.env}) (compPost _ _ _ _ _ (.ref s2.heap.objs.size) (s2.heap.push accObj).objs.size) _;rw [sz,relabel_eq,ho];exact rb
end
end Tf
namespace Tf
open PySem PySem.Spec PyProof.Rows L2
section
variable {X:Cx}
section
variable {K:PySem.W.Frag} {σ0:L2.St} {g:TG} {tt:TT} {te:TE} {H:Hp} {Q:VK}
theorem Reps.snoc{vs:List V}{ds:List PyData}{v:V}{d:PyData}(h:Reps K H vs ds)(k:Rep K H v d):Reps K H (vs ++ [v]) (ds ++ [d]):=by
 induction vs generalizing ds with
 | nil=>cases h;exact .cons k .nil
 | cons x xs ih=>cases h with | cons a b=>exact .cons a (ih b)
theorem Reps.get:∀ {vs:List V} {ds:List PyData} {i:Nat} {d:PyData},Reps K H vs ds->ds[i]? = some d->∃v,vs[i]? = some v/\Rep K H v d
 | _,_,_,_, .nil,e=>by simp at e
 | _,_,0,_, .cons r _,e=>by simp at e;subst e;exact ⟨_,rfl,r⟩
 | _,_,i+1,d, .cons _ t,e=>by
  obtain ⟨u,h1,h2⟩:=Reps.get (i:=i) (d:=d) t (by simpa using e);exact ⟨u,by simpa using h1,h2⟩
end
end
end Tf
namespace Dm
open PySem PySem.Spec PyProof.Rows L2 Tf
inductive Sl where
 | val (d:PyData)
 | own (ds:List PyData)
 | dct (kvs:List (PyData×PyData))
def Sl.dat:Sl->PyData
 | .val d=>d
 | .own ds=> .list ds
 | .dct kvs=> .dict kvs
abbrev En:=List (Option Sl)
theorem same_upd2{H0 H:Hp}{p:Addr}{o:HO}(h:Same H0 H):Same (upd H0 p o) (upd H p o):=fun b u e=>by
 by_cases hb:b=p
 . subst hb;rw [upd_same] at e ⊢;exact e
 . rw [upd_ne hb] at e ⊢;exact h b u e
def Mu:HO->Prop
 | .tup _=>False
 | _=>True
structure Ext (H0 H H0' H':Hp):Prop where
 s:Same H H'
 s0:Same H0 H0'
 s1:Same H0' H'
 own:∀a o,H a=some o->Mu o->H0 a=none->H0' a=none
theorem Ext.refl{H0 H:Hp}(h:Same H0 H):Ext H0 H H0 H:=⟨Same.refl _,Same.refl _,h,fun _ _ _ _ h=>h⟩
theorem Ext.trans{H0 H H1 J1 H2 J2:Hp}(a:Ext H0 H H1 J1)(b:Ext H1 J1 H2 J2):Ext H0 H H2 J2:=
 ⟨a.s.trans b.s,a.s0.trans b.s0,b.s1,fun x o h m h0=>b.own x o (a.s x o h) m (a.own x o h m h0)⟩
theorem Ext.chain{S0 HB H0 H H1 J1:Hp}(a:Ext S0 HB H0 H)(b:Ext H0 H H1 J1):Ext S0 HB H1 J1:=
 ⟨a.s.trans b.s,a.s0.trans b.s0,b.s1,fun x o h m h0=>b.own x o (a.s x o h) m (a.own x o h m h0)⟩
theorem Ext.rebase{S0 HB H0 H:Hp}(a:Ext S0 HB H0 H):Ext H0 HB H0 H:=⟨a.s,Same.refl _,a.s1,fun _ _ _ _ h=>h⟩
theorem Ext.unbase{S0 HB H0 H H1 J1:Hp}(a:Ext S0 HB H0 H)(b:Ext H0 HB H1 J1):Ext S0 HB H1 J1:=
 ⟨b.s,a.s0.trans b.s0,b.s1,fun x o h m h0=>b.own x o h m (a.own x o h m h0)⟩
theorem Ext.alloc{H0 H:Hp}{p:Addr}(h:Same H0 H)(hp:H p=none)(o:HO):Ext H0 H H0 (upd H p o) :=
 ⟨Same.upd hp o,Same.refl _,h.trans (Same.upd hp o),fun _ _ _ _ h=>h⟩
theorem Ext.allocF{H0 H:Hp}{p:Addr}(h:Same H0 H)(hp:H p=none)(o:HO):Ext H0 H (upd H0 p o) (upd H p o) :=
 ⟨Same.upd hp o,Same.upd (h.free hp) o,same_upd2 h,fun a o' ha _ h0=>by rw [upd_ne (ne_of_none ha hp)];exact h0⟩
section
variable {K:PySem.W.Frag}
def DctR(K:PySem.W.Frag)(H0:Hp)(t:List (List Key×V))(kvs:List (PyData×PyData)):Prop:=∃(ks:List (List Key)) (xs:List V) (ds:List PyData),t=ks.zip xs/\ks.length=xs.length/\Reps K H0 xs ds/\kvs=(ks.map tupD).zip ds
theorem DctR.same{H0 H0':Hp}{t:List (List Key×V)}{kvs:List (PyData×PyData)}(s:Same H0 H0')(h:DctR K H0 t kvs):DctR K H0' t kvs:=by
 obtain ⟨ks,xs,ds,e1,e2,e3,e4⟩:=h;exact ⟨ks,xs,ds,e1,e2,Reps.same s e3,e4⟩
theorem DctR.rep{H:Hp}{a:Addr}{t:List (List Key×V)}{kvs:List (PyData×PyData)}(h:DctR K H t kvs)(e:H a=some (.dT t)):Rep K H (.ref a) (.dict kvs):=by
 obtain ⟨ks,xs,ds,rfl,e2,e3,rfl⟩:=h;exact .dict (.inl e) e2 e3
def SlP(K:PySem.W.Frag)(H0 H:Hp)(v:V):Sl->Prop
 | .val d=>Rep K H0 v d
 | .own ds=>∃a vs,v = .ref a/\H a=some (.lst vs)/\Reps K H0 vs ds
 | .dct kvs=>∃a t,v = .ref a/\H a=some (.dT t)/\DctR K H0 t kvs
def SlH(K:PySem.W.Frag)(HB H0 H:Hp)(v:V):Sl->Prop
 | .val d=>Rep K H0 v d
 | .own ds=>∃a vs,v = .ref a/\HB a=none/\H0 a=none/\H a=some (.lst vs)/\Reps K H0 vs ds
 | .dct kvs=>∃a t,v = .ref a/\HB a=none/\H0 a=none/\H a=some (.dT t)/\DctR K H0 t kvs
theorem SlH.p{HB H0 H:Hp}{v:V}:∀ {s:Sl},SlH K HB H0 H v s->SlP K H0 H v s
 | .val _,h=>h
 | .own _,⟨a,vs,e,_,_,h1,h2⟩=>⟨a,vs,e,h1,h2⟩
 | .dct _,⟨a,vs,e,_,_,h1,h2⟩=>⟨a,vs,e,h1,h2⟩
theorem SlH.base{HB HB' H0 H:Hp}{v:V}(s:Same HB HB'):∀ {r:Sl},SlH K HB' H0 H v r->SlH K HB H0 H v r
 | .val _,h=>h
 | .own _,⟨a,vs,e,h0,h1,h2,h3⟩=>⟨a,vs,e,s.free h0,h1,h2,h3⟩
 | .dct _,⟨a,vs,e,h0,h1,h2,h3⟩=>⟨a,vs,e,s.free h0,h1,h2,h3⟩
theorem SlH.ext{HB H0 H H0' H':Hp}{v:V}(x:Ext H0 H H0' H'):∀ {r:Sl},SlH K HB H0 H v r->SlH K HB H0' H' v r
 | .val _,h=>Rep.same x.s0 h
 | .own _,⟨a,vs,e,h0,h1,h2,h3⟩=>⟨a,vs,e,h0,x.own a _ h2 True.intro h1,x.s _ _ h2,Reps.same x.s0 h3⟩
 | .dct _,⟨a,vs,e,h0,h1,h2,h3⟩=>⟨a,vs,e,h0,x.own a _ h2 True.intro h1,x.s _ _ h2,h3.same x.s0⟩
theorem SlP.ext{H0 H H0' H':Hp}{v:V}(x:Ext H0 H H0' H'):∀ {r:Sl},SlP K H0 H v r->SlP K H0' H' v r
 | .val _,h=>Rep.same x.s0 h
 | .own _,⟨a,vs,e,h2,h3⟩=>⟨a,vs,e,x.s _ _ h2,Reps.same x.s0 h3⟩
 | .dct _,⟨a,vs,e,h2,h3⟩=>⟨a,vs,e,x.s _ _ h2,h3.same x.s0⟩
theorem SlP.rep{H0 H:Hp}{v:V}(s:Same H0 H):∀ {r:Sl},SlP K H0 H v r->Rep K H v r.dat
 | .val _,h=>Rep.same s h
 | .own _,⟨a,vs,e,h2,h3⟩=>by subst e;exact .list (SqL.of h2) (Reps.same s h3)
 | .dct _,⟨a,vs,e,h2,h3⟩=>by subst e;exact (h3.same s).rep h2
theorem SlP.lst{H0 H:Hp}{v:V}{ds:List PyData}(s:Same H0 H):∀ {r:Sl},SlP K H0 H v r->r.dat = .list ds->∃a vs,v = .ref a/\SqL K H a vs/\Reps K H0 vs ds
 | .val _,h,e=>by
  cases h with
  | list h1 h2=>cases e;exact ⟨_,_,rfl,s.seq h1,h2⟩
  | _=>cases e
 | .own _,⟨a,vs,e,h2,h3⟩,e2=>by cases e2;exact ⟨a,vs,e,SqL.of h2,h3⟩
 | .dct _,_,e2=>by cases e2
theorem SlP.tup{H0 H:Hp}{v:V}{ds:List PyData}:∀ {r:Sl},SlP K H0 H v r->r.dat = .tuple ds->∃a vs,v = .ref a/\H0 a=some (.tup vs)/\Reps K H0 vs ds
 | .val _,h,e=>by
  cases h with
  | tuple h1 h2=>cases e;exact ⟨_,_,rfl,h1,h2⟩
  | _=>cases e
 | .own _,_,e=>by cases e
 | .dct _,_,e=>by cases e
theorem SlP.int{H0 H:Hp}{v:V}{i:Int}(h:SlP K H0 H v (.val (.int i))):v = .int i:=by cases (show Rep K H0 v (.int i) from h);rfl
theorem SlP.bool{H0 H:Hp}{v:V}{i:Bool}(h:SlP K H0 H v (.val (.bool i))):v = .bl i:=by cases (show Rep K H0 v (.bool i) from h);rfl
theorem SlP.str{H0 H:Hp}{v:V}{i:Str}(h:SlP K H0 H v (.val (.str i))):v = .str i:=by cases (show Rep K H0 v (.str i) from h);rfl
theorem SlP.none{H0 H:Hp}{v:V}(h:SlP K H0 H v (.val .none)):v = .non:=by cases (show Rep K H0 v .none from h);rfl
structure ER (K:PySem.W.Frag) (HB H0 H:Hp) (σ:L2.St) (ρ:En):Prop where
 len:σ.length=ρ.length
 get:∀(i:Nat) s,ρ[i]? = some (some s)->∃v,σ[i]? = some (some v)/\SlH K HB H0 H v s
 apart:∀(i j:Nat) a ds es,i≠j->ρ[i]? = some (some (.own ds))->ρ[j]? = some (some (.own es))->σ[i]? = some (some (.ref a))->σ[j]? ≠ some (some (.ref a))
theorem ER.ext{HB H0 H H0' H':Hp}{σ:L2.St}{ρ:En}(x:Ext H0 H H0' H')(e:ER K HB H0 H σ ρ):ER K HB H0' H' σ ρ:=
 ⟨e.len,fun i s h=>by obtain ⟨v,h1,h2⟩:=e.get i s h;exact ⟨v,h1,h2.ext x⟩,e.apart⟩
structure Rl where
 r:Hp->Hp->Hp->L2.St->En->Prop
 slot:Nat->Prop
structure ST (R:Rl) (HB H0 H:Hp) (σ:L2.St) (ρ:En):Prop where
 r:R.r HB H0 H σ ρ
class RelOk (K:outParam PySem.W.Frag) (R:Rl):Prop where
 ext:∀ {HB H0 H H0' H':Hp} {σ:L2.St} {ρ:En},Ext H0 H H0' H'->R.r HB H0 H σ ρ->R.r HB H0' H' σ ρ
 get:∀ {HB H0 H:Hp} {σ:L2.St} {ρ:En} {i:Nat} {s:Sl},R.r HB H0 H σ ρ->R.slot i->ρ[i]? = some (some s)->∃v,σ[i]? = some (some v)/\SlH K HB H0 H v s
 set:∀ {HB H0 H H0' H':Hp} {σ:L2.St} {ρ:En} {i:Nat} {v:V} {s:Sl},R.r HB H0 H σ ρ->R.slot i->Ext H0 H H0' H'->Same HB H->SlH K H H0' H' v s->R.r HB H0' H' (σ.set i (some v)) (ρ.set i (some s))
 write:∀ {HB H0 H:Hp} {σ:L2.St} {ρ:En} {i:Nat} {a:Addr} {ds es:List PyData} {vs ys:List V},R.r HB H0 H σ ρ->R.slot i->ρ[i]? = some (some (.own ds))->σ[i]? = some (some (.ref a))->HB a=none->H0 a=none->H a=some (.lst vs)->Reps K H0 ys es->R.r HB H0 (upd H a (.lst ys)) σ (ρ.set i (some (.own es)))
 frz:∀ {S0 HB H0 H:Hp} {σ:L2.St} {ρ:En} {i:Nat} {ds:List PyData},R.r HB H0 H σ ρ->R.slot i->ρ[i]? = some (some (.own ds))->Ext S0 HB H0 H->∃H0',Ext S0 HB H0' H/\R.r HB H0' H σ (ρ.set i (some (.val (.list ds))))
theorem ST.ext{R:Rl} [RelOk K R] {HB H0 H H0' H':Hp} {σ:L2.St} {ρ:En} (x:Ext H0 H H0' H') (e:ST R HB H0 H σ ρ):ST R HB H0' H' σ ρ:=⟨RelOk.ext (K:=K) x e.r⟩
def PR(K:PySem.W.Frag):Rl:=⟨ER K,fun _=>True⟩
variable {R:Rl} [RelOk K R]
def RX{α:Type}(K:PySem.W.Frag)(R:Rl)(P:Hp->Hp->Hp->V->α->Prop)(te:TE)(f:En->Option α):Prop:=
 ∀(HB:Hp) (σ:L2.St) (ρ:En) (H0 H:Hp),Same H0 H->ST R HB H0 H σ ρ->∀r,f ρ=some r->∀Q:VK,(∀v H0' H',Ext H0 H H0' H'->P H H0' H' v r->Q v H')->te σ H Q
abbrev RE (K:PySem.W.Frag) (R:Rl):TE->(En->Option Sl)->Prop:=RX K R (fun H H0' H' v r=>SlH K H H0' H' v r)
abbrev RP (K:PySem.W.Frag) (R:Rl):TE->(En->Option Sl)->Prop:=RX K R (fun _ H0' H' v r=>SlP K H0' H' v r)
abbrev RV (K:PySem.W.Frag) (R:Rl):TE->(En->Option PyData)->Prop:=RX K R (fun _ H0' _ v d=>Rep K H0' v d)
def RT(K:PySem.W.Frag)(R:Rl)(tt:TT)(f:En->Option Bool):Prop:=
 ∀(HB:Hp) (σ:L2.St) (ρ:En) (H0 H:Hp),Same H0 H->ST R HB H0 H σ ρ->∀b,f ρ=some b->∀Q:Bool->Hp->Prop,(∀H0' H',Ext H0 H H0' H'->Q b H')->tt σ H Q
def RA(K:PySem.W.Frag)(R:Rl)(ta:TA)(f:En->Option (List PyData)):Prop:=
 ∀(HB:Hp) (σ:L2.St) (ρ:En) (H0 H:Hp),Same H0 H->ST R HB H0 H σ ρ->∀ds,f ρ=some ds->∀Q:List V->Hp->Prop,(∀vs H0' H',Ext H0 H H0' H'->Reps K H0' vs ds->Q vs H')->ta σ H Q
def RQ(K:PySem.W.Frag)(R:Rl)(ta:TA)(f:En->Option (List Sl)):Prop:=
 ∀(HB:Hp) (σ:L2.St) (ρ:En) (H0 H:Hp),Same H0 H->ST R HB H0 H σ ρ->∀ss,f ρ=some ss->∀Q:List V->Hp->Prop,(∀vs H0' H',Ext H0 H H0' H'->Paired (SlP K H0' H') vs ss->Q vs H')->ta σ H Q
theorem RE.rp{te:TE}{f:En->Option Sl}(h:RE K R te f):RP K R te f:=fun HB σ ρ H0 H s e r hr Q q=>h HB σ ρ H0 H s e r hr Q fun v H0' H' x p=>q v H0' H' x p.p
theorem frz_ext{H0 H H0' H':Hp}{a:Addr}{w:HO}(x:Ext H0 H H0' H')(hn:H a=none)(h1:H0' a=none)(h2:H' a=some w):Ext H0 H (upd H0' a w) H' :=
 ⟨x.s,x.s0.trans (Same.upd h1 _),fun b u e=>by
  by_cases hb:b=a
  . subst hb;rw [upd_same] at e;rw [h2];exact e
  . rw [upd_ne hb] at e;exact x.s1 b u e,fun b o hb m h0=>by
  rw [upd_ne (ne_of_none hb hn)];exact x.own b o hb m h0⟩
def mDat(f:En->Option Sl):En->Option PyData:=fun ρ=>(f ρ).map Sl.dat
theorem RE.rv{te:TE}{f:En->Option Sl}(h:RE K R te f):RV K R te (mDat f):=fun HB σ ρ H0 H s e d hd Q q=>by
 obtain ⟨r,hr,rfl⟩:=Option.map_eq_some_iff.mp hd;refine h HB σ ρ H0 H s e r hr Q fun v H0' H' x p=> ?_
 cases r with
 | val d=>exact q v H0' H' x p
 | own ds=>
  obtain ⟨a,vs,rfl,hn,h1,h2,h3⟩:=p
  exact q _ _ _ (frz_ext x hn h1 h2) (.list (SqL.of upd_same) (Reps.same (Same.upd h1 _) h3))
 | dct kvs=>
  obtain ⟨a,t,rfl,hn,h1,h2,h3⟩:=p;exact q _ _ _ (frz_ext x hn h1 h2) ((h3.same (Same.upd h1 _)).rep upd_same)
def mPk(i:Nat):En->Option Sl:=fun ρ=>(ρ[i]?).join
def mVar(i:Nat):En->Option Sl:=fun ρ=>match (ρ[i]?).join with
 | some (.val d)=>some (.val d)
 | _=>none
def mK(d:PyData):En->Option Sl:=fun _=>some (.val d)
theorem join_some{α:Type}{o:Option (Option α)}{a:α}(h:o.join=some a):o=some (some a):=by
 cases o with
 | none=>cases h
 | some b=>exact congrArg some h
theorem rp_var(i:Nat)(hs:R.slot i):RP K R (tVar i) (mPk i):=fun HB σ ρ H0 H s e r hr Q q=>by
 obtain ⟨v,h1,h2⟩:=RelOk.get (K:=K) e.r hs (join_some hr);exact ⟨v,h1,q v H0 H (Ext.refl s) h2.p⟩
theorem re_var(i:Nat)(hs:R.slot i):RE K R (tVar i) (mVar i):=fun HB σ ρ H0 H s e r hr Q q=>by
 unfold mVar at hr
 cases ej:(ρ[i]?).join with
 | none=>rw [ej] at hr;cases hr
 | some r' =>
  rw [ej] at hr
  cases r' with
  | own _=>cases hr
  | dct _=>cases hr
  | val d=>
   cases hr
   obtain ⟨v,h1,h2⟩:=RelOk.get (K:=K) e.r hs (join_some ej);exact ⟨v,h1,q v H0 H (Ext.refl s) h2⟩
theorem re_k{v:V}{d:PyData}(h:∀H0:Hp,Rep K H0 v d):RE K R (tC v) (mK d):=fun HB σ ρ H0 H s e r hr Q q=>by
 cases hr
 exact q v H0 H (Ext.refl s) (h H0)
def OpD(K:PySem.W.Frag)(r:R2)(op:Sl->Sl->Option Sl):Prop:=
 ∀(H0 H:Hp) (x y:V) (sx sy z:Sl),Same H0 H->SlP K H0 H x sx->SlP K H0 H y sy->op sx sy=some z->∀Q:VK,(∀v H0' H',Ext H0 H H0' H'->SlH K H H0' H' v z->Q v H')->r x y H Q
def UnD(K:PySem.W.Frag)(r:V->Hp->VK->Prop)(op:Sl->Option Sl):Prop:=
 ∀(H0 H:Hp) (x:V) (sx z:Sl),Same H0 H->SlP K H0 H x sx->op sx=some z->∀Q:VK,(∀v H0' H',Ext H0 H H0' H'->SlH K H H0' H' v z->Q v H')->r x H Q
def mBin(op:Sl->Sl->Option Sl)(fa fb:En->Option Sl):En->Option Sl:=fun ρ=>(fa ρ).bind fun a=>(fb ρ).bind fun b=>op a b
def mUn(op:Sl->Option Sl)(fa:En->Option Sl):En->Option Sl:=fun ρ=>(fa ρ).bind op
theorem re_bin{r:R2}{op:Sl->Sl->Option Sl}{ta tb:TE}{fa fb:En->Option Sl}(ho:OpD K r op)(ha:RP K R ta fa)(hb:RP K R tb fb):RE K R (tOp r ta tb) (mBin op fa fb):=fun HB σ ρ H0 H s e z hz Q q=>by
 obtain ⟨x,hx,hz⟩:=Option.bind_eq_some_iff.mp hz;obtain ⟨y,hy,hz⟩:=Option.bind_eq_some_iff.mp hz;refine ha HB σ ρ H0 H s e x hx _ fun v H1 J1 x1 p1=> ?_;refine hb HB σ ρ H1 J1 x1.s1 (e.ext (K:=K) x1) y hy _ fun u H2 J2 x2 p2=> ?_;exact ho H2 J2 v u x y z x2.s1 (p1.ext x2) p2 hz Q fun w H3 J3 x3 p3=>q w H3 J3 ((x1.trans x2).trans x3) (p3.base (x1.trans x2).s)
theorem re_un{r:V->Hp->VK->Prop}{op:Sl->Option Sl}{ta:TE}{fa:En->Option Sl}(ho:UnD K r op)(ha:RP K R ta fa):RE K R (tUn r ta) (mUn op fa):=fun HB σ ρ H0 H s e z hz Q q=>by
 obtain ⟨x,hx,hz⟩:=Option.bind_eq_some_iff.mp hz;refine ha HB σ ρ H0 H s e x hx _ fun v H1 J1 x1 p1=> ?_;exact ho H1 J1 v x z x1.s1 p1 hz Q fun w H3 J3 x3 p3=>q w H3 J3 (x1.trans x3) (p3.base x1.s)
def iop(g:Int->Int->Int):Sl->Sl->Option Sl
 | .val (.int i), .val (.int j)=>some (.val (.int (g i j)))
 | _,_=>none
open Classical in
noncomputable def iopC(C:Int->Int->Prop)(g:Int->Int->Int):Sl->Sl->Option Sl
 | .val (.int i), .val (.int j)=>if C i j then some (.val (.int (g i j))) else none
 | _,_=>none
def icmp(g:Int->Int->Bool):Sl->Sl->Option Sl
 | .val (.int i), .val (.int j)=>some (.val (.bool (g i j)))
 | _,_=>none
def iun(g:Int->Int):Sl->Option Sl
 | .val (.int i)=>some (.val (.int (g i)))
 | _=>none
theorem opd_iopC{C:Int->Int->Prop}{g:Int->Int->Int}:OpD K (rI C fun i j=> .int (g i j)) (iopC C g):=fun H0 H x y sx sy z s px py hz Q q=>by
 unfold iopC at hz
 split at hz
 . split at hz
   . rename_i hc
     cases hz
     exact ⟨_,_,px.int,py.int,hc,q _ _ _ (Ext.refl s) (.int _)⟩
   . cases hz
 . cases hz
theorem opd_icmp{g:Int->Int->Bool}:OpD K (rI0 fun i j=> .bl (g i j)) (icmp g):=fun H0 H x y sx sy z s px py hz Q q=>by
 unfold icmp at hz
 split at hz
 . cases hz
   exact ⟨_,_,px.int,py.int,q _ _ _ (Ext.refl s) (.bool _)⟩
 . cases hz
theorem und_iun{g:Int->Int}:UnD K (rU fun i=> .int (g i)) (iun g):=fun H0 H x sx z s px hz Q q=>by
 unfold iun at hz
 split at hz
 . cases hz
   exact ⟨_,px.int,q _ _ _ (Ext.refl s) (.int _)⟩
 . cases hz
def eqD(a b:PyData):Option Bool:=if a.canLay0=true/\b.canLay0=true/\min a.depth b.depth<=60 then some (PyData.eqv a b) else none
def deq:Sl->Sl->Option Sl:=fun a b=>(eqD a.dat b.dat).map fun k=> .val (.bool k)
def dne:Sl->Sl->Option Sl:=fun a b=>(eqD a.dat b.dat).map fun k=> .val (.bool (!k))
theorem opd_eq:OpD K (rEqD K) deq:=fun H0 H x y sx sy z s px py hz Q q=>by
 obtain ⟨k,hk,rfl⟩:=Option.map_eq_some_iff.mp hz;unfold eqD at hk
 split at hk
 . rename_i hc
   cases hk
   exact ⟨_,_,px.rep s,py.rep s,hc.1,hc.2.1,hc.2.2,q _ _ _ (Ext.refl s) (.bool _)⟩
 . cases hk
theorem opd_ne:OpD K (rNeD K) dne:=fun H0 H x y sx sy z s px py hz Q q=>by
 obtain ⟨k,hk,rfl⟩:=Option.map_eq_some_iff.mp hz;unfold eqD at hk
 split at hk
 . rename_i hc
   cases hk
   exact ⟨_,_,px.rep s,py.rep s,hc.1,hc.2.1,hc.2.2,q _ _ _ (Ext.refl s) (.bool _)⟩
 . cases hk
def isNone:PyData->Bool
 | .none=>true
 | _=>false
def disN:Sl->Sl->Option Sl
 | a, .val .none=>some (.val (.bool (isNone a.dat)))
 | _,_=>none
def disNN:Sl->Sl->Option Sl
 | a, .val .none=>some (.val (.bool (!isNone a.dat)))
 | _,_=>none
def dix:Sl->Sl->Option Sl
 | a, .val (.int i)=>match a.dat with
  | .list ds=>(atI ds i).map .val
  | .tuple ds=>(atI ds i).map .val
  | _=>none
 | _,_=>none
theorem Reps.atI{H:Hp}{vs:List V}{ds:List PyData}{i:Int}{d:PyData}(h:Reps K H vs ds)(e:atI ds i=some d):∃v,atI vs i=some v/\Rep K H v d:=by
 unfold L2.atI at e ⊢
 rw [h.length]
 cases ej:ixN ds.length i with
 | none=>rw [ej] at e;cases e
 | some j=>
  rw [ej] at e
  obtain ⟨v,h1,h2⟩:=Tf.Reps.get h (show ds[j]? = some d from e);exact ⟨v,h1,h2⟩
theorem opd_ix:OpD K (rIx K) dix:=fun H0 H x y sx sy z s px py hz Q q=>by
 unfold dix at hz
 split at hz
 . split at hz
   . rename_i i ds hd;obtain ⟨d,he,rfl⟩:=Option.map_eq_some_iff.mp hz;obtain ⟨a,vs,rfl,h1,h2⟩:=px.lst s hd;obtain ⟨v,h3,h4⟩:=Reps.atI h2 he;exact .inl ⟨a,vs,_,v,rfl,py.int,h1,h3,q _ _ _ (Ext.refl s) h4⟩
   . rename_i i ds hd;obtain ⟨d,he,rfl⟩:=Option.map_eq_some_iff.mp hz;obtain ⟨a,vs,rfl,h1,h2⟩:=px.tup hd;obtain ⟨v,h3,h4⟩:=Reps.atI h2 he;exact .inr (.inl ⟨a,vs,_,v,rfl,py.int,s.seqT (SqT.of h1),h3,q _ _ _ (Ext.refl s) h4⟩)
   . cases hz
 . cases hz
end
end Dm
namespace Dm
open PySem PySem.Spec PyProof.Rows L2 Tf
section
variable {K:PySem.W.Frag} {R:Rl} [RelOk K R]
def mNil:En->Option (List PyData):=fun _=>some []
def mCons(f:En->Option Sl)(g:En->Option (List PyData)):En->Option (List PyData):=fun ρ=>(f ρ).bind fun a=>(g ρ).bind fun as=>some (a.dat::as)
theorem ra_nil:RA K R tNil mNil:=fun HB σ ρ H0 H s e ds hd Q q=>by
 cases hd
 exact q [] H0 H (Ext.refl s) .nil
theorem ra_cons{te:TE}{ta:TA}{f:En->Option Sl}{g:En->Option (List PyData)}(hf:RE K R te f)(hg:RA K R ta g):RA K R (tCons te ta) (mCons f g):=fun HB σ ρ H0 H s e ds hd Q q=>by
 obtain ⟨a,ha,hd⟩:=Option.bind_eq_some_iff.mp hd;obtain ⟨as,has,hd⟩:=Option.bind_eq_some_iff.mp hd
 cases hd
 refine hf.rv HB σ ρ H0 H s e a.dat (by unfold mDat;rw [ha];rfl) _ fun v H1 J1 x1 p1=> ?_;exact hg HB σ ρ H1 J1 x1.s1 (e.ext (K:=K) x1) as has _ fun vs H2 J2 x2 p2=>q _ H2 J2 (x1.trans x2) (.cons (Rep.same x2.s0 p1) p2)
def mNilP:En->Option (List Sl):=fun _=>some []
def mConsP(f:En->Option Sl)(g:En->Option (List Sl)):En->Option (List Sl):=fun ρ=>(f ρ).bind fun a=>(g ρ).bind fun as=>some (a::as)
theorem rq_nil:RQ K R tNil mNilP:=fun HB σ ρ H0 H s e ds hd Q q=>by
 cases hd
 exact q [] H0 H (Ext.refl s) .nil
theorem rq_cons{te:TE}{ta:TA}{f:En->Option Sl}{g:En->Option (List Sl)}(hf:RP K R te f)(hg:RQ K R ta g):RQ K R (tCons te ta) (mConsP f g):=fun HB σ ρ H0 H s e ds hd Q q=>by
 obtain ⟨a,ha,hd⟩:=Option.bind_eq_some_iff.mp hd;obtain ⟨as,has,hd⟩:=Option.bind_eq_some_iff.mp hd
 cases hd
 refine hf HB σ ρ H0 H s e a ha _ fun v H1 J1 x1 p1=> ?_;exact hg HB σ ρ H1 J1 x1.s1 (e.ext (K:=K) x1) as has _ fun vs H2 J2 x2 p2=>q _ H2 J2 (x1.trans x2) (.cons (p1.ext x2) p2)
def mTup(f:En->Option (List PyData)):En->Option Sl:=fun ρ=>(f ρ).bind fun ds=>if ds.length<=sizeLine then some (.val (.tuple ds)) else none
def mLst(f:En->Option (List PyData)):En->Option Sl:=fun ρ=>(f ρ).bind fun ds=>if ds.length<=sizeLine then some (.own ds) else none
theorem re_tup{ta:TA}{f:En->Option (List PyData)}(h:RA K R ta f):RE K R (tTup ta) (mTup f):=fun HB σ ρ H0 H s e z hz Q q=>by
 obtain ⟨ds,hd,hz⟩:=Option.bind_eq_some_iff.mp hz
 split at hz
 . rename_i hl
   cases hz
   refine h HB σ ρ H0 H s e ds hd _ fun vs H1 J1 x1 p1=>⟨by rw [p1.length];exact hl,fun p hp=> ?_⟩;exact q _ _ _ (x1.trans (Ext.allocF x1.s1 hp _)) (.tuple upd_same (Reps.same (Same.upd (x1.s1.free hp) _) p1))
 . cases hz
theorem re_lst{ta:TA}{f:En->Option (List PyData)}(h:RA K R ta f):RE K R (tLst ta) (mLst f):=fun HB σ ρ H0 H s e z hz Q q=>by
 obtain ⟨ds,hd,hz⟩:=Option.bind_eq_some_iff.mp hz
 split at hz
 . rename_i hl
   cases hz
   refine h HB σ ρ H0 H s e ds hd _ fun vs H1 J1 x1 p1=>⟨by rw [p1.length];exact hl,fun p hp=> ?_⟩;exact q _ _ _ (x1.trans (Ext.alloc x1.s1 hp _)) ⟨p,vs,rfl,x1.s.free hp,x1.s1.free hp,upd_same,p1⟩
 . cases hz
def spD(K:PySem.W.Frag)(F:List PyData->Option Sl):Sp:=fun vs H Q _=>∃H0 ds r,Same H0 H/\Reps K H0 vs ds/\F ds=some r/\∀v H0' H',Ext H0 H H0' H'->SlH K H H0' H' v r->Q v H'
def mCall(F:List PyData->Option Sl)(f:En->Option (List PyData)):En->Option Sl:=fun ρ=>(f ρ).bind F
theorem re_call{F:List PyData->Option Sl}{E:XK}{ta:TA}{f:En->Option (List PyData)}(h:RA K R ta f):RE K R (tCall (spD K F) [] E ta) (mCall F f):=fun HB σ ρ H0 H s e z hz Q q=>by
 obtain ⟨ds,hd,hz⟩:=Option.bind_eq_some_iff.mp hz;refine h HB σ ρ H0 H s e ds hd _ fun vs H1 J1 x1 p1=> ?_;rw [List.append_nil];exact ⟨H1,ds,z,x1.s1,p1,hz,fun v H2 J2 x2 p2=>q v H2 J2 (x1.trans x2) (p2.base x1.s)⟩
def CallD(K:PySem.W.Frag)(r:List V->Hp->VK->Prop)(F:List Sl->Option Sl):Prop:=
 ∀(H0 H:Hp) (vs:List V) (ss:List Sl) (z:Sl),Same H0 H->Paired (SlP K H0 H) vs ss->F ss=some z->∀Q:VK,(∀v H0' H',Ext H0 H H0' H'->SlH K H H0' H' v z->Q v H')->r vs H Q
def mCallP(F:List Sl->Option Sl)(f:En->Option (List Sl)):En->Option Sl:=fun ρ=>(f ρ).bind F
theorem re_callB{r:List V->Hp->VK->Prop}{F:List Sl->Option Sl}{ta:TA}{f:En->Option (List Sl)}(hc:CallD K r F)(h:RQ K R ta f):RE K R (tCB r ta) (mCallP F f):=fun HB σ ρ H0 H s e z hz Q q=>by
 obtain ⟨ss,hd,hz⟩:=Option.bind_eq_some_iff.mp hz;refine h HB σ ρ H0 H s e ss hd _ fun vs H1 J1 x1 p1=> ?_;exact hc H1 J1 vs ss z x1.s1 p1 hz Q fun v H2 J2 x2 p2=>q v H2 J2 (x1.trans x2) (p2.base x1.s)
theorem paired1{H0 H:Hp}{vs:List V}{a:Sl}(h:Paired (SlP K H0 H) vs [a]):∃v,vs = [v]/\SlP K H0 H v a:=by
 cases h with | cons h t=>cases t;exact ⟨_,rfl,h⟩
def dLen:List Sl->Option Sl
 | [a]=>match a.dat with
  | .list ds=>some (.val (.int ds.length))
  | .tuple ds=>some (.val (.int ds.length))
  | _=>none
 | _=>none
theorem cd_len:CallD K (fun xs H Q=>∃p ys,xs = [.ref p]/\(SqL K H p ys\/SqT K H p ys)/\Q (.int ys.length) H) dLen:=fun H0 H vs ss z s p hz Q q=>by
 unfold dLen at hz
 split at hz
 . obtain ⟨v,rfl,pa⟩:=paired1 p
   split at hz
   . rename_i ds hd
     cases hz
     obtain ⟨a,vs,rfl,h1,h2⟩:=pa.lst s hd;refine ⟨a,vs,rfl, .inl h1,?_⟩;rw [h2.length];exact q _ _ _ (Ext.refl s) (.int _)
   . rename_i ds hd
     cases hz
     obtain ⟨a,vs,rfl,h1,h2⟩:=pa.tup hd;refine ⟨a,vs,rfl, .inr (s.seqT (SqT.of h1)),?_⟩;rw [h2.length];exact q _ _ _ (Ext.refl s) (.int _)
   . cases hz
 . cases hz
def dAbs:List Sl->Option Sl
 | [.val (.int i)]=>some (.val (.int (if i<0 then -i else i)))
 | _=>none
def dList:List Sl->Option Sl
 | [a]=>match a.dat with
  | .list ds=>some (.own ds)
  | .tuple ds=>some (.own ds)
  | _=>none
 | _=>none
theorem cd_list:CallD K (fun xs H Q=>∃p ys,xs = [.ref p]/\(SqL K H p ys\/SqT K H p ys)/\∀l,H l=none->Q (.ref l) (upd H l (.lst ys))) dList:=fun H0 H vs ss z s p hz Q q=>by
 unfold dList at hz
 split at hz
 . obtain ⟨v,rfl,pa⟩:=paired1 p
   split at hz
   . rename_i ds hd
     cases hz
     obtain ⟨a,vs,rfl,h1,h2⟩:=pa.lst s hd;exact ⟨a,vs,rfl, .inl h1,fun l hl=>q _ _ _ (Ext.alloc s hl _) ⟨l,vs,rfl,hl,s.free hl,upd_same,h2⟩⟩
   . rename_i ds hd
     cases hz
     obtain ⟨a,vs,rfl,h1,h2⟩:=pa.tup hd;exact ⟨a,vs,rfl, .inr (s.seqT (SqT.of h1)),fun l hl=>q _ _ _ (Ext.alloc s hl _) ⟨l,vs,rfl,hl,s.free hl,upd_same,h2⟩⟩
   . cases hz
 . cases hz
def dTuple:List Sl->Option Sl
 | [a]=>match a.dat with
  | .list ds=>some (.val (.tuple ds))
  | .tuple ds=>some (.val (.tuple ds))
  | _=>none
 | _=>none
def intsOf:List PyData->Option (List Int)
 | []=>some []
 | .int i::r=>(intsOf r).map (i :: ·)
 | _::_=>none
theorem intsOf_eq:∀ {ds:List PyData} {ns:List Int},intsOf ds=some ns->ds=ns.map .int
 | [],ns,h=>by cases h;rfl
 | .int i::r,ns,h=>by
  obtain ⟨ms,h1,rfl⟩:=Option.map_eq_some_iff.mp (show (intsOf r).map (i :: ·)=some ns from h);rw [intsOf_eq h1];rfl
theorem reps_ints{H:Hp}:∀ {vs:List V} {ns:List Int},Reps K H vs (ns.map .int)->vs=ns.map .int
 | _,[],h=>by cases h;rfl
 | _,n::r,h=>by
  cases h with
  | cons h t=>cases h;rw [reps_ints t];rfl
def dInt:List Sl->Option Sl
 | [.val (.int i)]=>some (.val (.int i))
 | [.val (.bool k)]=>some (.val (.int (if k then 1 else 0)))
 | _=>none
def tyD:PyData->Option String
 | .none=>some "NoneType"
 | .bool _=>some "bool"
 | .int _=>some "int"
 | .str _=>some "str"
 | .list _=>some "list"
 | .tuple _=>some "tuple"
 | _=>none
theorem tyD_of{H:Hp}{v:V}{d:PyData}(h:Rep K H v d)(hn:(tyD d).isSome=true):∃t,tyD d=some t/\TyV K H v t:=by
 cases h with
 | none=>exact ⟨_,rfl, .non⟩
 | bool b=>exact ⟨_,rfl, .bl b⟩
 | int i=>exact ⟨_,rfl, .int i⟩
 | str x=>exact ⟨_,rfl, .str x⟩
 | list h _=>exact ⟨_,rfl, .lst h⟩
 | tuple h _=>exact ⟨_,rfl, .tup (SqT.of h)⟩
 | dict h _ _=>cases hn
 | dictF h _ _=>cases hn
def isiD(n:String)(t:String):Option Bool:=
 if n = "int" then some (t == "int" || t == "bool") else if n = "bool" \/ n = "str" \/ n = "list" \/ n = "tuple" then some (t==n) else none
def mIsi(n:String)(f:En->Option Sl):En->Option Sl:=fun ρ=>(f ρ).bind fun a=>(tyD a.dat).bind fun t=>(isiD n t).map fun b=> .val (.bool b)
theorem re_isi {te:TE} {f:En->Option Sl} {n:String} (hk:∀t b,isiD n t=some b->(t = "NoneType" \/ t = "bool" \/ t = "int" \/ t = "str" \/ t = "list" \/ t = "tuple")->PySem.W.kitOne K (.type t) (.type n)=some b) (h:RP K R te f):RE K R (tCB (rIsI K) (tCons te (tCons (tC (.ty n)) tNil))) (mIsi n f):=fun HB σ ρ H0 H s e z hz Q q=>by
 obtain ⟨a,ha,hz⟩:=Option.bind_eq_some_iff.mp hz;obtain ⟨t,ht,hz⟩:=Option.bind_eq_some_iff.mp hz;obtain ⟨b,hb,rfl⟩:=Option.map_eq_some_iff.mp hz;refine h HB σ ρ H0 H s e a ha _ fun v H1 J1 x1 p1=> ?_;obtain ⟨t',ht',ty⟩:=tyD_of (p1.rep x1.s1) (by rw [ht];rfl);rw [ht] at ht'
 cases ht'
 refine ⟨v,n,t,b,rfl,ty,hk t b hb ?_,q _ _ _ x1 (.bool _)⟩
 cases ty <;> simp
def mTest(f:En->Option Sl):En->Option Bool:=fun ρ=>(f ρ).bind fun a=>match a with
 | .val (.bool b)=>some b
 | _=>none
theorem mTest_some{f:En->Option Sl}{ρ:En}{b:Bool}(h:mTest f ρ=some b):f ρ=some (.val (.bool b)):=by
 obtain ⟨a,ha,h⟩:=Option.bind_eq_some_iff.mp h;rw [ha]
 split at h
 . cases h;rfl
 . cases h
theorem rt_test{te:TE}{f:En->Option Sl}(h:RP K R te f):RT K R (tTest te) (mTest f):=fun HB σ ρ H0 H s e b hb Q q=>
 h HB σ ρ H0 H s e _ (mTest_some hb) _ fun v H1 J1 x1 p1=>⟨b,p1.bool,q _ _ x1⟩
theorem rt_b{te:TE}{f:En->Option Sl}(h:RP K R te f):RT K R (tB te) (mTest f):=fun HB σ ρ H0 H s e b hb Q q=>
 h HB σ ρ H0 H s e _ (mTest_some hb) _ fun v H1 J1 x1 p1=>⟨b,p1.bool,q _ _ x1⟩
def mAnd(f g:En->Option Bool):En->Option Bool:=fun ρ=>(f ρ).bind fun b=>if b then g ρ else some false
def mOr(f g:En->Option Bool):En->Option Bool:=fun ρ=>(f ρ).bind fun b=>if b then some true else g ρ
def mNot(f:En->Option Bool):En->Option Bool:=fun ρ=>(f ρ).map (!·)
theorem rt_and{t u:TT}{f g:En->Option Bool}(h:RT K R t f)(k:RT K R u g):RT K R (tAnd t u) (mAnd f g):=fun HB σ ρ H0 H s e b hb Q q=>by
 obtain ⟨c,hc,hb⟩:=Option.bind_eq_some_iff.mp hb;refine h HB σ ρ H0 H s e c hc _ fun H1 J1 x1=> ?_
 cases c with
 | true=>exact iteT (k HB σ ρ H1 J1 x1.s1 (e.ext (K:=K) x1) b hb Q fun H2 J2 x2=>q _ _ (x1.trans x2))
 | false=>cases hb;exact iteF (q _ _ x1)
theorem rt_or{t u:TT}{f g:En->Option Bool}(h:RT K R t f)(k:RT K R u g):RT K R (tOr t u) (mOr f g):=fun HB σ ρ H0 H s e b hb Q q=>by
 obtain ⟨c,hc,hb⟩:=Option.bind_eq_some_iff.mp hb;refine h HB σ ρ H0 H s e c hc _ fun H1 J1 x1=> ?_
 cases c with
 | false=>exact iteF (k HB σ ρ H1 J1 x1.s1 (e.ext (K:=K) x1) b hb Q fun H2 J2 x2=>q _ _ (x1.trans x2))
 | true=>cases hb;exact iteT (q _ _ x1)
theorem rt_not{t:TT}{f:En->Option Bool}(h:RT K R t f):RT K R (tNot t) (mNot f):=fun HB σ ρ H0 H s e b hb Q q=>by
 obtain ⟨c,hc,rfl⟩:=Option.map_eq_some_iff.mp hb;exact h HB σ ρ H0 H s e c hc _ fun H1 J1 x1=>q _ _ x1
def mAndV(f g:En->Option Sl):En->Option Sl:=fun ρ=>(mTest f ρ).bind fun b=>if b then g ρ else some (.val (.bool false))
def mOrV(f g:En->Option Sl):En->Option Sl:=fun ρ=>(mTest f ρ).bind fun b=>if b then some (.val (.bool true)) else g ρ
def mNotV(f:En->Option Sl):En->Option Sl:=fun ρ=>(mTest f ρ).map fun b=> .val (.bool (!b))
theorem re_andV{t u:TE}{f g:En->Option Sl}(h:RP K R t f)(k:RE K R u g):RE K R (tAndV t u) (mAndV f g):=fun HB σ ρ H0 H s e z hz Q q=>by
 obtain ⟨c,hc,hz⟩:=Option.bind_eq_some_iff.mp hz;refine h HB σ ρ H0 H s e _ (mTest_some hc) _ fun v H1 J1 x1 p1=>⟨c,p1.bool,?_⟩
 cases c with
 | true=>exact iteT (k HB σ ρ H1 J1 x1.s1 (e.ext (K:=K) x1) z hz Q fun v H2 J2 x2 p2=>q _ _ _ (x1.trans x2) (p2.base x1.s))
 | false=>cases hz;exact iteF (q _ _ _ x1 (.bool _))
theorem re_notV{t:TE}{f:En->Option Sl}(h:RP K R t f):RE K R (tNotV t) (mNotV f):=fun HB σ ρ H0 H s e z hz Q q=>by
 obtain ⟨c,hc,rfl⟩:=Option.map_eq_some_iff.mp hz;exact h HB σ ρ H0 H s e _ (mTest_some hc) _ fun v H1 J1 x1 p1=>⟨c,p1.bool,q _ _ _ x1 (.bool _)⟩
def mIfE(c:En->Option Bool)(f g:En->Option Sl):En->Option Sl:=fun ρ=>(c ρ).bind fun b=>if b then f ρ else g ρ
def RO(K:PySem.W.Frag)(R:Rl)(to:TO)(f:En->Option (Option Int)):Prop:=
 ∀(HB:Hp) (σ:L2.St) (ρ:En) (H0 H:Hp),Same H0 H->ST R HB H0 H σ ρ->∀o,f ρ=some o->∀Q:Option Int->Hp->Prop,(∀H0' H',Ext H0 H H0' H'->Q o H')->to σ H Q
def mNoPart:En->Option (Option Int):=fun _=>some none
def mPart(f:En->Option Sl):En->Option (Option Int):=fun ρ=>(f ρ).bind fun a=>match a with
 | .val (.int i)=>some (some i)
 | _=>none
theorem ro_none:RO K R tNoPart mNoPart:=fun HB σ ρ H0 H s e o ho Q q=>by cases ho;exact q _ _ (Ext.refl s)
theorem ro_some{te:TE}{f:En->Option Sl}(h:RP K R te f):RO K R (tPart te) (mPart f):=fun HB σ ρ H0 H s e o ho Q q=>by
 obtain ⟨a,ha,ho⟩:=Option.bind_eq_some_iff.mp ho
 split at ho
 . cases ho
   exact h HB σ ρ H0 H s e _ ha _ fun v H1 J1 x1 p1=>⟨_,p1.int,q _ _ x1⟩
 . cases ho
def cutD{α:Type}(xs:List α)(lo hi:Option Int):List α:=(xs.drop (HT.sIx xs.length 0 lo)).take (HT.sIx xs.length xs.length hi - HT.sIx xs.length 0 lo)
theorem Reps.drop{H:Hp}:∀ {vs:List V} {ds:List PyData} (n:Nat),Reps K H vs ds->Reps K H (vs.drop n) (ds.drop n)
 | _,_,0,h=>h
 | _,_,_+1, .nil=> .nil
 | _,_,n+1, .cons _ t=>Reps.drop n t
theorem Reps.take{H:Hp}:∀ {vs:List V} {ds:List PyData} (n:Nat),Reps K H vs ds->Reps K H (vs.take n) (ds.take n)
 | _,_,0,_=> .nil
 | _,_,_+1, .nil=> .nil
 | _,_,n+1, .cons h t=> .cons h (Reps.take n t)
theorem Reps.cut{H:Hp}{vs:List V}{ds:List PyData}(h:Reps K H vs ds)(lo hi:Option Int):Reps K H (cutV vs lo hi) (cutD ds lo hi):=by
 unfold cutV cutD;rw [h.length];exact Reps.take _ (Reps.drop _ h)
def dSl(a:Sl)(lo hi:Option Int):Option Sl:=match a.dat with
 | .list ds=>some (.own (cutD ds lo hi))
 | .tuple ds=>if HT.sIx ds.length 0 lo=0/\HT.sIx ds.length ds.length hi=ds.length then none else some (.val (.tuple (cutD ds lo hi)))
 | _=>none
def mSl(f:En->Option Sl)(l h:En->Option (Option Int)):En->Option Sl:=fun ρ=>(f ρ).bind fun a=>(l ρ).bind fun lo=>(h ρ).bind fun hi=>dSl a lo hi
theorem re_sl{te:TE}{tl th:TO}{f:En->Option Sl}{fl fh:En->Option (Option Int)}(h:RP K R te f)(hl:RO K R tl fl)(hh:RO K R th fh):RE K R (tSl (fun x lo hi H Q=>rSlL K x lo hi H Q\/rSlT K x lo hi H Q) te tl th) (mSl f fl fh):=fun HB σ ρ H0 H s e z hz Q q=>by
 obtain ⟨a,ha,hz⟩:=Option.bind_eq_some_iff.mp hz;obtain ⟨lo,hlo,hz⟩:=Option.bind_eq_some_iff.mp hz;obtain ⟨hi,hhi,hz⟩:=Option.bind_eq_some_iff.mp hz;refine h HB σ ρ H0 H s e a ha _ fun v H1 J1 x1 p1=> ?_;refine hl HB σ ρ H1 J1 x1.s1 (e.ext (K:=K) x1) lo hlo _ fun H2 J2 x2=> ?_;refine hh HB σ ρ H2 J2 x2.s1 ((e.ext (K:=K) x1).ext (K:=K) x2) hi hhi _ fun H3 J3 x3=> ?_;have x:=(x1.trans x2).trans x3;have p:=p1.ext (x2.trans x3);unfold dSl at hz
 split at hz
 . rename_i ds hd
   cases hz
   obtain ⟨b,vs,rfl,h1,h2⟩:=p.lst x.s1 hd;exact .inl ⟨b,vs,rfl,h1,fun l hl=>q _ _ _ (x.trans (Ext.alloc x.s1 hl _)) ⟨l,_,rfl,x.s.free hl,x.s1.free hl,upd_same,Reps.cut h2 lo hi⟩⟩
 . rename_i ds hd
   split at hz
   . cases hz
   . rename_i hw
     cases hz
     obtain ⟨b,vs,rfl,h1,h2⟩:=p.tup hd;refine .inr ⟨b,vs,rfl,x.s1.seqT (SqT.of h1),by rw [h2.length];exact hw,fun l hl=>q _ _ _ (x.trans (Ext.allocF x.s1 hl _)) (.tuple upd_same (Reps.same (Same.upd (x.s1.free hl) _) (Reps.cut h2 lo hi)))⟩
 . cases hz
end
end Dm
namespace Dm
open PySem PySem.Spec PyProof.Rows L2 Tf
inductive Out where
 | nx (ρ:En) | rt (r:Sl) (ρ:En) | bk (ρ:En) | ct (ρ:En)
section
variable {K:PySem.W.Frag} {R:Rl} [RelOk K R]
def EndR(K:PySem.W.Frag)(R:Rl)(HB S0:Hp)(D:Ends):Out->Prop
 | .nx ρ=>∀σ H0 H,Ext S0 HB H0 H->ST R HB H0 H σ ρ->D.nx σ H
 | .bk ρ=>∀σ H0 H,Ext S0 HB H0 H->ST R HB H0 H σ ρ->D.bk σ H
 | .ct ρ=>∀σ H0 H,Ext S0 HB H0 H->ST R HB H0 H σ ρ->D.ct σ H
 | .rt r ρ=>∀v σ H0 H,Ext S0 HB H0 H->ST R HB H0 H σ ρ->SlH K HB H0 H v r->D.rt v H
def RS(K:PySem.W.Frag)(R:Rl)(ts:TS)(g:En->Option Out):Prop:=
 ∀(HB S0:Hp) (σ:L2.St) (ρ:En) (H0 H:Hp),Ext S0 HB H0 H->ST R HB H0 H σ ρ->∀o,g ρ=some o->∀D:Ends,EndR K R HB S0 D o->ts D σ H
def mNext:En->Option Out:=fun ρ=>some (.nx ρ)
def mBrk:En->Option Out:=fun ρ=>some (.bk ρ)
def mCt:En->Option Out:=fun ρ=>some (.ct ρ)
def mRetN:En->Option Out:=fun ρ=>some (.rt (.val .none) ρ)
theorem rs_next:RS K R tNext mNext:=fun HB S0 σ ρ H0 H x e o ho D d=>by cases ho;exact d σ H0 H x e
def mSeq(f g:En->Option Out):En->Option Out:=fun ρ=>(f ρ).bind fun o=>match o with
 | .nx ρ'=>g ρ'
 | o=>some o
theorem rs_seq{t u:TS}{f g:En->Option Out}(h:RS K R t f)(k:RS K R u g):RS K R (tSeq t u) (mSeq f g):=fun HB S0 σ ρ H0 H x e o ho D d=>by
 obtain ⟨o1,h1,ho⟩:=Option.bind_eq_some_iff.mp ho;refine h HB S0 σ ρ H0 H x e o1 h1 { D with nx:=u D} ?_
 cases o1 with
 | nx ρ'=>exact fun σ' H0' H' x' e'=>k HB S0 σ' ρ' H0' H' x' e' o ho D d
 | rt r _=>cases ho;exact d
 | bk r=>cases ho;exact d
 | ct r=>cases ho;exact d
theorem ER.set{HB H0 H H0' H':Hp}{σ:L2.St}{ρ:En}{i:Nat}{v:V}{r:Sl}(e:ER K HB H0 H σ ρ)(x:Ext H0 H H0' H')(sb:Same HB H)(h:SlH K H H0' H' v r):ER K HB H0' H' (σ.set i (some v)) (ρ.set i (some r)):=by
 have e':=e.ext x;refine ⟨by rw [List.length_set,List.length_set];exact e.len,fun j s hs=> ?_,fun j k a ds es hjk hj hk h1 h2=> ?_⟩
 . by_cases hj:i=j
   . subst hj;rw [List.getElem?_set_self'] at hs ⊢
     cases hq:ρ[i]? with
     | none=>rw [hq] at hs;cases hs
     | some q=>
      rw [hq] at hs
      have hi:i<σ.length:=by rw [e.len];exact (List.getElem?_eq_some_iff.mp hq).1
      rw [List.getElem?_eq_getElem hi]
      cases hs
      exact ⟨v,rfl,h.base sb⟩
   . rw [List.getElem?_set_ne hj] at hs ⊢
     exact e'.get j s hs
 . have key : ∀ (j' k' : Nat) (b : Addr) ds' es', i = j' -> i ≠ k' -> (ρ.set i (some r))[j']? = some (some (.own ds')) -> ρ[k']? = some (some (.own es')) -> (σ.set i (some v))[j']? = some (some (.ref b)) -> σ[k']? ≠ some (some (.ref b)) := by
    clear hj hk h1 h2 hjk;intro j' k' b ds' es' hij hik hj hk h1 h2;subst hij;rw [List.getElem?_set_self'] at hj h1
    cases hq:ρ[i]? with
    | none=>rw [hq] at hj;cases hj
    | some q=>
     rw [hq] at hj
     cases hj
     have hi:i<σ.length:=by rw [e.len];exact (List.getElem?_eq_some_iff.mp hq).1
     rw [List.getElem?_eq_getElem hi] at h1
     cases h1
     obtain ⟨a',vs,ea,hn,_⟩:=h
     cases ea
     obtain ⟨w,hw,hb⟩:=e.get k' _ hk;rw [h2] at hw
     cases hw
     obtain ⟨b',ws,eb,_,_,hs,_⟩:=hb
     cases eb
     rw [hn] at hs
     cases hs
   by_cases hij:i=j
   . have hik:i≠k:=fun z=>hjk (hij.symm.trans z);rw [List.getElem?_set_ne hik] at hk h2
     exact key j k a ds es hij hik hj hk h1 h2
   . rw [List.getElem?_set_ne hij] at hj h1
     by_cases hik:i=k
     . exact key k j a es ds hik hij hk hj h2 h1
     . rw [List.getElem?_set_ne hik] at hk h2
       exact e.apart j k a ds es hjk hj hk h1 h2
def mAsg(i:Nat)(f:En->Option Sl):En->Option Out:=fun ρ=>(f ρ).map fun r=> .nx (ρ.set i (some r))
theorem rs_asg{te:TE}{f:En->Option Sl}{i:Nat}(hsl:R.slot i)(h:RE K R te f):RS K R (tAsg te (gName i)) (mAsg i f):=fun HB S0 σ ρ H0 H x e o ho D d=>by
 obtain ⟨r,hr,rfl⟩:=Option.map_eq_some_iff.mp ho;exact h HB σ ρ H0 H x.s1 e r hr _ fun v H1 J1 x1 p1=>d _ H1 J1 (x.chain x1) ⟨RelOk.set e.r hsl x1 x.s p1⟩
theorem rs_asgC{te:TE}{f:En->Option Sl}{i:Nat}(hsl:R.slot i)(h:RE K R te f):RS K R (tSetC i te) (mAsg i f):=fun HB S0 σ ρ H0 H x e o ho D d=>by
 obtain ⟨r,hr,rfl⟩:=Option.map_eq_some_iff.mp ho;exact h HB σ ρ H0 H x.s1 e r hr _ fun v H1 J1 x1 p1=>d _ H1 J1 (x.chain x1) ⟨RelOk.set e.r hsl x1 x.s p1⟩
def mRet(f:En->Option Sl):En->Option Out:=fun ρ=>(f ρ).map fun r=> .rt r ρ
theorem rs_ret{te:TE}{f:En->Option Sl}(h:RE K R te f):RS K R (tRet te) (mRet f):=fun HB S0 σ ρ H0 H x e o ho D d=>by
 obtain ⟨r,hr,rfl⟩:=Option.map_eq_some_iff.mp ho;exact h HB σ ρ H0 H x.s1 e r hr _ fun v H1 J1 x1 p1=>d v σ H1 J1 (x.chain x1) (e.ext (K:=K) x1) (p1.base x.s)
theorem rs_retV(i:Nat)(hsl:R.slot i):RS K R (tRet (tVar i)) (mRet (mPk i)):=fun HB S0 σ ρ H0 H x e o ho D d=>by
 obtain ⟨r,hr,rfl⟩:=Option.map_eq_some_iff.mp ho;obtain ⟨v,h1,h2⟩:=RelOk.get (K:=K) e.r hsl (join_some hr);exact ⟨v,h1,d v σ H0 H x e h2⟩
def mIf(c:En->Option Bool)(f g:En->Option Out):En->Option Out:=fun ρ=>(c ρ).bind fun b=>if b then f ρ else g ρ
theorem rs_if{c:TT}{t u:TS}{fc:En->Option Bool}{f g:En->Option Out}(hc:RT K R c fc)(h:RS K R t f)(k:RS K R u g):RS K R (tIfS c t u) (mIf fc f g):=fun HB S0 σ ρ H0 H x e o ho D d=>by
 obtain ⟨b,hb,ho⟩:=Option.bind_eq_some_iff.mp ho;refine hc HB σ ρ H0 H x.s1 e b hb _ fun H1 J1 x1=> ?_
 cases b with
 | true=>exact iteT (h HB S0 σ ρ H1 J1 (x.chain x1) (e.ext (K:=K) x1) o ho D d)
 | false=>exact iteF (k HB S0 σ ρ H1 J1 (x.chain x1) (e.ext (K:=K) x1) o ho D d)
def mDrop(f:En->Option Sl):En->Option Out:=fun ρ=>(f ρ).map fun _=> .nx ρ
theorem Ext.write{S0 HB H0 H:Hp}{a:Addr}(x:Ext S0 HB H0 H)(hb:HB a=none)(h0:H0 a=none)(o:HO):Ext S0 HB H0 (upd H a o) :=
 ⟨fun b u e=>by rw [upd_ne (ne_of_none e hb)];exact x.s b u e,x.s0,fun b u e=>by rw [upd_ne (ne_of_none e h0)];exact x.s1 b u e,x.own⟩
theorem ER.write {HB H0 H : Hp} {σ : L2.St} {ρ : En} {i : Nat} {a : Addr} {ds es : List PyData} {ys : List V} (e : ER K HB H0 H σ ρ) (hi : ρ[i]? = some (some (.own ds))) (hs : σ[i]? = some (some (.ref a))) (hb : HB a = none) (h0 : H0 a = none) (hr : Reps K H0 ys es) :
 ER K HB H0 (upd H a (.lst ys)) σ (ρ.set i (some (.own es))):=by
 have own:∀(j:Nat),∀ts,(ρ.set i (some (.own es)))[j]? = some (some (.own ts))->∃ts',ρ[j]? = some (some (.own ts')):=by
  intro j ts h
  by_cases hj:i=j
  . subst hj;exact ⟨_,hi⟩
  . rw [List.getElem?_set_ne hj] at h;exact ⟨_,h⟩
 refine ⟨by rw [List.length_set];exact e.len,fun j s hq=> ?_,fun j k b ts us hjk hj hk h1 h2=> ?_⟩
 . by_cases hj:i=j
   . subst hj;rw [List.getElem?_set_self',hi] at hq
     cases hq
     exact ⟨.ref a,hs,a,ys,rfl,hb,h0,upd_same,hr⟩
   . rw [List.getElem?_set_ne hj] at hq
     obtain ⟨v,h1,h2⟩:=e.get j s hq;refine ⟨v,h1,?_⟩
     cases s with
     | val d=>exact h2
     | own ts=>
      obtain ⟨b,vs,rfl,g1,g2,g3,g4⟩:=h2;refine ⟨b,vs,rfl,g1,g2,?_,g4⟩;rw [upd_ne]
      . exact g3
      . rintro rfl
        exact e.apart i j b ds ts hj hi hq hs h1
     | dct ts=>
      obtain ⟨b,t,rfl,g1,g2,g3,g4⟩:=h2;refine ⟨b,t,rfl,g1,g2,?_,g4⟩;rw [upd_ne]
      . exact g3
      . rintro rfl;obtain ⟨v',hs',a',vs',e',_,_,g5,_⟩:=e.get i _ hi;rw [hs] at hs'
        cases hs'
        cases e'
        rw [g3] at g5
        cases g5
 . obtain ⟨ts',hj⟩:=own j ts hj;obtain ⟨us',hk⟩:=own k us hk;exact e.apart j k b ts' us' hjk hj hk h1 h2
def mApp(i:Nat)(f:En->Option Sl):En->Option Out:=fun ρ=>match (ρ[i]?).join with
 | some (.own ds)=>(f ρ).bind fun r=>if ds.length<sizeLine then some (.nx (ρ.set i (some (.own (ds ++ [r.dat]))))) else none
 | _=>none
theorem own_of {HB H0 H : Hp} {σ : L2.St} {ρ : En} {i : Nat} {ds : List PyData} (e : ST R HB H0 H σ ρ) (hsl : R.slot i) (h : (ρ[i]?).join = some (.own ds)) :
 ∃a vs,ρ[i]? = some (some (.own ds))/\σ[i]? = some (some (.ref a))/\HB a=none/\H0 a=none/\H a=some (.lst vs)/\Reps K H0 vs ds:=by
 obtain ⟨v,h1,a,vs,rfl,g1,g2,g3,g4⟩:=RelOk.get (K:=K) e.r hsl (join_some h);exact ⟨a,vs,join_some h,h1,g1,g2,g3,g4⟩
theorem rs_app{te:TE}{f:En->Option Sl}{i:Nat}(hsl:R.slot i)(h:RE K R te f):RS K R (tDrop (tBM K "list" rAppend (tVar i) (tCons te tNil))) (mApp i f):=fun HB S0 σ ρ H0 H x e o ho D d=>by
 unfold mApp at ho
 split at ho
 . rename_i ds hj;obtain ⟨r,hr,ho⟩:=Option.bind_eq_some_iff.mp ho
   split at ho
   . rename_i hl
     cases ho
     obtain ⟨a,vs,hi,hs,g1,g2,g3,g4⟩:=own_of (K:=K) e hsl hj;refine ⟨.ref a,hs, .inl ⟨rfl,vs,SqL.of g3⟩,?_⟩;refine h.rv HB σ ρ H0 H x.s1 e r.dat (by unfold mDat;rw [hr];rfl) _ fun v H1 J1 x1 p1=> ?_;have l0:=x1.own a _ g3 True.intro g2;refine ⟨a,vs,v,rfl,rfl,x1.s _ _ g3,by rw [g4.length];exact hl,?_⟩;exact d σ H1 _ ((x.chain x1).write g1 l0 _) ⟨RelOk.write (K:=K) (e.ext (K:=K) x1).r hsl hi hs g1 l0 (x1.s _ _ g3) (Tf.Reps.snoc (Reps.same x1.s0 g4) p1)⟩
   . cases ho
 . cases ho
def mSet(i:Nat)(fj f:En->Option Sl):En->Option Out:=fun ρ=>(f ρ).bind fun r=>match (ρ[i]?).join with
 | some (.own ds)=>(fj ρ).bind fun k=>match k with
  | .val (.int k)=>(ixN ds.length k).map fun j=> .nx (ρ.set i (some (.own (ds.set j r.dat))))
  | _=>none
 | _=>none
theorem Reps.set{H:Hp}{v:V}{d:PyData}(r:Rep K H v d):∀ {vs:List V} {ds:List PyData} (i:Nat),Reps K H vs ds->Reps K H (vs.set i v) (ds.set i d)
 | _,_,_, .nil=> .nil
 | _,_,0, .cons _ t=> .cons r t
 | _,_,i+1, .cons q t=> .cons q (Reps.set r i t)
def frz1(i:Nat)(ρ:En):En:=match (ρ[i]?).join with
 | some (.own ds)=>ρ.set i (some (.val (.list ds)))
 | _=>ρ
def mFrz(i:Nat)(g:En->Option Out):En->Option Out:=fun ρ=>g (frz1 i ρ)
theorem ER.frz{S0 HB H0 H:Hp}{σ:L2.St}{ρ:En}{i:Nat}{ds:List PyData}(e:ER K HB H0 H σ ρ)(hi:ρ[i]? = some (some (.own ds)))(x:Ext S0 HB H0 H):∃a vs,H a=some (.lst vs)/\Ext S0 HB (upd H0 a (.lst vs)) H/\ER K HB (upd H0 a (.lst vs)) H σ (ρ.set i (some (.val (.list ds)))):=by
 obtain ⟨v,hs,a,vs,rfl,g1,g2,g3,g4⟩:=e.get i _ hi;have s0:Same H0 (upd H0 a (.lst vs)):=Same.upd g2 _
 have x' : Ext S0 HB (upd H0 a (.lst vs)) H := ⟨x.s, x.s0.trans s0, fun b u q => by
  by_cases hb:b=a
  . subst hb;rw [upd_same] at q;rw [g3];exact q
  . rw [upd_ne hb] at q;exact x.s1 b u q,fun b u q m q0=>by rw [upd_ne (ne_of_none q g1)];exact x.own b u q m q0⟩
 refine ⟨a,vs,g3,x',⟨by rw [List.length_set];exact e.len,fun j s hq=> ?_,fun j k b ts us hjk h1 h2 h3 h4=> ?_⟩⟩
 . by_cases hij:i=j
   . subst hij;rw [List.getElem?_set_self',hi] at hq
     cases hq
     exact ⟨.ref a,hs, .list (SqL.of upd_same) (Reps.same s0 g4)⟩
   . rw [List.getElem?_set_ne hij] at hq
     obtain ⟨v,h1,h2⟩:=e.get j s hq;refine ⟨v,h1,?_⟩
     cases s with
     | val d=>exact Rep.same s0 h2
     | own ts=>
      obtain ⟨b,ws,rfl,q1,q2,q3,q4⟩:=h2;refine ⟨b,ws,rfl,q1,?_,q3,Reps.same s0 q4⟩;rw [upd_ne]
      . exact q2
      . rintro rfl
        exact e.apart i j b ds ts hij hi hq hs h1
     | dct ts=>
      obtain ⟨b,t,rfl,q1,q2,q3,q4⟩:=h2;refine ⟨b,t,rfl,q1,?_,q3,q4.same s0⟩;rw [upd_ne]
      . exact q2
      . rintro rfl;rw [q3] at g3
        cases g3
 . have hij : i ≠ j := by
    rintro rfl;rw [List.getElem?_set_self',hi] at h1
    cases h1
   have hik:i≠k:=by
    rintro rfl;rw [List.getElem?_set_self',hi] at h2
    cases h2
   rw [List.getElem?_set_ne hij] at h1
   rw [List.getElem?_set_ne hik] at h2
   exact e.apart j k b ts us hjk h1 h2 h3 h4
instance relOk_PR:RelOk K (PR K) where
 ext:=fun x e=>ER.ext x e
 get:=fun e _ h=>ER.get e _ _ h
 set:=fun e _ x s h=>ER.set e x s h
 write:=fun e _ h1 h2 h3 h4 _ h5=>ER.write e h1 h2 h3 h4 h5
 frz:=fun e _ h x=>by obtain ⟨a,vs,_,h1,h2⟩:=ER.frz e h x;exact ⟨_,h1,h2⟩
theorem rs_frz{ts:TS}{g:En->Option Out}(i:Nat)(hsl:R.slot i)(h:RS K R ts g):RS K R ts (mFrz i g):=fun HB S0 σ ρ H0 H x e o ho D d=>by
 unfold mFrz frz1 at ho
 split at ho
 . rename_i ds hj;obtain ⟨H0',x',e'⟩:=RelOk.frz (K:=K) e.r hsl (join_some hj) x;exact h HB S0 σ _ H0' H x' ⟨e'⟩ o ho D d
 . exact h HB S0 σ ρ H0 H x e o ho D d
def RG(K:PySem.W.Frag)(R:Rl)(g:TG)(fg:PyData->En->Option En):Prop:=
 ∀(HB:Hp) (σ:L2.St) (ρ ρ':En) (H0 H:Hp) (v:V) (d:PyData),Same H0 H->Same HB H->ST R HB H0 H σ ρ->Rep K H0 v d->fg d ρ=some ρ'->∀Q:L2.St->Hp->Prop,(∀σ',ST R HB H0 H σ' ρ'->Q σ' H)->g v σ H Q
def gVar(i:Nat):PyData->En->Option En:=fun d ρ=>some (ρ.set i (some (.val d)))
theorem rg_name(i:Nat)(hsl:R.slot i):RG K R (gName i) (gVar i):=fun HB σ ρ ρ' H0 H v d s sb e r h Q q=>by
 cases h
 exact q _ ⟨RelOk.set (K:=K) e.r hsl (Ext.refl s) sb (show SlH K H H0 H v (.val d) from r)⟩
def gsAll:List (PyData->En->Option En)->List PyData->En->Option En
 | [],[],ρ=>some ρ
 | g::gs,d::ds,ρ=>(g d ρ).bind fun ρ'=>gsAll gs ds ρ'
 | _,_,_=>none
def gTupD(gs:List (PyData->En->Option En)):PyData->En->Option En:=fun d ρ=>match d with
 | .tuple ds=>if ds.length=gs.length then gsAll gs ds ρ else none
 | _=>none
def ItR(K:PySem.W.Frag)(H0:Hp)(J:It)(ds:List PyData):Prop:=∀H0' H',Same H0 H0'->Same H0' H'->∀i:Nat,(∀d,ds[i]? = some d->J.go i H'/\∀x H2,J.yld i H' x H2->∃H02,Ext H0' H' H02 H2/\Rep K H02 x d)/\(ds.length<=i->J.stop i H')
def RI(K:PySem.W.Frag)(R:Rl)(wi:TI)(f:En->Option (List PyData)):Prop:=
 ∀(HB:Hp) (σ:L2.St) (ρ:En) (H0 H:Hp),Same H0 H->ST R HB H0 H σ ρ->∀ds,f ρ=some ds->∀R:It->Hp->Prop,(∀J H0' H',Ext H0 H H0' H'->ItR K H0' J ds->R J H')->wi σ H R
def mItems(f:En->Option Sl):En->Option (List PyData):=fun ρ=>(f ρ).bind fun a=>match a.dat with
 | .list ds=>some ds
 | _=>none
def mItemsT(f:En->Option Sl):En->Option (List PyData):=fun ρ=>(f ρ).bind fun a=>match a.dat with
 | .tuple ds=>some ds
 | _=>none
theorem it_list{H0:Hp}{a:Addr}{vs:List V}{ds:List PyData}(h:SqL K H0 a vs)(r:Reps K H0 vs ds):ItR K H0 (Itl K a) ds:=fun H0' H' s s' i=>by
 have h':=s'.seq (s.seq h);refine ⟨fun d hd=> ?_,fun hi=>⟨vs,h',by rw [r.length];exact hi⟩⟩;obtain ⟨v,e1,e2⟩:=Tf.Reps.get r hd;refine ⟨⟨vs,v,h',e1⟩,fun x H2 y=> ?_⟩;obtain ⟨rfl,y⟩:=y;have:=y vs h';rw [e1] at this
 cases this
 exact ⟨H0',Ext.refl s',Rep.same s e2⟩
theorem it_tup{H0:Hp}{a:Addr}{vs:List V}{ds:List PyData}(h:SqT K H0 a vs)(r:Reps K H0 vs ds):ItR K H0 (Itt K a) ds:=fun H0' H' s s' i=>by
 have h':=s'.seqT (s.seqT h);refine ⟨fun d hd=> ?_,fun hi=>⟨vs,h',by rw [r.length];exact hi⟩⟩;obtain ⟨v,e1,e2⟩:=Tf.Reps.get r hd;refine ⟨⟨vs,v,h',e1⟩,fun x H2 y=> ?_⟩;obtain ⟨rfl,y⟩:=y;have:=y vs h';rw [e1] at this
 cases this
 exact ⟨H0',Ext.refl s',Rep.same s e2⟩
def rngD(lo:Int)(n:Nat):List PyData:=(List.range n).map fun i=> .int (lo+(i:Nat))
theorem rngD_get{lo:Int}{n i:Nat}:(rngD lo n)[i]? = if i<n then some (.int (lo+(i:Nat))) else none:=by
 unfold rngD;rw [List.getElem?_map]
 by_cases h:i<n
 . rw [List.getElem?_range h,if_pos h];rfl
 . rw [if_neg h,List.getElem?_eq_none (by simpa using h)];rfl
theorem it_range{H0:Hp}{lo:Int}{n:Nat}:ItR K H0 (Itr lo n) (rngD lo n):=fun H0' H' s s' i=>by
 refine ⟨fun d hd=> ?_,fun hi=>show n<=i by simpa [rngD] using hi⟩;rw [rngD_get] at hd
 split at hd
 . rename_i hi
   cases hd
   exact ⟨hi,fun x H2 y=>by obtain ⟨rfl,rfl⟩:=y;exact ⟨H0',Ext.refl s', .int _⟩⟩
 . cases hd
def inB(i:Int):Prop:= -(2 ^ 62)<=i/\i<2 ^ 62
noncomputable instance (i:Int):Decidable (inB i):=Classical.propDecidable _
noncomputable def mRng1(f:En->Option (List Sl)):En->Option (List PyData):=fun ρ=>(f ρ).bind fun a=>match a with
 | [.val (.int j)]=>if inB j then some (rngD 0 j.toNat) else none
 | _=>none
theorem ri_range1{ta:TA}{f:En->Option (List Sl)}(h:RQ K R ta f):RI K R (iRng1 ta) (mRng1 f):=fun HB σ ρ H0 H s e ds hd R q=>by
 obtain ⟨a,ha,hd⟩:=Option.bind_eq_some_iff.mp hd
 split at hd
 . split at hd
   . rename_i j hb
     cases hd
     refine h HB σ ρ H0 H s e _ ha _ fun vs H1 J1 x1 p1=> ?_;obtain ⟨v,rfl,pa⟩:=paired1 p1;exact ⟨j,by rw [pa.int],hb.1,hb.2,q _ _ _ x1 it_range⟩
   . cases hd
 . cases hd
def forM(fg:PyData->En->Option En)(gb:En->Option Out):List PyData->En->Option Out
 | [],ρ=>some (.nx ρ)
 | d::ds,ρ=>(fg d ρ).bind fun ρ1=>(gb ρ1).bind fun o=>match o with
  | .nx ρ2=>forM fg gb ds ρ2
  | .ct ρ2=>forM fg gb ds ρ2
  | .bk ρ2=>some (.nx ρ2)
  | .rt r ρ2=>some (.rt r ρ2)
def mFor(fi:En->Option (List PyData))(fg:PyData->En->Option En)(gb:En->Option Out):En->Option Out:=fun ρ=>(fi ρ).bind fun ds=>forM fg gb ds ρ
theorem forM_drop {fg : PyData -> En -> Option En} {gb : En -> Option Out} {ds : List PyData} {i : Nat} {d : PyData} {ρ : En} (h : ds[i]? = some d) : forM fg gb (ds.drop i) ρ = (fg d ρ).bind fun ρ1 => (gb ρ1).bind fun o => match o with
 | .nx ρ2=>forM fg gb (ds.drop (i+1)) ρ2
 | .ct ρ2=>forM fg gb (ds.drop (i+1)) ρ2
 | .bk ρ2=>some (.nx ρ2)
 | .rt r ρ2=>some (.rt r ρ2):=by
 obtain ⟨hi,e⟩:=List.getElem?_eq_some_iff.mp h;rw [List.drop_eq_getElem_cons hi,e];rfl
theorem rs_for{wi:TI}{g:TG}{tb:TS}{fi:En->Option (List PyData)}{fg:PyData->En->Option En}{gb:En->Option Out}(hi:RI K R wi fi)(hg:RG K R g fg)(hb:RS K R tb gb):RS K R (tFor wi g tb) (mFor fi fg gb):=fun HB S0 σ ρ H0 H x e o ho D d=>by
 obtain ⟨ds,hds,ho⟩:=Option.bind_eq_some_iff.mp ho;refine hi HB σ ρ H0 H x.s1 e ds hds _ fun J H1 J1 x1 it=> ?_;have x':=x.chain x1;refine ⟨fun i m σ H=>m=ds.length - i/\((∃ρ H0',i<=ds.length/\Ext H1 HB H0' H/\ST R HB H0' H σ ρ/\forM fg gb (ds.drop i) ρ=some o)),⟨_,rfl,ρ,H1,Nat.zero_le _,x'.rebase,e.ext (K:=K) x1,ho⟩,?_⟩;rintro i m σ1 H2 ⟨rfl,ρ1,H0',hile,xx,e1,hf⟩;obtain ⟨ig,is⟩:=it H0' H2 xx.s0 xx.s1 i
 by_cases hlt:i<ds.length
 . right;obtain ⟨go,yl⟩:=ig ds[i] (by simp [hlt]);rw [forM_drop (d:=ds[i]) (by simp [hlt])] at hf
   obtain ⟨ρ2,hr2,hf⟩:=Option.bind_eq_some_iff.mp hf;obtain ⟨o2,ho2,hf⟩:=Option.bind_eq_some_iff.mp hf;refine ⟨go,fun σ' H'=>∃ρ H0',Ext H1 HB H0' H'/\ST R HB H0' H' σ' ρ/\forM fg gb (ds.drop (i+1)) ρ=some o,fun σ' H' ⟨ρ',H0'',a1,a2,a3⟩=>⟨ds.length - (i+1),by omega,rfl,ρ',H0'',hlt,a1,a2,a3⟩,fun v H3 y=> ?_⟩;obtain ⟨H03,x3,r3⟩:=yl v H3 y;have xx3:=xx.chain x3;refine hg HB σ1 ρ1 ρ2 H03 H3 v _ xx3.s1 xx3.s (e1.ext (K:=K) x3) r3 hr2 _ fun σ2 e2=> ?_;refine hb HB H1 σ2 ρ2 H03 H3 xx3 e2 o2 ho2 _ ?_
   cases o2 with
   | nx ρ3=>exact fun σ' H0'' H' a b=>⟨ρ3,H0'',a,b,hf⟩
   | ct ρ3=>exact fun σ' H0'' H' a b=>⟨ρ3,H0'',a,b,hf⟩
   | bk ρ3=>cases hf;exact fun σ' H0'' H' a b=>d σ' H0'' H' (x'.unbase a) b
   | rt r ρ3=>cases hf;exact fun v σ' H0'' H' a b c=>d v σ' H0'' H' (x'.unbase a) b c
 . left;refine ⟨is (by omega),?_⟩;rw [List.drop_eq_nil_of_le (by omega)] at hf
   cases hf
   exact d σ1 H0' H2 (x'.unbase xx) e1
def whileF(c:En->Option Bool)(b:En->Option Out):Nat->En->Option Out
 | 0,_=>none
 | n + 1, ρ => (c ρ).bind fun k => if k then (b ρ).bind fun o => match o with
  | .nx ρ2=>whileF c b n ρ2
  | .ct ρ2=>whileF c b n ρ2
  | .bk ρ2=>some (.nx ρ2)
  | .rt r ρ2=>some (.rt r ρ2)
  else some (.nx ρ)
open Classical in
noncomputable def mWhile(c:En->Option Bool)(b:En->Option Out):En->Option Out:=fun ρ=>if h:∃o n,whileF c b n ρ=some o then some h.choose else none
theorem whileF_mono{c:En->Option Bool}{b:En->Option Out}:∀ {n:Nat} {ρ:En} {o:Out},whileF c b n ρ=some o->∀m,n<=m->whileF c b m ρ=some o
 | 0,_,_,h,_,_=>by cases h
 | n+1,ρ,o,h,m,hm=>by
  obtain ⟨m,rfl⟩:∃k,m=k+1:=⟨m - 1,by omega⟩;unfold whileF at h ⊢
  obtain ⟨k,hk,h⟩:=Option.bind_eq_some_iff.mp h;rw [hk]
  cases k with
  | false=>exact h
  | true=>
   show Option.bind _ _=_;simp only [if_true] at h
   obtain ⟨o2,h2,h⟩:=Option.bind_eq_some_iff.mp h;rw [h2]
   cases o2 with
   | nx ρ2=>exact whileF_mono (n:=n) h m (by omega)
   | ct ρ2=>exact whileF_mono (n:=n) h m (by omega)
   | bk ρ2=>exact h
   | rt r _=>exact h
theorem mWhile_of{c:En->Option Bool}{b:En->Option Out}{ρ:En}{o:Out}{n:Nat}(h:whileF c b n ρ=some o):mWhile c b ρ=some o:=by
 have hx:∃o n,whileF c b n ρ=some o:=⟨o,n,h⟩;unfold mWhile;rw [dif_pos hx];obtain ⟨m,hm⟩:=hx.choose_spec;have h1:=whileF_mono h (max n m) (Nat.le_max_left _ _);have h2:=whileF_mono hm (max n m) (Nat.le_max_right _ _);rw [<-h2,h1]
theorem mWhile_fuel{c:En->Option Bool}{b:En->Option Out}{ρ:En}{o:Out}(h:mWhile c b ρ=some o):∃n,whileF c b n ρ=some o:=by
 unfold mWhile at h
 split at h
 . rename_i hx;obtain ⟨m,hm⟩:=hx.choose_spec
   cases h
   exact ⟨m,hm⟩
 . cases h
theorem rs_while{c:TT}{tb:TS}{fc:En->Option Bool}{gb:En->Option Out}(hc:RT K R c fc)(hb:RS K R tb gb):RS K R (tWhile c tb) (mWhile fc gb):=fun HB S0 σ ρ H0 H x e o ho D d=>by
 obtain ⟨n,hn⟩:=mWhile_fuel ho;refine ⟨fun m σ H=>∃ρ H0,Ext S0 HB H0 H/\ST R HB H0 H σ ρ/\whileF fc gb m ρ=some o,⟨n,ρ,H0,x,e,hn⟩,?_⟩;rintro m σ1 H1 ⟨ρ1,H01,x1,e1,hw⟩
 cases m with
 | zero=>cases hw
 | succ m=>
  unfold whileF at hw
  obtain ⟨k,hk,hw⟩:=Option.bind_eq_some_iff.mp hw;refine hc HB σ1 ρ1 H01 H1 x1.s1 e1 k hk _ fun H2 J2 x2=> ?_;have x12:=x1.chain x2
  cases k with
  | false=>cases hw;exact iteF (d σ1 H2 J2 x12 (e1.ext (K:=K) x2))
  | true=>
   simp only [if_true] at hw
   obtain ⟨o2,h2,hw⟩:=Option.bind_eq_some_iff.mp hw;refine iteT ⟨fun σ' H'=>∃ρ H0,Ext S0 HB H0 H'/\ST R HB H0 H' σ' ρ/\whileF fc gb m ρ=some o,fun σ' H' h=>⟨m,Nat.lt_succ_self m,h⟩,?_⟩;refine hb HB S0 σ1 ρ1 H2 J2 x12 (e1.ext (K:=K) x2) o2 h2 _ ?_
   cases o2 with
   | nx ρ3=>exact fun σ' H0'' H' a b=>⟨ρ3,H0'',a,b,hw⟩
   | ct ρ3=>exact fun σ' H0'' H' a b=>⟨ρ3,H0'',a,b,hw⟩
   | bk ρ3=>cases hw;exact fun σ' H0'' H' a b=>d σ' H0'' H' a b
   | rt r ρ3=>cases hw;exact fun v σ' H0'' H' a b c=>d v σ' H0'' H' a b c
def mAsgT(g:PyData->En->Option En)(f:En->Option Sl):En->Option Out:=fun ρ=>(f ρ).bind fun r=>(g r.dat ρ).map .nx
def mPar(i j:Nat)(f:En->Option (List PyData)):En->Option Out:=fun ρ=>(f ρ).bind fun ds=>match ds with
 | [a,b]=>some (.nx ((ρ.set i (some (.val a))).set j (some (.val b))))
 | _=>none
end
end Dm
namespace Tf
open PySem L2
def sg(a b:Int):Int:=if b<0 then -((Int.gcd a b:Nat):Int) else ((Int.gcd a b:Nat):Int)
def fr(a b:Int):Int×Int:=(a.fdiv (sg a b),b.fdiv (sg a b))
def spLaw(K:PySem.W.Frag):Sp:=fun vs H Q _=>∃(a:Addr) (ns:List Int),vs = [.ref a]/\SqL K H a (ns.map V.int)/\ns.length<=63/\∀H',Q (.bl true) H'
end Tf
namespace Dm
open PySem PySem.Spec PyProof.Rows L2 Tf
section
variable {K:PySem.W.Frag}
def subE(ix:List (Option Nat))(ρ:En):En:=ix.map fun o=>match o with | some j=>(ρ[j]?).join | none=>none
theorem ix_inj:∀ {ix:List (Option Nat)},(ix.filterMap id).Nodup->∀ {i k j:Nat},ix[i]? = some (some j)->ix[k]? = some (some j)->i=k
 | [],_,i,k,j,h,_=>by simp at h
 | o::r,hn,i,k,j,h1,h2=>by
  have hr:(r.filterMap id).Nodup:=by
   cases o with
   | none=>simpa using hn
   | some a=>have hn:(a::r.filterMap id).Nodup:=hn;exact (List.nodup_cons.mp hn).2
  have out:∀ {k:Nat},o=some j->r[k]? = some (some j)->False:=by
   intro k ho hk;subst ho;have hn:(j::r.filterMap id).Nodup:=hn;exact (List.nodup_cons.mp hn).1 (List.mem_filterMap.mpr ⟨some j,List.mem_of_getElem? hk,rfl⟩)
  cases i with
  | zero=>
   cases k with
   | zero=>rfl
   | succ k=>simp at h1 h2;exact (out h1 h2).elim
  | succ i=>
   cases k with
   | zero=>simp at h1 h2;exact (out h2 h1).elim
   | succ k=>simp at h1 h2;rw [ix_inj hr h1 h2]
theorem subE_get{ix:List (Option Nat)}{ρ:En}{i:Nat}{s:Sl}(h:(subE ix ρ)[i]? = some (some s)):∃j,ix[i]? = some (some j)/\ρ[j]? = some (some s):=by
 unfold subE at h
 rw [List.getElem?_map] at h
 cases e:ix[i]? with
 | none=>rw [e] at h;cases h
 | some o=>
  rw [e] at h
  cases o with
  | none=>cases h
  | some j=>exact ⟨j,rfl,join_some (Option.some.inj h)⟩
theorem subS_get{ix:List (Option Nat)}{σ:L2.St}{i j:Nat}(h:ix[i]? = some (some j)):(subS ix σ)[i]? = some (σ[j]?).join:=by
 unfold subS;rw [List.getElem?_map,h];rfl
theorem ER.sub{HB H0 H:Hp}{σ:L2.St}{ρ:En}{ix:List (Option Nat)}(hx:(ix.filterMap id).Nodup)(e:ER K HB H0 H σ ρ):ER K (fun _=>none) H0 H (subS ix σ) (subE ix ρ):=by
 refine ⟨by unfold subS subE;rw [List.length_map,List.length_map],fun i s h=> ?_,fun i k a ds es hik h1 h2 h3 h4=> ?_⟩
 . obtain ⟨j,h1,h2⟩:=subE_get h;obtain ⟨v,h3,h4⟩:=e.get j s h2;refine ⟨v,by rw [subS_get h1,h3];rfl,?_⟩
   cases s with
   | val d=>exact h4
   | own ds=>
    obtain ⟨a,vs,q1,_,q2⟩:=h4
    exact ⟨a,vs,q1,rfl,q2⟩
   | dct ds=>
    obtain ⟨a,vs,q1,_,q2⟩:=h4;exact ⟨a,vs,q1,rfl,q2⟩
 . obtain ⟨j,g1,g2⟩:=subE_get h1;obtain ⟨l,g3,g4⟩:=subE_get h2
   have hjl:j≠l:=by
    rintro rfl;exact hik (ix_inj hx g1 g3)
   rw [subS_get g1] at h3
   rw [subS_get g3] at h4
   exact e.apart j l a ds es hjl g2 g4 (join_some (Option.some.inj h3)) (join_some (Option.some.inj h4))
def compM(f:PyData->Option (Option PyData)):List PyData->Option (List PyData)
 | []=>some []
 | d::ds=>(f d).bind fun r=>(compM f ds).map fun rest=>match r with
  | some x=>x::rest
  | none=>rest
def elM(fg:PyData->En->Option En)(ft:En->Option Bool)(fe:En->Option Sl)(ρ0:En):PyData->Option (Option PyData):=fun d=>(fg d ρ0).bind fun ρ'=>(ft ρ').bind fun b=>if b then (fe ρ').map (fun r=>some r.dat) else some none
def mLC(sb:En->En)(fi:En->Option (List PyData))(fg:PyData->En->Option En)(ft:En->Option Bool)(fe:En->Option Sl):En->Option Sl:=fun ρ=>(fi ρ).bind fun ds=>
 if ds.length<sizeLine then (compM (elM fg ft fe (sb ρ)) ds).map .own else none
def mYes:En->Option Bool:=fun _=>some true
theorem rt_yes{R:Rl}:RT K R tNoTest mYes:=fun HB σ ρ H0 H s e b hb Q q=>by cases hb;exact q _ _ (Ext.refl s)
theorem re_lc {R R' : Rl} [RelOk K R] [RelOk K R'] {sb : En -> En} {ix : List (Option Nat)} {wi : TI} {g : CB -> TG} {tt : CB -> TT} {te : CB -> TE} {fi : En -> Option (List PyData)} {fg : PyData -> En -> Option En} {ft : En -> Option Bool} {fe : En -> Option Sl}
 (hx:∀(HB:Hp) (σ:L2.St) (ρ:En) (H0 H:Hp),R.r HB H0 H σ ρ->R'.r (fun _=>none) H0 H (subS ix σ) (sb ρ))
 (hi:RI K R wi fi) (hg:∀b,RG K R' (g b) fg) (ht:∀b,RT K R' (tt b) ft) (he:∀b,RE K R' (te b) fe):RE K R (tLC ix wi g tt te) (mLC sb fi fg ft fe):=fun HB σ ρ H0 H s e z hz Q q=>by
 obtain ⟨ds,hds,hz⟩:=Option.bind_eq_some_iff.mp hz
 split at hz
 . rename_i hlen;obtain ⟨all,hall,rfl⟩:=Option.map_eq_some_iff.mp hz;refine hi HB σ ρ H0 H s e ds hds _ fun J H1 J1 x1 it b=> ?_;have e1:ST R' (fun _=>none) H1 J1 (subS ix σ) (sb ρ):=⟨hx HB σ ρ H1 J1 (e.ext (K:=K) x1).r⟩;refine ⟨fun i m ys H=>m=ds.length - i/\i<=ds.length/\∃H0' es rest,Ext H1 J1 H0' H/\Reps K H0' ys es/\es.length<=i/\compM (elM fg ft fe (sb ρ)) (ds.drop i)=some rest/\es++rest=all,⟨_,rfl,Nat.zero_le _,H1,[],all,Ext.refl x1.s1, .nil,Nat.le_refl _,hall,rfl⟩,?_⟩;rintro i m ys H2 ⟨rfl,hile,H0',es,rest,xx,hr,hel,hc,hsum⟩;obtain ⟨ig,is⟩:=it H0' H2 xx.s0 xx.s1 i;refine ⟨by rw [hr.length];omega,?_⟩
   by_cases hlt:i<ds.length
   . right;obtain ⟨go,yl⟩:=ig ds[i] (by simp [hlt]);rw [List.drop_eq_getElem_cons hlt] at hc
     obtain ⟨r,hr1,hc⟩:=Option.bind_eq_some_iff.mp (show (elM fg ft fe (sb ρ) ds[i]).bind _=some rest from hc);obtain ⟨rest',hr2,hc⟩:=Option.map_eq_some_iff.mp hc;refine ⟨go,fun ys' H'=>∃H0' es rest,Ext H1 J1 H0' H'/\Reps K H0' ys' es/\es.length<=i+1/\compM (elM fg ft fe (sb ρ)) (ds.drop (i+1))=some rest/\es++rest=all,fun ys' H' h=>⟨ds.length - (i+1),by omega,rfl,hlt,h⟩,fun v H3 y=> ?_⟩;obtain ⟨H03,x3,r3⟩:=yl v H3 y;obtain ⟨ρ',hg',hb'⟩:=Option.bind_eq_some_iff.mp hr1;obtain ⟨bb,hbb,hb'⟩:=Option.bind_eq_some_iff.mp hb';have xx3:=xx.trans x3;refine hg b (fun _=>none) _ _ ρ' H03 H3 v _ x3.s1 (fun _ _ h=>by cases h) (e1.ext (K:=K) xx3) r3 hg' _ fun σ2 e2=> ?_;refine ht b _ σ2 ρ' H03 H3 x3.s1 e2 bb hbb _ fun H4 J4 x4=> ?_
     cases bb with
     | true=>
      refine iteT ?_;obtain ⟨rr,hrr,rfl⟩:=Option.map_eq_some_iff.mp (show (fe ρ').map (fun r=>some r.dat)=some r from hb');refine (he b).rv _ σ2 ρ' H4 J4 x4.s1 (e2.ext (K:=K) x4) rr.dat (by unfold mDat;rw [hrr];rfl) _ fun w H5 J5 x5 p5=> ?_;refine ⟨H5,es ++ [rr.dat],rest',(xx3.trans x4).trans x5,Tf.Reps.snoc (Reps.same ((x3.s0.trans x4.s0).trans x5.s0) hr) p5,by rw [List.length_append];simpa using hel,hr2,?_⟩;rw [<-hsum, <-hc,List.append_assoc]
      rfl
     | false=>
      refine iteF ?_
      cases hb'
      exact ⟨H4,es,rest',xx3.trans x4,Reps.same (x3.s0.trans x4.s0) hr,by omega,hr2,by rw [<-hsum, <-hc]⟩
   . left;have hi':i=ds.length:=by omega
     refine ⟨is (by omega),fun p hp=> ?_⟩;rw [List.drop_eq_nil_of_le (by omega)] at hc
     cases hc
     rw [List.append_nil] at hsum
     subst hsum;have xy:=x1.trans xx;exact q _ _ _ (xy.trans (Ext.alloc xx.s1 hp _)) ⟨p,ys,rfl,xy.s.free hp,xx.s1.free hp,upd_same,hr⟩
 . cases hz
def runD(n:Nat)(g:En->Option Out)(k:Nat):List PyData->Option Sl:=fun ds=>if ds.length=k then (g (ds.map (fun d=>some (.val d))++List.replicate (n - ds.length) none)).bind fun o=>match o with
 | .rt r _=>some r
 | .nx _=>some (.val .none)
 | _=>none else none
theorem Reps.lenV{H:Hp}{vs:List V}{ds:List PyData}(h:Reps K H vs ds):vs.length=ds.length:=h.length
theorem er_start{N:List Str}{H0 H:Hp}{vs:List V}{ds:List PyData}(h:Reps K H0 vs ds):ER K H H0 H (L2.start N vs) (ds.map (fun d=>some (.val d))++List.replicate (N.length - ds.length) none):=by
 have hl:=h.length
 have noown:∀(i:Nat) s,(ds.map (fun d=>some (Sl.val d))++List.replicate (N.length - ds.length) none)[i]? = some (some s)->∃d,ds[i]? = some d/\s = .val d:=by
  intro i s hs
  by_cases hi:i<ds.length
  . rw [List.getElem?_append_left (by simpa using hi),List.getElem?_map,List.getElem?_eq_getElem hi] at hs
    cases hs
    exact ⟨_,List.getElem?_eq_getElem hi,rfl⟩
  . rw [List.getElem?_append_right (by simpa using hi),List.getElem?_replicate] at hs
    split at hs <;> cases hs
 refine ⟨?_,fun i s hs=> ?_,fun i j a xs ys _ h1 _ _ _=> ?_⟩
 . unfold L2.start;simp only [List.length_append,List.length_map,List.length_replicate,hl]
 . obtain ⟨d,hd,rfl⟩:=noown i s hs;obtain ⟨v,h1,h2⟩:=Tf.Reps.get h hd;refine ⟨v,?_,h2⟩;unfold L2.start;have hi:i<vs.length:=(List.getElem?_eq_some_iff.mp h1).1;rw [List.getElem?_append_left (by simpa using hi),List.getElem?_map,h1];rfl
 . obtain ⟨d,_,e⟩:=noown i _ h1
   cases e
section
variable {P:Program} {w:World} {mg:Str->Option Value} {base:Heap}
def DSs(X:Cx)(R:Rl)(st:List Stmt)(g:En->Option Out):Prop:=∃t,PSs X st t/\RS X.K R t g
theorem fnD {x qual : Str} {st : Stmt} {f : Addr} {fd : FuncData} {N ps : List Str} {k n m : Nat} {g : En -> Option Out} (F : Fun K x qual st f fd) (S : FnScope N ps (defScope st)) (hn : N.length = n) (hm : ps.length = m)
 (hb:∀(cdv:Value) (A:Around) (outer:List Env) (s:Shared) (H:Hp) (E:XK),Room k (A.deeper (envOfC qual (defScope st) s.heap.objs.size f cdv))->DSs (cxOf CX0 P w K mg base N qual (defScope st) f cdv A outer s H E).nox (PR K) (defBody st) g) :
 FnOk P w K mg base CX0 (k+1) f fd ps (spD K (runD n g m)):=by
 subst hn hm;refine F.ok S (fun vs H Q E h=> ?_) fun cdv A outer s H vs Q E hr h=> ?_
 . obtain ⟨H0,ds,r,s,hr,hf,_⟩:=h;unfold runD at hf
   split at hf
   . rename_i hl;rw [hr.length,hl]
   . cases hf
 . obtain ⟨t,ht,rs⟩:=hb cdv A outer s H E hr;refine ⟨t,ht,?_⟩;obtain ⟨H0,ds,r,s0,hr,hf,q⟩:=h;unfold runD at hf
   split at hf
   . obtain ⟨o,ho,hf⟩:=Option.bind_eq_some_iff.mp hf;refine rs H H0 _ _ H0 H (Ext.refl s0) ⟨er_start hr⟩ o ho _ ?_
     cases o with
     | rt r' _=>cases hf;exact fun v σ H1 J1 a _ b=>q v H1 J1 a b
     | nx _=>cases hf;exact fun σ H1 J1 a b=>q .non H1 J1 a .none
     | bk _=>cases hf
     | ct _=>cases hf
   . cases hf
end
end
theorem law_imp{K:PySem.W.Frag}{F:List PyData->Option Sl}(hL:∀ns:List Int,ns.length<=63->F [.list (ns.map .int)]=some (.val (.bool true))){vs:List V}{H:Hp}{Q:VK}{E:XK}(h:spLaw K vs H Q E):spD K F vs H Q E:=by
 obtain ⟨a,ns,rfl,h1,h2,q⟩:=h
 have allI:∀ns:List Int,Reps K H (ns.map V.int) (ns.map .int):=fun ns=>by
  induction ns with
  | nil=>exact .nil
  | cons n r ih=>exact .cons (.int n) ih
 refine ⟨H,[.list (ns.map .int)], .val (.bool true),Same.refl H, .cons (.list h1 (allI ns)) .nil,hL ns h2,fun v H0' H' x p=> ?_⟩
 cases (show Rep K H0' v (.bool true) from p)
 exact q H'
section
variable {X:Cx} {R R':Rl} [RelOk X.K R] [RelOk X.K R'] {a b c e:Expr} {pos p:Pos} {f g fa fb fc:En->Option Sl}
def DE(X:Cx)(R:Rl)(e:Expr)(f:En->Option Sl):Prop:=∃te,PE X e te/\RE X.K R te f
def DP(X:Cx)(R:Rl)(e:Expr)(f:En->Option Sl):Prop:=∃te,PE X e te/\RP X.K R te f
def DA(X:Cx)(R:Rl)(es:List Expr)(f:En->Option (List PyData)):Prop:=∃ta,PA X es ta/\RA X.K R ta f
def DQ(X:Cx)(R:Rl)(es:List Expr)(f:En->Option (List Sl)):Prop:=∃ta,PA X es ta/\RQ X.K R ta f
def DT(X:Cx)(R:Rl)(e:Expr)(f:En->Option Bool):Prop:=∃tt,PT X e tt/\RT X.K R tt f
def DW(X:Cx)(R:Rl)(e:Expr)(f:En->Option Bool):Prop:=∃tt,PW X e tt/\RT X.K R tt f
def DO(X:Cx)(R:Rl)(e:Option Expr)(f:En->Option (Option Int)):Prop:=∃to,PO X e to/\RO X.K R to f
def DS(X:Cx)(R:Rl)(st:Stmt)(g:En->Option Out):Prop:=∃t,PS X st t/\RS X.K R t g
def DG(X:Cx)(R:Rl)(e:Expr)(g:PyData->En->Option En):Prop:=∃t,PG X e t/\RG X.K R t g
def DI(X:Cx)(R:Rl)(tg e:Expr)(f:En->Option (List PyData)):Prop:=∃wi,PI X tg e wi/\RI X.K R wi f
theorem DE.dp(h:DE X R e f):DP X R e f:=by obtain ⟨t,h1,h2⟩:=h;exact ⟨t,h1,h2.rp⟩
theorem dp_var (i : Nat) {x : Str} (hN : X.N[i]? = some x := by rfl) (hv : Vis X.env.scope x := by first | exact Or.inl rfl | exact Or.inr (Or.inl rfl) | exact Or.inr (Or.inr rfl)) (hd : (x == ("__debug__" : Str)) = false := by decide)
 (hcd:(x==("__classdict__" : Str))=false:=by decide) (hsl:R.slot i:=by first | exact True.intro | exact ⟨of_decide_eq_true rfl,of_decide_eq_true rfl⟩):DP X R (.Name x pos) (mPk i):=⟨_,pe_var hN hv hd hcd,rp_var i hsl⟩
theorem de_var (i : Nat) {x : Str} (hN : X.N[i]? = some x := by rfl) (hv : Vis X.env.scope x := by first | exact Or.inl rfl | exact Or.inr (Or.inl rfl) | exact Or.inr (Or.inr rfl)) (hd : (x == ("__debug__" : Str)) = false := by decide)
 (hcd:(x==("__classdict__" : Str))=false:=by decide) (hsl:R.slot i:=by first | exact True.intro | exact ⟨of_decide_eq_true rfl,of_decide_eq_true rfl⟩):DE X R (.Name x pos) (mVar i):=⟨_,pe_var hN hv hd hcd,re_var i hsl⟩
theorem de_int{i:Int}{j}:DE X R (.Constant (.int i) j pos) (mK (.int i)):=⟨_,pe_int,re_k fun _=> .int i⟩
theorem de_bool{i:Bool}{j}:DE X R (.Constant (.bool i) j pos) (mK (.bool i)):=⟨_,pe_bl,re_k fun _=> .bool i⟩
theorem de_str{i:Str}{j}:DE X R (.Constant (.str i) j pos) (mK (.str i)):=⟨_,pe_str,re_k fun _=> .str i⟩
theorem de_op{o:Operator}{r:R2}{op:Sl->Sl->Option Sl}(ho:OpR X (binaryOp o) r)(hd:OpD X.K r op)(ha:DP X R a fa)(hb:DP X R b fb):DE X R (.BinOp a o b pos) (mBin op fa fb):=by
 obtain ⟨ta,h1,h2⟩:=ha;obtain ⟨tb,h3,h4⟩:=hb;exact ⟨_,pe_op ho h1 h3,re_bin hd h2 h4⟩
def dAddI:Sl->Sl->Option Sl:=iop fun i j=>i+j
def dSub:Sl->Sl->Option Sl:=iop fun i j=>i - j
def CMulA(i j:Int):Prop:=CMul i j\/CMulB i j
theorem op_mulA:OpR X (binaryOp .Mult) (rI CMulA fun i j=> .int (i*j)):=opI fun _ _ _ _ _ _ _ hc q=>by
 rcases hc with hc | ⟨n,m,h1,h2,h3⟩
 . exact mul_int q hc.ok
 . exact mul_int q (mulOk h1 h2 h3)
noncomputable def dMulI:Sl->Sl->Option Sl:=iopC CMulA fun i j=>i*j
noncomputable def dFdiv:Sl->Sl->Option Sl:=iopC CDivB fun i j=>i.fdiv j
noncomputable def dMod:Sl->Sl->Option Sl:=iopC (fun _ j=>j≠0) fun i j=>i.fmod j
noncomputable def dShr:Sl->Sl->Option Sl:=iopC (fun _ j=>0<=j) fun i j=>i / 2 ^ j.toNat
theorem de_fdiv(ha:DP X R a fa)(hb:DP X R b fb):DE X R (.BinOp a .FloorDiv b pos) (mBin dFdiv fa fb):=de_op op_fdivB opd_iopC ha hb
theorem de_mod(ha:DP X R a fa)(hb:DP X R b fb):DE X R (.BinOp a .Mod b pos) (mBin dMod fa fb):=de_op op_modN opd_iopC ha hb
theorem de_shr(ha:DP X R a fa)(hb:DP X R b fb):DE X R (.BinOp a .RShift b pos) (mBin dShr fa fb):=de_op op_shr opd_iopC ha hb
def rCatG(K:PySem.W.Frag):R2:=fun x y H Q=>∃l b xs zs,x = .ref l/\y = .ref b/\SqL K H l xs/\SqL K H b zs/\xs.length+zs.length<=sizeLine/\∀p,H p=none->Q (.ref p) (upd H p (.lst (xs++zs)))
theorem op_catG:OpR X (binaryOp .Add) (rCatG X.K):=by
 intro pins s σ H x y v u Q I rx ry h;obtain ⟨l,b,xs,zs,rfl,rfl,hH,hB,hz,q⟩:=h
 cases rx
 cases ry
 obtain ⟨its,r,p1,_⟩:=I.list hH;obtain ⟨its2,r2,p2,_⟩:=I.list hB;obtain ⟨⟨cls,dd,data,sl⟩,n,ho,hc,hd1,hd⟩:=id p1;obtain ⟨⟨cls2,dd2,data2,sl2⟩,n2,ho2,hc2,hd2',hd2⟩:=id p2;simp only at hc hd hc2 hd2
 subst hc hd hc2 hd2;have l1:=r.length;have l2:=r2.length;refine concat_meets ⟨_,ho,rfl⟩ ⟨_,ho2,rfl⟩ noFill_list_add seq_list_add PySem.F.slot_list_add PySem.F.entry_list_add (PySem.F.args_list_add_2 _ _) (list_addW l b its.toArray its2.toArray n n2 dd dd2 sl sl2 (by rw [List.size_toArray,List.size_toArray];omega)) ⟨ho,ho2,?_⟩;have ea:its.toArray++its2.toArray=(its++its2).toArray:=by simp
 rw [ea];exact ⟨.ref _,_,I.lnew (t':=s.toks) (r.append r2) (by rw [List.length_append];omega),rfl,q _ I.fresh⟩
def rCatT0(K:PySem.W.Frag):R2:=fun x y H Q=>∃a b ys,x = .ref a/\y = .ref b/\SqT K H a []/\SqT K H b ys/\Q (.ref b) H
theorem op_catT0:OpR X (binaryOp .Add) (rCatT0 X.K):=by
 intro pins s σ H x y v u Q I rx ry h;obtain ⟨a,b,ys,rfl,rfl,ha,hb,q⟩:=h
 cases rx
 cases ry
 obtain ⟨its,r1,p1,_⟩:=I.tuple ha;obtain ⟨its2,r2,p2,_⟩:=I.tuple hb
 cases r1
 obtain ⟨⟨cls,dd,data,sl⟩,ho,hc,n,hd⟩:=id p1;obtain ⟨⟨cls2,dd2,data2,sl2⟩,ho2,hc2,n2,hd2⟩:=id p2;simp only at hc hd hc2 hd2
 subst hc hd hc2 hd2
 exact concat_meets ⟨_, ho, rfl⟩ ⟨_, ho2, rfl⟩ noFill_tuple_add seq_tuple_add PySem.F.slot_tuple_add PySem.F.entry_tuple_add (PySem.F.args_tuple_add_2 _ _)
  (tuple_addW0 a b ([]:List Value).toArray its2.toArray n n2 dd dd2 sl sl2 (by simp)) ⟨ho,ho2, .ref b,H,I,rfl,q⟩
def rAddA(K:PySem.W.Frag):R2:=fun x y H Q=>rI0 (fun i j=> .int (i+j)) x y H Q\/rCatG K x y H Q\/rCatT0 K x y H Q\/rCatT K x y H Q\/(∃i j,x = .str i/\y = .str j/\i.length+j.length<=sizeLine/\Q (.str (i++j)) H)
theorem op_addA:OpR X (binaryOp .Add) (rAddA X.K):=op_add.or (op_catG.or (op_catT0.or (op_catT.or op_add_str)))
def dAdd(a b:Sl):Option Sl:=match a.dat,b.dat with
 | .int i, .int j=>some (.val (.int (i+j)))
 | .list xs, .list ys=>if xs.length+ys.length<=sizeLine then some (.own (xs++ys)) else none
 | .tuple xs, .tuple ys=>if xs.length+ys.length<=sizeLine then some (.val (.tuple (xs++ys))) else none
 | .str i, .str j=>if i.length+j.length<=sizeLine then some (.val (.str (i++j))) else none
 | _,_=>none
theorem SlP.atom{K:PySem.W.Frag}{H0 H:Hp}{v:V}{d:PyData}{r:Sl}(h:SlP K H0 H v r)(e:r.dat=d)(n:∀ds,d ≠ .list ds)(n2:∀kvs,d ≠ .dict kvs:=by intro _ h;cases h):Rep K H0 v d:=by
 cases r with
 | val _=>cases e;exact h
 | own _=>exact absurd e.symm (n _)
 | dct _=>exact absurd e.symm (n2 _)
theorem Reps.append{K:PySem.W.Frag}{H:Hp}:∀ {vs ws:List V} {ds es:List PyData},Reps K H vs ds->Reps K H ws es->Reps K H (vs++ws) (ds++es)
 | _,_,_,_, .nil,h=>h
 | _,_,_,_, .cons a t,h=> .cons a (Reps.append t h)
theorem opd_add{K:PySem.W.Frag}:OpD K (rAddA K) dAdd:=fun H0 H x y sx sy z s px py hz Q q=>by
 unfold dAdd at hz
 split at hz
 . rename_i i j e1 e2
   cases hz
   cases px.atom e1 (fun _ h=>nomatch h)
   cases py.atom e2 (fun _ h=>nomatch h)
   exact .inl ⟨_,_,rfl,rfl,q _ _ _ (Ext.refl s) (.int _)⟩
 . rename_i xs ys e1 e2
   split at hz
   . rename_i hl
     cases hz
     obtain ⟨a,vs,rfl,h1,h2⟩:=px.lst s e1;obtain ⟨b,ws,rfl,h3,h4⟩:=py.lst s e2;exact .inr (.inl ⟨a,b,vs,ws,rfl,rfl,h1,h3,by rw [h2.length,h4.length];exact hl,fun p hp=>q _ _ _ (Ext.alloc s hp _) ⟨p,_,rfl,hp,s.free hp,upd_same,Reps.append h2 h4⟩⟩)
   . cases hz
 . rename_i xs ys e1 e2
   split at hz
   . rename_i hl
     cases hz
     obtain ⟨a,vs,rfl,h1,h2⟩:=px.tup e1;obtain ⟨b,ws,rfl,h3,h4⟩:=py.tup e2
     by_cases hv:vs = []
     . subst hv
       cases h2
       exact .inr (.inr (.inl ⟨a,b,ws,rfl,rfl,s.seqT (SqT.of h1),s.seqT (SqT.of h3),q _ _ _ (Ext.refl s) (.tuple h3 h4)⟩))
     . refine .inr (.inr (.inr (.inl ⟨a,b,vs,ws,rfl,rfl,s.seqT (SqT.of h1),s.seqT (SqT.of h3),hv,by rw [h2.length,h4.length];exact hl,fun hw=> ?_,fun hw p hp=> ?_⟩)))
       . subst hw
         cases h4
         rw [List.append_nil] at q
         exact q _ _ _ (Ext.refl s) (.tuple h1 h2)
       . exact q _ _ _ (Ext.allocF s hp _) (.tuple upd_same (Reps.same (Same.upd (s.free hp) _) (Reps.append h2 h4)))
   . cases hz
 . rename_i i j e1 e2
   split at hz
   . rename_i hl
     cases hz
     cases px.atom e1 (fun _ h=>nomatch h)
     cases py.atom e2 (fun _ h=>nomatch h)
     exact .inr (.inr (.inr (.inr ⟨_,_,rfl,rfl,hl,q _ _ _ (Ext.refl s) (.str _)⟩)))
   . cases hz
 . cases hz
theorem de_add(ha:DP X R a fa)(hb:DP X R b fb):DE X R (.BinOp a .Add b pos) (mBin dAdd fa fb):=de_op op_addA opd_add ha hb
noncomputable def dRep(a b:Sl):Option Sl:=match a,b with
 | .own xs, .val (.int k)=>if -(2 ^ 63)<=k/\k<2 ^ 63/\xs.length*k.toNat<=sizeLine then some (.own (List.replicate k.toNat xs).flatten) else none
 | a,b=>dMulI a b
theorem Reps.rep{K:PySem.W.Frag}{H:Hp}{vs:List V}{ds:List PyData}(h:Reps K H vs ds):∀k:Nat,Reps K H (List.replicate k vs).flatten (List.replicate k ds).flatten
 | 0=> .nil
 | k+1=>by
  rw [List.replicate_succ,List.replicate_succ,List.flatten_cons,List.flatten_cons];exact Reps.append h (Reps.rep h k)
theorem opd_rep{K:PySem.W.Frag}:OpD K (fun x y H Q=>rRep x y H Q\/rI CMulA (fun i j=> .int (i*j)) x y H Q) dRep:=fun H0 H x y sx sy z s px py hz Q q=>by
 unfold dRep at hz
 split at hz
 . split at hz
   . rename_i hl
     cases hz
     obtain ⟨a,vs,rfl,h1,h2⟩:=px;exact .inl ⟨a,_,vs,rfl,py.int,h1,hl.1,hl.2.1,by rw [h2.length];exact hl.2.2,fun p hp=>q _ _ _ (Ext.alloc s hp _) ⟨p,_,rfl,hp,s.free hp,upd_same,Reps.rep h2 _⟩⟩
   . cases hz
 . exact .inr (opd_iopC H0 H x y _ _ z s px py hz Q q)
theorem de_mul(ha:DP X R a fa)(hb:DP X R b fb):DE X R (.BinOp a .Mult b pos) (mBin dRep fa fb):=de_op (op_rep.or op_mulA) opd_rep ha hb
theorem de_neg(ha:DP X R a fa):DE X R (.UnaryOp .USub a pos) (mUn (iun fun i=> -i) fa):=by
 obtain ⟨ta,h1,h2⟩:=ha;exact ⟨_,pe_un un_neg h1,re_un und_iun h2⟩
theorem de_cmp{o:CmpOp}{r:R2}{op:Sl->Sl->Option Sl}(ho:OpR X (compareOp o) r)(hd:OpD X.K r op)(ha:DP X R a fa)(hb:DP X R b fb)(hm:behindInMarks o b=false):DE X R (.Compare a [o] [b] pos) (mBin op fa fb):=by
 obtain ⟨ta,h1,h2⟩:=ha;obtain ⟨tb,h3,h4⟩:=hb;exact ⟨_,pe_cmpR ho h1 h3 hm,re_bin hd h2 h4⟩
theorem dt_cmp{o:CmpOp}{r:R2}{op:Sl->Sl->Option Sl}(ho:OpR X (compareOp o) r)(hd:OpD X.K r op)(ha:DP X R a fa)(hb:DP X R b fb)(hm:behindInMarks o b=false):DT X R (.Compare a [o] [b] pos) (mTest (mBin op fa fb)):=by
 obtain ⟨ta,h1,h2⟩:=ha;obtain ⟨tb,h3,h4⟩:=hb;exact ⟨_,pt_cmpR ho h1 h3 hm,rt_test (re_bin hd h2 h4).rp⟩
def dLt:Sl->Sl->Option Sl:=icmp fun i j=>decide (i<j)
def dLe:Sl->Sl->Option Sl:=icmp fun i j=>decide (i<=j)
def dGt:Sl->Sl->Option Sl:=icmp fun i j=>decide (j<i)
def dGe:Sl->Sl->Option Sl:=icmp fun i j=>decide (j<=i)
theorem de_eq(hu:X.A.units+64<cLine)(ha:DP X R a fa)(hb:DP X R b fb):DE X R (.Compare a [.Eq] [b] pos) (mBin deq fa fb):=de_cmp (op_eqD hu) opd_eq ha hb (nomark _)
theorem de_ne(hu:X.A.units+64<cLine)(ha:DP X R a fa)(hb:DP X R b fb):DE X R (.Compare a [.NotEq] [b] pos) (mBin dne fa fb):=de_cmp (op_neD hu) opd_ne ha hb (nomark _)
theorem dt_gt(ha:DP X R a fa)(hb:DP X R b fb):DT X R (.Compare a [.Gt] [b] pos) (mTest (mBin dGt fa fb)):=dt_cmp op_gt opd_icmp ha hb (nomark _)
theorem dt_eq(hu:X.A.units+64<cLine)(ha:DP X R a fa)(hb:DP X R b fb):DT X R (.Compare a [.Eq] [b] pos) (mTest (mBin deq fa fb)):=dt_cmp (op_eqD hu) opd_eq ha hb (nomark _)
theorem dt_ne(hu:X.A.units+64<cLine)(ha:DP X R a fa)(hb:DP X R b fb):DT X R (.Compare a [.NotEq] [b] pos) (mTest (mBin dne fa fb)):=dt_cmp (op_neD hu) opd_ne ha hb (nomark _)
theorem dt_val(h:DP X R e f)(he:∀whole,isTrue e X.env whole=(do let v <-whole;standAt e.pos;holding [v] (truthy v)):=by intro _;rfl):DT X R e (mTest f):=by
 obtain ⟨t,h1,h2⟩:=h;exact ⟨_,pt_val h1 he,rt_b h2⟩
variable {ft gt:En->Option Bool} {rest:List Expr}
theorem dt_w(h:DW X R e ft):DT X R e ft:=by obtain ⟨t,h1,h2⟩:=h;exact ⟨t,h1.pt,h2⟩
theorem dw_and1(h:DT X R a ft):DW X R (.BoolOp .And [a] pos) ft:=by obtain ⟨t,h1,h2⟩:=h;exact ⟨t,pw_and1 h1,h2⟩
theorem dw_or1(h:DT X R a ft):DW X R (.BoolOp .Or [a] pos) ft:=by obtain ⟨t,h1,h2⟩:=h;exact ⟨t,pw_or1 h1,h2⟩
theorem dw_and(h:DT X R a ft)(k:DW X R (.BoolOp .And (b::rest) pos) gt):DW X R (.BoolOp .And (a::b::rest) pos) (mAnd ft gt):=by obtain ⟨t,h1,h2⟩:=h;obtain ⟨u,h3,h4⟩:=k;exact ⟨_,pw_and h1 h3,rt_and h2 h4⟩
theorem dw_or(h:DT X R a ft)(k:DW X R (.BoolOp .Or (b::rest) pos) gt):DW X R (.BoolOp .Or (a::b::rest) pos) (mOr ft gt):=by obtain ⟨t,h1,h2⟩:=h;obtain ⟨u,h3,h4⟩:=k;exact ⟨_,pw_or h1 h3,rt_or h2 h4⟩
theorem dt_not(h:DT X R a ft):DT X R (.UnaryOp .Not a pos) (mNot ft):=by obtain ⟨t,h1,h2⟩:=h;exact ⟨_,pt_not h1,rt_not h2⟩
theorem de_and1(h:DE X R a f):DE X R (.BoolOp .And [a] pos) f:=by obtain ⟨t,h1,h2⟩:=h;exact ⟨t,pe_one h1,h2⟩
theorem de_and(h:DE X R a f)(k:DE X R (.BoolOp .And (b::rest) pos) g):DE X R (.BoolOp .And (a::b::rest) pos) (mAndV f g):=by obtain ⟨t,h1,h2⟩:=h;obtain ⟨u,h3,h4⟩:=k;exact ⟨_,pe_and h1 h3,re_andV h2.rp h4⟩
theorem de_not(h:DE X R a f):DE X R (.UnaryOp .Not a pos) (mNotV f):=by obtain ⟨t,h1,h2⟩:=h;exact ⟨_,pe_not h1,re_notV h2.rp⟩
theorem de_ix(ha:DP X R a fa)(hb:DP X R b fb)(hs:PlainIx b:=by intro _ _;rfl):DE X R (.Subscript a b pos) (mBin dix fa fb):=by
 obtain ⟨ta,h1,h2⟩:=ha;obtain ⟨tb,h3,h4⟩:=hb;exact ⟨_,pe_ix ix_seq h1 h3 hs,re_bin opd_ix h2 h4⟩
variable {lo hi:Option Expr} {fl fh:En->Option (Option Int)} {p2:Pos}
theorem do_none:DO X R none mNoPart:=⟨_,po_none,ro_none⟩
theorem do_some(h:DP X R e f):DO X R (some e) (mPart f):=by obtain ⟨t,h1,h2⟩:=h;exact ⟨_,po_some h1,ro_some h2⟩
theorem de_sl(h:DP X R e f)(hl:DO X R lo fl)(hh:DO X R hi fh):DE X R (.Subscript e (.Slice lo hi none p2) pos) (mSl f fl fh):=by
 obtain ⟨t,h1,h2⟩:=h;obtain ⟨u,h3,h4⟩:=hl;obtain ⟨v,h5,h6⟩:=hh;exact ⟨_,pe_slice (sl_list.or sl_tup) h1 h3 h5,re_sl h2 h4 h6⟩
variable {es:List Expr} {fs:En->Option (List PyData)} {fq:En->Option (List Sl)}
theorem da_nil:DA X R [] mNil:=⟨_,pa_nil,ra_nil⟩
theorem da_cons(h:DE X R e f)(k:DA X R es fs)(hs:starEach (e::es) X.env=(false,eval e X.env)::starEach es X.env:=by rfl):DA X R (e::es) (mCons f fs):=by obtain ⟨t,h1,h2⟩:=h;obtain ⟨u,h3,h4⟩:=k;exact ⟨_,pa_cons h1 h3 hs,ra_cons h2 h4⟩
theorem dq_nil:DQ X R [] mNilP:=⟨_,pa_nil,rq_nil⟩
theorem dq_cons(h:DP X R e f)(k:DQ X R es fq)(hs:starEach (e::es) X.env=(false,eval e X.env)::starEach es X.env:=by rfl):DQ X R (e::es) (mConsP f fq):=by obtain ⟨t,h1,h2⟩:=h;obtain ⟨u,h3,h4⟩:=k;exact ⟨_,pa_cons h1 h3 hs,rq_cons h2 h4⟩
theorem de_tup{x1}(h:DA X R es fs):DE X R (.Tuple es x1 pos) (mTup fs):=by obtain ⟨t,h1,h2⟩:=h;exact ⟨_,pe_tup h1,re_tup h2⟩
theorem de_lst(h:DA X R es fs):DE X R (.List es pos) (mLst fs):=by obtain ⟨t,h1,h2⟩:=h;exact ⟨_,pe_lst h1,re_lst h2⟩
theorem de_call {k j : Nat} {x : Str} {ps : List Str} {F : List PyData -> Option Sl} (D : Tf.Def X.prog X.w X.K X.mg X.base j x ps (spD X.K F)) (hr : Room k X.A) (h : DA X R (e :: es) fs) (hj : j <= k := by decide) (hg : Gl X x := by rfl)
 (hdb:(x==("__debug__" : Str))=false:=by decide) (he:starEach (e::es) X.env=(false,eval e X.env)::starEach es X.env:=by rfl) (hpl:(backTo pos (starEach es X.env)).any (·.1)=false:=by rfl):DE X R (.Call (.Name x p) (e::es) [] pos) (mCall F fs):=by
 obtain ⟨t,h1,h2⟩:=h;exact ⟨_,pe_callD D hr h1 hj hg hdb he hpl,re_call h2⟩
theorem de_blt {x : Str} {id : String} {r : List V -> Hp -> VK -> Prop} {F : List Sl -> Option Sl} (hc : CallR X (.builtin id) r) (hd : CallD X.K r F) (hv : bootBuiltins x = some (.builtin id)) (hm : X.mg x = none) (h : DQ X R (e :: es) fq) (hg : Gl X x := by rfl) (hn : x ≠ "__name__" := by decide) (hdb : (x == ("__debug__" : Str)) = false := by decide)
 (he:starEach (e::es) X.env=(false,eval e X.env)::starEach es X.env:=by rfl) (hpl:(backTo pos (starEach es X.env)).any (·.1)=false:=by rfl):DE X R (.Call (.Name x p) (e::es) [] pos) (mCallP F fq):=by
 obtain ⟨t,h1,h2⟩:=h;exact ⟨_,pe_callB hc hg hm hv h1 hn hdb he hpl,re_callB hd h2⟩
theorem de_ty {x : Str} {id : String} {r : List V -> Hp -> VK -> Prop} {F : List Sl -> Option Sl} (hc : CallR X (.type id) r) (hd : CallD X.K r F) (hv : bootBuiltins x = some (.type id)) (hm : X.mg x = none) (h : DQ X R (e :: es) fq) (hg : Gl X x := by rfl) (hn : x ≠ "__name__" := by decide) (hdb : (x == ("__debug__" : Str)) = false := by decide)
 (he:starEach (e::es) X.env=(false,eval e X.env)::starEach es X.env:=by rfl) (hpl:(backTo pos (starEach es X.env)).any (·.1)=false:=by rfl):DE X R (.Call (.Name x p) (e::es) [] pos) (mCallP F fq):=by
 obtain ⟨t,h1,h2⟩:=h;exact ⟨_,pe_callTy hc hg hm hv h1 hn hdb he hpl,re_callB hd h2⟩
theorem kit_ok{K:PySem.W.Frag}{n:String}:∀t b,isiD n t=some b->(t = "NoneType" \/ t = "bool" \/ t = "int" \/ t = "str" \/ t = "list" \/ t = "tuple")->PySem.W.kitOne K (.type t) (.type n)=some b:=by
 intro t b h ht;unfold isiD at h
 split at h
 . rename_i hn;subst hn
   cases h
   rcases ht with rfl | rfl | rfl | rfl | rfl | rfl <;> rfl
 . split at h
   . rename_i hn
     cases h
     rcases hn with rfl | rfl | rfl | rfl <;> rcases ht with rfl | rfl | rfl | rfl | rfl | rfl <;> rfl
   . cases h
theorem de_isi {x : Str} {T : String} {p1 : Pos} (hv : bootBuiltins x = some (.type T)) (hx : X.mg x = none) (hm : X.mg "isinstance" = none) (h : DP X R e f) (hgx : Gl X x := by rfl) (hg : Gl X "isinstance" := by rfl) (hnx : x ≠ "__name__" := by decide) (hdx : (x == ("__debug__" : Str)) = false := by decide)
 (he:starEach [e, .Name x p1] X.env=(false,eval e X.env)::starEach [.Name x p1] X.env:=by rfl) (he2:starEach [.Name x p1] X.env=(false,eval (.Name x p1) X.env)::starEach [] X.env:=by rfl) (hpl:(backTo pos (starEach [.Name x p1] X.env)).any (·.1)=false:=by rfl) :
 DE X R (.Call (.Name "isinstance" p) [e, .Name x p1] [] pos) (mIsi T f):=by
 obtain ⟨t,h1,h2⟩:=h;exact ⟨_,pe_callB call_isi hg hm bt_isinstance (pa_cons h1 (pa_cons (pe_ty hgx hx hv hnx hdx) pa_nil he2) he) (by decide) (by decide) he hpl,re_isi kit_ok h2⟩
theorem pr_sub{K:PySem.W.Frag}{ix:List (Option Nat)}(hx:(ix.filterMap id).Nodup:=by decide):∀(HB:Hp) (σ:L2.St) (ρ:En) (H0 H:Hp),(PR K).r HB H0 H σ ρ->(PR K).r (fun _=>none) H0 H (subS ix σ) (subE ix ρ):=fun HB σ ρ H0 H e=>ER.sub hx e
variable {st:Stmt} {sts:List Stmt} {gs gs':En->Option Out} {x y:Str} {pos':Pos} {i j:Nat}
theorem dss_nil:DSs X R [] mNext:=⟨_,pss_nil,rs_next⟩
theorem dss_one(h:DS X R st gs):DSs X R [st] gs:=by obtain ⟨t,h1,h2⟩:=h;exact ⟨_,pss_one h1,h2⟩
theorem dss_cons(h:DS X R st gs)(k:DSs X R sts gs'):DSs X R (st::sts) (mSeq gs gs'):=by obtain ⟨t,h1,h2⟩:=h;obtain ⟨u,h3,h4⟩:=k;exact ⟨_,pss_cons h1 h3,rs_seq h2 h4⟩
theorem ds_frz(i:Nat)(h:DS X R st gs)(hsl:R.slot i:=by first | exact True.intro | exact ⟨of_decide_eq_true rfl,of_decide_eq_true rfl⟩):DS X R st (mFrz i gs):=by obtain ⟨t,h1,h2⟩:=h;exact ⟨_,h1,rs_frz i hsl h2⟩
theorem ds_set (i : Nat) (h : DE X R e f) (hN : X.N.Nodup) (hi : X.N[i]? = some x := by rfl) (hx : Loc X.env.scope x := by first | exact Or.inl rfl | exact Or.inr rfl) (hs : swapsWith e (some (.Name x pos')) pos.line X.env = pure false := by rfl) (hf : X.fn x = true \/ X.env.scope.names.lookup x = some .local := by first | exact .inl rfl | exact .inr rfl) (hsl : R.slot i := by first | exact True.intro | exact ⟨of_decide_eq_true rfl, of_decide_eq_true rfl⟩) :
 DS X R (.Assign [.Name x pos'] e pos) (mAsg i f):=by obtain ⟨t,h1,h2⟩:=h;exact ⟨_,ps_set hN hi hx h1 hs hf,rs_asg hsl h2⟩
theorem ds_ret(h:DE X R e f):DS X R (.Return (some e) pos) (mRet f):=by obtain ⟨t,h1,h2⟩:=h;exact ⟨_,ps_ret h1,rs_ret h2⟩
theorem ds_retV (i : Nat) (hN : X.N[i]? = some x := by rfl) (hv : Vis X.env.scope x := by first | exact Or.inl rfl | exact Or.inr (Or.inl rfl) | exact Or.inr (Or.inr rfl)) (hd : (x == ("__debug__" : Str)) = false := by decide)
 (hcd:(x==("__classdict__" : Str))=false:=by decide) (hsl:R.slot i:=by first | exact True.intro | exact ⟨of_decide_eq_true rfl,of_decide_eq_true rfl⟩):DS X R (.Return (some (.Name x pos')) pos) (mRet (mPk i)):=⟨_,ps_ret (pe_var hN hv hd hcd),rs_retV i hsl⟩
theorem ds_if{A B:List Stmt}(hc:DT X R c ft)(h:DSs X R A gs)(k:DSs X R B gs'):DS X R (.If c A B pos) (mIf ft gs gs'):=by obtain ⟨t,h1,h2⟩:=hc;obtain ⟨u,h3,h4⟩:=h;obtain ⟨v,h5,h6⟩:=k;exact ⟨_,ps_if h1 h3 h5,rs_if h2 h4 h6⟩
theorem ds_while(hp:PassesOwn (model X.prog X.w) X.A X.env X.xe)(hc:DT X R c ft)(h:DSs X R sts gs):DS X R (.While c sts [] pos) (mWhile ft gs):=by obtain ⟨t,h1,h2⟩:=hc;obtain ⟨u,h3,h4⟩:=h;exact ⟨_,ps_while hp h1 h3,rs_while h2 h4⟩
variable {tg:Expr} {fi:En->Option (List PyData)} {fg:PyData->En->Option En} {gg:List (PyData->En->Option En)}
theorem ds_for(hp:PassesOwn (model X.prog X.w) X.A X.env X.xe)(hi:DI X R tg e fi)(hg:DG X R tg fg)(h:DSs X R sts gs)(hc:X.calm=true:=by rfl)(hs:∀x,foldedSetIterable e X.env x=pure x:=by intro _;rfl):DS X R (.For tg e sts [] pos) (mFor fi fg gs):=by
 obtain ⟨t,h1,h2⟩:=hi;obtain ⟨u,h3,h4⟩:=hg;obtain ⟨v,h5,h6⟩:=h;exact ⟨_,ps_for hp hc h1 h3 h5 hs,rs_for h2 h4 h6⟩
theorem dg_name(i:Nat)(hN:X.N.Nodup)(hi:X.N[i]? = some x:=by rfl)(hx:Loc X.env.scope x:=by first | exact Or.inl rfl | exact Or.inr rfl)(hf:X.fn x=true\/X.env.scope.names.lookup x=some .local:=by first | exact .inl rfl | exact .inr rfl)(hsl:R.slot i:=by first | exact True.intro | exact ⟨of_decide_eq_true rfl,of_decide_eq_true rfl⟩):DG X R (.Name x pos) (gVar i):=⟨_,pg_name hN hi hx hf,rg_name i hsl⟩
theorem di_range1 (hm:X.mg "range" = none) (h:DQ X R [a] fq) (hg:Gl X "range" :=by rfl) (hs:starEach [a] X.env = [(false,eval a X.env)]:=by rfl):DI X R tg (.Call (.Name "range" p) [a] [] pos) (mRng1 fq):=by obtain ⟨t,h1,h2⟩:=h;exact ⟨_,pi_range1 hg hm h1 hs,ri_range1 h2⟩
theorem ds_app (i : Nat) {apos cpos : Pos} (h : DE X R e f) (hN : X.N[i]? = some x := by rfl) (hv : Vis X.env.scope x := by first | exact Or.inl rfl | exact Or.inr (Or.inl rfl) | exact Or.inr (Or.inr rfl)) (hd : (x == ("__debug__" : Str)) = false := by decide) (hcd : (x == ("__classdict__" : Str)) = false := by decide)
 (hst:starEach [e] X.env=(false,eval e X.env)::starEach [] X.env:=by rfl) (hbase:attributeBase (.Name x p) "append" X.env (eval (.Name x p) X.env)=eval (.Name x p) X.env:=by rfl)
 (hfew:((backTo cpos (starEach [e] X.env)).all (fun x=> !x.1) && (backToKw cpos (keywordEach [] X.env)).all (fun x=>x.1.isSome) && decide ([e].length+([]:List Keyword).length+(if ([]:List Keyword).isEmpty then 0 else 1)<30))=true:=by rfl)
 (hline:(apos.endLine==cpos.line)=true:=by rfl) (hplain:(backTo cpos (starEach [] X.env)).any (·.1)=false:=by rfl)
 (hs:swapsWith (.Call (.Attribute (.Name x p) "append" apos) [e] [] cpos) none pos.line X.env=pure false:=by rfl) (hsl:R.slot i:=by first | exact True.intro | exact ⟨of_decide_eq_true rfl,of_decide_eq_true rfl⟩):DS X R (.Expr (.Call (.Attribute (.Name x p) "append" apos) [e] [] cpos) pos) (mApp i f):=by
 obtain ⟨t,h1,h2⟩:=h;exact ⟨_,ps_expr (pe_bm PySem.F.plainAttrs_list PySem.F.slot_list_append PySem.F.type_list_append mt_append (pe_var hN hv hd hcd) (pa_cons h1 pa_nil hst) hbase hfew hline hst hplain) hs,rs_app hsl h2⟩
theorem cx_scope1{CX:CXT}{P:Program}{w:World}{K:PySem.W.Frag}{mg:Str->Option Value}{base:Heap}{N:List Str}{qual:Str}{scope:Scope}{f:Addr}{cd:Value}{A:Around}{outer:List Env}{s:Shared}{H:Hp}{E:XK}:(cxOf CX P w K mg base N qual scope f cd A outer s H E).nox.env.scope=scope:=rfl
theorem cx_names1{CX:CXT}{P:Program}{w:World}{K:PySem.W.Frag}{mg:Str->Option Value}{base:Heap}{N:List Str}{qual:Str}{scope:Scope}{f:Addr}{cd:Value}{A:Around}{outer:List Env}{s:Shared}{H:Hp}{E:XK}:(cxOf CX P w K mg base N qual scope f cd A outer s H E).nox.N=N:=rfl
theorem cxC_names{X:Cx}{osc sc:Scope}{N':List Str}{b:CB}:(cxC X osc sc N' b).N=N':=rfl
theorem cxC_scope{X:Cx}{osc sc:Scope}{N':List Str}{b:CB}:(cxC X osc sc N' b).env.scope=relabelS sc osc:=rfl
def GKm(S:Nat->Bool)(g:TG):Prop:=∀v σ H Q Q',g v σ H Q->(∀σ' H',Q σ' H'->σ'.length=σ.length->(∀i:Nat,S i=false->σ'[i]? = σ[i]?)->Q' σ' H')->g v σ H Q'
theorem GKm.gk{S:Nat->Bool}{t:TG}(h:GKm S t):GK S t:=fun v σ H Q q=>h v σ H Q _ q fun _ _ a b c=>⟨a,b,c⟩
theorem gkm_name{S:Nat->Bool}{i:Nat}(h:S i=true):GKm S (gName i):=fun v σ H Q Q' q k=>k _ _ q (List.length_set ..) fun j hj=>by
 rw [List.getElem?_set_ne];intro e;subst e;rw [h] at hj
 cases hj
def DGk(X:Cx)(R:Rl)(S:Nat->Bool)(e:Expr)(g:PyData->En->Option En):Prop:=∃t,PG X e t/\RG X.K R t g/\GKm S t
def DTs(X:Cx)(R:Rl)(ifs:List Expr)(f:En->Option Bool):Prop:=∃tt,PTs X ifs tt/\RT X.K R tt f
theorem dts_nil:DTs X R [] mYes:=⟨_,pts_nil,rt_yes⟩
theorem dts_one(h:DT X R e ft):DTs X R [e] ft:=by obtain ⟨t,h1,h2⟩:=h;exact ⟨_,pts_one h1,h2⟩
theorem dgk_name{S:Nat->Bool}(i:Nat)(hN:X.N.Nodup)(hS:S i=true:=by rfl)(hi:X.N[i]? = some x:=by rfl)(hx:Loc X.env.scope x:=by first | exact Or.inl rfl | exact Or.inr rfl)(hf:X.fn x=true\/X.env.scope.names.lookup x=some .local:=by first | exact .inl rfl | exact .inr rfl)(hsl:R.slot i:=by first | exact True.intro | exact ⟨of_decide_eq_true rfl,of_decide_eq_true rfl⟩):DGk X R S (.Name x pos) (gVar i):=⟨_,pg_name hN hi hx hf,rg_name i hsl,gkm_name hS⟩
variable {osc sc:Scope} {N':List Str} {ix:List (Option Nat)} {ifs:List Expr} {elt iter:Expr} {fe:En->Option Sl}
theorem de_lc {N : List Str} (ho : X.env.scope = osc) (hN : X.N = N) (ix : List (Option Nat)) (sb : En -> En) (hx : ∀ (HB : Hp) (σ : L2.St) (ρ : En) (H0 H : Hp), R.r HB H0 H σ ρ -> R'.r (fun _ => none) H0 H (subS ix σ) (sb ρ)) (hi : DI X R tg iter fi) (hg : ∀ b : CB, DGk (cxC X osc sc N' b) R' (slotS ix) tg fg) (ht : ∀ b : CB, DTs (cxC X osc sc N' b) R' ifs ft) (he : ∀ b : CB, DE (cxC X osc sc N' b) R' elt fe)
 (hcs:csOk osc sc N N' ix=true:=by decide +kernel) (hc:X.calm=true:=by rfl)
 (hs:∀x,foldedSetIterable iter X.env x=pure x:=by intro _;rfl):DE X R (.ListComp elt [⟨tg,iter,ifs,0⟩] sc pos) (mLC sb fi fg ft fe):=by
 obtain ⟨wi,h1,h2⟩:=hi
 exact ⟨_,pe_lc (g:=fun b=>(hg b).choose) (tt:=fun b=>(ht b).choose) (te:=fun b=>(he b).choose) hc ho hN hcs h1 (fun b=>⟨(hg b).choose_spec.1,(ht b).choose_spec.1,(he b).choose_spec.1⟩) (fun b=>(hg b).choose_spec.2.2.gk) hs,
  re_lc hx h2 (fun b=>(hg b).choose_spec.2.1) (fun b=>(ht b).choose_spec.2) (fun b=>(he b).choose_spec.2)⟩
theorem ds_setC {N : List Str} (ho : X.env.scope = osc) (hN : X.N = N) (i : Nat) (ix : List (Option Nat)) (sb : En -> En) (hx : ∀ (HB : Hp) (σ : L2.St) (ρ : En) (H0 H : Hp), R.r HB H0 H σ ρ -> R'.r (fun _ => none) H0 H (subS ix σ) (sb ρ)) {py spos : Pos} (hnd : X.N.Nodup) (hi : DI X R tg iter fi) (hg : ∀ b : CB, DGk (cxC X osc sc N' b) R' (slotS ix) tg fg) (ht : ∀ b : CB, DTs (cxC X osc sc N' b) R' ifs ft) (he : ∀ b : CB, DE (cxC X osc sc N' b) R' elt fe)
 (hi':X.N[i]? = some y:=by rfl) (hy:X.env.scope.names.lookup y=some .local:=by rfl) (hsw:swapsWith (.ListComp elt [⟨tg,iter,ifs,0⟩] sc pos) (some (.Name y py)) spos.line X.env=pure true:=by rfl)
 (hcs:csOk osc sc N N' ix=true:=by decide +kernel) (hc:X.calm=true:=by rfl)
 (hs:∀x,foldedSetIterable iter X.env x=pure x:=by intro _;rfl) (hsl:R.slot i:=by first | exact True.intro | exact ⟨of_decide_eq_true rfl,of_decide_eq_true rfl⟩):DS X R (.Assign [.Name y py] (.ListComp elt [⟨tg,iter,ifs,0⟩] sc pos) spos) (mAsg i (mLC sb fi fg ft fe)):=by
 obtain ⟨wi,h1,h2⟩:=hi
 exact ⟨_,ps_setC (g:=fun b=>(hg b).choose) (tt:=fun b=>(ht b).choose) (te:=fun b=>(he b).choose) hnd hi' hy hsw hc ho hN hcs h1 (fun b=>⟨(hg b).choose_spec.1,(ht b).choose_spec.1,(he b).choose_spec.1⟩) (fun b=>(hg b).choose_spec.2.2.gk) hs,
  rs_asgC hsl (re_lc hx h2 (fun b=>(hg b).choose_spec.2.1) (fun b=>(ht b).choose_spec.2) (fun b=>(he b).choose_spec.2))⟩
end
end Dm
namespace Dm
open PySem PySem.Spec L2 Tf
theorem compM_map{α:Type}{f:PyData->Option (Option PyData)}{en:α->PyData}{g:α->PyData}:∀ {xs:List α},(∀x ∈ xs,f (en x)=some (some (g x)))->compM f (xs.map en)=some (xs.map g)
 | [],_=>rfl
 | x::xs,h=>by
  rw [List.map_cons,compM,h x List.mem_cons_self,compM_map (fun y hy=>h y (List.mem_cons_of_mem _ hy))];rfl
theorem compM_range{f:PyData->Option (Option PyData)}{g:Nat->PyData}{lo:Int}{n:Nat}(h:∀i,i<n->f (.int (lo+(i:Nat)))=some (some (g i))):compM f (rngD lo n)=some ((List.range n).map g) :=
 compM_map (en:=fun i:Nat=>PyData.int (lo+(i:Nat))) fun i hi=>h i (List.mem_range.mp hi)
def Rts(g:En->Option Out)(ρ:En)(r:Sl):Prop:=∃ρ',g ρ=some (.rt r ρ')
theorem rts_seq{f g:En->Option Out}{ρ ρ':En}{r:Sl}(h:f ρ=some (.nx ρ'))(k:Rts g ρ' r):Rts (mSeq f g) ρ r:=by
 obtain ⟨ρ2,k⟩:=k;exact ⟨ρ2,by unfold mSeq;rw [h];exact k⟩
theorem rts_seqR{f g:En->Option Out}{ρ:En}{r:Sl}(h:Rts f ρ r):Rts (mSeq f g) ρ r:=by
 obtain ⟨ρ2,h⟩:=h;exact ⟨ρ2,by unfold mSeq;rw [h];rfl⟩
theorem rts_ret{f:En->Option Sl}{ρ:En}{r:Sl}(h:f ρ=some r):Rts (mRet f) ρ r:=⟨ρ,by unfold mRet;rw [h];rfl⟩
theorem rts_if{c:En->Option Bool}{f g:En->Option Out}{ρ:En}{r:Sl}{b:Bool}(h:c ρ=some b)(k:Rts (if b then f else g) ρ r):Rts (mIf c f g) ρ r:=by
 obtain ⟨ρ2,k⟩:=k;refine ⟨ρ2,?_⟩;unfold mIf;rw [h]
 cases b <;> exact k
theorem runD_rt{n k:Nat}{g:En->Option Out}{ds:List PyData}{ρ:En}{r:Sl}(hl:ds.length=k)(e:ds.map (fun d=>some (Sl.val d))++List.replicate (n - ds.length) none=ρ)(h:Rts g ρ r):runD n g k ds=some r:=by
 obtain ⟨ρ',h⟩:=h;unfold runD;rw [if_pos hl,e,h];rfl
theorem seq_to{f g:En->Option Out}{ρ ρ':En}{o:Out}(h:f ρ=some (.nx ρ'))(k:g ρ'=some o):mSeq f g ρ=some o:=by
 unfold mSeq;rw [h];exact k
theorem if_to{c:En->Option Bool}{f g:En->Option Out}{ρ:En}{o:Out}{b:Bool}(h:c ρ=some b)(k:(if b then f ρ else g ρ)=some o):mIf c f g ρ=some o:=by
 unfold mIf;rw [h];exact k
theorem asg_to{i:Nat}{f:En->Option Sl}{ρ:En}{r:Sl}(h:f ρ=some r):mAsg i f ρ=some (.nx (ρ.set i (some r))):=by
 unfold mAsg;rw [h];rfl
theorem ret_to{f:En->Option Sl}{ρ:En}{r:Sl}(h:f ρ=some r):mRet f ρ=some (.rt r ρ):=by
 unfold mRet;rw [h];rfl
theorem call_to{F:List PyData->Option Sl}{f:En->Option (List PyData)}{ρ:En}{ds:List PyData}{r:Sl}(h:f ρ=some ds)(k:F ds=some r):mCall F f ρ=some r:=by
 unfold mCall;rw [h];exact k
theorem for_to{fi:En->Option (List PyData)}{fg:PyData->En->Option En}{gb:En->Option Out}{ρ:En}{ds:List PyData}{o:Out}(h:fi ρ=some ds)(k:forM fg gb ds ρ=some o):mFor fi fg gb ρ=some o:=by
 unfold mFor;rw [h];exact k
theorem lc_to{sb:En->En}{fi:En->Option (List PyData)}{fg:PyData->En->Option En}{ft:En->Option Bool}{fe:En->Option Sl}{ρ:En}{ds es:List PyData}(h:fi ρ=some ds)(hl:ds.length<sizeLine)(k:compM (elM fg ft fe (sb ρ)) ds=some es):mLC sb fi fg ft fe ρ=some (.own es):=by
 unfold mLC;rw [h];show (if ds.length<sizeLine then _ else _)=_;rw [if_pos hl,k];rfl
theorem mulS{i j:Int}(h:CMulA i j):dRep (.val (.int i)) (.val (.int j))=some (.val (.int (i*j))):=by
 unfold dRep dMulI iopC;simp only [if_pos h]
theorem divS{i j:Int}(h:CDivB i j):dFdiv (.val (.int i)) (.val (.int j))=some (.val (.int (i.fdiv j))):=by
 unfold dFdiv iopC;simp only [if_pos h]
theorem modS{i j:Int}(h:j≠0):dMod (.val (.int i)) (.val (.int j))=some (.val (.int (i.fmod j))):=by
 unfold dMod iopC;simp only [if_pos h]
theorem shrS{i j:Int}(h:0<=j):dShr (.val (.int i)) (.val (.int j))=some (.val (.int (i / 2 ^ j.toNat))):=by
 unfold dShr iopC;simp only [if_pos h]
theorem rng1_to{f:En->Option (List Sl)}{ρ:En}{j:Nat}(h:f ρ=some [.val (.int j)])(hj:j<=1000):mRng1 f ρ=some (rngD 0 j):=by
 have b:inB (j:Int):=by
  constructor
  . have : -(2 ^ 62:Int)<=0:=by decide
    omega
  . have:(1000:Int)<2 ^ 62:=by decide
    omega
 unfold mRng1;rw [h];show (if inB (j:Int) then some (rngD 0 ((j:Int).toNat)) else none)=_;rw [if_pos b,Int.toNat_natCast]
theorem eqD_int(i j:Int):eqD (.int i) (.int j)=some (decide (i=j)):=by
 have:PyData.eqv (.int i) (.int j)=decide (i=j):=by simp [PyData.eqv,Bool.beq_eq_decide_eq]
 unfold eqD;rw [if_pos ⟨rfl,rfl,by simp [PyData.depth]⟩,this]
theorem lay_list{α:Type}{en:α->PyData}(h:∀x,(en x).canLay0=true):∀xs:List α,PyData.canLayAll0 (xs.map en)=true
 | []=>rfl
 | x::xs=>by rw [List.map_cons,PyData.canLayAll0,h x,lay_list h xs];rfl
theorem dep_list{α:Type}{en:α->PyData}{k:Nat}(h:∀x,(en x).depth<=k):∀xs:List α,PyData.depthAll (xs.map en)<=k
 | []=>Nat.zero_le _
 | x::xs=>by rw [List.map_cons,PyData.depthAll];exact Nat.max_le.mpr ⟨h x,dep_list h xs⟩
theorem eqD_same{d:PyData}(h:d.canLay0=true)(k:d.depth<=60):eqD d d=some true:=by
 unfold eqD;rw [if_pos ⟨h,h,by omega⟩,SeqAt.eqv_refl d h]
end Dm
namespace Dm
open PySem PySem.Spec PyProof.Rows L2 Tf
section
variable {X:Cx}
theorem bools_of{bs:List Bool}:∀ {us:List Value},Vals (bs.map V.bl) us->LSm.BoolsAre us bs:=by
 induction bs with
 | nil=>intro us r;cases r;exact .nil
 | cons b bs ih=>
  intro us r
  cases r with
  | cons r1 r2=>cases (show _=Value.bool b from r1);exact .cons b (ih r2)
theorem call_all(hc:X.calm=true):CallR X (.builtin "all") (fun xs H Q=>∃(p:Addr) (bs:List Bool),xs = [.ref p]/\SqL X.K H p (bs.map V.bl)/\Q (.bl (bs.all id)) H):=by
 intro pins s σ H xs us Q I r h;obtain ⟨p,bs,rfl,hq,q⟩:=h;obtain ⟨u,rfl,ru⟩:=vals1 r
 cases (show u=Value.ref p from ru)
 obtain ⟨its,rv,pl,hz⟩:=I.list hq;have hb:=bools_of rv;have hl:s.heap.IsList p its.toArray:=pl.isList;have hlt:p<s.heap.objs.size:=by obtain ⟨_,e,_⟩:=hl;exact Heap.lt_size e
 refine call_all_walk (wpAny_pyIter_list hl ?_)
 refine ⟨s.heap.objs.size,[s.heap.objs.size,p],[s.heap.objs.size],its.toArray.size,_,_,fun i=>(bs[i]?).getD true,rfl,Walks.list (A:=X.A.in1) (I.ok.hd hc) _ p (Nat.ne_of_lt hlt) its.toArray,
  ⟨⟨_,Heap.get?_push_size _ rfl,rfl,rfl⟩,hl.push _⟩,fun i v s' Q' E' hP hQ=> ?_,fun h' tk hk=> ?_⟩
 . obtain ⟨b,e,rfl⟩:=hb.get i v (by simpa using hP);simp only [e,Option.getD_some] at hQ
   exact wpAny_truthy_bool hQ
 . have e : ((List.range its.toArray.size).all fun i => (bs[i]?).getD true) = bs.all id := by
    rw [List.size_toArray,hb.length];exact LSm.range_all bs
   rw [e];exact ⟨.bl _,H,I.kept (LSm.kept_iter hk),rfl,q⟩
theorem call_any(hc:X.calm=true):CallR X (.builtin "any") (fun xs H Q=>∃(p:Addr) (bs:List Bool),xs = [.ref p]/\SqL X.K H p (bs.map V.bl)/\Q (.bl (bs.any id)) H):=by
 intro pins s σ H xs us Q I r h;obtain ⟨p,bs,rfl,hq,q⟩:=h;obtain ⟨u,rfl,ru⟩:=vals1 r
 cases (show u=Value.ref p from ru)
 obtain ⟨its,rv,pl,hz⟩:=I.list hq;have hb:=bools_of rv;have hl:s.heap.IsList p its.toArray:=pl.isList;have hlt:p<s.heap.objs.size:=by obtain ⟨_,e,_⟩:=hl;exact Heap.lt_size e
 refine call_any_walk (wpAny_pyIter_list hl ?_)
 refine ⟨s.heap.objs.size,[s.heap.objs.size,p],[s.heap.objs.size],its.toArray.size,_,_,fun i=>(bs[i]?).getD false,rfl,Walks.list (A:=X.A.in1) (I.ok.hd hc) _ p (Nat.ne_of_lt hlt) its.toArray,
  ⟨⟨_,Heap.get?_push_size _ rfl,rfl,rfl⟩,hl.push _⟩,fun i v s' Q' E' hP hQ=> ?_,fun h' tk hk=> ?_⟩
 . obtain ⟨b,e,rfl⟩:=hb.get i v (by simpa using hP);simp only [e,Option.getD_some] at hQ
   exact wpAny_truthy_bool hQ
 . have e : ((List.range its.toArray.size).any fun i => (bs[i]?).getD false) = bs.any id := by
    rw [List.size_toArray,hb.length];exact LSm.range_any bs
   rw [e];exact ⟨.bl _,H,I.kept (LSm.kept_iter hk),rfl,q⟩
def boolsOf:List PyData->Option (List Bool)
 | []=>some []
 | .bool i::r=>(boolsOf r).map (i :: ·)
 | _::_=>none
theorem boolsOf_eq:∀ {ds:List PyData} {bs:List Bool},boolsOf ds=some bs->ds=bs.map .bool
 | [],bs,h=>by cases h;rfl
 | .bool i::r,bs,h=>by
  obtain ⟨ms,h1,rfl⟩:=Option.map_eq_some_iff.mp (show (boolsOf r).map (i :: ·)=some bs from h);rw [boolsOf_eq h1];rfl
theorem reps_bools{K:PySem.W.Frag}{H:Hp}:∀ {vs:List V} {bs:List Bool},Reps K H vs (bs.map .bool)->vs=bs.map .bl
 | _,[],h=>by cases h;rfl
 | _,n::r,h=>by
  cases h with
  | cons h t=>cases h;rw [reps_bools t];rfl
def dAll:List Sl->Option Sl
 | [a]=>match a.dat with
  | .list ds=>(boolsOf ds).map fun bs=> .val (.bool (bs.all id))
  | _=>none
 | _=>none
def dAny:List Sl->Option Sl
 | [a]=>match a.dat with
  | .list ds=>(boolsOf ds).map fun bs=> .val (.bool (bs.any id))
  | _=>none
 | _=>none
theorem cd_all{K:PySem.W.Frag}:CallD K (fun xs H Q=>∃(p:Addr) (bs:List Bool),xs = [.ref p]/\SqL K H p (bs.map V.bl)/\Q (.bl (bs.all id)) H) dAll:=fun H0 H vs ss z s p hz Q q=>by
 unfold dAll at hz
 split at hz
 . obtain ⟨v,rfl,pa⟩:=paired1 p
   split at hz
   . rename_i ds hd;obtain ⟨bs,hn,rfl⟩:=Option.map_eq_some_iff.mp hz;obtain ⟨a,vs,rfl,h1,h2⟩:=pa.lst s hd;rw [boolsOf_eq hn] at h2
     rw [reps_bools h2] at h1
     exact ⟨a,bs,rfl,h1,q _ _ _ (Ext.refl s) (.bool _)⟩
   . cases hz
 . cases hz
theorem cd_any{K:PySem.W.Frag}:CallD K (fun xs H Q=>∃(p:Addr) (bs:List Bool),xs = [.ref p]/\SqL K H p (bs.map V.bl)/\Q (.bl (bs.any id)) H) dAny:=fun H0 H vs ss z s p hz Q q=>by
 unfold dAny at hz
 split at hz
 . obtain ⟨v,rfl,pa⟩:=paired1 p
   split at hz
   . rename_i ds hd;obtain ⟨bs,hn,rfl⟩:=Option.map_eq_some_iff.mp hz;obtain ⟨a,vs,rfl,h1,h2⟩:=pa.lst s hd;rw [boolsOf_eq hn] at h2
     rw [reps_bools h2] at h1
     exact ⟨a,bs,rfl,h1,q _ _ _ (Ext.refl s) (.bool _)⟩
   . cases hz
 . cases hz
def rInD(K:PySem.W.Frag)(neg:Bool):R2:=fun x y H Q=>∃p xs dx ds,y = .ref p/\(SqL K H p xs\/SqT K H p xs)/\Rep K H x dx/\Reps K H xs ds/\dx.canLay0=true/\(∀d ∈ ds,d.canLay0=true)/\dx.depth<=60/\Q (.bl (if neg then !(ds.any fun d=>PyData.eqv d dx) else ds.any fun d=>PyData.eqv d dx)) H
open Classical in
noncomputable def eqW(h:Heap)(ds:List PyData)(dx:PyData)(u:Value):Bool:=decide (∃d ∈ ds,(∃as,Reads h u d as)/\PyData.eqv d dx=true)
open Classical in
theorem eqW_of{h:Heap}{ds:List PyData}{dx d:PyData}{u:Value}{as:List Addr}(hd:d ∈ ds)(hl:∀d ∈ ds,d.canLay0=true)(r:Reads h u d as):eqW h ds dx u=PyData.eqv d dx:=by
 unfold eqW
 by_cases e:PyData.eqv d dx=true
 . rw [e];exact decide_eq_true ⟨d,hd,⟨as,r⟩,e⟩
 . rw [Bool.eq_false_iff.mpr e];refine decide_eq_false ?_;rintro ⟨d',hd',⟨as',r'⟩,e'⟩;rw [<-SeqAt.Reads.unique d d' u as as' (hl d hd) r r'] at e'
   exact e e'
theorem any_eqW{h:Heap}{dx:PyData}{all:List PyData}(hl:∀d ∈ all,d.canLay0=true):∀ {us:List Value} {ds:List PyData} {as:List Addr},ReadsAll h us ds as->(∀d ∈ ds,d ∈ all)->us.any (eqW h all dx)=ds.any fun d=>PyData.eqv d dx
 | _,_,_, .nil,_=>rfl
 | _,_,_, .cons r t,hs=>by
  rw [List.any_cons,List.any_cons,eqW_of (hs _ List.mem_cons_self) hl r,any_eqW hl t fun d hd=>hs d (List.mem_cons_of_mem _ hd)]
theorem mem_readsAll{h:Heap}:∀ {us:List Value} {ds:List PyData} {as:List Addr},ReadsAll h us ds as->∀u ∈ us,∃d ∈ ds,∃bs,Reads h u d bs
 | _,_,_, .nil,u,hu=>by cases hu
 | _,_,_, .cons r t,u,hu=>by
  rcases List.mem_cons.mp hu with rfl | hu
  . exact ⟨_,List.mem_cons_self,_,r⟩
  . obtain ⟨d,hd,q⟩:=mem_readsAll t u hu;exact ⟨d,List.mem_cons_of_mem _ hd,q⟩
theorem in1_units(A:Around):A.in1.units=A.units+1:=rfl
theorem op_inD(hu:X.A.units+64<cLine):OpR X (compareOp .In) (rInD X.K false):=by
 intro pins s σ H x y v u Q I rx ry h;obtain ⟨p,xs,dx,ds,rfl,hq,hx,hs,lx,ld,dp,q⟩:=h
 cases ry
 obtain ⟨bs,r2⟩:=hx.reads I rx lx;rcases hq with hq | hq
 . obtain ⟨its,r,pl,hz⟩:=I.list hq;obtain ⟨as,ra⟩:=Reps.reads I hs r (layAll_of ld);refine SeqAt.in_listAt (eqW s.heap ds dx) pl.isList (fun w hw=> ?_) ⟨.bl _,H,I,rfl,?_⟩
   . obtain ⟨d,hd,cs,rd⟩:=mem_readsAll ra w (by simpa using hw);rw [eqW_of hd ld rd];exact SeqAt.eqAt_reads d dx _ _ _ _ _ _ rd r2 (ld d hd) lx (by have:=in1_units X.A;omega)
   . rw [show its.toArray.any (eqW s.heap ds dx)=its.any (eqW s.heap ds dx) by simp,any_eqW ld ra fun _ h=>h];exact q
 . obtain ⟨its,r,pl,hz⟩:=I.tuple hq;obtain ⟨as,ra⟩:=Reps.reads I hs r (layAll_of ld);refine SeqAt.in_tupleAt (eqW s.heap ds dx) pl (fun w hw=> ?_) ⟨.bl _,H,I,rfl,?_⟩
   . obtain ⟨d,hd,cs,rd⟩:=mem_readsAll ra w (by simpa using hw);rw [eqW_of hd ld rd];exact SeqAt.eqAt_reads d dx _ _ _ _ _ _ rd r2 (ld d hd) lx (by have:=in1_units X.A;omega)
   . rw [show its.toArray.any (eqW s.heap ds dx)=its.any (eqW s.heap ds dx) by simp,any_eqW ld ra fun _ h=>h];exact q
def inD(neg:Bool)(dx:PyData)(ds:List PyData):Option Sl:=if dx.canLay0=true/\(ds.all fun d=>d.canLay0)=true/\dx.depth<=60 then some (.val (.bool (if neg then !(ds.any fun d=>PyData.eqv d dx) else ds.any fun d=>PyData.eqv d dx))) else none
def dInD(neg:Bool)(a b:Sl):Option Sl:=match b.dat with
 | .list ds=>inD neg a.dat ds
 | .tuple ds=>inD neg a.dat ds
 | _=>none
theorem opd_inD{K:PySem.W.Frag}{neg:Bool}:OpD K (rInD K neg) (dInD neg):=fun H0 H x y sx sy z s px py hz Q q=>by
 unfold dInD at hz
 split at hz
 . rename_i ds hd;unfold inD at hz
   split at hz
   . rename_i hc
     cases hz
     obtain ⟨a,vs,rfl,h1,h2⟩:=py.lst s hd;exact ⟨a,vs,_,ds,rfl, .inl h1,px.rep s,Reps.same s h2,hc.1,fun d hd=>List.all_eq_true.mp hc.2.1 d hd,hc.2.2,q _ _ _ (Ext.refl s) (.bool _)⟩
   . cases hz
 . rename_i ds hd;unfold inD at hz
   split at hz
   . rename_i hc
     cases hz
     obtain ⟨a,vs,rfl,h1,h2⟩:=py.tup hd;exact ⟨a,vs,_,ds,rfl, .inr (s.seqT (SqT.of h1)),px.rep s,Reps.same s h2,hc.1,fun d hd=>List.all_eq_true.mp hc.2.1 d hd,hc.2.2,q _ _ _ (Ext.refl s) (.bool _)⟩
   . cases hz
 . cases hz
variable {R:Rl} [RelOk X.K R] {a b e:Expr} {pos p:Pos} {fa fb f:En->Option Sl}
theorem dt_inD(hu:X.A.units+64<cLine)(ha:DP X R a fa)(hb:DP X R b fb)(hm:behindInMarks .In b=false:=by with_unfolding_all rfl):DT X R (.Compare a [.In] [b] pos) (mTest (mBin (dInD false) fa fb)):=dt_cmp (op_inD hu) opd_inD ha hb hm
end
end Dm
namespace Tf
open PySem PySem.Spec PyProof.Rows L2
variable {X:Cx}
end Tf
namespace Dm
open PySem PySem.Spec L2 Tf
def Wp(g:En->Option Out)(ρ:En)(Z:Out->Prop):Prop:=∃o,g ρ=some o/\Z o
def Nx(P:En->Prop):Out->Prop
 | .nx ρ=>P ρ
 | _=>False
def Rt(r:Sl):Out->Prop
 | .rt r' _=>r'=r
 | _=>False
def Lp(N:En->Prop)(Z:Out->Prop):Out->Prop
 | .nx ρ=>N ρ
 | .ct ρ=>N ρ
 | .bk ρ=>Z (.nx ρ)
 | .rt r ρ=>Z (.rt r ρ)
section
variable {f g:En->Option Out} {ρ:En} {Z:Out->Prop}
theorem wp_of{o:Out}(h:g ρ=some o)(z:Z o):Wp g ρ Z:=⟨o,h,z⟩
theorem Wp.imp{Y:Out->Prop}(h:Wp g ρ Y)(k:∀o,Y o->Z o):Wp g ρ Z:=by
 obtain ⟨o,h1,h2⟩:=h;exact ⟨o,h1,k o h2⟩
theorem wp_seqG(h:Wp f ρ (fun o=>match o with | .nx ρ'=>Wp g ρ' Z | o=>Z o)):Wp (mSeq f g) ρ Z:=by
 obtain ⟨o,h1,h2⟩:=h
 cases o with
 | nx ρ' =>
  obtain ⟨o2,h3,h4⟩:=h2
  exact ⟨o2,by unfold mSeq;rw [h1];exact h3,h4⟩
 | rt r ρ'=>exact ⟨_,by unfold mSeq;rw [h1];rfl,h2⟩
 | bk ρ'=>exact ⟨_,by unfold mSeq;rw [h1];rfl,h2⟩
 | ct ρ'=>exact ⟨_,by unfold mSeq;rw [h1];rfl,h2⟩
theorem wp_seq{P:En->Prop}(h:Wp f ρ (Nx P))(k:∀ρ',P ρ'->Wp g ρ' Z):Wp (mSeq f g) ρ Z:=by
 refine wp_seqG (h.imp fun o ho=> ?_)
 cases o with
 | nx ρ'=>exact k ρ' ho
 | _=>exact ho.elim
theorem wp_seqN{ρ':En}(h:f ρ=some (.nx ρ'))(k:Wp g ρ' Z):Wp (mSeq f g) ρ Z:=by
 obtain ⟨o,h1,h2⟩:=k;exact ⟨o,seq_to h h1,h2⟩
variable {i:Nat} {fe:En->Option Sl} {r:Sl} {c:En->Option Bool} {b:Bool}
theorem wp_asg(h:fe ρ=some r)(k:Z (.nx (ρ.set i (some r)))):Wp (mAsg i fe) ρ Z:=⟨_,asg_to h,k⟩
theorem wp_asgS(h:fe ρ=some r)(k:Wp g (ρ.set i (some r)) Z):Wp (mSeq (mAsg i fe) g) ρ Z:=wp_seqN (asg_to h) k
theorem wp_frz(h:Wp g (frz1 i ρ) Z):Wp (mFrz i g) ρ Z:=h
theorem wp_ret(h:fe ρ=some r)(k:Z (.rt r ρ)):Wp (mRet fe) ρ Z:=⟨_,ret_to h,k⟩
theorem wp_if(h:c ρ=some b)(k:Wp (if b then f else g) ρ Z):Wp (mIf c f g) ρ Z:=by
 obtain ⟨o,h1,h2⟩:=k;refine ⟨o,if_to h ?_,h2⟩
 cases b <;> exact h1
theorem wp_ifT(h:c ρ=some true)(k:Wp f ρ Z):Wp (mIf c f g) ρ Z:=wp_if (b:=true) h k
theorem wp_ifF(h:c ρ=some false)(k:Wp g ρ Z):Wp (mIf c f g) ρ Z:=wp_if (b:=false) h k
theorem wp_next(k:Z (.nx ρ)):Wp mNext ρ Z:=⟨_,rfl,k⟩
theorem wp_skip{h:En->Option Out}(hc:c ρ=some false)(k:Wp h ρ Z):Wp (mSeq (mIf c f mNext) h) ρ Z:=wp_seqN (if_to hc rfl) k
variable {fi:En->Option (List PyData)} {fg:PyData->En->Option En} {ds:List PyData}
theorem wp_for(P:Nat->En->Prop)(hi:fi ρ=some ds)(h0:P 0 ρ)(hs:∀(j:Nat) d ρ,ds[j]? = some d->P j ρ->∃ρ1,fg d ρ=some ρ1/\Wp g ρ1 (Lp (P (j+1)) Z))(k:∀ρ',P ds.length ρ'->Z (.nx ρ')):Wp (mFor fi fg g) ρ Z:=by
 have gen:∀(n j:Nat) ρ,j+n=ds.length->P j ρ->∃o,forM fg g (ds.drop j) ρ=some o/\Z o:=by
  intro n
  induction n with
  | zero=>
   intro j ρ hj hp;have:j=ds.length:=by omega
   subst this;rw [List.drop_eq_nil_of_le (Nat.le_refl _)]
   exact ⟨_,rfl,k ρ hp⟩
  | succ n ih=>
   intro j ρ hj hp;have hd:ds[j]? = some ds[j]:=List.getElem?_eq_getElem (by omega);obtain ⟨ρ1,h1,o,h2,h3⟩:=hs j ds[j] ρ hd hp;rw [forM_drop hd,h1];simp only [Option.bind_some,h2]
   cases o with
   | nx ρ2=>exact ih (j+1) ρ2 (by omega) h3
   | ct ρ2=>exact ih (j+1) ρ2 (by omega) h3
   | bk ρ2=>exact ⟨_,rfl,h3⟩
   | rt r ρ2=>exact ⟨_,rfl,h3⟩
 obtain ⟨o,h1,h2⟩:=gen ds.length 0 ρ (by omega) h0;refine ⟨o,for_to hi ?_,h2⟩;simpa using h1
theorem wp_forR(P:Nat->En->Prop){lo:Int}{n:Nat}(hi:fi ρ=some (rngD lo n))(h0:P 0 ρ)(hs:∀(j:Nat) ρ,j<n->P j ρ->∃ρ1,fg (.int (lo+(j:Nat))) ρ=some ρ1/\Wp g ρ1 (Lp (P (j+1)) Z))(k:∀ρ',P n ρ'->Z (.nx ρ')):Wp (mFor fi fg g) ρ Z:=by
 refine wp_for P hi h0 (fun j d ρ hd hp=> ?_) (by simpa [rngD] using k);rw [rngD_get] at hd
 split at hd
 . rename_i hlt
   cases hd
   exact hs j ρ hlt hp
 . cases hd
theorem wp_forR0(P:Nat->En->Prop){n:Nat}(hi:fi ρ=some (rngD 0 n))(h0:P 0 ρ)(hs:∀(j:Nat) ρ,j<n->P j ρ->∃ρ1,fg (.int (j:Nat)) ρ=some ρ1/\Wp g ρ1 (Lp (P (j+1)) Z))(k:∀ρ',P n ρ'->Z (.nx ρ')):Wp (mFor fi fg g) ρ Z:=
 wp_forR P hi h0 (fun j ρ hj hp=>by rw [Int.zero_add];exact hs j ρ hj hp) k
theorem wp_forL{α:Type}{en:α->PyData}{xs:List α}(P:Nat->En->Prop)(hi:fi ρ=some (xs.map en))(h0:P 0 ρ)(hs:∀(j:Nat) x ρ,xs[j]? = some x->P j ρ->∃ρ1,fg (en x) ρ=some ρ1/\Wp g ρ1 (Lp (P (j+1)) Z))(k:∀ρ',P xs.length ρ'->Z (.nx ρ')):Wp (mFor fi fg g) ρ Z:=by
 refine wp_for P hi h0 (fun j d ρ hd hp=> ?_) (by simpa using k);rw [List.getElem?_map] at hd
 obtain ⟨x,hx,rfl⟩:=Option.map_eq_some_iff.mp hd;exact hs j x ρ hx hp
theorem wp_while(P:En->Prop)(μ:En->Nat)(h0:P ρ)(hs:∀ρ,P ρ->(c ρ=some false/\Z (.nx ρ))\/(c ρ=some true/\Wp g ρ (Lp (fun ρ'=>P ρ'/\μ ρ'<μ ρ) Z))):Wp (mWhile c g) ρ Z:=by
 have gen:∀(n:Nat) ρ,μ ρ<n->P ρ->∃o,whileF c g n ρ=some o/\Z o:=by
  intro n
  induction n with
  | zero=>intro ρ h;omega
  | succ n ih=>
   intro ρ hm hp;rcases hs ρ hp with ⟨h,z⟩ | ⟨h,o,h1,h2⟩
   . exact ⟨.nx ρ,by simp [whileF,h],z⟩
   . cases o with
     | nx ρ2=>
      obtain ⟨o,h4,h5⟩:=ih ρ2 (by have:=h2.2;omega) h2.1
      exact ⟨o,by simp [whileF,h,h1,h4],h5⟩
     | ct ρ2=>
      obtain ⟨o,h4,h5⟩:=ih ρ2 (by have:=h2.2;omega) h2.1
      exact ⟨o,by simp [whileF,h,h1,h4],h5⟩
     | bk ρ2=>exact ⟨_,by simp [whileF,h,h1],h2⟩
     | rt r ρ2=>exact ⟨_,by simp [whileF,h,h1],h2⟩
 obtain ⟨o,h1,h2⟩:=gen (μ ρ+1) ρ (by omega) h0;exact ⟨o,mWhile_of h1,h2⟩
theorem run_wp{n k:Nat}{ds:List PyData}(hl:ds.length=k)(e:ds.map (fun d=>some (Sl.val d))++List.replicate (n - ds.length) none=ρ)(h:Wp g ρ (Rt r)):runD n g k ds=some r:=by
 obtain ⟨o,h1,h2⟩:=h
 cases o with
 | rt r' ρ'=>cases h2;exact runD_rt hl e ⟨ρ',h1⟩
 | _=>exact h2.elim
end
theorem and_to{a b:En->Option Bool}{ρ:En}{k l:Bool}(h1:a ρ=some k)(h2:b ρ=some l):mAnd a b ρ=some (k && l):=by
 unfold mAnd;rw [h1]
 cases k
 . rfl
 . exact h2
theorem or_to{a b:En->Option Bool}{ρ:En}{k l:Bool}(h1:a ρ=some k)(h2:b ρ=some l):mOr a b ρ=some (k || l):=by
 unfold mOr;rw [h1]
 cases k
 . exact h2
 . rfl
theorem not_to{a:En->Option Bool}{ρ:En}{k:Bool}(h1:a ρ=some k):mNot a ρ=some (!k):=by
 unfold mNot;rw [h1];rfl
theorem ne_int{fa fb:En->Option Sl}{ρ:En}{i j:Int}(ha:fa ρ=some (.val (.int i)))(hb:fb ρ=some (.val (.int j))):mTest (mBin dne fa fb) ρ=some (!decide (i=j)):=by
 unfold mTest mBin;rw [ha,Option.bind_some,hb,Option.bind_some];show Option.bind ((eqD (.int i) (.int j)).map _) _=_;rw [eqD_int];rfl
theorem eq_int{fa fb:En->Option Sl}{ρ:En}{i j:Int}(ha:fa ρ=some (.val (.int i)))(hb:fb ρ=some (.val (.int j))):mTest (mBin deq fa fb) ρ=some (decide (i=j)):=by
 unfold mTest mBin;rw [ha,Option.bind_some,hb,Option.bind_some];show Option.bind ((eqD (.int i) (.int j)).map _) _=_;rw [eqD_int];rfl
theorem ne_same{fa fb:En->Option Sl}{ρ:En}{a b:Sl}(ha:fa ρ=some a)(hb:fb ρ=some b)(h:a.dat=b.dat)(h1:b.dat.canLay0=true)(h2:b.dat.depth<=60):mTest (mBin dne fa fb) ρ=some false:=by
 unfold mTest mBin;rw [ha,Option.bind_some,hb,Option.bind_some];show Option.bind ((eqD a.dat b.dat).map _) _=_;rw [h,eqD_same h1 h2];rfl
theorem eq_same{fa fb:En->Option Sl}{ρ:En}{a b:Sl}(ha:fa ρ=some a)(hb:fb ρ=some b)(h:a.dat=b.dat)(h1:b.dat.canLay0=true)(h2:b.dat.depth<=60):mBin deq fa fb ρ=some (.val (.bool true)):=by
 unfold mBin;rw [ha,Option.bind_some,hb,Option.bind_some];show (eqD a.dat b.dat).map _=_;rw [h,eqD_same h1 h2];rfl
def il(l:List Int):List PyData:=l.map .int
def nl(l:List Nat):List PyData:=l.map fun n:Nat=>PyData.int (n:Int)
theorem il_len(l:List Int):(il l).length=l.length:=List.length_map ..
theorem nl_len(l:List Nat):(nl l).length=l.length:=List.length_map ..
theorem nl_app(a b:List Nat):nl (a++b)=nl a++nl b:=List.map_append ..
theorem il_app(a b:List Int):il (a++b)=il a++il b:=List.map_append ..
theorem atI_nat{α:Type}{xs:List α}{j:Nat}{x:α}(h:xs[j]? = some x):atI xs (j:Int)=some x:=by
 obtain ⟨hj,e⟩:=List.getElem?_eq_some_iff.mp h;unfold atI ixN;rw [if_pos (by omega),if_pos (by omega)];simpa using h
theorem dix_nat{s:Sl}{ds:List PyData}{j:Nat}{d:PyData}(hs:s.dat = .list ds\/s.dat = .tuple ds)(h:ds[j]? = some d):dix s (.val (.int (j:Int)))=some (.val d):=by
 unfold dix;rcases hs with hs | hs <;> simp only [hs,atI_nat h,Option.map_some]
theorem intsOf_il(l:List Int):intsOf (il l)=some l:=by
 induction l with
 | nil=>rfl
 | cons a l ih=>simp only [il,List.map_cons,intsOf] at ih ⊢;rw [ih];rfl
end Dm
namespace Tf
open PySem PySem.Spec PyProof.Rows L2
def Itv(K:PySem.W.Frag)(a:Addr)(n:Nat):It:=
 ⟨fun i H=>∃xs x,xs.length=n/\SqL K H a xs/\xs.reverse[i]? = some x,fun i H v H'=>H'=H/\∀xs,SqL K H a xs->xs.reverse[i]? = some v,fun i H=>n<=i⟩
theorem rev_at{α:Type}{xs:List α}{i:Nat}{x:α}(h:xs.reverse[i]? = some x):i<xs.length/\xs[xs.length - 1 - i]? = some x:=by
 have hi:i<xs.length:=by
  obtain ⟨q,_⟩:=List.getElem?_eq_some_iff.mp h;simpa using q
 rw [List.getElem?_reverse hi] at h
 exact ⟨hi,h⟩
theorem turn_rev{P:Program}{w:World}{K:PySem.W.Frag}{tg:Expr}(a it:Addr)(n:Nat):Turn P w K tg (Itv K a n) [it] it (fun i h=>i<=n/\h.IsRevIter it a ((n:Int) - 1 - (i:Nat))) where
 mem:=List.mem_singleton.mpr rfl
 obj:=fun i h st b hb=>by
  cases List.mem_singleton.mp hb
  obtain ⟨_,o,e,_,d⟩:=st;refine ⟨o,e,fun v z=> ?_⟩;rw [d] at z
  cases z
 keep:=fun i h h' st k=>⟨st.1,st.2.at fun o e=>k it (List.mem_singleton.mpr rfl) o e⟩
 item:=by
  intro X hP hw hK hc i pins s σ H E I hf st hg;subst hP hw hK;obtain ⟨xs,x,hn,hq,hx⟩:=hg;obtain ⟨hi,hx'⟩:=rev_at hx;obtain ⟨its,rv,p,hz⟩:=I.list hq;obtain ⟨u,hu,ru⟩:=rv.get hx';obtain ⟨f0,f1,f2,f3,f4,f5⟩:=hf it (List.mem_singleton.mpr rfl);have e1:((n:Int) - 1 - (i:Nat))=((xs.length - 1 - i:Nat):Int):=by omega
  have hit:=st.2;rw [e1] at hit
  refine wpAny_pyNext_rev_item hit p.isList (x:=u) (by simpa using hu) fun h' st' sb=> ?_;have I1:Inv X pins σ H {s with heap:=h' }:=I.turned (t':=s.toks) (fun b o hb e=>(sb.2 b hb).trans e) f0 f1 f3 f4 f5;have e2:((xs.length - 1 - i:Nat):Int) - 1=(n:Int) - 1 - ((i+1:Nat):Int):=by omega
  rw [e2] at st'
  obtain ⟨o,e,c,d⟩:=id st';refine ⟨u,rfl,go_of (s:={s with heap:=h' }) e c d (by decide) ⟨x,H,I1,ru,⟨rfl,fun ys hy=> ?_⟩,⟨by omega,st'⟩,fun b hb=>(hf b hb).1⟩⟩;rw [I.list_inj hy hq];exact hx
 done:=by
  intro X hP hw hK hc i pins s σ H E I hf st hg;subst hP hw hK;obtain ⟨f0,f1,f2,f3,f4,f5⟩:=hf it (List.mem_singleton.mpr rfl);have hn:n<=i:=hg;have e1:((n:Int) - 1 - (i:Nat)) = -1:=by have:=st.1;omega
  have hit:=st.2;rw [e1] at hit
  exact wpAny_pyNext_rev_end (I.ok.hd hc) hit fun h' eb=>⟨rfl,I.turned (t':=s.toks) (fun b o hb e=>eb b o hb e) f0 f1 f3 f4 f5⟩
 self:=fun _ _ _ _ _ st h=>wpAny_pyIter_revIter st.2 h
section
variable {X:Cx}
def iRev(K:PySem.W.Frag)(ta:TA):TI:=fun σ H R=>ta σ H fun vs H1=>∃l xs,vs = [.ref l]/\SqL K H1 l xs/\R (Itv K l xs.length) H1
theorem isRev_new{h:Heap}{l:Addr}{i:Int}:(h.push (revObj l i)).IsRevIter h.objs.size l i:=⟨_,Heap.get?_push_size _ rfl,rfl,rfl⟩
theorem pi_rev {tg a:Expr} {ta:TA} {p pos:Pos} (hg:Gl X "reversed") (hm:X.mg "reversed" = none) (ha:PA X [a] ta) (hs:starEach [a] X.env = [(false,eval a X.env)]:=by rfl):PI X tg (.Call (.Name "reversed" p) [a] [] pos) (iRev X.K ta):=by
 intro pins s σ H R I h;refine Call_ (ld_blt I hg hm bt_reversed (PyProof.Rows.callWith_type1 (thn (ha pos pins s σ H _ I h) fun us s1 ⟨vs,H1,I1,r1,q1⟩ => ?_) hs rfl));obtain ⟨l,xs,e,hq,q⟩:=q1;subst e;obtain ⟨u,rfl,ru⟩:=vals1 r1
 cases (show u=Value.ref l from ru)
 obtain ⟨its,rv,p1,hz⟩:=I1.list hq;have hl:=rv.length;refine call_reversed_list p1.isList ?_;refine wpAny_pyIter_revIter isRev_new ?_;refine ⟨s1.heap.objs.size,[s1.heap.objs.size],_,_,H1,rfl,I1.kept (t':=s1.toks) fun b o e=>Heap.get?_push_of_some _ e,turn_rev l _ xs.length,⟨Nat.zero_le _,?_⟩,fun b hb=> ?_,q⟩
 . have e:((its.toArray.size:Nat):Int) - 1=(xs.length:Int) - 1 - ((0:Nat):Int):=by simp;omega
   rw [<-e];exact isRev_new
 . cases List.mem_singleton.mp hb
   exact I1.fpOk (Nat.le_refl _) (I1.hok.fresh (Nat.le_refl _))
end
theorem nolen_lri:typeLookup (.type "list_reverseiterator") "__len__" = pure none:=by rw [typeLookup_type,builtinLookup_eq_fast];kernel_rfl
theorem hint_lri:typeLookup (.type "list_reverseiterator") "__length_hint__" = pure (some (.builtin "list_reverseiterator.__length_hint__")):=by rw [typeLookup_type,builtinLookup_eq_fast];kernel_rfl
section
variable {prog:Program} {w:World} {A:Around} {E:Value->Shared->Prop} {s:Shared} {it:Addr} {F W:List Addr} {G:Array GenState->Array GenState->Prop} {n:Nat} {P:Nat->Value->Prop} {St:Nat->Shared->Prop}
theorem col_rev {Q : List Value -> Shared -> Prop} (V : WalksS prog w A.in1 it F W G n P St) (ty : ∀ i s, St i s -> s.TypeIs (.ref it) "list_reverseiterator") (st : St 0 s) (lt : ∀ b ∈ F, b < s.heap.objs.size) (mem : it ∈ F)
 (q:∀s' acc,Moved W G s s'->ItemsOf P acc n->Q acc.toList s') (hn:n<=sizeLine):wpAny (model prog w) A (collect (.ref it)) Q E s:=by
 have out:s.heap.objs.size ∉ F:=fun z=>Nat.lt_irrefl _ (lt _ z);have ne:s.heap.objs.size≠it:=fun z=>out (z ▸ mem);unfold collect;refine wpAny_bind (wpAny_runValue (codeAny_builtin PySem.F.entry_proto_collect ?_));rw [Around.under_plainId PySem.F.plain_proto_collect _];show wpAny _ A.in1 (newList [] >>= fun z=>again (.builtin "list.__iadd__" ⟨[z, .ref it],[]⟩)) _ _ s;refine wpAny_bind (wpAny_newObj_type ?_);refine wpAny_pure ⟨plainId_quiet PySem.F.plain_list_iadd _,codeAny_builtin PySem.F.entry_list_iadd ?_⟩;rw [Around.under_plainId PySem.F.plain_list_iadd _];have st1:=V.frame 0 s (s.heap.push {cls:= .type "list",data:= .seq ([]:List Value).toArray}) s.toks st (Nat.le_refl _) fun b _ o z=>Heap.get?_push_of_some _ z;have new:(s.heap.push {cls:= .type "list",data:= .seq ([]:List Value).toArray}).get? s.heap.objs.size=some {cls:= .type "list",data:= .seq ([]:List Value).toArray}:=Heap.get?_push_size _ rfl;have un:Builtin.List.listSameRef (.ref s.heap.objs.size) (.ref it)=false:=by simp [Builtin.List.listSameRef,ne]
 show wpAny _ A.in1 (Builtin.List.listExtendWith (.ref s.heap.objs.size) (.ref it) (.ref s.heap.objs.size)) _ _ _;unfold Builtin.List.listExtendWith;refine wpAny_bind (wpAny_typeOf (ty 0 _ st1) ?_);rw [if_neg (by rw [un];decide)];refine wpAny_bind (V.self 0 _ _ _ st1 ?_);refine wpAny_bind (wpAny_holding ?_);unfold Builtin.List.listLengthHint;refine wpAny_bind (wpAny_specialOf (ty 0 _ st1) nolen_lri ?_);show wpAny _ A.in1 (specialOf (Value.ref it) (Str.ofString "__length_hint__") >>= _) _ _ _;refine wpAny_bind (wpAny_specialOf (ty 0 _ st1) hint_lri ?_)
 (generalize hid:("list_reverseiterator.__length_hint__" : String)=id0;(fail_if_success (clear hid id0));wp_delta;rw [show splitId id0=some ("list_reverseiterator","__length_hint__") from by subst hid;decide +kernel];subst hid)
 refine wpAny_bind (wpAny_isInstance (b:=true) (ty 0 _ st1) (by rw [isSubtype_type];kernel_rfl) ?_);refine wpAny_pure ?_;rw [if_neg (by decide)];refine wpAny_pure ⟨plainId_quiet PySem.F.plain_extend_loop _,codeAny_extend_loopS V hn _ out _ n 0 _ _ _ rfl (Nat.zero_le _) st1 new (ItemsOf.nil P) fun s' acc' c' mv got all=> ?_⟩;show wpAny _ A (load s.heap.objs.size >>= _) _ _ s';refine wpAny_bind (wpAny_load got ?_);exact wpAny_pure (q s' acc' (Moved.drop_new (o:={cls:= .type "list",data:= .seq ([]:List Value).toArray}) (tk:=s.toks) mv (Nat.le_refl _)) all)
theorem code_tupleRev {Q₁ : Value -> Shared -> Prop} (V : WalksS prog w A.in1.in1 it F W G n P St) (ty : ∀ i s, St i s -> s.TypeIs (.ref it) "list_reverseiterator") (st : St 0 s) (lt : ∀ b ∈ F, b < s.heap.objs.size) (mem : it ∈ F)
 (q:∀s' acc,Moved W G s s'->ItemsOf P acc n->Q₁ (.ref s'.heap.objs.size) {s' with heap:=s'.heap.push {cls:= .type "tuple",data:= .seq acc} }) (hn:n<=sizeLine) :
 codeAny (model prog w) A (.call (.builtin "tuple.__new__") ⟨[.type "tuple", .ref it],[]⟩) (wants Q₁ E) s:=by
 refine codeAny_of_tree ?_;show wpAny _ A.in1 (do checkBuiltinCall "tuple.__new__" ⟨[.type "tuple", .ref it],[]⟩;again (.builtin "tuple.__new__" ⟨[.type "tuple", .ref it],[]⟩)) _ _ s;refine wpAny_bind (wpAny_of_eq (PySem.F.newCall_tuple_1 _) (wpAny_pure ⟨plainId_quiet PySem.F.plain_tuple_new _,codeAny_builtin PySem.F.entry_tuple_new ?_⟩));rw [Around.under_plainId PySem.F.plain_tuple_new _];have hsub:=sub_tuple_self;have hinit:=init_tuple_lookup;have hmh:=madeHere_tuple;have ty0:=ty 0 s st
 wp_walk using wpAny_typeOf ty0,col_rev (hn:=hn) V ty st lt mem
 intro s' acc mv all;show wpAny _ _ (Builtin.Tuple.tupleExact acc.toList.toArray >>= fun z=>ret z) _ _ _;unfold Builtin.Tuple.tupleExact;refine wpAny_bind (wpAny_newObj_type ?_ (by show acc.toList.toArray.size<=sizeLine;simp only [Array.toArray_toList];rw [all.1];exact hn));refine wpAny_pure ?_;have e:acc.toList.toArray=acc:=by simp
 rw [e];exact q s' acc mv all
theorem call_tupleRev {Q : Value -> Shared -> Prop} (V : WalksS prog w A.in1.in1.in1 it F W G n P St) (ty : ∀ i s, St i s -> s.TypeIs (.ref it) "list_reverseiterator") (st : St 0 s) (lt : ∀ b ∈ F, b < s.heap.objs.size) (mem : it ∈ F)
 (q:∀s' acc,Moved W G s s'->ItemsOf P acc n->Q (.ref s'.heap.objs.size) {s' with heap:=s'.heap.push {cls:= .type "tuple",data:= .seq acc} }) (hn:n<=sizeLine) :
 wpAny (model prog w) A (call (.type "tuple") [.ref it]) Q E s:=by
 refine callType_codes (Q₁:=fun obj t=>t.TypeIs obj "tuple" /\ Q obj t) PySem.F.called_tuple (PySem.F.typeCall_tuple_1 _) PySem.F.entry_object_init
  (code_tupleRev (hn:=hn) V ty st lt mem fun s' acc mv all=>⟨⟨_,Heap.get?_push_size _ rfl,rfl⟩,q s' acc mv all⟩) fun obj t ht=> ?_
 exact ⟨ht.1,PySem.F.args_object_init_2 obj _,object_init_meets PySem.F.called_tuple.init.lookup PySem.F.called_tuple.made (by decide) prog w A.in1 _ t ⟨ht.1,rfl,ht.2⟩⟩
end
section
variable {X:Cx}
def tTupRev(K:PySem.W.Frag)(ta:TA):TE:=fun σ H Q=>ta σ H fun vs H1=>∃l xs,vs = [.ref l]/\SqL K H1 l xs/\∀p,H1 p=none->Q (.ref p) (upd H1 p (.tup xs.reverse))
theorem pe_tupRev {a : Expr} {ta : TA} {p p2 pos pos2 : Pos} (hc : X.calm = true) (hg : Gl X "reversed") (hm : X.mg "reversed" = none) (hg2 : Gl X "tuple") (hm2 : X.mg "tuple" = none) (ha : PA X [a] ta) (hs : starEach [a] X.env = [(false, eval a X.env)] := by rfl)
 (hs2:starEach [.Call (.Name "reversed" p) [a] [] pos] X.env = [(false,eval (.Call (.Name "reversed" p) [a] [] pos) X.env)]:=by rfl):PE X (.Call (.Name "tuple" p2) [.Call (.Name "reversed" p) [a] [] pos] [] pos2) (tTupRev X.K ta):=by
 intro pins s σ H Q I h;refine wpAny_Call_Name_kw (ld_blt I hg2 hm2 bt_tuple ?_);refine PyProof.Rows.callWith_type1 ?_ hs2 rfl;rw [hs2];show wpAny _ _ (spliced ((false,eval (.Call (.Name "reversed" p) [a] [] pos) X.env) :: [])) _ _ s;refine Calls.spliced_cons ?_;refine wpAny_Call_Name_kw (ld_blt I hg hm bt_reversed ?_);refine PyProof.Rows.callWith_type1 (thn (ha pos pins s σ H _ I h) fun us s1 ⟨vs,H1,I1,r1,q1⟩ => ?_) hs rfl;obtain ⟨l,xs,e,hq,q⟩:=q1;subst e;obtain ⟨u,rfl,ru⟩:=vals1 r1
 cases (show u=Value.ref l from ru)
 obtain ⟨its,rv,p1,hz⟩:=I1.list hq;have hl:=rv.length;refine call_reversed_list p1.isList ?_;refine Calls.spliced_nil ?_;have I2:Inv X pins σ H1 {s1 with heap:=s1.heap.push (revObj l ((its.toArray.size:Int) - 1))}:=I1.kept (t':=s1.toks) fun b o e=>Heap.get?_push_of_some _ e;have lt1:l<s1.heap.objs.size:=by obtain ⟨o,n,e,_⟩:=p1;exact Heap.lt_size e
 have hd:X.A.handled=none:=I1.ok.hd hc;have V:=(Walks.listRev (prog:=X.prog) (w:=X.w) (A:=X.A.in1.in1.in1) hd s1.heap.objs.size l (Nat.ne_of_lt lt1) its.toArray).toS;obtain ⟨f0,f1,f2,f3,f4,f5⟩:=I1.fpOk (b:=s1.heap.objs.size) (Nat.le_refl _) (I1.hok.fresh (Nat.le_refl _));have hz':its.toArray.size<=sizeLine:=by simp only [List.size_toArray];omega
 refine call_tupleRev (s:={s1 with heap:=s1.heap.push (revObj l ((its.toArray.size:Int) - 1))}) V (fun i t st=>st.2.1.typeIs) ⟨Nat.zero_le _,?_,?_⟩ (fun b hb=> ?_) (List.mem_cons_self ..) (fun s' acc mv all=> ?_) hz'
 . have e:((its.toArray.size:Int) - 1 - ((0:Nat):Int))=(its.toArray.size:Int) - 1:=by omega
   rw [e];exact isRev_new
 . exact p1.isList.push _
 . show b<(s1.heap.push _).objs.size;rw [Heap.size_push];simp only [List.mem_cons,List.not_mem_nil,or_false] at hb
   rcases hb with rfl | rfl
   . exact Nat.lt_succ_self _
   . exact Nat.lt_succ_of_lt lt1
 . obtain ⟨h',g',d',tk',os'⟩:=s';obtain ⟨mh,mg,md,mo,mt⟩:=mv;have e1:g'=s1.gens:=mg;have e2:d'=s1.drawn:=md;have e3:os'=s1.os:=mo;subst e1 e2 e3;have I3:Inv X pins σ H1 {s1 with heap:=h',toks:=tk' }:=I2.turned (fun b o hb e=>mh b o (by simpa using hb) e) f0 f1 f3 f4 f5
   have ra:∃ys:List Value,acc=ys.toArray/\ys=its.reverse:=by
    refine ⟨acc.toList,by simp,?_⟩;refine List.ext_getElem? fun i=> ?_;have hsz:acc.size=its.length:=by simpa using all.1
    by_cases hi:i<its.length
    . have hlt:i<acc.size:=by omega
      have h1:=all.2 i acc[i] (by simp [hlt]);rw [List.getElem?_reverse hi];simp only [Array.getElem?_toList];rw [Array.getElem?_eq_getElem hlt, <-h1];simp
    . rw [List.getElem?_eq_none (by simp;omega),List.getElem?_eq_none (by simp;omega)]
   obtain ⟨ys,rfl,rfl⟩:=ra;have rr:Vals xs.reverse its.reverse:=rv.reverse
   have I4:Inv X pins σ (upd H1 h'.objs.size (.tup xs.reverse)) {s1 with heap:=h'.push {cls:= .type "tuple",data:= .seq its.reverse.toArray},toks:=tk' } :=
    I3.laid (t':=tk') (fun b o e=>Heap.get?_push_of_some _ e) (Nat.le_refl _) (show ObjOk X.prog X.w _ _ _ (.tup xs.reverse) from ⟨by rw [List.length_reverse];exact hz,its.reverse,rr,IsTup.new _ _⟩)
   exact ⟨.ref h'.objs.size,_,I4,rfl,q _ (I3.hok.fresh (Nat.le_refl _))⟩
def iSeq(K:PySem.W.Frag)(tl:TE):TI:=fun σ H R=>tl σ H fun x H1=>∃a,x = .ref a/\(((∃xs,SqL K H1 a xs)/\R (Itl K a) H1)\/((∃xs,SqT K H1 a xs)/\R (Itt K a) H1))
theorem pi_seq{tg l:Expr}{tl:TE}(hl:PE X l tl):PI X tg l (iSeq X.K tl):=by
 intro pins s σ H R I h;refine thn (hl pins s σ H _ I h) fun v s1 ⟨x,H1,I1,r1,q1⟩ => ?_;obtain ⟨a,e,⟨⟨xs,hq⟩,q⟩ | ⟨⟨xs,hq⟩,q⟩⟩:=q1
 . subst e
   cases r1
   obtain ⟨its,rv,p,hz⟩:=I1.list hq;refine wpAny_pyIter_list p.isList ?_;refine ⟨s1.heap.objs.size,[s1.heap.objs.size],_,_,H1,rfl,I1.kept (t':=s1.toks) fun b o e=>Heap.get?_push_of_some _ e,turn_list a _,⟨_,Heap.get?_push_size _ rfl,rfl,rfl⟩,fun b hb=> ?_,q⟩
   cases List.mem_singleton.mp hb
   exact I1.fpOk (Nat.le_refl _) (I1.hok.fresh (Nat.le_refl _))
 . subst e
   cases r1
   obtain ⟨its,rv,p,hz⟩:=I1.tuple hq;refine wpAny_pyIter_tuple (show s1.heap.IsTuple a its.toArray from p) ?_;refine ⟨s1.heap.objs.size,[s1.heap.objs.size],_,_,H1,rfl,I1.kept (t':=s1.toks) fun b o e=>Heap.get?_push_of_some _ e,turn_tuple a _,⟨_,Heap.get?_push_size _ rfl,rfl,rfl⟩,fun b hb=> ?_,q⟩
   cases List.mem_singleton.mp hb
   exact I1.fpOk (Nat.le_refl _) (I1.hok.fresh (Nat.le_refl _))
end
end Tf
namespace Dm
open PySem PySem.Spec PyProof.Rows L2 Tf
section
variable {K:PySem.W.Frag} {R:Rl} [RelOk K R]
theorem Reps.rev{H:Hp}:∀ {vs:List V} {ds:List PyData},Reps K H vs ds->Reps K H vs.reverse ds.reverse
 | _,_, .nil=> .nil
 | _,_, .cons a t=>by
  rw [List.reverse_cons,List.reverse_cons];exact Reps.append (Reps.rev t) (.cons a .nil)
theorem it_rev{H0:Hp}{a:Addr}{vs:List V}{ds:List PyData}(h:SqL K H0 a vs)(r:Reps K H0 vs ds):ItR K H0 (Itv K a vs.length) ds.reverse:=fun H0' H' s s' i=>by
 have h':=s'.seq (s.seq h);refine ⟨fun d hd=> ?_,fun hi=>show vs.length<=i by rw [r.length];simpa using hi⟩;obtain ⟨v,e1,e2⟩:=Tf.Reps.get (Reps.rev r) hd;refine ⟨⟨vs,v,rfl,h',e1⟩,fun x H2 y=> ?_⟩;obtain ⟨rfl,y⟩:=y;have:=y vs h';rw [e1] at this
 cases this
 exact ⟨H0',Ext.refl s',Rep.same s e2⟩
def mRevI(f:En->Option (List PyData)):En->Option (List PyData):=fun ρ=>(f ρ).bind fun a=>match a with
 | [.list xs]=>some xs.reverse
 | _=>none
theorem ri_rev{ta:TA}{f:En->Option (List PyData)}(h:RA K R ta f):RI K R (iRev K ta) (mRevI f):=fun HB σ ρ H0 H s e ds hd R q=>by
 obtain ⟨a,ha,hd⟩:=Option.bind_eq_some_iff.mp hd
 split at hd
 . cases hd
   refine h HB σ ρ H0 H s e _ ha _ fun vs H1 J1 x1 p1=> ?_
   cases p1 with | cons p1 t=>
    cases t
    cases p1 with | list a1 a2=>
     exact ⟨_,_,rfl,x1.s1.seq a1,q _ _ _ x1 (it_rev a1 a2)⟩
 . cases hd
def dTupRev:List Sl->Option Sl
 | [a]=>match a.dat with
  | .list ds=>some (.val (.tuple ds.reverse))
  | _=>none
 | _=>none
theorem re_tupRev{ta:TA}{f:En->Option (List Sl)}(h:RQ K R ta f):RE K R (tTupRev K ta) (mCallP dTupRev f):=fun HB σ ρ H0 H s e z hz Q q=>by
 obtain ⟨ss,hd,hz⟩:=Option.bind_eq_some_iff.mp hz;refine h HB σ ρ H0 H s e ss hd _ fun vs H1 J1 x1 p1=> ?_;unfold dTupRev at hz
 split at hz
 . obtain ⟨v,rfl,pa⟩:=paired1 p1
   split at hz
   . rename_i ds hds
     cases hz
     obtain ⟨a,vs,rfl,h1,h2⟩:=pa.lst x1.s1 hds;exact ⟨a,vs,rfl,h1,fun p hp=>q _ _ _ (x1.trans (Ext.allocF x1.s1 hp _)) (.tuple upd_same (Reps.same (Same.upd (x1.s1.free hp) _) (Reps.rev h2)))⟩
   . cases hz
 . cases hz
def mItemsS(f:En->Option Sl):En->Option (List PyData):=fun ρ=>(f ρ).bind fun a=>match a.dat with
 | .list ds=>some ds
 | .tuple ds=>some ds
 | _=>none
theorem ri_seq{te:TE}{f:En->Option Sl}(h:RE K R te f):RI K R (iSeq K te) (mItemsS f):=fun HB σ ρ H0 H s e ds hd R q=>by
 obtain ⟨a,ha,hd⟩:=Option.bind_eq_some_iff.mp hd
 split at hd
 . rename_i es he
   cases hd
   refine h.rv HB σ ρ H0 H s e a.dat (by unfold mDat;rw [ha];rfl) _ fun v H1 J1 x1 p1=> ?_;rw [he] at p1
   cases p1 with
   | list h1 h2=>exact ⟨_,rfl, .inl ⟨⟨_,x1.s1.seq h1⟩,q _ _ _ x1 (it_list h1 h2)⟩⟩
 . rename_i es he
   cases hd
   refine h.rv HB σ ρ H0 H s e a.dat (by unfold mDat;rw [ha];rfl) _ fun v H1 J1 x1 p1=> ?_;rw [he] at p1
   cases p1 with
   | tuple h1 h2=>exact ⟨_,rfl, .inr ⟨⟨_,x1.s1.seqT (SqT.of h1)⟩,q _ _ _ x1 (it_tup (SqT.of h1) h2)⟩⟩
 . cases hd
def PinP(K:PySem.W.Frag)(i:Nat)(a:Addr)(ds:List PyData):Rl:=⟨fun HB H0 H σ ρ=>ER K HB H0 H σ ρ/\σ[i]? = some (some (.ref a))/\ρ[i]? = some (some (.own ds)),fun k=>k≠i/\(0:Nat)=0⟩
instance relOk_Pin {i:Nat} {a:Addr} {ds:List PyData}:RelOk K (PinP K i a ds) where
 ext:=fun x e=>⟨ER.ext x e.1,e.2⟩
 get:=fun e _ h=>ER.get e.1 _ _ h
 set:=fun {_ _ _ _ _ _ _ k _ _} e hs x s h=>⟨(relOk_PR (K:=K)).set e.1 trivial x s h,by rw [List.getElem?_set_ne hs.1];exact e.2.1,by rw [List.getElem?_set_ne hs.1];exact e.2.2⟩
 write:=fun e hs h1 h2 h3 h4 h5 h6=>⟨(relOk_PR (K:=K)).write e.1 trivial h1 h2 h3 h4 h5 h6,e.2.1,by rw [List.getElem?_set_ne hs.1];exact e.2.2⟩
 frz:=fun e hs h x=>by
  obtain ⟨H0',h1,h2⟩:=(relOk_PR (K:=K)).frz e.1 trivial h x;exact ⟨H0',h1,h2,e.2.1,by rw [List.getElem?_set_ne hs.1];exact e.2.2⟩
end
section
variable {X:Cx} {R R':Rl} [RelOk X.K R] [RelOk X.K R'] {a b c e:Expr} {pos p p2 pos2:Pos} {f g fa fb fc:En->Option Sl} {fs:En->Option (List PyData)} {fq:En->Option (List Sl)} {tg:Expr} {x:Str}
theorem di_rev (hm:X.mg "reversed" = none) (h:DA X R [a] fs) (hg:Gl X "reversed" :=by rfl) (hs:starEach [a] X.env = [(false,eval a X.env)]:=by rfl):DI X R tg (.Call (.Name "reversed" p) [a] [] pos) (mRevI fs):=by
 obtain ⟨t,h1,h2⟩:=h;exact ⟨_,pi_rev hg hm h1 hs,ri_rev h2⟩
theorem di_seq(h:DE X R e f):DI X R tg e (mItemsS f):=by
 obtain ⟨t,h1,h2⟩:=h;exact ⟨_,pi_seq h1,ri_seq h2⟩
theorem de_tupRev (hm : X.mg "reversed" = none) (hm2 : X.mg "tuple" = none) (h : DQ X R [a] fq) (hc : X.calm = true := by rfl) (hg : Gl X "reversed" := by rfl) (hg2 : Gl X "tuple" := by rfl) (hs : starEach [a] X.env = [(false, eval a X.env)] := by rfl)
 (hs2:starEach [.Call (.Name "reversed" p) [a] [] pos] X.env = [(false,eval (.Call (.Name "reversed" p) [a] [] pos) X.env)]:=by rfl):DE X R (.Call (.Name "tuple" p2) [.Call (.Name "reversed" p) [a] [] pos] [] pos2) (mCallP dTupRev fq):=by
 obtain ⟨t,h1,h2⟩:=h;exact ⟨_,pe_tupRev hc hg hm hg2 hm2 h1 hs hs2,re_tupRev h2⟩
end
end Dm
namespace Tf
open PySem PySem.Spec PyProof.Rows L2
section
variable {prog:Program} {w:World} {A:Around} {E:Value->Shared->Prop} {s:Shared}
end
section
variable {prog:Program} {w:World} {A:Around} {E:Value->Shared->Prop} {s:Shared}
end
section
variable {X:Cx}
end
end Tf
namespace Dm
open PySem PySem.Spec PyProof.Rows L2 Tf
section
variable {K:PySem.W.Frag} {R:Rl} [RelOk K R]
end
section
variable {X:Cx} {R:Rl} [RelOk X.K R] {a b:Expr} {pos p:Pos} {fs:En->Option (List PyData)}
end
end Dm
namespace Dm
open PySem PySem.Spec PyProof.Rows L2 Tf
def keyOf1:PyData->Option Key
 | .int i=>some (.inl i)
 | .str x=>some (.inr x)
 | _=>none
def keysOf:List PyData->Option (List Key)
 | []=>some []
 | d::ds=>(keyOf1 d).bind fun k=>(keysOf ds).map (k :: ·)
def keyOf:PyData->Option (List Key)
 | .tuple ds=>keysOf ds
 | _=>none
theorem keyD_inj{a b:Key}(h:keyD a=keyD b):a=b:=by
 cases a <;> cases b <;> simp [keyD] at h <;> rw [h]
theorem tupD_inj{a b:List Key}(h:tupD a=tupD b):a=b:=by
 have h:a.map keyD=b.map keyD:=by
  unfold tupD at h
  exact PyData.tuple.inj h
 exact List.map_inj_right (fun _ _=>keyD_inj) |>.mp h
section
variable {K:PySem.W.Frag}
theorem keysOf_rep{H:Hp}:∀ {vs:List V} {ds:List PyData} {k:List Key},Reps K H vs ds->keysOf ds=some k->vs=k.map kV/\ds=k.map keyD
 | _,_,_, .nil,h=>by cases h;exact ⟨rfl,rfl⟩
 | _,_,k, .cons (d:=d) r t,h=>by
  obtain ⟨k1,e1,h⟩:=Option.bind_eq_some_iff.mp h;obtain ⟨ks,e2,rfl⟩:=Option.map_eq_some_iff.mp h;obtain ⟨i1,i2⟩:=keysOf_rep t e2;subst i1 i2
  cases r with
  | int i=>cases e1;exact ⟨rfl,rfl⟩
  | str x=>cases e1;exact ⟨rfl,rfl⟩
  | _=>cases e1
theorem DctR.nil{H:Hp}:DctR K H [] []:=⟨[],[],[],rfl,rfl, .nil,rfl⟩
theorem DctR.cons{H:Hp}{k:List Key}{v:V}{d:PyData}{t:List (List Key×V)}{kvs:List (PyData×PyData)}(r:Rep K H v d)(h:DctR K H t kvs):DctR K H ((k,v)::t) ((tupD k,d)::kvs):=by
 obtain ⟨ks,xs,ds,rfl,e2,e3,rfl⟩:=h;exact ⟨k::ks,v::xs,d::ds,rfl,by rw [List.length_cons,List.length_cons,e2], .cons r e3,rfl⟩
theorem DctR.out{H:Hp}{t:List (List Key×V)}{kvs:List (PyData×PyData)}(h:DctR K H t kvs):(t = []/\kvs = [])\/∃k v d t' kvs',t=(k,v)::t'/\kvs=(tupD k,d)::kvs'/\Rep K H v d/\DctR K H t' kvs':=by
 obtain ⟨ks,xs,ds,rfl,e2,e3,rfl⟩:=h
 cases ks with
 | nil=>exact .inl ⟨rfl,rfl⟩
 | cons k ks=>
  cases e3 with
  | nil=>simp at e2
  | cons r t=>exact .inr ⟨k,_,_,_,_,rfl,rfl,r,ks,_,_,rfl,by simpa using e2,t,rfl⟩
open Classical in
noncomputable def lookD:List (PyData×PyData)->List Key->Option PyData
 | [],_=>none
 | (q,d)::r,k=>if q=tupD k then some d else lookD r k
open Classical in
noncomputable def replD(k:List Key)(d:PyData):List (PyData×PyData)->List (PyData×PyData)
 | []=> []
 | (q,e)::r=>(if q=tupD k then (q,d) else (q,e))::replD k d r
noncomputable def putD(kvs:List (PyData×PyData))(k:List Key)(d:PyData):List (PyData×PyData):=match lookD kvs k with
 | some _=>replD k d kvs
 | none=>kvs ++ [(tupD k,d)]
theorem DctR.val{H:Hp}{k:List Key}:∀ {t:List (List Key×V)} {kvs:List (PyData×PyData)},DctR K H t kvs->(valV t k=none/\lookD kvs k=none)\/∃v d,valV t k=some v/\lookD kvs k=some d/\Rep K H v d
 | [],kvs,h=>by
  rcases h.out with ⟨_,rfl⟩ | ⟨k',v,d,t',kvs',e,_⟩
  . exact .inl ⟨rfl,rfl⟩
  . cases e
 | p::t,kvs,h=>by
  rcases h.out with ⟨e,_⟩ | ⟨k',v,d,t',kvs',e,rfl,r,h'⟩
  . cases e
  . cases e
    by_cases hk:k'=k
    . subst hk;exact .inr ⟨v,d,valV_pos rfl,if_pos rfl,r⟩
    . rw [valV_neg (p:=(k',v)) hk,show lookD ((tupD k',d)::kvs') k=lookD kvs' k from if_neg fun z=>hk (tupD_inj z)];exact DctR.val h'
theorem DctR.repl{H:Hp}{k:List Key}{v:V}{d:PyData}(r:Rep K H v d):∀ {t:List (List Key×V)} {kvs:List (PyData×PyData)},DctR K H t kvs->DctR K H (t.map fun kv=>if kv.1=k then (kv.1,v) else kv) (replD k d kvs)
 | [],kvs,h=>by
  rcases h.out with ⟨_,rfl⟩ | ⟨k',v,d,t',kvs',e,_⟩
  . exact .nil
  . cases e
 | p::t,kvs,h=>by
  rcases h.out with ⟨e,_⟩ | ⟨k',v',d',t',kvs',e,rfl,r',h'⟩
  . cases e
  . cases e
    rw [List.map_cons];rw [replD]
    by_cases hk:k'=k
    . subst hk;rw [if_pos rfl,if_pos rfl];exact .cons r (DctR.repl r h')
    . rw [if_neg hk,if_neg fun z=>hk (tupD_inj z)];exact .cons r' (DctR.repl r h')
theorem DctR.snoc{H:Hp}{k:List Key}{v:V}{d:PyData}(r:Rep K H v d):∀ {t:List (List Key×V)} {kvs:List (PyData×PyData)},DctR K H t kvs->DctR K H (t ++ [(k,v)]) (kvs ++ [(tupD k,d)])
 | [],kvs,h=>by
  rcases h.out with ⟨_,rfl⟩ | ⟨k',v,d,t',kvs',e,_⟩
  . exact .cons r .nil
  . cases e
 | p::t,kvs,h=>by
  rcases h.out with ⟨e,_⟩ | ⟨k',v',d',t',kvs',e,rfl,r',h'⟩
  . cases e
  . cases e
    exact .cons r' (DctR.snoc r h')
theorem DctR.put{H:Hp}{k:List Key}{v:V}{d:PyData}{t:List (List Key×V)}{kvs:List (PyData×PyData)}(r:Rep K H v d)(h:DctR K H t kvs):DctR K H (putK t k v) (putD kvs k d):=by
 unfold putK putD;rw [valV_any];rcases h.val (k:=k) with ⟨e1,e2⟩ | ⟨v',d',e1,e2,_⟩
 . rw [e1,e2];show DctR K H (if false=true then _ else t ++ [(k,v)]) (kvs ++ [(tupD k,d)]);rw [if_neg (by decide)];exact h.snoc r
 . rw [e1,e2];show DctR K H (if true=true then _ else _) (replD k d kvs);rw [if_pos rfl];exact h.repl r
theorem DctR.length{H:Hp}:∀ {t:List (List Key×V)} {kvs:List (PyData×PyData)},DctR K H t kvs->t.length=kvs.length
 | [],kvs,h=>by
  rcases h.out with ⟨_,rfl⟩ | ⟨k',v,d,t',kvs',e,_⟩
  . rfl
  . cases e
 | p::t,kvs,h=>by
  rcases h.out with ⟨e,_⟩ | ⟨k',v',d',t',kvs',e,rfl,r',h'⟩
  . cases e
  . cases e
    rw [List.length_cons,List.length_cons,DctR.length h']
def unD:List (PyData×PyData)->List (PyData×PyData)
 | (.none, .none)::r=>r
 | r=>r
theorem unD_mk(r:List (PyData×PyData)):unD (mkD::r)=r:=rfl
theorem unD_of{H:Hp}{t:List (List Key×V)}{kvs:List (PyData×PyData)}(h:DctR K H t kvs):unD kvs=kvs:=by
 rcases h.out with ⟨_,rfl⟩ | ⟨k',v',d',t',kvs',_,rfl,_⟩ <;> rfl
theorem SlP.dct{H0 H:Hp}{v:V}{kvs:List (PyData×PyData)}(s:Same H0 H):∀ {r:Sl},SlP K H0 H v r->r.dat = .dict kvs->∃a t,v = .ref a/\Rd H a (.dT t)/\DctR K H0 t (unD kvs)
 | .val _,h,e=>by
  cases h with
  | dict h1 h2 h3=>
   cases e
   have r:DctR K H0 _ _:=⟨_,_,_,rfl,h2,h3,rfl⟩;rw [unD_of r]
   exact ⟨_,_,rfl,Rd.same s h1,r⟩
  | dictF h1 h2 h3=>cases e;rw [unD_mk];exact ⟨_,_,rfl, .inr ⟨_,s _ _ h1⟩,_,_,_,rfl,h2,h3,rfl⟩
  | _=>cases e
 | .own _,_,e=>by cases e
 | .dct _,⟨a,t,e,h2,h3⟩,e2=>by cases e2;rw [unD_of h3];exact ⟨a,t,e, .inl h2,h3⟩
variable {R:Rl} [RelOk K R]
def mDNew:En->Option Sl:=fun _=>some (.dct [])
theorem re_dnew:RE K R tDNewT mDNew:=fun HB σ ρ H0 H s e r hr Q q=>by
 cases hr
 exact fun p hp=>q _ _ _ (Ext.alloc s hp _) ⟨p,[],rfl,hp,s.free hp,upd_same, .nil⟩
def dictOf:Sl->Option (List (PyData×PyData)):=fun s=>match s.dat with
 | .dict kvs=>some (unD kvs)
 | _=>none
theorem dct_at{H0 H:Hp}{v:V}{r:Sl}{kvs:List (PyData×PyData)}(s:Same H0 H)(p:SlP K H0 H v r)(h:dictOf r=some kvs):∃a t,v = .ref a/\Rd H a (.dT t)/\DctR K H0 t kvs:=by
 unfold dictOf at h
 split at h
 . rename_i e;cases h;exact p.dct s e
 . cases h
theorem keyOf_at{H0 H:Hp}{v:V}{s:Sl}{k:List Key}(ss:Same H0 H)(p:SlP K H0 H v s)(h:keyOf s.dat=some k):∃b,v = .ref b/\H b=some (.tup (k.map kV)):=by
 unfold keyOf at h
 split at h
 . rename_i ds e;obtain ⟨a,vs,rfl,h1,h2⟩:=p.tup e;obtain ⟨rfl,_⟩:=keysOf_rep h2 h;exact ⟨a,rfl,ss _ _ h1⟩
 . cases h
noncomputable def dDGet:Sl->Sl->Option Sl:=fun a b=>(dictOf a).bind fun kvs=>(keyOf b.dat).bind fun k=>(lookD kvs k).map .val
theorem re_dget{td ty:TE}{fa fb:En->Option Sl}(ha:RP K R td fa)(hb:RP K R ty fb):RE K R (tDGet td ty) (mBin dDGet fa fb):=fun HB σ ρ H0 H s e z hz Q q=>by
 obtain ⟨x,hx,hz⟩:=Option.bind_eq_some_iff.mp hz;obtain ⟨y,hy,hz⟩:=Option.bind_eq_some_iff.mp hz;obtain ⟨kvs,h1,hz⟩:=Option.bind_eq_some_iff.mp hz;obtain ⟨k,h2,hz⟩:=Option.bind_eq_some_iff.mp hz;obtain ⟨d,h3,rfl⟩:=Option.map_eq_some_iff.mp hz;refine ha HB σ ρ H0 H s e x hx _ fun v H1 J1 x1 p1=> ?_;refine hb HB σ ρ H1 J1 x1.s1 (e.ext (K:=K) x1) y hy _ fun u H2 J2 x2 p2=> ?_;obtain ⟨a,t,rfl,g1,g2⟩:=dct_at x2.s1 (p1.ext x2) h1;obtain ⟨b,rfl,g3⟩:=keyOf_at x2.s1 p2 h2;rcases g2.val (k:=k) with ⟨_,e2⟩ | ⟨w,d',e1,e2,r⟩
 . rw [e2] at h3;cases h3
 . rw [e2] at h3
   cases h3
   exact ⟨a,w,rfl, .inr ⟨t,k,b,g1,rfl,g3,e1.symm⟩,q _ _ _ (x1.trans x2) r⟩
noncomputable def dDIn(neg:Bool):Sl->Sl->Option Sl:=fun b a=>(dictOf a).bind fun kvs=>(keyOf b.dat).map fun k=> .val (.bool (xor neg (lookD kvs k).isSome))
theorem re_din{td ty:TE}{fa fb:En->Option Sl}(hb:RP K R ty fb)(ha:RP K R td fa):RE K R (tDIn ty td) (mBin (dDIn false) fb fa):=fun HB σ ρ H0 H s e z hz Q q=>by
 obtain ⟨y,hy,hz⟩:=Option.bind_eq_some_iff.mp hz;obtain ⟨x,hx,hz⟩:=Option.bind_eq_some_iff.mp hz;obtain ⟨kvs,h1,hz⟩:=Option.bind_eq_some_iff.mp hz;obtain ⟨k,h2,rfl⟩:=Option.map_eq_some_iff.mp hz;refine hb HB σ ρ H0 H s e y hy _ fun u H1 J1 x1 p1=> ?_;refine ha HB σ ρ H1 J1 x1.s1 (e.ext (K:=K) x1) x hx _ fun v H2 J2 x2 p2=> ?_;obtain ⟨a,t,rfl,g1,g2⟩:=dct_at x2.s1 p2 h1;obtain ⟨b,rfl,g3⟩:=keyOf_at x2.s1 (p1.ext x2) h2;refine ⟨a,valV t k,rfl, .inr ⟨t,k,b,g1,rfl,g3,rfl⟩,?_⟩
 have e:(valV t k).isSome=xor false (lookD kvs k).isSome:=by
  rcases g2.val (k:=k) with ⟨e1,e2⟩ | ⟨w,d',e1,e2,r⟩ <;> rw [e1,e2] <;> rfl
 rw [e];exact q _ _ _ (x1.trans x2) (.bool _)
def loneD(i:Nat)(ρ:En):Prop:=∀j kws,j≠i->ρ[j]? ≠ some (some (.dct kws))
theorem ER.writeD {HB H0 H : Hp} {σ : L2.St} {ρ : En} {i : Nat} {a : Addr} {kvs kws : List (PyData × PyData)} {t t' : List (List Key × V)} (e : ER K HB H0 H σ ρ) (hl : loneD i ρ) (hi : ρ[i]? = some (some (.dct kvs))) (hs : σ[i]? = some (some (.ref a))) (hb : HB a = none) (h0 : H0 a = none) (ha : H a = some (.dT t)) (hr : DctR K H0 t' kws) :
 ER K HB H0 (upd H a (.dT t')) σ (ρ.set i (some (.dct kws))):=by
 have own:∀(j:Nat),∀ts,(ρ.set i (some (.dct kws)))[j]? = some (some (.own ts))->ρ[j]? = some (some (.own ts)):=by
  intro j ts h
  by_cases hj:i=j
  . subst hj;rw [List.getElem?_set_self',hi] at h
    cases h
  . rw [List.getElem?_set_ne hj] at h;exact h
 refine ⟨by rw [List.length_set];exact e.len,fun j s hq=> ?_,fun j k b ts us hjk hj hk h1 h2=> ?_⟩
 . by_cases hj:i=j
   . subst hj;rw [List.getElem?_set_self',hi] at hq
     cases hq
     exact ⟨.ref a,hs,a,t',rfl,hb,h0,upd_same,hr⟩
   . rw [List.getElem?_set_ne hj] at hq
     obtain ⟨v,h1,h2⟩:=e.get j s hq;refine ⟨v,h1,?_⟩
     cases s with
     | val d=>exact h2
     | own ts=>
      obtain ⟨b,vs,rfl,g1,g2,g3,g4⟩:=h2;refine ⟨b,vs,rfl,g1,g2,?_,g4⟩;rw [upd_ne]
      . exact g3
      . rintro rfl;rw [ha] at g3
        cases g3
     | dct ts=>exact absurd hq (hl j ts fun z=>hj z.symm)
 . exact e.apart j k b ts us hjk (own j ts hj) (own k us hk) h1 h2
def isDct:Option Sl->Bool
 | some (.dct _)=>true
 | _=>false
def lone(i:Nat)(ρ:En):Bool:= !((ρ.set i none).any isDct)
theorem lone_of{i:Nat}{ρ:En}(h:lone i ρ=true):loneD i ρ:=fun j kws hj e=>by
 have h:(ρ.set i none).any isDct=false:=by simpa [lone] using h
 have m:(ρ.set i none)[j]? = some (some (.dct kws)):=by rw [List.getElem?_set_ne (Ne.symm hj)];exact e
 have:=List.any_eq_false.mp h _ (List.mem_of_getElem? m);exact this rfl
noncomputable def mDSet(i:Nat)(fk f:En->Option Sl):En->Option Out:=fun ρ=>(f ρ).bind fun r=>match (ρ[i]?).join with
 | some (.dct kvs)=>(fk ρ).bind fun b=>(keyOf b.dat).bind fun k=>if kvs.length<sizeLine/\lone i ρ=true then some (.nx (ρ.set i (some (.dct (putD kvs k r.dat))))) else none
 | _=>none
theorem rs_dset{te tk:TE}{f fk:En->Option Sl}{i:Nat}(h:RE K (PR K) te f)(hk:RP K (PR K) tk fk):RS K (PR K) (sDPut (tVar i) tk te) (mDSet i fk f):=fun HB S0 σ ρ H0 H x e o ho D d=>by
 obtain ⟨r,hr,ho⟩:=Option.bind_eq_some_iff.mp ho
 split at ho
 . rename_i kvs hown;obtain ⟨b,hb,ho⟩:=Option.bind_eq_some_iff.mp ho;obtain ⟨k,hkk,ho⟩:=Option.bind_eq_some_iff.mp ho
   split at ho
   . rename_i hc
     cases ho
     refine h.rv HB σ ρ H0 H x.s1 e r.dat (by unfold mDat;rw [hr];rfl) _ fun v H1 J1 x1 p1=> ?_;obtain ⟨v',hs,a,t,rfl,g1,g2,g3,g4⟩:=(e.ext (K:=K) x1).r.get i _ (join_some hown);refine ⟨.ref a,hs,?_⟩;refine hk HB σ ρ H1 J1 x1.s1 (e.ext (K:=K) x1) _ hb _ fun w H2 J2 x2 p2=> ?_;have l0:=x2.own a _ g3 True.intro g2;obtain ⟨c,rfl,g5⟩:=keyOf_at x2.s1 p2 hkk;refine ⟨a,_,rfl, .inr ⟨t,k,c,x2.s _ _ g3,rfl,g5,by rw [g4.length];exact hc.1,rfl⟩,?_⟩;exact d σ H2 _ (((x.chain x1).chain x2).write g1 l0 _) ⟨ER.writeD (((e.ext (K:=K) x1).ext (K:=K) x2).r) (lone_of hc.2) (join_some hown) hs g1 l0 (x2.s _ _ g3) ((g4.same x2.s0).put (Rep.same x2.s0 p1))⟩
   . cases ho
 . cases ho
end
end Dm
namespace Tf
open PySem PySem.Spec PyProof.Rows L2
section
variable {prog:Program} {w:World} {A:Around} {E:Value->Shared->Prop} {s:Shared} {d:Addr} {o:Obj} {es:Array DictEntry} {ep:Nat}
theorem raw_meets (hd : (d == sysModules) = false) : MeetsIn prog w (Builtin.«dict.__len__» ⟨[.ref d], []⟩) (fun _ R s => ∃ o es ep, s.heap.get? d = some o /\ o.data = .dict es ep /\ R (.ok (.ret (.int es.size s.toks))) { s with toks := s.toks + 1 }) :=
 .of_wp fun A R s ⟨o,es,ep,ho,hdat,h⟩=>by
  show wpAny _ _ (dictSize d >>= _) _ _ s;unfold dictSize;refine wpAny_bind (wpAny_bind (wpAny_dictEntries ho hdat (wpAny_pure ?_)));show wpAny _ _ (Builtin.Dict.pendingCount d >>= _) _ _ s;refine wpAny_bind (wpAny_pendingCount_other hd ?_);refine wpAny_ret_mkInt ?_;rw [Nat.add_zero];exact h
theorem raw_len {Q:Value->Shared->Prop} (hd:(d==sysModules)=false) (ho:s.heap.get? d=some o) (hc:o.cls = .type "dict") (hdat:o.data = .dict es ep) (hfit:(es.size:Int)<2 ^ 63) (h:Q (.int es.size (s.toks+1)) {s with toks:=s.toks+1+1}):wpAny (model prog w) A (call (.builtin "len") [.ref d]) Q E s:=by
 refine Calls.call_function_entry kind_len plain_len entry_len (args_len1 _) ?_;have ty:s.TypeIs (.ref d) "dict" :=⟨o,ho,hc⟩;unfold Builtin.«len»;refine wpAny_bind (m:=oneArg "len" _) (wpAny_pure ?_)
 refine wpAny_bind (m:=callSpecial? (.ref d) (Str.ofString "__len__")) (wpAny_callSpecial?_slot (name:=Str.ofString "__len__") ty F.slot_dict_len
  (call_meetsIn F.slot_dict_len ty F.entry_dict_len (F.args_dict_len_1 _) (raw_meets hd) ⟨o,es,ep,ho,hdat,?_⟩))
 show wpAny _ _ _ _ _ {s with toks:=s.toks+1};refine wpAny_bind (wpAny_holding (wpAny_pure ?_));refine wpAny_bind (wpAny_letGo ?_);show wpAny _ _ (if ((es.size:Nat):Int)<0 then _ else _) _ _ _;rw [if_neg (by omega)];show wpAny _ _ (if ((es.size:Nat):Int)≥2 ^ 63 then _ else _) _ _ _;rw [if_neg (by omega)];exact wpAny_bind (wpAny_mkInt (wpAny_pure ⟨_,rfl,h⟩))
end
variable {X:Cx}
theorem call_lenT:CallR X (.builtin "len") (fun xs H Q=>∃a t,xs = [V.ref a]/\Rd H a (.dT t)/\Q (.int t.length) H):=by
 intro pins s σ H xs us Q I r h;obtain ⟨a,t,rfl,ha,q⟩:=h;obtain ⟨u,rfl,ru⟩:=vals1 r
 cases ru
 obtain ⟨z,hd,ps,kt,o,es,ep,h1,h2,h3,h4,_,_⟩:=dt_rd I.hok ha
 have l:es.size=t.length:=by
  have e1:es.toList.length=ps.length:=by rw [h4,List.length_map]
  have e2:t.length=ps.length:=Paired.length kt;rw [e2, <-e1];simp
 refine raw_len hd h1 h2.1 h3 (by rw [l];rw [sizeLine_eq] at z;omega) ?_;rw [l];exact ⟨.int t.length,H,I.tok _,⟨_,rfl⟩,q⟩
def tFrzH(i:Nat)(ts:TS):TS:=fun D σ H=>∃a t,σ[i]? = some (some (.ref a))/\H a=some (.dT t)/\∀o,ts D σ (upd H a (.frz o (.dT t)))
theorem ps_frzH{st:Stmt}{ts:TS}(i:Nat)(h:PS X st ts):PS X st (tFrzH i ts):=by
 intro pins s σ H D I q;obtain ⟨a,t,e1,e2,q⟩:=q;obtain ⟨z,y,xs,r,o,es,ep,h1,h2,h3,h4,h5⟩:=(show ObjOk X.prog X.w H s.heap a (.dT t) from I.hok a _ e2);have kt:∀ {l:List (List Key×V)} {m:List (List Key×Addr×Value)},Paired (fun (p:List Key×V) (q:List Key×Addr×Value)=>p.1=q.1/\H q.2.1=some (.tup (p.1.map kV))/\RelV p.2 q.2.2) l m->Paired (fun (p:List Key×V) (q:List Key×Addr×Value)=>p.1=q.1/\(upd H a (.frz o (.dT t))) q.2.1=some (.tup (p.1.map kV))/\RelV p.2 q.2.2) l m:=fun x=>Paired.mapP x fun _ _ k=>⟨k.1,by rw [upd_ne (ne_of k.2.1 e2 (by intro z;cases z))];exact k.2.1,k.2.2⟩;have I2:Inv X pins σ (upd H a (.frz o (.dT t))) s:=d_write (h':=s.heap) (t':=s.toks) I (by rw [e2];exact True.intro) ⟨rfl,fun _ _=>rfl⟩ ⟨o,h1⟩ ⟨h1,z,y,xs,kt r,o,es,ep,h1,h2,h3,h4,h5⟩;exact h pins s σ _ D I2 (q o)
end Tf
namespace Tf
open PySem PySem.Spec PyProof.Rows L2
section
variable {prog:Program} {w:World} {A:Around} {E:Value->Shared->Prop} {s:Shared} {d it v:Addr} {od:Obj} {es:Array DictEntry} {i ep:Nat}
theorem dv_iter {Q : Value -> Shared -> Prop} (hv : s.heap.IsValuesView v d) (hod : s.heap.get? d = some od) (hdd : od.data = .dict es ep)
 (q:Q (.ref s.heap.objs.size) {s with heap:=s.heap.push {cls:= .type "dict_valueiterator",data:= .fields #[.ref d, .int 0 0, .int es.size 0, .int ep 0]} }):wpAny (model prog w) A (pyIter (.ref v)) Q E s:=by
 obtain ⟨ov,hov,hcv,hdv⟩:=id hv;refine wpAny_pyIter_slot hv.typeIs F.slot_dict_values_iter (wpAny_call_entry F.slot_dict_values_iter hv.typeIs F.entry_dict_values_iter ?_ (F.args_dict_values_iter_1 _));unfold Builtin.«dict_values.__iter__»;refine wpAny_bind (wpAny_pure ?_);refine wpAny_bind ?_;unfold Builtin.Dict_items.dictOf;refine wpAny_bind (wpAny_field hov hdv (x:= .ref d) rfl (wpAny_pure ?_));refine wpAny_bind ?_;unfold Builtin.Dict_items.newIterator;refine wpAny_bind (wpAny_dictEntries hod hdd ?_);refine wpAny_bind (wpAny_dictEpoch hod hdd ?_);have hown:Builtin.Dict_items.ownsTuple "dict_valueiterator" = false:=by decide
 simp only [hown,Bool.false_eq_true,if_false];refine wpAny_newObj_type (wpAny_pure ⟨_,rfl, "dict_valueiterator",_,⟨_,Heap.get?_push_size _ rfl,rfl⟩,F.slot_dict_valueiterator_next.lookup,?_⟩);simpa [rawInt] using q
theorem dv_item {u : Value} {Q : Option Value -> Shared -> Prop} (hit : s.heap.IsValIter it d i es.size ep) (hod : s.heap.get? d = some od) (hdd : od.data = .dict es ep) (hlt : i < es.size) (hval : es[i].val = u)
 (q:∀h',h'.IsValIter it d (i+1) es.size ep->Heap.SameBut it s.heap h'->Q (some u) {s with heap:=h' }):wpAny (model prog w) A (pyNext (.ref it)) Q E s:=by
 obtain ⟨o,ho,hc,hd⟩:=id hit;unfold pyNext
 refine wpAny_bind (wpAny_attempt (wpAny_callSpecial?_slot (name:=Str.ofString "__next__") hit.typeIs F.slot_dict_valueiterator_next
  (wpAny_call_entry F.slot_dict_valueiterator_next hit.typeIs F.entry_dict_valueiterator_next ?_ (F.args_dict_valueiterator_next_1 _))))
 refine wpAny_bind (wpAny_pure ?_);refine wpAny_bind ?_;refine wpAny_bind ?_
 first | refine wpAny_bind (wpAny_typeNameOfWhole_valiter hit.typeIs (wpAny_pure ?_)) | refine wpAny_bind (wpAny_typeNameOf_valiter hit.typeIs (wpAny_pure ?_))
 refine wpAny_bind (wpAny_fieldsOf ho hd ?_);have hown:Builtin.Dict_items.ownsTuple "dict_valueiterator" = false:=by decide
 simp only [hown,Bool.false_eq_true,if_false];show wpAny _ _ (if (Value.ref d==Value.none)=true then _ else _) _ _ s;rw [if_neg (show ¬((Value.ref d==Value.none)=true) from Bool.false_ne_true)];refine wpAny_bind (wpAny_pure ?_);refine wpAny_bind (wpAny_dictEntries hod hdd ?_);rw [if_neg (by simp)];refine wpAny_bind (wpAny_pure ?_);refine wpAny_bind (wpAny_dictEpoch hod hdd ?_);rw [if_neg (by simp)];refine wpAny_pure ?_;simp only [show ¬((i:Int)<0) from by omega,if_false,Int.toNat_natCast,Array.getElem?_eq_getElem hlt];refine wpAny_bind ?_
 first | refine wpAny_bind (wpAny_typeNameOfWhole_valiter hit.typeIs (wpAny_pure ?_)) | refine wpAny_bind (wpAny_typeNameOf_valiter hit.typeIs (wpAny_pure ?_))
 refine wpAny_bind (wpAny_isOneOf_valiter hit.typeIs ?_);show wpAny _ _ (setField (.ref it) 1 (rawInt ((i:Int)+1)) >>= _) _ _ s;refine wpAny_bind (wpAny_setField ho hd (by simp) ?_)
 have hit':(s.heap.update it (Obj.mapFields (·.setIfInBounds 1 (rawInt ((i:Int)+1))))).IsValIter it d (i+1) es.size ep:=
  ⟨_,Heap.get?_update_self _ ho (Obj.isFreed_of_fields (Obj.data_mapFields hd _)),(Obj.cls_mapFields ..).trans hc,by rw [Obj.data_mapFields hd];simp [rawInt]⟩
 refine wpAny_bind (wpAny_holding ?_);refine wpAny_bind (wpAny_isOneOf_valiter (s:={s with heap:=s.heap.update it (Obj.mapFields (·.setIfInBounds 1 (rawInt ((i:Int)+1))))}) hit'.typeIs ?_);refine wpAny_bind (wpAny_isOneOf_valiter (s:={s with heap:=s.heap.update it (Obj.mapFields (·.setIfInBounds 1 (rawInt ((i:Int)+1))))}) hit'.typeIs ?_);show wpAny _ _ (pure es[i].val) _ _ _;exact wpAny_pure (wpAny_pure ⟨_,rfl,wpAny_pure (hval ▸ q _ hit' (Heap.SameBut.update ..))⟩)
theorem dv_end {Q : Option Value -> Shared -> Prop} (hh : A.handled = none) (hit : s.heap.IsValIter it d i es.size ep) (hod : s.heap.get? d = some od) (hdd : od.data = .dict es ep) (hge : es.size <= i)
 (q:∀h',Heap.ExtBut it s.heap h'->Q none {s with heap:=h' }):wpAny (model prog w) A (pyNext (.ref it)) Q E s:=by
 obtain ⟨o,ho,hc,hd⟩:=id hit;unfold pyNext
 refine wpAny_bind (wpAny_attempt (wpAny_callSpecial?_slot (name:=Str.ofString "__next__") hit.typeIs F.slot_dict_valueiterator_next
  (wpAny_call_entry F.slot_dict_valueiterator_next hit.typeIs F.entry_dict_valueiterator_next ?_ (F.args_dict_valueiterator_next_1 _))))
 refine wpAny_bind (wpAny_pure ?_);refine wpAny_bind ?_;refine wpAny_bind ?_
 first | refine wpAny_bind (wpAny_typeNameOfWhole_valiter hit.typeIs (wpAny_pure ?_)) | refine wpAny_bind (wpAny_typeNameOf_valiter hit.typeIs (wpAny_pure ?_))
 refine wpAny_bind (wpAny_fieldsOf ho hd ?_);have hown:Builtin.Dict_items.ownsTuple "dict_valueiterator" = false:=by decide
 simp only [hown,Bool.false_eq_true,if_false];show wpAny _ _ (if (Value.ref d==Value.none)=true then _ else _) _ _ s;rw [if_neg (show ¬((Value.ref d==Value.none)=true) from Bool.false_ne_true)];refine wpAny_bind (wpAny_pure ?_);refine wpAny_bind (wpAny_dictEntries hod hdd ?_);rw [if_neg (by simp)];refine wpAny_bind (wpAny_pure ?_);refine wpAny_bind (wpAny_dictEpoch hod hdd ?_);rw [if_neg (by simp)];refine wpAny_pure ?_;simp only [show ¬((i:Int)<0) from by omega,if_false,Int.toNat_natCast,Array.getElem?_eq_none hge];refine wpAny_bind ?_
 first | refine wpAny_bind (wpAny_typeNameOfWhole_valiter hit.typeIs (wpAny_pure ?_)) | refine wpAny_bind (wpAny_typeNameOf_valiter hit.typeIs (wpAny_pure ?_))
 show wpAny _ _ (setField (.ref it) 0 .none >>= _) _ _ s;refine wpAny_bind (wpAny_setField ho hd (by simp) ?_);show wpAny _ _ (newExc (.type "StopIteration") [] >>= _) _ _ _;refine wpAny_bind ?_;simp only [newExc,newTuple];refine wpAny_bind (wpAny_newObj_type ?_ (by size_fits));refine wpAny_bind (m:=firstArgMember _ _) (wpAny_of_eq (a:=Value.none) (by first | rfl | (simp only [firstArgMember];rfl)) ?_);refine wpAny_newObj_type ?_ (by size_fits);simp only [raiseNew];refine wpAny_bind (wpAny_handled ?_);rw [show A.in1.handled=none from hh];refine wpAny_bind (wpAny_pure (wpAny_throw ?_));refine wpAny_bind (wpAny_isInstance (T:= "StopIteration") (b:=true) ⟨_,Heap.get?_push_size _ rfl,rfl⟩ isSubtype_stop ?_);exact wpAny_pure (q _ (((Heap.SameBut.update ..).extBut.push _).push _))
end
def Itdv(a:Addr)(o:Obj):It:=
 ⟨fun i H=>∃t p,H a=some (.frz o (.dT t))/\t[i]? = some p,fun i H v H'=>H'=H/\∀t,H a=some (.frz o (.dT t))->∃k,t[i]? = some (k,v),fun i H=>∃t,H a=some (.frz o (.dT t))/\t.length<=i⟩
theorem kt_at{P:Program}{w:World}{H:Hp}{es:Array DictEntry}{t:List (List Key×V)}{ps:List (List Key×Addr×Value)}(kt:KT H t ps)(h4:es.toList=ps.map (entryOfKey (tupleKind (mixKind P w)))):es.size=t.length/\∀(i:Nat) p,t[i]? = some p->∃hi:i<es.size,RelV p.2 es[i].val:=by
 have l:es.size=t.length:=by
  have e1:es.toList.length=ps.length:=by rw [h4,List.length_map]
  have e2:t.length=ps.length:=Paired.length kt;rw [e2, <-e1];simp
 refine ⟨l,fun i p hp=> ?_⟩;have hi:i<t.length:=(List.getElem?_eq_some_iff.mp hp).1;have hi':i<es.size:=by omega
 refine ⟨hi',?_⟩
 have gen:∀ {t:List (List Key×V)} {ps:List (List Key×Addr×Value)} (i:Nat) p,KT H t ps->t[i]? = some p->∃q,ps[i]? = some q/\RelV p.2 q.2.2:=by
  intro t ps i p kt
  induction kt generalizing i with
  | nil=>intro h;simp at h
  | cons h _ ih=>
   intro e
   cases i with
   | zero=>simp at e;subst e;exact ⟨_,rfl,h.2.2⟩
   | succ i=>simpa using ih i (by simpa using e)
 obtain ⟨q,h1,h2⟩:=gen i p kt hp;have e3:es.toList[i]? = some (entryOfKey (tupleKind (mixKind P w)) q):=by rw [h4,List.getElem?_map,h1];rfl
 have e4:es[i]=entryOfKey (tupleKind (mixKind P w)) q:=by
  have:es[i]? = some (entryOfKey (tupleKind (mixKind P w)) q):=by rw [<-Array.getElem?_toList];exact e3
  rw [Array.getElem?_eq_getElem hi'] at this
  exact Option.some.inj this
 rw [e4];exact h2
theorem frz_at{P:Program}{w:World}{H:Hp}{h:Heap}{a:Addr}{o:Obj}{t:List (List Key×V)}(ok:HOk P w H h)(e:H a=some (.frz o (.dT t))):h.get? a=some o/\(a==sysModules)=false/\o.cls = .type "dict" /\ ∃es ep,o.data = .dict es ep/\es.size=t.length/\∀(i:Nat) p,t[i]? = some p->∃hi:i<es.size,RelV p.2 es[i].val:=by
 obtain ⟨h0,z,y,ps,kt,o',es,ep,h1,h2,h3,h4,h5⟩:=(show ObjOk P w H h a (.frz o (.dT t)) from ok a _ e);rw [h0] at h1
 cases h1
 obtain ⟨k1,k2⟩:=kt_at (P:=P) (w:=w) (H:=H) kt h4;exact ⟨h0,y,h2.1,es,ep,h3,k1,k2⟩
theorem turn_dv{P:Program}{w:World}{K:PySem.W.Frag}{tg:Expr}(a it:Addr)(o:Obj)(es:Array DictEntry)(ep:Nat)(hes:o.data = .dict es ep):Turn P w K tg (Itdv a o) [it] it (fun i h=>h.IsValIter it a i es.size ep) where
 mem:=List.mem_singleton.mpr rfl
 obj:=fun i h st b hb=>by
  cases List.mem_singleton.mp hb
  obtain ⟨o,e,_,d⟩:=st;refine ⟨o,e,fun v z=> ?_⟩;rw [d] at z
  cases z
 keep:=fun i h h' st k=>by
  obtain ⟨o,e,r⟩:=st;exact ⟨o,k it (List.mem_singleton.mpr rfl) o e,r⟩
 item:=by
  intro X hP hw hK hc i pins s σ H E I hf st hg;subst hP hw hK;obtain ⟨t,p,e,hp⟩:=hg;obtain ⟨h0,_,_,es',ep',h3,_,k2⟩:=frz_at I.hok e;rw [hes] at h3
  cases h3
  obtain ⟨hi,rv⟩:=k2 i p hp;obtain ⟨f0,f1,f2,f3,f4,f5⟩:=hf it (List.mem_singleton.mpr rfl);refine dv_item st h0 hes hi rfl fun h' st' sb=> ?_;have I1:Inv X pins σ H {s with heap:=h' }:=I.turned (t':=s.toks) (fun b o hb e=>(sb.2 b hb).trans e) f0 f1 f3 f4 f5;obtain ⟨ob,e1,c1,d1⟩:=id st';refine ⟨_,rfl,go_of (s:={s with heap:=h' }) e1 c1 d1 (by decide) ⟨p.2,H,I1,rv,⟨rfl,fun t' ht' => ?_⟩,st',fun b hb=>(hf b hb).1⟩⟩;rw [e] at ht'
  cases ht'
  exact ⟨p.1,hp⟩
 done:=by
  intro X hP hw hK hc i pins s σ H E I hf st hg;subst hP hw hK;obtain ⟨t,e,hl⟩:=hg;obtain ⟨h0,_,_,es',ep',h3,k1,_⟩:=frz_at I.hok e;rw [hes] at h3
  cases h3
  obtain ⟨f0,f1,f2,f3,f4,f5⟩:=hf it (List.mem_singleton.mpr rfl);exact dv_end (I.ok.hd hc) st h0 hes (by omega) fun h' kk=>⟨rfl,I.turned (t':=s.toks) (fun b o hb e=>kk b o hb e) f0 f1 f3 f4 f5⟩
 self:=fun A i s Q E st q=>by
  obtain ⟨o,e,c,_⟩:=id st;exact wpAny_pyIter_valiter st q
end Tf
namespace Tf
open PySem PySem.Spec PyProof.Rows L2
section
variable {prog:Program} {w:World} {A:Around} {E:Value->Shared->Prop} {s:Shared} {d it:Addr} {od:Obj} {es:Array DictEntry} {i ep:Nat}
end
section
variable {X:Cx}
end
end Tf
namespace Tf
open PySem PySem.Spec PyProof.Rows L2
def BM(h:Heap)(mg:Str->Option Value):Prop:=∃bm o,mg "__builtins__" = some (.ref bm)/\bm≠builtinsNs/\h.get? bm=some o/\o.cls = .type "module" /\ o.dict=some builtinsNs/\o.data = .plain
def FnAt(f:Addr)(fo:Obj):HO:= .ext fun h=>h.get? f=some fo
structure Made (H H':Hp) (f c:Addr) (oc fo:Obj):Prop where
 same:∃H1,(H1=H\/(H c=none/\H1=upd H c (.frz oc (.own 0))))/\H1 f=none/\H'=upd H1 f (FnAt f fo)
 code:H' c=some (.frz oc (.own 0))
 fn:H' f=some (FnAt f fo)
 rec_:∃vs x,oc.data = .fields vs/\vs[1]? = some x
variable {X:Cx}
end Tf
namespace Tf
open PySem PySem.Spec PyProof.Rows L2
structure LB where
 q:Str
 f:Addr
 cd:Value
 s:Shared
 H:Hp
structure LamSc (X:Cx) (sc:Scope) (cl:List (Str×Addr)) (x:Str) (ys:List Str):Prop where
 kind:sc.kind = .function
 co:sc.isCoroutine=false
 gen:sc.isGenerator=false
 par:sc.names.lookup x=some .local
 nocell:∀y ∈ sc.names,y.2 ≠ .cell
 free:∀y,sc.names.lookup y=some .free->y ∈ ys
 fr:∀y ∈ ys,sc.names.lookup y=some .free
 cells:∀y c,cl.lookup y=some c->X.env.cells.lookup y=some c
 has:∀y ∈ ys,∃c,cl.lookup y=some c
 out:∀y ∈ ys,X.env.scope.names.lookup y=some .cell
variable {X:Cx}
end Tf
namespace Tf
open PySem PySem.Spec PyProof.Rows L2
variable {X:Cx}
end Tf
namespace Dm
open PySem PySem.Spec PyProof.Rows L2 Tf
section
variable {X:Cx} {a:Expr} {ta:TE} {p1 p2 pos pos2:Pos}
def rngV(n:Nat):List V:=(List.range n).map fun k:Nat=>V.int (k:Int)
def tLR(ta:TE):TE:=fun σ H Q=>ta σ H fun x H1=>∃n:Nat,x = .int (n:Int)/\n<=1000/\∀p,H1 p=none->Q (.ref p) (upd H1 p (.lst (rngV n)))
theorem vals_of:∀ {xs:List V} {us:List Value},xs.length=us.length->(∀(j:Nat) x u,xs[j]? = some x->us[j]? = some u->RelV x u)->Vals xs us
 | [],[],_,_=> .nil
 | x::xs,u::us,hl,h=> .cons (h 0 x u rfl rfl) (vals_of (by simpa using hl) fun j y v h1 h2=>h (j+1) y v (by simpa using h1) (by simpa using h2))
theorem pe_listrange (hml : X.mg "list" = none) (hmr : X.mg "range" = none) (ha : PE X a ta) (hgl : Gl X "list" := by rfl) (hgr : Gl X "range" := by rfl) (hc : X.calm = true := by rfl)
 (hs1:starEach [.Call (.Name "range" p2) [a] [] pos2] X.env=(false,eval (.Call (.Name "range" p2) [a] [] pos2) X.env)::starEach [] X.env:=by rfl) (hs0:(backTo pos (starEach [] X.env)).any (·.1)=false:=by rfl) (hs2:backTo pos (starEach [] X.env) = []:=by rfl)
 (hsa:starEach [a] X.env=(false,eval a X.env)::starEach [] X.env:=by rfl) (hs3:(backTo pos2 (starEach [] X.env)).any (·.1)=false:=by rfl):PE X (.Call (.Name "list" p1) [.Call (.Name "range" p2) [a] [] pos2] [] pos) (tLR ta):=by
 intro pins s σ H Q I h;refine Call_ (ld_blt I hgl hml bt_list (PyProof.Rows.callWith_type1 ?_ hs1 hs0));rw [hs1];show wpAny _ _ (spliced ((false,eval (.Call (.Name "range" p2) [a] [] pos2) X.env)::backTo pos (starEach [] X.env))) _ _ s;rw [hs2];refine Calls.spliced_cons ?_;refine Call_ (ld_blt I hgr hmr bt_range (PyProof.Rows.callWith_type1 (thn (pa_cons ha pa_nil hsa pos2 pins s σ H (fun vs H1=>∃n:Nat,vs = [.int (n:Int)]/\n<=1000/\∀p,H1 p=none->Q (.ref p) (upd H1 p (.lst (rngV n)))) I ?_) fun us s1 ⟨vs,H1,I1,r1,q1⟩ => ?_) hsa hs3))
 . have h:ta σ H fun x H1=>∃n:Nat,x = .int (n:Int)/\n<=1000/\∀p,H1 p=none->Q (.ref p) (upd H1 p (.lst (rngV n))):=h;refine (show ta σ H (fun x H1=>∃n:Nat,[x] = [V.int (n:Int)]/\n<=1000/\∀p,H1 p=none->Q (.ref p) (upd H1 p (.lst (rngV n)))) from ?_)
   have e:(fun (x:V) (H1:Hp)=>∃n:Nat,[x] = [V.int (n:Int)]/\n<=1000/\∀p,H1 p=none->Q (.ref p) (upd H1 p (.lst (rngV n))))=fun x H1=>∃n:Nat,x = .int (n:Int)/\n<=1000/\∀p,H1 p=none->Q (.ref p) (upd H1 p (.lst (rngV n))):=by
    funext x H1;simp only [List.cons.injEq,and_true]
   rw [e];exact h
 obtain ⟨n,e,hn,q⟩:=q1;subst e
 cases r1 with
 | cons r rr=>
  cases rr
  obtain ⟨t,rfl⟩:=r;refine call_range_1 ?_;refine Calls.spliced_nil ?_
  let s2:Shared:={s1 with heap:=s1.heap.push {cls:= .type "range",data:= .fields #[.int 0 s1.toks, .int (n:Int) t, .int 1 (s1.toks+1)]},toks:=s1.toks+1+1}
  have I2:Inv X pins σ H1 s2:=I1.kept fun b o e=>Heap.get?_push_of_some _ e;refine call_list_range (s:=s2) (n:=n) (I1.ok.hd hc) (IsRange.new ..) (small_one (by decide) (by decide) (by omega) (by omega)) (by rw [rangeSize_one];split <;> omega) (by omega) fun h' tk acc' c' hk hS' hacc=> ?_;have hs:=hacc.1;refine ⟨.ref s2.heap.objs.size,_,I2.laid (t':=tk) (o:= .lst (rngV n)) hk (Nat.le_refl _) ?_,rfl,q _ (I2.hok.fresh (Nat.le_refl _))⟩;refine ⟨by unfold rngV;rw [List.length_map,List.length_range];exact Nat.le_trans hn (by decide),acc'.toList,c',vals_of (by unfold rngV;rw [List.length_map,List.length_range,Array.length_toList,hs]) fun j x u h1 h2=> ?_,by simpa using hS'⟩;unfold rngV at h1
  rw [List.getElem?_map] at h1
  obtain ⟨k,hk1,hk2⟩:=Option.map_eq_some_iff.mp h1;obtain ⟨hj,ej⟩:=List.getElem?_eq_some_iff.mp hk1;rw [List.getElem_range] at ej
  subst ej hk2;obtain ⟨tk',e⟩:=hacc.2 j u (by simpa using h2);subst e;exact ⟨tk',by simp⟩
end
def intS':Sl->Option Int
 | .val (.int n)=>some n
 | _=>none
theorem intS'_some{s:Sl}{n:Int}(h:intS' s=some n):s = .val (.int n):=by
 unfold intS' at h
 split at h
 . cases h;rfl
 . cases h
section
variable {K:PySem.W.Frag} {R:Rl} [RelOk K R]
def mLR(fa:En->Option Sl):En->Option Sl:=fun ρ=>((fa ρ).bind intS').bind fun n=>if 0<=n/\n<=1000 then some (.own ((List.range n.toNat).map fun k:Nat=> .int (k:Int))) else none
theorem reps_rng{H:Hp}:∀ks:List Nat,Reps K H (ks.map fun k:Nat=>V.int (k:Int)) (ks.map fun k:Nat=> .int (k:Int))
 | []=> .nil
 | k::ks=> .cons (.int _) (reps_rng ks)
theorem re_LR{ta:TE}{fa:En->Option Sl}(hA:RP K R ta fa):RE K R (tLR ta) (mLR fa):=fun HB σ ρ H0 H s e z hz Q q=>by
 obtain ⟨n,hn,hz⟩:=Option.bind_eq_some_iff.mp hz;obtain ⟨s1,e1,hn⟩:=Option.bind_eq_some_iff.mp hn;have hn:=intS'_some hn;subst hn
 split at hz
 . rename_i h0
   cases hz
   refine hA HB σ ρ H0 H s e _ e1 _ fun w H1 J1 x1 p1=>⟨n.toNat,by rw [Int.toNat_of_nonneg h0.1];exact p1.int,by omega,fun l hp=> ?_⟩;have xp:=Ext.alloc x1.s1 hp (.lst (rngV n.toNat));exact q _ _ _ (x1.trans xp) ⟨l,_,rfl,x1.s.free hp,x1.s1.free hp,upd_same,reps_rng _⟩
 . cases hz
end
section
variable {X:Cx} {R:Rl} [RelOk X.K R] {a:Expr} {p1 p2 pos pos2:Pos} {fa:En->Option Sl}
theorem de_LR (hml : X.mg "list" = none) (hmr : X.mg "range" = none) (ha : DP X R a fa) (hgl : Gl X "list" := by rfl) (hgr : Gl X "range" := by rfl) (hc : X.calm = true := by rfl)
 (hs1:starEach [.Call (.Name "range" p2) [a] [] pos2] X.env=(false,eval (.Call (.Name "range" p2) [a] [] pos2) X.env)::starEach [] X.env:=by rfl) (hs0:(backTo pos (starEach [] X.env)).any (·.1)=false:=by rfl) (hs2:backTo pos (starEach [] X.env) = []:=by rfl)
 (hsa:starEach [a] X.env=(false,eval a X.env)::starEach [] X.env:=by rfl) (hs3:(backTo pos2 (starEach [] X.env)).any (·.1)=false:=by rfl):DE X R (.Call (.Name "list" p1) [.Call (.Name "range" p2) [a] [] pos2] [] pos) (mLR fa):=by
 obtain ⟨t,h1,h2⟩:=ha;exact ⟨_,pe_listrange hml hmr h1 hgl hgr hc hs1 hs0 hs2 hsa hs3,re_LR h2⟩
end
end Dm
namespace Tf
open PySem PySem.Spec PyProof.Rows L2
variable {X:Cx}
end Tf
namespace Dm
open PySem PySem.Spec PyProof.Rows L2 Tf
section
variable {K:PySem.W.Frag} {R:Rl} [RelOk K R]
end
section
variable {X:Cx} {R:Rl} [RelOk X.K R]
end
end Dm
namespace Tf
open PySem PySem.Spec PyProof.Rows L2
variable {X:Cx}
end Tf
namespace Tf
open PySem PySem.Spec PyProof.Rows L2
variable {X:Cx}
def tFrzO(i:Nat)(ts:TS):TS:=fun D σ H=>tFrzH i ts D σ H\/ts D σ H
theorem ps_frzO{st:Stmt}{ts:TS}(i:Nat)(h:PS X st ts):PS X st (tFrzO i ts):=by
 intro pins s σ H D I q;rcases q with q | q
 . exact ps_frzH i h pins s σ H D I q
 . exact h pins s σ H D I q
theorem dv_meets {prog : Program} {w : World} {d : Addr} (hd : (d == sysModules) = false) : MeetsIn prog w (Builtin.«dict.values» ⟨[.ref d], []⟩) (fun _ R s => ∃ od, s.heap.get? d = some od /\ od.cls = .type "dict" /\ R (.ok (.ret (.ref s.heap.objs.size))) { s with heap := s.heap.push { cls := .type "dict_values", data := .fields #[.ref d] } }) :=
 .of_wp fun A R s ⟨od,hod,hc,h⟩=>by
  refine wpAny_bind ?_;unfold Builtin.Dict.noArgs;refine wpAny_bind (wpAny_notOrdered_dict (s:=s) ⟨od,hod,hc⟩ ?_);show wpAny _ _ (pure d) _ _ s;refine wpAny_pure ?_;show wpAny _ _ (Builtin.Dict.showsAll d >>= _) _ _ s;unfold Builtin.Dict.showsAll;rw [if_neg (by rw [hd];exact Bool.false_ne_true)];refine wpAny_bind (wpAny_pure ?_);exact wpAny_bind (wpAny_newObj_type (wpAny_pure ⟨_,rfl,h⟩))
def iDv(to:TE):TI:=fun σ H R=>to σ H fun x H1=>∃a ob t,x = .ref a/\H1 a=some (.frz ob (.dT t))/\R (Itdv a ob) H1
theorem frz_plain{P:Program}{w:World}{H:Hp}{h:Heap}{a:Addr}{o:Obj}{t:List (List Key×V)}(ok:HOk P w H h)(e:H a=some (.frz o (.dT t))):o.dict=none:=by
 obtain ⟨h0,z,y,ps,kt,o',es,ep,h1,h2,h3,h4,h5⟩:=(show ObjOk P w H h a (.frz o (.dT t)) from ok a _ e);rw [h0] at h1
 cases h1
 exact h2.2.1
theorem pi_dvals {tg o:Expr} {to:TE} {apos cpos:Pos} (ho:PE X o to) (hbase:attributeBase o "values" X.env (eval o X.env)=eval o X.env:=by rfl) (hline:(apos.endLine==cpos.line)=true:=by rfl):PI X tg (.Call (.Attribute o "values" apos) [] [] cpos) (iDv to):=by
 intro pins s σ H R I h;refine wpAny_Call_method0_late hbase hline (thn (ho pins s σ H _ I h) fun v s1 ⟨x,H1,I1,r1,a,ob,t,ex,e,q⟩ => ?_);subst ex;obtain rfl:v=Value.ref a:=r1;obtain ⟨h0,hd,hc,es,ep,hes,hl,_⟩:=frz_at I1.hok e;refine ⟨"dict","dict.values",PySem.F.plainAttrs_dict,PySem.F.slot_dict_values,PySem.F.type_dict_values,⟨ob,h0,hc⟩,fun b z=>by cases z;exact ⟨ob,h0,frz_plain I1.hok e⟩,Calls.callWith_builtin rfl (PySem.evalArgs_none ?_)⟩;refine call_meetsIn PySem.F.slot_dict_values ⟨ob,h0,hc⟩ PySem.F.entry_dict_values (PySem.F.args_dict_values_1 _) (dv_meets hd) ⟨ob,h0,hc,?_⟩;have k1:∀b u,s1.heap.get? b=some u->(s1.heap.push {cls:= .type "dict_values",data:= .fields #[.ref a]}).get? b=some u:=fun b u z=>Heap.get?_push_of_some _ z;have hv:(s1.heap.push {cls:= .type "dict_values",data:= .fields #[.ref a]}).IsValuesView s1.heap.objs.size a:=⟨_,Heap.get?_push_size _ rfl,rfl,rfl⟩;refine dv_iter (s:={s1 with heap:=s1.heap.push {cls:= .type "dict_values",data:= .fields #[.ref a]} }) hv (k1 _ _ h0) hes ?_;have I2:Inv X pins σ H1 {s1 with heap:=s1.heap.push {cls:= .type "dict_values",data:= .fields #[.ref a]} }:=I1.kept (t':=s1.toks) k1;have sz:(s1.heap.push {cls:= .type "dict_values",data:= .fields #[.ref a]}).objs.size=s1.heap.objs.size+1:=Heap.size_push ..;refine ⟨_,[(s1.heap.push {cls:= .type "dict_values",data:= .fields #[.ref a]}).objs.size],_,_,H1,rfl,I2.kept (t':=s1.toks) fun b u z=>Heap.get?_push_of_some _ z,turn_dv a _ ob es ep hes,⟨_,Heap.get?_push_size _ rfl,rfl,rfl⟩,fun b hb=> ?_,q⟩
 cases List.mem_singleton.mp hb
 exact I2.fpOk (Nat.le_refl _) (I2.hok.fresh (Nat.le_refl _))
end Tf
namespace Dm
open PySem PySem.Spec PyProof.Rows L2 Tf
section
variable {K:PySem.W.Frag}
theorem ER.frzF {S0 HB H0 H : Hp} {σ : L2.St} {ρ : En} {i : Nat} {a : Addr} {t : List (List Key × V)} {kvs : List (PyData × PyData)} (o : Obj) (e : ER K HB H0 H σ ρ) (hl : loneD i ρ) (hi : ρ[i]? = some (some (.dct kvs))) (hs : σ[i]? = some (some (.ref a))) (g1 : HB a = none) (g2 : H0 a = none) (g3 : H a = some (.dT t)) (g4 : DctR K H0 t kvs) (x : Ext S0 HB H0 H) :
 Ext S0 HB (upd H0 a (.frz o (.dT t))) (upd H a (.frz o (.dT t)))/\ER K HB (upd H0 a (.frz o (.dT t))) (upd H a (.frz o (.dT t))) σ (ρ.set i (some (.val (.dict (mkD::kvs))))):=by
 have s0:Same H0 (upd H0 a (.frz o (.dT t))):=Same.upd g2 _
 have x':Ext S0 HB (upd H0 a (.frz o (.dT t))) (upd H a (.frz o (.dT t))) :=
  ⟨fun b u q=>by rw [upd_ne (ne_of_none q g1)];exact x.s b u q,x.s0.trans s0,same_upd2 x.s1,fun b u q m q0=>by rw [upd_ne (ne_of_none q g1)];exact x.own b u q m q0⟩
 have own:∀(j:Nat),∀ts,(ρ.set i (some (.val (.dict (mkD::kvs)))))[j]? = some (some (.own ts))->ρ[j]? = some (some (.own ts)):=by
  intro j ts h
  by_cases hj:i=j
  . subst hj;rw [List.getElem?_set_self',hi] at h
    cases h
  . rw [List.getElem?_set_ne hj] at h;exact h
 refine ⟨x',⟨by rw [List.length_set];exact e.len,fun j s hq=> ?_,fun j k b ts us hjk h1 h2 h3 h4=>e.apart j k b ts us hjk (own j ts h1) (own k us h2) h3 h4⟩⟩
 by_cases hij:i=j
 . subst hij;rw [List.getElem?_set_self',hi] at hq
   cases hq
   refine ⟨.ref a,hs,?_⟩;obtain ⟨ks,xs,ds,rfl,e2,e3,rfl⟩:=g4;exact .dictF upd_same e2 (Reps.same s0 e3)
 . rw [List.getElem?_set_ne hij] at hq
   obtain ⟨v,h1,h2⟩:=e.get j s hq;refine ⟨v,h1,?_⟩
   cases s with
   | val d=>exact Rep.same s0 h2
   | own ts=>
    obtain ⟨b,ws,rfl,q1,q2,q3,q4⟩:=h2
    have ne:b≠a:=by
     rintro rfl;rw [g3] at q3
     cases q3
    exact ⟨b,ws,rfl,q1,by rw [upd_ne ne];exact q2,by rw [upd_ne ne];exact q3,Reps.same s0 q4⟩
   | dct ts=>exact absurd hq (hl j ts fun z=>hij z.symm)
def frzD1(i:Nat)(ρ:En):Option En:=match (ρ[i]?).join with
 | some (.dct kvs)=>if lone i ρ=true then some (ρ.set i (some (.val (.dict (mkD::kvs))))) else none
 | _=>some ρ
def mFrzD(i:Nat)(g:En->Option Out):En->Option Out:=fun ρ=>(frzD1 i ρ).bind g
theorem rs_frzD{ts:TS}{g:En->Option Out}(i:Nat)(h:RS K (PR K) ts g):RS K (PR K) (tFrzO i ts) (mFrzD i g):=fun HB S0 σ ρ H0 H x e o ho D d=>by
 obtain ⟨ρ1,h1,ho⟩:=Option.bind_eq_some_iff.mp ho;unfold frzD1 at h1
 split at h1
 . rename_i kvs hj
   split at h1
   . rename_i hl
     cases h1
     obtain ⟨v,hs,a,t,rfl,g1,g2,g3,g4⟩:=e.r.get i _ (join_some hj);refine .inl ⟨a,t,hs,g3,fun ob=> ?_⟩;obtain ⟨x',e'⟩:=ER.frzF ob e.r (lone_of hl) (join_some hj) hs g1 g2 g3 g4 x;exact h HB S0 σ _ _ _ x' ⟨e'⟩ o ho D d
   . cases h1
 . cases h1
   exact .inr (h HB S0 σ ρ H0 H x e o ho D d)
variable {R:Rl} [RelOk K R]
theorem it_dv{H0:Hp}{a:Addr}{o:Obj}{ks:List (List Key)}{xs:List V}{ds:List PyData}(h:H0 a=some (.frz o (.dT (ks.zip xs))))(hl:ks.length=xs.length)(r:Reps K H0 xs ds):ItR K H0 (Itdv a o) ds:=fun H0' H' s s' i=>by
 have h':=s' _ _ (s _ _ h);refine ⟨fun d hd=> ?_,fun hi=>⟨_,h',by rw [List.length_zip,r.length,hl,r.length];omega⟩⟩;obtain ⟨v,e1,e2⟩:=Tf.Reps.get r hd;have hi:i<xs.length:=(List.getElem?_eq_some_iff.mp e1).1
 have e3:(ks.zip xs)[i]? = some (ks[i],v):=by
  rw [List.getElem?_zip_eq_some];exact ⟨List.getElem?_eq_getElem (by omega),e1⟩
 refine ⟨⟨_,_,h',e3⟩,fun x H2 y=> ?_⟩;obtain ⟨rfl,y⟩:=y;obtain ⟨k,q⟩:=y _ h';rw [e3] at q
 cases q
 exact ⟨H0',Ext.refl s',Rep.same s e2⟩
def valsD:PyData->Option (List PyData)
 | .dict ((.none, .none)::kvs)=>some (kvs.map (·.2))
 | _=>none
def mDVals(f:En->Option Sl):En->Option (List PyData):=fun ρ=>(f ρ).bind fun a=>valsD a.dat
theorem valsD_eq{d:PyData}{ds:List PyData}(h:valsD d=some ds):∃kvs,d = .dict (mkD::kvs)/\ds=kvs.map (·.2):=by
 unfold valsD at h
 split at h
 . cases h;exact ⟨_,rfl,rfl⟩
 . cases h
theorem rep_dv{H:Hp}{v:V}{kvs:List (PyData×PyData)}(h:Rep K H v (.dict (mkD::kvs))):∃(a:Addr) (o:Obj) (ks:List (List Key)) (xs:List V),v = .ref a/\H a=some (.frz o (.dT (ks.zip xs)))/\ks.length=xs.length/\Reps K H xs (kvs.map (·.2)):=by
 generalize hd:PyData.dict (mkD::kvs)=d at h
 cases h with
 | @dict a ks xs ds h1 h2 h3=>
  exfalso;have hd:=PyData.dict.inj hd
  cases ks with
  | nil=>simp at hd
  | cons k ks=>
   cases ds with
   | nil=>simp at hd
   | cons d ds=>
    have:=(List.cons.inj hd).1
    cases this
 | @dictF a o ks xs ds h1 h2 h3=>
  have hd:=PyData.dict.inj hd;have e:=(List.cons.inj hd).2;subst e;refine ⟨a,o,ks,xs,rfl,h1,h2,?_⟩;rw [List.map_snd_zip (by rw [List.length_map,h2,h3.length];omega)]
  exact h3
 | _=>cases hd
theorem ri_dvals{td:TE}{f:En->Option Sl}(h:RP K R td f):RI K R (iDv td) (mDVals f):=fun HB σ ρ H0 H s e ds hd R q=>by
 obtain ⟨a,ha,hd⟩:=Option.bind_eq_some_iff.mp hd;obtain ⟨kvs,hk,rfl⟩:=valsD_eq hd;refine h HB σ ρ H0 H s e a ha _ fun v H1 J1 x1 p1=> ?_
 cases a with
 | val d=>
  cases (show d=_ from hk)
  obtain ⟨b,o,ks,xs,rfl,g1,g2,g3⟩:=rep_dv p1
  exact ⟨b,o,_,rfl,x1.s1 _ _ g1,q _ _ _ x1 (it_dv g1 g2 g3)⟩
 | own ds=>cases hk
 | dct kws=>
  exfalso;obtain ⟨b,t,rfl,g1,g2⟩:=p1;have hk:kws=mkD::kvs:=PyData.dict.inj hk;rcases g2.out with ⟨_,z⟩ | ⟨k',v',d',t',kvs',_,z,_⟩
  . rw [z] at hk;cases hk
  . rw [z] at hk
    have:=(List.cons.inj hk).1
    cases this
def dLenD:List Sl->Option Sl
 | [s]=>(dictOf s).map fun kvs=> .val (.int kvs.length)
 | _=>none
theorem cd_lenD:CallD K (fun xs H Q=>∃a t,xs = [V.ref a]/\Rd H a (.dT t)/\Q (.int t.length) H) dLenD:=fun H0 H vs ss z s p hz Q q=>by
 unfold dLenD at hz
 split at hz
 . obtain ⟨v,rfl,pa⟩:=paired1 p;obtain ⟨kvs,hk,rfl⟩:=Option.map_eq_some_iff.mp hz;obtain ⟨a,t,rfl,g1,g2⟩:=dct_at s pa hk;refine ⟨a,t,rfl,g1,?_⟩;rw [g2.length];exact q _ _ _ (Ext.refl s) (.int _)
 . cases hz
end
section
variable {X:Cx} {R:Rl} [RelOk X.K R] {a b c e tg:Expr} {pos p apos:Pos} {fa fb fc f:En->Option Sl} {st:Stmt} {gs:En->Option Out}
theorem de_dnew:DE X R (.Dict [] [] pos) mDNew:=⟨_,pe_dnewT,re_dnew⟩
theorem de_dget(hu:X.A.units+1<cLine)(ha:DP X R a fa)(hb:DP X R b fb)(hs:NoSl b:=by intro _ _;rfl):DE X R (.Subscript a b pos) (mBin dDGet fa fb):=by
 obtain ⟨ta,h1,h2⟩:=ha;obtain ⟨tb,h3,h4⟩:=hb;exact ⟨_,pe_dget hu h1 h3 hs,re_dget h2 h4⟩
theorem di_dvals (ha:DP X R a fa) (hbase:attributeBase a "values" X.env (eval a X.env)=eval a X.env:=by rfl) (hline:(apos.endLine==pos.line)=true:=by rfl):DI X R tg (.Call (.Attribute a "values" apos) [] [] pos) (mDVals fa):=by
 obtain ⟨ta,h1,h2⟩:=ha;exact ⟨_,pi_dvals h1 hbase hline,ri_dvals h2⟩
theorem ds_frzD(i:Nat)(h:DS X (PR X.K) st gs):DS X (PR X.K) st (mFrzD i gs):=by
 obtain ⟨t,h1,h2⟩:=h;exact ⟨_,ps_frzO i h1,rs_frzD i h2⟩
theorem ds_dset (hu : X.A.units + 1 < cLine) (i : Nat) {x : Str} {px ps : Pos} (hk : DP X (PR X.K) b fb) (h : DE X (PR X.K) e f) (hN : X.N[i]? = some x := by rfl) (hv : Vis X.env.scope x := by first | exact Or.inl rfl | exact Or.inr (Or.inl rfl) | exact Or.inr (Or.inr rfl)) (hd : (x == ("__debug__" : Str)) = false := by decide) (hcd : (x == ("__classdict__" : Str)) = false := by decide)
 (hs:swapsWith e (some (.Subscript (.Name x px) b ps)) pos.line X.env=pure false:=by rfl):DS X (PR X.K) (.Assign [.Subscript (.Name x px) b ps] e pos) (mDSet i fb f):=by
 obtain ⟨t,h1,h2⟩:=h;obtain ⟨u,h3,h4⟩:=hk;exact ⟨_,ps_dput hu (pe_var hN hv hd hcd) h3 h1 hs,rs_dset h2 h4⟩
end
end Dm
namespace Tf
open PySem PySem.Spec PyProof.Rows L2
section
variable {prog:Program} {w:World} {A:Around} {E:Value->Shared->Prop} {s:Shared}
end
variable {X:Cx}
end Tf
namespace Dm
open PySem PySem.Spec PyProof.Rows L2 Tf
section
variable {K:PySem.W.Frag}
end
end Dm
namespace Dm
open PySem PySem.Spec PyProof.Rows L2 Tf
section
variable {K:PySem.W.Frag}
end
section
variable {X:Cx}
end
end Dm
namespace Tf
open PySem PySem.Spec PyProof.Rows L2
theorem ints_of_vals:∀ {us:List Value} {ns:List Int},Vals (ns.map V.int) us->IntsAre us ns
 | _,[],r=>by cases r;exact .nil
 | _,n::ns,r=>by
  cases r with
  | cons r1 r2=>
   obtain ⟨t,q⟩:=(show ∃t,_=Value.int n t from r1);subst q;exact .cons n t (ints_of_vals r2)
variable {X:Cx}
theorem call_sorted:CallR X (.builtin "sorted") (fun xs H Q=>∃a ns,xs = [V.ref a]/\SqL X.K H a (ns.map V.int)/\ns.length<64/\∀p,H p=none->∀ns':List Int,ns'.Perm ns->ns'.Pairwise (· <= ·)->Q (.ref p) (upd H p (.lst (ns'.map V.int)))):=by
 intro pins s σ H xs us Q I r h;obtain ⟨a,ns,rfl,hq,hl,q⟩:=h;obtain ⟨u,rfl,ru⟩:=vals1 r
 cases ru
 obtain ⟨its,rv,p1,hz⟩:=I.list hq;have l:=rv.length;rw [List.length_map] at l
 refine sorted_ints p1.isList (ints_of_vals rv) (by omega) fun out ns' a1 a2 a3=> ?_;obtain ⟨e,he⟩:=sortedAll_at s.heap its out;refine ⟨.ref (s.heap.objs.size+1),_,I.laid (a:=s.heap.objs.size+1) (o:= .lst (ns'.map V.int)) (t':=s.toks) (fun b o z=>sortedAll_old z) (Nat.le_succ _) ⟨?_,out.toList,e,vals_ints a1,?_⟩,rfl,q _ (I.hok.fresh (Nat.le_succ _)) ns' a2 a3⟩
 . rw [List.length_map,a2.length_eq];exact Nat.le_of_lt (Nat.lt_trans hl (by decide))
 . rw [he]
end Tf
namespace Dm
open PySem PySem.Spec PyProof.Rows L2 Tf
def srt(ns:List Int):List Int:=ns.mergeSort fun a b=>decide (a<=b)
theorem srt_perm(ns:List Int):(srt ns).Perm ns:=List.mergeSort_perm _ _
theorem srt_pair(ns:List Int):(srt ns).Pairwise (· <= ·):=by
 have:=List.pairwise_mergeSort (le:=fun a b:Int=>decide (a<=b)) (fun a b c h1 h2=>by simp at *;omega) (fun a b=>by simp;omega) ns;exact this.imp fun h=>by simpa using h
theorem srt_eq{ns ns':List Int}(h:ns'.Perm ns)(p:ns'.Pairwise (· <= ·)):ns'=srt ns:=
 List.Perm.eq_of_pairwise (fun a b _ _ h1 h2=>by omega) p (srt_pair ns) (h.trans (srt_perm ns).symm)
def dSorted:List Sl->Option Sl
 | [s]=>match s.dat with
  | .list ds=>(intsOf ds).bind fun ns=>if ns.length<64 then some (.own ((srt ns).map .int)) else none
  | _=>none
 | _=>none
section
variable {K:PySem.W.Frag}
theorem reps_of_ints{H:Hp}:∀ns:List Int,Reps K H (ns.map V.int) (ns.map PyData.int)
 | []=> .nil
 | n::ns=> .cons (.int n) (reps_of_ints ns)
theorem cd_sorted:CallD K (fun xs H Q=>∃a ns,xs = [V.ref a]/\SqL K H a (ns.map V.int)/\ns.length<64/\∀p,H p=none->∀ns':List Int,ns'.Perm ns->ns'.Pairwise (· <= ·)->Q (.ref p) (upd H p (.lst (ns'.map V.int)))) dSorted:=fun H0 H vs ss z s p hz Q q=>by
 unfold dSorted at hz
 split at hz
 . obtain ⟨v,rfl,pa⟩:=paired1 p
   split at hz
   . rename_i ds hd;obtain ⟨ns,hn,hz⟩:=Option.bind_eq_some_iff.mp hz
     split at hz
     . rename_i hl
       cases hz
       obtain ⟨a,vs,rfl,h1,h2⟩:=pa.lst s hd;rw [intsOf_eq hn] at h2
       cases reps_ints h2
       refine ⟨a,ns,rfl,h1,hl,fun b hb ns' p1 p2=> ?_⟩;rw [srt_eq p1 p2];exact q _ _ _ (Ext.alloc s hb _) ⟨b,_,rfl,hb,s.free hb,upd_same,reps_of_ints _⟩
     . cases hz
   . cases hz
 . cases hz
end
end Dm
namespace Dm
open PySem PySem.Spec PyProof.Rows L2 Tf
section
variable {K:PySem.W.Frag} {R:Rl} [RelOk K R]
end
section
variable {X:Cx} {R:Rl} [RelOk X.K R] {a b e o:Expr} {f fa fb:En->Option Sl} {p pos apos cpos:Pos} {st:Stmt}
theorem dt_din(hu:X.A.units+1<cLine)(ha:DP X R a fa)(hb:DP X R b fb)(hm:behindInMarks .In b=false:=by with_unfolding_all rfl):DT X R (.Compare a [.In] [b] pos) (mTest (mBin (dDIn false) fa fb)):=by
 obtain ⟨ta,h1,h2⟩:=ha;obtain ⟨tb,h3,h4⟩:=hb;exact ⟨_,pt_cmp (pc_din hu h1 h3) hm,rt_test (re_din h2 h4).rp⟩
end
end Dm
namespace Tf
open PySem PySem.Spec PyProof.Rows L2
def markT(ts:List Addr):Obj:={cls:= .type "tables",data:= .fields (ts.map Value.ref).toArray}
def cutK(K:PySem.W.Frag)(ts:List Addr):PySem.W.Frag:=K.filter (fun p=>decide (p.1 ∉ ts)) ++ [(mainGlobals,markT ts)]
def tbK(names:List Str)(K:PySem.W.Frag):List (Addr×Addr):=names.filterMap (PySem.W.tabIn K)
theorem tabsOf_cut(K:PySem.W.Frag)(ts:List Addr):tabsOf (cutK K ts)=ts:=by
 have e:(cutK K ts).getLast? = some (mainGlobals,markT ts):=by unfold cutK;simp
 unfold tabsOf;rw [e];show ((ts.map Value.ref).toArray.toList.filterMap _)=ts;rw [List.toList_toArray,List.filterMap_map];exact List.filterMap_some
theorem lookup_filt{ts:List Addr}{a:Addr}(h:a ∉ ts):∀K:PySem.W.Frag,List.lookup a (K.filter fun p=>decide (p.1 ∉ ts))=List.lookup a K
 | []=>rfl
 | (b,o)::K=>by
  have ih:=lookup_filt h K;rw [List.filter_cons]
  by_cases hb:b ∈ ts
  . have ne : (a == b) = false := by
     refine Bool.eq_false_iff.mpr fun z=> ?_;have:=beq_iff_eq.mp z;exact h (this ▸ hb)
    rw [if_neg (by simp [hb]),ih,List.lookup,ne]
  . rw [if_pos (by simp [hb]),List.lookup,List.lookup]
    cases a==b
    . exact ih
    . rfl
theorem lookup_in{ts:List Addr}{a:Addr}(h:a ∈ ts):∀K:PySem.W.Frag,List.lookup a (K.filter fun p=>decide (p.1 ∉ ts))=none
 | []=>rfl
 | (b,o)::K=>by
  have ih:=lookup_in h K;rw [List.filter_cons]
  by_cases hb:b ∈ ts
  . rw [if_neg (by simp [hb]),ih]
  . rw [if_pos (by simp [hb]),List.lookup]
    have ne:(a==b)=false:=by
     refine Bool.eq_false_iff.mpr fun z=> ?_;have:=beq_iff_eq.mp z;exact hb (this ▸ h)
    rw [ne];exact ih
theorem lookup_cut{K:PySem.W.Frag}{ts:List Addr}{a:Addr}{o:Obj}(h:a ∉ ts)(e:K.lookup a=some o):(cutK K ts).lookup a=some o:=by
 unfold cutK;rw [List.lookup_append,lookup_filt h,e];rfl
theorem of_cut{K:PySem.W.Frag}{ts:List Addr}{a:Addr}{o:Obj}(hm:∃o,K.lookup mainGlobals=some o)(hn:mainGlobals ∉ ts)(e:(cutK K ts).lookup a=some o):K.lookup a=some o/\a ∉ ts:=by
 unfold cutK at e
 rw [List.lookup_append] at e
 by_cases ha:a ∈ ts
 . rw [lookup_in ha] at e
   have ne:(a==mainGlobals)=false:=by
    refine Bool.eq_false_iff.mpr fun z=> ?_;have:=beq_iff_eq.mp z;exact hn (this ▸ ha)
   simp [List.lookup,ne] at e
 . refine ⟨?_,ha⟩;rw [lookup_filt ha] at e
   by_cases hg:a=mainGlobals
   . subst hg;obtain ⟨o',ho'⟩:=hm;rw [ho'] at e
     simpa [ho'] using e
   . have ne:(a==mainGlobals)=false:=Bool.eq_false_iff.mpr fun z=>hg (beq_iff_eq.mp z)
     cases hk:K.lookup a with
     | none=>rw [hk] at e;simp [List.lookup,ne] at e
     | some o'=>rw [hk] at e;simpa using e
theorem not_tab{K:PySem.W.Frag}{h:Heap}{ts:List Addr}{a:Addr}{o:Obj}(KX:K.In h)(hT:∀p ∈ ts,h.get? p=some (PySem.W.tabObj #[]))(e:K.lookup a=some o)(hne:o≠PySem.W.tabObj #[]):a ∉ ts:=fun hm=>by
 have e1:=KX a o e;rw [hT a hm] at e1
 exact hne (Option.some.inj e1).symm
theorem Fun_cut{K:PySem.W.Frag}{h:Heap}{ts:List Addr}{x qual:Str}{st:Stmt}{f:Addr}{fd:FuncData}(KX:K.In h)(hT:∀p ∈ ts,h.get? p=some (PySem.W.tabObj #[]))(F:Fun K x qual st f fd):Fun (cutK K ts) x qual st f fd:=by
 obtain ⟨oc,od,kV,doc,pm,an,cdv,ct,osl,rfl,lk,hcd⟩:=F.ex;have l2:=lookup_cut (not_tab KX hT lk (fun z=>by cases z)) lk;refine ⟨⟨oc,od,kV,doc,pm,an,cdv,ct,osl,rfl,l2,?_⟩,?_⟩
 . unfold PySem.W.codeIn at hcd ⊢
   split at hcd
   . rename_i c
     split at hcd
     . rename_i oc' od' vs sl' hc
       have hne:(⟨oc',od', .fields vs,sl'⟩:Obj)≠PySem.W.tabObj #[]:=fun z=>by
        cases z
        simp at hcd
       rw [lookup_cut (not_tab KX hT hc hne) hc];exact hcd
     . cases hcd
   . cases hcd
 . unfold PySem.W.keepIn
   dsimp only
   rw [l2]
theorem law_callT {P : Program} {w : World} {K : PySem.W.Frag} {mg mb : Str -> Option Value} {k : Nat} {fa a : Addr} {fd : FuncData} {x : Str} {sp : Sp} {s₁ : Shared} {vs : List Value} {ns : List Int} {tb : List (Addr × Addr)}
 (KX:K.In s₁.heap) (hmain:∃o,K.lookup mainGlobals=some o) (hns:s₁.heap.Ns mainGlobals mg) (hb:s₁.heap.Ns builtinsNs mb) (hbb:∀x:Str,x ≠ "__name__" -> mb x=bootBuiltins x) (hlim:s₁.heap.NoLimit) (hg:s₁.gens = #[])
 (ha:s₁.heap.get? a=some {cls:= .type "list",data:= .seq vs.toArray}) (hi:IntsAre vs ns) (hl:ns.length<=sizeLine) (hr:Room k callerA)
 (hT:∀p ∈ tb,PySem.W.CodeHd s₁.heap p.1 p.2/\s₁.heap.get? p.2=some (PySem.W.tabObj #[])) (hbm:BM s₁.heap mg)
 (F:∀base:Heap,(cutK K (tb.map (·.2))).In base->base.Ns mainGlobals mg->(∀p ∈ tb,PySem.W.CodeHd base p.1 p.2)->BM base mg->FnOk P w (cutK K (tb.map (·.2))) mg base CX0 k fa fd [x] sp) (hbind:∀(s:Shared) (u:Value),BindsTo s fd ⟨[u],[]⟩ [(x,u)])
 (hsp:∀H:Hp,SqL (cutK K (tb.map (·.2))) H a (ns.map V.int)->sp [.ref a] H (fun v _=>v = .bl true) fun _ _ _=>False) :
 codeAny (model P w) callerA (.call (.ref fa) ⟨[.ref a],[]⟩) (fun r s'=>r = .ok (.ret (.bool true))/\OldK s₁.heap s'.heap/\s'.os=s₁.os/\AllBare s'.gens) s₁:=by
 have rv:=vals_ints hi;have lenV:=hi.length
 let ts:=tb.map (·.2)
 have hts:∀p ∈ ts,s₁.heap.get? p=some (PySem.W.tabObj #[]):=fun p hp=>by
  obtain ⟨q,hq,rfl⟩:=List.mem_map.mp hp;exact (hT q hq).2
 have nts:∀ {b:Addr} {o:Obj},s₁.heap.get? b=some o->o≠PySem.W.tabObj #[]->b ∉ ts:=fun {b o} e n hm=>by
  rw [hts b hm] at e
  exact n (Option.some.inj e).symm
 have hat:a ∉ ts:=nts ha fun z=>by cases z
 have hmt:mainGlobals ∉ ts:=by
  obtain ⟨o,es,ep,e,d,_⟩:=hns;exact nts e fun z=>by rw [z] at d;cases d
 let ao:Obj:={cls:= .type "list",data:= .seq vs.toArray}
 let H:Hp:=fun b=>if b ∈ ts then some (.tbl #[]) else if b=a/\K.lookup a=none then some (.frz ao (.lst (ns.map V.int))) else none
 have Ht:∀ {b:Addr},b ∈ ts->H b=some (.tbl #[]):=fun {b} hm=>if_pos hm
 have Hc:∀b,(b ∈ ts/\H b=some (.tbl #[]))\/(b=a/\K.lookup a=none/\H b=some (.frz ao (.lst (ns.map V.int))))\/(H b=none/\b ∉ ts/\(b=a->K.lookup a≠none)):=fun b=>by
  by_cases h1:b ∈ ts
  . exact .inl ⟨h1,Ht h1⟩
  . by_cases h2:b=a/\K.lookup a=none
    . exact .inr (.inl ⟨h2.1,h2.2,(if_neg h1).trans (if_pos h2)⟩)
    . exact .inr (.inr ⟨(if_neg h1).trans (if_neg h2),h1,fun z c=>h2 ⟨z,c⟩⟩)
 have hok:HOk P w H s₁.heap:=fun b u e=>by
  rcases Hc b with ⟨h1,h2⟩ | ⟨rfl,h1,h2⟩ | ⟨h1,_,_⟩
  . rw [h2] at e
    cases e
    exact ⟨#[],hts b h1,True.intro,fun pos v z=>by simp [codeAmong] at z⟩
  . rw [h2] at e
    cases e
    exact ⟨ha,by rw [List.length_map];exact hl,vs,_,rv,ha⟩
  . rw [h1] at e
    cases e
 have free:∀ {b:Addr} {o:Obj},s₁.heap.get? b=some o->o≠PySem.W.tabObj #[]->o≠ao->H b=none:=fun {b o} e n1 n2=>by
  rcases Hc b with ⟨h1,_⟩ | ⟨rfl,_,_⟩ | ⟨h1,_,_⟩
  . exact absurd h1 (nts e n1)
  . rw [ha] at e
    exact absurd (Option.some.inj e).symm n2
  . exact h1
 have base_of:∀ {b:Addr} {o:Obj},s₁.heap.get? b=some o->H b=none->(hidT s₁.heap H).get? b=some o:=fun e n=>hidT_get e n;have nsK:∀ {b:Addr} {m:Str->Option Value},s₁.heap.Ns b m->(hidT s₁.heap H).Ns b m:=fun {b m} ⟨o,es,ep,e,d,r⟩=>⟨o,es,ep,base_of e (free e (fun z=>by rw [z] at d;cases d) (fun z=>by rw [z] at d;cases d)),d,r⟩
 have hKb:(cutK K ts).In (hidT s₁.heap H):=fun b o e=>by
  obtain ⟨e1,e2⟩:=of_cut hmain hmt e;refine base_of (KX b o e1) ?_;rcases Hc b with ⟨h1,_⟩ | ⟨rfl,h1,_⟩ | ⟨h1,_,_⟩
  . exact absurd h1 e2
  . rw [h1] at e1;cases e1
  . exact h1
 have hM:Mod (cutK K ts) mg (hidT s₁.heap H):=⟨hKb,nsK hns,⟨mb,nsK hb,hbb⟩,let ⟨mc,h1,h2⟩:=hlim;⟨mc,nsK h1,h2⟩⟩
 have hCb:∀p ∈ tb,PySem.W.CodeHd (hidT s₁.heap H) p.1 p.2:=fun p hp=>by
  obtain ⟨o,vs',file,tf,flags,tg,inF,text,tt,e,c,r⟩:=(hT p hp).1;exact ⟨o,vs',file,tf,flags,tg,inF,text,tt,base_of e (free e (fun z=>by rw [z] at c;cases c) (fun z=>by rw [z] at c;exact absurd (Value.type.inj c) (by decide))),c,r⟩
 have hBb:BM (hidT s₁.heap H) mg:=by
  obtain ⟨b,ob,b1,b2,b3,b4,b5,b6⟩:=hbm;exact ⟨b,ob,b1,b2,base_of b3 (free b3 (fun z=>by rw [z] at b4;cases b4) (fun z=>by rw [z] at b4;exact absurd (Value.type.inj b4) (by decide))),b4,b5,b6⟩
 have e0:Env0 P w (cutK K ts) mg (hidT s₁.heap H) callerA [] s₁ H:=⟨rfl,hM,fun b o e=>of_hidT e,Nat.le_of_eq (hidT_size _ _),trivial,fun b hb=>absurd (show b ∈ ([]:List Addr) from hb) (by simp),hok, .of_eq hg,fun p hp=>by rw [tabsOf_cut] at hp;exact ⟨_,Ht hp⟩⟩
 have hS:SqL (cutK K ts) H a (ns.map V.int):=by
  cases hk:K.lookup a with
  | some o=>
   have e:=KX a o hk;rw [ha] at e
   cases e
   exact .inr ⟨_,vs.toArray,_,lookup_cut hat hk,rfl,rfl,rfl,by rw [List.size_toArray,lenV];exact hl,by simpa using rv⟩
  | none=>exact .inl (.inr ⟨ao,(if_neg hat).trans (if_pos ⟨rfl,hk⟩)⟩)
 refine codeAny_mono ((F _ hKb (nsK hns) hCb hBb).run callerA [] s₁ H ⟨[.ref a],[]⟩ [.ref a] [.ref a] _ _ hr e0 (hbind s₁ (.ref a)) (.cons rfl .nil) (hsp H hS)) fun r s' h=> ?_
 cases r with
 | error e=>exact False.elim h
 | ok fl=>
  cases fl with
  | next=>exact False.elim h
  | brk=>exact False.elim h
  | cont=>exact False.elim h
  | ret u=>
   obtain ⟨v,H',os,bare,un,hok',r',q⟩:=h;have q':v = .bl true:=q;subst q';obtain rfl:u=Value.bool true:=r'
   have grown:∀ {b:Addr},b ∈ ts->∃qs,s'.heap.get? b=some (PySem.W.tabObj qs):=fun {b} hm=>by
    obtain ⟨more,e⟩:=un.tbls b _ (Ht hm);obtain ⟨qs,e1,_⟩:=hok' b _ e;exact ⟨qs,e1⟩
   have keep:∀ {b:Addr} {o:Obj},b ∉ ts->s₁.heap.get? b=some o->s'.heap.get? b=some o:=fun {b o} hb' e=>by
    rcases Hc b with ⟨h1,_⟩ | ⟨rfl,_,h2⟩ | ⟨h1,_,_⟩
    . exact absurd h1 hb'
    . have z2:=un.frzs _ _ _ h2;obtain ⟨e2,_⟩:=hok' _ _ z2;rw [ha] at e
      cases e
      exact e2
    . exact un.keep b o e h1 (by intro z;exact absurd (show b ∈ ([]:List Addr) from z) (by simp)) (by simp)
   refine ⟨rfl,⟨fun b o e=> ?_,fun b o e=> ?_⟩,os,bare⟩
   . by_cases hm:b ∈ ts
     . obtain ⟨q,hq,rfl⟩:=List.mem_map.mp hm;obtain ⟨qs,e1⟩:=grown hm;rw [hts _ hm] at e
       cases e
       exact .inr (.inl ⟨((hT q hq).1.tab (hT q hq).2).isCodeTable,rfl, #[],qs,rfl,by rw [Array.empty_append];exact e1⟩)
     . exact .inl (keep hm e)
   . by_cases hm:b ∈ ts
     . obtain ⟨qs,e1⟩:=grown hm;exact ⟨_,e1⟩
     . exact ⟨o,keep hm e⟩
theorem walk_ofT {l : PySem.W.OpenLaw} {n k : Nat} {q : Program} {loose : List Str} {XP : (Str -> Option Value) -> Heap -> Prop} {YP : World -> Heap -> Prop} {d : DefRec} {K : Params -> PySem.W.Frag} {names : List Str} {sp : PySem.W.Frag -> Sp} {x : Str}
 (hn:l.most=some n) (hn2:n<=sizeLine) (hdf:d.params.defaults = []) (hr:Room k callerA)
 (hY:∀(w:World) (h:Heap),YP w h->(K w.params).In h)
 (hrec:∀y ∈ names,∃e,(recsOf q).find? (fun e=>e.name==y)=some e)
 (F:∀(w:World) (mg:Str->Option Value) (fa:Addr) (h:Heap),(K w.params).In h->h.Ns mainGlobals mg->mg d.name=some (.ref fa)->(∀p ∈ (tbK names (K w.params)).map (·.2),h.get? p=some (PySem.W.tabObj #[])) ->
  (∃o,(K w.params).lookup mainGlobals=some o)/\∃fd:FuncData,(∀(s:Shared) (u:Value),BindsTo s fd ⟨[u],[]⟩ [(x,u)]) /\
   ∀base:Heap,(cutK (K w.params) ((tbK names (K w.params)).map (·.2))).In base->base.Ns mainGlobals mg->(∀p ∈ tbK names (K w.params),PySem.W.CodeHd base p.1 p.2)->BM base mg->FnOk l.prog w (cutK (K w.params) ((tbK names (K w.params)).map (·.2))) mg base CX0 k fa fd [x] (sp (cutK (K w.params) ((tbK names (K w.params)).map (·.2)))))
 (hsp:∀(K:PySem.W.Frag) (H:Hp) (a:Addr) (ns:List Int),ns.length<=n->SqL K H a (ns.map V.int)->sp K [.ref a] H (fun v _=>v = .bl true) fun _ _ _=>False) :
 PySem.W.WalkO q loose XP YP l.row.toRowW d [] (fun f vs=>PySem.call f vs):=by
 refine Att.attach_call hn hdf fun w s₀ s₁ mg mb fa o pm cd doc a vs ns G Y ho hd hcd hmg hobj hints hlen hg=> ?_;have KX:=hY w _ Y
 have hT:∀p ∈ tbK names (K w.params),PySem.W.CodeHd s₁.heap p.1 p.2/\s₁.heap.get? p.2=some (PySem.W.tabObj #[]):=fun p hp=>by
  obtain ⟨y,hy,e⟩:=List.mem_filterMap.mp hp;obtain ⟨e',he'⟩:=hrec y hy;exact PySem.W.tab_of G.T KX he' e
 obtain ⟨hmain,fd,hb,hF⟩:=F w mg fa _ KX G.T.g hmg fun p hp=>by
  obtain ⟨r,hr',rfl⟩:=List.mem_map.mp hp;exact (hT r hr').2
 obtain ⟨bm,ob,b1,b2,b3,b4⟩:=G.T.bmain;exact law_callT KX hmain G.T.g G.T.b G.T.builtins G.T.nolimit hg hobj hints (Nat.le_trans hlen hn2) hr hT ⟨bm,ob,b1,b2,b3,b4⟩ hF hb fun H hS=>hsp _ H a ns hlen hS
theorem main_of{K:PySem.W.Frag}{x:Str}{v:Option Value}(h:PySem.W.nsIn K mainGlobals x=some v):∃o,K.lookup mainGlobals=some o:=by
 unfold PySem.W.nsIn at h
 cases e:K.lookup mainGlobals with
 | none=>rw [e] at h;simp at h
 | some o=>exact ⟨o,rfl⟩
end Tf
namespace Dm
open PySem PySem.Spec PyProof.Rows L2 Tf
section
variable {K:PySem.W.Frag} {P:Program} {w:World} {mg:Str->Option Value} {base:Heap}
end
end Dm
namespace Dm
open PySem PySem.Spec PyProof.Rows L2 Tf
section
variable {X:Cx} {e b:Expr} {te tb:TE} {pos p2:Pos}
end
section
variable {K:PySem.W.Frag} {R:Rl} [RelOk K R]
end
section
variable {X:Cx} {R:Rl} [RelOk X.K R] {e b:Expr} {pos p2:Pos} {f fb:En->Option Sl}
end
end Dm
namespace Tf
open PySem PySem.Spec PyProof.Rows L2
section
variable {prog:Program} {w:World} {A:Around} {E:Value->Shared->Prop} {s:Shared} {r:Addr} {a b c:Int} {t u v:Tok} {n:Nat}
end
end Tf
namespace Dm
open PySem PySem.Spec PyProof.Rows L2 Tf
section
variable {X:Cx} {a:Expr} {ta:TE} {p1 p2 pos pos2:Pos}
end
section
variable {K:PySem.W.Frag} {R:Rl} [RelOk K R]
end
section
variable {X:Cx} {R:Rl} [RelOk X.K R] {a:Expr} {p1 p2 pos pos2:Pos} {fa:En->Option Sl}
end
end Dm
namespace Tf
open PySem PySem.Spec PyProof.Rows L2
section
variable {prog:Program} {w:World} {A:Around} {E:Value->Shared->Prop} {s:Shared}
end
variable {X:Cx}
end Tf
namespace Dm
open PySem PySem.Spec PyProof.Rows L2 Tf
section
variable {X:Cx} {R:Rl} [RelOk X.K R] {a b:Expr} {fa fb:En->Option Sl} {pos:Pos}
end
end Dm
namespace Dm
open PySem PySem.Spec PyProof.Rows L2 Tf
theorem reps_erase{K:PySem.W.Frag}{H:Hp}:∀ {vs:List V} {ds:List PyData} (n:Nat),Reps K H vs ds->Reps K H (vs.eraseIdx n) (ds.eraseIdx n)
 | _,_,_, .nil=> .nil
 | _,_,0, .cons _ t=>t
 | _,_,n+1, .cons r t=> .cons r (reps_erase n t)
def mAppPop(i j:Nat)(f:En->Option Sl):En->Option Out:=fun ρ=>match (ρ[i]?).join with
 | some (.own ds)=>match (ρ[j]?).join with
  | some (.own es)=>(f ρ).bind fun r=>match r with
   | .val (.int k)=>if i≠j/\ds.length<sizeLine/\0<=k/\k<es.length/\es.length<=sizeLine then (es[k.toNat]?).map fun y=> .nx ((ρ.set j (some (.own (es.eraseIdx k.toNat)))).set i (some (.own (ds ++ [y])))) else none
   | _=>none
  | _=>none
 | _=>none
section
variable {K:PySem.W.Frag} {R:Rl} [RelOk K R]
theorem rs_appPop{te:TE}{f:En->Option Sl}{i j:Nat}(hsl:R.slot i)(hslj:R.slot j)(h:RE K R te f):RS K R (tDrop (tBM K "list" rAppend (tVar i) (tCons (tBM K "list" rPopAt (tVar j) (tCons te tNil)) tNil))) (mAppPop i j f):=fun HB S0 σ ρ H0 H x e o ho D d=>by
 unfold mAppPop at ho
 split at ho
 . rename_i ds hi
   split at ho
   . rename_i es hj;obtain ⟨r,hr,ho⟩:=Option.bind_eq_some_iff.mp ho
     split at ho
     . rename_i k
       split at ho
       . rename_i hc;obtain ⟨hij,hl,k0,k1,hz⟩:=hc;obtain ⟨y,hy,rfl⟩:=Option.map_eq_some_iff.mp ho;obtain ⟨a,vs,hi1,hs,g1,g2,g3,g4⟩:=own_of (K:=K) e hsl hi;obtain ⟨b,ws,hj1,hsb,b1,b2,b3,b4⟩:=own_of (K:=K) e hslj hj;refine ⟨.ref a,hs, .inl ⟨rfl,vs,SqL.of g3⟩,?_⟩;refine ⟨.ref b,hsb, .inl ⟨rfl,ws,SqL.of b3⟩,?_⟩;refine h.rv HB σ ρ H0 H x.s1 e (.int k) (by unfold mDat;rw [hr];rfl) _ fun v H1 J1 x1 p1=> ?_;have l0:=x1.own b _ b3 True.intro b2
         cases p1
         have wb:=Reps.same x1.s0 b4;obtain ⟨w,hw,pw⟩:=Tf.Reps.get wb hy;have wl:=b4.length
         have sq:seqIndex? k ws.length=some k.toNat:=by
          unfold seqIndex?;rw [wl];simp;omega
         have sz:sizeLine<2 ^ 62:=by decide
         refine ⟨b,ws,k,k.toNat,w,rfl,rfl,x1.s _ _ b3,by omega,by omega,sq,hw,?_⟩;have e1:=RelOk.write (K:=K) (e.ext (K:=K) x1).r hslj hj1 hsb b1 l0 (x1.s _ _ b3) (reps_erase k.toNat wb)
         have hi2:((ρ.set j (some (.own (es.eraseIdx k.toNat))))[i]?).join=some (.own ds):=by
          rw [List.getElem?_set_ne (fun q=>hij q.symm)];exact hi
         obtain ⟨a',vs',hi3,hs',c1,c2,c3,c4⟩:=own_of (K:=K) ⟨e1⟩ hsl hi2
         have ea:a'=a:=by
          rw [hs] at hs'
          injection hs' with q
          injection q with q
          injection q with q
          exact q.symm
         subst ea;refine ⟨a',vs',w,rfl,rfl,c3,by rw [c4.length];exact hl,?_⟩;exact d σ H1 _ (((x.chain x1).write b1 l0 _).write c1 c2 _) ⟨RelOk.write (K:=K) e1 hsl hi3 hs' c1 c2 c3 (Tf.Reps.snoc c4 pw)⟩
       . cases ho
     . cases ho
   . cases ho
 . cases ho
end
section
variable {X:Cx} {R:Rl} [RelOk X.K R] {x y:Str} {e:Expr} {f:En->Option Sl} {pos p q:Pos}
theorem ds_appPop (i j : Nat) {apos cpos apos2 cpos2 : Pos} (h : DE X R e f) (hN : X.N[i]? = some x := by rfl) (hv : Vis X.env.scope x := by first | exact Or.inl rfl | exact Or.inr (Or.inl rfl) | exact Or.inr (Or.inr rfl)) (hd : (x == ("__debug__" : Str)) = false := by decide) (hcd : (x == ("__classdict__" : Str)) = false := by decide)
 (hN2:X.N[j]? = some y:=by rfl) (hv2:Vis X.env.scope y:=by first | exact Or.inl rfl | exact Or.inr (Or.inl rfl) | exact Or.inr (Or.inr rfl)) (hd2:(y==("__debug__" : Str))=false:=by decide) (hcd2:(y==("__classdict__" : Str))=false:=by decide)
 (hst2:starEach [e] X.env=(false,eval e X.env)::starEach [] X.env:=by rfl) (hbase2:attributeBase (.Name y q) "pop" X.env (eval (.Name y q) X.env)=eval (.Name y q) X.env:=by rfl)
 (hfew2:((backTo cpos2 (starEach [e] X.env)).all (fun x=> !x.1) && (backToKw cpos2 (keywordEach [] X.env)).all (fun x=>x.1.isSome) && decide ([e].length+([]:List Keyword).length+(if ([]:List Keyword).isEmpty then 0 else 1)<30))=true:=by rfl)
 (hline2:(apos2.endLine==cpos2.line)=true:=by rfl) (hplain2:(backTo cpos2 (starEach [] X.env)).any (·.1)=false:=by rfl)
 (hst:starEach [.Call (.Attribute (.Name y q) "pop" apos2) [e] [] cpos2] X.env=(false,eval (.Call (.Attribute (.Name y q) "pop" apos2) [e] [] cpos2) X.env)::starEach [] X.env:=by rfl) (hbase:attributeBase (.Name x p) "append" X.env (eval (.Name x p) X.env)=eval (.Name x p) X.env:=by rfl)
 (hfew:((backTo cpos (starEach [.Call (.Attribute (.Name y q) "pop" apos2) [e] [] cpos2] X.env)).all (fun x=> !x.1) && (backToKw cpos (keywordEach [] X.env)).all (fun x=>x.1.isSome) && decide ([Expr.Call (.Attribute (.Name y q) "pop" apos2) [e] [] cpos2].length+([]:List Keyword).length+(if ([]:List Keyword).isEmpty then 0 else 1)<30))=true:=by rfl)
 (hline:(apos.endLine==cpos.line)=true:=by rfl) (hplain:(backTo cpos (starEach [] X.env)).any (·.1)=false:=by rfl)
 (hs:swapsWith (.Call (.Attribute (.Name x p) "append" apos) [.Call (.Attribute (.Name y q) "pop" apos2) [e] [] cpos2] [] cpos) none pos.line X.env=pure false:=by rfl) (hsl:R.slot i:=by first | exact True.intro | exact ⟨of_decide_eq_true rfl,of_decide_eq_true rfl⟩) (hslj:R.slot j:=by first | exact True.intro | exact ⟨of_decide_eq_true rfl,of_decide_eq_true rfl⟩):DS X R (.Expr (.Call (.Attribute (.Name x p) "append" apos) [.Call (.Attribute (.Name y q) "pop" apos2) [e] [] cpos2] [] cpos) pos) (mAppPop i j f):=by
 obtain ⟨t,h1,h2⟩:=h;exact ⟨_,ps_expr (pe_bm PySem.F.plainAttrs_list PySem.F.slot_list_append PySem.F.type_list_append mt_append (pe_var hN hv hd hcd) (pa_cons (pe_bm PySem.F.plainAttrs_list PySem.F.slot_list_pop PySem.F.type_list_pop mt_popAt (pe_var hN2 hv2 hd2 hcd2) (pa_cons h1 pa_nil hst2) hbase2 hfew2 hline2 hst2 hplain2) pa_nil hst) hbase hfew hline hst hplain) hs,rs_appPop hsl hslj h2⟩
end
end Dm
namespace Tf
open PySem PySem.Spec PyProof.Rows L2
section
variable {prog:Program} {w:World} {A:Around} {E:Value->Shared->Prop} {s:Shared} {d it v:Addr} {od:Obj} {es:Array DictEntry} {i ep:Nat}
end
section
variable {X:Cx}
end
end Tf
namespace Dm
open PySem PySem.Spec PyProof.Rows L2 Tf
mutual
def noL:PyData->Bool
 | .list _=>false
 | .dict _=>false
 | .tuple ds=>noLs ds
 | _=>true
def noLs:List PyData->Bool
 | []=>true
 | d::ds=>noL d && noLs ds
end
section
variable {K:PySem.W.Frag}
mutual
theorem Rep.dropL{H H':Hp}(e:∀a xs,H a=some (.tup xs)->H' a=some (.tup xs)):∀ {v:V} {d:PyData},Rep K H v d->noL d=true->Rep K H' v d
 | _,_, .none,_=> .none
 | _,_, .bool b,_=> .bool b
 | _,_, .int i,_=> .int i
 | _,_, .str x,_=> .str x
 | _,_, .list _ _,n=>by simp [noL] at n
 | _,_, .tuple h hs,n=> .tuple (e _ _ h) (Reps.dropL e hs (by simpa [noL] using n))
 | _,_, .dict _ _ _,n=>by simp [noL] at n
 | _,_, .dictF _ _ _,n=>by simp [noL] at n
theorem Reps.dropL{H H':Hp}(e:∀a xs,H a=some (.tup xs)->H' a=some (.tup xs)):∀ {vs:List V} {ds:List PyData},Reps K H vs ds->noLs ds=true->Reps K H' vs ds
 | _,_, .nil,_=> .nil
 | _,_, .cons h hs,n=>by
  have n:=Bool.and_eq_true_iff.mp (show (_ && _)=true by rw [<-noLs];exact n);exact .cons (Rep.dropL e h n.1) (Reps.dropL e hs n.2)
end
theorem ER.lent{HB H0 H:Hp}{σ:L2.St}{ρ:En}{i:Nat}{ds:List PyData}{a:Addr}{vs:List V}(e:ER K HB H0 H σ ρ)(hi:ρ[i]? = some (some (.own ds)))(hs:σ[i]? = some (some (.ref a)))(g2:H0 a=none)(g3:H a=some (.lst vs))(g4:Reps K H0 vs ds):ER K HB (upd H0 a (.lst vs)) H σ (ρ.set i (some (.val (.list ds)))):=by
 have s0:Same H0 (upd H0 a (.lst vs)):=Same.upd g2 _
 have old:∀ {j:Nat} {ts:List PyData},(ρ.set i (some (.val (.list ds))))[j]? = some (some (.own ts))->i≠j/\ρ[j]? = some (some (.own ts)):=fun {j ts} h=>by
  by_cases hij:i=j
  . subst hij;rw [List.getElem?_set_self',hi] at h
    cases h
  . rw [List.getElem?_set_ne hij] at h
    exact ⟨hij,h⟩
 refine ⟨by rw [List.length_set];exact e.len,fun j s hq=> ?_,fun j k b ts us hjk h1 h2 h3=>e.apart j k b ts us hjk (old h1).2 (old h2).2 h3⟩
 by_cases hij:i=j
 . subst hij;rw [List.getElem?_set_self',hi] at hq
   cases hq
   exact ⟨.ref a,hs, .list (SqL.of upd_same) (Reps.same s0 g4)⟩
 . rw [List.getElem?_set_ne hij] at hq
   obtain ⟨v,h1,h2⟩:=e.get j s hq;refine ⟨v,h1,?_⟩
   cases s with
   | val d=>exact Rep.same s0 h2
   | own ts=>
    obtain ⟨b,ws,rfl,q1,q2,q3,q4⟩:=h2;refine ⟨b,ws,rfl,q1,?_,q3,Reps.same s0 q4⟩;rw [upd_ne]
    . exact q2
    . rintro rfl
      exact e.apart i j b ds ts hij hi hq hs h1
   | dct ts=>
    obtain ⟨b,t,rfl,q1,q2,q3,q4⟩:=h2;refine ⟨b,t,rfl,q1,?_,q3,q4.same s0⟩;rw [upd_ne]
    . exact q2
    . rintro rfl;rw [q3] at g3
      cases g3
end
section
variable {X:Cx} {e:Expr} {f:En->Option Sl}
end
end Dm
namespace Tf
open PySem PySem.Spec PyProof.Rows L2
section
variable {X:Cx}
end
end Tf
namespace Dm
open PySem PySem.Spec PyProof.Rows L2 Tf
section
variable {K:PySem.W.Frag} {R:Rl} [RelOk K R]
end
section
variable {X:Cx} {R:Rl} [RelOk X.K R] {a:Expr} {p p2 pos pos2:Pos} {fq:En->Option (List Sl)}
end
end Dm
namespace Dm
open PySem PySem.Spec PyProof.Rows L2 Tf
section
variable {K:PySem.W.Frag} {R:Rl} [RelOk K R]
end
section
variable {X:Cx} {R:Rl} [RelOk X.K R] {o:Expr} {f:En->Option Sl} {p pos apos cpos:Pos}
end
section
variable {K:PySem.W.Frag} {HB S0 H0 H H0' H':Hp} {σ:L2.St} {ρ:En} {i j:Nat} {t u:TS} {f g:En->Option Out}
structure TpS (K:PySem.W.Frag) (i:Nat) (S0 HB H0 H:Hp) (σ:L2.St) (ρ:En):Prop where
 x:Ext S0 HB H0 H
 er:ER K HB H0 H σ ρ
 fr:∀w ds rest,ρ[i]? = some (some (.val (.tuple (w :: .list ds::rest))))->noL w=true->noLs ds=true->noLs rest=true ->
  ∃H1 p b u vs us,σ[i]? = some (some (.ref p))/\H1 p=some (.tup (u :: .ref b::us))/\Rep K H1 u w/\Reps K H1 us rest/\Reps K H1 vs ds/\H1 b=none/\HB b=none/\H0 b=some (.lst vs)/\ER K HB H1 H σ (ρ.set i none)/\Ext S0 HB H1 H
theorem TpS.ext(x:Ext H0 H H0' H')(r:TpS K i S0 HB H0 H σ ρ):TpS K i S0 HB H0' H' σ ρ:=by
 refine ⟨r.x.chain x,r.er.ext x,fun w ds rest h1 h2 h3 h4=> ?_⟩;obtain ⟨H1,p,b,u,vs,us,g1,g2,g3,g4,g5,g6,g7,g8,g9,g10⟩:=r.fr w ds rest h1 h2 h3 h4;have x1:Ext H1 H H1 H':=⟨x.s,Same.refl _,g10.s1.trans x.s,fun _ _ _ _ h=>h⟩;exact ⟨H1,p,b,u,vs,us,g1,g2,g3,g4,g5,g6,g7,x.s0 _ _ g8,g9.ext x1,g10.chain x1⟩
end
end Dm
namespace Dm
open PySem PySem.Spec PyProof.Rows L2 Tf
section
variable {K:PySem.W.Frag} {P:Program} {w:World} {mg:Str->Option Value} {base:Heap}
end
section
variable {X:Cx} {c e e0:Expr} {pos p pos':Pos} {f fe:En->Option Sl} {fs fa:En->Option (List PyData)} {x:Str} {ft:En->Option Bool} {st:Stmt} {sts A B:List Stmt} {g gA gf:En->Option Out} {es:List Expr} {i j:Nat}
end
end Dm
namespace Dm
open PySem PySem.Spec PyProof.Rows L2 Tf
section
variable {X:Cx}
end
section
variable {X:Cx} {R:Rl} [RelOk X.K R] {a b:Expr} {pos:Pos} {fa fb:En->Option Sl}
end
end Dm
namespace Dm
open PySem PySem.Spec PyProof.Rows L2 Tf
section
variable {K:PySem.W.Frag}
structure RowsAt (K:PySem.W.Frag) (HB H0 H:Hp) (a:Addr) (as:List Addr) (rs:List (List PyData)):Prop where
 top:H a=some (.lst (as.map .ref))
 len:as.length=rs.length
 nd:(a::as).Nodup
 new:∀b ∈ a::as,HB b=none/\H0 b=none
 row:∀(j:Nat) b ds,as[j]? = some b->rs[j]? = some ds->∃vs,H b=some (.lst vs)/\Reps K H0 vs ds
def RowsH(K:PySem.W.Frag)(HB H0 H:Hp)(v:V)(rs:List (List PyData)):Prop:=∃a as,v = .ref a/\RowsAt K HB H0 H a as rs
theorem RowsAt.live{HB H0 H:Hp}{a:Addr}{as:List Addr}{rs:List (List PyData)}(r:RowsAt K HB H0 H a as rs):∀b ∈ a::as,∃vs,H b=some (.lst vs):=fun b hb=>by
 rcases List.mem_cons.mp hb with rfl | hb
 . exact ⟨_,r.top⟩
 . obtain ⟨j,hj,rfl⟩:=List.mem_iff_getElem.mp hb;have hj':j<rs.length:=by rw [<-r.len];exact hj
   obtain ⟨vs,h,_⟩:=r.row j as[j] rs[j] (List.getElem?_eq_getElem hj) (List.getElem?_eq_getElem hj');exact ⟨_,h⟩
theorem RowsAt.ext{HB H0 H H0' H':Hp}{a:Addr}{as:List Addr}{rs:List (List PyData)}(x:Ext H0 H H0' H')(r:RowsAt K HB H0 H a as rs):RowsAt K HB H0' H' a as rs where
 top:=x.s _ _ r.top
 len:=r.len
 nd:=r.nd
 new:=fun b hb=>by
  obtain ⟨o,ho⟩:=r.live b hb;exact ⟨(r.new b hb).1,x.own b _ ho True.intro (r.new b hb).2⟩
 row:=fun j b ds h1 h2=>by
  obtain ⟨vs,h3,h4⟩:=r.row j b ds h1 h2;exact ⟨vs,x.s _ _ h3,Reps.same x.s0 h4⟩
theorem RowsAt.base{HB HB' H0 H:Hp}{a:Addr}{as:List Addr}{rs:List (List PyData)}(s:Same HB HB')(r:RowsAt K HB' H0 H a as rs):RowsAt K HB H0 H a as rs:=
 ⟨r.top,r.len,r.nd,fun b hb=>⟨s.free (r.new b hb).1,(r.new b hb).2⟩,r.row⟩
open Classical in
noncomputable def fzH(H0 H:Hp)(fp:List Addr):Hp:=fun b=>if b ∈ fp then H b else H0 b
theorem fz_in{H0 H:Hp}{fp:List Addr}{b:Addr}(h:b ∈ fp):fzH H0 H fp b=H b:=if_pos h
theorem fz_out{H0 H:Hp}{fp:List Addr}{b:Addr}(h:b ∉ fp):fzH H0 H fp b=H0 b:=if_neg h
theorem RowsAt.s0{HB H0 H:Hp}{a:Addr}{as:List Addr}{rs:List (List PyData)}(r:RowsAt K HB H0 H a as rs):Same H0 (fzH H0 H (a::as)):=fun b u e=>by
 by_cases hb:b ∈ a::as
 . rw [(r.new b hb).2] at e
   cases e
 . rw [fz_out hb];exact e
theorem RowsAt.rep{HB H0 H:Hp}{a:Addr}{as:List Addr}{rs:List (List PyData)}(r:RowsAt K HB H0 H a as rs):Rep K (fzH H0 H (a::as)) (.ref a) (.list (rs.map .list)):=by
 refine .list (SqL.of (by rw [fz_in (by simp)];exact r.top)) ?_
 have gen:∀(bs:List Addr) (qs:List (List PyData)),bs.length=qs.length->(∀b ∈ bs,b ∈ a::as)->(∀(j:Nat) b ds,bs[j]? = some b->qs[j]? = some ds->∃vs,H b=some (.lst vs)/\Reps K H0 vs ds)->Reps K (fzH H0 H (a::as)) (bs.map .ref) (qs.map .list):=by
  intro bs
  induction bs with
  | nil=>intro qs hl _ _;cases qs with | nil=>exact .nil | cons q qs=>cases hl
  | cons b bs ih=>
   intro qs hl hm hr
   cases qs with
   | nil=>cases hl
   | cons q qs=>
    obtain ⟨vs,h1,h2⟩:=hr 0 b q rfl rfl;refine .cons (.list (SqL.of (by rw [fz_in (hm b (by simp))];exact h1)) (Reps.same r.s0 h2)) (ih qs (by simpa using hl) (fun c hc=>hm c (by simp [hc])) fun j c ds h3 h4=>hr (j+1) c ds (by simpa using h3) (by simpa using h4))
 exact gen as rs r.len (fun b hb=>by simp [hb]) r.row
structure RwS (K:PySem.W.Frag) (i:Nat) (rs:List (List PyData)) (HB H0 H:Hp) (σ:L2.St) (ρ:En) (a:Addr) (as:List Addr):Prop where
 er:ER K HB H0 H σ (ρ.set i none)
 at_:σ[i]? = some (some (.ref a))
 in_:ρ[i]? = some (some (.own (rs.map .list)))
 rows:RowsAt K HB H0 H a as rs
 apart:∀(j:Nat) b ds,j≠i->ρ[j]? = some (some (.own ds))->σ[j]? = some (some (.ref b))->b ∉ a::as
theorem RwS.ext{i:Nat}{rs:List (List PyData)}{HB H0 H H0' H':Hp}{σ:L2.St}{ρ:En}{a:Addr}{as:List Addr}(x:Ext H0 H H0' H')(r:RwS K i rs HB H0 H σ ρ a as):RwS K i rs HB H0' H' σ ρ a as:=
 ⟨r.er.ext x,r.at_,r.in_,r.rows.ext x,r.apart⟩
def noNx:Out->Option Out
 | .rt r ρ=>some (.rt r ρ)
 | _=>none
def turnsW(i t:Nat)(ft:En->Option Bool)(gA:En->Option Out)(g:En->Option Out):Nat->List (List PyData)->List (List PyData)->En->Option Out
 | 0,_,_,_=>none
 | n+1,done,[],ρ=>g ρ
 | n + 1, done, r :: todo, ρ => (ft ((ρ.set i (some (.val (.list ((done ++ r :: todo).map .list))))).set t (some (.val (.list r))))).bind fun b =>
  if b then (gA ((ρ.set i (some (.val (.list ((done++r::todo).map .list))))).set t (some (.val (.list r))))).bind noNx
  else if r.length<sizeLine/\t<ρ.length then turnsW i t ft gA g n (done ++ [r ++ [.none]]) todo ((ρ.set t none).set i (some (.own ((done++(r ++ [.none])::todo).map .list)))) else none
def rowsOf:List PyData->Option (List (List PyData))
 | []=>some []
 | .list r::ds=>(rowsOf ds).map (r :: ·)
 | _::_=>none
theorem rowsOf_map:∀rs:List (List PyData),rowsOf (rs.map .list)=some rs
 | []=>rfl
 | r::rs=>by rw [List.map_cons,rowsOf,rowsOf_map rs];rfl
def mForW(i t:Nat)(ft:En->Option Bool)(gA:En->Option Out)(g:En->Option Out):En->Option Out:=fun ρ=>match (ρ[i]?).join with
 | some (.own ds)=>(rowsOf ds).bind fun rs=>turnsW i t ft gA g (rs.length+1) [] rs ρ
 | _=>none
theorem RwS.turn {i t : Nat} {done todo : List (List PyData)} {r : List PyData} {HB H0 H : Hp} {σ : L2.St} {ρ : En} {a : Addr} {as : List Addr} (hit : i ≠ t) (R : RwS K i (done ++ r :: todo) HB H0 H σ ρ a as) {b : Addr} (hb : as[done.length]? = some b) {vs : List V} (hv : H b = some (.lst vs)) (hr : Reps K H0 vs r) :
 RwS K i (done++(r ++ [.none])::todo) HB H0 (upd H b (.lst (vs ++ [.non]))) (σ.set t (some (.ref b))) ((ρ.set t none).set i (some (.own ((done++(r ++ [.none])::todo).map .list)))) a as:=by
 have bm:b ∈ as:=List.mem_of_getElem? hb;have bn:=R.rows.new b (by simp [bm]);have ab:a≠b:=fun z=>(List.nodup_cons.mp R.rows.nd).1 (z ▸ bm);have iL:i<ρ.length:=(List.getElem?_eq_some_iff.mp R.in_).1;refine ⟨?_,by rw [List.getElem?_set_ne (Ne.symm hit)];exact R.at_,by rw [List.getElem?_set_self (by rw [List.length_set];exact iL)],?_,fun j c ds hj h1 h2=> ?_⟩
 . refine ⟨by simp only [List.length_set];rw [R.er.len,List.length_set],fun j s hs=> ?_,fun j k c ds es hjk h1 h2 h3 h4=> ?_⟩
   . by_cases hij:i=j
     . subst hij;rw [List.getElem?_set_self'] at hs
       cases hq:((ρ.set t none).set i (some (.own ((done++(r ++ [.none])::todo).map .list))))[i]? with
       | none=>rw [hq] at hs;cases hs
       | some q=>rw [hq] at hs;cases hs
     . rw [List.getElem?_set_ne hij,List.getElem?_set_ne hij] at hs
       by_cases htj:t=j
       . subst htj;rw [List.getElem?_set_self'] at hs
         cases hq:ρ[t]? with
         | none=>rw [hq] at hs;cases hs
         | some q=>rw [hq] at hs;cases hs
       . rw [List.getElem?_set_ne htj] at hs
         obtain ⟨v,g1,g2⟩:=R.er.get j s (by rw [List.getElem?_set_ne hij];exact hs);refine ⟨v,by rw [List.getElem?_set_ne htj];exact g1,?_⟩
         cases s with
         | val d=>exact g2
         | own ts=>
          obtain ⟨c,ws,rfl,q1,q2,q3,q4⟩:=g2;refine ⟨c,ws,rfl,q1,q2,?_,q4⟩;rw [upd_ne]
          . exact q3
          . rintro rfl
            exact R.apart j c ts (Ne.symm hij) hs g1 (by simp [bm])
         | dct ts=>
          obtain ⟨c,u,rfl,q1,q2,q3,q4⟩:=g2;refine ⟨c,u,rfl,q1,q2,?_,q4⟩;rw [upd_ne]
          . exact q3
          . rintro rfl;rw [q3] at hv
            cases hv
   . have f : ∀ (j : Nat) ds, (((ρ.set t none).set i (some (.own ((done ++ (r ++ [.none]) :: todo).map .list)))).set i none)[j]? = some (some (.own ds)) -> i ≠ j /\ t ≠ j /\ ρ[j]? = some (some (.own ds)) := by
      intro j ds h
      have hij:i≠j:=by
       rintro rfl;rw [List.getElem?_set_self'] at h
       cases hq:((ρ.set t none).set i (some (.own ((done++(r ++ [.none])::todo).map .list))))[i]? with
       | none=>rw [hq] at h;cases h
       | some q=>rw [hq] at h;cases h
      rw [List.getElem?_set_ne hij,List.getElem?_set_ne hij] at h
      have htj:t≠j:=by
       rintro rfl;rw [List.getElem?_set_self'] at h
       cases hq:ρ[t]? with
       | none=>rw [hq] at h;cases h
       | some q=>rw [hq] at h;cases h
      rw [List.getElem?_set_ne htj] at h
      exact ⟨hij,htj,h⟩
     obtain ⟨a1,a2,a3⟩:=f j ds h1;obtain ⟨b1,b2,b3⟩:=f k es h2;rw [List.getElem?_set_ne a2] at h3
     rw [List.getElem?_set_ne b2] at h4
     exact R.er.apart j k c ds es hjk (by rw [List.getElem?_set_ne a1];exact a3) (by rw [List.getElem?_set_ne b1];exact b3) h3 h4
 . refine ⟨by rw [upd_ne ab];exact R.rows.top,by rw [R.rows.len];simp,R.rows.nd,R.rows.new,fun j c ds h1 h2=> ?_⟩
   by_cases hj:j=done.length
   . subst hj;rw [hb] at h1
     cases h1
     rw [List.getElem?_append_right (Nat.le_refl _),Nat.sub_self] at h2
     cases h2
     exact ⟨vs ++ [.non],upd_same,Tf.Reps.snoc hr .none⟩
   . have h3 : (done ++ r :: todo)[j]? = some ds := by
      by_cases hlt:j<done.length
      . rw [List.getElem?_append_left hlt] at h2 ⊢
        exact h2
      . rw [List.getElem?_append_right (by omega)] at h2 ⊢
        obtain ⟨m,hm⟩:∃m,j - done.length=m+1:=⟨j - done.length - 1,by omega⟩;rw [hm] at h2 ⊢
        simpa using h2
     obtain ⟨ws,g1,g2⟩:=R.rows.row j c ds h1 h3;refine ⟨ws,?_,g2⟩;rw [upd_ne]
     . exact g1
     . rintro rfl;have nd:=(List.nodup_cons.mp R.rows.nd).2;obtain ⟨p1,e1⟩:=List.getElem?_eq_some_iff.mp h1;obtain ⟨p2,e2⟩:=List.getElem?_eq_some_iff.mp hb;exact hj ((List.getElem_inj nd).mp (e1.trans e2.symm))
 . have htj : t ≠ j := by
    rintro rfl;rw [List.getElem?_set_ne (Ne.symm hj),List.getElem?_set_self'] at h1
    cases hq:ρ[t]? with
    | none=>rw [hq] at h1;cases h1
    | some q=>rw [hq] at h1;cases h1
   rw [List.getElem?_set_ne (Ne.symm hj),List.getElem?_set_ne htj] at h1
   rw [List.getElem?_set_ne htj] at h2
   exact R.apart j c ds hj h1 h2
structure RowsIn (K:PySem.W.Frag) (HB H0 H:Hp) (as:List Addr) (rs:List (List PyData)):Prop where
 len:as.length=rs.length
 nd:as.Nodup
 new:∀b ∈ as,HB b=none/\H0 b=none
 row:∀(j:Nat) b ds,as[j]? = some b->rs[j]? = some ds->∃vs,H b=some (.lst vs)/\Reps K H0 vs ds
theorem RowsIn.live{HB H0 H:Hp}{as:List Addr}{rs:List (List PyData)}(r:RowsIn K HB H0 H as rs):∀b ∈ as,∃vs,H b=some (.lst vs):=fun b hb=>by
 obtain ⟨j,hj,rfl⟩:=List.mem_iff_getElem.mp hb;have hj':j<rs.length:=by rw [<-r.len];exact hj
 obtain ⟨vs,h,_⟩:=r.row j as[j] rs[j] (List.getElem?_eq_getElem hj) (List.getElem?_eq_getElem hj');exact ⟨_,h⟩
theorem RowsIn.ext{HB H0 H H0' H':Hp}{as:List Addr}{rs:List (List PyData)}(x:Ext H0 H H0' H')(r:RowsIn K HB H0 H as rs):RowsIn K HB H0' H' as rs:=
 ⟨r.len,r.nd,fun b hb=>by
  obtain ⟨o,ho⟩:=r.live b hb;exact ⟨(r.new b hb).1,x.own b _ ho True.intro (r.new b hb).2⟩,fun j b ds h1 h2=>by
  obtain ⟨vs,h3,h4⟩:=r.row j b ds h1 h2;exact ⟨vs,x.s _ _ h3,Reps.same x.s0 h4⟩⟩
theorem RowsIn.snoc{HB H0 H:Hp}{as:List Addr}{rs:List (List PyData)}{b:Addr}{vs:List V}{ds:List PyData}(r:RowsIn K HB H0 H as rs)(hn:b ∉ as)(h1:HB b=none)(h2:H0 b=none)(h3:H b=some (.lst vs))(h4:Reps K H0 vs ds):RowsIn K HB H0 H (as ++ [b]) (rs ++ [ds]):=by
 refine ⟨by simp [r.len],?_,fun c hc=> ?_,fun j c es g1 g2=> ?_⟩
 . rw [List.nodup_append];exact ⟨r.nd,by simp,fun c hc d hd z=>hn (by cases List.mem_singleton.mp hd;exact z ▸ hc)⟩
 . rcases List.mem_append.mp hc with hc | hc
   . exact r.new c hc
   . cases List.mem_singleton.mp hc
     exact ⟨h1,h2⟩
 . by_cases hj:j<as.length
   . rw [List.getElem?_append_left hj] at g1
     rw [List.getElem?_append_left (by rw [<-r.len];exact hj)] at g2
     exact r.row j c es g1 g2
   . rw [List.getElem?_append_right (by omega)] at g1
     rw [List.getElem?_append_right (by rw [<-r.len];omega), <-r.len] at g2
     have hz:j - as.length=0:=by
      have:=(List.getElem?_eq_some_iff.mp g1).1;simp at this
      omega
     rw [hz] at g1 g2
     cases g1
     cases g2
     exact ⟨vs,h3,h4⟩
def RErows(K:PySem.W.Frag)(R:Rl)(te:TE)(f:En->Option (List (List PyData))):Prop:=
 ∀(HB:Hp) (σ:L2.St) (ρ:En) (H0 H:Hp),Same H0 H->ST R HB H0 H σ ρ->∀rs,f ρ=some rs->∀Q:VK,(∀v H0' H',Ext H0 H H0' H'->RowsH K H H0' H' v rs->Q v H')->te σ H Q
def ownOf:Option Sl->Option (List PyData)
 | some (.own es)=>some es
 | _=>none
theorem ownOf_some{o:Option Sl}{es:List PyData}(h:ownOf o=some es):o=some (.own es):=by
 cases o with
 | none=>cases h
 | some s=>cases s with
  | val d=>cases h
  | dct d=>cases h
  | own ds=>cases h;rfl
def elW(fg:PyData->En->Option En)(ft:En->Option Bool)(fe:En->Option Sl)(ρ0:En):PyData->Option (List PyData):=fun d=>(fg d ρ0).bind fun ρ'=>(ft ρ').bind fun b=>if b then ownOf (fe ρ') else none
def compW(f:PyData->Option (List PyData)):List PyData->Option (List (List PyData))
 | []=>some []
 | d::ds=>(f d).bind fun r=>(compW f ds).map (r :: ·)
def mLCW(sb:En->En)(fi:En->Option (List PyData))(fg:PyData->En->Option En)(ft:En->Option Bool)(fe:En->Option Sl):En->Option (List (List PyData)):=fun ρ=>(fi ρ).bind fun ds=>
 if ds.length<sizeLine then compW (elW fg ft fe (sb ρ)) ds else none
theorem re_lcW {R R' : Rl} [RelOk K R] [RelOk K R'] {sb : En -> En} {ix : List (Option Nat)} {wi : TI} {g : CB -> TG} {tt : CB -> TT} {te : CB -> TE} {fi : En -> Option (List PyData)} {fg : PyData -> En -> Option En} {ft : En -> Option Bool} {fe : En -> Option Sl}
 (hx:∀(HB:Hp) (σ:L2.St) (ρ:En) (H0 H:Hp),R.r HB H0 H σ ρ->R'.r (fun _=>none) H0 H (subS ix σ) (sb ρ))
 (hi:RI K R wi fi) (hg:∀b,RG K R' (g b) fg) (ht:∀b,RT K R' (tt b) ft) (he:∀b,RE K R' (te b) fe):RErows K R (tLC ix wi g tt te) (mLCW sb fi fg ft fe):=fun HB σ ρ H0 H s e all hz Q q=>by
 obtain ⟨ds,hds,hz⟩:=Option.bind_eq_some_iff.mp hz
 split at hz
 . rename_i hlen;refine hi HB σ ρ H0 H s e ds hds _ fun J H1 J1 x1 it b=> ?_;have e1:ST R' (fun _=>none) H1 J1 (subS ix σ) (sb ρ):=⟨hx HB σ ρ H1 J1 (e.ext (K:=K) x1).r⟩;refine ⟨fun i m ys H=>m=ds.length - i/\i<=ds.length/\∃H0' as es rest,Ext H1 J1 H0' H/\ys=as.map .ref/\RowsIn K J1 H0' H as es/\es.length<=i/\compW (elW fg ft fe (sb ρ)) (ds.drop i)=some rest/\es++rest=all,⟨_,rfl,Nat.zero_le _,H1,[],[],all,Ext.refl x1.s1,rfl,⟨rfl, .nil,by simp,by simp⟩,Nat.le_refl _,hz,rfl⟩,?_⟩;rintro i m ys H2 ⟨rfl,hile,H0',as,es,rest,xx,hys,hr,hel,hc,hsum⟩;subst hys;obtain ⟨ig,is⟩:=it H0' H2 xx.s0 xx.s1 i;refine ⟨by rw [List.length_map,hr.len];omega,?_⟩
   by_cases hlt:i<ds.length
   . right;obtain ⟨go,yl⟩:=ig ds[i] (by simp [hlt]);rw [List.drop_eq_getElem_cons hlt] at hc
     obtain ⟨r,hr1,hc⟩:=Option.bind_eq_some_iff.mp (show (elW fg ft fe (sb ρ) ds[i]).bind _=some rest from hc);obtain ⟨rest',hr2,hc⟩:=Option.map_eq_some_iff.mp hc;refine ⟨go,fun ys' H'=>∃H0' as es rest,Ext H1 J1 H0' H'/\ys'=as.map .ref/\RowsIn K J1 H0' H' as es/\es.length<=i+1/\compW (elW fg ft fe (sb ρ)) (ds.drop (i+1))=some rest/\es++rest=all,fun ys' H' h=>⟨ds.length - (i+1),by omega,rfl,hlt,h⟩,fun v H3 y=> ?_⟩;obtain ⟨H03,x3,r3⟩:=yl v H3 y;obtain ⟨ρ',hg',hb'⟩:=Option.bind_eq_some_iff.mp hr1;obtain ⟨bb,hbb,hb'⟩:=Option.bind_eq_some_iff.mp hb';have xx3:=xx.trans x3;refine hg b (fun _=>none) _ _ ρ' H03 H3 v _ x3.s1 (fun _ _ h=>by cases h) (e1.ext (K:=K) xx3) r3 hg' _ fun σ2 e2=> ?_;refine ht b _ σ2 ρ' H03 H3 x3.s1 e2 bb hbb _ fun H4 J4 x4=> ?_
     cases bb with
     | true=>
      refine iteT ?_;have hrr:=ownOf_some (show ownOf (fe ρ')=some r from hb');refine he b _ σ2 ρ' H4 J4 x4.s1 (e2.ext (K:=K) x4) _ hrr _ fun w H5 J5 x5 p5=> ?_;obtain ⟨a',vs,rfl,n1,n2,n3,n4⟩:=p5;have xy:=(x3.trans x4);have hr4:=hr.ext xy
      have hn:a' ∉ as:=fun hm=>by
       obtain ⟨o,ho⟩:=hr4.live a' hm;rw [n1] at ho
       cases ho
      have jn:J1 a'=none:=((xx3.trans x4).s).free n1;refine ⟨H5,as ++ [a'],es ++ [r],rest',(xx3.trans x4).trans x5,by simp,(hr4.ext x5).snoc hn jn n2 n3 n4,by rw [List.length_append];simpa using hel,hr2,?_⟩;rw [<-hsum, <-hc,List.append_assoc]
      rfl
     | false=>cases hb'
   . left;refine ⟨is (by omega),fun p hp=> ?_⟩;rw [List.drop_eq_nil_of_le (by omega)] at hc
     cases hc
     rw [List.append_nil] at hsum
     subst hsum;have xy:=x1.trans xx;have xp:=Ext.alloc xx.s1 hp (.lst (as.map .ref))
     have pn:p ∉ as:=fun hm=>by
      obtain ⟨o,ho⟩:=hr.live p hm;rw [hp] at ho
      cases ho
     have hr':=hr.ext xp;refine q _ _ _ (xy.trans xp) ⟨p,as,rfl,upd_same,hr.len,List.nodup_cons.mpr ⟨pn,hr.nd⟩,fun c hc=> ?_,hr'.row⟩;rcases List.mem_cons.mp hc with rfl | hc
     . exact ⟨xy.s.free hp,xx.s1.free hp⟩
     . exact ⟨x1.s.free (hr.new c hc).1,(hr.new c hc).2⟩
 . cases hz
def spW(K:PySem.W.Frag)(F:List PyData->Option (List (List PyData))):Sp:=fun vs H Q _=>∃H0 ds rs,Same H0 H/\Reps K H0 vs ds/\F ds=some rs/\∀v H0' H',Ext H0 H H0' H'->RowsH K H H0' H' v rs->Q v H'
def mCallW(F:List PyData->Option (List (List PyData)))(f:En->Option (List PyData)):En->Option (List (List PyData)):=fun ρ=>(f ρ).bind F
theorem RowsH.base{HB HB' H0 H:Hp}{v:V}{rs:List (List PyData)}(s:Same HB HB')(r:RowsH K HB' H0 H v rs):RowsH K HB H0 H v rs:=by
 obtain ⟨a,as,e,r⟩:=r;exact ⟨a,as,e,r.base s⟩
theorem re_callW{R:Rl} [RelOk K R] {F:List PyData->Option (List (List PyData))} {E:XK} {ta:TA} {f:En->Option (List PyData)} (h:RA K R ta f):RErows K R (tCall (spW K F) [] E ta) (mCallW F f):=fun HB σ ρ H0 H s e z hz Q q=>by
 obtain ⟨ds,hd,hz⟩:=Option.bind_eq_some_iff.mp hz;refine h HB σ ρ H0 H s e ds hd _ fun vs H1 J1 x1 p1=> ?_;rw [List.append_nil];exact ⟨H1,ds,z,x1.s1,p1,hz,fun v H2 J2 x2 p2=>q v H2 J2 (x1.trans x2) (p2.base x1.s)⟩
def RSW(K:PySem.W.Frag)(R:Rl)(t:TS)(g:En->Option (List (List PyData))):Prop:=
 ∀(HB S0:Hp) (σ:L2.St) (ρ:En) (H0 H:Hp),Ext S0 HB H0 H->ST R HB H0 H σ ρ->∀rs,g ρ=some rs->∀D:Ends,(∀v H0' H',Ext S0 HB H0' H'->RowsH K HB H0' H' v rs->D.rt v H')->t D σ H
def mSeqW(f:En->Option Out)(g:En->Option (List (List PyData))):En->Option (List (List PyData)):=fun ρ=>(f ρ).bind fun o=>match o with
 | .nx ρ'=>g ρ'
 | _=>none
theorem rsw_seq{R:Rl}{t u:TS}{f:En->Option Out}{g:En->Option (List (List PyData))}(h:RS K R t f)(k:RSW K R u g):RSW K R (tSeq t u) (mSeqW f g):=fun HB S0 σ ρ H0 H x e rs hr D d=>by
 obtain ⟨o1,h1,hr⟩:=Option.bind_eq_some_iff.mp hr;refine h HB S0 σ ρ H0 H x e o1 h1 { D with nx:=u D} ?_
 cases o1 with
 | nx ρ'=>exact fun σ' H0' H' x' e'=>k HB S0 σ' ρ' H0' H' x' e' rs hr D d
 | _=>cases hr
def runW(n:Nat)(g:En->Option (List (List PyData)))(k:Nat):List PyData->Option (List (List PyData)):=fun ds=>if ds.length=k then g (ds.map (fun d=>some (.val d))++List.replicate (n - ds.length) none) else none
def DSW(X:Cx)(R:Rl)(st:List Stmt)(g:En->Option (List (List PyData))):Prop:=∃t,PSs X st t/\RSW X.K R t g
theorem fnW {P : Program} {w : World} {mg : Str -> Option Value} {base : Heap} {x qual : Str} {st : Stmt} {f : Addr} {fd : FuncData} {N ps : List Str} {k n m : Nat} {g : En -> Option (List (List PyData))} (F : Fun K x qual st f fd) (S : FnScope N ps (defScope st)) (hn : N.length = n) (hm : ps.length = m)
 (hb:∀(cdv:Value) (A:Around) (outer:List Env) (s:Shared) (H:Hp) (E:XK),Room k (A.deeper (envOfC qual (defScope st) s.heap.objs.size f cdv))->DSW (cxOf CX0 P w K mg base N qual (defScope st) f cdv A outer s H E).nox (PR K) (defBody st) g) :
 FnOk P w K mg base CX0 (k+1) f fd ps (spW K (runW n g m)):=by
 subst hn hm;refine F.ok S (fun vs H Q E h=> ?_) fun cdv A outer s H vs Q E hr h=> ?_
 . obtain ⟨H0,ds,r,s,hr,hf,_⟩:=h;unfold runW at hf
   split at hf
   . rename_i hl;rw [hr.length,hl]
   . cases hf
 . obtain ⟨t,ht,rs⟩:=hb cdv A outer s H E hr;refine ⟨t,ht,?_⟩;obtain ⟨H0,ds,r,s0,hr,hf,q⟩:=h;unfold runW at hf
   split at hf
   . exact rs H H0 _ _ H0 H (Ext.refl s0) ⟨er_start hr⟩ r hf _ fun v H1 J1 a b=>q v H1 J1 a b
   . cases hf
theorem ER.drop{HB H0 H:Hp}{σ:L2.St}{ρ:En}{i:Nat}{v:V}{s:Option Sl}(e:ER K HB H0 H σ ρ):ER K HB H0 H (σ.set i (some v)) ((ρ.set i s).set i none):=by
 have f:∀(j:Nat) q,((ρ.set i s).set i none)[j]? = some (some q)->i≠j/\ρ[j]? = some (some q):=by
  intro j q h
  have hij:i≠j:=by
   rintro rfl;rw [List.getElem?_set_self'] at h
   cases hq:(ρ.set i s)[i]? with
   | none=>rw [hq] at h;cases h
   | some q=>rw [hq] at h;cases h
  rw [List.getElem?_set_ne hij,List.getElem?_set_ne hij] at h
  exact ⟨hij,h⟩
 refine ⟨by simp only [List.length_set];exact e.len,fun j q h=> ?_,fun j k b ds es hjk h1 h2 h3 h4=> ?_⟩
 . obtain ⟨hij,h⟩:=f j q h;obtain ⟨u,g1,g2⟩:=e.get j q h;exact ⟨u,by rw [List.getElem?_set_ne hij];exact g1,g2⟩
 . obtain ⟨a1,a2⟩:=f j _ h1;obtain ⟨b1,b2⟩:=f k _ h2;rw [List.getElem?_set_ne a1] at h3
   rw [List.getElem?_set_ne b1] at h4
   exact e.apart j k b ds es hjk a2 b2 h3 h4
end
section
variable {X:Cx} {R R':Rl} [RelOk X.K R] [RelOk X.K R'] {a b c e:Expr} {pos p pos':Pos} {f fe:En->Option Sl} {fs fi:En->Option (List PyData)} {tg:Expr} {x y:Str} {fg:PyData->En->Option En} {ft:En->Option Bool} {st:Stmt} {sts A:List Stmt} {g gA:En->Option Out} {fw gw:En->Option (List (List PyData))}
def DEW(X:Cx)(R:Rl)(e:Expr)(f:En->Option (List (List PyData))):Prop:=∃te,PE X e te/\RErows X.K R te f
variable {osc sc:Scope} {N':List Str} {ix:List (Option Nat)} {ifs:List Expr} {elt iter:Expr} {es:List Expr}
theorem dew_call {k j : Nat} {ps : List Str} {F : List PyData -> Option (List (List PyData))} (D : Tf.Def X.prog X.w X.K X.mg X.base j x ps (spW X.K F)) (hr : Room k X.A) (h : DA X R (e :: es) fs) (hj : j <= k := by decide) (hg : Gl X x := by rfl)
 (hdb:(x==("__debug__" : Str))=false:=by decide) (he:starEach (e::es) X.env=(false,eval e X.env)::starEach es X.env:=by rfl) (hpl:(backTo pos (starEach es X.env)).any (·.1)=false:=by rfl):DEW X R (.Call (.Name x p) (e::es) [] pos) (mCallW F fs):=by
 obtain ⟨t,h1,h2⟩:=h;exact ⟨_,pe_callD D hr h1 hj hg hdb he hpl,re_callW h2⟩
theorem dsw_cons(h:DS X R st g)(k:DSW X R sts gw):DSW X R (st::sts) (mSeqW g gw):=by
 obtain ⟨t,h1,h2⟩:=h;obtain ⟨u,h3,h4⟩:=k;exact ⟨_,pss_cons h1 h3,rsw_seq h2 h4⟩
end
end Dm
namespace Dm
open PySem PySem.Spec PyProof.Rows L2 Tf
section
variable {K:PySem.W.Frag}
def PinW(K:PySem.W.Frag)(i:Nat):Rl:=⟨fun HB H0 H σ ρ=>∃rs a as,RwS K i rs HB H0 H σ ρ a as,fun k=>k≠i/\(0:Nat)=0⟩
theorem set_none_get{ρ:En}{i j:Nat}(h:i≠j):(ρ.set i none)[j]? = ρ[j]? :=List.getElem?_set_ne h
theorem set_comm_ne{ρ:En}{i k:Nat}{a b:Option Sl}(h:i≠k):(ρ.set k a).set i b=(ρ.set i b).set k a:=List.set_comm a b (Ne.symm h)
instance relOk_PinW {i:Nat}:RelOk K (PinW K i) where
 ext:=fun x ⟨rs,a,as,r⟩=>⟨rs,a,as,r.ext x⟩
 get:=fun {_ _ _ _ _ k _} ⟨rs,a,as,r⟩ hs h=>r.er.get k _ (by rw [set_none_get (Ne.symm hs.1)];exact h)
 set:=fun {HB H0 H H0' H' σ ρ k v s} ⟨rs,a,as,r⟩ hs x sb h=>by
  refine ⟨rs,a,as,?_,by rw [List.getElem?_set_ne hs.1];exact r.at_,by rw [List.getElem?_set_ne hs.1];exact r.in_,r.rows.ext x,fun j b ds hj h1 h2 hm=> ?_⟩
  . rw [set_comm_ne (Ne.symm hs.1)];exact ER.set r.er x sb h
  . by_cases hk:k=j
    . subst hk;rw [List.getElem?_set_self'] at h1 h2
      cases hq:ρ[k]? with
      | none=>rw [hq] at h1;cases h1
      | some q=>
       rw [hq] at h1
       cases h1
       have hl:k<σ.length:=by
        rw [r.er.len,List.length_set];exact (List.getElem?_eq_some_iff.mp hq).1
       rw [List.getElem?_eq_getElem hl] at h2
       cases h2
       obtain ⟨b',ws,eb,hn,_⟩:=h
       cases eb
       obtain ⟨o,ho⟩:=r.rows.live b hm;rw [hn] at ho
       cases ho
    . rw [List.getElem?_set_ne hk] at h1 h2
      exact r.apart j b ds hj h1 h2 hm
 write:=fun {HB H0 H σ ρ k c ds es vs ys} ⟨rs,a,as,r⟩ hs h1 h2 h3 h4 h5 h6=>by
  have cn:c ∉ a::as:=r.apart k c ds hs.1 h1 h2;have un:∀b,b ∈ a::as->(upd H c (.lst ys)) b=H b:=fun b hb=>upd_ne fun z=>cn (z ▸ hb);refine ⟨rs,a,as,?_,r.at_,by rw [List.getElem?_set_ne hs.1];exact r.in_,⟨by rw [un a (by simp)];exact r.rows.top,r.rows.len,r.rows.nd,r.rows.new,fun j b qs g1 g2=> ?_⟩,fun j b qs hj g1 g2=> ?_⟩
  . rw [set_comm_ne (Ne.symm hs.1)];exact ER.write r.er (by rw [set_none_get (Ne.symm hs.1)];exact h1) h2 h3 h4 h6
  . obtain ⟨ws,q1,q2⟩:=r.rows.row j b qs g1 g2;exact ⟨ws,by rw [un b (by simp [List.mem_of_getElem? g1])];exact q1,q2⟩
  . by_cases hk:k=j
    . subst hk;exact r.apart k b ds hs.1 h1 g2
    . rw [List.getElem?_set_ne hk] at g1
      exact r.apart j b qs hj g1 g2
 frz:=fun {S0 HB H0 H σ ρ k ds} ⟨rs,a,as,r⟩ hs h x=>by
  obtain ⟨c,vs,hc,x',e'⟩:=ER.frz r.er (show (ρ.set i none)[k]? = some (some (.own ds)) by rw [set_none_get (Ne.symm hs.1)];exact h) x;obtain ⟨v,g1,c',ws,ev,q1,q2,q3,q4⟩:=r.er.get k _ (show (ρ.set i none)[k]? = some (some (.own ds)) by rw [set_none_get (Ne.symm hs.1)];exact h);subst ev;have cn':c' ∉ a::as:=r.apart k c' ds hs.1 h g1;refine ⟨fzH H0 H [c'],?_,rs,a,as,?_,r.at_,by rw [List.getElem?_set_ne hs.1];exact r.in_,?_,fun j b qs hj g2 g3=> ?_⟩
  . have s0 : Same H0 (fzH H0 H [c']) := fun b u e => by
     by_cases hb:b ∈ [c']
     . cases List.mem_singleton.mp hb
       rw [q2] at e
       cases e
     . rw [fz_out hb];exact e
    exact ⟨x.s,x.s0.trans s0,fun b u e=>by
     by_cases hb:b ∈ [c']
     . rw [fz_in hb] at e
       exact e
     . rw [fz_out hb] at e
       exact x.s1 b u e,fun b o hb h0=>by
     by_cases hm:b ∈ [c']
     . cases List.mem_singleton.mp hm
       rw [q1] at hb
       cases hb
     . rw [fz_out hm];exact x.own b o hb h0⟩
  . rw [set_comm_ne (Ne.symm hs.1)]
    have s0:Same H0 (fzH H0 H [c']):=fun b u e=>by
     by_cases hb:b ∈ [c']
     . cases List.mem_singleton.mp hb
       rw [q2] at e
       cases e
     . rw [fz_out hb];exact e
    refine ⟨by rw [List.length_set];exact r.er.len,fun j s hq=> ?_,fun j l b ts us hjl g2 g3 g4 g5=> ?_⟩
    . by_cases hkj:k=j
      . subst hkj;rw [List.getElem?_set_self',set_none_get (Ne.symm hs.1),h] at hq
        cases hq
        exact ⟨.ref c',g1, .list (SqL.of (by rw [fz_in (by simp)];exact q3)) (Reps.same s0 q4)⟩
      . rw [List.getElem?_set_ne hkj] at hq
        obtain ⟨u,p1,p2⟩:=r.er.get j s hq;refine ⟨u,p1,?_⟩
        cases s with
        | val d=>exact Rep.same s0 p2
        | own ts=>
         obtain ⟨b,zs,rfl,t1,t2,t3,t4⟩:=p2;refine ⟨b,zs,rfl,t1,?_,t3,Reps.same s0 t4⟩;rw [fz_out]
         . exact t2
         . intro hm
           cases List.mem_singleton.mp hm
           exact r.er.apart k j _ ds ts hkj (by rw [set_none_get (Ne.symm hs.1)];exact h) hq g1 p1
        | dct ts=>
         obtain ⟨b,zs,rfl,t1,t2,t3,t4⟩:=p2;refine ⟨b,zs,rfl,t1,?_,t3,t4.same s0⟩;rw [fz_out]
         . exact t2
         . intro hm
           cases List.mem_singleton.mp hm
           rw [q3] at t3
           cases t3
    . have f : ∀ (j : Nat) qs, ((ρ.set i none).set k (some (.val (.list ds))))[j]? = some (some (.own qs)) -> (ρ.set i none)[j]? = some (some (.own qs)) := by
       intro j qs hq
       have hkj:k≠j:=by
        rintro rfl;rw [List.getElem?_set_self',set_none_get (Ne.symm hs.1),h] at hq
        cases hq
       rw [List.getElem?_set_ne hkj] at hq
       exact hq
      exact r.er.apart j l b ts us hjl (f j ts g2) (f l us g3) g4 g5
  . have nz : ∀ b ∈ a :: as, fzH H0 H [c'] b = H0 b := fun b hb => fz_out fun hm => by
     cases List.mem_singleton.mp hm
     exact cn' hb
    have s0:Same H0 (fzH H0 H [c']):=fun b u e=>by
     by_cases hb:b ∈ [c']
     . cases List.mem_singleton.mp hb
       rw [q2] at e
       cases e
     . rw [fz_out hb];exact e
    exact ⟨r.rows.top,r.rows.len,r.rows.nd,fun b hb=>⟨(r.rows.new b hb).1,by rw [nz b hb];exact (r.rows.new b hb).2⟩,fun j b qs t1 t2=>by
     obtain ⟨ws',t3,t4⟩:=r.rows.row j b qs t1 t2;exact ⟨ws',t3,Reps.same s0 t4⟩⟩
  . have hkj : k ≠ j := by
     rintro rfl;rw [List.getElem?_set_self',h] at g2
     cases g2
    rw [List.getElem?_set_ne hkj] at g2
    exact r.apart j b qs hj g2 g3
def mSeqX(f g:En->Option Out):En->Option Out:=fun ρ=>(f ρ).bind fun o=>match o with
 | .nx ρ'=>g ρ'
 | _=>none
end
section
variable {X:Cx} {p pos:Pos} {x y:Str} {st:Stmt} {sts:List Stmt} {g f:En->Option Out}
end
section
variable {K:PySem.W.Frag} {C:Addr} {names:List Str}
end
section
variable {X:Cx} {C:Addr} {names:List Str} {e:Expr} {pos:Pos} {x:Str} {rest:List Stmt}
end
end Dm
namespace Dm
open PySem PySem.Spec PyProof.Rows L2 Tf
section
variable {K:PySem.W.Frag}
theorem RowsAt.s0'{HB H0 H:Hp}{a:Addr}{as:List Addr}{rs:List (List PyData)}(r:RowsAt K HB H0 H a as rs):Same H0 (fzH H0 H as):=fun b u e=>by
 by_cases hb:b ∈ as
 . rw [(r.new b (by simp [hb])).2] at e
   cases e
 . rw [fz_out hb];exact e
theorem RowsAt.reps'{HB H0 H:Hp}{a:Addr}{as:List Addr}{rs:List (List PyData)}(r:RowsAt K HB H0 H a as rs):Reps K (fzH H0 H as) (as.map .ref) (rs.map .list):=by
 have gen:∀(bs:List Addr) (qs:List (List PyData)),bs.length=qs.length->(∀b ∈ bs,b ∈ as)->(∀(j:Nat) b ds,bs[j]? = some b->qs[j]? = some ds->∃vs,H b=some (.lst vs)/\Reps K H0 vs ds)->Reps K (fzH H0 H as) (bs.map .ref) (qs.map .list):=by
  intro bs
  induction bs with
  | nil=>intro qs hl _ _;cases qs with | nil=>exact .nil | cons q qs=>cases hl
  | cons b bs ih=>
   intro qs hl hm hr
   cases qs with
   | nil=>cases hl
   | cons q qs=>
    obtain ⟨vs,h1,h2⟩:=hr 0 b q rfl rfl;refine .cons (.list (SqL.of (by rw [fz_in (hm b (by simp))];exact h1)) (Reps.same r.s0' h2)) (ih qs (by simpa using hl) (fun c hc=>hm c (by simp [hc])) fun j c ds h3 h4=>hr (j+1) c ds (by simpa using h3) (by simpa using h4))
 exact gen as rs r.len (fun b hb=>hb) r.row
def mAsgL(i k:Nat)(f:En->Option Sl)(g:En->Option Out):En->Option Out:=fun ρ=>if k≠i then (f (frz1 i ρ)).bind fun s=>match s with
 | .val (.int n)=>g (ρ.set k (some (.val (.int n))))
 | _=>none
 else none
def intS:Sl->Option Int
 | .val (.int n)=>some n
 | _=>none
theorem intS_some{s:Sl}{n:Int}(h:intS s=some n):s = .val (.int n):=by
 unfold intS at h
 split at h
 . cases h;rfl
 . cases h
theorem bind_int{f:Option Sl}{n:Int}(h:f.bind intS=some n):f=some (.val (.int n)):=by
 obtain ⟨s,h1,h2⟩:=Option.bind_eq_some_iff.mp h;rw [h1,intS_some h2]
end
section
variable {X:Cx} {p pos:Pos} {x y:Str} {e a b c:Expr} {st:Stmt} {sts:List Stmt} {g:En->Option Out} {f fa fb:En->Option Sl} {ft:En->Option Bool}
end
section
variable {X:Cx} {R':Rl} [RelOk X.K R'] {pos:Pos} {fe:En->Option Sl} {fi:En->Option (List PyData)} {tg:Expr} {y:Str} {fg:PyData->En->Option En} {ft:En->Option Bool} {sts:List Stmt} {g:En->Option Out} {osc sc:Scope} {N':List Str} {ifs:List Expr} {elt iter:Expr}
end
end Dm
namespace Dm
open PySem PySem.Spec PyProof.Rows L2 Tf
section
variable {K:PySem.W.Frag} {R:Rl} [RelOk K R]
def mOwnW(f:En->Option (List (List PyData))):En->Option Sl:=fun ρ=>(f ρ).map fun rs=> .own (rs.map .list)
theorem re_ofW{te:TE}{f:En->Option (List (List PyData))}(h:RErows K R te f):RE K R te (mOwnW f):=fun HB σ ρ H0 H s e z hz Q q=>by
 obtain ⟨rs,hr,rfl⟩:=Option.map_eq_some_iff.mp hz;refine h HB σ ρ H0 H s e rs hr _ fun v H1 J1 x1 p1=> ?_;obtain ⟨a,as,rfl,p⟩:=p1;have na:a ∉ as:=(List.nodup_cons.mp p.nd).1;refine q _ (fzH H1 J1 as) J1 ?_ ⟨a,as.map .ref,rfl,(p.new a (by simp)).1,by rw [fz_out na];exact (p.new a (by simp)).2,p.top,p.reps'⟩;refine ⟨x1.s,x1.s0.trans p.s0',fun b u e=> ?_,fun b o hb h0=> ?_⟩
 . by_cases hb:b ∈ as
   . rw [fz_in hb] at e
     exact e
   . rw [fz_out hb] at e
     exact x1.s1 b u e
 . by_cases hm:b ∈ as
   . rw [(p.new b (by simp [hm])).1] at hb
     cases hb
   . rw [fz_out hm];exact x1.own b o hb h0
end
section
variable {K:PySem.W.Frag}
def mAppW(i:Nat)(f:En->Option Sl):En->Option Out:=fun ρ=>match (ρ[i]?).join with
 | some (.own ds)=>(rowsOf ds).bind fun rs=>(ownOf (f ρ)).bind fun r=>if rs.length<sizeLine then some (.nx (ρ.set i (some (.own ((rs ++ [r]).map .list))))) else none
 | _=>none
def RWW(K:PySem.W.Frag)(i:Nat)(t:TS)(g:En->Option (List (List PyData))):Prop:=
 ∀(HB S0:Hp) (σ:L2.St) (ρ:En) (H0 H:Hp),Ext S0 HB H0 H->ST (PinW K i) HB H0 H σ ρ->∀rs,g ρ=some rs->∀D:Ends,(∀v H0' H',Ext S0 HB H0' H'->RowsH K HB H0' H' v rs->D.rt v H')->t D σ H
def mGiveW(i:Nat):En->Option (List (List PyData)):=fun ρ=>match (ρ[i]?).join with
 | some (.own ds)=>rowsOf ds
 | _=>none
theorem rww_ret{i:Nat}:RWW K i (tRet (tVar i)) (mGiveW i):=fun HB S0 σ ρ H0 H x e z hz D d=>by
 obtain ⟨rs,a,as,r⟩:=e.r;unfold mGiveW at hz
 rw [r.in_] at hz
 have hz:rowsOf (rs.map .list)=some z:=hz;rw [rowsOf_map] at hz
 cases hz
 exact ⟨.ref a,r.at_,d _ H0 H x ⟨a,as,rfl,r.rows⟩⟩
theorem rww_seq{i:Nat}{t u:TS}{f:En->Option Out}{g:En->Option (List (List PyData))}(h:RS K (PinW K i) t f)(k:RWW K i u g):RWW K i (tSeq t u) (mSeqW f g):=fun HB S0 σ ρ H0 H x e rs hr D d=>by
 obtain ⟨o1,h1,hr⟩:=Option.bind_eq_some_iff.mp hr;refine h HB S0 σ ρ H0 H x e o1 h1 { D with nx:=u D} ?_
 cases o1 with
 | nx ρ'=>exact fun σ' H0' H' x' e'=>k HB S0 σ' ρ' H0' H' x' e' rs hr D d
 | _=>cases hr
def mRowsInW(i:Nat)(f g:En->Option (List (List PyData))):En->Option (List (List PyData)):=fun ρ=>if i<ρ.length then (f ρ).bind fun rs=>g (ρ.set i (some (.own (rs.map .list)))) else none
theorem rsw_rows{i:Nat}{te:TE}{u:TS}{f g:En->Option (List (List PyData))}(h:RErows K (PR K) te f)(k:RWW K i u g):RSW K (PR K) (tSeq (tAsg te (gName i)) u) (mRowsInW i f g):=fun HB S0 σ ρ H0 H x e o ho D d=>by
 unfold mRowsInW at ho
 split at ho
 . rename_i hi;obtain ⟨rs,hr,ho⟩:=Option.bind_eq_some_iff.mp ho;refine h HB σ ρ H0 H x.s1 e rs hr _ fun v H1 J1 x1 p1=> ?_;obtain ⟨a,as,rfl,p1⟩:=p1;have er:ER K HB H0 H σ ρ:=e.r;refine k HB S0 _ _ H1 J1 (x.chain x1) ⟨⟨rs,a,as,(er.ext x1).drop,List.getElem?_set_self (by rw [er.len];exact hi),List.getElem?_set_self hi,p1.base x.s,fun j b ds hj h1 h2 hm=> ?_⟩⟩ o ho D d;rw [List.getElem?_set_ne (Ne.symm hj)] at h1 h2
   obtain ⟨w,g1,g2⟩:=er.get j _ h1;rw [h2] at g1
   cases g1
   obtain ⟨b',ws,eb,_,_,g3,_⟩:=g2
   cases eb
   rw [(p1.new b hm).1] at g3
   cases g3
 . cases ho
theorem RwS.putG {i p : Nat} {rs : List (List PyData)} {r' : List PyData} {HB H0 H : Hp} {σ : L2.St} {ρ : En} {a b : Addr} {as : List Addr} (R : RwS K i rs HB H0 H σ ρ a as) (hb : as[p]? = some b) {vs' : List V} (hvr : Reps K H0 vs' r') :
 RwS K i (rs.set p r') HB H0 (upd H b (.lst vs')) σ (ρ.set i (some (.own ((rs.set p r').map .list)))) a as:=by
 have bm:b ∈ as:=List.mem_of_getElem? hb;have ab:a≠b:=fun z=>(List.nodup_cons.mp R.rows.nd).1 (z ▸ bm);have iL:i<ρ.length:=(List.getElem?_eq_some_iff.mp R.in_).1;refine ⟨?_,R.at_,by rw [List.getElem?_set_self iL],?_,fun j c ds hj h1 h2=> ?_⟩
 . rw [List.set_set];refine ⟨R.er.len,fun j s hs=> ?_,R.er.apart⟩
   have hij:i≠j:=by
    rintro rfl;rw [List.getElem?_set_self'] at hs
    cases hq:ρ[i]? with
    | none=>rw [hq] at hs;cases hs
    | some q=>rw [hq] at hs;cases hs
   obtain ⟨v,g1,g2⟩:=R.er.get j s hs;rw [List.getElem?_set_ne hij] at hs
   refine ⟨v,g1,?_⟩
   cases s with
   | val d=>exact g2
   | own ts=>
    obtain ⟨c,ws,rfl,q1,q2,q3,q4⟩:=g2;refine ⟨c,ws,rfl,q1,q2,?_,q4⟩;rw [upd_ne]
    . exact q3
    . rintro rfl
      exact R.apart j c ts (Ne.symm hij) hs g1 (by simp [bm])
   | dct ts=>
    obtain ⟨c,u,rfl,q1,q2,q3,q4⟩:=g2;refine ⟨c,u,rfl,q1,q2,?_,q4⟩;rw [upd_ne]
    . exact q3
    . rintro rfl;obtain ⟨vs',hv'⟩:=R.rows.live c (by simp [bm]);rw [q3] at hv'
      cases hv'
 . refine ⟨by rw [upd_ne ab];exact R.rows.top,by rw [R.rows.len,List.length_set],R.rows.nd,R.rows.new,fun j c ds h1 h2=> ?_⟩
   by_cases hj:p=j
   . subst hj;rw [hb] at h1
     cases h1
     rw [List.getElem?_set_self (by rw [<-R.rows.len];exact (List.getElem?_eq_some_iff.mp hb).1)] at h2
     cases h2
     exact ⟨vs',upd_same,hvr⟩
   . rw [List.getElem?_set_ne hj] at h2
     obtain ⟨ws,g1,g2⟩:=R.rows.row j c ds h1 h2;refine ⟨ws,?_,g2⟩;rw [upd_ne]
     . exact g1
     . rintro rfl;have nd:=(List.nodup_cons.mp R.rows.nd).2;obtain ⟨p1,e1⟩:=List.getElem?_eq_some_iff.mp h1;obtain ⟨p2,e2⟩:=List.getElem?_eq_some_iff.mp hb;exact hj ((List.getElem_inj nd).mp (e2.trans e1.symm))
 . rw [List.getElem?_set_ne (Ne.symm hj)] at h1
   exact R.apart j c ds hj h1 h2
end
section
variable {X:Cx} {R:Rl} [RelOk X.K R] {p pos pos':Pos} {x:Str} {e a b:Expr} {st:Stmt} {sts:List Stmt} {g:En->Option Out} {f fa:En->Option Sl} {fw gw:En->Option (List (List PyData))}
theorem de_ofW(h:DEW X R e fw):DE X R e (mOwnW fw):=by
 obtain ⟨t,h1,h2⟩:=h;exact ⟨t,h1,re_ofW h2⟩
def DWW(X:Cx)(i:Nat)(sts:List Stmt)(g:En->Option (List (List PyData))):Prop:=∃t,PSs X sts t/\RWW X.K i t g
theorem dww_ret (i:Nat) (hN:X.N[i]? = some x:=by rfl) (hv:Vis X.env.scope x:=by first | exact Or.inl rfl | exact Or.inr (Or.inl rfl) | exact Or.inr (Or.inr rfl)) (hd:(x==("__debug__" : Str))=false:=by decide) (hcd:(x==("__classdict__" : Str))=false:=by decide):DWW X i [.Return (some (.Name x pos')) pos] (mGiveW i) :=
 ⟨_,pss_one (ps_ret (pe_var hN hv hd hcd)),rww_ret⟩
theorem dww_cons{K:PySem.W.Frag}{i:Nat}(hK:X.K=K)(h:DS X (PinW K i) st g)(k:DWW X i sts gw):DWW X i (st::sts) (mSeqW g gw):=by
 subst hK;obtain ⟨t,h1,h2⟩:=h;obtain ⟨u,h3,h4⟩:=k;exact ⟨_,pss_cons h1 h3,rww_seq h2 h4⟩
end
end Dm
namespace Dm
open PySem PySem.Spec PyProof.Rows L2 Tf
section
variable {K:PySem.W.Frag}
def mAppWN(i k:Nat):En->Option Out:=fun ρ=>match (ρ[i]?).join with
 | some (.own ds)=>(rowsOf ds).bind fun rs=>match (ρ[k]?).join with
  | some (.own r)=>if rs.length<sizeLine/\k≠i then some (.nx ((ρ.set k none).set i (some (.own ((rs ++ [r]).map .list))))) else none
  | _=>none
 | _=>none
theorem RwS.putV {i p q : Nat} {w : V} {dv : PyData} {rs : List (List PyData)} {r : List PyData} {HB H0 H : Hp} {σ : L2.St} {ρ : En} {a b : Addr} {as : List Addr} (R : RwS K i rs HB H0 H σ ρ a as) (hb : as[p]? = some b) (hr : rs[p]? = some r) {vs : List V} (hv : H b = some (.lst vs)) (hvr : Reps K H0 vs r) (hw : Rep K H0 w dv) :
 RwS K i (rs.set p (r.set q dv)) HB H0 (upd H b (.lst (vs.set q w))) σ (ρ.set i (some (.own ((rs.set p (r.set q dv)).map .list)))) a as:=by
 have bm:b ∈ as:=List.mem_of_getElem? hb;have bn:=R.rows.new b (by simp [bm]);have ab:a≠b:=fun z=>(List.nodup_cons.mp R.rows.nd).1 (z ▸ bm);have iL:i<ρ.length:=(List.getElem?_eq_some_iff.mp R.in_).1;refine ⟨?_,R.at_,by rw [List.getElem?_set_self iL],?_,fun j c ds hj h1 h2=> ?_⟩
 . rw [List.set_set];refine ⟨R.er.len,fun j s hs=> ?_,R.er.apart⟩
   have hij:i≠j:=by
    rintro rfl;rw [List.getElem?_set_self'] at hs
    cases hq:ρ[i]? with
    | none=>rw [hq] at hs;cases hs
    | some q=>rw [hq] at hs;cases hs
   obtain ⟨v,g1,g2⟩:=R.er.get j s hs;rw [List.getElem?_set_ne hij] at hs
   refine ⟨v,g1,?_⟩
   cases s with
   | val d=>exact g2
   | own ts=>
    obtain ⟨c,ws,rfl,q1,q2,q3,q4⟩:=g2;refine ⟨c,ws,rfl,q1,q2,?_,q4⟩;rw [upd_ne]
    . exact q3
    . rintro rfl
      exact R.apart j c ts (Ne.symm hij) hs g1 (by simp [bm])
   | dct ts=>
    obtain ⟨c,u,rfl,q1,q2,q3,q4⟩:=g2;refine ⟨c,u,rfl,q1,q2,?_,q4⟩;rw [upd_ne]
    . exact q3
    . rintro rfl;rw [q3] at hv
      cases hv
 . refine ⟨by rw [upd_ne ab];exact R.rows.top,by rw [R.rows.len,List.length_set],R.rows.nd,R.rows.new,fun j c ds h1 h2=> ?_⟩
   by_cases hj:p=j
   . subst hj;rw [hb] at h1
     cases h1
     rw [List.getElem?_set_self (List.getElem?_eq_some_iff.mp hr).1] at h2
     cases h2
     exact ⟨vs.set q w,upd_same,Reps.set hw q hvr⟩
   . rw [List.getElem?_set_ne hj] at h2
     obtain ⟨ws,g1,g2⟩:=R.rows.row j c ds h1 h2;refine ⟨ws,?_,g2⟩;rw [upd_ne]
     . exact g1
     . rintro rfl;have nd:=(List.nodup_cons.mp R.rows.nd).2;obtain ⟨p1,e1⟩:=List.getElem?_eq_some_iff.mp h1;obtain ⟨p2,e2⟩:=List.getElem?_eq_some_iff.mp hb;exact hj ((List.getElem_inj nd).mp (e2.trans e1.symm))
 . rw [List.getElem?_set_ne (Ne.symm hj)] at h1
   exact R.apart j c ds hj h1 h2
def mSetW(i:Nat)(fa fb fe:En->Option Sl):En->Option Out:=fun ρ=>(fe ρ).bind fun v=>((fa ρ).bind intS).bind fun ia=>((fb ρ).bind intS).bind fun ib=>match (ρ[i]?).join with
 | some (.own ds)=>(rowsOf ds).bind fun rs=>(ixN rs.length ia).bind fun p=>(rs[p]?).bind fun r=>(ixN r.length ib).map fun q=> .nx (ρ.set i (some (.own ((rs.set p (r.set q v.dat)).map .list))))
 | _=>none
theorem rs_setW{i:Nat}{te ta tb:TE}{fe fa fb:En->Option Sl}(hE:RE K (PinW K i) te fe)(hA:RP K (PinW K i) ta fa)(hB:RP K (PinW K i) tb fb):RS K (PinW K i) (tAsg te (gSub (tOp (rIx K) (tVar i) ta) tb rSetL)) (mSetW i fa fb fe):=fun HB S0 σ ρ H0 H x e o ho D d=>by
 obtain ⟨rs,a,as,r⟩:=e.r;obtain ⟨v,hv,ho⟩:=Option.bind_eq_some_iff.mp ho;obtain ⟨ia,hia,ho⟩:=Option.bind_eq_some_iff.mp ho;obtain ⟨ib,hib,ho⟩:=Option.bind_eq_some_iff.mp ho;have hia:=bind_int hia;have hib:=bind_int hib;rw [r.in_] at ho
 obtain ⟨rs',hrs,hp⟩:=Option.bind_eq_some_iff.mp (show (rowsOf (rs.map .list)).bind _=some o from ho);rw [rowsOf_map] at hrs
 cases hrs
 obtain ⟨p,hp1,hp⟩:=Option.bind_eq_some_iff.mp hp;obtain ⟨rr,hrr,hp⟩:=Option.bind_eq_some_iff.mp hp;obtain ⟨q,hq,rfl⟩:=Option.map_eq_some_iff.mp hp;refine hE.rv HB σ ρ H0 H x.s1 e v.dat (by unfold mDat;rw [hv];rfl) _ fun w H1 J1 x1 p1=> ?_;have r1:=r.ext x1;have e1:=e.ext (K:=K) x1;refine ⟨.ref a,r1.at_,?_⟩;refine hA HB σ ρ H1 J1 x1.s1 e1 _ hia _ fun wa H2 J2 x2 p2=> ?_;have r2:=r1.ext x2;have e2:=e1.ext (K:=K) x2;have pl:p<as.length:=by rw [r.rows.len];exact (List.getElem?_eq_some_iff.mp hrr).1
 have gb:as[p]? = some as[p]:=List.getElem?_eq_getElem pl;generalize as[p]=bb at gb
 have bm:bb ∈ as:=List.mem_of_getElem? gb;refine .inl ⟨a,as.map .ref,ia, .ref bb,rfl,p2.int,SqL.of r2.rows.top,?_,?_⟩
 . unfold atI;rw [List.length_map,r.rows.len,hp1];show (as.map V.ref)[p]? = _;rw [List.getElem?_map,gb];rfl
 refine hB HB σ ρ H2 J2 x2.s1 e2 _ hib _ fun wb H3 J3 x3 p3=> ?_;have r3:=r2.ext x3;obtain ⟨vs,g1,g2⟩:=r3.rows.row p bb rr gb hrr;have bn:=r3.rows.new bb (by simp [bm]);refine ⟨bb,vs,ib,q,rfl,p3.int,g1,by rw [g2.length];exact hq,?_⟩;exact d σ H3 _ ((((x.chain x1).chain x2).chain x3).write bn.1 bn.2 _) ⟨_,a,as,r3.putV gb hrr g1 g2 (Rep.same x3.s0 (Rep.same x2.s0 p1))⟩
end
section
variable {X:Cx} {p pos:Pos} {x y:Str} {e a b:Expr} {f fa fb:En->Option Sl}
theorem ds_setW {K : PySem.W.Frag} (i : Nat) {px ps1 ps2 apos : Pos} (hK : X.K = K) (h : DE X (PinW K i) e f) (ha' : DP X (PinW K i) a fa) (hb' : DP X (PinW K i) b fb)
 (hN:X.N[i]? = some x:=by rfl) (hv:Vis X.env.scope x:=by first | exact Or.inl rfl | exact Or.inr (Or.inl rfl) | exact Or.inr (Or.inr rfl)) (hd:(x==("__debug__" : Str))=false:=by decide) (hcd:(x==("__classdict__" : Str))=false:=by decide)
 (hpl:PlainIx a:=by intro _ _;rfl)
 (ha:∀v,assign (.Subscript (.Subscript (.Name x px) a ps1) b ps2) X.env v=(do
  let ov <-holding [v] (eval (.Subscript (.Name x px) a ps1) X.env)
  let iv <-holding [v,ov] (eval b X.env)
  standAt ps2
  holding [v,ov,iv] (setItem ov iv v)
  release [v,ov,iv] []):=by intro _;rfl)
 (hs:swapsWithSole [.Subscript (.Subscript (.Name x px) a ps1) b ps2] e apos.line X.env=pure false:=by rfl) (hw:swappedStores [.Subscript (.Subscript (.Name x px) a ps1) b ps2] e X.env=pure none:=by rfl) (h1:(assignEach [.Subscript (.Subscript (.Name x px) a ps1) b ps2] X.env).map (·.2) = [assign (.Subscript (.Subscript (.Name x px) a ps1) b ps2) X.env]:=by rfl) :
 DS X (PinW K i) (.Assign [.Subscript (.Subscript (.Name x px) a ps1) b ps2] e apos) (mSetW i fa fb f):=by
 subst hK;obtain ⟨te,e1,e2⟩:=h;obtain ⟨ta,a1,a2⟩:=ha';obtain ⟨tb,b1,b2⟩:=hb';exact ⟨_,ps_asg e1 (pg_sub (pe_ix ix_seq (pe_var hN hv hd hcd) a1 hpl) b1 set_list ha) hs hw h1,rs_setW e2 a2 b2⟩
end
section
variable {K:PySem.W.Frag} {R:Rl} [RelOk K R]
end
section
variable {X:Cx} {R:Rl} [RelOk X.K R] {pos:Pos}
end
end Dm
namespace Dm
open PySem PySem.Spec PyProof.Rows L2 Tf
section
variable {K:PySem.W.Frag}
abbrev Shp:=Hp->Hp->Hp->List Addr->PyData->V->Prop
class ShpOk (S:Shp):Prop where
 stable:∀ {HB H0 H H0' H':Hp} {B:List Addr} {d:PyData} {v:V},Same H0 H0'->(∀b ∈ B,H' b=H b)->(∀b ∈ B,H0' b=none)->S HB H0 H B d v->S HB H0' H' B d v
structure FtS (K:PySem.W.Frag) (S:Shp) (i:Nat) (HB H0 H:Hp) (σ:L2.St) (ρ:En) (B:List Addr) (d:PyData) (v:V):Prop where
 er:ER K HB H0 H σ (ρ.set i none)
 at_:σ[i]? = some (some v)
 in_:ρ[i]? = some (some (.val d))
 new:∀b ∈ B,HB b=none/\H0 b=none/\∃vs,H b=some (.lst vs)
 rep:Rep K (fzH H0 H B) v d
 sh:S HB H0 H B d v
 apart:∀(j:Nat) b ds,j≠i->ρ[j]? = some (some (.own ds))->σ[j]? = some (some (.ref b))->b ∉ B
variable {S:Shp} {i:Nat} {HB H0 H H0' H' S0:Hp} {σ:L2.St} {ρ:En} {B:List Addr} {d:PyData} {v:V}
theorem fz_same(s:Same H0 H0')(h:∀b ∈ B,H' b=H b):Same (fzH H0 H B) (fzH H0' H' B):=fun b u e=>by
 by_cases hb:b ∈ B
 . rw [fz_in hb] at e ⊢
   rw [h b hb];exact e
 . rw [fz_out hb] at e ⊢
   exact s b u e
theorem FtS.s0(r:FtS K S i HB H0 H σ ρ B d v):Same H0 (fzH H0 H B):=fun b u e=>by
 by_cases hb:b ∈ B
 . rw [(r.new b hb).2.1] at e
   cases e
 . rw [fz_out hb];exact e
theorem FtS.ext [ShpOk S] (x:Ext H0 H H0' H') (r:FtS K S i HB H0 H σ ρ B d v):FtS K S i HB H0' H' σ ρ B d v:=by
 have hb:∀b ∈ B,H' b=H b:=fun b hb=>by
  obtain ⟨vs,hv⟩:=(r.new b hb).2.2;rw [x.s _ _ hv,hv]
 have h0:∀b ∈ B,H0' b=none:=fun b hm=>by
  obtain ⟨vs,hv⟩:=(r.new b hm).2.2;exact x.own b _ hv True.intro (r.new b hm).2.1
 refine ⟨r.er.ext x,r.at_,r.in_,fun b hm=> ?_,Rep.same (fz_same x.s0 hb) r.rep,ShpOk.stable x.s0 hb h0 r.sh,r.apart⟩;obtain ⟨vs,hv⟩:=(r.new b hm).2.2;exact ⟨(r.new b hm).1,h0 b hm,vs,x.s _ _ hv⟩
def PinG(K:PySem.W.Frag)(S:Shp)(i:Nat):Rl:=⟨fun HB H0 H σ ρ=>∃B d v,FtS K S i HB H0 H σ ρ B d v,fun k=>k≠i/\(0:Nat)=0⟩
instance relOk_PinG [ShpOk S]:RelOk K (PinG K S i) where
 ext:=fun x ⟨B,d,v,r⟩=>⟨B,d,v,r.ext x⟩
 get:=fun {_ _ _ _ _ k _} ⟨B,d,v,r⟩ hs h=>r.er.get k _ (by rw [set_none_get (Ne.symm hs.1)];exact h)
 set:=fun {HB H0 H H0' H' σ ρ k w s} ⟨B,d,v,r⟩ hs x sb h=>by
  have r':=r.ext x;refine ⟨B,d,v,?_,by rw [List.getElem?_set_ne hs.1];exact r.at_,by rw [List.getElem?_set_ne hs.1];exact r.in_,r'.new,r'.rep,r'.sh,fun j b ds hj h1 h2 hm=> ?_⟩
  . rw [set_comm_ne (Ne.symm hs.1)];exact ER.set r.er x sb h
  . by_cases hk:k=j
    . subst hk;rw [List.getElem?_set_self'] at h1 h2
      cases hq:ρ[k]? with
      | none=>rw [hq] at h1;cases h1
      | some q=>
       rw [hq] at h1
       cases h1
       have hl:k<σ.length:=by
        rw [r.er.len,List.length_set];exact (List.getElem?_eq_some_iff.mp hq).1
       rw [List.getElem?_eq_getElem hl] at h2
       cases h2
       obtain ⟨b',ws,eb,hn,_⟩:=h
       cases eb
       obtain ⟨o,ho⟩:=(r.new b hm).2.2;rw [hn] at ho
       cases ho
    . rw [List.getElem?_set_ne hk] at h1 h2
      exact r.apart j b ds hj h1 h2 hm
 write:=fun {HB H0 H σ ρ k c ds es vs ys} ⟨B,d,v,r⟩ hs h1 h2 h3 h4 h5 h6=>by
  have cn:c ∉ B:=r.apart k c ds hs.1 h1 h2;have un:∀b ∈ B,(upd H c (.lst ys)) b=H b:=fun b hb=>upd_ne fun z=>cn (z ▸ hb);refine ⟨B,d,v,?_,r.at_,by rw [List.getElem?_set_ne hs.1];exact r.in_,fun b hb=> ?_,Rep.same (fz_same (Same.refl _) un) r.rep,ShpOk.stable (Same.refl _) un (fun b hb=>(r.new b hb).2.1) r.sh,fun j b qs hj g1 g2=> ?_⟩
  . rw [set_comm_ne (Ne.symm hs.1)];exact ER.write r.er (by rw [set_none_get (Ne.symm hs.1)];exact h1) h2 h3 h4 h6
  . obtain ⟨q1,q2,q3⟩:=r.new b hb;exact ⟨q1,q2,by rw [un b hb];exact q3⟩
  . by_cases hk:k=j
    . subst hk;exact r.apart k b ds hs.1 h1 g2
    . rw [List.getElem?_set_ne hk] at g1
      exact r.apart j b qs hj g1 g2
 frz:=fun {S0 HB H0 H σ ρ k ds} ⟨B,d,v,r⟩ hs h x=>by
  have hk:(ρ.set i none)[k]? = some (some (.own ds)):=by rw [set_none_get (Ne.symm hs.1)];exact h
  obtain ⟨w,g1,c,ws,ev,q1,q2,q3,q4⟩:=r.er.get k _ hk;subst ev;have cn:c ∉ B:=r.apart k c ds hs.1 h g1;have s0:Same H0 (upd H0 c (.lst ws)):=Same.upd q2 _
  have nz:∀b ∈ B,(upd H0 c (.lst ws)) b=none:=fun b hb=>by
   have bc:b≠c:=fun z=>cn (z ▸ hb);rw [upd_ne bc];exact (r.new b hb).2.1
  refine ⟨upd H0 c (.lst ws),⟨x.s,x.s0.trans s0,fun b u e=> ?_,fun b o hb m h0=> ?_⟩,B,d,v,?_,r.at_,by rw [List.getElem?_set_ne hs.1];exact r.in_,fun b hb=>⟨(r.new b hb).1,nz b hb,(r.new b hb).2.2⟩,Rep.same (fz_same s0 fun _ _=>rfl) r.rep,ShpOk.stable s0 (fun _ _=>rfl) nz r.sh,fun j b qs hj g2 g3=> ?_⟩
  . by_cases hb:b=c
    . subst hb;rw [upd_same] at e;rw [q3];exact e
    . rw [upd_ne hb] at e;exact x.s1 b u e
  . rw [upd_ne (ne_of_none hb q1)];exact x.own b o hb m h0
  . rw [set_comm_ne (Ne.symm hs.1)];exact ER.lent r.er hk g1 q2 q3 q4
  . have hkj : k ≠ j := by
     rintro rfl;rw [List.getElem?_set_self',h] at g2
     cases g2
    rw [List.getElem?_set_ne hkj] at g2
    exact r.apart j b qs hj g2 g3
def ShR(K:PySem.W.Frag):Shp:=fun HB H0 H B d v=>∃a as rs,v = .ref a/\B=a::as/\d = .list (rs.map .list)/\RowsAt K HB H0 H a as rs
instance shpR:ShpOk (ShR K) where
 stable:=fun {HB H0 H H0' H' B d v} s hb h0 ⟨a,as,rs,e1,e2,e3,r⟩=>by
  subst e2
  exact ⟨a,as,rs,e1,rfl,e3,⟨by rw [hb a (by simp)];exact r.top,r.len,r.nd,fun b hm=>⟨(r.new b hm).1,h0 b hm⟩,fun j b ds g1 g2=>by
   obtain ⟨vs,q1,q2⟩:=r.row j b ds g1 g2;exact ⟨vs,by rw [hb b (by simp [List.mem_of_getElem? g1])];exact q1,Reps.same s q2⟩⟩⟩
structure CubeAt (K:PySem.W.Frag) (HB H0 H:Hp) (a:Addr) (ps:List (Addr×List Addr)) (cs:List (List (List PyData))):Prop where
 top:H a=some (.lst (ps.map fun p=> .ref p.1))
 newA:HB a=none/\H0 a=none
 len:ps.length=cs.length
 sq:∀(k:Nat) p c,ps[k]? = some p->cs[k]? = some c->RowsAt K HB H0 H p.1 p.2 c
 aout:∀p ∈ ps,a ∉ p.1::p.2
 dis:∀(k k':Nat) p p',k≠k'->ps[k]? = some p->ps[k']? = some p'->∀b ∈ p.1::p.2,b ∉ p'.1::p'.2
def foot(a:Addr)(ps:List (Addr×List Addr)):List Addr:=a::ps.flatMap fun p=>p.1::p.2
def cubeD(cs:List (List (List PyData))):PyData:= .list (cs.map fun c=> .list (c.map .list))
variable {a:Addr} {ps:List (Addr×List Addr)} {cs:List (List (List PyData))}
theorem mem_foot{b:Addr}:b ∈ foot a ps↔b=a\/∃(k:Nat) (p:Addr×List Addr),ps[k]? = some p/\b ∈ p.1::p.2:=by
 unfold foot;rw [List.mem_cons,List.mem_flatMap]
 constructor
 . rintro (h | ⟨p,hp,hb⟩)
   . exact .inl h
   . obtain ⟨k,hk,rfl⟩:=List.mem_iff_getElem.mp hp;exact .inr ⟨k,_,List.getElem?_eq_getElem hk,hb⟩
 . rintro (h | ⟨k,p,hp,hb⟩)
   . exact .inl h
   . exact .inr ⟨p,List.mem_of_getElem? hp,hb⟩
theorem CubeAt.cell(r:CubeAt K HB H0 H a ps cs){k:Nat}{p:Addr×List Addr}(hp:ps[k]? = some p):∃c,cs[k]? = some c/\RowsAt K HB H0 H p.1 p.2 c:=by
 have hk:k<cs.length:=by rw [<-r.len];exact (List.getElem?_eq_some_iff.mp hp).1
 exact ⟨_,List.getElem?_eq_getElem hk,r.sq k p _ hp (List.getElem?_eq_getElem hk)⟩
theorem CubeAt.new(r:CubeAt K HB H0 H a ps cs):∀b ∈ foot a ps,HB b=none/\H0 b=none/\∃vs,H b=some (.lst vs):=fun b hb=>by
 rcases mem_foot.mp hb with rfl | ⟨k,p,hp,hb⟩
 . exact ⟨r.newA.1,r.newA.2,_,r.top⟩
 . obtain ⟨c,_,R⟩:=r.cell hp;exact ⟨(R.new b hb).1,(R.new b hb).2,R.live b hb⟩
theorem RowsAt.off{as:List Addr}{rs:List (List PyData)}(s:Same H0 H0')(hb:∀b ∈ a::as,H' b=H b)(h0:∀b ∈ a::as,H0' b=none)(r:RowsAt K HB H0 H a as rs):RowsAt K HB H0' H' a as rs:=
 ⟨by rw [hb a (by simp)]; exact r.top, r.len, r.nd, fun b hm => ⟨(r.new b hm).1, h0 b hm⟩, fun j b ds g1 g2 => by
     obtain ⟨vs,q1,q2⟩:=r.row j b ds g1 g2;exact ⟨vs,by rw [hb b (by simp [List.mem_of_getElem? g1])];exact q1,Reps.same s q2⟩⟩
theorem CubeAt.off(s:Same H0 H0')(hb:∀b ∈ foot a ps,H' b=H b)(h0:∀b ∈ foot a ps,H0' b=none)(r:CubeAt K HB H0 H a ps cs):CubeAt K HB H0' H' a ps cs:=
 ⟨by rw [hb a (by simp [foot])];exact r.top,⟨r.newA.1,h0 a (by simp [foot])⟩,r.len,fun k p c h1 h2=>(r.sq k p c h1 h2).off s (fun b hm=>hb b (mem_foot.mpr (.inr ⟨k,p,h1,hm⟩))) (fun b hm=>h0 b (mem_foot.mpr (.inr ⟨k,p,h1,hm⟩))),r.aout,r.dis⟩
theorem CubeAt.rep(r:CubeAt K HB H0 H a ps cs):Rep K (fzH H0 H (foot a ps)) (.ref a) (cubeD cs):=by
 refine .list (SqL.of (by rw [fz_in (by simp [foot])];exact r.top)) ?_
 have one:∀(k:Nat) p c,ps[k]? = some p->cs[k]? = some c->Rep K (fzH H0 H (foot a ps)) (.ref p.1) (.list (c.map .list)):=fun k p c h1 h2=>by
  refine Rep.same (fun b u e=> ?_) (r.sq k p c h1 h2).rep
  by_cases hm:b ∈ p.1::p.2
  . rw [fz_in hm] at e
    rw [fz_in (mem_foot.mpr (.inr ⟨k,p,h1,hm⟩))];exact e
  . rw [fz_out hm] at e
    rw [fz_out fun hf=>by rw [(r.new b hf).2.1] at e;cases e];exact e
 have gen:∀(qs:List (Addr×List Addr)) (es:List (List (List PyData))),qs.length=es.length->(∀(k:Nat) p c,qs[k]? = some p->es[k]? = some c->Rep K (fzH H0 H (foot a ps)) (.ref p.1) (.list (c.map .list)))->Reps K (fzH H0 H (foot a ps)) (qs.map fun p=> .ref p.1) (es.map fun c=> .list (c.map .list)):=by
  intro qs
  induction qs with
  | nil=>intro es hl _;cases es with
   | nil=>exact .nil
   | cons _ _=>cases hl
  | cons q qs ih=>
   intro es hl hh
   cases es with
   | nil=>cases hl
   | cons c es=>exact .cons (hh 0 q c rfl rfl) (ih es (by simpa using hl) fun k p c h1 h2=>hh (k+1) p c (by simpa using h1) (by simpa using h2))
 exact gen ps cs r.len one
def ShC(K:PySem.W.Frag):Shp:=fun HB H0 H B d v=>∃a ps cs,v = .ref a/\B=foot a ps/\d=cubeD cs/\CubeAt K HB H0 H a ps cs
instance shpC:ShpOk (ShC K) where
 stable:=fun {HB H0 H H0' H' B d v} s hb h0 ⟨a,ps,cs,e1,e2,e3,r⟩=>by
  subst e2;exact ⟨a,ps,cs,e1,rfl,e3,r.off s hb h0⟩
end
end Dm
namespace Dm
open PySem PySem.Spec PyProof.Rows L2 Tf
section
variable {K:PySem.W.Frag} {S:Shp} {i:Nat} {HB H0 H H0' H' S0:Hp} {σ:L2.St} {ρ:En} {B:List Addr} {d:PyData} {v:V} {a:Addr} {ps:List (Addr×List Addr)} {cs:List (List (List PyData))}
theorem RowsAt.turn0{as:List Addr}{b:Addr}{r0:List PyData}{rs:List (List PyData)}{vs:List V}(R:RowsAt K HB H0 H a (b::as) (r0::rs))(hv:H b=some (.lst vs))(hr:Reps K H0 vs r0):RowsAt K HB H0 (upd H b (.lst (vs ++ [.non]))) a (b::as) ((r0 ++ [.none])::rs):=by
 have ab:a≠b:=fun z=>(List.nodup_cons.mp R.nd).1 (by rw [z];simp);have nd:=(List.nodup_cons.mp (List.nodup_cons.mp R.nd).2).1;refine ⟨by rw [upd_ne ab];exact R.top,by simpa using R.len,R.nd,R.new,fun j c ds h1 h2=> ?_⟩
 cases j with
 | zero=>
  cases h1
  cases h2
  exact ⟨vs ++ [.non],upd_same,Tf.Reps.snoc hr .none⟩
 | succ j=>
  obtain ⟨ws,q1,q2⟩:=R.row (j+1) c ds h1 (by simpa using h2);have cb:c≠b:=fun z=>nd (by rw [<-z];exact List.mem_of_getElem? (by simpa using h1));exact ⟨ws,by rw [upd_ne cb];exact q1,q2⟩
theorem CubeAt.turn(R:CubeAt K HB H0 H a ps cs){k:Nat}{s b:Addr}{bs:List Addr}{r0:List PyData}{rest:List (List PyData)}{vs:List V}(hp:ps[k]? = some (s,b::bs))(hc:cs[k]? = some (r0::rest))(hv:H b=some (.lst vs))(hr:Reps K H0 vs r0):CubeAt K HB H0 (upd H b (.lst (vs ++ [.non]))) a ps (cs.set k ((r0 ++ [.none])::rest)):=by
 have ab:a≠b:=fun z=>R.aout _ (List.mem_of_getElem? hp) (by rw [z];simp);refine ⟨by rw [upd_ne ab];exact R.top,R.newA,by rw [List.length_set];exact R.len,fun j p c h1 h2=> ?_,R.aout,R.dis⟩
 by_cases hj:k=j
 . subst hj;rw [hp] at h1
   cases h1
   rw [List.getElem?_set_self' ,hc] at h2
   cases h2
   exact (R.sq k _ _ hp hc).turn0 hv hr
 . rw [List.getElem?_set_ne hj] at h2
   refine (R.sq j p c h1 h2).off (Same.refl _) (fun x hx=> ?_) fun x hx=>((R.sq j p c h1 h2).new x hx).2;rw [upd_ne];rintro rfl;exact R.dis j k p _ (Ne.symm hj) h1 hp x hx (by simp)
structure CubesIn (K:PySem.W.Frag) (HB H0 H:Hp) (ps:List (Addr×List Addr)) (cs:List (List (List PyData))):Prop where
 len:ps.length=cs.length
 sq:∀(k:Nat) p c,ps[k]? = some p->cs[k]? = some c->RowsAt K HB H0 H p.1 p.2 c
 dis:∀(k k':Nat) p p',k≠k'->ps[k]? = some p->ps[k']? = some p'->∀b ∈ p.1::p.2,b ∉ p'.1::p'.2
theorem CubesIn.live(r:CubesIn K HB H0 H ps cs){p:Addr×List Addr}(hp:p ∈ ps):∀b ∈ p.1::p.2,∃vs,H b=some (.lst vs):=fun b hb=>by
 obtain ⟨k,hk,rfl⟩:=List.mem_iff_getElem.mp hp;have hk':k<cs.length:=by rw [<-r.len];exact hk
 exact (r.sq k _ _ (List.getElem?_eq_getElem hk) (List.getElem?_eq_getElem hk')).live b hb
theorem CubesIn.ext(x:Ext H0 H H0' H')(r:CubesIn K HB H0 H ps cs):CubesIn K HB H0' H' ps cs:=⟨r.len,fun k p c h1 h2=>(r.sq k p c h1 h2).ext x,r.dis⟩
theorem CubesIn.snoc(r:CubesIn K HB H0 H ps cs){p:Addr×List Addr}{c:List (List PyData)}(R:RowsAt K HB H0 H p.1 p.2 c)(hn:∀q ∈ ps,∀b ∈ q.1::q.2,b ∉ p.1::p.2):CubesIn K HB H0 H (ps ++ [p]) (cs ++ [c]):=by
 have f:∀(k:Nat) q,(ps ++ [p])[k]? = some q->(k<ps.length/\ps[k]? = some q)\/(k=ps.length/\q=p):=fun k q h=>by
  by_cases hk:k<ps.length
  . rw [List.getElem?_append_left hk] at h
    exact .inl ⟨hk,h⟩
  . rw [List.getElem?_append_right (by omega)] at h
    have:=(List.getElem?_eq_some_iff.mp h).1;simp at this
    have e:k=ps.length:=by omega
    subst e;rw [Nat.sub_self] at h
    cases h
    exact .inr ⟨rfl,rfl⟩
 refine ⟨by simp [r.len],fun k q e h1 h2=> ?_,fun k k' q q' hk h1 h2 b hb=> ?_⟩
 . rcases f k q h1 with ⟨g1,g2⟩ | ⟨rfl,rfl⟩
   . rw [List.getElem?_append_left (by rw [<-r.len];exact g1)] at h2
     exact r.sq k q e g2 h2
   . rw [List.getElem?_append_right (by rw [r.len];exact Nat.le_refl _),r.len,Nat.sub_self] at h2
     cases h2
     exact R
 . rcases f k q h1 with ⟨g1,g2⟩ | ⟨rfl,rfl⟩
   . rcases f k' q' h2 with ⟨g3,g4⟩ | ⟨rfl,rfl⟩
     . exact r.dis k k' q q' hk g2 g4 b hb
     . exact hn q (List.mem_of_getElem? g2) b hb
   . rcases f k' q' h2 with ⟨g3,g4⟩ | ⟨rfl,rfl⟩
     . exact fun z=>hn q' (List.mem_of_getElem? g4) b z hb
     . exact absurd rfl hk
def CubeH(K:PySem.W.Frag)(HB H0 H:Hp)(v:V)(cs:List (List (List PyData))):Prop:=∃a ps,v = .ref a/\CubeAt K HB H0 H a ps cs
theorem CubeH.base{HB':Hp}(s:Same HB HB')(r:CubeH K HB' H0 H v cs):CubeH K HB H0 H v cs:=by
 obtain ⟨a,ps,e,r⟩:=r;exact ⟨a,ps,e,⟨r.top,⟨s.free r.newA.1,r.newA.2⟩,r.len,fun k p c h1 h2=>(r.sq k p c h1 h2).base s,r.aout,r.dis⟩⟩
end
end Dm
namespace Dm
open PySem PySem.Spec PyProof.Rows L2 Tf
section
variable {K:PySem.W.Frag}
end
section
variable {X:Cx} {c e:Expr} {pos p pos':Pos} {f fe:En->Option Sl} {fs fi:En->Option (List PyData)} {tg:Expr} {x y:Str} {fg:PyData->En->Option En} {ft:En->Option Bool} {st:Stmt} {sts A:List Stmt} {g gf:En->Option Out} {fw:En->Option (List (List PyData))} {fc:En->Option (List (List (List PyData)))}
end
end Dm
namespace Dm
open PySem PySem.Spec PyProof.Rows L2 Tf
section
variable {X:Cx} {R':Rl} [RelOk X.K R'] {pos:Pos} {fe:En->Option Sl} {fi:En->Option (List PyData)} {tg:Expr} {y:Str} {fg:PyData->En->Option En} {ft:En->Option Bool} {sts:List Stmt} {gw:En->Option (List (List PyData))} {osc sc:Scope} {N':List Str} {ifs:List Expr} {elt iter:Expr}
theorem dsw_rowsC {K : PySem.W.Frag} {N : List Str} (hK : X.K = K) (ho : X.env.scope = osc) (hN : X.N = N) (i : Nat) (ix : List (Option Nat)) (sb : En -> En) (hx : ∀ (HB : Hp) (σ : L2.St) (ρ : En) (H0 H : Hp), (PR K).r HB H0 H σ ρ -> R'.r (fun _ => none) H0 H (subS ix σ) (sb ρ)) {py spos : Pos} (hnd : X.N.Nodup) (hi : DI X (PR K) tg iter fi) (hg : ∀ b : CB, DGk (cxC X osc sc N' b) R' (slotS ix) tg fg) (ht : ∀ b : CB, DTs (cxC X osc sc N' b) R' ifs ft) (he : ∀ b : CB, DE (cxC X osc sc N' b) R' elt fe) (kk : DWW X i sts gw)
 (hi':X.N[i]? = some y:=by rfl) (hy:X.env.scope.names.lookup y=some .local:=by rfl) (hsw:swapsWith (.ListComp elt [⟨tg,iter,ifs,0⟩] sc pos) (some (.Name y py)) spos.line X.env=pure true:=by rfl)
 (hcs:csOk osc sc N N' ix=true:=by decide +kernel) (hc:X.calm=true:=by rfl)
 (hs:∀x,foldedSetIterable iter X.env x=pure x:=by intro _;rfl):DSW X (PR K) (.Assign [.Name y py] (.ListComp elt [⟨tg,iter,ifs,0⟩] sc pos) spos::sts) (mRowsInW i (mLCW sb fi fg ft fe) gw):=by
 subst hK;obtain ⟨wi,h1,h2⟩:=hi;obtain ⟨u,h3,h4⟩:=kk
 exact ⟨_,pss_cons (ps_setC (g:=fun b=>(hg b).choose) (tt:=fun b=>(ht b).choose) (te:=fun b=>(he b).choose) hnd hi' hy hsw hc ho hN hcs h1 (fun b=>⟨(hg b).choose_spec.1,(ht b).choose_spec.1,(he b).choose_spec.1⟩) (fun b=>(hg b).choose_spec.2.2.gk) hs) h3,
  rsw_rows (re_lcW hx h2 (fun b=>(hg b).choose_spec.2.1) (fun b=>(ht b).choose_spec.2) (fun b=>(he b).choose_spec.2)) h4⟩
end
end Dm
namespace HT
open PySem PySem.Spec PyProof.Rows L2
theorem ndN(a b:Nat):(!decide (a<b))=decide (b<=a):=by
 by_cases h:a<b
 . rw [decide_eq_true h,decide_eq_false (by omega)];rfl
 . rw [decide_eq_false h,decide_eq_true (by omega)];rfl
theorem ndI(a b:Int):(!decide (a<b))=decide (b<=a):=by
 by_cases h:a<b
 . rw [decide_eq_true h,decide_eq_false (by omega)];rfl
 . rw [decide_eq_false h,decide_eq_true (by omega)];rfl
theorem rcGe_int (A : Around) (s : Shared) (a : Int) (t : Tok) (c : Int) (u : Tok) (prog : Program) (w : World) (E : Value -> Shared -> Prop) (Q : Value -> Shared -> Prop) (h : Q (.bool (decide (c <= a))) s) :
 wpAny (model prog w) A (richCompare .GtE (.int a t) (.int c u)) Q E s:=
 (PyProof.Rows.ge_int h:wpAny (model prog w) A (compareOp .GtE (.int a t) (.int c u)) Q E s)
section
open PySem.SeqAt
open PySem.AutoSeq1 (wpAny_loadPart')
open PySem.MeetsSeq PySem.MeetsSeq2 PySem.MeetsSeq3
theorem tuple_ge_ints (l b : Addr) (items items2 : Array Value) (n n2 : Nat) (dd dd2 : Option Addr) (sl sl2 : Array (Option Value)) (ns ms : List Int) (hi : IntsAre items.toList ns) (hj : IntsAre items2.toList ms) :
 Meets (Builtin.«tuple.__ge__» ⟨[.ref l, .ref b], []⟩)
  (fun _ R s=>s.heap.get? l=some {cls:= .type "tuple",dict:=dd,data:= .seq items n,slots:=sl}/\s.heap.get? b=some {cls:= .type "tuple",dict:=dd2,data:= .seq items2 n2,slots:=sl2} /\
   R (.ok (.ret (.bool (!lexLt ns ms)))) s) :=
 .of_wp fun prog w A R s h=>by
  obtain ⟨hp,g,d,tk,os⟩:=s;obtain ⟨hl,hb,h⟩:=h;have f2:=AutoSeq1.sub_tuple_tuple;have z1:items.size=ns.length:=by rw [<-hi.length];simp
  have z2:items2.size=ms.length:=by rw [<-hj.length];simp
  wp_walk using wpAny_loadPart' hl,wpAny_loadPart' hb,wpAny_forIn_list _ (fun rest b s'=>b.1=none/\s'=⟨hp,g,d,tk,os⟩/\∃(vs ws:List Value) (ns' ms':List Int),rest=vs.zip ws /\
   IntsAre vs ns'/\IntsAre ws ms'/\ns'.length+items2.size=ms'.length+items.size/\R (.ok (.ret (.bool (!lexLt ns' ms')))) ⟨hp,g,d,tk,os⟩) _
  case turn=>
   rintro ⟨y,x⟩ rest b s' ⟨hb',rfl,vs,ws,ns',ms',hz,hvi,hwi,hlen,hR⟩
   cases hvi with
   | nil=>rw [List.zip_nil_left] at hz;cases hz
   | cons a t hvi' =>
    cases hwi with
    | nil=>rw [List.zip_nil_right] at hz;cases hz
    | cons c u hwi' =>
     rw [List.zip_cons_cons] at hz
     injection hz with hyx hrest
     injection hyx with hy hx
     subst hy hx;rw [lexLt_cons] at hR
     simp only [List.length_cons] at hlen
     obtain ⟨e,he,hiff⟩:=eqAt_int A.in1 ⟨hp,g,d,tk,os⟩ a t c u;refine wpAny_bind (he prog w _ _ ?_)
     cases e with
     | true=>
      rw [if_pos (hiff.mp rfl)] at hR
      wp_walk
      exact ⟨rfl,rfl,_,_,_,_,hrest,hvi',hwi',by omega,hR⟩
     | false=>
      rw [if_neg (fun q=>absurd (hiff.mpr q) Bool.false_ne_true),ndI] at hR
      have hri:=rcGe_int A.in1 ⟨hp,g,d,tk,os⟩ a t c u prog w
      wp_walk using hri
      exact ⟨_,rfl,by simpa using hR⟩
  case fin=>
   rintro ⟨b1,b2⟩ s' ⟨hb',rfl,vs,ws,ns',ms',hz,hvi,hwi,hlen,hR⟩;simp only at hb'
   subst hb'
   have hv:lexLt ns' ms'=decide (items.size<items2.size):=by
    cases hvi with
    | nil=>
     cases hwi with
     | nil=>
      simp only [List.length_nil] at hlen
      rw [lexLt_nil_nil]
      exact (decide_eq_false (by omega)).symm
     | cons c u hw=>
      simp only [List.length_nil,List.length_cons] at hlen
      rw [lexLt_nil_cons]
      exact (decide_eq_true (by omega)).symm
    | cons a t hv=>
     cases hwi with
     | nil=>
      simp only [List.length_nil,List.length_cons] at hlen
      rw [lexLt_cons_nil]
      exact (decide_eq_false (by omega)).symm
     | cons c u hw=>
      rw [List.zip_cons_cons] at hz
      cases hz
   rw [hv,ndN] at hR
   wp_walk
   exact ⟨_,rfl,by simpa [Builtin.Tuple.tupleCompareSizes] using hR⟩
  case h=>
   exact ⟨rfl,rfl,items.toList,items2.toList,ns,ms,rfl,hi,hj,by omega,h⟩
end
section
variable {prog:Program} {w:World} {A:Around} {E:Value->Shared->Prop} {s:Shared}
theorem ge_tupInts {l b : Addr} {items items2 : Array Value} {ns ms : List Int} {Q : Value -> Shared -> Prop} (hl : IsTup s.heap l items) (hb : IsTup s.heap b items2) (hi : IntsAre items.toList ns) (hj : IntsAre items2.toList ms)
 (hu:A.units<cLine) (h:Q (.bool (!lexLt ns ms)) s):wpAny (model prog w) A (compareOp .GtE (.ref l) (.ref b)) Q E s:=by
 obtain ⟨⟨cls,dd,data,sl⟩,ho,hc,n,hd⟩:=id hl;obtain ⟨⟨cls2,dd2,data2,sl2⟩,ho2,hc2,n2,hd2⟩:=id hb;simp only at hc hd hc2 hd2
 subst hc hd hc2 hd2
 exact richCompare_meets_room (op:= .GtE) ⟨_,ho,rfl⟩ ⟨_,ho2,rfl⟩ PySem.F.slot_tuple_ge PySem.F.entry_tuple_ge (PySem.F.args_tuple_ge_2 _ _) (tuple_ge_ints l b items items2 n n2 dd dd2 sl sl2 ns ms hi hj)
  ⟨ho,ho2,show Value.bool (!lexLt ns ms)≠Value.notImplemented/\Q (.bool (!lexLt ns ms)) s from ⟨(fun x=>nomatch x),h⟩⟩ hu
end
end HT
namespace Tf
open PySem PySem.Spec PyProof.Rows L2
variable {X:Cx}
def rGeT(K:PySem.W.Frag):R2:=fun x y H Q=>∃a b ns ms,x = .ref a/\y = .ref b/\SqT K H a (ns.map V.int)/\SqT K H b (ms.map V.int)/\Q (.bl (!HT.lexLt ns ms)) H
theorem op_geT(hu:X.A.units<cLine):OpR X (compareOp .GtE) (rGeT X.K):=by
 intro pins s σ H x y v u Q I rx ry h;obtain ⟨a,b,ns,ms,rfl,rfl,ha,hb,q⟩:=h
 cases rx
 cases ry
 obtain ⟨its,r1,p1,_⟩:=I.tuple ha;obtain ⟨its2,r2,p2,_⟩:=I.tuple hb;have i1:IntsAre its.toArray.toList ns:=intsAre_of r1;have i2:IntsAre its2.toArray.toList ms:=intsAre_of r2;exact HT.ge_tupInts p1 p2 i1 i2 hu ⟨.bl (!HT.lexLt ns ms),H,I,rfl,q⟩
end Tf
namespace Tf
open PySem PySem.Spec PyProof.Rows L2
section
variable {X:Cx}
def rCount(K:PySem.W.Frag):V->List V->Hp->VK->Prop:=fun x vs H Q=>∃(l:Addr) (ns:List Int) (k:Int),x = .ref l/\vs = [.int k]/\SqL K H l (ns.map V.int)/\Q (.int ((ns.count k:Nat):Int)) H
theorem mt_count:MtM X "list.count" (rCount X.K):=by
 intro pins s σ H x vs v us Q I rx rv h;obtain ⟨l,ns,k,rfl,rfl,hH,q⟩:=h
 cases rx
 obtain ⟨u,rfl,ru⟩:=rv.one;obtain ⟨t,rfl⟩:=ru;obtain ⟨its,r,p1,hz⟩:=I.list hH;exact count_list_ints p1.isList (ints_of_vals r) ⟨.int ((ns.count k:Nat):Int),H,I.tok _,⟨_,rfl⟩,q⟩
end
end Tf
namespace Dm
open PySem PySem.Spec PyProof.Rows L2 Tf
def dGeT(a b:Sl):Option Sl:=match a.dat,b.dat with
 | .tuple ds, .tuple es=>(intsOf ds).bind fun ns=>(intsOf es).map fun ms=> .val (.bool (!HT.lexLt ns ms))
 | _,_=>none
def dCnt(a b:Sl):Option Sl:=match a.dat,b with
 | .list ds, .val (.int k)=>(intsOf ds).map fun ns=> .val (.int ((ns.count k:Nat):Int))
 | _,_=>none
section
variable {K:PySem.W.Frag} {R:Rl} [RelOk K R]
theorem opd_geT:OpD K (rGeT K) dGeT:=fun H0 H x y sx sy z s px py hz Q q=>by
 unfold dGeT at hz
 split at hz
 . rename_i ds es h1 h2;obtain ⟨ns,hn,hz⟩:=Option.bind_eq_some_iff.mp hz;obtain ⟨ms,hm,rfl⟩:=Option.map_eq_some_iff.mp hz;obtain ⟨a,vs,rfl,p1,p2⟩:=px.tup h1;obtain ⟨b,ws,rfl,q1,q2⟩:=py.tup h2;rw [intsOf_eq hn] at p2
   rw [intsOf_eq hm] at q2
   cases reps_ints p2
   cases reps_ints q2
   exact ⟨a,b,ns,ms,rfl,rfl,s.seqT (SqT.of p1),s.seqT (SqT.of q1),q _ _ _ (Ext.refl s) (.bool _)⟩
 . cases hz
theorem re_count{ta tb:TE}{fa fb:En->Option Sl}(ha:RP K R ta fa)(hb:RP K R tb fb):RE K R (tBM K "list" (rCount K) ta (tCons tb tNil)) (mBin dCnt fa fb):=fun HB σ ρ H0 H s e z hz Q q=>by
 obtain ⟨x,hx,hz⟩:=Option.bind_eq_some_iff.mp hz;obtain ⟨y,hy,hz⟩:=Option.bind_eq_some_iff.mp hz;unfold dCnt at hz
 split at hz
 . rename_i ds k hd;obtain ⟨ns,hn,rfl⟩:=Option.map_eq_some_iff.mp hz;refine ha HB σ ρ H0 H s e x hx _ fun v H1 J1 x1 p1=> ?_;obtain ⟨a,vs,rfl,h1,h2⟩:=p1.lst x1.s1 hd;refine ⟨.inl ⟨rfl,_,h1⟩,?_⟩;refine hb HB σ ρ H1 J1 x1.s1 (e.ext (K:=K) x1) _ hy _ fun u H2 J2 x2 p2=> ?_;rw [intsOf_eq hn] at h2
   cases reps_ints h2
   cases p2.int
   exact ⟨a,ns,k,rfl,rfl,x2.s.seq h1,q _ _ _ (x1.trans x2) (.int _)⟩
 . cases hz
end
section
variable {X:Cx} {R:Rl} [RelOk X.K R] {a b:Expr} {fa fb:En->Option Sl} {pos apos cpos:Pos}
theorem dt_geT(hu:X.A.units+64<cLine)(ha:DP X R a fa)(hb:DP X R b fb):DT X R (.Compare a [.GtE] [b] pos) (mTest (mBin dGeT fa fb)):=dt_cmp (op_geT (Nat.lt_of_le_of_lt (Nat.le_add_right _ _) hu)) opd_geT ha hb (nomark _)
theorem de_count (ha : DP X R a fa) (hb : DP X R b fb) (hbase : attributeBase a "count" X.env (eval a X.env) = eval a X.env := by rfl)
 (hst:starEach [b] X.env=(false,eval b X.env)::starEach [] X.env:=by rfl)
 (hfew:((backTo cpos (starEach [b] X.env)).all (fun x=> !x.1) && (backToKw cpos (keywordEach [] X.env)).all (fun x=>x.1.isSome) && decide ([b].length+([]:List Keyword).length+(if ([]:List Keyword).isEmpty then 0 else 1)<30))=true:=by rfl)
 (hline:(apos.endLine==cpos.line)=true:=by rfl) (hplain:(backTo cpos (starEach [] X.env)).any (·.1)=false:=by rfl) :
 DE X R (.Call (.Attribute a "count" apos) [b] [] cpos) (mBin dCnt fa fb):=by
 obtain ⟨t,h1,h2⟩:=ha;obtain ⟨u,h3,h4⟩:=hb;exact ⟨_,pe_bm PySem.F.plainAttrs_list PySem.F.slot_list_count PySem.F.type_list_count mt_count h1 (pa_cons h3 pa_nil hst) hbase hfew hline hst hplain,re_count h2 h4⟩
end
end Dm
namespace Dm
open PySem PySem.Spec PyProof.Rows L2 Tf
def mPopTop(i:Nat)(fa:En->Option Sl):En->Option Out:=fun ρ=>((fa ρ).bind intS).bind fun k=>match (ρ[i]?).join with
 | some (.own ds)=>(rowsOf ds).bind fun rs=>if 0<=k/\k<rs.length/\rs.length<=sizeLine then some (.nx (ρ.set i (some (.own ((rs.eraseIdx k.toNat).map .list))))) else none
 | _=>none
def mPopRow(i:Nat)(fa fb:En->Option Sl):En->Option Out:=fun ρ=>((fa ρ).bind intS).bind fun ia=>((fb ρ).bind intS).bind fun k=>match (ρ[i]?).join with
 | some (.own ds)=>(rowsOf ds).bind fun rs=>(ixN rs.length ia).bind fun p=>(rs[p]?).bind fun r=>if 0<=k/\k<r.length/\r.length<=sizeLine then some (.nx (ρ.set i (some (.own ((rs.set p (r.eraseIdx k.toNat)).map .list))))) else none
 | _=>none
section
variable {K:PySem.W.Frag}
theorem seqIx_nat{k:Int}{n:Nat}(h0:0<=k)(h1:k<n):seqIndex? k n=some k.toNat:=by
 unfold seqIndex?;simp;omega
theorem map_erase{α β:Type}(f:α->β):∀(l:List α) (k:Nat),(l.map f).eraseIdx k=(l.eraseIdx k).map f
 | [],_=>rfl
 | _::_,0=>rfl
 | a::l,k+1=>congrArg (f a :: ·) (map_erase f l k)
theorem nd_erase{α:Type}{l:List α}(h:l.Nodup)(k:Nat):(l.eraseIdx k).Nodup:=h.sublist (List.eraseIdx_sublist ..)
theorem RwS.drop {i p : Nat} {rs : List (List PyData)} {HB H0 H : Hp} {σ : L2.St} {ρ : En} {a : Addr} {as : List Addr} (R : RwS K i rs HB H0 H σ ρ a as) :
 RwS K i (rs.eraseIdx p) HB H0 (upd H a (.lst ((as.map .ref).eraseIdx p))) σ (ρ.set i (some (.own ((rs.eraseIdx p).map .list)))) a (as.eraseIdx p):=by
 have iL:i<ρ.length:=(List.getElem?_eq_some_iff.mp R.in_).1;have nd:=List.nodup_cons.mp R.rows.nd;have sub:∀c,c ∈ as.eraseIdx p->c ∈ as:=fun c hc=>(List.eraseIdx_sublist ..).subset hc;refine ⟨?_,R.at_,by rw [List.getElem?_set_self iL],?_,fun j c ds hj h1 h2=> ?_⟩
 . rw [List.set_set];refine ⟨R.er.len,fun j s hs=> ?_,R.er.apart⟩
   have hij:i≠j:=by
    rintro rfl;rw [List.getElem?_set_self'] at hs
    cases hq:ρ[i]? with
    | none=>rw [hq] at hs;cases hs
    | some q=>rw [hq] at hs;cases hs
   obtain ⟨v,g1,g2⟩:=R.er.get j s hs;rw [List.getElem?_set_ne hij] at hs
   refine ⟨v,g1,?_⟩
   cases s with
   | val d=>exact g2
   | own ts=>
    obtain ⟨c,ws,rfl,q1,q2,q3,q4⟩:=g2;refine ⟨c,ws,rfl,q1,q2,?_,q4⟩;rw [upd_ne]
    . exact q3
    . rintro rfl
      exact R.apart j c ts (Ne.symm hij) hs g1 (by simp)
   | dct ts=>
    obtain ⟨c,u,rfl,q1,q2,q3,q4⟩:=g2;refine ⟨c,u,rfl,q1,q2,?_,q4⟩;rw [upd_ne]
    . exact q3
    . rintro rfl;rw [R.rows.top] at q3
      cases q3
 . refine ⟨by rw [upd_same,map_erase],?_,List.nodup_cons.mpr ⟨fun h=>nd.1 (sub a h),nd_erase nd.2 p⟩,fun b hb=>R.rows.new b ?_,fun j c ds h1 h2=> ?_⟩
   . rw [List.length_eraseIdx,List.length_eraseIdx,R.rows.len]
   . rcases List.mem_cons.mp hb with rfl | hb
     . simp
     . exact List.mem_cons_of_mem _ (sub b hb)
   . have ca : c ≠ a := by
      rintro rfl;exact nd.1 (sub c (List.mem_of_getElem? h1))
     rw [List.getElem?_eraseIdx] at h1 h2
     rw [upd_ne ca]
     by_cases hjp:j<p
     . rw [if_pos hjp] at h1 h2
       exact R.rows.row j c ds h1 h2
     . rw [if_neg hjp] at h1 h2
       exact R.rows.row (j+1) c ds h1 h2
 . rw [List.getElem?_set_ne (Ne.symm hj)] at h1
   intro hm;refine R.apart j c ds hj h1 h2 ?_;rcases List.mem_cons.mp hm with rfl | hm
   . simp
   . exact List.mem_cons_of_mem _ (sub c hm)
theorem rs_popTop{i:Nat}{ta:TE}{fa:En->Option Sl}(hA:RP K (PinW K i) ta fa):RS K (PinW K i) (tDrop (tBM K "list" rPopAt (tVar i) (tCons ta tNil))) (mPopTop i fa):=fun HB S0 σ ρ H0 H x e o ho D d=>by
 obtain ⟨rs,a,as,r⟩:=e.r;obtain ⟨k,hk,ho⟩:=Option.bind_eq_some_iff.mp ho;have hk:=bind_int hk;rw [r.in_] at ho
 obtain ⟨rs',hrs,ho⟩:=Option.bind_eq_some_iff.mp (show (rowsOf (rs.map .list)).bind _=some o from ho);rw [rowsOf_map] at hrs
 cases hrs
 split at ho
 . rename_i hc;obtain ⟨k0,k1,kz⟩:=hc
   cases ho
   refine ⟨.ref a,r.at_, .inl ⟨rfl,_,SqL.of r.rows.top⟩,?_⟩;refine hA HB σ ρ H0 H x.s1 e _ hk _ fun wa H1 J1 x1 p1=> ?_;have r1:=r.ext x1;have an:=r1.rows.new a (by simp);have sz:sizeLine<2 ^ 62:=by decide
   have kl:k.toNat<as.length:=by rw [r.rows.len];omega
   cases p1.int
   refine ⟨a,as.map .ref,k,k.toNat, .ref as[k.toNat],rfl,rfl,r1.rows.top,by omega,by omega,seqIx_nat k0 (by rw [List.length_map,r.rows.len];exact k1),by rw [List.getElem?_map,List.getElem?_eq_getElem kl];rfl,?_⟩;exact d σ H1 _ ((x.chain x1).write an.1 an.2 _) ⟨_,a,_,r1.drop⟩
 . cases ho
theorem rs_popRow{i:Nat}{ta tb:TE}{fa fb:En->Option Sl}(hA:RP K (PinW K i) ta fa)(hB:RP K (PinW K i) tb fb):RS K (PinW K i) (tDrop (tBM K "list" rPopAt (tOp (rIx K) (tVar i) ta) (tCons tb tNil))) (mPopRow i fa fb):=fun HB S0 σ ρ H0 H x e o ho D d=>by
 obtain ⟨rs,a,as,r⟩:=e.r;obtain ⟨ia,hia,ho⟩:=Option.bind_eq_some_iff.mp ho;obtain ⟨k,hk,ho⟩:=Option.bind_eq_some_iff.mp ho;have hia:=bind_int hia;have hk:=bind_int hk;rw [r.in_] at ho
 obtain ⟨rs',hrs,hp⟩:=Option.bind_eq_some_iff.mp (show (rowsOf (rs.map .list)).bind _=some o from ho);rw [rowsOf_map] at hrs
 cases hrs
 obtain ⟨p,hp1,hp⟩:=Option.bind_eq_some_iff.mp hp;obtain ⟨rr,hrr,hp⟩:=Option.bind_eq_some_iff.mp hp
 split at hp
 . rename_i hc;obtain ⟨k0,k1,kz⟩:=hc
   cases hp
   refine ⟨.ref a,r.at_,?_⟩;refine hA HB σ ρ H0 H x.s1 e _ hia _ fun wa H2 J2 x2 p2=> ?_;have r2:=r.ext x2;have e2:=e.ext (K:=K) x2;have pl:p<as.length:=by rw [r.rows.len];exact (List.getElem?_eq_some_iff.mp hrr).1
   have gb:as[p]? = some as[p]:=List.getElem?_eq_getElem pl;generalize as[p]=bb at gb
   have bm:bb ∈ as:=List.mem_of_getElem? gb;refine .inl ⟨a,as.map .ref,ia, .ref bb,rfl,p2.int,SqL.of r2.rows.top,?_,?_⟩
   . unfold atI;rw [List.length_map,r.rows.len,hp1];show (as.map V.ref)[p]? = _;rw [List.getElem?_map,gb];rfl
   obtain ⟨vs0,g0,_⟩:=r2.rows.row p bb rr gb hrr;refine ⟨.inl ⟨rfl,_,SqL.of g0⟩,?_⟩;refine hB HB σ ρ H2 J2 x2.s1 e2 _ hk _ fun wb H3 J3 x3 p3=> ?_;have r3:=r2.ext x3;obtain ⟨vs,g1,g2⟩:=r3.rows.row p bb rr gb hrr;have bn:=r3.rows.new bb (by simp [bm]);have sz:sizeLine<2 ^ 62:=by decide
   have vl:=g2.length;have kl:k.toNat<vs.length:=by omega
   cases p3.int
   refine ⟨bb,vs,k,k.toNat,vs[k.toNat],rfl,rfl,g1,by omega,by omega,seqIx_nat k0 (by omega),List.getElem?_eq_getElem kl,?_⟩;exact d σ H3 _ (((x.chain x2).chain x3).write bn.1 bn.2 _) ⟨_,a,as,r3.putG gb (reps_erase k.toNat g2)⟩
 . cases hp
end
section
variable {X:Cx} {p pos:Pos} {x:Str} {a b:Expr} {fa fb:En->Option Sl}
theorem ds_popTop {K : PySem.W.Frag} (i : Nat) {apos cpos : Pos} (hK : X.K = K) (h : DP X (PinW K i) a fa) (hN : X.N[i]? = some x := by rfl) (hv : Vis X.env.scope x := by first | exact Or.inl rfl | exact Or.inr (Or.inl rfl) | exact Or.inr (Or.inr rfl)) (hd : (x == ("__debug__" : Str)) = false := by decide) (hcd : (x == ("__classdict__" : Str)) = false := by decide)
 (hst:starEach [a] X.env=(false,eval a X.env)::starEach [] X.env:=by rfl) (hbase:attributeBase (.Name x p) "pop" X.env (eval (.Name x p) X.env)=eval (.Name x p) X.env:=by rfl)
 (hfew:((backTo cpos (starEach [a] X.env)).all (fun x=> !x.1) && (backToKw cpos (keywordEach [] X.env)).all (fun x=>x.1.isSome) && decide ([a].length+([]:List Keyword).length+(if ([]:List Keyword).isEmpty then 0 else 1)<30))=true:=by rfl)
 (hline:(apos.endLine==cpos.line)=true:=by rfl) (hplain:(backTo cpos (starEach [] X.env)).any (·.1)=false:=by rfl)
 (hs:swapsWith (.Call (.Attribute (.Name x p) "pop" apos) [a] [] cpos) none pos.line X.env=pure false:=by rfl):DS X (PinW K i) (.Expr (.Call (.Attribute (.Name x p) "pop" apos) [a] [] cpos) pos) (mPopTop i fa):=by
 subst hK;obtain ⟨t,h1,h2⟩:=h;exact ⟨_,ps_expr (pe_bm PySem.F.plainAttrs_list PySem.F.slot_list_pop PySem.F.type_list_pop mt_popAt (pe_var hN hv hd hcd) (pa_cons h1 pa_nil hst) hbase hfew hline hst hplain) hs,rs_popTop h2⟩
theorem ds_popRow {K : PySem.W.Frag} (i : Nat) {apos cpos p5 : Pos} (hK : X.K = K) (h : DP X (PinW K i) a fa) (h' : DP X (PinW K i) b fb) (hN : X.N[i]? = some x := by rfl) (hv : Vis X.env.scope x := by first | exact Or.inl rfl | exact Or.inr (Or.inl rfl) | exact Or.inr (Or.inr rfl)) (hd : (x == ("__debug__" : Str)) = false := by decide) (hcd : (x == ("__classdict__" : Str)) = false := by decide)
 (hpx:PlainIx a:=by intro _ _;rfl)
 (hst:starEach [b] X.env=(false,eval b X.env)::starEach [] X.env:=by rfl) (hbase:attributeBase (.Subscript (.Name x p) a p5) "pop" X.env (eval (.Subscript (.Name x p) a p5) X.env)=eval (.Subscript (.Name x p) a p5) X.env:=by rfl)
 (hfew:((backTo cpos (starEach [b] X.env)).all (fun x=> !x.1) && (backToKw cpos (keywordEach [] X.env)).all (fun x=>x.1.isSome) && decide ([b].length+([]:List Keyword).length+(if ([]:List Keyword).isEmpty then 0 else 1)<30))=true:=by rfl)
 (hline:(apos.endLine==cpos.line)=true:=by rfl) (hplain:(backTo cpos (starEach [] X.env)).any (·.1)=false:=by rfl)
 (hs:swapsWith (.Call (.Attribute (.Subscript (.Name x p) a p5) "pop" apos) [b] [] cpos) none pos.line X.env=pure false:=by rfl):DS X (PinW K i) (.Expr (.Call (.Attribute (.Subscript (.Name x p) a p5) "pop" apos) [b] [] cpos) pos) (mPopRow i fa fb):=by
 subst hK;obtain ⟨t,h1,h2⟩:=h;obtain ⟨u,h3,h4⟩:=h';exact ⟨_,ps_expr (pe_bm PySem.F.plainAttrs_list PySem.F.slot_list_pop PySem.F.type_list_pop mt_popAt (pe_ix ix_seq (pe_var hN hv hd hcd) h1 hpx) (pa_cons h3 pa_nil hst) hbase hfew hline hst hplain) hs,rs_popRow h2 h4⟩
end
end Dm
namespace PySem
section
variable {prog:Program} {w:World} {A:Around} {E:Value->Shared->Prop} {s:Shared} {K:Type} [DecidableEq K] {knd:HeapKind prog w K}
theorem sd_heap {d a : Addr} {xs : List (K × Addr × Value)} {k : K} {v : Value} {Q : Value -> Shared -> Prop} (hu : knd.room A) (hkey : knd.is s.heap k a) (hm : s.heap.DictOfH knd d xs)
 (h1:∀p,atKey xs k=some p->Q p.2 {s with toks:=s.toks+knd.draws k})
 (h2:atKey xs k=none->∀h',h'.DictOfH knd d (storedH xs k a v)->Heap.SameBut d s.heap h'->Q v {s with heap:=h',toks:=s.toks+knd.draws k}) (hsz:xs.length<=sizeLine) :
 wpAny (model prog w) A (dictSetDefault d (.ref a) v) Q E s:=by
 obtain ⟨o,es,ep,ho,hc,hd,he,his,hn⟩:=hm;unfold dictSetDefault
 try with_reducible refine wpAny_holding ?_
 refine wpAny_bind (knd.pyHash hu hkey ?_);refine wpAny_bind (wpAny_dictFind_heap (s:={s with toks:=s.toks+knd.draws k}) hu hkey ho hd he his hn ?_ ?_)
 . intro hno;have hnot:k ∉ xs.map (·.1):=not_mem_keys_of_get hno
   refine wpAny_bind (wpAny_rule (wpAny_bind (wpAny_updateDictKeys (hz:=by have e:=size_of_entries he;omega) (s:={s with toks:=s.toks+knd.draws k}) ho hd (wpAny_pure (h2 (atKey_none_of_get hno) _ ⟨_,_,ep+1,Heap.get?_update_self _ ho (Obj.isFreed_of_dict (Obj.data_mapDictKeys hd _)),
    hc.mapDictKeys _,Obj.data_mapDictKeys hd _,?_,?_,?_⟩ (Heap.SameBut.update ..))))))
   . rw [storedH_new (atKey_none_of_get hno)];simp [he,entryOfKey]
   . rw [storedH_new (atKey_none_of_get hno)];intro x hx;rcases List.mem_append.mp hx with hx | hx
     . exact knd.keeps (his x hx) ho hd (Heap.SameBut.update ..)
     . simp only [List.mem_singleton] at hx
       subst hx;exact knd.keeps hkey ho hd (Heap.SameBut.update ..)
   . rw [storedH_new (atKey_none_of_get hno),List.map_append,List.nodup_append];refine ⟨hn,by simp,?_⟩;intro x hx y hy;simp only [List.map_cons,List.map_nil,List.mem_singleton] at hy
     subst hy;exact fun e=>hnot (e ▸ hx)
 . intro j p hj;refine wpAny_bind (wpAny_dictEntries (s:={s with toks:=s.toks+knd.draws k}) ho hd ?_);rw [entry_at he j,hj];exact wpAny_bind (wpAny_rule (wpAny_pure (h1 p (atKey_of_get hn hj))))
theorem sd_call {d a : Addr} {xs : List (K × Addr × Value)} {k : K} {v : Value} {Q : Value -> Shared -> Prop} (hds : (d == sysModules) = false) (hu : knd.room A.in1) (hkey : knd.is s.heap k a) (hm : s.heap.DictOfH knd d xs)
 (h1:∀p,atKey xs k=some p->Q p.2 {s with toks:=s.toks+knd.draws k})
 (h2:atKey xs k=none->∀h',h'.DictOfH knd d (storedH xs k a v)->Heap.SameBut d s.heap h'->Q v {s with heap:=h',toks:=s.toks+knd.draws k}) (hsz:xs.length<=sizeLine) :
 wpAny (model prog w) A (call (.builtin "dict.setdefault") [.ref d, .ref a,v]) Q E s:=by
 refine wpAny_call_entry F.slot_dict_setdefault hm.typeIs F.entry_dict_setdefault ?_ (F.args_dict_setdefault_3 _ _ _);unfold Builtin.«dict.setdefault»;refine wpAny_bind ?_;unfold Builtin.Dict.keyAndDefault;refine wpAny_bind (wpAny_notOrdered_dict hm.typeIs ?_);show wpAny _ _ (pure (d,Value.ref a,some v)) _ _ s;refine wpAny_pure ?_;show wpAny _ _ (if (d==sysModules)=true then _ else (dictSetDefault d (.ref a) v >>= _)) _ _ s;rw [if_neg (by rw [hds];exact Bool.false_ne_true)];exact wpAny_bind (sd_heap hu hkey hm (fun p hp=>wpAny_pure ⟨p.2,rfl,h1 p hp⟩) (fun hn h' hm' hs'=>wpAny_pure ⟨v,rfl,h2 hn h' hm' hs'⟩) hsz)
end
end PySem
namespace Tf
open PySem PySem.Spec PyProof.Rows L2
section
variable {X:Cx} {pins:List (Addr×Obj)} {σ:L2.St} {H:Hp} {s:Shared} {a b:Addr} {kvs:List (List Key×V)} {k:List Key} {z:V} {r:Value} {A:Around} {E:Value->Shared->Prop}
theorem d_sd {Q : Value -> Shared -> Prop} (hu : A.units + 1 < cLine) (I : L2.Inv X pins σ H s) (e : H a = some (.dT kvs)) (eb : H b = some (.tup (k.map kV))) (l : kvs.length < sizeLine) (rz : L2.RelV z r)
 (h1:∀v,valV kvs k=some v->∀w' s',L2.Inv X pins σ H s'->L2.RelV v w'->Q w' s') (h2:valV kvs k=none->∀s',L2.Inv X pins σ (upd H a (.dT (putK kvs k z))) s'->Q r s') :
 wpAny (model X.prog X.w) A (call (.builtin "dict.setdefault") [.ref a, .ref b,r]) Q E s:=by
 obtain ⟨hz0,hd,xs,rel,dd⟩:=dt_of I.hok e;have hz:xs.length<=sizeLine:=by rw [<-Paired.length rel];exact hz0
 have hl:(putK kvs k z).length<=sizeLine:=by have:=length_putK kvs k z;omega
 have hv:=rel.val k;refine sd_call hd (tupleKind_room_in1 hu) (key_of I.hok eb) dd (fun p hp=> ?_) (fun hn h' dd' hs=> ?_) hz
 . cases hvv:valV kvs k with
   | none=>
    rw [hvv] at hv
    have:=RelO.none_of hv;rw [hp] at this
    cases this
   | some v=>
    rw [hvv] at hv
    obtain ⟨w',hw,rw'⟩:=RelO.some_of hv;rw [hp] at hw
    cases hw
    exact h1 v hvv _ _ (I.tok _) rw'
 . have hvn : valV kvs k = none := by
    have:=hv.isSome_eq;rw [hn] at this
    cases hvv:valV kvs k with
    | none=>rfl
    | some v=>rw [hvv] at this;simp at this
   refine h2 hvn _ ?_;obtain ⟨q,es,ep,hq,h2',h3,h4,_,h5⟩:=dd';refine d_write I (by rw [e];exact True.intro) hs ⟨q,hq⟩ ⟨hl,hd,_,(rel.put k eb rz).keeps fun c ys ec=> ?_,q,es,ep,hq,h2',h3,h4,h5⟩;rw [upd_ne (ne_of ec e (fun z=>nomatch z))];exact ec
end
def tDSd(td ty tx:TE):TE:=fun σ H Q=>td σ H fun x H1=>∃a,x = .ref a/\IsD H1 a/\ty σ H1 fun y H2=>tx σ H2 fun z H3=>∃kvs k b,H3 a=some (.dT kvs)/\y = .ref b/\H3 b=some (.tup (k.map kV))/\kvs.length<sizeLine /\
 (∀v,valV kvs k=some v->Q v H3)/\(valV kvs k=none->Q z (upd H3 a (.dT (putK kvs k z))))
section
variable {X:Cx} {o e f:Expr} {apos cpos:Pos} {td ty tx:TE}
theorem pe_dsd (hu:X.A.units+1<cLine) (ho:PE X o td) (he:PE X e ty) (hf:PE X f tx) (m:M2 X o "setdefault" apos e f cpos):PE X (.Call (.Attribute o "setdefault" apos) [e,f] [] cpos) (tDSd td ty tx):=by
 intro pins s σ H Q I h;refine wpAny_Call_method m.base m.few m.line PySem.F.plainAttrs_dict PySem.F.slot_dict_setdefault PySem.F.type_dict_setdefault (thn (ho pins s σ H _ I h) fun u s1 ⟨x,H1,I1,rx,a,ex,d,q1⟩ => ?_);subst ex;obtain rfl:u=Value.ref a:=rx;obtain ⟨t1,t2,_⟩:=isD_at I1 d;refine ⟨t1,t2,?_⟩;rw [m.trees]
 refine Calls.callWith_builtin rfl (Calls.evalArgs_plain (Calls.spliced_cons (thn (he pins s1 σ H1 _ I1 q1) fun iv s2 ⟨y,H2,I2,ry,q2⟩ =>
  Calls.spliced_cons (thn (hf pins s2 σ H2 _ I2 q2) fun fv s3 ⟨z,H3,I3,rz,kvs,k,b,e1,ey,eb,l,q3,q4⟩=>Calls.spliced_nil ?_))))
 subst ey;obtain rfl:iv=Value.ref b:=ry;exact d_sd hu I3 e1 eb l rz (fun v hv w' s' I' rw'=>⟨v,_,I',rw',q3 v hv⟩) fun hn s' I'=>⟨z,_,I',rz,q4 hn⟩
end
end Tf
namespace Dm
open PySem PySem.Spec PyProof.Rows L2 Tf
section
variable {K:PySem.W.Frag}
end
section
variable {X:Cx} {e b v:Expr} {fb fv fe:En->Option Sl} {g:En->Option Out} {sts:List Stmt} {pos cpos kpos apos:Pos}
end
end Dm
namespace Dm
open PySem PySem.Spec PyProof.Rows L2 Tf
def dolD(ks:List (List Key))(rs:List (List PyData)):List (PyData×PyData):=(ks.map tupD).zip (rs.map .list)
section
variable {K:PySem.W.Frag}
structure DolAt (K:PySem.W.Frag) (HB H0 H:Hp) (a:Addr) (as:List Addr) (ks:List (List Key)) (rs:List (List PyData)):Prop where
 top:H a=some (.dT (ks.zip (as.map .ref)))
 klen:ks.length=as.length
 len:as.length=rs.length
 nd:(a::as).Nodup
 new:∀b ∈ a::as,HB b=none/\H0 b=none
 row:∀(j:Nat) b ds,as[j]? = some b->rs[j]? = some ds->∃vs,H b=some (.lst vs)/\Reps K H0 vs ds
theorem DolAt.lst{HB H0 H:Hp}{a:Addr}{as:List Addr}{ks:List (List Key)}{rs:List (List PyData)}(r:DolAt K HB H0 H a as ks rs):∀b ∈ as,∃vs,H b=some (.lst vs):=fun b hb=>by
 obtain ⟨j,hj,rfl⟩:=List.mem_iff_getElem.mp hb;have hj':j<rs.length:=by rw [<-r.len];exact hj
 obtain ⟨vs,h,_⟩:=r.row j as[j] rs[j] (List.getElem?_eq_getElem hj) (List.getElem?_eq_getElem hj');exact ⟨_,h⟩
theorem DolAt.live{HB H0 H:Hp}{a:Addr}{as:List Addr}{ks:List (List Key)}{rs:List (List PyData)}(r:DolAt K HB H0 H a as ks rs):∀b ∈ a::as,∃o,H b=some o/\Mu o:=fun b hb=>by
 rcases List.mem_cons.mp hb with rfl | hb
 . exact ⟨_,r.top,True.intro⟩
 . obtain ⟨vs,h⟩:=r.lst b hb;exact ⟨_,h,True.intro⟩
theorem DolAt.ext{HB H0 H H0' H':Hp}{a:Addr}{as:List Addr}{ks:List (List Key)}{rs:List (List PyData)}(x:Ext H0 H H0' H')(r:DolAt K HB H0 H a as ks rs):DolAt K HB H0' H' a as ks rs where
 top:=x.s _ _ r.top
 klen:=r.klen
 len:=r.len
 nd:=r.nd
 new:=fun b hb=>by
  obtain ⟨o,ho,m⟩:=r.live b hb;exact ⟨(r.new b hb).1,x.own b _ ho m (r.new b hb).2⟩
 row:=fun j b ds h1 h2=>by
  obtain ⟨vs,h3,h4⟩:=r.row j b ds h1 h2;exact ⟨vs,x.s _ _ h3,Reps.same x.s0 h4⟩
theorem DolAt.s0{HB H0 H:Hp}{a:Addr}{as:List Addr}{ks:List (List Key)}{rs:List (List PyData)}(r:DolAt K HB H0 H a as ks rs):Same H0 (fzH H0 H as):=fun b u e=>by
 by_cases hb:b ∈ as
 . rw [(r.new b (by simp [hb])).2] at e
   cases e
 . rw [fz_out hb];exact e
theorem DolAt.fzExt{S0 HB H0 H:Hp}{a:Addr}{as:List Addr}{ks:List (List Key)}{rs:List (List PyData)}(r:DolAt K HB H0 H a as ks rs)(x:Ext S0 HB H0 H):Ext S0 HB (fzH H0 H as) H:=
 ⟨x.s,x.s0.trans r.s0,fun b u e=>by
  by_cases hb:b ∈ as
  . rw [fz_in hb] at e
    exact e
  . rw [fz_out hb] at e
    exact x.s1 b u e,fun b o hb h0=>by
  by_cases hm:b ∈ as
  . rw [(r.new b (by simp [hm])).1] at hb
    cases hb
  . rw [fz_out hm];exact x.own b o hb h0⟩
theorem DolAt.reps{HB H0 H:Hp}{a:Addr}{as:List Addr}{ks:List (List Key)}{rs:List (List PyData)}(r:DolAt K HB H0 H a as ks rs):Reps K (fzH H0 H as) (as.map .ref) (rs.map .list):=by
 have gen:∀(bs:List Addr) (qs:List (List PyData)),bs.length=qs.length->(∀b ∈ bs,b ∈ as)->(∀(j:Nat) b ds,bs[j]? = some b->qs[j]? = some ds->∃vs,H b=some (.lst vs)/\Reps K H0 vs ds)->Reps K (fzH H0 H as) (bs.map .ref) (qs.map .list):=by
  intro bs
  induction bs with
  | nil=>intro qs hl _ _;cases qs with | nil=>exact .nil | cons q qs=>cases hl
  | cons b bs ih=>
   intro qs hl hm hr
   cases qs with
   | nil=>cases hl
   | cons q qs=>
    obtain ⟨vs,h1,h2⟩:=hr 0 b q rfl rfl;refine .cons (.list (SqL.of (by rw [fz_in (hm b (by simp))];exact h1)) (Reps.same r.s0 h2)) (ih qs (by simpa using hl) (fun c hc=>hm c (by simp [hc])) fun j c ds h3 h4=>hr (j+1) c ds (by simpa using h3) (by simpa using h4))
 exact gen as rs r.len (fun b hb=>hb) r.row
structure DlS (K:PySem.W.Frag) (i:Nat) (ks:List (List Key)) (rs:List (List PyData)) (HB H0 H:Hp) (σ:L2.St) (ρ:En) (a:Addr) (as:List Addr):Prop where
 er:ER K HB H0 H σ (ρ.set i none)
 at_:σ[i]? = some (some (.ref a))
 in_:ρ[i]? = some (some (.dct (dolD ks rs)))
 rows:DolAt K HB H0 H a as ks rs
 apart:∀(j:Nat) b ds,j≠i->ρ[j]? = some (some (.own ds))->σ[j]? = some (some (.ref b))->b ∉ a::as
theorem DlS.ext{i:Nat}{ks:List (List Key)}{rs:List (List PyData)}{HB H0 H H0' H':Hp}{σ:L2.St}{ρ:En}{a:Addr}{as:List Addr}(x:Ext H0 H H0' H')(r:DlS K i ks rs HB H0 H σ ρ a as):DlS K i ks rs HB H0' H' σ ρ a as:=
 ⟨r.er.ext x,r.at_,r.in_,r.rows.ext x,r.apart⟩
def PinD(K:PySem.W.Frag)(i:Nat):Rl:=⟨fun HB H0 H σ ρ=>∃ks rs a as,DlS K i ks rs HB H0 H σ ρ a as,fun k=>k≠i/\(0:Nat)=0⟩
theorem fz_sameD{H0 H:Hp}{c:Addr}(h:H0 c=none):Same H0 (fzH H0 H [c]):=fun b u e=>by
 by_cases hb:b ∈ [c]
 . cases List.mem_singleton.mp hb
   rw [h] at e
   cases e
 . rw [fz_out hb];exact e
instance relOk_PinD {i:Nat}:RelOk K (PinD K i) where
 ext:=fun x ⟨ks,rs,a,as,r⟩=>⟨ks,rs,a,as,r.ext x⟩
 get:=fun {_ _ _ _ _ k _} ⟨ks,rs,a,as,r⟩ hs h=>r.er.get k _ (by rw [set_none_get (Ne.symm hs.1)];exact h)
 set:=fun {HB H0 H H0' H' σ ρ k v s} ⟨ks,rs,a,as,r⟩ hs x sb h=>by
  refine ⟨ks,rs,a,as,?_,by rw [List.getElem?_set_ne hs.1];exact r.at_,by rw [List.getElem?_set_ne hs.1];exact r.in_,r.rows.ext x,fun j b ds hj h1 h2 hm=> ?_⟩
  . rw [set_comm_ne (Ne.symm hs.1)];exact ER.set r.er x sb h
  . by_cases hk:k=j
    . subst hk;rw [List.getElem?_set_self'] at h1 h2
      cases hq:ρ[k]? with
      | none=>rw [hq] at h1;cases h1
      | some q=>
       rw [hq] at h1
       cases h1
       have hl:k<σ.length:=by
        rw [r.er.len,List.length_set];exact (List.getElem?_eq_some_iff.mp hq).1
       rw [List.getElem?_eq_getElem hl] at h2
       cases h2
       obtain ⟨b',ws,eb,hn,_⟩:=h
       cases eb
       obtain ⟨o,ho,_⟩:=r.rows.live b hm;rw [hn] at ho
       cases ho
    . rw [List.getElem?_set_ne hk] at h1 h2
      exact r.apart j b ds hj h1 h2 hm
 write:=fun {HB H0 H σ ρ k c ds es vs ys} ⟨ks,rs,a,as,r⟩ hs h1 h2 h3 h4 h5 h6=>by
  have cn:c ∉ a::as:=r.apart k c ds hs.1 h1 h2;have un:∀b,b ∈ a::as->(upd H c (.lst ys)) b=H b:=fun b hb=>upd_ne fun z=>cn (z ▸ hb);refine ⟨ks,rs,a,as,?_,r.at_,by rw [List.getElem?_set_ne hs.1];exact r.in_,⟨by rw [un a (by simp)];exact r.rows.top,r.rows.klen,r.rows.len,r.rows.nd,r.rows.new,fun j b qs g1 g2=> ?_⟩,fun j b qs hj g1 g2=> ?_⟩
  . rw [set_comm_ne (Ne.symm hs.1)];exact ER.write r.er (by rw [set_none_get (Ne.symm hs.1)];exact h1) h2 h3 h4 h6
  . obtain ⟨ws,q1,q2⟩:=r.rows.row j b qs g1 g2;exact ⟨ws,by rw [un b (by simp [List.mem_of_getElem? g1])];exact q1,q2⟩
  . by_cases hk:k=j
    . subst hk;exact r.apart k b ds hs.1 h1 g2
    . rw [List.getElem?_set_ne hk] at g1
      exact r.apart j b qs hj g1 g2
 frz:=fun {S0 HB H0 H σ ρ k ds} ⟨ks,rs,a,as,r⟩ hs h x=>by
  obtain ⟨v,g1,c',ws,ev,q1,q2,q3,q4⟩:=r.er.get k _ (show (ρ.set i none)[k]? = some (some (.own ds)) by rw [set_none_get (Ne.symm hs.1)];exact h);subst ev;have cn':c' ∉ a::as:=r.apart k c' ds hs.1 h g1;have s0:Same H0 (fzH H0 H [c']):=fz_sameD q2;refine ⟨fzH H0 H [c'],?_,ks,rs,a,as,?_,r.at_,by rw [List.getElem?_set_ne hs.1];exact r.in_,?_,fun j b qs hj g2 g3=> ?_⟩
  . exact ⟨x.s, x.s0.trans s0, fun b u e => by
     by_cases hb:b ∈ [c']
     . rw [fz_in hb] at e
       exact e
     . rw [fz_out hb] at e
       exact x.s1 b u e,fun b o hb h0=>by
     by_cases hm:b ∈ [c']
     . cases List.mem_singleton.mp hm
       rw [q1] at hb
       cases hb
     . rw [fz_out hm];exact x.own b o hb h0⟩
  . rw [set_comm_ne (Ne.symm hs.1)];refine ⟨by rw [List.length_set];exact r.er.len,fun j s hq=> ?_,fun j l b ts us hjl g2 g3 g4 g5=> ?_⟩
    . by_cases hkj:k=j
      . subst hkj;rw [List.getElem?_set_self',set_none_get (Ne.symm hs.1),h] at hq
        cases hq
        exact ⟨.ref c',g1, .list (SqL.of (by rw [fz_in (by simp)];exact q3)) (Reps.same s0 q4)⟩
      . rw [List.getElem?_set_ne hkj] at hq
        obtain ⟨u,p1,p2⟩:=r.er.get j s hq;refine ⟨u,p1,?_⟩
        cases s with
        | val d=>exact Rep.same s0 p2
        | own ts=>
         obtain ⟨b,zs,rfl,t1,t2,t3,t4⟩:=p2;refine ⟨b,zs,rfl,t1,?_,t3,Reps.same s0 t4⟩;rw [fz_out]
         . exact t2
         . intro hm
           cases List.mem_singleton.mp hm
           exact r.er.apart k j _ ds ts hkj (by rw [set_none_get (Ne.symm hs.1)];exact h) hq g1 p1
        | dct ts=>
         obtain ⟨b,zs,rfl,t1,t2,t3,t4⟩:=p2;refine ⟨b,zs,rfl,t1,?_,t3,t4.same s0⟩;rw [fz_out]
         . exact t2
         . intro hm
           cases List.mem_singleton.mp hm
           rw [q3] at t3
           cases t3
    . have f : ∀ (j : Nat) qs, ((ρ.set i none).set k (some (.val (.list ds))))[j]? = some (some (.own qs)) -> (ρ.set i none)[j]? = some (some (.own qs)) := by
       intro j qs hq
       have hkj:k≠j:=by
        rintro rfl;rw [List.getElem?_set_self',set_none_get (Ne.symm hs.1),h] at hq
        cases hq
       rw [List.getElem?_set_ne hkj] at hq
       exact hq
      exact r.er.apart j l b ts us hjl (f j ts g2) (f l us g3) g4 g5
  . have nz : ∀ b ∈ a :: as, fzH H0 H [c'] b = H0 b := fun b hb => fz_out fun hm => by
     cases List.mem_singleton.mp hm
     exact cn' hb
    exact ⟨r.rows.top,r.rows.klen,r.rows.len,r.rows.nd,fun b hb=>⟨(r.rows.new b hb).1,by rw [nz b hb];exact (r.rows.new b hb).2⟩,fun j b qs t1 t2=>by
     obtain ⟨ws',t3,t4⟩:=r.rows.row j b qs t1 t2;exact ⟨ws',t3,Reps.same s0 t4⟩⟩
  . have hkj : k ≠ j := by
     rintro rfl;rw [List.getElem?_set_self',h] at g2
     cases g2
    rw [List.getElem?_set_ne hkj] at g2
    exact r.apart j b qs hj g2 g3
def dolOf:List (PyData×PyData)->Option (List (List Key)×List (List PyData))
 | []=>some ([],[])
 | (k, .list ds)::r=>(keyOf k).bind fun k=>(dolOf r).map fun q=>(k::q.1,ds::q.2)
 | _=>none
theorem keyOf_tup(k:List Key):keyOf (tupD k)=some k:=by
 show keysOf (k.map keyD)=some k
 induction k with
 | nil=>rfl
 | cons a k ih=>
  show (keyOf1 (keyD a)).bind (fun q=>(keysOf (k.map keyD)).map (q :: ·))=_;rw [ih]
  cases a <;> rfl
theorem dolOf_D:∀ {ks:List (List Key)} {rs:List (List PyData)},ks.length=rs.length->dolOf (dolD ks rs)=some (ks,rs)
 | [],[],_=>rfl
 | k::ks,r::rs,h=>by
  have ih:=dolOf_D (ks:=ks) (rs:=rs) (by simpa using h);show (keyOf (tupD k)).bind (fun k=>(dolOf (dolD ks rs)).map fun q=>(k::q.1,r::q.2))=_;rw [keyOf_tup,ih];rfl
def dolPut(ks:List (List Key))(rs:List (List PyData))(k:List Key)(d:PyData):List (List Key)×List (List PyData):=match ks.findIdx? fun j=>decide (j=k) with
 | some p=>(ks,rs.set p (rs.getD p [] ++ [d]))
 | none=>(ks ++ [k],rs ++ [[d]])
theorem valV_zip{k:List Key}:∀ {ks:List (List Key)} {xs:List V},ks.length=xs.length->valV (ks.zip xs) k=(ks.findIdx? fun j=>decide (j=k)).bind fun p=>xs[p]?
 | [],[],_=>rfl
 | j::ks,x::xs,h=>by
  have ih:=valV_zip (k:=k) (ks:=ks) (xs:=xs) (by simpa using h);rw [List.zip_cons_cons,List.findIdx?_cons]
  by_cases e:j=k
  . rw [valV_pos e,decide_eq_true e];rfl
  . rw [valV_neg e,decide_eq_false e,ih]
    cases ks.findIdx? fun j=>decide (j=k) <;> rfl
theorem DlS.putG {i p : Nat} {ks : List (List Key)} {rs : List (List PyData)} {r' : List PyData} {HB H0 H : Hp} {σ : L2.St} {ρ : En} {a b : Addr} {as : List Addr} (R : DlS K i ks rs HB H0 H σ ρ a as) (hb : as[p]? = some b) {vs' : List V} (hvr : Reps K H0 vs' r') :
 DlS K i ks (rs.set p r') HB H0 (upd H b (.lst vs')) σ (ρ.set i (some (.dct (dolD ks (rs.set p r'))))) a as:=by
 have bm:b ∈ as:=List.mem_of_getElem? hb;have ab:a≠b:=fun z=>(List.nodup_cons.mp R.rows.nd).1 (z ▸ bm);have iL:i<ρ.length:=(List.getElem?_eq_some_iff.mp R.in_).1;obtain ⟨vb,hvb⟩:=R.rows.lst b bm;refine ⟨?_,R.at_,by rw [List.getElem?_set_self iL],?_,fun j c ds hj h1 h2=> ?_⟩
 . rw [List.set_set];refine ⟨R.er.len,fun j s hs=> ?_,R.er.apart⟩
   have hij:i≠j:=by
    rintro rfl;rw [List.getElem?_set_self'] at hs
    cases hq:ρ[i]? with
    | none=>rw [hq] at hs;cases hs
    | some q=>rw [hq] at hs;cases hs
   obtain ⟨v,g1,g2⟩:=R.er.get j s hs;rw [List.getElem?_set_ne hij] at hs
   refine ⟨v,g1,?_⟩
   cases s with
   | val d=>exact g2
   | own ts=>
    obtain ⟨c,ws,rfl,q1,q2,q3,q4⟩:=g2;refine ⟨c,ws,rfl,q1,q2,?_,q4⟩;rw [upd_ne]
    . exact q3
    . rintro rfl
      exact R.apart j c ts (Ne.symm hij) hs g1 (by simp [bm])
   | dct ts=>
    obtain ⟨c,u,rfl,q1,q2,q3,q4⟩:=g2;refine ⟨c,u,rfl,q1,q2,?_,q4⟩;rw [upd_ne]
    . exact q3
    . rintro rfl;rw [q3] at hvb
      cases hvb
 . refine ⟨by rw [upd_ne ab];exact R.rows.top,R.rows.klen,by rw [R.rows.len,List.length_set],R.rows.nd,R.rows.new,fun j c ds h1 h2=> ?_⟩
   by_cases hj:p=j
   . subst hj;rw [hb] at h1
     cases h1
     have hp:p<rs.length:=by rw [<-R.rows.len];exact (List.getElem?_eq_some_iff.mp hb).1
     rw [List.getElem?_set_self hp] at h2
     cases h2
     exact ⟨vs',upd_same,hvr⟩
   . rw [List.getElem?_set_ne hj] at h2
     obtain ⟨ws,g1,g2⟩:=R.rows.row j c ds h1 h2;refine ⟨ws,?_,g2⟩;rw [upd_ne]
     . exact g1
     . rintro rfl;have nd:=(List.nodup_cons.mp R.rows.nd).2;obtain ⟨p1,e1⟩:=List.getElem?_eq_some_iff.mp h1;obtain ⟨p2,e2⟩:=List.getElem?_eq_some_iff.mp hb;exact hj ((List.getElem_inj nd).mp (e2.trans e1.symm))
 . rw [List.getElem?_set_ne (Ne.symm hj)] at h1
   exact R.apart j c ds hj h1 h2
theorem DlS.more {i : Nat} {ks : List (List Key)} {k : List Key} {rs : List (List PyData)} {r' : List PyData} {HB H0 H : Hp} {σ : L2.St} {ρ : En} {a b : Addr} {as : List Addr} {vs : List V} (R : DlS K i ks rs HB H0 H σ ρ a as) (hl : loneD i ρ) (h1 : HB b = none) (h2 : H0 b = none) (h3 : H b = some (.lst vs)) (h4 : Reps K H0 vs r') (h5 : b ∉ a :: as)
 (h6:∀(j:Nat) c ds,j≠i->ρ[j]? = some (some (.own ds))->σ[j]? = some (some (.ref c))->c≠b) :
 DlS K i (ks ++ [k]) (rs ++ [r']) HB H0 (upd H a (.dT ((ks ++ [k]).zip ((as ++ [b]).map .ref)))) σ (ρ.set i (some (.dct (dolD (ks ++ [k]) (rs ++ [r']))))) a (as ++ [b]):=by
 have iL:i<ρ.length:=(List.getElem?_eq_some_iff.mp R.in_).1;have nd:=List.nodup_cons.mp R.rows.nd;have ba:b≠a:=fun z=>h5 (by simp [z]);have bas:b ∉ as:=fun z=>h5 (by simp [z]);refine ⟨?_,R.at_,by rw [List.getElem?_set_self iL],?_,fun j c ds hj g1 g2 hm=> ?_⟩
 . rw [List.set_set];refine ⟨R.er.len,fun j s hs=> ?_,R.er.apart⟩
   have hij:i≠j:=by
    rintro rfl;rw [List.getElem?_set_self'] at hs
    cases hq:ρ[i]? with
    | none=>rw [hq] at hs;cases hs
    | some q=>rw [hq] at hs;cases hs
   obtain ⟨v,g1,g2⟩:=R.er.get j s hs;rw [List.getElem?_set_ne hij] at hs
   refine ⟨v,g1,?_⟩
   cases s with
   | val d=>exact g2
   | own ts=>
    obtain ⟨c,ws,rfl,q1,q2,q3,q4⟩:=g2;refine ⟨c,ws,rfl,q1,q2,?_,q4⟩;rw [upd_ne]
    . exact q3
    . rintro rfl;rw [R.rows.top] at q3
      cases q3
   | dct ts=>exact absurd hs (hl j ts (Ne.symm hij))
 . refine ⟨upd_same,by rw [List.length_append,List.length_append,R.rows.klen];rfl,by rw [List.length_append,List.length_append,R.rows.len];rfl,List.nodup_cons.mpr ⟨fun hm=> ?_,List.nodup_append.mpr ⟨nd.2,by simp,fun c hc c' hc' e=> ?_⟩⟩,fun c hc=> ?_,fun j c ds g1 g2=> ?_⟩
   . rcases List.mem_append.mp hm with h | h
     . exact nd.1 h
     . exact ba (List.mem_singleton.mp h).symm
   . rw [List.mem_singleton] at hc'
     subst hc' e;exact bas hc
   . rcases List.mem_cons.mp hc with rfl | hc
     . exact R.rows.new c (by simp)
     . rcases List.mem_append.mp hc with h | h
       . exact R.rows.new c (by simp [h])
       . cases List.mem_singleton.mp h
         exact ⟨h1,h2⟩
   . have ca : c ≠ a := by
      rintro rfl;rcases List.mem_append.mp (List.mem_of_getElem? g1) with h | h
      . exact nd.1 h
      . exact ba (List.mem_singleton.mp h).symm
     rw [upd_ne ca]
     by_cases hj:j<as.length
     . rw [List.getElem?_append_left hj] at g1
       rw [List.getElem?_append_left (by rw [<-R.rows.len];exact hj)] at g2
       exact R.rows.row j c ds g1 g2
     . rw [List.getElem?_append_right (by omega)] at g1
       rw [List.getElem?_append_right (by rw [<-R.rows.len];omega), <-R.rows.len] at g2
       have hz:j - as.length=0:=by
        have:=(List.getElem?_eq_some_iff.mp g1).1;simp at this
        omega
       rw [hz] at g1 g2
       cases g1
       cases g2
       exact ⟨vs,h3,h4⟩
 . rw [List.getElem?_set_ne (Ne.symm hj)] at g1
   rcases List.mem_cons.mp hm with rfl | hm
   . exact R.apart j c ds hj g1 g2 (by simp)
   . rcases List.mem_append.mp hm with h | h
     . exact R.apart j c ds hj g1 g2 (by simp [h])
     . exact h6 j c ds hj g1 g2 (List.mem_singleton.mp h)
def mSdApp(i:Nat)(fk ff:En->Option Sl):En->Option Out:=fun ρ=>match (ρ[i]?).join with
 | some (.dct kvs)=>(dolOf kvs).bind fun q=>(fk (ρ.set i none)).bind fun b=>(keyOf b.dat).bind fun k=>(ff (ρ.set i none)).bind fun v=>
  if q.1.length<sizeLine/\lone i ρ=true/\(∀r ∈ q.2,r.length<sizeLine) then some (.nx (ρ.set i (some (.dct (dolD (dolPut q.1 q.2 k v.dat).1 (dolPut q.1 q.2 k v.dat).2))))) else none
 | _=>none
theorem rs_sdApp{i:Nat}{tk tf:TE}{fk ff:En->Option Sl}(hk:RP K (PR K) tk fk)(hf:RE K (PR K) tf ff):RS K (PinD K i) (tDrop (tBM K "list" rAppend (tDSd (tVar i) tk (tLst tNil)) (tCons tf tNil))) (mSdApp i fk ff):=fun HB S0 σ ρ H0 H x e o ho D d=>by
 obtain ⟨ks,rs,a,as,r⟩:=e.r;unfold mSdApp at ho
 rw [r.in_] at ho
 have kr:ks.length=rs.length:=by rw [r.rows.klen,r.rows.len]
 obtain ⟨q,hq,ho⟩:=Option.bind_eq_some_iff.mp (show (dolOf (dolD ks rs)).bind _=some o from ho);rw [dolOf_D kr] at hq
 cases hq
 obtain ⟨b,hb,ho⟩:=Option.bind_eq_some_iff.mp ho;obtain ⟨k,hkk,ho⟩:=Option.bind_eq_some_iff.mp ho;obtain ⟨v,hv,ho⟩:=Option.bind_eq_some_iff.mp ho
 split at ho
 . rename_i hc;obtain ⟨c1,c2,c3⟩:=hc
   cases ho
   have lo:=lone_of c2;refine ⟨.ref a,r.at_,a,rfl, .inr ⟨_, .inl r.rows.top⟩,?_⟩;refine hk HB σ (ρ.set i none) H0 H x.s1 ⟨r.er⟩ b hb _ fun w H1 J1 x1 p1=> ?_;obtain ⟨c,rfl,gc⟩:=keyOf_at x1.s1 p1 hkk;refine ⟨by show 0<=sizeLine;decide,fun p hp=> ?_⟩;have x2:Ext H1 J1 H1 (upd J1 p (.lst [])):=Ext.alloc x1.s1 hp _;have r1:=r.ext x1;have r2:=r1.ext x2;have xx:=(x.chain x1).chain x2;have zl:ks.length=(as.map V.ref).length:=by rw [List.length_map];exact r.rows.klen
   refine ⟨ks.zip (as.map .ref),k,c,r2.rows.top,rfl,x2.s _ _ gc,by rw [List.length_zip, <-zl,Nat.min_self];exact c1,fun u hu=> ?_,fun hn=> ?_⟩
   . rw [valV_zip zl] at hu
     obtain ⟨m,hm,hu⟩:=Option.bind_eq_some_iff.mp hu;rw [List.getElem?_map] at hu
     obtain ⟨bb,gb,rfl⟩:=Option.map_eq_some_iff.mp hu;have bm:bb ∈ as:=List.mem_of_getElem? gb;have ml:m<rs.length:=by rw [<-r.rows.len];exact (List.getElem?_eq_some_iff.mp gb).1
     have hrr:rs[m]? = some rs[m]:=List.getElem?_eq_getElem ml;have hgd:rs.getD m []=rs[m]:=by simp [List.getD,hrr]
     obtain ⟨vs0,g0,_⟩:=r2.rows.row m bb _ gb hrr;refine ⟨.inl ⟨rfl,_,SqL.of g0⟩,?_⟩;refine hf.rv HB σ (ρ.set i none) H1 _ x2.s1 ⟨r2.er⟩ v.dat (by unfold mDat;rw [hv];rfl) _ fun y H3 J3 x3 p3=> ?_;have r3:=r2.ext x3;obtain ⟨vs,g1,g2⟩:=r3.rows.row m bb _ gb hrr;have bn:=r3.rows.new bb (by simp [bm]);refine ⟨bb,vs,y,rfl,rfl,g1,by rw [g2.length];exact c3 _ (List.getElem_mem ml),?_⟩;have fin:=r3.putG gb (Tf.Reps.snoc g2 p3)
     have e2:dolPut ks rs k v.dat=(ks,rs.set m (rs[m] ++ [v.dat])):=by
      unfold dolPut;rw [hm]
      dsimp only
      rw [hgd]
     rw [e2] at d
     exact d σ H3 _ ((xx.chain x3).write bn.1 bn.2 _) ⟨_,_,a,as,fin⟩
   . have hno : ks.findIdx? (fun j => decide (j = k)) = none := by
      rw [valV_zip zl] at hn
      cases hm:ks.findIdx? fun j=>decide (j=k) with
      | none=>rfl
      | some m=>
       rw [hm] at hn
       have ml:=(List.findIdx?_eq_some_iff_getElem.mp hm).1;rw [Option.bind_some,List.getElem?_eq_getElem (by rw [<-zl];exact ml)] at hn
       cases hn
     have hput:putK (ks.zip (as.map .ref)) k (.ref p)=(ks ++ [k]).zip ((as ++ [p]).map .ref):=by
      rw [putK_new _ hn,List.map_append,List.zip_append zl];rfl
     rw [hput]
     have pn:∀c,(∃o,J1 c=some o)->c≠p:=fun c ⟨o,ho⟩ e=>by
      rw [e,hp] at ho
      cases ho
     have an:=r2.rows.new a (by simp)
     have r3:=DlS.more (k:=k) (r':= []) (b:=p) (vs:= []) r2 lo ((x.chain x1).s.free hp) (x1.s1.free hp) upd_same .nil (fun hm=>by
      obtain ⟨o,ho,_⟩:=r1.rows.live p hm;exact pn p ⟨o,ho⟩ rfl) (fun j c ds hj g1 g2=>by
      obtain ⟨v',t1,t2⟩:=r1.er.get j _ (show (ρ.set i none)[j]? = some (some (.own ds)) by rw [List.getElem?_set_ne (Ne.symm hj)];exact g1);rw [g2] at t1
      cases t1
      obtain ⟨c',ws,ec,_,_,q3,_⟩:=t2
      cases ec
      exact pn c ⟨_,q3⟩)
     have x3:=xx.write an.1 an.2 (.dT ((ks ++ [k]).zip ((as ++ [p]).map V.ref)));have er3:=r3.er;rw [List.set_set] at er3
     have pa:p≠a:=fun z=>pn a ⟨_,r1.rows.top⟩ z.symm;refine ⟨.inl ⟨rfl,[],SqL.of (by rw [upd_ne pa];exact upd_same)⟩,?_⟩;refine hf.rv HB σ (ρ.set i none) H1 _ x3.s1 ⟨er3⟩ v.dat (by unfold mDat;rw [hv];rfl) _ fun y H3 J3 x4 p3=> ?_;have r4:=r3.ext x4;have pm:(as ++ [p])[as.length]? = some p:=by simp
     have bn:=r4.rows.new p (by simp);refine ⟨p,[],y,rfl,rfl,x4.s _ _ (by rw [upd_ne pa];exact upd_same),by show 0<sizeLine;decide,?_⟩;have fin:=r4.putG pm (vs':= [] ++ [y]) (r':= [v.dat]) (.cons p3 .nil)
     have e2:dolPut ks rs k v.dat=(ks ++ [k],rs ++ [[v.dat]]):=by
      unfold dolPut;rw [hno]
     have e3:(rs ++ [([]:List PyData)]).set as.length [v.dat]=rs ++ [[v.dat]]:=by
      rw [r.rows.len];simp
     rw [e3,List.set_set] at fin
     rw [e2] at d
     exact d σ H3 _ ((x3.chain x4).write bn.1 bn.2 _) ⟨_,_,a,_,fin⟩
 . cases ho
def RDW(K:PySem.W.Frag)(i:Nat)(t:TS)(g:En->Option Out):Prop:=
 ∀(HB S0:Hp) (σ:L2.St) (ρ:En) (H0 H:Hp) (ks:List (List Key)) (rs:List (List PyData)) (a:Addr) (as:List Addr),Ext S0 HB H0 H->DlS K i ks rs HB H0 H σ ρ a as->∀o,g ρ=some o->∀D:Ends,EndR K (PR K) HB S0 D o->t D σ H
def mGiveD(i:Nat):En->Option Out:=fun ρ=>match (ρ[i]?).join with
 | some (.dct kvs)=>some (.rt (.dct kvs) (ρ.set i none))
 | _=>none
theorem rdw_ret{i:Nat}:RDW K i (tRet (tVar i)) (mGiveD i):=fun HB S0 σ ρ H0 H ks rs a as x r o ho D d=>by
 unfold mGiveD at ho
 rw [r.in_] at ho
 cases ho
 refine ⟨.ref a,r.at_,?_⟩;have nd:=(List.nodup_cons.mp r.rows.nd).1;refine d (.ref a) σ (fzH H0 H as) H (r.rows.fzExt x) ⟨⟨r.er.len,fun j s hs=> ?_,r.er.apart⟩⟩ ⟨a,ks.zip (as.map .ref),rfl,(r.rows.new a (by simp)).1,by rw [fz_out nd];exact (r.rows.new a (by simp)).2,r.rows.top,ks,as.map .ref,rs.map .list,rfl,by rw [List.length_map];exact r.rows.klen,r.rows.reps,rfl⟩;obtain ⟨v,g1,g2⟩:=r.er.get j s hs;refine ⟨v,g1,?_⟩
 cases s with
 | val d=>exact Rep.same r.rows.s0 g2
 | own ts=>
  have hij:i≠j:=by
   rintro rfl;rw [List.getElem?_set_self'] at hs
   cases hq:ρ[i]? with
   | none=>rw [hq] at hs;cases hs
   | some q=>rw [hq] at hs;cases hs
  rw [List.getElem?_set_ne hij] at hs
  obtain ⟨b,ws,rfl,q1,q2,q3,q4⟩:=g2;refine ⟨b,ws,rfl,q1,?_,q3,Reps.same r.rows.s0 q4⟩;rw [fz_out fun hm=>r.apart j b ts (Ne.symm hij) hs g1 (by simp [hm])]
  exact q2
 | dct ts=>
  obtain ⟨b,t,rfl,q1,q2,q3,q4⟩:=g2;refine ⟨b,t,rfl,q1,?_,q3,q4.same r.rows.s0⟩
  rw [fz_out fun hm=>by
   obtain ⟨vs,hv⟩:=r.rows.lst b hm;rw [q3] at hv
   cases hv]
  exact q2
theorem rdw_seq{i:Nat}{t u:TS}{f g:En->Option Out}(h:RS K (PinD K i) t f)(k:RDW K i u g):RDW K i (tSeq t u) (mSeqX f g):=fun HB S0 σ ρ H0 H ks rs a as x r o ho D d=>by
 obtain ⟨o1,h1,ho⟩:=Option.bind_eq_some_iff.mp ho;refine h HB S0 σ ρ H0 H x ⟨ks,rs,a,as,r⟩ o1 h1 { D with nx:=u D} ?_
 cases o1 with
 | nx ρ'=>exact fun σ' H0' H' x' ⟨ks',rs',a',as',e'⟩=>k HB S0 σ' ρ' H0' H' ks' rs' a' as' x' e' o ho D d
 | _=>cases ho
def mDolIn(i:Nat)(g:En->Option Out):En->Option Out:=fun ρ=>if i<ρ.length then g (ρ.set i (some (.dct []))) else none
theorem rs_dol{i:Nat}{u:TS}{g:En->Option Out}(k:RDW K i u g):RS K (PR K) (tSeq (tAsg tDNewT (gName i)) u) (mDolIn i g):=fun HB S0 σ ρ H0 H x e o ho D d=>by
 unfold mDolIn at ho
 split at ho
 . rename_i hi;intro p hp;have er:ER K HB H0 H σ ρ:=e.r;have x1:Ext H0 H H0 (upd H p (.dT [])):=Ext.alloc x.s1 hp _;refine k HB S0 _ _ H0 _ [] [] p [] (x.chain x1) ⟨(er.ext x1).drop,List.getElem?_set_self (by rw [er.len];exact hi),List.getElem?_set_self hi,⟨upd_same,rfl,rfl,by simp,fun b hb=> ?_,fun j b ds h1 _=>by simp at h1⟩,fun j b ds hj h1 h2 hm=> ?_⟩ o ho D d
   . cases List.mem_singleton.mp hb
     exact ⟨x.s.free hp,x.s1.free hp⟩
   . cases List.mem_singleton.mp hm
     rw [List.getElem?_set_ne (Ne.symm hj)] at h1 h2
     obtain ⟨w,g1,g2⟩:=er.get j _ h1;rw [h2] at g1
     cases g1
     obtain ⟨b',ws,eb,_,_,g3,_⟩:=g2
     cases eb
     rw [hp] at g3
     cases g3
 . cases ho
end
section
variable {X:Cx} {x:Str} {b v:Expr} {f g fk ff:En->Option Sl} {st:Stmt} {sts:List Stmt} {h1' h2':En->Option Out} {pos p:Pos}
def DDs(X:Cx)(i:Nat)(sts:List Stmt)(g:En->Option Out):Prop:=∃t,PSs X sts t/\RDW X.K i t g
theorem ddl_ret (i:Nat) (hN:X.N[i]? = some x:=by rfl) (hv:Vis X.env.scope x:=by first | exact Or.inl rfl | exact Or.inr (Or.inl rfl) | exact Or.inr (Or.inr rfl)) (hd:(x==("__debug__" : Str))=false:=by decide) (hcd:(x==("__classdict__" : Str))=false:=by decide):DDs X i [.Return (some (.Name x p)) pos] (mGiveD i) :=
 ⟨_,pss_one (ps_ret (pe_var hN hv hd hcd)),rdw_ret⟩
theorem ddl_cons{K:PySem.W.Frag}{i:Nat}(hK:X.K=K)(h:DS X (PinD K i) st h1')(k:DDs X i sts h2'):DDs X i (st::sts) (mSeqX h1' h2'):=by
 subst hK;obtain ⟨t,a1,a2⟩:=h;obtain ⟨u,b1,b2⟩:=k;exact ⟨_,pss_cons a1 b1,rdw_seq a2 b2⟩
theorem dss_dol (i : Nat) {pos' q : Pos} (hN : X.N.Nodup) (k : DDs X i sts h2') (hi : X.N[i]? = some x := by rfl) (hx : Loc X.env.scope x := by first | exact Or.inl rfl | exact Or.inr rfl) (hs : swapsWith (.Dict [] [] q) (some (.Name x pos')) pos.line X.env = pure false := by rfl) (hf : X.fn x = true \/ X.env.scope.names.lookup x = some .local := by first | exact .inl rfl | exact .inr rfl) :
 DSs X (PR X.K) (.Assign [.Name x pos'] (.Dict [] [] q) pos::sts) (mDolIn i h2'):=by
 obtain ⟨u,b1,b2⟩:=k;exact ⟨_,pss_cons (ps_set hN hi hx pe_dnewT hs hf) b1,rs_dol b2⟩
theorem ds_sdApp {K : PySem.W.Frag} (hK : X.K = K) (hu : X.A.units + 1 < cLine) (i : Nat) {px ql apos kpos apos2 cpos2 : Pos} (hk : DP X (PR K) b fk) (hv : DE X (PR K) v ff) (hN : X.N[i]? = some x := by rfl) (hvs : Vis X.env.scope x := by first | exact Or.inl rfl | exact Or.inr (Or.inl rfl) | exact Or.inr (Or.inr rfl)) (hd : (x == ("__debug__" : Str)) = false := by decide) (hcd : (x == ("__classdict__" : Str)) = false := by decide)
 (m:M2 X (.Name x px) "setdefault" apos b (.List [] ql) kpos:=by exact ⟨rfl,rfl,rfl,rfl⟩)
 (hst:starEach [v] X.env=(false,eval v X.env)::starEach [] X.env:=by rfl)
 (hbase:attributeBase (.Call (.Attribute (.Name x px) "setdefault" apos) [b, .List [] ql] [] kpos) "append" X.env (eval (.Call (.Attribute (.Name x px) "setdefault" apos) [b, .List [] ql] [] kpos) X.env)=eval (.Call (.Attribute (.Name x px) "setdefault" apos) [b, .List [] ql] [] kpos) X.env:=by rfl)
 (hfew:((backTo cpos2 (starEach [v] X.env)).all (fun x=> !x.1) && (backToKw cpos2 (keywordEach [] X.env)).all (fun x=>x.1.isSome) && decide ([v].length+([]:List Keyword).length+(if ([]:List Keyword).isEmpty then 0 else 1)<30))=true:=by rfl)
 (hline:(apos2.endLine==cpos2.line)=true:=by rfl) (hplain:(backTo cpos2 (starEach [] X.env)).any (·.1)=false:=by rfl)
 (hs:swapsWith (.Call (.Attribute (.Call (.Attribute (.Name x px) "setdefault" apos) [b, .List [] ql] [] kpos) "append" apos2) [v] [] cpos2) none pos.line X.env=pure false:=by rfl) :
 DS X (PinD K i) (.Expr (.Call (.Attribute (.Call (.Attribute (.Name x px) "setdefault" apos) [b, .List [] ql] [] kpos) "append" apos2) [v] [] cpos2) pos) (mSdApp i fk ff):=by
 subst hK;obtain ⟨t,a1,a2⟩:=hk;obtain ⟨u,b1,b2⟩:=hv;exact ⟨_,ps_expr (pe_bm PySem.F.plainAttrs_list PySem.F.slot_list_append PySem.F.type_list_append mt_append (pe_dsd hu (pe_var hN hvs hd hcd) a1 (pe_lst pa_nil) m) (pa_cons b1 pa_nil hst) hbase hfew hline hst hplain) hs,rs_sdApp a2 b2⟩
end
end Dm
namespace Tr
def E:List Int->Nat->Int
 | [],0=>1
 | [],_+1=>0
 | _::_,0=>1
 | s::l,k+1=>E l (k+1)+(s - 1)*E l k
def S:List Int->Nat->Int
 | [],_=>1
 | _::_,0=>1
 | s::l,u+1=>S l (u+1)+(s - 1)*S l u
def cnt:List Int->Nat->Nat
 | [],_=>0
 | _::l,m=>cnt l (m / 2)+m % 2
def shr:List Int->Nat->Int
 | [],_=>1
 | s::l,m=>(if m % 2=1 then s - 1 else 1)*shr l (m / 2)
def rst:List Int->Nat->Nat
 | [],m=>m
 | _::l,m=>rst l (m / 2)
def one(l:List Int)(u m:Nat):Int:=if rst l m=0/\cnt l m<=u then shr l m else 0
def dg:List Nat->Nat->List Nat
 | [],_=> []
 | c::r,x=>x % c::dg r (x / c)
def prodN:List Nat->Nat
 | []=>1
 | c::r=>c*prodN r
theorem prodN_app:∀a b,prodN (a++b)=prodN a*prodN b
 | [],b=>by simp [prodN]
 | c::a,b=>by simp only [List.cons_append,prodN,prodN_app a b,Nat.mul_assoc]
def tri(L:List Nat)(x:Nat):List Nat:=(dg L.reverse x).reverse
theorem tri_snoc(L:List Nat)(c x:Nat):tri (L ++ [c]) x=tri L (x / c) ++ [x % c]:=by
 unfold tri;rw [List.reverse_append];simp [dg]
def allT(L:List Nat):List (List Nat):=(List.range (prodN L)).map (tri L)
theorem range_mul{α:Type}(f:Nat->Nat->α)(c:Nat)(hc:0<c):∀m,(List.range (m*c)).map (fun x=>f (x / c) (x % c))=(List.range m).flatMap fun q=>(List.range c).map (f q)
 | 0=>by simp
 | m+1=>by
  rw [Nat.succ_mul,List.range_add,List.map_append,range_mul f c hc m,List.range_succ,List.flatMap_append,List.map_map];congr 1
  simp only [List.flatMap_cons,List.flatMap_nil,List.append_nil];refine List.map_congr_left fun x hx=> ?_;have hx:=List.mem_range.mp hx;show f ((m*c+x) / c) ((m*c+x) % c)=f m x;rw [Nat.mul_comm m c,Nat.mul_add_div hc,Nat.mul_add_mod,Nat.mod_eq_of_lt hx,Nat.div_eq_of_lt hx,Nat.add_zero]
theorem allT_snoc(L:List Nat)(c:Nat)(hc:0<c):allT (L ++ [c])=(allT L).flatMap fun t=>(List.range c).map fun s=>t ++ [s]:=by
 unfold allT
 have e:(List.range (prodN (L ++ [c]))).map (tri (L ++ [c]))=(List.range (prodN L*c)).map (fun x=>(fun q s=>tri L q ++ [s]) (x / c) (x % c)):=by
  rw [prodN_app];simp only [prodN,Nat.mul_one];exact List.map_congr_left fun x _=>tri_snoc L c x
 rw [e,range_mul (fun q s=>tri L q ++ [s]) c hc,List.flatMap_map]
end Tr
namespace Ev
abbrev Wd:=List Nat
def ch(c x:Wd):Wd:=c.map fun d=>x.getD d 0
def count(T:List Wd)(c k:Wd):Nat:=(T.filter fun x=>decide (ch c x=k)).length
theorem nd_len{α:Type} [DecidableEq α]:∀ {l₁ l₂:List α},l₁.Nodup->(∀a ∈ l₁,a ∈ l₂)->l₁.length<=l₂.length
 | [],_,_,_=>Nat.zero_le _
 | a::l₁,l₂,hn,hs=>by
  obtain ⟨h1,h2⟩:=List.nodup_cons.mp hn;have ha:=hs a List.mem_cons_self;have ih:=nd_len (l₁:=l₁) (l₂:=l₂.erase a) h2 fun b hb=>(List.mem_erase_of_ne (by rintro rfl;exact h1 hb)).mpr (hs b (List.mem_cons_of_mem _ hb));rw [List.length_erase_of_mem ha] at ih
  have:=List.length_pos_of_mem ha;rw [List.length_cons];omega
theorem nd_all{α:Type} [DecidableEq α] {l₁ l₂:List α} (hn:l₁.Nodup) (hs:∀a ∈ l₁,a ∈ l₂) (hl:l₂.length<=l₁.length):∀a ∈ l₂,a ∈ l₁:=fun a ha=>by
 refine Classical.byContradiction fun c=> ?_
 have:=nd_len (l₁:=a::l₁) (l₂:=l₂) (List.nodup_cons.mpr ⟨c,hn⟩) fun b hb=>by
  rcases List.mem_cons.mp hb with rfl | hb
  . exact ha
  . exact hs b hb
 rw [List.length_cons] at this
 omega
def fst(c:Wd):Nat:=match c.getLast? with
 | none=>0
 | some l=>l+1
def nx(n:Nat)(c:Wd):List Wd:=(List.range (n - fst c)).map fun i=>c ++ [fst c+i]
def CB(n:Nat):Nat->List Wd
 | 0=> [[]]
 | j+1=>(CB n j).flatMap (nx n)
theorem flat_le{α β:Type}{f:α->List β}{n:Nat}(h:∀a,(f a).length<=n):∀l:List α,(l.flatMap f).length<=l.length*n
 | []=>by simp
 | a::l=>by
  have:=flat_le h l;have:=h a;rw [List.flatMap_cons,List.length_append,List.length_cons,Nat.succ_mul];omega
end Ev
namespace Lat
open Ev
theorem nodup_of{α:Type} [DecidableEq α]:∀ {l₂ l₁:List α},l₁.Nodup->(∀a ∈ l₁,a ∈ l₂)->l₂.length<=l₁.length->l₂.Nodup
 | [],_,_,_,_=>List.nodup_nil
 | b::r,l₁,hn,hs,hl=>by
  rw [List.length_cons] at hl
  by_cases hb:b ∈ r
  . have := nd_len hn fun a ha => by
     rcases List.mem_cons.mp (hs a ha) with rfl | h
     . exact hb
     . exact h
    omega
  . refine List.nodup_cons.mpr ⟨hb,?_⟩
    by_cases h1:b ∈ l₁
    . refine nodup_of (l₁:=l₁.erase b) (hn.erase b) (fun a ha=> ?_) ?_
      . have ha':=List.mem_of_mem_erase ha;rcases List.mem_cons.mp (hs a ha') with rfl | h
        . exact absurd ha (List.Nodup.not_mem_erase hn)
        . exact h
      . rw [List.length_erase_of_mem h1];omega
    . have := nd_len hn fun a ha => by
       rcases List.mem_cons.mp (hs a ha) with rfl | h
       . exact absurd ha h1
       . exact h
      omega
theorem nd_map{α β:Type}{f:α->β}:∀ {l:List α},l.Nodup->(∀a ∈ l,∀b ∈ l,f a=f b->a=b)->(l.map f).Nodup
 | [],_,_=>List.nodup_nil
 | x::l,h,hi=>by
  obtain ⟨h1,h2⟩:=List.nodup_cons.mp h;rw [List.map_cons];refine List.nodup_cons.mpr ⟨fun m=> ?_,nd_map h2 fun a ha b hb=>hi a (List.mem_cons_of_mem _ ha) b (List.mem_cons_of_mem _ hb)⟩;obtain ⟨y,hy,e⟩:=List.mem_map.mp m;have:=hi y (List.mem_cons_of_mem _ hy) x List.mem_cons_self e;subst this;exact h1 hy
abbrev Sq:=List (List Nat)
def at_(s:Sq)(i j:Nat):Nat:=(s.getD i []).getD j 0
structure Ok (n:Nat) (s:Sq):Prop where
 len:s.length=n
 row:∀r ∈ s,r.length=n
 lt:∀i j,i<n->j<n->at_ s i j<n
 rows:∀i j j',i<n->j<n->j'<n->at_ s i j=at_ s i j'->j=j'
 cols:∀i i' j,i<n->i'<n->j<n->at_ s i j=at_ s i' j->i=i'
def places(n:Nat):List Wd:=(List.range n).flatMap fun i=>(List.range n).map fun j=> [i,j]
theorem mem_places{n:Nat}{p:Wd}:p ∈ places n↔∃i j,i<n/\j<n/\p = [i,j]:=by
 unfold places;rw [List.mem_flatMap]
 constructor
 . rintro ⟨i,hi,h⟩;obtain ⟨j,hj,rfl⟩:=List.mem_map.mp h;exact ⟨i,j,List.mem_range.mp hi,List.mem_range.mp hj,rfl⟩
 . rintro ⟨i,j,hi,hj,rfl⟩;exact ⟨i,List.mem_range.mpr hi,List.mem_map.mpr ⟨j,List.mem_range.mpr hj,rfl⟩⟩
theorem places_all(n:Nat)(hn:0<n):Tr.allT [n,n]=places n:=by
 have e1:Tr.allT [n]=(List.range n).map fun s=> [s]:=by
  have:=Tr.allT_snoc [] n hn;rw [List.nil_append] at this
  rw [this];have e0:Tr.allT [] = [[]]:=rfl;rw [e0];simp
 have:=Tr.allT_snoc [n] n hn;rw [show [n] ++ [n] = [n,n] from rfl] at this
 rw [this,e1,List.flatMap_map];rfl
theorem places_len(n:Nat)(hn:0<n):(places n).length=n*n:=by
 rw [<-places_all n hn];unfold Tr.allT;rw [List.length_map,List.length_range];simp [Tr.prodN]
def prs(n:Nat)(s s':Sq):List Wd:=(places n).map fun p=> [at_ s (p.getD 0 0) (p.getD 1 0),at_ s' (p.getD 0 0) (p.getD 1 0)]
def mk(n:Nat)(f:Nat->Nat->Nat):Sq:=(List.range n).map fun i=>(List.range n).map fun j=>f i j
theorem mk_at{n:Nat}{f:Nat->Nat->Nat}{i j:Nat}(hi:i<n)(hj:j<n):at_ (mk n f) i j=f i j:=by
 unfold at_ mk;simp [List.getD,List.getElem?_map,hi,hj]
theorem mk_ok{n:Nat}{f:Nat->Nat->Nat}(lt:∀i j,i<n->j<n->f i j<n)(rows:∀i j j',i<n->j<n->j'<n->f i j=f i j'->j=j')(cols:∀i i' j,i<n->i'<n->j<n->f i j=f i' j->i=i'):Ok n (mk n f) where
 len:=by unfold mk;simp
 row:=fun r hr=>by
  obtain ⟨i,_,rfl⟩:=List.mem_map.mp hr;simp
 lt:=fun i j hi hj=>by rw [mk_at hi hj];exact lt i j hi hj
 rows:=fun i j j' hi hj hj' e=>by rw [mk_at hi hj,mk_at hi hj'] at e;exact rows i j j' hi hj hj' e
 cols:=fun i i' j hi hi' hj e=>by rw [mk_at hi hj,mk_at hi' hj] at e;exact cols i i' j hi hi' hj e
theorem add_mod{n i j j':Nat}(hj:j<n)(hj':j'<n)(e:(i+j) % n=(i+j') % n):j=j':=by
 have h:=Nat.sub_mod_eq_zero_of_mod_eq e;have h':=Nat.sub_mod_eq_zero_of_mod_eq e.symm;rw [Nat.add_sub_add_left] at h h'
 have a1:j - j'=0:=by rw [<-h];exact (Nat.mod_eq_of_lt (by omega)).symm
 have a2:j' - j=0:=by rw [<-h'];exact (Nat.mod_eq_of_lt (by omega)).symm
 omega
theorem get_inj{l:List Nat}(h:l.Nodup){i j:Nat}(hi:i<l.length)(hj:j<l.length)(e:l.getD i 0=l.getD j 0):i=j:=by
 rw [List.getD,List.getD,List.getElem?_eq_getElem hi,List.getElem?_eq_getElem hj] at e
 have e:l[i]=l[j]:=e;rcases Nat.lt_trichotomy i j with h1 | h1 | h1
 . exact absurd e (List.pairwise_iff_getElem.mp h i j hi hj h1)
 . exact h1
 . exact absurd e.symm (List.pairwise_iff_getElem.mp h j i hj hi h1)
end Lat
namespace Lat
open Ev
theorem mul_inj{n d i i':Nat}(hg:Nat.gcd n d=1)(hi:i<n)(hi':i'<n)(e:(d*i) % n=(d*i') % n):i=i':=by
 have key:∀i i':Nat,i'<=i->i<n->(d*i) % n=(d*i') % n->i=i':=fun i i' hl hi e=>by
  have h:=Nat.sub_mod_eq_zero_of_mod_eq e;rw [<-Nat.mul_sub] at h
  have dv:n ∣ d*(i - i'):=Nat.dvd_of_mod_eq_zero h;have dv2:n ∣ i - i':=Nat.Coprime.dvd_of_dvd_mul_left hg dv;have z:i - i'=0:=Nat.eq_zero_of_dvd_of_lt dv2 (by omega);omega
 rcases Nat.le_total i i' with h | h
 . exact (key i' i h hi' e.symm).symm
 . exact key i i' h hi e
theorem add_mod'{n x x' y y':Nat}(hn:0<n)(e:(x+y) % n=(x'+y') % n)(ex:x % n=x' % n):y % n=y' % n:=by
 rw [Nat.add_mod,Nat.add_mod x',ex] at e
 exact add_mod (Nat.mod_lt _ hn) (Nat.mod_lt _ hn) e
theorem gen_ok{n a:Nat}{l:List Nat}(hn:0<n)(hg:Nat.gcd n a=1)(hl:l.length=n)(nd:l.Nodup)(lt:∀x ∈ l,x<n):Ok n (mk n fun i j=>l.getD ((a*i+j) % n) 0):=by
 have m:∀x,x % n<l.length:=fun x=>by rw [hl];exact Nat.mod_lt _ hn
 refine mk_ok (fun i j _ _=> ?_) (fun i j j' _ hj hj' e=> ?_) fun i i' j hi hi' _ e=> ?_
 . rw [List.getD,List.getElem?_eq_getElem (m _)];exact lt _ (List.getElem_mem _)
 . exact add_mod hj hj' (get_inj nd (m _) (m _) e)
 . have e:=get_inj nd (m _) (m _) e;rw [Nat.add_comm (a*i),Nat.add_comm (a*i')] at e
   exact mul_inj hg hi hi' (add_mod' hn e rfl)
theorem split{m x w x' w':Nat}(hw:w<m)(hw':w'<m)(e:m*x+w=m*x'+w'):x=x'/\w=w':=by
 have h1:(m*x+w) / m=x:=by rw [Nat.mul_add_div (by omega),Nat.div_eq_of_lt hw];rfl
 have h2:(m*x'+w') / m=x':=by rw [Nat.mul_add_div (by omega),Nat.div_eq_of_lt hw'];rfl
 have:x=x':=by rw [<-h1, <-h2,e]
 subst this;exact ⟨rfl,by omega⟩
end Lat
namespace K83
noncomputable section
open PySem L2 Tf Dm
def top (i : Nat) : Stmt := PySem.Challenge.pw_trialfield_k83_squares.main.body.getD i (.Pass ⟨0, 0, 0, 0⟩)
structure Bl (mg:Str->Option Value):Prop where
 all:mg "all" = none
 any:mg "any" = none
 bool:mg "bool" = none
 int:mg "int" = none
 isinstance:mg "isinstance" = none
 len:mg "len" = none
 list:mg "list" = none
 range:mg "range" = none
 reversed:mg "reversed" = none
 sorted:mg "sorted" = none
 tuple:mg "tuple" = none
abbrev s_q14:Stmt:=top 1
theorem sc_q14:FnScope ["numbers","product","number"] ["numbers"] (defScope s_q14):=⟨rfl,rfl,rfl,by decide +kernel,rfl,by decide +kernel,by decide +kernel⟩
abbrev s_q16:Stmt:=top 2
theorem sc_q16:FnScope ["levels","place","steps","count"] ["levels","place"] (defScope s_q16):=⟨rfl,rfl,rfl,by decide +kernel,rfl,by decide +kernel,by decide +kernel⟩
abbrev s_q8:Stmt:=top 3
theorem sc_q8:FnScope ["levels"] ["levels"] (defScope s_q8):=⟨rfl,rfl,rfl,by decide +kernel,rfl,by decide +kernel,by decide +kernel⟩
abbrev s_q11:Stmt:=top 5
theorem sc_q11:FnScope ["table"] ["table"] (defScope s_q11):=⟨rfl,rfl,rfl,by decide +kernel,rfl,by decide +kernel,by decide +kernel⟩
abbrev s_q9:Stmt:=top 7
theorem sc_q9:FnScope ["numbers"] ["numbers"] (defScope s_q9):=⟨rfl,rfl,rfl,by decide +kernel,rfl,by decide +kernel,by decide +kernel⟩
abbrev s_q10:Stmt:=top 8
theorem sc_q10:FnScope ["rows"] ["rows"] (defScope s_q10):=⟨rfl,rfl,rfl,by decide +kernel,rfl,by decide +kernel,by decide +kernel⟩
abbrev s_q13:Stmt:=top 9
theorem sc_q13:FnScope ["n"] ["n"] (defScope s_q13):=⟨rfl,rfl,rfl,by decide +kernel,rfl,by decide +kernel,by decide +kernel⟩
abbrev s_q12:Stmt:=top 10
theorem sc_q12:FnScope ["square","place"] ["square","place"] (defScope s_q12):=⟨rfl,rfl,rfl,by decide +kernel,rfl,by decide +kernel,by decide +kernel⟩
abbrev s_q15:Stmt:=top 11
theorem sc_q15:FnScope ["one","other","places","place","pair"] ["one","other"] (defScope s_q15):=⟨rfl,rfl,rfl,by decide +kernel,rfl,by decide +kernel,by decide +kernel⟩
abbrev s_q7:Stmt:=top 13
theorem sc_q7:FnScope ["_law_found"] ["_law_found"] (defScope s_q7):=⟨rfl,rfl,rfl,by decide +kernel,rfl,by decide +kernel,by decide +kernel⟩
abbrev s_q2:Stmt:=top 14
theorem sc_q2:FnScope ["_law_cell","_law_j","_law_number"] ["_law_cell","_law_j"] (defScope s_q2):=⟨rfl,rfl,rfl,by decide +kernel,rfl,by decide +kernel,by decide +kernel⟩
abbrev s_q3:Stmt:=top 15
theorem sc_q3:FnScope ["_law_n","_law_cell","_law_far","_law_some","_law_found","_law_k"] ["_law_n","_law_cell","_law_far"] (defScope s_q3):=⟨rfl,rfl,rfl,by decide +kernel,rfl,by decide +kernel,by decide +kernel⟩
abbrev s_q6:Stmt:=top 16
theorem sc_q6:FnScope ["_law_n","_law_cell","_law_a","_law_by","_law_rows","_law_columns","_law_numbers"] ["_law_n","_law_cell"] (defScope s_q6):=⟨rfl,rfl,rfl,by decide +kernel,rfl,by decide +kernel,by decide +kernel⟩
abbrev s_q0:Stmt:=top 17
theorem sc_q0:FnScope ["_law_square_here","_law_cell","_law_n","_law_found","_law_i","_law_j","_law_way","_law_other"] ["_law_square_here","_law_cell"] (defScope s_q0):=⟨rfl,rfl,rfl,by decide +kernel,rfl,by decide +kernel,by decide +kernel⟩
abbrev s_q1:Stmt:=top 18
theorem sc_q1:FnScope ["_law_rows","_law_n","_law_row","_law_j","_law_k"] ["_law_rows"] (defScope s_q1):=⟨rfl,rfl,rfl,by decide +kernel,rfl,by decide +kernel,by decide +kernel⟩
abbrev s_q4:Stmt:=top 19
theorem sc_q4:FnScope ["_law_one","_law_other","_law_found","_law_i","_law_j"] ["_law_one","_law_other"] (defScope s_q4):=⟨rfl,rfl,rfl,by decide +kernel,rfl,by decide +kernel,by decide +kernel⟩
abbrev s_q5:Stmt:=top 20
theorem sc_q5:FnScope ["_law_one","_law_other","_law_kept","_law_found","_law_pairs_here","_law_spots"] ["_law_one","_law_other"] (defScope s_q5):=⟨rfl,rfl,rfl,by decide +kernel,rfl,by decide +kernel,by decide +kernel⟩
abbrev s_law:Stmt:=top 21
theorem sc_law:FnScope ["_law_script","_law_last","_law_cell","_law_n","_law_square_here","_law_bent_here","_law_rows","_law_kept","_law_found"] ["_law_script"] (defScope s_law):=⟨rfl,rfl,rfl,by decide +kernel,rfl,by decide +kernel,by decide +kernel⟩
section
variable {P:Program} {w:World} {K:PySem.W.Frag} {mg:Str->Option Value} {base:Heap} {f:Addr} {fd:FuncData}
def b_q14 : En -> Option Out :=
 (mSeq (mAsg 1 (mK (.int 1)))
 (mSeq (mFor (mItemsS (mVar 0)) (gVar 2) (mAsg 1 (mBin dRep (mPk 1) (mPk 2))))
 (mRet (mPk 1))))
def m_q14:List PyData->Option Sl:=runD 3 b_q14 1
theorem ok_q14 (B:Bl mg) (F:Fun K "product_of" "product_of" s_q14 f fd):FnOk P w K mg base CX0 1 f fd ["numbers"] (spD K m_q14):=by
 have sc:=sc_q14
 exact fnD F sc_q14 rfl rfl fun cdv A outer s H E hr=>
  (dss_cons (ds_set 1 de_int sc.nd)
  (dss_cons (ds_for PassesOwn.never (di_seq (de_var 0)) (dg_name 2 sc.nd) (dss_one (ds_set 1 (de_mul (dp_var 1) (dp_var 2)) sc.nd)))
  (dss_one (ds_retV 1))))
def b_q16 : En -> Option Out :=
 (mSeq (mAsg 2 (mLst mNil))
 (mSeq (mFor (mRevI (mCons (mVar 0) mNil)) (gVar 3) (mSeq (mApp 2 (mBin dMod (mPk 1) (mPk 3)))
 (mAsg 1 (mBin dFdiv (mPk 1) (mPk 3)))))
 (mRet (mCallP dTupRev (mConsP (mPk 2) mNilP)))))
def m_q16:List PyData->Option Sl:=runD 4 b_q16 2
theorem ok_q16 (B:Bl mg) (F:Fun K "trial_at" "trial_at" s_q16 f fd):FnOk P w K mg base CX0 1 f fd ["levels","place"] (spD K m_q16):=by
 have sc:=sc_q16
 exact fnD F sc_q16 rfl rfl fun cdv A outer s H E hr=>
  (dss_cons (ds_set 2 (de_lst da_nil) sc.nd)
  (dss_cons (ds_for PassesOwn.never (di_rev B.reversed (da_cons (de_var 0) da_nil)) (dg_name 3 sc.nd) (dss_cons (ds_app 2 (de_mod (dp_var 1) (dp_var 3)))
  (dss_one (ds_set 1 (de_fdiv (dp_var 1) (dp_var 3)) sc.nd))))
  (dss_one (ds_ret (de_tupRev B.reversed B.tuple (dq_cons (dp_var 2) dq_nil))))))
def b_q8 : En -> Option Out :=
 (mRet (mLC (subE [some 0,none]) (mRng1 (mConsP (mCall m_q14 (mCons (mVar 0) mNil)) mNilP)) (gVar 1) mYes (mCall m_q16 (mCons (mVar 0) (mCons (mVar 1) mNil)))))
def m_q8:List PyData->Option Sl:=runD 1 b_q8 1
theorem ok_q8 (B:Bl mg) (D_q14:Def P w K mg base 1 "product_of" ["numbers"] (spD K m_q14)) (D_q16:Def P w K mg base 1 "trial_at" ["levels","place"] (spD K m_q16)) (F:Fun K "all_trials" "all_trials" s_q8 f fd):FnOk P w K mg base CX0 2 f fd ["levels"] (spD K m_q8):=by
 have sc:=sc_q8
 exact fnD F sc_q8 rfl rfl fun cdv A outer s H E hr=>
  (dss_one (ds_ret (de_lc (N':= ["levels","place"]) (R':=PR K) cx_scope1 cx_names1 [some 0,none] (subE [some 0,none]) pr_sub (di_range1 B.range (dq_cons (DE.dp (de_call D_q14 hr (da_cons (de_var 0) da_nil))) dq_nil)) (fun _=>(dgk_name 1 (show List.Nodup (α:=Str) ["levels","place"] by decide +kernel))) (fun _=>dts_nil) (fun _=>(de_call D_q16 hr (da_cons (de_var 0) (da_cons (de_var 1) da_nil)))))))
def b_q11 : En -> Option Out :=
 (mRet (mLC (subE [some 0,none]) (mRng1 (mConsP (mCallP dLen (mConsP (mBin dix (mPk 0) (mK (.int 0))) mNilP)) mNilP)) (gVar 1) mYes (mLC (subE [some 1,none]) (mItemsS (mVar 0)) (gVar 1) mYes (mBin dix (mPk 1) (mPk 0)))))
def m_q11:List PyData->Option Sl:=runD 1 b_q11 1
theorem ok_q11 (B:Bl mg) (F:Fun K "laid_over" "laid_over" s_q11 f fd):FnOk P w K mg base CX0 1 f fd ["table"] (spD K m_q11):=by
 have sc:=sc_q11
 exact fnD F sc_q11 rfl rfl fun cdv A outer s H E hr=>
  (dss_one (ds_ret (de_lc (N':= ["table","k"]) (R':=PR K) cx_scope1 cx_names1 [some 0,none] (subE [some 0,none]) pr_sub (di_range1 B.range (dq_cons (DE.dp (de_blt call_len_seq cd_len bt_len B.len (dq_cons (DE.dp (de_ix (dp_var 0) (DE.dp de_int))) dq_nil))) dq_nil)) (fun _=>(dgk_name 1 (show List.Nodup (α:=Str) ["table","k"] by decide +kernel))) (fun _=>dts_nil) (fun _=>(de_lc (N':= ["k","row"]) (R':=PR K) cxC_scope cxC_names [some 1,none] (subE [some 1,none]) pr_sub (di_seq (de_var 0)) (fun _=>(dgk_name 1 (show List.Nodup (α:=Str) ["k","row"] by decide +kernel))) (fun _=>dts_nil) (fun _=>(de_ix (dp_var 1) (dp_var 0))))))))
def b_q9 : En -> Option Out :=
 (mSeq (mIf (mTest (mCallP dAny (mConsP (mLC (subE [none]) (mItemsS (mVar 0)) (gVar 0) mYes (mIsi "bool" (mPk 0))) mNilP))) (mRet (mK (.bool false))) mNext)
 (mRet (mBin deq (mCallP dSorted (mConsP (mPk 0) mNilP)) (mLR (mCallP dLen (mConsP (mPk 0) mNilP))))))
def m_q9:List PyData->Option Sl:=runD 1 b_q9 1
theorem ok_q9 (B:Bl mg) (F:Fun K "has_each_once" "has_each_once" s_q9 f fd):FnOk P w K mg base CX0 1 f fd ["numbers"] (spD K m_q9):=by
 have sc:=sc_q9
 exact fnD F sc_q9 rfl rfl fun cdv A outer s H E hr=>
  (dss_cons (ds_if (dt_val (DE.dp (de_blt (call_any rfl) cd_any bt_any B.any (dq_cons (DE.dp (de_lc (N':= ["number"]) (R':=PR K) cx_scope1 cx_names1 [none] (subE [none]) pr_sub (di_seq (de_var 0)) (fun _=>(dgk_name 0 (show List.Nodup (α:=Str) ["number"] by decide +kernel))) (fun _=>dts_nil) (fun _=>(de_isi bt_bool B.bool B.isinstance (dp_var 0))))) dq_nil)))) (dss_one (ds_ret de_bool)) dss_nil)
  (dss_one (ds_ret (de_eq hr.units (DE.dp (de_blt call_sorted cd_sorted bt_sorted B.sorted (dq_cons (dp_var 0) dq_nil))) (DE.dp (de_LR B.list B.range (DE.dp (de_blt call_len_seq cd_len bt_len B.len (dq_cons (dp_var 0) dq_nil)))))))))
def b_q10 : En -> Option Out :=
 (mSeq (mIf (mTest (mCallP dAny (mConsP (mLC (subE [some 0,none]) (mItemsS (mVar 0)) (gVar 1) mYes (mBin dne (mCallP dLen (mConsP (mPk 1) mNilP)) (mCallP dLen (mConsP (mPk 0) mNilP)))) mNilP))) (mRet (mK (.bool false))) mNext)
 (mRet (mCallP dAll (mConsP (mLC (subE [none]) (mItemsS (mBin dAdd (mPk 0) (mCall m_q11 (mCons (mVar 0) mNil)))) (gVar 0) mYes (mCall m_q9 (mCons (mVar 0) mNil))) mNilP))))
def m_q10:List PyData->Option Sl:=runD 1 b_q10 1
theorem ok_q10 (B:Bl mg) (D_q11:Def P w K mg base 1 "laid_over" ["table"] (spD K m_q11)) (D_q9:Def P w K mg base 1 "has_each_once" ["numbers"] (spD K m_q9)) (F:Fun K "is_square" "is_square" s_q10 f fd):FnOk P w K mg base CX0 2 f fd ["rows"] (spD K m_q10):=by
 have sc:=sc_q10
 exact fnD F sc_q10 rfl rfl fun cdv A outer s H E hr=>
  (dss_cons (ds_if (dt_val (DE.dp (de_blt (call_any rfl) cd_any bt_any B.any (dq_cons (DE.dp (de_lc (N':= ["rows","row"]) (R':=PR K) cx_scope1 cx_names1 [some 0,none] (subE [some 0,none]) pr_sub (di_seq (de_var 0)) (fun _=>(dgk_name 1 (show List.Nodup (α:=Str) ["rows","row"] by decide +kernel))) (fun _=>dts_nil) (fun _=>(de_ne hr.units (DE.dp (de_blt call_len_seq cd_len bt_len B.len (dq_cons (dp_var 1) dq_nil))) (DE.dp (de_blt call_len_seq cd_len bt_len B.len (dq_cons (dp_var 0) dq_nil))))))) dq_nil)))) (dss_one (ds_ret de_bool)) dss_nil)
  (dss_one (ds_ret (de_blt (call_all rfl) cd_all bt_all B.all (dq_cons (DE.dp (de_lc (N':= ["numbers"]) (R':=PR K) cx_scope1 cx_names1 [none] (subE [none]) pr_sub (di_seq (de_add (dp_var 0) (DE.dp (de_call D_q11 hr (da_cons (de_var 0) da_nil))))) (fun _=>(dgk_name 0 (show List.Nodup (α:=Str) ["numbers"] by decide +kernel))) (fun _=>dts_nil) (fun _=>(de_call D_q9 hr (da_cons (de_var 0) da_nil))))) dq_nil)))))
def b_q13 : En -> Option Out :=
 (mRet (mCall m_q8 (mCons (mLst (mCons (mVar 0) (mCons (mVar 0) mNil))) mNil)))
def m_q13:List PyData->Option Sl:=runD 1 b_q13 1
theorem ok_q13 (B:Bl mg) (D_q8:Def P w K mg base 2 "all_trials" ["levels"] (spD K m_q8)) (F:Fun K "places_of" "places_of" s_q13 f fd):FnOk P w K mg base CX0 3 f fd ["n"] (spD K m_q13):=by
 have sc:=sc_q13
 exact fnD F sc_q13 rfl rfl fun cdv A outer s H E hr=>
  (dss_one (ds_ret (de_call D_q8 hr (da_cons (de_lst (da_cons (de_var 0) (da_cons (de_var 0) da_nil))) da_nil))))
def b_q12 : En -> Option Out :=
 (mRet (mBin dix (mBin dix (mPk 0) (mBin dix (mPk 1) (mK (.int 0)))) (mBin dix (mPk 1) (mK (.int 1)))))
def m_q12:List PyData->Option Sl:=runD 2 b_q12 2
theorem ok_q12 (B:Bl mg) (F:Fun K "number_at" "number_at" s_q12 f fd):FnOk P w K mg base CX0 1 f fd ["square","place"] (spD K m_q12):=by
 have sc:=sc_q12
 exact fnD F sc_q12 rfl rfl fun cdv A outer s H E hr=>
  (dss_one (ds_ret (de_ix (DE.dp (de_ix (dp_var 0) (DE.dp (de_ix (dp_var 1) (DE.dp de_int))))) (DE.dp (de_ix (dp_var 1) (DE.dp de_int))))))
def b_q15 : En -> Option Out :=
 (mSeq (mAsg 2 mDNew)
 (mSeq (mFor (mItemsS (mCall m_q13 (mCons (mCallP dLen (mConsP (mPk 0) mNilP)) mNil))) (gVar 3) (mSeq (mAsg 4 (mTup (mCons (mCall m_q12 (mCons (mVar 0) (mCons (mVar 3) mNil))) (mCons (mCall m_q12 (mCons (mVar 1) (mCons (mVar 3) mNil))) mNil))))
 (mSeq (mIf (mTest (mBin (dDIn false) (mPk 4) (mPk 2))) (mRet (mTup (mCons (mK (.str "twice")) (mCons (mBin dDGet (mPk 2) (mPk 4)) (mCons (mVar 3) mNil))))) mNext)
 (mDSet 2 (mPk 4) (mVar 3)))))
 (mRet (mTup (mCons (mK (.str "right")) mNil)))))
def m_q15:List PyData->Option Sl:=runD 5 b_q15 2
theorem ok_q15 (B:Bl mg) (D_q13:Def P w K mg base 3 "places_of" ["n"] (spD K m_q13)) (D_q12:Def P w K mg base 1 "number_at" ["square","place"] (spD K m_q12)) (F:Fun K "right_angles" "right_angles" s_q15 f fd):FnOk P w K mg base CX0 4 f fd ["one","other"] (spD K m_q15):=by
 have sc:=sc_q15
 exact fnD F sc_q15 rfl rfl fun cdv A outer s H E hr=>
  (dss_cons (ds_set 2 de_dnew sc.nd)
  (dss_cons (ds_for PassesOwn.never (di_seq (de_call D_q13 hr (da_cons (de_blt call_len_seq cd_len bt_len B.len (dq_cons (dp_var 0) dq_nil)) da_nil))) (dg_name 3 sc.nd) (dss_cons (ds_set 4 (de_tup (da_cons (de_call D_q12 hr (da_cons (de_var 0) (da_cons (de_var 3) da_nil))) (da_cons (de_call D_q12 hr (da_cons (de_var 1) (da_cons (de_var 3) da_nil))) da_nil))) sc.nd)
  (dss_cons (ds_if (dt_din (hu_of hr) (dp_var 4) (dp_var 2)) (dss_one (ds_ret (de_tup (da_cons de_str (da_cons (de_dget (hu_of hr) (dp_var 2) (dp_var 4)) (da_cons (de_var 3) da_nil)))))) dss_nil)
  (dss_one (ds_dset (hu_of hr) 2 (dp_var 4) (de_var 3))))))
  (dss_one (ds_ret (de_tup (da_cons de_str da_nil))))))
def b_q7 : En -> Option Out :=
 (mRet (mAndV (mIsi "int" (mPk 0)) (mNotV (mIsi "bool" (mPk 0)))))
def m_q7:List PyData->Option Sl:=runD 1 b_q7 1
theorem ok_q7 (B:Bl mg) (F:Fun K "_law_whole" "_law_whole" s_q7 f fd):FnOk P w K mg base CX0 1 f fd ["_law_found"] (spD K m_q7):=by
 have sc:=sc_q7
 exact fnD F sc_q7 rfl rfl fun cdv A outer s H E hr=>
  (dss_one (ds_ret (de_and (de_isi bt_int B.int B.isinstance (dp_var 0)) (de_and1 (de_not (de_isi bt_bool B.bool B.isinstance (dp_var 0)))))))
def b_q2 : En -> Option Out :=
 (mSeq (mIf (mTest (mBin deq (mBin dMod (mPk 0) (mK (.int 2))) (mK (.int 1)))) (mRet (mBin dMod (mBin dShr (mPk 0) (mBin dAdd (mK (.int 1)) (mBin dRep (mK (.int 10)) (mPk 1)))) (mK (.int 1024)))) mNext)
 (mSeq (mAsg 2 (mBin dMod (mBin dAdd (mBin dRep (mPk 0) (mBin dAdd (mBin dRep (mK (.int 2)) (mPk 1)) (mK (.int 3)))) (mPk 1)) (mK (.int 2147483629))))
 (mSeq (mAsg 2 (mBin dMod (mBin dRep (mBin dAdd (mBin dRep (mPk 2) (mPk 2)) (mK (.int 1))) (mK (.int 48271))) (mK (.int 2147483629))))
 (mRet (mBin dMod (mBin dRep (mPk 2) (mPk 2)) (mK (.int 2147483587)))))))
def m_q2:List PyData->Option Sl:=runD 3 b_q2 2
theorem ok_q2 (B:Bl mg) (F:Fun K "_law_mix" "_law_mix" s_q2 f fd):FnOk P w K mg base CX0 1 f fd ["_law_cell","_law_j"] (spD K m_q2):=by
 have sc:=sc_q2
 exact fnD F sc_q2 rfl rfl fun cdv A outer s H E hr=>
  (dss_cons (ds_if (dt_eq hr.units (DE.dp (de_mod (dp_var 0) (DE.dp de_int))) (DE.dp de_int)) (dss_one (ds_ret (de_mod (DE.dp (de_shr (dp_var 0) (DE.dp (de_add (DE.dp de_int) (DE.dp (de_mul (DE.dp de_int) (dp_var 1))))))) (DE.dp de_int)))) dss_nil)
  (dss_cons (ds_set 2 (de_mod (DE.dp (de_add (DE.dp (de_mul (dp_var 0) (DE.dp (de_add (DE.dp (de_mul (DE.dp de_int) (dp_var 1))) (DE.dp de_int))))) (dp_var 1))) (DE.dp de_int)) sc.nd)
  (dss_cons (ds_set 2 (de_mod (DE.dp (de_mul (DE.dp (de_add (DE.dp (de_mul (dp_var 2) (dp_var 2))) (DE.dp de_int))) (DE.dp de_int))) (DE.dp de_int)) sc.nd)
  (dss_one (ds_ret (de_mod (DE.dp (de_mul (dp_var 2) (dp_var 2))) (DE.dp de_int)))))))
def b_q3 : En -> Option Out :=
 (mSeq (mAsg 3 (mLR (mPk 0)))
 (mSeq (mAsg 4 (mLst mNil))
 (mSeq (mFor (mRng1 (mConsP (mPk 0) mNilP)) (gVar 5) (mAppPop 4 3 (mBin dMod (mCall m_q2 (mCons (mVar 1) (mCons (mBin dAdd (mPk 2) (mPk 5)) mNil))) (mCallP dLen (mConsP (mPk 3) mNilP)))))
 (mRet (mPk 4)))))
def m_q3:List PyData->Option Sl:=runD 6 b_q3 3
theorem ok_q3 (B:Bl mg) (D_q2:Def P w K mg base 1 "_law_mix" ["_law_cell","_law_j"] (spD K m_q2)) (F:Fun K "_law_order" "_law_order" s_q3 f fd):FnOk P w K mg base CX0 2 f fd ["_law_n","_law_cell","_law_far"] (spD K m_q3):=by
 have sc:=sc_q3
 exact fnD F sc_q3 rfl rfl fun cdv A outer s H E hr=>
  (dss_cons (ds_set 3 (de_LR B.list B.range (dp_var 0)) sc.nd)
  (dss_cons (ds_set 4 (de_lst da_nil) sc.nd)
  (dss_cons (ds_for PassesOwn.never (di_range1 B.range (dq_cons (dp_var 0) dq_nil)) (dg_name 5 sc.nd) (dss_one (ds_appPop 4 3 (de_mod (DE.dp (de_call D_q2 hr (da_cons (de_var 1) (da_cons (de_add (dp_var 2) (dp_var 5)) da_nil)))) (DE.dp (de_blt call_len_seq cd_len bt_len B.len (dq_cons (dp_var 3) dq_nil)))))))
  (dss_one (ds_retV 4)))))
def b_q6 : En -> Option Out :=
 (mSeq (mAsg 2 (mBin dAdd (mK (.int 1)) (mBin dMod (mCall m_q2 (mCons (mVar 1) (mCons (mK (.int 2)) mNil))) (mPk 0))))
 (mSeq (mFrz 2 (mAsg 3 (mLst (mCons (mVar 0) (mCons (mVar 2) mNil)))))
 (mSeq (mWhile (mTest (mBin dne (mBin dix (mPk 3) (mK (.int 1))) (mK (.int 0)))) (mAsg 3 (mLst (mCons (mBin dix (mPk 3) (mK (.int 1))) (mCons (mBin dMod (mBin dix (mPk 3) (mK (.int 0))) (mBin dix (mPk 3) (mK (.int 1)))) mNil)))))
 (mSeq (mIf (mTest (mBin dne (mBin dix (mPk 3) (mK (.int 0))) (mK (.int 1)))) (mAsg 2 (mK (.int 1))) mNext)
 (mSeq (mAsg 4 (mCall m_q3 (mCons (mVar 0) (mCons (mVar 1) (mCons (mK (.int 10)) mNil)))))
 (mSeq (mAsg 5 (mCall m_q3 (mCons (mVar 0) (mCons (mVar 1) (mCons (mK (.int 20)) mNil)))))
 (mSeq (mAsg 6 (mCall m_q3 (mCons (mVar 0) (mCons (mVar 1) (mCons (mK (.int 30)) mNil)))))
 (mSeq (mIf (mTest (mBin dGt (mBin dMod (mCall m_q2 (mCons (mVar 1) (mCons (mK (.int 3)) mNil))) (mK (.int 3))) (mK (.int 0)))) (mSeq (mAsg 4 (mLR (mPk 0)))
 (mAsg 5 (mLR (mPk 0)))) mNext)
 (mFrz 4 (mFrz 5 (mRet (mLC (subE [some 5,some 6,some 2,some 0,none]) (mItemsS (mVar 4)) (gVar 4) mYes (mLC (subE [some 1,some 2,some 4,some 3,none]) (mItemsS (mVar 0)) (gVar 4) mYes (mBin dix (mPk 0) (mBin dMod (mBin dAdd (mBin dRep (mPk 1) (mPk 2)) (mPk 4)) (mPk 3))))))))))))))))
def m_q6:List PyData->Option Sl:=runD 7 b_q6 2
theorem ok_q6 (B:Bl mg) (D_q2:Def P w K mg base 1 "_law_mix" ["_law_cell","_law_j"] (spD K m_q2)) (D_q3:Def P w K mg base 2 "_law_order" ["_law_n","_law_cell","_law_far"] (spD K m_q3)) (F:Fun K "_law_square" "_law_square" s_q6 f fd):FnOk P w K mg base CX0 3 f fd ["_law_n","_law_cell"] (spD K m_q6):=by
 have sc:=sc_q6
 exact fnD F sc_q6 rfl rfl fun cdv A outer s H E hr=>
  (dss_cons (ds_set 2 (de_add (DE.dp de_int) (DE.dp (de_mod (DE.dp (de_call D_q2 hr (da_cons (de_var 1) (da_cons de_int da_nil)))) (dp_var 0)))) sc.nd)
  (dss_cons (ds_frz 2 (ds_set 3 (de_lst (da_cons (de_var 0) (da_cons (de_var 2) da_nil))) sc.nd))
  (dss_cons (ds_while PassesOwn.never (dt_ne hr.units (DE.dp (de_ix (dp_var 3) (DE.dp de_int))) (DE.dp de_int)) (dss_one (ds_set 3 (de_lst (da_cons (de_ix (dp_var 3) (DE.dp de_int)) (da_cons (de_mod (DE.dp (de_ix (dp_var 3) (DE.dp de_int))) (DE.dp (de_ix (dp_var 3) (DE.dp de_int)))) da_nil))) sc.nd)))
  (dss_cons (ds_if (dt_ne hr.units (DE.dp (de_ix (dp_var 3) (DE.dp de_int))) (DE.dp de_int)) (dss_one (ds_set 2 de_int sc.nd)) dss_nil)
  (dss_cons (ds_set 4 (de_call D_q3 hr (da_cons (de_var 0) (da_cons (de_var 1) (da_cons de_int da_nil)))) sc.nd)
  (dss_cons (ds_set 5 (de_call D_q3 hr (da_cons (de_var 0) (da_cons (de_var 1) (da_cons de_int da_nil)))) sc.nd)
  (dss_cons (ds_set 6 (de_call D_q3 hr (da_cons (de_var 0) (da_cons (de_var 1) (da_cons de_int da_nil)))) sc.nd)
  (dss_cons (ds_if (dt_gt (DE.dp (de_mod (DE.dp (de_call D_q2 hr (da_cons (de_var 1) (da_cons de_int da_nil)))) (DE.dp de_int))) (DE.dp de_int)) (dss_cons (ds_set 4 (de_LR B.list B.range (dp_var 0)) sc.nd)
  (dss_one (ds_set 5 (de_LR B.list B.range (dp_var 0)) sc.nd))) dss_nil)
  (dss_one (ds_frz 4 (ds_frz 5 (ds_ret (de_lc (N':= ["_law_columns","_law_numbers","_law_a","_law_n","_law_i"]) (R':=PR K) cx_scope1 cx_names1 [some 5,some 6,some 2,some 0,none] (subE [some 5,some 6,some 2,some 0,none]) pr_sub (di_seq (de_var 4)) (fun _=>(dgk_name 4 (show List.Nodup (α:=Str) ["_law_columns","_law_numbers","_law_a","_law_n","_law_i"] by decide +kernel))) (fun _=>dts_nil) (fun _=>(de_lc (N':= ["_law_numbers","_law_a","_law_i","_law_n","_law_j"]) (R':=PR K) cxC_scope cxC_names [some 1,some 2,some 4,some 3,none] (subE [some 1,some 2,some 4,some 3,none]) pr_sub (di_seq (de_var 0)) (fun _=>(dgk_name 4 (show List.Nodup (α:=Str) ["_law_numbers","_law_a","_law_i","_law_n","_law_j"] by decide +kernel))) (fun _=>dts_nil) (fun _=>(de_ix (dp_var 0) (DE.dp (de_mod (DE.dp (de_add (DE.dp (de_mul (dp_var 1) (dp_var 2))) (dp_var 4))) (dp_var 3))))))))))))))))))))
def b_q0 : En -> Option (List (List PyData)) :=
 (mSeqW (mAsg 2 (mCallP dLen (mConsP (mPk 0) mNilP)))
 (mRowsInW 3 (mLCW (subE [none]) (mItemsS (mVar 0)) (gVar 0) mYes (mCallP dList (mConsP (mPk 0) mNilP)))
 (mSeqW (mAsg 4 (mBin dMod (mCall m_q2 (mCons (mVar 1) (mCons (mK (.int 40)) mNil))) (mPk 2)))
 (mSeqW (mAsg 5 (mBin dMod (mCall m_q2 (mCons (mVar 1) (mCons (mK (.int 41)) mNil))) (mPk 2)))
 (mSeqW (mAsg 6 (mBin dMod (mCall m_q2 (mCons (mVar 1) (mCons (mK (.int 42)) mNil))) (mK (.int 9))))
 (mSeqW (mIf (mTest (mBin deq (mPk 6) (mK (.int 0)))) (mSetW 3 (mPk 4) (mPk 5) (mBin dMod (mCall m_q2 (mCons (mVar 1) (mCons (mK (.int 43)) mNil))) (mPk 2))) mNext)
 (mSeqW (mIf (mTest (mBin deq (mPk 6) (mK (.int 1)))) (mSeq (mAsg 7 (mBin dMod (mCall m_q2 (mCons (mVar 1) (mCons (mK (.int 44)) mNil))) (mPk 2)))
 (mSeq (mSetW 3 (mPk 4) (mPk 5) (mBin dix (mBin dix (mPk 0) (mPk 7)) (mPk 5)))
 (mSetW 3 (mPk 7) (mPk 5) (mBin dix (mBin dix (mPk 0) (mPk 4)) (mPk 5))))) mNext)
 (mSeqW (mIf (mAnd (mTest (mBin deq (mPk 6) (mK (.int 2)))) (mTest (mBin dGt (mPk 2) (mK (.int 1))))) (mPopTop 3 (mPk 4)) mNext)
 (mSeqW (mIf (mAnd (mTest (mBin deq (mPk 6) (mK (.int 3)))) (mTest (mBin dGt (mPk 2) (mK (.int 1))))) (mPopRow 3 (mPk 4) (mPk 5)) mNext)
 (mSeqW (mIf (mTest (mBin deq (mPk 6) (mK (.int 4)))) (mFrz 2 (mSetW 3 (mPk 4) (mPk 5) (mVar 2))) mNext)
 (mSeqW (mIf (mTest (mBin deq (mPk 6) (mK (.int 5)))) (mSetW 3 (mPk 4) (mPk 5) (mUn (iun fun i=> -i) (mK (.int 1)))) mNext)
 (mGiveW 3))))))))))))
def m_q0:List PyData->Option (List (List PyData)):=runW 8 b_q0 2
theorem ok_q0 (B:Bl mg) (D_q2:Def P w K mg base 1 "_law_mix" ["_law_cell","_law_j"] (spD K m_q2)) (F:Fun K "_law_bent" "_law_bent" s_q0 f fd):FnOk P w K mg base CX0 2 f fd ["_law_square_here","_law_cell"] (spW K m_q0):=by
 have sc:=sc_q0
 exact fnW F sc_q0 rfl rfl fun cdv A outer s H E hr=>
  (dsw_cons (ds_set 2 (de_blt call_len_seq cd_len bt_len B.len (dq_cons (dp_var 0) dq_nil)) sc.nd)
  (dsw_rowsC (N':= ["_law_row"]) (R':=PR K) rfl cx_scope1 cx_names1 3 [none] (subE [none]) pr_sub sc.nd (di_seq (de_var 0)) (fun _=>(dgk_name 0 (show List.Nodup (α:=Str) ["_law_row"] by decide +kernel))) (fun _=>dts_nil) (fun _=>(de_ty call_list_of cd_list bt_list B.list (dq_cons (dp_var 0) dq_nil)))
  (dww_cons rfl (ds_set 4 (de_mod (DE.dp (de_call D_q2 hr (da_cons (de_var 1) (da_cons de_int da_nil)))) (dp_var 2)) sc.nd)
  (dww_cons rfl (ds_set 5 (de_mod (DE.dp (de_call D_q2 hr (da_cons (de_var 1) (da_cons de_int da_nil)))) (dp_var 2)) sc.nd)
  (dww_cons rfl (ds_set 6 (de_mod (DE.dp (de_call D_q2 hr (da_cons (de_var 1) (da_cons de_int da_nil)))) (DE.dp de_int)) sc.nd)
  (dww_cons rfl (ds_if (dt_eq hr.units (dp_var 6) (DE.dp de_int)) (dss_one (ds_setW 3 rfl (de_mod (DE.dp (de_call D_q2 hr (da_cons (de_var 1) (da_cons de_int da_nil)))) (dp_var 2)) (dp_var 4) (dp_var 5))) dss_nil)
  (dww_cons rfl (ds_if (dt_eq hr.units (dp_var 6) (DE.dp de_int)) (dss_cons (ds_set 7 (de_mod (DE.dp (de_call D_q2 hr (da_cons (de_var 1) (da_cons de_int da_nil)))) (dp_var 2)) sc.nd)
  (dss_cons (ds_setW 3 rfl (de_ix (DE.dp (de_ix (dp_var 0) (dp_var 7))) (dp_var 5)) (dp_var 4) (dp_var 5))
  (dss_one (ds_setW 3 rfl (de_ix (DE.dp (de_ix (dp_var 0) (dp_var 4))) (dp_var 5)) (dp_var 7) (dp_var 5))))) dss_nil)
  (dww_cons rfl (ds_if (dt_w (dw_and (dt_eq hr.units (dp_var 6) (DE.dp de_int)) (dw_and1 (dt_gt (dp_var 2) (DE.dp de_int))))) (dss_one (ds_popTop 3 rfl (dp_var 4))) dss_nil)
  (dww_cons rfl (ds_if (dt_w (dw_and (dt_eq hr.units (dp_var 6) (DE.dp de_int)) (dw_and1 (dt_gt (dp_var 2) (DE.dp de_int))))) (dss_one (ds_popRow 3 rfl (dp_var 4) (dp_var 5))) dss_nil)
  (dww_cons rfl (ds_if (dt_eq hr.units (dp_var 6) (DE.dp de_int)) (dss_one (ds_frz 2 (ds_setW 3 rfl (de_var 2) (dp_var 4) (dp_var 5)))) dss_nil)
  (dww_cons rfl (ds_if (dt_eq hr.units (dp_var 6) (DE.dp de_int)) (dss_one (ds_setW 3 rfl (de_neg (DE.dp de_int)) (dp_var 4) (dp_var 5))) dss_nil)
  (dww_ret 3))))))))))))
def b_q1 : En -> Option Out :=
 (mSeq (mAsg 1 (mCallP dLen (mConsP (mPk 0) mNilP)))
 (mSeq (mFor (mItemsS (mVar 0)) (gVar 2) (mSeq (mIf (mTest (mBin dne (mCallP dLen (mConsP (mPk 2) mNilP)) (mPk 1))) (mRet (mK (.bool false))) mNext)
 (mFor (mRng1 (mConsP (mPk 1) mNilP)) (gVar 4) (mIf (mTest (mBin dne (mBin dCnt (mPk 2) (mPk 4)) (mK (.int 1)))) (mRet (mK (.bool false))) mNext))))
 (mSeq (mFor (mRng1 (mConsP (mPk 1) mNilP)) (gVar 3) (mFor (mRng1 (mConsP (mPk 1) mNilP)) (gVar 4) (mIf (mTest (mBin dne (mBin dCnt (mLC (subE [some 3,none]) (mItemsS (mVar 0)) (gVar 1) mYes (mBin dix (mPk 1) (mPk 0))) (mPk 4)) (mK (.int 1)))) (mRet (mK (.bool false))) mNext)))
 (mRet (mK (.bool true))))))
def m_q1:List PyData->Option Sl:=runD 5 b_q1 1
theorem ok_q1 (B:Bl mg) (F:Fun K "_law_is_square" "_law_is_square" s_q1 f fd):FnOk P w K mg base CX0 1 f fd ["_law_rows"] (spD K m_q1):=by
 have sc:=sc_q1
 exact fnD F sc_q1 rfl rfl fun cdv A outer s H E hr=>
  (dss_cons (ds_set 1 (de_blt call_len_seq cd_len bt_len B.len (dq_cons (dp_var 0) dq_nil)) sc.nd)
  (dss_cons (ds_for PassesOwn.never (di_seq (de_var 0)) (dg_name 2 sc.nd) (dss_cons (ds_if (dt_ne hr.units (DE.dp (de_blt call_len_seq cd_len bt_len B.len (dq_cons (dp_var 2) dq_nil))) (dp_var 1)) (dss_one (ds_ret de_bool)) dss_nil)
  (dss_one (ds_for PassesOwn.never (di_range1 B.range (dq_cons (dp_var 1) dq_nil)) (dg_name 4 sc.nd) (dss_one (ds_if (dt_ne hr.units (DE.dp (de_count (dp_var 2) (dp_var 4))) (DE.dp de_int)) (dss_one (ds_ret de_bool)) dss_nil))))))
  (dss_cons (ds_for PassesOwn.never (di_range1 B.range (dq_cons (dp_var 1) dq_nil)) (dg_name 3 sc.nd) (dss_one (ds_for PassesOwn.never (di_range1 B.range (dq_cons (dp_var 1) dq_nil)) (dg_name 4 sc.nd) (dss_one (ds_if (dt_ne hr.units (DE.dp (de_count (DE.dp (de_lc (N':= ["_law_j","_law_row"]) (R':=PR K) cx_scope1 cx_names1 [some 3,none] (subE [some 3,none]) pr_sub (di_seq (de_var 0)) (fun _=>(dgk_name 1 (show List.Nodup (α:=Str) ["_law_j","_law_row"] by decide +kernel))) (fun _=>dts_nil) (fun _=>(de_ix (dp_var 1) (dp_var 0))))) (dp_var 4))) (DE.dp de_int)) (dss_one (ds_ret de_bool)) dss_nil)))))
  (dss_one (ds_ret de_bool)))))
def b_q4 : En -> Option Out :=
 (mDolIn 2
 (mSeqX (mFor (mRng1 (mConsP (mCallP dLen (mConsP (mPk 0) mNilP)) mNilP)) (gVar 3) (mFor (mRng1 (mConsP (mCallP dLen (mConsP (mPk 0) mNilP)) mNilP)) (gVar 4) (mSdApp 2 (mTup (mCons (mBin dix (mBin dix (mPk 0) (mPk 3)) (mPk 4)) (mCons (mBin dix (mBin dix (mPk 1) (mPk 3)) (mPk 4)) mNil))) (mTup (mCons (mVar 3) (mCons (mVar 4) mNil))))))
 (mGiveD 2)))
def m_q4:List PyData->Option Sl:=runD 5 b_q4 2
theorem ok_q4 (B:Bl mg) (F:Fun K "_law_pairs" "_law_pairs" s_q4 f fd):FnOk P w K mg base CX0 1 f fd ["_law_one","_law_other"] (spD K m_q4):=by
 have sc:=sc_q4
 exact fnD F sc_q4 rfl rfl fun cdv A outer s H E hr=>
  (dss_dol 2 sc.nd
  (ddl_cons rfl (ds_for PassesOwn.never (di_range1 B.range (dq_cons (DE.dp (de_blt call_len_seq cd_len bt_len B.len (dq_cons (dp_var 0) dq_nil))) dq_nil)) (dg_name 3 sc.nd) (dss_one (ds_for PassesOwn.never (di_range1 B.range (dq_cons (DE.dp (de_blt call_len_seq cd_len bt_len B.len (dq_cons (dp_var 0) dq_nil))) dq_nil)) (dg_name 4 sc.nd) (dss_one (ds_sdApp rfl (hu_of hr) 2 (DE.dp (de_tup (da_cons (de_ix (DE.dp (de_ix (dp_var 0) (dp_var 3))) (dp_var 4)) (da_cons (de_ix (DE.dp (de_ix (dp_var 1) (dp_var 3))) (dp_var 4)) da_nil)))) (de_tup (da_cons (de_var 3) (da_cons (de_var 4) da_nil))))))))
  (ddl_ret 2)))
def b_q5 : En -> Option Out :=
 (mSeq (mAsg 2 (mLst (mCons (mLC (subE [none]) (mItemsS (mVar 0)) (gVar 0) mYes (mCallP dList (mConsP (mPk 0) mNilP))) (mCons (mLC (subE [none]) (mItemsS (mVar 1)) (gVar 0) mYes (mCallP dList (mConsP (mPk 0) mNilP))) mNil))))
 (mSeq (mAsg 3 (mCall m_q15 (mCons (mVar 0) (mCons (mVar 1) mNil))))
 (mSeq (mIf (mOr (mNot (mTest (mIsi "tuple" (mPk 3)))) (mTest (mBin dne (mLst (mCons (mVar 0) (mCons (mVar 1) mNil))) (mPk 2)))) (mRet (mK (.bool false))) mNext)
 (mSeq (mAsg 4 (mCall m_q4 (mCons (mVar 0) (mCons (mVar 1) mNil))))
 (mSeq (mIf (mTest (mBin deq (mCallP dLenD (mConsP (mPk 4) mNilP)) (mBin dRep (mCallP dLen (mConsP (mPk 0) mNilP)) (mCallP dLen (mConsP (mPk 0) mNilP))))) (mRet (mBin deq (mPk 3) (mTup (mCons (mK (.str "right")) mNil)))) mNext)
 (mSeq (mIf (mOr (mTest (mBin dne (mCallP dLen (mConsP (mPk 3) mNilP)) (mK (.int 3)))) (mOr (mTest (mBin dne (mBin dix (mPk 3) (mK (.int 0))) (mK (.str "twice")))) (mTest (mBin dGeT (mBin dix (mPk 3) (mK (.int 1))) (mBin dix (mPk 3) (mK (.int 2))))))) (mRet (mK (.bool false))) mNext)
 (mSeq (mFrzD 4 (mFor (mDVals (mPk 4)) (gVar 5) (mIf (mAnd (mTest (mBin (dInD false) (mBin dix (mPk 3) (mK (.int 1))) (mPk 5))) (mTest (mBin (dInD false) (mBin dix (mPk 3) (mK (.int 2))) (mPk 5)))) (mRet (mBin deq (mLC (subE [none]) (mItemsS (mBin dAdd (mBin dix (mPk 3) (mK (.int 1))) (mBin dix (mPk 3) (mK (.int 2))))) (gVar 0) (mNot (mTest (mCall m_q7 (mCons (mVar 0) mNil)))) (mVar 0)) (mLst mNil))) mNext)))
 (mRet (mK (.bool false))))))))))
def m_q5:List PyData->Option Sl:=runD 6 b_q5 2
theorem ok_q5 (B:Bl mg) (D_q15:Def P w K mg base 4 "right_angles" ["one","other"] (spD K m_q15)) (D_q4:Def P w K mg base 1 "_law_pairs" ["_law_one","_law_other"] (spD K m_q4)) (D_q7:Def P w K mg base 1 "_law_whole" ["_law_found"] (spD K m_q7)) (F:Fun K "_law_right" "_law_right" s_q5 f fd):FnOk P w K mg base CX0 5 f fd ["_law_one","_law_other"] (spD K m_q5):=by
 have sc:=sc_q5
 exact fnD F sc_q5 rfl rfl fun cdv A outer s H E hr=>
  (dss_cons (ds_set 2 (de_lst (da_cons (de_lc (N':= ["_law_row"]) (R':=PR K) cx_scope1 cx_names1 [none] (subE [none]) pr_sub (di_seq (de_var 0)) (fun _=>(dgk_name 0 (show List.Nodup (α:=Str) ["_law_row"] by decide +kernel))) (fun _=>dts_nil) (fun _=>(de_ty call_list_of cd_list bt_list B.list (dq_cons (dp_var 0) dq_nil)))) (da_cons (de_lc (N':= ["_law_row"]) (R':=PR K) cx_scope1 cx_names1 [none] (subE [none]) pr_sub (di_seq (de_var 1)) (fun _=>(dgk_name 0 (show List.Nodup (α:=Str) ["_law_row"] by decide +kernel))) (fun _=>dts_nil) (fun _=>(de_ty call_list_of cd_list bt_list B.list (dq_cons (dp_var 0) dq_nil)))) da_nil))) sc.nd)
  (dss_cons (ds_set 3 (de_call D_q15 hr (da_cons (de_var 0) (da_cons (de_var 1) da_nil))) sc.nd)
  (dss_cons (ds_if (dt_w (dw_or (dt_not (dt_val (DE.dp (de_isi bt_tuple B.tuple B.isinstance (dp_var 3))))) (dw_or1 (dt_ne hr.units (DE.dp (de_lst (da_cons (de_var 0) (da_cons (de_var 1) da_nil)))) (dp_var 2))))) (dss_one (ds_ret de_bool)) dss_nil)
  (dss_cons (ds_set 4 (de_call D_q4 hr (da_cons (de_var 0) (da_cons (de_var 1) da_nil))) sc.nd)
  (dss_cons (ds_if (dt_eq hr.units (DE.dp (de_blt call_lenT cd_lenD bt_len B.len (dq_cons (dp_var 4) dq_nil))) (DE.dp (de_mul (DE.dp (de_blt call_len_seq cd_len bt_len B.len (dq_cons (dp_var 0) dq_nil))) (DE.dp (de_blt call_len_seq cd_len bt_len B.len (dq_cons (dp_var 0) dq_nil)))))) (dss_one (ds_ret (de_eq hr.units (dp_var 3) (DE.dp (de_tup (da_cons de_str da_nil)))))) dss_nil)
  (dss_cons (ds_if (dt_w (dw_or (dt_ne hr.units (DE.dp (de_blt call_len_seq cd_len bt_len B.len (dq_cons (dp_var 3) dq_nil))) (DE.dp de_int)) (dw_or (dt_ne hr.units (DE.dp (de_ix (dp_var 3) (DE.dp de_int))) (DE.dp de_str)) (dw_or1 (dt_geT hr.units (DE.dp (de_ix (dp_var 3) (DE.dp de_int))) (DE.dp (de_ix (dp_var 3) (DE.dp de_int)))))))) (dss_one (ds_ret de_bool)) dss_nil)
  (dss_cons (ds_frzD 4 (ds_for PassesOwn.never (di_dvals (dp_var 4)) (dg_name 5 sc.nd) (dss_one (ds_if (dt_w (dw_and (dt_inD hr.units (DE.dp (de_ix (dp_var 3) (DE.dp de_int))) (dp_var 5)) (dw_and1 (dt_inD hr.units (DE.dp (de_ix (dp_var 3) (DE.dp de_int))) (dp_var 5))))) (dss_one (ds_ret (de_eq hr.units (DE.dp (de_lc (N':= ["_law_k"]) (R':=PR K) cx_scope1 cx_names1 [none] (subE [none]) pr_sub (di_seq (de_add (DE.dp (de_ix (dp_var 3) (DE.dp de_int))) (DE.dp (de_ix (dp_var 3) (DE.dp de_int))))) (fun _=>(dgk_name 0 (show List.Nodup (α:=Str) ["_law_k"] by decide +kernel))) (fun _=>(dts_one (dt_not (dt_val (DE.dp (de_call D_q7 hr (da_cons (de_var 0) da_nil))))))) (fun _=>(de_var 0)))) (DE.dp (de_lst da_nil))))) dss_nil))))
  (dss_one (ds_ret de_bool)))))))))
def b_law : En -> Option Out :=
 (mSeq (mAsg 1 (mLst (mCons (mLst (mCons (mK (.int 0)) mNil)) mNil)))
 (mSeq (mFor (mItemsS (mBin dAdd (mSl (mPk 0) mNoPart (mPart (mK (.int 63)))) (mLst (mCons (mK (.int 0)) mNil)))) (gVar 2) (mSeq (mAsg 3 (mBin dAdd (mK (.int 1)) (mBin dMod (mCall m_q2 (mCons (mVar 2) (mCons (mK (.int 1)) mNil))) (mK (.int 7)))))
 (mSeq (mIf (mTest (mBin deq (mBin dMod (mCall m_q2 (mCons (mVar 2) (mCons (mK (.int 4)) mNil))) (mK (.int 2))) (mK (.int 1)))) (mAsg 3 (mCallP dLen (mConsP (mPk 1) mNilP))) mNext)
 (mSeq (mFrz 3 (mAsg 4 (mCall m_q6 (mCons (mVar 3) (mCons (mVar 2) mNil)))))
 (mSeq (mFrz 4 (mAsg 5 (mOwnW (mCallW m_q0 (mCons (mVar 4) (mCons (mVar 2) mNil))))))
 (mSeq (mFrz 4 (mFrz 5 (mFor (mItemsS (mLst (mCons (mVar 4) (mCons (mVar 5) mNil)))) (gVar 6) (mSeq (mAsg 7 (mLC (subE [none]) (mItemsS (mVar 6)) (gVar 0) mYes (mCallP dList (mConsP (mPk 0) mNilP))))
 (mSeq (mAsg 8 (mCall m_q10 (mCons (mVar 6) mNil)))
 (mIf (mOr (mNot (mTest (mIsi "bool" (mPk 8)))) (mOr (mTest (mBin dne (mPk 8) (mCall m_q1 (mCons (mVar 6) mNil)))) (mTest (mBin dne (mPk 6) (mPk 7))))) (mRet (mK (.bool false))) mNext))))))
 (mSeq (mIf (mTest (mBin dne (mCallP dLen (mConsP (mPk 1) mNilP)) (mPk 3))) (mFrz 4 (mAsg 1 (mVar 4))) mNext)
 (mSeq (mFrz 4 (mFrz 1 (mIf (mOr (mNot (mTest (mCall m_q5 (mCons (mVar 1) (mCons (mVar 4) mNil))))) (mNot (mTest (mCall m_q5 (mCons (mVar 4) (mCons (mVar 4) mNil)))))) (mRet (mK (.bool false))) mNext)))
 (mFrz 4 (mAsg 1 (mVar 4)))))))))))
 (mRet (mK (.bool true)))))
def m_law:List PyData->Option Sl:=runD 9 b_law 1
theorem ok_law (B:Bl mg) (D_q2:Def P w K mg base 1 "_law_mix" ["_law_cell","_law_j"] (spD K m_q2)) (D_q6:Def P w K mg base 3 "_law_square" ["_law_n","_law_cell"] (spD K m_q6)) (D_q0:Def P w K mg base 2 "_law_bent" ["_law_square_here","_law_cell"] (spW K m_q0)) (D_q10:Def P w K mg base 2 "is_square" ["rows"] (spD K m_q10)) (D_q1:Def P w K mg base 1 "_law_is_square" ["_law_rows"] (spD K m_q1)) (D_q5:Def P w K mg base 5 "_law_right" ["_law_one","_law_other"] (spD K m_q5)) (F:Fun K "law" "law" s_law f fd):FnOk P w K mg base CX0 6 f fd ["_law_script"] (spD K m_law):=by
 have sc:=sc_law
 exact fnD F sc_law rfl rfl fun cdv A outer s H E hr=>
  (dss_cons (ds_set 1 (de_lst (da_cons (de_lst (da_cons de_int da_nil)) da_nil)) sc.nd)
  (dss_cons (ds_for PassesOwn.never (di_seq (de_add (DE.dp (de_sl (dp_var 0) do_none (do_some (DE.dp de_int)))) (DE.dp (de_lst (da_cons de_int da_nil))))) (dg_name 2 sc.nd) (dss_cons (ds_set 3 (de_add (DE.dp de_int) (DE.dp (de_mod (DE.dp (de_call D_q2 hr (da_cons (de_var 2) (da_cons de_int da_nil)))) (DE.dp de_int)))) sc.nd)
  (dss_cons (ds_if (dt_eq hr.units (DE.dp (de_mod (DE.dp (de_call D_q2 hr (da_cons (de_var 2) (da_cons de_int da_nil)))) (DE.dp de_int))) (DE.dp de_int)) (dss_one (ds_set 3 (de_blt call_len_seq cd_len bt_len B.len (dq_cons (dp_var 1) dq_nil)) sc.nd)) dss_nil)
  (dss_cons (ds_frz 3 (ds_set 4 (de_call D_q6 hr (da_cons (de_var 3) (da_cons (de_var 2) da_nil))) sc.nd))
  (dss_cons (ds_frz 4 (ds_set 5 (de_ofW (dew_call D_q0 hr (da_cons (de_var 4) (da_cons (de_var 2) da_nil)))) sc.nd))
  (dss_cons (ds_frz 4 (ds_frz 5 (ds_for PassesOwn.never (di_seq (de_lst (da_cons (de_var 4) (da_cons (de_var 5) da_nil)))) (dg_name 6 sc.nd) (dss_cons (ds_setC (N':= ["_law_row"]) (R':=PR K) cx_scope1 cx_names1 7 [none] (subE [none]) pr_sub sc.nd (di_seq (de_var 6)) (fun _=>(dgk_name 0 (show List.Nodup (α:=Str) ["_law_row"] by decide +kernel))) (fun _=>dts_nil) (fun _=>(de_ty call_list_of cd_list bt_list B.list (dq_cons (dp_var 0) dq_nil))))
  (dss_cons (ds_set 8 (de_call D_q10 hr (da_cons (de_var 6) da_nil)) sc.nd)
  (dss_one (ds_if (dt_w (dw_or (dt_not (dt_val (DE.dp (de_isi bt_bool B.bool B.isinstance (dp_var 8))))) (dw_or (dt_ne hr.units (dp_var 8) (DE.dp (de_call D_q1 hr (da_cons (de_var 6) da_nil)))) (dw_or1 (dt_ne hr.units (dp_var 6) (dp_var 7)))))) (dss_one (ds_ret de_bool)) dss_nil)))))))
  (dss_cons (ds_if (dt_ne hr.units (DE.dp (de_blt call_len_seq cd_len bt_len B.len (dq_cons (dp_var 1) dq_nil))) (dp_var 3)) (dss_one (ds_frz 4 (ds_set 1 (de_var 4) sc.nd))) dss_nil)
  (dss_cons (ds_frz 4 (ds_frz 1 (ds_if (dt_w (dw_or (dt_not (dt_val (DE.dp (de_call D_q5 hr (da_cons (de_var 1) (da_cons (de_var 4) da_nil)))))) (dw_or1 (dt_not (dt_val (DE.dp (de_call D_q5 hr (da_cons (de_var 4) (da_cons (de_var 4) da_nil))))))))) (dss_one (ds_ret de_bool)) dss_nil)))
  (dss_one (ds_frz 4 (ds_set 1 (de_var 4) sc.nd)))))))))))
  (dss_one (ds_ret de_bool))))
end
local macro_rules | `(tactic| walk_at "ev") => `(tactic| simp only [mSeq, mIf, mTest, mBin, mUn, mK, mPk, mVar, mAsg, mRet, mRetN, mCall, mCons, mNil, mCallP, mConsP, mNilP, mTup, mLst, mOr, mAnd, mNot, mNotV, mAndV, mOrV, mIfE, mNext, mBrk, mCt, mDrop, mApp, mSet, mFrz, frz1, mPar, mAsgT, gVar, gTupD, gsAll, mItems, mItemsT, mSl, mPart, mNoPart, mDat, Sl.dat, mYes, mIsi, tyD, isiD, iop, icmp, iun, dAddI, dSub, dAdd, dLt, dLe, dGt, dGe, deq, dne, disN, disNN, isNone, dix, dLen, dAbs, dList, dTuple, dInt, dSl, Option.bind_some, Option.map_some, Option.join_some, Option.some.injEq, List.getElem?_cons_zero, List.getElem?_cons_succ, List.set_cons_zero, List.set_cons_succ, List.length_cons, List.length_nil, eqD_int, List.cons_append, List.nil_append, List.append_nil, List.map_cons, List.map_nil, if_true, if_false, Bool.false_eq_true, reduceIte, reduceCtorEq, Bool.not_true, Bool.not_false, decide_true, decide_false])
theorem bin_eq{op:Sl->Sl->Option Sl}{fa fb:En->Option Sl}{ρ:En}{a b:Sl}(ha:fa ρ=some a)(hb:fb ρ=some b):mBin op fa fb ρ=op a b:=by
 unfold mBin;rw [ha];show Option.bind (fb ρ) _=_;rw [hb];rfl
theorem test_eq{f:En->Option Sl}{ρ:En}{b:Bool}(h:f ρ=some (.val (.bool b))):mTest f ρ=some b:=by
 unfold mTest;rw [h];rfl
theorem app_to{i:Nat}{f:En->Option Sl}{ρ:En}{r:Sl}{ds:List PyData}(h:f ρ=some r)(ho:(ρ[i]?).join=some (.own ds))(hl:ds.length<sizeLine):mApp i f ρ=some (.nx (ρ.set i (some (.own (ds ++ [r.dat]))))):=by
 unfold mApp;rw [ho];show Option.bind (f ρ) _=_;rw [h];show (if ds.length<sizeLine then _ else _)=_;rw [if_pos hl]
theorem callP_to{F:List Sl->Option Sl}{f:En->Option (List Sl)}{ρ:En}{ss:List Sl}{r:Sl}(h:f ρ=some ss)(k:F ss=some r):mCallP F f ρ=some r:=by
 unfold mCallP;rw [h];exact k
theorem cons_to{f:En->Option Sl}{g:En->Option (List PyData)}{ρ:En}{a:Sl}{as:List PyData}(h:f ρ=some a)(k:g ρ=some as):mCons f g ρ=some (a.dat::as):=by
 unfold mCons;rw [h];show Option.bind (g ρ) _=_;rw [k];rfl
theorem consP_to{f:En->Option Sl}{g:En->Option (List Sl)}{ρ:En}{a:Sl}{as:List Sl}(h:f ρ=some a)(k:g ρ=some as):mConsP f g ρ=some (a::as):=by
 unfold mConsP;rw [h];show Option.bind (g ρ) _=_;rw [k];rfl
theorem cmL{i j:Int}(h1 : -(2 ^ 64)<i)(h2:i<2 ^ 64):CMulA i j:= .inl (.inl ⟨h1,h2⟩)
theorem cmR{i j:Int}(h1 : -(2 ^ 64)<j)(h2:j<2 ^ 64):CMulA i j:= .inl (.inr ⟨h1,h2⟩)
theorem run_mix(c:Int){j:Int}(h0:0<=j)(h1:j<1000000):∃v,m_q2 [.int c, .int j]=some (.val (.int v))/\0<=v/\v<2147483648:=by
 by_cases hc:c.fmod 2=1
 . refine ⟨(c / 2 ^ (1+10*j).toNat).fmod 1024,runD_rt (ρ:= [some (.val (.int c)),some (.val (.int j)),none]) rfl rfl ?_,Int.fmod_nonneg_of_pos _ (by decide),?_⟩
   . unfold b_q2;refine rts_seqR (rts_if (b:=true) ?_ (rts_ret ?_))
     . walk_at "ev"
       rw [modS (by decide)]
       walk_at "ev"
       simp [hc]
     . walk_at "ev"
       rw [mulS (cmL (by decide) (by decide))]
       walk_at "ev"
       rw [shrS (by omega)]
       walk_at "ev"
       rw [modS (by decide)]
   . have:=Int.fmod_lt_of_pos (c / 2 ^ (1+10*j).toNat) (show (0:Int)<1024 by decide);omega
 . have n1:=fun x:Int=>Int.fmod_nonneg_of_pos x (show (0:Int)<2147483629 by decide);have n2:=fun x:Int=>Int.fmod_lt_of_pos x (show (0:Int)<2147483629 by decide)
   let w1:=(c*(2*j+3)+j).fmod 2147483629
   let w2:=((w1*w1+1)*48271).fmod 2147483629
   refine ⟨(w2*w2).fmod 2147483587,runD_rt (ρ:= [some (.val (.int c)),some (.val (.int j)),none]) rfl rfl ?_,Int.fmod_nonneg_of_pos _ (by decide),?_⟩
   . unfold b_q2;refine rts_seq (ρ':= [some (.val (.int c)),some (.val (.int j)),none]) (if_to (b:=false) ?_ ?_) ?_
     . walk_at "ev"
       rw [modS (by decide)]
       walk_at "ev"
       simp [hc]
     . walk_at "ev"
     refine rts_seq (asg_to (r:= .val (.int w1)) ?_) ?_
     . walk_at "ev"
       rw [mulS (cmL (by decide) (by decide))]
       walk_at "ev"
       rw [mulS (cmR (by omega) (by omega))]
       walk_at "ev"
       rw [modS (by decide)]
     have a1:=n1 (c*(2*j+3)+j);have a2:=n2 (c*(2*j+3)+j);refine rts_seq (asg_to (r:= .val (.int w2)) ?_) ?_
     . walk_at "ev"
       rw [mulS (cmL (by show _<w1;omega) (by show w1<_;omega))]
       walk_at "ev"
       rw [mulS (cmR (by decide) (by decide))]
       walk_at "ev"
       rw [modS (by decide)]
     have b1:=n1 ((w1*w1+1)*48271);have b2:=n2 ((w1*w1+1)*48271);refine rts_ret ?_
     walk_at "ev"
     rw [mulS (cmL (by show _<w2;omega) (by show w2<_;omega))]
     walk_at "ev"
     rw [modS (by decide)]
   . have:=Int.fmod_lt_of_pos (w2*w2) (show (0:Int)<2147483587 by decide);omega
theorem sl1000:1000<sizeLine:=by decide
theorem lst1{f:En->Option Sl}{ρ:En}{a:Sl}(h:f ρ=some a):mLst (mCons f mNil) ρ=some (.own [a.dat]):=by
 unfold mLst;rw [cons_to h (show mNil ρ=some [] from rfl)];exact if_pos (e:=none) (show 1<=sizeLine by decide)
theorem add_own{a b:Sl}{xs ys:List PyData}(ha:a.dat = .list xs)(hb:b.dat = .list ys)(h:xs.length+ys.length<=sizeLine):dAdd a b=some (.own (xs++ys)):=by
 unfold dAdd;rw [ha,hb];exact if_pos (h)
theorem el_to{fg:PyData->En->Option En}{fe:En->Option Sl}{ρ0 ρ1:En}{d:PyData}{r:Sl}(h1:fg d ρ0=some ρ1)(h2:fe ρ1=some r):elM fg mYes fe ρ0 d=some (some r.dat):=by
 unfold elM;rw [h1];simp only [Option.bind_some,mYes,if_true,h2,Option.map_some]
theorem frz_eq{i:Nat}{g:En->Option Out}{ρ:En}:mFrz i g ρ=g (frz1 i ρ):=rfl
theorem tup2{f g:En->Option Sl}{ρ:En}{a b:Sl}(h1:f ρ=some a)(h2:g ρ=some b):mTup (mCons f (mCons g mNil)) ρ=some (.val (.tuple [a.dat,b.dat])):=by
 unfold mTup;rw [cons_to h1 (cons_to h2 (show mNil ρ=some [] from rfl))];exact if_pos (e:=none) (show 2<=sizeLine by decide)
theorem tup1{f:En->Option Sl}{ρ:En}{a:Sl}(h1:f ρ=some a):mTup (mCons f mNil) ρ=some (.val (.tuple [a.dat])):=by
 unfold mTup;rw [cons_to h1 (show mNil ρ=some [] from rfl)];exact if_pos (e:=none) (show 1<=sizeLine by decide)
abbrev enN:Nat->PyData:=fun n=> .int (n:Int)
def tupN(t:List Nat):PyData:= .tuple (nl t)
theorem lstNil{ρ:En}:mLst mNil ρ=some (.own []):=by
 exact if_pos (e:=none) (show 0<=sizeLine by decide)
theorem run_prod{L:List Nat}(hL:∀c ∈ L,c<=1000):m_q14 [.list (nl L)]=some (.val (.int (Tr.prodN L:Nat))):=by
 refine run_wp (ρ:= [some (.val (.list (nl L))),none,none]) rfl rfl ?_;unfold b_q14;refine wp_asgS (r:= .val (.int 1)) rfl ?_;refine wp_seq (P:=fun ρ=>∃z,ρ = [some (.val (.list (nl L))),some (.val (.int (Tr.prodN L:Nat))),z]) ?_ ?_
 . refine wp_forL (en:=enN) (xs:=L) (fun k ρ=>∃z,ρ = [some (.val (.list (nl L))),some (.val (.int (Tr.prodN (L.take k):Nat))),z]) rfl ⟨_,rfl⟩ ?_ ?_
   . rintro k s ρ hs ⟨z,rfl⟩;have hs1:=hL s (List.mem_of_getElem? hs);refine ⟨_,rfl,wp_asg (r:= .val (.int ((Tr.prodN (L.take k):Int)*(s:Int)))) ((bin_eq (op:=dRep) rfl rfl).trans (mulS (cmR (by omega) (by omega)))) ⟨some (.val (.int s)),?_⟩⟩;rw [List.take_add_one,hs];show _=([some (.val (.list (nl L))),some (.val (.int (Tr.prodN (L.take k ++ [s]):Nat))),some (.val (.int s))]:En);rw [Tr.prodN_app,show Tr.prodN [s]=s by simp [Tr.prodN],Int.natCast_mul];rfl
   . rintro ρ ⟨z,rfl⟩;rw [List.take_of_length_le (Nat.le_refl _)];exact ⟨z,rfl⟩
 . rintro ρ ⟨z,rfl⟩;exact wp_ret rfl rfl
theorem bt_small{c:Nat}(h:c<=1000):Bt 9000 (c:Int):=by
 unfold Bt;have:2 ^ 10<=2 ^ 9000:=Nat.pow_le_pow_right (by decide) (by decide);have e:(2:Nat) ^ 10=1024:=by decide
 rw [e] at this
 refine Nat.lt_of_lt_of_le ?_ this;omega
theorem run_trial{L:List Nat}(hL:∀c ∈ L,0<c/\c<=1000)(hl:L.length<=900)(x:Nat):m_q16 [.list (nl L), .int x]=some (.val (tupN (Tr.tri L x))):=by
 have sl:=sl1000;refine run_wp (ρ:= [some (.val (.list (nl L))),some (.val (.int x)),none,none]) rfl rfl ?_;unfold b_q16;refine wp_asgS lstNil ?_;refine wp_seq (P:=fun ρ=>∃z1 z3,ρ = [some (.val (.list (nl L))),z1,some (.own (nl (Tr.dg L.reverse x))),z3]) ?_ ?_
 . refine wp_forL (en:=enN) (xs:=L.reverse) (fun k ρ=>∃(A:List Nat) (y:Nat) (z:Option Sl),ρ = [some (.val (.list (nl L))),some (.val (.int y)),some (.own (nl A)),z]/\A.length=k/\A++Tr.dg (L.reverse.drop k) y=Tr.dg L.reverse x) ?_ ⟨[],x,none,rfl,rfl,rfl⟩ ?_ ?_
   . show some (nl L).reverse=_;rw [nl,List.map_reverse]
   . rintro k c ρ hc ⟨A,y,z,rfl,hA,he⟩;have hc1:=hL c (List.mem_reverse.mp (List.mem_of_getElem? hc));obtain ⟨hk,ek⟩:=List.getElem?_eq_some_iff.mp hc;have hk':k<L.length:=by simpa using hk
     rw [List.drop_eq_getElem_cons hk,ek] at he
     refine ⟨_,rfl,?_⟩;have nz:(c:Int)≠0:=by omega
     refine wp_seqN (app_to (r:= .val (.int ((y % c:Nat):Int))) (ds:=nl A) ((bin_eq (op:=dMod) (a:= .val (.int y)) (b:= .val (.int c)) rfl rfl).trans ((modS nz).trans ?_)) rfl (by rw [nl_len];omega)) ?_
     . rw [Int.fmod_eq_emod_of_nonneg _ (by omega)];rfl
     refine wp_asg (r:= .val (.int ((y / c:Nat):Int))) ((bin_eq (op:=dFdiv) (a:= .val (.int y)) (b:= .val (.int c)) rfl rfl).trans ((divS ⟨nz,bt_small hc1.2⟩).trans ?_)) ⟨A ++ [y % c],y / c,some (.val (.int c)),?_,by simp [hA],?_⟩
     . rw [Int.fdiv_eq_ediv_of_nonneg _ (by omega)];rfl
     . rw [nl_app];rfl
     . rw [<-he,List.append_assoc];rfl
   . rintro ρ ⟨A,y,z,rfl,hA,he⟩;rw [List.drop_eq_nil_of_le (Nat.le_refl _)] at he
     simp only [Tr.dg,List.append_nil] at he
     subst he;exact ⟨_,_,rfl⟩
 . rintro ρ ⟨z1,z3,rfl⟩;refine wp_ret (r:= .val (tupN (Tr.tri L x))) (callP_to (ss:= [.own (nl (Tr.dg L.reverse x))]) rfl ?_) rfl;show some (Sl.val (.tuple (nl (Tr.dg L.reverse x)).reverse))=_;rw [nl, <-List.map_reverse];rfl
theorem lay_tup(l:List Nat):(tupN l).canLay0=true:=lay_list (en:=fun n:Nat=>PyData.int (n:Int)) (fun _=>rfl) l
theorem dep_tup(l:List Nat):(tupN l).depth<=3:=by
 have:=dep_list (en:=fun n:Nat=>PyData.int (n:Int)) (k:=1) (fun x=>by simp [PyData.depth]) l;simp only [tupN,PyData.depth,nl];omega
theorem eqv_nl:∀a b:List Nat,PyData.eqvAll (nl a) (nl b)=decide (a=b)
 | [],[]=>by simp [nl,PyData.eqvAll]
 | [],_::_=>by simp [nl,PyData.eqvAll]
 | _::_,[]=>by simp [nl,PyData.eqvAll]
 | x::a,y::b=>by
  have:=eqv_nl a b;simp only [nl] at this
  simp only [nl,List.map_cons,PyData.eqvAll,this,PyData.eqv]
  by_cases h:x=y
  . subst h;simp
  . have:¬((x:Int)=(y:Int)):=by omega
    simp [h,this]
theorem eqv_tup(a b:List Nat):PyData.eqv (tupN a) (tupN b)=decide (a=b):=by
 unfold tupN;simp only [PyData.eqv];exact eqv_nl a b
def kN(b:List Nat):List Key:=b.map fun n:Nat=> .inl (n:Int)
theorem tupD_kN(b:List Nat):tupD (kN b)=tupN b:=by
 unfold tupD kN tupN nl;rw [List.map_map];rfl
theorem kN_inj{a b:List Nat}(h:kN a=kN b):a=b:=by
 unfold kN at h
 exact List.map_inj_right (fun x y e=>by cases e;rfl) |>.mp h
theorem keysOf_map:∀k:List Key,keysOf (k.map keyD)=some k
 | []=>rfl
 | .inl i::k=>by
  show (keyOf1 (.int i)).bind (fun a=>(keysOf (k.map keyD)).map (a :: ·))=_;rw [keysOf_map k]
  rfl
 | .inr x::k=>by
  show (keyOf1 (.str x)).bind (fun a=>(keysOf (k.map keyD)).map (a :: ·))=_;rw [keysOf_map k];rfl
theorem keyOf_tupD(k:List Key):keyOf (tupD k)=some k:=keysOf_map k
theorem keyOf_tupN(k:List Nat):keyOf (tupN k)=some (kN k):=by rw [<-tupD_kN];exact keyOf_tupD _
theorem nl_get{x:List Nat}{d:Nat}(h:d<x.length):(nl x)[d]? = some (.int ((x.getD d 0:Nat):Int)):=by
 unfold nl;rw [List.getElem?_map,List.getD,List.getElem?_eq_getElem h];rfl
def lN(c:List Nat):PyData:= .list (nl c)
theorem mod_nat{fa fb:En->Option Sl}{ρ:En}{i m:Int}(ha:fa ρ=some (.val (.int i)))(hb:fb ρ=some (.val (.int m)))(hp:0<m):∃v:Nat,mBin dMod fa fb ρ=some (.val (.int v))/\(v:Int)<m:=by
 refine ⟨(i.fmod m).toNat,(bin_eq (op:=dMod) ha hb).trans ((modS (by omega)).trans ?_),?_⟩
 . have:=Int.fmod_nonneg_of_pos i hp;rw [Int.toNat_of_nonneg this]
 . have:=Int.fmod_nonneg_of_pos i hp;have:=Int.fmod_lt_of_pos i hp;omega
theorem mix_to{args:En->Option (List PyData)}{ρ:En}{c j:Int}(ha:args ρ=some [.int c, .int j])(h0:0<=j)(h1:j<1000000):∃v:Int,mCall m_q2 args ρ=some (.val (.int v)):=by
 obtain ⟨v,e,_⟩:=run_mix c h0 h1;exact ⟨v,call_to ha e⟩
theorem itemsS_to{f:En->Option Sl}{ρ:En}{a:Sl}{ds:List PyData}(h:f ρ=some a)(e:a.dat = .list ds\/a.dat = .tuple ds):mItemsS f ρ=some ds:=by
 unfold mItemsS;rw [h];rcases e with e | e <;> simp [e]
theorem lay_lN(l:List Nat):(lN l).canLay0=true:=lay_list (en:=fun n:Nat=>PyData.int (n:Int)) (fun _=>rfl) l
theorem dep_lN(l:List Nat):(lN l).depth<=3:=by
 have:=dep_list (en:=fun n:Nat=>PyData.int (n:Int)) (k:=1) (fun x=>by simp [PyData.depth]) l;simp only [lN,PyData.depth,nl];omega
def sqD(s:Lat.Sq):PyData:= .list (s.map lN)
theorem lay_sq(s:Lat.Sq):(sqD s).canLay0=true:=lay_list (en:=lN) lay_lN s
theorem dep_sq(s:Lat.Sq):(sqD s).depth<=5:=by
 have:=dep_list (en:=lN) (k:=3) dep_lN s;simp only [sqD,PyData.depth];omega
theorem run_at{n:Nat}{s:Lat.Sq}(h:Lat.Ok n s){i j:Nat}(hi:i<n)(hj:j<n):m_q12 [sqD s,tupN [i,j]]=some (.val (.int ((Lat.at_ s i j:Nat):Int))):=by
 refine run_wp (ρ:= [some (.val (sqD s)),some (.val (tupN [i,j]))]) rfl rfl ?_;unfold b_q12;have hs:i<s.length:=by rw [h.len];exact hi
 have hr:j<(s.getD i []).length:=by
  rw [h.row _ (by rw [List.getD,List.getElem?_eq_getElem hs];exact List.getElem_mem hs)];exact hj
 have e1:(s.map lN)[i]? = some (lN (s.getD i [])):=by
  rw [List.getElem?_map,List.getElem?_eq_getElem hs,List.getD,List.getElem?_eq_getElem hs];rfl
 have x0:(mBin dix (mPk 1) (mK (.int 0))) [some (.val (sqD s)),some (.val (tupN [i,j]))]=some (.val (.int (i:Int))):=(bin_eq (op:=dix) (a:= .val (tupN [i,j])) (b:= .val (.int ((0:Nat):Int))) rfl rfl).trans (dix_nat (.inr rfl) rfl);have x1:(mBin dix (mPk 1) (mK (.int 1))) [some (.val (sqD s)),some (.val (tupN [i,j]))]=some (.val (.int (j:Int))):=(bin_eq (op:=dix) (a:= .val (tupN [i,j])) (b:= .val (.int ((1:Nat):Int))) rfl rfl).trans (dix_nat (.inr rfl) rfl);refine wp_ret ((bin_eq (op:=dix) ((bin_eq (op:=dix) (a:= .val (sqD s)) rfl x0).trans (dix_nat (.inl rfl) e1)) x1).trans (dix_nat (.inl rfl) (nl_get hr))) rfl
theorem run_places{n:Nat}(h1:1<=n)(h7:n<=7):m_q13 [.int (n:Int)]=some (.own ((Lat.places n).map tupN)):=by
 have sl:=sl1000
 let N0:Option Sl:=some (.val (.int (n:Int)))
 have hL:∀c ∈ [n,n],0<c/\c<=1000:=fun c hc=>by simp at hc;omega
 have at2:m_q8 [.list (nl [n,n])]=some (.own ((Lat.places n).map tupN)):=by
  refine run_wp (ρ:= [some (.val (.list (nl [n,n])))]) rfl rfl ?_;unfold b_q8;have pr:Tr.prodN [n,n]=n*n:=by simp [Tr.prodN]
  have nn:n*n<=7*7:=Nat.mul_le_mul h7 h7;have rg:(mRng1 (mConsP (mCall m_q14 (mCons (mVar 0) mNil)) mNilP)) [some (.val (.list (nl [n,n])))]=some (rngD 0 (Tr.prodN [n,n])):=rng1_to (consP_to (as:= []) (call_to (ds:= [.list (nl [n,n])]) rfl (run_prod fun c hc=>(hL c hc).2)) rfl) (by rw [pr];omega);refine wp_ret (r:= .own ((Lat.places n).map tupN)) (lc_to rg (by rw [show (rngD 0 (Tr.prodN [n,n])).length=Tr.prodN [n,n] by simp [rngD],pr];omega) ?_) rfl;refine (compM_range (g:=fun x=>tupN (Tr.tri [n,n] x)) fun x hx=>el_to (fg:=gVar 1) (ρ0:= [some (.val (.list (nl [n,n]))),none]) (d:= .int (0+(x:Nat))) (ρ1:= [some (.val (.list (nl [n,n]))),some (.val (.int (0+(x:Nat))))]) (r:= .val (tupN (Tr.tri [n,n] x))) rfl (call_to (ds:= [.list (nl [n,n]), .int (x:Nat)]) ?_ (run_trial hL (by simp) x))).trans ?_
  . rw [Int.zero_add];rfl
  . rw [<-Lat.places_all n h1];unfold Tr.allT;rw [List.map_map];rfl
 refine run_wp (ρ:= [N0]) rfl rfl ?_;unfold b_q13
 have l2:(mLst (mCons (mVar 0) (mCons (mVar 0) mNil))) [N0]=some (.own (nl [n,n])):=by
  unfold mLst;rw [cons_to (a:= .val (.int (n:Int))) rfl (cons_to (a:= .val (.int (n:Int))) rfl (show mNil [N0]=some [] from rfl))];exact if_pos (e:=none) (show 2<=sizeLine by omega)
 exact wp_ret (call_to (ds:= [.list (nl [n,n])]) (cons_to l2 (show mNil [N0]=some [] from rfl)) at2) rfl
theorem look_gen{α:Type}(g:α->List Nat)(v:α->PyData)(k:List Nat):∀l:List α,(k ∉ l.map g->lookD (l.map fun p=>(tupD (kN (g p)),v p)) (kN k)=none)/\(k ∈ l.map g->∃p ∈ l,g p=k/\lookD (l.map fun p=>(tupD (kN (g p)),v p)) (kN k)=some (v p))
 | []=>⟨fun _=>rfl,fun h=>by simp at h⟩
 | x::l=>by
  obtain ⟨h1,h2⟩:=look_gen g v k l;rw [List.map_cons,List.map_cons,lookD]
  by_cases e:g x=k
  . rw [if_pos (by rw [e])];exact ⟨fun h=>absurd (by rw [e];exact List.mem_cons_self) h,fun _=>⟨x,List.mem_cons_self,e,rfl⟩⟩
  . rw [if_neg fun z=>e (kN_inj (tupD_inj z))];refine ⟨fun h=>h1 fun z=>h (List.mem_cons_of_mem _ z),fun h=> ?_⟩;rcases List.mem_cons.mp h with h | h
    . exact absurd h.symm e
    . obtain ⟨p,hp,gp,ep⟩:=h2 h;exact ⟨p,List.mem_cons_of_mem _ hp,gp,ep⟩
theorem unD_gen{α:Type}(g:α->List Nat)(v:α->PyData):∀l:List α,unD (l.map fun p=>(tupD (kN (g p)),v p))=l.map fun p=>(tupD (kN (g p)),v p)
 | []=>rfl
 | x::l=>by rw [List.map_cons];rfl
theorem put_new{kvs:List (PyData×PyData)}{k:List Key}{d:PyData}(h:lookD kvs k=none):putD kvs k d=kvs ++ [(tupD k,d)]:=by
 unfold putD;rw [h]
theorem tup3{f g h:En->Option Sl}{ρ:En}{a b c:Sl}(ha:f ρ=some a)(hb:g ρ=some b)(hc:h ρ=some c):mTup (mCons f (mCons g (mCons h mNil))) ρ=some (.val (.tuple [a.dat,b.dat,c.dat])):=by
 unfold mTup;rw [cons_to ha (cons_to hb (cons_to hc (show mNil ρ=some [] from rfl)))];exact if_pos (e:=none) (show 3<=sizeLine by decide)
theorem len_sq{n:Nat}{s:Lat.Sq}(h:Lat.Ok n s){i:Nat}{ρ:En}(hi:(ρ[i]?).join=some (.val (sqD s))):(mCallP dLen (mConsP (mPk i) mNilP)) ρ=some (.val (.int (n:Int))):=by
 refine callP_to (ss:= [.val (sqD s)]) (consP_to (show mPk i ρ=_ from hi) rfl) ?_;show some (Sl.val (.int (((s.map lN).length:Nat):Int)))=_;rw [List.length_map,h.len]
def prA(s s':Lat.Sq)(p:List Nat):List Nat:= [Lat.at_ s (p.getD 0 0) (p.getD 1 0),Lat.at_ s' (p.getD 0 0) (p.getD 1 0)]
def rightD:PyData:= .tuple [.str "right"]
def twiceD(p q:List Nat):PyData:= .tuple [.str "twice",tupN p,tupN q]
theorem run_rangles{n:Nat}{s s':Lat.Sq}(h1:1<=n)(h7:n<=7)(h:Lat.Ok n s)(h':Lat.Ok n s'):∃d,m_q15 [sqD s,sqD s']=some (.val d)/\((d=rightD/\(Lat.prs n s s').Nodup)\/∃p q,d=twiceD p q/\¬(Lat.prs n s s').Nodup/\∃(A B C:List (List Nat)),Lat.places n=A++p::(B++q::C)/\prA s s' p=prA s s' q):=by
 have sl:=sl1000
 let S0:Option Sl:=some (.val (sqD s))
 let S1:Option Sl:=some (.val (sqD s'))
 let P:=Lat.places n
 have pl:P.length<=49:=by
  show (Lat.places n).length<=49;rw [Lat.places_len n h1];exact Nat.mul_le_mul h7 h7
 let g:=prA s s'
 let DD (l:List (List Nat)):List (PyData×PyData):=l.map fun p=>(tupD (kN (g p)),tupN p)
 have key:Wp b_q15 [S0,S1,none,none,none] (fun o=>∃d ρ',o = .rt (.val d) ρ'/\((d=rightD/\(P.map g).Nodup)\/∃p q,d=twiceD p q/\¬(P.map g).Nodup/\∃(A B C:List (List Nat)),P=A++p::(B++q::C)/\g p=g q)):=by
  unfold b_q15;refine wp_asgS (r:= .dct []) rfl ?_;show Wp _ [S0,S1,some (.dct []),none,none] _;refine wp_seqG ?_;refine wp_forL (en:=tupN) (xs:=P) (fun j ρ=>∃z3 z4,isDct z3=false/\isDct z4=false/\ρ = [S0,S1,some (.dct (DD (P.take j))),z3,z4]/\((P.take j).map g).Nodup) ?_ ⟨none,none,rfl,rfl,rfl,List.nodup_nil⟩ ?_ ?_
  . exact itemsS_to (call_to (F:=m_q13) (ds:= [.int (n:Int)]) (cons_to (len_sq h (i:=0) rfl) (show mNil _=some [] from rfl)) (run_places h1 h7)) (.inl rfl)
  . rintro m p ρ hm ⟨z3,z4,_,d4,rfl,nd⟩;have tm:P.take (m+1)=P.take m ++ [p]:=by rw [List.take_add_one,hm];rfl
    obtain ⟨i,j,hi,hj,rfl⟩:=Lat.mem_places.mp (List.mem_of_getElem? hm)
    let p:= [i,j]
    let X3:Option Sl:=some (.val (tupN [i,j]))
    refine ⟨_,rfl,?_⟩
    let D:=DD (P.take m)
    let E0:En:= [S0,S1,some (.dct D),X3,z4]
    have pe:(mTup (mCons (mCall m_q12 (mCons (mVar 0) (mCons (mVar 3) mNil))) (mCons (mCall m_q12 (mCons (mVar 1) (mCons (mVar 3) mNil))) mNil))) E0=some (.val (tupN (g p))):=tup2 (call_to (ds:= [sqD s,tupN [i,j]]) rfl (run_at h hi hj)) (call_to (ds:= [sqD s',tupN [i,j]]) rfl (run_at h' hi hj));refine wp_asgS (r:= .val (tupN (g p))) pe ?_
    let K4:Option Sl:=some (.val (tupN (g p)))
    let E:En:= [S0,S1,some (.dct D),X3,K4]
    show Wp _ E _;obtain ⟨l1,l2⟩:=look_gen g (fun q=>tupN q) (g p) (P.take m)
    have tst:(mTest (mBin (dDIn false) (mPk 4) (mPk 2))) E=some (lookD D (kN (g p))).isSome:=by
     refine test_eq ((bin_eq (op:=dDIn false) (a:= .val (tupN (g p))) (b:= .dct D) rfl rfl).trans ?_);show (keyOf (tupN (g p))).map (fun k=>Sl.val (.bool (xor false (lookD (unD D) k).isSome)))=_;rw [keyOf_tupN,Option.map_some,show unD D=D from unD_gen _ _ _];simp
    by_cases mm:g p ∈ (P.take m).map g
    . obtain ⟨q,hq,gq,eq⟩:=l2 mm;have eq':lookD D (kN (g p))=some (tupN q):=eq;rw [eq'] at tst
      refine wp_seqG (wp_ifT tst (wp_ret (r:= .val (twiceD q p)) (tup3 (a:= .val (.str "twice")) (b:= .val (tupN q)) (c:= .val (tupN p)) rfl ?_ rfl) ⟨twiceD q p,_,rfl, .inr ⟨q,p,rfl,fun z=> ?_,?_⟩⟩))
      . refine (bin_eq (op:=dDGet) (a:= .dct D) (b:= .val (tupN (g p))) rfl rfl).trans ?_;show (keyOf (tupN (g p))).bind (fun k=>(lookD (unD D) k).map Sl.val)=_;rw [keyOf_tupN];show (lookD (unD D) (kN (g p))).map Sl.val=_;rw [show unD D=D from unD_gen _ _ _,eq'];rfl
      . have sub:((P.take (m+1)).map g).Sublist (P.map g):=(List.take_sublist _ _).map g;have:=z.sublist sub;rw [tm,List.map_append,List.nodup_append] at this
        exact this.2.2 (g p) mm (g p) (List.mem_singleton.mpr rfl) rfl
      . obtain ⟨A,B,eAB⟩:=List.append_of_mem hq;refine ⟨A,B,P.drop (m+1),?_,gq⟩;have e1:P=P.take (m+1)++P.drop (m+1):=(List.take_append_drop _ _).symm;have e2:P.take (m+1)++P.drop (m+1)=(A++q::B ++ [[i,j]])++P.drop (m+1):=by rw [tm,eAB]
        refine e1.trans (e2.trans ?_);simp [p]
    . have eq':lookD D (kN (g p))=none:=l1 mm;rw [eq'] at tst
      refine wp_skip tst ?_
      have ll:D.length<sizeLine:=by
       show ((P.take m).map _).length<_;rw [List.length_map,List.length_take];omega
      refine wp_of (o:= .nx [S0,S1,some (.dct (putD D (kN (g p)) (tupN p))),X3,K4]) ?_ ⟨X3,K4,rfl,rfl,?_,?_⟩
      . unfold mDSet;show (keyOf (tupN (g p))).bind (fun k'=>if D.length<sizeLine/\lone 2 E=true then some (Out.nx (E.set 2 (some (.dct (putD D k' (tupN p)))))) else none)=_;rw [keyOf_tupN];show (if D.length<sizeLine/\lone 2 E=true then _ else _)=_;rw [if_pos ⟨ll,rfl⟩];rfl
      . rw [put_new eq',tm];show _ = [S0,S1,some (.dct ((P.take m ++ [p]).map _)),X3,K4];rw [List.map_append];rfl
      . rw [tm,List.map_append];refine List.nodup_append.mpr ⟨nd,by simp,fun a ha b hb e=> ?_⟩;rw [List.map_cons,List.map_nil,List.mem_singleton] at hb
        subst e hb;exact mm ha
  . rintro ρ ⟨z3,z4,_,_,rfl,nd⟩;rw [List.take_length] at nd
    exact wp_ret (r:= .val rightD) (tup1 (a:= .val (.str "right")) rfl) ⟨rightD,_,rfl, .inl ⟨rfl,nd⟩⟩
 obtain ⟨o,e1,d,ρ',rfl,hd⟩:=key;exact ⟨d,runD_rt (ρ:= [S0,S1,none,none,none]) rfl rfl ⟨ρ',e1⟩,hd⟩
theorem erase_map{α β:Type}(f:α->β):∀(l:List α) (i:Nat),(l.map f).eraseIdx i=(l.eraseIdx i).map f
 | [],_=>rfl
 | _::_,0=>rfl
 | a::l,i+1=>congrArg (f a :: ·) (erase_map f l i)
theorem erase_perm{α:Type}:∀(s:List α) (a:Nat) (h:a<s.length),(s[a]::s.eraseIdx a).Perm s
 | _::_,0,_=>List.Perm.refl _
 | x::s,a+1,h=>by
  show (s[a]'(by simpa using h)::x::s.eraseIdx a).Perm (x::s);exact (List.Perm.swap ..).trans ((erase_perm s a (by simpa using h)).cons x)
theorem mod_eq{fa fb:En->Option Sl}{ρ:En}{a m:Nat}(ha:fa ρ=some (.val (.int (a:Int))))(hb:fb ρ=some (.val (.int (m:Int))))(hm:0<m):(mBin dMod fa fb) ρ=some (.val (.int ((a % m:Nat):Int))):=by
 refine (bin_eq (op:=dMod) ha hb).trans ((modS (by omega)).trans ?_);rw [Int.fmod_eq_emod_of_nonneg _ (by omega)];rfl
theorem ne_bool{fa fb:En->Option Sl}{ρ:En}{a b:Bool}(ha:fa ρ=some (.val (.bool a)))(hb:fb ρ=some (.val (.bool b))):mTest (mBin dne fa fb) ρ=some (!decide (a=b)):=by
 refine test_eq ((bin_eq (op:=dne) ha hb).trans ?_)
 cases a <;> cases b <;> rfl
theorem any_false{α:Type}(xs:List α):dAny [.own (xs.map fun _=>PyData.bool false)]=some (.val (.bool false)):=by
 have:∀xs:List α,boolsOf (xs.map fun _=>PyData.bool false)=some (xs.map fun _=>false):=by
  intro xs
  induction xs with
  | nil=>rfl
  | cons x xs ih=>rw [List.map_cons,boolsOf,ih];rfl
 show (boolsOf (xs.map fun _=>PyData.bool false)).map _=_;rw [this,Option.map_some];congr 3
 simp
theorem row_at{n:Nat}{s:Lat.Sq}(h:Lat.Ok n s){i:Nat}(hi:i<n):(s.map lN)[i]? = some (lN (s.getD i []))/\(s.getD i []).length=n:=by
 have hs:i<s.length:=by rw [h.len];exact hi
 refine ⟨?_,h.row _ (by rw [List.getD,List.getElem?_eq_getElem hs];exact List.getElem_mem hs)⟩;rw [List.getElem?_map,List.getElem?_eq_getElem hs,List.getD,List.getElem?_eq_getElem hs];rfl
theorem run_order{n:Nat}(h7:n<=7)(c:Int){far:Nat}(hf:far<=100):∃l:List Nat,m_q3 [.int (n:Int), .int c, .int (far:Int)]=some (.own (nl l))/\l.length=n/\l.Nodup/\∀x ∈ l,x<n:=by
 have sl:=sl1000
 let N0:Option Sl:=some (.val (.int (n:Int)))
 let C1:Option Sl:=some (.val (.int c))
 let F2:Option Sl:=some (.val (.int (far:Int)))
 have key:Wp b_q3 [N0,C1,F2,none,none,none] (fun o=>∃(l:List Nat) (ρ':En),l.length=n/\l.Nodup/\(∀x ∈ l,x<n)/\o = .rt (.own (nl l)) ρ'):=by
  unfold b_q3;refine wp_asgS (r:= .own (nl (List.range n))) ?_ ?_
  . show (if 0<=(n:Int)/\(n:Int)<=1000 then some (Sl.own ((List.range (n:Int).toNat).map fun k:Nat=> .int (k:Int))) else none)=_;rw [if_pos ⟨by omega,by omega⟩];rfl
  refine wp_asgS lstNil ?_;show Wp _ [N0,C1,F2,some (.own (nl (List.range n))),some (.own (nl [])),none] _;refine wp_seq (P:=fun ρ=>∃(s f:List Nat) (z5:Option Sl),ρ = [N0,C1,F2,some (.own (nl s)),some (.own (nl f)),z5]/\f.length=n/\(f++s).Perm (List.range n)) ?_ ?_
  . refine wp_forR0 (n:=n) (fun k ρ=>∃(s f:List Nat) (z5:Option Sl),ρ = [N0,C1,F2,some (.own (nl s)),some (.own (nl f)),z5]/\f.length=k/\(f++s).Perm (List.range n)) (rng1_to (j:=n) rfl (by omega)) ⟨_,_,_,rfl,rfl,List.Perm.refl _⟩ ?_ (fun ρ h=>h);rintro k ρ hk ⟨s,f,z5,rfl,hfl,hp⟩;refine ⟨_,rfl,?_⟩
    let K5:Option Sl:=some (.val (.int (k:Int)))
    let E:En:= [N0,C1,F2,some (.own (nl s)),some (.own (nl f)),K5]
    show Wp _ E _
    have hs':s.length=n - k:=by
     have:=hp.length_eq;rw [List.length_append,List.length_range] at this
     omega
    obtain ⟨v,ev⟩:=mix_to (args:=mCons (mVar 1) (mCons (mBin dAdd (mPk 2) (mPk 5)) mNil)) (ρ:=E) (c:=c) (j:=(far:Int)+(k:Int)) rfl (by omega) (by omega)
    have ln:(mCallP dLen (mConsP (mPk 3) mNilP)) E=some (.val (.int (s.length:Nat))):=by
     refine callP_to (ss:= [.own (nl s)]) rfl ?_;show some (Sl.val (.int (((nl s).length:Nat):Int)))=_;rw [nl_len]
    obtain ⟨a,hx,hal⟩:=mod_nat ev ln (by omega);have hal:a<s.length:=by omega
    have st:mAppPop 4 3 (mBin dMod (mCall m_q2 (mCons (mVar 1) (mCons (mBin dAdd (mPk 2) (mPk 5)) mNil))) (mCallP dLen (mConsP (mPk 3) mNilP))) E=some (.nx [N0,C1,F2,some (.own (nl (s.eraseIdx a))),some (.own (nl (f ++ [s[a]]))),K5]):=by
     unfold mAppPop;show Option.bind _ _=_;rw [hx];show (if _ then _ else _)=_;rw [if_pos ⟨by decide,by rw [nl_len];omega,by omega,by rw [nl_len];omega,by rw [nl_len];omega⟩,Int.toNat_natCast];unfold nl;rw [List.getElem?_map,List.getElem?_eq_getElem hal];show some (Out.nx [N0,C1,F2,some (.own ((s.map fun n:Nat=>PyData.int (n:Int)).eraseIdx a)),some (.own ((f.map fun n:Nat=>PyData.int (n:Int)) ++ [PyData.int (s[a]:Int)])),K5])=_;rw [erase_map,List.map_append];rfl
    refine wp_of st ⟨_,_,_,rfl,by rw [List.length_append,hfl];rfl,?_⟩;refine List.Perm.trans ?_ hp;rw [List.append_assoc];exact List.Perm.append_left f (erase_perm s a hal)
  . rintro ρ ⟨s,f,z5,rfl,hfl,hp⟩;exact wp_ret rfl ⟨f,_,hfl,(List.nodup_append.mp (hp.nodup_iff.mpr List.nodup_range)).1,fun x hx=>List.mem_range.mp (hp.mem_iff.mp (List.mem_append_left s hx)),rfl⟩
 obtain ⟨o,e1,l,ρ',l1,l2,l3,rfl⟩:=key;exact ⟨l,runD_rt (ρ:= [N0,C1,F2,none,none,none]) rfl rfl ⟨ρ',e1⟩,l1,l2,l3⟩
def Onc(n:Nat)(l:List Int):Prop:=∀k:Nat,k<n->l.count (k:Int)=1
def rgI(n:Nat):List Int:=(List.range n).map fun k:Nat=>(k:Int)
theorem rgI_mem{n:Nat}{x:Int}:x ∈ rgI n↔∃k:Nat,k<n/\x=(k:Int):=by
 unfold rgI
 constructor
 . intro h;obtain ⟨k,hk,rfl⟩:=List.mem_map.mp h;exact ⟨k,List.mem_range.mp hk,rfl⟩
 . rintro ⟨k,hk,rfl⟩;exact List.mem_map.mpr ⟨k,List.mem_range.mpr hk,rfl⟩
theorem rgI_nd(n:Nat):(rgI n).Nodup:=Lat.nd_map List.nodup_range fun a _ b _ e=>by
 have e:(a:Int)=(b:Int):=e;omega
theorem rgI_len(n:Nat):(rgI n).length=n:=by simp [rgI]
theorem nd_permI{α:Type} [DecidableEq α]:∀ {l l':List α},l.Nodup->l'.Nodup->(∀a,a ∈ l↔a ∈ l')->l.Perm l'
 | [],l',_,_,h=>by
  cases l' with
  | nil=>exact .refl _
  | cons b l'=>exact absurd ((h b).mpr List.mem_cons_self) List.not_mem_nil
 | a::l,l',hn,hn',h=>by
  obtain ⟨h1,h2⟩:=List.nodup_cons.mp hn;have ma:a ∈ l':=(h a).mp List.mem_cons_self;refine List.Perm.trans (List.Perm.cons a (nd_permI h2 (hn'.erase a) fun b=> ?_)) (List.perm_cons_erase ma).symm;rw [List.Nodup.mem_erase_iff hn']
  constructor
  . intro hb;exact ⟨fun z=>h1 (z ▸ hb),(h b).mp (List.mem_cons_of_mem _ hb)⟩
  . rintro ⟨hb,hm⟩;rcases List.mem_cons.mp ((h b).mpr hm) with z | z
    . exact absurd z hb
    . exact z
theorem onc_iff{n:Nat}{l:List Int}(hl:l.length=n):srt l=rgI n↔Onc n l:=by
 constructor
 . intro h k hk;rw [<-(srt_perm l).count_eq,h,List.Nodup.count (rgI_nd n),if_pos (rgI_mem.mpr ⟨k,hk,rfl⟩)]
 . intro h
   have sub:∀a ∈ rgI n,a ∈ l:=fun a ha=>by
    obtain ⟨k,hk,rfl⟩:=rgI_mem.mp ha;exact List.count_pos_iff.mp (by rw [h k hk];decide)
   have nd:=Lat.nodup_of (rgI_nd n) sub (by rw [rgI_len,hl];exact Nat.le_refl _);have all:=Ev.nd_all (rgI_nd n) sub (by rw [rgI_len,hl];exact Nat.le_refl _);refine (srt_eq (nd_permI (rgI_nd n) nd fun a=>⟨sub a,all a⟩) ?_).symm;unfold rgI;rw [List.pairwise_map];exact List.pairwise_lt_range.imp fun h=>by omega
def lI(l:List Int):PyData:= .list (il l)
theorem eqv_ilA:∀a b:List Int,PyData.eqvAll (il a) (il b)=decide (a=b)
 | [],[]=>rfl
 | [],_::_=>rfl
 | _::_,[]=>rfl
 | x::a,y::b=>by
  show (PyData.eqv (.int x) (.int y) && PyData.eqvAll (il a) (il b))=_;rw [eqv_ilA a b]
  by_cases h:x=y <;> by_cases h':a=b <;> simp [PyData.eqv,h,h']
theorem eqv_lI(a b:List Int):PyData.eqv (lI a) (lI b)=decide (a=b):=by
 unfold lI;simp only [PyData.eqv];exact eqv_ilA a b
theorem lay_lI(l:List Int):(lI l).canLay0=true:=lay_list (en:=PyData.int) (fun _=>rfl) l
theorem dep_lI(l:List Int):(lI l).depth<=3:=by
 have:=dep_list (en:=PyData.int) (k:=1) (fun x=>by simp [PyData.depth]) l;simp only [PyData.depth,lI,il];omega
open Classical in
theorem any_map{α:Type}{p:α->Bool}(xs:List α):dAny [.own (xs.map fun x=>PyData.bool (p x))]=some (.val (.bool (xs.any p))):=by
 have:∀xs:List α,boolsOf (xs.map fun x=>PyData.bool (p x))=some (xs.map p):=by
  intro xs
  induction xs with
  | nil=>rfl
  | cons x xs ih=>rw [List.map_cons,boolsOf,ih];rfl
 show (boolsOf (xs.map fun x=>PyData.bool (p x))).map _=_;rw [this,Option.map_some];congr 3
 simp [List.any_map]
theorem all_map{α:Type}{p:α->Bool}(xs:List α):dAll [.own (xs.map fun x=>PyData.bool (p x))]=some (.val (.bool (xs.all p))):=by
 have:∀xs:List α,boolsOf (xs.map fun x=>PyData.bool (p x))=some (xs.map p):=by
  intro xs
  induction xs with
  | nil=>rfl
  | cons x xs ih=>rw [List.map_cons,boolsOf,ih];rfl
 show (boolsOf (xs.map fun x=>PyData.bool (p x))).map _=_;rw [this,Option.map_some];congr 3
 simp [List.all_map]
open Classical in
theorem run_onceI{l:List Int}(hl:l.length<=20):m_q9 [lI l]=some (.val (.bool (decide (Onc l.length l)))):=by
 have sl:=sl1000
 let L0:Option Sl:=some (.val (lI l))
 refine run_wp (ρ:= [L0]) rfl rfl ?_;unfold b_q9
 have e1:(mLC (subE [none]) (mItemsS (mVar 0)) (gVar 0) mYes (mIsi "bool" (mPk 0))) [L0]=some (.own (l.map fun _=>PyData.bool false)):=by
  refine lc_to (ds:=il l) rfl (by rw [il_len];omega) ?_;exact compM_map (en:=PyData.int) (g:=fun _=> .bool false) fun k _=>el_to (fg:=gVar 0) (ρ0:= [none]) (d:= .int k) (ρ1:= [some (.val (.int k))]) (r:= .val (.bool false)) rfl rfl
 refine wp_skip (test_eq (callP_to (consP_to e1 rfl) (any_false l))) ?_
 have ln:(mCallP dLen (mConsP (mPk 0) mNilP)) [L0]=some (.val (.int (l.length:Nat))):=by
  refine callP_to (ss:= [.val (lI l)]) rfl ?_;show some (Sl.val (.int (((il l).length:Nat):Int)))=_;rw [il_len]
 have lr:(mLR (mCallP dLen (mConsP (mPk 0) mNilP))) [L0]=some (.own (il (rgI l.length))):=by
  unfold mLR;rw [ln];show (if 0<=(l.length:Int)/\(l.length:Int)<=1000 then some (Sl.own ((List.range (l.length:Int).toNat).map fun k:Nat=> .int (k:Int))) else none)=_;rw [if_pos ⟨by omega,by omega⟩];unfold rgI il;rw [List.map_map];rfl
 have so:(mCallP dSorted (mConsP (mPk 0) mNilP)) [L0]=some (.own (il (srt l))):=by
  refine callP_to (ss:= [.val (lI l)]) rfl ?_;show (intsOf (il l)).bind (fun ns=>if ns.length<64 then some (Sl.own ((srt ns).map .int)) else none)=_;rw [intsOf_il];show (if l.length<64 then _ else _)=_;rw [if_pos (by omega)];rfl
 refine wp_ret ((bin_eq (op:=deq) so lr).trans ?_) rfl;show (eqD (lI (srt l)) (lI (rgI l.length))).map _=_;have d1:=dep_lI (rgI l.length);unfold eqD;rw [if_pos ⟨lay_lI _,lay_lI _,Nat.le_trans (Nat.min_le_right _ _) (by omega)⟩];show some (Sl.val (.bool (PyData.eqv (lI (srt l)) (lI (rgI l.length)))))=_;rw [eqv_lI];congr 3
 exact decide_eq_decide.mpr (onc_iff rfl)
def rD(R:List (List Int)):PyData:= .list (R.map lI)
def colI(R:List (List Int))(j:Nat):List Int:=R.map fun r=>r.getD j 0
def SqP(R:List (List Int)):Prop:=(∀r ∈ R,r.length=R.length)/\(∀r ∈ R,Onc R.length r)/\∀j,j<R.length->Onc R.length (colI R j)
theorem il_get{x:List Int}{d:Nat}(h:d<x.length):(il x)[d]? = some (.int (x.getD d 0)):=by
 unfold il;rw [List.getElem?_map,List.getElem?_eq_getElem h];simp [List.getD,List.getElem?_eq_getElem h]
theorem len_rD{R:List (List Int)}{ρ:En}{i:Nat}{s:Sl}(h:(ρ[i]?).join=some s)(hs:s.dat=rD R):(mCallP dLen (mConsP (mPk i) mNilP)) ρ=some (.val (.int (R.length:Nat))):=by
 refine callP_to (ss:= [s]) (consP_to (as:= []) (by unfold mPk;exact h) rfl) ?_;show dLen [s]=_;simp only [dLen,hs,rD,List.length_map]
theorem len_lI{r:List Int}{ρ:En}{i:Nat}(h:(ρ[i]?).join=some (.val (lI r))):(mCallP dLen (mConsP (mPk i) mNilP)) ρ=some (.val (.int (r.length:Nat))):=by
 refine callP_to (ss:= [.val (lI r)]) (consP_to (as:= []) (by unfold mPk;exact h) rfl) ?_;show some (Sl.val (.int (((il r).length:Nat):Int)))=_;rw [il_len]
theorem col_eval{R:List (List Int)}{n j:Nat}(hR:R.length<=20)(hl:∀r ∈ R,r.length=n)(hj:j<n){J:Option Sl}{d:Int}(hJ:J=some (.val (.int d)))(hd:d=(j:Int)):compM (elM (gVar 1) mYes (mBin dix (mPk 1) (mPk 0)) [J,none]) (R.map lI)=some (il (colI R j)):=by
 subst hJ hd;refine (compM_map (en:=lI) (g:=fun r=> .int (r.getD j 0)) fun r hr=> ?_).trans (by unfold il colI;rw [List.map_map];rfl);refine el_to (fg:=gVar 1) (ρ0:= [some (.val (.int (j:Int))),none]) (d:=lI r) (ρ1:= [some (.val (.int (j:Int))),some (.val (lI r))]) (r:= .val (.int (r.getD j 0))) rfl ?_;exact (bin_eq (op:=dix) (a:= .val (lI r)) (b:= .val (.int (j:Nat))) rfl rfl).trans (dix_nat (.inl rfl) (il_get (by rw [hl r hr];exact hj)))
theorem run_overI{R:List (List Int)}(h1:1<=R.length)(h8:R.length<=20)(hl:∀r ∈ R,r.length=R.length):m_q11 [rD R]=some (.own (((List.range R.length).map (colI R)).map lI)):=by
 have sl:=sl1000
 let S0:Option Sl:=some (.val (rD R))
 refine run_wp (ρ:= [S0]) rfl rfl ?_;unfold b_q11;obtain ⟨r0,e0⟩:∃r0,R[0]? = some r0:=⟨R[0],List.getElem?_eq_getElem (by omega)⟩;have x0:(mBin dix (mPk 0) (mK (.int 0))) [S0]=some (.val (lI r0)):=(bin_eq (op:=dix) (a:= .val (rD R)) (b:= .val (.int ((0:Nat):Int))) rfl rfl).trans (dix_nat (.inl rfl) (by rw [List.getElem?_map,e0];rfl))
 have ln:(mCallP dLen (mConsP (mBin dix (mPk 0) (mK (.int 0))) mNilP)) [S0]=some (.val (.int (R.length:Nat))):=by
  refine callP_to (consP_to x0 rfl) ?_;show some (Sl.val (.int (((il r0).length:Nat):Int)))=_;rw [il_len,hl r0 (List.mem_of_getElem? e0)]
 refine wp_ret (lc_to (ds:=rngD 0 R.length) (rng1_to (consP_to (as:= []) ln rfl) (by omega)) (by simp [rngD];omega) ?_) rfl;show compM (elM _ _ _ [S0,none]) _=_;rw [List.map_map];unfold rngD;refine compM_map (en:=fun j:Nat=> .int (0+(j:Nat))) (g:=lI ∘ colI R) (xs:=List.range R.length) fun j hj=> ?_;have hj:=List.mem_range.mp hj;refine el_to (fg:=gVar 1) (ρ0:= [S0,none]) (ρ1:= [S0,some (.val (.int (0+(j:Nat))))]) (r:= .own (il (colI R j))) rfl ?_;exact lc_to (ds:=R.map lI) rfl (by rw [List.length_map];omega) (col_eval (n:=R.length) h8 hl hj rfl (by omega))
open Classical in
theorem run_isqI{R:List (List Int)}(h1:1<=R.length)(h8:R.length<=10):m_q10 [rD R]=some (.val (.bool (decide (SqP R)))):=by
 have sl:=sl1000
 let S0:Option Sl:=some (.val (rD R))
 refine run_wp (ρ:= [S0]) rfl rfl ?_;unfold b_q10
 have e1:(mLC (subE [some 0,none]) (mItemsS (mVar 0)) (gVar 1) mYes (mBin dne (mCallP dLen (mConsP (mPk 1) mNilP)) (mCallP dLen (mConsP (mPk 0) mNilP)))) [S0]=some (.own (R.map fun r=>PyData.bool (!decide (r.length=R.length)))):=by
  refine lc_to (ds:=R.map lI) rfl (by rw [List.length_map];omega) ?_;refine compM_map (en:=lI) (g:=fun r=> .bool (!decide (r.length=R.length))) fun r hr=>el_to (fg:=gVar 1) (ρ0:= [S0,none]) (d:=lI r) (ρ1:= [S0,some (.val (lI r))]) (r:= .val (.bool (!decide (r.length=R.length)))) rfl ?_;refine (bin_eq (op:=dne) (len_lI rfl) (len_rD (R:=R) (i:=0) rfl rfl)).trans ?_;show (eqD (.int _) (.int _)).map _=_;unfold eqD;rw [if_pos ⟨rfl,rfl,by simp [PyData.depth]⟩];show some (Sl.val (.bool (!(PyData.eqv (.int _) (.int _)))))=_;congr 4
  by_cases h:r.length=R.length
  . simp [PyData.eqv,h]
  . have:¬((r.length:Int)=(R.length:Int)):=by omega
    simp [PyData.eqv,h,this]
 by_cases hl:∀r ∈ R,r.length=R.length
 . have an:(R.any fun r=> !decide (r.length=R.length))=false:=List.any_eq_false.mpr fun r hr=>by simp [hl r hr]
   refine wp_skip (test_eq ((callP_to (consP_to e1 rfl) (any_map R)).trans (by rw [an]))) ?_
   let C:=(List.range R.length).map (colI R)
   have cl:∀r ∈ R++C,r.length=R.length:=fun r hr=>by
    rcases List.mem_append.mp hr with h | h
    . exact hl r h
    . obtain ⟨j,_,rfl⟩:=List.mem_map.mp h;unfold colI;rw [List.length_map]
   have al:(R++C).length<=20:=by
    rw [List.length_append,List.length_map,List.length_range];omega
   have it:(mItemsS (mBin dAdd (mPk 0) (mCall m_q11 (mCons (mVar 0) mNil)))) [S0]=some ((R++C).map lI):=by
    refine itemsS_to (a:= .own ((R++C).map lI)) ((bin_eq (op:=dAdd) (a:= .val (rD R)) rfl (call_to (ds:= [rD R]) rfl (run_overI h1 (by omega) hl))).trans ((add_own rfl rfl ?_).trans (by rw [List.map_append]))) (.inl rfl);rw [<-List.length_append, <-List.map_append,List.length_map];show (R++C).length<=sizeLine;omega
   refine wp_ret (callP_to (consP_to (lc_to it (by rw [List.length_map];omega) (compM_map (en:=lI) (g:=fun r=> .bool (decide (Onc R.length r))) fun r hr=> ?_)) rfl) ((all_map (R++C)).trans ?_)) rfl
   . have rl:=cl r hr;refine el_to (fg:=gVar 0) (ρ0:= [none]) (d:=lI r) (ρ1:= [some (.val (lI r))]) (r:= .val (.bool (decide (Onc R.length r)))) rfl (call_to (ds:= [lI r]) rfl ?_);rw [<-rl];exact run_onceI (by omega)
   . congr 3
     rw [Bool.eq_iff_iff,List.all_eq_true,decide_eq_true_iff]
     constructor
     . intro h;refine ⟨hl,fun r hr=>of_decide_eq_true (h r (List.mem_append_left _ hr)),fun j hj=>of_decide_eq_true (h _ (List.mem_append_right _ (List.mem_map.mpr ⟨j,List.mem_range.mpr hj,rfl⟩)))⟩
     . rintro ⟨_,h2,h3⟩ r hr;rcases List.mem_append.mp hr with h | h
       . exact decide_eq_true (h2 r h)
       . obtain ⟨j,hj,rfl⟩:=List.mem_map.mp h;exact decide_eq_true (h3 j (List.mem_range.mp hj))
 . have an : (R.any fun r => !decide (r.length = R.length)) = true := by
    obtain ⟨r,hr⟩:=Classical.not_forall.mp hl;obtain ⟨h2,h3⟩:=Classical.not_imp.mp hr;exact List.any_eq_true.mpr ⟨r,h2,by simp [h3]⟩
   refine wp_seqG (wp_ifT (test_eq ((callP_to (consP_to e1 rfl) (any_map R)).trans (by rw [an]))) (wp_ret (r:= .val (.bool false)) rfl ?_));show Sl.val (.bool false)=_;rw [decide_eq_false fun h=>hl h.1]
open Classical in
theorem run_lisq{R:List (List Int)}(h1:1<=R.length)(h8:R.length<=10)(hs:∀r ∈ R,r.length<=10):m_q1 [rD R]=some (.val (.bool (decide (SqP R)))):=by
 have sl:=sl1000
 let S0:Option Sl:=some (.val (rD R))
 let n:=R.length
 let N1:Option Sl:=some (.val (.int (n:Int)))
 refine run_wp (ρ:= [S0,none,none,none,none]) rfl rfl ?_;unfold b_q1;refine wp_asgS (r:= .val (.int (n:Int))) (len_rD (R:=R) (i:=0) rfl rfl) ?_;show Wp _ [S0,N1,none,none,none] _;have no:¬SqP R->Sl.val (.bool false)=Sl.val (.bool (decide (SqP R))):=fun h=>by rw [decide_eq_false h]
 have cnt:∀ {ρ:En} {f:En->Option Sl} {s:Sl} {l:List Int} {k:Nat},f ρ=some s->s.dat=lI l->(ρ[4]?).join=some (.val (.int (k:Nat)))->(mTest (mBin dne (mBin dCnt f (mPk 4)) (mK (.int 1)))) ρ=some (!decide (((l.count (k:Int):Nat):Int)=1)):=fun {ρ f s l k} hf hs hk=>by
  refine ne_int ((bin_eq (op:=dCnt) hf (b:= .val (.int (k:Nat))) (by unfold mPk;exact hk)).trans ?_) rfl;unfold dCnt;rw [hs];show (intsOf (il l)).map _=_;rw [intsOf_il];rfl
 refine wp_seqG ?_;refine wp_forL (en:=lI) (xs:=R) (fun j ρ=>∃z2 z4,ρ = [S0,N1,z2,none,z4]/\∀r ∈ R.take j,r.length=n/\Onc n r) rfl ⟨_,_,rfl,fun r hr=>by simp at hr⟩ ?_ ?_
 . rintro j r ρ hj ⟨z2,z4,rfl,ih⟩;have hr:=List.mem_of_getElem? hj;have tk:R.take (j+1)=R.take j ++ [r]:=by rw [List.take_add_one,hj];rfl
   refine ⟨_,rfl,?_⟩
   let R2:Option Sl:=some (.val (lI r))
   show Wp _ [S0,N1,R2,none,z4] _;have tst:=ne_int (len_lI (r:=r) (ρ:= [S0,N1,R2,none,z4]) (i:=2) rfl) (fb:=mPk 1) (j:=(n:Int)) rfl
   by_cases hn:r.length=n
   . refine wp_skip (tst.trans (by rw [decide_eq_true (by omega)];rfl)) ?_;refine wp_forR0 (n:=n) (fun k ρ=>∃z4,ρ = [S0,N1,R2,none,z4]/\∀m,m<k->r.count (m:Int)=1) (rng1_to (j:=n) rfl (by omega)) ⟨_,rfl,fun m hm=>by omega⟩ ?_ ?_
     . rintro k ρ hk ⟨z4,rfl,ik⟩;refine ⟨_,rfl,?_⟩;have ct:=cnt (ρ:= [S0,N1,R2,none,some (.val (.int (k:Nat)))]) (f:=mPk 2) (s:= .val (lI r)) (l:=r) (k:=k) rfl rfl rfl
       by_cases hc:r.count (k:Int)=1
       . refine wp_ifF (ct.trans (by rw [decide_eq_true (by omega)];rfl)) (wp_next ⟨_,rfl,fun m hm=> ?_⟩)
         by_cases e:m=k
         . subst e;exact hc
         . exact ik m (by omega)
       . refine wp_ifT (ct.trans (by rw [decide_eq_false (by omega)];rfl)) (wp_ret (r:= .val (.bool false)) rfl (no fun h=>hc (h.2.1 r hr k hk)))
     . rintro ρ ⟨z4,rfl,ik⟩;refine ⟨_,_,rfl,fun q hq=> ?_⟩;rw [tk] at hq
       rcases List.mem_append.mp hq with h | h
       . exact ih q h
       . cases List.mem_singleton.mp h
         exact ⟨hn,fun k hk=>ik k hk⟩
   . exact wp_seqG (wp_ifT (tst.trans (by rw [decide_eq_false (by omega)];rfl)) (wp_ret (r:= .val (.bool false)) rfl (no fun h=>hn (h.1 r hr))))
 . rintro ρ ⟨z2,z4,rfl,ih⟩;rw [List.take_length] at ih
   show Wp _ [S0,N1,z2,none,z4] _;refine wp_seqG ?_;refine wp_forR0 (n:=n) (fun j ρ=>∃z3 z4,ρ = [S0,N1,z2,z3,z4]/\∀m,m<j->Onc n (colI R m)) (rng1_to (j:=n) rfl (by omega)) ⟨_,_,rfl,fun m hm=>by omega⟩ ?_ ?_
   . rintro j ρ hj ⟨z3,z4,rfl,ij⟩;refine ⟨_,rfl,?_⟩
     let J3:Option Sl:=some (.val (.int (j:Nat)))
     show Wp _ [S0,N1,z2,J3,z4] _;refine wp_forR0 (n:=n) (fun k ρ=>∃z4,ρ = [S0,N1,z2,J3,z4]/\∀m,m<k->(colI R j).count (m:Int)=1) (rng1_to (j:=n) rfl (by omega)) ⟨_,rfl,fun m hm=>by omega⟩ ?_ ?_
     . rintro k ρ hk ⟨z4,rfl,ik⟩;refine ⟨_,rfl,?_⟩;have lc:(mLC (subE [some 3,none]) (mItemsS (mVar 0)) (gVar 1) mYes (mBin dix (mPk 1) (mPk 0))) [S0,N1,z2,J3,some (.val (.int (k:Nat)))]=some (.own (il (colI R j))):=lc_to (ds:=R.map lI) rfl (by rw [List.length_map];omega) (col_eval (n:=n) (by omega) (fun r hr=>(ih r hr).1) hj rfl rfl);have ct:=cnt (k:=k) lc rfl rfl
       by_cases hc:(colI R j).count (k:Int)=1
       . refine wp_ifF (ct.trans (by rw [decide_eq_true (by omega)];rfl)) (wp_next ⟨_,rfl,fun m hm=> ?_⟩)
         by_cases e:m=k
         . subst e;exact hc
         . exact ik m (by omega)
       . refine wp_ifT (ct.trans (by rw [decide_eq_false (by omega)];rfl)) (wp_ret (r:= .val (.bool false)) rfl (no fun h=>hc (h.2.2 j hj k hk)))
     . rintro ρ ⟨z4,rfl,ik⟩;refine ⟨_,_,rfl,fun m hm=> ?_⟩
       by_cases e:m=j
       . subst e;exact fun k hk=>ik k hk
       . exact ij m (by omega)
   . rintro ρ ⟨z3,z4,rfl,ij⟩;refine wp_ret (r:= .val (.bool true)) rfl ?_;show Sl.val (.bool true)=_;rw [decide_eq_true (show SqP R from ⟨fun r hr=>(ih r hr).1,fun r hr=>(ih r hr).2,fun j hj=>ij j hj⟩)]
theorem compW_map{α:Type}{f:PyData->Option (List PyData)}{en:α->PyData}{g:α->List PyData}:∀ {xs:List α},(∀x ∈ xs,f (en x)=some (g x))->compW f (xs.map en)=some (xs.map g)
 | [],_=>rfl
 | x::xs,h=>by
  rw [List.map_cons,compW,h x List.mem_cons_self,compW_map fun y hy=>h y (List.mem_cons_of_mem _ hy)];rfl
theorem elW_to{fg:PyData->En->Option En}{fe:En->Option Sl}{ρ0 ρ1:En}{d:PyData}{es:List PyData}(h1:fg d ρ0=some ρ1)(h2:fe ρ1=some (.own es)):elW fg mYes fe ρ0 d=some es:=by
 unfold elW;rw [h1];show ((mYes ρ1).bind fun b=>if b then ownOf (fe ρ1) else none)=_;rw [h2];rfl
theorem seqW_wp{f:En->Option Out}{g:En->Option (List (List PyData))}{ρ:En}{P:En->Prop}{Q:List (List PyData)->Prop}(h:Wp f ρ (Nx P))(k:∀ρ',P ρ'->∃rs,g ρ'=some rs/\Q rs):∃rs,mSeqW f g ρ=some rs/\Q rs:=by
 obtain ⟨o,h1,h2⟩:=h
 cases o with
 | nx ρ' =>
  obtain ⟨rs,k1,k2⟩:=k ρ' h2;refine ⟨rs,?_,k2⟩;unfold mSeqW;rw [h1]
  exact k1
 | _=>exact h2.elim
theorem runW_ex{n k:Nat}{g:En->Option (List (List PyData))}{ds:List PyData}{ρ:En}{Q:List (List PyData)->Prop}(hl:ds.length=k)(e:ds.map (fun d=>some (Sl.val d))++List.replicate (n - ds.length) none=ρ)(h:∃rs,g ρ=some rs/\Q rs):∃rs,runW n g k ds=some rs/\Q rs:=by
 obtain ⟨rs,h1,h2⟩:=h;refine ⟨rs,?_,h2⟩;unfold runW;rw [if_pos hl,e];exact h1
theorem rowsInW_ex{i:Nat}{f g:En->Option (List (List PyData))}{ρ:En}{rs0:List (List PyData)}{Q:List (List PyData)->Prop}(hi:i<ρ.length)(hf:f ρ=some rs0)(h:∃rs,g (ρ.set i (some (.own (rs0.map .list))))=some rs/\Q rs):∃rs,mRowsInW i f g ρ=some rs/\Q rs:=by
 obtain ⟨rs,h1,h2⟩:=h;refine ⟨rs,?_,h2⟩;unfold mRowsInW;rw [if_pos hi,hf];exact h1
theorem lI_rows(R:List (List Int)):R.map lI=(R.map il).map .list:=by rw [List.map_map];rfl
theorem setI {i p q : Nat} {fa fb fe : En -> Option Sl} {ρ : En} {v : Int} {R : List (List Int)} {r : List Int} (hv : fe ρ = some (.val (.int v))) (ha : fa ρ = some (.val (.int (p : Nat)))) (hb : fb ρ = some (.val (.int (q : Nat)))) (h : (ρ[i]?).join = some (.own (R.map lI))) (hp : R[p]? = some r) (hq : q < r.length) :
 mSetW i fa fb fe ρ=some (.nx (ρ.set i (some (.own ((R.set p (r.set q v)).map lI))))):=by
 have hpl:p<R.length:=(List.getElem?_eq_some_iff.mp hp).1
 have ix:∀(k m:Nat),k<m->ixN m (k:Int)=some k:=fun k m hk=>by
  unfold ixN;rw [if_pos (by omega),if_pos (by omega)];simp
 unfold mSetW;rw [hv,ha,hb,h,lI_rows];show (rowsOf ((R.map il).map .list)).bind _=_;rw [rowsOf_map];show (ixN (R.map il).length (p:Int)).bind _=_;rw [List.length_map,ix p _ hpl];show ((R.map il)[p]?).bind _=_;rw [List.getElem?_map,hp];show (ixN (il r).length (q:Int)).map _=_;rw [il_len,ix q _ hq];show some (Out.nx (ρ.set i (some (.own (((R.map il).set p ((il r).set q (.int v))).map .list)))))=_;rw [lI_rows];congr 6
 unfold il;rw [List.map_set,List.map_set]
theorem popTopI {i p : Nat} {fa : En -> Option Sl} {ρ : En} {R : List (List Int)} (ha : fa ρ = some (.val (.int (p : Nat)))) (h : (ρ[i]?).join = some (.own (R.map lI))) (hp : p < R.length) (hs : R.length <= 1000) :
 mPopTop i fa ρ=some (.nx (ρ.set i (some (.own ((R.eraseIdx p).map lI))))):=by
 have sl:=sl1000;unfold mPopTop;rw [ha,h,lI_rows];show (rowsOf ((R.map il).map .list)).bind _=_;rw [rowsOf_map];show (if _ then _ else _)=_;rw [if_pos ⟨by omega,by rw [List.length_map];omega,by rw [List.length_map];omega⟩,lI_rows,Int.toNat_natCast,map_erase]
theorem popRowI {i p q : Nat} {fa fb : En -> Option Sl} {ρ : En} {R : List (List Int)} {r : List Int} (ha : fa ρ = some (.val (.int (p : Nat)))) (hb : fb ρ = some (.val (.int (q : Nat)))) (h : (ρ[i]?).join = some (.own (R.map lI))) (hp : R[p]? = some r) (hq : q < r.length) (hs : r.length <= 1000) :
 mPopRow i fa fb ρ=some (.nx (ρ.set i (some (.own ((R.set p (r.eraseIdx q)).map lI))))):=by
 have sl:=sl1000;have hpl:p<R.length:=(List.getElem?_eq_some_iff.mp hp).1;unfold mPopRow;rw [ha,hb,h,lI_rows];show (rowsOf ((R.map il).map .list)).bind _=_;rw [rowsOf_map];show (ixN (R.map il).length (p:Int)).bind _=_
 have ix:ixN (R.map il).length (p:Int)=some p:=by
  unfold ixN;rw [if_pos (by omega),if_pos (by rw [List.length_map];omega)];simp
 rw [ix];show ((R.map il)[p]?).bind _=_;rw [List.getElem?_map,hp];show (if _ then _ else _)=_;rw [if_pos ⟨by omega,by rw [il_len];omega,by rw [il_len];omega⟩,lI_rows,Int.toNat_natCast];congr 6
 unfold il;rw [List.map_set,map_erase]
def Bd(R:List (List Int)):Prop:=1<=R.length/\R.length<=7/\∀r ∈ R,r.length<=7
theorem bd_set{R:List (List Int)}{p:Nat}{r:List Int}(h:Bd R)(hr:r.length<=7):Bd (R.set p r):=⟨by rw [List.length_set];exact h.1,by rw [List.length_set];exact h.2.1,fun q hq=>by
 rcases List.mem_or_eq_of_mem_set hq with z | z
 . exact h.2.2 q z
 . rw [z];exact hr⟩
theorem run_bent{n:Nat}{R0:List (List Int)}(h1:1<=n)(h7:n<=7)(hn:R0.length=n)(hr:∀r ∈ R0,r.length=n)(c:Int):∃rs,m_q0 [rD R0, .int c]=some rs/\∃R,rs=R.map il/\Bd R:=by
 have sl:=sl1000
 let S0:Option Sl:=some (.val (rD R0))
 let C1:Option Sl:=some (.val (.int c))
 let N2:Option Sl:=some (.val (.int (n:Nat)))
 have b0:Bd R0:=⟨by omega,by omega,fun r hr'=>by rw [hr r hr'];omega⟩
 have row:∀i,i<n->∃r,R0[i]? = some r/\r.length=n:=fun i hi=>by
  have hl:i<R0.length:=by omega
  exact ⟨R0[i],List.getElem?_eq_getElem hl,hr _ (List.getElem_mem hl)⟩
 have mx:∀(k:Nat) (m:Int) (f:En->Option Sl) (ρ:En),k<=100->0<m->(ρ[1]?).join=C1->f ρ=some (.val (.int m))->∃v:Nat,(mBin dMod (mCall m_q2 (mCons (mVar 1) (mCons (mK (.int (k:Int))) mNil))) f) ρ=some (.val (.int (v:Nat)))/\(v:Int)<m:=fun k m f ρ hk hm h1 hf=>by
  obtain ⟨v,ev⟩:=mix_to (args:=mCons (mVar 1) (mCons (mK (.int (k:Int))) mNil)) (ρ:=ρ) (c:=c) (j:=(k:Int)) (cons_to (a:= .val (.int c)) (by unfold mVar;rw [h1]) rfl) (by omega) (by omega);exact mod_nat ev hf hm
 refine runW_ex (ρ:= [S0,C1,none,none,none,none,none,none]) rfl rfl ?_;unfold b_q0;refine seqW_wp (P:=fun ρ=>ρ = [S0,C1,N2,none,none,none,none,none]) (wp_asg (r:= .val (.int (n:Nat))) (by rw [<-hn];exact len_rD (R:=R0) (i:=0) rfl rfl) rfl) ?_;rintro ρ rfl
 have lc:(mLCW (subE [none]) (mItemsS (mVar 0)) (gVar 0) mYes (mCallP dList (mConsP (mPk 0) mNilP))) [S0,C1,N2,none,none,none,none,none]=some (R0.map il):=by
  unfold mLCW;show (if (R0.map lI).length<sizeLine then compW (elW (gVar 0) mYes (mCallP dList (mConsP (mPk 0) mNilP)) [none]) (R0.map lI) else none)=_;rw [if_pos (by rw [List.length_map];omega)];exact compW_map fun r _=>elW_to (ρ1:= [some (.val (lI r))]) rfl rfl
 refine rowsInW_ex (show 3<8 by decide) lc ?_;rw [<-lI_rows];show ∃rs,(mSeqW _ _) [S0,C1,N2,some (.own (R0.map lI)),none,none,none,none]=some rs/\_;obtain ⟨i,ei,hi⟩:=mx 40 n (mPk 2) [S0,C1,N2,some (.own (R0.map lI)),none,none,none,none] (by decide) (by omega) rfl rfl
 let I4:Option Sl:=some (.val (.int (i:Nat)))
 refine seqW_wp (P:=fun ρ=>ρ = [S0,C1,N2,some (.own (R0.map lI)),I4,none,none,none]) (wp_asg ei rfl) ?_;rintro ρ rfl;obtain ⟨j,ej,hj⟩:=mx 41 n (mPk 2) [S0,C1,N2,some (.own (R0.map lI)),I4,none,none,none] (by decide) (by omega) rfl rfl
 let J5:Option Sl:=some (.val (.int (j:Nat)))
 refine seqW_wp (P:=fun ρ=>ρ = [S0,C1,N2,some (.own (R0.map lI)),I4,J5,none,none]) (wp_asg ej rfl) ?_;rintro ρ rfl;obtain ⟨w,ew,hw⟩:=mx 42 9 (mK (.int 9)) [S0,C1,N2,some (.own (R0.map lI)),I4,J5,none,none] (by decide) (by decide) rfl rfl
 let W6:Option Sl:=some (.val (.int (w:Nat)))
 obtain ⟨ri,gi,li⟩:=row i (by omega)
 let F:Nat->En->Prop:=fun k ρ=>∃(R:List (List Int)) (z7:Option Sl),ρ = [S0,C1,N2,some (.own (R.map lI)),I4,J5,W6,z7]/\Bd R/\(k<=w->R=R0)
 have tst:∀(k:Nat) (R:List (List Int)) (z7:Option Sl),(mTest (mBin deq (mPk 6) (mK (.int (k:Int))))) [S0,C1,N2,some (.own (R.map lI)),I4,J5,W6,z7]=some (decide ((w:Int)=(k:Int))):=fun k R z7=>eq_int rfl rfl;have tn:∀(R:List (List Int)) (z7:Option Sl),(mTest (mBin dGt (mPk 2) (mK (.int 1)))) [S0,C1,N2,some (.own (R.map lI)),I4,J5,W6,z7]=some (decide ((1:Int)<(n:Int))):=fun R z7=>rfl;refine seqW_wp (P:=F 0) (wp_asg ew ⟨R0,none,rfl,b0,fun _=>rfl⟩) ?_;rintro ρ ⟨R,z7,rfl,bR,uR⟩;refine seqW_wp (P:=F 1) ?_ ?_
 . by_cases hk:w=0
   . have e:=uR (by omega);subst e;obtain ⟨v,ev,_⟩:=mx 43 n (mPk 2) [S0,C1,N2,some (.own (R.map lI)),I4,J5,W6,z7] (by decide) (by omega) rfl rfl;exact wp_ifT ((tst 0 R z7).trans (by rw [decide_eq_true (by omega)])) (wp_of (setI ev rfl rfl rfl gi (by omega)) ⟨_,_,rfl,bd_set bR (by rw [List.length_set];omega),fun h=>by omega⟩)
   . exact wp_ifF ((tst 0 R z7).trans (by rw [decide_eq_false (by omega)])) (wp_next ⟨R,z7,rfl,bR,fun h=>uR (by omega)⟩)
 rintro ρ ⟨R,z7,rfl,bR,uR⟩;refine seqW_wp (P:=F 2) ?_ ?_
 . by_cases hk:w=1
   . have e:=uR (by omega);subst e;obtain ⟨o,eo,ho⟩:=mx 44 n (mPk 2) [S0,C1,N2,some (.own (R.map lI)),I4,J5,W6,z7] (by decide) (by omega) rfl rfl
     let O7:Option Sl:=some (.val (.int (o:Nat)))
     obtain ⟨ro,go,lo⟩:=row o (by omega)
     have at2:∀(f:En->Option Sl) (p:Nat) (r:List Int) (Q:Option Sl),f [S0,C1,N2,Q,I4,J5,W6,O7]=some (.val (.int (p:Nat)))->R[p]? = some r->r.length=n->(mBin dix (mBin dix (mPk 0) f) (mPk 5)) [S0,C1,N2,Q,I4,J5,W6,O7]=some (.val (.int (r.getD j 0))):=fun f p r Q hf hp hl=>
      (bin_eq (op:=dix) ((bin_eq (op:=dix) (a:= .val (rD R)) rfl hf).trans (dix_nat (.inl rfl) (by rw [List.getElem?_map,hp];rfl))) (b:= .val (.int (j:Nat))) rfl).trans (dix_nat (.inl rfl) (il_get (by omega)))
     refine wp_ifT ((tst 1 R z7).trans (by rw [decide_eq_true (by omega)])) (wp_asgS eo ?_);show Wp _ [S0,C1,N2,some (.own (R.map lI)),I4,J5,W6,O7] _;refine wp_seqN (setI (at2 (mPk 7) o ro _ rfl go lo) rfl rfl rfl gi (by omega)) ?_
     let R1:=R.set i (ri.set j (ro.getD j 0))
     show Wp _ [S0,C1,N2,some (.own (R1.map lI)),I4,J5,W6,O7] _
     obtain ⟨r1,g1,l1⟩:∃r1,R1[o]? = some r1/\r1.length=n:=by
      by_cases e:i=o
      . subst e;exact ⟨_,List.getElem?_set_self (List.getElem?_eq_some_iff.mp gi).1,by rw [List.length_set];exact li⟩
      . exact ⟨ro,by show (R.set i _)[o]? = _;rw [List.getElem?_set_ne e];exact go,lo⟩
     exact wp_of (setI (at2 (mPk 4) i ri _ rfl gi li) rfl rfl rfl g1 (by omega)) ⟨_,_,rfl,bd_set (bd_set bR (by rw [List.length_set];omega)) (by rw [List.length_set];omega),fun h=>by omega⟩
   . exact wp_ifF ((tst 1 R z7).trans (by rw [decide_eq_false (by omega)])) (wp_next ⟨R,z7,rfl,bR,fun h=>uR (by omega)⟩)
 rintro ρ ⟨R,z7,rfl,bR,uR⟩;refine seqW_wp (P:=F 3) ?_ ?_
 . have ta:=and_to (tst 2 R z7) (tn R z7)
   by_cases hk:w=2/\1<n
   . have e:=uR (by omega);subst e;refine wp_ifT (ta.trans (by rw [decide_eq_true (by omega),decide_eq_true (by omega)];rfl)) (wp_of (popTopI (p:=i) rfl rfl (by omega) (by omega)) ⟨_,_,rfl,⟨?_,?_,fun r hr' => ?_⟩,fun h=>by omega⟩)
     . rw [List.length_eraseIdx,if_pos (by omega)];omega
     . rw [List.length_eraseIdx,if_pos (by omega)];omega
     . exact bR.2.2 r ((List.eraseIdx_sublist ..).subset hr')
   . refine wp_ifF (ta.trans ?_) (wp_next ⟨R,z7,rfl,bR,fun h=>uR (by omega)⟩)
     by_cases e:w=2
     . rw [decide_eq_true (show (w:Int)=((2:Nat):Int) by omega),decide_eq_false (by omega)];rfl
     . rw [decide_eq_false (by omega)];rfl
 rintro ρ ⟨R,z7,rfl,bR,uR⟩;refine seqW_wp (P:=F 4) ?_ ?_
 . have ta:=and_to (tst 3 R z7) (tn R z7)
   by_cases hk:w=3/\1<n
   . have e:=uR (by omega);subst e;refine wp_ifT (ta.trans (by rw [decide_eq_true (by omega),decide_eq_true (by omega)];rfl)) (wp_of (popRowI (p:=i) (q:=j) rfl rfl rfl gi (by omega) (by omega)) ⟨_,_,rfl,bd_set bR ?_,fun h=>by omega⟩);rw [List.length_eraseIdx,if_pos (by omega)];omega
   . refine wp_ifF (ta.trans ?_) (wp_next ⟨R,z7,rfl,bR,fun h=>uR (by omega)⟩)
     by_cases e:w=3
     . rw [decide_eq_true (show (w:Int)=((3:Nat):Int) by omega),decide_eq_false (by omega)];rfl
     . rw [decide_eq_false (by omega)];rfl
 rintro ρ ⟨R,z7,rfl,bR,uR⟩;refine seqW_wp (P:=F 5) ?_ ?_
 . by_cases hk:w=4
   . have e:=uR (by omega);subst e;exact wp_ifT ((tst 4 R z7).trans (by rw [decide_eq_true (by omega)])) (wp_frz (wp_of (setI (v:=(n:Int)) rfl rfl rfl rfl gi (by omega)) ⟨_,_,rfl,bd_set bR (by rw [List.length_set];omega),fun h=>by omega⟩))
   . exact wp_ifF ((tst 4 R z7).trans (by rw [decide_eq_false (by omega)])) (wp_next ⟨R,z7,rfl,bR,fun h=>uR (by omega)⟩)
 rintro ρ ⟨R,z7,rfl,bR,uR⟩;refine seqW_wp (P:=F 6) ?_ ?_
 . by_cases hk:w=5
   . have e:=uR (by omega);subst e;exact wp_ifT ((tst 5 R z7).trans (by rw [decide_eq_true (by omega)])) (wp_of (setI (v:= -1) rfl rfl rfl rfl gi (by omega)) ⟨_,_,rfl,bd_set bR (by rw [List.length_set];omega),fun h=>by omega⟩)
   . exact wp_ifF ((tst 5 R z7).trans (by rw [decide_eq_false (by omega)])) (wp_next ⟨R,z7,rfl,bR,fun h=>uR (by omega)⟩)
 rintro ρ ⟨R,z7,rfl,bR,uR⟩;refine ⟨R.map il,?_,R,rfl,bR⟩;show (rowsOf (R.map lI))=_;rw [lI_rows,rowsOf_map]
theorem perm_ok{n:Nat}{g:Nat->Nat->Nat}(h:Lat.Ok n (Lat.mk n g)){ri ci:List Nat}(r1:ri.length=n)(r2:ri.Nodup)(r3:∀x ∈ ri,x<n)(c1:ci.length=n)(c2:ci.Nodup)(c3:∀x ∈ ci,x<n):Lat.Ok n (ri.map fun i=>ci.map fun j=>g i j):=by
 have gr:∀i,i<n->ri.getD i 0<n:=fun i hi=>r3 _ (by simp [List.getD,List.getElem?_eq_getElem (show i<ri.length by omega)]);have gc:∀i,i<n->ci.getD i 0<n:=fun i hi=>c3 _ (by simp [List.getD,List.getElem?_eq_getElem (show i<ci.length by omega)])
 have at_:∀i j,i<n->j<n->Lat.at_ (ri.map fun i=>ci.map fun j=>g i j) i j=g (ri.getD i 0) (ci.getD j 0):=fun i j hi hj=>by
  unfold Lat.at_;simp [List.getD,List.getElem?_map,List.getElem?_eq_getElem (show i<ri.length by omega),List.getElem?_eq_getElem (show j<ci.length by omega)]
 have ge:∀i j,i<n->j<n->Lat.at_ (Lat.mk n g) i j=g i j:=fun i j hi hj=>Lat.mk_at hi hj;refine ⟨by rw [List.length_map];exact r1,fun r hr=> ?_,fun i j hi hj=> ?_,fun i j j' hi hj hj' e=> ?_,fun i i' j hi hi' hj e=> ?_⟩
 . obtain ⟨i,_,rfl⟩:=List.mem_map.mp hr;rw [List.length_map];exact c1
 . rw [at_ i j hi hj, <-ge _ _ (gr i hi) (gc j hj)];exact h.lt _ _ (gr i hi) (gc j hj)
 . rw [at_ i j hi hj,at_ i j' hi hj', <-ge _ _ (gr i hi) (gc j hj), <-ge _ _ (gr i hi) (gc j' hj')] at e
   exact Lat.get_inj c2 (by omega) (by omega) (h.rows _ _ _ (gr i hi) (gc j hj) (gc j' hj') e)
 . rw [at_ i j hi hj,at_ i' j hi' hj, <-ge _ _ (gr i hi) (gc j hj), <-ge _ _ (gr i' hi') (gc j hj)] at e
   exact Lat.get_inj r2 (by omega) (by omega) (h.cols _ _ _ (gr i hi) (gr i' hi') (gc j hj) e)
def mu3:En->Nat:=fun ρ=>match (ρ[3]?).join with
 | some (Sl.own [_,PyData.int y])=>y.toNat
 | _=>0
theorem run_square{n:Nat}(h1:1<=n)(h7:n<=7)(c:Int):∃s,Lat.Ok n s/\m_q6 [.int (n:Int), .int c]=some (.own (s.map lN)):=by
 have sl:=sl1000
 let N0:Option Sl:=some (.val (.int (n:Int)))
 let C1:Option Sl:=some (.val (.int c))
 have key:Wp b_q6 [N0,C1,none,none,none,none,none] (fun o=>∃(s:Lat.Sq) (ρ':En),Lat.Ok n s/\o = .rt (.own (s.map lN)) ρ'):=by
  unfold b_q6;obtain ⟨v1,ev1⟩:=mix_to (args:=mCons (mVar 1) (mCons (mK (.int 2)) mNil)) (ρ:= [N0,C1,none,none,none,none,none]) (c:=c) (j:=2) rfl (by omega) (by omega);obtain ⟨w1,ew1,bw1⟩:=mod_nat ev1 (fb:=mPk 0) (m:=(n:Int)) rfl (by omega);refine wp_asgS (r:= .val (.int ((w1+1:Nat):Int))) ((bin_eq (op:=dAdd) (a:= .val (.int 1)) rfl ew1).trans ?_) ?_
  . show some (Sl.val (.int (1+(w1:Int))))=_;rw [show (1:Int)+(w1:Int)=((w1+1:Nat):Int) by omega]
  let a0:=w1+1
  let A2:Option Sl:=some (.val (.int ((w1+1:Nat):Int)))
  refine wp_seqN (f:=mFrz 2 _) (ρ':= [N0,C1,A2,some (.own (nl [n,w1+1])),none,none,none]) (asg_to (ρ:= [N0,C1,A2,none,none,none,none]) ?_) ?_
  . unfold mLst;rw [cons_to (a:= .val (.int (n:Int))) rfl (cons_to (a:= .val (.int ((w1+1:Nat):Int))) rfl (show mNil _=some [] from rfl))];exact if_pos (e:=none) (show 2<=sizeLine by omega)
  have g0:∀(x y:Nat),(mBin dix (mPk 3) (mK (.int 0))) [N0,C1,A2,some (.own (nl [x,y])),none,none,none]=some (.val (.int (x:Int))):=fun x y=>(bin_eq (op:=dix) (a:= .own (nl [x,y])) (b:= .val (.int ((0:Nat):Int))) rfl rfl).trans (dix_nat (.inl rfl) rfl);have g1:∀(x y:Nat),(mBin dix (mPk 3) (mK (.int 1))) [N0,C1,A2,some (.own (nl [x,y])),none,none,none]=some (.val (.int (y:Int))):=fun x y=>(bin_eq (op:=dix) (a:= .own (nl [x,y])) (b:= .val (.int ((1:Nat):Int))) rfl rfl).trans (dix_nat (.inl rfl) rfl);refine wp_seq (P:=fun ρ=>ρ = [N0,C1,A2,some (.own (nl [Nat.gcd n a0,0])),none,none,none]) ?_ ?_
  . refine wp_while (fun ρ=>∃x y:Nat,ρ = [N0,C1,A2,some (.own (nl [x,y])),none,none,none]/\Nat.gcd x y=Nat.gcd n a0) mu3 ⟨n,w1+1,rfl,rfl⟩ ?_;rintro ρ ⟨x,y,rfl,hg⟩;have tst:=ne_int (fb:=mK (.int 0)) (j:=0) (g1 x y) rfl
    by_cases hy:y=0
    . left;subst hy;refine ⟨tst.trans rfl,?_⟩;rw [Nat.gcd_zero_right] at hg
      rw [<-hg];exact rfl
    . right;refine ⟨tst.trans (by rw [decide_eq_false (by omega)];rfl),?_⟩;refine wp_asg (r:= .own (nl [y,x % y])) ?_ ⟨⟨y,x % y,rfl,?_⟩,?_⟩
      . have md:=(bin_eq (op:=dMod) (g0 x y) (g1 x y)).trans (modS (by omega));rw [Int.fmod_eq_emod_of_nonneg _ (by omega)] at md
        unfold mLst;rw [cons_to (g1 x y) (cons_to md (show mNil _=some [] from rfl))];exact if_pos (e:=none) (show 2<=sizeLine by omega)
      . rw [<-hg,Nat.gcd_comm x y];exact (Nat.gcd_rec y x).symm ▸ (by rw [Nat.gcd_comm y (x % y)])
      . show ((x % y:Nat):Int).toNat<((y:Nat):Int).toNat;rw [Int.toNat_natCast,Int.toNat_natCast];exact Nat.mod_lt _ (by omega)
  rintro ρ rfl;refine wp_seq (P:=fun ρ=>∃a z3,ρ = [N0,C1,some (.val (.int ((a:Nat):Int))),z3,none,none,none]/\Nat.gcd n a=1/\a<=7) ?_ ?_
  . have tst:=ne_int (fb:=mK (.int 1)) (j:=1) (g0 (Nat.gcd n a0) 0) rfl
    by_cases hg:Nat.gcd n a0=1
    . exact wp_ifF (tst.trans (by rw [decide_eq_true (by omega)];rfl)) (wp_next ⟨w1+1,_,rfl,hg,by omega⟩)
    . exact wp_ifT (tst.trans (by rw [decide_eq_false (by omega)];rfl)) (wp_asg (r:= .val (.int ((1:Nat):Int))) rfl ⟨1,_,rfl,Nat.gcd_one_right n,by omega⟩)
  rintro ρ ⟨a,z3,rfl,ga,a7⟩
  let A2':Option Sl:=some (.val (.int ((a:Nat):Int)))
  obtain ⟨ri,er,r1,r2,r3⟩:=run_order (n:=n) h7 c (far:=10) (by omega);obtain ⟨ci,ec,c1,c2,c3⟩:=run_order (n:=n) h7 c (far:=20) (by omega);obtain ⟨l,el,l1,l2,l3⟩:=run_order (n:=n) h7 c (far:=30) (by omega);refine wp_asgS (r:= .own (nl ri)) (call_to (ds:= [.int (n:Int), .int c, .int ((10:Nat):Int)]) rfl er) ?_;refine wp_asgS (r:= .own (nl ci)) (call_to (ds:= [.int (n:Int), .int c, .int ((20:Nat):Int)]) rfl ec) ?_;refine wp_asgS (r:= .own (nl l)) (call_to (ds:= [.int (n:Int), .int c, .int ((30:Nat):Int)]) rfl el) ?_
  let l6:Option Sl:=some (.own (nl l))
  show Wp _ [N0,C1,A2',z3,some (.own (nl ri)),some (.own (nl ci)),l6] _;refine wp_seq (P:=fun ρ=>∃ri ci:List Nat,ρ = [N0,C1,A2',z3,some (.own (nl ri)),some (.own (nl ci)),l6]/\(ri.length=n/\ri.Nodup/\∀x ∈ ri,x<n)/\ci.length=n/\ci.Nodup/\∀x ∈ ci,x<n) ?_ ?_
  . obtain ⟨v3,ev3⟩:=mix_to (args:=mCons (mVar 1) (mCons (mK (.int 3)) mNil)) (ρ:= [N0,C1,A2',z3,some (.own (nl ri)),some (.own (nl ci)),l6]) (c:=c) (j:=3) rfl (by omega) (by omega);obtain ⟨w3,ew3,_⟩:=mod_nat ev3 (fb:=mK (.int 3)) (m:=3) rfl (by omega);have tst:(mTest (mBin dGt (mBin dMod (mCall m_q2 (mCons (mVar 1) (mCons (mK (.int 3)) mNil))) (mK (.int 3))) (mK (.int 0)))) [N0,C1,A2',z3,some (.own (nl ri)),some (.own (nl ci)),l6]=some (decide ((0:Int)<(w3:Nat))):=test_eq ((bin_eq (op:=dGt) ew3 (b:= .val (.int 0)) rfl).trans rfl)
    have lr:∀z4 z5:Option Sl,(mLR (mPk 0)) [N0,C1,A2',z3,z4,z5,l6]=some (.own (nl (List.range n))):=fun z4 z5=>by
     show (if 0<=(n:Int)/\(n:Int)<=1000 then some (Sl.own ((List.range (n:Int).toNat).map fun k:Nat=> .int (k:Int))) else none)=_;rw [if_pos ⟨by omega,by omega⟩];rfl
    have rok:(List.range n).length=n/\(List.range n).Nodup/\∀x ∈ List.range n,x<n:=⟨List.length_range,List.nodup_range,fun x hx=>List.mem_range.mp hx⟩
    by_cases hw:0<w3
    . exact wp_ifT (tst.trans (by rw [decide_eq_true (by omega)])) (wp_asgS (lr _ _) (wp_asg (lr _ _) ⟨List.range n,List.range n,rfl,rok,rok⟩))
    . exact wp_ifF (tst.trans (by rw [decide_eq_false (by omega)])) (wp_next ⟨ri,ci,rfl,⟨r1,r2,r3⟩,c1,c2,c3⟩)
  rintro ρ ⟨ri,ci,rfl,⟨r1,r2,r3⟩,c1,c2,c3⟩
  let g:Nat->Nat->Nat:=fun i j=>l.getD ((a*i+j) % n) 0
  have ok:=perm_ok (g:=g) (Lat.gen_ok (by omega) ga l1 l2 l3) r1 r2 r3 c1 c2 c3
  let R4:Option Sl:=some (.val (lN ri))
  let K5:Option Sl:=some (.val (lN ci))
  refine wp_frz (wp_frz ?_);show Wp _ [N0,C1,A2',z3,R4,K5,l6] _;refine wp_ret (r:= .own ((ri.map fun i=>ci.map fun j=>g i j).map lN)) (lc_to (ds:=nl ri) rfl (by rw [nl_len];omega) ?_) ⟨_,_,ok,rfl⟩;show compM (elM _ _ _ [K5,l6,A2',N0,none]) _=_;refine (compM_map (en:=fun i:Nat=>PyData.int (i:Int)) (g:=fun i=>lN (ci.map fun j=>g i j)) fun i hi=> ?_).trans (by rw [List.map_map];rfl);have hi:=r3 i hi
  let I4:Option Sl:=some (.val (.int (i:Nat)))
  refine el_to (fg:=gVar 4) (ρ0:= [K5,l6,A2',N0,none]) (d:= .int (i:Nat)) (ρ1:= [K5,l6,A2',N0,I4]) (r:= .own (nl (ci.map fun j=>g i j))) rfl ?_;refine lc_to (ds:=nl ci) rfl (by rw [nl_len];omega) ?_;show compM (elM _ _ _ [l6,A2',I4,N0,none]) _=_;refine (compM_map (en:=fun j:Nat=>PyData.int (j:Int)) (g:=fun j=> .int ((g i j:Nat):Int)) fun j hj=> ?_).trans (by unfold nl;rw [List.map_map];rfl);have hj:=c3 j hj
  let J4:Option Sl:=some (.val (.int (j:Nat)))
  refine el_to (fg:=gVar 4) (ρ0:= [l6,A2',I4,N0,none]) (d:= .int (j:Nat)) (ρ1:= [l6,A2',I4,N0,J4]) (r:= .val (.int ((g i j:Nat):Int))) rfl ?_;have mu:(mBin dRep (mPk 1) (mPk 2)) [l6,A2',I4,N0,J4]=some (.val (.int ((a:Int)*(i:Int)))):=(bin_eq (op:=dRep) (a:= .val (.int (a:Int))) (b:= .val (.int (i:Nat))) rfl rfl).trans (mulS (cmL (by omega) (by omega)))
  have ad:(mBin dAdd (mBin dRep (mPk 1) (mPk 2)) (mPk 4)) [l6,A2',I4,N0,J4]=some (.val (.int ((a*i+j:Nat):Int))):=by
   refine (bin_eq (op:=dAdd) mu (b:= .val (.int (j:Nat))) rfl).trans ?_;show some (Sl.val (.int ((a:Int)*(i:Int)+(j:Int))))=_;rw [<-Int.natCast_mul, <-Int.natCast_add]
  exact (bin_eq (op:=dix) (a:= .own (nl l)) rfl (mod_eq ad (fb:=mPk 3) (m:=n) rfl (by omega))).trans (dix_nat (.inl rfl) (nl_get (by rw [l1];exact Nat.mod_lt _ (by omega))))
 obtain ⟨o,e1,s,ρ',h2,rfl⟩:=key;exact ⟨s,h2,runD_rt (ρ:= [N0,C1,none,none,none,none,none]) rfl rfl ⟨ρ',e1⟩⟩
def IvD(f:List Nat->List Key)(T:List (List Nat))(ks:List (List Key))(rs:List (List PyData)):Prop:=ks.Nodup/\(∀k,k ∈ ks↔∃p ∈ T,f p=k)/\rs=ks.map fun k=>(T.filter fun p=>decide (f p=k)).map tupN
theorem iv_step{f:List Nat->List Key}{T:List (List Nat)}{ks:List (List Key)}{rs:List (List PyData)}(h:IvD f T ks rs)(p:List Nat):IvD f (T ++ [p]) (dolPut ks rs (f p) (tupN p)).1 (dolPut ks rs (f p) (tupN p)).2:=by
 obtain ⟨nd,mem,e⟩:=h
 have fl:∀k,f p≠k->((T ++ [p]).filter fun q=>decide (f q=k))=T.filter fun q=>decide (f q=k):=fun k hk=>by
  rw [List.filter_append,List.filter_cons,if_neg (by rw [decide_eq_false hk];exact Bool.false_ne_true)];simp
 have fp:((T ++ [p]).filter fun q=>decide (f q=f p))=(T.filter fun q=>decide (f q=f p)) ++ [p]:=by
  rw [List.filter_append,List.filter_cons,if_pos (decide_eq_true rfl)];rfl
 unfold dolPut
 cases hm:ks.findIdx? fun j=>decide (j=f p) with
 | some m=>
  obtain ⟨ml,mk,_⟩:=List.findIdx?_eq_some_iff_getElem.mp hm;have mk:ks[m]=f p:=of_decide_eq_true mk;have inn:f p ∈ ks:=by rw [<-mk];exact List.getElem_mem ml
  refine ⟨nd,fun k=> ?_,?_⟩
  . rw [mem]
    constructor
    . rintro ⟨q,hq,e⟩;exact ⟨q,List.mem_append_left _ hq,e⟩
    . rintro ⟨q,hq,e⟩;rcases List.mem_append.mp hq with hq | hq
      . exact ⟨q,hq,e⟩
      . cases List.mem_singleton.mp hq
        subst e;exact (mem _).mp inn
  . show rs.set m (rs.getD m [] ++ [tupN p])=_;have rl:rs.length=ks.length:=by rw [e,List.length_map]
    have gm:rs.getD m []=(T.filter fun q=>decide (f q=f p)).map tupN:=by
     rw [e,List.getD,List.getElem?_map,List.getElem?_eq_getElem ml,mk];rfl
    refine List.ext_getElem? fun x=> ?_
    by_cases hx:m=x
    . subst hx;rw [List.getElem?_set_self (by omega),List.getElem?_map,List.getElem?_eq_getElem ml,mk,Option.map_some,gm,fp,List.map_append];rfl
    . rw [List.getElem?_set_ne hx,e,List.getElem?_map,List.getElem?_map]
      cases hk:ks[x]? with
      | none=>rfl
      | some k=>
       have ne:f p≠k:=fun z=>by
        obtain ⟨xl,xe⟩:=List.getElem?_eq_some_iff.mp hk;exact hx ((List.getElem_inj nd).mp (by rw [mk,xe,z]))
       rw [Option.map_some,Option.map_some,fl k ne]
 | none=>
  have out:f p ∉ ks:=fun hp=>by
   have:=List.findIdx?_eq_none_iff.mp hm (f p) hp;rw [decide_eq_true rfl] at this
   cases this
  have emp:(T.filter fun q=>decide (f q=f p)) = []:=List.filter_eq_nil_iff.mpr fun q hq z=>out ((mem _).mpr ⟨q,hq,of_decide_eq_true z⟩);refine ⟨List.nodup_append.mpr ⟨nd,by simp,fun a ha b hb z=> ?_⟩,fun k=> ?_,?_⟩
  . cases List.mem_singleton.mp hb
    exact out (z ▸ ha)
  . show k ∈ ks ++ [f p]↔_;rw [List.mem_append,mem,List.mem_singleton]
    constructor
    . rintro (⟨q,hq,e⟩ | rfl)
      . exact ⟨q,List.mem_append_left _ hq,e⟩
      . exact ⟨p,List.mem_append_right _ (List.mem_singleton.mpr rfl),rfl⟩
    . rintro ⟨q,hq,e⟩;rcases List.mem_append.mp hq with hq | hq
      . exact .inl ⟨q,hq,e⟩
      . cases List.mem_singleton.mp hq
        exact .inr e.symm
  . show rs ++ [[tupN p]]=_;rw [List.map_append,List.map_cons,List.map_nil,fp,emp,e];congr 1
    refine List.map_congr_left fun k hk=> ?_;rw [fl k fun z=>out (z ▸ hk)]
theorem iv_len{f:List Nat->List Key}{T:List (List Nat)}{ks:List (List Key)}{rs:List (List PyData)}(h:IvD f T ks rs):ks.length<=T.length/\rs.length=ks.length/\∀r ∈ rs,r.length<=T.length:=by
 obtain ⟨nd,mem,e⟩:=h;refine ⟨?_,by rw [e,List.length_map],fun r hr=> ?_⟩
 . have := Ev.nd_len (l₁ := ks) (l₂ := T.map f) nd fun k hk => by
    obtain ⟨p,hp,z⟩:=(mem k).mp hk;exact List.mem_map.mpr ⟨p,hp,z⟩
   rwa [List.length_map] at this
 . rw [e] at hr
   obtain ⟨k,_,rfl⟩:=List.mem_map.mp hr;rw [List.length_map];exact List.length_filter_le ..
theorem sdApp_to {ρ : En} {i : Nat} {fk ff : En -> Option Sl} {ks : List (List Key)} {rs : List (List PyData)} {k : List Key} {d : PyData} {b v : Sl} (h : (ρ[i]?).join = some (.dct (dolD ks rs))) (hl : ks.length = rs.length) (hk : fk (ρ.set i none) = some b) (hkk : keyOf b.dat = some k) (hv : ff (ρ.set i none) = some v) (hd : v.dat = d) (c1 : ks.length < sizeLine) (c2 : lone i ρ = true) (c3 : ∀ r ∈ rs, r.length < sizeLine) :
 mSdApp i fk ff ρ=some (.nx (ρ.set i (some (.dct (dolD (dolPut ks rs k d).1 (dolPut ks rs k d).2))))):=by
 subst hd;unfold mSdApp;rw [h];show (dolOf (dolD ks rs)).bind _=_;rw [dolOf_D hl,Option.bind_some,hk,Option.bind_some,hkk,Option.bind_some,hv,Option.bind_some];exact if_pos ⟨c1,c2,c3⟩
theorem dolIn_wp{i:Nat}{g:En->Option Out}{ρ:En}{Z:Out->Prop}(hi:i<ρ.length)(h:Wp g (ρ.set i (some (.dct []))) Z):Wp (mDolIn i g) ρ Z:=by
 obtain ⟨o,h1,h2⟩:=h;exact ⟨o,by unfold mDolIn;rw [if_pos hi];exact h1,h2⟩
theorem seqX_wp{f g:En->Option Out}{ρ:En}{P:En->Prop}{Z:Out->Prop}(h:Wp f ρ (Nx P))(k:∀ρ',P ρ'->Wp g ρ' Z):Wp (mSeqX f g) ρ Z:=by
 obtain ⟨o,h1,h2⟩:=h
 cases o with
 | nx ρ' =>
  obtain ⟨o',k1,k2⟩:=k ρ' h2
  exact ⟨o',by unfold mSeqX;rw [h1];exact k1,k2⟩
 | _=>exact h2.elim
theorem run_pairs{n:Nat}{s s':Lat.Sq}(h1:1<=n)(h7:n<=7)(h:Lat.Ok n s)(h':Lat.Ok n s'):∃ks rs,m_q4 [sqD s,sqD s']=some (.dct (dolD ks rs))/\IvD (fun p=>kN (prA s s' p)) (Lat.places n) ks rs:=by
 have sl:=sl1000
 let S0:Option Sl:=some (.val (sqD s))
 let S1:Option Sl:=some (.val (sqD s'))
 let f:List Nat->List Key:=fun p=>kN (prA s s' p)
 let Q:Nat->Nat->List (List Nat):=fun i j=>((List.range i).flatMap fun i=>(List.range n).map fun j=> [i,j])++(List.range j).map fun j=> [i,j]
 have ql:∀i j,i<n->j<=n->(Q i j).length<=100:=fun i j hi hj=>by
  show (((List.range i).flatMap fun i=>(List.range n).map fun j=> [i,j])++(List.range j).map fun j=> [i,j]).length<=100;rw [List.length_append,List.length_map,List.length_range];have:=Ev.flat_le (n:=n) (f:=fun i:Nat=>(List.range n).map fun j=> [i,j]) (fun i=>by simp) (List.range i);rw [List.length_range] at this
  have:i*n<=7*7:=Nat.mul_le_mul (by omega) h7;omega
 have key:Wp b_q4 [S0,S1,none,none,none] (fun o=>∃ks rs ρ',o = .rt (.dct (dolD ks rs)) ρ'/\IvD f (Lat.places n) ks rs):=by
  unfold b_q4;refine dolIn_wp (show 2<5 by decide) ?_;show Wp _ [S0,S1,some (.dct (dolD [] [])),none,none] _;have rl:∀z2 z3 z4:Option Sl,(mRng1 (mConsP (mCallP dLen (mConsP (mPk 0) mNilP)) mNilP)) [S0,S1,z2,z3,z4]=some (rngD 0 n):=fun z2 z3 z4=>rng1_to (j:=n) (consP_to (len_sq h (i:=0) rfl) rfl) (by omega);refine seqX_wp (P:=fun ρ=>∃ks rs z3 z4,isDct z3=false/\isDct z4=false/\ρ = [S0,S1,some (.dct (dolD ks rs)),z3,z4]/\IvD f (Lat.places n) ks rs) ?_ ?_
  . refine wp_forR0 (n:=n) (fun i ρ=>∃ks rs z3 z4,isDct z3=false/\isDct z4=false/\ρ = [S0,S1,some (.dct (dolD ks rs)),z3,z4]/\IvD f (Q i 0) ks rs) (rl _ _ _) ⟨[],[],none,none,rfl,rfl,rfl,List.nodup_nil,fun k=>by simp [Q],rfl⟩ ?_ (fun ρ hρ=> ?_)
    . rintro i ρ hi ⟨ks,rs,z3,z4,_,d4,rfl,iv⟩;refine ⟨_,rfl,?_⟩
      let I3:Option Sl:=some (.val (.int (i:Nat)))
      show Wp _ [S0,S1,some (.dct (dolD ks rs)),I3,z4] _;refine wp_forR0 (n:=n) (fun j ρ=>∃ks rs z4,isDct z4=false/\ρ = [S0,S1,some (.dct (dolD ks rs)),I3,z4]/\IvD f (Q i j) ks rs) (rl _ _ _) ⟨ks,rs,z4,d4,rfl,iv⟩ ?_ (fun ρ hρ=> ?_)
      . rintro j ρ hj ⟨ks,rs,z4,d4,rfl,iv⟩;refine ⟨_,rfl,?_⟩
        let J4:Option Sl:=some (.val (.int (j:Nat)))
        show Wp _ [S0,S1,some (.dct (dolD ks rs)),I3,J4] _;obtain ⟨i1,i2,i3⟩:=iv_len iv;have q:=ql i j hi (by omega)
        have cell:∀(t:Lat.Sq) (m:Nat) (ρ:En),Lat.Ok n t->(ρ[m]?).join=some (.val (sqD t))->(ρ[3]?).join=some (.val (.int (i:Nat)))->(ρ[4]?).join=some (.val (.int (j:Nat)))->(mBin dix (mBin dix (mPk m) (mPk 3)) (mPk 4)) ρ=some (.val (.int ((Lat.at_ t i j:Nat):Int))):=fun t m ρ ht g1 g2 g3=>by
         obtain ⟨ra,rn⟩:=row_at ht hi;exact (bin_eq (op:=dix) ((bin_eq (op:=dix) (a:= .val (sqD t)) (b:= .val (.int (i:Nat))) g1 g2).trans (dix_nat (.inl rfl) ra)) (b:= .val (.int (j:Nat))) g3).trans (dix_nat (.inl rfl) (nl_get (by omega)))
        have st:=sdApp_to (ρ:= [S0,S1,some (.dct (dolD ks rs)),I3,J4]) (i:=2) (fk:=(mTup (mCons (mBin dix (mBin dix (mPk 0) (mPk 3)) (mPk 4)) (mCons (mBin dix (mBin dix (mPk 1) (mPk 3)) (mPk 4)) mNil)))) (ff:=(mTup (mCons (mVar 3) (mCons (mVar 4) mNil)))) (k:=f [i,j]) (d:=tupN [i,j]) (b:= .val (tupN (prA s s' [i,j]))) (v:= .val (tupN [i,j])) rfl i2.symm
         (tup2 (cell s 0 _ h rfl rfl rfl) (cell s' 1 _ h' rfl rfl rfl)) (keyOf_tupN _) (tup2 (a:= .val (.int (i:Nat))) (b:= .val (.int (j:Nat))) rfl rfl) rfl (by omega) rfl (fun r hr=>by have:=i3 r hr;omega)
        refine wp_of st ⟨_,_,J4,rfl,rfl,?_⟩
        have e:Q i (j+1)=Q i j ++ [[i,j]]:=by
         show _++(List.range (j+1)).map _=(_++_)++_;rw [List.range_succ,List.map_append,List.append_assoc];rfl
        rw [e];exact iv_step iv [i,j]
      . obtain ⟨ks,rs,z4,d4,rfl,iv⟩:=hρ;refine ⟨ks,rs,I3,z4,rfl,d4,rfl,?_⟩
        have e:Q (i+1) 0=Q i n:=by
         show ((List.range (i+1)).flatMap _)++_=_;rw [List.range_succ,List.flatMap_append];simp [Q]
        rw [e];exact iv
    . obtain ⟨ks,rs,z3,z4,d3,d4,rfl,iv⟩:=hρ;refine ⟨ks,rs,z3,z4,d3,d4,rfl,?_⟩
      have e:Q n 0=Lat.places n:=by
       show _++_=_;simp [Lat.places]
      rw [<-e];exact iv
  . rintro ρ ⟨ks,rs,z3,z4,_,_,rfl,iv⟩;exact ⟨_,rfl,ks,rs,_,rfl,iv⟩
 obtain ⟨o,e1,ks,rs,ρ',rfl,iv⟩:=key;exact ⟨ks,rs,runD_rt (ρ:= [S0,S1,none,none,none]) rfl rfl ⟨ρ',e1⟩,iv⟩
theorem run_wholeI(a:Int):m_q7 [.int a]=some (.val (.bool true)):=by
 refine run_wp (ρ:= [some (.val (.int a))]) rfl rfl ?_;unfold b_q7;exact wp_ret rfl rfl
theorem in_tupL(e:List Nat)(M:List (List Nat)):inD false (tupN e) (M.map tupN)=some (.val (.bool (decide (e ∈ M)))):=by
 have dt:=dep_tup e;unfold inD;rw [if_pos ⟨lay_tup e,by simp [lay_tup],by omega⟩];congr 3
 simp only [List.any_map]
 have:(M.any ((fun d=>PyData.eqv d (tupN e)) ∘ tupN))=decide (e ∈ M):=by
  induction M with
  | nil=>simp
  | cons m M ih=>
   rw [List.any_cons,ih];show (PyData.eqv (tupN m) (tupN e) || _)=_;rw [eqv_tup]
   by_cases h:m=e
   . subst h;simp
   . have h':e≠m:=fun z=>h z.symm;simp [h,h']
 rw [this];simp
theorem compM_none{f:PyData->Option (Option PyData)}:∀ {ds:List PyData},(∀d ∈ ds,f d=some none)->compM f ds=some []
 | [],_=>rfl
 | d::ds,h=>by
  rw [compM,h d List.mem_cons_self,compM_none fun e he=>h e (List.mem_cons_of_mem _ he)];rfl
theorem nl_il(p:List Nat):nl p=il (p.map fun k:Nat=>(k:Int)):=by simp [nl,il]
theorem places_lex(n:Nat):(Lat.places n).Pairwise fun p q=>HT.lexLt (p.map fun k:Nat=>(k:Int)) (q.map fun k:Nat=>(k:Int))=true:=by
 unfold Lat.places;rw [List.pairwise_flatMap];refine ⟨fun i _=> ?_,List.pairwise_lt_range.imp fun {i i'} hii x hx y hy=> ?_⟩
 . rw [List.pairwise_map];refine List.pairwise_lt_range.imp fun {j j'} hjj=> ?_;show (if (i:Int)=(i:Int) then HT.lexLt [(j:Int)] [(j':Int)] else _)=true;rw [if_pos rfl];show (if (j:Int)=(j':Int) then _ else decide ((j:Int)<(j':Int)))=true;rw [if_neg (by omega)];exact decide_eq_true (by omega)
 . obtain ⟨j,_,rfl⟩:=List.mem_map.mp hx;obtain ⟨j',_,rfl⟩:=List.mem_map.mp hy;show (if (i:Int)=(i':Int) then _ else decide ((i:Int)<(i':Int)))=true;rw [if_neg (by omega)];exact decide_eq_true (by omega)
theorem unD_dol:∀(ks:List (List Key)) (rs:List (List PyData)),unD (dolD ks rs)=dolD ks rs
 | [],_=>rfl
 | _::_,[]=>rfl
 | _::_,_::_=>rfl
theorem lenD_dol{ks:List (List Key)}{rs:List (List PyData)}{m:Nat}(h:(dolD ks rs).length=m):dLenD [.dct (dolD ks rs)]=some (.val (.int (m:Nat))):=by
 subst h;show some (Sl.val (.int ((unD (dolD ks rs)).length:Nat)))=_;rw [unD_dol]
theorem frzD_wp{i:Nat}{g:En->Option Out}{ρ ρ':En}{Z:Out->Prop}(h:frzD1 i ρ=some ρ')(k:Wp g ρ' Z):Wp (mFrzD i g) ρ Z:=by
 obtain ⟨o,h1,h2⟩:=k;exact ⟨o,by unfold mFrzD;rw [h];exact h1,h2⟩
theorem run_lright{n:Nat}{s s':Lat.Sq}(h1:1<=n)(h7:n<=7)(h:Lat.Ok n s)(h':Lat.Ok n s'):m_q5 [sqD s,sqD s']=some (.val (.bool true)):=by
 have sl:=sl1000;obtain ⟨d,ed,hd⟩:=run_rangles h1 h7 h h';obtain ⟨ks,rs,ep,iv⟩:=run_pairs h1 h7 h h';obtain ⟨nd,mem,ers⟩:=id iv;obtain ⟨k1,k2,k3⟩:=iv_len iv
 let f:List Nat->List Key:=fun p=>kN (prA s s' p)
 have plen:(Lat.places n).length=n*n:=Lat.places_len n h1;have n49:n*n<=49:=Nat.mul_le_mul h7 h7
 have cntE:ks.length=n*n↔(Lat.prs n s s').Nodup:=by
  have sub:∀k ∈ ks,k ∈ (Lat.places n).map f:=fun k hk=>by
   obtain ⟨p,hp,z⟩:=(mem k).mp hk;exact List.mem_map.mpr ⟨p,hp,z⟩
  have pm:(Lat.places n).map f=(Lat.prs n s s').map kN:=by
   unfold Lat.prs;rw [List.map_map];rfl
  constructor
  . intro e;have:=Lat.nodup_of nd sub (by rw [List.length_map,plen,e];exact Nat.le_refl _);rw [pm] at this
    exact List.Pairwise.of_map kN (fun a b z e=>z (by rw [e])) this
  . intro hn
    have hn2:((Lat.places n).map f).Nodup:=by
     rw [pm];exact Lat.nd_map hn fun a _ b _ e=>kN_inj e
    have:=Ev.nd_len hn2 (l₂:=ks) fun k hk=>by
     obtain ⟨p,hp,z⟩:=List.mem_map.mp hk;exact (mem k).mpr ⟨p,hp,z⟩
    rw [List.length_map,plen] at this
    omega
 let S0:Option Sl:=some (.val (sqD s))
 let S1:Option Sl:=some (.val (sqD s'))
 let K2:Option Sl:=some (.own [sqD s,sqD s'])
 refine run_wp (ρ:= [S0,S1,none,none,none,none]) rfl rfl ?_;unfold b_q5
 have lc:∀(t:Lat.Sq) (m:Nat) (ρ:En),Lat.Ok n t->(ρ[m]?).join=some (.val (sqD t))->(mLC (subE [none]) (mItemsS (mVar m)) (gVar 0) mYes (mCallP dList (mConsP (mPk 0) mNilP))) ρ=some (.own (t.map lN)):=fun t m ρ ht hm=>by
  refine lc_to (ds:=t.map lN) (itemsS_to (a:= .val (sqD t)) (by unfold mVar;rw [hm]) (.inl rfl)) (by rw [List.length_map,ht.len];omega) ?_;exact compM_map (en:=lN) (g:=lN) fun r _=>el_to (fg:=gVar 0) (ρ0:= [none]) (d:=lN r) (ρ1:= [some (.val (lN r))]) (r:= .own (nl r)) rfl rfl
 refine wp_asgS (r:= .own [sqD s,sqD s']) ?_ ?_
 . unfold mLst;rw [cons_to (lc s 0 _ h rfl) (cons_to (lc s' 1 _ h' rfl) (show mNil _=some [] from rfl))];exact if_pos (e:=none) (show 2<=sizeLine by omega)
 refine wp_asgS (r:= .val d) (call_to (ds:= [sqD s,sqD s']) rfl ed) ?_
 let F3:Option Sl:=some (.val d)
 show Wp _ [S0,S1,K2,F3,none,none] _
 have isT:(mTest (mIsi "tuple" (mPk 3))) [S0,S1,K2,F3,none,none]=some true:=by
  rcases hd with ⟨rfl,_⟩ | ⟨p,q,rfl,_⟩
  . exact test_eq rfl
  . exact test_eq rfl
 have lk:(PyData.list [sqD s,sqD s']).canLay0=true:=by
  rw [PyData.canLay0,PyData.canLayAll0,PyData.canLayAll0,lay_sq,lay_sq];rfl
 have dk:(PyData.list [sqD s,sqD s']).depth<=60:=by
  have a1:=dep_sq s;have a2:=dep_sq s';simp only [PyData.depth,PyData.depthAll];omega
 refine wp_skip (or_to (k:=false) (l:=false) (not_to (k:=true) isT) (ne_same (a:= .own [sqD s,sqD s']) (b:= .own [sqD s,sqD s']) (if_pos (e:=none) (show 2<=sizeLine by omega)) rfl rfl lk dk)) ?_;refine wp_asgS (r:= .dct (dolD ks rs)) (call_to (ds:= [sqD s,sqD s']) rfl ep) ?_
 let D4:Option Sl:=some (.dct (dolD ks rs))
 show Wp _ [S0,S1,K2,F3,D4,none] _
 have dl:(dolD ks rs).length=ks.length:=by
  unfold dolD;rw [List.length_zip,List.length_map,List.length_map,k2,Nat.min_self]
 have ld:(mCallP dLenD (mConsP (mPk 4) mNilP)) [S0,S1,K2,F3,D4,none]=some (.val (.int (ks.length:Nat))):=by
  refine callP_to (ss:= [.dct (dolD ks rs)]) rfl ?_;exact lenD_dol dl
 have lm:(mBin dRep (mCallP dLen (mConsP (mPk 0) mNilP)) (mCallP dLen (mConsP (mPk 0) mNilP))) [S0,S1,K2,F3,D4,none]=some (.val (.int ((n:Int)*(n:Int)))):=(bin_eq (op:=dRep) (len_sq h (i:=0) rfl) (len_sq h (i:=0) rfl)).trans (mulS (cmL (by omega) (by omega)));have tst:=eq_int ld lm;have nn:((n:Int)*(n:Int))=((n*n:Nat):Int):=by rw [Int.natCast_mul]
 rcases hd with ⟨rfl,hn⟩ | ⟨p,q,rfl,hn,A,B,C,hP,hpq⟩
 . have hk:=cntE.mpr hn;refine wp_seqG (wp_ifT (tst.trans (by rw [decide_eq_true (by rw [nn,hk])])) (wp_ret (r:= .val (.bool true)) ?_ rfl));exact eq_same (a:= .val rightD) (b:= .val rightD) rfl (tup1 (a:= .val (.str "right")) rfl) rfl (by decide +kernel) (by decide +kernel)
 . have hk:ks.length≠n*n:=fun z=>hn (cntE.mp z);refine wp_skip (tst.trans (by rw [decide_eq_false (by rw [nn];omega)])) ?_;have f0:∀z4 z5:Option Sl,(mBin dix (mPk 3) (mK (.int 0))) [S0,S1,K2,F3,z4,z5]=some (.val (.str "twice")):=fun z4 z5=>(bin_eq (op:=dix) (a:= .val (twiceD p q)) (b:= .val (.int ((0:Nat):Int))) rfl rfl).trans (dix_nat (.inr rfl) rfl);have f1:∀z4 z5:Option Sl,(mBin dix (mPk 3) (mK (.int 1))) [S0,S1,K2,F3,z4,z5]=some (.val (tupN p)):=fun z4 z5=>(bin_eq (op:=dix) (a:= .val (twiceD p q)) (b:= .val (.int ((1:Nat):Int))) rfl rfl).trans (dix_nat (.inr rfl) rfl);have f2:∀z4 z5:Option Sl,(mBin dix (mPk 3) (mK (.int 2))) [S0,S1,K2,F3,z4,z5]=some (.val (tupN q)):=fun z4 z5=>(bin_eq (op:=dix) (a:= .val (twiceD p q)) (b:= .val (.int ((2:Nat):Int))) rfl rfl).trans (dix_nat (.inr rfl) rfl);have lx:=places_lex n;rw [hP] at lx
   obtain ⟨_,lx2,_⟩:=List.pairwise_append.mp lx;have lxy:=(List.pairwise_cons.mp lx2).1 q (by simp)
   have ge:(mTest (mBin dGeT (mBin dix (mPk 3) (mK (.int 1))) (mBin dix (mPk 3) (mK (.int 2))))) [S0,S1,K2,F3,D4,none]=some false:=by
    refine test_eq ((bin_eq (op:=dGeT) (f1 _ _) (f2 _ _)).trans ?_);show (intsOf (nl p)).bind (fun ns=>(intsOf (nl q)).map fun ms=>Sl.val (.bool (!HT.lexLt ns ms)))=_;rw [nl_il p,nl_il q,intsOf_il,intsOf_il,Option.bind_some,Option.map_some,lxy];rfl
   refine wp_skip (or_to (k:=false) (l:=false) ((ne_int (i:=3) (j:=3) rfl rfl).trans rfl) (or_to (k:=false) (l:=false) (ne_same (a:= .val (.str "twice")) (b:= .val (.str "twice")) (f0 _ _) rfl rfl (by decide +kernel) (by decide +kernel)) ge)) ?_
   let V4:Option Sl:=some (.val (.dict (mkD::dolD ks rs)))
   refine wp_seqG ?_;refine frzD_wp (ρ':= [S0,S1,K2,F3,V4,none]) rfl ?_
   have vals:(dolD ks rs).map (·.2)=rs.map PyData.list:=by
    unfold dolD;rw [List.map_snd_zip (by rw [List.length_map,List.length_map,k2];exact Nat.le_refl _)]
   have dv:(mDVals (mPk 4)) [S0,S1,K2,F3,V4,none]=some (rs.map PyData.list):=by
    rw [<-vals];rfl
   have mp:p ∈ Lat.places n:=by rw [hP];simp
   have mq:q ∈ Lat.places n:=by rw [hP];simp
   refine wp_forL (en:=PyData.list) (xs:=rs) (fun j ρ=>∃z5,ρ = [S0,S1,K2,F3,V4,z5]/\∀m,m<j->∀k,ks[m]? = some k->k≠f p) dv ⟨_,rfl,fun m hm=>by omega⟩ ?_ ?_
   . rintro j r ρ hj ⟨z5,rfl,ih⟩;refine ⟨_,rfl,?_⟩;have hjk:j<ks.length:=by rw [<-k2];exact (List.getElem?_eq_some_iff.mp hj).1
     have hkj:ks[j]? = some ks[j]:=List.getElem?_eq_getElem hjk;generalize ks[j]=k at hkj
     have er:r=((Lat.places n).filter fun p=>decide (f p=k)).map tupN:=by
      rw [ers,List.getElem?_map,hkj] at hj
      exact (Option.some.inj hj).symm
     subst er
     let T:=(Lat.places n).filter fun p=>decide (f p=k)
     let R5:Option Sl:=some (.val (.list (T.map tupN)))
     show Wp _ [S0,S1,K2,F3,V4,R5] _;have ta:=and_to (test_eq ((bin_eq (op:=dInD false) (fb:=mPk 5) (f1 V4 R5) (b:= .val (.list (T.map tupN))) rfl).trans (in_tupL p T))) (test_eq ((bin_eq (op:=dInD false) (fb:=mPk 5) (f2 V4 R5) (b:= .val (.list (T.map tupN))) rfl).trans (in_tupL q T)))
     by_cases hk':f p=k
     . have t1:p ∈ T:=List.mem_filter.mpr ⟨mp,decide_eq_true hk'⟩;have t2:q ∈ T:=List.mem_filter.mpr ⟨mq,decide_eq_true (by rw [<-hk'];exact congrArg kN hpq.symm)⟩;refine wp_ifT (ta.trans (by rw [decide_eq_true t1,decide_eq_true t2];rfl)) (wp_ret (r:= .val (.bool true)) ?_ rfl);obtain ⟨pi,pj,_,_,rfl⟩:=Lat.mem_places.mp mp;obtain ⟨qi,qj,_,_,rfl⟩:=Lat.mem_places.mp mq
       have lcn:(mLC (subE [none]) (mItemsS (mBin dAdd (mBin dix (mPk 3) (mK (.int 1))) (mBin dix (mPk 3) (mK (.int 2))))) (gVar 0) (mNot (mTest (mCall m_q7 (mCons (mVar 0) mNil)))) (mVar 0)) [S0,S1,K2,F3,V4,R5]=some (.own []):=by
        refine lc_to (ds:=nl [pi,pj,qi,qj]) (itemsS_to (a:= .val (tupN [pi,pj,qi,qj])) ((bin_eq (op:=dAdd) (f1 V4 R5) (f2 V4 R5)).trans ?_) (.inr rfl)) (by rw [nl_len];show 4<sizeLine;omega) (compM_none fun dd hdd=> ?_)
        . exact if_pos (e:=none) (show 2+2<=sizeLine by omega)
        . obtain ⟨x,_,rfl⟩:=List.mem_map.mp hdd;show elM _ _ _ [none] _=_;unfold elM;rw [show gVar 0 (PyData.int (x:Int)) [none]=some [some (.val (.int (x:Int)))] from rfl,Option.bind_some,not_to (k:=true) (test_eq (call_to (ds:= [.int (x:Int)]) rfl (run_wholeI _)))];rfl
       exact eq_same (a:= .own []) (b:= .own []) lcn lstNil rfl (by decide +kernel) (by decide +kernel)
     . have t1:¬p ∈ T:=fun z=>hk' (of_decide_eq_true (List.mem_filter.mp z).2);refine wp_ifF (ta.trans (by rw [decide_eq_false t1];rfl)) (wp_next ⟨_,rfl,fun m hm k'' hk'' => ?_⟩)
       by_cases e:m=j
       . subst e;rw [hkj] at hk''
         cases hk''
         exact fun z=>hk' z.symm
       . exact ih m (by omega) k'' hk''
   . rintro ρ ⟨z5,rfl,ih⟩;have hin:f p ∈ ks:=(mem _).mpr ⟨p,mp,rfl⟩;obtain ⟨m,hm⟩:=List.mem_iff_getElem?.mp hin;exact absurd rfl (ih m (by rw [k2];exact (List.getElem?_eq_some_iff.mp hm).1) _ hm)
theorem run_cells63{ns:List Int}{ρ:En}(h:(ρ[0]?).join=some (.val (.list (ns.map .int)))):(mBin dAdd (mSl (mPk 0) mNoPart (mPart (mK (.int 63)))) (mLst (mCons (mK (.int 0)) mNil))) ρ=some (.own (il (ns.take 63 ++ [0]))):=by
 have sl:=sl1000
 have c1:(mSl (mPk 0) mNoPart (mPart (mK (.int 63)))) ρ=some (.own (il (ns.take 63))):=by
  have e:cutD (ns.map PyData.int) none (some ((63:Nat):Int))=il (ns.take 63):=by
   unfold cutD il;rw [HT.sIx_none,HT.sIx_nat,List.length_map,List.drop_zero,Nat.sub_zero, <-List.map_take];congr 1
   by_cases h:63<=ns.length
   . rw [Nat.min_eq_left h]
   . rw [Nat.min_eq_right (by omega),List.take_of_length_le (Nat.le_refl _),List.take_of_length_le (by omega)]
  rw [<-e];unfold mSl mPk;rw [h];rfl
 refine (bin_eq (op:=dAdd) c1 (lst1 (a:= .val (.int 0)) rfl)).trans ?_;refine (add_own (xs:=il (ns.take 63)) (ys:= [.int 0]) rfl rfl ?_).trans ?_
 . rw [il_len,List.length_take];simp;omega
 . rw [il_app];rfl
def toI(s:Lat.Sq):List (List Int):=s.map fun r=>r.map fun k:Nat=>(k:Int)
theorem lN_lI(r:List Nat):lN r=lI (r.map fun k:Nat=>(k:Int)):=by
 unfold lN lI;rw [nl_il]
theorem toI_map(s:Lat.Sq):s.map lN=(toI s).map lI:=by
 unfold toI;rw [List.map_map];exact List.map_congr_left fun r _=>lN_lI r
theorem sq_rD(s:Lat.Sq):sqD s=rD (toI s):=by
 unfold sqD rD;rw [toI_map]
theorem lay_rD(R:List (List Int)):(rD R).canLay0=true:=lay_list (en:=lI) lay_lI R
theorem dep_rD(R:List (List Int)):(rD R).depth<=60:=by
 have:=dep_list (en:=lI) (k:=3) dep_lI R;simp only [PyData.depth,rD];omega
theorem law_true(ns:List Int)(hns:ns.length<=63):m_law [.list (ns.map .int)]=some (.val (.bool true)):=by
 have sl:=sl1000
 let S:Option Sl:=some (.val (.list (ns.map .int)))
 let cs:List Int:=ns.take 63 ++ [0]
 refine run_wp (ρ:= [S,none,none,none,none,none,none,none,none]) rfl rfl ?_;unfold b_law;refine wp_asgS (r:= .own (([[0]]:Lat.Sq).map lN)) (lst1 (a:= .own (nl [0])) (lst1 (a:= .val (.int 0)) rfl)) ?_;refine wp_seq (P:=fun _=>True) ?_ (fun ρ _=>wp_ret (r:= .val (.bool true)) rfl rfl)
 have ok0:Lat.Ok 1 [[0]]:=⟨rfl,fun r hr=>by simp at hr;subst hr;rfl,fun i j hi hj=>by
  have:i=0:=by omega
  have:j=0:=by omega
  subst i j;decide,fun i j j' _ hj hj' _=>by omega,fun i i' j hi hi' _ _=>by omega⟩
 refine wp_forL (en:=PyData.int) (xs:=cs) (fun _ ρ=>∃(m:Nat) (s0:Lat.Sq) (s1:Sl) (z2 z3 z4 z5 z6 z7 z8:Option Sl),ρ = [S,some s1,z2,z3,z4,z5,z6,z7,z8]/\1<=m/\m<=7/\Lat.Ok m s0/\(s1 = .own (s0.map lN)\/s1 = .val (sqD s0))) (itemsS_to (run_cells63 (ns:=ns) rfl) (.inl rfl)) ⟨1,[[0]],_,_,_,_,_,_,_,_,rfl,by omega,by omega,ok0, .inl rfl⟩ ?_ (fun _ _=>trivial);rintro _ c ρ _ ⟨m,s0,s1,z2,z3,z4,z5,z6,z7,z8,rfl,m1,m7,om,hs1⟩;refine ⟨_,rfl,?_⟩
 let C2:Option Sl:=some (.val (.int c))
 show Wp _ [S,some s1,C2,z3,z4,z5,z6,z7,z8] _
 have sd:s1.dat=rD (toI s0):=by
  rw [<-sq_rD];rcases hs1 with rfl | rfl <;> rfl
 have tl:∀t:Lat.Sq,(toI t).length=t.length:=fun t=>List.length_map ..
 have l1:∀ {z2 z3 z4 z5 z6 z7 z8:Option Sl},(mCallP dLen (mConsP (mPk 1) mNilP)) [S,some s1,z2,z3,z4,z5,z6,z7,z8]=some (.val (.int (m:Nat))):=fun {z2 z3 z4 z5 z6 z7 z8}=>by
  have:=len_rD (R:=toI s0) (ρ:= [S,some s1,z2,z3,z4,z5,z6,z7,z8]) (i:=1) (s:=s1) rfl sd;rw [tl,om.len] at this
  exact this
 obtain ⟨v1,ev1⟩:=mix_to (args:=mCons (mVar 2) (mCons (mK (.int 1)) mNil)) (ρ:= [S,some s1,C2,z3,z4,z5,z6,z7,z8]) (c:=c) (j:=1) rfl (by omega) (by omega);obtain ⟨w1,ew1,bw1⟩:=mod_nat ev1 (fb:=mK (.int 7)) (m:=7) rfl (by omega);refine wp_asgS (r:= .val (.int ((w1+1:Nat):Int))) ((bin_eq (op:=dAdd) (a:= .val (.int 1)) rfl ew1).trans ?_) ?_
 . show some (Sl.val (.int (1+(w1:Int))))=_;rw [show (1:Int)+(w1:Int)=((w1+1:Nat):Int) by omega]
 refine wp_seq (P:=fun ρ=>∃n:Nat,ρ = [S,some s1,C2,some (.val (.int (n:Nat))),z4,z5,z6,z7,z8]/\1<=n/\n<=7) ?_ ?_
 . let N3:Option Sl:=some (.val (.int ((w1+1:Nat):Int)))
   show Wp _ [S,some s1,C2,N3,z4,z5,z6,z7,z8] _;obtain ⟨v4,ev4⟩:=mix_to (args:=mCons (mVar 2) (mCons (mK (.int 4)) mNil)) (ρ:= [S,some s1,C2,N3,z4,z5,z6,z7,z8]) (c:=c) (j:=4) rfl (by omega) (by omega);obtain ⟨w4,ew4,_⟩:=mod_nat ev4 (fb:=mK (.int 2)) (m:=2) rfl (by omega);have tst:=eq_int ew4 (fb:=mK (.int 1)) (j:=1) rfl
   by_cases hw:w4=1
   . exact wp_ifT (tst.trans (by rw [decide_eq_true (by omega)])) (wp_asg l1 ⟨m,rfl,m1,m7⟩)
   . exact wp_ifF (tst.trans (by rw [decide_eq_false (by omega)])) (wp_next ⟨w1+1,rfl,by omega,by omega⟩)
 rintro ρ ⟨n,rfl,n1,n7⟩
 let N3:Option Sl:=some (.val (.int (n:Nat)))
 obtain ⟨s,os,es⟩:=run_square n1 n7 c
 let L1:Option Sl:=some s1
 refine wp_seqN (f:=mFrz 3 _) (ρ':= [S,L1,C2,N3,some (.own (s.map lN)),z5,z6,z7,z8]) (asg_to (ρ:= [S,L1,C2,N3,z4,z5,z6,z7,z8]) (call_to (ds:= [.int (n:Int), .int c]) rfl es)) ?_
 let V4:Option Sl:=some (.val (sqD s))
 have r0:(toI s).length=n:=by rw [tl,os.len]
 have rr:∀r ∈ toI s,r.length=n:=fun r hr=>by
  obtain ⟨q,hq,rfl⟩:=List.mem_map.mp hr;rw [List.length_map];exact os.row q hq
 obtain ⟨rs,eb,R,rfl,bR⟩:=run_bent n1 n7 r0 rr c;have b0:Bd (toI s):=⟨by omega,by omega,fun r hr=>by rw [rr r hr];omega⟩;refine wp_seqN (f:=mFrz 4 _) (ρ':= [S,L1,C2,N3,V4,some (.own (R.map lI)),z6,z7,z8]) ?_ ?_
 . rw [frz_eq];refine asg_to (ρ:= [S,L1,C2,N3,V4,z5,z6,z7,z8]) (r:= .own (R.map lI)) ?_;rw [lI_rows]
   have:(mCallW m_q0 (mCons (mVar 4) (mCons (mVar 2) mNil))) [S,L1,C2,N3,V4,z5,z6,z7,z8]=some (R.map il):=by
    unfold mCallW;show m_q0 [sqD s, .int c]=_;rw [sq_rD];exact eb
   unfold mOwnW;rw [this];rfl
 let V5:Option Sl:=some (.val (rD R))
 refine wp_seq (P:=fun ρ=>∃z6 z7 z8,ρ = [S,L1,C2,N3,V4,V5,z6,z7,z8]) ?_ ?_
 . refine wp_frz (wp_frz ?_);show Wp _ [S,L1,C2,N3,V4,V5,z6,z7,z8] _
   have it:(mItemsS (mLst (mCons (mVar 4) (mCons (mVar 5) mNil)))) [S,L1,C2,N3,V4,V5,z6,z7,z8]=some ([toI s,R].map rD):=by
    refine itemsS_to (a:= .own [sqD s,rD R]) (if_pos (e:=none) (show 2<=sizeLine by omega)) (.inl ?_);show PyData.list [sqD s,rD R]=_;rw [sq_rD];rfl
   refine wp_forL (en:=rD) (xs:= [toI s,R]) (fun _ ρ=>∃z6 z7 z8,ρ = [S,L1,C2,N3,V4,V5,z6,z7,z8]) it ⟨_,_,_,rfl⟩ ?_ (fun ρ h=>h);rintro j Rx ρ hj ⟨z6,z7,z8,rfl⟩
   have bx:Bd Rx:=by
    have:=List.mem_of_getElem? hj;simp only [List.mem_cons,List.not_mem_nil,or_false] at this
    rcases this with rfl | rfl
    . exact b0
    . exact bR
   obtain ⟨x1,x2,x3⟩:=bx;refine ⟨_,rfl,?_⟩
   let X6:Option Sl:=some (.val (rD Rx))
   show Wp _ [S,L1,C2,N3,V4,V5,X6,z7,z8] _;refine wp_asgS (r:= .own (Rx.map lI)) (lc_to (ds:=Rx.map lI) rfl (by rw [List.length_map];omega) (compM_map (en:=lI) (g:=lI) fun r _=>el_to (fg:=gVar 0) (ρ0:= [none]) (d:=lI r) (ρ1:= [some (.val (lI r))]) (r:= .own (il r)) rfl rfl)) ?_;have q1:=run_isqI (R:=Rx) (by omega) (by omega);have q2:=run_lisq (R:=Rx) (by omega) (by omega) (fun r hr=>by have:=x3 r hr;omega);obtain ⟨b,q1,q2⟩:∃b:Bool,m_q10 [rD Rx]=some (.val (.bool b))/\m_q1 [rD Rx]=some (.val (.bool b)):=⟨_,q1,q2⟩;refine wp_asgS (r:= .val (.bool b)) (call_to (ds:= [rD Rx]) rfl q1) ?_;refine wp_ifF (or_to (k:=false) (l:=false) (not_to (k:=true) (test_eq rfl)) (or_to (k:=false) (l:=false) ((ne_bool (a:=b) (b:=b) rfl (call_to (ds:= [rD Rx]) rfl q2)).trans (by rw [decide_eq_true rfl];rfl)) (ne_same (a:= .val (rD Rx)) (b:= .own (Rx.map lI)) rfl rfl rfl (lay_rD Rx) (dep_rD Rx)))) (wp_next ⟨_,_,_,rfl⟩)
 rintro ρ ⟨z6,z7,z8,rfl⟩;refine wp_seq (P:=fun ρ=>∃(t:Lat.Sq) (t1:Sl),ρ = [S,some t1,C2,N3,V4,V5,z6,z7,z8]/\Lat.Ok n t/\(t1 = .own (t.map lN)\/t1 = .val (sqD t))) ?_ ?_
 . have tst:=ne_int (l1 (z2:=C2) (z3:=N3) (z4:=V4) (z5:=V5) (z6:=z6) (z7:=z7) (z8:=z8)) (fb:=mPk 3) (j:=(n:Nat)) rfl
   by_cases hmn:m=n
   . subst hmn;exact wp_ifF (tst.trans (by rw [decide_eq_true rfl];rfl)) (wp_next ⟨s0,s1,rfl,om,hs1⟩)
   . exact wp_ifT (tst.trans (by rw [decide_eq_false (by omega)];rfl)) (wp_frz (wp_asg (r:= .val (sqD s)) rfl ⟨s,_,rfl,os, .inr rfl⟩))
 rintro ρ ⟨t,t1,rfl,ot,ht1⟩
 let T1:Option Sl:=some (.val (sqD t))
 have fz:frz1 1 [S,some t1,C2,N3,V4,V5,z6,z7,z8] = [S,T1,C2,N3,V4,V5,z6,z7,z8]:=by
  rcases ht1 with rfl | rfl <;> rfl
 refine wp_seqN (ρ':= [S,T1,C2,N3,V4,V5,z6,z7,z8]) ?_ ?_
 . rw [frz_eq,frz_eq];show (mIf _ _ _) (frz1 1 [S,some t1,C2,N3,V4,V5,z6,z7,z8])=_;rw [fz];exact if_to (b:=false) (or_to (k:=false) (l:=false) (not_to (k:=true) (test_eq (call_to (ds:= [sqD t,sqD s]) rfl (run_lright n1 n7 ot os)))) (not_to (k:=true) (test_eq (call_to (ds:= [sqD s,sqD s]) rfl (run_lright n1 n7 os os))))) rfl
 . exact wp_frz (wp_asg (r:= .val (sqD s)) rfl ⟨n,s,_,_,_,_,_,_,_,_,rfl,n1,n7,os, .inr rfl⟩)
abbrev Na_ (K:PySem.W.Frag) (n:Str) (f:Addr):Prop:=PySem.W.nsIn K mainGlobals n=some (some (.ref f))
abbrev Nz_ (K:PySem.W.Frag) (n:Str):Prop:=PySem.W.nsIn K mainGlobals n=some none
abbrev Co_ (K:PySem.W.Frag) (c:Value) (n:Str):Prop:=PySem.W.codeIn K c n=true
abbrev Ke_ (K:PySem.W.Frag) (f:Addr):Prop:=PySem.W.keepIn K (.ref f)=true
abbrev Lo_ (K:PySem.W.Frag) (f:Addr) (oc:Value) (od:Option Addr) (n q:Str) (s:Stmt) (kV dc pm:Value) (an:Option Addr) (cd ct:Value) (sl:Array (Option Value)):Prop:=K.lookup f=some ⟨oc,od, .func (PySem.W.fnOf n q (defArgs s) (defBody s) (defScope s) .none kV dc pm an cd ct),sl⟩
local macro_rules | `(tactic| walk_at "u1") => `(tactic| exact fun _ _ _ _ _ _ us hl => match us, hl with | [_], _ => rfl)
local macro_rules | `(tactic| walk_at "u2") => `(tactic| exact fun _ _ _ _ _ _ us hl => match us, hl with | [_, _], _ => rfl)
local macro_rules | `(tactic| walk_at "u3") => `(tactic| exact fun _ _ _ _ _ _ us hl => match us, hl with | [_, _, _], _ => rfl)
theorem all_mk {l : PySem.W.OpenLaw} {w : World} {K : PySem.W.Frag} {h : Heap} {mg : Str -> Option Value} {fa f1 f2 f3 f4 f5 f6 f7 f8 f9 f10 f11 f12 f13 f14 f15 f16 f17 f18 : Addr} {od1 an1 od2 an2 od3 an3 od4 an4 od5 an5 od6 an6 od7 an7 od8 an8 od9 an9 od10 an10 od11 an11 od12 an12 od13 an13 od14 an14 od15 an15 od16 an16 od17 an17 od18 an18 : Option Addr} {sl1 sl2 sl3 sl4 sl5 sl6 sl7 sl8 sl9 sl10 sl11 sl12 sl13 sl14 sl15 sl16 sl17 sl18 : Array (Option Value)} {oc1 kV1 dc1 pm1 cd1 ct1 oc2 kV2 dc2 pm2 cd2 ct2 oc3 kV3 dc3 pm3 cd3 ct3 oc4 kV4 dc4 pm4 cd4 ct4 oc5 kV5 dc5 pm5 cd5 ct5 oc6 kV6 dc6 pm6 cd6 ct6 oc7 kV7 dc7 pm7 cd7 ct7 oc8 kV8 dc8 pm8 cd8 ct8 oc9 kV9 dc9 pm9 cd9 ct9 oc10 kV10 dc10 pm10 cd10 ct10 oc11 kV11 dc11 pm11 cd11 ct11 oc12 kV12 dc12 pm12 cd12 ct12 oc13 kV13 dc13 pm13 cd13 ct13 oc14 kV14 dc14 pm14 cd14 ct14 oc15 kV15 dc15 pm15 cd15 ct15 oc16 kV16 dc16 pm16 cd16 ct16 oc17 kV17 dc17 pm17 cd17 ct17 oc18 kV18 dc18 pm18 cd18 ct18 : Value} (X : K.In h) (G : h.Ns mainGlobals mg) (hfa : mg "law" = some (.ref fa)) (hT : ∀ p ∈ (tbK [] K).map (·.2), h.get? p = some (PySem.W.tabObj #[]))
 (a1:Na_ K "_law_mix" f1)
 (l1:Lo_ K f1 oc1 od1 "_law_mix" "_law_mix" s_q2 kV1 dc1 pm1 an1 cd1 ct1 sl1)
 (c1:Co_ K cd1 "_law_mix")
 (k1:Ke_ K f1)
 (a2:Na_ K "_law_order" f2)
 (l2:Lo_ K f2 oc2 od2 "_law_order" "_law_order" s_q3 kV2 dc2 pm2 an2 cd2 ct2 sl2)
 (c2:Co_ K cd2 "_law_order")
 (k2:Ke_ K f2)
 (a3:Na_ K "_law_square" f3)
 (l3:Lo_ K f3 oc3 od3 "_law_square" "_law_square" s_q6 kV3 dc3 pm3 an3 cd3 ct3 sl3)
 (c3:Co_ K cd3 "_law_square")
 (k3:Ke_ K f3)
 (a4:Na_ K "_law_bent" f4)
 (l4:Lo_ K f4 oc4 od4 "_law_bent" "_law_bent" s_q0 kV4 dc4 pm4 an4 cd4 ct4 sl4)
 (c4:Co_ K cd4 "_law_bent")
 (k4:Ke_ K f4)
 (a5:Na_ K "laid_over" f5)
 (l5:Lo_ K f5 oc5 od5 "laid_over" "laid_over" s_q11 kV5 dc5 pm5 an5 cd5 ct5 sl5)
 (c5:Co_ K cd5 "laid_over")
 (k5:Ke_ K f5)
 (a6:Na_ K "has_each_once" f6)
 (l6:Lo_ K f6 oc6 od6 "has_each_once" "has_each_once" s_q9 kV6 dc6 pm6 an6 cd6 ct6 sl6)
 (c6:Co_ K cd6 "has_each_once")
 (k6:Ke_ K f6)
 (a7:Na_ K "is_square" f7)
 (l7:Lo_ K f7 oc7 od7 "is_square" "is_square" s_q10 kV7 dc7 pm7 an7 cd7 ct7 sl7)
 (c7:Co_ K cd7 "is_square")
 (k7:Ke_ K f7)
 (a8:Na_ K "_law_is_square" f8)
 (l8:Lo_ K f8 oc8 od8 "_law_is_square" "_law_is_square" s_q1 kV8 dc8 pm8 an8 cd8 ct8 sl8)
 (c8:Co_ K cd8 "_law_is_square")
 (k8:Ke_ K f8)
 (a9:Na_ K "product_of" f9)
 (l9:Lo_ K f9 oc9 od9 "product_of" "product_of" s_q14 kV9 dc9 pm9 an9 cd9 ct9 sl9)
 (c9:Co_ K cd9 "product_of")
 (k9:Ke_ K f9)
 (a10:Na_ K "trial_at" f10)
 (l10:Lo_ K f10 oc10 od10 "trial_at" "trial_at" s_q16 kV10 dc10 pm10 an10 cd10 ct10 sl10)
 (c10:Co_ K cd10 "trial_at")
 (k10:Ke_ K f10)
 (a11:Na_ K "all_trials" f11)
 (l11:Lo_ K f11 oc11 od11 "all_trials" "all_trials" s_q8 kV11 dc11 pm11 an11 cd11 ct11 sl11)
 (c11:Co_ K cd11 "all_trials")
 (k11:Ke_ K f11)
 (a12:Na_ K "places_of" f12)
 (l12:Lo_ K f12 oc12 od12 "places_of" "places_of" s_q13 kV12 dc12 pm12 an12 cd12 ct12 sl12)
 (c12:Co_ K cd12 "places_of")
 (k12:Ke_ K f12)
 (a13:Na_ K "number_at" f13)
 (l13:Lo_ K f13 oc13 od13 "number_at" "number_at" s_q12 kV13 dc13 pm13 an13 cd13 ct13 sl13)
 (c13:Co_ K cd13 "number_at")
 (k13:Ke_ K f13)
 (a14:Na_ K "right_angles" f14)
 (l14:Lo_ K f14 oc14 od14 "right_angles" "right_angles" s_q15 kV14 dc14 pm14 an14 cd14 ct14 sl14)
 (c14:Co_ K cd14 "right_angles")
 (k14:Ke_ K f14)
 (a15:Na_ K "_law_pairs" f15)
 (l15:Lo_ K f15 oc15 od15 "_law_pairs" "_law_pairs" s_q4 kV15 dc15 pm15 an15 cd15 ct15 sl15)
 (c15:Co_ K cd15 "_law_pairs")
 (k15:Ke_ K f15)
 (a16:Na_ K "_law_whole" f16)
 (l16:Lo_ K f16 oc16 od16 "_law_whole" "_law_whole" s_q7 kV16 dc16 pm16 an16 cd16 ct16 sl16)
 (c16:Co_ K cd16 "_law_whole")
 (k16:Ke_ K f16)
 (a17:Na_ K "_law_right" f17)
 (l17:Lo_ K f17 oc17 od17 "_law_right" "_law_right" s_q5 kV17 dc17 pm17 an17 cd17 ct17 sl17)
 (c17:Co_ K cd17 "_law_right")
 (k17:Ke_ K f17)
 (a18:Na_ K "law" f18)
 (l18:Lo_ K f18 oc18 od18 "law" "law" s_law kV18 dc18 pm18 an18 cd18 ct18 sl18)
 (c18:Co_ K cd18 "law")
 (k18:Ke_ K f18)
 (z0:Nz_ K "all")
 (z1:Nz_ K "any")
 (z2:Nz_ K "bool")
 (z3:Nz_ K "int")
 (z4:Nz_ K "isinstance")
 (z5:Nz_ K "len")
 (z6:Nz_ K "list")
 (z7:Nz_ K "range")
 (z8:Nz_ K "reversed")
 (z9:Nz_ K "sorted")
 (z10:Nz_ K "tuple")
 : (∃o,K.lookup mainGlobals=some o)/\∃fd:FuncData,(∀(s:Shared) (v:Value),BindsTo s fd ⟨[v],[]⟩ [("_law_script",v)])/\∀base:Heap,(cutK K ((tbK [] K).map (·.2))).In base->base.Ns mainGlobals mg->(∀p ∈ tbK [] K,PySem.W.CodeHd base p.1 p.2)->BM base mg->FnOk l.prog w (cutK K ((tbK [] K).map (·.2))) mg base CX0 6 fa fd ["_law_script"] (spLaw (cutK K ((tbK [] K).map (·.2)))):=by
 have e:=hfa.symm.trans (PySem.W.mg_of X G a18)
 cases e
 have F_q2:=Fun_cut X hT (fun_mk (st:=s_q2) l1 c1 k1);have b_q2:=F_q2.binds (ps:= ["_law_cell","_law_j"]) (by walk_at "u2");have F_q3:=Fun_cut X hT (fun_mk (st:=s_q3) l2 c2 k2);have b_q3:=F_q3.binds (ps:= ["_law_n","_law_cell","_law_far"]) (by walk_at "u3");have F_q6:=Fun_cut X hT (fun_mk (st:=s_q6) l3 c3 k3);have b_q6:=F_q6.binds (ps:= ["_law_n","_law_cell"]) (by walk_at "u2");have F_q0:=Fun_cut X hT (fun_mk (st:=s_q0) l4 c4 k4);have b_q0:=F_q0.binds (ps:= ["_law_square_here","_law_cell"]) (by walk_at "u2");have F_q11:=Fun_cut X hT (fun_mk (st:=s_q11) l5 c5 k5);have b_q11:=F_q11.binds (ps:= ["table"]) (by walk_at "u1");have F_q9:=Fun_cut X hT (fun_mk (st:=s_q9) l6 c6 k6);have b_q9:=F_q9.binds (ps:= ["numbers"]) (by walk_at "u1");have F_q10:=Fun_cut X hT (fun_mk (st:=s_q10) l7 c7 k7);have b_q10:=F_q10.binds (ps:= ["rows"]) (by walk_at "u1");have F_q1:=Fun_cut X hT (fun_mk (st:=s_q1) l8 c8 k8);have b_q1:=F_q1.binds (ps:= ["_law_rows"]) (by walk_at "u1");have F_q14:=Fun_cut X hT (fun_mk (st:=s_q14) l9 c9 k9);have b_q14:=F_q14.binds (ps:= ["numbers"]) (by walk_at "u1");have F_q16:=Fun_cut X hT (fun_mk (st:=s_q16) l10 c10 k10);have b_q16:=F_q16.binds (ps:= ["levels","place"]) (by walk_at "u2");have F_q8:=Fun_cut X hT (fun_mk (st:=s_q8) l11 c11 k11);have b_q8:=F_q8.binds (ps:= ["levels"]) (by walk_at "u1");have F_q13:=Fun_cut X hT (fun_mk (st:=s_q13) l12 c12 k12);have b_q13:=F_q13.binds (ps:= ["n"]) (by walk_at "u1");have F_q12:=Fun_cut X hT (fun_mk (st:=s_q12) l13 c13 k13);have b_q12:=F_q12.binds (ps:= ["square","place"]) (by walk_at "u2");have F_q15:=Fun_cut X hT (fun_mk (st:=s_q15) l14 c14 k14);have b_q15:=F_q15.binds (ps:= ["one","other"]) (by walk_at "u2");have F_q4:=Fun_cut X hT (fun_mk (st:=s_q4) l15 c15 k15);have b_q4:=F_q4.binds (ps:= ["_law_one","_law_other"]) (by walk_at "u2");have F_q7:=Fun_cut X hT (fun_mk (st:=s_q7) l16 c16 k16);have b_q7:=F_q7.binds (ps:= ["_law_found"]) (by walk_at "u1");have F_q5:=Fun_cut X hT (fun_mk (st:=s_q5) l17 c17 k17);have b_q5:=F_q5.binds (ps:= ["_law_one","_law_other"]) (by walk_at "u2");have F_law:=Fun_cut X hT (fun_mk (st:=s_law) l18 c18 k18);have b_law:=F_law.binds (ps:= ["_law_script"]) (by walk_at "u1");have B:Bl mg:=⟨PySem.W.mg_none_of X G z0,PySem.W.mg_none_of X G z1,PySem.W.mg_none_of X G z2,PySem.W.mg_none_of X G z3,PySem.W.mg_none_of X G z4,PySem.W.mg_none_of X G z5,PySem.W.mg_none_of X G z6,PySem.W.mg_none_of X G z7,PySem.W.mg_none_of X G z8,PySem.W.mg_none_of X G z9,PySem.W.mg_none_of X G z10⟩;refine ⟨main_of a18,PySem.W.fnOf "law" "law" (defArgs s_law) (defBody s_law) (defScope s_law) .none kV18 dc18 pm18 an18 cd18 ct18,fun s v=> .of_eq rfl,fun base _ _ hC bm=> ?_⟩;have D_q2:Def l.prog w (cutK K ((tbK [] K).map (·.2))) mg base 1 "_law_mix" ["_law_cell","_law_j"] (spD (cutK K ((tbK [] K).map (·.2))) m_q2):=⟨_,_,ok_q2 B F_q2,PySem.W.mg_of X G a1,F_q2.kp,b_q2⟩;have D_q3:Def l.prog w (cutK K ((tbK [] K).map (·.2))) mg base 2 "_law_order" ["_law_n","_law_cell","_law_far"] (spD (cutK K ((tbK [] K).map (·.2))) m_q3):=⟨_,_,ok_q3 B D_q2 F_q3,PySem.W.mg_of X G a2,F_q3.kp,b_q3⟩
 have D_q6:Def l.prog w (cutK K ((tbK [] K).map (·.2))) mg base 3 "_law_square" ["_law_n","_law_cell"] (spD (cutK K ((tbK [] K).map (·.2))) m_q6):=⟨_,_,ok_q6 B D_q2 D_q3 F_q6,PySem.W.mg_of X G a3,F_q6.kp,b_q6⟩;have D_q0:Def l.prog w (cutK K ((tbK [] K).map (·.2))) mg base 2 "_law_bent" ["_law_square_here","_law_cell"] (spW (cutK K ((tbK [] K).map (·.2))) m_q0):=⟨_,_,ok_q0 B D_q2 F_q0,PySem.W.mg_of X G a4,F_q0.kp,b_q0⟩;have D_q11:Def l.prog w (cutK K ((tbK [] K).map (·.2))) mg base 1 "laid_over" ["table"] (spD (cutK K ((tbK [] K).map (·.2))) m_q11):=⟨_,_,ok_q11 B F_q11,PySem.W.mg_of X G a5,F_q11.kp,b_q11⟩;have D_q9:Def l.prog w (cutK K ((tbK [] K).map (·.2))) mg base 1 "has_each_once" ["numbers"] (spD (cutK K ((tbK [] K).map (·.2))) m_q9):=⟨_,_,ok_q9 B F_q9,PySem.W.mg_of X G a6,F_q9.kp,b_q9⟩;have D_q10:Def l.prog w (cutK K ((tbK [] K).map (·.2))) mg base 2 "is_square" ["rows"] (spD (cutK K ((tbK [] K).map (·.2))) m_q10):=⟨_,_,ok_q10 B D_q11 D_q9 F_q10,PySem.W.mg_of X G a7,F_q10.kp,b_q10⟩;have D_q1:Def l.prog w (cutK K ((tbK [] K).map (·.2))) mg base 1 "_law_is_square" ["_law_rows"] (spD (cutK K ((tbK [] K).map (·.2))) m_q1):=⟨_,_,ok_q1 B F_q1,PySem.W.mg_of X G a8,F_q1.kp,b_q1⟩;have D_q14:Def l.prog w (cutK K ((tbK [] K).map (·.2))) mg base 1 "product_of" ["numbers"] (spD (cutK K ((tbK [] K).map (·.2))) m_q14):=⟨_,_,ok_q14 B F_q14,PySem.W.mg_of X G a9,F_q14.kp,b_q14⟩;have D_q16:Def l.prog w (cutK K ((tbK [] K).map (·.2))) mg base 1 "trial_at" ["levels","place"] (spD (cutK K ((tbK [] K).map (·.2))) m_q16):=⟨_,_,ok_q16 B F_q16,PySem.W.mg_of X G a10,F_q16.kp,b_q16⟩;have D_q8:Def l.prog w (cutK K ((tbK [] K).map (·.2))) mg base 2 "all_trials" ["levels"] (spD (cutK K ((tbK [] K).map (·.2))) m_q8):=⟨_,_,ok_q8 B D_q14 D_q16 F_q8,PySem.W.mg_of X G a11,F_q8.kp,b_q8⟩;have D_q13:Def l.prog w (cutK K ((tbK [] K).map (·.2))) mg base 3 "places_of" ["n"] (spD (cutK K ((tbK [] K).map (·.2))) m_q13):=⟨_,_,ok_q13 B D_q8 F_q13,PySem.W.mg_of X G a12,F_q13.kp,b_q13⟩;have D_q12:Def l.prog w (cutK K ((tbK [] K).map (·.2))) mg base 1 "number_at" ["square","place"] (spD (cutK K ((tbK [] K).map (·.2))) m_q12):=⟨_,_,ok_q12 B F_q12,PySem.W.mg_of X G a13,F_q12.kp,b_q12⟩;have D_q15:Def l.prog w (cutK K ((tbK [] K).map (·.2))) mg base 4 "right_angles" ["one","other"] (spD (cutK K ((tbK [] K).map (·.2))) m_q15):=⟨_,_,ok_q15 B D_q13 D_q12 F_q15,PySem.W.mg_of X G a14,F_q15.kp,b_q15⟩;have D_q4:Def l.prog w (cutK K ((tbK [] K).map (·.2))) mg base 1 "_law_pairs" ["_law_one","_law_other"] (spD (cutK K ((tbK [] K).map (·.2))) m_q4):=⟨_,_,ok_q4 B F_q4,PySem.W.mg_of X G a15,F_q4.kp,b_q4⟩;have D_q7:Def l.prog w (cutK K ((tbK [] K).map (·.2))) mg base 1 "_law_whole" ["_law_found"] (spD (cutK K ((tbK [] K).map (·.2))) m_q7):=⟨_,_,ok_q7 B F_q7,PySem.W.mg_of X G a16,F_q7.kp,b_q7⟩;have D_q5:Def l.prog w (cutK K ((tbK [] K).map (·.2))) mg base 5 "_law_right" ["_law_one","_law_other"] (spD (cutK K ((tbK [] K).map (·.2))) m_q5):=⟨_,_,ok_q5 B D_q15 D_q4 D_q7 F_q5,PySem.W.mg_of X G a17,F_q5.kp,b_q5⟩;exact (ok_law B D_q2 D_q6 D_q0 D_q10 D_q1 D_q5 F_law).imp (fun vs H Q E h=>law_imp law_true h)
theorem walk {l : PySem.W.OpenLaw} {q : Program} {loose : List Str} {XP : (Str -> Option Value) -> Heap -> Prop} {YP : World -> Heap -> Prop} {d : DefRec} {K : Params -> PySem.W.Frag} (hn : l.most = some 63) (hdf : d.params.defaults = [])
 (hY:∀(w:World) (h:Heap),YP w h->(K w.params).In h)
 (hrec:∀y ∈ ([]:List Str),∃e,(PyProof.Rows.recsOf q).find? (fun e=>e.name==y)=some e)
 (F:∀(w:World) (mg:Str->Option Value) (fa:Addr) (h:Heap),(K w.params).In h->h.Ns mainGlobals mg->mg d.name=some (.ref fa)->(∀p ∈ (tbK [] (K w.params)).map (·.2),h.get? p=some (PySem.W.tabObj #[])) ->
  (∃o,(K w.params).lookup mainGlobals=some o)/\∃fd:FuncData,(∀(s:Shared) (u:Value),BindsTo s fd ⟨[u],[]⟩ [("_law_script",u)])/\∀base:Heap,(cutK (K w.params) ((tbK [] (K w.params)).map (·.2))).In base->base.Ns mainGlobals mg->(∀p ∈ tbK [] (K w.params),PySem.W.CodeHd base p.1 p.2)->BM base mg->FnOk l.prog w (cutK (K w.params) ((tbK [] (K w.params)).map (·.2))) mg base CX0 6 fa fd ["_law_script"] (spLaw (cutK (K w.params) ((tbK [] (K w.params)).map (·.2))))) :
 PySem.W.WalkO q loose XP YP l.row.toRowW d [] (fun f vs=>PySem.call f vs) :=
 walk_ofT (n:=63) (k:=6) (x:= "_law_script") (sp:=spLaw) hn (by decide) hdf ⟨rfl,by decide,by decide⟩ hY hrec F fun _ _ a ns hl hS=>⟨a,ns,rfl,hS,hl,fun _=>rfl⟩
end
end K83
namespace PySem.W.Fast
def tw3072970339614111204:=0
def tw11212661946553645229:=0
def tw4872799336226396617:=0
def tw17817068642353608350:=0
def tw10235561190100209715:=0
def tw17782484563813705765:=0
def tw7208465626637981653:=0
def tw9129823643356607350:=0
def tw13619940721008698796:=0
def tw5912732225694066922:=0
def tw2806515796744757306:=0
def tw4264740335580510817:=0
def tw5515899736390866566:=0
def tw7428781493444061657:=0
def tw10769242863470532706:=0
def tw1513730382686611883:=0
end PySem.W.Fast
open PySem PySem.W PyProof.Rows
set_option maxRecDepth 100000 in
set_option maxHeartbeats 0 in
theorem PySem.Challenge.cw_trialfield_k83_squares_holds : PySem.Challenge.rw_trialfield_k83_squares.Holds := by
 w_on;o_law;k_head;(case hw=>w_witness2)
 k_fill
 refine K83.walk (l := PySem.Challenge.rw_trialfield_k83_squares) rfl rfl (fun w h Y => PySem.W.kIn_of Y) ?R ?F
 case R=>
  intro y hy;exact absurd hy List.not_mem_nil
 case F=>
  intro w mg fa h KX G hmg hT;refine' K83.all_mk KX G hmg hT ?_ ?_ ?_ ?_ ?_ ?_ ?_ ?_ ?_ ?_ ?_ ?_ ?_ ?_ ?_ ?_ ?_ ?_ ?_ ?_ ?_ ?_ ?_ ?_ ?_ ?_ ?_ ?_ ?_ ?_ ?_ ?_ ?_ ?_ ?_ ?_ ?_ ?_ ?_ ?_ ?_ ?_ ?_ ?_ ?_ ?_ ?_ ?_ ?_ ?_ ?_ ?_ ?_ ?_ ?_ ?_ ?_ ?_ ?_ ?_ ?_ ?_ ?_ ?_ ?_ ?_ ?_ ?_ ?_ ?_ ?_ ?_ ?_ ?_ ?_ ?_ ?_ ?_ ?_ ?_ ?_ ?_ ?_
  all_goals (first | ((first | unfold K83.Na_ | unfold K83.Nz_ | unfold K83.Co_ | unfold K83.Ke_ | unfold K83.Lo_);k_is) | k_is | skip)
