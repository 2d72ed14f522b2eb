import PyProof.Rows.All
import Wide.All
import OpenK.AllK
import Wide.FinOn
import Lean
import PyProof.EqAt
import PyProof.EqKinds
import PyProof.TupleCall
import PyProof.Rows.SortRuns
import PyProof.TupleKey
import PyProof.SetKind
import PyProof.DictKinds
import PyProof.Rows.SetFrom
import PyProof.SetScanFacts
import PyProof.Seq
import PyProof.FactsAll.set
import PyProof.Walks
import PyProof.Rows.SortShell
import PyProof.CollectWalk
import PyProof.ListRange
import PyProof.Rows.SortWalk
import PyProof.FitsReplace
import PySem.Challenge.RW_trialfield_k92_models_as_texts
set_option Elab.async false
set_option linter.all false
set_option maxRecDepth 100000
set_option maxHeartbeats 4000000
namespace L2
open PySem PySem.Spec PyProof.Rows
abbrev Key:=Sum Int Str
def keyIs:Key->Value->Bool
 | .inl k,v=>Value.isInt k v
 | .inr x,v=>Value.isStrOf x v
def keyH(w:World):Key->Int
 | .inl k=>hashInt k
 | .inr x=>hashStr w x
theorem keyIs_shape:∀ {k:Key} {v:Value},keyIs k v=true->(∃i t,k=Sum.inl i/\v=Value.int i t)\/(∃x t,k=Sum.inr x/\v=Value.str x t)
 | .inl i,v,h=>by
  obtain ⟨t,e⟩:=Value.isInt_shape (k:=i) (v:=v) h
  exact .inl ⟨i,t,rfl,e⟩
 | .inr x,v,h=>by
  obtain ⟨t,e⟩:=Value.isStrOf_shape (x:=x) (v:=v) h;exact .inr ⟨x,t,rfl,e⟩
theorem key_ll(a b:Int):decide ((Sum.inl a:Key)=Sum.inl b)=(a==b):=by
 by_cases e:a=b
 . subst e;simp
 . have h:¬(Sum.inl a:Key)=Sum.inl b:=fun q=>e (Sum.inl.inj q);rw [decide_eq_false h];exact (beq_eq_false_iff_ne.mpr e).symm
theorem key_rr(a b:Str):decide ((Sum.inr a:Key)=Sum.inr b)=decide (a=b):=by
 by_cases e:a=b
 . subst e;simp
 . have h:¬(Sum.inr a:Key)=Sum.inr b:=fun q=>e (Sum.inr.inj q);rw [decide_eq_false h,decide_eq_false e]
theorem key_lr(a:Int)(b:Str):decide ((Sum.inl a:Key)=Sum.inr b)=false:=decide_eq_false (fun q=>nomatch q)
theorem key_rl(a:Str)(b:Int):decide ((Sum.inr a:Key)=Sum.inl b)=false:=decide_eq_false (fun q=>nomatch q)
def mixKind(prog:Program)(w:World):PySem.KeyKind prog w Key where
 is:=keyIs
 hash:=keyH w
 inj:=fun v a b ha hb=>by
  rcases keyIs_shape ha with ⟨i,t,rfl,rfl⟩ | ⟨x,t,rfl,rfl⟩
  . rcases keyIs_shape hb with ⟨j,u,rfl,e⟩ | ⟨y,u,rfl,e⟩
    . injection e with e1 _;rw [e1]
    . exact nomatch e
  . rcases keyIs_shape hb with ⟨j,u,rfl,e⟩ | ⟨y,u,rfl,e⟩
    . exact nomatch e
    . injection e with e1 _;rw [e1]
 byValue:=fun k v h=>by
  rcases keyIs_shape h with ⟨i,t,rfl,rfl⟩ | ⟨x,t,rfl,rfl⟩ <;> rfl
 pyHash:=fun hv h=>by
  rcases keyIs_shape hv with ⟨i,t,rfl,rfl⟩ | ⟨x,t,rfl,rfl⟩
  . exact wpAny_pyHash_int h
  . exact wpAny_pyHash_str h
 eqBool:=fun hu hv h=>by
  rcases keyIs_shape hu with ⟨i,t,rfl,rfl⟩ | ⟨x,t,rfl,rfl⟩
  . rcases keyIs_shape hv with ⟨j,u,rfl,rfl⟩ | ⟨y,u,rfl,rfl⟩
    . rw [key_ll] at h;exact wpAny_eqBool_int h
    . rw [key_lr] at h;exact SeqAt.EqAt.int_str i t y u _ _ _ _ h
  . rcases keyIs_shape hv with ⟨j,u,rfl,rfl⟩ | ⟨y,u,rfl,rfl⟩
    . rw [key_rl] at h;exact SeqAt.EqAt.str_int x t j u _ _ _ _ h
    . rw [key_rr] at h;exact wpAny_eqBool_str h
 «strs» := fun k x t v h => by
  rcases keyIs_shape h with ⟨i,u,rfl,e⟩ | ⟨y,u,rfl,e⟩
  . exact nomatch e
  . injection e with e1 _
    subst e1
    cases v <;> rfl
end L2
namespace L2
open PySem PySem.Spec PyProof.Rows
inductive V where
 | non | bl (b:Bool) | int (i:Int) | str (x:Str) | byt (b:Array UInt8) | flt (b:UInt64) | ref (a:Addr) | ty (n:String)
 deriving DecidableEq
def RelV:V->Value->Prop
 | .non,u=>u=Value.none
 | .bl b,u=>u=Value.bool b
 | .int i,u=>∃t,u=Value.int i t
 | .str x,u=>∃t,u=Value.str x t
 | .byt b,u=>∃t,u=Value.bytes b t
 | .flt b,u=>∃t,u=Value.float b t
 | .ref a,u=>u=Value.ref a
 | .ty n,u=>u=Value.type n
abbrev Vals:List V->List Value->Prop:=Paired RelV
theorem Vals.length{xs:List V}{us:List Value}(r:Vals xs us):xs.length=us.length:=Paired.length r
theorem Vals.get:∀ {xs:List V} {us:List Value} {i:Nat} {x:V},Vals xs us->xs[i]? = some x->∃u,us[i]? = some u/\RelV x u
 | _,_,_,_, .nil,e=>by simp at e
 | _,_,0,_, .cons r _,e=>by simp at e;subst e;exact ⟨_,rfl,r⟩
 | _,_,i+1,x, .cons _ t,e=>by
  obtain ⟨u,h1,h2⟩:=Vals.get (i:=i) (x:=x) t (by simpa using e);exact ⟨u,by simpa using h1,h2⟩
theorem Vals.set{x:V}{u:Value}(r:RelV x u):∀ {xs:List V} {us:List Value} (i:Nat),Vals xs us->Vals (xs.set i x) (us.set i u)
 | _,_,_, .nil=> .nil
 | _,_,0, .cons _ t=> .cons r t
 | _,_,i+1, .cons q t=> .cons q (Vals.set r i t)
theorem Vals.append:∀ {xs ys:List V} {us ws:List Value},Vals xs us->Vals ys ws->Vals (xs++ys) (us++ws)
 | _,_,_,_, .nil,s=>s
 | _,_,_,_, .cons r t,s=> .cons r (Vals.append t s)
theorem Vals.take:∀ {xs:List V} {us:List Value} (n:Nat),Vals xs us->Vals (xs.take n) (us.take n)
 | _,_,0,_=> .nil
 | _,_,_+1, .nil=> .nil
 | _,_,n+1, .cons r t=> .cons r (Vals.take n t)
theorem Vals.drop:∀ {xs:List V} {us:List Value} (n:Nat),Vals xs us->Vals (xs.drop n) (us.drop n)
 | _,_,0,r=>r
 | _,_,_+1, .nil=> .nil
 | _,_,n+1, .cons _ t=>Vals.drop n t
def RelO:Option V->Option Value->Prop
 | some v,some u=>RelV v u
 | none,none=>True
 | _,_=>False
def KV{κ:Type}:List (κ×V)->List (κ×Value)->Prop:=Paired fun (p:κ×V) (q:κ×Value)=>p.1=q.1/\RelV p.2 q.2
def kV:Key->V
 | .inl i=> .int i
 | .inr x=> .str x
inductive HO where
 | lst (xs:List V)
 | tup (xs:List V)
 | dK (kvs:List (Key×V)) | dT (kvs:List (List Key×V))
 | set (S:Int->Bool) (n:Nat)
 | ins (C dx:Addr) (fs:List (Str×V))
 | own (x:Addr)
 | xd (fs:List (Str×V))
 | met (f x:Addr)
 | rng (lo hi:Int)
 | frz (o:Obj) (u:HO)
 | tbl (ps:Array Value)
 | ext (φ:Heap->Prop)
abbrev Hp:=Addr->Option HO
def upd(H:Hp)(a:Addr)(o:HO):Hp:=fun b=>if b=a then some o else H b
theorem upd_same{H:Hp}{a:Addr}{o:HO}:upd H a o a=some o:=by unfold upd;rw [if_pos rfl]
theorem upd_ne{H:Hp}{a b:Addr}{o:HO}(h:b≠a):upd H a o b=H b:=by unfold upd;rw [if_neg h]
theorem ne_of_none{H:Hp}{a b:Addr}{o:HO}(h:H a=some o)(h':H b=none):a≠b:=by
 intro e;subst e;rw [h] at h';cases h'
section
variable (P:Program) (w:World)
def ObjOk(H:Hp)(h:Heap)(a:Addr):HO->Prop
 | .lst xs=>xs.length<=sizeLine/\∃(its:List Value) (n:Nat),Vals xs its/\h.get? a=some {cls:= .type "list",data:= .seq its.toArray n}
 | .tup xs=>xs.length<=sizeLine/\∃its:List Value,Vals xs its/\IsTup h a its.toArray
 | .dK kvs=>kvs.length<=sizeLine/\(a==sysModules)=false/\∃vs,KV kvs vs/\h.DictOf (mixKind P w) a vs
 | .dT kvs => kvs.length <= sizeLine /\ (a == sysModules) = false /\ ∃ xs : List (List Key × Addr × Value),
  Paired (fun (p:List Key×V) (q:List Key×Addr×Value)=>p.1=q.1/\H q.2.1=some (.tup (p.1.map kV))/\RelV p.2 q.2.2) kvs xs /\
  ∃o es ep,h.get? a=some o/\o.ExactDict/\o.data = .dict es ep/\es.toList=xs.map (entryOfKey (tupleKind (mixKind P w)))/\(xs.map (·.1)).Nodup
 | .set S n=>h.SetOf (intKind P w) a S n
 | .ins C dx fs => H dx = some (.own a) /\ fs.length <= 1000 /\ dx ≠ a /\ h.get? a = some (PySem.W.instObj C dx) /\
  ∃mA,h.Ns1 dx mA/\(∀f,RelO (fs.lookup f) (mA f))/\PySem.Within mA (fs.map (·.1))
 | .own _=>∃o,h.get? a=some o
 | .xd fs=>∃mA,h.Ns1 a mA/\∀f,RelO (fs.lookup f) (mA f)
 | .rng lo hi=>∃t u v,h.get? a=some {cls:= .type "range",data:= .fields #[.int lo t, .int hi u, .int 1 v]}
 | .frz o u=>h.get? a=some o/\ObjOk H h a u
 | .tbl _=>∃qs:Array Value,h.get? a=some {cls:= .none,data:= .fields qs}/\TriplesOk qs.toList/\∀pos v,codeAmong pos qs.toList=some v->∃c oc vs x,v=Value.ref c/\H c=some (.frz oc (.own 0))/\oc.data = .fields vs/\vs[1]? = some x
 | .met f x=>h.get? a=some (PySem.W.methodObj (.ref f) (.ref x))
 | .ext φ=>φ h/\(∃o,h.get? a=some o)/\∀h1 h2:Heap,φ h1->(∀o,h1.get? a=some o->h2.get? a=some o)->φ h2
def HOk(H:Hp)(h:Heap):Prop:=∀a o,H a=some o->ObjOk P w H h a o
end
section
variable {P:Program} {w:World} {H H':Hp} {h h':Heap} {a:Addr} {o:HO}
theorem ObjOk.lt(x:ObjOk P w H h a o):a<h.objs.size:=by
 cases o with
 | lst xs=>obtain ⟨_,_,_,_,e⟩:=x;exact Heap.lt_size e
 | tup xs=>obtain ⟨_,_,_,p⟩:=x;exact p.lt
 | dK kvs=>obtain ⟨_,_,_,_,o,_,_,e,_⟩:=x;exact Heap.lt_size e
 | dT kvs=>obtain ⟨_,_,_,_,o,_,_,e,_⟩:=x;exact Heap.lt_size e
 | set S n=>obtain ⟨o,_,_,_,e,_⟩:=x;exact Heap.lt_size e
 | ins C dx fs=>obtain ⟨_,_,_,e,_⟩:=x;exact Heap.lt_size e
 | own y=>obtain ⟨_,e⟩:=x;exact Heap.lt_size e
 | xd fs=>obtain ⟨_,⟨_,_,_,e,_⟩,_⟩:=x;exact Heap.lt_size e
 | rng lo hi=>obtain ⟨_,_,_,e⟩:=x;exact Heap.lt_size e
 | frz ob u=>obtain ⟨e,_⟩:=x;exact Heap.lt_size e
 | tbl ps=>obtain ⟨_,e,_⟩:=x;exact Heap.lt_size e
 | met f y=>exact Heap.lt_size (show h.get? a=some _ from x)
 | ext φ=>obtain ⟨_,⟨_,e⟩,_⟩:=x;exact Heap.lt_size e
theorem Paired.mapP{α β:Type}{F G:α->β->Prop}:∀ {l₁:List α} {l₂:List β},Paired F l₁ l₂->(∀a b,F a b->G a b)->Paired G l₁ l₂
 | _,_, .nil,_=> .nil
 | _,_, .cons r t,f=> .cons (f _ _ r) (Paired.mapP t f)
theorem ObjOk.stay (x : ObjOk P w H h a o) (k : ∀ b u, (b = a \/ H b = some (.own a)) -> h.get? b = some u -> h'.get? b = some u)
 (ho:∀b,H b=some (.own a)->H' b=some (.own a)) (ht:∀b xs,H b=some (.tup xs)->H' b=some (.tup xs)) (hf:∀b o u,H b=some (.frz o u)->H' b=some (.frz o u):=by exact fun _ _ _ q=>q):ObjOk P w H' h' a o:=by
 induction o with
 | lst xs=>obtain ⟨z,its,n,r,e⟩:=x;exact ⟨z,its,n,r,k _ _ (.inl rfl) e⟩
 | tup xs=>obtain ⟨z,its,r,ob,e,c⟩:=x;exact ⟨z,its,r,ob,k _ _ (.inl rfl) e,c⟩
 | dK kvs=>obtain ⟨z,y,vs,r,ob,es,ep,e,c⟩:=x;exact ⟨z,y,vs,r,ob,es,ep,k _ _ (.inl rfl) e,c⟩
 | dT kvs=>
  obtain ⟨z,y,xs,r,ob,es,ep,e,c⟩:=x
  exact ⟨z,y,xs,Paired.mapP r fun p q z=>⟨z.1,ht _ _ z.2.1,z.2.2⟩,ob,es,ep,k _ _ (.inl rfl) e,c⟩
 | set S n=>obtain ⟨ob,es,ep,t,e,c⟩:=x;exact ⟨ob,es,ep,t,k _ _ (.inl rfl) e,c⟩
 | ins C dx fs=>
  obtain ⟨d,z,ne,e,mA,⟨od,es,ep,e2,c⟩,r⟩:=x
  exact ⟨ho _ d,z,ne,k _ _ (.inl rfl) e,mA,⟨od,es,ep,k _ _ (.inr d) e2,c⟩,r⟩
 | own y=>obtain ⟨ob,e⟩:=x;exact ⟨ob,k _ _ (.inl rfl) e⟩
 | xd fs=>obtain ⟨mA,⟨od,es,ep,e,c⟩,r⟩:=x;exact ⟨mA,⟨od,es,ep,k _ _ (.inl rfl) e,c⟩,r⟩
 | rng lo hi=>obtain ⟨t,u,v,e⟩:=x;exact ⟨t,u,v,k _ _ (.inl rfl) e⟩
 | frz ob u ih=>obtain ⟨e,q⟩:=x;exact ⟨k _ _ (.inl rfl) e,ih q⟩
 | tbl ps=>obtain ⟨qs,e,t,c⟩:=x;exact ⟨qs,k _ _ (.inl rfl) e,t,fun pos v q=>let ⟨c',oc,vs,y,e1,e2,e3⟩:=c pos v q;⟨c',oc,vs,y,e1,hf _ _ _ e2,e3⟩⟩
 | met f y=>
  have e:h.get? a=some (PySem.W.methodObj (.ref f) (.ref y)):=x;show h'.get? a=some (PySem.W.methodObj (.ref f) (.ref y))
  exact k a _ (.inl rfl) e
 | ext φ=>obtain ⟨p,⟨o,e⟩,st⟩:=x;exact ⟨st _ _ p fun o q=>k _ _ (.inl rfl) q,⟨o,k _ _ (.inl rfl) e⟩,st⟩
theorem HOk.lt(x:HOk P w H h)(e:H a=some o):a<h.objs.size:=(x a o e).lt
theorem HOk.fresh(x:HOk P w H h)(e:h.objs.size<=a):H a=none:=by
 cases q:H a with
 | none=>rfl
 | some u=>exact absurd (Nat.lt_of_lt_of_le (x.lt q) e) (Nat.lt_irrefl _)
theorem HOk.kept(x:HOk P w H h)(k:∀b u,h.get? b=some u->h'.get? b=some u):HOk P w H h':=fun a o e=>
 (x a o e).stay (fun b u _ q=>k b u q) (fun _ q=>q) fun _ _ q=>q
theorem HOk.laid(x:HOk P w H h)(k:∀b u,h.get? b=some u->h'.get? b=some u)(hp:h.objs.size<=a)(new:ObjOk P w (upd H a o) h' a o):HOk P w (upd H a o) h':=fun b u e=>by
 have hn:=x.fresh hp
 by_cases hb:b=a
 . subst hb;rw [upd_same] at e;cases e;exact new
 . rw [upd_ne hb] at e
   exact (x b u e).stay (fun c v _ q=>k c v q) (fun c q=>by rw [upd_ne (ne_of_none q hn)];exact q) (fun c xs q=>by rw [upd_ne (ne_of_none q hn)];exact q) fun c ob xs q=>by rw [upd_ne (ne_of_none q hn)];exact q
end
def Rd(H:Hp)(a:Addr)(u:HO):Prop:=H a=some u\/∃o,H a=some (.frz o u)
theorem Rd.of{H:Hp}{a:Addr}{u:HO}(h:H a=some u):Rd H a u:= .inl h
theorem Rd.ok{P:Program}{w:World}{H:Hp}{h:Heap}{a:Addr}{u:HO}(r:Rd H a u)(x:HOk P w H h):ObjOk P w H h a u:=by
 rcases r with r | ⟨o,r⟩
 . exact x a u r
 . obtain ⟨_,q⟩:=x a _ r;exact q
def Mut:Option HO->Prop
 | some (.lst _)=>True
 | some (.dK _)=>True
 | some (.dT _)=>True
 | some (.set _ _)=>True
 | some (.ins _ _ _)=>True
 | some (.ext _)=>True
 | _=>False
section
variable {P:Program} {w:World} {H:Hp} {h h':Heap} {x e:Addr} {o':HO}
theorem HOk.write (ok : HOk P w H h) (mu : Mut (H x)) (he : e = x \/ H e = some (.own x)) (k : ∀ b u, b ≠ e -> h.get? b = some u -> h'.get? b = some u) (heo : ∃ u, h'.get? e = some u)
 (new:ObjOk P w (upd H x o') h' x o'):HOk P w (upd H x o') h':=fun b u q=>by
 have nown:∀c y,H c=some (.own y)->c≠x:=fun c y r z=>by subst z;rw [r] at mu;exact mu
 have ntup:∀c xs,H c=some (.tup xs)->c≠x:=fun c xs r z=>by subst z;rw [r] at mu;exact mu
 by_cases hb:b=x
 . subst hb;rw [upd_same] at q;cases q;exact new
 . rw [upd_ne hb] at q
   by_cases hbe:b=e
   . have q' : H b = some (.own x) := by
      rcases he with z | z
      . exact absurd (hbe.trans z) hb
      . rw [hbe];exact z
     rw [q] at q';cases q'
     obtain ⟨v,hv⟩:=heo;exact ⟨v,by rw [hbe];exact hv⟩
   . refine (ok b u q).stay (fun c v hc r=>k c v ?_ r) (fun c r=>by rw [upd_ne (nown c b r)];exact r) (fun c xs r=>by rw [upd_ne (ntup c xs r)];exact r) fun c ob xs r=>by rw [upd_ne (fun z=>by subst z;rw [r] at mu;exact mu)];exact r
     rcases hc with rfl | hc
     . exact hbe
     . rintro rfl;rcases he with z | z
       . exact nown c b hc z
       . rw [hc] at z;cases z;exact hb rfl
end
structure Un (fs ex:List Addr) (H H':Hp) (h h':Heap):Prop where
 keep:∀b o,h.get? b=some o->H b=none->b ∉ fs->b ∉ ex->h'.get? b=some o
 slot:∀b o,h.get? b=some o->H b=none->b ∈ fs->b ∉ ex->∃sl,h'.get? b=some {o with slots:=sl}
 free:∀b o,h.get? b=some o->H b=none->b ∉ ex->H' b=none
 there:∀b o,h.get? b=some o->b ∉ ex->∃o',h'.get? b=some o'
 tups:∀b xs,H b=some (.tup xs)->H' b=some (.tup xs)
 frzs:∀b o u,H b=some (.frz o u)->H' b=some (.frz o u)
 tbls:∀b ps,H b=some (.tbl ps)->∃more,H' b=some (.tbl (ps++more))
section
variable {fs fs' ex ex':List Addr} {H H1 H2:Hp} {h h1 h2 h':Heap} {a x e:Addr} {o:HO}
theorem Un.any(u:Un fs ex H H1 h h1){b:Addr}{ob:Obj}(q:h.get? b=some ob)(n:H b=none)(hx:b ∉ ex):∃sl,h1.get? b=some {ob with slots:=sl}:=by
 by_cases hb:b ∈ fs
 . exact u.slot b ob q n hb hx
 . exact ⟨ob.slots,u.keep b ob q n hb hx⟩
theorem Un.trans(a:Un fs ex H H1 h h1)(b:Un fs ex H1 H2 h1 h2):Un fs ex H H2 h h2 where
 keep:=fun c ob q n hc hx=>b.keep c ob (a.keep c ob q n hc hx) (a.free c ob q n hx) hc hx
 slot:=fun c ob q n hc hx=>by
  obtain ⟨sl,e1⟩:=a.slot c ob q n hc hx;obtain ⟨sl',e2⟩:=b.slot c _ e1 (a.free c ob q n hx) hc hx;exact ⟨sl',e2⟩
 free:=fun c ob q n hx=>by
  obtain ⟨o',e1⟩:=a.there c ob q hx;exact b.free c o' e1 (a.free c ob q n hx) hx
 there:=fun c ob q hx=>by
  obtain ⟨o',e1⟩:=a.there c ob q hx;exact b.there c o' e1 hx
 tups:=fun c xs q=>b.tups c xs (a.tups c xs q)
 frzs:=fun c ob xs q=>b.frzs c ob xs (a.frzs c ob xs q)
 tbls:=fun c ps q=>by
  obtain ⟨m1,e1⟩:=a.tbls c ps q;obtain ⟨m2,e2⟩:=b.tbls c _ e1;exact ⟨m1++m2,by rw [e2,Array.append_assoc]⟩
theorem Un.kept(k:∀b u,h.get? b=some u->h'.get? b=some u):Un fs ex H H h h' :=
 ⟨fun b ob q _ _ _=>k b ob q,fun b ob q _ _ _=>⟨ob.slots,k b ob q⟩,fun _ _ _ n _=>n,fun b ob q _=>⟨ob,k b ob q⟩,fun _ _ q=>q,fun _ _ _ q=>q,fun _ ps q=>⟨#[],by rw [q];simp⟩⟩
theorem Un.refl:Un fs ex H H h h:=Un.kept fun _ _ q=>q
theorem Un.laid(k:∀b u,h.get? b=some u->h'.get? b=some u)(hp:h.objs.size<=a)(hn:H a=none):Un fs ex H (upd H a o) h h' where
 keep:=fun b u q _ _ _=>k b u q
 slot:=fun b u q _ _ _=>⟨u.slots,k b u q⟩
 free:=fun b u q n _=>by rw [upd_ne (Nat.ne_of_lt (Nat.lt_of_lt_of_le (Heap.lt_size q) hp))];exact n
 there:=fun b u q _=>⟨u,k b u q⟩
 tups:=fun b xs q=>by rw [upd_ne (ne_of_none q hn)];exact q
 frzs:=fun b u xs q=>by rw [upd_ne (ne_of_none q hn)];exact q
 tbls:=fun b ps q=>⟨#[],by rw [upd_ne (ne_of_none q hn),q];simp⟩
theorem Un.write(mu:Mut (H x))(he:e=x\/H e=some (.own x))(k:∀b u,b≠e->h.get? b=some u->h'.get? b=some u)(heo:∃u,h'.get? e=some u):Un fs ex H (upd H x o) h h':=by
 have hx:∀b,H b=none->b≠x:=fun b n z=>by subst z;rw [n] at mu;exact mu
 have hb:∀b,H b=none->b≠e:=fun b n z=>by
  subst z;rcases he with r | r
  . exact hx b n r
  . rw [n] at r;cases r
 have hm:∀b u,H b=some u->¬Mut (some u)->b≠x:=fun b u q nm z=>by subst z;rw [q] at mu;exact nm mu
 refine ⟨fun b u q n _ _=>k b u (hb b n) q,fun b u q n _ _=>⟨u.slots,k b u (hb b n) q⟩,fun b u q n _=>by rw [upd_ne (hx b n)];exact n,fun b u q _=> ?_,
  fun b xs q=>by rw [upd_ne (hm b _ q fun z=>z)];exact q,fun b u xs q=>by rw [upd_ne (hm b _ q fun z=>z)];exact q,fun b ps q=>⟨#[],by rw [upd_ne (hm b _ q fun z=>z),q];simp⟩⟩
 by_cases hbe:b=e
 . subst hbe;exact heo
 . exact ⟨u,k b u hbe q⟩
theorem Un.mono(u:Un fs ex H H1 h h1)(hs:∀b ∈ fs,b ∈ fs')(hx:∀b ∈ ex,b ∈ ex'):Un fs' ex' H H1 h h1:=
 ⟨fun b ob q n hb he=>u.keep b ob q n (fun z=>hb (hs b z)) fun z=>he (hx b z),fun _ _ q n _ he=>u.any q n fun z=>he (hx _ z),fun b ob q n he=>u.free b ob q n fun z=>he (hx b z),fun b ob q he=>u.there b ob q fun z=>he (hx b z),u.tups,u.frzs,u.tbls⟩
end
def trk(h:Heap)(H:Hp):List Addr:=(List.range h.objs.size).filter fun a=>(H a).isSome
def hidT(h:Heap)(H:Hp):Heap:=PySem.W.hideAll h (trk h H)
theorem hidT_size(h:Heap)(H:Hp):(hidT h H).objs.size=h.objs.size:=PySem.W.hideAll_size _ _
theorem hidT_get{h:Heap}{H:Hp}{b:Addr}{o:Obj}(e:h.get? b=some o)(n:H b=none):(hidT h H).get? b=some o:=
 PySem.W.hideAll_get _ e fun hm=>by
  have q:(H b).isSome=true:=(List.mem_filter.mp hm).2;rw [n] at q;simp at q
theorem of_hidT{h:Heap}{H:Hp}{b:Addr}{o:Obj}(e:(hidT h H).get? b=some o):h.get? b=some o/\H b=none:=by
 have e':h.get? b=some o:=PySem.W.of_hideAll (trk h H) e;refine ⟨e',?_⟩
 cases q:H b with
 | none=>rfl
 | some x=>
  have hm:b ∈ trk h H:=List.mem_filter.mpr ⟨List.mem_range.mpr (Heap.lt_size e'),by simp [q]⟩;have z:(hidT h H).get? b=none:=PySem.W.hideAll_none (trk h H) hm;rw [z] at e;cases e
def allNews(g h:Heap)(L:Addr):List (Addr×Obj):=(List.range h.objs.size).filterMap fun a=>if a=L\/(g.get? a).isSome=true then none else (h.get? a).map fun o=>(a,o)
def rest(g h:Heap)(L d:Addr):List (Addr×Obj):=(allNews g h L).filter fun p=>decide (p.1≠d)
end L2
namespace L2
open PySem PySem.Spec PyProof.Rows
def tabsOf(K:PySem.W.Frag):List Addr:=match K.getLast? with
 | some (_,⟨.type "tables",_, .fields vs,_⟩)=>vs.toList.filterMap fun v=>match v with
  | .ref a=>some a
  | _=>none
 | _=> []
structure Mod (K:PySem.W.Frag) (mg:Str->Option Value) (base:Heap):Prop where
 kin:K.In base
 glob:base.Ns mainGlobals mg
 blt:∃mb,base.Ns builtinsNs mb/\∀x:Str,x ≠ "__name__" -> mb x=bootBuiltins x
 nolimit:base.NoLimit
structure Cx where
 prog:Program
 w:World
 K:PySem.W.Frag
 mg:Str->Option Value
 base:Heap
 A:Around
 N:List Str
 s₀:Shared
 H₀:Hp
 env:Env
 outer:List Env
 stack:List Env
 ex:List Addr
 fn:Str->Bool
 calm:Bool
 pn:List (Addr×Obj)
 xe:Value->Shared->Prop
def frs(l:List Env):List Addr:=l.filterMap (·.frame)
abbrev Cx.fs (X:Cx):List Addr:=frs X.outer
def Vis(sc:Scope)(x:Str):Prop:=sc.names.lookup x=some .local\/sc.names.lookup x=some .cell\/sc.names.lookup x=some .free
def Loc(sc:Scope)(x:Str):Prop:=sc.names.lookup x=some .local\/sc.names.lookup x=some .cell
def Look(env:Env)(h:Heap)(m:Str->Option Value)(x:Str)(u:Value):Prop:=
 (env.kindOf x=some .local/\m x=some u)\/((env.kindOf x=some .cell\/env.kindOf x=some .free)/\∃c,env.cells.lookup x=some c/\h.IsCell c (some u))
structure Cx.Ok (X:Cx):Prop where
 mod:Mod X.K X.mg X.base
 kind:X.env.scope.kind = .function
 glob:X.env.globals=mainGlobals
 blt:X.env.builtins=builtinsNs
 above:X.s₀.heap.objs.size<=X.env.locals
 inj:∀x y c,X.env.cells.lookup x=some c->X.env.cells.lookup y=some c->x=y
 has:∀x,(X.env.kindOf x=some .cell\/X.env.kindOf x=some .free)->∃c,X.env.cells.lookup x=some c
 cab:∀x c,X.fn x=true->X.env.cells.lookup x=some c->X.s₀.heap.objs.size<=c
 hd:X.calm=true->X.A.handled=none
 frames:X.A.frames=some X.stack
 stk:X.stack=X.outer\/(X.stack=X.env::X.outer/\X.env.frame=some X.env.locals)
 exf:∀b ∈ X.ex,b≠X.env.locals/\∀x c,X.env.cells.lookup x=some c->c≠b
 bs:∀b o,X.base.get? b=some o->X.s₀.heap.get? b=some o/\X.H₀ b=none
 bsz:X.base.objs.size<=X.s₀.heap.objs.size
 noex:∀b o,X.base.get? b=some o->b ∉ X.ex
 exfs:∀b ∈ X.ex,b ∉ X.fs
 funs:X.s₀.heap.FunFrames X.base X.outer
 frf:∀b ∈ X.fs,X.H₀ b=none
 tb:∀p ∈ tabsOf X.K,∃ps,X.H₀ p=some (.tbl ps)
structure Inv (X:Cx) (pins:List (Addr×Obj)) (σ:List (Option V)) (H:Hp) (s:Shared):Prop where
 ok:X.Ok
 os:s.os=X.s₀.os
 bare:AllBare s.gens
 base:Un X.fs X.ex X.H₀ H X.s₀.heap s.heap
 loc:∃m,s.heap.Ns X.env.locals m/\∀(i:Nat) (x:Str) (v:V),X.N[i]? = some x->σ[i]? = some (some v)->Vis X.env.scope x->∃u,RelV v u/\Look X.env s.heap m x u
 cell:∀x c,X.env.cells.lookup x=some c->∃v,s.heap.IsCell c v
 free:H X.env.locals=none
 freeC:∀x c,X.env.cells.lookup x=some c->H c=none
 pin:∀p ∈ X.pn++pins,s.heap.get? p.1=some p.2/\H p.1=none/\p.1≠X.env.locals/\p.1 ∉ X.fs/\∀v,p.2.data ≠ .cell v
 hok:HOk X.prog X.w H s.heap
 len:σ.length=X.N.length
section
variable {X:Cx} {pins:List (Addr×Obj)} {σ:List (Option V)} {H H':Hp} {s:Shared} {h':Heap}
theorem Cx.Ok.nofr(ok:X.Ok){b:Addr}{o:Obj}(e:X.base.get? b=some o):b ∉ X.fs:=fun hb=>by
 have:=(ok.funs.mem hb).1;rw [e] at this;cases this
theorem Inv.bs(I:Inv X pins σ H s):∀b o,X.base.get? b=some o->s.heap.get? b=some o/\H b=none:=fun b o e=>
 ⟨I.base.keep b o (I.ok.bs b o e).1 (I.ok.bs b o e).2 (I.ok.nofr e) (I.ok.noex b o e),I.base.free b o (I.ok.bs b o e).1 (I.ok.bs b o e).2 (I.ok.noex b o e)⟩
theorem Inv.bk(I:Inv X pins σ H s):∀b o,X.base.get? b=some o->s.heap.get? b=some o:=fun b o e=>(I.bs b o e).1
theorem Inv.tb(I:Inv X pins σ H s):∀p ∈ tabsOf X.K,∃ps,H p=some (.tbl ps):=fun p hp=>by
 obtain ⟨ps,e⟩:=I.ok.tb p hp;obtain ⟨m,e2⟩:=I.base.tbls p ps e;exact ⟨_,e2⟩
theorem Inv.mod(I:Inv X pins σ H s):Mod X.K X.mg X.base:=I.ok.mod
theorem Inv.kIn(I:Inv X pins σ H s):X.K.In s.heap:=I.ok.mod.kin.keeps I.bk
theorem Inv.nolimit(I:Inv X pins σ H s):s.heap.NoLimit:=I.ok.mod.nolimit.keeps I.bk
theorem Inv.fr(I:Inv X pins σ H s):∃m,Fr X.base X.env.locals s.heap m:=
 let ⟨m,hn,_⟩:=I.loc
 ⟨m,hn,I.bk,Nat.le_trans I.ok.bsz I.ok.above⟩
theorem Inv.lt(I:Inv X pins σ H s):X.env.locals<s.heap.objs.size:=let ⟨_,hn,_⟩:=I.loc;hn.lt
theorem Inv.sz(I:Inv X pins σ H s):X.s₀.heap.objs.size<=s.heap.objs.size:=Nat.le_trans I.ok.above (Nat.le_of_lt I.lt)
theorem Inv.nofs(I:Inv X pins σ H s){a:Addr}(h:s.heap.objs.size<=a):a ∉ X.fs:=fun hb=>by
 obtain ⟨_,o,ho,_⟩:=I.ok.funs.mem hb;exact absurd (Nat.lt_of_lt_of_le (Heap.lt_size ho) (Nat.le_trans I.sz h)) (Nat.lt_irrefl _)
theorem Inv.cne(I:Inv X pins σ H s):∀x c,X.env.cells.lookup x=some c->c≠X.env.locals:=fun x c e z=>by
 obtain ⟨v,o,ho,hd⟩:=I.cell x c e;obtain ⟨m,⟨o',es,ep,ho',hd',_⟩,_⟩:=I.loc;rw [z,ho'] at ho;cases ho;rw [hd'] at hd;cases hd
theorem Inv.funs(I:Inv X pins σ H s):s.heap.FunFrames X.base X.outer:=by
 have all:∀(l:List Env),(∀b ∈ frs l,b ∈ X.fs)->X.s₀.heap.FunFrames X.base l->s.heap.FunFrames X.base l:=by
  intro l
  induction l with
  | nil=>intro _ _;trivial
  | cons env r ih=>
   intro hs hl;obtain ⟨hk,⟨L,o,hf,hn,ho,hd⟩,hr⟩:=hl;have hL:L ∈ X.fs:=hs L (by unfold frs;rw [List.filterMap_cons,hf];exact List.mem_cons_self);obtain ⟨sl,e⟩:=I.base.slot L o ho (I.ok.frf L hL) hL fun z=>I.ok.exfs L z hL;exact ⟨hk,⟨L,_,hf,hn,e,hd⟩,ih (fun b hb=>hs b (by unfold frs;rw [List.filterMap_cons,hf];exact List.mem_cons_of_mem _ hb)) hr⟩
 exact all X.outer (fun _ hb=>hb) I.ok.funs
theorem Inv.stack(I:Inv X pins σ H s):s.heap.FunFrames X.base X.stack:=by
 rcases I.ok.stk with e | ⟨e,hf⟩
 . rw [e];exact I.funs
 . rw [e];obtain ⟨m,hn,_⟩:=I.loc;refine .cons (by rw [I.ok.kind];decide) hf hn ?_ I.funs;exact Heap.get?_none_of_le (Nat.le_trans I.ok.bsz I.ok.above)
theorem Inv.stkSub(I:Inv X pins σ H s):∀b ∈ frs X.stack,b ∈ X.env.locals::X.fs:=fun b hb=>by
 rcases I.ok.stk with e | ⟨e,hf⟩
 . rw [e] at hb;exact List.mem_cons_of_mem _ hb
 . rw [e] at hb
   unfold frs at hb
   rw [List.filterMap_cons,hf] at hb
   exact hb
theorem Inv.stkFree(I:Inv X pins σ H s):∀b ∈ frs X.stack,H b=none:=fun b hb=>by
 rcases List.mem_cons.mp (I.stkSub b hb) with e | hb
 . rw [e];exact I.free
 . obtain ⟨_,o,ho,_⟩:=I.ok.funs.mem hb;exact I.base.free b o ho (I.ok.frf b hb) fun z=>I.ok.exfs b z hb
theorem Inv.step {g' : Array GenState} {t' : Nat} {d' : Drawn} {ch : List Addr} (I : Inv X pins σ H s)
 (hch:∀b ∈ ch,(b ∈ X.ex\/X.s₀.heap.objs.size<=b)/\b≠X.env.locals/\(∀x c,X.env.cells.lookup x=some c->c≠b)/\∀p ∈ X.pn++pins,p.1≠b)
 (keep:∀b o,b≠X.env.locals->b ∉ X.fs->b ∉ ch->s.heap.get? b=some o->H b=none->h'.get? b=some o)
 (slot:∀b o,b≠X.env.locals->b ∈ X.fs->b ∉ ch->s.heap.get? b=some o->H b=none->∃sl,h'.get? b=some {o with slots:=sl}) (free:∀b o,b ∉ ch->s.heap.get? b=some o->H b=none->H' b=none)
 (there:∀b o,b ∉ ch->s.heap.get? b=some o->∃o',h'.get? b=some o')
 (tups:∀b xs,H b=some (.tup xs)->H' b=some (.tup xs)) (frzs:∀b o u,H b=some (.frz o u)->H' b=some (.frz o u)) (tbls:∀b ps,H b=some (.tbl ps)->∃more,H' b=some (.tbl (ps++more)))
 (ns:∀m,s.heap.Ns X.env.locals m->h'.Ns X.env.locals m) (hok:HOk X.prog X.w H' h') (hg:AllBare g') :
 Inv X pins σ H' {s with heap:=h',gens:=g',drawn:=d',toks:=t' }:=by
 have neL:∀b o,X.s₀.heap.get? b=some o->b≠X.env.locals:=fun b o e=>Nat.ne_of_lt (Nat.lt_of_lt_of_le (Heap.lt_size e) I.ok.above)
 have neC:∀b o,X.s₀.heap.get? b=some o->b ∉ X.ex->b ∉ ch:=fun b o e hx hb=>by
  rcases (hch b hb).1 with z | z
  . exact hx z
  . exact absurd (Nat.lt_of_lt_of_le (Heap.lt_size e) z) (Nat.lt_irrefl _)
 have cellK:∀x c,X.env.cells.lookup x=some c->∀v,s.heap.IsCell c v->h'.IsCell c v:=fun x c e v ⟨o,ho,hd⟩=>by
  have nch:c ∉ ch:=fun z=>(hch c z).2.2.1 x c e rfl
  by_cases hc:c ∈ X.fs
  . obtain ⟨sl,q⟩:=slot c o (I.cne x c e) hc nch ho (I.freeC x c e);exact ⟨_,q,hd⟩
  . exact ⟨o,keep c o (I.cne x c e) hc nch ho (I.freeC x c e),hd⟩
 refine ⟨I.ok,I.os,hg,⟨fun b o e n hb hx=> ?_,fun b o e n hb hx=> ?_,fun b o e n hx=> ?_,fun b o e hx=> ?_,fun b xs e=>tups b xs (I.base.tups b xs e),fun b o xs e=>frzs b o xs (I.base.frzs b o xs e),fun b ps e=> ?_⟩,?_,fun x c e=> ?_,?_,fun x c e=> ?_,fun p hp=> ?_,hok,I.len⟩
 . exact keep b o (neL b o e) hb (neC b o e hx) (I.base.keep b o e n hb hx) (I.base.free b o e n hx)
 . obtain ⟨sl,e1⟩:=I.base.slot b o e n hb hx;obtain ⟨sl',e2⟩:=slot b _ (neL b o e) hb (neC b o e hx) e1 (I.base.free b o e n hx);exact ⟨sl',e2⟩
 . obtain ⟨o',e1⟩:=I.base.there b o e hx;exact free b o' (neC b o e hx) e1 (I.base.free b o e n hx)
 . obtain ⟨o',e1⟩:=I.base.there b o e hx;exact there b o' (neC b o e hx) e1
 . obtain ⟨m1,e1⟩:=I.base.tbls b ps e;obtain ⟨m2,e2⟩:=tbls b _ e1;exact ⟨m1++m2,by rw [e2,Array.append_assoc]⟩
 . obtain ⟨m,hn,hl⟩:=I.loc;refine ⟨m,ns m hn,fun i x v e1 e2 e3=> ?_⟩;obtain ⟨u,r,l⟩:=hl i x v e1 e2 e3;refine ⟨u,r,?_⟩;rcases l with l | ⟨k,c,e,z⟩
   . exact .inl l
   . exact .inr ⟨k,c,e,cellK x c e _ z⟩
 . obtain ⟨v,z⟩:=I.cell x c e;exact ⟨v,cellK x c e v z⟩
 . obtain ⟨m,⟨o,_,_,ho,_⟩,_⟩:=I.loc;exact free _ o (fun z=>(hch _ z).2.1 rfl) ho I.free
 . obtain ⟨v,o,ho,hd⟩:=I.cell x c e;exact free c o (fun z=>(hch c z).2.2.1 x c e rfl) ho (I.freeC x c e)
 . obtain ⟨e,n,ne,nf,d⟩:=I.pin p hp;have nch:p.1 ∉ ch:=fun z=>(hch p.1 z).2.2.2 p hp rfl;exact ⟨keep p.1 p.2 ne nf nch e n,free p.1 p.2 nch e n,ne,nf,d⟩
theorem Inv.un{t':Nat}(I:Inv X pins σ H s)(u:Un X.fs [] H H' s.heap h')(hok:HOk X.prog X.w H' h'):Inv X pins σ H' {s with heap:=h',toks:=t' }:=by
 obtain ⟨m,⟨o,es,ep,ho,r⟩,_⟩:=id I.loc;obtain ⟨sl,hL⟩:=u.any ho I.free (by simp)
 exact I.step (g':=s.gens) (d':=s.drawn) (ch:= []) (fun _ z=>nomatch z) (fun b o _ hb _ e n=>u.keep b o e n hb (by simp)) (fun b o _ hb _ e n=>u.slot b o e n hb (by simp)) (fun b o _ e n=>u.free b o e n (by simp)) (fun b o _ e=>u.there b o e (by simp)) u.tups u.frzs u.tbls (fun m' hm=>by
  obtain ⟨o',es',ep',ho',r'⟩:=hm;rw [ho] at ho';cases ho'
  exact ⟨_,es',ep',hL,r'⟩) hok I.bare
theorem Inv.call {g' : Array GenState} {t' : Nat} {d' : Drawn} {ch : List Addr} (I : Inv X pins σ H s) (u : Un (frs X.stack) ch H H' s.heap h') (hok : HOk X.prog X.w H' h') (hg : AllBare g')
 (hch:∀b ∈ ch,(b ∈ X.ex\/X.s₀.heap.objs.size<=b)/\b≠X.env.locals/\(∀x c,X.env.cells.lookup x=some c->c≠b)/\∀p ∈ X.pn++pins,p.1≠b) :
 Inv X pins σ H' {s with heap:=h',gens:=g',drawn:=d',toks:=t' }:=by
 obtain ⟨m,⟨o,es,ep,ho,r⟩,_⟩:=id I.loc;obtain ⟨sl,hL⟩:=u.any ho I.free fun z=>(hch _ z).2.1 rfl
 exact I.step (ch:=ch) hch (fun b o hL hb hc e n=>u.keep b o e n (fun z=>(List.mem_cons.mp (I.stkSub b z)).elim hL hb) hc) (fun b o _ _ hc e n=>u.any e n hc) (fun b o hc e n=>u.free b o e n hc) (fun b o hc e=>u.there b o e hc) u.tups u.frzs u.tbls (fun m' hm=>by
  obtain ⟨o',es',ep',ho',r'⟩:=hm;rw [ho] at ho';cases ho'
  exact ⟨_,es',ep',hL,r'⟩) hok hg
theorem Inv.turned {t' : Nat} {it : Addr} (I : Inv X pins σ H s) (k : ∀ b o, b ≠ it -> s.heap.get? b = some o -> h'.get? b = some o) (hn : H it = none) (hL : it ≠ X.env.locals)
 (h1:it ∈ X.ex\/X.s₀.heap.objs.size<=it) (h2:∀x c,X.env.cells.lookup x=some c->c≠it) (h3:∀p ∈ X.pn++pins,p.1≠it):Inv X pins σ H {s with heap:=h',toks:=t' }:=by
 have nit:∀b u,H b=some u->b≠it:=fun b u e z=>by rw [z,hn] at e;cases e
 refine I.step (g':=s.gens) (d':=s.drawn) (ch:= [it]) (fun b hb=> ?_) (fun b o _ _ hc e _=>k b o (fun z=>hc (by simp [z])) e) (fun b o _ _ hc e _=>⟨o.slots,k b o (fun z=>hc (by simp [z])) e⟩) (fun _ _ _ _ n=>n)
  (fun b o hc e=>⟨o,k b o (fun z=>hc (by simp [z])) e⟩) (fun _ _ e=>e) (fun _ _ _ e=>e) (fun b ps e=>⟨#[],by rw [e];simp⟩) (fun m hm=> ?_) (fun b u e=> ?_) I.bare
 . have e:b=it:=by simpa using hb
   subst e;exact ⟨h1,hL,h2,h3⟩
 . obtain ⟨o,es,ep,ho,r⟩:=hm;exact ⟨o,es,ep,k _ o (Ne.symm hL) ho,r⟩
 . refine (I.hok b u e).stay (fun c v hc q=>k c v ?_ q) (fun _ q=>q) fun _ _ q=>q;rcases hc with z | z
   . rw [z];exact nit b u e
   . exact nit c _ z
theorem Inv.tok(I:Inv X pins σ H s)(t:Nat):Inv X pins σ H {s with toks:=t}:=I.un (h':=s.heap) (t':=t) Un.refl I.hok
theorem Inv.kept{t':Nat}(I:Inv X pins σ H s)(k:∀b u,s.heap.get? b=some u->h'.get? b=some u):Inv X pins σ H {s with heap:=h',toks:=t' }:=I.un (Un.kept k) (I.hok.kept k)
theorem Inv.laid {a : Addr} {o : HO} {t' : Nat} (I : Inv X pins σ H s) (k : ∀ b u, s.heap.get? b = some u -> h'.get? b = some u) (hp : s.heap.objs.size <= a) (new : ObjOk X.prog X.w (upd H a o) h' a o) :
 Inv X pins σ (upd H a o) {s with heap:=h',toks:=t' }:=I.un (Un.laid k hp (I.hok.fresh hp)) (I.hok.laid k hp new)
theorem Inv.write {x e : Addr} {o : HO} {t' : Nat} (I : Inv X pins σ H s) (mu : Mut (H x)) (he : e = x \/ H e = some (.own x)) (k : ∀ b u, b ≠ e -> s.heap.get? b = some u -> h'.get? b = some u) (heo : ∃ u, h'.get? e = some u)
 (new:ObjOk X.prog X.w (upd H x o) h' x o):Inv X pins σ (upd H x o) {s with heap:=h',toks:=t' }:=I.un (Un.write mu he k heo) (I.hok.write mu he k heo new)
theorem Inv.weak{σ':List (Option V)}(I:Inv X pins σ H s)(hl:σ'.length=σ.length)(w:∀(i:Nat) v,σ'[i]? = some (some v)->σ[i]? = some (some v)):Inv X pins σ' H s:=
 ⟨I.ok,I.os,I.bare,I.base,let ⟨m,hn,hl'⟩:=I.loc;⟨m,hn,fun i x v e1 e2 e3=>hl' i x v e1 (w i v e2) e3⟩,I.cell,I.free,I.freeC,I.pin,I.hok,hl.trans I.len⟩
theorem Inv.pins_of{pins':List (Addr×Obj)}(I:Inv X pins σ H s)(h:∀p ∈ pins',s.heap.get? p.1=some p.2/\H p.1=none/\p.1≠X.env.locals/\p.1 ∉ X.fs/\∀v,p.2.data ≠ .cell v):Inv X pins' σ H s:=
 ⟨I.ok,I.os,I.bare,I.base,I.loc,I.cell,I.free,I.freeC,fun p hp=>(List.mem_append.mp hp).elim (fun z=>I.pin p (List.mem_append_left _ z)) (h p),I.hok,I.len⟩
theorem nodup_ix{N:List Str}(hN:N.Nodup){i j:Nat}{x:Str}(a:N[i]? = some x)(b:N[j]? = some x):i=j:=by
 obtain ⟨h1,e1⟩:=List.getElem?_eq_some_iff.mp a;obtain ⟨h2,e2⟩:=List.getElem?_eq_some_iff.mp b;exact (List.getElem_inj hN).mp (e1.trans e2.symm)
theorem store_ok2 {M : Model} {A : Around} {E : Value -> Shared -> Prop} {i : Nat} {x : Str} {v : V} {u : Value} {Q : Unit -> Shared -> Prop} (I : Inv X pins σ H s) (hN : X.N.Nodup) (hi : X.N[i]? = some x) (hx : Loc X.env.scope x) (r : RelV v u)
 (h:∀s',Inv X pins (σ.set i (some v)) H s'->(∃a,Heap.SameBut a s.heap s'.heap/\(a=X.env.locals\/X.env.cells.lookup x=some a))->Q () s') (hf:X.fn x=true\/X.env.scope.names.lookup x=some .local:=by first | exact .inl rfl | exact .inr rfl | assumption):wpAny M A (storeName X.env x u) Q E s:=by
 obtain ⟨m,hn,hl⟩:=id I.loc;have hcls:(X.env.scope.kind == .class || (X.env.scope.kind == .module && X.env.locals != X.env.globals))=false:=by rw [I.ok.kind];rfl
 have hiσ:i<σ.length:=by rw [I.len];exact (List.getElem?_eq_some_iff.mp hi).1
 have cne:=I.cne
 have tracked:∀ {a:Addr} {h':Heap},(∃o,s.heap.get? a=some o/\H a=none)->Heap.SameBut a s.heap h'->HOk X.prog X.w H h':=fun {a h'} ha hs b ob e=>by
  obtain ⟨_,_,hfree⟩:=ha;refine (I.hok b ob e).stay (fun c w' hc q=>(hs.2 c ?_).trans q) (fun _ q=>q) fun _ _ q=>q;rintro rfl;rcases hc with rfl | hc
  . rw [hfree] at e;cases e
  . rw [hfree] at hc;cases hc
 rcases hx with hk | hk
 . refine wpAny_storeName_local hk hn (fun h' hn' hs=> ?_) hcls;obtain ⟨oL,_,_,hoL,_⟩:=id hn;refine h _ ⟨I.ok,I.os,I.bare,⟨fun b o e n hb hx=> ?_,fun b o e n hb hx=> ?_,I.base.free,fun b o e hx=> ?_,I.base.tups,I.base.frzs,I.base.tbls⟩,⟨_,hn',fun j y v' e1 e2 e3=> ?_⟩,fun y c e=> ?_,I.free,I.freeC,fun p hp=> ?_,tracked ⟨oL,hoL,I.free⟩ hs,by simpa using I.len⟩ ⟨_,hs, .inl rfl⟩
   . exact (hs.2 b (Nat.ne_of_lt (Nat.lt_of_lt_of_le (Heap.lt_size e) I.ok.above))).trans (I.base.keep b o e n hb hx)
   . obtain ⟨sl,e1⟩:=I.base.slot b o e n hb hx;exact ⟨sl,(hs.2 b (Nat.ne_of_lt (Nat.lt_of_lt_of_le (Heap.lt_size e) I.ok.above))).trans e1⟩
   . obtain ⟨o',e1⟩:=I.base.there b o e hx;exact ⟨o',(hs.2 b (Nat.ne_of_lt (Nat.lt_of_lt_of_le (Heap.lt_size e) I.ok.above))).trans e1⟩
   . by_cases hj:j=i
     . subst hj;rw [hi] at e1;cases e1
       rw [List.getElem?_set_self hiσ] at e2
       cases e2
       exact ⟨u,r, .inl ⟨hk,by simp⟩⟩
     . rw [List.getElem?_set_ne (Ne.symm hj)] at e2
       obtain ⟨u',r',q⟩:=hl j y v' e1 e2 e3;refine ⟨u',r',?_⟩;rcases q with ⟨k,e⟩ | ⟨k,c,e,z⟩
       . refine .inl ⟨k,?_⟩;have:y≠x:=fun e=>hj (nodup_ix hN e1 (e ▸ hi));simp [this,e]
       . exact .inr ⟨k,c,e,z.sameBut hs (cne y c e)⟩
   . obtain ⟨w',z⟩:=I.cell y c e;exact ⟨w',z.sameBut hs (cne y c e)⟩
   . obtain ⟨e,n,ne,nf,d⟩:=I.pin p hp;exact ⟨(hs.2 p.1 ne).trans e,n,ne,nf,d⟩
 . have hfn : X.fn x = true := by
    rcases hf with z | z
    . exact z
    . rw [z] at hk;cases hk
   obtain ⟨c,hc⟩:=I.ok.has x (.inl hk);obtain ⟨w',z⟩:=I.cell x c hc;refine wpAny_storeName_cell I.ok.kind hk hc z (fun h' hc' hs=> ?_);obtain ⟨oc,hoc,hocd⟩:=id z;refine h {s with heap:=h' } ⟨I.ok,I.os,I.bare,⟨fun b o e n hb hx=> ?_,fun b o e n hb hx=> ?_,I.base.free,fun b o e hx=> ?_,I.base.tups,I.base.frzs,I.base.tbls⟩,⟨m,hn.sameBut hs (Ne.symm (cne x c hc)),fun j y v' e1 e2 e3=> ?_⟩,fun y c' e=> ?_,I.free,I.freeC,fun p hp=> ?_,tracked ⟨oc,hoc,I.freeC x c hc⟩ hs,by simpa using I.len⟩ ⟨c,hs, .inr hc⟩
   . exact (hs.2 b (Nat.ne_of_lt (Nat.lt_of_lt_of_le (Heap.lt_size e) (I.ok.cab x c hfn hc)))).trans (I.base.keep b o e n hb hx)
   . obtain ⟨sl,e1⟩:=I.base.slot b o e n hb hx;exact ⟨sl,(hs.2 b (Nat.ne_of_lt (Nat.lt_of_lt_of_le (Heap.lt_size e) (I.ok.cab x c hfn hc)))).trans e1⟩
   . obtain ⟨o',e1⟩:=I.base.there b o e hx;exact ⟨o',(hs.2 b (Nat.ne_of_lt (Nat.lt_of_lt_of_le (Heap.lt_size e) (I.ok.cab x c hfn hc)))).trans e1⟩
   . by_cases hj:j=i
     . subst hj;rw [hi] at e1;cases e1
       rw [List.getElem?_set_self hiσ] at e2
       cases e2
       exact ⟨u,r, .inr ⟨.inl hk,c,hc,hc'⟩⟩
     . rw [List.getElem?_set_ne (Ne.symm hj)] at e2
       obtain ⟨u',r',q⟩:=hl j y v' e1 e2 e3;refine ⟨u',r',?_⟩;rcases q with q | ⟨k,c',e,z'⟩
       . exact .inl q
       . refine .inr ⟨k,c',e,z'.sameBut hs ?_⟩;rintro rfl;exact hj (nodup_ix hN e1 (I.ok.inj _ _ _ e hc ▸ hi))
   . by_cases hcc:c'=c
     . subst hcc;exact ⟨_,hc'⟩
     . obtain ⟨w2,z2⟩:=I.cell y c' e;exact ⟨w2,z2.sameBut hs hcc⟩
   . obtain ⟨e,n,ne,nf,d⟩:=I.pin p hp;refine ⟨(hs.2 p.1 ?_).trans e,n,ne,nf,d⟩;intro q;rw [q,hoc] at e
     have q':oc=p.2:=Option.some.inj e;exact d w' (by rw [<-q'];exact hocd)
theorem store_ok {M : Model} {A : Around} {E : Value -> Shared -> Prop} {i : Nat} {x : Str} {v : V} {u : Value} {Q : Unit -> Shared -> Prop} (I : Inv X pins σ H s) (hN : X.N.Nodup) (hi : X.N[i]? = some x) (hx : Loc X.env.scope x) (r : RelV v u)
 (h:∀s',Inv X pins (σ.set i (some v)) H s'->Q () s') (hf:X.fn x=true\/X.env.scope.names.lookup x=some .local:=by first | exact .inl rfl | exact .inr rfl | assumption):wpAny M A (storeName X.env x u) Q E s:=
 store_ok2 I hN hi hx r (fun s' I' _=>h s' I') hf
theorem Inv.call' {s' : Shared} {ch : List Addr} (I : Inv X pins σ H s) (ho : s'.os = s.os) (u : Un (frs X.stack) ch H H' s.heap s'.heap) (hok : HOk X.prog X.w H' s'.heap) (hg : AllBare s'.gens)
 (hch:∀b ∈ ch,(b ∈ X.ex\/X.s₀.heap.objs.size<=b)/\b≠X.env.locals/\(∀x c,X.env.cells.lookup x=some c->c≠b)/\∀p ∈ X.pn++pins,p.1≠b):Inv X pins σ H' s':=by
 obtain ⟨h',g',d',t',o'⟩:=s';have e:o'=s.os:=ho;subst e;exact I.call (g':=g') (t':=t') (d':=d') u hok hg hch
end
abbrev XK:=Value->Option Addr->Hp->Prop
abbrev St:=List (Option V)
abbrev VK:=V->Hp->Prop
abbrev TE:=St->Hp->VK->Prop
abbrev TT:=St->Hp->(Bool->Hp->Prop)->Prop
abbrev TA:=St->Hp->(List V->Hp->Prop)->Prop
structure Ends where
 nx:St->Hp->Prop
 rt:VK
 bk:St->Hp->Prop:=fun _ _=>False
 ct:St->Hp->Prop:=fun _ _=>False
abbrev TS:=Ends->St->Hp->Prop
def EP(X:Cx)(pins:List (Addr×Obj))(σ:St)(Q:VK)(u:Value)(s':Shared):Prop:=∃v H',Inv X pins σ H' s'/\RelV v u/\Q v H'
def TP(X:Cx)(pins:List (Addr×Obj))(σ:St)(Q:Bool->Hp->Prop)(b:Bool)(s':Shared):Prop:=∃H',Inv X pins σ H' s'/\Q b H'
def AP(X:Cx)(pins:List (Addr×Obj))(σ:St)(Q:List V->Hp->Prop)(us:List Value)(s':Shared):Prop:=∃vs H',Inv X pins σ H' s'/\Vals vs us/\Q vs H'
def SP(X:Cx)(pins:List (Addr×Obj))(D:Ends)(f:Flow)(s':Shared):Prop:=
 match f with
 | .next=>∃σ' H',Inv X pins σ' H' s'/\D.nx σ' H'
 | .brk=>∃σ' H',Inv X pins σ' H' s'/\D.bk σ' H'
 | .cont=>∃σ' H',Inv X pins σ' H' s'/\D.ct σ' H'
 | .ret u=>∃v σ' H',Inv X pins σ' H' s'/\RelV v u/\D.rt v H'
def PE(X:Cx)(e:Expr)(t:TE):Prop:=
 ∀(pins:List (Addr×Obj)) (s:Shared) (σ:St) (H:Hp) (Q:VK),Inv X pins σ H s->t σ H Q->wpAny (model X.prog X.w) X.A (eval e X.env) (EP X pins σ Q) X.xe s
def PT(X:Cx)(e:Expr)(t:TT):Prop:=
 ∀(pins:List (Addr×Obj)) (s:Shared) (σ:St) (H:Hp) (Q:Bool->Hp->Prop),Inv X pins σ H s->t σ H Q->wpAny (model X.prog X.w) X.A (isTrue e X.env (eval e X.env)) (TP X pins σ Q) X.xe s
def PW(X:Cx)(e:Expr)(t:TT):Prop:=
 ∀(whole:Sem Value) (pins:List (Addr×Obj)) (s:Shared) (σ:St) (H:Hp) (Q:Bool->Hp->Prop),Inv X pins σ H s->t σ H Q->wpAny (model X.prog X.w) X.A (isTrue e X.env whole) (TP X pins σ Q) X.xe s
theorem PW.pt{X:Cx}{e:Expr}{t:TT}(h:PW X e t):PT X e t:=h _
def PA(X:Cx)(es:List Expr)(t:TA):Prop:=
 ∀(pos:Pos) (pins:List (Addr×Obj)) (s:Shared) (σ:St) (H:Hp) (Q:List V->Hp->Prop),Inv X pins σ H s->t σ H Q->wpAny (model X.prog X.w) X.A (spliced (backTo pos (starEach es X.env))) (AP X pins σ Q) X.xe s
def PS(X:Cx)(st:Stmt)(t:TS):Prop:=
 ∀(pins:List (Addr×Obj)) (s:Shared) (σ:St) (H:Hp) (D:Ends),Inv X pins σ H s->t D σ H->wpAny (model X.prog X.w) X.A (exec st X.env) (SP X pins D) X.xe s
def PSs(X:Cx)(st:List Stmt)(t:TS):Prop:=
 ∀(pins:List (Addr×Obj)) (s:Shared) (σ:St) (H:Hp) (D:Ends),Inv X pins σ H s->t D σ H->wpAny (model X.prog X.w) X.A (execs st X.env) (SP X pins D) X.xe s
theorem thn{α:Type}{t:Sem α}{Q Q':α->Shared->Prop}{M:Model}{A:Around}{E:Value->Shared->Prop}{s:Shared}(h:wpAny M A t Q E s)(hQ:∀a s,Q a s->Q' a s):wpAny M A t Q' E s:=wpAny_mono h hQ fun _ _ x=>x
end L2
namespace L2
open PySem PySem.Spec PyProof.Rows
section
variable {X:Cx}
theorem bin {a b : Expr} {ta tb : TE} (ha : PE X a ta) (hb : PE X b tb) {pins : List (Addr × Obj)} {s : Shared} {σ : St} {H : Hp} {R : V -> V -> Hp -> Prop} (I : Inv X pins σ H s) (h : ta σ H fun x H1 => tb σ H1 fun y H2 => R x y H2)
 {α:Type} {Q:α->Shared->Prop} {f:Value->Value->Sem α}
 (hf:∀v u s2 x y H2,Inv X pins σ H2 s2->RelV x v->RelV y u->R x y H2->wpAny (model X.prog X.w) X.A (f v u) Q X.xe s2) :
 wpAny (model X.prog X.w) X.A (eval a X.env) (fun v s₁=>wpAny (model X.prog X.w) X.A (eval b X.env) (fun u s₂=>wpAny (model X.prog X.w) X.A (f v u) Q X.xe s₂) X.xe s₁) X.xe s:=by
 refine thn (ha pins s σ H _ I h) fun v s1 ⟨x,H1,I1,r1,q1⟩ => ?_;refine thn (hb pins s1 σ H1 _ I1 q1) fun u s2 ⟨y,H2,I2,r2,q2⟩ => ?_;exact hf v u s2 x y H2 I2 r1 r2 q2
def tVar(i:Nat):TE:=fun σ H Q=>∃v,σ[i]? = some (some v)/\Q v H
def tC(v:V):TE:=fun _ H Q=>Q v H
theorem pe_var {i:Nat} {x:Str} {pos:Pos} (hN:X.N[i]? = some x) (hv:Vis X.env.scope x) (hd:(x==("__debug__" : Str))=false:=by decide) (hcd:(x==("__classdict__" : Str))=false:=by decide):PE X (.Name x pos) (tVar i):=by
 intro pins s σ H Q I h;obtain ⟨v,e,h⟩:=h;obtain ⟨m,hn,hl⟩:=I.loc;obtain ⟨u,r,l⟩:=hl i x v hN e hv;have fin:EP X pins σ Q u s:=⟨v,H,I,r,h⟩;rcases l with ⟨hk,hm⟩ | ⟨hk,c,hc,hcell⟩
 . exact wpAny_Name (wpAny_loadName_local I.ok.kind hk hn hm fin) hd
 . rcases hk with hk | hk
   . exact wpAny_Name (wpAny_loadName_cell I.ok.kind hk hc hcell fin) hd
   . exact wpAny_Name (wpAny_loadName_free I.ok.kind hk hc hcell fin hcd) hd
theorem pe_int{i j pos}:PE X (.Constant (.int i) j pos) (tC (.int i)):=fun _ _ _ H _ I h=>wpAny_Constant_int ⟨.int i,H,I.tok _,⟨_,rfl⟩,h⟩
theorem pe_bl{b j pos}:PE X (.Constant (.bool b) j pos) (tC (.bl b)):=fun _ _ _ H _ I h=>Constant_bool ⟨.bl b,H,I,rfl,h⟩
theorem pe_non{j pos}:PE X (.Constant .none j pos) (tC .non):=fun _ _ _ H _ I h=>Constant_none ⟨.non,H,I,rfl,h⟩
theorem pe_str{x j pos}:PE X (.Constant (.str x) j pos) (tC (.str x)):=fun _ _ _ H _ I h=>Calls.Constant_str ⟨.str x,H,I.tok _,⟨_,rfl⟩,h⟩
def Gl(X:Cx)(x:Str):Prop:=X.env.kindOf x=some .globalImplicit
theorem ld_glob {E : Value -> Shared -> Prop} {pins : List (Addr × Obj)} {s : Shared} {σ : St} {H : Hp} {x : Str} {u : Value} {pos : Pos} {Q : Value -> Shared -> Prop} (I : Inv X pins σ H s) (hg : Gl X x) (hm : X.mg x = some u) (h : Q u s)
 (hd:(x==("__debug__" : Str))=false:=by decide):wpAny (model X.prog X.w) X.A (eval (.Name x pos) X.env) Q E s:=
 Calls.Name_function_global I.ok.kind hg (Calls.loadGlobal_global (by rw [I.ok.glob];exact I.mod.glob.keeps I.bk) hm h) hd
theorem ld_blt {E : Value -> Shared -> Prop} {pins : List (Addr × Obj)} {s : Shared} {σ : St} {H : Hp} {x : Str} {u : Value} {pos : Pos} {Q : Value -> Shared -> Prop} (I : Inv X pins σ H s) (hg : Gl X x) (hm : X.mg x = none) (hv : bootBuiltins x = some u) (h : Q u s)
 (hn:x ≠ "__name__" :=by decide) (hd:(x==("__debug__" : Str))=false:=by decide):wpAny (model X.prog X.w) X.A (eval (.Name x pos) X.env) Q E s:=by
 obtain ⟨mb,h1,h2⟩:=I.mod.blt;exact Calls.Name_function_global I.ok.kind hg (Calls.loadGlobal_builtin (by rw [I.ok.glob];exact I.mod.glob.keeps I.bk) hm (by rw [I.ok.blt];exact h1.keeps I.bk) ((h2 x hn).trans hv) h) hd
theorem pe_glob {x:Str} {v:V} {u:Value} {pos:Pos} (hg:Gl X x) (hm:X.mg x=some u) (r:RelV v u) (hd:(x==("__debug__" : Str))=false:=by decide):PE X (.Name x pos) (tC v) :=
 fun _ _ _ H _ I h=>ld_glob I hg hm ⟨v,H,I,r,h⟩ hd
theorem pe_bltn {x:Str} {v:V} {u:Value} {pos:Pos} (hg:Gl X x) (hm:X.mg x=none) (hv:bootBuiltins x=some u) (r:RelV v u) (hn:x ≠ "__name__" :=by decide) (hd:(x==("__debug__" : Str))=false:=by decide):PE X (.Name x pos) (tC v) :=
 fun _ _ _ H _ I h=>ld_blt I hg hm hv ⟨v,H,I,r,h⟩ hn hd
variable {a b:Expr} {ta tb:TE} {pos:Pos}
def PC(X:Cx)(op:CmpOp)(a b:Expr)(t:TE):Prop:=
 ∀(pins:List (Addr×Obj)) (s:Shared) (σ:St) (H:Hp) (Q:VK),Inv X pins σ H s->t σ H Q ->
   wpAny (model X.prog X.w) X.A (eval a X.env) (fun v s₁=>wpAny (model X.prog X.w) X.A (eval b X.env) (fun u s₂=>wpAny (model X.prog X.w) X.A (compareOp op v u) (EP X pins σ Q) X.xe s₂) X.xe s₁) X.xe s
theorem nobehind(b:Expr){op:CmpOp}(h:op ≠ .In)(h2:op ≠ .NotIn):behindInMarks op b=false:=by
 have e1:(op==CmpOp.In)=false:=by cases op <;> first | rfl | exact absurd rfl h
 have e2:(op==CmpOp.NotIn)=false:=by cases op <;> first | rfl | exact absurd rfl h2
 cases b <;> simp [behindInMarks,e1,e2]
def tB(t:TE):TT:=fun σ H Q=>t σ H fun x H1=>∃c,x = .bl c/\Q c H1
theorem pt_cmp{op:CmpOp}{t:TE}(h:PC X op a b t)(h1:behindInMarks op b=false:=by first | exact nobehind _ (by decide) (by decide) | rfl):PT X (.Compare a [op] [b] pos) (tB t):=by
 intro pins s σ H Q I hw;refine wpAny_isTrue_Compare1 (thn (h pins s σ H _ I hw) fun v s1 h1=>thn h1 fun u s2 h2=>thn h2 fun c s3 ⟨x,H1,I1,r1,q1⟩ => ?_) h1;obtain ⟨d,rfl,q⟩:=q1
 cases r1
 exact wpAny_truthy_bool ⟨H1,I1,q⟩
theorem pt_val{e:Expr}{t:TE}(h:PE X e t)(he:∀whole,isTrue e X.env whole=(do let v <-whole;standAt e.pos;holding [v] (truthy v)):=by intro _;rfl):PT X e (tB t):=by
 intro pins s σ H Q I hw;refine isTrue_plain (thn (h pins s σ H _ I hw) fun v s1 ⟨x,H1,I1,r1,q1⟩ => ?_) (he _);obtain ⟨d,rfl,q⟩:=q1
 cases r1
 exact wpAny_truthy_bool ⟨H1,I1,q⟩
variable {tA tB':TT} {rest:List Expr}
def tAnd(t u:TT):TT:=fun σ H Q=>t σ H fun c H1=>if c=true then u σ H1 Q else Q false H1
def tOr(t u:TT):TT:=fun σ H Q=>t σ H fun c H1=>if c=true then Q true H1 else u σ H1 Q
def tNot(t:TT):TT:=fun σ H Q=>t σ H fun c H1=>Q (!c) H1
theorem pw_and1(ha:PT X a tA):PW X (.BoolOp .And [a] pos) tA:=by
 intro wh pins s σ H Q I h;refine isTrue_and (thn (ha pins s σ H Q I h) fun c s1 e=> ?_)
 cases c with
 | true=>exact isTrue_and_nil e
 | false=>exact e
theorem pw_or1(ha:PT X a tA):PW X (.BoolOp .Or [a] pos) tA:=by
 intro wh pins s σ H Q I h;refine isTrue_or (thn (ha pins s σ H Q I h) fun c s1 e=> ?_)
 cases c with
 | false=>exact isTrue_or_nil e
 | true=>exact e
theorem pw_and(ha:PT X a tA)(hb:PW X (.BoolOp .And (b::rest) pos) tB'):PW X (.BoolOp .And (a::b::rest) pos) (tAnd tA tB'):=by
 intro wh pins s σ H Q I h;refine isTrue_and (thn (ha pins s σ H _ I h) fun c s1 ⟨H1,I1,q1⟩ => ?_)
 cases c with
 | true=>exact hb wh pins s1 σ H1 Q I1 q1
 | false=>exact ⟨H1,I1,q1⟩
theorem pw_or(ha:PT X a tA)(hb:PW X (.BoolOp .Or (b::rest) pos) tB'):PW X (.BoolOp .Or (a::b::rest) pos) (tOr tA tB'):=by
 intro wh pins s σ H Q I h;refine isTrue_or (thn (ha pins s σ H _ I h) fun c s1 ⟨H1,I1,q1⟩ => ?_)
 cases c with
 | true=>exact ⟨H1,I1,q1⟩
 | false=>exact hb wh pins s1 σ H1 Q I1 q1
theorem pt_not(ha:PT X a tA):PT X (.UnaryOp .Not a pos) (tNot tA):=by
 intro pins s σ H Q I h;exact isTrue_not (ha pins s σ H (fun c H1=>Q (!c) H1) I h)
def tAndV(ta tb:TE):TE:=fun σ H Q=>ta σ H fun x H1=>∃c,x = .bl c/\if c=true then tb σ H1 Q else Q (.bl false) H1
def tOrV(ta tb:TE):TE:=fun σ H Q=>ta σ H fun x H1=>∃c,x = .bl c/\if c=true then Q (.bl true) H1 else tb σ H1 Q
def tNotV(ta:TE):TE:=fun σ H Q=>ta σ H fun x H1=>∃c,x = .bl c/\Q (.bl (!c)) H1
theorem pe_one{op}{t:TE}(h:PE X a t):PE X (.BoolOp op [a] pos) t:=fun pins s σ H Q I hw=>BoolOp_one (h pins s σ H Q I hw)
theorem pe_and(ha:PE X a ta)(hb:PE X (.BoolOp .And (b::rest) pos) tb):PE X (.BoolOp .And (a::b::rest) pos) (tAndV ta tb):=by
 intro pins s σ H Q I h;refine BoolOp_and (thn (ha pins s σ H _ I h) fun v s1 ⟨x,H1,I1,r1,q1⟩ => ?_);obtain ⟨c,rfl,q1⟩:=q1
 cases r1
 refine wpAny_truthy_bool ?_
 cases c with
 | true=>exact hb pins s1 σ H1 Q I1 q1
 | false=>exact ⟨.bl false,H1,I1,rfl,q1⟩
theorem pe_or(ha:PE X a ta)(hb:PE X (.BoolOp .Or (b::rest) pos) tb):PE X (.BoolOp .Or (a::b::rest) pos) (tOrV ta tb):=by
 intro pins s σ H Q I h;refine BoolOp_or (thn (ha pins s σ H _ I h) fun v s1 ⟨x,H1,I1,r1,q1⟩ => ?_);obtain ⟨c,rfl,q1⟩:=q1
 cases r1
 refine wpAny_truthy_bool ?_
 cases c with
 | false=>exact hb pins s1 σ H1 Q I1 q1
 | true=>exact ⟨.bl true,H1,I1,rfl,q1⟩
theorem pe_not(ha:PE X a ta):PE X (.UnaryOp .Not a pos) (tNotV ta):=by
 intro pins s σ H Q I h;refine UnaryOp_ (thn (ha pins s σ H _ I h) fun v s1 ⟨x,H1,I1,r1,q1⟩ => ?_);obtain ⟨c,rfl,q1⟩:=q1
 cases r1
 exact not_of (wpAny_truthy_bool ⟨.bl (!c),H1,I1,rfl,q1⟩)
def tIf(t:TT)(ta tb:TE):TE:=fun σ H Q=>t σ H fun c H1=>if c=true then ta σ H1 Q else tb σ H1 Q
theorem pe_ifExp{c:Expr}(hc:PT X c tA)(ha:PE X a ta)(hb:PE X b tb):PE X (.IfExp c a b pos) (tIf tA ta tb):=by
 intro pins s σ H Q I h;refine wpAny_IfExp (thn (hc pins s σ H _ I h) fun d s1 ⟨H1,I1,q1⟩ => ?_)
 cases d with
 | true=>exact ha pins s1 σ H1 Q I1 q1
 | false=>exact hb pins s1 σ H1 Q I1 q1
end
end L2
namespace L2
open PySem PySem.Spec PyProof.Rows
def SqL(K:PySem.W.Frag)(H:Hp)(a:Addr)(xs:List V):Prop:=
 Rd H a (.lst xs) \/
  ∃(o:Obj) (its:Array Value) (n:Nat),K.lookup a=some o/\o.cls = .type "list" /\ o.dict=none/\o.data = .seq its n/\its.size<=sizeLine/\Vals xs its.toList
def SqT(K:PySem.W.Frag)(H:Hp)(a:Addr)(xs:List V):Prop:=
 Rd H a (.tup xs) \/
  ∃(o:Obj) (its:Array Value) (n:Nat),K.lookup a=some o/\o.cls = .type "tuple" /\ o.data = .seq its n/\its.size<=sizeLine/\Vals xs its.toList
def absV:Value->Option V
 | .none=>some .non
 | .bool b=>some (.bl b)
 | .int i _=>some (.int i)
 | .str x _=>some (.str x)
 | .bytes b _=>some (.byt b)
 | .float b _=>some (.flt b)
 | .ref a=>some (.ref a)
 | .type n=>some (.ty n)
 | _=>none
theorem RelV.abs{x:V}{u:Value}(r:RelV x u):absV u=some x:=by
 cases x with
 | non=>cases r;rfl
 | bl _=>cases r;rfl
 | int _=>obtain ⟨t,rfl⟩:=r;rfl
 | str _=>obtain ⟨t,rfl⟩:=r;rfl
 | byt _=>obtain ⟨t,rfl⟩:=r;rfl
 | flt _=>obtain ⟨t,rfl⟩:=r;rfl
 | ref _=>cases r;rfl
 | ty _=>cases r;rfl
theorem RelV.inj{x y:V}{u:Value}(r:RelV x u)(q:RelV y u):x=y:=Option.some.inj (r.abs.symm.trans q.abs)
theorem Vals.inj:∀ {xs ys:List V} {us:List Value},Vals xs us->Vals ys us->xs=ys
 | _,_,_, .nil, .nil=>rfl
 | _,_,_, .cons r t, .cons r' t'=>by rw [r.inj r',Vals.inj t t']
section
variable {X:Cx} {pins:List (Addr×Obj)} {σ:St} {H:Hp} {s:Shared} {a:Addr} {xs ys:List V}
theorem SqL.of{K:PySem.W.Frag}(h:H a=some (.lst xs)):SqL K H a xs:= .inl (.inl h)
theorem SqT.of{K:PySem.W.Frag}(h:H a=some (.tup xs)):SqT K H a xs:= .inl (.inl h)
theorem Inv.list(I:Inv X pins σ H s)(h:SqL X.K H a xs):∃its:List Value,Vals xs its/\PlainL s.heap a its.toArray/\xs.length<=sizeLine:=by
 rcases h with h | ⟨o,its,n,hk,hc,hd,hs,hz,r⟩
 . obtain ⟨z,its,n,r,e⟩:=h.ok I.hok;exact ⟨its,r,⟨_,n,e,rfl,rfl,rfl⟩,z⟩
 . refine ⟨its.toList,r,⟨o,n,I.kIn a o hk,hc,hd,by simpa using hs⟩,?_⟩;have e:=r.length;simp only [Array.length_toList] at e
   omega
theorem Inv.tuple(I:Inv X pins σ H s)(h:SqT X.K H a xs):∃its:List Value,Vals xs its/\IsTup s.heap a its.toArray/\xs.length<=sizeLine:=by
 rcases h with h | ⟨o,its,n,hk,hc,hs,hz,r⟩
 . obtain ⟨z,its,r,p⟩:=h.ok I.hok;exact ⟨its,r,p,z⟩
 . refine ⟨its.toList,r,⟨o,I.kIn a o hk,hc,n,by simpa using hs⟩,?_⟩;have e:=r.length;simp only [Array.length_toList] at e
   omega
theorem Inv.list_inj(I:Inv X pins σ H s)(h:SqL X.K H a xs)(h':SqL X.K H a ys):xs=ys:=by
 obtain ⟨its,r,⟨o,n,e,_,_,d⟩,_⟩:=I.list h;obtain ⟨its',r',⟨o',n',e',_,_,d'⟩,_⟩:=I.list h';rw [e] at e';cases e'
 rw [d] at d'
 injection d' with d1 _
 have:its=its':=by simpa using congrArg Array.toList d1
 subst this;exact r.inj r'
theorem Inv.tuple_inj(I:Inv X pins σ H s)(h:SqT X.K H a xs)(h':SqT X.K H a ys):xs=ys:=by
 obtain ⟨its,r,⟨o,e,_,n,d⟩,_⟩:=I.tuple h;obtain ⟨its',r',⟨o',e',_,n',d'⟩,_⟩:=I.tuple h';rw [e] at e';cases e'
 rw [d] at d'
 injection d' with d1 _
 have:its=its':=by simpa using congrArg Array.toList d1
 subst this;exact r.inj r'
end
abbrev Cx.wish (X:Cx) (E:Value->Shared->Prop):Cx:={ X with xe:=E}
abbrev Cx.nox (X:Cx):Cx:=X.wish fun _ _=>False
theorem Cx.Ok.wish{X:Cx}(ok:X.Ok)(E:Value->Shared->Prop):(X.wish E).Ok:=
 ⟨ok.mod,ok.kind,ok.glob,ok.blt,ok.above,ok.inj,ok.has,ok.cab,ok.hd,ok.frames,ok.stk,ok.exf,ok.bs,ok.bsz,ok.noex,ok.exfs,ok.funs,ok.frf,ok.tb⟩
theorem Cx.Ok.unwish{X:Cx}{E:Value->Shared->Prop}(ok:(X.wish E).Ok):X.Ok:=
 ⟨ok.mod,ok.kind,ok.glob,ok.blt,ok.above,ok.inj,ok.has,ok.cab,ok.hd,ok.frames,ok.stk,ok.exf,ok.bs,ok.bsz,ok.noex,ok.exfs,ok.funs,ok.frf,ok.tb⟩
section
variable {X:Cx} {pins:List (Addr×Obj)} {σ:St} {H:Hp} {s:Shared} {E:Value->Shared->Prop}
theorem Inv.wish(I:Inv X pins σ H s)(E:Value->Shared->Prop):Inv (X.wish E) pins σ H s:=⟨I.ok.wish E,I.os,I.bare,I.base,I.loc,I.cell,I.free,I.freeC,I.pin,I.hok,I.len⟩
theorem Inv.unwish(I:Inv (X.wish E) pins σ H s):Inv X pins σ H s:=⟨I.ok.unwish,I.os,I.bare,I.base,I.loc,I.cell,I.free,I.freeC,I.pin,I.hok,I.len⟩
theorem SP.unwish{D:Ends}{f:Flow}{s':Shared}(h:SP (X.wish E) pins D f s'):SP X pins D f s':=by
 cases f with
 | next=>obtain ⟨σ',H',I,q⟩:=h;exact ⟨σ',H',I.unwish,q⟩
 | brk=>obtain ⟨σ',H',I,q⟩:=h;exact ⟨σ',H',I.unwish,q⟩
 | cont=>obtain ⟨σ',H',I,q⟩:=h;exact ⟨σ',H',I.unwish,q⟩
 | ret u=>obtain ⟨v,σ',H',I,r,q⟩:=h;exact ⟨v,σ',H',I.unwish,r,q⟩
theorem PSs.nox{st:List Stmt}{t:TS}(h:PSs X.nox st t):PSs X st t:=fun pins s σ H D I hw=>
 wpAny_mono (h pins s σ H D (I.wish _) hw) (fun _ _ q=>q.unwish) fun _ _ z=>False.elim z
end
section
variable {X:Cx} {st:Stmt} {rest:List Stmt} {t u:TS} {e:Expr} {te:TE} {pos:Pos}
def tNext:TS:=fun D σ H=>D.nx σ H
def tSeq(t u:TS):TS:=fun D σ H=>t { D with nx:=u D} σ H
theorem pss_nil:PSs X [] tNext:=fun _ _ σ H _ I h=>wpAny_execs_nil ⟨σ,H,I,h⟩
theorem pss_cons(h1:PS X st t)(h2:PSs X rest u):PSs X (st::rest) (tSeq t u):=by
 intro pins s σ H D I h;refine wpAny_execs_cons (thn (h1 pins s σ H { D with nx:=u D} I h) fun f s1 q=> ?_)
 cases f with
 | next=>
  obtain ⟨σ',H',I',q⟩:=q
  exact h2 pins s1 σ' H' D I' q
 | ret v=>exact q
 | brk=>exact q
 | cont=>exact q
theorem pss_one(h1:PS X st t):PSs X [st] t:=by
 intro pins s σ H D I h;refine wpAny_execs_cons (thn (h1 pins s σ H D I h) fun f s1 q=> ?_)
 cases f with
 | next=>exact wpAny_execs_nil q
 | ret v=>exact q
 | brk=>exact q
 | cont=>exact q
theorem Inv.quiet{pins:List (Addr×Obj)}{σ:St}{H:Hp}{s:Shared}(I:Inv X pins σ H s):interactive X.env=false:=by simp [interactive,I.ok.kind]
def tDrop(te:TE):TS:=fun D σ H=>te σ H fun _ H1=>D.nx σ H1
theorem ps_expr(he:PE X e te)(hs:swapsWith e none pos.line X.env=pure false:=by rfl):PS X (.Expr e pos) (tDrop te):=by
 intro pins s σ H D I h;exact wpAny_Expr_any (thn (he pins s σ H _ I h) fun v s1 ⟨x,H1,I1,r1,q1⟩=>⟨σ,H1,I1,q1⟩) I.quiet hs
def tRet(te:TE):TS:=fun D σ H=>te σ H D.rt
theorem ps_ret(he:PE X e te):PS X (.Return (some e) pos) (tRet te):=by
 intro pins s σ H D I h;exact wpAny_Return_some (thn (he pins s σ H _ I h) fun v s1 ⟨x,H1,I1,r1,q1⟩=>⟨x,σ,H1,I1,r1,q1⟩)
def tIfS(c:TT)(t u:TS):TS:=fun D σ H=>c σ H fun b H1=>if b=true then t D σ H1 else u D σ H1
theorem ps_if{c:Expr}{a b:List Stmt}{tc:TT}(hc:PT X c tc)(ha:PSs X a t)(hb:PSs X b u):PS X (.If c a b pos) (tIfS tc t u):=by
 intro pins s σ H D I h;refine wpAny_If (thn (hc pins s σ H _ I h) fun d s1 ⟨H1,I1,q1⟩ => ?_)
 cases d with
 | true=>exact ha pins s1 σ H1 D I1 q1
 | false=>exact hb pins s1 σ H1 D I1 q1
end
abbrev TG:=V->St->Hp->(St->Hp->Prop)->Prop
abbrev TGs:=List V->St->Hp->(St->Hp->Prop)->Prop
def PG(X:Cx)(target:Expr)(t:TG):Prop:=
 ∀(pins:List (Addr×Obj)) (s:Shared) (σ:St) (H:Hp) (v:V) (u:Value) (Q:St->Hp->Prop),Inv X pins σ H s->RelV v u->t v σ H Q ->
   wpAny (model X.prog X.w) X.A (assign target X.env u) (fun _ s'=>∃σ' H',Inv X pins σ' H' s'/\Q σ' H') X.xe s
def PGs(X:Cx)(ts:List Expr)(t:TGs):Prop:=
 ∀(pins:List (Addr×Obj)) (s:Shared) (σ:St) (H:Hp) (vs:List V) (us:List Value) (Q:St->Hp->Prop),Inv X pins σ H s->Vals vs us->t vs σ H Q ->
   wpAny (model X.prog X.w) X.A (assignInOrder ((assignEach ts X.env).map (·.2)) us) (fun _ s'=>∃σ' H',Inv X pins σ' H' s'/\Q σ' H') X.xe s
abbrev TSet:=V->V->V->Hp->(Hp->Prop)->Prop
section
variable {X:Cx} {pos:Pos}
def gName(i:Nat):TG:=fun v σ H Q=>Q (σ.set i (some v)) H
theorem pg_name{i:Nat}{x:Str}(hN:X.N.Nodup)(hi:X.N[i]? = some x)(hx:Loc X.env.scope x)(hf:X.fn x=true\/X.env.scope.names.lookup x=some .local:=by first | exact .inl rfl | exact .inr rfl | assumption):PG X (.Name x pos) (gName i):=by
 intro pins s σ H v u Q I r h;exact wpAny_assign_Name (store_ok I hN hi hx r (fun s' I'=>⟨_,H,I',h⟩) hf)
def gNil:TGs:=fun vs σ H Q=>vs = []/\Q σ H
def gCons(t:TG)(u:TGs):TGs:=fun vs σ H Q=>∃v r,vs=v::r/\t v σ H fun σ' H'=>u r σ' H' Q
theorem pgs_nil:PGs X [] gNil:=by
 intro pins s σ H vs us Q I r h;obtain ⟨e,h⟩:=h;subst e
 cases r
 exact assignInOrder_nil ⟨σ,H,I,h⟩
theorem pgs_cons {e : Expr} {es : List Expr} {t : TG} {u : TGs} (h1 : PG X e t) (h2 : PGs X es u)
 (hs:(assignEach (e::es) X.env).map (·.2)=assign e X.env::(assignEach es X.env).map (·.2):=by rfl):PGs X (e::es) (gCons t u):=by
 intro pins s σ H vs us Q I r h;obtain ⟨v,vr,e1,h⟩:=h;subst e1
 cases r with
 | cons r rr=>
  rw [hs];refine assignInOrder_cons (thn (h1 pins s σ H _ _ _ I r h) fun _ s1 ⟨σ1,H1,I1,q1⟩ => ?_);exact h2 pins s1 σ1 H1 _ _ Q I1 rr q1
def gTup(K:PySem.W.Frag)(n:Nat)(t:TGs):TG:=fun v σ H Q=>∃a xs,v = .ref a/\SqT K H a xs/\xs.length=n/\t xs σ H Q
theorem pg_tup {es : List Expr} {k : Nat} {t : TGs} {n : Nat} (hc : X.calm = true) (h : PGs X es t)
 (hn:(assignEach es X.env).length=n:=by rfl) (hst:(assignEach es X.env).findIdx? (·.1)=none:=by rfl):PG X (.Tuple es k pos) (gTup X.K n t):=by
 intro pins s σ H v u Q I r hw;obtain ⟨a,xs,e1,hq,hl,hw⟩:=hw;subst e1
 cases r
 obtain ⟨its,rv,ht,hz⟩:=I.tuple hq;refine assign_Tuple_tuple (I.ok.hd hc) ht (by simp [hn, <-hl,rv.length]) hst fun h' hx=> ?_;have I1:Inv X pins σ H {s with heap:=h' }:=I.kept (t':=s.toks) fun b o e=>hx b o (Nat.ne_of_lt (Heap.lt_size e)) e;exact h pins _ σ H xs _ Q I1 (by simpa using rv) hw
def tAsg(te:TE)(g:TG):TS:=fun D σ H=>te σ H fun x H1=>g x σ H1 D.nx
theorem ps_set {i : Nat} {x : Str} {e : Expr} {te : TE} {pos' : Pos} (hN : X.N.Nodup) (hi : X.N[i]? = some x) (hx : Loc X.env.scope x) (he : PE X e te) (hs : swapsWith e (some (.Name x pos')) pos.line X.env = pure false := by rfl) (hf : X.fn x = true \/ X.env.scope.names.lookup x = some .local := by first | exact .inl rfl | exact .inr rfl | assumption) :
 PS X (.Assign [.Name x pos'] e pos) (tAsg te (gName i)):=by
 intro pins s σ H D I h;refine wpAny_Assign_Name (thn (he pins s σ H _ I h) fun v s1 ⟨y,H1,I1,r1,q1⟩ => ?_) hs;exact store_ok I1 hN hi hx r1 (fun s2 I2=>⟨_,H1,I2,q1⟩) hf
def tPar(i j:Nat)(ta:TA):TS:=fun D σ H=>ta σ H fun vs H1=>∃v w,vs = [v,w]/\D.nx ((σ.set i (some v)).set j (some w)) H1
theorem ps_par {i j : Nat} {x y : Str} {a b : Expr} {ta : TA} {px py pt : Pos} {kt k2 pt2} (hc : X.calm = true) (hN : X.N.Nodup) (hi : X.N[i]? = some x) (hj : X.N[j]? = some y) (hij : i ≠ j)
 (hx:X.env.scope.names.lookup x=some .local) (hy:X.env.scope.names.lookup y=some .local) (ha:PA X [a,b] ta)
 (hw:swappedStores [.Tuple [.Name x px, .Name y py] kt pt] (.Tuple [a,b] k2 pt2) X.env=pure (some [x,y]))
 (hs:swapsWithSole [.Tuple [.Name x px, .Name y py] kt pt] (.Tuple [a,b] k2 pt2) pos.line X.env=pure false:=by rfl) :
 PS X (.Assign [.Tuple [.Name x px, .Name y py] kt pt] (.Tuple [a,b] k2 pt2) pos) (tPar i j ta):=by
 intro pins s σ H D I h;rw [exec_Assign_arm];refine wpAny_bind (wpAny_standAt ?_);rw [hs];refine wpAny_bind (wpAny_pure ?_);rw [if_neg (by decide)];refine wpAny_bind (Tuple_ (thn (ha _ pins s σ H _ I h) fun us s1 ⟨vs,H1,I1,r1,q1⟩ => ?_));obtain ⟨v,w,e1,q1⟩:=q1;subst e1
 obtain ⟨u1,u2,rfl,rv,rw'⟩:∃u1 u2,us = [u1,u2]/\RelV v u1/\RelV w u2:=by
  cases r1 with
  | cons p q=>
   cases q with
   | cons p' q' =>
    cases q'
    exact ⟨_,_,rfl,p,p'⟩
 refine wpAny_newObj_type ?_ (by show 2<=sizeLine;decide);have I2:Inv X pins σ H1 {s1 with heap:=s1.heap.push {cls:= .type "tuple",data:= .seq [u1,u2].toArray} }:=I1.kept (t':=s1.toks) fun b o e=>Heap.get?_push_of_some _ e;rw [hw];refine wpAny_bind (wpAny_pure ?_);show wpAny (model X.prog X.w) X.A (do rule "assign.swapped-stores";let items <-unpackItems (.ref s1.heap.objs.size) 2 none;assignInOrder [fun v=>bindName X.env y v,fun v=>bindName X.env x v] items.reverse;pure Flow.next) _ _ _;refine wpAny_bind (wpAny_rule (wpAny_bind (unpackItems_tuple (items:= #[u1,u2]) (I.ok.hd hc) (IsTup.new s1.heap _) fun h' hx' => ?_)));have I3:=I2.kept (h':=h') (t':=s1.toks) fun b o e=>hx' b o (Nat.ne_of_lt (Heap.lt_size e)) e;show wpAny _ _ (assignInOrder [fun v=>bindName X.env y v,fun v=>bindName X.env x v] [u2,u1] >>= fun _=>pure Flow.next) _ _ _;refine wpAny_bind (assignInOrder_cons (wpAny_bindName (store_ok I3 hN hj (.inl hy) rw' (fun s2 I4=> ?_) (.inr hy))));refine assignInOrder_cons (wpAny_bindName (store_ok I4 hN hi (.inl hx) rv (fun s3 I5=>assignInOrder_nil (wpAny_pure ?_)) (.inr hx)));rw [List.set_comm _ _ (Ne.symm hij)] at I5
 exact ⟨_,H1,I5,q1⟩
end
section
variable {X:Cx} {pos:Pos}
def tWhile(c:TT)(tb:TS):TS:=fun D σ H=>∃W:Nat->St->Hp->Prop,(∃m,W m σ H)/\∀m σ H,W m σ H ->
 c σ H fun b H1=>if b=true then ∃N:St->Hp->Prop,(∀σ' H',N σ' H'->∃m',m'<m/\W m' σ' H')/\tb { D with nx:=N,ct:=N,bk:=D.nx} σ H1 else D.nx σ H1
theorem ps_while{c:Expr}{body:List Stmt}{tc:TT}{tb:TS}(hp:PassesOwn (model X.prog X.w) X.A X.env X.xe)(hc:PT X c tc)(hb:PSs X body tb):PS X (.While c body [] pos) (tWhile tc tb):=by
 intro pins s σ H D I h;obtain ⟨W,⟨m0,w0⟩,turn⟩:=h;refine wpAny_While (codeAny_whileLoop (fun n s'=>∃σ' H',Inv X pins σ' H' s'/\W n σ' H') ?_ m0 ⟨σ,H,I,w0⟩);rintro n s1 ⟨σ1,H1,I1,w1⟩;refine wpAny_passesOwn hp (thn (hc pins s1 σ1 H1 _ I1 (turn n σ1 H1 w1)) fun b s2 ⟨H2,I2,q2⟩ => ?_)
 cases b with
 | true=>
  obtain ⟨N,hN,q2⟩:=q2;rw [if_pos rfl];refine wpAny_passesOwn hp (thn (hb pins s2 σ1 H2 _ I2 q2) fun f s3 q3=> ?_)
  cases f with
  | next=>
   obtain ⟨σ3,H3,I3,n3⟩:=q3;obtain ⟨m',hm,w3⟩:=hN σ3 H3 n3
   exact ⟨m',hm,σ3,H3,I3,w3⟩
  | cont=>
   obtain ⟨σ3,H3,I3,n3⟩:=q3;obtain ⟨m',hm,w3⟩:=hN σ3 H3 n3
   exact ⟨m',hm,σ3,H3,I3,w3⟩
  | brk=>exact q3
  | ret v=>exact q3
 | false=>
  rw [if_neg Bool.false_ne_true];exact wpAny_execs_nil ⟨σ1,H2,I2,q2⟩
end
structure It where
 go:Nat->Hp->Prop
 yld:Nat->Hp->V->Hp->Prop
 stop:Nat->Hp->Prop
def FpOk(X:Cx)(pins:List (Addr×Obj))(H:Hp)(b:Addr):Prop:=
 H b=none/\b≠X.env.locals/\b ∉ X.fs/\(b ∈ X.ex\/X.s₀.heap.objs.size<=b)/\(∀x c,X.env.cells.lookup x=some c->c≠b)/\∀p ∈ X.pn++pins,p.1≠b
theorem Inv.fpOk{X:Cx}{pins:List (Addr×Obj)}{σ:St}{H H':Hp}{s:Shared}{b:Addr}(I:Inv X pins σ H s)(hb:s.heap.objs.size<=b)(hn:H' b=none):FpOk X pins H' b:=by
 refine ⟨hn,Nat.ne_of_gt (Nat.lt_of_lt_of_le I.lt hb),I.nofs hb, .inr (Nat.le_trans I.sz hb),fun x c e z=> ?_,fun p hp z=> ?_⟩
 . obtain ⟨v,q⟩:=I.cell x c e;exact absurd (Nat.lt_of_lt_of_le q.lt (by rw [z];exact hb)) (Nat.lt_irrefl _)
 . exact absurd (Nat.lt_of_lt_of_le (Heap.lt_size (I.pin p hp).1) (by rw [z];exact hb)) (Nat.lt_irrefl _)
structure Turn (P:Program) (w:World) (K:PySem.W.Frag) (tg:Expr) (J:It) (fp:List Addr) (it:Addr) (tn:Nat->Heap->Prop):Prop where
 mem:it ∈ fp
 obj:∀i h,tn i h->∀b ∈ fp,∃o,h.get? b=some o/\∀v,o.data ≠ .cell v
 keep:∀i h h',tn i h->(∀b ∈ fp,∀o,h.get? b=some o->h'.get? b=some o)->tn i h'
 item:∀(X:Cx),X.prog=P->X.w=w->X.K=K->X.calm=true->∀(i:Nat) (pins:List (Addr×Obj)) (s:Shared) (σ:St) (H:Hp) (E:Value->Shared->Prop),Inv X pins σ H s->(∀b ∈ fp,FpOk X pins H b)->tn i s.heap->J.go i H ->
  wpAny (model P w) X.A (pyNext (.ref it)) (fun r s1=>∃u,r=some u /\
   wpAny (model P w) X.A (letOwnedTupleGo tg (.ref it) u) (fun _ s2=>∃x H',Inv X pins σ H' s2/\RelV x u/\J.yld i H x H'/\tn (i+1) s2.heap/\∀b ∈ fp,H' b=none) E s1) E s
 done:∀(X:Cx),X.prog=P->X.w=w->X.K=K->X.calm=true->∀(i:Nat) (pins:List (Addr×Obj)) (s:Shared) (σ:St) (H:Hp) (E:Value->Shared->Prop),Inv X pins σ H s->(∀b ∈ fp,FpOk X pins H b)->tn i s.heap->J.stop i H ->
  wpAny (model P w) X.A (pyNext (.ref it)) (fun r s1=>r=none/\Inv X pins σ H s1) E s
 self:∀(A:Around) (i:Nat) (s:Shared) (Q:Value->Shared->Prop) (E:Value->Shared->Prop),tn i s.heap->Q (.ref it) s->wpAny (model P w) A (pyIter (.ref it)) Q E s
abbrev TI:=St->Hp->(It->Hp->Prop)->Prop
def PIE(X:Cx)(pins:List (Addr×Obj))(σ:St)(tg:Expr)(R:It->Hp->Prop)(itv:Value)(s2:Shared):Prop:=
 ∃(it:Addr) (fp:List Addr) (tn:Nat->Heap->Prop) (J:It) (H':Hp),itv = .ref it/\Inv X pins σ H' s2/\Turn X.prog X.w X.K tg J fp it tn/\tn 0 s2.heap/\(∀b ∈ fp,FpOk X pins H' b)/\R J H'
def PI(X:Cx)(tg iter:Expr)(wi:TI):Prop:=
 ∀(pins:List (Addr×Obj)) (s:Shared) (σ:St) (H:Hp) (R:It->Hp->Prop),Inv X pins σ H s->wi σ H R ->
   wpAny (model X.prog X.w) X.A (eval iter X.env) (fun v s1=>wpAny (model X.prog X.w) X.A (pyIter v) (PIE X pins σ tg R) X.xe s1) X.xe s
theorem go_of {M : Model} {A : Around} {E : Value -> Shared -> Prop} {s : Shared} {tg : Expr} {it : Addr} {u : Value} {o : Obj} {n : String} {vs : Array Value} {Q : Unit -> Shared -> Prop} (ho : s.heap.get? it = some o) (hc : o.cls = .type n) (hd : o.data = .fields vs)
 (hn : ["enumerate","zip","dict_itemiterator","dict_reverseitemiterator","odict_iterator","itertools.zip_longest","itertools.pairwise"].contains n=false) (hQ:Q () s):wpAny M A (letOwnedTupleGo tg (.ref it) u) Q E s:=by
 unfold letOwnedTupleGo
 cases tg <;> first
  | exact wpAny_pure hQ
  | (cases u <;> first
   | exact wpAny_pure hQ
   | (refine wpAny_bind (wpAny_load ho ?_)
      rw [hc,hd];show wpAny M A (if (["enumerate","zip","dict_itemiterator","dict_reverseitemiterator","odict_iterator","itertools.zip_longest","itertools.pairwise"].contains n && vs[0]? ==some (rawInt _))=true then _ else _) Q E s;rw [if_neg (by intro h;rw [hn,Bool.false_and] at h;cases h)];exact wpAny_pure hQ))
def Itl(K:PySem.W.Frag)(a:Addr):It:=
 ⟨fun i H=>∃xs x,SqL K H a xs/\xs[i]? = some x,fun i H x H'=>H'=H/\∀xs,SqL K H a xs->xs[i]? = some x,fun i H=>∃xs,SqL K H a xs/\xs.length<=i⟩
def Itt(K:PySem.W.Frag)(a:Addr):It:=
 ⟨fun i H=>∃xs x,SqT K H a xs/\xs[i]? = some x,fun i H x H'=>H'=H/\∀xs,SqT K H a xs->xs[i]? = some x,fun i H=>∃xs,SqT K H a xs/\xs.length<=i⟩
def Itr(lo:Int)(n:Nat):It:=⟨fun i _=>i<n,fun i H x H'=>H'=H/\x = .int (lo+i),fun i _=>n<=i⟩
theorem turn_list{P:Program}{w:World}{K:PySem.W.Frag}{tg:Expr}(a it:Addr):Turn P w K tg (Itl K a) [it] it (fun i h=>h.IsListIter it a i) where
 mem:=by simp
 obj:=fun i h st b hb=>by
  have e:b=it:=by simpa using hb
  subst e;obtain ⟨o,e,c,d⟩:=st;exact ⟨o,e,fun v z=>by rw [d] at z;cases z⟩
 keep:=fun i h h' st k=>st.at fun o e=>k it (by simp) o e
 item:=by
  intro X hP hw hK hc i pins s σ H E I hf st hg;subst hP hw hK;obtain ⟨xs,x,hq,hx⟩:=hg;obtain ⟨its,rv,p,hz⟩:=I.list hq;obtain ⟨u,hu,ru⟩:=rv.get hx;obtain ⟨f0,f1,f2,f3,f4,f5⟩:=hf it (by simp);refine wpAny_pyNext_list_item st p.isList (x:=u) (by simpa using hu) fun h' st' sb=> ?_;have I1:Inv X pins σ H {s with heap:=h' }:=I.turned (t':=s.toks) (fun b o hb e=>(sb.2 b hb).trans e) f0 f1 f3 f4 f5;obtain ⟨o,e,c,d⟩:=id st';exact ⟨u,rfl,go_of (s:={s with heap:=h' }) e c d (by decide) ⟨x,H,I1,ru,⟨rfl,fun ys hy=>by rw [I.list_inj hy hq];exact hx⟩,st',fun b hb=>(hf b hb).1⟩⟩
 done:=by
  intro X hP hw hK hc i pins s σ H E I hf st hg;subst hP hw hK;obtain ⟨xs,hq,hx⟩:=hg;obtain ⟨its,rv,p,hz⟩:=I.list hq;obtain ⟨f0,f1,f2,f3,f4,f5⟩:=hf it (by simp);have hl:=rv.length;exact wpAny_pyNext_list_end (I.ok.hd hc) st p.isList (by simp;omega) fun h' eb=>⟨rfl,I.turned (t':=s.toks) (fun b o hb e=>eb b o hb e) f0 f1 f3 f4 f5⟩
 self:=fun _ _ _ _ _ st h=>wpAny_pyIter_listiter st h
theorem turn_tuple{P:Program}{w:World}{K:PySem.W.Frag}{tg:Expr}(a it:Addr):Turn P w K tg (Itt K a) [it] it (fun i h=>h.IsTupleIter it a i) where
 mem:=by simp
 obj:=fun i h st b hb=>by
  have e:b=it:=by simpa using hb
  subst e;obtain ⟨o,e,c,d⟩:=st;exact ⟨o,e,fun v z=>by rw [d] at z;cases z⟩
 keep:=fun i h h' st k=>st.at fun o e=>k it (by simp) o e
 item:=by
  intro X hP hw hK hc i pins s σ H E I hf st hg;subst hP hw hK;obtain ⟨xs,x,hq,hx⟩:=hg;obtain ⟨its,rv,p,hz⟩:=I.tuple hq;obtain ⟨u,hu,ru⟩:=rv.get hx;obtain ⟨f0,f1,f2,f3,f4,f5⟩:=hf it (by simp);refine wpAny_pyNext_tuple_item st (show s.heap.IsTuple a its.toArray from p) (x:=u) (by simpa using hu) fun h' st' sb=> ?_;have I1:Inv X pins σ H {s with heap:=h' }:=I.turned (t':=s.toks) (fun b o hb e=>(sb.2 b hb).trans e) f0 f1 f3 f4 f5;obtain ⟨o,e,c,d⟩:=id st';exact ⟨u,rfl,go_of (s:={s with heap:=h' }) e c d (by decide) ⟨x,H,I1,ru,⟨rfl,fun ys hy=>by rw [I.tuple_inj hy hq];exact hx⟩,st',fun b hb=>(hf b hb).1⟩⟩
 done:=by
  intro X hP hw hK hc i pins s σ H E I hf st hg;subst hP hw hK;obtain ⟨xs,hq,hx⟩:=hg;obtain ⟨its,rv,p,hz⟩:=I.tuple hq;obtain ⟨f0,f1,f2,f3,f4,f5⟩:=hf it (by simp);have hl:=rv.length;exact wpAny_pyNext_tuple_end (I.ok.hd hc) st (show s.heap.IsTuple a its.toArray from p) (by simp;omega) fun h' eb=>⟨rfl,I.turned (t':=s.toks) (fun b o hb e=>eb b o hb e) f0 f1 f3 f4 f5⟩
 self:=fun _ _ _ _ _ st h=>wpAny_pyIter_tupleiter st h
theorem turn_range{P:Program}{w:World}{K:PySem.W.Frag}{tg:Expr}(it:Addr)(lo:Int)(n:Nat):Turn P w K tg (Itr lo n) [it] it (fun i h=>IsRangeIter h it (lo+(i:Nat)*1) ((n:Int) - (i:Nat)) 1) where
 mem:=by simp
 obj:=fun i h st b hb=>by
  have e:b=it:=by simpa using hb
  subst e
  exact ⟨_,st,fun v z=>by
   have z':Data.fields _=Data.cell v:=z
   cases z'⟩
 keep:=fun i h h' st k=>k it (by simp) _ st
 item:=by
  intro X hP hw hK hc i pins s σ H E I hf st hg;subst hP hw hK;obtain ⟨f0,f1,f2,f3,f4,f5⟩:=hf it (by simp);have W:=Walks.range (prog:=X.prog) (w:=X.w) (I.ok.hd hc) it lo 1 n;refine W.item i s _ _ hg st fun v h' tk hv st' kk=> ?_;obtain ⟨t,rfl⟩:=hv;have I1:Inv X pins σ H {s with heap:=h',toks:=tk}:=I.turned (fun b o hb e=>kk b o (by simpa using hb) e) f0 f1 f3 f4 f5;refine ⟨_,rfl,go_of (s:={s with heap:=h',toks:=tk}) (n:= "range_iterator") st' rfl rfl (by decide) ⟨.int (lo+i),H,I1,⟨t,?_⟩,⟨rfl,rfl⟩,st',fun b hb=>(hf b hb).1⟩⟩;rw [Int.mul_one]
 done:=by
  intro X hP hw hK hc i pins s σ H E I hf st hg;subst hP hw hK;obtain ⟨f0,f1,f2,f3,f4,f5⟩:=hf it (by simp);exact wpAny_pyNext_range_end (I.ok.hd hc) st (by have:n<=i:=hg;omega) fun h' eb=>⟨rfl,I.turned (t':=s.toks) (fun b o hb e=>eb b o hb e) f0 f1 f3 f4 f5⟩
 self:=fun _ _ _ _ _ st h=>wpAny_pyIter_rangeiter st h
end L2
namespace L2
open PySem PySem.Spec PyProof.Rows
section
variable {X:Cx} {tg:Expr}
def iList(K:PySem.W.Frag)(tl:TE):TI:=fun σ H R=>tl σ H fun x H1=>∃a,x = .ref a/\(∃xs,SqL K H1 a xs)/\R (Itl K a) H1
theorem pi_list{l:Expr}{tl:TE}(hl:PE X l tl):PI X tg l (iList X.K tl):=by
 intro pins s σ H R I h;refine thn (hl pins s σ H _ I h) fun v s1 ⟨x,H1,I1,r1,q1⟩ => ?_;obtain ⟨a,e,⟨xs,hq⟩,q⟩:=q1;subst e
 cases r1
 obtain ⟨its,rv,p,hz⟩:=I1.list hq;refine wpAny_pyIter_list p.isList ?_;refine ⟨s1.heap.objs.size,[s1.heap.objs.size],_,_,H1,rfl,I1.kept (t':=s1.toks) fun b o e=>Heap.get?_push_of_some _ e,turn_list a _,⟨_,Heap.get?_push_size _ rfl,rfl,rfl⟩,fun b hb=> ?_,q⟩;have e:b=s1.heap.objs.size:=by simpa using hb
 subst e;exact I1.fpOk (Nat.le_refl _) (I1.hok.fresh (Nat.le_refl _))
theorem range_it {pins : List (Addr × Obj)} {σ : St} {H : Hp} {s : Shared} {R : It -> Hp -> Prop} {E : Value -> Shared -> Prop} {lo hi : Int} {t u v : Tok} {tk : Nat} (I : Inv X pins σ H s) (h1 : -(2 ^ 62) <= lo) (h2 : lo < 2 ^ 62) (h3 : -(2 ^ 62) <= hi) (h4 : hi < 2 ^ 62)
 (q:R (Itr lo (hi - lo).toNat) H):wpAny (model X.prog X.w) X.A (pyIter (.ref s.heap.objs.size)) (PIE X pins σ tg R) E {s with heap:=s.heap.push {cls:= .type "range",data:= .fields #[.int lo t, .int hi u, .int 1 v]},toks:=tk}:=by
 refine wpAny_pyIter_range (IsRange.new ..) (small_one h1 h2 h3 h4) ?_;have I1:Inv X pins σ H {s with heap:=s.heap.push {cls:= .type "range",data:= .fields #[.int lo t, .int hi u, .int 1 v]},toks:=tk}:=I.kept fun b o e=>Heap.get?_push_of_some _ e
 refine ⟨(s.heap.push {cls:= .type "range",data:= .fields #[.int lo t, .int hi u, .int 1 v]}).objs.size,[(s.heap.push {cls:= .type "range",data:= .fields #[.int lo t, .int hi u, .int 1 v]}).objs.size],_,_,H,rfl,
  I1.kept (t':=tk) fun b o e=>Heap.get?_push_of_some _ e,turn_range _ lo (hi - lo).toNat,?_,fun b hb=> ?_,q⟩
 . have e1:lo+((0:Nat):Int)*1=lo:=by simp
   have e2:(((hi - lo).toNat:Nat):Int) - ((0:Nat):Int)=Builtin.Range.rangeSize lo hi 1:=by rw [rangeSize_one];split <;> omega
   show IsRangeIter _ _ (lo+((0:Nat):Int)*1) ((((hi - lo).toNat:Nat):Int) - ((0:Nat):Int)) 1;rw [e1,e2];exact Heap.get?_push_size _ rfl
 . have e:b=(s.heap.push {cls:= .type "range",data:= .fields #[.int lo t, .int hi u, .int 1 v]}).objs.size:=by simpa using hb
   subst e;exact I1.fpOk (Nat.le_refl _) (I1.hok.fresh (Nat.le_refl _))
def iRng1(ta:TA):TI:=fun σ H R=>ta σ H fun vs H1=>∃j:Int,vs = [.int j] /\ -(2 ^ 62)<=j/\j<2 ^ 62/\R (Itr 0 j.toNat) H1
theorem pi_range1 {a:Expr} {ta:TA} {p pos:Pos} (hg:Gl X "range") (hm:X.mg "range" = none) (ha:PA X [a] ta) (hs:starEach [a] X.env = [(false,eval a X.env)]:=by rfl):PI X tg (.Call (.Name "range" p) [a] [] pos) (iRng1 ta):=by
 intro pins s σ H R I h;refine Call_ (ld_blt I hg hm boot_range (PyProof.Rows.callWith_type1 (thn (ha pos pins s σ H _ I h) fun us s1 ⟨vs,H1,I1,r1,q1⟩ => ?_) hs rfl));obtain ⟨j,e,q1,q2,q⟩:=q1;subst e
 cases r1 with
 | cons r rr=>
  cases rr
  obtain ⟨t,rfl⟩:=r;exact call_range_1 (range_it I1 (by omega) (by omega) q1 q2 (by simpa using q))
def tFor(wi:TI)(g:TG)(tb:TS):TS:=fun D σ H=>wi σ H fun J H1=>∃W:Nat->Nat->St->Hp->Prop,(∃m,W 0 m σ H1)/\∀i m σ H,W i m σ H ->
 (J.stop i H/\D.nx σ H)\/(J.go i H/\∃N:St->Hp->Prop,(∀σ' H',N σ' H'->∃m',m'<m/\W (i+1) m' σ' H')/\∀x H',J.yld i H x H'->g x σ H' fun σ2 H2=>tb { D with nx:=N,ct:=N,bk:=D.nx} σ2 H2)
def pinsAt(fp:List Addr)(h:Heap):List (Addr×Obj):=fp.filterMap fun b=>(h.get? b).map fun o=>(b,o)
theorem mem_pinsAt{fp:List Addr}{h:Heap}{b:Addr}{o:Obj}(hb:b ∈ fp)(e:h.get? b=some o):(b,o) ∈ pinsAt fp h:=List.mem_filterMap.mpr ⟨b,hb,by rw [e];rfl⟩
theorem of_pinsAt{fp:List Addr}{h:Heap}{p:Addr×Obj}(hp:p ∈ pinsAt fp h):p.1 ∈ fp/\h.get? p.1=some p.2:=by
 obtain ⟨b,hb,e⟩:=List.mem_filterMap.mp hp
 cases q:h.get? b with
 | none=>rw [q] at e;cases e
 | some o=>
  rw [q] at e
  have e':(b,o)=p:=Option.some.inj e;subst e';exact ⟨hb,q⟩
theorem Inv.pinned{pins:List (Addr×Obj)}{σ:St}{H:Hp}{s:Shared}{fp:List Addr}(I:Inv X pins σ H s)(hf:∀b ∈ fp,FpOk X pins H b)(ho:∀b ∈ fp,∃o,s.heap.get? b=some o/\∀v,o.data ≠ .cell v):Inv X (pins++pinsAt fp s.heap) σ H s:=
 I.pins_of fun p hp=>(List.mem_append.mp hp).elim (fun z=>I.pin p (List.mem_append_right _ z)) fun z=>by
  obtain ⟨hb,e⟩:=of_pinsAt z;obtain ⟨f0,f1,f2,_⟩:=hf p.1 hb;obtain ⟨o,e',d⟩:=ho p.1 hb;rw [e] at e';cases e'
  exact ⟨e,f0,f1,f2,d⟩
theorem Inv.unpinned{pins pl:List (Addr×Obj)}{σ:St}{H:Hp}{s:Shared}(I:Inv X (pins++pl) σ H s):Inv X pins σ H s:=I.pins_of fun p hp=>I.pin p (List.mem_append_right _ (List.mem_append_left _ hp))
theorem ps_for {iter : Expr} {body : List Stmt} {wi : TI} {g : TG} {tb : TS} {pos : Pos} (hp : PassesOwn (model X.prog X.w) X.A X.env X.xe) (hc : X.calm = true) (hi : PI X tg iter wi) (hg : PG X tg g) (hb : PSs X body tb)
 (hs:∀x,foldedSetIterable iter X.env x=pure x:=by intro _;rfl):PS X (.For tg iter body [] pos) (tFor wi g tb):=by
 intro pins s σ H D I h;refine wpAny_For (thn (hi pins s σ H _ I h) fun v s1 h1=>thn h1 fun itv s2 h2=> ?_) hs;obtain ⟨it,fp,tn,J,H2,e,I2,T,st2,f2,W,⟨m0,w0⟩,turn⟩:=h2;subst e;have stat:∀ {H':Hp},(∀b ∈ fp,H' b=none)->∀b ∈ fp,FpOk X pins H' b:=fun hn b hb=>⟨hn b hb,(f2 b hb).2⟩;refine codeAny_forLoop_any (fun n s'=>∃i σ' H',Inv X pins σ' H' s'/\tn i s'.heap/\(∀b ∈ fp,H' b=none)/\W i n σ' H') ?_ m0 ⟨0,σ,H2,I2,st2,fun b hb=>(f2 b hb).1,w0⟩;rintro n s3 ⟨i,σ3,H3,I3,st3,fr3,w3⟩;rcases turn i n σ3 H3 w3 with ⟨stop,qn⟩ | ⟨go,N,hN,step⟩
 . refine wpAny_passesOwn hp (thn (T.done X rfl rfl rfl hc i pins s3 σ3 H3 X.xe I3 (stat fr3) st3 stop) fun r s4 ⟨hr,I4⟩ => ?_);subst hr;exact wpAny_execs_nil ⟨σ3,H3,I4,qn⟩
 . refine wpAny_passesOwn hp (thn (T.item X rfl rfl rfl hc i pins s3 σ3 H3 X.xe I3 (stat fr3) st3 go) fun r s4 ⟨u,hr,h4⟩ => ?_);subst hr;refine wpAny_passesOwn hp (thn h4 fun _ s5 ⟨x,H5,I5,r5,y5,st5,fr5⟩ => ?_);have I5':=I5.pinned (stat fr5) (T.obj _ _ st5);refine wpAny_passesOwn hp (thn (hg _ s5 σ3 H5 x u _ I5' r5 (step x H5 y5)) fun _ s6 ⟨σ6,H6,I6,q6⟩ => ?_);refine wpAny_passesOwn hp (thn (hb _ s6 σ6 H6 _ I6 q6) fun f s7 q7=> ?_)
   have again:∀ {σ7:St} {H7:Hp},Inv X (pins++pinsAt fp s5.heap) σ7 H7 s7->N σ7 H7->∃m,m<n/\∃i σ' H',Inv X pins σ' H' s7/\tn i s7.heap/\(∀b ∈ fp,H' b=none)/\W i m σ' H':=fun {σ7 H7} I7 n7=>by
    obtain ⟨m',hm,w7⟩:=hN σ7 H7 n7;refine ⟨m',hm,i+1,σ7,H7,I7.unpinned,T.keep _ _ _ st5 fun b hb o e=>(I7.pin (b,o) (List.mem_append_right _ (List.mem_append_right _ (mem_pinsAt hb e)))).1,fun b hb=> ?_,w7⟩;obtain ⟨o,e,d⟩:=T.obj _ _ st5 b hb;exact (I7.pin (b,o) (List.mem_append_right _ (List.mem_append_right _ (mem_pinsAt hb e)))).2.1
   cases f with
   | next=>obtain ⟨σ7,H7,I7,n7⟩:=q7;exact again I7 n7
   | cont=>obtain ⟨σ7,H7,I7,n7⟩:=q7;exact again I7 n7
   | brk=>obtain ⟨σ7,H7,I7,q7⟩:=q7;exact ⟨σ7,H7,I7.unpinned,q7⟩
   | ret v=>obtain ⟨x7,σ7,H7,I7,r7,q7⟩:=q7;exact ⟨x7,σ7,H7,I7.unpinned,r7,q7⟩
end
theorem for_tup {K : PySem.W.Frag} {a : Addr} {xs : List V} {g : TG} {tb : TS} {D : Ends} {σ : St} {H : Hp} (Pv : Nat -> St -> Hp -> Prop) (h0 : Pv 0 σ H) (hl : ∀ i σ H, i <= xs.length -> Pv i σ H -> SqT K H a xs)
 (hs:∀i x σ H,xs[i]? = some x->Pv i σ H->g x σ H fun σ2 H2=>tb { D with nx:=Pv (i+1),ct:=Pv (i+1),bk:=D.nx} σ2 H2) (hd:∀σ H,Pv xs.length σ H->D.nx σ H) :
 ∃W:Nat->Nat->St->Hp->Prop,(∃m,W 0 m σ H)/\∀i m σ H,W i m σ H ->
  ((Itt K a).stop i H/\D.nx σ H)\/((Itt K a).go i H/\∃N:St->Hp->Prop,(∀σ' H',N σ' H'->∃m',m'<m/\W (i+1) m' σ' H')/\∀x H',(Itt K a).yld i H x H'->g x σ H' fun σ2 H2=>tb { D with nx:=N,ct:=N,bk:=D.nx} σ2 H2):=by
 refine ⟨fun i m σ H=>m=xs.length - i/\i<=xs.length/\Pv i σ H,⟨xs.length,by simp,Nat.zero_le _,h0⟩,?_⟩;rintro i m σ H ⟨rfl,hi,p⟩;have q:=hl i σ H hi p
 by_cases hlt:i<xs.length
 . refine .inr ⟨⟨xs,xs[i],q,by simp [hlt]⟩,Pv (i+1),fun σ' H' p'=>⟨xs.length - (i+1),by omega,rfl,hlt,p'⟩,fun x H' y=> ?_⟩;obtain ⟨e,y⟩:=y;subst e;exact hs i x σ _ (y xs q) p
 . have e:i=xs.length:=by omega
   subst e;exact .inl ⟨⟨xs,q,Nat.le_refl _⟩,hd σ H p⟩
end L2
namespace L2
open PySem PySem.Spec PyProof.Rows
abbrev R2:=V->V->Hp->VK->Prop
def OpR(X:Cx)(f:Value->Value->Sem Value)(r:R2):Prop:=
 ∀(pins:List (Addr×Obj)) (s:Shared) (σ:St) (H:Hp) (x y:V) (v u:Value) (Q:VK),Inv X pins σ H s->RelV x v->RelV y u->r x y H Q ->
   wpAny (model X.prog X.w) X.A (f v u) (EP X pins σ Q) X.xe s
def CallR(X:Cx)(f:Value)(r:List V->Hp->VK->Prop):Prop:=
 ∀(pins:List (Addr×Obj)) (s:Shared) (σ:St) (H:Hp) (xs:List V) (us:List Value) (Q:VK),Inv X pins σ H s->Vals xs us->r xs H Q ->
   wpAny (model X.prog X.w) X.A (call f us) (EP X pins σ Q) X.xe s
def TruR(X:Cx)(r:V->Hp->(Bool->Hp->Prop)->Prop):Prop:=
 ∀(pins:List (Addr×Obj)) (s:Shared) (σ:St) (H:Hp) (x:V) (v:Value) (Q:Bool->Hp->Prop),Inv X pins σ H s->RelV x v->r x H Q ->
   wpAny (model X.prog X.w) X.A (truthy v) (TP X pins σ Q) X.xe s
def tOp(r:R2)(ta tb:TE):TE:=fun σ H Q=>ta σ H fun x H1=>tb σ H1 fun y H2=>r x y H2 Q
def rI(C:Int->Int->Prop)(g:Int->Int->V):R2:=fun x y H Q=>∃i j,x = .int i/\y = .int j/\C i j/\Q (g i j) H
def rI0(g:Int->Int->V):R2:=fun x y H Q=>∃i j,x = .int i/\y = .int j/\Q (g i j) H
section
variable {X:Cx} {a b c:Expr} {ta tb tc:TE} {pos:Pos}
theorem binT (ha : PE X a ta) (hb : PE X b tb) {pins : List (Addr × Obj)} {s : Shared} {σ : St} {H : Hp} {R : V -> V -> Hp -> Prop} (I : Inv X pins σ H s)
 (h:ta σ H fun x H1=>tb σ H1 fun y H2=>R x y H2) {Q:Value->Shared->Prop} {f:Value->Value->Sem Value}
 (hf:∀v u s2 x y H2,Inv X pins σ H2 s2->RelV x v->RelV y u->R x y H2->wpAny (model X.prog X.w) X.A (f v u) Q X.xe s2) :
 wpAny (model X.prog X.w) X.A (eval a X.env) (fun v s₁=>wpAny (model X.prog X.w) X.A (eval b X.env) (fun u s₂=>wpAny (model X.prog X.w) X.A (f v u) Q X.xe s₂) X.xe s₁) X.xe s:=by
 refine thn (ha pins s σ H _ I h) fun v s1 ⟨x,H1,I1,r1,q1⟩ => ?_;refine thn (hb pins s1 σ H1 _ I1 q1) fun u s2 ⟨y,H2,I2,r2,q2⟩ => ?_;exact hf v u s2 x y H2 I2 r1 r2 q2
theorem pe_op{op:Operator}{r:R2}(ho:OpR X (binaryOp op) r)(ha:PE X a ta)(hb:PE X b tb):PE X (.BinOp a op b pos) (tOp r ta tb):=by
 intro pins s σ H Q I h;exact wpAny_BinOp (binT ha hb I h fun v u s2 x y H2 I2 rx ry q=>ho pins s2 σ H2 x y v u Q I2 rx ry q)
theorem opI {f : Value -> Value -> Sem Value} {C : Int -> Int -> Prop} {g : Int -> Int -> Int}
 (rule:∀(i j:Int) (t u:Tok) (s:Shared) (Q:Value->Shared->Prop) (E:Value->Shared->Prop),C i j->Q (.int (g i j) s.toks) {s with toks:=s.toks+1}->wpAny (model X.prog X.w) X.A (f (.int i t) (.int j u)) Q E s) :
 OpR X f (rI C fun i j=> .int (g i j)):=by
 intro pins s σ H x y v u Q I rx ry h;obtain ⟨i,j,rfl,rfl,hc,q⟩:=h;obtain ⟨t,rfl⟩:=rx;obtain ⟨t',rfl⟩:=ry;exact rule i j t t' s _ _ hc ⟨.int (g i j),H,I.tok _,⟨_,rfl⟩,q⟩
theorem opI0 {f : Value -> Value -> Sem Value} {g : Int -> Int -> Int}
 (rule:∀(i j:Int) (t u:Tok) (s:Shared) (Q:Value->Shared->Prop) (E:Value->Shared->Prop),Q (.int (g i j) s.toks) {s with toks:=s.toks+1}->wpAny (model X.prog X.w) X.A (f (.int i t) (.int j u)) Q E s) :
 OpR X f (rI0 fun i j=> .int (g i j)):=by
 intro pins s σ H x y v u Q I rx ry h;obtain ⟨i,j,rfl,rfl,q⟩:=h;obtain ⟨t,rfl⟩:=rx;obtain ⟨t',rfl⟩:=ry;exact rule i j t t' s _ _ ⟨.int (g i j),H,I.tok _,⟨_,rfl⟩,q⟩
theorem opB0 {f : Value -> Value -> Sem Value} {g : Int -> Int -> Bool}
 (rule:∀(i j:Int) (t u:Tok) (s:Shared) (Q:Value->Shared->Prop) (E:Value->Shared->Prop),Q (.bool (g i j)) s->wpAny (model X.prog X.w) X.A (f (.int i t) (.int j u)) Q E s) :
 OpR X f (rI0 fun i j=> .bl (g i j)):=by
 intro pins s σ H x y v u Q I rx ry h;obtain ⟨i,j,rfl,rfl,q⟩:=h;obtain ⟨t,rfl⟩:=rx;obtain ⟨t',rfl⟩:=ry;exact rule i j t t' s _ _ ⟨.bl (g i j),H,I,rfl,q⟩
def CPow(i j:Int):Prop:=0<=j/\j<=1000000/\i.natAbs<2 ^ 64
def CMul(i j:Int):Prop:=(-(2 ^ 64)<i/\i<2 ^ 64)\/(-(2 ^ 64)<j/\j<2 ^ 64)
theorem CMul.ok{i j:Int}(h:CMul i j):IntMulOk i j:=by
 rcases h with ⟨h1,h2⟩ | ⟨h1,h2⟩
 . exact .of_left (intBits_le_64 h1 h2)
 . exact .of_right (intBits_le_64 h1 h2)
theorem two_pow_nn(k:Nat):(0:Int)<=2 ^ k:=by
 rw [two_pow_cast];exact Int.natCast_nonneg _
theorem op_add:OpR X (binaryOp .Add) (rI0 fun i j=> .int (i+j)):=opI0 fun _ _ _ _ _ _ _ q=>add_int q
theorem op_sub:OpR X (binaryOp .Sub) (rI0 fun i j=> .int (i - j)):=opI0 fun _ _ _ _ _ _ _ q=>sub_int q
theorem op_modN:OpR X (binaryOp .Mod) (rI (fun _ j=>j≠0) fun i j=> .int (i.fmod j)):=opI fun _ _ _ _ _ _ _ hc q=>mod_int' hc q
theorem op_pow:OpR X (binaryOp .Pow) (rI CPow fun i j=> .int (i ^ j.toNat)):=opI fun _ _ _ _ _ _ _ hc q=>pow_int_small hc.1 hc.2.1 hc.2.2 q
theorem op_shr:OpR X (binaryOp .RShift) (rI (fun _ j=>0<=j) fun i j=> .int (i / 2 ^ j.toNat)):=opI fun i j _ _ _ _ _ hc q=>
 rshift_int hc (by rw [Int.fdiv_eq_ediv_of_nonneg i (two_pow_nn _)];exact q)
end
section
variable {X:Cx} {a b c:Expr} {ta tb tc:TE} {pos:Pos}
theorem fin_bl{pins:List (Addr×Obj)}{σ:St}{H:Hp}{s:Shared}{Q:VK}{k k':Bool}(I:Inv X pins σ H s)(q:Q (.bl k) H)(e:k=k'):EP X pins σ Q (.bool k') s:=by
 subst e;exact ⟨.bl k,H,I,rfl,q⟩
theorem op_lt:OpR X (compareOp .Lt) (rI0 fun i j=> .bl (decide (i<j))):=opB0 fun _ _ _ _ _ _ _ q=>lt_int q
theorem op_gt:OpR X (compareOp .Gt) (rI0 fun i j=> .bl (decide (j<i))):=opB0 fun _ _ _ _ _ _ _ q=>gt_int q
theorem op_ge:OpR X (compareOp .GtE) (rI0 fun i j=> .bl (decide (j<=i))):=opB0 fun _ _ _ _ _ _ _ q=>ge_int q
theorem op_in_str:OpR X (compareOp .In) (fun x y H Q=>∃i j,x = .str i/\y = .str j/\Q (.bl (!(Builtin.Str.occurrences j i 0 j.length 1).isEmpty)) H):=by
 intro pins s σ H x y v u Q I rx ry h;obtain ⟨i,j,rfl,rfl,q⟩:=h;obtain ⟨t,rfl⟩:=rx;obtain ⟨t',rfl⟩:=ry;exact in_str (fin_bl I q rfl)
theorem op_isN:OpR X (compareOp .Is) (fun x y H Q=>y = .non/\Q (.bl (decide (x = .non))) H):=by
 intro pins s σ H x y v u Q I rx ry h;obtain ⟨rfl,q⟩:=h
 cases ry
 refine is_none_gen (fin_bl I q ?_)
 cases x <;> first
  | (cases rx;rfl)
  | (obtain ⟨t,rfl⟩:=rx;rfl)
theorem op_notN:OpR X (compareOp .IsNot) (fun x y H Q=>y = .non/\Q (.bl (!decide (x = .non))) H):=by
 intro pins s σ H x y v u Q I rx ry h;obtain ⟨rfl,q⟩:=h
 cases ry
 refine isnot_none_gen (fin_bl I q ?_)
 cases x <;> first
  | (cases rx;rfl)
  | (obtain ⟨t,rfl⟩:=rx;rfl)
theorem OpR.or{f:Value->Value->Sem Value}{r r':R2}(h:OpR X f r)(h':OpR X f r'):OpR X f (fun x y H Q=>r x y H Q\/r' x y H Q):=by
 intro pins s σ H x y v u Q I rx ry q;rcases q with q | q
 . exact h pins s σ H x y v u Q I rx ry q
 . exact h' pins s σ H x y v u Q I rx ry q
theorem nomark(b:Expr){op:CmpOp}(h:op ≠ .In:=by decide)(h2:op ≠ .NotIn:=by decide):behindInMarks op b=false:=by
 have e1:(op==CmpOp.In)=false:=by cases op <;> first | rfl | exact absurd rfl h
 have e2:(op==CmpOp.NotIn)=false:=by cases op <;> first | rfl | exact absurd rfl h2
 cases b <;> simp [behindInMarks,e1,e2]
theorem pe_cmpR{op:CmpOp}{r:R2}(ho:OpR X (compareOp op) r)(ha:PE X a ta)(hb:PE X b tb)(hm:behindInMarks op b=false):PE X (.Compare a [op] [b] pos) (tOp r ta tb):=by
 intro pins s σ H Q I h;exact wpAny_Compare1 (binT ha hb I h fun v u s2 x y H2 I2 rx ry q=>ho pins s2 σ H2 x y v u Q I2 rx ry q) hm
def tTest(t:TE):TT:=fun σ H Q=>t σ H fun x H'=>∃k,x = .bl k/\Q k H'
theorem pt_cmpR{op:CmpOp}{r:R2}(ho:OpR X (compareOp op) r)(ha:PE X a ta)(hb:PE X b tb)(hm:behindInMarks op b=false):PT X (.Compare a [op] [b] pos) (tTest (tOp r ta tb)):=by
 intro pins s σ H Q I h
 refine wpAny_isTrue_Compare1 (thn (ha pins s σ H _ I h) fun v s1 ⟨x,H1,I1,r1,q1⟩=>thn (hb pins s1 σ H1 _ I1 q1) fun u s2 ⟨y,H2,I2,r2,q2⟩ =>
  thn (ho pins s2 σ H2 x y v u _ I2 r1 r2 q2) fun c s3 ⟨z,H3,I3,r3,k,e,q3⟩ => ?_) hm
 subst e
 cases r3
 exact wpAny_truthy_bool ⟨H3,I3,q3⟩
def TruV(K:PySem.W.Frag)(x:V)(H:Hp)(k:Bool):Prop:=
 match x with
 | .non=>k=false
 | .bl b=>k=b
 | .int i=>k=(i != 0)
 | .str y=>y.length<=sizeLine/\k=((y.length:Int) != 0)
 | .byt y=>y.size<=sizeLine/\k=((y.size:Int) != 0)
 | .ref p=>(∃xs,SqL K H p xs/\k = !xs.isEmpty)\/(∃xs,SqT K H p xs/\k = !xs.isEmpty)\/∃kvs,H p=some (.dK kvs)/\k = !kvs.isEmpty
 | _=>False
theorem isEmpty_kv{κ:Type}{kvs:List (κ×V)}{vs:List (κ×Value)}(r:KV kvs vs):(!vs.isEmpty) = !kvs.isEmpty:=by
 cases r <;> rfl
theorem isEmpty_of{xs:List V}{its:List Value}(r:Vals xs its):(!its.toArray.isEmpty) = !xs.isEmpty:=by
 cases r <;> simp
theorem line63:(sizeLine:Nat)<2 ^ 63:=by rw [sizeLine_eq];decide
theorem tru_ok:TruR X (fun x H Q=>∃k,TruV X.K x H k/\Q k H):=by
 intro pins s σ H x v Q I rx h;obtain ⟨k,e,q⟩:=h;have hl:=line63;have hs:sizeLine=16777216:=sizeLine_eq
 cases x with
 | non=>
  cases rx
  have e':k=false:=e;subst e'
  exact truthy_none ⟨H,I,q⟩
 | bl b=>
  cases rx
  have e':k=b:=e;subst e'
  exact wpAny_truthy_bool ⟨H,I,q⟩
 | int i=>
  obtain ⟨t,rfl⟩:=rx;have e':k=(i != 0):=e;subst e'
  exact PySem.P.truthy_int ⟨H,I,q⟩
 | str y=>
  obtain ⟨t,rfl⟩:=rx;obtain ⟨hy,e'⟩:y.length<=sizeLine/\k=((y.length:Int) != 0):=e;subst e'
  exact PySem.P.truthy_str (by omega) ⟨H,I.tok _,q⟩
 | byt y=>
  obtain ⟨t,rfl⟩:=rx;obtain ⟨hy,e'⟩:y.size<=sizeLine/\k=((y.size:Int) != 0):=e;subst e'
  exact PySem.W.truthy_bytes (by omega) ⟨H,I.tok _,q⟩
 | ref p=>
  cases rx
  have e':(∃xs,SqL X.K H p xs/\k = !xs.isEmpty)\/(∃xs,SqT X.K H p xs/\k = !xs.isEmpty)\/∃kvs,H p=some (.dK kvs)/\k = !kvs.isEmpty:=e;rcases e' with ⟨xs,hx,e'⟩ | ⟨xs,hx,e'⟩ | ⟨kvs,hx,e'⟩
  . subst e';obtain ⟨its,r,pl,hz⟩:=I.list hx;have hlen:=r.length;exact wpAny_truthy_list pl.isList (by simp only [List.size_toArray];omega) ⟨H,I.tok _,by rw [isEmpty_of r];exact q⟩
  . subst e';obtain ⟨its,r,pl,hz⟩:=I.tuple hx;have hlen:=r.length;exact truthy_tuple pl (by simp only [List.size_toArray];omega) ⟨H,I.tok _,by rw [isEmpty_of r];exact q⟩
  . subst e';obtain ⟨hz,hS,vs,r,m⟩:kvs.length<=sizeLine/\(p==sysModules)=false/\∃vs,KV kvs vs/\s.heap.DictOf (mixKind X.prog X.w) p vs:=I.hok p _ hx;have hlen:kvs.length=vs.length:=Paired.length r
    exact wpAny_truthy_dict hS m (by omega) ⟨H,I.tok _,by rw [isEmpty_kv r];exact q⟩
 | _=>exact (show False from e).elim
theorem op_add_str:OpR X (binaryOp .Add) (fun x y H Q=>∃i j,x = .str i/\y = .str j/\i.length+j.length<=sizeLine/\Q (.str (i++j)) H):=by
 intro pins s σ H x y v u Q I rx ry h;obtain ⟨i,j,rfl,rfl,hz,q⟩:=h;obtain ⟨t,rfl⟩:=rx;obtain ⟨t',rfl⟩:=ry;exact add_str (fun t' tk=>⟨.str (i++j),H,I.tok _,⟨_,rfl⟩,q⟩) hz
theorem vals1{x:V}{us:List Value}(r:Vals [x] us):∃u,us = [u]/\RelV x u:=by
 cases r with
 | cons r1 r2=>cases r2;exact ⟨_,rfl,r1⟩
theorem vals2{x y:V}{us:List Value}(r:Vals [x,y] us):∃u w',us = [u,w']/\RelV x u/\RelV y w':=by
 cases r with
 | cons r1 r2=>
  cases r2 with
  | cons r3 r4=>cases r4;exact ⟨_,_,rfl,r1,r3⟩
theorem call_abs:CallR X (.builtin "abs") (fun xs H Q=>∃i,xs = [.int i]/\Q (.int (if i<0 then -i else i)) H):=by
 intro pins s σ H xs us Q I r h;obtain ⟨i,rfl,q⟩:=h;obtain ⟨u,rfl,t,rfl⟩:=vals1 r;exact call_abs_int fun u tk=>⟨.int (if i<0 then -i else i),H,I.tok _,⟨_,rfl⟩,q⟩
theorem call_str_int:CallR X (.type "str") (fun xs H Q=>∃i,xs = [.int i]/\i.natAbs.log2<1920/\Q (.str (toString i)) H):=by
 intro pins s σ H xs us Q I r h;obtain ⟨i,rfl,hz,q⟩:=h;obtain ⟨u,rfl,t,rfl⟩:=vals1 r;exact PySem.P.str_of_int hz ⟨.str _,H,I.tok _,⟨_,rfl⟩,q⟩
end
end L2
namespace L2
open PySem PySem.Spec PyProof.Rows
structure ObjM (h:Heap) (x dx C:Addr) (mA:Str->Option Value):Prop where
 obj:h.get? x=some (PySem.W.instObj C dx)
 ns:h.Ns1 dx mA
 ne:dx≠x
section
variable {prog:Program} {w:World} {A:Around} {E:Value->Shared->Prop} {s:Shared} {K:PySem.W.Frag} {x dx C f:Addr} {mA:Str->Option Value} {name:Str} {v:Value}
end
section
variable {P:Program} {w:World} {H H':Hp} {h h':Heap} {a C dx:Addr} {fs fs':List (Str×V)}
theorem ins_get(hok:HOk P w H h)(e:H a=some (.ins C dx fs)):∃mA,ObjM h a dx C mA/\(∀f,RelO (fs.lookup f) (mA f))/\PySem.Within mA (fs.map (·.1))/\fs.length<=1000/\H dx=some (.own a):=by
 obtain ⟨d,z,ne,ob,mA,n,r,q⟩:=(show ObjOk P w H h a (.ins C dx fs) from hok a _ e);exact ⟨mA,⟨ob,n,ne⟩,r,q,z,d⟩
end
structure Cls (K:PySem.W.Frag) (C:Addr):Prop where
 pg:PySem.W.plainGet K C Str.empty=true
 hd:PySem.W.hasDictIn K C=true
 po:PySem.W.plainOver K C=true
 sa:PySem.W.findIn K (.ref C) "__setattr__" = some (some (.builtin "object.__setattr__"))
theorem Cls.get{K:PySem.W.Frag}{C:Addr}(c:Cls K C)(f:Str):PySem.W.plainGet K C f=true:=c.pg
structure Con (K:PySem.W.Frag) (C:Addr) (f:Str) (v:V) (u:Value):Prop where
 at_:PySem.W.findIn K (.ref C) f=some (some u)
 rel:RelV v u
 get:PySem.W.specialIn K u "__get__" = some none
 cp:PySem.W.copiedNames.contains f=false
structure Meth (K:PySem.W.Frag) (C:Addr) (m:Str) (f:Addr):Prop where
 at_:PySem.W.findIn K (.ref C) m=some (some (.ref f))
 fn:PySem.W.isFn K (.ref f)=true
 kp:PySem.W.keepIn K (.ref f)=true
section
variable {X:Cx} {pins:List (Addr×Obj)} {σ:St} {H:Hp} {s:Shared} {a C dx:Addr} {fs:List (Str×V)} {f:Str} {v:V} {A:Around} {E:Value->Shared->Prop}
theorem Inv.made (I : Inv X pins σ H s) : Inv X pins σ (upd (upd H s.heap.objs.size (.own (s.heap.objs.size + 1))) (s.heap.objs.size + 1) (.ins C s.heap.objs.size []))
 {s with heap:=(s.heap.push PySem.W.emptyDict).push (PySem.W.instObj C s.heap.objs.size)}:=by
 have e1:(s.heap.push PySem.W.emptyDict).get? s.heap.objs.size=some PySem.W.emptyDict:=Heap.get?_push_size s.heap rfl
 have e2:((s.heap.push PySem.W.emptyDict).push (PySem.W.instObj C s.heap.objs.size)).get? (s.heap.objs.size+1)=some (PySem.W.instObj C s.heap.objs.size):=by
  have:=Heap.get?_push_size (s.heap.push PySem.W.emptyDict) (o:=PySem.W.instObj C s.heap.objs.size) rfl
  rwa [Heap.size_push] at this
 have e3:(s.heap.push PySem.W.emptyDict).Ns s.heap.objs.size (fun _=>none):=⟨PySem.W.emptyDict, #[],_,e1,rfl,(fun e he=>absurd he (by simp)),fun _=>rfl⟩;have I1:=I.laid (a:=s.heap.objs.size) (o:= .own (s.heap.objs.size+1)) (h':=s.heap.push PySem.W.emptyDict) (t':=s.toks) (fun b u q=>Heap.get?_push_of_some _ q) (Nat.le_refl _) ⟨_,e1⟩;refine I1.laid (a:=s.heap.objs.size+1) (o:= .ins C s.heap.objs.size []) (t':=s.toks) (fun b u q=>Heap.get?_push_of_some _ q) (Nat.le_of_eq (Heap.size_push _ _)) ?_;have ne:s.heap.objs.size≠s.heap.objs.size+1:=Nat.ne_of_lt (Nat.lt_succ_self _);refine ⟨by rw [upd_ne ne,upd_same],Nat.zero_le _,ne,e2,fun _=>none,(Heap.Ns1.of_empty e3).at fun o q=>Heap.get?_push_of_some _ q,fun _=>True.intro,fun y hy=>absurd rfl hy⟩
end
section
variable {X:Cx} {o e value:Expr} {f:Str} {pos pos' tpos:Pos} {ta tv:TE}
end
section
variable {X:Cx} {pins:List (Addr×Obj)} {σ:St} {H:Hp} {s:Shared} {A:Around} {E:Value->Shared->Prop} {Q:Value->Shared->Prop} {c:Value} {b:Bool}
inductive TyOf (K:PySem.W.Frag) (H:Hp):V->Value->Prop where
 | non:TyOf K H .non (.type "NoneType")
 | bl (x:Bool):TyOf K H (.bl x) (.type "bool")
 | int (i:Int):TyOf K H (.int i) (.type "int")
 | str (x:Str):TyOf K H (.str x) (.type "str")
 | flt (x:UInt64):TyOf K H (.flt x) (.type "float")
 | lst {a:Addr} {xs:List V} (e:H a=some (.lst xs)):TyOf K H (.ref a) (.type "list")
 | frz {a:Addr} {o:Obj} {xs:List V} (e:H a=some (.frz o (.lst xs))):TyOf K H (.ref a) (.type "list")
 | tup {a:Addr} {xs:List V} (e:H a=some (.tup xs)):TyOf K H (.ref a) (.type "tuple")
 | dK {a:Addr} {kvs:List (Key×V)} (e:H a=some (.dK kvs)):TyOf K H (.ref a) (.type "dict")
 | dT {a:Addr} {kvs:List (List Key×V)} (e:H a=some (.dT kvs)):TyOf K H (.ref a) (.type "dict")
 | ins {a C dx : Addr} {fs : List (Str × V)} (e : H a = some (.ins C dx fs)) (cl : Cls K C) (ha : PySem.W.findIn K (.ref C) "__class__" = some (some (.builtin "object.__class__")))
  (hn:PySem.W.specialIn K (.builtin "object.__class__") "__get__" = some (some (.builtin "getset_descriptor.__get__"))) (htk:PySem.W.takesIn K (.builtin "object.__class__")=some true)
  (hm:PySem.W.mroIn K C (.type "object")=some true):TyOf K H (.ref a) (.ref C)
end
end L2
namespace L2
open PySem PySem.Spec PyProof.Rows
structure Room (k:Nat) (A:Around):Prop where
 hd:A.handled=none
 dp:A.depth+3*k+5<recursionLimit
 un:A.units+16*k+200<cLine
 gd:A.guards=some []
theorem Room.mono{j k:Nat}{A:Around}(r:Room k A)(h:j<=k):Room j A:=⟨r.hd,by have:=r.dp;omega,by have:=r.un;omega,r.gd⟩
theorem Room.deeper{k:Nat}{A:Around}(r:Room (k+1) A)(env:Env):Room k (A.deeper env) :=
 ⟨r.hd,by have:=r.dp;show A.depth+1+3*k+5<_;omega,by have:=r.un;show A.units+3+16*k+200<_;omega,r.gd⟩
theorem Room.in1{k:Nat}{A:Around}(r:Room (k+1) A):Room k A.in1:=
 ⟨r.hd,by have:=r.dp;show A.depth+3*k+5<_;omega,by have:=r.un;show A.units+1+16*k+200<_;omega,r.gd⟩
theorem Room.depth{k:Nat}{A:Around}(r:Room k A):A.depth<recursionLimit:=by have:=r.dp;omega
theorem Room.units{k:Nat}{A:Around}(r:Room k A):A.units+64<cLine:=by have:=r.un;omega
def tNil:TA:=fun _ H Q=>Q [] H
def tCons(ta:TE)(tr:TA):TA:=fun σ H Q=>ta σ H fun x H1=>tr σ H1 fun xs H2=>Q (x::xs) H2
section
variable {X:Cx} {e:Expr} {es:List Expr} {te:TE} {t:TA} {pos:Pos}
theorem pa_nil:PA X [] tNil:=fun _ _ _ _ H Q I h=>Calls.spliced_nil ⟨[],H,I, .nil,h⟩
theorem pa_cons(ha:PE X e te)(hr:PA X es t)(hs:starEach (e::es) X.env=(false,eval e X.env)::starEach es X.env:=by rfl):PA X (e::es) (tCons te t):=by
 intro pos pins s σ H Q I h;rw [hs];show wpAny _ _ (spliced ((false,eval e X.env)::backTo pos (starEach es X.env))) _ _ s;refine Calls.spliced_cons (thn (ha pins s σ H _ I h) fun u s1 ⟨x,H1,I1,r1,q1⟩ => ?_);exact thn (hr pos pins s1 σ H1 _ I1 q1) fun us s2 ⟨xs,H2,I2,r2,q2⟩=>⟨x::xs,H2,I2, .cons r1 r2,q2⟩
def tTup(t:TA):TE:=fun σ H Q=>t σ H fun xs H1=>xs.length<=sizeLine/\∀p,H1 p=none->Q (.ref p) (upd H1 p (.tup xs))
def tLst(t:TA):TE:=fun σ H Q=>t σ H fun xs H1=>xs.length<=sizeLine/\∀p,H1 p=none->Q (.ref p) (upd H1 p (.lst xs))
theorem pe_tup{x1}(h:PA X es t):PE X (.Tuple es x1 pos) (tTup t):=by
 intro pins s σ H Q I hq;refine wpAny_Tuple_spliced (thn (h pos pins s σ H _ I hq) fun us s1 ⟨xs,H1,I1,r,z,q⟩=>⟨by rw [<-r.length];exact z,?_⟩);have hf:H1 s1.heap.objs.size=none:=I1.hok.fresh (Nat.le_refl _);refine ⟨.ref s1.heap.objs.size,upd H1 s1.heap.objs.size (.tup xs),I1.laid (t':=s1.toks) (fun b u e=>Heap.get?_push_of_some _ e) (Nat.le_refl _) ?_,rfl,q _ hf⟩;exact ⟨z,us,r,⟨_,Heap.get?_push_size _ rfl,rfl,_,rfl⟩⟩
theorem pe_lst(h:PA X es t):PE X (.List es pos) (tLst t):=by
 intro pins s σ H Q I hq;refine wpAny_List_spliced (thn (h pos pins s σ H _ I hq) fun us s1 ⟨xs,H1,I1,r,z,q⟩=>⟨by rw [<-r.length];exact z,?_⟩);have hf:H1 s1.heap.objs.size=none:=I1.hok.fresh (Nat.le_refl _);refine ⟨.ref s1.heap.objs.size,upd H1 s1.heap.objs.size (.lst xs),I1.laid (t':=s1.toks) (fun b u e=>Heap.get?_push_of_some _ e) (Nat.le_refl _) ?_,rfl,q _ hf⟩;exact ⟨z,us,0,r,Heap.get?_push_size _ rfl⟩
end
abbrev Sp:=List V->Hp->VK->XK->Prop
abbrev CXT:=List Env->Hp->Shared->XK->Value->Shared->Prop
structure Env0 (P:Program) (w:World) (K:PySem.W.Frag) (mg:Str->Option Value) (base:Heap) (A:Around) (outer:List Env) (s:Shared) (H:Hp):Prop where
 frames:A.frames=some outer
 mod:Mod K mg base
 bs:∀b o,base.get? b=some o->s.heap.get? b=some o/\H b=none
 bsz:base.objs.size<=s.heap.objs.size
 funs:s.heap.FunFrames base outer
 frf:∀b ∈ frs outer,H b=none
 hok:HOk P w H s.heap
 bare:AllBare s.gens
 tb:∀p ∈ tabsOf K,∃ps,H p=some (.tbl ps)
def CE(outer:List Env)(P:Program)(w:World)(H:Hp)(s:Shared)(Q:VK)(u:Value)(s':Shared):Prop:=
 ∃v H',s'.os=s.os/\AllBare s'.gens/\Un (frs outer) [] H H' s.heap s'.heap/\HOk P w H' s'.heap/\RelV v u/\Q v H'
def CR(CX:CXT)(outer:List Env)(P:Program)(w:World)(H:Hp)(s:Shared)(Q:VK)(E:XK)(r:Result)(s':Shared):Prop:=
 match r with
 | .ok (.ret u)=>CE outer P w H s Q u s'
 | .ok _=>False
 | .error e=>CX outer H s E e s'
structure FnOk (P:Program) (w:World) (K:PySem.W.Frag) (mg:Str->Option Value) (base:Heap) (CX:CXT) (k:Nat) (f:Addr) (fd:FuncData) (ps:List Str) (sp:Sp):Prop where
 len:∀vs H Q E,sp vs H Q E->vs.length=ps.length
 run:∀(A:Around) (outer:List Env) (s:Shared) (H:Hp) (args:Args) (us:List Value) (vs:List V) (Q:VK) (E:XK),Room k A->Env0 P w K mg base A outer s H->BindsTo s fd args (ps.zip us)->Vals vs us->sp vs H Q E ->
  codeAny (model P w) A (.call (.ref f) args) (CR CX outer P w H s Q E) s
theorem FnOk.mono {P : Program} {w : World} {K : PySem.W.Frag} {mg : Str -> Option Value} {base : Heap} {CX : CXT} {j k : Nat} {f : Addr} {fd : FuncData} {ps : List Str} {sp : Sp} (F : FnOk P w K mg base CX j f fd ps sp) (h : j <= k) :
 FnOk P w K mg base CX k f fd ps sp:=⟨F.len,fun A outer s H args us vs Q E hr=>F.run A outer s H args us vs Q E (hr.mono h)⟩
theorem FnOk.imp {P : Program} {w : World} {K : PySem.W.Frag} {mg : Str -> Option Value} {base : Heap} {CX : CXT} {k : Nat} {f : Addr} {fd : FuncData} {ps : List Str} {sp sp' : Sp} (F : FnOk P w K mg base CX k f fd ps sp)
 (h:∀vs H Q E,sp' vs H Q E->sp vs H Q E):FnOk P w K mg base CX k f fd ps sp' :=
 ⟨fun vs H Q E q=>F.len vs H Q E (h _ _ _ _ q),fun A outer s H args us vs Q E hr he hb hv hs=>F.run A outer s H args us vs Q E hr he hb hv (h _ _ _ _ hs)⟩
theorem Env0.in1 {P : Program} {w : World} {K : PySem.W.Frag} {mg : Str -> Option Value} {base : Heap} {A : Around} {outer : List Env} {s : Shared} {H : Hp} (e : Env0 P w K mg base A outer s H) :
 Env0 P w K mg base A.in1 outer s H:=⟨e.frames,e.mod,e.bs,e.bsz,e.funs,e.frf,e.hok,e.bare,e.tb⟩
section
variable {X:Cx} {pins:List (Addr×Obj)} {σ:St} {H:Hp} {s s':Shared}
theorem Inv.env0(I:Inv X pins σ H s):Env0 X.prog X.w X.K X.mg X.base X.A X.stack s H:=
 ⟨I.ok.frames,I.ok.mod,I.bs,Nat.le_trans I.ok.bsz I.sz,I.stack,I.stkFree,I.hok,I.bare,I.tb⟩
theorem Inv.after{Q:VK}{u:Value}(I:Inv X pins σ H s)(h:CE X.stack X.prog X.w H s Q u s'):EP X pins σ Q u s':=by
 obtain ⟨v,H',os,bare,un,hok,r,q⟩:=h;obtain ⟨hh,g,d,t,os'⟩:=s';obtain rfl:os'=s.os:=os;exact ⟨v,H',I.call (h':=hh) (g':=g) (d':=d) (t':=t) (ch:= []) un hok bare (fun b z=>absurd z (by simp)),r,q⟩
end
def tCall(sp:Sp)(dvs:List V)(E:XK)(t:TA):TE:=fun σ H Q=>t σ H fun vs H1=>sp (vs++dvs) H1 Q E
def Binds(K:PySem.W.Frag)(fd:FuncData)(ps:List Str)(ds:List Value):Prop:=
 ∀(s:Shared) (us:List Value),K.In s.heap->(us++ds).length=ps.length->BindsTo s fd ⟨us,[]⟩ (ps.zip (us++ds))
theorem Binds.all{K:PySem.W.Frag}{fd:FuncData}{ps:List Str}(h:∀us:List Value,us.length=ps.length->bindArgs fd ⟨us,[]⟩=pure (ps.zip us)):Binds K fd ps []:=fun s us _ hl=>by
 rw [List.append_nil] at hl ⊢
 exact .of_eq (h us hl)
def Passes(CX:CXT)(X:Cx)(E:XK):Prop:=∀(pins:List (Addr×Obj)) (σ:St) (H:Hp) (s:Shared) (e:Value) (s':Shared),Inv X pins σ H s->CX X.stack H s E e s'->X.xe e s'
section
variable {X:Cx} {CX:CXT} {k:Nat} {f C:Addr} {fd:FuncData} {ps:List Str} {sp:Sp} {dvs:List V} {ds:List Value} {E:XK} {x m:Str} {p pos apos:Pos} {e o:Expr} {es:List Expr} {ta:TE} {t:TA}
theorem run_fn {pins : List (Addr × Obj)} {σ : St} {H : Hp} {s : Shared} {Q : VK} {us : List Value} {vs : List V} (F : FnOk X.prog X.w X.K X.mg X.base CX k f fd ps sp) (hr : Room k X.A) (hb : Binds X.K fd ps ds) (hd : Vals dvs ds) (hx : Passes CX X E)
 (I:Inv X pins σ H s) (r:Vals vs us) (h:sp (vs++dvs) H Q E):wpAny (model X.prog X.w) X.A (call (.ref f) us) (EP X pins σ Q) X.xe s:=by
 have r2:Vals (vs++dvs) (us++ds):=r.append hd;have hl:(us++ds).length=ps.length:=by rw [<-r2.length];exact F.len _ _ _ _ h
 refine wpAny_call (codeAny_mono (F.run X.A X.stack s H ⟨us,[]⟩ (us++ds) (vs++dvs) Q E hr I.env0 (hb s us I.kIn hl) r2 h) fun r s' hq=> ?_)
 cases r with
 | error e=>exact hx pins σ H s e s' I hq
 | ok fl=>
  cases fl with
  | ret u=>exact I.after hq
  | next=>exact False.elim hq
  | brk=>exact False.elim hq
  | cont=>exact False.elim hq
theorem pe_call (F : FnOk X.prog X.w X.K X.mg X.base CX k f fd ps sp) (hr : Room k X.A) (hg : Gl X x) (hm : X.mg x = some (.ref f)) (hk : PySem.W.keepIn X.K (.ref f) = true) (hb : Binds X.K fd ps ds) (hd : Vals dvs ds) (hx : Passes CX X E)
 (ha:PA X (e::es) t) (hdb:(x==("__debug__" : Str))=false:=by decide) (he:starEach (e::es) X.env=(false,eval e X.env)::starEach es X.env:=by rfl) (hpl:(backTo pos (starEach es X.env)).any (·.1)=false:=by rfl) :
 PE X (.Call (.Name x p) (e::es) [] pos) (tCall sp dvs E t):=by
 intro pins s σ H Q I h;refine wpAny_Call_Name_kw (ld_glob I hg hm ?_ hdb);refine PySem.W.callWith_K (h₀:=X.base) I.ok.mod.kin hk (thn (ha pos pins s σ H _ I h) fun us s1 ⟨vs,H1,I1,r,q⟩=>⟨I1.kIn,?_⟩) he hpl;exact run_fn F hr hb hd hx I1 r q
structure Mk (K:PySem.W.Frag) (C f:Addr):Prop where
 makes:PySem.W.makesIn K C=true
 init:PySem.W.findIn K (.ref C) "__init__" = some (some (.ref f))
 fn:PySem.W.isFn K (.ref f)=true
 kp:PySem.W.keepIn K (.ref C)=true
end
section
variable {X:Cx} {CX:CXT} {k:Nat} {f C:Addr} {fd:FuncData} {ps ks:List Str} {sp:Sp} {E:XK} {x m:Str} {p pos apos kpos:Pos} {e o:Expr} {es:List Expr} {kws:List Keyword} {te ta:TE} {t tk:TA} {nm:Option Str}
structure KBinds (K:PySem.W.Frag) (fd:FuncData) (ps ks:List Str) (g:List Value->List Value->List Value) (gV:List V->List V->List V):Prop where
 to:∀(s:Shared) (us ws:List Value),K.In s.heap->(g us ws).length=ps.length->BindsTo s fd ⟨us,ks.zip ws⟩ (ps.zip (g us ws))
 rel:∀ {vs:List V} {us:List Value} {zs:List V} {ws:List Value},Vals vs us->Vals zs ws->Vals (gV vs zs) (g us ws)
variable {g:List Value->List Value->List Value} {gV:List V->List V->List V}
end
structure FnScope (N P:List Str) (sc:Scope):Prop where
 kind:sc.kind = .function
 co:sc.isCoroutine=false
 gen:sc.isGenerator=false
 nd:N.Nodup
 pre:N.take P.length=P
 par:∀x ∈ P,sc.names.lookup x=some .local\/sc.names.lookup x=some .cell
 nofree:∀y ∈ sc.names,y.2 ≠ .free
theorem bindL_out{kindOf:Str->Option NameKind}{x:Str}:∀ {binds:List (Str×Value)} {m:Str->Option Value},(∀v,(x,v) ∉ binds)->bindL kindOf binds m x=m x
 | [],_,_=>rfl
 | (n,v)::r,m,h=>by
  unfold bindL;rw [bindL_out fun w hw=>h w (List.mem_cons_of_mem _ hw)]
  split
  . have:x≠n:=by rintro rfl;exact h v List.mem_cons_self
    simp [this]
  . rfl
theorem bindC_out{kindOf:Str->Option NameKind}{x:Str}:∀ {binds:List (Str×Value)} {m:Str->Option Value},(∀v,(x,v) ∉ binds)->bindC kindOf binds m x=m x
 | [],_,_=>rfl
 | (n,v)::r,m,h=>by
  unfold bindC;rw [bindC_out fun w hw=>h w (List.mem_cons_of_mem _ hw)]
  split
  . rfl
  . have:x≠n:=by rintro rfl;exact h v List.mem_cons_self
    simp [this]
theorem bindL_get {kindOf : Str -> Option NameKind} {x : Str} {v : Value} : ∀ {P : List Str} {vs : List Value} {i : Nat} {m : Str -> Option Value}, P.Nodup -> P[i]? = some x -> vs[i]? = some v -> kindOf x = some .local ->
 bindL kindOf (P.zip vs) m x=some v
 | [],_,_,_,_,h,_,_=>by simp at h
 | _::_,[],_,_,_,_,h,_=>by simp at h
 | p::P,w::vs,0,m,nd,h1,h2,hk=>by
  simp at h1 h2;subst h1;subst h2
  show bindL kindOf ((p,w)::P.zip vs) m p=_;unfold bindL;rw [bindL_out fun v hv=>(List.nodup_cons.mp nd).1 (List.of_mem_zip hv).1,if_pos hk]
  simp
 | p::P,w::vs,i+1,m,nd,h1,h2,hk=>by
  show bindL kindOf ((p,w)::P.zip vs) m x=_;unfold bindL;exact bindL_get (i:=i) (List.nodup_cons.mp nd).2 (by simpa using h1) (by simpa using h2) hk
theorem bindC_get {kindOf : Str -> Option NameKind} {x : Str} {v : Value} : ∀ {P : List Str} {vs : List Value} {i : Nat} {m : Str -> Option Value}, P.Nodup -> P[i]? = some x -> vs[i]? = some v -> kindOf x ≠ some .local ->
 bindC kindOf (P.zip vs) m x=some v
 | [],_,_,_,_,h,_,_=>by simp at h
 | _::_,[],_,_,_,_,h,_=>by simp at h
 | p::P,w::vs,0,m,nd,h1,h2,hk=>by
  simp at h1 h2;subst h1;subst h2
  show bindC kindOf ((p,w)::P.zip vs) m p=_;unfold bindC;rw [bindC_out fun v hv=>(List.nodup_cons.mp nd).1 (List.of_mem_zip hv).1,if_neg hk]
  simp
 | p::P,w::vs,i+1,m,nd,h1,h2,hk=>by
  show bindC kindOf ((p,w)::P.zip vs) m x=_;unfold bindC;exact bindC_get (i:=i) (List.nodup_cons.mp nd).2 (by simpa using h1) (by simpa using h2) hk
def start(N:List Str)(vs:List V):St:=vs.map some++List.replicate (N.length - vs.length) none
def cxOf(CX:CXT)(P:Program)(w:World)(K:PySem.W.Frag)(mg:Str->Option Value)(base:Heap)(N:List Str)(qual:Str)(scope:Scope)(f:Addr)(cd:Value)(A:Around)(outer:List Env)(s:Shared)(H:Hp)(E:XK):Cx where
 prog:=P
 w:=w
 K:=K
 mg:=mg
 base:=base
 A:=A.deeper (envOfC qual scope s.heap.objs.size f cd)
 N:=N
 s₀:=s
 H₀:=H
 env:=envOfC qual scope s.heap.objs.size f cd
 outer:=outer
 stack:=envOfC qual scope s.heap.objs.size f cd::outer
 ex:= []
 calm:=true
 fn:=fun _=>true
 pn:= []
 xe:=fun e s'=>wpAny (model P w) (A.deeper (envOfC qual scope s.heap.objs.size f cd)) (leaving (envOfC qual scope s.heap.objs.size f cd) e) (fun _ s''=>CX outer H s E e s'') (fun e' s''=>CX outer H s E e' s'') s'
theorem cell_has{sc:Scope}{n:Nat}{x:Str}(h:sc.names.lookup x=some .cell):∃c,(cellsFrom n sc.names []).lookup x=some c:=by
 have q:=PySem.W.cellsFrom_some sc.names n [] (.inl h);exact Option.isSome_iff_exists.mp q
theorem inv_start {CX : CXT} {P : Program} {w : World} {K : PySem.W.Frag} {mg : Str -> Option Value} {base : Heap} {N ps : List Str} {qual : Str} {scope : Scope} {f : Addr} {cd : Value} {A : Around} {outer : List Env} {s s1 : Shared} {H : Hp} {E : XK} {us : List Value} {vs : List V}
 (S:FnScope N ps scope) (hd:A.handled=none) (e0:Env0 P w K mg base A outer s H) (hl:vs.length=ps.length) (r:Vals vs us)
 (x:InCallC s s.heap.objs.size (bindL (envOfC qual scope s.heap.objs.size f cd).kindOf (ps.zip us) fun _=>none) (cellsFrom (s.heap.objs.size+1) scope.names []) (bindC (envOfC qual scope s.heap.objs.size f cd).kindOf (ps.zip us) fun _=>none) s1) :
 Inv (cxOf CX P w K mg base N qual scope f cd A outer s H E) [] (start N vs) H s1:=by
 have hpl:ps.length<=N.length:=by have:=congrArg List.length S.pre;rw [List.length_take] at this;omega
 obtain ⟨h1,tk,rfl,hk⟩:=x.done;have noA:∀b:Addr,b ∉ (cxOf CX P w K mg base N qual scope f cd A outer s H E).ex:=fun b z=>absurd (show b ∈ ([]:List Addr) from z) (by simp)
 refine ⟨⟨e0.mod,S.kind,rfl,rfl,Nat.le_refl _,fun y z c h1 h2=> ?_,fun y hy=> ?_,fun y c _ h=> ?_,fun _=>hd,Around.frames_deeper e0.frames, .inr ⟨rfl,rfl⟩,fun b z=>absurd z (noA b),e0.bs,e0.bsz,fun b _ _=>noA b,fun b z=>absurd z (noA b),e0.funs,e0.frf,e0.tb⟩,
  rfl,e0.bare,Un.kept hk,⟨_,x.toInCall.ns,fun i y v h1 h2 h3=> ?_⟩,fun y c h=>⟨_,x.cell y c h⟩,e0.hok.fresh (Nat.le_refl _),fun y c h=> ?_,fun p hp=>absurd (show p ∈ ([]:List (Addr×Obj)) from hp) (by simp),e0.hok.kept hk,?_⟩
 . exact name_of_addr x.apart (PySem.mem_of_lookup h1) (PySem.mem_of_lookup h2)
 . have hy:scope.names.lookup y=some .cell\/scope.names.lookup y=some .free:=hy;rcases hy with hy | hy
   . exact cell_has hy
   . exact absurd rfl (S.nofree _ (PySem.mem_of_lookup hy))
 . exact Nat.le_of_lt (x.above y c (PySem.mem_of_lookup h))
 . have hi : i < vs.length := by
    unfold start at h2
    by_cases hi:i<vs.length
    . exact hi
    . rw [List.getElem?_append_right (by simpa using hi)] at h2
      rw [List.getElem?_replicate] at h2
      split at h2 <;> cases h2
   have ha:vs[i]? = some v:=by
    unfold start at h2
    rw [List.getElem?_append_left (by simpa using hi),List.getElem?_map] at h2
    cases e:vs[i]? with
    | none=>rw [e] at h2;cases h2
    | some a=>rw [e] at h2;cases h2;rfl
   obtain ⟨u,hu,rv⟩:=r.get ha
   have hp:ps[i]? = some y:=by
    rw [<-S.pre,List.getElem?_take_of_lt (by omega)];exact h1
   have ndP:ps.Nodup:=by rw [<-S.pre];exact S.nd.sublist (List.take_sublist _ _)
   refine ⟨u,rv,?_⟩;rcases S.par y (List.mem_of_getElem? hp) with k | k
   . exact .inl ⟨k,bindL_get ndP hp hu k⟩
   . obtain ⟨c,e⟩:=cell_has (n:=s.heap.objs.size+1) k;refine .inr ⟨.inl k,c,e,?_⟩;have q:=x.cell y c e;rw [bindC_get ndP hp hu (by show scope.names.lookup y≠_;rw [k];decide)] at q
     exact q
 . exact e0.hok.fresh (Nat.le_of_lt (x.above y c (PySem.mem_of_lookup h)))
 . unfold start;show _=N.length;rw [List.length_append,List.length_map,List.length_replicate];omega
theorem fn_of {CX : CXT} {P : Program} {w : World} {K : PySem.W.Frag} {mg : Str -> Option Value} {base : Heap} {k : Nat} {f : Addr} {name qual : Str} {params : Arguments} {body : List Stmt} {scope : Scope} {dV kV doc pm cdv ct oc : Value} {an od : Option Addr}
 {osl:Array (Option Value)} {N ps:List Str} {sp:Sp} (lk:K.lookup f=some ⟨oc,od, .func (PySem.W.fnOf name qual params body scope dV kV doc pm an cdv ct),osl⟩) (hcd:PySem.W.codeIn K cdv qual=true) (S:FnScope N ps scope)
 (len:∀vs H Q E,sp vs H Q E->vs.length=ps.length)
 (hbody:∀(A:Around) (outer:List Env) (s:Shared) (H:Hp) (vs:List V) (Q:VK) (E:XK),Room k (A.deeper (envOfC qual scope s.heap.objs.size f cdv))->sp vs H Q E ->
  ∃t,PSs (cxOf CX P w K mg base N qual scope f cdv A outer s H E) body t/\t {nx:=fun _ H'=>Q .non H',rt:=Q} (start N vs) H) :
 FnOk P w K mg base CX (k+1) f (PySem.W.fnOf name qual params body scope dV kV doc pm an cdv ct) ps sp:=by
 refine ⟨len,fun A outer s H args us vs Q E hr e0 hb r hsp=> ?_⟩;have hl:=len _ _ _ _ hsp;have KX:K.In s.heap:=e0.mod.kin.keeps fun b o e=>(e0.bs b o e).1;have lim:s.heap.NoLimit:=e0.mod.nolimit.keeps fun b o e=>(e0.bs b o e).1
 have hkind:∀y ∈ ps.zip us,scope.names.lookup y.1=some .local\/(scope.names.lookup y.1=some .cell/\((cellsFrom (s.heap.objs.size+1) scope.names []).lookup y.1).isSome=true):=fun ⟨n,v⟩ hy=>by
  rcases S.par n (List.of_mem_zip hy).1 with q | q
  . exact .inl q
  . exact .inr ⟨q,PySem.W.cellsFrom_some _ _ _ (.inl q)⟩
 refine codeAny_call_function hr.depth (KX _ _ lk) rfl S.co S.gen rfl (PySem.W.codeRec_of KX hcd) (hb _ _ _ _ ?_);refine wpAny_newFunctionEnv_cells S.kind hkind fun env he s1 x=> ?_;subst he;refine ⟨lim.keeps x.toInCall.keep,codeAny_func ?_⟩;obtain ⟨t,ht,hq⟩:=hbody A outer s H vs Q E (hr.deeper _) hsp;have I:Inv (cxOf CX P w K mg base N qual scope f cdv A outer s H E) [] (start N vs) H s1:=inv_start S hr.hd e0 hl r x;refine wpAny_mono (ht [] s1 (start N vs) H _ I hq) (fun fl s' hs=> ?_) fun e s' hs=>hs
 have fin:∀ {σ':St} {H':Hp} {v:V} {u:Value},Inv (cxOf CX P w K mg base N qual scope f cdv A outer s H E) [] σ' H' s'->RelV v u->Q v H'->CE outer P w H s Q u s' :=
  fun {σ' H' v u} J rv q=>⟨v,H',J.os,J.bare,J.base,J.hok,rv,q⟩
 cases fl with
 | ret u=>
  obtain ⟨v,σ',H',J,rv,q⟩:=hs
  exact fin J rv q
 | next=>
  obtain ⟨σ',H',J,q⟩:=hs
  exact fin (v:=V.non) (u:=Value.none) J rfl q
 | brk=>
  obtain ⟨_,_,_,q⟩:=hs
  exact False.elim q
 | cont=>
  obtain ⟨_,_,_,q⟩:=hs;exact False.elim q
end L2
namespace L2
open PySem PySem.Spec PyProof.Rows
section
variable {X:Cx} {x:Str} {p pos:Pos} {e:Expr} {es:List Expr} {t:TA} {id T:String} {r:List V->Hp->VK->Prop}
def tCB(r:List V->Hp->VK->Prop)(t:TA):TE:=fun σ H Q=>t σ H fun vs H1=>r vs H1 Q
theorem pe_callB (hc : CallR X (.builtin id) r) (hg : Gl X x) (hm : X.mg x = none) (hv : bootBuiltins x = some (.builtin id)) (ha : PA X (e :: es) t) (hn : x ≠ "__name__" := by decide) (hdb : (x == ("__debug__" : Str)) = false := by decide)
 (he:starEach (e::es) X.env=(false,eval e X.env)::starEach es X.env:=by rfl) (hpl:(backTo pos (starEach es X.env)).any (·.1)=false:=by rfl):PE X (.Call (.Name x p) (e::es) [] pos) (tCB r t):=by
 intro pins s σ H Q I h;refine wpAny_Call_Name_kw (ld_blt I hg hm hv ?_ hn hdb);exact PyProof.Rows.callWith_builtin1 (thn (ha pos pins s σ H _ I h) fun us s1 ⟨vs,H1,I1,r1,q1⟩=>hc pins s1 σ H1 vs us Q I1 r1 q1) he hpl
theorem pe_callTy (hc : CallR X (.type T) r) (hg : Gl X x) (hm : X.mg x = none) (hv : bootBuiltins x = some (.type T)) (ha : PA X (e :: es) t) (hn : x ≠ "__name__" := by decide) (hdb : (x == ("__debug__" : Str)) = false := by decide)
 (he:starEach (e::es) X.env=(false,eval e X.env)::starEach es X.env:=by rfl) (hpl:(backTo pos (starEach es X.env)).any (·.1)=false:=by rfl):PE X (.Call (.Name x p) (e::es) [] pos) (tCB r t):=by
 intro pins s σ H Q I h;refine wpAny_Call_Name_kw (ld_blt I hg hm hv ?_ hn hdb);exact PyProof.Rows.callWith_type1 (thn (ha pos pins s σ H _ I h) fun us s1 ⟨vs,H1,I1,r1,q1⟩=>hc pins s1 σ H1 vs us Q I1 r1 q1) he hpl
end
end L2
namespace HT
open PySem PyProof.Rows
section
open PySem.SeqAt
open PySem.AutoSeq1 (wpAny_loadPart')
open PySem.MeetsSeq PySem.MeetsSeq2 PySem.MeetsSeq3
end
section
variable {prog:Program} {w:World} {A:Around} {E:Value->Shared->Prop} {s:Shared}
theorem cat_tup {t b : Addr} {vs ws : List Value} {Q : Value -> Shared -> Prop} (ht : IsTup s.heap t vs.toArray) (hb : IsTup s.heap b ws.toArray) (hv : vs ≠ [])
 (h1:ws = []->Q (.ref t) s) (h2:ws ≠ []->Q (.ref s.heap.objs.size) {s with heap:=s.heap.push {cls:= .type "tuple",data:= .seq (vs++ws).toArray} })
 (hsz:vs.length+ws.length<=sizeLine):wpAny (model prog w) A (binaryOp .Add (.ref t) (.ref b)) Q E s:=by
 obtain ⟨⟨cls,dd,data,sl⟩,ho,hc,n,hd⟩:=id ht;obtain ⟨⟨cls2,dd2,data2,sl2⟩,ho2,hc2,n2,hd2⟩:=id hb;simp only at hc hd hc2 hd2
 subst hc hd hc2 hd2;have e:vs.toArray++ws.toArray=(vs++ws).toArray:=by simp
 by_cases hw:ws = []
 . exact concat_meets ⟨_, ho, rfl⟩ ⟨_, ho2, rfl⟩ noFill_tuple_add seq_tuple_add PySem.F.slot_tuple_add PySem.F.entry_tuple_add (PySem.F.args_tuple_add_2 _ _)
    (tuple_addW1 t b vs.toArray ws.toArray n n2 dd dd2 sl sl2 (by simpa using hv) (by simp [hw])) ⟨ho,ho2,h1 hw⟩
 . refine concat_meets ⟨_, ho, rfl⟩ ⟨_, ho2, rfl⟩ noFill_tuple_add seq_tuple_add PySem.F.slot_tuple_add PySem.F.entry_tuple_add (PySem.F.args_tuple_add_2 _ _)
    (tuple_addW2 t b vs.toArray ws.toArray n n2 dd dd2 sl sl2 (by simpa using hv) (by simpa using hw) (by rw [List.size_toArray,List.size_toArray];exact hsz)) ⟨ho,ho2,?_⟩
   rw [e];exact h2 hw
def sIx(n d:Nat):Option Int->Nat
 | none=>d
 | some v=>if v<0 then (v+(n:Int)).toNat else min v.toNat n
theorem sIx_none(n d:Nat):sIx n d none=d:=rfl
theorem sIx_nat(n d k:Nat):sIx n d (some (k:Int))=min k n:=by
 show (if (k:Int)<0 then ((k:Int)+(n:Int)).toNat else min (k:Int).toNat n)=min k n;rw [if_neg (by omega),Int.toNat_natCast]
theorem sIx_le(n d:Nat)(hd:d<=n)(o:Option Int):sIx n d o<=n:=by
 cases o with
 | none=>exact hd
 | some v=>
  show (if v<0 then (v+(n:Int)).toNat else min v.toNat n)<=n
  by_cases hv:v<0
  . rw [if_pos hv];omega
  . rw [if_neg hv];exact Nat.min_le_right _ _
theorem clip_eq(v:Int)(n d:Nat):(if v<0 then max (v+(n:Int)) 0 else min v (n:Int))=((sIx n d (some v):Nat):Int):=by
 show (if v<0 then max (v+(n:Int)) 0 else min v (n:Int))=(((if v<0 then (v+(n:Int)).toNat else min v.toNat n):Nat):Int)
 by_cases hv:v<0
 . simp only [if_pos hv];omega
 . simp only [if_neg hv];omega
theorem adjust_gen(lo hi:Option Int)(n:Nat):Builtin.Slice.sliceAdjust lo hi 1 (n:Int)=(((sIx n 0 lo:Nat):Int),((sIx n n hi:Nat):Int)):=by
 have h1:¬((1:Int)<0):=by omega
 unfold Builtin.Slice.sliceAdjust;simp only [h1,if_false];refine Prod.ext ?_ ?_
 . cases lo with
   | none=>rfl
   | some v=>exact clip_eq v n 0
 . cases hi with
   | none=>rfl
   | some v=>exact clip_eq v n n
theorem places_gen(i j:Nat):Builtin.Slice.slicePlaces (i:Int) (j:Int) 1=j - i:=by
 unfold Builtin.Slice.slicePlaces;have h1:(1:Int)>0:=by omega
 simp only [h1,if_true,Int.ediv_one]
 split <;> omega
theorem slicePart_{v:Value}{o:Option Int}{Q:Option Int->Shared->Prop}(p:IsPart v o)(h:Q o s):wpAny (model prog w) A (Builtin.Slice.slicePartIndex v) Q E s:=by
 cases p with
 | none=>exact slicePart_none h
 | int i t=>exact slicePart_int h
theorem sliceApplied_gen {sl : Addr} {vl vu : Value} {lo hi : Option Int} {n : Nat} {Q : Int × Int × Nat -> Shared -> Prop} (hs : s.heap.IsSliceOf sl vl vu .none) (pl : IsPart vl lo) (pu : IsPart vu hi)
 (h:Q (((sIx n 0 lo:Nat):Int),1,sIx n n hi - sIx n 0 lo) s):wpAny (model prog w) A (Builtin.Slice.sliceApplied (.ref sl) (pure (n:Int))) Q E s:=by
 obtain ⟨os,hos,hcs,hds⟩:=id hs;unfold Builtin.Slice.sliceApplied Builtin.Slice.sliceFields;refine wpAny_bind (wpAny_bind (wpAny_field hos hds (x:=vl) rfl (wpAny_bind (wpAny_field hos hds (x:=vu) rfl (wpAny_bind (wpAny_field hos hds (x:= .none) rfl (wpAny_pure ?_)))))));refine wpAny_bind (slicePart_none ?_);show wpAny _ _ (if ((1:Int)==0)=true then _ else _) _ _ s;rw [if_neg (by decide)];refine wpAny_bind (slicePart_ pl (wpAny_bind (slicePart_ pu (wpAny_bind (wpAny_pure ?_)))));show wpAny _ _ (match Builtin.Slice.sliceAdjust lo hi 1 (n:Int) with | (lo,hi)=>pure (lo,(1:Int),Builtin.Slice.slicePlaces lo hi 1)) _ _ s;rw [adjust_gen lo hi n];show wpAny _ _ (pure (((sIx n 0 lo:Nat):Int),(1:Int),Builtin.Slice.slicePlaces ((sIx n 0 lo:Nat):Int) ((sIx n n hi:Nat):Int) 1)) _ _ s;rw [places_gen];exact wpAny_pure h
theorem pick_gen(xs:Array Value)(i k:Nat):((List.range k).filterMap fun (m:Nat)=>xs[((i:Int)+(m:Int)*1).toNat]?).toArray=((xs.toList.drop i).take k).toArray:=by
 have e:(fun (m:Nat)=>xs[((i:Int)+(m:Int)*1).toNat]?)=fun m=>xs[i+m]? :=by
  funext m;have:((i:Int)+(m:Int)*1).toNat=i+m:=by omega
  rw [this]
 rw [e];have:=pick_run xs i k;rw [List.filterMap_map] at this
 have e2:((fun x=>xs[x]?) ∘ fun x=>i+x)=fun m=>xs[i+m]? :=rfl;rw [e2] at this
 rw [this]
theorem getItem_tuple_cut {t sl : Addr} {items : Array Value} {vl vu : Value} {lo hi : Option Int} {Q : Value -> Shared -> Prop} (ht : IsTup s.heap t items) (hs : s.heap.IsSliceOf sl vl vu .none) (pl : IsPart vl lo) (pu : IsPart vu hi)
 (hw:¬(sIx items.size 0 lo=0/\sIx items.size items.size hi=items.size))
 (h:Q (.ref s.heap.objs.size) {s with heap:=s.heap.push {cls:= .type "tuple",data:= .seq ((items.toList.drop (sIx items.size 0 lo)).take (sIx items.size items.size hi - sIx items.size 0 lo)).toArray} })
 (hsz:items.size<=sizeLine):wpAny (model prog w) A (getItem (.ref t) (.ref sl)) Q E s:=by
 have htake:sizeOk (.seq ((items.toList.drop (sIx items.size 0 lo)).take (sIx items.size items.size hi - sIx items.size 0 lo)).toArray):=by
  show ((items.toList.drop (sIx items.size 0 lo)).take (sIx items.size items.size hi - sIx items.size 0 lo)).toArray.size<=sizeLine;rw [List.size_toArray,List.length_take,List.length_drop,Array.length_toList];omega
 have hj:sIx items.size items.size hi<=items.size:=sIx_le _ _ (Nat.le_refl _) hi;obtain ⟨os,hos,hcs,hds⟩:=id hs;have hTs:s.TypeIs (.ref sl) "slice" :=⟨os,hos,hcs⟩;unfold getItem
 try with_reducible refine wpAny_holding ?_
 first | refine wpAny_bind (wpAny_pure ?_) | skip
 refine wpAny_bind (wpAny_sequenceKey ht.typeIs (by decide) ?_)
 refine wpAny_bind (wpAny_callSpecial?_slot (name:=Str.ofString "__getitem__") ht.typeIs PyProof.Rows.slot_tuple_getitem
  (wpAny_call_entry PyProof.Rows.slot_tuple_getitem ht.typeIs entry_tuple_getitem ?_ (args_tuple_getitem _ _)))
 show wpAny _ _ (Builtin.Tuple.tupleItemsOf (.ref t) >>= _) _ _ s;refine wpAny_bind (tupleItemsOf_ ht ?_);refine wpAny_bind (wpAny_typeOf hTs ?_);rw [if_pos (by decide)];refine wpAny_bind (sliceApplied_gen hs pl pu ?_)
 have hno:¬((((sIx items.size 0 lo:Nat):Int)==0 && (1:Int)==1 && (sIx items.size items.size hi - sIx items.size 0 lo)==items.size)=true):=by
  intro q;rw [Bool.and_eq_true,Bool.and_eq_true] at q
  have q1:((sIx items.size 0 lo:Nat):Int)=0:=eq_of_beq q.1.1;have q2:sIx items.size items.size hi - sIx items.size 0 lo=items.size:=eq_of_beq q.2;exact hw ⟨by omega,by omega⟩
 show wpAny _ _ (if (((sIx items.size 0 lo:Nat):Int)==0 && (1:Int)==1 && (sIx items.size items.size hi - sIx items.size 0 lo)==items.size)=true then _ else _) _ _ s;rw [if_neg hno,pick_gen]
 first
  | exact wpAny_bind (m:=Builtin.Tuple.tupleExact _) (wpAny_newObj_type (wpAny_pure ⟨_,rfl,wpAny_pure h⟩) htake)
  | exact wpAny_bind (m:=Builtin.Tuple.tupleExact _) (wpAny_newObj_type (wpAny_bind (wpAny_pure (wpAny_pure ⟨_,rfl,wpAny_pure h⟩))) htake)
  | exact wpAny_bind (wpAny_bind (m:=Builtin.Tuple.tupleExact _) (wpAny_newObj_type (wpAny_pure (wpAny_pure ⟨_,rfl,wpAny_pure h⟩)) htake))
  | exact wpAny_bind (wpAny_bind (m:=Builtin.Tuple.tupleExact _) (wpAny_newObj_type (wpAny_pure ⟨_,rfl,wpAny_pure h⟩) htake))
end
end HT
namespace L2
open PySem PySem.Spec PyProof.Rows
abbrev TO:=St->Hp->(Option Int->Hp->Prop)->Prop
def PO(X:Cx)(e:Option Expr)(t:TO):Prop:=
 ∀(pins:List (Addr×Obj)) (s:Shared) (σ:St) (H:Hp) (Q:Option Int->Hp->Prop),Inv X pins σ H s->t σ H Q ->
   wpAny (model X.prog X.w) X.A (evalPart e X.env) (fun u s'=>∃o H',Inv X pins σ H' s'/\IsPart u o/\Q o H') X.xe s
def tNoPart:TO:=fun _ H Q=>Q none H
def tPart(t:TE):TO:=fun σ H Q=>t σ H fun x H1=>∃i,x = .int i/\Q (some i) H1
section
variable {X:Cx} {e:Expr} {te:TE} {lo hi:Option Expr} {tl th:TO} {pos p2:Pos}
theorem po_none:PO X none tNoPart:=by
 intro pins s σ H Q I h;rw [evalPart_none];exact wpAny_pure ⟨none,H,I, .none,h⟩
theorem po_some(h:PE X e te):PO X (some e) (tPart te):=by
 intro pins s σ H Q I hw;rw [evalPart_some];refine thn (h pins s σ H _ I hw) fun u s1 ⟨x,H1,I1,r1,q1⟩ => ?_;obtain ⟨i,rfl,q⟩:=q1;obtain ⟨t,rfl⟩:=r1;exact ⟨some i,H1,I1, .int i t,q⟩
def SlR(X:Cx)(r:V->Option Int->Option Int->Hp->VK->Prop):Prop:=
 ∀(pins:List (Addr×Obj)) (s:Shared) (σ:St) (H:Hp) (x:V) (v vl vu:Value) (lo hi:Option Int) (sl:Addr) (Q:VK),Inv X pins σ H s->RelV x v->s.heap.IsSliceOf sl vl vu .none->IsPart vl lo->IsPart vu hi->r x lo hi H Q ->
   ∃T id,typeLookup (.type T) "__getitem__" = pure (some (.builtin id))/\s.TypeIs v T/\wpAny (model X.prog X.w) X.A (getItem v (.ref sl)) (EP X pins σ Q) X.xe s
theorem SlR.or{r r':V->Option Int->Option Int->Hp->VK->Prop}(h:SlR X r)(h':SlR X r'):SlR X (fun x lo hi H Q=>r x lo hi H Q\/r' x lo hi H Q):=by
 intro pins s σ H x v vl vu lo hi sl Q I rx hs pl pu q;rcases q with q | q
 . exact h pins s σ H x v vl vu lo hi sl Q I rx hs pl pu q
 . exact h' pins s σ H x v vl vu lo hi sl Q I rx hs pl pu q
def tSl(r:V->Option Int->Option Int->Hp->VK->Prop)(te:TE)(tl th:TO):TE:=fun σ H Q=>te σ H fun x H1=>tl σ H1 fun l H2=>th σ H2 fun u H3=>r x l u H3 Q
theorem pe_slice{r:V->Option Int->Option Int->Hp->VK->Prop}(hr:SlR X r)(he:PE X e te)(hl:PO X lo tl)(hu:PO X hi th):PE X (.Subscript e (.Slice lo hi none p2) pos) (tSl r te tl th):=by
 intro pins s σ H Q I h;refine Subscript_ (thn (he pins s σ H _ I h) fun v s1 ⟨x,H1,I1,r1,q1⟩ => ?_);refine wpAny_Slice (thn (hl pins s1 σ H1 _ I1 q1) fun vl s2 ⟨l,H2,I2,pl,q2⟩=>thn (hu pins s2 σ H2 _ I2 q2) fun vu s3 ⟨u,H3,I3,pu,q3⟩ => ?_);rw [evalPart_none];refine wpAny_pure ?_;have I4:Inv X pins σ H3 {s3 with heap:=s3.heap.push {cls:= .type "slice",data:= .fields #[vl,vu, .none]} }:=I3.kept (t':=s3.toks) fun b ob q=>Heap.get?_push_of_some _ q;obtain ⟨T,id,hT,ht,hg⟩:=hr pins {s3 with heap:=s3.heap.push {cls:= .type "slice",data:= .fields #[vl,vu, .none]} } σ H3 x v vl vu l u s3.heap.objs.size Q I4 r1 (Heap.IsSliceOf.new ..) pl pu q3;show wpAny (model X.prog X.w) X.A (subscriptTail e (.Slice lo hi none p2) v (.ref s3.heap.objs.size)) (EP X pins σ Q) X.xe {s3 with heap:=s3.heap.push {cls:= .type "slice",data:= .fields #[vl,vu, .none]} };exact tail_any (ops:= [.ref s3.heap.objs.size,v]) ht hT hg (by with_unfolding_all rfl)
def cutV(xs:List V)(lo hi:Option Int):List V:=(xs.drop (HT.sIx xs.length 0 lo)).take (HT.sIx xs.length xs.length hi - HT.sIx xs.length 0 lo)
theorem cutV_length(xs:List V)(lo hi:Option Int):(cutV xs lo hi).length<=xs.length:=by
 unfold cutV;rw [List.length_take,List.length_drop];omega
def rSlT(K:PySem.W.Frag):V->Option Int->Option Int->Hp->VK->Prop:=fun x lo hi H Q=>∃a xs,x = .ref a/\SqT K H a xs /\
 ¬(HT.sIx xs.length 0 lo=0/\HT.sIx xs.length xs.length hi=xs.length)/\∀p,H p=none->Q (.ref p) (upd H p (.tup (cutV xs lo hi)))
theorem sl_tup:SlR X (rSlT X.K):=by
 intro pins s σ H x v vl vu lo hi sl Q I rx hs pl pu h;obtain ⟨a,xs,rfl,hx,hw,q⟩:=h
 cases rx
 obtain ⟨its,r,ht,hz⟩:=I.tuple hx;have hlen:its.toArray.size=xs.length:=by rw [List.size_toArray];exact r.length.symm
 refine ⟨"tuple",_,PyProof.Rows.slot_tuple_getitem.lookup,ht.typeIs,?_⟩;refine HT.getItem_tuple_cut ht hs pl pu (by rw [hlen];exact hw) ?_ (by rw [hlen];exact hz);rw [hlen];refine ⟨.ref s.heap.objs.size,_,I.laid (t':=s.toks) (o:= .tup (cutV xs lo hi)) (fun b ob q=>Heap.get?_push_of_some _ q) (Nat.le_refl _) ?_,rfl,q _ (I.hok.fresh (Nat.le_refl _))⟩;exact ⟨Nat.le_trans (cutV_length xs lo hi) hz,_,(r.drop (HT.sIx xs.length 0 lo)).take (HT.sIx xs.length xs.length hi - HT.sIx xs.length 0 lo),IsTup.new _ _⟩
def rCatT(K:PySem.W.Frag):R2:=fun x y H Q=>∃a b xs ys,x = .ref a/\y = .ref b/\SqT K H a xs/\SqT K H b ys/\xs ≠ []/\xs.length+ys.length<=sizeLine /\
 (ys = []->Q (.ref a) H)/\(ys ≠ []->∀p,H p=none->Q (.ref p) (upd H p (.tup (xs++ys))))
theorem Vals.nil_iff{xs:List V}{us:List Value}(r:Vals xs us):us = []↔xs = []:=by
 cases r with
 | nil=>simp
 | cons _ _=>simp
theorem op_catT:OpR X (binaryOp .Add) (rCatT X.K):=by
 intro pins s σ H x y v u Q I rx ry h;obtain ⟨a,b,xs,ys,rfl,rfl,ha,hb,hx,hz,q1,q2⟩:=h
 cases rx
 cases ry
 obtain ⟨its,r1,p1,_⟩:=I.tuple ha;obtain ⟨its2,r2,p2,_⟩:=I.tuple hb;refine HT.cat_tup p1 p2 (fun z=>hx (r1.nil_iff.mp z)) (fun z=>⟨.ref a,H,I,rfl,q1 (r2.nil_iff.mp z)⟩) (fun z=> ?_) (by rw [<-r1.length, <-r2.length];exact hz);refine ⟨.ref s.heap.objs.size,_,I.laid (t':=s.toks) (o:= .tup (xs++ys)) (fun b ob q=>Heap.get?_push_of_some _ q) (Nat.le_refl _) ?_,rfl,q2 (fun w=>z (r2.nil_iff.mpr w)) _ (I.hok.fresh (Nat.le_refl _))⟩;exact ⟨by rw [List.length_append];exact hz,_,r1.append r2,IsTup.new _ _⟩
end
end L2
namespace L2
open PySem PySem.Spec PyProof.Rows
def ixN(n:Nat)(i:Int):Option Nat:=if 0<=i then (if i<n then some i.toNat else none) else if -(n:Int)<=i then some (i+n).toNat else none
def atI{α:Type}(xs:List α)(i:Int):Option α:=(ixN xs.length i).bind fun j=>xs[j]?
theorem ixN_seq{n:Nat}{i:Int}{j:Nat}(h:ixN n i=some j):seqIndex? i n=some j/\j<n /\ -(n:Int)<=i/\i<n:=by
 unfold ixN at h
 by_cases h0:0<=i
 . rw [if_pos h0] at h
   by_cases h1:i<n
   . rw [if_pos h1] at h
     have e:i.toNat=j:=Option.some.inj h;exact ⟨by rw [seqIndex_of h0 h1,e],by omega,by omega,h1⟩
   . rw [if_neg h1] at h;cases h
 . rw [if_neg h0] at h
   by_cases h1 : -(n:Int)<=i
   . rw [if_pos h1] at h
     have e:(i+n).toNat=j:=Option.some.inj h;exact ⟨by rw [seqIndex_neg (by omega) h1,e],by omega,h1,by omega⟩
   . rw [if_neg h1] at h;cases h
theorem atI_get{α:Type}{xs:List α}{i:Int}{v:α}(h:atI xs i=some v):∃j,seqIndex? i xs.length=some j/\xs[j]? = some v/\j<xs.length /\ -(xs.length:Int)<=i/\i<xs.length:=by
 unfold atI at h
 cases e:ixN xs.length i with
 | none=>rw [e] at h;cases h
 | some j=>
  rw [e] at h
  obtain ⟨h1,h2,h3,h4⟩:=ixN_seq e;exact ⟨j,h1,h,h2,h3,h4⟩
def PlainIx(b:Expr):Prop:=∀o i,subscripted b false o i=operate [o,i] (getItem o i)
def IxR(X:Cx)(r:R2):Prop:=
 ∀(value slice:Expr) (pins:List (Addr×Obj)) (s:Shared) (σ:St) (H:Hp) (x y:V) (v u:Value) (Q:VK),Inv X pins σ H s->RelV x v->RelV y u->r x y H Q ->
   subscripted slice false v u=operate [v,u] (getItem v u)->wpAny (model X.prog X.w) X.A (subscriptTail value slice v u) (EP X pins σ Q) X.xe s
def MtR(X:Cx)(id:String)(r:V->List V->Hp->VK->Prop):Prop:=
 ∀(pins:List (Addr×Obj)) (s:Shared) (σ:St) (H:Hp) (x:V) (xs:List V) (v:Value) (us:List Value) (Q:VK),Inv X pins σ H s->RelV x v->Vals xs us->r x xs H Q ->
   wpAny (model X.prog X.w) X.A (call (.builtin id) (v::us)) (EP X pins σ Q) X.xe s
section
variable {X:Cx} {a b:Expr} {ta tb:TE} {pos:Pos}
theorem IxR.or{r r':R2}(h:IxR X r)(h':IxR X r'):IxR X (fun x y H Q=>r x y H Q\/r' x y H Q):=by
 intro value slice pins s σ H x y v u Q I rx ry q hs;rcases q with q | q
 . exact h value slice pins s σ H x y v u Q I rx ry q hs
 . exact h' value slice pins s σ H x y v u Q I rx ry q hs
theorem pe_ix{r:R2}(hr:IxR X r)(ha:PE X a ta)(hb:PE X b tb)(hs:PlainIx b):PE X (.Subscript a b pos) (tOp r ta tb):=by
 intro pins s σ H Q I h;exact Subscript_ (binT ha hb I h fun v u s2 x y H2 I2 rx ry q=>hr a b pins s2 σ H2 x y v u Q I2 rx ry q (hs _ _))
def rIxL(K:PySem.W.Frag):R2:=fun x y H Q=>∃p xs i v,x = .ref p/\y = .int i/\SqL K H p xs/\atI xs i=some v/\Q v H
def rIxT(K:PySem.W.Frag):R2:=fun x y H Q=>∃p xs i v,x = .ref p/\y = .int i/\SqT K H p xs/\atI xs i=some v/\Q v H
def rIxS:R2:=fun x y H Q=>∃z i c,x = .str z/\y = .int i/\z.length<=sizeLine/\atI z.cps.toList i=some c/\Q (.str ⟨#[c]⟩) H
theorem ix_list:IxR X (rIxL X.K):=by
 intro value slice pins s σ H x y v u Q I rx ry h hs;obtain ⟨p,xs,i,z,rfl,rfl,hq,he,q⟩:=h
 cases rx
 obtain ⟨t,rfl⟩:=ry;obtain ⟨its,r,pl,hz⟩:=I.list hq;obtain ⟨j,h1,h2,h3,h4,h5⟩:=atI_get he;obtain ⟨w,ew,rw'⟩:=r.get h2;have hl:=r.length;have hn:=line63;have fin:EP X pins σ Q w s:=⟨z,H,I,rw',q⟩
 by_cases h0:0<=i
 . have hj : i.toNat = j := by
    rw [seqIndex_of h0 h5] at h1
    exact Option.some.inj h1
   exact item_listR pl.isList h0 (by omega) (by rw [hj];simpa using ew) fin hs
 . have hj : (i + (its.toArray.size : Int)).toNat = j := by
    rw [seqIndex_neg (by omega) h4] at h1
    rw [List.size_toArray, <-hl];exact Option.some.inj h1
   exact subscriptTail_builtinR (x:=w) pl.isList.typeIs slot_list_getitem.lookup
    (wpAny_getItem_list_neg (Q:=fun r s'=>r=w/\EP X pins σ Q r s') pl.isList (by omega) (by rw [List.size_toArray] <;> omega) (by omega) (by rw [hj];simpa using ew) ⟨rfl,fin⟩) hs
theorem ix_tup:IxR X (rIxT X.K):=by
 intro value slice pins s σ H x y v u Q I rx ry h hs;obtain ⟨p,xs,i,z,rfl,rfl,hq,he,q⟩:=h
 cases rx
 obtain ⟨t,rfl⟩:=ry;obtain ⟨its,r,pl,hz⟩:=I.tuple hq;obtain ⟨j,h1,h2,h3,h4,h5⟩:=atI_get he;obtain ⟨w,ew,rw'⟩:=r.get h2;have hl:=r.length;have hn:=line63;have fin:EP X pins σ Q w s:=⟨z,H,I,rw',q⟩
 exact subscriptTail_builtinR (x:=w) pl.typeIs slot_tuple_getitem.lookup
  (getItem_tuple (j:=j) (Q:=fun r s'=>r=w/\EP X pins σ Q r s') pl (by omega) (by omega) (by rw [List.size_toArray, <-hl];exact h1) (by simpa using ew) ⟨rfl,fin⟩) hs
theorem ix_str:IxR X rIxS:=by
 intro value slice pins s σ H x y v u Q I rx ry h hs;obtain ⟨z,i,c,rfl,rfl,hz,he,q⟩:=h;obtain ⟨t,rfl⟩:=rx;obtain ⟨t',rfl⟩:=ry;obtain ⟨j,h1,h2,h3,h4,h5⟩:=atI_get he;have hl:z.cps.toList.length=z.length:=by simp [Str.length]
 rw [hl] at h1 h4 h5
 have hn:=line63
 exact tail_any (typeIs_str s z t) slot_str_getitem.lookup (getItem_str (c:=c) (by
  have e1:decide (i < -(2 ^ 63:Int))=false:=decide_eq_false (by omega);have e2:decide (i≥2 ^ 63)=false:=decide_eq_false (by omega);rw [e1,e2,Bool.or_false]) (by rw [h1];simpa using h2) ⟨.str ⟨#[c]⟩,H,I.tok _,⟨_,rfl⟩,q⟩) hs
def rIx(K:PySem.W.Frag):R2:=fun x y H Q=>rIxL K x y H Q\/rIxT K x y H Q\/rIxS x y H Q
theorem ix_seq:IxR X (rIx X.K):=ix_list.or (ix_tup.or ix_str)
theorem slice_bounds(lo hi:Option Int)(n:Nat):(sliceBounds lo hi none n).1=((HT.sIx n 0 lo:Nat):Int)/\(sliceBounds lo hi none n).2.1=((HT.sIx n n hi:Nat):Int)/\(sliceBounds lo hi none n).2.2=1:=by
 refine ⟨?_,?_,rfl⟩
 . cases lo with
   | none=>simp [sliceBounds,HT.sIx]
   | some i=>
    simp only [sliceBounds,HT.sIx,Option.getD_none,show (1:Int)>0 by decide,if_true]
    by_cases h:i<0
    . simp only [h,if_true] <;> omega
    . simp only [h,if_false] <;> omega
 . cases hi with
   | none=>simp [sliceBounds,HT.sIx]
   | some i=>
    simp only [sliceBounds,HT.sIx,Option.getD_none,show (1:Int)>0 by decide,if_true]
    by_cases h:i<0
    . simp only [h,if_true] <;> omega
    . simp only [h,if_false] <;> omega
theorem slicePick_cut(its:List Value)(lo hi:Option Int):slicePick its.toArray lo hi none=((its.drop (HT.sIx its.length 0 lo)).take (HT.sIx its.length its.length hi - HT.sIx its.length 0 lo)).toArray:=by
 obtain ⟨h1,h2,h3⟩:=slice_bounds lo hi its.toArray.size;unfold slicePick;rw [h1,h2,h3];simp only [sliceRange_one,pick_run,List.size_toArray] <;> rfl
def rSlL(K:PySem.W.Frag):V->Option Int->Option Int->Hp->VK->Prop:=fun x lo hi H Q=>∃a xs,x = .ref a/\SqL K H a xs/\∀p,H p=none->Q (.ref p) (upd H p (.lst (cutV xs lo hi)))
theorem sl_list:SlR X (rSlL X.K):=by
 intro pins s σ H x v vl vu lo hi sl Q I rx hs pl pu h;obtain ⟨a,xs,rfl,hx,q⟩:=h
 cases rx
 obtain ⟨its,r,ht,hz⟩:=I.list hx;have hlen:=r.length;refine ⟨"list",_,slot_list_getitem.lookup,ht.isList.typeIs,?_⟩;refine wpAny_getItem_list_slice ht.isList hs pl pu .none (by simp) ?_ (by rw [List.size_toArray] <;> omega);rw [slicePick_cut, <-hlen];refine ⟨.ref s.heap.objs.size,_,I.laid (t':=s.toks) (o:= .lst (cutV xs lo hi)) (fun b ob q=>Heap.get?_push_of_some _ q) (Nat.le_refl _) ?_,rfl,q _ (I.hok.fresh (Nat.le_refl _))⟩;exact ⟨Nat.le_trans (cutV_length xs lo hi) hz,_,0,(r.drop (HT.sIx xs.length 0 lo)).take (HT.sIx xs.length xs.length hi - HT.sIx xs.length 0 lo),Heap.get?_push_size _ rfl⟩
theorem call_len_seq:CallR X (.builtin "len") (fun xs H Q=>∃p ys,xs = [.ref p]/\(SqL X.K H p ys\/SqT X.K H p ys)/\Q (.int ys.length) H):=by
 intro pins s σ H xs us Q I r h;obtain ⟨p,ys,rfl,hq,q⟩:=h;obtain ⟨u,rfl,rx⟩:=vals1 r
 cases rx
 have hn:=line63;rcases hq with hq | hq
 . obtain ⟨its,r',pl,hz⟩:=I.list hq;have hlen:=r'.length;exact Calls.call_len_list pl.isList (by simp only [List.size_toArray] <;> omega) ⟨.int ys.length,H,I.tok _,⟨s.toks+1,by rw [List.size_toArray,hlen]⟩,q⟩
 . obtain ⟨its,r',pl,hz⟩:=I.tuple hq;have hlen:=r'.length;exact len_tuple pl (by simp only [List.size_toArray] <;> omega) ⟨.int ys.length,H,I.tok _,⟨s.toks+1,by rw [List.size_toArray,hlen]⟩,q⟩
theorem call_len_str:CallR X (.builtin "len") (fun xs H Q=>∃z,xs = [.str z]/\z.length<=sizeLine/\Q (.int z.length) H):=by
 intro pins s σ H xs us Q I r h;obtain ⟨z,rfl,hz,q⟩:=h;obtain ⟨u,rfl,t,rfl⟩:=vals1 r;have hn:=line63;exact len_str (by omega) ⟨.int z.length,H,I.tok _,⟨_,rfl⟩,q⟩
theorem call_list_of:CallR X (.type "list") (fun xs H Q=>∃p ys,xs = [.ref p]/\(SqL X.K H p ys\/SqT X.K H p ys)/\∀l,H l=none->Q (.ref l) (upd H l (.lst ys))):=by
 intro pins s σ H xs us Q I r h;obtain ⟨p,ys,rfl,hq,q⟩:=h;obtain ⟨u,rfl,rx⟩:=vals1 r
 cases rx
 have fin : ∀ (its : List Value), Vals ys its -> ys.length <= sizeLine -> ∀ (h' : Heap) (c' : Nat), (∀ b o', s.heap.get? b = some o' -> h'.get? b = some o') ->
  h'.get? s.heap.objs.size=some {cls:= .type "list",dict:=none,data:= .seq its.toArray c',slots:= #[]}->EP X pins σ Q (.ref s.heap.objs.size) {s with heap:=h' }:=fun its r' hz h' c' kp e=>
  ⟨.ref s.heap.objs.size,_,I.laid (t':=s.toks) kp (Nat.le_refl _) (show ObjOk X.prog X.w _ h' _ (.lst ys) from ⟨hz,its,c',r',e⟩),rfl,q _ (I.hok.fresh (Nat.le_refl _))⟩
 rcases hq with hq | hq
 . obtain ⟨its,r',pl,hz⟩:=I.list hq;have hlen:=r'.length;obtain ⟨o,ho,hc,n,hd⟩:=pl.isList;exact call_list_seq p (.inl rfl) ho hc hd (fun h' c' kp e=>fin its r' hz h' c' kp e) (by simp only [List.size_toArray] <;> omega)
 . obtain ⟨its,r',pl,hz⟩:=I.tuple hq;have hlen:=r'.length;obtain ⟨o,ho,hc,n,hd⟩:=pl;exact call_list_seq p (.inr rfl) ho hc hd (fun h' c' kp e=>fin its r' hz h' c' kp e) (by simp only [List.size_toArray] <;> omega)
theorem call_tuple_of:CallR X (.type "tuple") (fun xs H Q=>∃p ys,xs = [.ref p]/\((SqL X.K H p ys/\∀l,H l=none->Q (.ref l) (upd H l (.tup ys)))\/(SqT X.K H p ys/\Q (.ref p) H))):=by
 intro pins s σ H xs us Q I r h;obtain ⟨p,ys,rfl,h⟩:=h;obtain ⟨u,rfl,rx⟩:=vals1 r
 cases rx
 rcases h with ⟨hq,q⟩ | ⟨hq,q⟩
 . obtain ⟨its,r',pl,hz⟩:=I.list hq;have hlen:=r'.length;refine call_tuple_list pl.isList (fun h' kp=> ?_) (by simp only [List.size_toArray] <;> omega);have I1:Inv X pins σ H {s with heap:=h' }:=I.kept (t':=s.toks) kp
   have I2:Inv X pins σ (upd H h'.objs.size (.tup ys)) {s with heap:=h'.push {cls:= .type "tuple",data:= .seq its.toArray} } :=
    I1.laid (t':=s.toks) (fun b o e=>Heap.get?_push_of_some _ e) (Nat.le_refl _) (show ObjOk X.prog X.w _ _ _ (.tup ys) from ⟨hz,its,r',IsTup.new _ _⟩)
   exact ⟨.ref h'.objs.size,_,I2,rfl,q _ (I1.hok.fresh (Nat.le_refl _))⟩
 . obtain ⟨its,r',pl,hz⟩:=I.tuple hq;exact call_tuple_same pl ⟨.ref p,H,I,rfl,q⟩
def tyV(K:PySem.W.Frag)(T:String)(x:V)(H:Hp):Prop:=match x with
 | .str _=>T = "str"
 | .int _=>T = "int"
 | .ref p => (T = "list" /\ ∃ xs, SqL K H p xs) \/ (T = "tuple" /\ ∃ o, K.lookup p = some o /\ o.cls = .type "tuple" /\ o.dict = none) \/
  (T = "dict" /\ ((∃kvs,H p=some (.dK kvs))\/∃kvs,H p=some (.dT kvs)))\/(T = "set" /\ ∃S n,H p=some (.set S n))
 | _=>False
theorem tyV_is {pins : List (Addr × Obj)} {σ : St} {H : Hp} {s : Shared} {T : String} {x : V} {v : Value} (I : Inv X pins σ H s) (r : RelV x v) (ty : tyV X.K T x H) :
 s.TypeIs v T/\∀a,v = .ref a->∃ob,s.heap.get? a=some ob/\ob.dict=none:=by
 cases x with
 | str z=>
  obtain ⟨t,rfl⟩:=r
  cases (show T = "str" from ty)
  exact ⟨typeIs_str s z t,fun _ e=>nomatch e⟩
 | int i=>
  obtain ⟨t,rfl⟩:=r
  cases (show T = "int" from ty)
  exact ⟨typeIs_int s i t,fun _ e=>nomatch e⟩
 | ref p=>
  cases r
  rcases ty with ⟨rfl,xs,hq⟩ | ⟨rfl,o,hk,hc,hd⟩ | ⟨rfl,hk⟩ | ⟨rfl,S,n,hk⟩
  . obtain ⟨its,_,pl,_⟩:=I.list hq;refine ⟨pl.isList.typeIs,fun a e=> ?_⟩
    cases e
    obtain ⟨o,n,e,c,hd,_⟩:=pl;exact ⟨o,e,hd⟩
  . refine ⟨⟨o,I.kIn p o hk,hc⟩,fun a e=> ?_⟩
    cases e
    exact ⟨o,I.kIn _ o hk,hd⟩
  . have z : ∃ o, s.heap.get? p = some o /\ o.ExactDict := by
     rcases hk with ⟨kvs,hk⟩ | ⟨kvs,hk⟩
     . obtain ⟨_,_,_,_,o,_,_,e,ex,_⟩:=I.hok p _ hk;exact ⟨o,e,ex⟩
     . obtain ⟨_,_,_,_,o,_,_,e,ex,_⟩:=I.hok p _ hk;exact ⟨o,e,ex⟩
    obtain ⟨o,e,ex⟩:=z;refine ⟨⟨o,e,ex.1⟩,fun a e2=> ?_⟩
    cases e2
    exact ⟨o,e,ex.2.1⟩
  . obtain ⟨o,_,_,_,e,ex,_⟩:=I.hok p _ hk;refine ⟨⟨o,e,ex.1⟩,fun a e2=> ?_⟩
    cases e2
    exact ⟨o,e,ex.2.1⟩
 | _=>exact False.elim ty
def tBM(K:PySem.W.Frag)(T:String)(r:V->List V->Hp->VK->Prop)(to:TE)(t:TA):TE:=fun σ H Q=>to σ H fun x H1=>tyV K T x H1/\t σ H1 fun xs H2=>r x xs H2 Q
variable {o e:Expr} {es:List Expr} {to:TE} {t:TA} {name:Str} {apos cpos:Pos} {T id:String} {r:V->List V->Hp->VK->Prop}
theorem pe_bm (pa : PlainAttrs T) (slot : Slot T name id) (hty : typeOf (.builtin id) = pure (.type "method_descriptor")) (hm : MtR X id r) (ho : PE X o to) (ha : PA X (e :: es) t)
 (hbase:attributeBase o name X.env (eval o X.env)=eval o X.env:=by rfl)
 (hfew:((backTo cpos (starEach (e::es) X.env)).all (fun x=> !x.1) && (backToKw cpos (keywordEach [] X.env)).all (fun x=>x.1.isSome)
  && decide ((e::es).length+([]:List Keyword).length+(if ([]:List Keyword).isEmpty then 0 else 1)<30))=true:=by rfl)
 (hline:(apos.endLine==cpos.line)=true:=by rfl) (hs:starEach (e::es) X.env=(false,eval e X.env)::starEach es X.env:=by rfl) (hplain:(backTo cpos (starEach es X.env)).any (·.1)=false:=by rfl) :
 PE X (.Call (.Attribute o name apos) (e::es) [] cpos) (tBM X.K T r to t):=by
 intro pins s σ H Q I h;refine wpAny_Call_method_late hbase hfew hline rfl (thn (ho pins s σ H _ I h) fun v s1 ⟨x,H1,I1,r1,ty,q1⟩ => ?_);obtain ⟨h1,h2⟩:=tyV_is I1 r1 ty;refine ⟨T,id,pa,slot,hty,h1,h2,?_⟩;have hA:=ha cpos pins s1 σ H1 _ I1 q1;rw [hs] at hA ⊢
 refine Calls.callWith_builtin (by show (false || (backTo cpos (starEach es X.env)).any (·.1))=false;rw [hplain] <;> rfl) (Calls.evalArgs_plain ?_);exact thn hA fun us s2 ⟨vs,H2,I2,r2,q2⟩=>hm pins s2 σ H2 x vs v us Q I2 r1 r2 q2
/- xs.append(e),list.index on a module's tuple .. are MtR facts of 06m -/
end
end L2
namespace L2
open PySem PySem.Spec PyProof.Rows
def MtM(X:Cx)(id:String)(r:V->List V->Hp->VK->Prop):Prop:=
 ∀(pins:List (Addr×Obj)) (s:Shared) (σ:St) (H:Hp) (x:V) (xs:List V) (v:Value) (us:List Value) (Q:VK),Inv X pins σ H s->RelV x v->Vals xs us->r x xs H Q ->
   wpAny (model X.prog X.w) X.A (call (.builtin id) (v::us)) (EP X pins σ Q) X.xe s
theorem Vals.one:∀ {x:V} {us:List Value},Vals [x] us->∃u,us = [u]/\RelV x u
 | _,_, .cons r .nil=>⟨_,rfl,r⟩
theorem Vals.zero:∀ {us:List Value},Vals [] us->us = []
 | _, .nil=>rfl
theorem Vals.dropLast{xs:List V}{us:List Value}(h:Vals xs us):Vals xs.dropLast us.dropLast:=by
 induction h with
 | nil=>exact .nil
 | cons r t ih=>
  cases t with
  | nil=>exact .nil
  | cons q t'=>exact .cons r ih
theorem Vals.eraseIdx:∀ {xs:List V} {us:List Value} (i:Nat),Vals xs us->Vals (xs.eraseIdx i) (us.eraseIdx i)
 | _,_,_, .nil=> .nil
 | _,_,0, .cons _ t=>t
 | _,_,i+1, .cons r t=> .cons r (Vals.eraseIdx i t)
theorem Vals.reverse{xs:List V}{us:List Value}(h:Vals xs us):Vals xs.reverse us.reverse:=by
 induction h with
 | nil=>exact .nil
 | cons r t ih=>rw [List.reverse_cons,List.reverse_cons];exact Vals.append ih (.cons r .nil)
theorem Vals.rep{xs:List V}{us:List Value}(h:Vals xs us):∀k:Nat,Vals (List.replicate k xs).flatten (List.replicate k us).flatten
 | 0=> .nil
 | k+1=>by
  rw [List.replicate_succ,List.replicate_succ,List.flatten_cons,List.flatten_cons];exact Vals.append h (Vals.rep h k)
theorem foldl_rep (its : List Value) : ∀ (k : Nat) (acc : List Value),
 List.foldl (fun x1 x2=>x1++x2) acc.toArray (List.replicate k its.toArray)=(acc++(List.replicate k its).flatten).toArray
 | 0,acc=>by simp
 | k+1,acc=>by
  have e:acc.toArray++its.toArray=(acc++its).toArray:=by simp
  have e2:(acc++its)++(List.replicate k its).flatten=acc++(List.replicate (k+1) its).flatten:=by
   rw [List.replicate_succ,List.flatten_cons,List.append_assoc]
  rw [<-e2, <-foldl_rep its k (acc++its), <-e,List.replicate_succ,List.foldl_cons]
section
variable {X:Cx} {pins:List (Addr×Obj)} {σ:St} {H:Hp} {s:Shared} {l b:Addr} {xs ys zs:List V}
theorem Inv.lset {its its' : List Value} {n : Nat} {f : Array Value -> Array Value} {t' : Nat} (I : Inv X pins σ H s) (hH : H l = some (.lst xs))
 (e:s.heap.get? l=some {cls:= .type "list",data:= .seq its.toArray n}) (hf:f its.toArray=its'.toArray) (hv:Vals ys its') (hz:ys.length<=sizeLine) :
 Inv X pins σ (upd H l (.lst ys)) {s with heap:=s.heap.update l (Obj.mapSeq f),toks:=t' }:=by
 have q:=PySem.IsL.update e f;rw [hf] at q
 refine I.write (x:=l) (e:=l) (by rw [hH];exact trivial) (.inl rfl) (fun b' u hb hu=>(Heap.get?_update_other s.heap (Obj.mapSeq f) (Ne.symm hb)).trans hu) ⟨_,q⟩ ?_;exact ⟨hz,its',_,hv,q⟩
theorem Inv.lnew {its : List Value} {t' : Nat} (I : Inv X pins σ H s) (hv : Vals ys its) (hz : ys.length <= sizeLine) :
 Inv X pins σ (upd H s.heap.objs.size (.lst ys)) {s with heap:=s.heap.push {cls:= .type "list",data:= .seq its.toArray},toks:=t' } :=
 I.laid (fun _ _ q=>Heap.get?_push_of_some _ q) (Nat.le_refl _) ⟨hz,its,0,hv,Heap.get?_push_size _ rfl⟩
theorem Inv.fresh(I:Inv X pins σ H s):H s.heap.objs.size=none:=I.hok.fresh (Nat.le_refl _)
theorem Inv.lstM(I:Inv X pins σ H s)(hH:H l=some (.lst xs)):xs.length<=sizeLine/\∃(its:List Value) (n:Nat),Vals xs its/\xs.length=its.length/\s.heap.get? l=some {cls:= .type "list",data:= .seq its.toArray n}:=by
 obtain ⟨z,its,n,r,e⟩:=I.hok l _ hH;exact ⟨z,its,n,r,r.length,e⟩
theorem notLongL{n:Nat}(h:n<=sizeLine):Builtin.List.listTooLong n=false:=by
 unfold Builtin.List.listTooLong;exact decide_eq_false (by omega)
end
section
variable {X:Cx}
def rAppend:V->List V->Hp->VK->Prop:=fun x vs H Q=>∃l xs y,x = .ref l/\vs = [y]/\H l=some (.lst xs)/\xs.length<sizeLine/\Q .non (upd H l (.lst (xs ++ [y])))
theorem mt_append:MtM X "list.append" rAppend:=by
 intro pins s σ H x vs v us Q I rx rv h;obtain ⟨l,xs,y,rfl,rfl,hH,hz,q⟩:=h
 cases rx
 obtain ⟨u,rfl,ru⟩:=rv.one;obtain ⟨z,its,n,r,hl,e⟩:=I.lstM hH;refine call_meets F.slot_list_append ⟨_,e,rfl⟩ F.entry_list_append (F.args_list_append_2 _ _) (PySem.list_append l its.toArray n u (by rw [List.size_toArray];omega)) ⟨e,?_⟩;refine ⟨.non,_,I.lset (its':=its ++ [u]) hH e (by simp) (r.append (.cons ru .nil)) ?_,rfl,q⟩;rw [List.length_append,List.length_singleton];omega
def rRep:R2:=fun x y H Q=>∃l k xs,x = .ref l/\y = .int k/\H l=some (.lst xs) /\ -(2 ^ 63)<=k/\k<2 ^ 63/\xs.length*k.toNat<=sizeLine /\
 ∀p,H p=none->Q (.ref p) (upd H p (.lst (List.replicate k.toNat xs).flatten))
theorem len_rep{α:Type}(xs:List α)(k:Nat):(List.replicate k xs).flatten.length=k*xs.length:=by
 induction k with
 | zero=>simp
 | succ k ih=>rw [List.replicate_succ,List.flatten_cons,List.length_append,ih,Nat.succ_mul,Nat.add_comm]
theorem op_rep:OpR X (binaryOp .Mult) rRep:=by
 intro pins s σ H x y v u Q I rx ry h;obtain ⟨l,k,xs,rfl,rfl,hH,h1,h2,hz,q⟩:=h
 cases rx
 obtain ⟨t,rfl⟩:=ry;obtain ⟨z,its,n,r,hl,e⟩:=I.lstM hH;have hlen:its.toArray.size*k.toNat<=sizeLine:=by rw [List.size_toArray, <-hl];exact hz
 have hcap:¬its.toArray.size*k.toNat>(2 ^ 63 - 1) / 8:=by
  have:(sizeLine:Nat)<=(2 ^ 63 - 1) / 8:=by decide
  omega
 have hfit:¬(!Builtin.List.listFitsIndex k)=true:=by
  rw [fitsIndex_both h1 h2];exact Bool.false_ne_true
 have hlong:¬Builtin.List.listTooLong (its.toArray.size*k.toNat)=true:=by
  rw [notLongL hlen];exact Bool.false_ne_true
 have hnew:List.foldl (fun x1 x2=>x1++x2) #[] (List.replicate (if its.toArray.isEmpty=true then 0 else k.toNat) its.toArray)=(List.replicate k.toNat its).flatten.toArray:=by
  have f0:∀m:Nat,List.foldl (fun x1 x2=>x1++x2) #[] (List.replicate m its.toArray)=(List.replicate m its).flatten.toArray:=fun m=>by
   have:=foldl_rep its m [];rw [List.nil_append] at this
   exact this
  rw [f0]
  cases its with
  | nil=>simp
  | cons a r'=>rw [if_neg (by simp)]
 refine wpAny_binaryOp_repeat_ref (T:= "list") (U:= "int") (by decide) ⟨_,e,rfl⟩ (fun s'=>typeIs_int s' k t) noFill_list_mul F.fills_int_mul F.slot_int_rmul repeat_list F.slot_int_index.lookup
  (call_meets F.slot_int_rmul (typeIs_int s k t) F.entry_int_rmul (F.args_int_rmul_2 _ _) (int___rmul___int_list k t l its.toArray n)
   ⟨e,rfl,⟨_,e,rfl⟩,call_meets F.slot_list_mul ⟨_,e,rfl⟩ F.entry_list_mul (F.args_list_mul_2 _ _) (AutoListH.list___mul___list_int_3 l its.toArray n k t hfit hcap hlong) ⟨e,?_⟩⟩)
 rw [hnew];exact ⟨.ref _,_,I.lnew (t':=s.toks) (r.rep k.toNat) (by rw [len_rep,Nat.mul_comm];exact hz),rfl,q _ I.fresh⟩
end
section
variable {prog:Program} {w:World} {A:Around} {E:Value->Shared->Prop} {s:Shared}
end
section
variable {X:Cx}
end
end L2
namespace Att
open PySem PySem.W PySem.Calls PyProof.Rows
theorem ints_of_wellAll{P:Params}{h:Heap}:∀(ns:List Int) (vs:List Value),WellAll P h vs (ns.map WData.int)->IntsAre vs ns:=by
 intro ns
 induction ns with
 | nil=>
  intro vs w;rw [List.map_nil] at w
  cases w
  exact .nil
 | cons n ns ih=>
  intro vs w;rw [List.map_cons] at w
  cases w with
  | cons a b=>
   cases a
   exact .cons _ _ (ih _ b)
theorem script_of {l : OpenLaw} {n : Nat} (hn : l.most = some n) {P : Params} {h : Heap} {args : List WData} {vals : List Value}
 (hpre:l.row.toRowW.claim.pre args=true) (hwl:WellAll P h vals args) :
 ∃a vs ns,vals = [Value.ref a]/\args = [WData.list (ns.map WData.int)]/\h.get? a=some {cls:= .type "list",data:= .seq vs.toArray}/\IntsAre vs ns/\ns.length<=n:=by
 have hsh:WShape.hasAll [] args [.list .int]=true:=(pre_splitW hpre).1;have hc:l.pre.holds [] {args:=args}=true:=(pre_splitW hpre).2;obtain ⟨d,r,rfl,h1,h2⟩:=hasAllW_cons hsh;obtain rfl:=hasAllW_nil h2;obtain ⟨xs,rfl,h3⟩:=hasW_list h1;obtain ⟨ns,rfl⟩:=items_int h3
 have hlen:ns.length<=n:=by
  unfold OpenLaw.pre at hc
  have h4:(WTm.not (.lt (.lit (.int (n:Int))) (.len (.arg 0)))).holds [] {args:= [.list (ns.map .int)]}=true:=by
   have h4:=(holds_andW hc).1;rw [hn] at h4
   exact h4
  have h5:=condW_of h4 (w_not (w_lt w_lit (w_len_list (w_arg rfl))));rw [List.length_map] at h5
  refine Nat.le_of_not_lt fun q=> ?_;have q':(n:Int)<((ns.length:Nat):Int):=by omega
  first
   | (rw [decide_eq_true q'] at h5;exact absurd h5 (by decide))
   | (simp at h5;omega)
 cases hwl with
 | cons w1 w2=>
  cases w2
  cases w1 with
  | list ho hall=>exact ⟨_,_,ns,rfl,rfl,ho,ints_of_wellAll ns _ hall,hlen⟩
theorem post_true(l:OpenLaw)(args:List WData):l.row.toRowW.claim.post args (.bool true) args=true:=
 postW_of (r:=l.row.toRowW) (X:=(true==true))
  (show WShape.has [] (.bool true) .bool=true by first | rfl | decide | simp [WShape.has,WShape.arms,WShape.armsAll])
  (show (WTm.eq .res (.lit (.bool true))).value [] {args:=args,res:=some (.bool true),after:=args}=some (.bool (true==true)) from w_eq_bool (w_res rfl) w_lit) rfl
section
variable {prog:Program} {w:World} {A:Around} {E:Value->Shared->Prop} {s:Shared} {K:Frag}
end
end Att
namespace L2
open PySem PySem.Spec PyProof.Rows
theorem vals_ints:∀ {vs:List Value} {ns:List Int},IntsAre vs ns->Vals (ns.map V.int) vs
 | _,_, .nil=> .nil
 | _,_, .cons n t h=> .cons ⟨t,rfl⟩ (vals_ints h)
end L2
namespace L2
open PySem PySem.Spec PyProof.Rows
def defArgs(s:Stmt):Arguments:=match s with
 | .FunctionDef _ a _ _ _ _ _ _ _ _=>a
 | _=>{posonlyargs:= [],args:= [],vararg:=none,kwonlyargs:= [],kw_defaults:= [],kwarg:=none,defaults:= []}
def defBody(s:Stmt):List Stmt:=match s with
 | .FunctionDef _ _ b _ _ _ _ _ _ _=>b
 | _=> []
def defScope(s:Stmt):Scope:=match s with
 | .FunctionDef _ _ _ _ _ _ sc _ _ _=>sc
 | _=>{kind:= .function,names:= [],isGenerator:=false,isCoroutine:=false}
abbrev CX0:CXT:=fun _ _ _ _ _ _=>False
abbrev E0:XK:=fun _ _ _=>False
theorem pass0{X:Cx}:Passes CX0 X E0:=fun _ _ _ _ _ _ _ h=>h.elim
structure Fun (K:PySem.W.Frag) (x qual:Str) (st:Stmt) (f:Addr) (fd:FuncData):Prop where
 ex:∃(oc:Value) (od:Option Addr) (kV doc pm:Value) (an:Option Addr) (cdv ct:Value) (osl:Array (Option Value)),
  fd=PySem.W.fnOf x qual (defArgs st) (defBody st) (defScope st) .none kV doc pm an cdv ct/\K.lookup f=some ⟨oc,od, .func fd,osl⟩/\PySem.W.codeIn K cdv qual=true
 kp:PySem.W.keepIn K (.ref f)=true
section
variable {P:Program} {w:World} {K:PySem.W.Frag} {mg:Str->Option Value} {base:Heap}
theorem Fun.ok {x qual : Str} {st : Stmt} {f : Addr} {fd : FuncData} {N ps : List Str} {k : Nat} {sp : Sp} (F : Fun K x qual st f fd) (S : FnScope N ps (defScope st)) (len : ∀ vs H Q E, sp vs H Q E -> vs.length = ps.length)
 (hbody:∀(cdv:Value) (A:Around) (outer:List Env) (s:Shared) (H:Hp) (vs:List V) (Q:VK) (E:XK),Room k (A.deeper (envOfC qual (defScope st) s.heap.objs.size f cdv))->sp vs H Q E ->
  ∃t,PSs (cxOf CX0 P w K mg base N qual (defScope st) f cdv A outer s H E).nox (defBody st) t/\t {nx:=fun _ H'=>Q .non H',rt:=Q} (start N vs) H):FnOk P w K mg base CX0 (k+1) f fd ps sp:=by
 obtain ⟨oc,od,kV,doc,pm,an,cdv,ct,osl,rfl,lk,hcd⟩:=F.ex;refine fn_of lk hcd S len fun A outer s H vs Q E hr hsp=> ?_;obtain ⟨t,h,q⟩:=hbody cdv A outer s H vs Q E hr hsp;exact ⟨t,h.nox,q⟩
theorem Fun.binds {x qual : Str} {st : Stmt} {f : Addr} {fd : FuncData} {ps : List Str} (F : Fun K x qual st f fd)
 (h:∀(kV doc pm:Value) (an:Option Addr) (cdv ct:Value) (us:List Value),us.length=ps.length->bindArgs (PySem.W.fnOf x qual (defArgs st) (defBody st) (defScope st) .none kV doc pm an cdv ct) ⟨us,[]⟩=pure (ps.zip us)):Binds K fd ps []:=by
 obtain ⟨oc,od,kV,doc,pm,an,cdv,ct,osl,rfl,lk,hcd⟩:=F.ex;exact .all (h kV doc pm an cdv ct)
theorem fun_mk {x qual : Str} {st : Stmt} {f : Addr} {oc : Value} {od an : Option Addr} {osl : Array (Option Value)} {kV doc pm cdv ct : Value} (l : K.lookup f = some ⟨oc, od, .func (PySem.W.fnOf x qual (defArgs st) (defBody st) (defScope st) .none kV doc pm an cdv ct), osl⟩)
 (c:PySem.W.codeIn K cdv qual=true) (k:PySem.W.keepIn K (.ref f)=true):Fun K x qual st f (PySem.W.fnOf x qual (defArgs st) (defBody st) (defScope st) .none kV doc pm an cdv ct):=⟨⟨oc,od,kV,doc,pm,an,cdv,ct,osl,rfl,l,c⟩,k⟩
end
section
variable {X:Cx}
end
theorem iteF{A B:Prop}(h:B):if false=true then A else B:=by
 rw [if_neg Bool.false_ne_true];exact h
theorem iteT{A B:Prop}(h:A):if true=true then A else B:=by
 rw [if_pos rfl];exact h
def Same(H H':Hp):Prop:=∀b o,H b=some o->H' b=some o
theorem Same.refl(H:Hp):Same H H:=fun _ _ h=>h
theorem Same.trans{H H1 H2:Hp}(a:Same H H1)(b:Same H1 H2):Same H H2:=fun c o h=>b c o (a c o h)
theorem Same.free{H H':Hp}(e:Same H H'){l:Addr}(h:H' l=Option.none):H l=Option.none:=by
 cases q:H l with
 | none=>rfl
 | some o=>
  rw [e l o q] at h
  cases h
theorem Same.seq{K:PySem.W.Frag}{H H':Hp}{a:Addr}{xs:List V}(e:Same H H')(h:SqL K H a xs):SqL K H' a xs:=by
 rcases h with (h | ⟨o,h⟩) | h
 . exact .inl (.inl (e _ _ h))
 . exact .inl (.inr ⟨o,e _ _ h⟩)
 . exact .inr h
end L2
namespace L2
open PySem PySem.Spec PyProof.Rows
section
variable {κ:Type} [DecidableEq κ]
def valV(kvs:List (κ×V))(k:κ):Option V:=(kvs.find? fun kv=>decide (kv.1=k)).map (·.2)
def putK(kvs:List (κ×V))(k:κ)(v:V):List (κ×V) :=
 if (kvs.any fun kv=>decide (kv.1=k))=true then kvs.map (fun kv=>if kv.1=k then (kv.1,v) else kv) else kvs ++ [(k,v)]
def dropK(kvs:List (κ×V))(k:κ):List (κ×V):=kvs.filter fun kv=>decide (kv.1≠k)
theorem valV_pos{p:κ×V}{r:List (κ×V)}{k:κ}(e:p.1=k):valV (p::r) k=some p.2:=by simp [valV,List.find?_cons,e]
theorem valV_neg{p:κ×V}{r:List (κ×V)}{k:κ}(e:¬p.1=k):valV (p::r) k=valV r k:=by simp [valV,List.find?_cons,e]
theorem valV_any(k:κ):∀kvs:List (κ×V),(kvs.any fun kv=>decide (kv.1=k))=(valV kvs k).isSome
 | []=>rfl
 | p::r=>by
  rw [List.any_cons]
  by_cases e:p.1=k
  . simp only [valV_pos e,decide_eq_true e,Bool.true_or,Option.isSome_some]
  . rw [valV_neg e,decide_eq_false e,Bool.false_or];exact valV_any k r
theorem RelO.isSome_eq{o:Option V}{u:Option Value}(r:RelO o u):o.isSome=u.isSome:=by
 cases o with
 | none=>cases u with
  | none=>rfl
  | some _=>exact (show False from r).elim
 | some _=>cases u with
  | none=>exact (show False from r).elim
  | some _=>rfl
theorem RelO.getD{o:Option V}{u:Option Value}{d:V}{d':Value}(r:RelO o u)(rd:RelV d d'):RelV (o.getD d) (u.getD d'):=by
 cases o with
 | none=>cases u with
  | none=>exact rd
  | some _=>exact (show False from r).elim
 | some _=>cases u with
  | none=>exact (show False from r).elim
  | some _=>exact r
theorem KV.val{kvs:List (κ×V)}{vs:List (κ×Value)}(r:KV kvs vs)(k:κ):RelO (valV kvs k) (valueAt vs k):=by
 unfold KV at r
 induction r with
 | nil=>exact True.intro
 | @cons p q ps qs h t ih=>
  obtain ⟨h1,h2⟩:=h
  by_cases e:p.1=k
  . have e':q.1=k:=h1.symm.trans e;have b:valueAt (q::qs) k=some q.2:=by simp [valueAt,List.find?_cons,e']
    rw [valV_pos e,b];exact h2
  . have e':¬q.1=k:=fun z=>e (h1.trans z);have b:valueAt (q::qs) k=valueAt qs k:=by simp [valueAt,List.find?_cons,e']
    rw [valV_neg e,b];exact ih
theorem KV.any{kvs:List (κ×V)}{vs:List (κ×Value)}(r:KV kvs vs)(k:κ):(kvs.any fun kv=>decide (kv.1=k))=vs.any fun kv=>decide (kv.1=k):=by
 unfold KV at r
 induction r with
 | nil=>rfl
 | cons h t ih=>rw [List.any_cons,List.any_cons,ih,h.1]
theorem KV.repl {kvs : List (κ × V)} {vs : List (κ × Value)} (r : KV kvs vs) (k : κ) {y : V} {u : Value} (ry : RelV y u) :
 KV (kvs.map fun kv=>if kv.1=k then (kv.1,y) else kv) (vs.map fun kv=>if kv.1=k then (kv.1,u) else kv):=by
 unfold KV at r ⊢
 induction r with
 | nil=>exact .nil
 | @cons p q ps qs h t ih=>
  rw [List.map_cons,List.map_cons];refine .cons ?_ ih;obtain ⟨h1,h2⟩:=h
  by_cases e:p.1=k
  . rw [if_pos e,if_pos (h1.symm.trans e)];exact ⟨h1,ry⟩
  . rw [if_neg e,if_neg (fun z=>e (h1.trans z))];exact ⟨h1,h2⟩
theorem KV.put{kvs:List (κ×V)}{vs:List (κ×Value)}(r:KV kvs vs)(k:κ){y:V}{u:Value}(ry:RelV y u):KV (putK kvs k y) (stored vs k u):=by
 unfold putK stored;rw [r.any k]
 by_cases e:(vs.any fun kv=>decide (kv.1=k))=true
 . rw [if_pos e,if_pos e];exact r.repl k ry
 . rw [if_neg e,if_neg e];exact Paired.snoc r ⟨rfl,ry⟩
theorem KV.drop{kvs:List (κ×V)}{vs:List (κ×Value)}(r:KV kvs vs)(k:κ):KV (dropK kvs k) (without vs k):=by
 unfold KV at r ⊢
 unfold dropK without
 induction r with
 | nil=>exact .nil
 | @cons p q ps qs h t ih=>
  obtain ⟨h1,h2⟩:=h;rw [List.filter_cons,List.filter_cons]
  by_cases e:p.1=k
  . have a:¬decide (p.1≠k)=true:=by simp [e]
    have b:¬decide (q.1≠k)=true:=by simp [h1.symm.trans e]
    rw [if_neg a,if_neg b];exact ih
  . have e':¬q.1=k:=fun z=>e (h1.trans z);have a:decide (p.1≠k)=true:=by simp [e]
    have b:decide (q.1≠k)=true:=by simp [e']
    rw [if_pos a,if_pos b];exact .cons ⟨h1,h2⟩ ih
theorem KV.length{kvs:List (κ×V)}{vs:List (κ×Value)}(r:KV kvs vs):kvs.length=vs.length:=Paired.length r
end
abbrev KT (H:Hp):List (List Key×V)->List (List Key×Addr×Value)->Prop:=Paired fun p q=>p.1=q.1/\H q.2.1=some (.tup (p.1.map kV))/\RelV p.2 q.2.2
theorem KT.val{H:Hp}{kvs:List (List Key×V)}{xs:List (List Key×Addr×Value)}(r:KT H kvs xs)(k:List Key):RelO (valV kvs k) ((atKey xs k).map (·.2)):=by
 induction r with
 | nil=>exact True.intro
 | @cons p q ps qs h t ih=>
  obtain ⟨h1,_,h2⟩:=h
  by_cases e:p.1=k
  . have e':q.1=k:=h1.symm.trans e;have b:atKey (q::qs) k=some q.2:=by simp [atKey,List.find?_cons,e']
    rw [valV_pos e,b];exact h2
  . have e':¬q.1=k:=fun z=>e (h1.trans z);have b:atKey (q::qs) k=atKey qs k:=by simp [atKey,List.find?_cons,e']
    rw [valV_neg e,b];exact ih
theorem KT.repl {H : Hp} {kvs : List (List Key × V)} {xs : List (List Key × Addr × Value)} (r : KT H kvs xs) (k : List Key) {y : V} {u : Value} (ry : RelV y u) :
 KT H (kvs.map fun kv=>if kv.1=k then (kv.1,y) else kv) (xs.map (putAt k u)):=by
 induction r with
 | nil=>exact .nil
 | @cons p q ps qs h t ih=>
  rw [List.map_cons,List.map_cons];refine .cons ?_ ih;obtain ⟨h1,h2,h3⟩:=h;unfold putAt
  by_cases e:p.1=k
  . rw [if_pos e,if_pos (h1.symm.trans e)];exact ⟨h1,h2,ry⟩
  . rw [if_neg e,if_neg (fun z=>e (h1.trans z))];exact ⟨h1,h2,h3⟩
theorem KT.put {H : Hp} {kvs : List (List Key × V)} {xs : List (List Key × Addr × Value)} (r : KT H kvs xs) (k : List Key) {b : Addr} {y : V} {u : Value} (hb : H b = some (.tup (k.map kV))) (ry : RelV y u) :
 KT H (putK kvs k y) (storedH xs k b u):=by
 have e:(kvs.any fun kv=>decide (kv.1=k))=(atKey xs k).isSome:=by
  rw [valV_any,(r.val k).isSome_eq,Option.isSome_map]
 unfold putK storedH;rw [e]
 by_cases q:(atKey xs k).isSome=true
 . rw [if_pos q,if_pos q];exact r.repl k ry
 . rw [if_neg q,if_neg q];exact Paired.snoc r ⟨rfl,hb,ry⟩
theorem KT.keeps{H H':Hp}{kvs:List (List Key×V)}{xs:List (List Key×Addr×Value)}(r:KT H kvs xs)(ht:∀b ys,H b=some (.tup ys)->H' b=some (.tup ys)):KT H' kvs xs:=
 Paired.mapP r fun _ _ z=>⟨z.1,ht _ _ z.2.1,z.2.2⟩
section
variable {P:Program} {w:World} {H:Hp} {h:Heap} {a:Addr}
end
def DGet(H:Hp)(a:Addr)(y:V)(r:Option V):Prop:=
 (∃kvs k,Rd H a (.dK kvs)/\y=kV k/\r=valV kvs k)\/∃kvs k b,Rd H a (.dT kvs)/\y = .ref b/\H b=some (.tup (k.map kV))/\r=valV kvs k
def DPut(H:Hp)(a:Addr)(y v:V)(H':Hp):Prop:=
 (∃kvs k,H a=some (.dK kvs)/\y=kV k/\kvs.length<sizeLine/\H'=upd H a (.dK (putK kvs k v))) \/
 ∃kvs k b,H a=some (.dT kvs)/\y = .ref b/\H b=some (.tup (k.map kV))/\kvs.length<sizeLine/\H'=upd H a (.dT (putK kvs k v))
theorem DGet.k{H:Hp}{a:Addr}{kvs:List (Key×V)}{k:Key}(e:H a=some (.dK kvs)):DGet H a (kV k) (valV kvs k):= .inl ⟨kvs,k, .inl e,rfl,rfl⟩
theorem DGet.t{H:Hp}{a b:Addr}{kvs:List (List Key×V)}{k:List Key}(e:H a=some (.dT kvs))(eb:H b=some (.tup (k.map kV))):DGet H a (.ref b) (valV kvs k):= .inr ⟨kvs,k,b, .inl e,rfl,eb,rfl⟩
theorem DPut.k{H:Hp}{a:Addr}{kvs:List (Key×V)}{k:Key}{v:V}(e:H a=some (.dK kvs))(hl:kvs.length<sizeLine):DPut H a (kV k) v (upd H a (.dK (putK kvs k v))):= .inl ⟨kvs,k,e,rfl,hl,rfl⟩
theorem DPut.t {H : Hp} {a b : Addr} {kvs : List (List Key × V)} {k : List Key} {v : V} (e : H a = some (.dT kvs)) (eb : H b = some (.tup (k.map kV))) (hl : kvs.length < sizeLine) :
 DPut H a (.ref b) v (upd H a (.dT (putK kvs k v))):= .inr ⟨kvs,k,b,e,rfl,eb,hl,rfl⟩
section
variable {X:Cx} {pins:List (Addr×Obj)} {σ:St} {H:Hp} {s:Shared} {a:Addr} {y v:V} {u r:Value} {o:Option V} {A:Around} {E:Value->Shared->Prop}
end
section
variable {X:Cx} {pins:List (Addr×Obj)} {σ:St} {H:Hp} {s:Shared} {a:Addr} {kvs:List (Key×V)} {k:Key} {u:Value} {A:Around} {E:Value->Shared->Prop}
end
section
variable {X:Cx} {o i e value:Expr} {pos pos' tpos:Pos} {td ty tv:TE}
end
section
variable {X:Cx} {pos:Pos}
end
structure M1 (X:Cx) (o:Expr) (m:Str) (apos:Pos) (e:Expr) (cpos:Pos):Prop where
 base:attributeBase o m X.env (eval o X.env)=eval o X.env
 few:((backTo cpos (starEach [e] X.env)).all (fun x=> !x.1) && (backToKw cpos (keywordEach [] X.env)).all (fun x=>x.1.isSome)
  && decide (([e]:List Expr).length+([]:List Keyword).length+(if ([]:List Keyword).isEmpty then 0 else 1)<30))=true
 line:(apos.endLine==cpos.line)=true
 trees:backTo cpos (starEach [e] X.env) = [(false,eval e X.env)]
structure M2 (X:Cx) (o:Expr) (m:Str) (apos:Pos) (e f:Expr) (cpos:Pos):Prop where
 base:attributeBase o m X.env (eval o X.env)=eval o X.env
 few:((backTo cpos (starEach [e,f] X.env)).all (fun x=> !x.1) && (backToKw cpos (keywordEach [] X.env)).all (fun x=>x.1.isSome)
  && decide (([e,f]:List Expr).length+([]:List Keyword).length+(if ([]:List Keyword).isEmpty then 0 else 1)<30))=true
 line:(apos.endLine==cpos.line)=true
 trees:backTo cpos (starEach [e,f] X.env) = [(false,eval e X.env),(false,eval f X.env)]
section
variable {X:Cx} {pins:List (Addr×Obj)} {σ:St} {H:Hp} {s:Shared} {a:Addr} {y d:V} {u r:Value} {o:Option V} {A:Around} {E:Value->Shared->Prop}
end
section
variable {X:Cx} {o e f:Expr} {apos cpos:Pos} {td ty tx:TE}
end
section
variable {X:Cx} {pins:List (Addr×Obj)} {σ:St} {H:Hp} {s:Shared} {a:Addr} {kvs:List (Key×V)} {A:Around} {E:Value->Shared->Prop}
end
section
variable {X:Cx} {pins:List (Addr×Obj)} {σ:St} {H:Hp} {s:Shared} {a:Addr} {y:V} {u:Value} {A:Around} {E:Value->Shared->Prop}
end
section
variable {κ:Type} [DecidableEq κ]
end
end L2
namespace Tf
open PySem PySem.Spec PyProof.Rows L2
theorem bt_abs:bootBuiltins "abs" = some (.builtin "abs"):=by decide +kernel
theorem bt_isinstance:bootBuiltins "isinstance" = some (.builtin "isinstance"):=by decide +kernel
theorem bt_len:bootBuiltins "len" = some (.builtin "len"):=by decide +kernel
theorem bt_max:bootBuiltins "max" = some (.builtin "max"):=by decide +kernel
theorem bt_min:bootBuiltins "min" = some (.builtin "min"):=by decide +kernel
theorem bt_sorted:bootBuiltins "sorted" = some (.builtin "sorted"):=by decide +kernel
theorem bt_all:bootBuiltins "all" = some (.builtin "all"):=by decide +kernel
theorem bt_int:bootBuiltins "int" = some (.type "int"):=by decide +kernel
theorem bt_bool:bootBuiltins "bool" = some (.type "bool"):=by decide +kernel
theorem bt_str:bootBuiltins "str" = some (.type "str"):=by decide +kernel
theorem bt_list:bootBuiltins "list" = some (.type "list"):=by decide +kernel
theorem bt_tuple:bootBuiltins "tuple" = some (.type "tuple"):=by decide +kernel
def Bt(n:Nat)(i:Int):Prop:=i.natAbs<2 ^ n
theorem Bt.mono{n m:Nat}{i:Int}(h:Bt n i)(k:n<=m):Bt m i:=Nat.lt_of_lt_of_le h (Nat.pow_le_pow_right (by decide) k)
theorem Bt.add{n m:Nat}{i j:Int}(h:Bt n i)(k:Bt m j):Bt (max n m+1) (i+j):=by
 unfold Bt at *
 have h1:i.natAbs<2 ^ (max n m):=Nat.lt_of_lt_of_le h (Nat.pow_le_pow_right (by decide) (Nat.le_max_left _ _));have h2:j.natAbs<2 ^ (max n m):=Nat.lt_of_lt_of_le k (Nat.pow_le_pow_right (by decide) (Nat.le_max_right _ _));have h3:=Int.natAbs_add_le i j;rw [Nat.pow_succ];omega
theorem Bt.neg{n:Nat}{i:Int}(h:Bt n i):Bt n (-i):=by
 unfold Bt at *
 rw [Int.natAbs_neg];exact h
theorem Bt.sub{n m:Nat}{i j:Int}(h:Bt n i)(k:Bt m j):Bt (max n m+1) (i - j):=by
 rw [Int.sub_eq_add_neg];exact h.add k.neg
theorem Bt.natAbs{n:Nat}{i:Int}(h:Bt n i):Bt n (i.natAbs:Int):=by
 unfold Bt at *
 simpa using h
theorem Bt.of_le{n:Nat}{i j:Int}(h:Bt n j)(k:i.natAbs<=j.natAbs):Bt n i:=Nat.lt_of_le_of_lt k h
theorem Bt.fdiv{n:Nat}{i j:Int}(h:Bt n i):Bt n (i.fdiv j):=by
 refine h.of_le ?_
 by_cases hj:j=0
 . subst hj;simp
 . have key : ∀ (a b : Int), 0 < b -> (a.fdiv b).natAbs <= a.natAbs := by
    intro a b hb;rw [Int.fdiv_eq_ediv_of_nonneg a (Int.le_of_lt hb)];exact Int.natAbs_ediv_le_natAbs a b
   rcases (by omega:0<j\/j<0) with p | p
   . exact key i j p
   . have:=key (-i) (-j) (by omega);rw [Int.neg_fdiv_neg] at this
     simpa using this
theorem Bt.fmod{n:Nat}{i j:Int}(hj:j≠0)(h:Bt n j):Bt n (i.fmod j):=by
 refine h.of_le ?_;rcases (by omega:0<j\/j<0) with p | p
 . have h1:=Int.fmod_nonneg_of_pos i p;have h2:=Int.fmod_lt_of_pos i p;omega
 . have e : i.fmod j = -((-i).fmod (-j)) := by
    rw [Int.fmod_def,Int.fmod_def,Int.neg_fdiv_neg];simp [Int.neg_mul];omega
   have h1:=Int.fmod_nonneg_of_pos (-i) (show 0 < -j by omega);have h2:=Int.fmod_lt_of_pos (-i) (show 0 < -j by omega);omega
theorem Bt.zero(n:Nat):Bt n 0:=by
 unfold Bt;simpa using Nat.pow_pos (by decide)
theorem Bt.bits{n:Nat}{i:Int}(h:Bt n i):Builtin.Int.intBits i<=n:=by
 unfold Builtin.Int.intBits
 split
 . exact Nat.zero_le _
 . rename_i hz
   have h0:i.natAbs≠0:=by
    intro e;apply hz;have:i=0:=by omega
    subst this;rfl
   exact (Nat.log2_lt h0).mpr h
theorem Bt.log{n:Nat}{i:Int}(h:Bt n i)(hn:0<n):i.natAbs.log2<n:=by
 by_cases h0:i.natAbs=0
 . rw [h0];simpa using hn
 . exact (Nat.log2_lt h0).mpr h
theorem mulOk{n m:Nat}{i j:Int}(h:Bt n i)(k:Bt m j)(hn:n+m<=134217728):IntMulOk i j:=by
 unfold IntMulOk;have hb1:=h.bits;have hb2:=k.bits
 have:Builtin.Int.intTooBig (Builtin.Int.intBits i+Builtin.Int.intBits j)=false:=by
  unfold Builtin.Int.intTooBig;apply decide_eq_false;unfold bitsLine;have:(2:Nat) ^ 27=134217728:=by decide
  rw [this];omega
 rw [this];simp
def CMulB(i j:Int):Prop:=∃n m,Bt n i/\Bt m j/\n+m<=134217728
def CDivB(_i j:Int):Prop:=j≠0/\Bt 9000 j
section
variable {X:Cx}
theorem op_fdivB:OpR X (binaryOp .FloorDiv) (rI CDivB fun i j=> .int (i.fdiv j)):=opI fun _ _ _ _ _ _ _ hc q=>floordiv_int hc.1 q (.inl (PyProof.noPylong_of_log2 (hc.2.log (by decide))))
theorem Bt.lit{n:Nat}{i:Int}(h:decide (i.natAbs<2 ^ n)=true):Bt n i:=(of_decide_eq_true h:i.natAbs<2 ^ n)
theorem pe_ty {x:Str} {T:String} {pos:Pos} (hg:Gl X x) (hm:X.mg x=none) (hv:bootBuiltins x=some (.type T)) (hn:x ≠ "__name__" :=by decide) (hd:(x==("__debug__" : Str))=false:=by decide):PE X (.Name x pos) (tC (.ty T)) :=
 pe_bltn hg hm hv rfl hn hd
inductive TyV (K:PySem.W.Frag) (H:Hp):V->String->Prop where
 | non:TyV K H .non "NoneType"
 | bl (x:Bool):TyV K H (.bl x) "bool"
 | int (i:Int):TyV K H (.int i) "int"
 | str (x:Str):TyV K H (.str x) "str"
 | lst {a:Addr} {xs:List V} (e:SqL K H a xs):TyV K H (.ref a) "list"
 | tup {a:Addr} {xs:List V} (e:SqT K H a xs):TyV K H (.ref a) "tuple"
theorem isinst_ty {pins : List (Addr × Obj)} {σ : L2.St} {H : Hp} {s : Shared} {A : Around} {E : Value -> Shared -> Prop} {Q : Value -> Shared -> Prop} {c : Value} {b : Bool} {x : V} {u : Value} {t : String} (I : Inv X pins σ H s) (rx : RelV x u) (ty : TyV X.K H x t) (e : PySem.W.kitOne X.K (.type t) c = some b) (h : ∀ tk, Q (.bool b) { s with toks := tk }) :
 wpAny (model X.prog X.w) A (call (.builtin "isinstance") [u,c]) Q E s:=by
 cases ty with
 | non=>cases (show u=Value.none from rx);exact PySem.W.kia_one PySem.W.kitx_none I.kIn True.intro e (fun z=>nomatch z) h
 | bl y=>cases (show u=Value.bool y from rx);exact PySem.W.kia_one PySem.W.kitx_bool I.kIn True.intro e (fun z=>nomatch z) h
 | int i=>obtain ⟨t,q⟩:=(show ∃t,u=Value.int i t from rx);cases q;exact PySem.W.kia_one PySem.W.kitx_int I.kIn True.intro e (fun z=>nomatch z) h
 | str y=>obtain ⟨t,q⟩:=(show ∃t,u=Value.str y t from rx);cases q;exact PySem.W.kia_one PySem.W.kitx_str I.kIn True.intro e (fun z=>nomatch z) h
 | @lst a xs ea=>
  cases (show u=Value.ref a from rx)
  obtain ⟨its,_,⟨o,n,h1,h2,_⟩,_⟩:=I.list ea
  exact PySem.W.kia_one PySem.W.kitx_list I.kIn ⟨o,h1,h2⟩ e (fun z=>nomatch z) h
 | @tup a xs ea=>
  cases (show u=Value.ref a from rx)
  obtain ⟨its,_,⟨o,h1,h2,_⟩,_⟩:=I.tuple ea;exact PySem.W.kia_one PySem.W.kitx_tuple I.kIn ⟨o,h1,h2⟩ e (fun z=>nomatch z) h
def rIsI(K:PySem.W.Frag):List V->Hp->VK->Prop:=fun xs H Q=>∃x n t b,xs = [x, .ty n]/\TyV K H x t/\PySem.W.kitOne K (.type t) (.type n)=some b/\Q (.bl b) H
theorem call_isi:CallR X (.builtin "isinstance") (rIsI X.K):=by
 intro pins s σ H xs us Q I r h;obtain ⟨x,n,t,b,rfl,ty,e,q⟩:=h;obtain ⟨u,w',rfl,rx,rn⟩:=vals2 r
 cases (show w'=Value.type n from rn)
 exact isinst_ty I rx ty e fun tk=>⟨.bl b,H,I.tok _,rfl,q⟩
def keyD:Key->PyData
 | .inl i=> .int i
 | .inr x=> .str x
def tupD(k:List Key):PyData:= .tuple (k.map keyD)
def mkD:PyData×PyData:=(.none, .none)
mutual
inductive Rep (K:PySem.W.Frag) (H:Hp):V->PyData->Prop
 | none:Rep K H .non .none
 | bool (b:Bool):Rep K H (.bl b) (.bool b)
 | int (i:Int):Rep K H (.int i) (.int i)
 | str (x:Str):Rep K H (.str x) (.str x)
 | list {a:Addr} {xs:List V} {ds:List PyData}:SqL K H a xs->Reps K H xs ds->Rep K H (.ref a) (.list ds)
 | tuple {a:Addr} {xs:List V} {ds:List PyData}:H a=some (.tup xs)->Reps K H xs ds->Rep K H (.ref a) (.tuple ds)
 | dict {a:Addr} {ks:List (List Key)} {xs:List V} {ds:List PyData}:Rd H a (.dT (ks.zip xs))->ks.length=xs.length->Reps K H xs ds->Rep K H (.ref a) (.dict ((ks.map tupD).zip ds))
 | dictF {a:Addr} {o:Obj} {ks:List (List Key)} {xs:List V} {ds:List PyData}:H a=some (.frz o (.dT (ks.zip xs)))->ks.length=xs.length->Reps K H xs ds->Rep K H (.ref a) (.dict (mkD::(ks.map tupD).zip ds))
inductive Reps (K:PySem.W.Frag) (H:Hp):List V->List PyData->Prop
 | nil:Reps K H [] []
 | cons {v:V} {vs:List V} {d:PyData} {ds:List PyData}:Rep K H v d->Reps K H vs ds->Reps K H (v::vs) (d::ds)
end
theorem Reps.length{K:PySem.W.Frag}{H:Hp}:∀ {vs:List V} {ds:List PyData},Reps K H vs ds->vs.length=ds.length
 | _,_, .nil=>rfl
 | _,_, .cons _ t=>by rw [List.length_cons,List.length_cons,Reps.length t]
mutual
theorem Rep.reads{pins:List (Addr×Obj)}{σ:L2.St}{H:Hp}{s:Shared}(I:Inv X pins σ H s):∀ {v:V} {d:PyData} {u:Value},Rep X.K H v d->RelV v u->d.canLay0=true->∃as,Reads s.heap u d as
 | _,_,_, .none,r,_=>by cases (show _=Value.none from r);exact ⟨_, .none⟩
 | _,_,_, .bool b,r,_=>by cases (show _=Value.bool b from r);exact ⟨_, .bool b⟩
 | _,_,_, .int i,r,_=>by obtain ⟨t,q⟩:=(show ∃t,_=Value.int i t from r);cases q;exact ⟨_, .int i t⟩
 | _,_,_, .str x,r,_=>by obtain ⟨t,q⟩:=(show ∃t,_=Value.str x t from r);cases q;exact ⟨_, .str x t⟩
 | _,_,_, .list (a:=a) h hs,r,c=>by
  cases (show _=Value.ref a from r)
  obtain ⟨its,rv,⟨o,n,h1,h2,_,h3⟩,_⟩:=I.list h;obtain ⟨as,ra⟩:=Reps.reads I hs rv (by simpa [PyData.canLay0] using c)
  exact ⟨_, .list h1 h2 h3 (by simpa using ra)⟩
 | _,_,_, .tuple (a:=a) h hs,r,c=>by
  cases (show _=Value.ref a from r)
  obtain ⟨its,rv,⟨o,h1,h2,n,h3⟩,_⟩:=I.tuple (SqT.of h);obtain ⟨as,ra⟩:=Reps.reads I hs rv (by simpa [PyData.canLay0] using c)
  exact ⟨_, .tuple h1 h2 h3 (by simpa using ra)⟩
 | _,_,_, .dict _ _ _,_,c=>by simp [PyData.canLay0] at c
 | _,_,_, .dictF _ _ _,_,c=>by simp [PyData.canLay0] at c
theorem Reps.reads{pins:List (Addr×Obj)}{σ:L2.St}{H:Hp}{s:Shared}(I:Inv X pins σ H s):∀ {vs:List V} {ds:List PyData} {us:List Value},Reps X.K H vs ds->Vals vs us->PyData.canLayAll0 ds=true->∃as,ReadsAll s.heap us ds as
 | _,_,_, .nil,r,_=>by cases r;exact ⟨_, .nil⟩
 | _,_,_, .cons h hs,r,c=>by
  have c:=Bool.and_eq_true_iff.mp (show (_ && _)=true by rw [<-PyData.canLayAll0];exact c)
  cases r with
  | cons r1 r2=>
   obtain ⟨as,q⟩:=Rep.reads I h r1 c.1;obtain ⟨bs,q2⟩:=Reps.reads I hs r2 c.2;exact ⟨_, .cons q q2⟩
end
theorem layAll_of:∀ {ds:List PyData},(∀d ∈ ds,d.canLay0=true)->PyData.canLayAll0 ds=true
 | [],_=>by simp [PyData.canLayAll0]
 | d::ds,h=>by
  simp only [PyData.canLayAll0,Bool.and_eq_true];exact ⟨h d List.mem_cons_self,layAll_of fun e he=>h e (List.mem_cons_of_mem _ he)⟩
def rEqD(K:PySem.W.Frag):R2:=fun x y H Q=>∃dx dy,Rep K H x dx/\Rep K H y dy/\dx.canLay0=true/\dy.canLay0=true/\min dx.depth dy.depth<=60/\Q (.bl (PyData.eqv dx dy)) H
def rNeD(K:PySem.W.Frag):R2:=fun x y H Q=>∃dx dy,Rep K H x dx/\Rep K H y dy/\dx.canLay0=true/\dy.canLay0=true/\min dx.depth dy.depth<=60/\Q (.bl (!PyData.eqv dx dy)) H
theorem op_eqD(hu:X.A.units+64<cLine):OpR X (compareOp .Eq) (rEqD X.K):=by
 intro pins s σ H x y v u Q I rx ry h;obtain ⟨dx,dy,h1,h2,c1,c2,hd,q⟩:=h;obtain ⟨as,r1⟩:=h1.reads I rx c1;obtain ⟨bs,r2⟩:=h2.reads I ry c2;exact SeqAt.compareEq_reads r1 r2 c1 c2 (by omega) ⟨.bl _,H,I,rfl,q⟩
theorem op_neD(hu:X.A.units+64<cLine):OpR X (compareOp .NotEq) (rNeD X.K):=by
 intro pins s σ H x y v u Q I rx ry h;obtain ⟨dx,dy,h1,h2,c1,c2,hd,q⟩:=h;obtain ⟨as,r1⟩:=h1.reads I rx c1;obtain ⟨bs,r2⟩:=h2.reads I ry c2;exact SeqAt.compareNe_reads r1 r2 c1 c2 (by omega) ⟨.bl _,H,I,rfl,q⟩
end
def tLoop(J:It)(g:TG)(tb:TS)(D:Ends)(σ:L2.St)(H1:Hp):Prop:=∃W:Nat->Nat->L2.St->Hp->Prop,(∃m,W 0 m σ H1)/\∀i m σ H,W i m σ H ->
 (J.stop i H/\D.nx σ H)\/(J.go i H/\∃N:L2.St->Hp->Prop,(∀σ' H',N σ' H'->∃m',m'<m/\W (i+1) m' σ' H')/\∀x H',J.yld i H x H'->g x σ H' fun σ2 H2=>tb { D with nx:=N,ct:=N,bk:=D.nx} σ2 H2)
theorem loop_tup {K : PySem.W.Frag} {a : Addr} {xs : List V} {g : TG} {tb : TS} {D : Ends} {σ : L2.St} {H : Hp} (Pv : Nat -> L2.St -> Hp -> Prop) (h0 : Pv 0 σ H) (hl : ∀ i σ H, i <= xs.length -> Pv i σ H -> SqT K H a xs)
 (hs:∀i x σ H,xs[i]? = some x->Pv i σ H->g x σ H fun σ2 H2=>tb { D with nx:=Pv (i+1),ct:=Pv (i+1),bk:=D.nx} σ2 H2) (hd:∀σ H,Pv xs.length σ H->D.nx σ H) :
 tLoop (Itt K a) g tb D σ H:=for_tup Pv h0 hl hs hd
theorem _root_.L2.Same.upd{H:Hp}{p:Addr}(h:H p=none)(o:HO):Same H (L2.upd H p o):=fun b u q=>by rw [upd_ne (ne_of_none q h)];exact q
theorem _root_.L2.Same.seqT{K:PySem.W.Frag}{H H':Hp}{a:Addr}{xs:List V}(e:Same H H')(h:SqT K H a xs):SqT K H' a xs:=by
 rcases h with (h | ⟨o,h⟩) | h
 . exact .inl (.inl (e _ _ h))
 . exact .inl (.inr ⟨o,e _ _ h⟩)
 . exact .inr h
theorem Rd.same{H H':Hp}{a:Addr}{u:HO}(e:Same H H')(h:Rd H a u):Rd H' a u:=by
 rcases h with h | ⟨o,h⟩
 . exact .inl (e _ _ h)
 . exact .inr ⟨o,e _ _ h⟩
mutual
theorem Rep.same{K:PySem.W.Frag}{H H':Hp}(e:Same H H'):∀ {v:V} {d:PyData},Rep K H v d->Rep K H' v d
 | _,_, .none=> .none
 | _,_, .bool b=> .bool b
 | _,_, .int i=> .int i
 | _,_, .str x=> .str x
 | _,_, .list h hs=> .list (e.seq h) (Reps.same e hs)
 | _,_, .tuple h hs=> .tuple (e _ _ h) (Reps.same e hs)
 | _,_, .dict h hl hs=> .dict (Rd.same e h) hl (Reps.same e hs)
 | _,_, .dictF h hl hs=> .dictF (e _ _ h) hl (Reps.same e hs)
theorem Reps.same{K:PySem.W.Frag}{H H':Hp}(e:Same H H'):∀ {vs:List V} {ds:List PyData},Reps K H vs ds->Reps K H' vs ds
 | _,_, .nil=> .nil
 | _,_, .cons h hs=> .cons (Rep.same e h) (Reps.same e hs)
end
section
variable {CX:CXT} {P:Program} {w:World} {K:PySem.W.Frag} {mg:Str->Option Value} {base:Heap} {N:List Str} {qual:Str} {scope:Scope} {f:Addr} {cd:Value} {A:Around} {outer:List Env} {s:Shared} {H:Hp} {E:XK}
end
structure Def (P:Program) (w:World) (K:PySem.W.Frag) (mg:Str->Option Value) (base:Heap) (k:Nat) (x:Str) (ps:List Str) (sp:Sp):Prop where
 ex:∃f fd,FnOk P w K mg base CX0 k f fd ps sp/\mg x=some (.ref f)/\PySem.W.keepIn K (.ref f)=true/\Binds K fd ps []
section
variable {X:Cx} {k j:Nat} {x:Str} {ps:List Str} {sp:Sp} {p pos:Pos} {e:Expr} {es:List Expr} {t:TA}
theorem pe_callD (D : Def X.prog X.w X.K X.mg X.base j x ps sp) (hr : Room k X.A) (ha : PA X (e :: es) t) (hj : j <= k := by decide) (hg : Gl X x := by rfl)
 (hdb:(x==("__debug__" : Str))=false:=by decide) (he:starEach (e::es) X.env=(false,eval e X.env)::starEach es X.env:=by rfl) (hpl:(backTo pos (starEach es X.env)).any (·.1)=false:=by rfl) :
 PE X (.Call (.Name x p) (e::es) [] pos) (tCall sp [] E0 t):=by
 obtain ⟨f,fd,F,hm,hk,hb⟩:=D.ex;exact pe_call F (hr.mono hj) hg hm hk hb .nil pass0 ha hdb he hpl
end
end Tf
namespace Tf
open PySem PySem.Spec PyProof.Rows L2
def closL(cells:List (Str×Addr)):List (Str×NameKind)->List (Str×Addr)->List (Str×Addr)
 | [],acc=>acc
 | (n,k)::r,acc=>if k == .free then closL cells r ((n,(cells.lookup n).getD 0)::acc) else closL cells r acc
theorem closL_forIn {env : Env} : ∀ (names : List (Str × NameKind)) (acc : List (Str × Addr)), (∀ y ∈ names, y.2 = .free -> ∃ c, env.cells.lookup y.1 = some c) ->
 (forIn names acc fun (x:Str×NameKind) (r:List (Str×Addr))=>(match x with | (name,kind)=>if (kind==NameKind.free)=true then do let a <-cellOf env name;pure (ForInStep.yield ((name,a)::r)) else pure (ForInStep.yield r):Sem (ForInStep (List (Str×Addr)))))=pure (closL env.cells names acc)
 | [],acc,_=>by rw [List.forIn_nil];rfl
 | (n,k)::r,acc,h=>by
  have ih:=fun acc=>closL_forIn r acc fun y hy=>h y (List.mem_cons_of_mem _ hy);rw [List.forIn_cons];unfold closL
  by_cases hk:(k==NameKind.free)=true
  . obtain ⟨c,hc⟩:=h (n,k) List.mem_cons_self (by simpa using hk);have e:cellOf env n=pure c:=by unfold cellOf;rw [hc]
    simp only [hk,if_true,e];rw [hc];exact ih ((n,c)::acc)
  . simp only [hk,if_false];exact ih acc
theorem closureFor_eq{scope:Scope}{env:Env}(h:∀y ∈ scope.names,y.2 = .free->∃c,env.cells.lookup y.1=some c):closureFor scope env=pure (closL env.cells scope.names []):=by
 unfold closureFor;have:=closL_forIn (env:=env) scope.names [] h;simp only [bind_pure];exact this
theorem closL_of{cells:List (Str×Addr)}:∀ {names:List (Str×NameKind)} {acc:List (Str×Addr)} {x:Str} {c:Addr},(closL cells names acc).lookup x=some c->acc.lookup x=some c\/((x,NameKind.free) ∈ names/\c=(cells.lookup x).getD 0)
 | [],_,_,_,h=> .inl h
 | (n,k)::r,acc,x,c,h=>by
  unfold closL at h
  split at h
  . rename_i hk;rcases closL_of h with q | ⟨q,e⟩
    . rw [List.lookup_cons] at q
      cases hx:x==n with
      | true=>
       rw [hx] at q
       have e:=beq_iff_eq.mp hx;subst e;have hk':k = .free:=by simpa using hk
       subst hk'
       exact .inr ⟨List.mem_cons_self,(Option.some.inj q).symm⟩
      | false=>rw [hx] at q;exact .inl q
    . exact .inr ⟨List.mem_cons_of_mem _ q,e⟩
  . rcases closL_of h with q | ⟨q,e⟩
    . exact .inl q
    . exact .inr ⟨List.mem_cons_of_mem _ q,e⟩
theorem closL_acc{cells:List (Str×Addr)}:∀ {names:List (Str×NameKind)} {acc:List (Str×Addr)} {x:Str},acc.lookup x=some ((cells.lookup x).getD 0)->(closL cells names acc).lookup x=some ((cells.lookup x).getD 0)
 | [],_,_,h=>h
 | (n,k)::r,acc,x,h=>by
  unfold closL
  split
  . refine closL_acc ?_;rw [List.lookup_cons]
    cases hx:x==n with
    | true=>have e:=beq_iff_eq.mp hx;subst e;rfl
    | false=>exact h
  . exact closL_acc h
theorem closL_free{cells:List (Str×Addr)}:∀ {names:List (Str×NameKind)} {acc:List (Str×Addr)} {x:Str},(x,NameKind.free) ∈ names->(closL cells names acc).lookup x=some ((cells.lookup x).getD 0)
 | (n,k)::r,acc,x,h=>by
  unfold closL;rcases List.mem_cons.mp h with e | h
  . cases e
    simp only [beq_self_eq_true,if_true];exact closL_acc (by rw [List.lookup_cons,beq_self_eq_true])
  . split
    . exact closL_free h
    . exact closL_free h
theorem cf_app:∀(names:List (Str×NameKind)) (n:Nat) (acc:List (Str×Addr)),cellsFrom n names acc=cellsFrom n names []++acc
 | [],_,_=>rfl
 | (x,k)::r,n,acc=>by
  unfold cellsFrom
  split
  . rw [cf_app r (n+1) ((x,n)::acc),cf_app r (n+1) [(x,n)],List.append_assoc];rfl
  . exact cf_app r n acc
theorem lookup_app{α:Type}(x:Str):∀(a b:List (Str×α)),(a++b).lookup x=(match a.lookup x with | some c=>some c | none=>b.lookup x)
 | [],b=>rfl
 | (k,v)::r,b=>by
  rw [List.cons_append,List.lookup_cons,List.lookup_cons]
  cases hx:x==k with
  | true=>rfl
  | false=>exact lookup_app x r b
theorem cf_has:∀ {names:List (Str×NameKind)} {n:Nat} {acc:List (Str×Addr)} {x:Str},(x,NameKind.cell) ∈ names->∃c,(cellsFrom n names acc).lookup x=some c
 | (y,k)::r,n,acc,x,h=>by
  unfold cellsFrom;rcases List.mem_cons.mp h with e | h
  . obtain ⟨rfl,rfl⟩:=Prod.mk.inj e;simp only [beq_self_eq_true,if_true];rw [cf_app,lookup_app]
    cases q:(cellsFrom (n+1) r []).lookup x with
    | some c=>exact ⟨c,rfl⟩
    | none=>exact ⟨n,by simp [List.lookup_cons]⟩
  . split
    . exact cf_has h
    . exact cf_has h
theorem cf_mem:∀ {names:List (Str×NameKind)} {n:Nat} {x:Str} {c:Addr},(x,c) ∈ cellsFrom n names []->(x,NameKind.cell) ∈ names
 | (y,k)::r,n,x,c,h=>by
  unfold cellsFrom at h
  split at h
  . rename_i hk;rw [cf_app] at h
    rcases List.mem_append.mp h with q | q
    . exact List.mem_cons_of_mem _ (cf_mem q)
    . have hk':k = .cell:=by simpa using hk
      subst hk';have e:(x,c)=(y,n):=by simpa using q
      cases e
      exact List.mem_cons_self
  . exact List.mem_cons_of_mem _ (cf_mem h)
def relabelS(sc osc:Scope):Scope:=
 {sc with names:=sc.names.map fun (n,k)=>if (k == .free && osc.kind == .function && osc.names.lookup n==some .cell) then (n, .cell) else (n,k)}
theorem relabel_eq(sc:Scope)(env:Env):relabel sc env=relabelS sc env.scope:=rfl
theorem relabelS_lookup {osc : Scope} : ∀ {names : List (Str × NameKind)} {x : Str} {k : NameKind}, (names.map fun (p : Str × NameKind) => (match p with | (n, k) => if (k == NameKind.free && osc.kind == .function && osc.names.lookup n == some NameKind.cell) = true then (n, NameKind.cell) else (n, k))).lookup x = some k ->
 ∃k',names.lookup x=some k'/\(k'=k\/(k' = .free/\k = .cell))
 | [],_,_,h=>by simp at h
 | (n,k0)::r,x,k,h=>by
  rw [List.map_cons] at h
  by_cases hc:(k0==NameKind.free && osc.kind == .function && osc.names.lookup n==some NameKind.cell)=true
  . simp only [hc,if_true] at h
    rw [List.lookup_cons] at h
    cases hx:x==n with
    | true=>
     rw [hx] at h
     simp only [Option.some.injEq] at h
     subst h;refine ⟨k0,by rw [List.lookup_cons,hx], .inr ⟨?_,rfl⟩⟩;simp only [Bool.and_eq_true,beq_iff_eq] at hc
     exact hc.1.1
    | false=>
     rw [hx] at h
     obtain ⟨k',e,d⟩:=relabelS_lookup h;exact ⟨k',by rw [List.lookup_cons,hx];exact e,d⟩
  . simp only [if_neg hc] at h
    rw [List.lookup_cons] at h
    cases hx:x==n with
    | true=>
     rw [hx] at h
     simp only [Option.some.injEq] at h
     subst h
     exact ⟨k0,by rw [List.lookup_cons,hx], .inl rfl⟩
    | false=>
     rw [hx] at h
     obtain ⟨k',e,d⟩:=relabelS_lookup h;exact ⟨k',by rw [List.lookup_cons,hx];exact e,d⟩
theorem lookup_of_mem{α:Type}:∀ {l:List (Str×α)} {x:Str} {k:α},(l.map (·.1)).Nodup->(x,k) ∈ l->l.lookup x=some k
 | (y,j)::r,x,k,nd,h=>by
  rw [List.map_cons,List.nodup_cons] at nd
  rw [List.lookup_cons];rcases List.mem_cons.mp h with e | h'
  . cases e;rw [beq_self_eq_true]
  . have : (x == y) = false := by
     apply beq_eq_false_iff_ne.mpr;intro e;subst e;exact nd.1 (List.mem_map.mpr ⟨_,h',rfl⟩)
    rw [this];exact lookup_of_mem nd.2 h'
def csOk(osc sc:Scope)(N N':List Str)(ix:List (Option Nat)):Bool:=
 decide (sc.kind = .function) && decide (osc.kind = .function) && sc.names.all (fun y=>decide (y.2 = .local->sc.names.lookup y.1=some .local)) &&
 sc.names.all (fun y=>decide (y.2 = .free->(osc.names.lookup y.1=some .cell\/osc.names.lookup y.1=some .free))) && decide (N'.Nodup) && decide ((sc.names.map (·.1)).Nodup) && decide (N'.length=ix.length) &&
 (List.range ix.length).all fun i=>match ix[i]? with
  | some (some j)=>decide (N[j]? = N'[i]?) && (match N'[i]? with | some x=>decide (sc.names.lookup x=some .free) | none=>false)
  | _=>true
structure CS (osc sc:Scope) (N N':List Str) (ix:List (Option Nat)):Prop where
 kind:sc.kind = .function
 okind:osc.kind = .function
 names:∀y ∈ sc.names,y.2 = .local->sc.names.lookup y.1=some .local
 free:∀y ∈ sc.names,y.2 = .free->osc.names.lookup y.1=some .cell\/osc.names.lookup y.1=some .free
 nd:N'.Nodup
 ns:(sc.names.map (·.1)).Nodup
 len:N'.length=ix.length
 ixs:∀(i j:Nat),ix[i]? = some (some j)->∃x,N'[i]? = some x/\N[j]? = some x/\sc.names.lookup x=some .free
theorem CS.of{osc sc:Scope}{N N':List Str}{ix:List (Option Nat)}(h:csOk osc sc N N' ix=true):CS osc sc N N' ix:=by
 unfold csOk at h
 simp only [Bool.and_eq_true,List.all_eq_true,decide_eq_true_eq] at h
 obtain ⟨⟨⟨⟨⟨⟨⟨h1,h2⟩,h3⟩,h4⟩,h5⟩,h8⟩,h6⟩,h7⟩:=h;refine ⟨h1,h2,h3,h4,h5,h8,h6,fun i j e=> ?_⟩;have hi:i<ix.length:=(List.getElem?_eq_some_iff.mp e).1;have q:=h7 i (List.mem_range.mpr hi);rw [e] at q
 simp only [Bool.and_eq_true,decide_eq_true_eq] at q
 cases e2:N'[i]? with
 | none=>rw [e2] at q;exact absurd q.2 (by simp)
 | some x=>
  rw [e2] at q
  exact ⟨x,rfl,q.1,by simpa using q.2⟩
def subS(ix:List (Option Nat))(σ:L2.St):L2.St:=ix.map fun o=>match o with | some j=>(σ[j]?).join | none=>none
structure CB where
 C:Addr
 s₀:Shared
 H₀:Hp
 ex:List Addr
 xe:Value->Shared->Prop
def cEnv(osc sc:Scope)(cl:List (Str×Addr))(C:Addr)(env:Env):Env:=
 {scope:=relabelS sc osc,locals:=C,globals:=env.globals,cells:=cellsFrom (C+1) sc.names cl,qual:=env.qual,func:=none,code:=env.code,frame:=env.frame,builtins:=env.builtins}
def cxC(X:Cx)(osc sc:Scope)(N':List Str)(b:CB):Cx where
 prog:=X.prog
 w:=X.w
 K:=X.K
 mg:=X.mg
 base:=X.base
 A:=X.A
 N:=N'
 s₀:=b.s₀
 H₀:=b.H₀
 env:=cEnv osc sc (closL X.env.cells sc.names []) b.C X.env
 outer:=X.stack
 stack:=X.stack
 ex:=b.ex
 fn:=fun x=>decide (sc.names.lookup x=some .cell)
 calm:=X.calm
 pn:= []
 xe:=b.xe
def accObj:Obj:={cls:= .type "list",dict:=none,data:= .seq ([]:List Value).toArray}
def dctObj:Obj:={cls:= .type "dict",data:= .dict #[]}
def blkHeap(h:Heap)(sc:Scope):Heap:=pushCells ((h.push accObj).push dctObj) sc.names
theorem blk_keeps{h:Heap}{sc:Scope}:∀b o,h.get? b=some o->(blkHeap h sc).get? b=some o:=fun b o e=>pushCells_keeps _ _ b o (Heap.get?_push_of_some _ (Heap.get?_push_of_some _ e))
theorem wpAny_newEnv_comp {M : Model} {A : Around} {E : Value -> Shared -> Prop} {s : Shared} {scope : Scope} {globals : Addr} {cl : List (Str × Addr)} {qual : Str} {env : Env} {Q : Env -> Shared -> Prop}
 (h:Q (newEnv scope s.heap.objs.size globals (cellsFrom (s.heap.objs.size+1) scope.names cl) qual none .none (some env) builtinsNs) {s with heap:=pushCells (s.heap.push dctObj) scope.names}) :
 wpAny M A (newFunctionEnv scope globals cl [] qual none .none (some env)) Q E s:=by
 simp only [newFunctionEnv,Option.isSome_some,if_true];refine wpAny_bind (wpAny_alloc ?_);refine wpAny_bind (wpAny_layCells _ (fun name kind cells=>by cases hkc:kind==NameKind.cell <;> simp [hkc]) _ _ _ _ ?_);rw [show ({s with heap:=s.heap.push {cls:= .type "dict",data:= .dict #[]} }:Shared).heap.objs.size=s.heap.objs.size+1 from Heap.size_push ..];simp only [List.forIn_nil];exact wpAny_bind (wpAny_pure (wpAny_pure h))
section
variable {X:Cx} {pins:List (Addr×Obj)} {σ:L2.St} {H:Hp} {s:Shared} {osc sc:Scope} {N':List Str} {ix:List (Option Nat)} {fp:List Addr}
theorem closes(I:Inv X pins σ H s)(cs:CS osc sc X.N N' ix)(ho:X.env.scope=osc):∀y ∈ sc.names,y.2 = .free->∃c,X.env.cells.lookup y.1=some c:=fun y hy hf=>by
 refine I.ok.has y.1 ?_;have q:=cs.free y hy hf;rw [<-ho] at q
 exact q
theorem blk_cell (I : Inv X pins σ H s) (cs : CS osc sc X.N N' ix) (ho : X.env.scope = osc) {C : Addr} {x : Str} {c : Addr} (h : (cellsFrom (C + 1) sc.names (closL X.env.cells sc.names [])).lookup x = some c) :
 ((x,c) ∈ cellsFrom (C+1) sc.names [] )\/((x,NameKind.free) ∈ sc.names/\X.env.cells.lookup x=some c):=by
 rw [cf_app,lookup_app] at h
 cases e:(cellsFrom (C+1) sc.names []).lookup x with
 | some d=>rw [e] at h;cases h;exact .inl (mem_of_lookup e)
 | none=>
  rw [e] at h
  rcases closL_of h with q | ⟨q,d⟩
  . cases q
  . obtain ⟨c',hc⟩:=closes I cs ho _ q rfl;rw [show X.env.cells.lookup x=some c' from hc] at d
    exact .inr ⟨q,by rw [show X.env.cells.lookup x=some c' from hc];rw [d];rfl⟩
theorem inv_comp (I : Inv X pins σ H s) (cs : CS osc sc X.N N' ix) (ho : X.env.scope = osc) (hfp : ∀ b ∈ fp, FpOk X pins H b) (hlt : ∀ b ∈ fp, b < s.heap.objs.size) {xe : Value -> Shared -> Prop} :
 Inv (cxC X osc sc N' ⟨s.heap.objs.size+1,s,H,fp ++ [s.heap.objs.size],xe⟩) [] (subS ix σ) H {s with heap:=blkHeap s.heap sc}:=by
 have okc:=cellsFrom_ok sc.names ((s.heap.push accObj).push dctObj) (s.heap.objs.size+2) [] ⟨fun _ _ hm=>(nomatch hm),List.Pairwise.nil⟩ (by rw [Heap.size_push,Heap.size_push];exact Nat.le_refl _);have esz:((s.heap.push accObj).push dctObj).objs.size=s.heap.objs.size+1+1:=by rw [Heap.size_push,Heap.size_push]
 rw [esz] at okc
 have cell:=fun {x:Str} {c:Addr}=>blk_cell (C:=s.heap.objs.size+1) (x:=x) (c:=c) I cs ho;have oldc:∀ {x:Str} {c:Addr},X.env.cells.lookup x=some c -> @LT.lt Nat _ c s.heap.objs.size:=fun {x c} h=>(I.cell x c h).elim fun v hv=>hv.lt;have ltS:∀ {h:Heap} {b:Addr} {o:Obj},h.get? b=some o -> @LT.lt Nat _ b h.objs.size:=fun e=>Heap.lt_size e;have newc:∀ {x:Str} {c:Addr},(x,c) ∈ cellsFrom (s.heap.objs.size+1+1) sc.names []->s.heap.objs.size+2<=c:=fun {x c} h=>(okc.empty x c h).2
 have nsC:∃m,(blkHeap s.heap sc).Ns (s.heap.objs.size+1) m:=⟨_,by
  have q:=(Heap.Ns.new (s.heap.push accObj) (.type "dict")).keeps (pushCells_keeps sc.names _);rw [Heap.size_push] at q
  exact q⟩
 refine ⟨?ok,rfl,I.bare,Un.kept blk_keeps,?loc,?cell,I.hok.fresh (Nat.le_succ _),?freeC,?pin,I.hok.kept blk_keeps,?len⟩
 case ok=>
  refine ⟨I.ok.mod,cs.kind,I.ok.glob,I.ok.blt,Nat.le_succ _,?inj,?has,?cab,I.ok.hd,I.ok.frames, .inl rfl,?exf,I.bs,?bsz,?noex,?exfs,I.stack,I.stkFree,I.tb⟩
  case inj=>
   intro x y c hx hy;rcases cell hx with p | ⟨p,p'⟩ <;> rcases cell hy with q | ⟨q,q'⟩
   . exact name_of_addr okc.apart p q
   . have a1:=newc p;have a2:=oldc q';omega
   . have a1:=newc q;have a2:=oldc p';omega
   . exact I.ok.inj x y c p' q'
  case has=>
   intro x hx
   have key:∀k,(relabelS sc osc).names.lookup x=some k->(k = .cell\/k = .free)->∃c,(cellsFrom (s.heap.objs.size+1+1) sc.names (closL X.env.cells sc.names [])).lookup x=some c:=by
    intro k hk hk2;obtain ⟨k',e,d⟩:=relabelS_lookup hk;have hm:=mem_of_lookup e
    have:k' = .cell\/k' = .free:=by
     rcases d with d | d
     . rcases hk2 with r | r
       . exact .inl (d.trans r)
       . exact .inr (d.trans r)
     . exact .inr d.1
    rcases this with r | r
    . subst r;exact cf_has hm
    . subst r;rw [cf_app,lookup_app,closL_free hm]
      cases (cellsFrom (s.heap.objs.size+1+1) sc.names []).lookup x with
      | some c=>exact ⟨c,rfl⟩
      | none=>exact ⟨_,rfl⟩
   rcases hx with hx | hx
   . exact key _ hx (.inl rfl)
   . exact key _ hx (.inr rfl)
  case cab=>
   intro x c hf hc;have hf':sc.names.lookup x=some .cell:=of_decide_eq_true hf;rcases cell hc with p | ⟨p,p'⟩
   . have:=newc p;show s.heap.objs.size<=c;omega
   . rw [lookup_of_mem cs.ns p] at hf'
     cases hf'
  case exf=>
   intro b hb;rcases List.mem_append.mp hb with hb | hb
   . have hl : @LT.lt Nat _ b s.heap.objs.size:=hlt b hb;obtain ⟨f0,f1,f2,f3,f4,f5⟩:=hfp b hb;refine ⟨fun e=> ?_,fun x c hc e=> ?_⟩
     . have e:b=s.heap.objs.size+1:=e;subst e;omega
     . rcases cell hc with p | ⟨p,p'⟩
       . have:=newc p;subst e;omega
       . exact f4 x c p' e
   . have hb:b=s.heap.objs.size:=by simpa using hb
     subst hb;refine ⟨fun e=>Nat.succ_ne_self _ (Eq.symm (show s.heap.objs.size=s.heap.objs.size+1 from e)),fun x c hc e=> ?_⟩;rcases cell hc with p | ⟨p,p'⟩
     . have:=newc p;subst e;omega
     . have:=oldc p';subst e;omega
  case bsz=>exact Nat.le_trans I.ok.bsz I.sz
  case noex=>
   intro b o e hb;have e:X.base.get? b=some o:=e;rcases List.mem_append.mp hb with hb | hb
   . obtain ⟨f0,f1,f2,f3,f4,f5⟩:=hfp b hb;rcases f3 with f3 | f3
     . exact I.ok.noex b o e f3
     . have:=ltS e;have:=I.ok.bsz;omega
   . have hb:b=s.heap.objs.size:=by simpa using hb
     have:=ltS e;have:=I.ok.bsz;have:=I.sz;subst hb;omega
  case exfs=>
   intro b hb hf;have hf:=I.stkSub b hf;rcases List.mem_append.mp hb with hb | hb
   . obtain ⟨f0,f1,f2,f3,f4,f5⟩:=hfp b hb;rcases List.mem_cons.mp hf with e | hf
     . exact f1 e
     . exact f2 hf
   . have hb:b=s.heap.objs.size:=by simpa using hb
     rcases List.mem_cons.mp hf with e | hf
     . have l : @LT.lt Nat _ X.env.locals s.heap.objs.size:=I.lt;rw [hb] at e
       rw [<-e] at l
       omega
     . exact I.nofs (Nat.le_of_eq hb.symm) hf
 case loc=>
  obtain ⟨m',hm'⟩:=nsC;obtain ⟨m,hm,hl⟩:=I.loc;refine ⟨m',hm',fun i x v hx hv hvis=> ?_⟩;unfold subS at hv
  rw [List.getElem?_map] at hv
  cases e:ix[i]? with
  | none=>rw [e] at hv;cases hv
  | some o=>
   rw [e] at hv
   cases o with
   | none=>cases hv
   | some j=>
    simp only [Option.map_some,Option.some.injEq] at hv
    obtain ⟨y,h1,h2,h3⟩:=cs.ixs i j e;have hx':N'[i]? = some x:=hx;rw [h1] at hx'
    cases hx'
    have hj:σ[j]? = some (some v):=by
     cases q:σ[j]? with
     | none=>rw [q] at hv;cases hv
     | some z=>rw [q] at hv;simp only [Option.join_some] at hv;rw [hv]
    have hfree:=mem_of_lookup h3;have hk:=cs.free _ hfree rfl;rw [<-ho] at hk
    have hvis0:Vis X.env.scope x:=by
     rcases hk with r | r
     . exact .inr (.inl r)
     . exact .inr (.inr r)
    obtain ⟨u,ru,lk⟩:=hl j x v h2 hj hvis0;refine ⟨u,ru, .inr ⟨?_,?_⟩⟩
    . rcases hvis with q | q | q
      . obtain ⟨k',e',d⟩:=relabelS_lookup q;rw [h3] at e'
        cases e'
        rcases d with d | d
        . cases d
        . cases d.2
      . exact .inl q
      . exact .inr q
    . rcases lk with ⟨lk,_⟩ | ⟨_,c,hc,hcell⟩
      . have:X.env.scope.names.lookup x=some .local:=lk;rw [this] at hk
        rcases hk with r | r <;> cases r
      . refine ⟨c,?_,hcell.keeps blk_keeps⟩;show (cellsFrom (s.heap.objs.size+1+1) sc.names (closL X.env.cells sc.names [])).lookup x=some c;rw [cf_app,lookup_app,closL_free hfree,hc]
        cases e2:(cellsFrom (s.heap.objs.size+1+1) sc.names []).lookup x with
        | some d=>
         have:=lookup_of_mem cs.ns (cf_mem (mem_of_lookup e2));rw [h3] at this
         cases this
        | none=>rfl
 case cell=>
  intro x c hc;rcases cell hc with p | ⟨p,p'⟩
  . exact ⟨_,(okc.empty x c p).1⟩
  . obtain ⟨v,hv⟩:=I.cell x c p';exact ⟨v,hv.keeps blk_keeps⟩
 case freeC=>
  intro x c hc;rcases cell hc with p | ⟨p,p'⟩
  . have:=newc p;exact I.hok.fresh (by omega)
  . exact I.freeC x c p'
 case pin=>intro p hp;cases hp
 case len=>
  show (subS ix σ).length=N'.length;unfold subS;rw [List.length_map,cs.len]
def GK(S:Nat->Bool)(g:TG):Prop:=∀v σ H Q,g v σ H Q->g v σ H fun σ' H'=>Q σ' H'/\σ'.length=σ.length/\∀i:Nat,S i=false->σ'[i]? = σ[i]?
def PTs(X:Cx)(ifs:List Expr)(t:TT):Prop:=
 ∀(pins:List (Addr×Obj)) (s:Shared) (σ:L2.St) (H:Hp) (Q:Bool->Hp->Prop),Inv X pins σ H s->t σ H Q ->
   wpAny (model X.prog X.w) X.A (forIn ifs true fun c r=>if r=true then do let ok <-isTrue c X.env (eval c X.env);pure (ForInStep.yield ok) else pure (ForInStep.yield r)) (TP X pins σ Q) X.xe s
def tNoTest:TT:=fun _ H Q=>Q true H
theorem pts_nil{X:Cx}:PTs X [] tNoTest:=fun _ _ _ H _ I h=>wpAny_tests_nil ⟨H,I,h⟩
theorem pts_one{X:Cx}{c:Expr}{t:TT}(h:PT X c t):PTs X [c] t:=fun pins s σ H Q I q=>wpAny_tests_one (h pins s σ H Q I q)
def tLCg(J:It)(σ0:L2.St)(g:TG)(tt:TT)(te:TE)(H1:Hp)(Q:VK):Prop:=∃W:Nat->Nat->List V->Hp->Prop,(∃m,W 0 m [] H1)/\∀i m ys H,W i m ys H->ys.length<sizeLine /\
 ((J.stop i H/\∀p,H p=none->Q (.ref p) (upd H p (.lst ys))) \/
  (J.go i H/\∃N:List V->Hp->Prop,(∀ys' H',N ys' H'->∃m',m'<m/\W (i+1) m' ys' H')/\∀x H',J.yld i H x H'->g x σ0 H' fun σ2 H2=>tt σ2 H2 fun b H3=>if b=true then te σ2 H3 fun y H4=>N (ys ++ [y]) H4 else N ys H3))
theorem codeAny_compLoop_any {prog : Program} {w : World} {A : Around} {R : Result -> Shared -> Prop} {s : Shared} {elt target iter : Expr} {ifs : List Expr} {scope : Scope} {pos : Pos} {it acc : Value} {env : Env} {EX : Value -> Shared -> Prop} (hEX : ∀ x s', EX x s' -> notedBy (model prog w) A env (fun x s' => R (.error x) s') x s') (I : Nat -> Shared -> Prop)
 (turn:∀n s,I n s->wpAny (model prog w) A (pyNext it) (fun r s₁=>match r with
  | none=>R (.ok .next) s₁
  | some v => wpAny (model prog w) A (letOwnedTupleGo target it v) (fun _ s₁ => wpAny (model prog w) A (assign target env v) (fun _ s₂ =>
   wpAny (model prog w) A (forIn ifs true fun c r=>if r=true then do let ok <-isTrue c env (eval c env);pure (ForInStep.yield ok) else pure (ForInStep.yield r)) (fun ok s₃=>
    if ok=true then wpAny (model prog w) A (eval elt env) (fun x s₄=>
     wpAny (model prog w) A (call (.builtin "list.append") [acc,x]) (fun _ s₅=>∃m,m<n/\I m s₅) (fun _ _=>False) s₄) EX s₃
    else ∃m,m<n/\I m s₃) EX s₂) EX s₁) (fun _ _=>False) s₁) (fun _ _=>False) s)
 (n:Nat) (h:I n s) :
 codeAny (model prog w) A (.compLoop (.ListComp elt [⟨target,iter,ifs,0⟩] scope pos) 0 it acc env) R s:=by
 refine codeAny_loop rfl I (fun n s hI=> ?_) n h;show wpAny _ A ((compTurn (.ListComp elt [⟨target,iter,ifs,0⟩] scope pos) 0 it acc env).onRaise (fun x=>do noteFrame x env;theTreesLotGoes x)) _ _ s;refine wpAny_noted ?_;rw [compTurn_list];refine wpAny_bind (wpAny_standAt (wpAny_bind (wpAny_mono (turn n s hI) (fun r s₁ h₁=> ?_) fun _ _ h'=>h'.elim)))
 cases r with
 | none=>exact wpAny_pure h₁
 | some v=>
  refine wpAny_bind (wpAny_mono h₁ (fun _ s₁ h₁=> ?_) fun _ _ h'=>h'.elim);refine wpAny_bind (wpAny_mono h₁ (fun _ s₂ h₂=>wpAny_bind (wpAny_mono h₂ (fun ok s₃ h₃=> ?_) hEX)) hEX)
  cases ok with
  | false=>exact wpAny_pure ⟨rfl,h₃⟩
  | true=>
   exact wpAny_bind (wpAny_bind (wpAny_mono h₃ (fun x s₄ h₄=>wpAny_bind (wpAny_mono h₄ (fun _ s₅ h₅=>wpAny_pure (wpAny_pure ⟨rfl,h₅⟩)) fun _ _ h'=>h'.elim)) hEX))
theorem HOk_add{P:Program}{w:World}{H:Hp}{h:Heap}{a:Addr}{o:HO}(x:HOk P w H h)(hn:H a=none)(new:ObjOk P w (upd H a o) h a o):HOk P w (upd H a o) h:=fun b u e=>by
 by_cases hb:b=a
 . subst hb;rw [upd_same] at e
   cases e
   exact new
 . rw [upd_ne hb] at e
   refine (x b u e).stay (fun _ _ _ q=>q) (fun c q=> ?_) (fun c xs q=> ?_) fun c ob xs q=> ?_
   . rw [upd_ne (ne_of_none q hn)];exact q
   . rw [upd_ne (ne_of_none q hn)];exact q
   . rw [upd_ne (ne_of_none q hn)];exact q
def slotS(ix:List (Option Nat))(i:Nat):Bool:=match ix[i]? with | some (some _)=>false | _=>true
structure BlkEnd (X:Cx) (pins:List (Addr×Obj)) (σ:L2.St) (C D:Addr) (H:Hp) (ys:List V) (s':Shared):Prop where
 inv:Inv X pins σ (upd H D (.lst ys)) s'
 free:H D=none
 ns:∃m,s'.heap.Ns C m
 cfree:(upd H D (.lst ys)) C=none
 cl:C≠X.env.locals
 cn:X.s₀.heap.objs.size<=C
 cc:∀x c,X.env.cells.lookup x=some c->c≠C
 cp:∀p ∈ X.pn++pins,p.1≠C
theorem run_block {tg elt iter : Expr} {ifs : List Expr} {scope : Scope} {pos : Pos} {J : It} {it : Addr} {tn : Nat -> Heap -> Prop} {g : TG} {tt : TT} {te : TE} {Q : VK} {R : Result -> Shared -> Prop} {xe : Value -> Shared -> Prop}
 (I2:Inv X pins σ H s) (cs:CS osc sc X.N N' ix) (ho:X.env.scope=osc) (hc:X.calm=true) (T:Turn X.prog X.w X.K tg J fp it tn) (st2:tn 0 s.heap) (f2:∀b ∈ fp,FpOk X pins H b)
 (hg:PG (cxC X osc sc N' ⟨s.heap.objs.size+1,s,H,fp ++ [s.heap.objs.size],xe⟩) tg g) (gk:GK (slotS ix) g)
 (ht:PTs (cxC X osc sc N' ⟨s.heap.objs.size+1,s,H,fp ++ [s.heap.objs.size],xe⟩) ifs tt) (he:PE (cxC X osc sc N' ⟨s.heap.objs.size+1,s,H,fp ++ [s.heap.objs.size],xe⟩) elt te)
 (rd:tLCg J (subS ix σ) g tt te H Q)
 (hxe:∀x s',xe x s'->notedBy (model X.prog X.w) X.A (cEnv osc sc (closL X.env.cells sc.names []) (s.heap.objs.size+1) X.env) (fun x s'=>R (.error x) s') x s')
 (hR:∀ys H' s',BlkEnd X pins σ (s.heap.objs.size+1) s.heap.objs.size H' ys s'->Q (.ref s.heap.objs.size) (upd H' s.heap.objs.size (.lst ys))->R (.ok .next) s') :
 codeAny (model X.prog X.w) X.A (.compStart (.ListComp elt [⟨tg,iter,ifs,0⟩] scope pos) 0 (.ref it) (.ref s.heap.objs.size) (cEnv osc sc (closL X.env.cells sc.names []) (s.heap.objs.size+1) X.env)) R {s with heap:=blkHeap s.heap sc}:=by
 have ltS:∀ {h:Heap} {b:Addr} {o:Obj},h.get? b=some o -> @LT.lt Nat _ b h.objs.size:=fun e=>Heap.lt_size e;have hlt:∀b ∈ fp,b<s.heap.objs.size:=fun b hb=>(T.obj 0 _ st2 b hb).elim fun o h=>Heap.lt_size h.1;have I3:=inv_comp (xe:=xe) I2 cs ho f2 hlt;generalize eX:cxC X osc sc N' ⟨s.heap.objs.size+1,s,H,fp ++ [s.heap.objs.size],xe⟩=X' at *
 have eE:cEnv osc sc (closL X.env.cells sc.names []) (s.heap.objs.size+1) X.env=X'.env:=by rw [<-eX];rfl
 have eP:X'.prog=X.prog:=by rw [<-eX];rfl
 have eW:X'.w=X.w:=by rw [<-eX];rfl
 have eK:X'.K=X.K:=by rw [<-eX];rfl
 have eA:X'.A=X.A:=by rw [<-eX];rfl
 have eC:X'.calm=true:=by rw [<-eX];exact hc
 have eL:X'.env.locals=s.heap.objs.size+1:=by rw [<-eX];rfl
 have eF:X'.fs=frs X.stack:=by rw [<-eX];rfl
 have eEx:X'.ex=fp ++ [s.heap.objs.size]:=by rw [<-eX];rfl
 have eN:X'.pn = []:=by rw [<-eX];rfl
 have eS:X'.s₀=s:=by rw [<-eX];rfl
 have eH:X'.H₀=H:=by rw [<-eX];rfl
 have exe:X'.xe=xe:=by rw [<-eX];rfl
 have okX:=I3.ok;have mD:s.heap.objs.size ∈ X'.ex:=by rw [eEx];exact List.mem_append_right _ (List.mem_singleton.mpr rfl)
 have mF:∀b ∈ fp,b ∈ X'.ex:=fun b hb=>by rw [eEx];exact List.mem_append_left _ hb
 obtain ⟨W,⟨m0,w0⟩,turn⟩:=rd
 have stat:∀ {H':Hp} {o:Obj},(∀b ∈ fp,H' b=none)->∀b ∈ fp,FpOk X' [(s.heap.objs.size,o)] H' b:=fun {H' o} hn b hb=>by
  refine ⟨hn b hb,(okX.exf b (mF b hb)).1,okX.exfs b (mF b hb), .inl (mF b hb),(okX.exf b (mF b hb)).2,fun p hp e=> ?_⟩;rw [eN] at hp
  have hp:p=(s.heap.objs.size,o):=by simpa using hp
  subst hp;have l : @LT.lt Nat _ b s.heap.objs.size:=hlt b hb;have e:s.heap.objs.size=b:=e;rw [<-e] at l
  omega
 have pinD:∀ {σ':L2.St} {H':Hp} {s':Shared} {o:Obj},Inv X' [] σ' H' s'->s'.heap.get? s.heap.objs.size=some o->H' s.heap.objs.size=none->(∀v,o.data ≠ .cell v)->Inv X' [(s.heap.objs.size,o)] σ' H' s':=fun {σ' H' s' o} I e hn hd=>by
  refine I.pins_of fun p hp=> ?_;have hp:p=(s.heap.objs.size,o):=by simpa using hp
  subst hp;exact ⟨e,hn,(okX.exf _ mD).1,okX.exfs _ mD,hd⟩
 rw [eE] at hxe
 rw [eE];have I3':Inv X' [] (subS ix σ) H {s with heap:=blkHeap s.heap sc}:=I3;have dat:∀(its:List Value) (k:Nat) (v:Option Value),({cls:= .type "list",data:= .seq its.toArray k}:Obj).data ≠ .cell v:=fun _ _ _ z=>nomatch z;have acc0:(blkHeap s.heap sc).get? s.heap.objs.size=some {cls:= .type "list",data:= .seq ([]:List Value).toArray 0}:=pushCells_keeps _ _ _ _ (Heap.get?_push_of_some _ (Heap.get?_push_size _ rfl));have st3:tn 0 (blkHeap s.heap sc):=T.keep 0 _ _ st2 fun b hb o e=>blk_keeps b o e
 have loop:∀s3:Shared,s3={s with heap:=blkHeap s.heap sc}->codeAny (model X.prog X.w) X.A (.compLoop (.ListComp elt [⟨tg,iter,ifs,0⟩] scope pos) 0 (.ref it) (.ref s.heap.objs.size) X'.env) R s3:=by
  rintro s3 rfl
  refine codeAny_compLoop_any (EX:=xe) hxe (fun n s'=>∃i ys H' its k,Inv X' [] (subS ix σ) H' s'/\tn i s'.heap/\(∀b ∈ fp,H' b=none)/\W i n ys H'/\s'.heap.get? s.heap.objs.size=some {cls:= .type "list",data:= .seq its.toArray k}/\Vals ys its/\H' s.heap.objs.size=none)
   ?_ m0 ⟨0,[],H,[],0,I3',st3,fun b hb=>(f2 b hb).1,w0,acc0, .nil,I2.hok.fresh (Nat.le_refl _)⟩
  rintro n s3 ⟨i,ys,H3,its,k,J3,t3,fr3,w3,a3,v3,d3⟩;obtain ⟨hz,w3⟩:=turn i n ys H3 w3;have J3p:=pinD J3 a3 d3 (dat its k);rcases w3 with ⟨stop,q⟩ | ⟨go,N,hN,step⟩
  . have TD:=T.done X' eP eW eK eC i [(s.heap.objs.size,_)] s3 (subS ix σ) H3 (fun _ _=>False) J3p (stat fr3) t3 stop;rw [eA] at TD
    refine thn TD fun r s4 ⟨hr,I4⟩ => ?_;subst hr;have a4:=(I4.pin (s.heap.objs.size,_) (List.mem_append_right _ (List.mem_singleton.mpr rfl))).1;have hd4:=I4.base;rw [eF,eEx,eH,eS] at hd4
    refine hR ys H3 s4 ⟨?_,d3,?_,?_,?_,?_,?_,?_⟩ (q _ d3)
    . refine I2.call' (ch:=fp ++ [s.heap.objs.size]) (by have z:=I4.os;rw [eS] at z;exact z) ?_ ?_ I4.bare ?_
      . refine ⟨hd4.keep,hd4.slot,fun b o e n x=> ?_,hd4.there,fun b xs e=> ?_,fun b o u e=> ?_,fun b ps e=> ?_⟩
        . have l:=ltS e;rw [upd_ne (by intro z;subst z;omega)];exact hd4.free b o e n x
        . have z:=hd4.tups b xs e;rw [upd_ne (ne_of_none z d3)];exact z
        . have z:=hd4.frzs b o u e;rw [upd_ne (ne_of_none z d3)];exact z
        . obtain ⟨more,z⟩:=hd4.tbls b ps e;exact ⟨more,by rw [upd_ne (ne_of_none z d3)];exact z⟩
      . have hk:=I4.hok;rw [eP,eW] at hk
        exact HOk_add hk d3 ⟨Nat.le_of_lt hz,its,k,v3,a4⟩
      . intro b hb;rcases List.mem_append.mp hb with hb | hb
        . obtain ⟨f0,f1,f2,f3,f4,f5⟩:=f2 b hb;exact ⟨f3,f1,f4,f5⟩
        . have hb:b=s.heap.objs.size:=by simpa using hb
          subst hb;refine ⟨.inr I2.sz,fun e=> ?_,fun x c hx e=> ?_,fun p hp e=> ?_⟩
          . have l : @LT.lt Nat _ X.env.locals s.heap.objs.size:=I2.lt;rw [<-e] at l
            omega
          . obtain ⟨v,hv⟩:=I2.cell x c hx;have l : @LT.lt Nat _ c s.heap.objs.size:=hv.lt;rw [e] at l
            omega
          . have l:=ltS (I2.pin p hp).1;rw [e] at l
            omega
    . obtain ⟨m,hm,_⟩:=I4.loc;rw [eL] at hm
      exact ⟨m,hm⟩
    . rw [upd_ne (Nat.succ_ne_self _)];have z:=I4.free;rw [eL] at z
      exact z
    . intro e;have l : @LT.lt Nat _ X.env.locals s.heap.objs.size:=I2.lt;rw [<-e] at l
      omega
    . have:=I2.sz;exact Nat.le_succ_of_le this
    . intro x c hx e;obtain ⟨v,hv⟩:=I2.cell x c hx;have l : @LT.lt Nat _ c s.heap.objs.size:=hv.lt;rw [e] at l
      omega
    . intro p hp e;have l:=ltS (I2.pin p hp).1;rw [e] at l
      omega
  . have TI:=T.item X' eP eW eK eC i [(s.heap.objs.size,_)] s3 (subS ix σ) H3 (fun _ _=>False) J3p (stat fr3) t3 go;rw [eA] at TI
    refine thn TI fun r s4 ⟨u,hr,h4⟩ => ?_;subst hr;refine thn h4 fun _ s5 ⟨x,H5,I5,r5,y5,st5,fr5⟩ => ?_;have I5':=I5.pinned (stat fr5) (T.obj _ _ st5);have HG:=hg _ s5 (subS ix σ) H5 x u _ I5' r5 (gk _ _ _ _ (step x H5 y5));rw [eP,eW,eA,exe] at HG
    refine thn HG fun _ s6 ⟨σ6,H6,I6,q6,l6,k6⟩ => ?_;have HT:=ht _ s6 σ6 H6 _ I6 q6;rw [eP,eW,eA,exe] at HT
    refine thn HT fun b s7 ⟨H7,I7,q7⟩ => ?_
    have weak:∀ {ps:List (Addr×Obj)} {H':Hp} {s':Shared},Inv X' ps σ6 H' s'->Inv X' ps (subS ix σ) H' s':=fun I=>I.weak l6.symm fun j v e=>by
     have hs:slotS ix j=false:=by
      unfold slotS;unfold subS at e
      rw [List.getElem?_map] at e
      cases e2:ix[j]? with
      | none=>rw [e2] at e;cases e
      | some o=>
       rw [e2] at e
       cases o with
       | none=>cases e
       | some z=>rfl
     rw [k6 j hs];exact e
    have pinA : ∀ {σ' : L2.St} {H' : Hp} {s' : Shared}, Inv X' ([(s.heap.objs.size, { cls := .type "list", data := .seq its.toArray k })] ++ pinsAt fp s5.heap) σ' H' s' ->
     s'.heap.get? s.heap.objs.size=some {cls:= .type "list",data:= .seq its.toArray k}/\H' s.heap.objs.size=none/\tn (i+1) s'.heap/\∀b ∈ fp,H' b=none:=fun {σ' H' s'} I=>by
     have z:=I.pin (s.heap.objs.size,_) (List.mem_append_right _ (List.mem_append_left _ (List.mem_singleton.mpr rfl)));refine ⟨z.1,z.2.1,T.keep _ _ _ st5 fun b hb o e=>(I.pin (b,o) (List.mem_append_right _ (List.mem_append_right _ (mem_pinsAt hb e)))).1,fun b hb=> ?_⟩;obtain ⟨o,e,d⟩:=T.obj _ _ st5 b hb;exact (I.pin (b,o) (List.mem_append_right _ (List.mem_append_right _ (mem_pinsAt hb e)))).2.1
    cases b with
    | false=>
     have q7:N ys H7:=q7;obtain ⟨m',hm,w7⟩:=hN ys H7 q7;obtain ⟨p1,p2,p3,p4⟩:=pinA I7
     exact ⟨m',hm,i+1,ys,H7,its,k,(weak I7).pins_of (fun _ z=>(nomatch z)),p3,p4,w7,p1,v3,p2⟩
    | true=>
     have HE:=he _ s7 σ6 H7 _ I7 q7;rw [eP,eW,eA,exe] at HE
     refine thn HE fun y s8 ⟨z,H8,I8,r8,q8⟩ => ?_;obtain ⟨m',hm,w8⟩:=hN _ H8 q8;obtain ⟨p1,p2,p3,p4⟩:=pinA I8;refine call_meets F.slot_list_append ⟨_,p1,rfl⟩ F.entry_list_append (F.args_list_append_2 _ _) (PySem.list_append s.heap.objs.size its.toArray k y (by rw [List.size_toArray, <-v3.length];omega)) ⟨p1,?_⟩;have q:=PySem.IsL.update p1 (fun a=>a.push y);have other:∀b o,b≠s.heap.objs.size->s8.heap.get? b=some o->(s8.heap.update s.heap.objs.size (Obj.mapSeq fun a=>a.push y)).get? b=some o:=fun b o hb e=>(Heap.get?_update_other s8.heap _ (Ne.symm hb)).trans e;have eq:its.toArray.push y=(its ++ [y]).toArray:=by simp
     have q:IsL (s8.heap.update s.heap.objs.size (Obj.mapSeq fun a=>a.push y)) s.heap.objs.size (its.toArray.push y) _:=q;rw [eq] at q
     refine ⟨m',hm,i+1,ys ++ [z],H8,its ++ [y],_,?_,T.keep _ _ _ p3 fun b hb o e=>other b o (fun z=> ?_) e,p4,w8,q,v3.append (.cons r8 .nil),p2⟩
     . have I8w:Inv X' [] (subS ix σ) H8 s8:=(weak I8).pins_of fun _ z=>nomatch z;refine I8w.turned (it:=s.heap.objs.size) other p2 (okX.exf _ mD).1 (.inl mD) (okX.exf _ mD).2 fun p hp=> ?_;rw [eN] at hp
       cases hp
     . have l : @LT.lt Nat _ b s.heap.objs.size:=hlt b hb;rw [z] at l
       omega
 exact codeAny_compStart_list (loop _ rfl) (T.self X.A 0 _ _ _ st3 (loop _ rfl))
def tLC(ix:List (Option Nat))(wi:TI)(g:CB->TG)(tt:CB->TT)(te:CB->TE):TE:=fun σ H Q=>wi σ H fun J H1=>∀b:CB,tLCg J (subS ix σ) (g b) (tt b) (te b) H1 Q
theorem pe_lc {tg elt iter : Expr} {ifs : List Expr} {pos : Pos} {wi : TI} {g : CB -> TG} {tt : CB -> TT} {te : CB -> TE} (hc : X.calm = true) (ho : X.env.scope = osc) {N : List Str} (hN : X.N = N) (hcs : csOk osc sc N N' ix = true) (hi : PI X tg iter wi)
 (hb:∀b:CB,PG (cxC X osc sc N' b) tg (g b)/\PTs (cxC X osc sc N' b) ifs (tt b)/\PE (cxC X osc sc N' b) elt (te b)) (gk:∀b:CB,GK (slotS ix) (g b))
 (hs:∀x,foldedSetIterable iter X.env x=pure x:=by intro _;rfl):PE X (.ListComp elt [⟨tg,iter,ifs,0⟩] sc pos) (tLC ix wi g tt te):=by
 subst hN;have cs:=CS.of hcs;intro pins s σ H Q I h;rw [eval_ListComp];have hcl:=closureFor_eq (closes I cs ho);refine wpAny_comprehension_free (use:=none) rfl hs hcl cs.kind cs.names (thn (hi pins s σ H _ I h) fun v s1 h1=>thn h1 fun itv s2 h2=> ?_);obtain ⟨it,fp,tn,J,H2,e,I2,T,st2,f2,rd⟩:=h2;subst e;refine wpAny_newObj_type ?_;refine wpAny_newEnv_comp ?_;have hb':=hb ⟨s2.heap.objs.size+1,s2,H2,fp ++ [s2.heap.objs.size],fun _ _=>False⟩
 have rb:=run_block (scope:=sc) (pos:=pos) (iter:=iter) (R:=compPost (model X.prog X.w) X.A X.xe none (EP X pins σ Q) (.ref s2.heap.objs.size) (s2.heap.objs.size+1)) I2 cs ho hc T st2 f2 hb'.1 (gk _) hb'.2.1 hb'.2.2 (rd _) (fun _ _ z=>z.elim) (fun ys H' s' B q=>by
  obtain ⟨m,hm⟩:=B.ns;refine ⟨m,hm,fun h' hsb=> ?_⟩;refine ⟨.ref s2.heap.objs.size,upd H' s2.heap.objs.size (.lst ys),?_,rfl,q⟩;exact B.inv.turned (it:=s2.heap.objs.size+1) (fun b o hb e=>hsb.extBut b o hb e) B.cfree B.cl (.inr B.cn) B.cc B.cp)
 have sz:(s2.heap.push accObj).objs.size=s2.heap.objs.size+1:=Heap.size_push ..;show codeAny _ _ (.compStart _ 0 (.ref it) (.ref s2.heap.objs.size) {newEnv sc (s2.heap.push accObj).objs.size X.env.globals (cellsFrom ((s2.heap.push accObj).objs.size+1) sc.names (closL X.env.cells sc.names [])) X.env.qual none .none (some X.env) builtinsNs with scope:=relabel sc X.env}) (compPost _ _ _ none _ (.ref s2.heap.objs.size) (s2.heap.push accObj).objs.size) _;rw [sz,relabel_eq,ho];exact rb
def tSetC(i:Nat)(t:TE):TS:=fun D σ H=>t σ H fun v H1=>D.nx (σ.set i (some v)) H1
theorem ps_setC {tg elt iter : Expr} {ifs : List Expr} {pos py spos : Pos} {wi : TI} {g : CB -> TG} {tt : CB -> TT} {te : CB -> TE} {i : Nat} {y : Str} (hnd : X.N.Nodup) (hi' : X.N[i]? = some y) (hy : X.env.scope.names.lookup y = some .local)
 (hsw:swapsWith (.ListComp elt [⟨tg,iter,ifs,0⟩] sc pos) (some (.Name y py)) spos.line X.env=pure true)
 (hc:X.calm=true) (ho:X.env.scope=osc) {N:List Str} (hN:X.N=N) (hcs:csOk osc sc N N' ix=true) (hi:PI X tg iter wi)
 (hb:∀b:CB,PG (cxC X osc sc N' b) tg (g b)/\PTs (cxC X osc sc N' b) ifs (tt b)/\PE (cxC X osc sc N' b) elt (te b)) (gk:∀b:CB,GK (slotS ix) (g b))
 (hs:∀x,foldedSetIterable iter X.env x=pure x:=by intro _;rfl):PS X (.Assign [.Name y py] (.ListComp elt [⟨tg,iter,ifs,0⟩] sc pos) spos) (tSetC i (tLC ix wi g tt te)):=by
 have hN':=hN;subst hN;have cs:=CS.of hcs;intro pins s σ H D I h;rw [exec_Assign_Name_used _ _ _ _ hsw];have hcl:=closureFor_eq (closes I cs ho);refine wpAny_bind (wpAny_standAt (wpAny_bind ?_));show wpAny _ X.A (do let _ <-comprehension (.ListComp elt [⟨tg,iter,ifs,0⟩] sc pos) sc X.env _ (newList []) false (eval iter X.env) (some (assign (.Name y py) X.env))) _ _ s
 refine wpAny_bind (wpAny_mono (wpAny_comprehension_free (use:=some (assign (.Name y py) X.env)) (Q:=fun _ s'=>SP X pins D .next s') rfl hs hcl cs.kind cs.names
  (thn (hi pins s σ H _ I h) fun v s1 h1=>thn h1 fun itv s2 h2=> ?_)) (fun _ s' hq=>wpAny_pure (wpAny_pure hq)) fun _ _ e=>e)
 obtain ⟨it,fp,tn,J,H2,e,I2,T,st2,f2,rd⟩:=h2;subst e;refine wpAny_newObj_type ?_;refine wpAny_newEnv_comp ?_;have hb':=hb ⟨s2.heap.objs.size+1,s2,H2,fp ++ [s2.heap.objs.size],fun _ _=>False⟩
 have rb:=run_block (scope:=sc) (pos:=pos) (iter:=iter) (R:=compPost (model X.prog X.w) X.A X.xe (some (assign (.Name y py) X.env)) (fun _ s'=>SP X pins D .next s') (.ref s2.heap.objs.size) (s2.heap.objs.size+1)) I2 cs ho hc T st2 f2 hb'.1 (gk _) hb'.2.1 hb'.2.2 (rd _) (fun _ _ z=>z.elim) (fun ys H' s' B q=>by
  show wpAny _ X.A (assign (.Name y py) X.env (.ref s2.heap.objs.size)) _ _ s';refine wpAny_assign_Name (store_ok2 (v:= .ref s2.heap.objs.size) B.inv hnd hi' (.inl hy) rfl (fun s'' I'' ⟨a,sb,ha⟩ => ?_) (.inr hy))
  have hne:s2.heap.objs.size+1≠a:=by
   rcases ha with ha | ha
   . rw [ha];exact B.cl
   . exact (B.cc y a ha).symm
  obtain ⟨m,hm⟩:=B.ns;refine ⟨m,hm.sameBut sb hne,fun h' hsb=> ?_⟩;exact ⟨_,_,I''.turned (it:=s2.heap.objs.size+1) (fun b o hb e=>hsb.extBut b o hb e) B.cfree B.cl (.inr B.cn) B.cc B.cp,q⟩)
 have sz:(s2.heap.push accObj).objs.size=s2.heap.objs.size+1:=Heap.size_push ..;show codeAny _ _ (.compStart _ 0 (.ref it) (.ref s2.heap.objs.size) {newEnv sc (s2.heap.push accObj).objs.size X.env.globals (cellsFrom ((s2.heap.push accObj).objs.size+1) sc.names (closL X.env.cells sc.names [])) X.env.qual none .none (some X.env) builtinsNs with scope:=relabel sc X.env}) (compPost _ _ _ _ _ (.ref s2.heap.objs.size) (s2.heap.push accObj).objs.size) _;rw [sz,relabel_eq,ho];exact rb
end
end Tf
namespace Tf
open PySem PySem.Spec PyProof.Rows L2
section
variable {X:Cx}
section
variable {K:PySem.W.Frag} {σ0:L2.St} {g:TG} {tt:TT} {te:TE} {H:Hp} {Q:VK}
theorem Reps.snoc{vs:List V}{ds:List PyData}{v:V}{d:PyData}(h:Reps K H vs ds)(k:Rep K H v d):Reps K H (vs ++ [v]) (ds ++ [d]):=by
 induction vs generalizing ds with
 | nil=>cases h;exact .cons k .nil
 | cons x xs ih=>cases h with | cons a b=>exact .cons a (ih b)
theorem Reps.get:∀ {vs:List V} {ds:List PyData} {i:Nat} {d:PyData},Reps K H vs ds->ds[i]? = some d->∃v,vs[i]? = some v/\Rep K H v d
 | _,_,_,_, .nil,e=>by simp at e
 | _,_,0,_, .cons r _,e=>by simp at e;subst e;exact ⟨_,rfl,r⟩
 | _,_,i+1,d, .cons _ t,e=>by
  obtain ⟨u,h1,h2⟩:=Reps.get (i:=i) (d:=d) t (by simpa using e);exact ⟨u,by simpa using h1,h2⟩
end
end
end Tf
namespace Dm
open PySem PySem.Spec PyProof.Rows L2 Tf
inductive Sl where
 | val (d:PyData)
 | own (ds:List PyData)
 | dct (kvs:List (PyData×PyData))
def Sl.dat:Sl->PyData
 | .val d=>d
 | .own ds=> .list ds
 | .dct kvs=> .dict kvs
abbrev En:=List (Option Sl)
theorem same_upd2{H0 H:Hp}{p:Addr}{o:HO}(h:Same H0 H):Same (upd H0 p o) (upd H p o):=fun b u e=>by
 by_cases hb:b=p
 . subst hb;rw [upd_same] at e ⊢;exact e
 . rw [upd_ne hb] at e ⊢;exact h b u e
def Mu:HO->Prop
 | .tup _=>False
 | _=>True
structure Ext (H0 H H0' H':Hp):Prop where
 s:Same H H'
 s0:Same H0 H0'
 s1:Same H0' H'
 own:∀a o,H a=some o->Mu o->H0 a=none->H0' a=none
theorem Ext.refl{H0 H:Hp}(h:Same H0 H):Ext H0 H H0 H:=⟨Same.refl _,Same.refl _,h,fun _ _ _ _ h=>h⟩
theorem Ext.trans{H0 H H1 J1 H2 J2:Hp}(a:Ext H0 H H1 J1)(b:Ext H1 J1 H2 J2):Ext H0 H H2 J2:=
 ⟨a.s.trans b.s,a.s0.trans b.s0,b.s1,fun x o h m h0=>b.own x o (a.s x o h) m (a.own x o h m h0)⟩
theorem Ext.chain{S0 HB H0 H H1 J1:Hp}(a:Ext S0 HB H0 H)(b:Ext H0 H H1 J1):Ext S0 HB H1 J1:=
 ⟨a.s.trans b.s,a.s0.trans b.s0,b.s1,fun x o h m h0=>b.own x o (a.s x o h) m (a.own x o h m h0)⟩
theorem Ext.rebase{S0 HB H0 H:Hp}(a:Ext S0 HB H0 H):Ext H0 HB H0 H:=⟨a.s,Same.refl _,a.s1,fun _ _ _ _ h=>h⟩
theorem Ext.unbase{S0 HB H0 H H1 J1:Hp}(a:Ext S0 HB H0 H)(b:Ext H0 HB H1 J1):Ext S0 HB H1 J1:=
 ⟨b.s,a.s0.trans b.s0,b.s1,fun x o h m h0=>b.own x o h m (a.own x o h m h0)⟩
theorem Ext.alloc{H0 H:Hp}{p:Addr}(h:Same H0 H)(hp:H p=none)(o:HO):Ext H0 H H0 (upd H p o) :=
 ⟨Same.upd hp o,Same.refl _,h.trans (Same.upd hp o),fun _ _ _ _ h=>h⟩
theorem Ext.allocF{H0 H:Hp}{p:Addr}(h:Same H0 H)(hp:H p=none)(o:HO):Ext H0 H (upd H0 p o) (upd H p o) :=
 ⟨Same.upd hp o,Same.upd (h.free hp) o,same_upd2 h,fun a o' ha _ h0=>by rw [upd_ne (ne_of_none ha hp)];exact h0⟩
section
variable {K:PySem.W.Frag}
def DctR(K:PySem.W.Frag)(H0:Hp)(t:List (List Key×V))(kvs:List (PyData×PyData)):Prop:=∃(ks:List (List Key)) (xs:List V) (ds:List PyData),t=ks.zip xs/\ks.length=xs.length/\Reps K H0 xs ds/\kvs=(ks.map tupD).zip ds
theorem DctR.same{H0 H0':Hp}{t:List (List Key×V)}{kvs:List (PyData×PyData)}(s:Same H0 H0')(h:DctR K H0 t kvs):DctR K H0' t kvs:=by
 obtain ⟨ks,xs,ds,e1,e2,e3,e4⟩:=h;exact ⟨ks,xs,ds,e1,e2,Reps.same s e3,e4⟩
theorem DctR.rep{H:Hp}{a:Addr}{t:List (List Key×V)}{kvs:List (PyData×PyData)}(h:DctR K H t kvs)(e:H a=some (.dT t)):Rep K H (.ref a) (.dict kvs):=by
 obtain ⟨ks,xs,ds,rfl,e2,e3,rfl⟩:=h;exact .dict (.inl e) e2 e3
def SlP(K:PySem.W.Frag)(H0 H:Hp)(v:V):Sl->Prop
 | .val d=>Rep K H0 v d
 | .own ds=>∃a vs,v = .ref a/\H a=some (.lst vs)/\Reps K H0 vs ds
 | .dct kvs=>∃a t,v = .ref a/\H a=some (.dT t)/\DctR K H0 t kvs
def SlH(K:PySem.W.Frag)(HB H0 H:Hp)(v:V):Sl->Prop
 | .val d=>Rep K H0 v d
 | .own ds=>∃a vs,v = .ref a/\HB a=none/\H0 a=none/\H a=some (.lst vs)/\Reps K H0 vs ds
 | .dct kvs=>∃a t,v = .ref a/\HB a=none/\H0 a=none/\H a=some (.dT t)/\DctR K H0 t kvs
theorem SlH.p{HB H0 H:Hp}{v:V}:∀ {s:Sl},SlH K HB H0 H v s->SlP K H0 H v s
 | .val _,h=>h
 | .own _,⟨a,vs,e,_,_,h1,h2⟩=>⟨a,vs,e,h1,h2⟩
 | .dct _,⟨a,vs,e,_,_,h1,h2⟩=>⟨a,vs,e,h1,h2⟩
theorem SlH.base{HB HB' H0 H:Hp}{v:V}(s:Same HB HB'):∀ {r:Sl},SlH K HB' H0 H v r->SlH K HB H0 H v r
 | .val _,h=>h
 | .own _,⟨a,vs,e,h0,h1,h2,h3⟩=>⟨a,vs,e,s.free h0,h1,h2,h3⟩
 | .dct _,⟨a,vs,e,h0,h1,h2,h3⟩=>⟨a,vs,e,s.free h0,h1,h2,h3⟩
theorem SlH.ext{HB H0 H H0' H':Hp}{v:V}(x:Ext H0 H H0' H'):∀ {r:Sl},SlH K HB H0 H v r->SlH K HB H0' H' v r
 | .val _,h=>Rep.same x.s0 h
 | .own _,⟨a,vs,e,h0,h1,h2,h3⟩=>⟨a,vs,e,h0,x.own a _ h2 True.intro h1,x.s _ _ h2,Reps.same x.s0 h3⟩
 | .dct _,⟨a,vs,e,h0,h1,h2,h3⟩=>⟨a,vs,e,h0,x.own a _ h2 True.intro h1,x.s _ _ h2,h3.same x.s0⟩
theorem SlP.ext{H0 H H0' H':Hp}{v:V}(x:Ext H0 H H0' H'):∀ {r:Sl},SlP K H0 H v r->SlP K H0' H' v r
 | .val _,h=>Rep.same x.s0 h
 | .own _,⟨a,vs,e,h2,h3⟩=>⟨a,vs,e,x.s _ _ h2,Reps.same x.s0 h3⟩
 | .dct _,⟨a,vs,e,h2,h3⟩=>⟨a,vs,e,x.s _ _ h2,h3.same x.s0⟩
theorem SlP.rep{H0 H:Hp}{v:V}(s:Same H0 H):∀ {r:Sl},SlP K H0 H v r->Rep K H v r.dat
 | .val _,h=>Rep.same s h
 | .own _,⟨a,vs,e,h2,h3⟩=>by subst e;exact .list (SqL.of h2) (Reps.same s h3)
 | .dct _,⟨a,vs,e,h2,h3⟩=>by subst e;exact (h3.same s).rep h2
theorem SlP.lst{H0 H:Hp}{v:V}{ds:List PyData}(s:Same H0 H):∀ {r:Sl},SlP K H0 H v r->r.dat = .list ds->∃a vs,v = .ref a/\SqL K H a vs/\Reps K H0 vs ds
 | .val _,h,e=>by
  cases h with
  | list h1 h2=>cases e;exact ⟨_,_,rfl,s.seq h1,h2⟩
  | _=>cases e
 | .own _,⟨a,vs,e,h2,h3⟩,e2=>by cases e2;exact ⟨a,vs,e,SqL.of h2,h3⟩
 | .dct _,_,e2=>by cases e2
theorem SlP.tup{H0 H:Hp}{v:V}{ds:List PyData}:∀ {r:Sl},SlP K H0 H v r->r.dat = .tuple ds->∃a vs,v = .ref a/\H0 a=some (.tup vs)/\Reps K H0 vs ds
 | .val _,h,e=>by
  cases h with
  | tuple h1 h2=>cases e;exact ⟨_,_,rfl,h1,h2⟩
  | _=>cases e
 | .own _,_,e=>by cases e
 | .dct _,_,e=>by cases e
theorem SlP.int{H0 H:Hp}{v:V}{i:Int}(h:SlP K H0 H v (.val (.int i))):v = .int i:=by cases (show Rep K H0 v (.int i) from h);rfl
theorem SlP.bool{H0 H:Hp}{v:V}{i:Bool}(h:SlP K H0 H v (.val (.bool i))):v = .bl i:=by cases (show Rep K H0 v (.bool i) from h);rfl
theorem SlP.str{H0 H:Hp}{v:V}{i:Str}(h:SlP K H0 H v (.val (.str i))):v = .str i:=by cases (show Rep K H0 v (.str i) from h);rfl
theorem SlP.none{H0 H:Hp}{v:V}(h:SlP K H0 H v (.val .none)):v = .non:=by cases (show Rep K H0 v .none from h);rfl
theorem rep_non{H:Hp}{v:V}{d:PyData}(h:Rep K H v d):v = .non↔d = .none:=by
 cases h <;> simp
structure ER (K:PySem.W.Frag) (HB H0 H:Hp) (σ:L2.St) (ρ:En):Prop where
 len:σ.length=ρ.length
 get:∀(i:Nat) s,ρ[i]? = some (some s)->∃v,σ[i]? = some (some v)/\SlH K HB H0 H v s
 apart:∀(i j:Nat) a ds es,i≠j->ρ[i]? = some (some (.own ds))->ρ[j]? = some (some (.own es))->σ[i]? = some (some (.ref a))->σ[j]? ≠ some (some (.ref a))
theorem ER.ext{HB H0 H H0' H':Hp}{σ:L2.St}{ρ:En}(x:Ext H0 H H0' H')(e:ER K HB H0 H σ ρ):ER K HB H0' H' σ ρ:=
 ⟨e.len,fun i s h=>by obtain ⟨v,h1,h2⟩:=e.get i s h;exact ⟨v,h1,h2.ext x⟩,e.apart⟩
structure Rl where
 r:Hp->Hp->Hp->L2.St->En->Prop
 slot:Nat->Prop
structure ST (R:Rl) (HB H0 H:Hp) (σ:L2.St) (ρ:En):Prop where
 r:R.r HB H0 H σ ρ
class RelOk (K:outParam PySem.W.Frag) (R:Rl):Prop where
 ext:∀ {HB H0 H H0' H':Hp} {σ:L2.St} {ρ:En},Ext H0 H H0' H'->R.r HB H0 H σ ρ->R.r HB H0' H' σ ρ
 get:∀ {HB H0 H:Hp} {σ:L2.St} {ρ:En} {i:Nat} {s:Sl},R.r HB H0 H σ ρ->R.slot i->ρ[i]? = some (some s)->∃v,σ[i]? = some (some v)/\SlH K HB H0 H v s
 set:∀ {HB H0 H H0' H':Hp} {σ:L2.St} {ρ:En} {i:Nat} {v:V} {s:Sl},R.r HB H0 H σ ρ->R.slot i->Ext H0 H H0' H'->Same HB H->SlH K H H0' H' v s->R.r HB H0' H' (σ.set i (some v)) (ρ.set i (some s))
 write:∀ {HB H0 H:Hp} {σ:L2.St} {ρ:En} {i:Nat} {a:Addr} {ds es:List PyData} {vs ys:List V},R.r HB H0 H σ ρ->R.slot i->ρ[i]? = some (some (.own ds))->σ[i]? = some (some (.ref a))->HB a=none->H0 a=none->H a=some (.lst vs)->Reps K H0 ys es->R.r HB H0 (upd H a (.lst ys)) σ (ρ.set i (some (.own es)))
 frz:∀ {S0 HB H0 H:Hp} {σ:L2.St} {ρ:En} {i:Nat} {ds:List PyData},R.r HB H0 H σ ρ->R.slot i->ρ[i]? = some (some (.own ds))->Ext S0 HB H0 H->∃H0',Ext S0 HB H0' H/\R.r HB H0' H σ (ρ.set i (some (.val (.list ds))))
theorem ST.ext{R:Rl} [RelOk K R] {HB H0 H H0' H':Hp} {σ:L2.St} {ρ:En} (x:Ext H0 H H0' H') (e:ST R HB H0 H σ ρ):ST R HB H0' H' σ ρ:=⟨RelOk.ext (K:=K) x e.r⟩
def PR(K:PySem.W.Frag):Rl:=⟨ER K,fun _=>True⟩
variable {R:Rl} [RelOk K R]
def RX{α:Type}(K:PySem.W.Frag)(R:Rl)(P:Hp->Hp->Hp->V->α->Prop)(te:TE)(f:En->Option α):Prop:=
 ∀(HB:Hp) (σ:L2.St) (ρ:En) (H0 H:Hp),Same H0 H->ST R HB H0 H σ ρ->∀r,f ρ=some r->∀Q:VK,(∀v H0' H',Ext H0 H H0' H'->P H H0' H' v r->Q v H')->te σ H Q
abbrev RE (K:PySem.W.Frag) (R:Rl):TE->(En->Option Sl)->Prop:=RX K R (fun H H0' H' v r=>SlH K H H0' H' v r)
abbrev RP (K:PySem.W.Frag) (R:Rl):TE->(En->Option Sl)->Prop:=RX K R (fun _ H0' H' v r=>SlP K H0' H' v r)
abbrev RV (K:PySem.W.Frag) (R:Rl):TE->(En->Option PyData)->Prop:=RX K R (fun _ H0' _ v d=>Rep K H0' v d)
def RT(K:PySem.W.Frag)(R:Rl)(tt:TT)(f:En->Option Bool):Prop:=
 ∀(HB:Hp) (σ:L2.St) (ρ:En) (H0 H:Hp),Same H0 H->ST R HB H0 H σ ρ->∀b,f ρ=some b->∀Q:Bool->Hp->Prop,(∀H0' H',Ext H0 H H0' H'->Q b H')->tt σ H Q
def RA(K:PySem.W.Frag)(R:Rl)(ta:TA)(f:En->Option (List PyData)):Prop:=
 ∀(HB:Hp) (σ:L2.St) (ρ:En) (H0 H:Hp),Same H0 H->ST R HB H0 H σ ρ->∀ds,f ρ=some ds->∀Q:List V->Hp->Prop,(∀vs H0' H',Ext H0 H H0' H'->Reps K H0' vs ds->Q vs H')->ta σ H Q
def RQ(K:PySem.W.Frag)(R:Rl)(ta:TA)(f:En->Option (List Sl)):Prop:=
 ∀(HB:Hp) (σ:L2.St) (ρ:En) (H0 H:Hp),Same H0 H->ST R HB H0 H σ ρ->∀ss,f ρ=some ss->∀Q:List V->Hp->Prop,(∀vs H0' H',Ext H0 H H0' H'->Paired (SlP K H0' H') vs ss->Q vs H')->ta σ H Q
theorem RE.rp{te:TE}{f:En->Option Sl}(h:RE K R te f):RP K R te f:=fun HB σ ρ H0 H s e r hr Q q=>h HB σ ρ H0 H s e r hr Q fun v H0' H' x p=>q v H0' H' x p.p
theorem frz_ext{H0 H H0' H':Hp}{a:Addr}{w:HO}(x:Ext H0 H H0' H')(hn:H a=none)(h1:H0' a=none)(h2:H' a=some w):Ext H0 H (upd H0' a w) H' :=
 ⟨x.s,x.s0.trans (Same.upd h1 _),fun b u e=>by
  by_cases hb:b=a
  . subst hb;rw [upd_same] at e;rw [h2];exact e
  . rw [upd_ne hb] at e;exact x.s1 b u e,fun b o hb m h0=>by
  rw [upd_ne (ne_of_none hb hn)];exact x.own b o hb m h0⟩
def mDat(f:En->Option Sl):En->Option PyData:=fun ρ=>(f ρ).map Sl.dat
theorem RE.rv{te:TE}{f:En->Option Sl}(h:RE K R te f):RV K R te (mDat f):=fun HB σ ρ H0 H s e d hd Q q=>by
 obtain ⟨r,hr,rfl⟩:=Option.map_eq_some_iff.mp hd;refine h HB σ ρ H0 H s e r hr Q fun v H0' H' x p=> ?_
 cases r with
 | val d=>exact q v H0' H' x p
 | own ds=>
  obtain ⟨a,vs,rfl,hn,h1,h2,h3⟩:=p
  exact q _ _ _ (frz_ext x hn h1 h2) (.list (SqL.of upd_same) (Reps.same (Same.upd h1 _) h3))
 | dct kvs=>
  obtain ⟨a,t,rfl,hn,h1,h2,h3⟩:=p;exact q _ _ _ (frz_ext x hn h1 h2) ((h3.same (Same.upd h1 _)).rep upd_same)
def mPk(i:Nat):En->Option Sl:=fun ρ=>(ρ[i]?).join
def mVar(i:Nat):En->Option Sl:=fun ρ=>match (ρ[i]?).join with
 | some (.val d)=>some (.val d)
 | _=>none
def mK(d:PyData):En->Option Sl:=fun _=>some (.val d)
theorem join_some{α:Type}{o:Option (Option α)}{a:α}(h:o.join=some a):o=some (some a):=by
 cases o with
 | none=>cases h
 | some b=>exact congrArg some h
theorem rp_var(i:Nat)(hs:R.slot i):RP K R (tVar i) (mPk i):=fun HB σ ρ H0 H s e r hr Q q=>by
 obtain ⟨v,h1,h2⟩:=RelOk.get (K:=K) e.r hs (join_some hr);exact ⟨v,h1,q v H0 H (Ext.refl s) h2.p⟩
theorem re_var(i:Nat)(hs:R.slot i):RE K R (tVar i) (mVar i):=fun HB σ ρ H0 H s e r hr Q q=>by
 unfold mVar at hr
 cases ej:(ρ[i]?).join with
 | none=>rw [ej] at hr;cases hr
 | some r' =>
  rw [ej] at hr
  cases r' with
  | own _=>cases hr
  | dct _=>cases hr
  | val d=>
   cases hr
   obtain ⟨v,h1,h2⟩:=RelOk.get (K:=K) e.r hs (join_some ej);exact ⟨v,h1,q v H0 H (Ext.refl s) h2⟩
theorem re_k{v:V}{d:PyData}(h:∀H0:Hp,Rep K H0 v d):RE K R (tC v) (mK d):=fun HB σ ρ H0 H s e r hr Q q=>by
 cases hr
 exact q v H0 H (Ext.refl s) (h H0)
def OpD(K:PySem.W.Frag)(r:R2)(op:Sl->Sl->Option Sl):Prop:=
 ∀(H0 H:Hp) (x y:V) (sx sy z:Sl),Same H0 H->SlP K H0 H x sx->SlP K H0 H y sy->op sx sy=some z->∀Q:VK,(∀v H0' H',Ext H0 H H0' H'->SlH K H H0' H' v z->Q v H')->r x y H Q
def mBin(op:Sl->Sl->Option Sl)(fa fb:En->Option Sl):En->Option Sl:=fun ρ=>(fa ρ).bind fun a=>(fb ρ).bind fun b=>op a b
def mUn(op:Sl->Option Sl)(fa:En->Option Sl):En->Option Sl:=fun ρ=>(fa ρ).bind op
theorem re_bin{r:R2}{op:Sl->Sl->Option Sl}{ta tb:TE}{fa fb:En->Option Sl}(ho:OpD K r op)(ha:RP K R ta fa)(hb:RP K R tb fb):RE K R (tOp r ta tb) (mBin op fa fb):=fun HB σ ρ H0 H s e z hz Q q=>by
 obtain ⟨x,hx,hz⟩:=Option.bind_eq_some_iff.mp hz;obtain ⟨y,hy,hz⟩:=Option.bind_eq_some_iff.mp hz;refine ha HB σ ρ H0 H s e x hx _ fun v H1 J1 x1 p1=> ?_;refine hb HB σ ρ H1 J1 x1.s1 (e.ext (K:=K) x1) y hy _ fun u H2 J2 x2 p2=> ?_;exact ho H2 J2 v u x y z x2.s1 (p1.ext x2) p2 hz Q fun w H3 J3 x3 p3=>q w H3 J3 ((x1.trans x2).trans x3) (p3.base (x1.trans x2).s)
def iop(g:Int->Int->Int):Sl->Sl->Option Sl
 | .val (.int i), .val (.int j)=>some (.val (.int (g i j)))
 | _,_=>none
open Classical in
noncomputable def iopC(C:Int->Int->Prop)(g:Int->Int->Int):Sl->Sl->Option Sl
 | .val (.int i), .val (.int j)=>if C i j then some (.val (.int (g i j))) else none
 | _,_=>none
def icmp(g:Int->Int->Bool):Sl->Sl->Option Sl
 | .val (.int i), .val (.int j)=>some (.val (.bool (g i j)))
 | _,_=>none
def iun(g:Int->Int):Sl->Option Sl
 | .val (.int i)=>some (.val (.int (g i)))
 | _=>none
theorem opd_iop{g:Int->Int->Int}:OpD K (rI0 fun i j=> .int (g i j)) (iop g):=fun H0 H x y sx sy z s px py hz Q q=>by
 unfold iop at hz
 split at hz
 . cases hz
   exact ⟨_,_,px.int,py.int,q _ _ _ (Ext.refl s) (.int _)⟩
 . cases hz
theorem opd_iopC{C:Int->Int->Prop}{g:Int->Int->Int}:OpD K (rI C fun i j=> .int (g i j)) (iopC C g):=fun H0 H x y sx sy z s px py hz Q q=>by
 unfold iopC at hz
 split at hz
 . split at hz
   . rename_i hc
     cases hz
     exact ⟨_,_,px.int,py.int,hc,q _ _ _ (Ext.refl s) (.int _)⟩
   . cases hz
 . cases hz
theorem opd_icmp{g:Int->Int->Bool}:OpD K (rI0 fun i j=> .bl (g i j)) (icmp g):=fun H0 H x y sx sy z s px py hz Q q=>by
 unfold icmp at hz
 split at hz
 . cases hz
   exact ⟨_,_,px.int,py.int,q _ _ _ (Ext.refl s) (.bool _)⟩
 . cases hz
def eqD(a b:PyData):Option Bool:=if a.canLay0=true/\b.canLay0=true/\min a.depth b.depth<=60 then some (PyData.eqv a b) else none
def deq:Sl->Sl->Option Sl:=fun a b=>(eqD a.dat b.dat).map fun k=> .val (.bool k)
def dne:Sl->Sl->Option Sl:=fun a b=>(eqD a.dat b.dat).map fun k=> .val (.bool (!k))
theorem opd_eq:OpD K (rEqD K) deq:=fun H0 H x y sx sy z s px py hz Q q=>by
 obtain ⟨k,hk,rfl⟩:=Option.map_eq_some_iff.mp hz;unfold eqD at hk
 split at hk
 . rename_i hc
   cases hk
   exact ⟨_,_,px.rep s,py.rep s,hc.1,hc.2.1,hc.2.2,q _ _ _ (Ext.refl s) (.bool _)⟩
 . cases hk
theorem opd_ne:OpD K (rNeD K) dne:=fun H0 H x y sx sy z s px py hz Q q=>by
 obtain ⟨k,hk,rfl⟩:=Option.map_eq_some_iff.mp hz;unfold eqD at hk
 split at hk
 . rename_i hc
   cases hk
   exact ⟨_,_,px.rep s,py.rep s,hc.1,hc.2.1,hc.2.2,q _ _ _ (Ext.refl s) (.bool _)⟩
 . cases hk
def isNone:PyData->Bool
 | .none=>true
 | _=>false
def disN:Sl->Sl->Option Sl
 | a, .val .none=>some (.val (.bool (isNone a.dat)))
 | _,_=>none
def disNN:Sl->Sl->Option Sl
 | a, .val .none=>some (.val (.bool (!isNone a.dat)))
 | _,_=>none
theorem isNone_of{H0 H:Hp}{v:V}{r:Sl}(s:Same H0 H)(p:SlP K H0 H v r):decide (v = .non)=isNone r.dat:=by
 have h:=rep_non (p.rep s)
 cases e:r.dat <;> simp_all [isNone]
theorem opd_isNN:OpD K (fun x y H Q=>y = .non/\Q (.bl (!decide (x = .non))) H) disNN:=fun H0 H x y sx sy z s px py hz Q q=>by
 unfold disNN at hz
 split at hz
 . cases hz
   refine ⟨py.none,?_⟩;rw [isNone_of s px];exact q _ _ _ (Ext.refl s) (.bool _)
 . cases hz
def dix:Sl->Sl->Option Sl
 | a, .val (.int i)=>match a.dat with
  | .list ds=>(atI ds i).map .val
  | .tuple ds=>(atI ds i).map .val
  | _=>none
 | _,_=>none
theorem Reps.atI{H:Hp}{vs:List V}{ds:List PyData}{i:Int}{d:PyData}(h:Reps K H vs ds)(e:atI ds i=some d):∃v,atI vs i=some v/\Rep K H v d:=by
 unfold L2.atI at e ⊢
 rw [h.length]
 cases ej:ixN ds.length i with
 | none=>rw [ej] at e;cases e
 | some j=>
  rw [ej] at e
  obtain ⟨v,h1,h2⟩:=Tf.Reps.get h (show ds[j]? = some d from e);exact ⟨v,h1,h2⟩
theorem opd_ix:OpD K (rIx K) dix:=fun H0 H x y sx sy z s px py hz Q q=>by
 unfold dix at hz
 split at hz
 . split at hz
   . rename_i i ds hd;obtain ⟨d,he,rfl⟩:=Option.map_eq_some_iff.mp hz;obtain ⟨a,vs,rfl,h1,h2⟩:=px.lst s hd;obtain ⟨v,h3,h4⟩:=Reps.atI h2 he;exact .inl ⟨a,vs,_,v,rfl,py.int,h1,h3,q _ _ _ (Ext.refl s) h4⟩
   . rename_i i ds hd;obtain ⟨d,he,rfl⟩:=Option.map_eq_some_iff.mp hz;obtain ⟨a,vs,rfl,h1,h2⟩:=px.tup hd;obtain ⟨v,h3,h4⟩:=Reps.atI h2 he;exact .inr (.inl ⟨a,vs,_,v,rfl,py.int,s.seqT (SqT.of h1),h3,q _ _ _ (Ext.refl s) h4⟩)
   . cases hz
 . cases hz
end
end Dm
namespace Dm
open PySem PySem.Spec PyProof.Rows L2 Tf
section
variable {K:PySem.W.Frag} {R:Rl} [RelOk K R]
def mNil:En->Option (List PyData):=fun _=>some []
def mCons(f:En->Option Sl)(g:En->Option (List PyData)):En->Option (List PyData):=fun ρ=>(f ρ).bind fun a=>(g ρ).bind fun as=>some (a.dat::as)
theorem ra_nil:RA K R tNil mNil:=fun HB σ ρ H0 H s e ds hd Q q=>by
 cases hd
 exact q [] H0 H (Ext.refl s) .nil
theorem ra_cons{te:TE}{ta:TA}{f:En->Option Sl}{g:En->Option (List PyData)}(hf:RE K R te f)(hg:RA K R ta g):RA K R (tCons te ta) (mCons f g):=fun HB σ ρ H0 H s e ds hd Q q=>by
 obtain ⟨a,ha,hd⟩:=Option.bind_eq_some_iff.mp hd;obtain ⟨as,has,hd⟩:=Option.bind_eq_some_iff.mp hd
 cases hd
 refine hf.rv HB σ ρ H0 H s e a.dat (by unfold mDat;rw [ha];rfl) _ fun v H1 J1 x1 p1=> ?_;exact hg HB σ ρ H1 J1 x1.s1 (e.ext (K:=K) x1) as has _ fun vs H2 J2 x2 p2=>q _ H2 J2 (x1.trans x2) (.cons (Rep.same x2.s0 p1) p2)
def mNilP:En->Option (List Sl):=fun _=>some []
def mConsP(f:En->Option Sl)(g:En->Option (List Sl)):En->Option (List Sl):=fun ρ=>(f ρ).bind fun a=>(g ρ).bind fun as=>some (a::as)
theorem rq_nil:RQ K R tNil mNilP:=fun HB σ ρ H0 H s e ds hd Q q=>by
 cases hd
 exact q [] H0 H (Ext.refl s) .nil
theorem rq_cons{te:TE}{ta:TA}{f:En->Option Sl}{g:En->Option (List Sl)}(hf:RP K R te f)(hg:RQ K R ta g):RQ K R (tCons te ta) (mConsP f g):=fun HB σ ρ H0 H s e ds hd Q q=>by
 obtain ⟨a,ha,hd⟩:=Option.bind_eq_some_iff.mp hd;obtain ⟨as,has,hd⟩:=Option.bind_eq_some_iff.mp hd
 cases hd
 refine hf HB σ ρ H0 H s e a ha _ fun v H1 J1 x1 p1=> ?_;exact hg HB σ ρ H1 J1 x1.s1 (e.ext (K:=K) x1) as has _ fun vs H2 J2 x2 p2=>q _ H2 J2 (x1.trans x2) (.cons (p1.ext x2) p2)
def mTup(f:En->Option (List PyData)):En->Option Sl:=fun ρ=>(f ρ).bind fun ds=>if ds.length<=sizeLine then some (.val (.tuple ds)) else none
def mLst(f:En->Option (List PyData)):En->Option Sl:=fun ρ=>(f ρ).bind fun ds=>if ds.length<=sizeLine then some (.own ds) else none
theorem re_tup{ta:TA}{f:En->Option (List PyData)}(h:RA K R ta f):RE K R (tTup ta) (mTup f):=fun HB σ ρ H0 H s e z hz Q q=>by
 obtain ⟨ds,hd,hz⟩:=Option.bind_eq_some_iff.mp hz
 split at hz
 . rename_i hl
   cases hz
   refine h HB σ ρ H0 H s e ds hd _ fun vs H1 J1 x1 p1=>⟨by rw [p1.length];exact hl,fun p hp=> ?_⟩;exact q _ _ _ (x1.trans (Ext.allocF x1.s1 hp _)) (.tuple upd_same (Reps.same (Same.upd (x1.s1.free hp) _) p1))
 . cases hz
theorem re_lst{ta:TA}{f:En->Option (List PyData)}(h:RA K R ta f):RE K R (tLst ta) (mLst f):=fun HB σ ρ H0 H s e z hz Q q=>by
 obtain ⟨ds,hd,hz⟩:=Option.bind_eq_some_iff.mp hz
 split at hz
 . rename_i hl
   cases hz
   refine h HB σ ρ H0 H s e ds hd _ fun vs H1 J1 x1 p1=>⟨by rw [p1.length];exact hl,fun p hp=> ?_⟩;exact q _ _ _ (x1.trans (Ext.alloc x1.s1 hp _)) ⟨p,vs,rfl,x1.s.free hp,x1.s1.free hp,upd_same,p1⟩
 . cases hz
def spD(K:PySem.W.Frag)(F:List PyData->Option Sl):Sp:=fun vs H Q _=>∃H0 ds r,Same H0 H/\Reps K H0 vs ds/\F ds=some r/\∀v H0' H',Ext H0 H H0' H'->SlH K H H0' H' v r->Q v H'
def mCall(F:List PyData->Option Sl)(f:En->Option (List PyData)):En->Option Sl:=fun ρ=>(f ρ).bind F
theorem re_call{F:List PyData->Option Sl}{E:XK}{ta:TA}{f:En->Option (List PyData)}(h:RA K R ta f):RE K R (tCall (spD K F) [] E ta) (mCall F f):=fun HB σ ρ H0 H s e z hz Q q=>by
 obtain ⟨ds,hd,hz⟩:=Option.bind_eq_some_iff.mp hz;refine h HB σ ρ H0 H s e ds hd _ fun vs H1 J1 x1 p1=> ?_;rw [List.append_nil];exact ⟨H1,ds,z,x1.s1,p1,hz,fun v H2 J2 x2 p2=>q v H2 J2 (x1.trans x2) (p2.base x1.s)⟩
def CallD(K:PySem.W.Frag)(r:List V->Hp->VK->Prop)(F:List Sl->Option Sl):Prop:=
 ∀(H0 H:Hp) (vs:List V) (ss:List Sl) (z:Sl),Same H0 H->Paired (SlP K H0 H) vs ss->F ss=some z->∀Q:VK,(∀v H0' H',Ext H0 H H0' H'->SlH K H H0' H' v z->Q v H')->r vs H Q
def mCallP(F:List Sl->Option Sl)(f:En->Option (List Sl)):En->Option Sl:=fun ρ=>(f ρ).bind F
theorem re_callB{r:List V->Hp->VK->Prop}{F:List Sl->Option Sl}{ta:TA}{f:En->Option (List Sl)}(hc:CallD K r F)(h:RQ K R ta f):RE K R (tCB r ta) (mCallP F f):=fun HB σ ρ H0 H s e z hz Q q=>by
 obtain ⟨ss,hd,hz⟩:=Option.bind_eq_some_iff.mp hz;refine h HB σ ρ H0 H s e ss hd _ fun vs H1 J1 x1 p1=> ?_;exact hc H1 J1 vs ss z x1.s1 p1 hz Q fun v H2 J2 x2 p2=>q v H2 J2 (x1.trans x2) (p2.base x1.s)
theorem paired1{H0 H:Hp}{vs:List V}{a:Sl}(h:Paired (SlP K H0 H) vs [a]):∃v,vs = [v]/\SlP K H0 H v a:=by
 cases h with | cons h t=>cases t;exact ⟨_,rfl,h⟩
def dLen:List Sl->Option Sl
 | [a]=>match a.dat with
  | .list ds=>some (.val (.int ds.length))
  | .tuple ds=>some (.val (.int ds.length))
  | _=>none
 | _=>none
theorem cd_len:CallD K (fun xs H Q=>∃p ys,xs = [.ref p]/\(SqL K H p ys\/SqT K H p ys)/\Q (.int ys.length) H) dLen:=fun H0 H vs ss z s p hz Q q=>by
 unfold dLen at hz
 split at hz
 . obtain ⟨v,rfl,pa⟩:=paired1 p
   split at hz
   . rename_i ds hd
     cases hz
     obtain ⟨a,vs,rfl,h1,h2⟩:=pa.lst s hd;refine ⟨a,vs,rfl, .inl h1,?_⟩;rw [h2.length];exact q _ _ _ (Ext.refl s) (.int _)
   . rename_i ds hd
     cases hz
     obtain ⟨a,vs,rfl,h1,h2⟩:=pa.tup hd;refine ⟨a,vs,rfl, .inr (s.seqT (SqT.of h1)),?_⟩;rw [h2.length];exact q _ _ _ (Ext.refl s) (.int _)
   . cases hz
 . cases hz
def dAbs:List Sl->Option Sl
 | [.val (.int i)]=>some (.val (.int (if i<0 then -i else i)))
 | _=>none
theorem cd_abs:CallD K (fun xs H Q=>∃i,xs = [.int i]/\Q (.int (if i<0 then -i else i)) H) dAbs:=fun H0 H vs ss z s p hz Q q=>by
 unfold dAbs at hz
 split at hz
 . obtain ⟨v,rfl,pa⟩:=paired1 p
   cases hz
   exact ⟨_,by rw [pa.int],q _ _ _ (Ext.refl s) (.int _)⟩
 . cases hz
def dList:List Sl->Option Sl
 | [a]=>match a.dat with
  | .list ds=>some (.own ds)
  | .tuple ds=>some (.own ds)
  | _=>none
 | _=>none
theorem cd_list:CallD K (fun xs H Q=>∃p ys,xs = [.ref p]/\(SqL K H p ys\/SqT K H p ys)/\∀l,H l=none->Q (.ref l) (upd H l (.lst ys))) dList:=fun H0 H vs ss z s p hz Q q=>by
 unfold dList at hz
 split at hz
 . obtain ⟨v,rfl,pa⟩:=paired1 p
   split at hz
   . rename_i ds hd
     cases hz
     obtain ⟨a,vs,rfl,h1,h2⟩:=pa.lst s hd;exact ⟨a,vs,rfl, .inl h1,fun l hl=>q _ _ _ (Ext.alloc s hl _) ⟨l,vs,rfl,hl,s.free hl,upd_same,h2⟩⟩
   . rename_i ds hd
     cases hz
     obtain ⟨a,vs,rfl,h1,h2⟩:=pa.tup hd;exact ⟨a,vs,rfl, .inr (s.seqT (SqT.of h1)),fun l hl=>q _ _ _ (Ext.alloc s hl _) ⟨l,vs,rfl,hl,s.free hl,upd_same,h2⟩⟩
   . cases hz
 . cases hz
def dTuple:List Sl->Option Sl
 | [a]=>match a.dat with
  | .list ds=>some (.val (.tuple ds))
  | .tuple ds=>some (.val (.tuple ds))
  | _=>none
 | _=>none
theorem cd_tuple:CallD K (fun xs H Q=>∃p ys,xs = [.ref p]/\((SqL K H p ys/\∀l,H l=none->Q (.ref l) (upd H l (.tup ys)))\/(SqT K H p ys/\Q (.ref p) H))) dTuple:=fun H0 H vs ss z s p hz Q q=>by
 unfold dTuple at hz
 split at hz
 . obtain ⟨v,rfl,pa⟩:=paired1 p
   split at hz
   . rename_i ds hd
     cases hz
     obtain ⟨a,vs,rfl,h1,h2⟩:=pa.lst s hd;exact ⟨a,vs,rfl, .inl ⟨h1,fun l hl=>q _ _ _ (Ext.allocF s hl _) (.tuple upd_same (Reps.same (Same.upd (s.free hl) _) h2))⟩⟩
   . rename_i ds hd
     cases hz
     obtain ⟨a,vs,rfl,h1,h2⟩:=pa.tup hd;exact ⟨a,vs,rfl, .inr ⟨s.seqT (SqT.of h1),q _ _ _ (Ext.refl s) (.tuple h1 h2)⟩⟩
   . cases hz
 . cases hz
def intsOf:List PyData->Option (List Int)
 | []=>some []
 | .int i::r=>(intsOf r).map (i :: ·)
 | _::_=>none
theorem intsOf_eq:∀ {ds:List PyData} {ns:List Int},intsOf ds=some ns->ds=ns.map .int
 | [],ns,h=>by cases h;rfl
 | .int i::r,ns,h=>by
  obtain ⟨ms,h1,rfl⟩:=Option.map_eq_some_iff.mp (show (intsOf r).map (i :: ·)=some ns from h);rw [intsOf_eq h1];rfl
theorem intsOf_map:∀ns:List Int,intsOf (ns.map .int)=some ns
 | []=>rfl
 | i::r=>by show (intsOf (r.map .int)).map (i :: ·)=_;rw [intsOf_map r];rfl
theorem reps_ints{H:Hp}:∀ {vs:List V} {ns:List Int},Reps K H vs (ns.map .int)->vs=ns.map .int
 | _,[],h=>by cases h;rfl
 | _,n::r,h=>by
  cases h with
  | cons h t=>cases h;rw [reps_ints t];rfl
def dInt:List Sl->Option Sl
 | [.val (.int i)]=>some (.val (.int i))
 | [.val (.bool k)]=>some (.val (.int (if k then 1 else 0)))
 | _=>none
def tyD:PyData->Option String
 | .none=>some "NoneType"
 | .bool _=>some "bool"
 | .int _=>some "int"
 | .str _=>some "str"
 | .list _=>some "list"
 | .tuple _=>some "tuple"
 | _=>none
theorem tyD_of{H:Hp}{v:V}{d:PyData}(h:Rep K H v d)(hn:(tyD d).isSome=true):∃t,tyD d=some t/\TyV K H v t:=by
 cases h with
 | none=>exact ⟨_,rfl, .non⟩
 | bool b=>exact ⟨_,rfl, .bl b⟩
 | int i=>exact ⟨_,rfl, .int i⟩
 | str x=>exact ⟨_,rfl, .str x⟩
 | list h _=>exact ⟨_,rfl, .lst h⟩
 | tuple h _=>exact ⟨_,rfl, .tup (SqT.of h)⟩
 | dict h _ _=>cases hn
 | dictF h _ _=>cases hn
def isiD(n:String)(t:String):Option Bool:=
 if n = "int" then some (t == "int" || t == "bool") else if n = "bool" \/ n = "str" \/ n = "list" \/ n = "tuple" then some (t==n) else none
def mIsi(n:String)(f:En->Option Sl):En->Option Sl:=fun ρ=>(f ρ).bind fun a=>(tyD a.dat).bind fun t=>(isiD n t).map fun b=> .val (.bool b)
theorem re_isi {te:TE} {f:En->Option Sl} {n:String} (hk:∀t b,isiD n t=some b->(t = "NoneType" \/ t = "bool" \/ t = "int" \/ t = "str" \/ t = "list" \/ t = "tuple")->PySem.W.kitOne K (.type t) (.type n)=some b) (h:RP K R te f):RE K R (tCB (rIsI K) (tCons te (tCons (tC (.ty n)) tNil))) (mIsi n f):=fun HB σ ρ H0 H s e z hz Q q=>by
 obtain ⟨a,ha,hz⟩:=Option.bind_eq_some_iff.mp hz;obtain ⟨t,ht,hz⟩:=Option.bind_eq_some_iff.mp hz;obtain ⟨b,hb,rfl⟩:=Option.map_eq_some_iff.mp hz;refine h HB σ ρ H0 H s e a ha _ fun v H1 J1 x1 p1=> ?_;obtain ⟨t',ht',ty⟩:=tyD_of (p1.rep x1.s1) (by rw [ht];rfl);rw [ht] at ht'
 cases ht'
 refine ⟨v,n,t,b,rfl,ty,hk t b hb ?_,q _ _ _ x1 (.bool _)⟩
 cases ty <;> simp
def mTest(f:En->Option Sl):En->Option Bool:=fun ρ=>(f ρ).bind fun a=>match a with
 | .val (.bool b)=>some b
 | _=>none
theorem mTest_some{f:En->Option Sl}{ρ:En}{b:Bool}(h:mTest f ρ=some b):f ρ=some (.val (.bool b)):=by
 obtain ⟨a,ha,h⟩:=Option.bind_eq_some_iff.mp h;rw [ha]
 split at h
 . cases h;rfl
 . cases h
theorem rt_test{te:TE}{f:En->Option Sl}(h:RP K R te f):RT K R (tTest te) (mTest f):=fun HB σ ρ H0 H s e b hb Q q=>
 h HB σ ρ H0 H s e _ (mTest_some hb) _ fun v H1 J1 x1 p1=>⟨b,p1.bool,q _ _ x1⟩
theorem rt_b{te:TE}{f:En->Option Sl}(h:RP K R te f):RT K R (tB te) (mTest f):=fun HB σ ρ H0 H s e b hb Q q=>
 h HB σ ρ H0 H s e _ (mTest_some hb) _ fun v H1 J1 x1 p1=>⟨b,p1.bool,q _ _ x1⟩
def mAnd(f g:En->Option Bool):En->Option Bool:=fun ρ=>(f ρ).bind fun b=>if b then g ρ else some false
def mOr(f g:En->Option Bool):En->Option Bool:=fun ρ=>(f ρ).bind fun b=>if b then some true else g ρ
def mNot(f:En->Option Bool):En->Option Bool:=fun ρ=>(f ρ).map (!·)
theorem rt_and{t u:TT}{f g:En->Option Bool}(h:RT K R t f)(k:RT K R u g):RT K R (tAnd t u) (mAnd f g):=fun HB σ ρ H0 H s e b hb Q q=>by
 obtain ⟨c,hc,hb⟩:=Option.bind_eq_some_iff.mp hb;refine h HB σ ρ H0 H s e c hc _ fun H1 J1 x1=> ?_
 cases c with
 | true=>exact iteT (k HB σ ρ H1 J1 x1.s1 (e.ext (K:=K) x1) b hb Q fun H2 J2 x2=>q _ _ (x1.trans x2))
 | false=>cases hb;exact iteF (q _ _ x1)
theorem rt_or{t u:TT}{f g:En->Option Bool}(h:RT K R t f)(k:RT K R u g):RT K R (tOr t u) (mOr f g):=fun HB σ ρ H0 H s e b hb Q q=>by
 obtain ⟨c,hc,hb⟩:=Option.bind_eq_some_iff.mp hb;refine h HB σ ρ H0 H s e c hc _ fun H1 J1 x1=> ?_
 cases c with
 | false=>exact iteF (k HB σ ρ H1 J1 x1.s1 (e.ext (K:=K) x1) b hb Q fun H2 J2 x2=>q _ _ (x1.trans x2))
 | true=>cases hb;exact iteT (q _ _ x1)
theorem rt_not{t:TT}{f:En->Option Bool}(h:RT K R t f):RT K R (tNot t) (mNot f):=fun HB σ ρ H0 H s e b hb Q q=>by
 obtain ⟨c,hc,rfl⟩:=Option.map_eq_some_iff.mp hb;exact h HB σ ρ H0 H s e c hc _ fun H1 J1 x1=>q _ _ x1
def mAndV(f g:En->Option Sl):En->Option Sl:=fun ρ=>(mTest f ρ).bind fun b=>if b then g ρ else some (.val (.bool false))
def mOrV(f g:En->Option Sl):En->Option Sl:=fun ρ=>(mTest f ρ).bind fun b=>if b then some (.val (.bool true)) else g ρ
def mNotV(f:En->Option Sl):En->Option Sl:=fun ρ=>(mTest f ρ).map fun b=> .val (.bool (!b))
theorem re_andV{t u:TE}{f g:En->Option Sl}(h:RP K R t f)(k:RE K R u g):RE K R (tAndV t u) (mAndV f g):=fun HB σ ρ H0 H s e z hz Q q=>by
 obtain ⟨c,hc,hz⟩:=Option.bind_eq_some_iff.mp hz;refine h HB σ ρ H0 H s e _ (mTest_some hc) _ fun v H1 J1 x1 p1=>⟨c,p1.bool,?_⟩
 cases c with
 | true=>exact iteT (k HB σ ρ H1 J1 x1.s1 (e.ext (K:=K) x1) z hz Q fun v H2 J2 x2 p2=>q _ _ _ (x1.trans x2) (p2.base x1.s))
 | false=>cases hz;exact iteF (q _ _ _ x1 (.bool _))
theorem re_orV{t u:TE}{f g:En->Option Sl}(h:RP K R t f)(k:RE K R u g):RE K R (tOrV t u) (mOrV f g):=fun HB σ ρ H0 H s e z hz Q q=>by
 obtain ⟨c,hc,hz⟩:=Option.bind_eq_some_iff.mp hz;refine h HB σ ρ H0 H s e _ (mTest_some hc) _ fun v H1 J1 x1 p1=>⟨c,p1.bool,?_⟩
 cases c with
 | false=>exact iteF (k HB σ ρ H1 J1 x1.s1 (e.ext (K:=K) x1) z hz Q fun v H2 J2 x2 p2=>q _ _ _ (x1.trans x2) (p2.base x1.s))
 | true=>cases hz;exact iteT (q _ _ _ x1 (.bool _))
theorem re_notV{t:TE}{f:En->Option Sl}(h:RP K R t f):RE K R (tNotV t) (mNotV f):=fun HB σ ρ H0 H s e z hz Q q=>by
 obtain ⟨c,hc,rfl⟩:=Option.map_eq_some_iff.mp hz;exact h HB σ ρ H0 H s e _ (mTest_some hc) _ fun v H1 J1 x1 p1=>⟨c,p1.bool,q _ _ _ x1 (.bool _)⟩
def mIfE(c:En->Option Bool)(f g:En->Option Sl):En->Option Sl:=fun ρ=>(c ρ).bind fun b=>if b then f ρ else g ρ
theorem re_ifE{c:TT}{t u:TE}{fc:En->Option Bool}{f g:En->Option Sl}(hc:RT K R c fc)(h:RE K R t f)(k:RE K R u g):RE K R (tIf c t u) (mIfE fc f g):=fun HB σ ρ H0 H s e z hz Q q=>by
 obtain ⟨b,hb,hz⟩:=Option.bind_eq_some_iff.mp hz;refine hc HB σ ρ H0 H s e b hb _ fun H1 J1 x1=> ?_
 cases b with
 | true=>exact iteT (h HB σ ρ H1 J1 x1.s1 (e.ext (K:=K) x1) z hz Q fun v H2 J2 x2 p2=>q _ _ _ (x1.trans x2) (p2.base x1.s))
 | false=>exact iteF (k HB σ ρ H1 J1 x1.s1 (e.ext (K:=K) x1) z hz Q fun v H2 J2 x2 p2=>q _ _ _ (x1.trans x2) (p2.base x1.s))
def RO(K:PySem.W.Frag)(R:Rl)(to:TO)(f:En->Option (Option Int)):Prop:=
 ∀(HB:Hp) (σ:L2.St) (ρ:En) (H0 H:Hp),Same H0 H->ST R HB H0 H σ ρ->∀o,f ρ=some o->∀Q:Option Int->Hp->Prop,(∀H0' H',Ext H0 H H0' H'->Q o H')->to σ H Q
def mNoPart:En->Option (Option Int):=fun _=>some none
def mPart(f:En->Option Sl):En->Option (Option Int):=fun ρ=>(f ρ).bind fun a=>match a with
 | .val (.int i)=>some (some i)
 | _=>none
theorem ro_none:RO K R tNoPart mNoPart:=fun HB σ ρ H0 H s e o ho Q q=>by cases ho;exact q _ _ (Ext.refl s)
theorem ro_some{te:TE}{f:En->Option Sl}(h:RP K R te f):RO K R (tPart te) (mPart f):=fun HB σ ρ H0 H s e o ho Q q=>by
 obtain ⟨a,ha,ho⟩:=Option.bind_eq_some_iff.mp ho
 split at ho
 . cases ho
   exact h HB σ ρ H0 H s e _ ha _ fun v H1 J1 x1 p1=>⟨_,p1.int,q _ _ x1⟩
 . cases ho
def cutD{α:Type}(xs:List α)(lo hi:Option Int):List α:=(xs.drop (HT.sIx xs.length 0 lo)).take (HT.sIx xs.length xs.length hi - HT.sIx xs.length 0 lo)
theorem Reps.drop{H:Hp}:∀ {vs:List V} {ds:List PyData} (n:Nat),Reps K H vs ds->Reps K H (vs.drop n) (ds.drop n)
 | _,_,0,h=>h
 | _,_,_+1, .nil=> .nil
 | _,_,n+1, .cons _ t=>Reps.drop n t
theorem Reps.take{H:Hp}:∀ {vs:List V} {ds:List PyData} (n:Nat),Reps K H vs ds->Reps K H (vs.take n) (ds.take n)
 | _,_,0,_=> .nil
 | _,_,_+1, .nil=> .nil
 | _,_,n+1, .cons h t=> .cons h (Reps.take n t)
theorem Reps.cut{H:Hp}{vs:List V}{ds:List PyData}(h:Reps K H vs ds)(lo hi:Option Int):Reps K H (cutV vs lo hi) (cutD ds lo hi):=by
 unfold cutV cutD;rw [h.length];exact Reps.take _ (Reps.drop _ h)
def dSl(a:Sl)(lo hi:Option Int):Option Sl:=match a.dat with
 | .list ds=>some (.own (cutD ds lo hi))
 | .tuple ds=>if HT.sIx ds.length 0 lo=0/\HT.sIx ds.length ds.length hi=ds.length then none else some (.val (.tuple (cutD ds lo hi)))
 | _=>none
def mSl(f:En->Option Sl)(l h:En->Option (Option Int)):En->Option Sl:=fun ρ=>(f ρ).bind fun a=>(l ρ).bind fun lo=>(h ρ).bind fun hi=>dSl a lo hi
theorem re_sl{te:TE}{tl th:TO}{f:En->Option Sl}{fl fh:En->Option (Option Int)}(h:RP K R te f)(hl:RO K R tl fl)(hh:RO K R th fh):RE K R (tSl (fun x lo hi H Q=>rSlL K x lo hi H Q\/rSlT K x lo hi H Q) te tl th) (mSl f fl fh):=fun HB σ ρ H0 H s e z hz Q q=>by
 obtain ⟨a,ha,hz⟩:=Option.bind_eq_some_iff.mp hz;obtain ⟨lo,hlo,hz⟩:=Option.bind_eq_some_iff.mp hz;obtain ⟨hi,hhi,hz⟩:=Option.bind_eq_some_iff.mp hz;refine h HB σ ρ H0 H s e a ha _ fun v H1 J1 x1 p1=> ?_;refine hl HB σ ρ H1 J1 x1.s1 (e.ext (K:=K) x1) lo hlo _ fun H2 J2 x2=> ?_;refine hh HB σ ρ H2 J2 x2.s1 ((e.ext (K:=K) x1).ext (K:=K) x2) hi hhi _ fun H3 J3 x3=> ?_;have x:=(x1.trans x2).trans x3;have p:=p1.ext (x2.trans x3);unfold dSl at hz
 split at hz
 . rename_i ds hd
   cases hz
   obtain ⟨b,vs,rfl,h1,h2⟩:=p.lst x.s1 hd;exact .inl ⟨b,vs,rfl,h1,fun l hl=>q _ _ _ (x.trans (Ext.alloc x.s1 hl _)) ⟨l,_,rfl,x.s.free hl,x.s1.free hl,upd_same,Reps.cut h2 lo hi⟩⟩
 . rename_i ds hd
   split at hz
   . cases hz
   . rename_i hw
     cases hz
     obtain ⟨b,vs,rfl,h1,h2⟩:=p.tup hd;refine .inr ⟨b,vs,rfl,x.s1.seqT (SqT.of h1),by rw [h2.length];exact hw,fun l hl=>q _ _ _ (x.trans (Ext.allocF x.s1 hl _)) (.tuple upd_same (Reps.same (Same.upd (x.s1.free hl) _) (Reps.cut h2 lo hi)))⟩
 . cases hz
end
end Dm
namespace Dm
open PySem PySem.Spec PyProof.Rows L2 Tf
inductive Out where
 | nx (ρ:En) | rt (r:Sl) (ρ:En) | bk (ρ:En) | ct (ρ:En)
section
variable {K:PySem.W.Frag} {R:Rl} [RelOk K R]
def EndR(K:PySem.W.Frag)(R:Rl)(HB S0:Hp)(D:Ends):Out->Prop
 | .nx ρ=>∀σ H0 H,Ext S0 HB H0 H->ST R HB H0 H σ ρ->D.nx σ H
 | .bk ρ=>∀σ H0 H,Ext S0 HB H0 H->ST R HB H0 H σ ρ->D.bk σ H
 | .ct ρ=>∀σ H0 H,Ext S0 HB H0 H->ST R HB H0 H σ ρ->D.ct σ H
 | .rt r ρ=>∀v σ H0 H,Ext S0 HB H0 H->ST R HB H0 H σ ρ->SlH K HB H0 H v r->D.rt v H
def RS(K:PySem.W.Frag)(R:Rl)(ts:TS)(g:En->Option Out):Prop:=
 ∀(HB S0:Hp) (σ:L2.St) (ρ:En) (H0 H:Hp),Ext S0 HB H0 H->ST R HB H0 H σ ρ->∀o,g ρ=some o->∀D:Ends,EndR K R HB S0 D o->ts D σ H
def mNext:En->Option Out:=fun ρ=>some (.nx ρ)
def mBrk:En->Option Out:=fun ρ=>some (.bk ρ)
def mCt:En->Option Out:=fun ρ=>some (.ct ρ)
def mRetN:En->Option Out:=fun ρ=>some (.rt (.val .none) ρ)
theorem rs_next:RS K R tNext mNext:=fun HB S0 σ ρ H0 H x e o ho D d=>by cases ho;exact d σ H0 H x e
def mSeq(f g:En->Option Out):En->Option Out:=fun ρ=>(f ρ).bind fun o=>match o with
 | .nx ρ'=>g ρ'
 | o=>some o
theorem rs_seq{t u:TS}{f g:En->Option Out}(h:RS K R t f)(k:RS K R u g):RS K R (tSeq t u) (mSeq f g):=fun HB S0 σ ρ H0 H x e o ho D d=>by
 obtain ⟨o1,h1,ho⟩:=Option.bind_eq_some_iff.mp ho;refine h HB S0 σ ρ H0 H x e o1 h1 { D with nx:=u D} ?_
 cases o1 with
 | nx ρ'=>exact fun σ' H0' H' x' e'=>k HB S0 σ' ρ' H0' H' x' e' o ho D d
 | rt r _=>cases ho;exact d
 | bk r=>cases ho;exact d
 | ct r=>cases ho;exact d
theorem ER.set{HB H0 H H0' H':Hp}{σ:L2.St}{ρ:En}{i:Nat}{v:V}{r:Sl}(e:ER K HB H0 H σ ρ)(x:Ext H0 H H0' H')(sb:Same HB H)(h:SlH K H H0' H' v r):ER K HB H0' H' (σ.set i (some v)) (ρ.set i (some r)):=by
 have e':=e.ext x;refine ⟨by rw [List.length_set,List.length_set];exact e.len,fun j s hs=> ?_,fun j k a ds es hjk hj hk h1 h2=> ?_⟩
 . by_cases hj:i=j
   . subst hj;rw [List.getElem?_set_self'] at hs ⊢
     cases hq:ρ[i]? with
     | none=>rw [hq] at hs;cases hs
     | some q=>
      rw [hq] at hs
      have hi:i<σ.length:=by rw [e.len];exact (List.getElem?_eq_some_iff.mp hq).1
      rw [List.getElem?_eq_getElem hi]
      cases hs
      exact ⟨v,rfl,h.base sb⟩
   . rw [List.getElem?_set_ne hj] at hs ⊢
     exact e'.get j s hs
 . have key : ∀ (j' k' : Nat) (b : Addr) ds' es', i = j' -> i ≠ k' -> (ρ.set i (some r))[j']? = some (some (.own ds')) -> ρ[k']? = some (some (.own es')) -> (σ.set i (some v))[j']? = some (some (.ref b)) -> σ[k']? ≠ some (some (.ref b)) := by
    clear hj hk h1 h2 hjk;intro j' k' b ds' es' hij hik hj hk h1 h2;subst hij;rw [List.getElem?_set_self'] at hj h1
    cases hq:ρ[i]? with
    | none=>rw [hq] at hj;cases hj
    | some q=>
     rw [hq] at hj
     cases hj
     have hi:i<σ.length:=by rw [e.len];exact (List.getElem?_eq_some_iff.mp hq).1
     rw [List.getElem?_eq_getElem hi] at h1
     cases h1
     obtain ⟨a',vs,ea,hn,_⟩:=h
     cases ea
     obtain ⟨w,hw,hb⟩:=e.get k' _ hk;rw [h2] at hw
     cases hw
     obtain ⟨b',ws,eb,_,_,hs,_⟩:=hb
     cases eb
     rw [hn] at hs
     cases hs
   by_cases hij:i=j
   . have hik:i≠k:=fun z=>hjk (hij.symm.trans z);rw [List.getElem?_set_ne hik] at hk h2
     exact key j k a ds es hij hik hj hk h1 h2
   . rw [List.getElem?_set_ne hij] at hj h1
     by_cases hik:i=k
     . exact key k j a es ds hik hij hk hj h2 h1
     . rw [List.getElem?_set_ne hik] at hk h2
       exact e.apart j k a ds es hjk hj hk h1 h2
def mAsg(i:Nat)(f:En->Option Sl):En->Option Out:=fun ρ=>(f ρ).map fun r=> .nx (ρ.set i (some r))
theorem rs_asg{te:TE}{f:En->Option Sl}{i:Nat}(hsl:R.slot i)(h:RE K R te f):RS K R (tAsg te (gName i)) (mAsg i f):=fun HB S0 σ ρ H0 H x e o ho D d=>by
 obtain ⟨r,hr,rfl⟩:=Option.map_eq_some_iff.mp ho;exact h HB σ ρ H0 H x.s1 e r hr _ fun v H1 J1 x1 p1=>d _ H1 J1 (x.chain x1) ⟨RelOk.set e.r hsl x1 x.s p1⟩
theorem rs_asgC{te:TE}{f:En->Option Sl}{i:Nat}(hsl:R.slot i)(h:RE K R te f):RS K R (tSetC i te) (mAsg i f):=fun HB S0 σ ρ H0 H x e o ho D d=>by
 obtain ⟨r,hr,rfl⟩:=Option.map_eq_some_iff.mp ho;exact h HB σ ρ H0 H x.s1 e r hr _ fun v H1 J1 x1 p1=>d _ H1 J1 (x.chain x1) ⟨RelOk.set e.r hsl x1 x.s p1⟩
def mRet(f:En->Option Sl):En->Option Out:=fun ρ=>(f ρ).map fun r=> .rt r ρ
theorem rs_ret{te:TE}{f:En->Option Sl}(h:RE K R te f):RS K R (tRet te) (mRet f):=fun HB S0 σ ρ H0 H x e o ho D d=>by
 obtain ⟨r,hr,rfl⟩:=Option.map_eq_some_iff.mp ho;exact h HB σ ρ H0 H x.s1 e r hr _ fun v H1 J1 x1 p1=>d v σ H1 J1 (x.chain x1) (e.ext (K:=K) x1) (p1.base x.s)
theorem rs_retV(i:Nat)(hsl:R.slot i):RS K R (tRet (tVar i)) (mRet (mPk i)):=fun HB S0 σ ρ H0 H x e o ho D d=>by
 obtain ⟨r,hr,rfl⟩:=Option.map_eq_some_iff.mp ho;obtain ⟨v,h1,h2⟩:=RelOk.get (K:=K) e.r hsl (join_some hr);exact ⟨v,h1,d v σ H0 H x e h2⟩
def mIf(c:En->Option Bool)(f g:En->Option Out):En->Option Out:=fun ρ=>(c ρ).bind fun b=>if b then f ρ else g ρ
theorem rs_if{c:TT}{t u:TS}{fc:En->Option Bool}{f g:En->Option Out}(hc:RT K R c fc)(h:RS K R t f)(k:RS K R u g):RS K R (tIfS c t u) (mIf fc f g):=fun HB S0 σ ρ H0 H x e o ho D d=>by
 obtain ⟨b,hb,ho⟩:=Option.bind_eq_some_iff.mp ho;refine hc HB σ ρ H0 H x.s1 e b hb _ fun H1 J1 x1=> ?_
 cases b with
 | true=>exact iteT (h HB S0 σ ρ H1 J1 (x.chain x1) (e.ext (K:=K) x1) o ho D d)
 | false=>exact iteF (k HB S0 σ ρ H1 J1 (x.chain x1) (e.ext (K:=K) x1) o ho D d)
def mDrop(f:En->Option Sl):En->Option Out:=fun ρ=>(f ρ).map fun _=> .nx ρ
theorem Ext.write{S0 HB H0 H:Hp}{a:Addr}(x:Ext S0 HB H0 H)(hb:HB a=none)(h0:H0 a=none)(o:HO):Ext S0 HB H0 (upd H a o) :=
 ⟨fun b u e=>by rw [upd_ne (ne_of_none e hb)];exact x.s b u e,x.s0,fun b u e=>by rw [upd_ne (ne_of_none e h0)];exact x.s1 b u e,x.own⟩
theorem ER.write {HB H0 H : Hp} {σ : L2.St} {ρ : En} {i : Nat} {a : Addr} {ds es : List PyData} {ys : List V} (e : ER K HB H0 H σ ρ) (hi : ρ[i]? = some (some (.own ds))) (hs : σ[i]? = some (some (.ref a))) (hb : HB a = none) (h0 : H0 a = none) (hr : Reps K H0 ys es) :
 ER K HB H0 (upd H a (.lst ys)) σ (ρ.set i (some (.own es))):=by
 have own:∀(j:Nat),∀ts,(ρ.set i (some (.own es)))[j]? = some (some (.own ts))->∃ts',ρ[j]? = some (some (.own ts')):=by
  intro j ts h
  by_cases hj:i=j
  . subst hj;exact ⟨_,hi⟩
  . rw [List.getElem?_set_ne hj] at h;exact ⟨_,h⟩
 refine ⟨by rw [List.length_set];exact e.len,fun j s hq=> ?_,fun j k b ts us hjk hj hk h1 h2=> ?_⟩
 . by_cases hj:i=j
   . subst hj;rw [List.getElem?_set_self',hi] at hq
     cases hq
     exact ⟨.ref a,hs,a,ys,rfl,hb,h0,upd_same,hr⟩
   . rw [List.getElem?_set_ne hj] at hq
     obtain ⟨v,h1,h2⟩:=e.get j s hq;refine ⟨v,h1,?_⟩
     cases s with
     | val d=>exact h2
     | own ts=>
      obtain ⟨b,vs,rfl,g1,g2,g3,g4⟩:=h2;refine ⟨b,vs,rfl,g1,g2,?_,g4⟩;rw [upd_ne]
      . exact g3
      . rintro rfl
        exact e.apart i j b ds ts hj hi hq hs h1
     | dct ts=>
      obtain ⟨b,t,rfl,g1,g2,g3,g4⟩:=h2;refine ⟨b,t,rfl,g1,g2,?_,g4⟩;rw [upd_ne]
      . exact g3
      . rintro rfl;obtain ⟨v',hs',a',vs',e',_,_,g5,_⟩:=e.get i _ hi;rw [hs] at hs'
        cases hs'
        cases e'
        rw [g3] at g5
        cases g5
 . obtain ⟨ts',hj⟩:=own j ts hj;obtain ⟨us',hk⟩:=own k us hk;exact e.apart j k b ts' us' hjk hj hk h1 h2
def mApp(i:Nat)(f:En->Option Sl):En->Option Out:=fun ρ=>match (ρ[i]?).join with
 | some (.own ds)=>(f ρ).bind fun r=>if ds.length<sizeLine then some (.nx (ρ.set i (some (.own (ds ++ [r.dat]))))) else none
 | _=>none
theorem own_of {HB H0 H : Hp} {σ : L2.St} {ρ : En} {i : Nat} {ds : List PyData} (e : ST R HB H0 H σ ρ) (hsl : R.slot i) (h : (ρ[i]?).join = some (.own ds)) :
 ∃a vs,ρ[i]? = some (some (.own ds))/\σ[i]? = some (some (.ref a))/\HB a=none/\H0 a=none/\H a=some (.lst vs)/\Reps K H0 vs ds:=by
 obtain ⟨v,h1,a,vs,rfl,g1,g2,g3,g4⟩:=RelOk.get (K:=K) e.r hsl (join_some h);exact ⟨a,vs,join_some h,h1,g1,g2,g3,g4⟩
theorem rs_app{te:TE}{f:En->Option Sl}{i:Nat}(hsl:R.slot i)(h:RE K R te f):RS K R (tDrop (tBM K "list" rAppend (tVar i) (tCons te tNil))) (mApp i f):=fun HB S0 σ ρ H0 H x e o ho D d=>by
 unfold mApp at ho
 split at ho
 . rename_i ds hj;obtain ⟨r,hr,ho⟩:=Option.bind_eq_some_iff.mp ho
   split at ho
   . rename_i hl
     cases ho
     obtain ⟨a,vs,hi,hs,g1,g2,g3,g4⟩:=own_of (K:=K) e hsl hj;refine ⟨.ref a,hs, .inl ⟨rfl,vs,SqL.of g3⟩,?_⟩;refine h.rv HB σ ρ H0 H x.s1 e r.dat (by unfold mDat;rw [hr];rfl) _ fun v H1 J1 x1 p1=> ?_;have l0:=x1.own a _ g3 True.intro g2;refine ⟨a,vs,v,rfl,rfl,x1.s _ _ g3,by rw [g4.length];exact hl,?_⟩;exact d σ H1 _ ((x.chain x1).write g1 l0 _) ⟨RelOk.write (K:=K) (e.ext (K:=K) x1).r hsl hi hs g1 l0 (x1.s _ _ g3) (Tf.Reps.snoc (Reps.same x1.s0 g4) p1)⟩
   . cases ho
 . cases ho
def mSet(i:Nat)(fj f:En->Option Sl):En->Option Out:=fun ρ=>(f ρ).bind fun r=>match (ρ[i]?).join with
 | some (.own ds)=>(fj ρ).bind fun k=>match k with
  | .val (.int k)=>(ixN ds.length k).map fun j=> .nx (ρ.set i (some (.own (ds.set j r.dat))))
  | _=>none
 | _=>none
theorem Reps.set{H:Hp}{v:V}{d:PyData}(r:Rep K H v d):∀ {vs:List V} {ds:List PyData} (i:Nat),Reps K H vs ds->Reps K H (vs.set i v) (ds.set i d)
 | _,_,_, .nil=> .nil
 | _,_,0, .cons _ t=> .cons r t
 | _,_,i+1, .cons q t=> .cons q (Reps.set r i t)
def frz1(i:Nat)(ρ:En):En:=match (ρ[i]?).join with
 | some (.own ds)=>ρ.set i (some (.val (.list ds)))
 | _=>ρ
def mFrz(i:Nat)(g:En->Option Out):En->Option Out:=fun ρ=>g (frz1 i ρ)
theorem ER.frz{S0 HB H0 H:Hp}{σ:L2.St}{ρ:En}{i:Nat}{ds:List PyData}(e:ER K HB H0 H σ ρ)(hi:ρ[i]? = some (some (.own ds)))(x:Ext S0 HB H0 H):∃a vs,H a=some (.lst vs)/\Ext S0 HB (upd H0 a (.lst vs)) H/\ER K HB (upd H0 a (.lst vs)) H σ (ρ.set i (some (.val (.list ds)))):=by
 obtain ⟨v,hs,a,vs,rfl,g1,g2,g3,g4⟩:=e.get i _ hi;have s0:Same H0 (upd H0 a (.lst vs)):=Same.upd g2 _
 have x' : Ext S0 HB (upd H0 a (.lst vs)) H := ⟨x.s, x.s0.trans s0, fun b u q => by
  by_cases hb:b=a
  . subst hb;rw [upd_same] at q;rw [g3];exact q
  . rw [upd_ne hb] at q;exact x.s1 b u q,fun b u q m q0=>by rw [upd_ne (ne_of_none q g1)];exact x.own b u q m q0⟩
 refine ⟨a,vs,g3,x',⟨by rw [List.length_set];exact e.len,fun j s hq=> ?_,fun j k b ts us hjk h1 h2 h3 h4=> ?_⟩⟩
 . by_cases hij:i=j
   . subst hij;rw [List.getElem?_set_self',hi] at hq
     cases hq
     exact ⟨.ref a,hs, .list (SqL.of upd_same) (Reps.same s0 g4)⟩
   . rw [List.getElem?_set_ne hij] at hq
     obtain ⟨v,h1,h2⟩:=e.get j s hq;refine ⟨v,h1,?_⟩
     cases s with
     | val d=>exact Rep.same s0 h2
     | own ts=>
      obtain ⟨b,ws,rfl,q1,q2,q3,q4⟩:=h2;refine ⟨b,ws,rfl,q1,?_,q3,Reps.same s0 q4⟩;rw [upd_ne]
      . exact q2
      . rintro rfl
        exact e.apart i j b ds ts hij hi hq hs h1
     | dct ts=>
      obtain ⟨b,t,rfl,q1,q2,q3,q4⟩:=h2;refine ⟨b,t,rfl,q1,?_,q3,q4.same s0⟩;rw [upd_ne]
      . exact q2
      . rintro rfl;rw [q3] at g3
        cases g3
 . have hij : i ≠ j := by
    rintro rfl;rw [List.getElem?_set_self',hi] at h1
    cases h1
   have hik:i≠k:=by
    rintro rfl;rw [List.getElem?_set_self',hi] at h2
    cases h2
   rw [List.getElem?_set_ne hij] at h1
   rw [List.getElem?_set_ne hik] at h2
   exact e.apart j k b ts us hjk h1 h2 h3 h4
instance relOk_PR:RelOk K (PR K) where
 ext:=fun x e=>ER.ext x e
 get:=fun e _ h=>ER.get e _ _ h
 set:=fun e _ x s h=>ER.set e x s h
 write:=fun e _ h1 h2 h3 h4 _ h5=>ER.write e h1 h2 h3 h4 h5
 frz:=fun e _ h x=>by obtain ⟨a,vs,_,h1,h2⟩:=ER.frz e h x;exact ⟨_,h1,h2⟩
theorem rs_frz{ts:TS}{g:En->Option Out}(i:Nat)(hsl:R.slot i)(h:RS K R ts g):RS K R ts (mFrz i g):=fun HB S0 σ ρ H0 H x e o ho D d=>by
 unfold mFrz frz1 at ho
 split at ho
 . rename_i ds hj;obtain ⟨H0',x',e'⟩:=RelOk.frz (K:=K) e.r hsl (join_some hj) x;exact h HB S0 σ _ H0' H x' ⟨e'⟩ o ho D d
 . exact h HB S0 σ ρ H0 H x e o ho D d
def RG(K:PySem.W.Frag)(R:Rl)(g:TG)(fg:PyData->En->Option En):Prop:=
 ∀(HB:Hp) (σ:L2.St) (ρ ρ':En) (H0 H:Hp) (v:V) (d:PyData),Same H0 H->Same HB H->ST R HB H0 H σ ρ->Rep K H0 v d->fg d ρ=some ρ'->∀Q:L2.St->Hp->Prop,(∀σ',ST R HB H0 H σ' ρ'->Q σ' H)->g v σ H Q
def gVar(i:Nat):PyData->En->Option En:=fun d ρ=>some (ρ.set i (some (.val d)))
theorem rg_name(i:Nat)(hsl:R.slot i):RG K R (gName i) (gVar i):=fun HB σ ρ ρ' H0 H v d s sb e r h Q q=>by
 cases h
 exact q _ ⟨RelOk.set (K:=K) e.r hsl (Ext.refl s) sb (show SlH K H H0 H v (.val d) from r)⟩
def gsAll:List (PyData->En->Option En)->List PyData->En->Option En
 | [],[],ρ=>some ρ
 | g::gs,d::ds,ρ=>(g d ρ).bind fun ρ'=>gsAll gs ds ρ'
 | _,_,_=>none
def gTupD(gs:List (PyData->En->Option En)):PyData->En->Option En:=fun d ρ=>match d with
 | .tuple ds=>if ds.length=gs.length then gsAll gs ds ρ else none
 | _=>none
def RGs(K:PySem.W.Frag)(R:Rl)(g:TGs)(gs:List (PyData->En->Option En)):Prop:=
 ∀(HB:Hp) (σ:L2.St) (ρ ρ':En) (H0 H:Hp) (vs:List V) (ds:List PyData),Same H0 H->Same HB H->ST R HB H0 H σ ρ->Reps K H0 vs ds->gsAll gs ds ρ=some ρ'->∀Q:L2.St->Hp->Prop,(∀σ',ST R HB H0 H σ' ρ'->Q σ' H)->g vs σ H Q
theorem rgs_nil:RGs K R gNil []:=fun HB σ ρ ρ' H0 H vs ds s sb e r h Q q=>by
 cases r with
 | nil=>cases h;exact ⟨rfl,q _ e⟩
 | cons _ _=>cases h
theorem rgs_cons{g:TG}{u:TGs}{fg:PyData->En->Option En}{gs:List (PyData->En->Option En)}(h1:RG K R g fg)(h2:RGs K R u gs):RGs K R (gCons g u) (fg::gs):=fun HB σ ρ ρ' H0 H vs ds s sb e r h Q q=>by
 cases r with
 | nil=>cases h
 | cons r1 r2=>
  obtain ⟨ρ1,e1,h⟩:=Option.bind_eq_some_iff.mp (show (fg _ ρ).bind _=some ρ' from h);exact ⟨_,_,rfl,h1 HB σ ρ ρ1 H0 H _ _ s sb e r1 e1 _ fun σ' e'=>h2 HB σ' ρ1 ρ' H0 H _ _ s sb e' r2 h Q q⟩
theorem rg_tup{g:TGs}{gs:List (PyData->En->Option En)}{n:Nat}(hn:n=gs.length)(h:RGs K R g gs):RG K R (gTup K n g) (gTupD gs):=fun HB σ ρ ρ' H0 H v d s sb e r hd Q q=>by
 unfold gTupD at hd
 split at hd
 . split at hd
   . rename_i ds hl
     cases r with
     | tuple r1 r2=>exact ⟨_,_,rfl,s.seqT (SqT.of r1),by rw [r2.length,hl,hn],h HB σ ρ ρ' H0 H _ _ s sb e r2 hd Q q⟩
   . cases hd
 . cases hd
def ItR(K:PySem.W.Frag)(H0:Hp)(J:It)(ds:List PyData):Prop:=∀H0' H',Same H0 H0'->Same H0' H'->∀i:Nat,(∀d,ds[i]? = some d->J.go i H'/\∀x H2,J.yld i H' x H2->∃H02,Ext H0' H' H02 H2/\Rep K H02 x d)/\(ds.length<=i->J.stop i H')
def RI(K:PySem.W.Frag)(R:Rl)(wi:TI)(f:En->Option (List PyData)):Prop:=
 ∀(HB:Hp) (σ:L2.St) (ρ:En) (H0 H:Hp),Same H0 H->ST R HB H0 H σ ρ->∀ds,f ρ=some ds->∀R:It->Hp->Prop,(∀J H0' H',Ext H0 H H0' H'->ItR K H0' J ds->R J H')->wi σ H R
def mItems(f:En->Option Sl):En->Option (List PyData):=fun ρ=>(f ρ).bind fun a=>match a.dat with
 | .list ds=>some ds
 | _=>none
def mItemsT(f:En->Option Sl):En->Option (List PyData):=fun ρ=>(f ρ).bind fun a=>match a.dat with
 | .tuple ds=>some ds
 | _=>none
theorem it_list{H0:Hp}{a:Addr}{vs:List V}{ds:List PyData}(h:SqL K H0 a vs)(r:Reps K H0 vs ds):ItR K H0 (Itl K a) ds:=fun H0' H' s s' i=>by
 have h':=s'.seq (s.seq h);refine ⟨fun d hd=> ?_,fun hi=>⟨vs,h',by rw [r.length];exact hi⟩⟩;obtain ⟨v,e1,e2⟩:=Tf.Reps.get r hd;refine ⟨⟨vs,v,h',e1⟩,fun x H2 y=> ?_⟩;obtain ⟨rfl,y⟩:=y;have:=y vs h';rw [e1] at this
 cases this
 exact ⟨H0',Ext.refl s',Rep.same s e2⟩
theorem it_tup{H0:Hp}{a:Addr}{vs:List V}{ds:List PyData}(h:SqT K H0 a vs)(r:Reps K H0 vs ds):ItR K H0 (Itt K a) ds:=fun H0' H' s s' i=>by
 have h':=s'.seqT (s.seqT h);refine ⟨fun d hd=> ?_,fun hi=>⟨vs,h',by rw [r.length];exact hi⟩⟩;obtain ⟨v,e1,e2⟩:=Tf.Reps.get r hd;refine ⟨⟨vs,v,h',e1⟩,fun x H2 y=> ?_⟩;obtain ⟨rfl,y⟩:=y;have:=y vs h';rw [e1] at this
 cases this
 exact ⟨H0',Ext.refl s',Rep.same s e2⟩
def rngD(lo:Int)(n:Nat):List PyData:=(List.range n).map fun i=> .int (lo+(i:Nat))
theorem rngD_get{lo:Int}{n i:Nat}:(rngD lo n)[i]? = if i<n then some (.int (lo+(i:Nat))) else none:=by
 unfold rngD;rw [List.getElem?_map]
 by_cases h:i<n
 . rw [List.getElem?_range h,if_pos h];rfl
 . rw [if_neg h,List.getElem?_eq_none (by simpa using h)];rfl
theorem it_range{H0:Hp}{lo:Int}{n:Nat}:ItR K H0 (Itr lo n) (rngD lo n):=fun H0' H' s s' i=>by
 refine ⟨fun d hd=> ?_,fun hi=>show n<=i by simpa [rngD] using hi⟩;rw [rngD_get] at hd
 split at hd
 . rename_i hi
   cases hd
   exact ⟨hi,fun x H2 y=>by obtain ⟨rfl,rfl⟩:=y;exact ⟨H0',Ext.refl s', .int _⟩⟩
 . cases hd
def inB(i:Int):Prop:= -(2 ^ 62)<=i/\i<2 ^ 62
noncomputable instance (i:Int):Decidable (inB i):=Classical.propDecidable _
noncomputable def mRng1(f:En->Option (List Sl)):En->Option (List PyData):=fun ρ=>(f ρ).bind fun a=>match a with
 | [.val (.int j)]=>if inB j then some (rngD 0 j.toNat) else none
 | _=>none
theorem ri_range1{ta:TA}{f:En->Option (List Sl)}(h:RQ K R ta f):RI K R (iRng1 ta) (mRng1 f):=fun HB σ ρ H0 H s e ds hd R q=>by
 obtain ⟨a,ha,hd⟩:=Option.bind_eq_some_iff.mp hd
 split at hd
 . split at hd
   . rename_i j hb
     cases hd
     refine h HB σ ρ H0 H s e _ ha _ fun vs H1 J1 x1 p1=> ?_;obtain ⟨v,rfl,pa⟩:=paired1 p1;exact ⟨j,by rw [pa.int],hb.1,hb.2,q _ _ _ x1 it_range⟩
   . cases hd
 . cases hd
def forM(fg:PyData->En->Option En)(gb:En->Option Out):List PyData->En->Option Out
 | [],ρ=>some (.nx ρ)
 | d::ds,ρ=>(fg d ρ).bind fun ρ1=>(gb ρ1).bind fun o=>match o with
  | .nx ρ2=>forM fg gb ds ρ2
  | .ct ρ2=>forM fg gb ds ρ2
  | .bk ρ2=>some (.nx ρ2)
  | .rt r ρ2=>some (.rt r ρ2)
def mFor(fi:En->Option (List PyData))(fg:PyData->En->Option En)(gb:En->Option Out):En->Option Out:=fun ρ=>(fi ρ).bind fun ds=>forM fg gb ds ρ
theorem forM_drop {fg : PyData -> En -> Option En} {gb : En -> Option Out} {ds : List PyData} {i : Nat} {d : PyData} {ρ : En} (h : ds[i]? = some d) : forM fg gb (ds.drop i) ρ = (fg d ρ).bind fun ρ1 => (gb ρ1).bind fun o => match o with
 | .nx ρ2=>forM fg gb (ds.drop (i+1)) ρ2
 | .ct ρ2=>forM fg gb (ds.drop (i+1)) ρ2
 | .bk ρ2=>some (.nx ρ2)
 | .rt r ρ2=>some (.rt r ρ2):=by
 obtain ⟨hi,e⟩:=List.getElem?_eq_some_iff.mp h;rw [List.drop_eq_getElem_cons hi,e];rfl
theorem rs_for{wi:TI}{g:TG}{tb:TS}{fi:En->Option (List PyData)}{fg:PyData->En->Option En}{gb:En->Option Out}(hi:RI K R wi fi)(hg:RG K R g fg)(hb:RS K R tb gb):RS K R (tFor wi g tb) (mFor fi fg gb):=fun HB S0 σ ρ H0 H x e o ho D d=>by
 obtain ⟨ds,hds,ho⟩:=Option.bind_eq_some_iff.mp ho;refine hi HB σ ρ H0 H x.s1 e ds hds _ fun J H1 J1 x1 it=> ?_;have x':=x.chain x1;refine ⟨fun i m σ H=>m=ds.length - i/\((∃ρ H0',i<=ds.length/\Ext H1 HB H0' H/\ST R HB H0' H σ ρ/\forM fg gb (ds.drop i) ρ=some o)),⟨_,rfl,ρ,H1,Nat.zero_le _,x'.rebase,e.ext (K:=K) x1,ho⟩,?_⟩;rintro i m σ1 H2 ⟨rfl,ρ1,H0',hile,xx,e1,hf⟩;obtain ⟨ig,is⟩:=it H0' H2 xx.s0 xx.s1 i
 by_cases hlt:i<ds.length
 . right;obtain ⟨go,yl⟩:=ig ds[i] (by simp [hlt]);rw [forM_drop (d:=ds[i]) (by simp [hlt])] at hf
   obtain ⟨ρ2,hr2,hf⟩:=Option.bind_eq_some_iff.mp hf;obtain ⟨o2,ho2,hf⟩:=Option.bind_eq_some_iff.mp hf;refine ⟨go,fun σ' H'=>∃ρ H0',Ext H1 HB H0' H'/\ST R HB H0' H' σ' ρ/\forM fg gb (ds.drop (i+1)) ρ=some o,fun σ' H' ⟨ρ',H0'',a1,a2,a3⟩=>⟨ds.length - (i+1),by omega,rfl,ρ',H0'',hlt,a1,a2,a3⟩,fun v H3 y=> ?_⟩;obtain ⟨H03,x3,r3⟩:=yl v H3 y;have xx3:=xx.chain x3;refine hg HB σ1 ρ1 ρ2 H03 H3 v _ xx3.s1 xx3.s (e1.ext (K:=K) x3) r3 hr2 _ fun σ2 e2=> ?_;refine hb HB H1 σ2 ρ2 H03 H3 xx3 e2 o2 ho2 _ ?_
   cases o2 with
   | nx ρ3=>exact fun σ' H0'' H' a b=>⟨ρ3,H0'',a,b,hf⟩
   | ct ρ3=>exact fun σ' H0'' H' a b=>⟨ρ3,H0'',a,b,hf⟩
   | bk ρ3=>cases hf;exact fun σ' H0'' H' a b=>d σ' H0'' H' (x'.unbase a) b
   | rt r ρ3=>cases hf;exact fun v σ' H0'' H' a b c=>d v σ' H0'' H' (x'.unbase a) b c
 . left;refine ⟨is (by omega),?_⟩;rw [List.drop_eq_nil_of_le (by omega)] at hf
   cases hf
   exact d σ1 H0' H2 (x'.unbase xx) e1
def whileF(c:En->Option Bool)(b:En->Option Out):Nat->En->Option Out
 | 0,_=>none
 | n + 1, ρ => (c ρ).bind fun k => if k then (b ρ).bind fun o => match o with
  | .nx ρ2=>whileF c b n ρ2
  | .ct ρ2=>whileF c b n ρ2
  | .bk ρ2=>some (.nx ρ2)
  | .rt r ρ2=>some (.rt r ρ2)
  else some (.nx ρ)
open Classical in
noncomputable def mWhile(c:En->Option Bool)(b:En->Option Out):En->Option Out:=fun ρ=>if h:∃o n,whileF c b n ρ=some o then some h.choose else none
theorem whileF_mono{c:En->Option Bool}{b:En->Option Out}:∀ {n:Nat} {ρ:En} {o:Out},whileF c b n ρ=some o->∀m,n<=m->whileF c b m ρ=some o
 | 0,_,_,h,_,_=>by cases h
 | n+1,ρ,o,h,m,hm=>by
  obtain ⟨m,rfl⟩:∃k,m=k+1:=⟨m - 1,by omega⟩;unfold whileF at h ⊢
  obtain ⟨k,hk,h⟩:=Option.bind_eq_some_iff.mp h;rw [hk]
  cases k with
  | false=>exact h
  | true=>
   show Option.bind _ _=_;simp only [if_true] at h
   obtain ⟨o2,h2,h⟩:=Option.bind_eq_some_iff.mp h;rw [h2]
   cases o2 with
   | nx ρ2=>exact whileF_mono (n:=n) h m (by omega)
   | ct ρ2=>exact whileF_mono (n:=n) h m (by omega)
   | bk ρ2=>exact h
   | rt r _=>exact h
theorem mWhile_of{c:En->Option Bool}{b:En->Option Out}{ρ:En}{o:Out}{n:Nat}(h:whileF c b n ρ=some o):mWhile c b ρ=some o:=by
 have hx:∃o n,whileF c b n ρ=some o:=⟨o,n,h⟩;unfold mWhile;rw [dif_pos hx];obtain ⟨m,hm⟩:=hx.choose_spec;have h1:=whileF_mono h (max n m) (Nat.le_max_left _ _);have h2:=whileF_mono hm (max n m) (Nat.le_max_right _ _);rw [<-h2,h1]
theorem mWhile_fuel{c:En->Option Bool}{b:En->Option Out}{ρ:En}{o:Out}(h:mWhile c b ρ=some o):∃n,whileF c b n ρ=some o:=by
 unfold mWhile at h
 split at h
 . rename_i hx;obtain ⟨m,hm⟩:=hx.choose_spec
   cases h
   exact ⟨m,hm⟩
 . cases h
theorem rs_while{c:TT}{tb:TS}{fc:En->Option Bool}{gb:En->Option Out}(hc:RT K R c fc)(hb:RS K R tb gb):RS K R (tWhile c tb) (mWhile fc gb):=fun HB S0 σ ρ H0 H x e o ho D d=>by
 obtain ⟨n,hn⟩:=mWhile_fuel ho;refine ⟨fun m σ H=>∃ρ H0,Ext S0 HB H0 H/\ST R HB H0 H σ ρ/\whileF fc gb m ρ=some o,⟨n,ρ,H0,x,e,hn⟩,?_⟩;rintro m σ1 H1 ⟨ρ1,H01,x1,e1,hw⟩
 cases m with
 | zero=>cases hw
 | succ m=>
  unfold whileF at hw
  obtain ⟨k,hk,hw⟩:=Option.bind_eq_some_iff.mp hw;refine hc HB σ1 ρ1 H01 H1 x1.s1 e1 k hk _ fun H2 J2 x2=> ?_;have x12:=x1.chain x2
  cases k with
  | false=>cases hw;exact iteF (d σ1 H2 J2 x12 (e1.ext (K:=K) x2))
  | true=>
   simp only [if_true] at hw
   obtain ⟨o2,h2,hw⟩:=Option.bind_eq_some_iff.mp hw;refine iteT ⟨fun σ' H'=>∃ρ H0,Ext S0 HB H0 H'/\ST R HB H0 H' σ' ρ/\whileF fc gb m ρ=some o,fun σ' H' h=>⟨m,Nat.lt_succ_self m,h⟩,?_⟩;refine hb HB S0 σ1 ρ1 H2 J2 x12 (e1.ext (K:=K) x2) o2 h2 _ ?_
   cases o2 with
   | nx ρ3=>exact fun σ' H0'' H' a b=>⟨ρ3,H0'',a,b,hw⟩
   | ct ρ3=>exact fun σ' H0'' H' a b=>⟨ρ3,H0'',a,b,hw⟩
   | bk ρ3=>cases hw;exact fun σ' H0'' H' a b=>d σ' H0'' H' a b
   | rt r ρ3=>cases hw;exact fun v σ' H0'' H' a b c=>d v σ' H0'' H' a b c
def mAsgT(g:PyData->En->Option En)(f:En->Option Sl):En->Option Out:=fun ρ=>(f ρ).bind fun r=>(g r.dat ρ).map .nx
def mPar(i j:Nat)(f:En->Option (List PyData)):En->Option Out:=fun ρ=>(f ρ).bind fun ds=>match ds with
 | [a,b]=>some (.nx ((ρ.set i (some (.val a))).set j (some (.val b))))
 | _=>none
theorem rs_par{i j:Nat}(hsi:R.slot i)(hsj:R.slot j){ta:TA}{f:En->Option (List PyData)}(h:RA K R ta f):RS K R (tPar i j ta) (mPar i j f):=fun HB S0 σ ρ H0 H x e o ho D d=>by
 obtain ⟨ds,hd,ho⟩:=Option.bind_eq_some_iff.mp ho
 split at ho
 . cases ho
   refine h HB σ ρ H0 H x.s1 e _ hd _ fun vs H1 J1 x1 p1=> ?_
   cases p1 with | cons p1 t=>cases t with | cons p2 t=>
    cases t
    have x':=x.chain x1;have e1:=RelOk.set (K:=K) (e.ext (K:=K) x1).r hsi (Ext.refl x'.s1) x'.s (show SlH K J1 H1 J1 _ (.val _) from p1);have e2:=RelOk.set (K:=K) e1 hsj (Ext.refl x'.s1) x'.s (show SlH K J1 H1 J1 _ (.val _) from p2);exact ⟨_,_,rfl,d _ H1 J1 x' ⟨e2⟩⟩
 . cases ho
end
end Dm
namespace Tf
open PySem L2
end Tf
namespace Dm
open PySem PySem.Spec PyProof.Rows L2 Tf
section
variable {K:PySem.W.Frag}
def subE(ix:List (Option Nat))(ρ:En):En:=ix.map fun o=>match o with | some j=>(ρ[j]?).join | none=>none
theorem ix_inj:∀ {ix:List (Option Nat)},(ix.filterMap id).Nodup->∀ {i k j:Nat},ix[i]? = some (some j)->ix[k]? = some (some j)->i=k
 | [],_,i,k,j,h,_=>by simp at h
 | o::r,hn,i,k,j,h1,h2=>by
  have hr:(r.filterMap id).Nodup:=by
   cases o with
   | none=>simpa using hn
   | some a=>have hn:(a::r.filterMap id).Nodup:=hn;exact (List.nodup_cons.mp hn).2
  have out:∀ {k:Nat},o=some j->r[k]? = some (some j)->False:=by
   intro k ho hk;subst ho;have hn:(j::r.filterMap id).Nodup:=hn;exact (List.nodup_cons.mp hn).1 (List.mem_filterMap.mpr ⟨some j,List.mem_of_getElem? hk,rfl⟩)
  cases i with
  | zero=>
   cases k with
   | zero=>rfl
   | succ k=>simp at h1 h2;exact (out h1 h2).elim
  | succ i=>
   cases k with
   | zero=>simp at h1 h2;exact (out h2 h1).elim
   | succ k=>simp at h1 h2;rw [ix_inj hr h1 h2]
theorem subE_get{ix:List (Option Nat)}{ρ:En}{i:Nat}{s:Sl}(h:(subE ix ρ)[i]? = some (some s)):∃j,ix[i]? = some (some j)/\ρ[j]? = some (some s):=by
 unfold subE at h
 rw [List.getElem?_map] at h
 cases e:ix[i]? with
 | none=>rw [e] at h;cases h
 | some o=>
  rw [e] at h
  cases o with
  | none=>cases h
  | some j=>exact ⟨j,rfl,join_some (Option.some.inj h)⟩
theorem subS_get{ix:List (Option Nat)}{σ:L2.St}{i j:Nat}(h:ix[i]? = some (some j)):(subS ix σ)[i]? = some (σ[j]?).join:=by
 unfold subS;rw [List.getElem?_map,h];rfl
theorem ER.sub{HB H0 H:Hp}{σ:L2.St}{ρ:En}{ix:List (Option Nat)}(hx:(ix.filterMap id).Nodup)(e:ER K HB H0 H σ ρ):ER K (fun _=>none) H0 H (subS ix σ) (subE ix ρ):=by
 refine ⟨by unfold subS subE;rw [List.length_map,List.length_map],fun i s h=> ?_,fun i k a ds es hik h1 h2 h3 h4=> ?_⟩
 . obtain ⟨j,h1,h2⟩:=subE_get h;obtain ⟨v,h3,h4⟩:=e.get j s h2;refine ⟨v,by rw [subS_get h1,h3];rfl,?_⟩
   cases s with
   | val d=>exact h4
   | own ds=>
    obtain ⟨a,vs,q1,_,q2⟩:=h4
    exact ⟨a,vs,q1,rfl,q2⟩
   | dct ds=>
    obtain ⟨a,vs,q1,_,q2⟩:=h4;exact ⟨a,vs,q1,rfl,q2⟩
 . obtain ⟨j,g1,g2⟩:=subE_get h1;obtain ⟨l,g3,g4⟩:=subE_get h2
   have hjl:j≠l:=by
    rintro rfl;exact hik (ix_inj hx g1 g3)
   rw [subS_get g1] at h3
   rw [subS_get g3] at h4
   exact e.apart j l a ds es hjl g2 g4 (join_some (Option.some.inj h3)) (join_some (Option.some.inj h4))
def compM(f:PyData->Option (Option PyData)):List PyData->Option (List PyData)
 | []=>some []
 | d::ds=>(f d).bind fun r=>(compM f ds).map fun rest=>match r with
  | some x=>x::rest
  | none=>rest
def elM(fg:PyData->En->Option En)(ft:En->Option Bool)(fe:En->Option Sl)(ρ0:En):PyData->Option (Option PyData):=fun d=>(fg d ρ0).bind fun ρ'=>(ft ρ').bind fun b=>if b then (fe ρ').map (fun r=>some r.dat) else some none
def mLC(sb:En->En)(fi:En->Option (List PyData))(fg:PyData->En->Option En)(ft:En->Option Bool)(fe:En->Option Sl):En->Option Sl:=fun ρ=>(fi ρ).bind fun ds=>
 if ds.length<sizeLine then (compM (elM fg ft fe (sb ρ)) ds).map .own else none
def mYes:En->Option Bool:=fun _=>some true
theorem rt_yes{R:Rl}:RT K R tNoTest mYes:=fun HB σ ρ H0 H s e b hb Q q=>by cases hb;exact q _ _ (Ext.refl s)
theorem re_lc {R R' : Rl} [RelOk K R] [RelOk K R'] {sb : En -> En} {ix : List (Option Nat)} {wi : TI} {g : CB -> TG} {tt : CB -> TT} {te : CB -> TE} {fi : En -> Option (List PyData)} {fg : PyData -> En -> Option En} {ft : En -> Option Bool} {fe : En -> Option Sl}
 (hx:∀(HB:Hp) (σ:L2.St) (ρ:En) (H0 H:Hp),R.r HB H0 H σ ρ->R'.r (fun _=>none) H0 H (subS ix σ) (sb ρ))
 (hi:RI K R wi fi) (hg:∀b,RG K R' (g b) fg) (ht:∀b,RT K R' (tt b) ft) (he:∀b,RE K R' (te b) fe):RE K R (tLC ix wi g tt te) (mLC sb fi fg ft fe):=fun HB σ ρ H0 H s e z hz Q q=>by
 obtain ⟨ds,hds,hz⟩:=Option.bind_eq_some_iff.mp hz
 split at hz
 . rename_i hlen;obtain ⟨all,hall,rfl⟩:=Option.map_eq_some_iff.mp hz;refine hi HB σ ρ H0 H s e ds hds _ fun J H1 J1 x1 it b=> ?_;have e1:ST R' (fun _=>none) H1 J1 (subS ix σ) (sb ρ):=⟨hx HB σ ρ H1 J1 (e.ext (K:=K) x1).r⟩;refine ⟨fun i m ys H=>m=ds.length - i/\i<=ds.length/\∃H0' es rest,Ext H1 J1 H0' H/\Reps K H0' ys es/\es.length<=i/\compM (elM fg ft fe (sb ρ)) (ds.drop i)=some rest/\es++rest=all,⟨_,rfl,Nat.zero_le _,H1,[],all,Ext.refl x1.s1, .nil,Nat.le_refl _,hall,rfl⟩,?_⟩;rintro i m ys H2 ⟨rfl,hile,H0',es,rest,xx,hr,hel,hc,hsum⟩;obtain ⟨ig,is⟩:=it H0' H2 xx.s0 xx.s1 i;refine ⟨by rw [hr.length];omega,?_⟩
   by_cases hlt:i<ds.length
   . right;obtain ⟨go,yl⟩:=ig ds[i] (by simp [hlt]);rw [List.drop_eq_getElem_cons hlt] at hc
     obtain ⟨r,hr1,hc⟩:=Option.bind_eq_some_iff.mp (show (elM fg ft fe (sb ρ) ds[i]).bind _=some rest from hc);obtain ⟨rest',hr2,hc⟩:=Option.map_eq_some_iff.mp hc;refine ⟨go,fun ys' H'=>∃H0' es rest,Ext H1 J1 H0' H'/\Reps K H0' ys' es/\es.length<=i+1/\compM (elM fg ft fe (sb ρ)) (ds.drop (i+1))=some rest/\es++rest=all,fun ys' H' h=>⟨ds.length - (i+1),by omega,rfl,hlt,h⟩,fun v H3 y=> ?_⟩;obtain ⟨H03,x3,r3⟩:=yl v H3 y;obtain ⟨ρ',hg',hb'⟩:=Option.bind_eq_some_iff.mp hr1;obtain ⟨bb,hbb,hb'⟩:=Option.bind_eq_some_iff.mp hb';have xx3:=xx.trans x3;refine hg b (fun _=>none) _ _ ρ' H03 H3 v _ x3.s1 (fun _ _ h=>by cases h) (e1.ext (K:=K) xx3) r3 hg' _ fun σ2 e2=> ?_;refine ht b _ σ2 ρ' H03 H3 x3.s1 e2 bb hbb _ fun H4 J4 x4=> ?_
     cases bb with
     | true=>
      refine iteT ?_;obtain ⟨rr,hrr,rfl⟩:=Option.map_eq_some_iff.mp (show (fe ρ').map (fun r=>some r.dat)=some r from hb');refine (he b).rv _ σ2 ρ' H4 J4 x4.s1 (e2.ext (K:=K) x4) rr.dat (by unfold mDat;rw [hrr];rfl) _ fun w H5 J5 x5 p5=> ?_;refine ⟨H5,es ++ [rr.dat],rest',(xx3.trans x4).trans x5,Tf.Reps.snoc (Reps.same ((x3.s0.trans x4.s0).trans x5.s0) hr) p5,by rw [List.length_append];simpa using hel,hr2,?_⟩;rw [<-hsum, <-hc,List.append_assoc]
      rfl
     | false=>
      refine iteF ?_
      cases hb'
      exact ⟨H4,es,rest',xx3.trans x4,Reps.same (x3.s0.trans x4.s0) hr,by omega,hr2,by rw [<-hsum, <-hc]⟩
   . left;have hi':i=ds.length:=by omega
     refine ⟨is (by omega),fun p hp=> ?_⟩;rw [List.drop_eq_nil_of_le (by omega)] at hc
     cases hc
     rw [List.append_nil] at hsum
     subst hsum;have xy:=x1.trans xx;exact q _ _ _ (xy.trans (Ext.alloc xx.s1 hp _)) ⟨p,ys,rfl,xy.s.free hp,xx.s1.free hp,upd_same,hr⟩
 . cases hz
def runD(n:Nat)(g:En->Option Out)(k:Nat):List PyData->Option Sl:=fun ds=>if ds.length=k then (g (ds.map (fun d=>some (.val d))++List.replicate (n - ds.length) none)).bind fun o=>match o with
 | .rt r _=>some r
 | .nx _=>some (.val .none)
 | _=>none else none
theorem Reps.lenV{H:Hp}{vs:List V}{ds:List PyData}(h:Reps K H vs ds):vs.length=ds.length:=h.length
theorem er_start{N:List Str}{H0 H:Hp}{vs:List V}{ds:List PyData}(h:Reps K H0 vs ds):ER K H H0 H (L2.start N vs) (ds.map (fun d=>some (.val d))++List.replicate (N.length - ds.length) none):=by
 have hl:=h.length
 have noown:∀(i:Nat) s,(ds.map (fun d=>some (Sl.val d))++List.replicate (N.length - ds.length) none)[i]? = some (some s)->∃d,ds[i]? = some d/\s = .val d:=by
  intro i s hs
  by_cases hi:i<ds.length
  . rw [List.getElem?_append_left (by simpa using hi),List.getElem?_map,List.getElem?_eq_getElem hi] at hs
    cases hs
    exact ⟨_,List.getElem?_eq_getElem hi,rfl⟩
  . rw [List.getElem?_append_right (by simpa using hi),List.getElem?_replicate] at hs
    split at hs <;> cases hs
 refine ⟨?_,fun i s hs=> ?_,fun i j a xs ys _ h1 _ _ _=> ?_⟩
 . unfold L2.start;simp only [List.length_append,List.length_map,List.length_replicate,hl]
 . obtain ⟨d,hd,rfl⟩:=noown i s hs;obtain ⟨v,h1,h2⟩:=Tf.Reps.get h hd;refine ⟨v,?_,h2⟩;unfold L2.start;have hi:i<vs.length:=(List.getElem?_eq_some_iff.mp h1).1;rw [List.getElem?_append_left (by simpa using hi),List.getElem?_map,h1];rfl
 . obtain ⟨d,_,e⟩:=noown i _ h1
   cases e
section
variable {P:Program} {w:World} {mg:Str->Option Value} {base:Heap}
def DSs(X:Cx)(R:Rl)(st:List Stmt)(g:En->Option Out):Prop:=∃t,PSs X st t/\RS X.K R t g
theorem fnD {x qual : Str} {st : Stmt} {f : Addr} {fd : FuncData} {N ps : List Str} {k n m : Nat} {g : En -> Option Out} (F : Fun K x qual st f fd) (S : FnScope N ps (defScope st)) (hn : N.length = n) (hm : ps.length = m)
 (hb:∀(cdv:Value) (A:Around) (outer:List Env) (s:Shared) (H:Hp) (E:XK),Room k (A.deeper (envOfC qual (defScope st) s.heap.objs.size f cdv))->DSs (cxOf CX0 P w K mg base N qual (defScope st) f cdv A outer s H E).nox (PR K) (defBody st) g) :
 FnOk P w K mg base CX0 (k+1) f fd ps (spD K (runD n g m)):=by
 subst hn hm;refine F.ok S (fun vs H Q E h=> ?_) fun cdv A outer s H vs Q E hr h=> ?_
 . obtain ⟨H0,ds,r,s,hr,hf,_⟩:=h;unfold runD at hf
   split at hf
   . rename_i hl;rw [hr.length,hl]
   . cases hf
 . obtain ⟨t,ht,rs⟩:=hb cdv A outer s H E hr;refine ⟨t,ht,?_⟩;obtain ⟨H0,ds,r,s0,hr,hf,q⟩:=h;unfold runD at hf
   split at hf
   . obtain ⟨o,ho,hf⟩:=Option.bind_eq_some_iff.mp hf;refine rs H H0 _ _ H0 H (Ext.refl s0) ⟨er_start hr⟩ o ho _ ?_
     cases o with
     | rt r' _=>cases hf;exact fun v σ H1 J1 a _ b=>q v H1 J1 a b
     | nx _=>cases hf;exact fun σ H1 J1 a b=>q .non H1 J1 a .none
     | bk _=>cases hf
     | ct _=>cases hf
   . cases hf
end
end
section
variable {X:Cx} {R R':Rl} [RelOk X.K R] [RelOk X.K R'] {a b c e:Expr} {pos p:Pos} {f g fa fb fc:En->Option Sl}
def DE(X:Cx)(R:Rl)(e:Expr)(f:En->Option Sl):Prop:=∃te,PE X e te/\RE X.K R te f
def DP(X:Cx)(R:Rl)(e:Expr)(f:En->Option Sl):Prop:=∃te,PE X e te/\RP X.K R te f
def DA(X:Cx)(R:Rl)(es:List Expr)(f:En->Option (List PyData)):Prop:=∃ta,PA X es ta/\RA X.K R ta f
def DQ(X:Cx)(R:Rl)(es:List Expr)(f:En->Option (List Sl)):Prop:=∃ta,PA X es ta/\RQ X.K R ta f
def DT(X:Cx)(R:Rl)(e:Expr)(f:En->Option Bool):Prop:=∃tt,PT X e tt/\RT X.K R tt f
def DW(X:Cx)(R:Rl)(e:Expr)(f:En->Option Bool):Prop:=∃tt,PW X e tt/\RT X.K R tt f
def DO(X:Cx)(R:Rl)(e:Option Expr)(f:En->Option (Option Int)):Prop:=∃to,PO X e to/\RO X.K R to f
def DS(X:Cx)(R:Rl)(st:Stmt)(g:En->Option Out):Prop:=∃t,PS X st t/\RS X.K R t g
def DG(X:Cx)(R:Rl)(e:Expr)(g:PyData->En->Option En):Prop:=∃t,PG X e t/\RG X.K R t g
def DGs(X:Cx)(R:Rl)(es:List Expr)(gs:List (PyData->En->Option En)):Prop:=∃t,PGs X es t/\RGs X.K R t gs
def DI(X:Cx)(R:Rl)(tg e:Expr)(f:En->Option (List PyData)):Prop:=∃wi,PI X tg e wi/\RI X.K R wi f
theorem DE.dp(h:DE X R e f):DP X R e f:=by obtain ⟨t,h1,h2⟩:=h;exact ⟨t,h1,h2.rp⟩
theorem dp_var (i : Nat) {x : Str} (hN : X.N[i]? = some x := by rfl) (hv : Vis X.env.scope x := by first | exact Or.inl rfl | exact Or.inr (Or.inl rfl) | exact Or.inr (Or.inr rfl)) (hd : (x == ("__debug__" : Str)) = false := by decide)
 (hcd:(x==("__classdict__" : Str))=false:=by decide) (hsl:R.slot i:=by first | exact True.intro | exact ⟨of_decide_eq_true rfl,of_decide_eq_true rfl⟩):DP X R (.Name x pos) (mPk i):=⟨_,pe_var hN hv hd hcd,rp_var i hsl⟩
theorem de_var (i : Nat) {x : Str} (hN : X.N[i]? = some x := by rfl) (hv : Vis X.env.scope x := by first | exact Or.inl rfl | exact Or.inr (Or.inl rfl) | exact Or.inr (Or.inr rfl)) (hd : (x == ("__debug__" : Str)) = false := by decide)
 (hcd:(x==("__classdict__" : Str))=false:=by decide) (hsl:R.slot i:=by first | exact True.intro | exact ⟨of_decide_eq_true rfl,of_decide_eq_true rfl⟩):DE X R (.Name x pos) (mVar i):=⟨_,pe_var hN hv hd hcd,re_var i hsl⟩
theorem de_int{i:Int}{j}:DE X R (.Constant (.int i) j pos) (mK (.int i)):=⟨_,pe_int,re_k fun _=> .int i⟩
theorem de_bool{i:Bool}{j}:DE X R (.Constant (.bool i) j pos) (mK (.bool i)):=⟨_,pe_bl,re_k fun _=> .bool i⟩
theorem de_none{j}:DE X R (.Constant .none j pos) (mK .none):=⟨_,pe_non,re_k fun _=> .none⟩
theorem de_str{i:Str}{j}:DE X R (.Constant (.str i) j pos) (mK (.str i)):=⟨_,pe_str,re_k fun _=> .str i⟩
theorem de_glob {x:Str} {v:V} {u:Value} {d:PyData} (hm:X.mg x=some u) (r:RelV v u) (h:∀H0:Hp,Rep X.K H0 v d) (hg:Gl X x:=by rfl) (hd:(x==("__debug__" : Str))=false:=by decide):DE X R (.Name x pos) (mK d):=⟨_,pe_glob hg hm r hd,re_k h⟩
theorem de_op{o:Operator}{r:R2}{op:Sl->Sl->Option Sl}(ho:OpR X (binaryOp o) r)(hd:OpD X.K r op)(ha:DP X R a fa)(hb:DP X R b fb):DE X R (.BinOp a o b pos) (mBin op fa fb):=by
 obtain ⟨ta,h1,h2⟩:=ha;obtain ⟨tb,h3,h4⟩:=hb;exact ⟨_,pe_op ho h1 h3,re_bin hd h2 h4⟩
def dAddI:Sl->Sl->Option Sl:=iop fun i j=>i+j
def dSub:Sl->Sl->Option Sl:=iop fun i j=>i - j
def CMulA(i j:Int):Prop:=CMul i j\/CMulB i j
theorem op_mulA:OpR X (binaryOp .Mult) (rI CMulA fun i j=> .int (i*j)):=opI fun _ _ _ _ _ _ _ hc q=>by
 rcases hc with hc | ⟨n,m,h1,h2,h3⟩
 . exact mul_int q hc.ok
 . exact mul_int q (mulOk h1 h2 h3)
noncomputable def dMulI:Sl->Sl->Option Sl:=iopC CMulA fun i j=>i*j
noncomputable def dFdiv:Sl->Sl->Option Sl:=iopC CDivB fun i j=>i.fdiv j
noncomputable def dMod:Sl->Sl->Option Sl:=iopC (fun _ j=>j≠0) fun i j=>i.fmod j
noncomputable def dPow:Sl->Sl->Option Sl:=iopC CPow fun i j=>i ^ j.toNat
noncomputable def dShr:Sl->Sl->Option Sl:=iopC (fun _ j=>0<=j) fun i j=>i / 2 ^ j.toNat
theorem de_sub(ha:DP X R a fa)(hb:DP X R b fb):DE X R (.BinOp a .Sub b pos) (mBin dSub fa fb):=de_op op_sub opd_iop ha hb
theorem de_fdiv(ha:DP X R a fa)(hb:DP X R b fb):DE X R (.BinOp a .FloorDiv b pos) (mBin dFdiv fa fb):=de_op op_fdivB opd_iopC ha hb
theorem de_mod(ha:DP X R a fa)(hb:DP X R b fb):DE X R (.BinOp a .Mod b pos) (mBin dMod fa fb):=de_op op_modN opd_iopC ha hb
theorem de_pow(ha:DP X R a fa)(hb:DP X R b fb):DE X R (.BinOp a .Pow b pos) (mBin dPow fa fb):=de_op op_pow opd_iopC ha hb
theorem de_shr(ha:DP X R a fa)(hb:DP X R b fb):DE X R (.BinOp a .RShift b pos) (mBin dShr fa fb):=de_op op_shr opd_iopC ha hb
def rCatG(K:PySem.W.Frag):R2:=fun x y H Q=>∃l b xs zs,x = .ref l/\y = .ref b/\SqL K H l xs/\SqL K H b zs/\xs.length+zs.length<=sizeLine/\∀p,H p=none->Q (.ref p) (upd H p (.lst (xs++zs)))
theorem op_catG:OpR X (binaryOp .Add) (rCatG X.K):=by
 intro pins s σ H x y v u Q I rx ry h;obtain ⟨l,b,xs,zs,rfl,rfl,hH,hB,hz,q⟩:=h
 cases rx
 cases ry
 obtain ⟨its,r,p1,_⟩:=I.list hH;obtain ⟨its2,r2,p2,_⟩:=I.list hB;obtain ⟨⟨cls,dd,data,sl⟩,n,ho,hc,hd1,hd⟩:=id p1;obtain ⟨⟨cls2,dd2,data2,sl2⟩,n2,ho2,hc2,hd2',hd2⟩:=id p2;simp only at hc hd hc2 hd2
 subst hc hd hc2 hd2;have l1:=r.length;have l2:=r2.length;refine concat_meets ⟨_,ho,rfl⟩ ⟨_,ho2,rfl⟩ noFill_list_add seq_list_add PySem.F.slot_list_add PySem.F.entry_list_add (PySem.F.args_list_add_2 _ _) (list_addW l b its.toArray its2.toArray n n2 dd dd2 sl sl2 (by rw [List.size_toArray,List.size_toArray];omega)) ⟨ho,ho2,?_⟩;have ea:its.toArray++its2.toArray=(its++its2).toArray:=by simp
 rw [ea];exact ⟨.ref _,_,I.lnew (t':=s.toks) (r.append r2) (by rw [List.length_append];omega),rfl,q _ I.fresh⟩
def rCatT0(K:PySem.W.Frag):R2:=fun x y H Q=>∃a b ys,x = .ref a/\y = .ref b/\SqT K H a []/\SqT K H b ys/\Q (.ref b) H
theorem op_catT0:OpR X (binaryOp .Add) (rCatT0 X.K):=by
 intro pins s σ H x y v u Q I rx ry h;obtain ⟨a,b,ys,rfl,rfl,ha,hb,q⟩:=h
 cases rx
 cases ry
 obtain ⟨its,r1,p1,_⟩:=I.tuple ha;obtain ⟨its2,r2,p2,_⟩:=I.tuple hb
 cases r1
 obtain ⟨⟨cls,dd,data,sl⟩,ho,hc,n,hd⟩:=id p1;obtain ⟨⟨cls2,dd2,data2,sl2⟩,ho2,hc2,n2,hd2⟩:=id p2;simp only at hc hd hc2 hd2
 subst hc hd hc2 hd2
 exact concat_meets ⟨_, ho, rfl⟩ ⟨_, ho2, rfl⟩ noFill_tuple_add seq_tuple_add PySem.F.slot_tuple_add PySem.F.entry_tuple_add (PySem.F.args_tuple_add_2 _ _)
  (tuple_addW0 a b ([]:List Value).toArray its2.toArray n n2 dd dd2 sl sl2 (by simp)) ⟨ho,ho2, .ref b,H,I,rfl,q⟩
def rAddA(K:PySem.W.Frag):R2:=fun x y H Q=>rI0 (fun i j=> .int (i+j)) x y H Q\/rCatG K x y H Q\/rCatT0 K x y H Q\/rCatT K x y H Q\/(∃i j,x = .str i/\y = .str j/\i.length+j.length<=sizeLine/\Q (.str (i++j)) H)
theorem op_addA:OpR X (binaryOp .Add) (rAddA X.K):=op_add.or (op_catG.or (op_catT0.or (op_catT.or op_add_str)))
def dAdd(a b:Sl):Option Sl:=match a.dat,b.dat with
 | .int i, .int j=>some (.val (.int (i+j)))
 | .list xs, .list ys=>if xs.length+ys.length<=sizeLine then some (.own (xs++ys)) else none
 | .tuple xs, .tuple ys=>if xs.length+ys.length<=sizeLine then some (.val (.tuple (xs++ys))) else none
 | .str i, .str j=>if i.length+j.length<=sizeLine then some (.val (.str (i++j))) else none
 | _,_=>none
theorem SlP.atom{K:PySem.W.Frag}{H0 H:Hp}{v:V}{d:PyData}{r:Sl}(h:SlP K H0 H v r)(e:r.dat=d)(n:∀ds,d ≠ .list ds)(n2:∀kvs,d ≠ .dict kvs:=by intro _ h;cases h):Rep K H0 v d:=by
 cases r with
 | val _=>cases e;exact h
 | own _=>exact absurd e.symm (n _)
 | dct _=>exact absurd e.symm (n2 _)
theorem Reps.append{K:PySem.W.Frag}{H:Hp}:∀ {vs ws:List V} {ds es:List PyData},Reps K H vs ds->Reps K H ws es->Reps K H (vs++ws) (ds++es)
 | _,_,_,_, .nil,h=>h
 | _,_,_,_, .cons a t,h=> .cons a (Reps.append t h)
theorem opd_add{K:PySem.W.Frag}:OpD K (rAddA K) dAdd:=fun H0 H x y sx sy z s px py hz Q q=>by
 unfold dAdd at hz
 split at hz
 . rename_i i j e1 e2
   cases hz
   cases px.atom e1 (fun _ h=>nomatch h)
   cases py.atom e2 (fun _ h=>nomatch h)
   exact .inl ⟨_,_,rfl,rfl,q _ _ _ (Ext.refl s) (.int _)⟩
 . rename_i xs ys e1 e2
   split at hz
   . rename_i hl
     cases hz
     obtain ⟨a,vs,rfl,h1,h2⟩:=px.lst s e1;obtain ⟨b,ws,rfl,h3,h4⟩:=py.lst s e2;exact .inr (.inl ⟨a,b,vs,ws,rfl,rfl,h1,h3,by rw [h2.length,h4.length];exact hl,fun p hp=>q _ _ _ (Ext.alloc s hp _) ⟨p,_,rfl,hp,s.free hp,upd_same,Reps.append h2 h4⟩⟩)
   . cases hz
 . rename_i xs ys e1 e2
   split at hz
   . rename_i hl
     cases hz
     obtain ⟨a,vs,rfl,h1,h2⟩:=px.tup e1;obtain ⟨b,ws,rfl,h3,h4⟩:=py.tup e2
     by_cases hv:vs = []
     . subst hv
       cases h2
       exact .inr (.inr (.inl ⟨a,b,ws,rfl,rfl,s.seqT (SqT.of h1),s.seqT (SqT.of h3),q _ _ _ (Ext.refl s) (.tuple h3 h4)⟩))
     . refine .inr (.inr (.inr (.inl ⟨a,b,vs,ws,rfl,rfl,s.seqT (SqT.of h1),s.seqT (SqT.of h3),hv,by rw [h2.length,h4.length];exact hl,fun hw=> ?_,fun hw p hp=> ?_⟩)))
       . subst hw
         cases h4
         rw [List.append_nil] at q
         exact q _ _ _ (Ext.refl s) (.tuple h1 h2)
       . exact q _ _ _ (Ext.allocF s hp _) (.tuple upd_same (Reps.same (Same.upd (s.free hp) _) (Reps.append h2 h4)))
   . cases hz
 . rename_i i j e1 e2
   split at hz
   . rename_i hl
     cases hz
     cases px.atom e1 (fun _ h=>nomatch h)
     cases py.atom e2 (fun _ h=>nomatch h)
     exact .inr (.inr (.inr (.inr ⟨_,_,rfl,rfl,hl,q _ _ _ (Ext.refl s) (.str _)⟩)))
   . cases hz
 . cases hz
theorem de_add(ha:DP X R a fa)(hb:DP X R b fb):DE X R (.BinOp a .Add b pos) (mBin dAdd fa fb):=de_op op_addA opd_add ha hb
noncomputable def dRep(a b:Sl):Option Sl:=match a,b with
 | .own xs, .val (.int k)=>if -(2 ^ 63)<=k/\k<2 ^ 63/\xs.length*k.toNat<=sizeLine then some (.own (List.replicate k.toNat xs).flatten) else none
 | a,b=>dMulI a b
theorem Reps.rep{K:PySem.W.Frag}{H:Hp}{vs:List V}{ds:List PyData}(h:Reps K H vs ds):∀k:Nat,Reps K H (List.replicate k vs).flatten (List.replicate k ds).flatten
 | 0=> .nil
 | k+1=>by
  rw [List.replicate_succ,List.replicate_succ,List.flatten_cons,List.flatten_cons];exact Reps.append h (Reps.rep h k)
theorem opd_rep{K:PySem.W.Frag}:OpD K (fun x y H Q=>rRep x y H Q\/rI CMulA (fun i j=> .int (i*j)) x y H Q) dRep:=fun H0 H x y sx sy z s px py hz Q q=>by
 unfold dRep at hz
 split at hz
 . split at hz
   . rename_i hl
     cases hz
     obtain ⟨a,vs,rfl,h1,h2⟩:=px;exact .inl ⟨a,_,vs,rfl,py.int,h1,hl.1,hl.2.1,by rw [h2.length];exact hl.2.2,fun p hp=>q _ _ _ (Ext.alloc s hp _) ⟨p,_,rfl,hp,s.free hp,upd_same,Reps.rep h2 _⟩⟩
   . cases hz
 . exact .inr (opd_iopC H0 H x y _ _ z s px py hz Q q)
theorem de_mul(ha:DP X R a fa)(hb:DP X R b fb):DE X R (.BinOp a .Mult b pos) (mBin dRep fa fb):=de_op (op_rep.or op_mulA) opd_rep ha hb
theorem de_cmp{o:CmpOp}{r:R2}{op:Sl->Sl->Option Sl}(ho:OpR X (compareOp o) r)(hd:OpD X.K r op)(ha:DP X R a fa)(hb:DP X R b fb)(hm:behindInMarks o b=false):DE X R (.Compare a [o] [b] pos) (mBin op fa fb):=by
 obtain ⟨ta,h1,h2⟩:=ha;obtain ⟨tb,h3,h4⟩:=hb;exact ⟨_,pe_cmpR ho h1 h3 hm,re_bin hd h2 h4⟩
theorem dt_cmp{o:CmpOp}{r:R2}{op:Sl->Sl->Option Sl}(ho:OpR X (compareOp o) r)(hd:OpD X.K r op)(ha:DP X R a fa)(hb:DP X R b fb)(hm:behindInMarks o b=false):DT X R (.Compare a [o] [b] pos) (mTest (mBin op fa fb)):=by
 obtain ⟨ta,h1,h2⟩:=ha;obtain ⟨tb,h3,h4⟩:=hb;exact ⟨_,pt_cmpR ho h1 h3 hm,rt_test (re_bin hd h2 h4).rp⟩
def dLt:Sl->Sl->Option Sl:=icmp fun i j=>decide (i<j)
def dLe:Sl->Sl->Option Sl:=icmp fun i j=>decide (i<=j)
def dGt:Sl->Sl->Option Sl:=icmp fun i j=>decide (j<i)
def dGe:Sl->Sl->Option Sl:=icmp fun i j=>decide (j<=i)
theorem de_eq(hu:X.A.units+64<cLine)(ha:DP X R a fa)(hb:DP X R b fb):DE X R (.Compare a [.Eq] [b] pos) (mBin deq fa fb):=de_cmp (op_eqD hu) opd_eq ha hb (nomark _)
theorem dt_lt(ha:DP X R a fa)(hb:DP X R b fb):DT X R (.Compare a [.Lt] [b] pos) (mTest (mBin dLt fa fb)):=dt_cmp op_lt opd_icmp ha hb (nomark _)
theorem dt_gt(ha:DP X R a fa)(hb:DP X R b fb):DT X R (.Compare a [.Gt] [b] pos) (mTest (mBin dGt fa fb)):=dt_cmp op_gt opd_icmp ha hb (nomark _)
theorem dt_ge(ha:DP X R a fa)(hb:DP X R b fb):DT X R (.Compare a [.GtE] [b] pos) (mTest (mBin dGe fa fb)):=dt_cmp op_ge opd_icmp ha hb (nomark _)
theorem dt_eq(hu:X.A.units+64<cLine)(ha:DP X R a fa)(hb:DP X R b fb):DT X R (.Compare a [.Eq] [b] pos) (mTest (mBin deq fa fb)):=dt_cmp (op_eqD hu) opd_eq ha hb (nomark _)
theorem dt_ne(hu:X.A.units+64<cLine)(ha:DP X R a fa)(hb:DP X R b fb):DT X R (.Compare a [.NotEq] [b] pos) (mTest (mBin dne fa fb)):=dt_cmp (op_neD hu) opd_ne ha hb (nomark _)
theorem dt_isNN(ha:DP X R a fa)(hb:DP X R b fb):DT X R (.Compare a [.IsNot] [b] pos) (mTest (mBin disNN fa fb)):=dt_cmp op_notN opd_isNN ha hb (nomark _)
theorem dt_val(h:DP X R e f)(he:∀whole,isTrue e X.env whole=(do let v <-whole;standAt e.pos;holding [v] (truthy v)):=by intro _;rfl):DT X R e (mTest f):=by
 obtain ⟨t,h1,h2⟩:=h;exact ⟨_,pt_val h1 he,rt_b h2⟩
variable {ft gt:En->Option Bool} {rest:List Expr}
theorem dt_w(h:DW X R e ft):DT X R e ft:=by obtain ⟨t,h1,h2⟩:=h;exact ⟨t,h1.pt,h2⟩
theorem dw_and1(h:DT X R a ft):DW X R (.BoolOp .And [a] pos) ft:=by obtain ⟨t,h1,h2⟩:=h;exact ⟨t,pw_and1 h1,h2⟩
theorem dw_or1(h:DT X R a ft):DW X R (.BoolOp .Or [a] pos) ft:=by obtain ⟨t,h1,h2⟩:=h;exact ⟨t,pw_or1 h1,h2⟩
theorem dw_and(h:DT X R a ft)(k:DW X R (.BoolOp .And (b::rest) pos) gt):DW X R (.BoolOp .And (a::b::rest) pos) (mAnd ft gt):=by obtain ⟨t,h1,h2⟩:=h;obtain ⟨u,h3,h4⟩:=k;exact ⟨_,pw_and h1 h3,rt_and h2 h4⟩
theorem dw_or(h:DT X R a ft)(k:DW X R (.BoolOp .Or (b::rest) pos) gt):DW X R (.BoolOp .Or (a::b::rest) pos) (mOr ft gt):=by obtain ⟨t,h1,h2⟩:=h;obtain ⟨u,h3,h4⟩:=k;exact ⟨_,pw_or h1 h3,rt_or h2 h4⟩
theorem dt_not(h:DT X R a ft):DT X R (.UnaryOp .Not a pos) (mNot ft):=by obtain ⟨t,h1,h2⟩:=h;exact ⟨_,pt_not h1,rt_not h2⟩
theorem de_and1(h:DE X R a f):DE X R (.BoolOp .And [a] pos) f:=by obtain ⟨t,h1,h2⟩:=h;exact ⟨t,pe_one h1,h2⟩
theorem de_or1(h:DE X R a f):DE X R (.BoolOp .Or [a] pos) f:=by obtain ⟨t,h1,h2⟩:=h;exact ⟨t,pe_one h1,h2⟩
theorem de_and(h:DE X R a f)(k:DE X R (.BoolOp .And (b::rest) pos) g):DE X R (.BoolOp .And (a::b::rest) pos) (mAndV f g):=by obtain ⟨t,h1,h2⟩:=h;obtain ⟨u,h3,h4⟩:=k;exact ⟨_,pe_and h1 h3,re_andV h2.rp h4⟩
theorem de_or(h:DE X R a f)(k:DE X R (.BoolOp .Or (b::rest) pos) g):DE X R (.BoolOp .Or (a::b::rest) pos) (mOrV f g):=by obtain ⟨t,h1,h2⟩:=h;obtain ⟨u,h3,h4⟩:=k;exact ⟨_,pe_or h1 h3,re_orV h2.rp h4⟩
theorem de_not(h:DE X R a f):DE X R (.UnaryOp .Not a pos) (mNotV f):=by obtain ⟨t,h1,h2⟩:=h;exact ⟨_,pe_not h1,re_notV h2.rp⟩
theorem de_ifE(hc:DT X R c ft)(h:DE X R a f)(k:DE X R b g):DE X R (.IfExp c a b pos) (mIfE ft f g):=by obtain ⟨t,h1,h2⟩:=hc;obtain ⟨u,h3,h4⟩:=h;obtain ⟨v,h5,h6⟩:=k;exact ⟨_,pe_ifExp h1 h3 h5,re_ifE h2 h4 h6⟩
theorem de_ix(ha:DP X R a fa)(hb:DP X R b fb)(hs:PlainIx b:=by intro _ _;rfl):DE X R (.Subscript a b pos) (mBin dix fa fb):=by
 obtain ⟨ta,h1,h2⟩:=ha;obtain ⟨tb,h3,h4⟩:=hb;exact ⟨_,pe_ix ix_seq h1 h3 hs,re_bin opd_ix h2 h4⟩
variable {lo hi:Option Expr} {fl fh:En->Option (Option Int)} {p2:Pos}
theorem do_none:DO X R none mNoPart:=⟨_,po_none,ro_none⟩
theorem do_some(h:DP X R e f):DO X R (some e) (mPart f):=by obtain ⟨t,h1,h2⟩:=h;exact ⟨_,po_some h1,ro_some h2⟩
theorem de_sl(h:DP X R e f)(hl:DO X R lo fl)(hh:DO X R hi fh):DE X R (.Subscript e (.Slice lo hi none p2) pos) (mSl f fl fh):=by
 obtain ⟨t,h1,h2⟩:=h;obtain ⟨u,h3,h4⟩:=hl;obtain ⟨v,h5,h6⟩:=hh;exact ⟨_,pe_slice (sl_list.or sl_tup) h1 h3 h5,re_sl h2 h4 h6⟩
variable {es:List Expr} {fs:En->Option (List PyData)} {fq:En->Option (List Sl)}
theorem da_nil:DA X R [] mNil:=⟨_,pa_nil,ra_nil⟩
theorem da_cons(h:DE X R e f)(k:DA X R es fs)(hs:starEach (e::es) X.env=(false,eval e X.env)::starEach es X.env:=by rfl):DA X R (e::es) (mCons f fs):=by obtain ⟨t,h1,h2⟩:=h;obtain ⟨u,h3,h4⟩:=k;exact ⟨_,pa_cons h1 h3 hs,ra_cons h2 h4⟩
theorem dq_nil:DQ X R [] mNilP:=⟨_,pa_nil,rq_nil⟩
theorem dq_cons(h:DP X R e f)(k:DQ X R es fq)(hs:starEach (e::es) X.env=(false,eval e X.env)::starEach es X.env:=by rfl):DQ X R (e::es) (mConsP f fq):=by obtain ⟨t,h1,h2⟩:=h;obtain ⟨u,h3,h4⟩:=k;exact ⟨_,pa_cons h1 h3 hs,rq_cons h2 h4⟩
theorem de_tup{x1}(h:DA X R es fs):DE X R (.Tuple es x1 pos) (mTup fs):=by obtain ⟨t,h1,h2⟩:=h;exact ⟨_,pe_tup h1,re_tup h2⟩
theorem de_lst(h:DA X R es fs):DE X R (.List es pos) (mLst fs):=by obtain ⟨t,h1,h2⟩:=h;exact ⟨_,pe_lst h1,re_lst h2⟩
theorem de_call {k j : Nat} {x : Str} {ps : List Str} {F : List PyData -> Option Sl} (D : Tf.Def X.prog X.w X.K X.mg X.base j x ps (spD X.K F)) (hr : Room k X.A) (h : DA X R (e :: es) fs) (hj : j <= k := by decide) (hg : Gl X x := by rfl)
 (hdb:(x==("__debug__" : Str))=false:=by decide) (he:starEach (e::es) X.env=(false,eval e X.env)::starEach es X.env:=by rfl) (hpl:(backTo pos (starEach es X.env)).any (·.1)=false:=by rfl):DE X R (.Call (.Name x p) (e::es) [] pos) (mCall F fs):=by
 obtain ⟨t,h1,h2⟩:=h;exact ⟨_,pe_callD D hr h1 hj hg hdb he hpl,re_call h2⟩
theorem de_blt {x : Str} {id : String} {r : List V -> Hp -> VK -> Prop} {F : List Sl -> Option Sl} (hc : CallR X (.builtin id) r) (hd : CallD X.K r F) (hv : bootBuiltins x = some (.builtin id)) (hm : X.mg x = none) (h : DQ X R (e :: es) fq) (hg : Gl X x := by rfl) (hn : x ≠ "__name__" := by decide) (hdb : (x == ("__debug__" : Str)) = false := by decide)
 (he:starEach (e::es) X.env=(false,eval e X.env)::starEach es X.env:=by rfl) (hpl:(backTo pos (starEach es X.env)).any (·.1)=false:=by rfl):DE X R (.Call (.Name x p) (e::es) [] pos) (mCallP F fq):=by
 obtain ⟨t,h1,h2⟩:=h;exact ⟨_,pe_callB hc hg hm hv h1 hn hdb he hpl,re_callB hd h2⟩
theorem de_ty {x : Str} {id : String} {r : List V -> Hp -> VK -> Prop} {F : List Sl -> Option Sl} (hc : CallR X (.type id) r) (hd : CallD X.K r F) (hv : bootBuiltins x = some (.type id)) (hm : X.mg x = none) (h : DQ X R (e :: es) fq) (hg : Gl X x := by rfl) (hn : x ≠ "__name__" := by decide) (hdb : (x == ("__debug__" : Str)) = false := by decide)
 (he:starEach (e::es) X.env=(false,eval e X.env)::starEach es X.env:=by rfl) (hpl:(backTo pos (starEach es X.env)).any (·.1)=false:=by rfl):DE X R (.Call (.Name x p) (e::es) [] pos) (mCallP F fq):=by
 obtain ⟨t,h1,h2⟩:=h;exact ⟨_,pe_callTy hc hg hm hv h1 hn hdb he hpl,re_callB hd h2⟩
theorem kit_ok{K:PySem.W.Frag}{n:String}:∀t b,isiD n t=some b->(t = "NoneType" \/ t = "bool" \/ t = "int" \/ t = "str" \/ t = "list" \/ t = "tuple")->PySem.W.kitOne K (.type t) (.type n)=some b:=by
 intro t b h ht;unfold isiD at h
 split at h
 . rename_i hn;subst hn
   cases h
   rcases ht with rfl | rfl | rfl | rfl | rfl | rfl <;> rfl
 . split at h
   . rename_i hn
     cases h
     rcases hn with rfl | rfl | rfl | rfl <;> rcases ht with rfl | rfl | rfl | rfl | rfl | rfl <;> rfl
   . cases h
theorem de_isi {x : Str} {T : String} {p1 : Pos} (hv : bootBuiltins x = some (.type T)) (hx : X.mg x = none) (hm : X.mg "isinstance" = none) (h : DP X R e f) (hgx : Gl X x := by rfl) (hg : Gl X "isinstance" := by rfl) (hnx : x ≠ "__name__" := by decide) (hdx : (x == ("__debug__" : Str)) = false := by decide)
 (he:starEach [e, .Name x p1] X.env=(false,eval e X.env)::starEach [.Name x p1] X.env:=by rfl) (he2:starEach [.Name x p1] X.env=(false,eval (.Name x p1) X.env)::starEach [] X.env:=by rfl) (hpl:(backTo pos (starEach [.Name x p1] X.env)).any (·.1)=false:=by rfl) :
 DE X R (.Call (.Name "isinstance" p) [e, .Name x p1] [] pos) (mIsi T f):=by
 obtain ⟨t,h1,h2⟩:=h;exact ⟨_,pe_callB call_isi hg hm bt_isinstance (pa_cons h1 (pa_cons (pe_ty hgx hx hv hnx hdx) pa_nil he2) he) (by decide) (by decide) he hpl,re_isi kit_ok h2⟩
def GlobC(K:PySem.W.Frag)(mg:Str->Option Value)(x:Str)(d:PyData):Prop:=∃v u,mg x=some u/\RelV v u/\∀H0:Hp,Rep K H0 v d
theorem de_globC {x:Str} {d:PyData} (h:GlobC X.K X.mg x d) (hg:Gl X x:=by rfl) (hd:(x==("__debug__" : Str))=false:=by decide):DE X R (.Name x pos) (mK d):=by
 obtain ⟨v,u,h1,h2,h3⟩:=h;exact de_glob h1 h2 h3 hg hd
theorem pr_sub{K:PySem.W.Frag}{ix:List (Option Nat)}(hx:(ix.filterMap id).Nodup:=by decide):∀(HB:Hp) (σ:L2.St) (ρ:En) (H0 H:Hp),(PR K).r HB H0 H σ ρ->(PR K).r (fun _=>none) H0 H (subS ix σ) (subE ix ρ):=fun HB σ ρ H0 H e=>ER.sub hx e
variable {st:Stmt} {sts:List Stmt} {gs gs':En->Option Out} {x y:Str} {pos':Pos} {i j:Nat}
theorem dss_nil:DSs X R [] mNext:=⟨_,pss_nil,rs_next⟩
theorem dss_one(h:DS X R st gs):DSs X R [st] gs:=by obtain ⟨t,h1,h2⟩:=h;exact ⟨_,pss_one h1,h2⟩
theorem dss_cons(h:DS X R st gs)(k:DSs X R sts gs'):DSs X R (st::sts) (mSeq gs gs'):=by obtain ⟨t,h1,h2⟩:=h;obtain ⟨u,h3,h4⟩:=k;exact ⟨_,pss_cons h1 h3,rs_seq h2 h4⟩
theorem ds_frz(i:Nat)(h:DS X R st gs)(hsl:R.slot i:=by first | exact True.intro | exact ⟨of_decide_eq_true rfl,of_decide_eq_true rfl⟩):DS X R st (mFrz i gs):=by obtain ⟨t,h1,h2⟩:=h;exact ⟨_,h1,rs_frz i hsl h2⟩
theorem ds_set (i : Nat) (h : DE X R e f) (hN : X.N.Nodup) (hi : X.N[i]? = some x := by rfl) (hx : Loc X.env.scope x := by first | exact Or.inl rfl | exact Or.inr rfl) (hs : swapsWith e (some (.Name x pos')) pos.line X.env = pure false := by rfl) (hf : X.fn x = true \/ X.env.scope.names.lookup x = some .local := by first | exact .inl rfl | exact .inr rfl) (hsl : R.slot i := by first | exact True.intro | exact ⟨of_decide_eq_true rfl, of_decide_eq_true rfl⟩) :
 DS X R (.Assign [.Name x pos'] e pos) (mAsg i f):=by obtain ⟨t,h1,h2⟩:=h;exact ⟨_,ps_set hN hi hx h1 hs hf,rs_asg hsl h2⟩
theorem ds_ret(h:DE X R e f):DS X R (.Return (some e) pos) (mRet f):=by obtain ⟨t,h1,h2⟩:=h;exact ⟨_,ps_ret h1,rs_ret h2⟩
theorem ds_retV (i : Nat) (hN : X.N[i]? = some x := by rfl) (hv : Vis X.env.scope x := by first | exact Or.inl rfl | exact Or.inr (Or.inl rfl) | exact Or.inr (Or.inr rfl)) (hd : (x == ("__debug__" : Str)) = false := by decide)
 (hcd:(x==("__classdict__" : Str))=false:=by decide) (hsl:R.slot i:=by first | exact True.intro | exact ⟨of_decide_eq_true rfl,of_decide_eq_true rfl⟩):DS X R (.Return (some (.Name x pos')) pos) (mRet (mPk i)):=⟨_,ps_ret (pe_var hN hv hd hcd),rs_retV i hsl⟩
theorem ds_if{A B:List Stmt}(hc:DT X R c ft)(h:DSs X R A gs)(k:DSs X R B gs'):DS X R (.If c A B pos) (mIf ft gs gs'):=by obtain ⟨t,h1,h2⟩:=hc;obtain ⟨u,h3,h4⟩:=h;obtain ⟨v,h5,h6⟩:=k;exact ⟨_,ps_if h1 h3 h5,rs_if h2 h4 h6⟩
theorem ds_while(hp:PassesOwn (model X.prog X.w) X.A X.env X.xe)(hc:DT X R c ft)(h:DSs X R sts gs):DS X R (.While c sts [] pos) (mWhile ft gs):=by obtain ⟨t,h1,h2⟩:=hc;obtain ⟨u,h3,h4⟩:=h;exact ⟨_,ps_while hp h1 h3,rs_while h2 h4⟩
variable {tg:Expr} {fi:En->Option (List PyData)} {fg:PyData->En->Option En} {gg:List (PyData->En->Option En)}
theorem ds_for(hp:PassesOwn (model X.prog X.w) X.A X.env X.xe)(hi:DI X R tg e fi)(hg:DG X R tg fg)(h:DSs X R sts gs)(hc:X.calm=true:=by rfl)(hs:∀x,foldedSetIterable e X.env x=pure x:=by intro _;rfl):DS X R (.For tg e sts [] pos) (mFor fi fg gs):=by
 obtain ⟨t,h1,h2⟩:=hi;obtain ⟨u,h3,h4⟩:=hg;obtain ⟨v,h5,h6⟩:=h;exact ⟨_,ps_for hp hc h1 h3 h5 hs,rs_for h2 h4 h6⟩
theorem dg_name(i:Nat)(hN:X.N.Nodup)(hi:X.N[i]? = some x:=by rfl)(hx:Loc X.env.scope x:=by first | exact Or.inl rfl | exact Or.inr rfl)(hf:X.fn x=true\/X.env.scope.names.lookup x=some .local:=by first | exact .inl rfl | exact .inr rfl)(hsl:R.slot i:=by first | exact True.intro | exact ⟨of_decide_eq_true rfl,of_decide_eq_true rfl⟩):DG X R (.Name x pos) (gVar i):=⟨_,pg_name hN hi hx hf,rg_name i hsl⟩
theorem dgs_nil:DGs X R [] []:=⟨_,pgs_nil,rgs_nil⟩
theorem dgs_cons(h:DG X R e fg)(k:DGs X R es gg)(hs:(assignEach (e::es) X.env).map (·.2)=assign e X.env::(assignEach es X.env).map (·.2):=by rfl):DGs X R (e::es) (fg::gg):=by obtain ⟨t,h1,h2⟩:=h;obtain ⟨u,h3,h4⟩:=k;exact ⟨_,pgs_cons h1 h3 hs,rgs_cons h2 h4⟩
theorem dg_tup{k}{n:Nat}(h:DGs X R es gg)(hl:n=gg.length:=by rfl)(hc:X.calm=true:=by rfl)(hn:(assignEach es X.env).length=n:=by rfl)(hst:(assignEach es X.env).findIdx? (·.1)=none:=by rfl):DG X R (.Tuple es k pos) (gTupD gg):=by
 obtain ⟨t,h1,h2⟩:=h;exact ⟨_,pg_tup hc h1 hn hst,rg_tup hl h2⟩
theorem di_range1 (hm:X.mg "range" = none) (h:DQ X R [a] fq) (hg:Gl X "range" :=by rfl) (hs:starEach [a] X.env = [(false,eval a X.env)]:=by rfl):DI X R tg (.Call (.Name "range" p) [a] [] pos) (mRng1 fq):=by obtain ⟨t,h1,h2⟩:=h;exact ⟨_,pi_range1 hg hm h1 hs,ri_range1 h2⟩
theorem ds_app (i : Nat) {apos cpos : Pos} (h : DE X R e f) (hN : X.N[i]? = some x := by rfl) (hv : Vis X.env.scope x := by first | exact Or.inl rfl | exact Or.inr (Or.inl rfl) | exact Or.inr (Or.inr rfl)) (hd : (x == ("__debug__" : Str)) = false := by decide) (hcd : (x == ("__classdict__" : Str)) = false := by decide)
 (hst:starEach [e] X.env=(false,eval e X.env)::starEach [] X.env:=by rfl) (hbase:attributeBase (.Name x p) "append" X.env (eval (.Name x p) X.env)=eval (.Name x p) X.env:=by rfl)
 (hfew:((backTo cpos (starEach [e] X.env)).all (fun x=> !x.1) && (backToKw cpos (keywordEach [] X.env)).all (fun x=>x.1.isSome) && decide ([e].length+([]:List Keyword).length+(if ([]:List Keyword).isEmpty then 0 else 1)<30))=true:=by rfl)
 (hline:(apos.endLine==cpos.line)=true:=by rfl) (hplain:(backTo cpos (starEach [] X.env)).any (·.1)=false:=by rfl)
 (hs:swapsWith (.Call (.Attribute (.Name x p) "append" apos) [e] [] cpos) none pos.line X.env=pure false:=by rfl) (hsl:R.slot i:=by first | exact True.intro | exact ⟨of_decide_eq_true rfl,of_decide_eq_true rfl⟩):DS X R (.Expr (.Call (.Attribute (.Name x p) "append" apos) [e] [] cpos) pos) (mApp i f):=by
 obtain ⟨t,h1,h2⟩:=h;exact ⟨_,ps_expr (pe_bm PySem.F.plainAttrs_list PySem.F.slot_list_append PySem.F.type_list_append mt_append (pe_var hN hv hd hcd) (pa_cons h1 pa_nil hst) hbase hfew hline hst hplain) hs,rs_app hsl h2⟩
theorem ds_par (i j : Nat) {px py pt : Pos} {kt k2 pt2} (h : DA X R [a, b] fs) (hN : X.N.Nodup) (hi : X.N[i]? = some x := by rfl) (hj : X.N[j]? = some y := by rfl) (hij : i ≠ j := by decide)
 (hx:X.env.scope.names.lookup x=some .local:=by rfl) (hy:X.env.scope.names.lookup y=some .local:=by rfl)
 (hw:swappedStores [.Tuple [.Name x px, .Name y py] kt pt] (.Tuple [a,b] k2 pt2) X.env=pure (some [x,y]):=by rfl)
 (hs:swapsWithSole [.Tuple [.Name x px, .Name y py] kt pt] (.Tuple [a,b] k2 pt2) pos.line X.env=pure false:=by rfl) (hc:X.calm=true:=by rfl) (hsi:R.slot i:=by first | exact True.intro | exact ⟨of_decide_eq_true rfl,of_decide_eq_true rfl⟩) (hsj:R.slot j:=by first | exact True.intro | exact ⟨of_decide_eq_true rfl,of_decide_eq_true rfl⟩):DS X R (.Assign [.Tuple [.Name x px, .Name y py] kt pt] (.Tuple [a,b] k2 pt2) pos) (mPar i j fs):=by
 obtain ⟨t,h1,h2⟩:=h;exact ⟨_,ps_par hc hN hi hj hij hx hy h1 hw hs,rs_par hsi hsj h2⟩
theorem cx_scope1{CX:CXT}{P:Program}{w:World}{K:PySem.W.Frag}{mg:Str->Option Value}{base:Heap}{N:List Str}{qual:Str}{scope:Scope}{f:Addr}{cd:Value}{A:Around}{outer:List Env}{s:Shared}{H:Hp}{E:XK}:(cxOf CX P w K mg base N qual scope f cd A outer s H E).nox.env.scope=scope:=rfl
theorem cx_names1{CX:CXT}{P:Program}{w:World}{K:PySem.W.Frag}{mg:Str->Option Value}{base:Heap}{N:List Str}{qual:Str}{scope:Scope}{f:Addr}{cd:Value}{A:Around}{outer:List Env}{s:Shared}{H:Hp}{E:XK}:(cxOf CX P w K mg base N qual scope f cd A outer s H E).nox.N=N:=rfl
def GKm(S:Nat->Bool)(g:TG):Prop:=∀v σ H Q Q',g v σ H Q->(∀σ' H',Q σ' H'->σ'.length=σ.length->(∀i:Nat,S i=false->σ'[i]? = σ[i]?)->Q' σ' H')->g v σ H Q'
theorem GKm.gk{S:Nat->Bool}{t:TG}(h:GKm S t):GK S t:=fun v σ H Q q=>h v σ H Q _ q fun _ _ a b c=>⟨a,b,c⟩
theorem gkm_name{S:Nat->Bool}{i:Nat}(h:S i=true):GKm S (gName i):=fun v σ H Q Q' q k=>k _ _ q (List.length_set ..) fun j hj=>by
 rw [List.getElem?_set_ne];intro e;subst e;rw [h] at hj
 cases hj
def DGk(X:Cx)(R:Rl)(S:Nat->Bool)(e:Expr)(g:PyData->En->Option En):Prop:=∃t,PG X e t/\RG X.K R t g/\GKm S t
def DTs(X:Cx)(R:Rl)(ifs:List Expr)(f:En->Option Bool):Prop:=∃tt,PTs X ifs tt/\RT X.K R tt f
theorem dts_nil:DTs X R [] mYes:=⟨_,pts_nil,rt_yes⟩
theorem dts_one(h:DT X R e ft):DTs X R [e] ft:=by obtain ⟨t,h1,h2⟩:=h;exact ⟨_,pts_one h1,h2⟩
theorem dgk_name{S:Nat->Bool}(i:Nat)(hN:X.N.Nodup)(hS:S i=true:=by rfl)(hi:X.N[i]? = some x:=by rfl)(hx:Loc X.env.scope x:=by first | exact Or.inl rfl | exact Or.inr rfl)(hf:X.fn x=true\/X.env.scope.names.lookup x=some .local:=by first | exact .inl rfl | exact .inr rfl)(hsl:R.slot i:=by first | exact True.intro | exact ⟨of_decide_eq_true rfl,of_decide_eq_true rfl⟩):DGk X R S (.Name x pos) (gVar i):=⟨_,pg_name hN hi hx hf,rg_name i hsl,gkm_name hS⟩
variable {osc sc:Scope} {N':List Str} {ix:List (Option Nat)} {ifs:List Expr} {elt iter:Expr} {fe:En->Option Sl}
theorem de_lc {N : List Str} (ho : X.env.scope = osc) (hN : X.N = N) (ix : List (Option Nat)) (sb : En -> En) (hx : ∀ (HB : Hp) (σ : L2.St) (ρ : En) (H0 H : Hp), R.r HB H0 H σ ρ -> R'.r (fun _ => none) H0 H (subS ix σ) (sb ρ)) (hi : DI X R tg iter fi) (hg : ∀ b : CB, DGk (cxC X osc sc N' b) R' (slotS ix) tg fg) (ht : ∀ b : CB, DTs (cxC X osc sc N' b) R' ifs ft) (he : ∀ b : CB, DE (cxC X osc sc N' b) R' elt fe)
 (hcs:csOk osc sc N N' ix=true:=by decide +kernel) (hc:X.calm=true:=by rfl)
 (hs:∀x,foldedSetIterable iter X.env x=pure x:=by intro _;rfl):DE X R (.ListComp elt [⟨tg,iter,ifs,0⟩] sc pos) (mLC sb fi fg ft fe):=by
 obtain ⟨wi,h1,h2⟩:=hi
 exact ⟨_,pe_lc (g:=fun b=>(hg b).choose) (tt:=fun b=>(ht b).choose) (te:=fun b=>(he b).choose) hc ho hN hcs h1 (fun b=>⟨(hg b).choose_spec.1,(ht b).choose_spec.1,(he b).choose_spec.1⟩) (fun b=>(hg b).choose_spec.2.2.gk) hs,
  re_lc hx h2 (fun b=>(hg b).choose_spec.2.1) (fun b=>(ht b).choose_spec.2) (fun b=>(he b).choose_spec.2)⟩
theorem ds_setC {N : List Str} (ho : X.env.scope = osc) (hN : X.N = N) (i : Nat) (ix : List (Option Nat)) (sb : En -> En) (hx : ∀ (HB : Hp) (σ : L2.St) (ρ : En) (H0 H : Hp), R.r HB H0 H σ ρ -> R'.r (fun _ => none) H0 H (subS ix σ) (sb ρ)) {py spos : Pos} (hnd : X.N.Nodup) (hi : DI X R tg iter fi) (hg : ∀ b : CB, DGk (cxC X osc sc N' b) R' (slotS ix) tg fg) (ht : ∀ b : CB, DTs (cxC X osc sc N' b) R' ifs ft) (he : ∀ b : CB, DE (cxC X osc sc N' b) R' elt fe)
 (hi':X.N[i]? = some y:=by rfl) (hy:X.env.scope.names.lookup y=some .local:=by rfl) (hsw:swapsWith (.ListComp elt [⟨tg,iter,ifs,0⟩] sc pos) (some (.Name y py)) spos.line X.env=pure true:=by rfl)
 (hcs:csOk osc sc N N' ix=true:=by decide +kernel) (hc:X.calm=true:=by rfl)
 (hs:∀x,foldedSetIterable iter X.env x=pure x:=by intro _;rfl) (hsl:R.slot i:=by first | exact True.intro | exact ⟨of_decide_eq_true rfl,of_decide_eq_true rfl⟩):DS X R (.Assign [.Name y py] (.ListComp elt [⟨tg,iter,ifs,0⟩] sc pos) spos) (mAsg i (mLC sb fi fg ft fe)):=by
 obtain ⟨wi,h1,h2⟩:=hi
 exact ⟨_,ps_setC (g:=fun b=>(hg b).choose) (tt:=fun b=>(ht b).choose) (te:=fun b=>(he b).choose) hnd hi' hy hsw hc ho hN hcs h1 (fun b=>⟨(hg b).choose_spec.1,(ht b).choose_spec.1,(he b).choose_spec.1⟩) (fun b=>(hg b).choose_spec.2.2.gk) hs,
  rs_asgC hsl (re_lc hx h2 (fun b=>(hg b).choose_spec.2.1) (fun b=>(ht b).choose_spec.2) (fun b=>(he b).choose_spec.2))⟩
end
end Dm
namespace Dm
open PySem PySem.Spec L2 Tf
theorem compM_map{α:Type}{f:PyData->Option (Option PyData)}{en:α->PyData}{g:α->PyData}:∀ {xs:List α},(∀x ∈ xs,f (en x)=some (some (g x)))->compM f (xs.map en)=some (xs.map g)
 | [],_=>rfl
 | x::xs,h=>by
  rw [List.map_cons,compM,h x List.mem_cons_self,compM_map (fun y hy=>h y (List.mem_cons_of_mem _ hy))];rfl
def Rts(g:En->Option Out)(ρ:En)(r:Sl):Prop:=∃ρ',g ρ=some (.rt r ρ')
theorem rts_seq{f g:En->Option Out}{ρ ρ':En}{r:Sl}(h:f ρ=some (.nx ρ'))(k:Rts g ρ' r):Rts (mSeq f g) ρ r:=by
 obtain ⟨ρ2,k⟩:=k;exact ⟨ρ2,by unfold mSeq;rw [h];exact k⟩
theorem rts_seqR{f g:En->Option Out}{ρ:En}{r:Sl}(h:Rts f ρ r):Rts (mSeq f g) ρ r:=by
 obtain ⟨ρ2,h⟩:=h;exact ⟨ρ2,by unfold mSeq;rw [h];rfl⟩
theorem rts_ret{f:En->Option Sl}{ρ:En}{r:Sl}(h:f ρ=some r):Rts (mRet f) ρ r:=⟨ρ,by unfold mRet;rw [h];rfl⟩
theorem rts_if{c:En->Option Bool}{f g:En->Option Out}{ρ:En}{r:Sl}{b:Bool}(h:c ρ=some b)(k:Rts (if b then f else g) ρ r):Rts (mIf c f g) ρ r:=by
 obtain ⟨ρ2,k⟩:=k;refine ⟨ρ2,?_⟩;unfold mIf;rw [h]
 cases b <;> exact k
theorem runD_rt{n k:Nat}{g:En->Option Out}{ds:List PyData}{ρ:En}{r:Sl}(hl:ds.length=k)(e:ds.map (fun d=>some (Sl.val d))++List.replicate (n - ds.length) none=ρ)(h:Rts g ρ r):runD n g k ds=some r:=by
 obtain ⟨ρ',h⟩:=h;unfold runD;rw [if_pos hl,e,h];rfl
theorem seq_to{f g:En->Option Out}{ρ ρ':En}{o:Out}(h:f ρ=some (.nx ρ'))(k:g ρ'=some o):mSeq f g ρ=some o:=by
 unfold mSeq;rw [h];exact k
theorem if_to{c:En->Option Bool}{f g:En->Option Out}{ρ:En}{o:Out}{b:Bool}(h:c ρ=some b)(k:(if b then f ρ else g ρ)=some o):mIf c f g ρ=some o:=by
 unfold mIf;rw [h];exact k
theorem asg_to{i:Nat}{f:En->Option Sl}{ρ:En}{r:Sl}(h:f ρ=some r):mAsg i f ρ=some (.nx (ρ.set i (some r))):=by
 unfold mAsg;rw [h];rfl
theorem ret_to{f:En->Option Sl}{ρ:En}{r:Sl}(h:f ρ=some r):mRet f ρ=some (.rt r ρ):=by
 unfold mRet;rw [h];rfl
theorem call_to{F:List PyData->Option Sl}{f:En->Option (List PyData)}{ρ:En}{ds:List PyData}{r:Sl}(h:f ρ=some ds)(k:F ds=some r):mCall F f ρ=some r:=by
 unfold mCall;rw [h];exact k
theorem for_to{fi:En->Option (List PyData)}{fg:PyData->En->Option En}{gb:En->Option Out}{ρ:En}{ds:List PyData}{o:Out}(h:fi ρ=some ds)(k:forM fg gb ds ρ=some o):mFor fi fg gb ρ=some o:=by
 unfold mFor;rw [h];exact k
theorem lc_to{sb:En->En}{fi:En->Option (List PyData)}{fg:PyData->En->Option En}{ft:En->Option Bool}{fe:En->Option Sl}{ρ:En}{ds es:List PyData}(h:fi ρ=some ds)(hl:ds.length<sizeLine)(k:compM (elM fg ft fe (sb ρ)) ds=some es):mLC sb fi fg ft fe ρ=some (.own es):=by
 unfold mLC;rw [h];show (if ds.length<sizeLine then _ else _)=_;rw [if_pos hl,k];rfl
theorem mulS{i j:Int}(h:CMulA i j):dRep (.val (.int i)) (.val (.int j))=some (.val (.int (i*j))):=by
 unfold dRep dMulI iopC;simp only [if_pos h]
theorem divS{i j:Int}(h:CDivB i j):dFdiv (.val (.int i)) (.val (.int j))=some (.val (.int (i.fdiv j))):=by
 unfold dFdiv iopC;simp only [if_pos h]
theorem modS{i j:Int}(h:j≠0):dMod (.val (.int i)) (.val (.int j))=some (.val (.int (i.fmod j))):=by
 unfold dMod iopC;simp only [if_pos h]
theorem powS{i j:Int}(h:CPow i j):dPow (.val (.int i)) (.val (.int j))=some (.val (.int (i ^ j.toNat))):=by
 unfold dPow iopC;simp only [if_pos h]
theorem shrS{i j:Int}(h:0<=j):dShr (.val (.int i)) (.val (.int j))=some (.val (.int (i / 2 ^ j.toNat))):=by
 unfold dShr iopC;simp only [if_pos h]
theorem rng1_to{f:En->Option (List Sl)}{ρ:En}{j:Nat}(h:f ρ=some [.val (.int j)])(hj:j<=1000):mRng1 f ρ=some (rngD 0 j):=by
 have b:inB (j:Int):=by
  constructor
  . have : -(2 ^ 62:Int)<=0:=by decide
    omega
  . have:(1000:Int)<2 ^ 62:=by decide
    omega
 unfold mRng1;rw [h];show (if inB (j:Int) then some (rngD 0 ((j:Int).toNat)) else none)=_;rw [if_pos b,Int.toNat_natCast]
theorem eqD_int(i j:Int):eqD (.int i) (.int j)=some (decide (i=j)):=by
 have:PyData.eqv (.int i) (.int j)=decide (i=j):=by simp [PyData.eqv,Bool.beq_eq_decide_eq]
 unfold eqD;rw [if_pos ⟨rfl,rfl,by simp [PyData.depth]⟩,this]
def encF(q:Int×Int):PyData:= .tuple [.int q.1, .int q.2]
theorem lay_list{α:Type}{en:α->PyData}(h:∀x,(en x).canLay0=true):∀xs:List α,PyData.canLayAll0 (xs.map en)=true
 | []=>rfl
 | x::xs=>by rw [List.map_cons,PyData.canLayAll0,h x,lay_list h xs];rfl
theorem dep_list{α:Type}{en:α->PyData}{k:Nat}(h:∀x,(en x).depth<=k):∀xs:List α,PyData.depthAll (xs.map en)<=k
 | []=>Nat.zero_le _
 | x::xs=>by rw [List.map_cons,PyData.depthAll];exact Nat.max_le.mpr ⟨h x,dep_list h xs⟩
theorem dep_F(q:Int×Int):(encF q).depth<=3:=by simp [encF,PyData.depth,PyData.depthAll]
theorem eqD_same{d:PyData}(h:d.canLay0=true)(k:d.depth<=60):eqD d d=some true:=by
 unfold eqD;rw [if_pos ⟨h,h,by omega⟩,SeqAt.eqv_refl d h]
end Dm
namespace Dm
open PySem PySem.Spec PyProof.Rows L2 Tf
section
variable {X:Cx}
theorem bools_of{bs:List Bool}:∀ {us:List Value},Vals (bs.map V.bl) us->LSm.BoolsAre us bs:=by
 induction bs with
 | nil=>intro us r;cases r;exact .nil
 | cons b bs ih=>
  intro us r
  cases r with
  | cons r1 r2=>cases (show _=Value.bool b from r1);exact .cons b (ih r2)
theorem call_all(hc:X.calm=true):CallR X (.builtin "all") (fun xs H Q=>∃(p:Addr) (bs:List Bool),xs = [.ref p]/\SqL X.K H p (bs.map V.bl)/\Q (.bl (bs.all id)) H):=by
 intro pins s σ H xs us Q I r h;obtain ⟨p,bs,rfl,hq,q⟩:=h;obtain ⟨u,rfl,ru⟩:=vals1 r
 cases (show u=Value.ref p from ru)
 obtain ⟨its,rv,pl,hz⟩:=I.list hq;have hb:=bools_of rv;have hl:s.heap.IsList p its.toArray:=pl.isList;have hlt:p<s.heap.objs.size:=by obtain ⟨_,e,_⟩:=hl;exact Heap.lt_size e
 refine call_all_walk (wpAny_pyIter_list hl ?_)
 refine ⟨s.heap.objs.size,[s.heap.objs.size,p],[s.heap.objs.size],its.toArray.size,_,_,fun i=>(bs[i]?).getD true,rfl,Walks.list (A:=X.A.in1) (I.ok.hd hc) _ p (Nat.ne_of_lt hlt) its.toArray,
  ⟨⟨_,Heap.get?_push_size _ rfl,rfl,rfl⟩,hl.push _⟩,fun i v s' Q' E' hP hQ=> ?_,fun h' tk hk=> ?_⟩
 . obtain ⟨b,e,rfl⟩:=hb.get i v (by simpa using hP);simp only [e,Option.getD_some] at hQ
   exact wpAny_truthy_bool hQ
 . have e : ((List.range its.toArray.size).all fun i => (bs[i]?).getD true) = bs.all id := by
    rw [List.size_toArray,hb.length];exact LSm.range_all bs
   rw [e];exact ⟨.bl _,H,I.kept (LSm.kept_iter hk),rfl,q⟩
def boolsOf:List PyData->Option (List Bool)
 | []=>some []
 | .bool i::r=>(boolsOf r).map (i :: ·)
 | _::_=>none
theorem boolsOf_eq:∀ {ds:List PyData} {bs:List Bool},boolsOf ds=some bs->ds=bs.map .bool
 | [],bs,h=>by cases h;rfl
 | .bool i::r,bs,h=>by
  obtain ⟨ms,h1,rfl⟩:=Option.map_eq_some_iff.mp (show (boolsOf r).map (i :: ·)=some bs from h);rw [boolsOf_eq h1];rfl
theorem reps_bools{K:PySem.W.Frag}{H:Hp}:∀ {vs:List V} {bs:List Bool},Reps K H vs (bs.map .bool)->vs=bs.map .bl
 | _,[],h=>by cases h;rfl
 | _,n::r,h=>by
  cases h with
  | cons h t=>cases h;rw [reps_bools t];rfl
def dAll:List Sl->Option Sl
 | [a]=>match a.dat with
  | .list ds=>(boolsOf ds).map fun bs=> .val (.bool (bs.all id))
  | _=>none
 | _=>none
theorem cd_all{K:PySem.W.Frag}:CallD K (fun xs H Q=>∃(p:Addr) (bs:List Bool),xs = [.ref p]/\SqL K H p (bs.map V.bl)/\Q (.bl (bs.all id)) H) dAll:=fun H0 H vs ss z s p hz Q q=>by
 unfold dAll at hz
 split at hz
 . obtain ⟨v,rfl,pa⟩:=paired1 p
   split at hz
   . rename_i ds hd;obtain ⟨bs,hn,rfl⟩:=Option.map_eq_some_iff.mp hz;obtain ⟨a,vs,rfl,h1,h2⟩:=pa.lst s hd;rw [boolsOf_eq hn] at h2
     rw [reps_bools h2] at h1
     exact ⟨a,bs,rfl,h1,q _ _ _ (Ext.refl s) (.bool _)⟩
   . cases hz
 . cases hz
def rInD(K:PySem.W.Frag)(neg:Bool):R2:=fun x y H Q=>∃p xs dx ds,y = .ref p/\(SqL K H p xs\/SqT K H p xs)/\Rep K H x dx/\Reps K H xs ds/\dx.canLay0=true/\(∀d ∈ ds,d.canLay0=true)/\dx.depth<=60/\Q (.bl (if neg then !(ds.any fun d=>PyData.eqv d dx) else ds.any fun d=>PyData.eqv d dx)) H
open Classical in
noncomputable def eqW(h:Heap)(ds:List PyData)(dx:PyData)(u:Value):Bool:=decide (∃d ∈ ds,(∃as,Reads h u d as)/\PyData.eqv d dx=true)
open Classical in
theorem eqW_of{h:Heap}{ds:List PyData}{dx d:PyData}{u:Value}{as:List Addr}(hd:d ∈ ds)(hl:∀d ∈ ds,d.canLay0=true)(r:Reads h u d as):eqW h ds dx u=PyData.eqv d dx:=by
 unfold eqW
 by_cases e:PyData.eqv d dx=true
 . rw [e];exact decide_eq_true ⟨d,hd,⟨as,r⟩,e⟩
 . rw [Bool.eq_false_iff.mpr e];refine decide_eq_false ?_;rintro ⟨d',hd',⟨as',r'⟩,e'⟩;rw [<-SeqAt.Reads.unique d d' u as as' (hl d hd) r r'] at e'
   exact e e'
theorem any_eqW{h:Heap}{dx:PyData}{all:List PyData}(hl:∀d ∈ all,d.canLay0=true):∀ {us:List Value} {ds:List PyData} {as:List Addr},ReadsAll h us ds as->(∀d ∈ ds,d ∈ all)->us.any (eqW h all dx)=ds.any fun d=>PyData.eqv d dx
 | _,_,_, .nil,_=>rfl
 | _,_,_, .cons r t,hs=>by
  rw [List.any_cons,List.any_cons,eqW_of (hs _ List.mem_cons_self) hl r,any_eqW hl t fun d hd=>hs d (List.mem_cons_of_mem _ hd)]
theorem mem_readsAll{h:Heap}:∀ {us:List Value} {ds:List PyData} {as:List Addr},ReadsAll h us ds as->∀u ∈ us,∃d ∈ ds,∃bs,Reads h u d bs
 | _,_,_, .nil,u,hu=>by cases hu
 | _,_,_, .cons r t,u,hu=>by
  rcases List.mem_cons.mp hu with rfl | hu
  . exact ⟨_,List.mem_cons_self,_,r⟩
  . obtain ⟨d,hd,q⟩:=mem_readsAll t u hu;exact ⟨d,List.mem_cons_of_mem _ hd,q⟩
theorem in1_units(A:Around):A.in1.units=A.units+1:=rfl
theorem op_inD(hu:X.A.units+64<cLine):OpR X (compareOp .In) (rInD X.K false):=by
 intro pins s σ H x y v u Q I rx ry h;obtain ⟨p,xs,dx,ds,rfl,hq,hx,hs,lx,ld,dp,q⟩:=h
 cases ry
 obtain ⟨bs,r2⟩:=hx.reads I rx lx;rcases hq with hq | hq
 . obtain ⟨its,r,pl,hz⟩:=I.list hq;obtain ⟨as,ra⟩:=Reps.reads I hs r (layAll_of ld);refine SeqAt.in_listAt (eqW s.heap ds dx) pl.isList (fun w hw=> ?_) ⟨.bl _,H,I,rfl,?_⟩
   . obtain ⟨d,hd,cs,rd⟩:=mem_readsAll ra w (by simpa using hw);rw [eqW_of hd ld rd];exact SeqAt.eqAt_reads d dx _ _ _ _ _ _ rd r2 (ld d hd) lx (by have:=in1_units X.A;omega)
   . rw [show its.toArray.any (eqW s.heap ds dx)=its.any (eqW s.heap ds dx) by simp,any_eqW ld ra fun _ h=>h];exact q
 . obtain ⟨its,r,pl,hz⟩:=I.tuple hq;obtain ⟨as,ra⟩:=Reps.reads I hs r (layAll_of ld);refine SeqAt.in_tupleAt (eqW s.heap ds dx) pl (fun w hw=> ?_) ⟨.bl _,H,I,rfl,?_⟩
   . obtain ⟨d,hd,cs,rd⟩:=mem_readsAll ra w (by simpa using hw);rw [eqW_of hd ld rd];exact SeqAt.eqAt_reads d dx _ _ _ _ _ _ rd r2 (ld d hd) lx (by have:=in1_units X.A;omega)
   . rw [show its.toArray.any (eqW s.heap ds dx)=its.any (eqW s.heap ds dx) by simp,any_eqW ld ra fun _ h=>h];exact q
theorem op_notInD(hu:X.A.units+64<cLine):OpR X (compareOp .NotIn) (rInD X.K true):=by
 intro pins s σ H x y v u Q I rx ry h;obtain ⟨p,xs,dx,ds,rfl,hq,hx,hs,lx,ld,dp,q⟩:=h
 cases ry
 obtain ⟨bs,r2⟩:=hx.reads I rx lx;rcases hq with hq | hq
 . obtain ⟨its,r,pl,hz⟩:=I.list hq;obtain ⟨as,ra⟩:=Reps.reads I hs r (layAll_of ld);refine SeqAt.notIn_listAt (eqW s.heap ds dx) pl.isList (fun w hw=> ?_) ⟨.bl _,H,I,rfl,?_⟩
   . obtain ⟨d,hd,cs,rd⟩:=mem_readsAll ra w (by simpa using hw);rw [eqW_of hd ld rd];exact SeqAt.eqAt_reads d dx _ _ _ _ _ _ rd r2 (ld d hd) lx (by have:=in1_units X.A;omega)
   . rw [show its.toArray.any (eqW s.heap ds dx)=its.any (eqW s.heap ds dx) by simp,any_eqW ld ra fun _ h=>h];exact q
 . obtain ⟨its,r,pl,hz⟩:=I.tuple hq;obtain ⟨as,ra⟩:=Reps.reads I hs r (layAll_of ld);refine SeqAt.notIn_tupleAt (eqW s.heap ds dx) pl (fun w hw=> ?_) ⟨.bl _,H,I,rfl,?_⟩
   . obtain ⟨d,hd,cs,rd⟩:=mem_readsAll ra w (by simpa using hw);rw [eqW_of hd ld rd];exact SeqAt.eqAt_reads d dx _ _ _ _ _ _ rd r2 (ld d hd) lx (by have:=in1_units X.A;omega)
   . rw [show its.toArray.any (eqW s.heap ds dx)=its.any (eqW s.heap ds dx) by simp,any_eqW ld ra fun _ h=>h];exact q
def inD(neg:Bool)(dx:PyData)(ds:List PyData):Option Sl:=if dx.canLay0=true/\(ds.all fun d=>d.canLay0)=true/\dx.depth<=60 then some (.val (.bool (if neg then !(ds.any fun d=>PyData.eqv d dx) else ds.any fun d=>PyData.eqv d dx))) else none
def dInD(neg:Bool)(a b:Sl):Option Sl:=match b.dat with
 | .list ds=>inD neg a.dat ds
 | .tuple ds=>inD neg a.dat ds
 | _=>none
theorem opd_inD{K:PySem.W.Frag}{neg:Bool}:OpD K (rInD K neg) (dInD neg):=fun H0 H x y sx sy z s px py hz Q q=>by
 unfold dInD at hz
 split at hz
 . rename_i ds hd;unfold inD at hz
   split at hz
   . rename_i hc
     cases hz
     obtain ⟨a,vs,rfl,h1,h2⟩:=py.lst s hd;exact ⟨a,vs,_,ds,rfl, .inl h1,px.rep s,Reps.same s h2,hc.1,fun d hd=>List.all_eq_true.mp hc.2.1 d hd,hc.2.2,q _ _ _ (Ext.refl s) (.bool _)⟩
   . cases hz
 . rename_i ds hd;unfold inD at hz
   split at hz
   . rename_i hc
     cases hz
     obtain ⟨a,vs,rfl,h1,h2⟩:=py.tup hd;exact ⟨a,vs,_,ds,rfl, .inr (s.seqT (SqT.of h1)),px.rep s,Reps.same s h2,hc.1,fun d hd=>List.all_eq_true.mp hc.2.1 d hd,hc.2.2,q _ _ _ (Ext.refl s) (.bool _)⟩
   . cases hz
 . cases hz
variable {R:Rl} [RelOk X.K R] {a b e:Expr} {pos p:Pos} {fa fb f:En->Option Sl}
theorem dt_inD(hu:X.A.units+64<cLine)(ha:DP X R a fa)(hb:DP X R b fb)(hm:behindInMarks .In b=false:=by with_unfolding_all rfl):DT X R (.Compare a [.In] [b] pos) (mTest (mBin (dInD false) fa fb)):=dt_cmp (op_inD hu) opd_inD ha hb hm
theorem dt_notinD(hu:X.A.units+64<cLine)(ha:DP X R a fa)(hb:DP X R b fb)(hm:behindInMarks .NotIn b=false:=by with_unfolding_all rfl):DT X R (.Compare a [.NotIn] [b] pos) (mTest (mBin (dInD true) fa fb)):=dt_cmp (op_notInD hu) opd_inD ha hb hm
end
end Dm
namespace Tf
open PySem PySem.Spec PyProof.Rows L2
variable {X:Cx}
end Tf
namespace Dm
open PySem PySem.Spec L2 Tf
def Wp(g:En->Option Out)(ρ:En)(Z:Out->Prop):Prop:=∃o,g ρ=some o/\Z o
def Nx(P:En->Prop):Out->Prop
 | .nx ρ=>P ρ
 | _=>False
def Rt(r:Sl):Out->Prop
 | .rt r' _=>r'=r
 | _=>False
def Lp(N:En->Prop)(Z:Out->Prop):Out->Prop
 | .nx ρ=>N ρ
 | .ct ρ=>N ρ
 | .bk ρ=>Z (.nx ρ)
 | .rt r ρ=>Z (.rt r ρ)
section
variable {f g:En->Option Out} {ρ:En} {Z:Out->Prop}
theorem wp_of{o:Out}(h:g ρ=some o)(z:Z o):Wp g ρ Z:=⟨o,h,z⟩
theorem Wp.imp{Y:Out->Prop}(h:Wp g ρ Y)(k:∀o,Y o->Z o):Wp g ρ Z:=by
 obtain ⟨o,h1,h2⟩:=h;exact ⟨o,h1,k o h2⟩
theorem wp_seqG(h:Wp f ρ (fun o=>match o with | .nx ρ'=>Wp g ρ' Z | o=>Z o)):Wp (mSeq f g) ρ Z:=by
 obtain ⟨o,h1,h2⟩:=h
 cases o with
 | nx ρ' =>
  obtain ⟨o2,h3,h4⟩:=h2
  exact ⟨o2,by unfold mSeq;rw [h1];exact h3,h4⟩
 | rt r ρ'=>exact ⟨_,by unfold mSeq;rw [h1];rfl,h2⟩
 | bk ρ'=>exact ⟨_,by unfold mSeq;rw [h1];rfl,h2⟩
 | ct ρ'=>exact ⟨_,by unfold mSeq;rw [h1];rfl,h2⟩
theorem wp_seq{P:En->Prop}(h:Wp f ρ (Nx P))(k:∀ρ',P ρ'->Wp g ρ' Z):Wp (mSeq f g) ρ Z:=by
 refine wp_seqG (h.imp fun o ho=> ?_)
 cases o with
 | nx ρ'=>exact k ρ' ho
 | _=>exact ho.elim
theorem wp_seqN{ρ':En}(h:f ρ=some (.nx ρ'))(k:Wp g ρ' Z):Wp (mSeq f g) ρ Z:=by
 obtain ⟨o,h1,h2⟩:=k;exact ⟨o,seq_to h h1,h2⟩
variable {i:Nat} {fe:En->Option Sl} {r:Sl} {c:En->Option Bool} {b:Bool}
theorem wp_asg(h:fe ρ=some r)(k:Z (.nx (ρ.set i (some r)))):Wp (mAsg i fe) ρ Z:=⟨_,asg_to h,k⟩
theorem wp_asgS(h:fe ρ=some r)(k:Wp g (ρ.set i (some r)) Z):Wp (mSeq (mAsg i fe) g) ρ Z:=wp_seqN (asg_to h) k
theorem wp_frz(h:Wp g (frz1 i ρ) Z):Wp (mFrz i g) ρ Z:=h
theorem wp_ret(h:fe ρ=some r)(k:Z (.rt r ρ)):Wp (mRet fe) ρ Z:=⟨_,ret_to h,k⟩
theorem wp_if(h:c ρ=some b)(k:Wp (if b then f else g) ρ Z):Wp (mIf c f g) ρ Z:=by
 obtain ⟨o,h1,h2⟩:=k;refine ⟨o,if_to h ?_,h2⟩
 cases b <;> exact h1
theorem wp_ifT(h:c ρ=some true)(k:Wp f ρ Z):Wp (mIf c f g) ρ Z:=wp_if (b:=true) h k
theorem wp_ifF(h:c ρ=some false)(k:Wp g ρ Z):Wp (mIf c f g) ρ Z:=wp_if (b:=false) h k
theorem wp_next(k:Z (.nx ρ)):Wp mNext ρ Z:=⟨_,rfl,k⟩
theorem wp_skip{h:En->Option Out}(hc:c ρ=some false)(k:Wp h ρ Z):Wp (mSeq (mIf c f mNext) h) ρ Z:=wp_seqN (if_to hc rfl) k
variable {fi:En->Option (List PyData)} {fg:PyData->En->Option En} {ds:List PyData}
theorem wp_for(P:Nat->En->Prop)(hi:fi ρ=some ds)(h0:P 0 ρ)(hs:∀(j:Nat) d ρ,ds[j]? = some d->P j ρ->∃ρ1,fg d ρ=some ρ1/\Wp g ρ1 (Lp (P (j+1)) Z))(k:∀ρ',P ds.length ρ'->Z (.nx ρ')):Wp (mFor fi fg g) ρ Z:=by
 have gen:∀(n j:Nat) ρ,j+n=ds.length->P j ρ->∃o,forM fg g (ds.drop j) ρ=some o/\Z o:=by
  intro n
  induction n with
  | zero=>
   intro j ρ hj hp;have:j=ds.length:=by omega
   subst this;rw [List.drop_eq_nil_of_le (Nat.le_refl _)]
   exact ⟨_,rfl,k ρ hp⟩
  | succ n ih=>
   intro j ρ hj hp;have hd:ds[j]? = some ds[j]:=List.getElem?_eq_getElem (by omega);obtain ⟨ρ1,h1,o,h2,h3⟩:=hs j ds[j] ρ hd hp;rw [forM_drop hd,h1];simp only [Option.bind_some,h2]
   cases o with
   | nx ρ2=>exact ih (j+1) ρ2 (by omega) h3
   | ct ρ2=>exact ih (j+1) ρ2 (by omega) h3
   | bk ρ2=>exact ⟨_,rfl,h3⟩
   | rt r ρ2=>exact ⟨_,rfl,h3⟩
 obtain ⟨o,h1,h2⟩:=gen ds.length 0 ρ (by omega) h0;refine ⟨o,for_to hi ?_,h2⟩;simpa using h1
theorem wp_forR(P:Nat->En->Prop){lo:Int}{n:Nat}(hi:fi ρ=some (rngD lo n))(h0:P 0 ρ)(hs:∀(j:Nat) ρ,j<n->P j ρ->∃ρ1,fg (.int (lo+(j:Nat))) ρ=some ρ1/\Wp g ρ1 (Lp (P (j+1)) Z))(k:∀ρ',P n ρ'->Z (.nx ρ')):Wp (mFor fi fg g) ρ Z:=by
 refine wp_for P hi h0 (fun j d ρ hd hp=> ?_) (by simpa [rngD] using k);rw [rngD_get] at hd
 split at hd
 . rename_i hlt
   cases hd
   exact hs j ρ hlt hp
 . cases hd
theorem wp_forR0(P:Nat->En->Prop){n:Nat}(hi:fi ρ=some (rngD 0 n))(h0:P 0 ρ)(hs:∀(j:Nat) ρ,j<n->P j ρ->∃ρ1,fg (.int (j:Nat)) ρ=some ρ1/\Wp g ρ1 (Lp (P (j+1)) Z))(k:∀ρ',P n ρ'->Z (.nx ρ')):Wp (mFor fi fg g) ρ Z:=
 wp_forR P hi h0 (fun j ρ hj hp=>by rw [Int.zero_add];exact hs j ρ hj hp) k
theorem wp_forL{α:Type}{en:α->PyData}{xs:List α}(P:Nat->En->Prop)(hi:fi ρ=some (xs.map en))(h0:P 0 ρ)(hs:∀(j:Nat) x ρ,xs[j]? = some x->P j ρ->∃ρ1,fg (en x) ρ=some ρ1/\Wp g ρ1 (Lp (P (j+1)) Z))(k:∀ρ',P xs.length ρ'->Z (.nx ρ')):Wp (mFor fi fg g) ρ Z:=by
 refine wp_for P hi h0 (fun j d ρ hd hp=> ?_) (by simpa using k);rw [List.getElem?_map] at hd
 obtain ⟨x,hx,rfl⟩:=Option.map_eq_some_iff.mp hd;exact hs j x ρ hx hp
theorem wp_while(P:En->Prop)(μ:En->Nat)(h0:P ρ)(hs:∀ρ,P ρ->(c ρ=some false/\Z (.nx ρ))\/(c ρ=some true/\Wp g ρ (Lp (fun ρ'=>P ρ'/\μ ρ'<μ ρ) Z))):Wp (mWhile c g) ρ Z:=by
 have gen:∀(n:Nat) ρ,μ ρ<n->P ρ->∃o,whileF c g n ρ=some o/\Z o:=by
  intro n
  induction n with
  | zero=>intro ρ h;omega
  | succ n ih=>
   intro ρ hm hp;rcases hs ρ hp with ⟨h,z⟩ | ⟨h,o,h1,h2⟩
   . exact ⟨.nx ρ,by simp [whileF,h],z⟩
   . cases o with
     | nx ρ2=>
      obtain ⟨o,h4,h5⟩:=ih ρ2 (by have:=h2.2;omega) h2.1
      exact ⟨o,by simp [whileF,h,h1,h4],h5⟩
     | ct ρ2=>
      obtain ⟨o,h4,h5⟩:=ih ρ2 (by have:=h2.2;omega) h2.1
      exact ⟨o,by simp [whileF,h,h1,h4],h5⟩
     | bk ρ2=>exact ⟨_,by simp [whileF,h,h1],h2⟩
     | rt r ρ2=>exact ⟨_,by simp [whileF,h,h1],h2⟩
 obtain ⟨o,h1,h2⟩:=gen (μ ρ+1) ρ (by omega) h0;exact ⟨o,mWhile_of h1,h2⟩
theorem run_wp{n k:Nat}{ds:List PyData}(hl:ds.length=k)(e:ds.map (fun d=>some (Sl.val d))++List.replicate (n - ds.length) none=ρ)(h:Wp g ρ (Rt r)):runD n g k ds=some r:=by
 obtain ⟨o,h1,h2⟩:=h
 cases o with
 | rt r' ρ'=>cases h2;exact runD_rt hl e ⟨ρ',h1⟩
 | _=>exact h2.elim
end
theorem and_false{a b:En->Option Bool}{ρ:En}{k:Bool}(h1:a ρ=some k)(h2:b ρ=some false):mAnd a b ρ=some false:=by
 unfold mAnd;rw [h1]
 cases k
 . rfl
 . exact h2
theorem and_to{a b:En->Option Bool}{ρ:En}{k l:Bool}(h1:a ρ=some k)(h2:b ρ=some l):mAnd a b ρ=some (k && l):=by
 unfold mAnd;rw [h1]
 cases k
 . rfl
 . exact h2
theorem or_to{a b:En->Option Bool}{ρ:En}{k l:Bool}(h1:a ρ=some k)(h2:b ρ=some l):mOr a b ρ=some (k || l):=by
 unfold mOr;rw [h1]
 cases k
 . exact h2
 . rfl
theorem not_to{a:En->Option Bool}{ρ:En}{k:Bool}(h1:a ρ=some k):mNot a ρ=some (!k):=by
 unfold mNot;rw [h1];rfl
theorem ne_int{fa fb:En->Option Sl}{ρ:En}{i j:Int}(ha:fa ρ=some (.val (.int i)))(hb:fb ρ=some (.val (.int j))):mTest (mBin dne fa fb) ρ=some (!decide (i=j)):=by
 unfold mTest mBin;rw [ha,Option.bind_some,hb,Option.bind_some];show Option.bind ((eqD (.int i) (.int j)).map _) _=_;rw [eqD_int];rfl
theorem eq_int{fa fb:En->Option Sl}{ρ:En}{i j:Int}(ha:fa ρ=some (.val (.int i)))(hb:fb ρ=some (.val (.int j))):mTest (mBin deq fa fb) ρ=some (decide (i=j)):=by
 unfold mTest mBin;rw [ha,Option.bind_some,hb,Option.bind_some];show Option.bind ((eqD (.int i) (.int j)).map _) _=_;rw [eqD_int];rfl
theorem ne_same{fa fb:En->Option Sl}{ρ:En}{a b:Sl}(ha:fa ρ=some a)(hb:fb ρ=some b)(h:a.dat=b.dat)(h1:b.dat.canLay0=true)(h2:b.dat.depth<=60):mTest (mBin dne fa fb) ρ=some false:=by
 unfold mTest mBin;rw [ha,Option.bind_some,hb,Option.bind_some];show Option.bind ((eqD a.dat b.dat).map _) _=_;rw [h,eqD_same h1 h2];rfl
theorem eq_same{fa fb:En->Option Sl}{ρ:En}{a b:Sl}(ha:fa ρ=some a)(hb:fb ρ=some b)(h:a.dat=b.dat)(h1:b.dat.canLay0=true)(h2:b.dat.depth<=60):mBin deq fa fb ρ=some (.val (.bool true)):=by
 unfold mBin;rw [ha,Option.bind_some,hb,Option.bind_some];show (eqD a.dat b.dat).map _=_;rw [h,eqD_same h1 h2];rfl
theorem compM_none{f:PyData->Option (Option PyData)}:∀ {ds:List PyData},(∀d ∈ ds,f d=some none)->compM f ds=some []
 | [],_=>rfl
 | d::ds,h=>by
  rw [compM,h d List.mem_cons_self,compM_none fun d' hd=>h d' (List.mem_cons_of_mem _ hd)];rfl
def il(l:List Int):List PyData:=l.map .int
def nl(l:List Nat):List PyData:=l.map fun n:Nat=>PyData.int (n:Int)
theorem il_len(l:List Int):(il l).length=l.length:=List.length_map ..
theorem il_app(a b:List Int):il (a++b)=il a++il b:=List.map_append ..
theorem atI_nat{α:Type}{xs:List α}{j:Nat}{x:α}(h:xs[j]? = some x):atI xs (j:Int)=some x:=by
 obtain ⟨hj,e⟩:=List.getElem?_eq_some_iff.mp h;unfold atI ixN;rw [if_pos (by omega),if_pos (by omega)];simpa using h
theorem dix_nat{s:Sl}{ds:List PyData}{j:Nat}{d:PyData}(hs:s.dat = .list ds\/s.dat = .tuple ds)(h:ds[j]? = some d):dix s (.val (.int (j:Int)))=some (.val d):=by
 unfold dix;rcases hs with hs | hs <;> simp only [hs,atI_nat h,Option.map_some]
theorem intsOf_il(l:List Int):intsOf (il l)=some l:=by
 induction l with
 | nil=>rfl
 | cons a l ih=>simp only [il,List.map_cons,intsOf] at ih ⊢;rw [ih];rfl
end Dm
namespace Tf
open PySem PySem.Spec PyProof.Rows L2
section
variable {X:Cx}
end
section
variable {prog:Program} {w:World} {A:Around} {E:Value->Shared->Prop} {s:Shared} {it:Addr} {F W:List Addr} {G:Array GenState->Array GenState->Prop} {n:Nat} {P:Nat->Value->Prop} {St:Nat->Shared->Prop}
end
section
variable {X:Cx}
def iSeq(K:PySem.W.Frag)(tl:TE):TI:=fun σ H R=>tl σ H fun x H1=>∃a,x = .ref a/\(((∃xs,SqL K H1 a xs)/\R (Itl K a) H1)\/((∃xs,SqT K H1 a xs)/\R (Itt K a) H1))
theorem pi_seq{tg l:Expr}{tl:TE}(hl:PE X l tl):PI X tg l (iSeq X.K tl):=by
 intro pins s σ H R I h;refine thn (hl pins s σ H _ I h) fun v s1 ⟨x,H1,I1,r1,q1⟩ => ?_;obtain ⟨a,e,⟨⟨xs,hq⟩,q⟩ | ⟨⟨xs,hq⟩,q⟩⟩:=q1
 . subst e
   cases r1
   obtain ⟨its,rv,p,hz⟩:=I1.list hq;refine wpAny_pyIter_list p.isList ?_;refine ⟨s1.heap.objs.size,[s1.heap.objs.size],_,_,H1,rfl,I1.kept (t':=s1.toks) fun b o e=>Heap.get?_push_of_some _ e,turn_list a _,⟨_,Heap.get?_push_size _ rfl,rfl,rfl⟩,fun b hb=> ?_,q⟩
   cases List.mem_singleton.mp hb
   exact I1.fpOk (Nat.le_refl _) (I1.hok.fresh (Nat.le_refl _))
 . subst e
   cases r1
   obtain ⟨its,rv,p,hz⟩:=I1.tuple hq;refine wpAny_pyIter_tuple (show s1.heap.IsTuple a its.toArray from p) ?_;refine ⟨s1.heap.objs.size,[s1.heap.objs.size],_,_,H1,rfl,I1.kept (t':=s1.toks) fun b o e=>Heap.get?_push_of_some _ e,turn_tuple a _,⟨_,Heap.get?_push_size _ rfl,rfl,rfl⟩,fun b hb=> ?_,q⟩
   cases List.mem_singleton.mp hb
   exact I1.fpOk (Nat.le_refl _) (I1.hok.fresh (Nat.le_refl _))
end
end Tf
namespace Dm
open PySem PySem.Spec PyProof.Rows L2 Tf
section
variable {K:PySem.W.Frag} {R:Rl} [RelOk K R]
def mItemsS(f:En->Option Sl):En->Option (List PyData):=fun ρ=>(f ρ).bind fun a=>match a.dat with
 | .list ds=>some ds
 | .tuple ds=>some ds
 | _=>none
theorem ri_seq{te:TE}{f:En->Option Sl}(h:RE K R te f):RI K R (iSeq K te) (mItemsS f):=fun HB σ ρ H0 H s e ds hd R q=>by
 obtain ⟨a,ha,hd⟩:=Option.bind_eq_some_iff.mp hd
 split at hd
 . rename_i es he
   cases hd
   refine h.rv HB σ ρ H0 H s e a.dat (by unfold mDat;rw [ha];rfl) _ fun v H1 J1 x1 p1=> ?_;rw [he] at p1
   cases p1 with
   | list h1 h2=>exact ⟨_,rfl, .inl ⟨⟨_,x1.s1.seq h1⟩,q _ _ _ x1 (it_list h1 h2)⟩⟩
 . rename_i es he
   cases hd
   refine h.rv HB σ ρ H0 H s e a.dat (by unfold mDat;rw [ha];rfl) _ fun v H1 J1 x1 p1=> ?_;rw [he] at p1
   cases p1 with
   | tuple h1 h2=>exact ⟨_,rfl, .inr ⟨⟨_,x1.s1.seqT (SqT.of h1)⟩,q _ _ _ x1 (it_tup (SqT.of h1) h2)⟩⟩
 . cases hd
def PinP(K:PySem.W.Frag)(i:Nat)(a:Addr)(ds:List PyData):Rl:=⟨fun HB H0 H σ ρ=>ER K HB H0 H σ ρ/\σ[i]? = some (some (.ref a))/\ρ[i]? = some (some (.own ds)),fun k=>k≠i/\(0:Nat)=0⟩
instance relOk_Pin {i:Nat} {a:Addr} {ds:List PyData}:RelOk K (PinP K i a ds) where
 ext:=fun x e=>⟨ER.ext x e.1,e.2⟩
 get:=fun e _ h=>ER.get e.1 _ _ h
 set:=fun {_ _ _ _ _ _ _ k _ _} e hs x s h=>⟨(relOk_PR (K:=K)).set e.1 trivial x s h,by rw [List.getElem?_set_ne hs.1];exact e.2.1,by rw [List.getElem?_set_ne hs.1];exact e.2.2⟩
 write:=fun e hs h1 h2 h3 h4 h5 h6=>⟨(relOk_PR (K:=K)).write e.1 trivial h1 h2 h3 h4 h5 h6,e.2.1,by rw [List.getElem?_set_ne hs.1];exact e.2.2⟩
 frz:=fun e hs h x=>by
  obtain ⟨H0',h1,h2⟩:=(relOk_PR (K:=K)).frz e.1 trivial h x;exact ⟨H0',h1,h2,e.2.1,by rw [List.getElem?_set_ne hs.1];exact e.2.2⟩
end
section
variable {X:Cx} {R R':Rl} [RelOk X.K R] [RelOk X.K R'] {a b c e:Expr} {pos p p2 pos2:Pos} {f g fa fb fc:En->Option Sl} {fs:En->Option (List PyData)} {fq:En->Option (List Sl)} {tg:Expr} {x:Str}
theorem di_seq(h:DE X R e f):DI X R tg e (mItemsS f):=by
 obtain ⟨t,h1,h2⟩:=h;exact ⟨_,pi_seq h1,ri_seq h2⟩
end
end Dm
namespace Tf
open PySem PySem.Spec PyProof.Rows L2
section
variable {prog:Program} {w:World} {A:Around} {E:Value->Shared->Prop} {s:Shared}
end
section
variable {prog:Program} {w:World} {A:Around} {E:Value->Shared->Prop} {s:Shared}
end
section
variable {X:Cx}
end
end Tf
namespace Dm
open PySem PySem.Spec PyProof.Rows L2 Tf
section
variable {K:PySem.W.Frag} {R:Rl} [RelOk K R]
end
section
variable {X:Cx} {R:Rl} [RelOk X.K R] {a b:Expr} {pos p:Pos} {fs:En->Option (List PyData)}
end
end Dm
namespace Dm
open PySem PySem.Spec PyProof.Rows L2 Tf
theorem keyD_inj{a b:Key}(h:keyD a=keyD b):a=b:=by
 cases a <;> cases b <;> simp [keyD] at h <;> rw [h]
theorem tupD_inj{a b:List Key}(h:tupD a=tupD b):a=b:=by
 have h:a.map keyD=b.map keyD:=by
  unfold tupD at h
  exact PyData.tuple.inj h
 exact List.map_inj_right (fun _ _=>keyD_inj) |>.mp h
section
variable {K:PySem.W.Frag}
theorem DctR.nil{H:Hp}:DctR K H [] []:=⟨[],[],[],rfl,rfl, .nil,rfl⟩
theorem DctR.cons{H:Hp}{k:List Key}{v:V}{d:PyData}{t:List (List Key×V)}{kvs:List (PyData×PyData)}(r:Rep K H v d)(h:DctR K H t kvs):DctR K H ((k,v)::t) ((tupD k,d)::kvs):=by
 obtain ⟨ks,xs,ds,rfl,e2,e3,rfl⟩:=h;exact ⟨k::ks,v::xs,d::ds,rfl,by rw [List.length_cons,List.length_cons,e2], .cons r e3,rfl⟩
theorem DctR.out{H:Hp}{t:List (List Key×V)}{kvs:List (PyData×PyData)}(h:DctR K H t kvs):(t = []/\kvs = [])\/∃k v d t' kvs',t=(k,v)::t'/\kvs=(tupD k,d)::kvs'/\Rep K H v d/\DctR K H t' kvs':=by
 obtain ⟨ks,xs,ds,rfl,e2,e3,rfl⟩:=h
 cases ks with
 | nil=>exact .inl ⟨rfl,rfl⟩
 | cons k ks=>
  cases e3 with
  | nil=>simp at e2
  | cons r t=>exact .inr ⟨k,_,_,_,_,rfl,rfl,r,ks,_,_,rfl,by simpa using e2,t,rfl⟩
open Classical in
noncomputable def lookD:List (PyData×PyData)->List Key->Option PyData
 | [],_=>none
 | (q,d)::r,k=>if q=tupD k then some d else lookD r k
open Classical in
noncomputable def replD(k:List Key)(d:PyData):List (PyData×PyData)->List (PyData×PyData)
 | []=> []
 | (q,e)::r=>(if q=tupD k then (q,d) else (q,e))::replD k d r
noncomputable def putD(kvs:List (PyData×PyData))(k:List Key)(d:PyData):List (PyData×PyData):=match lookD kvs k with
 | some _=>replD k d kvs
 | none=>kvs ++ [(tupD k,d)]
theorem DctR.val{H:Hp}{k:List Key}:∀ {t:List (List Key×V)} {kvs:List (PyData×PyData)},DctR K H t kvs->(valV t k=none/\lookD kvs k=none)\/∃v d,valV t k=some v/\lookD kvs k=some d/\Rep K H v d
 | [],kvs,h=>by
  rcases h.out with ⟨_,rfl⟩ | ⟨k',v,d,t',kvs',e,_⟩
  . exact .inl ⟨rfl,rfl⟩
  . cases e
 | p::t,kvs,h=>by
  rcases h.out with ⟨e,_⟩ | ⟨k',v,d,t',kvs',e,rfl,r,h'⟩
  . cases e
  . cases e
    by_cases hk:k'=k
    . subst hk;exact .inr ⟨v,d,valV_pos rfl,if_pos rfl,r⟩
    . rw [valV_neg (p:=(k',v)) hk,show lookD ((tupD k',d)::kvs') k=lookD kvs' k from if_neg fun z=>hk (tupD_inj z)];exact DctR.val h'
theorem DctR.repl{H:Hp}{k:List Key}{v:V}{d:PyData}(r:Rep K H v d):∀ {t:List (List Key×V)} {kvs:List (PyData×PyData)},DctR K H t kvs->DctR K H (t.map fun kv=>if kv.1=k then (kv.1,v) else kv) (replD k d kvs)
 | [],kvs,h=>by
  rcases h.out with ⟨_,rfl⟩ | ⟨k',v,d,t',kvs',e,_⟩
  . exact .nil
  . cases e
 | p::t,kvs,h=>by
  rcases h.out with ⟨e,_⟩ | ⟨k',v',d',t',kvs',e,rfl,r',h'⟩
  . cases e
  . cases e
    rw [List.map_cons];rw [replD]
    by_cases hk:k'=k
    . subst hk;rw [if_pos rfl,if_pos rfl];exact .cons r (DctR.repl r h')
    . rw [if_neg hk,if_neg fun z=>hk (tupD_inj z)];exact .cons r' (DctR.repl r h')
theorem DctR.snoc{H:Hp}{k:List Key}{v:V}{d:PyData}(r:Rep K H v d):∀ {t:List (List Key×V)} {kvs:List (PyData×PyData)},DctR K H t kvs->DctR K H (t ++ [(k,v)]) (kvs ++ [(tupD k,d)])
 | [],kvs,h=>by
  rcases h.out with ⟨_,rfl⟩ | ⟨k',v,d,t',kvs',e,_⟩
  . exact .cons r .nil
  . cases e
 | p::t,kvs,h=>by
  rcases h.out with ⟨e,_⟩ | ⟨k',v',d',t',kvs',e,rfl,r',h'⟩
  . cases e
  . cases e
    exact .cons r' (DctR.snoc r h')
theorem DctR.put{H:Hp}{k:List Key}{v:V}{d:PyData}{t:List (List Key×V)}{kvs:List (PyData×PyData)}(r:Rep K H v d)(h:DctR K H t kvs):DctR K H (putK t k v) (putD kvs k d):=by
 unfold putK putD;rw [valV_any];rcases h.val (k:=k) with ⟨e1,e2⟩ | ⟨v',d',e1,e2,_⟩
 . rw [e1,e2];show DctR K H (if false=true then _ else t ++ [(k,v)]) (kvs ++ [(tupD k,d)]);rw [if_neg (by decide)];exact h.snoc r
 . rw [e1,e2];show DctR K H (if true=true then _ else _) (replD k d kvs);rw [if_pos rfl];exact h.repl r
theorem DctR.length{H:Hp}:∀ {t:List (List Key×V)} {kvs:List (PyData×PyData)},DctR K H t kvs->t.length=kvs.length
 | [],kvs,h=>by
  rcases h.out with ⟨_,rfl⟩ | ⟨k',v,d,t',kvs',e,_⟩
  . rfl
  . cases e
 | p::t,kvs,h=>by
  rcases h.out with ⟨e,_⟩ | ⟨k',v',d',t',kvs',e,rfl,r',h'⟩
  . cases e
  . cases e
    rw [List.length_cons,List.length_cons,DctR.length h']
def unD:List (PyData×PyData)->List (PyData×PyData)
 | (.none, .none)::r=>r
 | r=>r
theorem unD_mk(r:List (PyData×PyData)):unD (mkD::r)=r:=rfl
theorem unD_of{H:Hp}{t:List (List Key×V)}{kvs:List (PyData×PyData)}(h:DctR K H t kvs):unD kvs=kvs:=by
 rcases h.out with ⟨_,rfl⟩ | ⟨k',v',d',t',kvs',_,rfl,_⟩ <;> rfl
theorem SlP.dct{H0 H:Hp}{v:V}{kvs:List (PyData×PyData)}(s:Same H0 H):∀ {r:Sl},SlP K H0 H v r->r.dat = .dict kvs->∃a t,v = .ref a/\Rd H a (.dT t)/\DctR K H0 t (unD kvs)
 | .val _,h,e=>by
  cases h with
  | dict h1 h2 h3=>
   cases e
   have r:DctR K H0 _ _:=⟨_,_,_,rfl,h2,h3,rfl⟩;rw [unD_of r]
   exact ⟨_,_,rfl,Rd.same s h1,r⟩
  | dictF h1 h2 h3=>cases e;rw [unD_mk];exact ⟨_,_,rfl, .inr ⟨_,s _ _ h1⟩,_,_,_,rfl,h2,h3,rfl⟩
  | _=>cases e
 | .own _,_,e=>by cases e
 | .dct _,⟨a,t,e,h2,h3⟩,e2=>by cases e2;rw [unD_of h3];exact ⟨a,t,e, .inl h2,h3⟩
variable {R:Rl} [RelOk K R]
end
end Dm
namespace Tf
open PySem PySem.Spec PyProof.Rows L2
section
variable {prog:Program} {w:World} {A:Around} {E:Value->Shared->Prop} {s:Shared} {d:Addr} {o:Obj} {es:Array DictEntry} {ep:Nat}
end
variable {X:Cx}
end Tf
namespace Tf
open PySem PySem.Spec PyProof.Rows L2
section
variable {prog:Program} {w:World} {A:Around} {E:Value->Shared->Prop} {s:Shared} {d it v:Addr} {od:Obj} {es:Array DictEntry} {i ep:Nat}
end
end Tf
namespace Tf
open PySem PySem.Spec PyProof.Rows L2
section
variable {prog:Program} {w:World} {A:Around} {E:Value->Shared->Prop} {s:Shared} {d it:Addr} {od:Obj} {es:Array DictEntry} {i ep:Nat}
end
section
variable {X:Cx}
end
end Tf
namespace Tf
open PySem PySem.Spec PyProof.Rows L2
def BM(h:Heap)(mg:Str->Option Value):Prop:=∃bm o,mg "__builtins__" = some (.ref bm)/\bm≠builtinsNs/\h.get? bm=some o/\o.cls = .type "module" /\ o.dict=some builtinsNs/\o.data = .plain
def FnAt(f:Addr)(fo:Obj):HO:= .ext fun h=>h.get? f=some fo
structure Made (H H':Hp) (f c:Addr) (oc fo:Obj):Prop where
 same:∃H1,(H1=H\/(H c=none/\H1=upd H c (.frz oc (.own 0))))/\H1 f=none/\H'=upd H1 f (FnAt f fo)
 code:H' c=some (.frz oc (.own 0))
 fn:H' f=some (FnAt f fo)
 rec_:∃vs x,oc.data = .fields vs/\vs[1]? = some x
variable {X:Cx}
end Tf
namespace Tf
open PySem PySem.Spec PyProof.Rows L2
structure LB where
 q:Str
 f:Addr
 cd:Value
 s:Shared
 H:Hp
structure LamSc (X:Cx) (sc:Scope) (cl:List (Str×Addr)) (x:Str) (ys:List Str):Prop where
 kind:sc.kind = .function
 co:sc.isCoroutine=false
 gen:sc.isGenerator=false
 par:sc.names.lookup x=some .local
 nocell:∀y ∈ sc.names,y.2 ≠ .cell
 free:∀y,sc.names.lookup y=some .free->y ∈ ys
 fr:∀y ∈ ys,sc.names.lookup y=some .free
 cells:∀y c,cl.lookup y=some c->X.env.cells.lookup y=some c
 has:∀y ∈ ys,∃c,cl.lookup y=some c
 out:∀y ∈ ys,X.env.scope.names.lookup y=some .cell
variable {X:Cx}
end Tf
namespace Tf
open PySem PySem.Spec PyProof.Rows L2
variable {X:Cx}
end Tf
namespace Dm
open PySem PySem.Spec PyProof.Rows L2 Tf
section
variable {X:Cx} {a:Expr} {ta:TE} {p1 p2 pos pos2:Pos}
end
section
variable {K:PySem.W.Frag} {R:Rl} [RelOk K R]
end
section
variable {X:Cx} {R:Rl} [RelOk X.K R] {a:Expr} {p1 p2 pos pos2:Pos} {fa:En->Option Sl}
end
end Dm
namespace Tf
open PySem PySem.Spec PyProof.Rows L2
variable {X:Cx}
end Tf
namespace Dm
open PySem PySem.Spec PyProof.Rows L2 Tf
section
variable {K:PySem.W.Frag} {R:Rl} [RelOk K R]
end
section
variable {X:Cx} {R:Rl} [RelOk X.K R]
end
end Dm
namespace Tf
open PySem PySem.Spec PyProof.Rows L2
theorem Made.up{H H':Hp}{f c:Addr}{oc fo:Obj}(M:Made H H' f c oc fo){b:Addr}{u:HO}(e:H b=some u):H' b=some u:=by
 obtain ⟨H1,h1,hn,rfl⟩:=M.same
 have e1:H1 b=some u:=by
  rcases h1 with rfl | ⟨h1n,rfl⟩
  . exact e
  . rw [upd_ne (ne_of_none e h1n)];exact e
 rw [upd_ne (ne_of_none e1 hn)];exact e1
variable {X:Cx}
end Tf
namespace Tf
open PySem PySem.Spec PyProof.Rows L2
variable {X:Cx}
end Tf
namespace Dm
open PySem PySem.Spec PyProof.Rows L2 Tf
section
variable {K:PySem.W.Frag}
variable {R:Rl} [RelOk K R]
end
section
variable {X:Cx} {R:Rl} [RelOk X.K R] {a b c e tg:Expr} {pos p apos:Pos} {fa fb fc f:En->Option Sl} {st:Stmt} {gs:En->Option Out}
end
end Dm
namespace Tf
open PySem PySem.Spec PyProof.Rows L2
section
variable {prog:Program} {w:World} {A:Around} {E:Value->Shared->Prop} {s:Shared}
end
variable {X:Cx}
end Tf
namespace Dm
open PySem PySem.Spec PyProof.Rows L2 Tf
section
variable {K:PySem.W.Frag}
end
end Dm
namespace Dm
open PySem PySem.Spec PyProof.Rows L2 Tf
section
variable {K:PySem.W.Frag}
end
section
variable {X:Cx}
end
end Dm
namespace Tf
open PySem PySem.Spec PyProof.Rows L2
theorem ints_of_vals:∀ {us:List Value} {ns:List Int},Vals (ns.map V.int) us->IntsAre us ns
 | _,[],r=>by cases r;exact .nil
 | _,n::ns,r=>by
  cases r with
  | cons r1 r2=>
   obtain ⟨t,q⟩:=(show ∃t,_=Value.int n t from r1);subst q;exact .cons n t (ints_of_vals r2)
variable {X:Cx}
end Tf
namespace Dm
open PySem PySem.Spec PyProof.Rows L2 Tf
def srt(ns:List Int):List Int:=ns.mergeSort fun a b=>decide (a<=b)
theorem srt_perm(ns:List Int):(srt ns).Perm ns:=List.mergeSort_perm _ _
theorem srt_pair(ns:List Int):(srt ns).Pairwise (· <= ·):=by
 have:=List.pairwise_mergeSort (le:=fun a b:Int=>decide (a<=b)) (fun a b c h1 h2=>by simp at *;omega) (fun a b=>by simp;omega) ns;exact this.imp fun h=>by simpa using h
theorem srt_eq{ns ns':List Int}(h:ns'.Perm ns)(p:ns'.Pairwise (· <= ·)):ns'=srt ns:=
 List.Perm.eq_of_pairwise (fun a b _ _ h1 h2=>by omega) p (srt_pair ns) (h.trans (srt_perm ns).symm)
section
variable {K:PySem.W.Frag}
theorem reps_of_ints{H:Hp}:∀ns:List Int,Reps K H (ns.map V.int) (ns.map PyData.int)
 | []=> .nil
 | n::ns=> .cons (.int n) (reps_of_ints ns)
end
end Dm
namespace Dm
open PySem PySem.Spec PyProof.Rows L2 Tf
section
variable {K:PySem.W.Frag} {R:Rl} [RelOk K R]
end
section
variable {X:Cx} {R:Rl} [RelOk X.K R] {a b e o:Expr} {f fa fb:En->Option Sl} {p pos apos cpos:Pos} {st:Stmt}
end
end Dm
namespace Tf
open PySem PySem.Spec PyProof.Rows L2
def markT(ts:List Addr):Obj:={cls:= .type "tables",data:= .fields (ts.map Value.ref).toArray}
def cutK(K:PySem.W.Frag)(ts:List Addr):PySem.W.Frag:=K.filter (fun p=>decide (p.1 ∉ ts)) ++ [(mainGlobals,markT ts)]
def tbK(names:List Str)(K:PySem.W.Frag):List (Addr×Addr):=names.filterMap (PySem.W.tabIn K)
theorem tabsOf_cut(K:PySem.W.Frag)(ts:List Addr):tabsOf (cutK K ts)=ts:=by
 have e:(cutK K ts).getLast? = some (mainGlobals,markT ts):=by unfold cutK;simp
 unfold tabsOf;rw [e];show ((ts.map Value.ref).toArray.toList.filterMap _)=ts;rw [List.toList_toArray,List.filterMap_map];exact List.filterMap_some
theorem lookup_filt{ts:List Addr}{a:Addr}(h:a ∉ ts):∀K:PySem.W.Frag,List.lookup a (K.filter fun p=>decide (p.1 ∉ ts))=List.lookup a K
 | []=>rfl
 | (b,o)::K=>by
  have ih:=lookup_filt h K;rw [List.filter_cons]
  by_cases hb:b ∈ ts
  . have ne : (a == b) = false := by
     refine Bool.eq_false_iff.mpr fun z=> ?_;have:=beq_iff_eq.mp z;exact h (this ▸ hb)
    rw [if_neg (by simp [hb]),ih,List.lookup,ne]
  . rw [if_pos (by simp [hb]),List.lookup,List.lookup]
    cases a==b
    . exact ih
    . rfl
theorem lookup_in{ts:List Addr}{a:Addr}(h:a ∈ ts):∀K:PySem.W.Frag,List.lookup a (K.filter fun p=>decide (p.1 ∉ ts))=none
 | []=>rfl
 | (b,o)::K=>by
  have ih:=lookup_in h K;rw [List.filter_cons]
  by_cases hb:b ∈ ts
  . rw [if_neg (by simp [hb]),ih]
  . rw [if_pos (by simp [hb]),List.lookup]
    have ne:(a==b)=false:=by
     refine Bool.eq_false_iff.mpr fun z=> ?_;have:=beq_iff_eq.mp z;exact hb (this ▸ h)
    rw [ne];exact ih
theorem lookup_cut{K:PySem.W.Frag}{ts:List Addr}{a:Addr}{o:Obj}(h:a ∉ ts)(e:K.lookup a=some o):(cutK K ts).lookup a=some o:=by
 unfold cutK;rw [List.lookup_append,lookup_filt h,e];rfl
theorem of_cut{K:PySem.W.Frag}{ts:List Addr}{a:Addr}{o:Obj}(hm:∃o,K.lookup mainGlobals=some o)(hn:mainGlobals ∉ ts)(e:(cutK K ts).lookup a=some o):K.lookup a=some o/\a ∉ ts:=by
 unfold cutK at e
 rw [List.lookup_append] at e
 by_cases ha:a ∈ ts
 . rw [lookup_in ha] at e
   have ne:(a==mainGlobals)=false:=by
    refine Bool.eq_false_iff.mpr fun z=> ?_;have:=beq_iff_eq.mp z;exact hn (this ▸ ha)
   simp [List.lookup,ne] at e
 . refine ⟨?_,ha⟩;rw [lookup_filt ha] at e
   by_cases hg:a=mainGlobals
   . subst hg;obtain ⟨o',ho'⟩:=hm;rw [ho'] at e
     simpa [ho'] using e
   . have ne:(a==mainGlobals)=false:=Bool.eq_false_iff.mpr fun z=>hg (beq_iff_eq.mp z)
     cases hk:K.lookup a with
     | none=>rw [hk] at e;simp [List.lookup,ne] at e
     | some o'=>rw [hk] at e;simpa using e
theorem not_tab{K:PySem.W.Frag}{h:Heap}{ts:List Addr}{a:Addr}{o:Obj}(KX:K.In h)(hT:∀p ∈ ts,h.get? p=some (PySem.W.tabObj #[]))(e:K.lookup a=some o)(hne:o≠PySem.W.tabObj #[]):a ∉ ts:=fun hm=>by
 have e1:=KX a o e;rw [hT a hm] at e1
 exact hne (Option.some.inj e1).symm
theorem Fun_cut{K:PySem.W.Frag}{h:Heap}{ts:List Addr}{x qual:Str}{st:Stmt}{f:Addr}{fd:FuncData}(KX:K.In h)(hT:∀p ∈ ts,h.get? p=some (PySem.W.tabObj #[]))(F:Fun K x qual st f fd):Fun (cutK K ts) x qual st f fd:=by
 obtain ⟨oc,od,kV,doc,pm,an,cdv,ct,osl,rfl,lk,hcd⟩:=F.ex;have l2:=lookup_cut (not_tab KX hT lk (fun z=>by cases z)) lk;refine ⟨⟨oc,od,kV,doc,pm,an,cdv,ct,osl,rfl,l2,?_⟩,?_⟩
 . unfold PySem.W.codeIn at hcd ⊢
   split at hcd
   . rename_i c
     split at hcd
     . rename_i oc' od' vs sl' hc
       have hne:(⟨oc',od', .fields vs,sl'⟩:Obj)≠PySem.W.tabObj #[]:=fun z=>by
        cases z
        simp at hcd
       rw [lookup_cut (not_tab KX hT hc hne) hc];exact hcd
     . cases hcd
   . cases hcd
 . unfold PySem.W.keepIn
   dsimp only
   rw [l2]
theorem law_callT {P : Program} {w : World} {K : PySem.W.Frag} {mg mb : Str -> Option Value} {k : Nat} {fa a : Addr} {fd : FuncData} {x : Str} {sp : Sp} {s₁ : Shared} {vs : List Value} {ns : List Int} {tb : List (Addr × Addr)}
 (KX:K.In s₁.heap) (hmain:∃o,K.lookup mainGlobals=some o) (hns:s₁.heap.Ns mainGlobals mg) (hb:s₁.heap.Ns builtinsNs mb) (hbb:∀x:Str,x ≠ "__name__" -> mb x=bootBuiltins x) (hlim:s₁.heap.NoLimit) (hg:s₁.gens = #[])
 (ha:s₁.heap.get? a=some {cls:= .type "list",data:= .seq vs.toArray}) (hi:IntsAre vs ns) (hl:ns.length<=sizeLine) (hr:Room k callerA)
 (hT:∀p ∈ tb,PySem.W.CodeHd s₁.heap p.1 p.2/\s₁.heap.get? p.2=some (PySem.W.tabObj #[])) (hbm:BM s₁.heap mg)
 (F:∀base:Heap,(cutK K (tb.map (·.2))).In base->base.Ns mainGlobals mg->(∀p ∈ tb,PySem.W.CodeHd base p.1 p.2)->BM base mg->FnOk P w (cutK K (tb.map (·.2))) mg base CX0 k fa fd [x] sp) (hbind:∀(s:Shared) (u:Value),BindsTo s fd ⟨[u],[]⟩ [(x,u)])
 (hsp:∀H:Hp,SqL (cutK K (tb.map (·.2))) H a (ns.map V.int)->sp [.ref a] H (fun v _=>v = .bl true) fun _ _ _=>False) :
 codeAny (model P w) callerA (.call (.ref fa) ⟨[.ref a],[]⟩) (fun r s'=>r = .ok (.ret (.bool true))/\OldK s₁.heap s'.heap/\s'.os=s₁.os/\AllBare s'.gens) s₁:=by
 have rv:=vals_ints hi;have lenV:=hi.length
 let ts:=tb.map (·.2)
 have hts:∀p ∈ ts,s₁.heap.get? p=some (PySem.W.tabObj #[]):=fun p hp=>by
  obtain ⟨q,hq,rfl⟩:=List.mem_map.mp hp;exact (hT q hq).2
 have nts:∀ {b:Addr} {o:Obj},s₁.heap.get? b=some o->o≠PySem.W.tabObj #[]->b ∉ ts:=fun {b o} e n hm=>by
  rw [hts b hm] at e
  exact n (Option.some.inj e).symm
 have hat:a ∉ ts:=nts ha fun z=>by cases z
 have hmt:mainGlobals ∉ ts:=by
  obtain ⟨o,es,ep,e,d,_⟩:=hns;exact nts e fun z=>by rw [z] at d;cases d
 let ao:Obj:={cls:= .type "list",data:= .seq vs.toArray}
 let H:Hp:=fun b=>if b ∈ ts then some (.tbl #[]) else if b=a/\K.lookup a=none then some (.frz ao (.lst (ns.map V.int))) else none
 have Ht:∀ {b:Addr},b ∈ ts->H b=some (.tbl #[]):=fun {b} hm=>if_pos hm
 have Hc:∀b,(b ∈ ts/\H b=some (.tbl #[]))\/(b=a/\K.lookup a=none/\H b=some (.frz ao (.lst (ns.map V.int))))\/(H b=none/\b ∉ ts/\(b=a->K.lookup a≠none)):=fun b=>by
  by_cases h1:b ∈ ts
  . exact .inl ⟨h1,Ht h1⟩
  . by_cases h2:b=a/\K.lookup a=none
    . exact .inr (.inl ⟨h2.1,h2.2,(if_neg h1).trans (if_pos h2)⟩)
    . exact .inr (.inr ⟨(if_neg h1).trans (if_neg h2),h1,fun z c=>h2 ⟨z,c⟩⟩)
 have hok:HOk P w H s₁.heap:=fun b u e=>by
  rcases Hc b with ⟨h1,h2⟩ | ⟨rfl,h1,h2⟩ | ⟨h1,_,_⟩
  . rw [h2] at e
    cases e
    exact ⟨#[],hts b h1,True.intro,fun pos v z=>by simp [codeAmong] at z⟩
  . rw [h2] at e
    cases e
    exact ⟨ha,by rw [List.length_map];exact hl,vs,_,rv,ha⟩
  . rw [h1] at e
    cases e
 have free:∀ {b:Addr} {o:Obj},s₁.heap.get? b=some o->o≠PySem.W.tabObj #[]->o≠ao->H b=none:=fun {b o} e n1 n2=>by
  rcases Hc b with ⟨h1,_⟩ | ⟨rfl,_,_⟩ | ⟨h1,_,_⟩
  . exact absurd h1 (nts e n1)
  . rw [ha] at e
    exact absurd (Option.some.inj e).symm n2
  . exact h1
 have base_of:∀ {b:Addr} {o:Obj},s₁.heap.get? b=some o->H b=none->(hidT s₁.heap H).get? b=some o:=fun e n=>hidT_get e n;have nsK:∀ {b:Addr} {m:Str->Option Value},s₁.heap.Ns b m->(hidT s₁.heap H).Ns b m:=fun {b m} ⟨o,es,ep,e,d,r⟩=>⟨o,es,ep,base_of e (free e (fun z=>by rw [z] at d;cases d) (fun z=>by rw [z] at d;cases d)),d,r⟩
 have hKb:(cutK K ts).In (hidT s₁.heap H):=fun b o e=>by
  obtain ⟨e1,e2⟩:=of_cut hmain hmt e;refine base_of (KX b o e1) ?_;rcases Hc b with ⟨h1,_⟩ | ⟨rfl,h1,_⟩ | ⟨h1,_,_⟩
  . exact absurd h1 e2
  . rw [h1] at e1;cases e1
  . exact h1
 have hM:Mod (cutK K ts) mg (hidT s₁.heap H):=⟨hKb,nsK hns,⟨mb,nsK hb,hbb⟩,let ⟨mc,h1,h2⟩:=hlim;⟨mc,nsK h1,h2⟩⟩
 have hCb:∀p ∈ tb,PySem.W.CodeHd (hidT s₁.heap H) p.1 p.2:=fun p hp=>by
  obtain ⟨o,vs',file,tf,flags,tg,inF,text,tt,e,c,r⟩:=(hT p hp).1;exact ⟨o,vs',file,tf,flags,tg,inF,text,tt,base_of e (free e (fun z=>by rw [z] at c;cases c) (fun z=>by rw [z] at c;exact absurd (Value.type.inj c) (by decide))),c,r⟩
 have hBb:BM (hidT s₁.heap H) mg:=by
  obtain ⟨b,ob,b1,b2,b3,b4,b5,b6⟩:=hbm;exact ⟨b,ob,b1,b2,base_of b3 (free b3 (fun z=>by rw [z] at b4;cases b4) (fun z=>by rw [z] at b4;exact absurd (Value.type.inj b4) (by decide))),b4,b5,b6⟩
 have e0:Env0 P w (cutK K ts) mg (hidT s₁.heap H) callerA [] s₁ H:=⟨rfl,hM,fun b o e=>of_hidT e,Nat.le_of_eq (hidT_size _ _),trivial,fun b hb=>absurd (show b ∈ ([]:List Addr) from hb) (by simp),hok, .of_eq hg,fun p hp=>by rw [tabsOf_cut] at hp;exact ⟨_,Ht hp⟩⟩
 have hS:SqL (cutK K ts) H a (ns.map V.int):=by
  cases hk:K.lookup a with
  | some o=>
   have e:=KX a o hk;rw [ha] at e
   cases e
   exact .inr ⟨_,vs.toArray,_,lookup_cut hat hk,rfl,rfl,rfl,by rw [List.size_toArray,lenV];exact hl,by simpa using rv⟩
  | none=>exact .inl (.inr ⟨ao,(if_neg hat).trans (if_pos ⟨rfl,hk⟩)⟩)
 refine codeAny_mono ((F _ hKb (nsK hns) hCb hBb).run callerA [] s₁ H ⟨[.ref a],[]⟩ [.ref a] [.ref a] _ _ hr e0 (hbind s₁ (.ref a)) (.cons rfl .nil) (hsp H hS)) fun r s' h=> ?_
 cases r with
 | error e=>exact False.elim h
 | ok fl=>
  cases fl with
  | next=>exact False.elim h
  | brk=>exact False.elim h
  | cont=>exact False.elim h
  | ret u=>
   obtain ⟨v,H',os,bare,un,hok',r',q⟩:=h;have q':v = .bl true:=q;subst q';obtain rfl:u=Value.bool true:=r'
   have grown:∀ {b:Addr},b ∈ ts->∃qs,s'.heap.get? b=some (PySem.W.tabObj qs):=fun {b} hm=>by
    obtain ⟨more,e⟩:=un.tbls b _ (Ht hm);obtain ⟨qs,e1,_⟩:=hok' b _ e;exact ⟨qs,e1⟩
   have keep:∀ {b:Addr} {o:Obj},b ∉ ts->s₁.heap.get? b=some o->s'.heap.get? b=some o:=fun {b o} hb' e=>by
    rcases Hc b with ⟨h1,_⟩ | ⟨rfl,_,h2⟩ | ⟨h1,_,_⟩
    . exact absurd h1 hb'
    . have z2:=un.frzs _ _ _ h2;obtain ⟨e2,_⟩:=hok' _ _ z2;rw [ha] at e
      cases e
      exact e2
    . exact un.keep b o e h1 (by intro z;exact absurd (show b ∈ ([]:List Addr) from z) (by simp)) (by simp)
   refine ⟨rfl,⟨fun b o e=> ?_,fun b o e=> ?_⟩,os,bare⟩
   . by_cases hm:b ∈ ts
     . obtain ⟨q,hq,rfl⟩:=List.mem_map.mp hm;obtain ⟨qs,e1⟩:=grown hm;rw [hts _ hm] at e
       cases e
       exact .inr (.inl ⟨((hT q hq).1.tab (hT q hq).2).isCodeTable,rfl, #[],qs,rfl,by rw [Array.empty_append];exact e1⟩)
     . exact .inl (keep hm e)
   . by_cases hm:b ∈ ts
     . obtain ⟨qs,e1⟩:=grown hm;exact ⟨_,e1⟩
     . exact ⟨o,keep hm e⟩
theorem main_of{K:PySem.W.Frag}{x:Str}{v:Option Value}(h:PySem.W.nsIn K mainGlobals x=some v):∃o,K.lookup mainGlobals=some o:=by
 unfold PySem.W.nsIn at h
 cases e:K.lookup mainGlobals with
 | none=>rw [e] at h;simp at h
 | some o=>exact ⟨o,rfl⟩
end Tf
namespace Dm
open PySem PySem.Spec PyProof.Rows L2 Tf
section
variable {K:PySem.W.Frag} {P:Program} {w:World} {mg:Str->Option Value} {base:Heap}
end
end Dm
namespace Tf
open PySem PySem.Spec PyProof.Rows L2
variable {X:Cx}
theorem call_minL(hc:X.calm=true):CallR X (.builtin "min") (fun xs H Q=>∃a ns,xs = [V.ref a]/\SqL X.K H a (ns.map V.int)/\ns ≠ []/\∀M,M ∈ ns->(∀b ∈ ns,M<=b)->Q (.int M) H):=by
 intro pins s σ H xs us Q I r h;obtain ⟨a,ns,rfl,hq,hne,q⟩:=h;obtain ⟨u,rfl,ru⟩:=vals1 r
 cases ru
 obtain ⟨its,rv,p1,hz⟩:=I.list hq;have hi:=ints_of_vals rv;have hl:=p1.isList;obtain ⟨xs,e⟩:=hi.allInts.items
 have hns:ns=xs.toList.map (·.1):=by
  rw [<-hi.numsOf, <-nums_intItems, <-e]
 have hsz:0<xs.size:=by
  have h3:=List.length_pos_iff.mpr hne;rw [hns,List.length_map,Array.length_toList] at h3
  exact h3
 rw [e] at hl
 refine min_intList (I.ok.hd hc) hl hsz fun v h' tk hv hk=> ?_;obtain ⟨t,rfl⟩:=intItems_at hv;obtain ⟨h1,h2⟩:=argBest_lt (numAt xs) (xs.size - 1);refine ⟨.int _,H,I.kept hk,⟨t,rfl⟩,q _ ?_ fun b hb=> ?_⟩
 . rw [hns,numAt_eq];exact getD_mem (by rw [List.length_map,Array.length_toList];omega)
 . rw [hns] at hb
   obtain ⟨j,hj,rfl⟩:=mem_getD hb;rw [List.length_map,Array.length_toList] at hj
   rw [<-numAt_eq];exact h2 j (by omega)
end Tf
namespace Dm
open PySem PySem.Spec PyProof.Rows L2 Tf
def dMinL:List Sl->Option Sl
 | [s]=>match s.dat with
  | .list ds=>(intsOf ds).bind fun ns=>ns.min?.map fun m=> .val (.int m)
  | _=>none
 | _=>none
section
variable {K:PySem.W.Frag}
theorem cd_minL:CallD K (fun xs H Q=>∃a ns,xs = [V.ref a]/\SqL K H a (ns.map V.int)/\ns ≠ []/\∀M,M ∈ ns->(∀b ∈ ns,M<=b)->Q (.int M) H) dMinL:=fun H0 H vs ss z s p hz Q q=>by
 unfold dMinL at hz
 split at hz
 . obtain ⟨v,rfl,pa⟩:=paired1 p
   split at hz
   . rename_i ds hd;obtain ⟨ns,hn,hz⟩:=Option.bind_eq_some_iff.mp hz;obtain ⟨m,hm,rfl⟩:=Option.map_eq_some_iff.mp hz;obtain ⟨a,vs,rfl,h1,h2⟩:=pa.lst s hd;rw [intsOf_eq hn] at h2
     cases reps_ints h2
     refine ⟨a,ns,rfl,h1,fun c=>by subst c;simp at hm,fun M hM hb=> ?_⟩;have:ns.min? = some M:=List.min?_eq_some_iff.mpr ⟨hM,hb⟩;rw [hm] at this
     cases this
     exact q _ _ _ (Ext.refl s) (.int _)
   . cases hz
 . cases hz
end
end Dm
namespace Tf
open PySem PySem.Spec PyProof.Rows L2
variable {X:Cx}
theorem call_maxLi(hc:X.calm=true):CallR X (.builtin "max") (fun xs H Q=>∃a ns,xs = [V.ref a]/\SqL X.K H a (ns.map V.int)/\ns ≠ []/\∀M,M ∈ ns->(∀b ∈ ns,b<=M)->Q (.int M) H):=by
 intro pins s σ H xs us Q I r h;obtain ⟨a,ns,rfl,hq,hne,q⟩:=h;obtain ⟨u,rfl,ru⟩:=vals1 r
 cases ru
 obtain ⟨its,rv,p1,hz⟩:=I.list hq;have hi:=ints_of_vals rv;have hl:=p1.isList;obtain ⟨xs,e⟩:=hi.allInts.items
 have hns:ns=xs.toList.map (·.1):=by
  rw [<-hi.numsOf, <-nums_intItems, <-e]
 have hsz:0<xs.size:=by
  have h3:=List.length_pos_iff.mpr hne;rw [hns,List.length_map,Array.length_toList] at h3
  exact h3
 rw [e] at hl
 refine max_intList (I.ok.hd hc) hl hsz fun v h' tk hv hk=> ?_;obtain ⟨t,rfl⟩:=intItems_at hv;obtain ⟨h1,h2⟩:=argBest_gt (numAt xs) (xs.size - 1);refine ⟨.int _,H,I.kept hk,⟨t,rfl⟩,q _ ?_ fun b hb=> ?_⟩
 . rw [hns,numAt_eq];exact getD_mem (by rw [List.length_map,Array.length_toList];omega)
 . rw [hns] at hb
   obtain ⟨j,hj,rfl⟩:=mem_getD hb;rw [List.length_map,Array.length_toList] at hj
   rw [<-numAt_eq];exact h2 j (by omega)
end Tf
namespace Dm
open PySem PySem.Spec PyProof.Rows L2 Tf
def dMaxLi:List Sl->Option Sl
 | [s]=>match s.dat with
  | .list ds=>(intsOf ds).bind fun ns=>ns.max?.map fun m=> .val (.int m)
  | _=>none
 | _=>none
section
variable {K:PySem.W.Frag}
theorem cd_maxLi:CallD K (fun xs H Q=>∃a ns,xs = [V.ref a]/\SqL K H a (ns.map V.int)/\ns ≠ []/\∀M,M ∈ ns->(∀b ∈ ns,b<=M)->Q (.int M) H) dMaxLi:=fun H0 H vs ss z s p hz Q q=>by
 unfold dMaxLi at hz
 split at hz
 . obtain ⟨v,rfl,pa⟩:=paired1 p
   split at hz
   . rename_i ds hd;obtain ⟨ns,hn,hz⟩:=Option.bind_eq_some_iff.mp hz;obtain ⟨m,hm,rfl⟩:=Option.map_eq_some_iff.mp hz;obtain ⟨a,vs,rfl,h1,h2⟩:=pa.lst s hd;rw [intsOf_eq hn] at h2
     cases reps_ints h2
     refine ⟨a,ns,rfl,h1,fun c=>by subst c;simp at hm,fun M hM hb=> ?_⟩;have:ns.max? = some M:=List.max?_eq_some_iff.mpr ⟨hM,hb⟩;rw [hm] at this
     cases this
     exact q _ _ _ (Ext.refl s) (.int _)
   . cases hz
 . cases hz
end
end Dm
namespace Tf
open PySem PySem.Spec PyProof.Rows L2
section
variable {K:PySem.W.Frag} {prog:Program} {w:World} {A:Around} {E:Value->Shared->Prop} {s:Shared} {x D:Addr}
structure XCls (K:PySem.W.Frag) (D:Addr):Prop where
 ga:PySem.W.findIn K (.ref D) "__getattribute__" = some (some (.builtin "BaseException.__getattribute__"))
 gg:PySem.W.findIn K (.ref D) "__getattr__" = some none
 cl:PySem.W.findIn K (.ref D) "__class__" = some (some (.builtin "object.__class__"))
 gt:PySem.W.specialIn K (.builtin "object.__class__") "__get__" = some (some (.builtin "getset_descriptor.__get__"))
 tk:PySem.W.takesIn K (.builtin "object.__class__")=some true
 mo:PySem.W.mroIn K D (.type "object")=some true
 mb:PySem.W.mroIn K D (.type "BaseException")=some true
 ci:(PySem.W.clsIn K D).isSome=true
def AtC(h:Heap)(x D:Addr):Prop:=∃ox,h.get? x=some ox/\ox.cls = .ref D
theorem AtC.type{M:Model}{h:Heap}(I:AtC h x D):PySem.W.Looks M h (typeOf (.ref x)) (.ref D):=by
 obtain ⟨ox,h1,h2⟩:=I;exact h2 ▸ (PySem.W.Looks.ld h1).andThen .now
theorem XCls.find(c:XCls K D){M:Model}{h:Heap}(X:K.In h):PySem.W.Looks M h (Builtin.ObjectAttr.find (.ref x) (.ref D) "__class__") (.bind (.builtin "getset_descriptor.__get__") (.builtin "object.__class__")):=by
 have L1:=PySem.W.looks_findIn (M:=M) X c.cl;have L2:=PySem.W.looks_specialIn (M:=M) X c.gt;have L3:=PySem.W.looks_takesIn (M:=M) X c.tk;have L4:PySem.W.Looks M h (Builtin.ObjectAttr.getOf (some (Value.builtin "object.__class__"))) (some (Value.builtin "getset_descriptor.__get__")):=L2;exact L1.andThen (L4.andThen ((show PySem.W.Looks M h (Builtin.ObjectAttr.dataDescriptor? (some (Value.builtin "object.__class__")) (some (Value.builtin "getset_descriptor.__get__"))) (some (Value.builtin "getset_descriptor.__get__",Value.builtin "object.__class__")) from L3.andThen .now).andThen (PySem.W.Looks.tag .now)))
theorem xget (c : XCls K D) {R : Result -> Shared -> Prop} {tp : Value} (X : K.In s.heap) (I : AtC s.heap x D)
 (h:R (.ok (.ret (.ref D))) s):codeAny (model prog w) A (.call (.builtin "getset_descriptor.__get__") ⟨[.builtin "object.__class__", .ref x,tp],[]⟩) R s:=by
 obtain ⟨hh,g,dr,t,os⟩:=s;have L0:=I.type (M:=model prog w);have L1:=PySem.W.looks_mroIn (M:=model prog w) X c.mo
 open PySem.W in
 refine codeAny_call_builtin KF.slot_gs.plain KF.entry_gs (KF.slot_gs.check _ _ _ _ _ _ _ _ KF.type_class (KF.args_gs _ _ _) ?_);unfold Builtin.«getset_descriptor.__get__» Builtin.Getset_descriptor.descrGet
 open PySem.W in rw [dga_obj]
 refine wpAny_bind (wpAny_pure ?_);unfold Builtin.Getset_descriptor.descrGetter Builtin.Getset_descriptor.descrCheckInstance Builtin.Getset_descriptor.descrNameAndClass isInstance
 open PySem.W in simp only [KF.owner_class]
 repeat lk
 open PySem.W in
 refine ⟨Code.quiet_builtin _ (by decide +kernel),codeAny_builtin KF.entry_class ?_⟩;unfold Builtin.«object.__class__» shownTypeOf
 repeat lk
 exact h
theorem xent (c : XCls K D) {tk : Tok} {Q : Fin -> Shared -> Prop} (X : K.In s.heap) (I : AtC s.heap x D) (hq : Q (.done (.ret (.ref D))) s) :
 wpAny (model prog w) A (Builtin.«object.__getattribute__» ⟨[.ref x, .str "__class__" tk], []⟩) Q E s := by
 obtain ⟨hh,gg,d,t,os⟩:=s;have L0:=I.type (M:=model prog w);have L1:=c.find (x:=x) (M:=model prog w) X;refine wpAny_bind (wpAny_pure (wpAny_bind (wpAny_pure (wpAny_bind (L0.at (wpAny_bind (L1.at ?_)))))));show wpAny _ _ (Builtin.ObjectAttr.bindTo _ _ _ _) _ _ _;unfold Builtin.ObjectAttr.bindTo;refine wpAny_bind (wpAny_holding (wpAny_call (xget c X I ?_)));exact wpAny_pure hq
theorem xchk (c : XCls K D) {tk : Tok} {M : Model} {Q : Unit -> Shared -> Prop} (X : K.In s.heap) (I : AtC s.heap x D) (hq : Q () s) :
 wpAny M A (checkBuiltinCall "BaseException.__getattribute__" ⟨[.ref x, .str "__class__" tk],[]⟩) Q E s:=by
 obtain ⟨hh,gg,d,t,os⟩:=s;have hk:builtinKind "BaseException.__getattribute__" = some .slot:=by decide +kernel
 have hsplit:splitId "BaseException.__getattribute__" = some ("BaseException","__getattribute__"):=by decide +kernel
 have ha:=F.args_bexc_ga (.ref x) (.str "__class__" tk);have L0:=I.type (M:=M);have L1:=PySem.W.looks_mroIn (M:=M) X c.mb;simp only [checkBuiltinCall,hk,hsplit];refine wpAny_bind ?_
 . unfold isInstance;refine wpAny_bind (L0.at (L1.at ?_))
   repeat (any_goals (first | assumption | wp_step))
theorem xby (c : XCls K D) {tk : Tok} {Q : Value -> Shared -> Prop} (X : K.In s.heap) (I : AtC s.heap x D) (hq : Q (.ref D) s) :
 wpAny (model prog w) A (getAttrBy (.ref x) (.str "__class__" tk) false) Q E s:=by
 obtain ⟨hh,gg,d,t,os⟩:=s;have L0:=I.type (M:=model prog w);have L1:=PySem.W.looks_findIn (M:=model prog w) X c.ga;have L2:=PySem.W.looks_findIn (M:=model prog w) X c.gg;have f3:=F.excAttr_ValueError.ga.bind (.ref x);have hx2:(Value.builtin "BaseException.__getattribute__" ==Value.builtin "object.__getattribute__")=false:=by decide +kernel
 unfold getAttrBy;refine wpAny_holding (wpAny_bind (L0.at (wpAny_bind (L1.at ?_))));show wpAny _ _ (if (onTheHeap (Value.ref D) && Value.builtin "BaseException.__getattribute__" ==Value.builtin "object.__getattribute__")=true then _ else _) _ _ _;rw [if_neg (by rw [hx2,Bool.and_false];decide)];unfold getAttrByItsOwn hookBefore;have hx0:(false && onTheHeap (Value.builtin "BaseException.__getattribute__"))=false:=rfl;refine wpAny_bind (L2.at (wpAny_bind (wpAny_attempt (wpAny_holding ?_))));unfold callGetattribute boundAndCalled;rw [if_neg (by decide)];refine wpAny_bind (wpAny_of_eq f3 (wpAny_call ?_));refine codeAny_call_builtin F.excAttr_ValueError.ga.plain F.entry_bexc_ga (xchk c X I (xent c X I ?_))
 repeat (any_goals (first | assumption | wp_step))
theorem xattr (c : XCls K D) {Q : Option Value -> Shared -> Prop} (X : K.In s.heap) (I : AtC s.heap x D) (hq : Q (some (.ref D)) { s with toks := s.toks + 1 }) :
 wpAny (model prog w) A (getAttr? (.ref x) "__class__") Q E s:=by
 obtain ⟨hh,gg,d,t,os⟩:=s;unfold getAttr? getAttrBy?;refine wpAny_bind (wpAny_mkText (wpAny_bind (wpAny_attempt (xby (s:=⟨hh,gg,d,t+1,os⟩) c X I ?_))));exact wpAny_pure hq
theorem kitx_exc(c:XCls K D):PySem.W.KitX K (.ref x) (.ref D) (fun h=>AtC h x D) where
 ty:=fun _ _ _ I=>I.type
 it:=fun _ _ X _=>by
  obtain ⟨cdD,hcD⟩:=Option.isSome_iff_exists.mp c.ci;unfold PySem.W.clsIn at hcD
  split at hcD
  . rename_i c' d' cd' sl' ho;intro A' Q' E' s' k q;unfold isType loadHead;exact wpAny_bind (wpAny_loadPart (k _ _ (X _ _ ho)) (wpAny_pure q))
  . cases hcD
 ne:=fun h tp dd its n sl X htp=>by
  obtain ⟨cdD,hcD⟩:=Option.isSome_iff_exists.mp c.ci;refine Bool.eq_false_iff.mpr fun q=> ?_;have e:D=tp:=Value.ref.inj (beq_iff_eq.mp q);subst e;unfold PySem.W.clsIn at hcD
  split at hcD
  . rename_i c' d' cd' sl' ho;have z:=(X _ _ ho).symm.trans htp
    cases z
  . cases hcD
 ca:=fun X I k=>xattr c X I k
end
end Tf
namespace Tf
open PySem PySem.Spec PyProof.Rows L2
theorem obj_ex{P:Program}{w:World}{H:Hp}{h:Heap}{a:Addr}{o:HO}(x:ObjOk P w H h a o):∃u,h.get? a=some u:=by
 cases o with
 | lst xs=>obtain ⟨_,_,_,_,e⟩:=x;exact ⟨_,e⟩
 | tup xs=>obtain ⟨_,_,_,_,e,_⟩:=x;exact ⟨_,e⟩
 | dK kvs=>obtain ⟨_,_,_,_,o,_,_,e,_⟩:=x;exact ⟨_,e⟩
 | dT kvs=>obtain ⟨_,_,_,_,o,_,_,e,_⟩:=x;exact ⟨_,e⟩
 | set S n=>obtain ⟨o,_,_,_,e,_⟩:=x;exact ⟨_,e⟩
 | ins C dx fs=>obtain ⟨_,_,_,e,_⟩:=x;exact ⟨_,e⟩
 | own y=>exact x
 | xd fs=>obtain ⟨_,⟨_,_,_,e,_⟩,_⟩:=x;exact ⟨_,e⟩
 | rng lo hi=>obtain ⟨_,_,_,e⟩:=x;exact ⟨_,e⟩
 | frz ob u=>obtain ⟨e,_⟩:=x;exact ⟨_,e⟩
 | tbl ps=>obtain ⟨_,e,_⟩:=x;exact ⟨_,e⟩
 | met f y=>exact ⟨_,(show h.get? a=some _ from x)⟩
 | ext φ=>obtain ⟨_,e,_⟩:=x;exact e
def IsX(a C:Addr)(h:Heap):Prop:=∃o vs,h.get? a=some o/\o.cls = .ref C/\o.data = .fields vs
def xO(a C:Addr):HO:= .ext (IsX a C)
theorem xO_ok{P:Program}{w:World}{H:Hp}{h:Heap}{a C:Addr}(x:IsX a C h):ObjOk P w H h a (xO a C) :=
 ⟨x,let ⟨o,_,e,_⟩:=x;⟨o,e⟩,fun _ _ ⟨o,vs,e,r⟩ k=>⟨o,vs,k o e,r⟩⟩
def CXe(P:Program)(w:World)(C:Addr):CXT:=fun outer H s E e s'=>∃(a:Addr) (a0:Value) (B:Heap) (H':Hp),
 e = .ref a/\s'.os=s.os/\AllBare s'.gens/\Un (frs outer) [] H H' s.heap s'.heap/\HOk P w H' s'.heap/\s.heap.get? a=none/\H' a=none /\
 Heap.FlyingW B outer a (.ref C) a0 s'.heap /\
 (∀b o,s.heap.get? b=some o->b ∉ frs outer->∀o',s'.heap.get? b=some o'->B.get? b=some o') /\
 (∀b u,H' b=some u->∀o',s'.heap.get? b=some o'->B.get? b=some o')/\E e none H'
theorem frs_mem{l:List Env}{env:Env}{a:Addr}(hm:env ∈ l)(hf:env.frame=some a):a ∈ frs l:=List.mem_filterMap.mpr ⟨env,hm,hf⟩
section
variable {P:Program} {w:World} {K:PySem.W.Frag} {mg:Str->Option Value} {base:Heap} {N:List Str} {qual:Str} {scope:Scope} {f C:Addr} {cd:Value} {A:Around} {outer:List Env} {s s2:Shared} {H0 H:Hp} {E:XK} {pins:List (Addr×Obj)} {σ:L2.St}
theorem xe_leave {h' : Heap} {e : Addr} {args : List Value} (I : Inv (cxOf (CXe P w C) P w K mg base N qual scope f cd A outer s H0 E) pins σ H s2) (hm : Heap.MadeExcOf s2.heap h' e (.ref C) args) (hE : E (.ref e) none H) :
 (cxOf (CXe P w C) P w K mg base N qual scope f cd A outer s H0 E).xe (.ref e) {s2 with heap:=h' }:=by
 obtain ⟨t,he,htn,ht⟩:=hm.there
 let env:=envOfC qual scope s.heap.objs.size f cd
 let as:List Addr:=e::frs (env::outer)
 let B:=PySem.W.hideAll h' as
 have Ibase:Un (frs outer) [] H0 H s.heap s2.heap:=I.base;have hfr:(A.deeper env).frames=some (env::outer):=I.ok.frames;have hst:s2.heap.FunFrames base (env::outer):=I.stack;have hst':h'.FunFrames base (env::outer):=hst.of_keeps fun b o ho _=>⟨o,hm.keeps b o ho,rfl⟩;have hl:h'.FunFrames B (env::outer):=PySem.W.funFrames_hide hst' fun env' he' a ha=>List.mem_cons_of_mem _ (frs_mem he' ha);have hkb:B.StaysIn h':=fun b o q=>PySem.W.of_hideAll as q;have hen:B.get? e=none:=PySem.W.hideAll_none as (by simp [as]);have frx:∀b ∈ frs (env::outer),∃o,h'.get? b=some o/\∀vs,o.data ≠ .fields vs:=fun b hb=>(hst'.mem hb).2;have ene:∀b o,s2.heap.get? b=some o->b≠e:=fun b o q z=>by rw [z,hm.new] at q;cases q
 have frf:∀b ∈ frs (env::outer),H b=none:=fun b hb=>I.stkFree b hb;have old:∀b o,s.heap.get? b=some o->b≠s.heap.objs.size:=fun b o q=>Nat.ne_of_lt (Heap.lt_size q)
 have memL:∀b,b ∈ frs (env::outer)->b=s.heap.objs.size\/b ∈ frs outer:=fun b hb=>by
  have hb:b ∈ List.filterMap (·.frame) (env::outer):=hb;rw [List.filterMap_cons] at hb
  exact List.mem_cons.mp hb
 refine wpAny_leaving_firstW (base:=B) (outer:=outer) (L:=s.heap.objs.size) (a0:= .ref t) hfr hl rfl he hkb hen rfl rfl rfl fun h'' hL=> ?_;obtain ⟨l1,l2,l3,l4⟩:=hL
 have inB:∀b o,s2.heap.get? b=some o->b ∉ frs (env::outer)->B.get? b=some o:=fun b o q n=>
  PySem.W.hideAll_get as (hm.keeps b o q) fun hb=>by
   rcases List.mem_cons.mp hb with z | z
   . exact ene b o q z
   . exact n z
 have nfr:∀b o,s.heap.get? b=some o->b ∉ frs outer->b ∉ frs (env::outer):=fun b o q n hb=>(memL b hb).elim (old b o q) n
 have slotK:∀b o,b ∈ frs (env::outer)->s2.heap.get? b=some o->∃sl,h''.get? b=some {o with slots:=sl}:=fun b o hb q=>by
  obtain ⟨o1,e1,d1⟩:=frx b hb;rw [hm.keeps b o q] at e1
  cases e1
  exact l4 b o (hm.keeps b o q) d1
 have trB:∀b u,H b=some u->∀o',h''.get? b=some o'->B.get? b=some o':=fun b u q o' e'=>by
  obtain ⟨o,ho⟩:=obj_ex (I.hok b u q);have hb:B.get? b=some o:=inB b o ho fun z=>by rw [frf b z] at q;cases q
  rw [l1 b o hb] at e'
  cases e'
  exact hb
 refine ⟨e, .ref t,B,H,rfl,I.os,I.bare,⟨fun b o q n hb _=> ?_,fun b o q n hb _=> ?_,fun b o q n hx=>Ibase.free b o q n hx,fun b o q _=> ?_,Ibase.tups,Ibase.frzs,Ibase.tbls⟩,fun b u q=> ?_,?_,?_,⟨l1,hen,?_,l3⟩,fun b o q n o' e' => ?_,trB,hE⟩
 . exact l1 b o (inB b o (Ibase.keep b o q n hb (by simp)) (nfr b o q hb))
 . obtain ⟨sl,e1⟩:=Ibase.slot b o q n hb (by simp);obtain ⟨sl',e2⟩:=slotK b _ (by show b ∈ List.filterMap (·.frame) (env::outer);rw [List.filterMap_cons];exact List.mem_cons_of_mem _ hb) e1;exact ⟨sl',e2⟩
 . obtain ⟨o',e1⟩:=Ibase.there b o q (by simp)
   by_cases hb:b ∈ frs (env::outer)
   . obtain ⟨sl,e2⟩:=slotK b o' hb e1;exact ⟨_,e2⟩
   . exact ⟨o',l1 b o' (inB b o' e1 hb)⟩
 . refine (I.hok b u q).stay (fun c v hc qc=> ?_) (fun _ z=>z) (fun _ _ z=>z);refine l1 c v (inB c v qc fun z=> ?_);rcases hc with rfl | hc
   . rw [frf c z] at q;cases q
   . rw [frf c z] at hc;cases hc
 . cases q:s.heap.get? e with
   | none=>rfl
   | some o=>
    obtain ⟨o',e1⟩:=Ibase.there e o q (by simp);rw [hm.new] at e1
    cases e1
 . cases q:H e with
   | none=>rfl
   | some u=>
    obtain ⟨o,ho⟩:=obj_ex (I.hok e u q);rw [hm.new] at ho
    cases ho
 . obtain ⟨_,_,r⟩:=l2;exact r
 . obtain ⟨o1,e1⟩:=Ibase.there b o q (by simp);have hb:=inB b o1 e1 (nfr b o q n);rw [l1 b o1 hb] at e'
   cases e'
   exact hb
end
section
variable {X:Cx} {pins:List (Addr×Obj)} {σ:L2.St} {H:Hp} {s s':Shared} {C D:Addr} {E:XK} {e:Value} {cx n:Str} {jn:Nat} {np hpos:Pos} {b0:Stmt} {suite:List Stmt} {Q:Flow->Shared->Prop} {E':Value->Shared->Prop}
theorem x_caught (I : Inv X pins σ H s) (hX : X.stack = X.env :: X.outer /\ X.env.frame = some X.env.locals) (hx : CXe X.prog X.w C X.stack H s E e s') (hg : Gl X cx) (hm : X.mg cx = some (.ref D)) (hc : PySem.W.exmOne X.K (.ref C) (.ref D) = some true)
 (hN:X.N.Nodup) (hi:X.N[jn]? = some n) (hl:X.env.scope.names.lookup n=some .local)
 (k:∀(a:Addr) (H':Hp) (E'':Value->Shared->Prop) (s4:Shared),E (.ref a) none H'->H' a=none->Inv X pins (σ.set jn (some (.ref a))) (upd H' a (xO a C)) s4 ->
  wpAny (model X.prog X.w) (X.A.mark (some (.ref a))) (execs (b0::suite) X.env) (fun f s5=>wpAny (model X.prog X.w) X.A (do bindName X.env n .none;unbindBehindTheSuite X.env n hpos) (fun _ s6=>Q f s6) E' s5) E'' s4)
 (hd:(cx==("__debug__" : Str))=false:=by decide) :
 wpAny (model X.prog X.w) X.A (noteFrame e X.env) (fun _ s₂=>wpAny (model X.prog X.w) X.A (setFlight e none) (fun _ s₃=>wpAny (model X.prog X.w) X.A (handleBy e X.env [.ExceptHandler (some (.Name cx np)) (some n) (b0::suite) hpos]) Q E' s₃) E' s₂) E' s':=by
 obtain ⟨a,a0,B,H',rfl,os,bare,un,hok,hna,hHa,hfl,hold,htr,hE⟩:=hx;obtain ⟨h1,g1,d1,t1,o1⟩:=s';obtain rfl:o1=s.os:=os
 dsimp only at bare un hok hfl hold htr
 have hfr:X.A.frames=some (X.env::X.outer):=by rw [<-hX.1];exact I.ok.frames
 have hfl':Heap.FlyingW B (X.env::X.outer) a (.ref C) a0 h1:=by rw [<-hX.1];exact hfl
 have frx:∀b o,b ∈ frs X.stack->h1.get? b=some o->∀vs,o.data ≠ .fields vs:=fun b o hb q=>by
  obtain ⟨_,o',e',d'⟩:=hfl.2.2.1.mem hb;rw [q] at e'
  cases e'
  exact d'
 have bas:∀ {h:Heap},B.StaysIn h->∀b o,X.base.get? b=some o->h.get? b=some o:=fun {h} hB b o q=>by
  have nf:b ∉ frs X.stack:=fun hb=>by
   have:=(I.stack.mem hb).1;rw [q] at this
   cases this
  exact hB b o (hold b o (I.bk b o q) nf o (un.keep b o (I.bk b o q) (I.bs b o q).2 nf (by simp)))
 refine wpAny_looks_onW hfr hX.2 hfl' fun h4 hh4 sm4=> ?_;refine wpAny_landsW hh4 fun h5 hf5 sm5=> ?_;refine wpAny_handleBy_cons (codeAny_handlers_test ?_) (by intro q;cases q);have kb5:=bas hf5.1;refine Calls.Name_function_global I.ok.kind hg (Calls.loadGlobal_global (by rw [I.ok.glob];exact I.mod.glob.keeps kb5) hm ?_) hd;have K5:X.K.In h5:=I.mod.kin.keeps kb5
 have LT:PySem.W.Looks (model X.prog X.w) h5 (typeOf (.ref a)) (.ref C):=by
  obtain ⟨ob,e1,e2⟩:=hf5.there;exact AtC.type ⟨ob,e1,e2⟩
 refine PySem.W.exm_one K5 LT hc _ _ _ _ (fun _ _ q=>q) ?_;refine codeAny_handlers_suite_as ?_;refine lands_againW hf5 fun h6 hf6 sm6=> ?_;have sm:=(sm4.trans sm5).trans sm6;have slotK:∀b o,b ∈ frs X.stack->h1.get? b=some o->∃sl,h6.get? b=some {o with slots:=sl}:=fun b o hb q=>sm b o q (frx b o hb q);have ane:∀b o,s.heap.get? b=some o->b≠a:=fun b o q z=>by rw [z,hna] at q;cases q
 have tne:∀b u,H' b=some u->b≠a:=fun b u q z=>by rw [z,hHa] at q;cases q
 have un6:Un (frs X.stack) [] H (upd H' a (xO a C)) s.heap h6:=by
  refine ⟨fun b o q nn hb _=> ?_,fun b o q nn hb _=> ?_,fun b o q nn hx=> ?_,fun b o q _=> ?_,fun b xs q=> ?_,fun b o u q=> ?_,fun b ps q=> ?_⟩
  . exact hf6.1 b o (hold b o q hb o (un.keep b o q nn hb (by simp)))
  . obtain ⟨sl,e1⟩:=un.slot b o q nn hb (by simp);obtain ⟨sl',e2⟩:=slotK b _ hb e1;exact ⟨sl',e2⟩
  . rw [upd_ne (ane b o q)];exact un.free b o q nn hx
  . obtain ⟨o',e1⟩:=un.there b o q (by simp)
    by_cases hb:b ∈ frs X.stack
    . obtain ⟨sl,e2⟩:=slotK b o' hb e1;exact ⟨_,e2⟩
    . exact ⟨o',hf6.1 b o' (hold b o q hb o' e1)⟩
  . have z:=un.tups b xs q;rw [upd_ne (tne b _ z)];exact z
  . have z:=un.frzs b o u q;rw [upd_ne (tne b _ z)];exact z
  . obtain ⟨m,z⟩:=un.tbls b ps q;refine ⟨m,?_⟩;rw [upd_ne (tne b _ z)];exact z
 have hok6:HOk X.prog X.w (upd H' a (xO a C)) h6:=fun b u q=>by
  by_cases hb:b=a
  . subst hb;rw [upd_same] at q
    cases q
    obtain ⟨oe,vs,e1,e2,e3,_⟩:=hf6.first;exact xO_ok ⟨oe,vs,e1,e2,e3⟩
  . rw [upd_ne hb] at q
    refine (hok b u q).stay (fun c v hc' qc=> ?_) (fun c z=> ?_) (fun c xs z=> ?_) fun c o xs z=> ?_
    . rcases hc' with rfl | hc'
      . exact hf6.1 _ _ (htr _ _ q _ qc)
      . exact hf6.1 _ _ (htr _ _ hc' _ qc)
    . rw [upd_ne (tne c _ z)];exact z
    . rw [upd_ne (tne c _ z)];exact z
    . rw [upd_ne (tne c _ z)];exact z
 have I6:Inv X pins σ (upd H' a (xO a C)) {s with heap:=h6,gens:=g1,drawn:=d1,toks:=t1}:=I.call (ch:= []) un6 hok6 bare (fun b z=>absurd z (by simp));refine store_ok I6 hN hi (.inl hl) (show RelV (.ref a) (.ref a) from rfl) (fun s4 I4=> ?_) (.inr hl);exact k a H' _ s4 hE hHa I4
end
end Tf
namespace Tf
open PySem PySem.Spec PyProof.Rows L2
def Fl(B:Heap)(l:List Env)(e:Addr)(cls:Value)(h:Heap):Prop:=B.StaysIn h/\B.get? e=none/\h.FunFrames B l/\∃a0 fl,h.TracedAtW B e cls a0 fl
section
variable {M:Model} {A:Around} {E:Value->Shared->Prop} {s:Shared} {B:Heap} {env env':Env} {outer l:List Env} {L e:Addr} {cls:Value} {Q:Unit->Shared->Prop}
theorem note_congr{v:Value}(h:env'.frame=env.frame):noteFrame v env'=noteFrame v env:=by unfold noteFrame PySem.frameOf;rw [h]
theorem fl_note (hfr : A.frames = some (env :: outer)) (hf : env.frame = some L) (hf' : env'.frame = env.frame) (f : Fl B (env :: outer) e cls s.heap)
 (h:∀h',Fl B (env::outer) e cls h'->s.heap.UpToSlots h'->Q () {s with heap:=h' }):wpAny M A (noteFrame (.ref e) env') Q E s:=by
 rw [note_congr hf'];have f':=f;obtain ⟨hkb,hen,hl,a0,fl,ht⟩:=f
 by_cases hq:fl=rawInt L
 . subst hq;exact wpAny_noteFrame_againW hf ht (h s.heap f' (Heap.UpToSlots.refl _))
 . obtain ⟨oe,vs,T,oT,ts,he,⟨hcls,h0⟩,hd,h1,hnT,hTe,hT,hdT,h3⟩:=ht;subst hcls;unfold noteFrame;simp only [hf];refine wpAny_bind (wpAny_field he hd h1 ?_);rw [if_pos (show (Value.ref T != Value.none)=true from by simp)];refine wpAny_bind (wpAny_field hT hdT h3 ?_);rw [if_neg (fun z=>hq (beq_iff_eq.mp z))];refine wpAny_bind (wpAny_setField hT hdT (Array.getElem?_eq_some_iff.mp h3).1 ?_);have other:∀b,b≠T->(s.heap.update T (Obj.mapFields (·.setIfInBounds 3 Value.none))).get? b=s.heap.get? b:=fun b hb=>Heap.get?_update_other _ _ (Ne.symm hb)
   have noRecord:∀b o,s.heap.get? b=some o->(∀vs,o.data ≠ .fields vs)->b≠T:=fun b o hb hnf q=>by
    rw [q,hT] at hb;injection hb with hb;subst hb;exact hnf ts hdT
   refine wpAny_entryW hfr (hl.of_keeps fun b o hb hnf=>⟨o,(other b (noRecord b o hb hnf)).trans hb,rfl⟩) hf ((other e (Ne.symm hTe)).trans he)
    (fun b o hbo=>(other b fun q=>by rw [q,hnT] at hbo;cases hbo).trans (hkb b o hbo)) hen hd (Array.getElem?_eq_some_iff.mp h1).1 h0
    fun h' ⟨x1,x2,x3,x4⟩=>h h' ⟨x1,hen,x2,_,_,x3⟩ fun b o hb hnf=>x4 b o ((other b (noRecord b o hb hnf)).trans hb) hnf
theorem fl_set{fo:Option Addr}(f:Fl B l e cls s.heap)(h:∀h',Fl B l e cls h'->s.heap.UpToSlots h'->Q () {s with heap:=h' }):wpAny M A (setFlight (.ref e) fo) Q E s:=by
 obtain ⟨hkb,hen,hl,a0,fl,oe,vs,T,oT,ts,he,hcls,hd,h1,hnT,hTe,hT,hdT,h3⟩:=f;have hsz3:3<ts.size:=(Array.getElem?_eq_some_iff.mp h3).1
 have other:∀b,b≠T->(s.heap.update T (Obj.mapFields (·.setIfInBounds 3 (fo.elim Value.none fun f=>rawInt f)))).get? b=s.heap.get? b:=
  fun b hb=>Heap.get?_update_other _ _ (Ne.symm hb)
 have noRecord:∀b o,s.heap.get? b=some o->(∀vs,o.data ≠ .fields vs)->b≠T:=fun b o hb hnf q=>by
  rw [q,hT] at hb;injection hb with hb;subst hb;exact hnf ts hdT
 unfold setFlight;refine wpAny_bind (wpAny_field he hd h1 ?_);rw [if_pos (show (Value.ref T != Value.none)=true from by simp)];refine wpAny_setField hT hdT hsz3 (h _ ⟨fun b o hbo=>(other b fun q=>by rw [q,hnT] at hbo;cases hbo).trans (hkb b o hbo),hen,hl.of_keeps fun b o hb hnf=>⟨o,(other b (noRecord b o hb hnf)).trans hb,rfl⟩,a0,fo.elim Value.none (fun f=>rawInt f),?_⟩ fun b o hb hnf=>⟨o.slots,(other b (noRecord b o hb hnf)).trans hb⟩);exact ⟨oe,vs,T,_,_,(other e (Ne.symm hTe)).trans he,hcls,hd,h1,hnT,hTe,Heap.get?_update_self _ hT (Obj.isFreed_of_fields (Obj.data_mapFields hdT _)),Obj.data_mapFields hdT _,by simp [hsz3]⟩
theorem fl_leave (hfr : A.frames = some (env :: outer)) (hf : env.frame = some L) (f : Fl B (env :: outer) e cls s.heap)
 (h:∀h' a0,Heap.FlyingW B (env::outer) e cls a0 h'->s.heap.UpToSlots h'->Q () {s with heap:=h' }):wpAny M A (leaving env (.ref e)) Q E s:=by
 unfold leaving;refine wpAny_bind (fl_note hfr hf rfl f fun h1 f1 u1=> ?_);obtain ⟨k1,k2,k3,a0,fl,k4⟩:=f1;exact wpAny_setFlight_noneW k1 k3 k4 fun h' x1 x2 x3 x4=>h h' a0 ⟨x1,k2,x2,x3⟩ (u1.trans fun b o hb hn=>⟨o.slots,x4 b o hb hn⟩)
theorem fl_pass{α:Type}{what:String}{P:α->Shared->Prop}(f:Fl B l e cls s.heap)(h:∀h',Fl B l e cls h'->s.heap.UpToSlots h'->E (.ref e) {s with heap:=h' }):wpAny M A (PySem.passOn what (.ref e) env:Sem α) P E s:=by
 have f':=f;obtain ⟨hkb,hen,hl,a0,fl,oe,vs,T,oT,ts,he,hcls,hd,h1,hnT,hTe,hT,hdT,h3⟩:=f;unfold PySem.passOn;refine wpAny_bind (wpAny_field he hd h1 ?_);rw [if_neg (show ¬((Value.ref T==Value.none)=true) from by simp)];exact wpAny_bind (fl_set f' fun h' g u=>wpAny_throw (h h' g u))
end
structure FlyS (P:Program) (w:World) (l:List Env) (ex:List Addr) (H:Hp) (s:Shared) (C a:Addr) (H':Hp) (s':Shared):Prop where
 os:s'.os=s.os
 bare:AllBare s'.gens
 un:Un (frs l) ex H H' s.heap s'.heap
 hok:HOk P w H' s'.heap
 new:∀o,s.heap.get? a=some o->a ∈ ex
 free:H' a=none
 fl:∃B,Fl B l a (.ref C) s'.heap/\(∀b o,s.heap.get? b=some o->b ∉ frs l->b ∉ ex->∀o',s'.heap.get? b=some o'->B.get? b=some o')/\(∀b u,H' b=some u->∀o',s'.heap.get? b=some o'->B.get? b=some o')
section
variable {P:Program} {w:World} {l:List Env} {ex:List Addr} {H H':Hp} {s s':Shared} {C a:Addr}
theorem FlyS.step {h' : Heap} {B : Heap} (f : FlyS P w l ex H s C a H' s') (hB : Fl B l a (.ref C) s'.heap) (h1 : ∀ b o, s.heap.get? b = some o -> b ∉ frs l -> b ∉ ex -> ∀ o', s'.heap.get? b = some o' -> B.get? b = some o') (h2 : ∀ b u, H' b = some u -> ∀ o', s'.heap.get? b = some o' -> B.get? b = some o')
 (g:Fl B l a (.ref C) h') (u:s'.heap.UpToSlots h'):FlyS P w l ex H s C a H' {s' with heap:=h' }:=by
 have frx:∀b o,b ∈ frs l->s'.heap.get? b=some o->∀vs,o.data ≠ .fields vs:=fun b o hb q=>by
  obtain ⟨_,o',e',d'⟩:=hB.2.2.1.mem hb;rw [q] at e'
  cases e'
  exact d'
 refine ⟨f.os,f.bare,⟨fun b o q n hb hx=> ?_,fun b o q n hb hx=> ?_,f.un.free,fun b o q hx=> ?_,f.un.tups,f.un.frzs,f.un.tbls⟩,fun b v q=> ?_,f.new,f.free,B,g,fun b o q hb hx o' e' => ?_,fun b v q o' e' => ?_⟩
 . have z:=f.un.keep b o q n hb hx;exact g.1 b o (h1 b o q hb hx o z)
 . obtain ⟨sl,e1⟩:=f.un.slot b o q n hb hx;obtain ⟨sl',e2⟩:=u b _ e1 (frx b _ hb e1);exact ⟨sl',e2⟩
 . obtain ⟨o',e1⟩:=f.un.there b o q hx
   by_cases hb:b ∈ frs l
   . obtain ⟨sl',e2⟩:=u b _ e1 (frx b _ hb e1);exact ⟨_,e2⟩
   . exact ⟨o',g.1 b o' (h1 b o q hb hx o' e1)⟩
 . refine (f.hok b v q).stay (fun c x hc qc=> ?_) (fun _ z=>z) (fun _ _ z=>z);rcases hc with rfl | hc
   . exact g.1 _ _ (h2 _ _ q _ qc)
   . exact g.1 _ _ (h2 _ _ hc _ qc)
 . obtain ⟨o1,e1⟩:=f.un.there b o q hx;have z:=h1 b o q hb hx o1 e1;rw [g.1 b o1 z] at e'
   cases e'
   exact z
 . obtain ⟨o1,e1⟩:=obj_ex (f.hok b v q);have z:=h2 b v q o1 e1;rw [g.1 b o1 z] at e'
   cases e'
   exact z
theorem FlyS.note {M : Model} {A : Around} {E : Value -> Shared -> Prop} {Q : Unit -> Shared -> Prop} {env env' : Env} {outer : List Env} {L : Addr} (f : FlyS P w (env :: outer) ex H s C a H' s') (hfr : A.frames = some (env :: outer)) (hf : env.frame = some L) (hf' : env'.frame = env.frame)
 (h:∀h',FlyS P w (env::outer) ex H s C a H' {s' with heap:=h' }->s'.heap.UpToSlots h'->Q () {s' with heap:=h' }):wpAny M A (noteFrame (.ref a) env') Q E s':=by
 obtain ⟨B,b1,b2,b3⟩:=f.fl;exact fl_note hfr hf hf' b1 fun h' g u=>h h' (f.step b1 b2 b3 g u) u
theorem FlyS.pass {M : Model} {A : Around} {E : Value -> Shared -> Prop} {α : Type} {what : String} {env : Env} {Q : α -> Shared -> Prop} (f : FlyS P w l ex H s C a H' s')
 (h:∀h',FlyS P w l ex H s C a H' {s' with heap:=h' }->E (.ref a) {s' with heap:=h' }):wpAny M A (PySem.passOn what (.ref a) env:Sem α) Q E s':=by
 obtain ⟨B,b1,b2,b3⟩:=f.fl;exact fl_pass b1 fun h' g u=>h h' (f.step b1 b2 b3 g u)
theorem FlyS.lets{h':Heap}{c:Addr}(f:FlyS P w l ex H s C a H' s')(hs:Heap.SameBut c s'.heap h')(hc:s.heap.get? c=none)(hn:H' c=none)(hfr:c ∉ frs l)(hd:∃o,s'.heap.get? c=some o/\∀vs,o.data ≠ .fields vs):FlyS P w l ex H s C a H' {s' with heap:=h' }:=by
 obtain ⟨B,⟨k1,k2,k3,a0,fl,oe,vs,T,oT,ts,he,hcls,hd',h1,hnT,hTe,hT,hdT,h3⟩,b2,b3⟩:=f.fl;obtain ⟨oc,hoc,hdc⟩:=hd;have ne:∀b o,s.heap.get? b=some o->b≠c:=fun b o q z=>by rw [z,hc] at q;cases q
 have nt:∀b u,H' b=some u->b≠c:=fun b u q z=>by rw [z,hn] at q;cases q
 have nrec:∀b o vs,s'.heap.get? b=some o->o.data = .fields vs->b≠c:=fun b o vs q d z=>by
  rw [z,hoc] at q
  cases q
  exact hdc vs d
 let B':=B.hide c
 have ofB:∀b o,B'.get? b=some o->B.get? b=some o:=fun b o q=>Heap.of_hide q;have toB:∀b o,b≠c->B.get? b=some o->B'.get? b=some o:=fun b o z q=>(Heap.hide_ne B z).trans q
 have noB:∀ {b},B.get? b=none->B'.get? b=none:=fun {b} q=>by
  cases z:B'.get? b with
  | none=>rfl
  | some o=>rw [ofB b o z] at q;cases q
 have Bne:∀b o,B'.get? b=some o->b≠c:=fun b o q z=>by
  rw [z] at q
  have:B'.get? c=none:=Heap.hide_self B c;rw [this] at q
  cases q
 refine ⟨f.os,f.bare,⟨fun b o q n hb hx=>(hs.2 b (ne b o q)).trans (f.un.keep b o q n hb hx),fun b o q n hb hx=> ?_,f.un.free,fun b o q hx=> ?_,f.un.tups,f.un.frzs,f.un.tbls⟩,fun b v q=> ?_,f.new,f.free,B',⟨fun b o q=>(hs.2 b (Bne b o q)).trans (k1 b o (ofB b o q)),noB k2,?_,a0,fl,oe,vs,T,oT,ts,(hs.2 _ (nrec _ _ _ he hd')).trans he,hcls,hd',h1,noB hnT,hTe,(hs.2 _ (nrec _ _ _ hT hdT)).trans hT,hdT,h3⟩,fun b o q hb hx o' e' => ?_,fun b v q o' e' => ?_⟩
 . obtain ⟨sl,e⟩:=f.un.slot b o q n hb hx;exact ⟨sl,(hs.2 b (ne b o q)).trans e⟩
 . obtain ⟨o',e⟩:=f.un.there b o q hx;exact ⟨o',(hs.2 b (ne b o q)).trans e⟩
 . refine (f.hok b v q).stay (fun x y hx qc=>(hs.2 x ?_).trans qc) (fun _ z=>z) (fun _ _ z=>z);rcases hx with rfl | hx
   . exact nt _ _ q
   . exact nt _ _ hx
 . have go : ∀ l' : List Env, (∀ b ∈ frs l', b ≠ c) -> s'.heap.FunFrames B l' -> h'.FunFrames B' l' := by
    intro l'
    induction l' with
    | nil=>intro _ _;trivial
    | cons env r ih=>
     intro hm ⟨q1,⟨L,o,q2,q3,q4,q5⟩,q6⟩;have hL:L≠c:=hm L (by unfold frs;rw [List.filterMap_cons,q2];exact List.mem_cons_self);exact ⟨q1,⟨L,o,q2,noB q3,(hs.2 L hL).trans q4,q5⟩,ih (fun b hb=>hm b (by unfold frs;rw [List.filterMap_cons,q2];exact List.mem_cons_of_mem _ hb)) q6⟩
   exact go l (fun b hb z=>hfr (z ▸ hb)) k3
 . have z:=ne b o q;have e':h'.get? b=some o':=e';rw [hs.2 b z] at e'
   exact toB b o' z (b2 b o q hb hx o' e')
 . have z:=nt b v q;have e':h'.get? b=some o':=e';rw [hs.2 b z] at e'
   exact toB b o' z (b3 b v q o' e')
end
theorem fly_call {X : Cx} {pins : List (Addr × Obj)} {σ : L2.St} {H : Hp} {s s' : Shared} {C : Addr} {E : XK} {e : Value} (I : Inv X pins σ H s) (hx : CXe X.prog X.w C X.stack H s E e s') :
 ∃a H',e = .ref a/\E e none H'/\FlyS X.prog X.w X.stack X.ex X.H₀ X.s₀ C a H' s'/\(∃m,s'.heap.Ns X.env.locals m)/\H' X.env.locals=none:=by
 obtain ⟨a,a0,B,H',rfl,os,bare,un,hok,hna,hHa,hfl,hold,htr,hE⟩:=hx
 have sub:∀b ∈ X.fs,b ∈ frs X.stack:=fun b hb=>by
  rcases I.ok.stk with z | ⟨z,_⟩
  . rw [z];exact hb
  . rw [z];unfold frs;rw [List.filterMap_cons]
    split
    . exact hb
    . exact List.mem_cons_of_mem _ hb
 have ub:=I.base.mono (fs':=frs X.stack) (ex':=X.ex) sub fun _ z=>z;obtain ⟨m,⟨o,es,ep,ho,r⟩,_⟩:=id I.loc;obtain ⟨sl,hL⟩:=un.any ho I.free (by simp);refine ⟨a,H',rfl,hE,⟨os.trans I.os,bare,ub.trans (un.mono (fun _ z=>z) (fun b z=>absurd z (by simp))),hok,fun o q=> ?_,hHa,B,⟨hfl.1,hfl.2.1,hfl.2.2.1,a0,_,hfl.2.2.2⟩,fun b o q hb hx o' e' => ?_,htr⟩,⟨m,_,es,ep,hL,r⟩,un.free _ o ho I.free (by simp)⟩
 . refine Classical.byContradiction fun z=> ?_;obtain ⟨o',e'⟩:=I.base.there a o q z;rw [hna] at e'
   cases e'
 . obtain ⟨o1,e1⟩:=I.base.there b o q hx;exact hold b o1 e1 hb o' e'
section
variable {P:Program} {w:World} {K:PySem.W.Frag} {mg:Str->Option Value} {base:Heap} {N:List Str} {qual:Str} {scope:Scope} {f C:Addr} {cd:Value} {A:Around} {outer:List Env} {s s':Shared} {H0 H':Hp} {E:XK}
theorem fly_leave {a : Addr} (hfr : (A.deeper (envOfC qual scope s.heap.objs.size f cd)).frames = some (envOfC qual scope s.heap.objs.size f cd :: outer)) (F : FlyS P w (envOfC qual scope s.heap.objs.size f cd :: outer) [] H0 s C a H' s') (hE : E (.ref a) none H') :
 (cxOf (CXe P w C) P w K mg base N qual scope f cd A outer s H0 E).xe (.ref a) s':=by
 obtain ⟨B,b1,b2,b3⟩:=F.fl
 have memL:∀b,b ∈ frs (envOfC qual scope s.heap.objs.size f cd::outer)->b=s.heap.objs.size\/b ∈ frs outer:=fun b hb=>by
  have hb:b ∈ List.filterMap (·.frame) (envOfC qual scope s.heap.objs.size f cd::outer):=hb;rw [List.filterMap_cons] at hb
  exact List.mem_cons.mp hb
 have nfr:∀b o,s.heap.get? b=some o->b ∉ frs outer->b ∉ frs (envOfC qual scope s.heap.objs.size f cd::outer):=fun b o q n hb=>(memL b hb).elim (Nat.ne_of_lt (Heap.lt_size q)) n
 have up:∀b,b ∈ frs outer->b ∈ frs (envOfC qual scope s.heap.objs.size f cd::outer):=fun b hb=>by
  show b ∈ List.filterMap (fun x:Env=>x.frame) _;rw [List.filterMap_cons];exact List.mem_cons_of_mem _ hb
 refine fl_leave (A:=A.deeper (envOfC qual scope s.heap.objs.size f cd)) (L:=s.heap.objs.size) hfr rfl b1 fun h'' a0 g u=> ?_;have F':=F.step b1 b2 b3 ⟨g.1,g.2.1,g.2.2.1,a0,_,g.2.2.2⟩ u;have g3:=g.2.2.1;obtain ⟨_,_,g4⟩:=g3;refine ⟨a,a0,B,H',rfl,F'.os,F'.bare,⟨fun b o q n hb _=>F'.un.keep b o q n (nfr b o q hb) (by simp),fun b o q n hb _=>F'.un.slot b o q n (up b hb) (by simp),F'.un.free,F'.un.there,F'.un.tups,F'.un.frzs,F'.un.tbls⟩,F'.hok,?_,F'.free,⟨g.1,g.2.1,g4,g.2.2.2⟩,fun b o q hb o' e' => ?_,fun b v q o' e' => ?_,hE⟩
 . cases q:s.heap.get? a with
   | none=>rfl
   | some o=>exact absurd (F'.new o q) (by simp)
 . obtain ⟨o1,e1⟩:=F.un.there b o q (by simp);have z:=b2 b o q (nfr b o q hb) (by simp) o1 e1;have e':h''.get? b=some o':=e';rw [g.1 b o1 z] at e'
   cases e'
   exact z
 . obtain ⟨o1,e1⟩:=obj_ex (F.hok b v q);have z:=b3 b v q o1 e1;have e':h''.get? b=some o':=e';rw [g.1 b o1 z] at e'
   cases e'
   exact z
theorem pass1{W:Hp->Prop}(hW:∀a H,W H->E (.ref a) none H):Passes (CXe P w C) (cxOf (CXe P w C) P w K mg base N qual scope f cd A outer s H0 E) (fun _ _ H=>W H):=by
 intro pins σ H s1 e s2 I hx;obtain ⟨a,H',rfl,hE,F,_⟩:=fly_call I hx;exact fly_leave I.ok.frames F (hW a H' hE)
end
end Tf
namespace Tf
open PySem PySem.Spec PyProof.Rows L2
def bXe(X:Cx)(C:Addr)(W:Hp->Prop)(b:CB):Value->Shared->Prop:=fun e s'=>∃a H',e = .ref a/\W H'/\FlyS X.prog X.w X.stack b.ex b.H₀ b.s₀ C a H' s'/\(∃m,s'.heap.Ns b.C m)/\H' b.C=none
theorem passB{X:Cx}{osc sc:Scope}{N':List Str}{b:CB}{C:Addr}{W:Hp->Prop}(h:b.xe=bXe X C W b):Passes (CXe X.prog X.w C) (cxC X osc sc N' b) (fun _ _ H=>W H):=by
 intro pins σ H s e s' I hx;obtain ⟨a,H',rfl,hE,F,hn,hf⟩:=fly_call I hx;show b.xe _ _;rw [h];exact ⟨a,H',rfl,hE,F,hn,hf⟩
section
variable {X:Cx} {pins:List (Addr×Obj)} {σ:L2.St} {H H':Hp} {s s':Shared} {C a:Addr} {ex:List Addr}
theorem FlyS.back(I:Inv X pins σ H s)(hx:X.ex = [])(F:FlyS X.prog X.w X.stack ex H s C a H' s')(hex:∀b ∈ ex,∀o,X.s₀.heap.get? b≠some o):FlyS X.prog X.w X.stack [] X.H₀ X.s₀ C a H' s':=by
 have nx:∀b o,X.s₀.heap.get? b=some o->b ∉ ex:=fun b o q z=>hex b z o q;have n0:∀b,b ∉ X.ex:=fun b z=>by rw [hx] at z;cases z
 have sub:∀b ∈ X.fs,b ∈ frs X.stack:=fun b hb=>by
  rcases I.ok.stk with z | ⟨z,_⟩
  . rw [z];exact hb
  . rw [z];unfold frs;rw [List.filterMap_cons]
    split
    . exact hb
    . exact List.mem_cons_of_mem _ hb
 have ub:Un (frs X.stack) [] X.H₀ H X.s₀.heap s.heap:=I.base.mono sub fun b z=>absurd z (n0 b);obtain ⟨B,b1,b2,b3⟩:=F.fl;refine ⟨F.os.trans I.os,F.bare,⟨fun b o q n hb _=> ?_,fun b o q n hb _=> ?_,fun b o q n _=> ?_,fun b o q _=> ?_,fun b xs q=>F.un.tups b xs (ub.tups b xs q),fun b o u q=>F.un.frzs b o u (ub.frzs b o u q),fun b ps q=> ?_⟩,F.hok,fun o q=> ?_,F.free,B,b1,fun b o q hb _ o' e' => ?_,b3⟩
 . exact F.un.keep b o (ub.keep b o q n hb (by simp)) (ub.free b o q n (by simp)) hb (nx b o q)
 . obtain ⟨sl,e1⟩:=ub.slot b o q n hb (by simp);obtain ⟨sl',e2⟩:=F.un.slot b _ e1 (ub.free b o q n (by simp)) hb (nx b o q);exact ⟨sl',e2⟩
 . obtain ⟨o',e1⟩:=ub.there b o q (by simp);exact F.un.free b o' e1 (ub.free b o q n (by simp)) (nx b o q)
 . obtain ⟨o',e1⟩:=ub.there b o q (by simp);exact F.un.there b o' e1 (nx b o q)
 . obtain ⟨m1,e1⟩:=ub.tbls b ps q;obtain ⟨m2,e2⟩:=F.un.tbls b _ e1;exact ⟨m1++m2,by rw [e2,Array.append_assoc]⟩
 . obtain ⟨o',e1⟩:=ub.there a o q (by simp);exact absurd (F.new o' e1) (nx a o q)
 . obtain ⟨o1,e1⟩:=ub.there b o q (by simp);exact b2 b o1 e1 hb (nx b o q) o' e'
end
section
variable {X:Cx} {osc sc:Scope} {N':List Str} {ix:List (Option Nat)} {C:Addr} {W:Hp->Prop}
theorem blk_xe {pins : List (Addr × Obj)} {σ : L2.St} {H : Hp} {s : Shared} {fp : List Addr} {use : Option (Value -> Sem Unit)} {Q : Value -> Shared -> Prop} {acc : Value} (I2 : Inv X pins σ H s) (f2 : ∀ b ∈ fp, FpOk X pins H b) (hx : X.ex = []) (hX : X.stack = X.env :: X.outer /\ X.env.frame = some X.env.locals)
 (hlv:∀a H' s',FlyS X.prog X.w X.stack [] X.H₀ X.s₀ C a H' s'->W H'->X.xe (.ref a) s') (cl:List (Str×Addr)) (x:Value) (s':Shared)
 (h:bXe X C W ⟨s.heap.objs.size+1,s,H,fp ++ [s.heap.objs.size],fun _ _=>False⟩ x s') :
 notedBy (model X.prog X.w) X.A (cEnv osc sc cl (s.heap.objs.size+1) X.env) (fun x s'=>compPost (model X.prog X.w) X.A X.xe use Q acc (s.heap.objs.size+1) (.error x) s') x s':=by
 obtain ⟨a,H',rfl,hw,F,⟨m,hm⟩,hn⟩:=h;have F:FlyS X.prog X.w X.stack (fp ++ [s.heap.objs.size]) H s C a H' s':=F;have hm:s'.heap.Ns (s.heap.objs.size+1) m:=hm;have hn:H' (s.heap.objs.size+1)=none:=hn;have hfr:X.A.frames=some (X.env::X.outer):=by rw [<-hX.1];exact I2.ok.frames
 have F0:=F;rw [hX.1] at F0
 refine F0.note hfr hX.2 rfl fun h1 F1 u1=> ?_;rw [<-hX.1] at F1
 have hm1:h1.Ns (s.heap.objs.size+1) m:=u1.ns hm
 have key:∀h2,Heap.SameBut (s.heap.objs.size+1) h1 h2->∀cenv:Env,cenv.locals=s.heap.objs.size+1->wpAny (model X.prog X.w) X.A (PySem.passOn "comprehension.variables-let-go" (.ref a) cenv:Sem Value) (fun _ _=>False) X.xe {s' with heap:=h2}:=fun h2 hs cenv _=>by
  have F2:=F1.lets (h':=h2) hs (Heap.get?_none_of_le (Nat.le_succ _)) hn (fun hb=>by
   obtain ⟨_,o,ho,_⟩:=I2.stack.mem hb;have l : @LT.lt Nat _ (s.heap.objs.size+1) _:=Heap.lt_size ho;exact absurd l (by omega)) (by
   obtain ⟨o,es,ep,e1,e2,_⟩:=hm1;exact ⟨o,e1,fun vs z=>by rw [e2] at z;cases z⟩)
  refine F2.pass fun h3 F3=>hlv a H' _ (F3.back I2 hx fun b hb o q=> ?_) hw;rcases List.mem_append.mp hb with hb | hb
  . obtain ⟨_,_,_,f3,_⟩:=f2 b hb;rcases f3 with z | z
    . rw [hx] at z;cases z
    . exact absurd (Heap.lt_size q) (Nat.not_lt.mpr z)
  . have hb:b=s.heap.objs.size:=by simpa using hb
    have l1 : @LT.lt Nat _ b _:=Heap.lt_size q;have l2 : @LE.le Nat _ X.s₀.heap.objs.size s.heap.objs.size:=I2.sz;have l3 : @Eq Nat b s.heap.objs.size:=hb;omega
 cases use <;> exact ⟨m,hm1,key⟩
def tLCx(X:Cx)(C:Addr)(W:Hp->Prop)(ix:List (Option Nat))(wi:TI)(g:CB->TG)(tt:CB->TT)(te:CB->TE):TE:=fun σ H Q=>wi σ H fun J H1=>∀b:CB,b.xe=bXe X C W b->tLCg J (subS ix σ) (g b) (tt b) (te b) H1 Q
theorem pe_lcx {tg elt iter : Expr} {ifs : List Expr} {pos : Pos} {wi : TI} {g : CB -> TG} {tt : CB -> TT} {te : CB -> TE} (hx : X.ex = []) (hX : X.stack = X.env :: X.outer /\ X.env.frame = some X.env.locals)
 (hlv:∀pins σ H s,Inv X pins σ H s->∀a H' s',FlyS X.prog X.w X.stack [] X.H₀ X.s₀ C a H' s'->W H'->X.xe (.ref a) s') (hc:X.calm=true) (ho:X.env.scope=osc) {N:List Str} (hN:X.N=N) (hcs:csOk osc sc N N' ix=true) (hi:PI X tg iter wi)
 (hb:∀b:CB,b.xe=bXe X C W b->PG (cxC X osc sc N' b) tg (g b)/\PTs (cxC X osc sc N' b) ifs (tt b)/\PE (cxC X osc sc N' b) elt (te b)) (gk:∀b:CB,b.xe=bXe X C W b->GK (slotS ix) (g b))
 (hs:∀x,foldedSetIterable iter X.env x=pure x:=by intro _;rfl):PE X (.ListComp elt [⟨tg,iter,ifs,0⟩] sc pos) (tLCx X C W ix wi g tt te):=by
 subst hN;have cs:=CS.of hcs;intro pins s σ H Q I h;rw [eval_ListComp];have hcl:=closureFor_eq (closes I cs ho);refine wpAny_comprehension_free (use:=none) rfl hs hcl cs.kind cs.names (thn (hi pins s σ H _ I h) fun v s1 h1=>thn h1 fun itv s2 h2=> ?_);obtain ⟨it,fp,tn,J,H2,e,I2,T,st2,f2,rd⟩:=h2;subst e;refine wpAny_newObj_type ?_;refine wpAny_newEnv_comp ?_
 let b:CB:=⟨s2.heap.objs.size+1,s2,H2,fp ++ [s2.heap.objs.size],bXe X C W ⟨s2.heap.objs.size+1,s2,H2,fp ++ [s2.heap.objs.size],fun _ _=>False⟩⟩
 have eb:b.xe=bXe X C W b:=rfl;have hb':=hb b eb
 have rb:=run_block (scope:=sc) (pos:=pos) (iter:=iter) (R:=compPost (model X.prog X.w) X.A X.xe none (EP X pins σ Q) (.ref s2.heap.objs.size) (s2.heap.objs.size+1)) I2 cs ho hc T st2 f2 hb'.1 (gk _ eb) hb'.2.1 hb'.2.2 (rd _ eb) (blk_xe I2 f2 hx hX (hlv _ _ _ _ I2) _) (fun ys H' s' B q=>by
  obtain ⟨m,hm⟩:=B.ns;refine ⟨m,hm,fun h' hsb=> ?_⟩;refine ⟨.ref s2.heap.objs.size,upd H' s2.heap.objs.size (.lst ys),?_,rfl,q⟩;exact B.inv.turned (it:=s2.heap.objs.size+1) (fun b o hb e=>hsb.extBut b o hb e) B.cfree B.cl (.inr B.cn) B.cc B.cp)
 have sz:(s2.heap.push accObj).objs.size=s2.heap.objs.size+1:=Heap.size_push ..;show codeAny _ _ (.compStart _ 0 (.ref it) (.ref s2.heap.objs.size) {newEnv sc (s2.heap.push accObj).objs.size X.env.globals (cellsFrom ((s2.heap.push accObj).objs.size+1) sc.names (closL X.env.cells sc.names [])) X.env.qual none .none (some X.env) builtinsNs with scope:=relabel sc X.env}) (compPost _ _ _ none _ (.ref s2.heap.objs.size) (s2.heap.push accObj).objs.size) _;rw [sz,relabel_eq,ho];exact rb
theorem ps_setCx {tg elt iter : Expr} {ifs : List Expr} {pos py spos : Pos} {wi : TI} {g : CB -> TG} {tt : CB -> TT} {te : CB -> TE} {i : Nat} {y : Str} (hx : X.ex = []) (hX : X.stack = X.env :: X.outer /\ X.env.frame = some X.env.locals)
 (hlv:∀pins σ H s,Inv X pins σ H s->∀a H' s',FlyS X.prog X.w X.stack [] X.H₀ X.s₀ C a H' s'->W H'->X.xe (.ref a) s') (hnd:X.N.Nodup) (hi':X.N[i]? = some y) (hy:X.env.scope.names.lookup y=some .local)
 (hsw:swapsWith (.ListComp elt [⟨tg,iter,ifs,0⟩] sc pos) (some (.Name y py)) spos.line X.env=pure true)
 (hc:X.calm=true) (ho:X.env.scope=osc) {N:List Str} (hN:X.N=N) (hcs:csOk osc sc N N' ix=true) (hi:PI X tg iter wi)
 (hb:∀b:CB,b.xe=bXe X C W b->PG (cxC X osc sc N' b) tg (g b)/\PTs (cxC X osc sc N' b) ifs (tt b)/\PE (cxC X osc sc N' b) elt (te b)) (gk:∀b:CB,b.xe=bXe X C W b->GK (slotS ix) (g b))
 (hs:∀x,foldedSetIterable iter X.env x=pure x:=by intro _;rfl):PS X (.Assign [.Name y py] (.ListComp elt [⟨tg,iter,ifs,0⟩] sc pos) spos) (tSetC i (tLCx X C W ix wi g tt te)):=by
 have hN':=hN;subst hN;have cs:=CS.of hcs;intro pins s σ H D I h;rw [exec_Assign_Name_used _ _ _ _ hsw];have hcl:=closureFor_eq (closes I cs ho);refine wpAny_bind (wpAny_standAt (wpAny_bind ?_));show wpAny _ X.A (do let _ <-comprehension (.ListComp elt [⟨tg,iter,ifs,0⟩] sc pos) sc X.env _ (newList []) false (eval iter X.env) (some (assign (.Name y py) X.env))) _ _ s
 refine wpAny_bind (wpAny_mono (wpAny_comprehension_free (use:=some (assign (.Name y py) X.env)) (Q:=fun _ s'=>SP X pins D .next s') rfl hs hcl cs.kind cs.names
  (thn (hi pins s σ H _ I h) fun v s1 h1=>thn h1 fun itv s2 h2=> ?_)) (fun _ s' hq=>wpAny_pure (wpAny_pure hq)) fun _ _ e=>e)
 obtain ⟨it,fp,tn,J,H2,e,I2,T,st2,f2,rd⟩:=h2;subst e;refine wpAny_newObj_type ?_;refine wpAny_newEnv_comp ?_
 let b:CB:=⟨s2.heap.objs.size+1,s2,H2,fp ++ [s2.heap.objs.size],bXe X C W ⟨s2.heap.objs.size+1,s2,H2,fp ++ [s2.heap.objs.size],fun _ _=>False⟩⟩
 have eb:b.xe=bXe X C W b:=rfl;have hb':=hb b eb
 have rb:=run_block (scope:=sc) (pos:=pos) (iter:=iter) (R:=compPost (model X.prog X.w) X.A X.xe (some (assign (.Name y py) X.env)) (fun _ s'=>SP X pins D .next s') (.ref s2.heap.objs.size) (s2.heap.objs.size+1)) I2 cs ho hc T st2 f2 hb'.1 (gk _ eb) hb'.2.1 hb'.2.2 (rd _ eb) (blk_xe I2 f2 hx hX (hlv _ _ _ _ I2) _) (fun ys H' s' B q=>by
  show wpAny _ X.A (assign (.Name y py) X.env (.ref s2.heap.objs.size)) _ _ s';refine wpAny_assign_Name (store_ok2 (v:= .ref s2.heap.objs.size) B.inv hnd hi' (.inl hy) rfl (fun s'' I'' ⟨a,sb,ha⟩ => ?_) (.inr hy))
  have hne:s2.heap.objs.size+1≠a:=by
   rcases ha with ha | ha
   . rw [ha];exact B.cl
   . exact (B.cc y a ha).symm
  obtain ⟨m,hm⟩:=B.ns;refine ⟨m,hm.sameBut sb hne,fun h' hsb=> ?_⟩;exact ⟨_,_,I''.turned (it:=s2.heap.objs.size+1) (fun b o hb e=>hsb.extBut b o hb e) B.cfree B.cl (.inr B.cn) B.cc B.cp,q⟩)
 have sz:(s2.heap.push accObj).objs.size=s2.heap.objs.size+1:=Heap.size_push ..;show codeAny _ _ (.compStart _ 0 (.ref it) (.ref s2.heap.objs.size) {newEnv sc (s2.heap.push accObj).objs.size X.env.globals (cellsFrom ((s2.heap.push accObj).objs.size+1) sc.names (closL X.env.cells sc.names [])) X.env.qual none .none (some X.env) builtinsNs with scope:=relabel sc X.env}) (compPost _ _ _ _ _ (.ref s2.heap.objs.size) (s2.heap.push accObj).objs.size) _;rw [sz,relabel_eq,ho];exact rb
end
end Tf
namespace Tf
open PySem PySem.Spec PyProof.Rows L2
section
variable {X:Cx} {pins:List (Addr×Obj)} {σ:L2.St} {H:Hp} {s s':Shared}
theorem goes_ok {M : Model} {A : Around} {E : Value -> Shared -> Prop} {j : Nat} {n : Str} {pos : Pos} {Q : Unit -> Shared -> Prop} (I : Inv X pins σ H s) (hN : X.N.Nodup) (hi : X.N[j]? = some n) (hk : X.env.scope.names.lookup n = some .local)
 (h:∀s',Inv X pins (σ.set j none) H s'->Q () s'):wpAny M A (do bindName X.env n .none;unbindBehindTheSuite X.env n pos) Q E s:=by
 obtain ⟨m,hn,hl⟩:=id I.loc;have hcls:(X.env.scope.kind == .class || (X.env.scope.kind == .module && X.env.locals != X.env.globals))=false:=by rw [I.ok.kind];rfl
 have cne:=I.cne
 have tracked:∀ {a:Addr} {h':Heap},(∃o,s.heap.get? a=some o/\H a=none)->Heap.SameBut a s.heap h'->HOk X.prog X.w H h':=fun {a h'} ha hs b ob e=>by
  obtain ⟨_,_,hfree⟩:=ha;refine (I.hok b ob e).stay (fun c w' hc q=>(hs.2 c ?_).trans q) (fun _ q=>q) fun _ _ q=>q;rintro rfl;rcases hc with rfl | hc
  . rw [hfree] at e;cases e
  . rw [hfree] at hc;cases hc
 refine wpAny_nameGoes_keeps hk hn hcls fun h' v hn' hs=> ?_;obtain ⟨oL,_,_,hoL,_⟩:=id hn;refine h _ ⟨I.ok,I.os,I.bare,⟨fun b o e n hb hx=> ?_,fun b o e n hb hx=> ?_,I.base.free,fun b o e hx=> ?_,I.base.tups,I.base.frzs,I.base.tbls⟩,⟨_,hn',fun i y v' e1 e2 e3=> ?_⟩,fun y c e=> ?_,I.free,I.freeC,fun p hp=> ?_,tracked ⟨oL,hoL,I.free⟩ hs,by simpa using I.len⟩
 . exact (hs.2 b (Nat.ne_of_lt (Nat.lt_of_lt_of_le (Heap.lt_size e) I.ok.above))).trans (I.base.keep b o e n hb hx)
 . obtain ⟨sl,e1⟩:=I.base.slot b o e n hb hx;exact ⟨sl,(hs.2 b (Nat.ne_of_lt (Nat.lt_of_lt_of_le (Heap.lt_size e) I.ok.above))).trans e1⟩
 . obtain ⟨o',e1⟩:=I.base.there b o e hx;exact ⟨o',(hs.2 b (Nat.ne_of_lt (Nat.lt_of_lt_of_le (Heap.lt_size e) I.ok.above))).trans e1⟩
 . by_cases hj:i=j
   . subst hj;rw [List.getElem?_set_self'] at e2
     cases q:σ[i]? with
     | none=>rw [q] at e2;cases e2
     | some z=>rw [q] at e2;cases e2
   . rw [List.getElem?_set_ne (Ne.symm hj)] at e2
     obtain ⟨u',r',q⟩:=hl i y v' e1 e2 e3;refine ⟨u',r',?_⟩;rcases q with ⟨k,e⟩ | ⟨k,c,e,z⟩
     . refine .inl ⟨k,?_⟩;have:y≠n:=fun e=>hj (nodup_ix hN e1 (e ▸ hi));simp [this,e]
     . exact .inr ⟨k,c,e,z.sameBut hs (cne y c e)⟩
 . obtain ⟨w',z⟩:=I.cell y c e;exact ⟨w',z.sameBut hs (cne y c e)⟩
 . obtain ⟨e,n,ne,nf,d⟩:=I.pin p hp;exact ⟨(hs.2 p.1 ne).trans e,n,ne,nf,d⟩
abbrev mkX (X:Cx) (v:Value) (E:Value->Shared->Prop):Cx:={ X with A:=X.A.mark (some v),calm:=false,xe:=E}
theorem inv_mk{v:Value}{E:Value->Shared->Prop}(I:Inv X pins σ H s):Inv (mkX X v E) pins σ H s:=
 ⟨⟨I.ok.mod,I.ok.kind,I.ok.glob,I.ok.blt,I.ok.above,I.ok.inj,I.ok.has,I.ok.cab,(fun z=>nomatch z),I.ok.frames,I.ok.stk,I.ok.exf,I.ok.bs,I.ok.bsz,I.ok.noex,I.ok.exfs,I.ok.funs,I.ok.frf,I.ok.tb⟩,I.os,I.bare,I.base,I.loc,I.cell,I.free,I.freeC,I.pin,I.hok,I.len⟩
theorem inv_unmk{v:Value}{E:Value->Shared->Prop}(ok:X.Ok)(I:Inv (mkX X v E) pins σ H s):Inv X pins σ H s:=
 ⟨ok,I.os,I.bare,I.base,I.loc,I.cell,I.free,I.freeC,I.pin,I.hok,I.len⟩
variable {k:Nat} {f C D:Addr} {fd:FuncData} {ps:List Str} {sp:Sp} {fn cx n xf xg:Str} {jf jg jn:Nat} {p cpos pf apos np hpos pg pn gpos pos:Pos} {e:Expr} {es:List Expr} {t:TA}
def tTry(sp:Sp)(t:TA)(C:Addr)(jf jg jn:Nat):TS:=fun D σ H=>t σ H fun vs H1=>sp (vs ++ []) H1 (fun v H2=>D.nx (σ.set jf (some v)) H2)
 (fun u _ H2=>∀a,u = .ref a->H2 a=none->D.nx (((σ.set jn (some (.ref a))).set jg (some (.ref a))).set jn none) (upd H2 a (xO a C)))
theorem ps_try (F : FnOk X.prog X.w X.K X.mg X.base (CXe X.prog X.w C) k f fd ps sp) (hr : Room k X.A) (hgf : Gl X fn) (hmf : X.mg fn = some (.ref f)) (hk : PySem.W.keepIn X.K (.ref f) = true) (hb : Binds X.K fd ps []) (ha : PA X (e :: es) t)
 (hno:∀e s,X.xe e s->False) (hX:X.stack=X.env::X.outer/\X.env.frame=some X.env.locals) (hg:Gl X cx) (hm:X.mg cx=some (.ref D)) (hc:PySem.W.exmOne X.K (.ref C) (.ref D)=some true)
 (hN:X.N.Nodup) (hif:X.N[jf]? = some xf) (hlf:X.env.scope.names.lookup xf=some .local) (hig:X.N[jg]? = some xg) (hlg:X.env.scope.names.lookup xg=some .local) (hin:X.N[jn]? = some n) (hln:X.env.scope.names.lookup n=some .local)
 (hdb:(fn==("__debug__" : Str))=false:=by decide) (hdc:(cx==("__debug__" : Str))=false:=by decide) (hdn:(n==("__debug__" : Str))=false:=by decide) (hcn:(n==("__classdict__" : Str))=false:=by decide)
 (he:starEach (e::es) X.env=(false,eval e X.env)::starEach es X.env:=by rfl) (hpl:(backTo cpos (starEach es X.env)).any (·.1)=false:=by rfl)
 (hs:swapsWith (.Call (.Name fn p) (e::es) [] cpos) (some (.Name xf pf)) apos.line X.env=pure false:=by rfl) (hs2:swapsWith (.Name n pn) (some (.Name xg pg)) gpos.line X.env=pure false:=by rfl) :
 PS X (.Try [.Assign [.Name xf pf] (.Call (.Name fn p) (e::es) [] cpos) apos] [.ExceptHandler (some (.Name cx np)) (some n) [.Assign [.Name xg pg] (.Name n pn) gpos] hpos] [] [] pos) (tTry sp t C jf jg jn):=by
 intro pins s σ H D' I h;refine wpAny_Try_except (wpAny_execs_cons (wpAny_Assign_Name (wpAny_Call_Name_kw (ld_glob I hgf hmf ?_ hdb)) hs));refine PySem.W.callWith_K (h₀:=X.base) I.ok.mod.kin hk (wpAny_mono (ha cpos pins s σ H _ I h) (fun us s1 ⟨vs,H1,I1,r,q⟩=>⟨I1.kIn,?_⟩) fun _ _ z=>(hno _ _ z).elim) he hpl;have r2:Vals (vs ++ []) (us ++ []):=r.append .nil;have hl:(us ++ []).length=ps.length:=by rw [<-r2.length];exact F.len _ _ _ _ q
 refine wpAny_call (codeAny_mono (F.run X.A X.stack s1 H1 ⟨us,[]⟩ (us ++ []) (vs ++ []) _ _ hr I1.env0 (hb s1 us I1.kIn hl) r2 q) fun rr s' hq=> ?_)
 cases rr with
 | error ex=>
  have hq':CXe X.prog X.w C X.stack H1 s1 (fun u _ H2=>∀a,u = .ref a->H2 a=none->D'.nx (((σ.set jn (some (.ref a))).set jg (some (.ref a))).set jn none) (upd H2 a (xO a C))) ex s':=hq;refine x_caught I1 hX hq' hg hm hc hN hin hln (fun a H' E'' s4 hE hHa I4=> ?_) hdc;have I4':Inv (mkX X (.ref a) E'') pins (σ.set jn (some (.ref a))) (upd H' a (xO a C)) s4:=inv_mk I4;have hjn:jn<σ.length:=by rw [I1.len];exact (List.getElem?_eq_some_iff.mp hin).1
  have hp:=pss_one (ps_set (X:=mkX X (.ref a) E'') (pos:=gpos) (pos':=pg) hN hig (.inl hlg) (pe_var (X:=mkX X (.ref a) E'') (pos:=pn) hin (.inl hln) hdn hcn) hs2 (.inr hlg));refine thn (hp pins s4 _ _ {nx:=fun σ' H''=>σ'=(σ.set jn (some (.ref a))).set jg (some (.ref a))/\H''=upd H' a (xO a C),rt:=fun _ _=>False} I4' ⟨.ref a,List.getElem?_set_self hjn,rfl,rfl⟩) fun fl s5 q5=> ?_
  cases fl with
  | next=>
   obtain ⟨σ',H'',J,rfl,rfl⟩:=q5;refine goes_ok (inv_unmk I4.ok J) hN hin hln fun s6 I6=> ?_
   exact ⟨_,_,I6,hE a rfl hHa⟩
  | ret v=>obtain ⟨_,_,_,_,_,q⟩:=q5;exact q.elim
  | brk=>obtain ⟨_,_,_,q⟩:=q5;exact q.elim
  | cont=>obtain ⟨_,_,_,q⟩:=q5;exact q.elim
 | ok fl=>
  cases fl with
  | ret u=>
   obtain ⟨v,H2,I2,rv,q2⟩:=I1.after hq;refine store_ok I2 hN hif (.inl hlf) rv (fun s3 I3=> ?_) (.inr hlf)
   exact wpAny_execs_nil (wpAny_execs_nil ⟨_,H2,I3,q2⟩)
  | next=>exact False.elim hq
  | brk=>exact False.elim hq
  | cont=>exact False.elim hq
end
end Tf
namespace Tf
open PySem PySem.Spec PyProof.Rows L2
section
variable {X:Cx} {k:Nat}
end
section
theorem exc_obj {K : PySem.W.Frag} {h : Heap} {C : Addr} {bmB : List Value} {newId : String} (X : K.In h) (q : PySem.W.excIn K C bmB newId = true) :
 ∃bm N nm q bs hdct sn sub ab col dd k0 k1 k2 k3 k5 mN,h.get? C=some (excClassObj nm q C N bs bm hdct sn sub ab col dd k0 k1 k2 k3 k5 newId)/\h.Ns N mN/\mN "__init__" = none/\OwnTail h bmB bm:=by
 unfold PySem.W.excIn at q
 split at q
 . rename_i dd cd sl ho
   split at q
   . rename_i C' bm k0 k1 k2 k3 n k5 hm hs;simp only [Bool.and_eq_true,beq_iff_eq,Bool.not_eq_true'] at q
     obtain ⟨⟨⟨⟨⟨rfl,rfl⟩,hdel⟩,ht⟩,hok⟩,hni⟩:=q;obtain ⟨nm,bs,mro,ns,qn,hd,sn,sub,ab,col,del⟩:=cd
     dsimp only at hm hdel hok hni
     subst hm hdel
     have hsl:sl = #[k0,k1,k2,k3,some (.builtin n),k5]:=by
      obtain ⟨l⟩:=sl;simp only at hs
      rw [hs]
     subst hsl;exact ⟨bm,ns,nm,qn,bs,hd,sn,sub,ab,col,dd,k0,k1,k2,k3,k5,_,X _ _ ho, .of_isNs (PySem.W.isNs_of_in X hok),PySem.W.nsMap_none_of_in X hok hni,PySem.W.tail_of_in X ht⟩
   . cases q
 . cases q
abbrev bmV:List Value:= [.type "ValueError", .type "Exception", .type "BaseException", .type "object"]
variable {P:Program} {w:World} {K:PySem.W.Frag} {mg:Str->Option Value} {base:Heap} {N:List Str} {qual:Str} {scope:Scope} {f C:Addr} {cd:Value} {A:Around} {outer:List Env} {s0:Shared} {H0:Hp} {E:XK}
def tRse(te:TE)(W:Hp->Prop):TS:=fun _ σ H=>te σ H fun _ H1=>W H1
theorem ps_raise {cx : Str} {np cpos pos : Pos} {a : Expr} {te : TE} {W : Hp -> Prop} (hW : ∀ H e, W H -> E (.ref e) none H) (hg : Gl (cxOf (CXe P w C) P w K mg base N qual scope f cd A outer s0 H0 E) cx) (hm : mg cx = some (.ref C)) (hx : PySem.W.excIn K C bmV "ValueError.__new__" = true)
 (ha:PE (cxOf (CXe P w C) P w K mg base N qual scope f cd A outer s0 H0 E) a te) (hd:(cx==("__debug__" : Str))=false:=by decide)
 (he:starEach [a] (envOfC qual scope s0.heap.objs.size f cd) = [(false,eval a (envOfC qual scope s0.heap.objs.size f cd))]:=by rfl) :
 PS (cxOf (CXe P w C) P w K mg base N qual scope f cd A outer s0 H0 E) (.Raise (some (.Call (.Name cx np) [a] [] cpos)) none pos) (tRse te W):=by
 intro pins s σ H D I h;have hpl:(backTo cpos (starEach [a] (envOfC qual scope s0.heap.objs.size f cd))).any (·.1)=false:=by rw [he];rfl
 obtain ⟨bm,Nn,nm,q,bs,hdct,sn,sub,ab,col,dd,k0,k1,k2,k3,k5,mN,hC,hN,hni,T⟩:=exc_obj (h:=base) I.ok.mod.kin hx;refine wpAny_Raise_call_subT (nm:=nm) (q:=q) (C:=C) (N:=Nn) (bs:=bs) (bm:=bm) (hdct:=hdct) (sn:=sn) (sub:=sub) (ab:=ab) (col:=col) (dd:=dd) (k0:=k0) (k1:=k1) (k2:=k2) (k3:=k3) (k5:=k5) F.excBase_ValueError (T.hasType (X:= "BaseException") (b:=true) (by decide +kernel)) (I.ok.hd rfl) hpl hni (ld_glob I hg hm ⟨rfl,?_⟩ hd);show wpAny _ _ (evalArgs _ _ (backTo cpos (starEach [a] (envOfC qual scope s0.heap.objs.size f cd))) _) _ _ _;rw [he];refine Calls.evalArgs_plain (Calls.spliced_cons (thn (ha pins s σ H _ I h) fun u s1 ⟨v,H1,I1,rv,q1⟩=>Calls.spliced_nil ⟨rfl,?_,I1.bk _ _ hC,hN.keeps I1.bk,T.keeps I1.bk,fun h' e hm=> ?_⟩))
 . show 1<=sizeLine;decide
 . exact xe_leave I1 hm (hW _ _ q1)
end
end Tf
namespace Dm
open PySem PySem.Spec PyProof.Rows L2 Tf
section
variable {K:PySem.W.Frag} {R:Rl} [RelOk K R]
def spX(K:PySem.W.Frag)(F:List PyData->Option (Option Sl)):Sp:=fun vs H Q E=>∃H0 ds r,Same H0 H/\Reps K H0 vs ds/\F ds=some r/\match r with
 | some z=>∀v H0' H',Ext H0 H H0' H'->SlH K H H0' H' v z->Q v H'
 | none=>∀u H0' H',Ext H0 H H0' H'->E u none H'
def RSx(K:PySem.W.Frag)(R:Rl)(W:Hp->Prop)(ts:TS)(g:En->Option (Option Out)):Prop:=
 ∀(HB S0:Hp) (σ:L2.St) (ρ:En) (H0 H:Hp),Ext S0 HB H0 H->ST R HB H0 H σ ρ->∀o,g ρ=some o->∀D:Ends,(match o with | some o=>EndR K R HB S0 D o | none=>∀H0' H',Ext S0 HB H0' H'->W H')->ts D σ H
def mLf(g:En->Option Out):En->Option (Option Out):=fun ρ=>(g ρ).map some
theorem rsx_of{W:Hp->Prop}{ts:TS}{g:En->Option Out}(h:RS K R ts g):RSx K R W ts (mLf g):=fun HB S0 σ ρ H0 H x e o ho D d=>by
 obtain ⟨o',h1,rfl⟩:=Option.map_eq_some_iff.mp ho;exact h HB S0 σ ρ H0 H x e o' h1 D d
def mSqx(f g:En->Option (Option Out)):En->Option (Option Out):=fun ρ=>(f ρ).bind fun o=>match o with
 | some (.nx ρ')=>g ρ'
 | o=>some o
theorem rsx_seq{W:Hp->Prop}{t u:TS}{f g:En->Option (Option Out)}(h:RSx K R W t f)(k:RSx K R W u g):RSx K R W (tSeq t u) (mSqx f g):=fun HB S0 σ ρ H0 H x e o ho D d=>by
 obtain ⟨o1,h1,ho⟩:=Option.bind_eq_some_iff.mp ho;refine h HB S0 σ ρ H0 H x e o1 h1 { D with nx:=u D} ?_
 cases o1 with
 | none=>cases ho;exact d
 | some o1=>
  cases o1 with
  | nx ρ'=>exact fun σ' H0' H' x' e'=>k HB S0 σ' ρ' H0' H' x' e' o ho D d
  | rt r _=>cases ho;exact d
  | bk r=>cases ho;exact d
  | ct r=>cases ho;exact d
def mIfx(c:En->Option Bool)(f g:En->Option (Option Out)):En->Option (Option Out):=fun ρ=>(c ρ).bind fun b=>if b then f ρ else g ρ
theorem rsx_if{W:Hp->Prop}{c:TT}{t u:TS}{fc:En->Option Bool}{f g:En->Option (Option Out)}(hc:RT K R c fc)(h:RSx K R W t f)(k:RSx K R W u g):RSx K R W (tIfS c t u) (mIfx fc f g):=fun HB S0 σ ρ H0 H x e o ho D d=>by
 obtain ⟨b,hb,ho⟩:=Option.bind_eq_some_iff.mp ho;refine hc HB σ ρ H0 H x.s1 e b hb _ fun H1 J1 x1=> ?_
 cases b with
 | true=>exact iteT (h HB S0 σ ρ H1 J1 (x.chain x1) (e.ext (K:=K) x1) o ho D d)
 | false=>exact iteF (k HB S0 σ ρ H1 J1 (x.chain x1) (e.ext (K:=K) x1) o ho D d)
def runX(n:Nat)(g:En->Option (Option Out))(k:Nat):List PyData->Option (Option Sl):=fun ds=>if ds.length=k then (g (ds.map (fun d=>some (.val d))++List.replicate (n - ds.length) none)).bind fun o=>match o with
 | some (.rt r _)=>some (some r)
 | some (.nx _)=>some (some (.val .none))
 | none=>some none
 | _=>none else none
section
variable {P:Program} {w:World} {mg:Str->Option Value} {base:Heap}
def DSx(X:Cx)(R:Rl)(W:Hp->Prop)(st:List Stmt)(g:En->Option (Option Out)):Prop:=∃t,PSs X st t/\RSx X.K R W t g
theorem fnX {x qual : Str} {st : Stmt} {f C : Addr} {fd : FuncData} {N ps : List Str} {k n m : Nat} {g : En -> Option (Option Out)} (F : Fun K x qual st f fd) (S : FnScope N ps (defScope st)) (hn : N.length = n) (hm : ps.length = m)
 (hb:∀(cdv:Value) (A:Around) (outer:List Env) (s:Shared) (H:Hp) (E:XK),Room k (A.deeper (envOfC qual (defScope st) s.heap.objs.size f cdv))->DSx (cxOf (CXe P w C) P w K mg base N qual (defScope st) f cdv A outer s H E) (PR K) (fun H'=>∀u,E u none H') (defBody st) g) :
 FnOk P w K mg base (CXe P w C) (k+1) f fd ps (spX K (runX n g m)):=by
 subst hn hm;obtain ⟨oc,od,kV,doc,pm,an,cdv,ct,osl,rfl,lk,hcd⟩:=F.ex;refine fn_of lk hcd S (fun vs H Q E h=> ?_) fun A outer s H vs Q E hr h=> ?_
 . obtain ⟨H0,ds,r,s,hr,hf,_⟩:=h;unfold runX at hf
   split at hf
   . rename_i hl;rw [hr.length,hl]
   . cases hf
 . obtain ⟨t,ht,rs⟩:=hb cdv A outer s H E hr;refine ⟨t,ht,?_⟩;obtain ⟨H0,ds,r,s0,hr,hf,q⟩:=h;unfold runX at hf
   split at hf
   . obtain ⟨o,ho,hf⟩:=Option.bind_eq_some_iff.mp hf;refine rs H H0 _ _ H0 H (Ext.refl s0) ⟨er_start hr⟩ o ho _ ?_
     cases o with
     | none=>cases hf;exact fun H1 J1 a u=>q u H1 J1 a
     | some o=>
      cases o with
      | rt r' _=>cases hf;exact fun v σ H1 J1 a _ b=>q v H1 J1 a b
      | nx _=>cases hf;exact fun σ H1 J1 a b=>q .non H1 J1 a .none
      | bk _=>cases hf
      | ct _=>cases hf
   . cases hf
end
end
section
variable {X:Cx} {R:Rl} [RelOk X.K R] {W:Hp->Prop} {st:Stmt} {sts A B:List Stmt} {g:En->Option Out} {f gx gx':En->Option (Option Out)} {c:Expr} {pos:Pos} {ft:En->Option Bool}
theorem dx_of(h:DSs X R sts g):DSx X R W sts (mLf g):=by obtain ⟨t,h1,h2⟩:=h;exact ⟨t,h1,rsx_of h2⟩
theorem dx_cons(h:DS X R st g)(k:DSx X R W sts gx):DSx X R W (st::sts) (mSqx (mLf g) gx):=by
 obtain ⟨t,h1,h2⟩:=h;obtain ⟨u,h3,h4⟩:=k;exact ⟨_,pss_cons h1 h3,rsx_seq (rsx_of h2) h4⟩
theorem dx_if(hc:DT X R c ft)(h:DSx X R W A gx)(j:DSx X R W B gx')(k:DSx X R W sts f):DSx X R W (.If c A B pos::sts) (mSqx (mIfx ft gx gx') f):=by
 obtain ⟨t,h1,h2⟩:=hc;obtain ⟨u,h3,h4⟩:=h;obtain ⟨v,h5,h6⟩:=j;obtain ⟨w,h7,h8⟩:=k;exact ⟨_,pss_cons (ps_if h1 h3 h5) h7,rsx_seq (rsx_if h2 h4 h6) h8⟩
end
section
variable {P:Program} {w:World} {K:PySem.W.Frag} {mg:Str->Option Value} {base:Heap} {N:List Str} {qual:Str} {scope:Scope} {fa C:Addr} {cd:Value} {A:Around} {outer:List Env} {s0:Shared} {H0:Hp} {E:XK}
end
end Dm
namespace Dm
open PySem PySem.Spec PyProof.Rows L2 Tf
def xD:PyData:= .str "exception"
section
variable {K:PySem.W.Frag}
theorem xset_get{ρ:En}{i j:Nat}(h:i≠j):(ρ.set i none)[j]? = ρ[j]? :=List.getElem?_set_ne h
theorem xset_comm{ρ:En}{i k:Nat}{a b:Option Sl}(h:i≠k):(ρ.set k a).set i b=(ρ.set i b).set k a:=List.set_comm a b (Ne.symm h)
structure XS (K:PySem.W.Frag) (i:Nat) (C:Addr) (HB H0 H:Hp) (σ:L2.St) (ρ:En):Prop where
 er:ER K HB H0 H σ (ρ.set i none)
 in_:ρ[i]? = some none\/(ρ[i]? = some (some (.val .none))/\σ[i]? = some (some .non))\/(ρ[i]? = some (some (.val xD))/\∃a,σ[i]? = some (some (.ref a))/\H0 a=some (xO a C))
def PinX(K:PySem.W.Frag)(i:Nat)(C:Addr):Rl:=⟨XS K i C,fun k=>k≠i/\(0:Nat)=0⟩
instance relOk_PinX {i:Nat} {C:Addr}:RelOk K (PinX K i C) where
 ext:=fun x r=>⟨r.er.ext x,r.in_.imp id (Or.imp id fun ⟨h1,a,h2,h3⟩=>⟨h1,a,h2,x.s0 _ _ h3⟩)⟩
 get:=fun {_ _ _ _ _ k _} r hs h=>r.er.get k _ (by rw [xset_get (Ne.symm hs.1)];exact h)
 set:=fun {HB H0 H H0' H' σ ρ k v s} r hs x sb h=>by
  refine ⟨?_,?_⟩
  . rw [xset_comm (Ne.symm hs.1)];exact ER.set r.er x sb h
  . rw [List.getElem?_set_ne hs.1,List.getElem?_set_ne hs.1];exact r.in_.imp id (Or.imp id fun ⟨h1,a,h2,h3⟩=>⟨h1,a,h2,x.s0 _ _ h3⟩)
 write:=fun {HB H0 H σ ρ k c ds es vs ys} r hs h1 h2 h3 h4 h5 h6=>by
  refine ⟨?_,?_⟩
  . rw [xset_comm (Ne.symm hs.1)];exact ER.write r.er (by rw [xset_get (Ne.symm hs.1)];exact h1) h2 h3 h4 h6
  . rw [List.getElem?_set_ne hs.1];exact r.in_
 frz:=fun {S0 HB H0 H σ ρ k ds} r hs h x=>by
  obtain ⟨b,vs,g1,g2,g3⟩:=ER.frz r.er (i:=k) (by rw [xset_get (Ne.symm hs.1)];exact h) x;refine ⟨_,g2,?_,?_⟩
  . rw [xset_comm (Ne.symm hs.1)];exact g3
  . rw [List.getElem?_set_ne hs.1];refine r.in_.imp id (Or.imp id fun ⟨h1,a,h2,h3⟩=>⟨h1,a,h2,?_⟩);rw [upd_ne]
    . exact h3
    . rintro rfl;have:=x.s1 _ _ h3;rw [g1] at this
      cases this
theorem ER.sig{HB H0 H:Hp}{σ:L2.St}{ρ:En}{i:Nat}{o:Option V}(e:ER K HB H0 H σ ρ)(hi:∀s,ρ[i]? ≠ some (some s)):ER K HB H0 H (σ.set i o) ρ:=by
 have ne:∀(j:Nat) s,ρ[j]? = some (some s)->i≠j:=fun j s h z=>hi s (z ▸ h);refine ⟨by rw [List.length_set];exact e.len,fun j s h=> ?_,fun j k a ds es hjk h1 h2 h3 h4=> ?_⟩
 . rw [List.getElem?_set_ne (ne j s h)];exact e.get j s h
 . rw [List.getElem?_set_ne (ne j _ h1)] at h3
   rw [List.getElem?_set_ne (ne k _ h2)] at h4
   exact e.apart j k a ds es hjk h1 h2 h3 h4
theorem ER.drop{HB H0 H:Hp}{σ:L2.St}{ρ:En}(e:ER K HB H0 H σ ρ)(i:Nat):ER K HB H0 H σ (ρ.set i none):=by
 have f:∀(j:Nat) s,(ρ.set i none)[j]? = some (some s)->ρ[j]? = some (some s):=fun j s h=>by
  by_cases hj:i=j
  . subst hj;rw [List.getElem?_set_self'] at h
    cases q:ρ[i]? with
    | none=>rw [q] at h;cases h
    | some z=>rw [q] at h;cases h
  . rw [List.getElem?_set_ne hj] at h
    exact h
 exact ⟨by rw [List.length_set];exact e.len,fun j s h=>e.get j s (f j s h),fun j k a ds es hjk h1 h2 h3 h4=>e.apart j k a ds es hjk (f j _ h1) (f k _ h2) h3 h4⟩
theorem set_no{ρ:En}{i:Nat}(s:Sl):(ρ.set i none)[i]? ≠ some (some s):=fun h=>by
 rw [List.getElem?_set_self'] at h
 cases q:ρ[i]? with
 | none=>rw [q] at h;cases h
 | some z=>rw [q] at h;cases h
theorem XS.lt{i:Nat}{C:Addr}{HB H0 H:Hp}{σ:L2.St}{ρ:En}(r:XS K i C HB H0 H σ ρ):i<ρ.length:=by
 rcases r.in_ with h | ⟨h,_⟩ | ⟨h,_⟩ <;> exact (List.getElem?_eq_some_iff.mp h).1
theorem XS.ltσ{i:Nat}{C:Addr}{HB H0 H:Hp}{σ:L2.St}{ρ:En}(r:XS K i C HB H0 H σ ρ):i<σ.length:=by
 rw [r.er.len,List.length_set];exact r.lt
def mXN(i:Nat):En->Option Out:=fun ρ=>some (.nx (ρ.set i (some (.val .none))))
theorem rs_xn{i:Nat}{C:Addr}:RS K (PinX K i C) (tAsg (tC .non) (gName i)) (mXN i):=fun HB S0 σ ρ H0 H x e o ho D d=>by
 cases ho
 have r:XS K i C HB H0 H σ ρ:=e.r;refine d _ H0 H x ⟨⟨?_, .inr (.inl ⟨List.getElem?_set_self r.lt,List.getElem?_set_self r.ltσ⟩)⟩⟩;rw [List.set_set];exact r.er.sig set_no
def mTry(jf jg jn:Nat)(F:List PyData->Option (Option Sl))(f:En->Option (List PyData)):En->Option Out:=fun ρ=>(f ρ).bind fun ds=>(F ds).map fun r=>match r with
 | some z=> .nx (ρ.set jf (some z))
 | none=> .nx ((ρ.set jn none).set jg (some (.val xD)))
theorem rs_try{jf jg jn:Nat}{C:Addr}{F:List PyData->Option (Option Sl)}{t:TA}{f:En->Option (List PyData)}(hf:jf≠jg)(hn:jn≠jg)(h:RA K (PinX K jg C) t f):RS K (PinX K jg C) (tTry (spX K F) t C jf jg jn) (mTry jf jg jn F f):=fun HB S0 σ ρ H0 H x e o ho D d=>by
 obtain ⟨ds,hd,ho⟩:=Option.bind_eq_some_iff.mp ho;obtain ⟨r,hr,rfl⟩:=Option.map_eq_some_iff.mp ho;refine h HB σ ρ H0 H x.s1 e ds hd _ fun vs H1 J1 x1 p1=> ?_;refine ⟨H1,ds,r,x1.s1,by rw [List.append_nil];exact p1,hr,?_⟩
 cases r with
 | some z=>
  refine fun v H2 J2 x2 p2=>d _ H2 J2 (x.chain (x1.trans x2)) ⟨?_⟩
  exact RelOk.set (K:=K) (R:=PinX K jg C) e.r ⟨hf,rfl⟩ (x1.trans x2) x.s (p2.base x1.s)
 | none=>
  refine fun u H2 J2 x2 a _ ha=> ?_;have xx:=x1.trans x2;have x3:=Ext.allocF xx.s1 ha (xO a C);have r:XS K jg C HB H0 H σ ρ:=e.r;have r3:ER K HB (upd H2 a (xO a C)) (upd J2 a (xO a C)) σ (ρ.set jg none):=r.er.ext (xx.trans x3);have lt:=r.lt;have ltσ:=r.ltσ;refine d _ _ _ (x.chain (xx.trans x3)) ⟨⟨?_, .inr (.inr ⟨List.getElem?_set_self (by rw [List.length_set];exact lt),a,?_,upd_same⟩)⟩⟩
  . rw [List.set_set];have e1:((ρ.set jn none).set jg none)=(ρ.set jg none).set jn none:=xset_comm (Ne.symm hn);rw [e1];have r4:=r3.drop jn;have n1:∀s,((ρ.set jg none).set jn none)[jn]? ≠ some (some s):=set_no;have n2:∀s,((ρ.set jg none).set jn none)[jg]? ≠ some (some s):=fun s=>by rw [<-e1];exact set_no s
    exact ((r4.sig n1).sig n2).sig n1
  . rw [List.getElem?_set_ne hn];exact List.getElem?_set_self (by rw [List.length_set];exact ltσ)
def mXis(i:Nat):En->Option Sl:=fun ρ=>match ρ[i]? with
 | some (some (.val .none))=>some (.val (.bool true))
 | some (some (.val (.str _)))=>some (.val (.bool false))
 | _=>none
theorem re_xis{i:Nat}{C:Addr}:RE K (PinX K i C) (tOp (fun x y H Q=>y = .non/\Q (.bl (decide (x = .non))) H) (tVar i) (tC .non)) (mXis i):=fun HB σ ρ H0 H s e z hz Q q=>by
 have r:XS K i C HB H0 H σ ρ:=e.r;unfold mXis at hz
 rcases r.in_ with h | ⟨h,h2⟩ | ⟨h,a,h2,_⟩
 . rw [h] at hz;cases hz
 . rw [h] at hz;cases hz
   exact ⟨_,h2,rfl,q _ _ _ (Ext.refl s) (.bool _)⟩
 . rw [h] at hz;cases hz
   exact ⟨_,h2,rfl,q _ _ _ (Ext.refl s) (.bool _)⟩
end
end Dm
namespace Dm
open PySem PySem.Spec PyProof.Rows L2 Tf
def UpK(K J:PySem.W.Frag):Prop:=∀a o,K.lookup a=some o->o≠PySem.W.tabObj #[]->J.lookup a=some o
theorem upK_cut{K:PySem.W.Frag}{h:Heap}{ts:List Addr}(KX:K.In h)(hT:∀p ∈ ts,h.get? p=some (PySem.W.tabObj #[])):UpK K (cutK K ts):=fun _ _ e hne=>lookup_cut (not_tab KX hT e hne) e
section
variable {K J:PySem.W.Frag}
theorem UpK.ns(u:UpK K J){n:Addr}{x:Str}{v:Option Value}(h:PySem.W.nsIn K n x=some v):PySem.W.nsIn J n x=some v:=by
 unfold PySem.W.nsIn at h ⊢
 split at h
 . rename_i oc od es ep sl e;rw [u _ _ e (fun z=>by cases z)];exact h
 . cases h
theorem UpK.own(u:UpK K J){x:Str}{c:Value}{v:Option Value}(h:PySem.W.ownIn K x c=some v):PySem.W.ownIn J x c=some v:=by
 unfold PySem.W.ownIn at h ⊢
 split at h
 . exact h
 . split at h
   . rename_i oc od cd sl e
     try dsimp only
     rw [u _ _ e (fun z=>by cases z)];exact u.ns h
   . cases h
 . exact h
theorem UpK.along(u:UpK K J){x:Str}{v:Option Value}:∀ {cs:List Value},PySem.W.alongIn K x cs=some v->PySem.W.alongIn J x cs=some v
 | [],h=>h
 | c::r,h=>by
  rw [PySem.W.alongIn] at h ⊢
  split at h
  . rename_i w e;rw [u.own e];exact h
  . rename_i e;rw [u.own e];exact u.along h
  . cases h
theorem UpK.find(u:UpK K J){t:Value}{x:Str}{v:Option Value}(h:PySem.W.findIn K t x=some v):PySem.W.findIn J t x=some v:=by
 unfold PySem.W.findIn at h ⊢
 split at h
 . exact h
 . split at h
   . rename_i oc od cd sl e
     try dsimp only
     rw [u _ _ e (fun z=>by cases z)];exact u.along h
   . cases h
 . cases h
theorem UpK.cls(u:UpK K J){C:Addr}{cd:ClassData}(h:PySem.W.clsIn K C=some cd):PySem.W.clsIn J C=some cd:=by
 unfold PySem.W.clsIn at h ⊢
 split at h
 . rename_i oc od c sl e;rw [u _ _ e (fun z=>by cases z)];exact h
 . cases h
theorem UpK.type(u:UpK K J){v t:Value}(h:PySem.W.typeIn K v=some t)(hne:t ≠ .none\/∀a,v ≠ .ref a):PySem.W.typeIn J v=some t:=by
 unfold PySem.W.typeIn at h ⊢
 split at h
 . rename_i a;obtain ⟨o,e,rfl⟩:=Option.map_eq_some_iff.mp h;rcases hne with hne | hne
   . try dsimp only
     rw [u _ _ e (fun z=>by rw [z] at hne;exact hne rfl)];rfl
   . exact absurd rfl (hne a)
 . exact h
 . exact h
 . exact h
theorem UpK.special(u:UpK K J){w:Value}{x:Str}{v:Option Value}(h:PySem.W.specialIn K w x=some v):PySem.W.specialIn J w x=some v:=by
 unfold PySem.W.specialIn at h ⊢
 obtain ⟨t,ht,h⟩:=Option.bind_eq_some_iff.mp h;rw [u.type ht (.inl fun z=>by subst z;cases h)];exact u.find h
theorem UpK.mro(u:UpK K J){C:Addr}{b:Value}{r:Bool}(h:PySem.W.mroIn K C b=some r):PySem.W.mroIn J C b=some r:=by
 unfold PySem.W.mroIn at h ⊢
 obtain ⟨cd,e,h⟩:=Option.bind_eq_some_iff.mp h;rw [u.cls e];exact h
theorem UpK.takes(u:UpK K J){a:Value}{r:Bool}(h:PySem.W.takesIn K a=some r):PySem.W.takesIn J a=some r:=by
 unfold PySem.W.takesIn at h ⊢
 split at h
 . rename_i e;rw [u.special e];exact h
 . rename_i e;rw [u.special e]
   try dsimp only
   obtain ⟨v,e2,h⟩:=Option.map_eq_some_iff.mp h;rw [u.special e2, <-h];rfl
 . cases h
theorem UpK.sub(u:UpK K J){t b:Value}{r:Bool}(h:PySem.W.subIn K t b=some r):PySem.W.subIn J t b=some r:=by
 unfold PySem.W.subIn at h ⊢
 split at h
 . exact h
 . exact u.mro h
 . cases h
theorem UpK.kitC(u:UpK K J){t c:Value}{r:Bool}(h:PySem.W.kitCls K t c=some r):PySem.W.kitCls J t c=some r:=by
 unfold PySem.W.kitCls at h ⊢
 split at h
 . split at h
   . rename_i C z;rw [Bool.and_eq_true] at z
     obtain ⟨cd,e⟩:=Option.isSome_iff_exists.mp z.1
     try dsimp only
     rw [if_pos (by rw [u.cls e,u.type (beq_iff_eq.mp z.2) (.inl fun q=>by cases q)];rfl)];exact u.sub h
   . cases h
 . split at h
   . rename_i z
     try dsimp only
     rw [if_pos z];exact u.sub h
   . cases h
 . cases h
theorem UpK.kit(u:UpK K J){t c:Value}{r:Bool}(h:PySem.W.kitOne K t c=some r):PySem.W.kitOne J t c=some r:=by
 unfold PySem.W.kitOne at h ⊢
 split at h
 . rename_i z;rw [if_pos z];exact h
 . rename_i z;rw [if_neg z];exact u.kitC h
theorem UpK.exm(u:UpK K J){t c:Value}{r:Bool}(h:PySem.W.exmOne K t c=some r):PySem.W.exmOne J t c=some r:=by
 unfold PySem.W.exmOne at h ⊢
 split at h
 . rename_i z;rw [if_pos (by rw [u.sub (beq_iff_eq.mp z)];rfl)];exact u.kitC h
 . cases h
theorem UpK.nsOk(u:UpK K J){n:Addr}(h:PySem.W.nsOkIn K n=true):PySem.W.nsOkIn J n=true:=by
 unfold PySem.W.nsOkIn at h ⊢
 split at h
 . rename_i e;rw [u _ _ e (fun z=>by cases z)];exact h
 . cases h
theorem UpK.tail(u:UpK K J){bm:List Value}:∀ {l:List Value},PySem.W.tailIn K bm l=true->PySem.W.tailIn J bm l=true
 | [],h=>h
 | v::r,h=>by
  unfold PySem.W.tailIn at h ⊢
  rcases Bool.or_eq_true_iff.mp h with q | q
  . exact Bool.or_eq_true_iff.mpr (.inl q)
  . refine Bool.or_eq_true_iff.mpr (.inr ?_)
    split at q
    . split at q
      . rename_i e
        try dsimp only
        rw [u _ _ e (fun z=>by cases z)];simp only [Bool.and_eq_true] at q ⊢
        exact ⟨⟨u.nsOk q.1.1,by rw [u.ns (beq_iff_eq.mp q.1.2)];rfl⟩,u.tail q.2⟩
      . cases q
    . cases q
theorem UpK.exc(u:UpK K J){C:Addr}{bm:List Value}{n:String}(h:PySem.W.excIn K C bm n=true):PySem.W.excIn J C bm n=true:=by
 unfold PySem.W.excIn at h ⊢
 split at h
 . rename_i e;rw [u _ _ e (fun z=>by cases z)]
   try dsimp only
   split at h
   . rename_i hm hs;simp only [hm,hs,Bool.and_eq_true] at h ⊢
     obtain ⟨⟨⟨h1,h2⟩,h3⟩,h4⟩:=h;exact ⟨⟨⟨h1,u.tail h2⟩,u.nsOk h3⟩,by rw [u.ns (beq_iff_eq.mp h4)];rfl⟩
   . cases h
 . cases h
theorem UpK.xcls(u:UpK K J){D:Addr}(c:XCls K D):XCls J D:=⟨u.find c.ga,u.find c.gg,u.find c.cl,u.special c.gt,u.takes c.tk,u.mro c.mo,u.mro c.mb,by
 obtain ⟨cd,e⟩:=Option.isSome_iff_exists.mp c.ci;rw [u.cls e];rfl⟩
end
section
variable {K:PySem.W.Frag} {C D:Addr}
theorem kit_self{v:Value}:PySem.W.kitOne K v v=some true:=by
 unfold PySem.W.kitOne;rw [if_pos (by simp)]
theorem kitC_mk {b:Bool} (h1:PySem.W.isClsIn K D=true) (h2:PySem.W.typeIn K (.ref D)=some (.type "type")) (h3:PySem.W.mroIn K C (.ref D)=some b):PySem.W.kitCls K (.ref C) (.ref D)=some b:=by
 unfold PySem.W.kitCls
 dsimp only
 rw [if_pos (by rw [h2,Bool.and_eq_true];exact ⟨h1,by decide +kernel⟩)];exact h3
theorem kit_f (hne:(Value.ref C==Value.ref D)=false) (h1:PySem.W.isClsIn K D=true) (h2:PySem.W.typeIn K (.ref D)=some (.type "type")) (h3:PySem.W.mroIn K C (.ref D)=some false):PySem.W.kitOne K (.ref C) (.ref D)=some false:=by
 unfold PySem.W.kitOne;rw [if_neg (by rw [hne];decide)];exact kitC_mk h1 h2 h3
theorem kit_b{T:String}{b:Bool}(h1:PySem.W.kitMeta T=true)(h3:PySem.W.mroIn K C (.type T)=some b):PySem.W.kitOne K (.ref C) (.type T)=some b:=by
 unfold PySem.W.kitOne;rw [if_neg (fun z=>by cases beq_iff_eq.mp z)];unfold PySem.W.kitCls
 dsimp only
 rw [if_pos h1];exact h3
theorem exm_mk (h0:PySem.W.mroIn K D (.type "BaseException")=some true) (h1:PySem.W.isClsIn K D=true) (h2:PySem.W.typeIn K (.ref D)=some (.type "type")) (h3:PySem.W.mroIn K C (.ref D)=some true):PySem.W.exmOne K (.ref C) (.ref D)=some true:=by
 unfold PySem.W.exmOne;rw [if_pos (by rw [show PySem.W.subIn K (.ref D) (.type "BaseException")=some true from h0];decide +kernel)];exact kitC_mk h1 h2 h3
structure NsQ (K:PySem.W.Frag) (N:Addr):Prop where
 ok:∃c d es n sl,K.lookup N=some ⟨c,d, .dict es n,sl⟩/\(es.toList.all fun e=>match e.key with | .str _ _=>true | _=>false)=true
 no:PySem.W.nsIn K N "__init__" = some none
theorem NsQ.in_{N:Addr}(q:NsQ K N):PySem.W.nsOkIn K N=true:=by
 obtain ⟨c,d,es,n,sl,e,h⟩:=q.ok;unfold PySem.W.nsOkIn;rw [e];show es.all _=true;rw [<-Array.all_toList];exact h
theorem exc_mk {T : Addr} {bm : List Value} {newId : String} {dd od : Option Addr} {oc : Value} {cd ct : ClassData} {k0 k1 k2 k3 k5 : Option Value} {sl : Array (Option Value)} (h1 : K.lookup C = some ⟨.type "type", dd, .cls cd, #[k0, k1, k2, k3, some (.builtin newId), k5]⟩) (hm : cd.mro = .ref C :: .ref T :: bm) (hd : cd.hasDel = false) (h2 : K.lookup T = some ⟨oc, od, .cls ct, sl⟩)
 (n1:NsQ K cd.ns) (n2:NsQ K ct.ns):PySem.W.excIn K C bm newId=true:=by
 have tl:PySem.W.tailIn K bm bm=true:=by
  cases bm with
  | nil=>rfl
  | cons v r=>unfold PySem.W.tailIn;simp
 have t2:PySem.W.tailIn K bm (.ref T::bm)=true:=by
  unfold PySem.W.tailIn;refine Bool.or_eq_true_iff.mpr (.inr ?_)
  dsimp only
  rw [h2]
  dsimp only
  rw [n2.in_,n2.no,tl];decide +kernel
 unfold PySem.W.excIn;rw [h1]
 split
 . rename_i heq
   cases heq
   split
   . rename_i hm' hs';rw [hm] at hm'
     cases hm'
     cases hs'
     rw [hd,t2,n1.in_,n1.no];simp
   . rename_i hx;exact (hx _ _ _ _ _ _ _ _ hm rfl).elim
 . rename_i hx;exact (hx _ _ _ rfl).elim
end
structure DefX (P:Program) (w:World) (K:PySem.W.Frag) (mg:Str->Option Value) (base:Heap) (C:Addr) (k:Nat) (x:Str) (ps:List Str) (sp:Sp):Prop where
 ex:∃f fd,FnOk P w K mg base (CXe P w C) k f fd ps sp/\mg x=some (.ref f)/\PySem.W.keepIn K (.ref f)=true/\Binds K fd ps []
section
variable {P:Program} {w:World} {K:PySem.W.Frag} {mg:Str->Option Value} {base:Heap}
theorem xs_start{N:List Str}{H0 H:Hp}{vs:List V}{ds:List PyData}{i:Nat}{C:Addr}(h:Reps K H0 vs ds)(h1:ds.length<=i)(h2:i<N.length):XS K i C H H0 H (L2.start N vs) (ds.map (fun d=>some (.val d))++List.replicate (N.length - ds.length) none):=by
 refine ⟨(er_start h).drop i, .inl ?_⟩;rw [List.getElem?_append_right (by simpa using h1),List.getElem?_replicate];simp only [List.length_map];rw [if_pos (by omega)]
theorem fnDX {x qual : Str} {st : Stmt} {f C : Addr} {fd : FuncData} {N ps : List Str} {k n m : Nat} {g : En -> Option Out} (i : Nat) (F : Fun K x qual st f fd) (S : FnScope N ps (defScope st)) (hn : N.length = n) (hm : ps.length = m)
 (hb:∀(cdv:Value) (A:Around) (outer:List Env) (s:Shared) (H:Hp) (E:XK),Room k (A.deeper (envOfC qual (defScope st) s.heap.objs.size f cdv))->DSs (cxOf CX0 P w K mg base N qual (defScope st) f cdv A outer s H E).nox (PinX K i C) (defBody st) g) (h1:m<=i:=by decide) (h2:i<n:=by decide) :
 FnOk P w K mg base CX0 (k+1) f fd ps (spD K (runD n g m)):=by
 subst hn hm;refine F.ok S (fun vs H Q E h=> ?_) fun cdv A outer s H vs Q E hr h=> ?_
 . obtain ⟨H0,ds,r,s,hr,hf,_⟩:=h;unfold runD at hf
   split at hf
   . rename_i hl;rw [hr.length,hl]
   . cases hf
 . obtain ⟨t,ht,rs⟩:=hb cdv A outer s H E hr;refine ⟨t,ht,?_⟩;obtain ⟨H0,ds,r,s0,hr,hf,q⟩:=h;unfold runD at hf
   split at hf
   . rename_i hl;obtain ⟨o,ho,hf⟩:=Option.bind_eq_some_iff.mp hf;refine rs H H0 _ _ H0 H (Ext.refl s0) ⟨xs_start hr (by rw [hl];exact h1) h2⟩ o ho _ ?_
     cases o with
     | rt r' _=>cases hf;exact fun v σ H1 J1 a _ b=>q v H1 J1 a b
     | nx _=>cases hf;exact fun σ H1 J1 a b=>q .non H1 J1 a .none
     | bk _=>cases hf
     | ct _=>cases hf
   . cases hf
end
end Dm
namespace Dm
open PySem PySem.Spec PyProof.Rows L2 Tf
section
variable {X:Cx} {C D:Addr} {x y n fn cx:Str} {p p1 p2 pos:Pos} {j:Nat}
theorem ds_xn (i : Nat) (hN : X.N.Nodup) (hi : X.N[i]? = some x := by rfl) (hx : Loc X.env.scope x := by first | exact Or.inl rfl | exact Or.inr rfl) (hs : swapsWith (.Constant .none j p2) (some (.Name x p)) pos.line X.env = pure false := by rfl) (hf : X.fn x = true \/ X.env.scope.names.lookup x = some .local := by first | exact .inl rfl | exact .inr rfl) :
 DS X (PinX X.K i C) (.Assign [.Name x p] (.Constant .none j p2) pos) (mXN i):=⟨_,ps_set hN hi hx pe_non hs hf,rs_xn⟩
theorem de_xis (i : Nat) (hN : X.N[i]? = some x := by rfl) (hv : Vis X.env.scope x := by first | exact Or.inl rfl | exact Or.inr (Or.inl rfl) | exact Or.inr (Or.inr rfl)) (hd : (x == ("__debug__" : Str)) = false := by decide) (hcd : (x == ("__classdict__" : Str)) = false := by decide) :
 DE X (PinX X.K i C) (.Compare (.Name x p) [.Is] [.Constant .none j p2] pos) (mXis i):=⟨_,pe_cmpR op_isN (pe_var hN hv hd hcd) pe_non (nomark _),re_xis⟩
theorem ds_try {k l : Nat} {ps : List Str} {F : List PyData -> Option (Option Sl)} {xf xg : Str} {pf apos cpos np hpos pg pn gpos : Pos} {e : Expr} {es : List Expr} {fs : En -> Option (List PyData)} (jf jg jn : Nat) (Fx : DefX X.prog X.w X.K X.mg X.base C l fn ps (spX X.K F)) (hr : Room k X.A) (ha : DA X (PinX X.K jg C) (e :: es) fs)
 (hm:X.mg cx=some (.ref D)) (hc:PySem.W.exmOne X.K (.ref C) (.ref D)=some true) (hN:X.N.Nodup) (hno:∀e s,X.xe e s->False:=by exact fun _ _ h=>h) (hX:X.stack=X.env::X.outer/\X.env.frame=some X.env.locals:=by exact ⟨rfl,rfl⟩) (hj:l<=k:=by decide) (hgf:Gl X fn:=by rfl) (hg:Gl X cx:=by rfl)
 (hif:X.N[jf]? = some xf:=by rfl) (hlf:X.env.scope.names.lookup xf=some .local:=by rfl) (hig:X.N[jg]? = some xg:=by rfl) (hlg:X.env.scope.names.lookup xg=some .local:=by rfl) (hin:X.N[jn]? = some n:=by rfl) (hln:X.env.scope.names.lookup n=some .local:=by rfl)
 (hfg:jf≠jg:=by decide) (hng:jn≠jg:=by decide)
 (hdb:(fn==("__debug__" : Str))=false:=by decide) (hdc:(cx==("__debug__" : Str))=false:=by decide) (hdn:(n==("__debug__" : Str))=false:=by decide) (hcn:(n==("__classdict__" : Str))=false:=by decide)
 (he:starEach (e::es) X.env=(false,eval e X.env)::starEach es X.env:=by rfl) (hpl:(backTo cpos (starEach es X.env)).any (·.1)=false:=by rfl)
 (hs:swapsWith (.Call (.Name fn p) (e::es) [] cpos) (some (.Name xf pf)) apos.line X.env=pure false:=by rfl) (hs2:swapsWith (.Name n pn) (some (.Name xg pg)) gpos.line X.env=pure false:=by rfl) :
 DS X (PinX X.K jg C) (.Try [.Assign [.Name xf pf] (.Call (.Name fn p) (e::es) [] cpos) apos] [.ExceptHandler (some (.Name cx np)) (some n) [.Assign [.Name xg pg] (.Name n pn) gpos] hpos] [] [] pos) (mTry jf jg jn F fs):=by
 obtain ⟨f,fd,F',hmf,hk,hb⟩:=Fx.ex;obtain ⟨ta,h1,h2⟩:=ha;exact ⟨_,ps_try F' (hr.mono hj) hgf hmf hk hb h1 hno hX hg hm hc hN hif hlf hig hlg hin hln hdb hdc hdn hcn he hpl hs hs2,rs_try hfg hng h2⟩
def rXi(K:PySem.W.Frag)(C:Addr):List V->Hp->VK->Prop:=fun xs H Q=>∃a y b,xs = [.ref a,y]/\H a=some (xO a C)/\(∀c,RelV y c->PySem.W.kitOne K (.ref C) c=some b)/\Q (.bl b) H
theorem call_xi(c:XCls X.K C):CallR X (.builtin "isinstance") (rXi X.K C):=by
 intro pins s σ H xs us Q I r h;obtain ⟨a,y,b,rfl,h1,e,q⟩:=h;obtain ⟨u,w',rfl,rx,rn⟩:=vals2 r;obtain rfl:u=Value.ref a:=rx;obtain ⟨⟨o,vs,e1,e2,_⟩,_⟩:=(show ObjOk X.prog X.w H s.heap a (xO a C) from I.hok a _ h1);exact PySem.W.kia_one (kitx_exc c) I.kIn ⟨o,e1,e2⟩ (e w' rn) (fun z=>nomatch z) fun tk=>⟨.bl b,H,I.tok _,rfl,q⟩
def mXi(i:Nat)(b:Bool):En->Option Sl:=fun ρ=>match ρ[i]? with
 | some (some (.val (.str _)))=>some (.val (.bool b))
 | _=>none
theorem re_xi{K:PySem.W.Frag}{i:Nat}{b:Bool}{y:V}(e:∀c,RelV y c->PySem.W.kitOne K (.ref C) c=some b):RE K (PinX K i C) (tCB (rXi K C) (tCons (tVar i) (tCons (tC y) tNil))) (mXi i b):=fun HB σ ρ H0 H s e' z hz Q q=>by
 have r:XS K i C HB H0 H σ ρ:=e'.r;unfold mXi at hz
 rcases r.in_ with h | ⟨h,h2⟩ | ⟨h,a,h2,h3⟩
 . rw [h] at hz;cases hz
 . rw [h] at hz;cases hz
 . rw [h] at hz;cases hz
   exact ⟨_,h2,a,y,b,rfl,s _ _ h3,e,q _ _ _ (Ext.refl s) (.bool _)⟩
theorem de_xi {b : Bool} (i : Nat) (c : XCls X.K C) (hm : X.mg "isinstance" = none) (hx : X.mg y = some (.ref D)) (e : PySem.W.kitOne X.K (.ref C) (.ref D) = some b) (hN : X.N[i]? = some x := by rfl) (hv : Vis X.env.scope x := by first | exact Or.inl rfl | exact Or.inr (Or.inl rfl) | exact Or.inr (Or.inr rfl)) (hd : (x == ("__debug__" : Str)) = false := by decide) (hcd : (x == ("__classdict__" : Str)) = false := by decide)
 (hgx:Gl X y:=by rfl) (hg:Gl X "isinstance" :=by rfl) (hdx:(y==("__debug__" : Str))=false:=by decide)
 (he:starEach [.Name x p1, .Name y p2] X.env=(false,eval (.Name x p1) X.env)::starEach [.Name y p2] X.env:=by rfl) (he2:starEach [.Name y p2] X.env=(false,eval (.Name y p2) X.env)::starEach [] X.env:=by rfl) (hpl:(backTo pos (starEach [.Name y p2] X.env)).any (·.1)=false:=by rfl) :
 DE X (PinX X.K i C) (.Call (.Name "isinstance" p) [.Name x p1, .Name y p2] [] pos) (mXi i b) :=
 ⟨_,pe_callB (call_xi c) hg hm bt_isinstance (pa_cons (pe_var hN hv hd hcd) (pa_cons (pe_glob (v:= .ref D) hgx hx rfl hdx) pa_nil he2) he) (by decide) (by decide) he hpl,re_xi fun c' r=>by
  obtain rfl:c'=Value.ref D:=r;exact e⟩
theorem de_xb {b : Bool} {T : String} (i : Nat) (c : XCls X.K C) (hm : X.mg "isinstance" = none) (hx : X.mg y = none) (hv' : bootBuiltins y = some (.type T)) (e : PySem.W.kitOne X.K (.ref C) (.type T) = some b) (hN : X.N[i]? = some x := by rfl) (hv : Vis X.env.scope x := by first | exact Or.inl rfl | exact Or.inr (Or.inl rfl) | exact Or.inr (Or.inr rfl)) (hd : (x == ("__debug__" : Str)) = false := by decide) (hcd : (x == ("__classdict__" : Str)) = false := by decide)
 (hgx:Gl X y:=by rfl) (hg:Gl X "isinstance" :=by rfl) (hnx:y ≠ "__name__" :=by decide) (hdx:(y==("__debug__" : Str))=false:=by decide)
 (he:starEach [.Name x p1, .Name y p2] X.env=(false,eval (.Name x p1) X.env)::starEach [.Name y p2] X.env:=by rfl) (he2:starEach [.Name y p2] X.env=(false,eval (.Name y p2) X.env)::starEach [] X.env:=by rfl) (hpl:(backTo pos (starEach [.Name y p2] X.env)).any (·.1)=false:=by rfl) :
 DE X (PinX X.K i C) (.Call (.Name "isinstance" p) [.Name x p1, .Name y p2] [] pos) (mXi i b) :=
 ⟨_,pe_callB (call_xi c) hg hm bt_isinstance (pa_cons (pe_var hN hv hd hcd) (pa_cons (pe_ty hgx hx hv' hnx hdx) pa_nil he2) he) (by decide) (by decide) he hpl,re_xi fun c' r=>by
  obtain rfl:c'=Value.type T:=r;exact e⟩
end
end Dm
namespace Dm
open PySem PySem.Spec PyProof.Rows L2 Tf
section
variable {K:PySem.W.Frag} {R:Rl} [RelOk K R] {W:Hp->Prop}
def REx(K:PySem.W.Frag)(R:Rl)(W:Hp->Prop)(te:TE)(f:En->Option (Option Sl)):Prop:=
 ∀(HB:Hp) (σ:L2.St) (ρ:En) (H0 H:Hp),Same H0 H->ST R HB H0 H σ ρ->∀o,f ρ=some o->∀Q:VK,(match o with | some z=>∀v H0' H',Ext H0 H H0' H'->SlH K H H0' H' v z->Q v H' | none=>∀H0' H',Ext H0 H H0' H'->W H')->te σ H Q
def mCallx(F:List PyData->Option (Option Sl))(f:En->Option (List PyData)):En->Option (Option Sl):=fun ρ=>(f ρ).bind F
theorem rex_call{F:List PyData->Option (Option Sl)}{ta:TA}{f:En->Option (List PyData)}(h:RA K R ta f):REx K R W (tCall (spX K F) [] (fun _ _ H=>W H) ta) (mCallx F f):=fun HB σ ρ H0 H s e o ho Q q=>by
 obtain ⟨ds,hd,hz⟩:=Option.bind_eq_some_iff.mp ho;refine h HB σ ρ H0 H s e ds hd _ fun vs H1 J1 x1 p1=> ?_;rw [List.append_nil];refine ⟨H1,ds,o,x1.s1,p1,hz,?_⟩
 cases o with
 | some z=>exact fun v H2 J2 x2 p2=>q v H2 J2 (x1.trans x2) (p2.base x1.s)
 | none=>exact fun _ H2 J2 x2=>q H2 J2 (x1.trans x2)
def RIx(K:PySem.W.Frag)(R:Rl)(W:Hp->Prop)(wi:TI)(f:En->Option (Option (List PyData))):Prop:=
 ∀(HB:Hp) (σ:L2.St) (ρ:En) (H0 H:Hp),Same H0 H->ST R HB H0 H σ ρ->∀o,f ρ=some o->∀R:It->Hp->Prop,(match o with | some ds=>∀J H0' H',Ext H0 H H0' H'->ItR K H0' J ds->R J H' | none=>∀H0' H',Ext H0 H H0' H'->W H')->wi σ H R
def mItx(f:En->Option (List PyData)):En->Option (Option (List PyData)):=fun ρ=>(f ρ).map some
theorem rix_of{wi:TI}{f:En->Option (List PyData)}(h:RI K R wi f):RIx K R W wi (mItx f):=fun HB σ ρ H0 H s e o ho R q=>by
 obtain ⟨z,hz,rfl⟩:=Option.map_eq_some_iff.mp ho;exact h HB σ ρ H0 H s e z hz R q
def mItemsx(f:En->Option (Option Sl)):En->Option (Option (List PyData)):=fun ρ=>(f ρ).bind fun o=>match o with
 | some a=>(match a.dat with
  | .list ds=>some (some ds)
  | _=>none)
 | none=>some none
theorem rix_list{te:TE}{f:En->Option (Option Sl)}(h:REx K R W te f):RIx K R W (iList K te) (mItemsx f):=fun HB σ ρ H0 H s e o ho R q=>by
 obtain ⟨o1,h1,ho⟩:=Option.bind_eq_some_iff.mp ho;refine h HB σ ρ H0 H s e o1 h1 _ ?_
 cases o1 with
 | none=>cases ho;exact q
 | some a=>
  dsimp only at ho
  split at ho
  . rename_i es he
    cases ho
    refine fun v H1 J1 x1 p=> ?_
    cases a with
    | val d=>
     cases he
     cases (show Rep K H1 v (.list es) from p) with
     | list h1 h2=>exact ⟨_,rfl,⟨_,x1.s1.seq h1⟩,q _ _ _ x1 (it_list h1 h2)⟩
    | own ds=>
     cases he
     obtain ⟨a,vs,rfl,hn,h1,h2,h3⟩:=p
     exact ⟨_,rfl,⟨_,SqL.of h2⟩,q _ _ _ (frz_ext x1 hn h1 h2) (it_list (SqL.of upd_same) (Reps.same (Same.upd h1 _) h3))⟩
    | dct _=>cases he
  . cases ho
def compMx(f:PyData->Option (Option PyData)):List PyData->Option (Option (List PyData))
 | []=>some (some [])
 | d::ds=>(f d).bind fun r=>match r with
  | some x=>(compMx f ds).map fun o=>o.map fun rest=>x::rest
  | none=>some none
def elMx(fg:PyData->En->Option En)(fe:En->Option (Option Sl))(ρ0:En):PyData->Option (Option PyData):=fun d=>(fg d ρ0).bind fun ρ'=>(fe ρ').map fun o=>o.map Sl.dat
def mLCx(sb:En->En)(fi:En->Option (Option (List PyData)))(fg:PyData->En->Option En)(fe:En->Option (Option Sl)):En->Option (Option Sl):=fun ρ=>(fi ρ).bind fun o=>match o with
 | some ds=>if ds.length<sizeLine then (compMx (elMx fg fe (sb ρ)) ds).map fun o=>o.map .own else none
 | none=>some none
theorem rex_lc {X : Cx} {C : Addr} {R R' : Rl} [RelOk K R] [RelOk K R'] {sb : En -> En} {ix : List (Option Nat)} {wi : TI} {g : CB -> TG} {te : CB -> TE} {fi : En -> Option (Option (List PyData))} {fg : PyData -> En -> Option En} {fe : En -> Option (Option Sl)}
 (hx:∀(HB:Hp) (σ:L2.St) (ρ:En) (H0 H:Hp),R.r HB H0 H σ ρ->R'.r (fun _=>none) H0 H (subS ix σ) (sb ρ))
 (hi:RIx K R W wi fi) (hg:∀b:CB,b.xe=bXe X C W b->RG K R' (g b) fg) (he:∀b:CB,b.xe=bXe X C W b->REx K R' W (te b) fe):REx K R W (tLCx X C W ix wi g (fun _=>tNoTest) te) (mLCx sb fi fg fe):=fun HB σ ρ H0 H s e o ho Q q=>by
 obtain ⟨o1,hds,hz⟩:=Option.bind_eq_some_iff.mp ho;refine hi HB σ ρ H0 H s e o1 hds _ ?_
 cases o1 with
 | none=>cases hz;exact q
 | some ds=>
 dsimp only at hz
 split at hz
 . rename_i hlen;obtain ⟨all,hall,rfl⟩:=Option.map_eq_some_iff.mp hz;refine fun J H1 J1 x1 it b eb=> ?_;have e1:ST R' (fun _=>none) H1 J1 (subS ix σ) (sb ρ):=⟨hx HB σ ρ H1 J1 (e.ext (K:=K) x1).r⟩;refine ⟨fun i m ys H=>m=ds.length - i/\i<=ds.length/\∃H0' es rest,Ext H1 J1 H0' H/\Reps K H0' ys es/\es.length<=i/\compMx (elMx fg fe (sb ρ)) (ds.drop i)=some rest/\rest.map (es ++ ·)=all,⟨_,rfl,Nat.zero_le _,H1,[],all,Ext.refl x1.s1, .nil,Nat.le_refl _,hall,by cases all <;> rfl⟩,?_⟩;rintro i m ys H2 ⟨rfl,hile,H0',es,rest,xx,hr,hel,hc,hsum⟩;obtain ⟨ig,is⟩:=it H0' H2 xx.s0 xx.s1 i;refine ⟨by rw [hr.length];omega,?_⟩
   by_cases hlt:i<ds.length
   . right;obtain ⟨go,yl⟩:=ig ds[i] (by simp [hlt]);rw [List.drop_eq_getElem_cons hlt] at hc
     obtain ⟨r,hr1,hc⟩:=Option.bind_eq_some_iff.mp (show (elMx fg fe (sb ρ) ds[i]).bind _=some rest from hc);refine ⟨go,fun ys' H'=>∃H0' es rest,Ext H1 J1 H0' H'/\Reps K H0' ys' es/\es.length<=i+1/\compMx (elMx fg fe (sb ρ)) (ds.drop (i+1))=some rest/\rest.map (es ++ ·)=all,fun ys' H' h=>⟨ds.length - (i+1),by omega,rfl,hlt,h⟩,fun v H3 y=> ?_⟩;obtain ⟨H03,x3,r3⟩:=yl v H3 y;obtain ⟨ρ',hg',hb'⟩:=Option.bind_eq_some_iff.mp hr1;obtain ⟨oo,hoo,rfl⟩:=Option.map_eq_some_iff.mp hb';have xx3:=xx.trans x3;refine hg b eb (fun _=>none) _ _ ρ' H03 H3 v _ x3.s1 (fun _ _ h=>by cases h) (e1.ext (K:=K) xx3) r3 hg' _ fun σ2 e2=> ?_;refine rt_yes (K:=K) (R:=R') _ σ2 ρ' H03 H3 x3.s1 e2 true rfl _ fun H4 J4 x4=> ?_;refine iteT ?_;refine he b eb _ σ2 ρ' H4 J4 x4.s1 (e2.ext (K:=K) x4) oo hoo _ ?_
     cases oo with
     | none=>
      cases hc
      cases hsum
      exact fun H5 J5 x5=>q H5 J5 (((x1.trans xx3).trans x4).trans x5)
     | some rr=>
      obtain ⟨rest',hr2,hc⟩:=Option.map_eq_some_iff.mp (show (compMx (elMx fg fe (sb ρ)) (ds.drop (i+1))).map _=some rest from hc);refine fun w H5 J5 x5 p5=> ?_
      obtain ⟨H6,x6,p6⟩:∃H6,Ext H4 J4 H6 J5/\Rep K H6 w rr.dat:=by
       cases rr with
       | val d=>exact ⟨_,x5,p5⟩
       | own ds=>
        obtain ⟨a,vs,rfl,hn,h1,h2,h3⟩:=p5
        exact ⟨_,frz_ext x5 hn h1 h2, .list (SqL.of upd_same) (Reps.same (Same.upd h1 _) h3)⟩
       | dct kvs=>
        obtain ⟨a,t,rfl,hn,h1,h2,h3⟩:=p5;exact ⟨_,frz_ext x5 hn h1 h2,(h3.same (Same.upd h1 _)).rep upd_same⟩
      refine ⟨H6,es ++ [rr.dat],rest',(xx3.trans x4).trans x6,Tf.Reps.snoc (Reps.same ((x3.s0.trans x4.s0).trans x6.s0) hr) p6,by rw [List.length_append];simpa using hel,hr2,?_⟩;rw [<-hsum, <-hc]
      cases rest' with
      | none=>rfl
      | some l=>
       show some ((es ++ [rr.dat])++l)=some (es++(rr.dat::l));rw [List.append_assoc];rfl
   . left;have hi':i=ds.length:=by omega
     refine ⟨is (by omega),fun p hp=> ?_⟩;rw [List.drop_eq_nil_of_le (by omega)] at hc
     cases hc
     have hsum:some (es ++ [])=all:=hsum;rw [List.append_nil] at hsum
     subst hsum;have xy:=x1.trans xx;exact q _ _ _ (xy.trans (Ext.alloc xx.s1 hp _)) ⟨p,ys,rfl,xy.s.free hp,xx.s1.free hp,upd_same,hr⟩
 . cases hz
def mAsgx(i:Nat)(f:En->Option (Option Sl)):En->Option (Option Out):=fun ρ=>(f ρ).map fun o=>o.map fun r=> .nx (ρ.set i (some r))
theorem rsx_asgC{te:TE}{f:En->Option (Option Sl)}{i:Nat}(hsl:R.slot i)(h:REx K R W te f):RSx K R W (tSetC i te) (mAsgx i f):=fun HB S0 σ ρ H0 H x e o ho D d=>by
 obtain ⟨r,hr,rfl⟩:=Option.map_eq_some_iff.mp ho;refine h HB σ ρ H0 H x.s1 e r hr _ ?_
 cases r with
 | none=>exact fun H1 J1 x1=>d H1 J1 (x.chain x1)
 | some r=>exact fun v H1 J1 x1 p1=>d _ H1 J1 (x.chain x1) ⟨RelOk.set e.r hsl x1 x.s p1⟩
end
end Dm
namespace Tf
open PySem PySem.Spec PyProof.Rows L2
section
variable {X:Cx}
def rSlS:V->Option Int->Option Int->Hp->VK->Prop:=fun x lo hi H Q=>∃z,x = .str z/\z.length<=sizeLine/\Q (.str (Txt.slice z lo hi)) H
theorem sl_str:SlR X rSlS:=by
 intro pins s σ H x v vl vu lo hi sl Q I rx hs pl pu h;obtain ⟨z,rfl,hz,q⟩:=h;obtain ⟨t,rfl⟩:=rx;refine ⟨"str",_,F.slot_str_getitem.lookup,typeIs_str _ _ _,?_⟩
 have key:∀l u:Option (Int×Tok),partValue l=vl->partValue u=vu->l.map (·.1)=lo->u.map (·.1)=hi->wpAny (model X.prog X.w) X.A (getItem (.str z t) (.ref sl)) (EP X pins σ Q) X.xe s:=by
  rintro l u rfl rfl rfl rfl;exact wpAny_getItem_str_slice (l:=l) (u:=u) (st:=none) hs rfl (post_val_or_str ⟨Nat.le_trans (Txt.slice_le z _ _) hz,fun t' k=>⟨.str _,H,I.tok _,⟨t',rfl⟩,q⟩⟩)
 cases pl with
 | none=>
  cases pu with
  | none=>exact key none none rfl rfl rfl rfl
  | int j t2=>exact key none (some (j,t2)) rfl rfl rfl rfl
 | int i t1=>
  cases pu with
  | none=>exact key (some (i,t1)) none rfl rfl rfl rfl
  | int j t2=>exact key (some (i,t1)) (some (j,t2)) rfl rfl rfl rfl
def Its(z:Str):It:=⟨fun i _=>i<z.cps.size,fun i H x H'=>H'=H/\∃c,z.cps[i]? = some c/\x = .str ⟨#[c]⟩,fun i _=>z.cps.size<=i⟩
theorem turn_str {P : Program} {w : World} {K : PySem.W.Frag} {tg : Expr} (it : Addr) (z : Str) (t : Tok) (cls : String) (hcls : ["enumerate", "zip", "dict_itemiterator", "dict_reverseitemiterator", "odict_iterator", "itertools.zip_longest", "itertools.pairwise"].contains cls = false)
 (hit:∀(A:Around) (s:Shared) (i c:Nat) (Q:Option Value->Shared->Prop) (E:Value->Shared->Prop),s.heap.IsStrIter it cls z t i->z.cps[i]? = some c->(∀h',h'.IsStrIter it cls z t (i+1)->Heap.SameBut it s.heap h'->Q (some (.str ⟨#[c]⟩ s.toks)) {s with heap:=h',toks:=s.toks+1})->wpAny (model P w) A (pyNext (.ref it)) Q E s)
 (hend:∀(A:Around) (s:Shared) (i:Nat) (Q:Option Value->Shared->Prop) (E:Value->Shared->Prop),A.handled=none->s.heap.IsStrIter it cls z t i->z.cps[i]? = none->(∀h',Heap.ExtBut it s.heap h'->Q none {s with heap:=h' })->wpAny (model P w) A (pyNext (.ref it)) Q E s)
 (hself:∀(A:Around) (s:Shared) (i:Nat) (Q:Value->Shared->Prop) (E:Value->Shared->Prop),s.heap.IsStrIter it cls z t i->Q (.ref it) s->wpAny (model P w) A (pyIter (.ref it)) Q E s) :
 Turn P w K tg (Its z) [it] it (fun i h=>h.IsStrIter it cls z t i) where
 mem:=by simp
 obj:=fun i h st b hb=>by
  have e:b=it:=by simpa using hb
  subst e;obtain ⟨o,e,c,d⟩:=st;exact ⟨o,e,fun v q=>by rw [d] at q;cases q⟩
 keep:=fun i h h' st k=>by
  obtain ⟨o,e,r⟩:=st;exact ⟨o,k it (by simp) o e,r⟩
 item:=by
  intro X hP hw hK hc i pins s σ H E I hf st hg;subst hP hw hK;obtain ⟨f0,f1,f2,f3,f4,f5⟩:=hf it (by simp);have hlt:i<z.cps.size:=hg;refine hit X.A s i z.cps[i] _ _ st (by simp [hlt]) fun h' st' sb=> ?_;have I1:Inv X pins σ H {s with heap:=h',toks:=s.toks+1}:=I.turned (fun b o hb e=>(sb.2 b hb).trans e) f0 f1 f3 f4 f5;obtain ⟨o,e,c,d⟩:=id st';exact ⟨_,rfl,go_of (s:={s with heap:=h',toks:=s.toks+1}) e c d hcls ⟨.str ⟨#[z.cps[i]]⟩,H,I1,⟨_,rfl⟩,⟨rfl,_,by simp [hlt],rfl⟩,st',fun b hb=>(hf b hb).1⟩⟩
 done:=by
  intro X hP hw hK hc i pins s σ H E I hf st hg;subst hP hw hK;obtain ⟨f0,f1,f2,f3,f4,f5⟩:=hf it (by simp);have hle:z.cps.size<=i:=hg;exact hend X.A s i _ _ (I.ok.hd hc) st (by simp [hle]) fun h' eb=>⟨rfl,I.turned (t':=s.toks) (fun b o hb e=>eb b o hb e) f0 f1 f3 f4 f5⟩
 self:=fun A i s Q E st h=>hself A s i Q E st h
def iStr(te:TE):TI:=fun σ H R=>te σ H fun x H1=>∃z,x = .str z/\R (Its z) H1
theorem pi_str{tg e:Expr}{te:TE}(he:PE X e te):PI X tg e (iStr te):=by
 intro pins s σ H R I h;refine thn (he pins s σ H _ I h) fun v s1 ⟨x,H1,I1,r1,q1⟩ => ?_;obtain ⟨z,rfl,q⟩:=q1;obtain ⟨t,rfl⟩:=r1
 cases ha:z.cps.all (· < 128)
 . refine wpAny_pyIter_wide ha ?_;refine ⟨s1.heap.objs.size,[s1.heap.objs.size],_,_,H1,rfl,I1.kept (t':=s1.toks) fun b o e=>Heap.get?_push_of_some _ e,turn_str _ z t "str_iterator" (by decide) (fun A s i c Q E a b k=>wpAny_pyNext_wide_item a b k) (fun A s i Q E h a b k=>wpAny_pyNext_wide_end h a b k) (fun A s i Q E a k=>wpAny_pyIter_striter_wide a k),⟨_,Heap.get?_push_size _ rfl,rfl,rfl⟩,fun b hb=> ?_,q⟩;have e:b=s1.heap.objs.size:=by simpa using hb
   subst e;exact I1.fpOk (Nat.le_refl _) (I1.hok.fresh (Nat.le_refl _))
 . refine wpAny_pyIter_ascii ha ?_;refine ⟨s1.heap.objs.size,[s1.heap.objs.size],_,_,H1,rfl,I1.kept (t':=s1.toks) fun b o e=>Heap.get?_push_of_some _ e,turn_str _ z t "str_ascii_iterator" (by decide) (fun A s i c Q E a b k=>wpAny_pyNext_ascii_item a b k) (fun A s i Q E h a b k=>wpAny_pyNext_ascii_end h a b k) (fun A s i Q E a k=>wpAny_pyIter_striter_ascii a k),⟨_,Heap.get?_push_size _ rfl,rfl,rfl⟩,fun b hb=> ?_,q⟩;have e:b=s1.heap.objs.size:=by simpa using hb
   subst e;exact I1.fpOk (Nat.le_refl _) (I1.hok.fresh (Nat.le_refl _))
def rSw:V->List V->Hp->VK->Prop:=fun x xs H Q=>∃z y,x = .str z/\xs = [.str y]/\Q (.bl (Txt.startswith z y)) H
theorem mt_startswith:MtR X "str.startswith" rSw:=by
 intro pins s σ H x xs v us Q I rx r h;obtain ⟨z,y,rfl,rfl,q⟩:=h;obtain ⟨t,rfl⟩:=rx;obtain ⟨u,rfl,t',rfl⟩:=vals1 r;exact call_gives F.slot_str_startswith (typeIs_str _ _ _) F.entry_str_startswith (F.args_str_startswith_2 _ _) (gives_str_startswith z y t t') ⟨.bl _,H,I,rfl,q⟩
theorem vals_strs:∀(l:List (Str×Tok)),Vals ((l.map (·.1)).map V.str) (strValues l)
 | []=> .nil
 | p::r=> .cons ⟨p.2,rfl⟩ (vals_strs r)
theorem strs_vals:∀ {zs:List Str} {us:List Value},Vals (zs.map V.str) us->∃l:List (Str×Tok),l.map (·.1)=zs/\us=strValues l
 | [],_,h=>by cases h;exact ⟨[],rfl,rfl⟩
 | z::r,_,h=>by
  cases h with
  | cons h t=>
   obtain ⟨k,rfl⟩:=h;obtain ⟨l,rfl,rfl⟩:=strs_vals t;exact ⟨(z,k)::l,rfl,rfl⟩
open Builtin.Str in
def rSplit:V->List V->Hp->VK->Prop:=fun x xs H Q=>∃z y,x = .str z/\xs = [.str y]/\(y.length==0)=false/\z.length<sizeLine/\(Txt.split z y).length<=sizeLine/\(partsBetween z (occurrences z y 0 z.length (z.length+1)) y.length).length<=sizeLine/\∀p,H p=none->Q (.ref p) (upd H p (.lst ((Txt.split z y).map V.str)))
open Builtin Builtin.Str in
theorem mt_split:MtR X "str.split" rSplit:=by
 intro pins s σ H x xs v us Q I rx r h;obtain ⟨z,y,rfl,rfl,hy,hz,hn,hn2,q⟩:=h;obtain ⟨t,rfl⟩:=rx;obtain ⟨u',rfl,u,rfl⟩:=vals1 r
 have fin:∀(l:List (Str×Tok)) (tk:Nat),l.map (·.1)=Txt.split z y->EP X pins σ Q (.ref s.heap.objs.size) {s with toks:=tk,heap:=s.heap.push {cls:= .type "list",data:= .seq (strValues l).toArray} }:=fun l tk hl=>by
  refine ⟨.ref s.heap.objs.size,_,I.laid (t':=tk) (o:= .lst ((Txt.split z y).map V.str)) (fun b ob q=>Heap.get?_push_of_some _ q) (Nat.le_refl _) ?_,rfl,q _ (I.hok.fresh (Nat.le_refl _))⟩;exact ⟨by rw [List.length_map];exact hn,strValues l,_,by rw [<-hl];exact vals_strs l,Heap.get?_push_size _ rfl⟩
 cases h1:(decide (z.length<y.length) || decide (strKind z<strKind y))
 . cases hf:(occurrences z y 0 z.length (z.length+1)).isEmpty
   . refine call_meets F.slot_str_split (typeIs_str _ _ _) F.entry_str_split (F.args_str_split_2 _ _) (meets_str_split_sep z y t u h1 hy hf (Nat.le_of_lt hz) hn2) ?_;show wants _ _ _ {s with toks:=_,heap:=s.heap.push {cls:= .type "list",data:= .seq (strsFrom s.toks (partsBetween z (occurrences z y 0 z.length (z.length+1)) y.length)).toArray} };rw [strsFrom_eq];exact fin (numbered s.toks _) _ ((numbered_texts _ _).trans ((if_neg (ne_true_of_eq_false h1)).trans (if_neg (ne_true_of_eq_false hf))).symm)
   . exact call_meets F.slot_str_split (typeIs_str _ _ _) F.entry_str_split (F.args_str_split_2 _ _) (meets_str_split_not_found z y t u h1 hy hf)
      (fin [(z,t)] _ ((if_neg (ne_true_of_eq_false h1)).trans (if_pos hf)).symm)
 . exact call_meets F.slot_str_split (typeIs_str _ _ _) F.entry_str_split (F.args_str_split_2 _ _) (meets_str_split_cannot_occur z y t u h1) (fin [(z,t)] _ (if_pos h1).symm)
def rJoin(K:PySem.W.Frag):V->List V->Hp->VK->Prop:=fun x xs H Q=>∃z p zs,x = .str z/\xs = [.ref p]/\SqL K H p (zs.map V.str)/\JoinOk z zs=true/\Q (.str (Txt.join z zs)) H
theorem mt_join:MtR X "str.join" (rJoin X.K):=by
 intro pins s σ H x xs v us Q I rx r h;obtain ⟨z,p,zs,rfl,rfl,hq,hok,q⟩:=h;obtain ⟨t,rfl⟩:=rx;obtain ⟨u',rfl,rfl⟩:=vals1 r;obtain ⟨its,rv,pl,hz⟩:=I.list hq;obtain ⟨l,hl,rfl⟩:=strs_vals rv;exact SC.join pl.isList hl hok fun t' k=>⟨.str _,H,I.tok _,⟨t',rfl⟩,q⟩
theorem call_intS:CallR X (.type "int") (fun xs H Q=>∃z n,xs = [.str z]/\PySem.intText? z=some n/\z.length<=640/\Q (.int n) H):=by
 intro pins s σ H xs us Q I r h;obtain ⟨z,n,rfl,h1,h2,q⟩:=h;obtain ⟨u,rfl,t,rfl⟩:=vals1 r;exact PySem.W.KIN.call_text h1 h2 ⟨.int n,H,I.tok _,⟨_,rfl⟩,q⟩
end
end Tf
namespace Dm
open PySem PySem.Spec PyProof.Rows L2 Tf
section
variable {K:PySem.W.Frag} {R:Rl} [RelOk K R]
def dSlX(a:Sl)(lo hi:Option Int):Option Sl:=match a with
 | .val (.str z)=>if z.length<=sizeLine then some (.val (.str (Txt.slice z lo hi))) else none
 | _=>none
def mSlX(f:En->Option Sl)(l h:En->Option (Option Int)):En->Option Sl:=fun ρ=>(f ρ).bind fun a=>(l ρ).bind fun lo=>(h ρ).bind fun hi=>dSlX a lo hi
theorem re_slX{te:TE}{tl th:TO}{f:En->Option Sl}{fl fh:En->Option (Option Int)}(h:RP K R te f)(hl:RO K R tl fl)(hh:RO K R th fh):RE K R (tSl rSlS te tl th) (mSlX f fl fh):=fun HB σ ρ H0 H s e z hz Q q=>by
 obtain ⟨a,ha,hz⟩:=Option.bind_eq_some_iff.mp hz;obtain ⟨lo,hlo,hz⟩:=Option.bind_eq_some_iff.mp hz;obtain ⟨hi,hhi,hz⟩:=Option.bind_eq_some_iff.mp hz;refine h HB σ ρ H0 H s e a ha _ fun v H1 J1 x1 p1=> ?_;refine hl HB σ ρ H1 J1 x1.s1 (e.ext (K:=K) x1) lo hlo _ fun H2 J2 x2=> ?_;refine hh HB σ ρ H2 J2 x2.s1 ((e.ext (K:=K) x1).ext (K:=K) x2) hi hhi _ fun H3 J3 x3=> ?_;have x:=(x1.trans x2).trans x3;unfold dSlX at hz
 split at hz
 . split at hz
   . rename_i hc
     cases hz
     exact ⟨_,p1.str,hc,q _ _ _ x (.str _)⟩
   . cases hz
 . cases hz
def dIxX:Sl->Sl->Option Sl
 | .val (.str z), .val (.int i)=>if z.length<=sizeLine then (atI z.cps.toList i).map fun c=> .val (.str ⟨#[c]⟩) else none
 | _,_=>none
theorem opd_ixX:OpD K rIxS dIxX:=fun H0 H x y sx sy z s px py hz Q q=>by
 unfold dIxX at hz
 split at hz
 . split at hz
   . rename_i hc;obtain ⟨c,he,rfl⟩:=Option.map_eq_some_iff.mp hz;exact ⟨_,_,c,px.str,py.int,hc,he,q _ _ _ (Ext.refl s) (.str _)⟩
   . cases hz
 . cases hz
def dLenX:List Sl->Option Sl
 | [.val (.str z)]=>if z.length<=sizeLine then some (.val (.int z.length)) else none
 | _=>none
theorem cd_lenX:CallD K (fun xs H Q=>∃z,xs = [.str z]/\z.length<=sizeLine/\Q (.int z.length) H) dLenX:=fun H0 H vs ss z s p hz Q q=>by
 unfold dLenX at hz
 split at hz
 . split at hz
   . rename_i hc
     cases hz
     obtain ⟨v,rfl,h⟩:=paired1 p
     cases h.str
     exact ⟨_,rfl,hc,q _ _ _ (Ext.refl s) (.int _)⟩
   . cases hz
 . cases hz
def dAddX:Sl->Sl->Option Sl
 | .val (.str a), .val (.str b)=>if a.length+b.length<=sizeLine then some (.val (.str (a++b))) else none
 | _,_=>none
theorem opd_addX:OpD K (fun x y H Q=>∃i j,x = .str i/\y = .str j/\i.length+j.length<=sizeLine/\Q (.str (i++j)) H) dAddX:=fun H0 H x y sx sy z s px py hz Q q=>by
 unfold dAddX at hz
 split at hz
 . split at hz
   . rename_i hc
     cases hz
     exact ⟨_,_,px.str,py.str,hc,q _ _ _ (Ext.refl s) (.str _)⟩
   . cases hz
 . cases hz
def dInX:Sl->Sl->Option Sl
 | .val (.str a), .val (.str b)=>some (.val (.bool (Txt.contains b a)))
 | _,_=>none
theorem opd_inX:OpD K (fun x y H Q=>∃i j,x = .str i/\y = .str j/\Q (.bl (!(Builtin.Str.occurrences j i 0 j.length 1).isEmpty)) H) dInX:=fun H0 H x y sx sy z s px py hz Q q=>by
 unfold dInX at hz
 split at hz
 . cases hz
   exact ⟨_,_,px.str,py.str,q _ _ _ (Ext.refl s) (.bool _)⟩
 . cases hz
def mItX(f:En->Option Sl):En->Option (List PyData):=fun ρ=>(f ρ).bind fun a=>match a with
 | .val (.str z)=>some (z.cps.toList.map fun c=> .str ⟨#[c]⟩)
 | _=>none
theorem it_str{H0:Hp}{z:Str}:ItR K H0 (Its z) (z.cps.toList.map fun c=> .str ⟨#[c]⟩):=fun H0' H' s s' i=>by
 refine ⟨fun d hd=> ?_,fun hi=> ?_⟩
 . rw [List.getElem?_map] at hd
   obtain ⟨c,hc,rfl⟩:=Option.map_eq_some_iff.mp hd;have hc':z.cps[i]? = some c:=by rw [<-Array.getElem?_toList];exact hc
   refine ⟨(Array.getElem?_eq_some_iff.mp hc').1,fun x H2 y=> ?_⟩;obtain ⟨rfl,c',e,rfl⟩:=y;rw [hc'] at e
   cases e
   exact ⟨H0',Ext.refl s', .str _⟩
 . show z.cps.size<=i;simpa using hi
theorem ri_str{te:TE}{f:En->Option Sl}(h:RE K R te f):RI K R (iStr te) (mItX f):=fun HB σ ρ H0 H s e ds hd R q=>by
 obtain ⟨a,ha,hd⟩:=Option.bind_eq_some_iff.mp hd
 split at hd
 . cases hd
   refine h HB σ ρ H0 H s e _ ha _ fun v H1 J1 x1 p1=> ?_;exact ⟨_,p1.p.str,q _ _ _ x1 it_str⟩
 . cases hd
def dSw:Sl->Sl->Option Sl
 | .val (.str a), .val (.str b)=>some (.val (.bool (Txt.startswith a b)))
 | _,_=>none
theorem re_sw{ta tb:TE}{fa fb:En->Option Sl}(ha:RP K R ta fa)(hb:RP K R tb fb):RE K R (tBM K "str" rSw ta (tCons tb tNil)) (mBin dSw fa fb):=fun HB σ ρ H0 H s e z hz Q q=>by
 obtain ⟨x,hx,hz⟩:=Option.bind_eq_some_iff.mp hz;obtain ⟨y,hy,hz⟩:=Option.bind_eq_some_iff.mp hz;unfold dSw at hz
 split at hz
 . cases hz
   refine ha HB σ ρ H0 H s e _ hx _ fun v H1 J1 x1 p1=> ?_
   cases p1.str
   refine ⟨rfl,?_⟩;refine hb HB σ ρ H1 J1 x1.s1 (e.ext (K:=K) x1) _ hy _ fun u H2 J2 x2 p2=> ?_
   cases p2.str
   exact ⟨_,_,rfl,rfl,q _ _ _ (x1.trans x2) (.bool _)⟩
 . cases hz
def dSplit:Sl->Sl->Option Sl
 | .val (.str a), .val (.str b)=>if (b.length==0)=false/\a.length+2<=sizeLine then some (.own ((Txt.split a b).map .str)) else none
 | _,_=>none
theorem split_few(a b:Str):(Txt.split a b).length<=a.length+2:=by
 unfold Txt.split
 split
 . simp
 . split
   . simp
   . rw [length_partsBetween];have:=StrLaws.occ_length_le a b 0 a.length (a.length+1);omega
theorem reps_strs{H:Hp}:∀zs:List Str,Reps K H (zs.map V.str) (zs.map .str)
 | []=> .nil
 | z::r=> .cons (.str z) (reps_strs r)
theorem re_split{ta tb:TE}{fa fb:En->Option Sl}(ha:RP K R ta fa)(hb:RP K R tb fb):RE K R (tBM K "str" rSplit ta (tCons tb tNil)) (mBin dSplit fa fb):=fun HB σ ρ H0 H s e z hz Q q=>by
 obtain ⟨x,hx,hz⟩:=Option.bind_eq_some_iff.mp hz;obtain ⟨y,hy,hz⟩:=Option.bind_eq_some_iff.mp hz;unfold dSplit at hz
 split at hz
 . rename_i a b _
   split at hz
   . rename_i hc
     cases hz
     refine ha HB σ ρ H0 H s e _ hx _ fun v H1 J1 x1 p1=> ?_
     cases p1.str
     refine ⟨rfl,?_⟩;refine hb HB σ ρ H1 J1 x1.s1 (e.ext (K:=K) x1) _ hy _ fun u H2 J2 x2 p2=> ?_
     cases p2.str
     have x:=x1.trans x2;refine ⟨_,_,rfl,rfl,hc.1,by have:=hc.2;omega,Nat.le_trans (split_few a b) hc.2,?_,fun l hl=>q _ _ _ (x.trans (Ext.alloc x.s1 hl _)) ⟨l,_,rfl,x.s.free hl,x.s1.free hl,upd_same,reps_strs _⟩⟩;rw [length_partsBetween];have:=StrLaws.occ_length_le a b 0 a.length (a.length+1);have:=hc.2;omega
   . cases hz
 . cases hz
def strsOf:List PyData->Option (List Str)
 | []=>some []
 | .str z::r=>(strsOf r).map (z :: ·)
 | _::_=>none
theorem strsOf_eq:∀ {ds:List PyData} {zs:List Str},strsOf ds=some zs->ds=zs.map .str
 | [],_,h=>by cases h;rfl
 | d::r,zs,h=>by
  cases d with
  | str z=>
   obtain ⟨l,hl,rfl⟩:=Option.map_eq_some_iff.mp (show (strsOf r).map (z :: ·)=some zs from h);rw [strsOf_eq hl]
   rfl
  | _=>cases h
theorem strsOf_map:∀zs:List Str,strsOf (zs.map .str)=some zs
 | []=>rfl
 | z::r=>by
  show (strsOf (r.map .str)).map (z :: ·)=_;rw [strsOf_map r];rfl
theorem strs_reps{H:Hp}:∀ {zs:List Str} {vs:List V},Reps K H vs (zs.map .str)->vs=zs.map V.str
 | [],_,h=>by cases h;rfl
 | z::r,_,h=>by
  cases h with
  | cons h t=>
   cases h
   rw [strs_reps t];rfl
def dJoin:Sl->Sl->Option Sl
 | .val (.str a),b=>match b.dat with
  | .list ds=>(strsOf ds).bind fun zs=>if JoinOk a zs=true then some (.val (.str (Txt.join a zs))) else none
  | _=>none
 | _,_=>none
theorem re_join{ta tb:TE}{fa fb:En->Option Sl}(ha:RP K R ta fa)(hb:RP K R tb fb):RE K R (tBM K "str" (rJoin K) ta (tCons tb tNil)) (mBin dJoin fa fb):=fun HB σ ρ H0 H s e z hz Q q=>by
 obtain ⟨x,hx,hz⟩:=Option.bind_eq_some_iff.mp hz;obtain ⟨y,hy,hz⟩:=Option.bind_eq_some_iff.mp hz;unfold dJoin at hz
 split at hz
 . rename_i a
   split at hz
   . rename_i ds hd;obtain ⟨zs,hs,hz⟩:=Option.bind_eq_some_iff.mp hz
     split at hz
     . rename_i hc
       cases hz
       refine ha HB σ ρ H0 H s e _ hx _ fun v H1 J1 x1 p1=> ?_
       cases p1.str
       refine ⟨rfl,?_⟩;refine hb HB σ ρ H1 J1 x1.s1 (e.ext (K:=K) x1) _ hy _ fun u H2 J2 x2 p2=> ?_;obtain ⟨b,vs,rfl,h1,h2⟩:=p2.lst x2.s1 hd;rw [strsOf_eq hs] at h2
       cases strs_reps h2
       exact ⟨_,_,zs,rfl,rfl,h1,hc,q _ _ _ (x1.trans x2) (.str _)⟩
     . cases hz
   . cases hz
 . cases hz
def dIntS:List Sl->Option Sl
 | [.val (.str z)]=>if z.length<=640 then (PySem.intText? z).map fun n=> .val (.int n) else none
 | _=>none
theorem cd_intS:CallD K (fun xs H Q=>∃z n,xs = [.str z]/\PySem.intText? z=some n/\z.length<=640/\Q (.int n) H) dIntS:=fun H0 H vs ss z s p hz Q q=>by
 unfold dIntS at hz
 split at hz
 . split at hz
   . rename_i hc;obtain ⟨n,hn,rfl⟩:=Option.map_eq_some_iff.mp hz;obtain ⟨v,rfl,h⟩:=paired1 p
     cases h.str
     exact ⟨_,n,rfl,hn,hc,q _ _ _ (Ext.refl s) (.int _)⟩
   . cases hz
 . cases hz
theorem log_small{i:Int}(h:0<=i/\i<1000):i.natAbs.log2<1920:=by
 have:i.natAbs<2 ^ 10:=by omega
 by_cases h0:i.natAbs=0
 . rw [h0];decide
 . exact Nat.lt_trans ((Nat.log2_lt h0).mpr this) (by decide)
end
section
variable {X:Cx} {R:Rl} [RelOk X.K R] {a b e tg:Expr} {f fa fb:En->Option Sl} {pos apos cpos p2:Pos} {lo hi:Option Expr} {fl fh:En->Option (Option Int)}
theorem de_slX(h:DP X R e f)(hl:DO X R lo fl)(hh:DO X R hi fh):DE X R (.Subscript e (.Slice lo hi none p2) pos) (mSlX f fl fh):=by
 obtain ⟨t,h1,h2⟩:=h;obtain ⟨u,h3,h4⟩:=hl;obtain ⟨v,h5,h6⟩:=hh;exact ⟨_,pe_slice sl_str h1 h3 h5,re_slX h2 h4 h6⟩
theorem de_ixX(ha:DP X R a fa)(hb:DP X R b fb)(hs:PlainIx b:=by intro _ _;rfl):DE X R (.Subscript a b pos) (mBin dIxX fa fb):=by
 obtain ⟨ta,h1,h2⟩:=ha;obtain ⟨tb,h3,h4⟩:=hb;exact ⟨_,pe_ix ix_str h1 h3 hs,re_bin opd_ixX h2 h4⟩
theorem de_addX(ha:DP X R a fa)(hb:DP X R b fb):DE X R (.BinOp a .Add b pos) (mBin dAddX fa fb):=de_op op_add_str opd_addX ha hb
theorem de_inX(ha:DP X R a fa)(hb:DP X R b fb)(hm:behindInMarks .In b=false:=by rfl):DE X R (.Compare a [.In] [b] pos) (mBin dInX fa fb):=de_cmp op_in_str opd_inX ha hb hm
theorem di_str(h:DE X R e f):DI X R tg e (mItX f):=by obtain ⟨t,h1,h2⟩:=h;exact ⟨_,pi_str h1,ri_str h2⟩
theorem de_sw (ha : DP X R a fa) (hb : DP X R b fb) (hbase : attributeBase a "startswith" X.env (eval a X.env) = eval a X.env := by rfl)
 (hst:starEach [b] X.env=(false,eval b X.env)::starEach [] X.env:=by rfl)
 (hfew:((backTo cpos (starEach [b] X.env)).all (fun x=> !x.1) && (backToKw cpos (keywordEach [] X.env)).all (fun x=>x.1.isSome) && decide ([b].length+([]:List Keyword).length+(if ([]:List Keyword).isEmpty then 0 else 1)<30))=true:=by rfl)
 (hline:(apos.endLine==cpos.line)=true:=by rfl) (hplain:(backTo cpos (starEach [] X.env)).any (·.1)=false:=by rfl) :
 DE X R (.Call (.Attribute a "startswith" apos) [b] [] cpos) (mBin dSw fa fb):=by
 obtain ⟨t,h1,h2⟩:=ha;obtain ⟨u,h3,h4⟩:=hb;exact ⟨_,pe_bm PySem.F.plainAttrs_str PySem.F.slot_str_startswith PySem.F.type_str_startswith mt_startswith h1 (pa_cons h3 pa_nil hst) hbase hfew hline hst hplain,re_sw h2 h4⟩
theorem de_split (ha : DP X R a fa) (hb : DP X R b fb) (hbase : attributeBase a "split" X.env (eval a X.env) = eval a X.env := by rfl)
 (hst:starEach [b] X.env=(false,eval b X.env)::starEach [] X.env:=by rfl)
 (hfew:((backTo cpos (starEach [b] X.env)).all (fun x=> !x.1) && (backToKw cpos (keywordEach [] X.env)).all (fun x=>x.1.isSome) && decide ([b].length+([]:List Keyword).length+(if ([]:List Keyword).isEmpty then 0 else 1)<30))=true:=by rfl)
 (hline:(apos.endLine==cpos.line)=true:=by rfl) (hplain:(backTo cpos (starEach [] X.env)).any (·.1)=false:=by rfl) :
 DE X R (.Call (.Attribute a "split" apos) [b] [] cpos) (mBin dSplit fa fb):=by
 obtain ⟨t,h1,h2⟩:=ha;obtain ⟨u,h3,h4⟩:=hb;exact ⟨_,pe_bm PySem.F.plainAttrs_str PySem.F.slot_str_split PySem.F.type_str_split mt_split h1 (pa_cons h3 pa_nil hst) hbase hfew hline hst hplain,re_split h2 h4⟩
theorem de_join (ha : DP X R a fa) (hb : DP X R b fb) (hbase : attributeBase a "join" X.env (eval a X.env) = eval a X.env := by rfl)
 (hst:starEach [b] X.env=(false,eval b X.env)::starEach [] X.env:=by rfl)
 (hfew:((backTo cpos (starEach [b] X.env)).all (fun x=> !x.1) && (backToKw cpos (keywordEach [] X.env)).all (fun x=>x.1.isSome) && decide ([b].length+([]:List Keyword).length+(if ([]:List Keyword).isEmpty then 0 else 1)<30))=true:=by rfl)
 (hline:(apos.endLine==cpos.line)=true:=by rfl) (hplain:(backTo cpos (starEach [] X.env)).any (·.1)=false:=by rfl) :
 DE X R (.Call (.Attribute a "join" apos) [b] [] cpos) (mBin dJoin fa fb):=by
 obtain ⟨t,h1,h2⟩:=ha;obtain ⟨u,h3,h4⟩:=hb;exact ⟨_,pe_bm PySem.F.plainAttrs_str PySem.F.slot_str_join PySem.F.type_str_join mt_join h1 (pa_cons h3 pa_nil hst) hbase hfew hline hst hplain,re_join h2 h4⟩
theorem de_lenX {x:Expr} {p:Pos} {fq:En->Option (List Sl)} (hm:X.mg "len" = none) (h:DQ X R [x] fq) (hg:Gl X "len" :=by rfl) (he:starEach [x] X.env=(false,eval x X.env)::starEach [] X.env:=by rfl) (hpl:(backTo pos (starEach [] X.env)).any (·.1)=false:=by rfl):DE X R (.Call (.Name "len" p) [x] [] pos) (mCallP dLenX fq):=de_blt call_len_str cd_lenX bt_len hm h hg (by decide) (by decide) he hpl
theorem de_intS {x:Expr} {p:Pos} {fq:En->Option (List Sl)} (hm:X.mg "int" = none) (h:DQ X R [x] fq) (hg:Gl X "int" :=by rfl) (he:starEach [x] X.env=(false,eval x X.env)::starEach [] X.env:=by rfl) (hpl:(backTo pos (starEach [] X.env)).any (·.1)=false:=by rfl):DE X R (.Call (.Name "int" p) [x] [] pos) (mCallP dIntS fq):=de_ty call_intS cd_intS bt_int hm h hg (by decide) (by decide) he hpl
end
end Dm
namespace Dm
open PySem PySem.Spec PyProof.Rows L2 Tf
section
variable {X:Cx} {R R':Rl} [RelOk X.K R] [RelOk X.K R'] {W:Hp->Prop} {C:Addr} {e tg:Expr} {es:List Expr} {pos p:Pos} {f:En->Option Sl} {fx:En->Option (Option Sl)} {fs:En->Option (List PyData)} {sts:List Stmt} {gx:En->Option (Option Out)}
def DEx(X:Cx)(R:Rl)(W:Hp->Prop)(e:Expr)(f:En->Option (Option Sl)):Prop:=∃te,PE X e te/\REx X.K R W te f
def DIx(X:Cx)(R:Rl)(W:Hp->Prop)(tg e:Expr)(f:En->Option (Option (List PyData))):Prop:=∃wi,PI X tg e wi/\RIx X.K R W wi f
theorem dex_call {k j : Nat} {x : Str} {ps : List Str} {F : List PyData -> Option (Option Sl)} (D : DefX X.prog X.w X.K X.mg X.base C j x ps (spX X.K F)) (hp : Passes (CXe X.prog X.w C) X (fun _ _ H => W H)) (hr : Room k X.A) (h : DA X R (e :: es) fs) (hj : j <= k := by decide) (hg : Gl X x := by rfl)
 (hdb:(x==("__debug__" : Str))=false:=by decide) (he:starEach (e::es) X.env=(false,eval e X.env)::starEach es X.env:=by rfl) (hpl:(backTo pos (starEach es X.env)).any (·.1)=false:=by rfl):DEx X R W (.Call (.Name x p) (e::es) [] pos) (mCallx F fs):=by
 obtain ⟨g,fd,G,hm,hk,hb⟩:=D.ex;obtain ⟨t,h1,h2⟩:=h;exact ⟨_,pe_call G (hr.mono hj) hg hm hk hb .nil hp h1 hdb he hpl,rex_call h2⟩
theorem dix_of{fi:En->Option (List PyData)}(h:DI X R tg e fi):DIx X R W tg e (mItx fi):=by obtain ⟨t,h1,h2⟩:=h;exact ⟨t,h1,rix_of h2⟩
theorem dix_list(h:DEx X R W e fx):DIx X R W tg e (mItemsx fx):=by obtain ⟨t,h1,h2⟩:=h;exact ⟨_,pi_list h1,rix_list h2⟩
theorem dx_set {x : Str} {pos' : Pos} (i : Nat) (h : DEx X R W e fx) (k : DSx X R W sts gx) (hN : X.N.Nodup) (hi : X.N[i]? = some x := by rfl) (hx : Loc X.env.scope x := by first | exact Or.inl rfl | exact Or.inr rfl) (hs : swapsWith e (some (.Name x pos')) pos.line X.env = pure false := by rfl) (hf : X.fn x = true \/ X.env.scope.names.lookup x = some .local := by first | exact .inl rfl | exact .inr rfl) (hsl : R.slot i := by first | exact True.intro | exact ⟨of_decide_eq_true rfl, of_decide_eq_true rfl⟩) :
 DSx X R W (.Assign [.Name x pos'] e pos::sts) (mSqx (mAsgx i fx) gx):=by
 obtain ⟨t,h1,h2⟩:=h;obtain ⟨u,h3,h4⟩:=k;refine ⟨_,pss_cons (ps_set hN hi hx h1 hs hf) h3,rsx_seq (fun HB S0 σ ρ H0 H x e o ho D d=> ?_) h4⟩;obtain ⟨r,hr,rfl⟩:=Option.map_eq_some_iff.mp ho;refine h2 HB σ ρ H0 H x.s1 e r hr _ ?_
 cases r with
 | none=>exact fun H1 J1 x1=>d H1 J1 (x.chain x1)
 | some r=>exact fun v H1 J1 x1 p1=>d _ H1 J1 (x.chain x1) ⟨RelOk.set e.r hsl x1 x.s p1⟩
variable {osc sc:Scope} {N':List Str} {elt iter:Expr} {fix:En->Option (Option (List PyData))} {fg:PyData->En->Option En} {fex:En->Option (Option Sl)} {y:Str}
theorem dx_setC {N : List Str} (hlv : ∀ pins σ H s, Inv X pins σ H s -> ∀ a H' s', FlyS X.prog X.w X.stack [] X.H₀ X.s₀ C a H' s' -> W H' -> X.xe (.ref a) s') (ho : X.env.scope = osc) (hN : X.N = N) (i : Nat) (ix : List (Option Nat)) (sb : En -> En) (hx : ∀ (HB : Hp) (σ : L2.St) (ρ : En) (H0 H : Hp), R.r HB H0 H σ ρ -> R'.r (fun _ => none) H0 H (subS ix σ) (sb ρ)) {py spos : Pos} (hnd : X.N.Nodup) (hi : DIx X R W tg iter fix)
 (hg:∀b:CB,DGk (cxC X osc sc N' b) R' (slotS ix) tg fg) (he:∀b:CB,b.xe=bXe X C W b->DEx (cxC X osc sc N' b) R' W elt fex) (k:DSx X R W sts gx)
 (hex:X.ex = []:=by rfl) (hX:X.stack=X.env::X.outer/\X.env.frame=some X.env.locals:=by exact ⟨rfl,rfl⟩)
 (hi':X.N[i]? = some y:=by rfl) (hy:X.env.scope.names.lookup y=some .local:=by rfl) (hsw:swapsWith (.ListComp elt [⟨tg,iter,[],0⟩] sc pos) (some (.Name y py)) spos.line X.env=pure true:=by rfl)
 (hcs:csOk osc sc N N' ix=true:=by decide +kernel) (hc:X.calm=true:=by rfl)
 (hs:∀x,foldedSetIterable iter X.env x=pure x:=by intro _;rfl) (hsl:R.slot i:=by first | exact True.intro | exact ⟨of_decide_eq_true rfl,of_decide_eq_true rfl⟩):DSx X R W (.Assign [.Name y py] (.ListComp elt [⟨tg,iter,[],0⟩] sc pos) spos::sts) (mSqx (mAsgx i (mLCx sb fix fg fex)) gx):=by
 obtain ⟨wi,h1,h2⟩:=hi;obtain ⟨u,h3,h4⟩:=k
 have ch:∀b:CB,∃te:TE,b.xe=bXe X C W b->PE (cxC X osc sc N' b) elt te/\REx X.K R' W te fex:=fun b=>by
  by_cases hb:b.xe=bXe X C W b
  . obtain ⟨te,a1,a2⟩:=he b hb;exact ⟨te,fun _=>⟨a1,a2⟩⟩
  . exact ⟨fun _ _ _=>False,fun z=>absurd z hb⟩
 exact ⟨_,pss_cons (ps_setCx (g:=fun b=>(hg b).choose) (tt:=fun _=>tNoTest) (te:=fun b=>(ch b).choose) hex hX hlv hnd hi' hy hsw hc ho hN hcs h1 (fun b hb=>⟨(hg b).choose_spec.1,pts_nil,((ch b).choose_spec hb).1⟩) (fun b _=>(hg b).choose_spec.2.2.gk) hs) h3,
  rsx_seq (rsx_asgC hsl (rex_lc hx h2 (fun b _=>(hg b).choose_spec.2.1) (fun b hb=>((ch b).choose_spec hb).2))) h4⟩
end
section
variable {P:Program} {w:World} {K:PySem.W.Frag} {mg:Str->Option Value} {base:Heap} {N:List Str} {qual:Str} {scope:Scope} {fa C:Addr} {cd:Value} {A:Around} {outer:List Env} {s0:Shared} {H0:Hp} {E:XK}
abbrev wE (E:XK):Hp->Prop:=fun H'=>∀u,E u none H'
theorem pass_b:Passes (CXe P w C) (cxOf (CXe P w C) P w K mg base N qual scope fa cd A outer s0 H0 E) (fun _ _ H=>wE E H):=pass1 fun a H h=>h _
theorem lv_b:∀pins σ H s,Inv (cxOf (CXe P w C) P w K mg base N qual scope fa cd A outer s0 H0 E) pins σ H s->∀a H' s',FlyS P w (envOfC qual scope s0.heap.objs.size fa cd::outer) [] H0 s0 C a H' s'->wE E H'->(cxOf (CXe P w C) P w K mg base N qual scope fa cd A outer s0 H0 E).xe (.ref a) s' :=
 fun pins σ H s I a H' s' F hw=>fly_leave I.ok.frames F (hw _)
section
variable {sc:Scope} {N':List Str} {elt iter tg:Expr} {fix:En->Option (Option (List PyData))} {fg:PyData->En->Option En} {fex:En->Option (Option Sl)} {y:Str} {R R':Rl} [RelOk K R] [RelOk K R'] {pos:Pos} {sts:List Stmt} {gx:En->Option (Option Out)}
theorem dx_setCb (i : Nat) (ix : List (Option Nat)) (sb : En -> En) (hx : ∀ (HB : Hp) (σ : L2.St) (ρ : En) (H0 H : Hp), R.r HB H0 H σ ρ -> R'.r (fun _ => none) H0 H (subS ix σ) (sb ρ)) {py spos : Pos} (hnd : N.Nodup) (hi : DIx (cxOf (CXe P w C) P w K mg base N qual scope fa cd A outer s0 H0 E) R (wE E) tg iter fix)
 (hg:∀b:CB,DGk (cxC (cxOf (CXe P w C) P w K mg base N qual scope fa cd A outer s0 H0 E) scope sc N' b) R' (slotS ix) tg fg) (he:∀b:CB,b.xe=bXe (cxOf (CXe P w C) P w K mg base N qual scope fa cd A outer s0 H0 E) C (wE E) b->DEx (cxC (cxOf (CXe P w C) P w K mg base N qual scope fa cd A outer s0 H0 E) scope sc N' b) R' (wE E) elt fex) (k:DSx (cxOf (CXe P w C) P w K mg base N qual scope fa cd A outer s0 H0 E) R (wE E) sts gx)
 (hi':N[i]? = some y:=by rfl) (hy:scope.names.lookup y=some .local:=by rfl) (hsw:swapsWith (.ListComp elt [⟨tg,iter,[],0⟩] sc pos) (some (.Name y py)) spos.line (envOfC qual scope s0.heap.objs.size fa cd)=pure true:=by rfl)
 (hcs:csOk scope sc N N' ix=true:=by decide +kernel)
 (hs:∀x,foldedSetIterable iter (envOfC qual scope s0.heap.objs.size fa cd) x=pure x:=by intro _;rfl) (hsl:R.slot i:=by first | exact True.intro | exact ⟨of_decide_eq_true rfl,of_decide_eq_true rfl⟩):DSx (cxOf (CXe P w C) P w K mg base N qual scope fa cd A outer s0 H0 E) R (wE E) (.Assign [.Name y py] (.ListComp elt [⟨tg,iter,[],0⟩] sc pos) spos::sts) (mSqx (mAsgx i (mLCx sb fix fg fex)) gx) :=
 dx_setC (X:=cxOf (CXe P w C) P w K mg base N qual scope fa cd A outer s0 H0 E) (osc:=scope) (N:=N) lv_b rfl rfl i ix sb hx hnd hi hg he k rfl ⟨rfl,rfl⟩ hi' hy hsw hcs rfl hs hsl
end
def mRseE(f:En->Option Sl):En->Option (Option Out):=fun ρ=>(f ρ).map fun _=>none
theorem rsx_raiseE{W:Hp->Prop}{R:Rl} [RelOk K R] {te:TE} {f:En->Option Sl} (h:RE K R te f):RSx K R W (tRse te W) (mRseE f):=fun HB S0 σ ρ H0 H x e o ho D d=>by
 obtain ⟨z,hz,rfl⟩:=Option.map_eq_some_iff.mp ho;exact h HB σ ρ H0 H x.s1 e z hz _ fun v H1 J1 x1 _=>d H1 J1 (x.chain x1)
theorem dx_raiseE {cx : Str} {np cpos pos : Pos} {a : Expr} {f : En -> Option Sl} {R : Rl} [RelOk K R] (h : DE (cxOf (CXe P w C) P w K mg base N qual scope fa cd A outer s0 H0 E) R a f) (hm : mg cx = some (.ref C)) (hx : PySem.W.excIn K C bmV "ValueError.__new__" = true)
 (hg:Gl (cxOf (CXe P w C) P w K mg base N qual scope fa cd A outer s0 H0 E) cx:=by rfl) (hd:(cx==("__debug__" : Str))=false:=by decide) (he:starEach [a] (envOfC qual scope s0.heap.objs.size fa cd) = [(false,eval a (envOfC qual scope s0.heap.objs.size fa cd))]:=by rfl) :
 DSx (cxOf (CXe P w C) P w K mg base N qual scope fa cd A outer s0 H0 E) R (wE E) [.Raise (some (.Call (.Name cx np) [a] [] cpos)) none pos] (mRseE f):=by
 obtain ⟨te,h1,h2⟩:=h;exact ⟨_,pss_one (ps_raise (fun H e h=>h _) hg hm hx h1 hd he),rsx_raiseE h2⟩
end
section
variable {X:Cx}
theorem small_len{n:Int}(h:0<=n/\n<1000):(Str.ofString (toString n)).length<=1000:=by
 have e:=int_text_length_le10 (a:=n) (k:=3) (by decide) (by omega);rw [PySem.ofString_length];omega
def tFsI(i j:Nat):TE:=fun σ H Q=>∃a b:Int,σ[i]? = some (some (.int a))/\σ[j]? = some (some (.int b))/\(0<=a/\a<1000)/\(0<=b/\b<1000)/\∀x,Q (.str x) H
theorem pe_fsI {i j : Nat} {x y t1 t2 : Str} {j1 j2 : Nat} {p1 p2 p3 p4 p5 p6 pos : Pos} (hi : X.N[i]? = some x) (hv : Vis X.env.scope x) (hj : X.N[j]? = some y) (hw : Vis X.env.scope y) (ht1 : t1.length <= 1000) (ht2 : t2.length <= 1000) (hd : (x == ("__debug__" : Str)) = false) (hcd : (x == ("__classdict__" : Str)) = false) (hd2 : (y == ("__debug__" : Str)) = false) (hcd2 : (y == ("__classdict__" : Str)) = false) :
 PE X (.JoinedStr [.Constant (.str t1) j1 p1, .FormattedValue (.Name x p2) (-1) none p3, .Constant (.str t2) j2 p4, .FormattedValue (.Name y p5) (-1) none p6] pos) (tFsI i j):=by
 intro pins s σ H Q I h;obtain ⟨a,b,h1,h2,ha,hb,q⟩:=h;have hz:sizeLine=2 ^ 24:=rfl;have z:Str.empty.length=0:=rfl;have la:=small_len ha;have lb:=small_len hb;refine wpAny_JoinedStr (Joins_cons (Calls.Constant_str ⟨_,_,rfl,?_,?_⟩))
 . rw [strLen_append,hz];omega
 refine Joins_cons (wpAny_FormattedValue_plain (thn ((pe_var (pos:=p2) hi hv hd hcd) pins _ σ H (fun v' H'=>v' = .int a/\H'=H) (I.tok _) ⟨_,h1,rfl,rfl⟩) fun u s1 ⟨v,H1,I1,rv,e1,e2⟩ => ?_));subst e1 e2;obtain ⟨tk,rfl⟩:=rv;refine wpAny_formatField_int (log_small ha) ⟨_,_,rfl,?_,?_⟩
 . rw [strLen_append,strLen_append,hz];omega
 refine Joins_cons (Calls.Constant_str ⟨_,_,rfl,?_,?_⟩)
 . rw [strLen_append,strLen_append,strLen_append,hz];omega
 refine Joins_cons (wpAny_FormattedValue_plain (thn ((pe_var (pos:=p5) hj hw hd2 hcd2) pins _ σ H1 (fun v' H'=>v' = .int b/\H'=H1) ((I1.tok _).tok _) ⟨_,h2,rfl,rfl⟩) fun u s2 ⟨v,H2,I2,rv,e1,e2⟩ => ?_));subst e1 e2;obtain ⟨tk2,rfl⟩:=rv;refine wpAny_formatField_int (log_small hb) ⟨_,_,rfl,?_,Joins_nil ⟨?_,?_⟩⟩
 . rw [strLen_append,strLen_append,strLen_append,strLen_append,hz];omega
 . rw [strLen_append,strLen_append,strLen_append,strLen_append,hz];omega
 . exact ⟨.str _,_,I2.tok _,⟨_,rfl⟩,q _⟩
def mFsI(i j:Nat):En->Option Sl:=fun ρ=>match (ρ[i]?).join,(ρ[j]?).join with
 | some (.val (.int a)),some (.val (.int b))=>if (0<=a/\a<1000)/\0<=b/\b<1000 then some (.val .none) else none
 | _,_=>none
end
section
variable {P:Program} {w:World} {K:PySem.W.Frag} {mg:Str->Option Value} {base:Heap} {N:List Str} {qual:Str} {scope:Scope} {fa C:Addr} {cd:Value} {A:Around} {outer:List Env} {s0:Shared} {H0:Hp} {E:XK}
theorem rsx_fsI{R:Rl} [RelOk K R] {W:Hp->Prop} (i j:Nat) (hi:R.slot i) (hj:R.slot j):RSx K R W (tRse (tFsI i j) W) (mRseE (mFsI i j)):=fun HB S0 σ ρ H0 H x e o ho D d=>by
 obtain ⟨z,hz,rfl⟩:=Option.map_eq_some_iff.mp ho;unfold mFsI at hz
 split at hz
 . rename_i a b ha hb
   split at hz
   . rename_i hc;obtain ⟨v,g1,g2⟩:=RelOk.get (K:=K) e.r hi (join_some ha);obtain ⟨u,g3,g4⟩:=RelOk.get (K:=K) e.r hj (join_some hb)
     cases g2.p.int
     cases g4.p.int
     exact ⟨a,b,g1,g3,hc.1,hc.2,fun _=>d H0 H x⟩
   . cases hz
 . cases hz
theorem dx_raiseI {cx x y t1 t2 : Str} {j1 j2 : Nat} {p1 p2 p3 p4 p5 p6 p7 np cpos pos : Pos} (i j : Nat) (hm : mg cx = some (.ref C)) (hx : PySem.W.excIn K C bmV "ValueError.__new__" = true)
 (hi:N[i]? = some x:=by rfl) (hv:Vis scope x:=by first | exact Or.inl rfl | exact Or.inr (Or.inl rfl) | exact Or.inr (Or.inr rfl)) (hj:N[j]? = some y:=by rfl) (hw:Vis scope y:=by first | exact Or.inl rfl | exact Or.inr (Or.inl rfl) | exact Or.inr (Or.inr rfl)) (ht1:t1.length<=1000:=by decide) (ht2:t2.length<=1000:=by decide) (hg:Gl (cxOf (CXe P w C) P w K mg base N qual scope fa cd A outer s0 H0 E) cx:=by rfl)
 (hd:(cx==("__debug__" : Str))=false:=by decide) (hd1:(x==("__debug__" : Str))=false:=by decide) (hcd1:(x==("__classdict__" : Str))=false:=by decide) (hd2:(y==("__debug__" : Str))=false:=by decide) (hcd2:(y==("__classdict__" : Str))=false:=by decide) :
 DSx (cxOf (CXe P w C) P w K mg base N qual scope fa cd A outer s0 H0 E) (PR K) (wE E) [.Raise (some (.Call (.Name cx np) [.JoinedStr [.Constant (.str t1) j1 p1, .FormattedValue (.Name x p2) (-1) none p3, .Constant (.str t2) j2 p4, .FormattedValue (.Name y p5) (-1) none p6] p7] [] cpos)) none pos] (mRseE (mFsI i j)) :=
 ⟨_,pss_one (ps_raise (fun H e h=>h _) hg hm hx (pe_fsI hi hv hj hw ht1 ht2 hd1 hcd1 hd2 hcd2) hd),rsx_fsI i j True.intro True.intro⟩
end
section
variable {X:Cx} {C D:Addr} {x:Str} {p p1 p2 p3 pos:Pos}
def DXs(X:Cx)(es:List Expr)(Ds:List Addr):Prop:=∃t,PA X es t/\∀σ H (Q:List V->Hp->Prop),Q (Ds.map V.ref) H->t σ H Q
theorem dxs_nil:DXs X [] []:=⟨_,pa_nil,fun σ H Q h=>h⟩
theorem dxs_cons {y:Str} {es:List Expr} {Ds:List Addr} (hx:X.mg y=some (.ref D)) (k:DXs X es Ds) (hgx:Gl X y:=by rfl) (hdx:(y==("__debug__" : Str))=false:=by decide) (hs:starEach (.Name y p::es) X.env=(false,eval (.Name y p) X.env)::starEach es X.env:=by rfl):DXs X (.Name y p::es) (D::Ds):=by
 obtain ⟨t,h1,h2⟩:=k;exact ⟨_,pa_cons (pe_glob (v:= .ref D) hgx hx rfl hdx) h1 hs,fun σ H Q h=>h2 σ H _ h⟩
def rXiT(K:PySem.W.Frag)(C:Addr):List V->Hp->VK->Prop:=fun xs H Q=>∃(a q:Addr) (Ds:List Addr) (b:Bool),xs = [.ref a, .ref q]/\H a=some (xO a C)/\H q=some (.tup (Ds.map V.ref))/\PySem.W.kitAny K (.ref C) (Ds.map Value.ref)=some b/\Q (.bl b) H
theorem vals_refs:∀ {Ds:List Addr} {us:List Value},Vals (Ds.map V.ref) us->us=Ds.map Value.ref
 | [],_,h=>by cases h;rfl
 | d::r,_,h=>by
  cases h with
  | cons h t=>
   cases (show _=Value.ref d from h)
   rw [vals_refs t];rfl
theorem call_xiT(c:XCls X.K C):CallR X (.builtin "isinstance") (rXiT X.K C):=by
 intro pins s σ H xs us Q I r h;obtain ⟨a,q,Ds,b,rfl,h1,h2,e,k⟩:=h;obtain ⟨u,w',rfl,rx,rn⟩:=vals2 r;obtain rfl:u=Value.ref a:=rx;obtain rfl:w'=Value.ref q:=rn;obtain ⟨⟨o,vs,e1,e2,_⟩,_⟩:=(show ObjOk X.prog X.w H s.heap a (xO a C) from I.hok a _ h1);obtain ⟨_,its,rv,o',g1,g2,⟨m,g3⟩⟩:=(show ObjOk X.prog X.w H s.heap q (.tup (Ds.map V.ref)) from I.hok q _ h2);have ev:=vals_refs rv;subst ev;obtain ⟨oc,od,oda,osl⟩:=o'
 dsimp only at g2 g3
 subst g2 g3;exact PySem.W.kia_tup (kitx_exc c) I.kIn ⟨o,e1,e2⟩ g1 e (fun z=>nomatch z) fun tk=>⟨.bl b,H,I.tok _,rfl,k⟩
theorem kany_nil{K:PySem.W.Frag}{t:Value}:PySem.W.kitAny K t []=some false:=rfl
theorem kany_f{K:PySem.W.Frag}{t c:Value}{r:List Value}{b:Bool}(h:PySem.W.kitOne K t c=some false)(k:PySem.W.kitAny K t r=some b):PySem.W.kitAny K t (c::r)=some b:=by
 rw [PySem.W.kitAny,h];exact k
theorem de_xiT {b : Bool} {es : List Expr} {Ds : List Addr} {x1} (i : Nat) (c : XCls X.K C) (hm : X.mg "isinstance" = none) (h : DXs X es Ds) (e : PySem.W.kitAny X.K (.ref C) (Ds.map Value.ref) = some b) (hl : Ds.length <= sizeLine := by exact Nat.le_of_ble_eq_true rfl) (hN : X.N[i]? = some x := by rfl) (hv : Vis X.env.scope x := by first | exact Or.inl rfl | exact Or.inr (Or.inl rfl) | exact Or.inr (Or.inr rfl)) (hd : (x == ("__debug__" : Str)) = false := by decide) (hcd : (x == ("__classdict__" : Str)) = false := by decide)
 (hg:Gl X "isinstance" :=by rfl)
 (he:starEach [.Name x p1, .Tuple es x1 p2] X.env=(false,eval (.Name x p1) X.env)::starEach [.Tuple es x1 p2] X.env:=by rfl) (he2:starEach [.Tuple es x1 p2] X.env=(false,eval (.Tuple es x1 p2) X.env)::starEach [] X.env:=by rfl) (hpl:(backTo pos (starEach [.Tuple es x1 p2] X.env)).any (·.1)=false:=by rfl) :
 DE X (PinX X.K i C) (.Call (.Name "isinstance" p) [.Name x p1, .Tuple es x1 p2] [] pos) (mXi i b):=by
 obtain ⟨t,h1,h2⟩:=h;refine ⟨_,pe_callB (call_xiT c) hg hm bt_isinstance (pa_cons (pe_var hN hv hd hcd) (pa_cons (pe_tup h1) pa_nil he2) he) (by decide) (by decide) he hpl,fun HB σ ρ H0 H s e' z hz Q q=> ?_⟩;have r:XS X.K i C HB H0 H σ ρ:=e'.r;unfold mXi at hz
 rcases r.in_ with h | ⟨h,h3⟩ | ⟨h,a,h3,h4⟩
 . rw [h] at hz;cases hz
 . rw [h] at hz;cases hz
 . rw [h] at hz;cases hz
   refine ⟨_,h3,h2 σ H _ ⟨by rw [List.length_map];exact hl,fun q' hq=>⟨a,q',Ds,b,rfl,?_,upd_same,e,q _ _ _ (Ext.alloc s hq _) (.bool _)⟩⟩⟩;rw [upd_ne (ne_of_none (s _ _ h4) hq)];exact s _ _ h4
end
end Dm
namespace Ts
open PySem PyProof.Rows
section
variable {prog:Program} {w:World} {A:Around} {E:Value->Shared->Prop} {s:Shared} {kd:SortKind} {D:Keyed->Prop} {κ:Keyed->Int}
end
end Ts
namespace Ts
open PySem PyProof.Rows
def Srt(κ:Keyed->Int)(l:List Keyed):Prop:=l.Pairwise fun x y=>κ x<=κ y
structure MI (κ:Keyed->Int) (al bl ol:List Keyed) (i j:Nat):Prop where
 hi:i<=al.length
 hj:j<=bl.length
 perm:ol.Perm (al.take i++bl.take j)
 srt:Srt κ ol
 la:∀x ∈ ol,∀y ∈ al.drop i,κ x<=κ y
 lb:∀x ∈ ol,∀y ∈ bl.drop j,κ x<=κ y
section
variable {κ:Keyed->Int} {al bl ol:List Keyed} {i j k:Nat} {x:Keyed}
theorem MI.symm(h:MI κ al bl ol i j):MI κ bl al ol j i:=⟨h.hj,h.hi,h.perm.trans List.perm_append_comm,h.srt,h.lb,h.la⟩
theorem Srt.drop(h:Srt κ al):Srt κ (al.drop i):=List.Pairwise.sublist (List.drop_sublist _ _) h
theorem Srt.take(h:Srt κ al):Srt κ (al.take i):=List.Pairwise.sublist (List.take_sublist _ _) h
theorem Srt.head(h:Srt κ al)(hx:al[i]? = some x):∀y ∈ al.drop i,κ x<=κ y:=by
 have hi:i<al.length:=(List.getElem?_eq_some_iff.mp hx).1;rw [List.drop_eq_getElem_cons hi];have e:=(List.getElem?_eq_some_iff.mp hx).2;have h2:=h.drop (i:=i);rw [List.drop_eq_getElem_cons hi,e] at h2
 rw [e];intro y hy;rcases List.mem_cons.mp hy with rfl | hy
 . exact Int.le_refl _
 . exact (List.pairwise_cons.mp h2).1 y hy
theorem Srt.app(h1:Srt κ al)(h2:Srt κ bl)(h:∀x ∈ al,∀y ∈ bl,κ x<=κ y):Srt κ (al++bl):=List.pairwise_append.mpr ⟨h1,h2,h⟩
theorem Srt.get(h:Srt κ al){x y:Keyed}(hij:i<=j)(hx:al[i]? = some x)(hy:al[j]? = some y):κ x<=κ y:=by
 refine h.head hx y ?_;refine List.mem_iff_getElem?.mpr ⟨j - i,?_⟩;rw [List.getElem?_drop,show i+(j - i)=j by omega];exact hy
theorem MI.fin(h:MI κ al bl ol i j){t:List Keyed}(ht:t.Perm (al.drop i++bl.drop j))(st:Srt κ t):(ol++t).Perm (al++bl)/\Srt κ (ol++t):=by
 constructor
 . refine (h.perm.append ht).trans ?_;have e1:(al++bl)=(al.take i++al.drop i)++(bl.take j++bl.drop j):=by rw [List.take_append_drop,List.take_append_drop]
   rw [e1,List.append_assoc,List.append_assoc];refine List.Perm.append_left _ ?_;rw [<-List.append_assoc, <-List.append_assoc];exact List.perm_append_comm.append_right _
 . refine h.srt.app st fun x hx y hy=> ?_;rcases List.mem_append.mp (ht.mem_iff.mp hy) with hy | hy
   . exact h.la x hx y hy
   . exact h.lb x hx y hy
theorem one_chunk(hx:al[i]? = some x):(al.drop i).take 1 = [x]:=by
 have hi:i<al.length:=(List.getElem?_eq_some_iff.mp hx).1;rw [List.drop_eq_getElem_cons hi,(List.getElem?_eq_some_iff.mp hx).2];rfl
end
def Mia(κ:Keyed->Int)(a b out:Array Keyed)(i j:Nat):Prop:=MI κ a.toList b.toList out.toList i j
def Mr(κ:Keyed->Int)(a b r:Array Keyed):Prop:=r.toList.Perm (a.toList++b.toList)/\Srt κ r.toList
section
variable {κ:Keyed->Int} {a b out:Array Keyed} {i j k:Nat} {x:Keyed}
theorem ext_list{lo hi:Nat}:(a.extract lo hi).toList=(a.toList.drop lo).take (hi - lo):=by
 rw [Array.toList_extract,List.extract_eq_drop_take]
theorem ext_all{lo:Nat}:(a.extract lo a.size).toList=a.toList.drop lo:=by
 rw [ext_list,List.take_of_length_le];simp
theorem Mia.done(h:Mia κ a b out i j)(sa:Srt κ a.toList)(sb:Srt κ b.toList)(he:i=a.size\/j=b.size):Mr κ a b (out++a.extract i a.size++b.extract j b.size):=by
 unfold Mia at h
 unfold Mr;rw [Array.toList_append,Array.toList_append,ext_all,ext_all,List.append_assoc];refine h.fin (List.Perm.refl _) ?_;rcases he with he | he
 . rw [List.drop_eq_nil_of_le (by simp [he]),List.nil_append];exact sb.drop
 . rw [List.drop_eq_nil_of_le (i:=j) (by simp [he]),List.append_nil];exact sa.drop
end
end Ts
namespace Ts
open PySem PyProof.Rows
section
variable {prog:Program} {w:World} {A:Around} {E:Value->Shared->Prop} {s:Shared} {kd:SortKind} {D:Keyed->Prop} {κ:Keyed->Int}
theorem Mia.nil{a b:Array Keyed}:Mia κ a b #[] 0 0:=⟨Nat.zero_le _,Nat.zero_le _,by simp,List.Pairwise.nil,fun x hx=>by simp at hx,fun x hx=>by simp at hx⟩
theorem Srt.at{a:Array Keyed}(h:Srt κ a.toList){i j:Nat}{x y:Keyed}(hij:i<=j)(hx:a[i]? = some x)(hy:a[j]? = some y):κ x<=κ y:=h.get hij (by rw [Array.getElem?_toList];exact hx) (by rw [Array.getElem?_toList];exact hy)
theorem Srt.hd{a:Array Keyed}(h:Srt κ a.toList){i:Nat}{x:Keyed}(hx:a[i]? = some x):∀y ∈ a.toList.drop i,κ x<=κ y:=h.head (by rw [Array.getElem?_toList];exact hx)
end
end Ts
namespace Ts
open PySem PyProof.Rows
section
variable {prog:Program} {w:World} {A:Around} {E:Value->Shared->Prop} {s:Shared} {kd:SortKind} {D:Keyed->Prop} {κ:Keyed->Int}
end
end Ts
namespace Ts
open PySem PyProof.Rows
structure MH (κ:Keyed->Int) (al bl ol:List Keyed) (i j:Nat):Prop where
 hi:i<=al.length
 hj:j<=bl.length
 perm:ol.Perm (al.drop i++bl.drop j)
 srt:ol.Pairwise fun x y=>κ y<=κ x
 la:∀x ∈ ol,∀y ∈ al.take i,κ y<=κ x
 lb:∀x ∈ ol,∀y ∈ bl.take j,κ y<=κ x
section
variable {κ:Keyed->Int} {al bl ol:List Keyed} {i j k:Nat} {x:Keyed}
theorem MH.symm(h:MH κ al bl ol i j):MH κ bl al ol j i:=⟨h.hj,h.hi,h.perm.trans List.perm_append_comm,h.srt,h.lb,h.la⟩
theorem mem_takeL{y:Keyed}(h:y ∈ al.take i):∃t,t<i/\al[t]? = some y:=by
 obtain ⟨t,ht⟩:=List.mem_iff_getElem?.mp h;rw [List.getElem?_take] at ht
 split at ht
 . exact ⟨t,by assumption,ht⟩
 . cases ht
theorem MH.fin(h:MH κ al bl ol i j){t:List Keyed}(ht:t.Perm (al.take i++bl.take j))(st:Srt κ t):(t++ol.reverse).Perm (al++bl)/\Srt κ (t++ol.reverse):=by
 constructor
 . refine (ht.append ((List.reverse_perm _).trans h.perm)).trans ?_;have e1:(al++bl)=(al.take i++al.drop i)++(bl.take j++bl.drop j):=by rw [List.take_append_drop,List.take_append_drop]
   rw [e1,List.append_assoc,List.append_assoc];refine List.Perm.append_left _ ?_;rw [<-List.append_assoc, <-List.append_assoc];exact List.perm_append_comm.append_right _
 . refine st.app (List.pairwise_reverse.mpr h.srt) fun x hx y hy=> ?_;rcases List.mem_append.mp (ht.mem_iff.mp hx) with hx | hx
   . exact h.la y (List.mem_reverse.mp hy) x hx
   . exact h.lb y (List.mem_reverse.mp hy) x hx
end
def Mha(κ:Keyed->Int)(a b out:Array Keyed)(i j:Nat):Prop:=MH κ a.toList b.toList out.toList i j
section
variable {κ:Keyed->Int} {a b out:Array Keyed} {i j k:Nat} {x:Keyed}
theorem ext_zero:(a.extract 0 i).toList=a.toList.take i:=by rw [ext_list];rfl
theorem Mha.done(h:Mha κ a b out i j)(sa:Srt κ a.toList)(sb:Srt κ b.toList)(he:i=0\/j=0):Mr κ a b (a.extract 0 i++b.extract 0 j++out.reverse):=by
 unfold Mha at h
 unfold Mr;rw [Array.toList_append,Array.toList_append,ext_zero,ext_zero,Array.toList_reverse];refine h.fin (List.Perm.refl _) ?_;rcases he with rfl | rfl
 . rw [List.take_zero,List.nil_append];exact sb.take
 . rw [List.take_zero,List.append_nil];exact sa.take
theorem Mha.first(h:Mha κ a b out i j)(sa:Srt κ a.toList)(he:j=1)(hf:∀y,b[0]? = some y->∀x ∈ a.toList,κ y<=κ x):Mr κ a b (b.extract 0 j++a.extract 0 i++out.reverse):=by
 unfold Mha at h
 unfold Mr;subst he;rw [Array.toList_append,Array.toList_append,ext_zero,ext_zero,Array.toList_reverse];refine h.fin List.perm_append_comm ?_;have hb:0<b.size:=by have:=h.hj;rw [Array.length_toList] at this;omega
 have e:b.toList.take 1 = [b[0]]:=by
  have:=one_chunk (al:=b.toList) (i:=0) (x:=b[0]) (by simp)
  rwa [List.drop_zero] at this
 rw [e];refine Srt.app (List.pairwise_singleton _ _) sa.take fun y hy x hx=> ?_;rw [List.mem_singleton.mp hy];exact hf _ (getElem?_pos b 0 hb) x (List.mem_of_mem_take hx)
theorem Mha.nil:Mha κ a b #[] a.size b.size:=⟨by simp,by simp,by simp,List.Pairwise.nil,fun x hx=>by simp at hx,fun x hx=>by simp at hx⟩
theorem mem_takeA{y:Keyed}(h:y ∈ a.toList.take i):∃t,t<i/\a[t]? = some y:=by
 obtain ⟨t,ht,e⟩:=mem_takeL h;exact ⟨t,ht,by rw [<-Array.getElem?_toList];exact e⟩
theorem Srt.tl(h:Srt κ a.toList)(hx:a[i - 1]? = some x):∀y ∈ a.toList.take i,κ y<=κ x:=fun y hy=>by
 obtain ⟨t,ht,e⟩:=mem_takeA hy;exact h.at (by omega) e hx
end
end Ts
namespace Ts
open PySem PyProof.Rows
section
variable {prog:Program} {w:World} {A:Around} {E:Value->Shared->Prop} {s:Shared} {kd:SortKind} {D:Keyed->Prop} {κ:Keyed->Int}
end
end Ts
namespace Ts
open PySem PyProof.Rows
def kk(κ:Keyed->Int)(xs:Array Keyed)(i:Nat):Int:=match xs[i]? with | some x=>κ x | none=>0
def Ou(xs ys:Array Keyed)(lo n:Nat):Prop:=∀k:Nat,(k<lo\/lo+n<=k)->ys[k]? = xs[k]?
structure SE (st0 st:SortSt) (lo n:Nat):Prop where
 kind:kindOf st=kindOf st0
 fail:failedOf st=failedOf st0
 pend:pendingOf st=pendingOf st0
 perm:(arrOf st).Perm (arrOf st0)
 out:Ou (arrOf st0) (arrOf st) lo n
section
variable {κ:Keyed->Int} {xs ys:Array Keyed} {i j lo n:Nat}
theorem SE.set{st0 st:SortSt}(h:SE st0 st lo n)(hp:xs.Perm (arrOf st))(ho:Ou (arrOf st) xs lo n):SE st0 (setArr st xs) lo n:=⟨h.kind,h.fail,h.pend,hp.trans h.perm,fun k hk=>(ho k hk).trans (h.out k hk)⟩
theorem SE.size{st0 st:SortSt}(h:SE st0 st lo n):(arrOf st).size=(arrOf st0).size:=h.perm.size_eq
theorem SE.trans{st0 st1 st2:SortSt}{lo' n':Nat}(h:SE st0 st1 lo n)(h':SE st1 st2 lo' n')(hl:lo<=lo')(hn:lo'+n'<=lo+n):SE st0 st2 lo n:=⟨h'.kind.trans h.kind,h'.fail.trans h.fail,h'.pend.trans h.pend,h'.perm.trans h.perm,fun k hk=>(h'.out k (by omega)).trans (h.out k hk)⟩
end
section
variable {prog:Program} {w:World} {A:Around} {E:Value->Shared->Prop} {s:Shared} {kd:SortKind} {D:Keyed->Prop} {κ:Keyed->Int} {st0:SortSt}
end
end Ts
namespace Ts
open PySem PyProof.Rows
section
variable {prog:Program} {w:World} {A:Around} {E:Value->Shared->Prop} {s:Shared} {kd:SortKind} {D:Keyed->Prop} {κ:Keyed->Int} {st0:SortSt}
end
end Ts
namespace Ts
open PySem PyProof.Rows
section
variable {κ:Keyed->Int} {arr:Array Keyed} {i j lo n m:Nat}
end
section
variable {prog:Program} {w:World} {A:Around} {E:Value->Shared->Prop} {s:Shared} {kd:SortKind} {D:Keyed->Prop} {κ:Keyed->Int}
end
end Ts
namespace Ts
open PySem PyProof.Rows
section
variable {prog:Program} {w:World} {A:Around} {E:Value->Shared->Prop} {s:Shared} {kd:SortKind} {D:Keyed->Prop} {κ:Keyed->Int} {a₀:Array Keyed}
structure SX (kd:SortKind) (a₀:Array Keyed) (st:SortSt):Prop where
 kind:kindOf st=kd
 fail:failedOf st=none
 perm:(arrOf st).Perm a₀
theorem SX.size{st:SortSt}(h:SX kd a₀ st):(arrOf st).size=a₀.size:=h.perm.size_eq
end
end Ts
namespace Ts
open PySem PySem.W PyProof.Rows
def Tup(h:Heap)(v:Value)(ns:List Int):Prop:=∃a o xs n,v = .ref a/\h.get? a=some o/\o.cls = .type "tuple" /\ o.data = .seq xs n/\IntsAre xs.toList ns
theorem ints_inj:∀ {us:List Value} {ns ms:List Int},IntsAre us ns->IntsAre us ms->ns=ms:=fun h1 h2=>by rw [<-h1.nums, <-h2.nums]
theorem Tup.inj{h:Heap}{v:Value}{ns ms:List Int}(h1:Tup h v ns)(h2:Tup h v ms):ns=ms:=by
 obtain ⟨a,o,xs,n,rfl,e1,_,e2,e3⟩:=h1;obtain ⟨a',o',xs',n',e0,e1',_,e2',e3'⟩:=h2
 cases e0
 rw [e1] at e1'
 cases e1'
 rw [e2] at e2'
 cases e2'
 exact ints_inj e3 e3'
section
variable {prog:Program} {w:World} {A:Around} {E:Value->Shared->Prop} {s:Shared}
end
end Ts
namespace Ts
open PySem PySem.W PyProof.Rows
section
variable {prog:Program} {w:World} {A:Around} {E:Value->Shared->Prop} {s:Shared}
end
end Ts
namespace Tf
open PySem PySem.Spec PyProof.Rows L2
def tI(ns:List Int):PyData:= .tuple (ns.map .int)
variable {X:Cx}
theorem reps_ints'{K:PySem.W.Frag}{H:Hp}:∀ {vs:List V} {ns:List Int},Reps K H vs (ns.map PyData.int)->vs=ns.map V.int
 | _,[], .nil=>rfl
 | _,n::ns, .cons h t=>by
  cases h
  rw [reps_ints' t];rfl
end Tf
namespace Dm
open PySem PySem.Spec PyProof.Rows L2 Tf
section
variable {K:PySem.W.Frag}
end
end Dm
namespace SeT
open PySem PySem.SetTable
def Up(xs:Array Nat):Prop:=∀i j,(g:i<j)->(h:j<xs.size)->xs[i]'(Nat.lt_trans g h)<xs[j]
theorem go_spec {xs : Array Nat} {j : Nat} (hs : Up xs) : ∀ fuel lo hi, lo <= hi -> hi <= xs.size -> hi - lo <= fuel -> (∀ i, i < lo -> (h : i < xs.size) -> xs[i] < j) -> (∀ i, hi <= i -> (h : i < xs.size) -> j <= xs[i]) ->
 below.go xs j fuel lo hi<=xs.size/\(∀i,i<below.go xs j fuel lo hi->(h:i<xs.size)->xs[i]<j)/\(∀i,below.go xs j fuel lo hi<=i->(h:i<xs.size)->j<=xs[i]):=by
 intro fuel
 induction fuel with
 | zero=>
  intro lo hi h1 h2 h3 h4 h5;have:lo=hi:=by omega
  subst this
  exact ⟨h2,h4,h5⟩
 | succ f ih=>
  intro lo hi h1 h2 h3 h4 h5;unfold below.go
  by_cases hlt:lo<hi
  . rw [if_pos hlt];have hm:(lo+hi) / 2<xs.size:=by omega
    have hg:xs.getD ((lo+hi) / 2) j=xs[(lo+hi) / 2]:=by simp [Array.getD,hm]
    show (if xs.getD ((lo+hi) / 2) j<j then below.go xs j f ((lo+hi) / 2+1) hi else below.go xs j f lo ((lo+hi) / 2))<=xs.size/\_;simp only [];rw [hg]
    by_cases hc:xs[(lo+hi) / 2]<j
    . rw [if_pos hc];refine ih _ _ (by omega) h2 (by omega) (fun i hi' h=> ?_) h5;rcases Nat.lt_or_ge i ((lo+hi) / 2) with hl | hl
      . exact Nat.lt_trans (hs i _ hl hm) hc
      . have:i=(lo+hi) / 2:=by omega
        subst this;exact hc
    . rw [if_neg hc];refine ih _ _ (by omega) (by omega) (by omega) h4 (fun i hi' h=> ?_);rcases Nat.lt_or_ge ((lo+hi) / 2) i with hl | hl
      . have:=hs _ i hl h;omega
      . have:i=(lo+hi) / 2:=by omega
        subst this;omega
  . rw [if_neg hlt];have:lo=hi:=by omega
    subst this;exact ⟨h2,h4,h5⟩
theorem below_spec{xs:Array Nat}(hs:Up xs)(j:Nat):below xs j<=xs.size/\(∀i,i<below xs j->(h:i<xs.size)->xs[i]<j)/\(∀i,below xs j<=i->(h:i<xs.size)->j<=xs[i]) :=
 go_spec hs _ _ _ (by omega) (by omega) (by omega) (fun i h=>by omega) (fun i h h'=>by omega)
theorem below_at{xs:Array Nat}(hs:Up xs){j i:Nat}(h:xs[i]? = some j):below xs j=i:=by
 obtain ⟨hi,he⟩:=Array.getElem?_eq_some_iff.mp h;obtain ⟨h1,h2,h3⟩:=below_spec hs j;rcases Nat.lt_trichotomy (below xs j) i with hl | hl | hl
 . have hb:below xs j<xs.size:=by omega
   have:=hs _ i hl hi;have:=h3 _ (Nat.le_refl _) hb;omega
 . exact hl
 . have:=h2 i hl hi;omega
theorem slot_live{t:SetTable}(hs:Up t.place){j i:Nat}(h:t.place[i]? = some j):t.slot j = .live i:=by
 unfold slot;simp [below_at hs h,h]
theorem slot_empty{t:SetTable}(hd:t.dummies = #[]){j:Nat}(h:∀i:Nat,t.place[i]? ≠ some j):t.slot j = .empty:=by
 unfold slot
 have h1:(t.place[below t.place j]? ==some j)=false:=by
  simpa using h (below t.place j)
 have h2:has t.dummies j=false:=by rw [hd];unfold has;simp
 simp only [h1,h2];rfl
def stp(mask:Nat)(p:Probe):Probe:=
 if p.more>0 then {p with j:=p.j+1,more:=p.more - 1} else
 {p with j:=(leap mask p.i p.perturb).1,more:=runEnd mask (leap mask p.i p.perturb).1 - (leap mask p.i p.perturb).1,i:=(leap mask p.i p.perturb).1,perturb:=(leap mask p.i p.perturb).2}
theorem adv_eq(t:SetTable)(p:Probe):t.advance p=stp t.mask p:=by
 unfold advance stp;split <;> rfl
def at0(mask i q:Nat):Probe:={j:=i,more:=runEnd mask i - i,i,perturb:=q,dummy:=none}
def way(mask:Nat)(p:Probe):Nat->Probe
 | 0=>p
 | n+1=>way mask (stp mask p) n
theorem way_add(mask:Nat):∀n m p,way mask p (n+m)=way mask (way mask p n) m
 | 0,m,p=>by rw [Nat.zero_add];rfl
 | n+1,m,p=>by rw [Nat.succ_add];exact way_add mask n m _
theorem way_succ(mask:Nat)(n:Nat)(p:Probe):way mask p (n+1)=stp mask (way mask p n):=way_add mask n 1 p
theorem stp_dummy{mask:Nat}{p:Probe}(h:p.dummy=none):(stp mask p).dummy=none:=by
 unfold stp;split <;> exact h
theorem way_run(mask:Nat):∀n p,n<=p.more->way mask p n={p with j:=p.j+n,more:=p.more - n}
 | 0,p,_=>by simp [way]
 | n+1,p,h=>by
  rw [way_succ,way_run mask n p (by omega)];unfold stp;rw [if_pos (by show p.more - n>0;omega)];simp;omega
theorem way_leap(mask i q:Nat):way mask (at0 mask i q) (runEnd mask i - i+1)=at0 mask (leap mask i q).1 (leap mask i q).2:=by
 rw [way_succ,way_run mask _ _ (by unfold at0;exact Nat.le_refl _)];unfold stp at0;simp
theorem run_le(mask i:Nat):runEnd mask i - i<=9:=by unfold runEnd;split <;> omega
def lps(mask:Nat):Nat->Nat×Nat->Nat×Nat
 | 0,iq=>iq
 | k+1,iq=>lps mask k (leap mask iq.1 iq.2)
theorem way_lps(mask:Nat):∀k i q,∃n,n<=10*k/\way mask (at0 mask i q) n=at0 mask (lps mask k (i,q)).1 (lps mask k (i,q)).2
 | 0,i,q=>⟨0,by omega,rfl⟩
 | k+1,i,q=>by
  obtain ⟨n,hn,e⟩:=way_lps mask k (leap mask i q).1 (leap mask i q).2;refine ⟨runEnd mask i - i+1+n,by have:=run_le mask i;omega,?_⟩;rw [way_add,way_leap,e];rfl
theorem lps_add(mask:Nat):∀n m iq,lps mask (n+m) iq=lps mask m (lps mask n iq)
 | 0,m,p=>by rw [Nat.zero_add];rfl
 | n+1,m,p=>by rw [Nat.succ_add];exact lps_add mask n m _
theorem lps_q(mask:Nat):∀k i q,(lps mask k (i,q)).2=q / 32 ^ k
 | 0,i,q=>by simp [lps]
 | k+1,i,q=>by
  show (lps mask k (leap mask i q)).2=_;rw [show leap mask i q=((leap mask i q).1,q / 32) from rfl,lps_q mask k,Nat.div_div_eq_div_mul,Nat.pow_succ,Nat.mul_comm]
theorem lps_lt(mask:Nat):∀k i q,i<=mask->(lps mask k (i,q)).1<=mask
 | 0,i,q,h=>h
 | k+1,i,q,h=>lps_lt mask k _ _ (Nat.le_of_lt_succ (Nat.mod_lt _ (Nat.succ_pos _)))
def lc(mask:Nat):Nat->Nat->Nat
 | 0,i=>i
 | k+1,i=>lc mask k ((i*5+1) % (mask+1))
theorem lps_zero(mask:Nat):∀k i,lps mask k (i,0)=(lc mask k i,0)
 | 0,i=>rfl
 | k+1,i=>by
  show lps mask k (leap mask i 0)=_;unfold leap;simp only [Nat.zero_div,Nat.add_zero];exact lps_zero mask k _
def Round(mask:Nat):Prop:=∀i,i<=mask->∀d,d<=mask->∃k,k<=mask/\lc mask k i=d
theorem rd7:Round 7:=by
 have h:∀i:Fin 8,∀d:Fin 8,∃k:Fin 8,lc 7 k.1 i.1=d.1:=by decide
 intro i hi d hd;obtain ⟨k,hk⟩:=h ⟨i,by omega⟩ ⟨d,by omega⟩;exact ⟨k.1,by omega,hk⟩
theorem rd31:Round 31:=by
 have h:((List.range 32).all fun i=>(List.range 32).all fun d=>(List.range 32).any fun k=>lc 31 k i==d)=true:=by decide +kernel
 intro i hi d hd;have h1:=List.all_eq_true.mp h i (List.mem_range.mpr (by omega));have h2:=List.all_eq_true.mp h1 d (List.mem_range.mpr (by omega));obtain ⟨k,hk,e⟩:=List.any_eq_true.mp h2;exact ⟨k,by have:=List.mem_range.mp hk;omega,by simpa using e⟩
theorem every {mask : Nat} (hr : Round mask) {i q : Nat} (hi : i <= mask) (hq : q < 2 ^ 64) {d : Nat} (hd : d <= mask) :
 ∃k,k<=mask+13/\(lps mask k (i,q)).1=d:=by
 have h13:lps mask 13 (i,q)=((lps mask 13 (i,q)).1,0):=by
  have:=lps_q mask 13 i q;rw [show q / 32 ^ 13=0 from Nat.div_eq_of_lt (Nat.lt_trans hq (by decide))] at this
  rw [<-this]
 obtain ⟨k,hk,e⟩:=hr _ (lps_lt mask 13 i q hi) d hd;refine ⟨13+k,by omega,?_⟩;rw [lps_add,h13,lps_zero];exact e
theorem every_way {mask : Nat} (hr : Round mask) {i q : Nat} (hi : i <= mask) (hq : q < 2 ^ 64) {d : Nat} (hd : d <= mask) :
 ∃n,n<10*turns mask/\(way mask (at0 mask i q) n).j=d:=by
 obtain ⟨k,hk,e⟩:=every hr hi hq hd;obtain ⟨n,hn,e2⟩:=way_lps mask k i q;refine ⟨n,by unfold turns;omega,?_⟩;rw [e2];exact e
def OnP(t:SetTable)(j:Nat):Prop:=∃i:Nat,t.place[i]? = some j
def start(mask:Nat)(h:Int):Probe:=at0 mask (bits h % (mask+1)) (bits h)
theorem bits_lt(h:Int):bits h<2 ^ 64:=by
 unfold bits;have h1:=Int.emod_lt_of_pos h (show (0:Int)<2 ^ 64 by decide);have h2:=Int.emod_nonneg h (show (2 ^ 64:Int)≠0 by decide);omega
def Wi(mask:Nat)(p:Probe):Prop:=p.j+p.more<=mask
theorem at0_wi{mask i q:Nat}(h:i<=mask):Wi mask (at0 mask i q):=by
 unfold Wi at0 runEnd;simp only [];split <;> omega
theorem stp_wi{mask:Nat}{p:Probe}(h:Wi mask p):Wi mask (stp mask p):=by
 unfold stp
 split
 . unfold Wi at h ⊢;simp only [];omega
 . exact at0_wi (q:=p.perturb) (Nat.le_of_lt_succ (Nat.mod_lt _ (Nat.succ_pos _)))
theorem way_wi(mask:Nat):∀n p,Wi mask p->Wi mask (way mask p n)
 | 0,_,h=>h
 | n+1,_,h=>way_wi mask n _ (stp_wi h)
theorem start_wi(mask:Nat)(h:Int):Wi mask (start mask h):=at0_wi (Nat.le_of_lt_succ (Nat.mod_lt _ (Nat.succ_pos _)))
theorem way_le(mask:Nat)(h:Int)(n:Nat):(way mask (start mask h) n).j<=mask:=by
 have:=way_wi mask n _ (start_wi mask h);unfold Wi at this;omega
theorem least{P:Nat->Prop}:∀n,P n->∃N,N<=n/\P N/\∀m,m<N->¬P m:=by
 intro n
 induction n using Nat.strongRecOn with
 | ind n ih=>
  intro h
  by_cases hx:∃m,m<n/\P m
  . obtain ⟨m,hm,hp⟩:=hx;obtain ⟨N,h1,h2,h3⟩:=ih m hm hp;exact ⟨N,by omega,h2,h3⟩
  . exact ⟨n,Nat.le_refl _,h,fun m hm hp=>hx ⟨m,hm,hp⟩⟩
theorem some_off{t:SetTable}(hz:t.place.size<=t.mask):∃d,d<=t.mask/\¬OnP t d:=by
 refine Classical.byContradiction fun hc=> ?_
 have hsub:List.range (t.mask+1) ⊆ t.place.toList:=by
  intro d hd;have hd':=List.mem_range.mp hd;refine Classical.byContradiction fun hm=>hc ⟨d,by omega,fun ⟨i,hi⟩=>hm ?_⟩;exact Array.mem_toList_iff.mpr (Array.mem_of_getElem? hi)
 have:=List.Nodup.length_le_of_subset List.nodup_range hsub;simp at this;omega
theorem free_at {t : SetTable} (hr : Round t.mask) (hz : t.place.size <= t.mask) (h : Int) :
 ∃N,N<10*turns t.mask/\¬OnP t (way t.mask (start t.mask h) N).j/\∀m,m<N->OnP t (way t.mask (start t.mask h) m).j:=by
 obtain ⟨d,hd,hn⟩:=some_off hz;obtain ⟨n,hlt,e⟩:=every_way hr (i:=bits h % (t.mask+1)) (q:=bits h) (Nat.le_of_lt_succ (Nat.mod_lt _ (Nat.succ_pos _))) (bits_lt h) hd;obtain ⟨N,h1,h2,h3⟩:=least (P:=fun n=>¬OnP t (way t.mask (start t.mask h) n).j) n (by show ¬OnP t (way t.mask (at0 _ _ _) n).j;rw [e];exact hn);exact ⟨N,by omega,h2,fun m hm=>Classical.byContradiction fun hc=>h3 m hm hc⟩
theorem go_met {t : SetTable} (hu : Up t.place) (hd : t.dummies = #[]) (hs : Nat -> Int) (h : Int) : ∀ fuel p N, p.dummy = none -> N < fuel -> (∀ m, m < N -> OnP t (way t.mask p m).j) -> ¬ OnP t (way t.mask p N).j ->
 (∃j i nx,t.place[i]? = some j/\hs i=h/\probe.go t hs h fuel p=some (.candidate j i nx)) \/
 ((∀m,m<N->∀i:Nat,t.place[i]? = some (way t.mask p m).j->hs i≠h)/\probe.go t hs h fuel p=some (.empty (way t.mask p N).j none)):=by
 intro fuel
 induction fuel with
 | zero=>intro p N _ h0;omega
 | succ f ih=>
  intro p N hp hN ha hb;unfold probe.go
  cases N with
  | zero=>
   right;refine ⟨fun m hm=>by omega,?_⟩;rw [slot_empty (j:=p.j) hd (fun i hi=>hb ⟨i,hi⟩)];show some (Met.empty p.j p.dummy)=_
   rw [hp];rfl
  | succ N=>
   obtain ⟨i,hi⟩:=ha 0 (by omega);have hi':t.place[i]? = some p.j:=hi;rw [slot_live hu hi']
   by_cases hh:hs i=h
   . left;exact ⟨p.j,i,t.advance p,hi',hh,by simp [hh]⟩
   . have e1:(hs i==h)=false:=by simpa using hh
     simp only [e1,adv_eq];rcases ih (stp t.mask p) N (stp_dummy hp) (by omega) (fun m hm=>ha (m+1) (by omega)) hb with hl | ⟨hl,hr⟩
     . left;simpa using hl
     . right;refine ⟨fun m hm i' hi2=> ?_,by show (if false=true then _ else _)=_;rw [if_neg (by decide)];exact hr⟩
       cases m with
       | zero=>
        have e2:t.place[i']? = some p.j:=hi2;have h1:=below_at hu hi';have h2:=below_at hu e2
        rw [show i'=i from h2.symm.trans h1];exact hh
       | succ m=>exact hl m (by omega) i' hi2
structure TI (t:SetTable) (es:Array (Int×Value)):Prop where
 up:Up t.place
 nd:t.dummies = #[]
 sz:t.place.size=es.size
 le:∀(i j:Nat),t.place[i]? = some j->j<=t.mask
 way:∀(i j:Nat) (e:Int×Value),t.place[i]? = some j->es[i]? = some e->∃n,(way t.mask (start t.mask e.1) n).j=j/\∀m,m<n->OnP t (SeT.way t.mask (start t.mask e.1) m).j
def hAt(es:Array (Int×Value))(i:Nat):Int:=(es[i]?.map (·.1)).getD 0
theorem hAt_eq{es:Array (Int×Value)}{i:Nat}{e:Int×Value}(h:es[i]? = some e):hAt es i=e.1:=by unfold hAt;rw [h];rfl
theorem TI.there {t : SetTable} {es : Array (Int × Value)} (T : TI t es) (hr : Round t.mask) (hz : es.size <= t.mask) {i : Nat} {e : Int × Value} (he : es[i]? = some e) :
 ∃j i' e' nx,es[i']? = some e'/\e'.1=e.1/\t.probe (hAt es) e.1 (t.probeStart e.1)=some (.candidate j i' nx):=by
 obtain ⟨N,h1,h2,h3⟩:=free_at hr (T.sz ▸ hz) e.1
 have hi:i<t.place.size:=by
  rw [T.sz];obtain ⟨h,_⟩:=Array.getElem?_eq_some_iff.mp he;exact h
 have hpl:t.place[i]? = some t.place[i]:=Array.getElem?_eq_getElem hi;obtain ⟨n,hn,hm⟩:=T.way i _ e hpl he
 have hnN:n<N:=by
  refine Classical.byContradiction fun hc=> ?_;rcases Nat.lt_or_ge N n with hl | hl
  . exact h2 (hm N hl)
  . have:n=N:=by omega
    subst this;exact h2 ⟨i,by rw [hn];exact hpl⟩
 rcases go_met T.up T.nd (hAt es) e.1 (10*turns t.mask) (start t.mask e.1) N rfl h1 h3 h2 with ⟨j,i',nx,hj,hh,hg⟩ | ⟨hl,_⟩
 . have hi' : i' < es.size := by
    rw [<-T.sz];obtain ⟨h,_⟩:=Array.getElem?_eq_some_iff.mp hj;exact h
   exact ⟨j,i',es[i'],nx,Array.getElem?_eq_getElem hi',by rw [<-hh,hAt_eq (Array.getElem?_eq_getElem hi')],hg⟩
 . exact absurd (hAt_eq he) (hl n hnN i (by rw [hn];exact hpl))
theorem TI.free {t : SetTable} {es : Array (Int × Value)} (T : TI t es) (hr : Round t.mask) (hz : es.size <= t.mask) {h : Int} (hn : ∀ (i : Nat) e, es[i]? = some e -> e.1 ≠ h) :
 ∃N,t.probe (hAt es) h (t.probeStart h)=some (.empty (SeT.way t.mask (start t.mask h) N).j none)/\¬OnP t (SeT.way t.mask (start t.mask h) N).j/\∀m,m<N->OnP t (SeT.way t.mask (start t.mask h) m).j:=by
 obtain ⟨N,h1,h2,h3⟩:=free_at hr (T.sz ▸ hz) h;refine ⟨N,?_,h2,h3⟩;rcases go_met T.up T.nd (hAt es) h (10*turns t.mask) (start t.mask h) N rfl h1 h3 h2 with ⟨j,i',nx,hj,hh,hg⟩ | ⟨_,hl⟩
 . have hi' : i' < es.size := by
    rw [<-T.sz];obtain ⟨h,_⟩:=Array.getElem?_eq_some_iff.mp hj;exact h
   rw [hAt_eq (Array.getElem?_eq_getElem hi')] at hh
   exact absurd hh (hn i' _ (Array.getElem?_eq_getElem hi'))
 . exact hl
theorem ins_get{α:Type}{xs:Array α}{p:Nat}(hp:p<=xs.size)(x:α)(i:Nat):(insertAt xs p x)[i]? = if i<p then xs[i]? else if i=p then some x else xs[i - 1]? :=by
 unfold insertAt
 by_cases h1:i<p
 . rw [if_pos h1,Array.getElem?_append_left (by simp;omega),Array.getElem?_push];rw [if_neg (by simp;omega),Array.getElem?_extract];simp;omega
 . rw [if_neg h1]
   by_cases h2:i=p
   . subst h2;rw [if_pos rfl,Array.getElem?_append_left (by simp;omega),Array.getElem?_push,if_pos (by simp;omega)]
   . rw [if_neg h2,Array.getElem?_append_right (by simp;omega),Array.getElem?_extract];simp only [Array.size_push,Array.size_extract];rw [show p+(i - (min p xs.size - 0+1))=i - 1 by omega]
     by_cases h3:i - 1<xs.size
     . rw [if_pos (by omega)]
     . rw [if_neg (by omega),Array.getElem?_eq_none (by omega)]
theorem ins_size{α:Type}{xs:Array α}{p:Nat}(hp:p<=xs.size)(x:α):(insertAt xs p x).size=xs.size+1:=by
 unfold insertAt;simp;omega
theorem up_of{xs:Array Nat}(h:∀(i k a b:Nat),i<k->xs[i]? = some a->xs[k]? = some b->a<b):Up xs:=fun i j g hj=>
 h i j _ _ g (Array.getElem?_eq_getElem _) (Array.getElem?_eq_getElem hj)
theorem up_get{xs:Array Nat}(hu:Up xs){i k a b:Nat}(g:i<k)(ha:xs[i]? = some a)(hb:xs[k]? = some b):a<b:=by
 obtain ⟨h1,e1⟩:=Array.getElem?_eq_some_iff.mp ha;obtain ⟨h2,e2⟩:=Array.getElem?_eq_some_iff.mp hb;have:=hu i k g h2;omega
theorem put_place(t:SetTable)(hd:t.dummies = #[])(j:Nat):(t.put j).1={t with place:=insertAt t.place (below t.place j) j}:=by
 unfold SetTable.put;have h2:has t.dummies j=false:=by rw [hd];unfold has;simp
 simp only [h2];rfl
theorem TI.put {t : SetTable} {es : Array (Int × Value)} (T : TI t es) {h : Int} (x : Value) {N : Nat} (hf : ¬ OnP t (SeT.way t.mask (start t.mask h) N).j) (hN : ∀ m, m < N -> OnP t (SeT.way t.mask (start t.mask h) m).j) :
 TI (t.put (SeT.way t.mask (start t.mask h) N).j).1 (insertAt es (t.put (SeT.way t.mask (start t.mask h) N).j).2 (h,x)):=by
 generalize hj:(SeT.way t.mask (start t.mask h) N).j=j at hf ⊢
 have hjm:j<=t.mask:=hj ▸ way_le _ _ _;rw [put_place t T.nd];show TI _ (insertAt es (below t.place j) (h,x));obtain ⟨b1,b2,b3⟩:=below_spec T.up j;generalize hp:below t.place j=p at b1 b2 b3
 have b1':p<=es.size:=T.sz ▸ b1
 have hlt:∀i a:Nat,i<p->t.place[i]? = some a->a<j:=fun i a hi ha=>by
  obtain ⟨h1,e1⟩:=Array.getElem?_eq_some_iff.mp ha;have:=b2 i hi h1;omega
 have hge:∀i a:Nat,p<=i->t.place[i]? = some a->j<a:=fun i a hi ha=>by
  obtain ⟨h1,e1⟩:=Array.getElem?_eq_some_iff.mp ha;have:=b3 i hi h1;have:a≠j:=fun e=>hf ⟨i,e ▸ ha⟩;omega
 have hon:∀a,OnP t a->OnP {t with place:=insertAt t.place p j} a:=fun a ⟨i,hi⟩=>by
  by_cases h1:i<p
  . exact ⟨i,by show (insertAt t.place p j)[i]? = _;rw [ins_get b1,if_pos h1];exact hi⟩
  . exact ⟨i+1,by show (insertAt t.place p j)[i+1]? = _;rw [ins_get b1,if_neg (by omega),if_neg (by omega)];exact hi⟩
 refine ⟨up_of fun i k a b g ha hb=> ?_,T.nd,?_,fun i a ha=> ?_,fun i a e ha he=> ?_⟩
 . rw [ins_get b1] at ha hb
   by_cases h1:i<p
   . rw [if_pos h1] at ha
     by_cases h2:k<p
     . rw [if_pos h2] at hb;exact up_get T.up g ha hb
     . rw [if_neg h2] at hb
       by_cases h3:k=p
       . rw [if_pos h3] at hb;cases hb;exact hlt i a h1 ha
       . rw [if_neg h3] at hb
         exact up_get T.up (show i<k - 1 by omega) ha hb
   . rw [if_neg h1] at ha
     rw [if_neg (by omega),if_neg (by omega)] at hb
     by_cases h3:i=p
     . rw [if_pos h3] at ha;cases ha;exact hge _ b (by omega) hb
     . rw [if_neg h3] at ha
       exact up_get T.up (show i - 1<k - 1 by omega) ha hb
 . show (insertAt t.place p j).size=_;rw [ins_size b1,ins_size b1',T.sz]
 . have ha:(insertAt t.place p j)[i]? = some a:=ha;rw [ins_get b1] at ha
   split at ha
   . exact T.le i a ha
   . split at ha
     . cases ha;exact hjm
     . exact T.le _ a ha
 . have ha:(insertAt t.place p j)[i]? = some a:=ha;rw [ins_get b1] at ha
   rw [ins_get b1'] at he
   have old:∀i',t.place[i']? = some a->es[i']? = some e->∃n,(SeT.way t.mask (start t.mask e.1) n).j=a/\∀m,m<n->OnP {t with place:=insertAt t.place p j} (SeT.way t.mask (start t.mask e.1) m).j:=fun i' h1 h2=>by
    obtain ⟨n,hn,hm⟩:=T.way i' a e h1 h2;exact ⟨n,hn,fun m hm'=>hon _ (hm m hm')⟩
   by_cases h1:i<p
   . rw [if_pos h1] at ha he;exact old _ ha he
   . rw [if_neg h1] at ha he
     by_cases h3:i=p
     . rw [if_pos h3] at ha he;cases ha;cases he
       exact ⟨N,hj,fun m hm=>hon _ (hN m hm)⟩
     . rw [if_neg h3] at ha he;exact old _ ha he
theorem TI.congr{t t':SetTable}{es:Array (Int×Value)}(T:TI t es)(h1:t'.place=t.place)(h2:t'.mask=t.mask)(h3:t'.dummies=t.dummies):TI t' es:=by
 have hon:∀a,OnP t a->OnP t' a:=fun a ⟨i,hi⟩=>⟨i,h1 ▸ hi⟩;refine ⟨h1 ▸ T.up,h3 ▸ T.nd,h1 ▸ T.sz,fun i j hj=>h2 ▸ T.le i j (h1 ▸ hj),fun i j e hj he=> ?_⟩;obtain ⟨n,hn,hm⟩:=T.way i j e (h1 ▸ hj) he;rw [h2];exact ⟨n,hn,fun m hm'=>hon _ (hm m hm')⟩
theorem TI.none(t:SetTable)(h1:t.place = #[])(h2:t.dummies = #[]):TI t #[] :=
 ⟨fun i j _ h=>absurd h (by rw [h1];simp),h2,by rw [h1];rfl,fun i j h=>absurd h (by rw [h1];simp),fun i j e h=>absurd h (by rw [h1];simp)⟩
end SeT
namespace SeT
open PySem PySem.SetTable
def Occ(ow:Array (Option Nat))(j:Nat):Prop:=∃k,ow[j]? = some (some k)
theorem occ_none{ow:Array (Option Nat)}{j:Nat}(hj:j<ow.size):(ow.getD j (some 0)).isNone=true↔¬Occ ow j:=by
 have e:ow.getD j (some 0)=ow[j]:=by simp [Array.getD,hj]
 rw [e];unfold Occ;rw [Array.getElem?_eq_getElem hj]
 cases ow[j] <;> simp
theorem free_spec {mask : Nat} {ow : Array (Option Nat)} (hz : ow.size = mask + 1) : ∀ fuel i q K, K < fuel -> i <= mask -> ¬ Occ ow (lps mask K (i, q)).1 ->
 ∃N,layClean.free mask ow fuel i q=some (way mask (at0 mask i q) N).j/\¬Occ ow (way mask (at0 mask i q) N).j/\∀m,m<N->Occ ow (way mask (at0 mask i q) m).j:=by
 intro fuel
 induction fuel with
 | zero=>intro i q K h;omega
 | succ f ih=>
  intro i q K hK hi hf;have hrun:∀r,r<=runEnd mask i - i->way mask (at0 mask i q) r={at0 mask i q with j:=i+r,more:=(runEnd mask i - i) - r}:=fun r hr=>way_run mask r _ hr;have hre:runEnd mask i<=mask/\i<=runEnd mask i:=by unfold runEnd;split <;> omega
  unfold layClean.free
  cases hfd:(List.range (runEnd mask i+1 - i)).find? (fun k=>(ow.getD (i+k) (some 0)).isNone) with
  | some r=>
   obtain ⟨h1,h2,h3⟩:=List.find?_range_eq_some.mp hfd;have h2':=List.mem_range.mp h2;refine ⟨r,by rw [hrun r (by omega)],?_,fun m hm=> ?_⟩
   . rw [hrun r (by omega)];exact (occ_none (j:=i+r) (by omega)).mp h1
   . rw [hrun m (by omega)];have:=h3 m hm;refine Classical.byContradiction fun hc=> ?_;have h4:=(occ_none (ow:=ow) (j:=i+m) (by omega)).mpr hc
     rw [h4] at this;exact absurd this (by decide)
  | none=>
   have hall:∀r,r<=runEnd mask i - i->Occ ow (i+r):=fun r hr=>by
    have:=List.find?_eq_none.mp hfd r (List.mem_range.mpr (by omega));refine Classical.byContradiction fun hc=>this ((occ_none (by omega)).mpr hc)
   cases K with
   | zero=>exact absurd (hall 0 (by omega)) hf
   | succ K=>
    obtain ⟨N,e,h1,h2⟩:=ih (leap mask i q).1 (leap mask i q).2 K (by omega) (Nat.le_of_lt_succ (Nat.mod_lt _ (Nat.succ_pos _))) hf;refine ⟨runEnd mask i - i+1+N,?_,?_,fun m hm=> ?_⟩
    . rw [way_add,way_leap];exact e
    . rw [way_add,way_leap];exact h1
    . rcases Nat.lt_or_ge (runEnd mask i - i) m with hl | hl
      . obtain ⟨m',rfl⟩:∃m',m=runEnd mask i - i+1+m':=⟨m - (runEnd mask i - i+1),by omega⟩;rw [way_add,way_leap];exact h2 m' (by omega)
      . rw [hrun m hl];exact hall m hl
structure OI (mask:Nat) (hs:List Int) (ow:Array (Option Nat)) (k:Nat):Prop where
 sz:ow.size=mask+1
 sur:∀k',k'<k->∃j:Nat,ow[j]? = some (some k')
 lt:∀(j k':Nat),ow[j]? = some (some k')->k'<k
 inj:∀(j j2 k':Nat),ow[j]? = some (some k')->ow[j2]? = some (some k')->j=j2
 way:∀(j k':Nat) (h:Int),ow[j]? = some (some k')->hs[k']? = some h->∃n,(way mask (start mask h) n).j=j/\∀m,m<n->Occ ow (SeT.way mask (start mask h) m).j
theorem OI.off{mask:Nat}{hs:List Int}{ow:Array (Option Nat)}{k:Nat}(O:OI mask hs ow k)(hk:k<=mask):∃d,d<=mask/\¬Occ ow d:=by
 refine Classical.byContradiction fun hc=> ?_;have hall:∀d,d<=mask->Occ ow d:=fun d hd=>Classical.byContradiction fun hn=>hc ⟨d,hd,hn⟩
 let f:Nat->Nat:=fun d=>((ow[d]?).getD none).getD 0
 have hf:∀d,d<=mask->ow[d]? = some (some (f d)):=fun d hd=>by
  obtain ⟨k',hk'⟩:=hall d hd;show _=some (some (((ow[d]?).getD none).getD 0));rw [hk'];rfl
 have hnd:((List.range (mask+1)).map f).Nodup:=by
  refine List.pairwise_map.mpr (List.Pairwise.imp_of_mem ?_ List.nodup_range);intro a b ha hb hne he;have ha':=List.mem_range.mp ha;have hb':=List.mem_range.mp hb;exact hne (O.inj a b (f a) (hf a (by omega)) (by rw [he];exact hf b (by omega)))
 have hsub:(List.range (mask+1)).map f ⊆ List.range k:=fun x hx=>by
  obtain ⟨d,hd,rfl⟩:=List.mem_map.mp hx;exact List.mem_range.mpr (O.lt d _ (hf d (by have:=List.mem_range.mp hd;omega)))
 have:=List.Nodup.length_le_of_subset hnd hsub;simp at this;omega
theorem OI.step {mask : Nat} (hr : Round mask) {hs : List Int} {ow : Array (Option Nat)} {k : Nat} (O : OI mask hs ow k) (hk : k <= mask) {h : Int} (hh : hs[k]? = some h) :
 ∃j,layClean.free mask ow (turns mask) (bits h % (mask+1)) (bits h)=some j/\OI mask hs (ow.setIfInBounds j (some k)) (k+1):=by
 obtain ⟨d,hd,hn⟩:=O.off hk;obtain ⟨K,hK,e⟩:=every hr (i:=bits h % (mask+1)) (q:=bits h) (Nat.le_of_lt_succ (Nat.mod_lt _ (Nat.succ_pos _))) (bits_lt h) hd;obtain ⟨N,h1,h2,h3⟩:=free_spec O.sz (turns mask) (bits h % (mask+1)) (bits h) K (by unfold turns;omega) (Nat.le_of_lt_succ (Nat.mod_lt _ (Nat.succ_pos _))) (by rw [e];exact hn);refine ⟨_,h1,?_⟩;have hj:(SeT.way mask (start mask h) N).j<=mask:=way_le mask h N
 change ¬Occ ow (SeT.way mask (start mask h) N).j at h2
 change ∀m,m<N->Occ ow (SeT.way mask (start mask h) m).j at h3
 change OI mask hs (ow.setIfInBounds (SeT.way mask (start mask h) N).j (some k)) (k+1)
 generalize hjj:(SeT.way mask (start mask h) N).j=j at h2 hj
 have hjz:j<ow.size:=by rw [O.sz];omega
 have get:∀a:Nat,(ow.setIfInBounds j (some k))[a]? = if j=a then some (some k) else ow[a]? :=fun a=>by
  rw [Array.getElem?_setIfInBounds]
  split
  . rename_i he;subst he;first | rfl | rw [if_pos hjz]
  . rfl
 have hon:∀a,Occ ow a->Occ (ow.setIfInBounds j (some k)) a:=fun a ⟨k',hk'⟩=>by
  refine ⟨k',?_⟩;rw [get,if_neg (fun he:j=a=>h2 ⟨k',by rw [he];exact hk'⟩)];exact hk'
 refine ⟨by rw [Array.size_setIfInBounds];exact O.sz,fun k' hk' => ?_,fun a k' ha=> ?_,fun a b k' ha hb=> ?_,fun a k' h' ha hh' => ?_⟩
 . rcases Nat.lt_or_ge k' k with hl | hl
   . obtain ⟨a,ha⟩:=O.sur k' hl;exact ⟨a,by rw [get,if_neg (fun he:j=a=>h2 ⟨k',by rw [he];exact ha⟩)];exact ha⟩
   . exact ⟨j,by rw [get,if_pos rfl,show k'=k by omega]⟩
 . rw [get] at ha
   split at ha
   . cases ha;omega
   . have:=O.lt a k' ha;omega
 . rw [get] at ha hb
   split at ha
   . cases ha
     split at hb
     . omega
     . have:=O.lt b k hb;omega
   . split at hb
     . cases hb;have:=O.lt a k ha;omega
     . exact O.inj a b k' ha hb
 . rw [get] at ha
   split at ha
   . rename_i he;subst he;cases ha;rw [hh] at hh';cases hh'
     exact ⟨N,hjj,fun m hm=>hon _ (h3 m hm)⟩
   . obtain ⟨n,hn,hm⟩:=O.way a k' h' ha hh';exact ⟨n,hn,fun m hm'=>hon _ (hm m hm')⟩
def laySt (mask : Nat) : Option (Array (Option Nat) × Nat) -> Int -> Option (Array (Option Nat) × Nat) := fun acc h => do
 let (owner,k) <-acc
 let j <-layClean.free mask owner (turns mask) (bits h % (mask+1)) (bits h)
 pure (owner.setIfInBounds j (some k),k+1)
theorem lay_fold{mask:Nat}(hr:Round mask){hs:List Int}(hz:hs.length<=mask):∀(rest:List Int) (k:Nat) ow,hs.drop k=rest->OI mask hs ow k->∃ow',rest.foldl (laySt mask) (some (ow,k))=some (ow',k+rest.length)/\OI mask hs ow' (k+rest.length)
 | [],k,ow,_,O=>⟨ow,rfl,O⟩
 | h::rest,k,ow,hd,O=>by
  have hk:k<hs.length:=by
   refine Classical.byContradiction fun hc=> ?_;rw [List.drop_eq_nil_of_le (by omega)] at hd;cases hd
  have hh:hs[k]? = some h:=by
   rw [List.drop_eq_getElem_cons hk] at hd
   rw [List.getElem?_eq_getElem hk,(List.cons.inj hd).1]
  obtain ⟨j,e,O'⟩:=O.step hr (by omega) hh;obtain ⟨ow',e2,O2⟩:=lay_fold hr hz rest (k+1) _ (by rw [List.drop_eq_getElem_cons hk] at hd;exact (List.cons.inj hd).2) O';refine ⟨ow',?_,by rw [List.length_cons];rw [show k+(rest.length+1)=k+1+rest.length by omega];exact O2⟩;rw [List.foldl_cons,List.length_cons,show k+(rest.length+1)=k+1+rest.length by omega, <-e2];congr 1
  show ((layClean.free mask ow (turns mask) (bits h % (mask+1)) (bits h)).bind fun j=>pure (ow.setIfInBounds j (some k),k+1))=_;rw [e];rfl
theorem no_rep{n j k:Nat}(h:(Array.replicate n (none:Option Nat))[j]? = some (some k)):False:=by
 rw [Array.getElem?_replicate] at h
 split at h <;> cases h
theorem oi0(mask:Nat)(hs:List Int):OI mask hs (Array.replicate (mask+1) none) 0:=
 ⟨by simp,fun k' h=>by omega,fun _ _ h=>(no_rep h).elim,fun _ _ _ h=>(no_rep h).elim,fun _ _ _ h=>(no_rep h).elim⟩
theorem lay_ok{mask:Nat}(hr:Round mask){hs:Array Int}(hz:hs.size<=mask):∃ow,layClean mask hs=some ow/\OI mask hs.toList ow hs.size:=by
 obtain ⟨ow,e,O⟩:=lay_fold hr (hs:=hs.toList) (by simpa using hz) hs.toList 0 (Array.replicate (mask+1) none) (by simp) (oi0 mask _);refine ⟨ow,?_,by simpa using O⟩;unfold layClean;rw [<-Array.foldl_toList];show Option.map (·.1) (hs.toList.foldl (laySt mask) _)=_;rw [e];rfl
theorem getD_occ{ow:Array (Option Nat)}{j k:Nat}:ow.getD j none=some k↔ow[j]? = some (some k):=by
 unfold Array.getD
 by_cases h:j<ow.size
 . rw [dif_pos h,Array.getElem?_eq_getElem h]
   constructor
   . intro e;exact congrArg some e
   . intro e;exact Option.some.inj e
 . rw [dif_neg h,Array.getElem?_eq_none (by omega)];simp
def lv(mask:Nat)(ow:Array (Option Nat)):List (Nat×Nat):=(List.range (mask+1)).filterMap fun j=>(ow.getD j none).map (j, ·)
theorem lv_mem{mask:Nat}{ow:Array (Option Nat)}(hz:ow.size=mask+1){j k:Nat}:(j,k) ∈ lv mask ow↔ow[j]? = some (some k):=by
 unfold lv;rw [List.mem_filterMap]
 constructor
 . rintro ⟨a,_,ha⟩;obtain ⟨k',hk',e⟩:=Option.map_eq_some_iff.mp ha
   cases e
   exact getD_occ.mp hk'
 . intro h;obtain ⟨h1,_⟩:=Array.getElem?_eq_some_iff.mp h;exact ⟨j,List.mem_range.mpr (by omega),by rw [getD_occ.mpr h];rfl⟩
theorem lv_up(mask:Nat)(ow:Array (Option Nat)):(lv mask ow).Pairwise fun a b=>a.1<b.1:=by
 unfold lv;refine List.Pairwise.filterMap _ ?_ List.pairwise_lt_range;intro a a' h b hb b' hb';obtain ⟨k,_,e⟩:=Option.map_eq_some_iff.mp hb;obtain ⟨k',_,e'⟩:=Option.map_eq_some_iff.mp hb';subst e;subst e';exact h
theorem OI.ord{mask:Nat}{hs:List Int}{ow:Array (Option Nat)}{n:Nat}(O:OI mask hs ow n):((lv mask ow).map (·.2)).Nodup/\(∀k,k ∈ (lv mask ow).map (·.2)↔k<n)/\(lv mask ow).length=n:=by
 have hnd:((lv mask ow).map (·.2)).Nodup:=by
  refine List.pairwise_map.mpr (List.Pairwise.imp_of_mem ?_ (lv_up mask ow));intro a b ha hb hab he;have h1:=(lv_mem O.sz (j:=a.1) (k:=a.2)).mp ha;have h2:=(lv_mem O.sz (j:=b.1) (k:=b.2)).mp hb;rw [he] at h1
  have:=O.inj _ _ _ h1 h2;omega
 have hm:∀k,k ∈ (lv mask ow).map (·.2)↔k<n:=fun k=>by
  rw [List.mem_map]
  constructor
  . rintro ⟨a,ha,rfl⟩;exact O.lt _ _ ((lv_mem O.sz (j:=a.1) (k:=a.2)).mp ha)
  . intro h;obtain ⟨j,hj⟩:=O.sur k h;exact ⟨(j,k),(lv_mem O.sz).mpr hj,rfl⟩
 refine ⟨hnd,hm,?_⟩;have h1:=List.Nodup.length_le_of_subset hnd (fun k hk=>List.mem_range.mpr ((hm k).mp hk):_ ⊆ List.range n);have h2:=List.Nodup.length_le_of_subset (List.nodup_range (n:=n)) (fun k hk=>(hm k).mpr (List.mem_range.mp hk):_ ⊆ (lv mask ow).map (·.2));simp at h1 h2;omega
theorem fm_all{α:Type}(es:Array α):∀(l:List Nat),(∀k,k ∈ l->k<es.size)->(l.filterMap (es[·]?)).length=l.length/\∀i:Nat,(l.filterMap (es[·]?))[i]? = (l[i]?).bind (es[·]?)
 | [],_=>⟨rfl,fun i=>by simp⟩
 | k::l,h=>by
  have hk:=h k (List.mem_cons_self ..);obtain ⟨h1,h2⟩:=fm_all es l fun k' hk'=>h k' (List.mem_cons_of_mem _ hk');rw [List.filterMap_cons_some (Array.getElem?_eq_getElem hk)];refine ⟨by simp [h1],fun i=> ?_⟩
  cases i with
  | zero=>simp [hk]
  | succ i=>simpa using h2 i
theorem laid_ok {mask : Nat} (hr : Round mask) (finger moves : Nat) (led plain : Bool) (es : Array (Int × Value)) (hz : es.size <= mask) :
 ∃t order,laid mask finger moves led plain (es.map (·.1))=some (t,order)/\t.mask=mask/\t.led=led/\t.plain=plain /\
  (order.filterMap (es[·]?)).size=es.size/\(∀e,e ∈ order.filterMap (es[·]?)↔e ∈ es)/\TI t (order.filterMap (es[·]?)):=by
 obtain ⟨ow,e,O⟩:=lay_ok hr (hs:=es.map (·.1)) (by simpa using hz);have hsz:(es.map (·.1)).size=es.size:=by simp
 rw [hsz] at O
 obtain ⟨o1,o2,o3⟩:=O.ord;have hfm:=fm_all es ((lv mask ow).map (·.2)) (fun k hk=>(o2 k).mp hk);have hl:(((lv mask ow).map (·.2)).toArray.filterMap (es[·]?))=(((lv mask ow).map (·.2)).filterMap (es[·]?)).toArray:=by simp
 refine ⟨_,_,by unfold laid;rw [e];rfl,rfl,rfl,rfl,?_,?_,?_⟩
 . show ((((lv mask ow).map (·.2)).toArray.filterMap (es[·]?))).size=_;rw [hl];simp only [List.size_toArray];rw [hfm.1];simpa using o3
 . intro x;show x ∈ ((((lv mask ow).map (·.2)).toArray.filterMap (es[·]?)))↔_;rw [hl,List.mem_toArray,List.mem_filterMap]
   constructor
   . rintro ⟨k,_,hk⟩;exact Array.mem_of_getElem? hk
   . intro hx;obtain ⟨k,hk,e2⟩:=Array.mem_iff_getElem.mp hx;exact ⟨k,(o2 k).mpr hk,by rw [Array.getElem?_eq_getElem hk,e2]⟩
 . show TI _ ((((lv mask ow).map (·.2)).toArray.filterMap (es[·]?)));rw [hl]
   have hpl:∀i j:Nat,((lv mask ow).map (·.1)).toArray[i]? = some j->∃k,(lv mask ow)[i]? = some (j,k)/\ow[j]? = some (some k):=fun i j hj=>by
    rw [List.getElem?_toArray,List.getElem?_map] at hj
    obtain ⟨a,ha,e2⟩:=Option.map_eq_some_iff.mp hj;subst e2;exact ⟨a.2,ha,(lv_mem O.sz).mp (List.mem_of_getElem? ha)⟩
   have hocc:∀a,Occ ow a->∃i:Nat,((lv mask ow).map (·.1)).toArray[i]? = some a:=fun a ⟨k,hk⟩=>by
    obtain ⟨i,hi,e2⟩:=List.mem_iff_getElem.mp ((lv_mem O.sz).mpr hk);exact ⟨i,by rw [List.getElem?_toArray,List.getElem?_map,List.getElem?_eq_getElem hi,e2];rfl⟩
   refine ⟨up_of fun i k a b g ha hb=> ?_,rfl,?_,fun i j hj=> ?_,fun i j x hj hx=> ?_⟩
   . obtain ⟨_,ha,_⟩:=hpl i a ha;obtain ⟨_,hb,_⟩:=hpl k b hb;obtain ⟨h1,e1⟩:=List.getElem?_eq_some_iff.mp ha;obtain ⟨h2,e2⟩:=List.getElem?_eq_some_iff.mp hb;have:=List.pairwise_iff_getElem.mp (lv_up mask ow) i k h1 h2 g;rw [e1,e2] at this;exact this
   . show ((lv mask ow).map (·.1)).toArray.size=_;simp only [List.size_toArray];rw [hfm.1];simp
   . obtain ⟨k,_,hk⟩:=hpl i j hj;obtain ⟨h1,_⟩:=Array.getElem?_eq_some_iff.mp hk;show j<=mask;have:=O.sz;omega
   . obtain ⟨k,hlv,hk⟩:=hpl i j hj
     have hk':es[k]? = some x:=by
      rw [List.getElem?_toArray,hfm.2 i,List.getElem?_map,hlv] at hx;exact hx
     obtain ⟨n,hn,hm⟩:=O.way j k x.1 hk (by
      have:(es.map (·.1))[k]? = some x.1:=by rw [Array.getElem?_map,hk'];rfl
      rw [<-this,Array.getElem?_toList])
     exact ⟨n,hn,fun m hm'=>hocc _ (hm m hm')⟩
theorem laid_perm {mask : Nat} (hr : Round mask) {finger moves : Nat} {led plain : Bool} {es : Array (Int × Value)} (hz : es.size <= mask) {t : SetTable} {order : Array Nat}
 (h:laid mask finger moves led plain (es.map (·.1))=some (t,order)):order.toList.Perm (List.range es.size):=by
 obtain ⟨ow,e,O⟩:=lay_ok hr (hs:=es.map (·.1)) (by simpa using hz);rw [show (es.map (·.1)).size=es.size by simp] at O
 obtain ⟨o1,o2,o3⟩:=O.ord;unfold laid at h
 rw [e] at h
 have h':((lv mask ow).map (·.2)).toArray=order:=congrArg Prod.snd (Option.some.inj h);rw [<-h'];exact (List.perm_ext_iff_of_nodup o1 List.nodup_range).mpr fun k=>by rw [o2 k,List.mem_range]
end SeT
namespace SeT
open PySem
section
variable {prog:Program} {w:World} {A:Around} {E:Value->Shared->Prop} {s:Shared}
theorem int_val{ks:List Int}{vs:List Value}(h:ItemsAre (intKind prog w) ks vs):∀v ∈ vs,∃n t,v = .int n t:=by
 induction h with
 | nil=>intro v hv;simp at hv
 | @cons k v' ks vs h1 _ ih=>
  intro v hv;rcases List.mem_cons.mp hv with rfl | hv
  . obtain ⟨t,rfl⟩:=Value.isInt_shape h1;exact ⟨k,t,rfl⟩
  . exact ih v hv
theorem ofA_tup{k:List Int}{a:Addr}{Q:Bool->Shared->Prop}(hk:IsTupleKey (intKind prog w) s.heap k a)(h:Q false s):wpAny (model prog w) A (ofAClassStatement 8 (.ref a)) Q E s:=by
 have hT:=hk.typeIs;obtain ⟨o,items,n,ho,_,hd,hi⟩:=hk;unfold ofAClassStatement;refine wpAny_bind (wpAny_typeOf hT ?_)
 dsimp only
 rw [if_pos (by decide)]
 first | refine wpAny_bind (wpAny_pure ?_) | skip
 simp only [Bool.not_true,Bool.false_eq_true,if_false];refine wpAny_bind (wpAny_seqItems ho hd ?_)
 dsimp only
 refine wpAny_bind ?_;rw [<-Array.forIn_toList];refine wpAny_forIn_list _ (fun rest r s'=>r.1=none/\s'=s/\∀v ∈ rest,∃n t,v=Value.int n t) _ ?_ ?_ _ _ ⟨rfl,rfl,int_val hi⟩
 . rintro v rest r s' ⟨hr,rfl,hall⟩;obtain ⟨n,t,rfl⟩:=hall v List.mem_cons_self;refine wpAny_bind (wpAny_of_eq (show ofAClassStatement 7 (.int n t)=pure false from rfl) (wpAny_pure ?_));simp only [Bool.false_eq_true,if_false];exact ⟨trivial,trivial,fun u hu'=>hall u (List.mem_cons_of_mem _ hu')⟩
 . rintro ⟨r1,r2⟩ s' ⟨hr,rfl,_⟩;simp only at hr
   subst hr;exact wpAny_pure h
theorem hbv_tup{k:List Int}{a:Addr}{Q:Bool->Shared->Prop}(hk:IsTupleKey (intKind prog w) s.heap k a)(h:Q true s):wpAny (model prog w) A (hashByValue 8 (.ref a)) Q E s:=by
 have hT:=hk.typeIs;obtain ⟨o,items,n,ho,_,hd,hi⟩:=hk;unfold hashByValue;refine wpAny_bind (wpAny_specialOf hT F.slot_tuple_hash.lookup ?_)
 dsimp only
 refine wpAny_bind (wpAny_seqItems ho hd ?_);show wpAny _ _ (forIn items _ _ >>= _) _ _ s;refine wpAny_bind ?_;rw [<-Array.forIn_toList];refine wpAny_forIn_list _ (fun rest r s'=>r.1=none/\s'=s/\∀v ∈ rest,∃n t,v=Value.int n t) _ ?_ ?_ _ _ ⟨rfl,rfl,int_val hi⟩
 . rintro v rest r s' ⟨hr,rfl,hall⟩;obtain ⟨n,t,rfl⟩:=hall v List.mem_cons_self;refine wpAny_bind (wpAny_of_eq (show hashByValue 7 (.int n t)=pure true from rfl) (wpAny_pure ?_));simp only [Bool.not_true,Bool.false_eq_true,if_false];exact ⟨trivial,trivial,fun u hu'=>hall u (List.mem_cons_of_mem _ hu')⟩
 . rintro ⟨r1,r2⟩ s' ⟨hr,rfl,_⟩;simp only at hr
   subst hr;exact wpAny_pure h
def TupV(prog:Program)(w:World)(h:Heap)(v:Value):Prop:=∃k b,v = .ref b/\IsTupleKey (intKind prog w) h k b
theorem seen_tup {k : List Int} {a : Addr} (hk : IsTupleKey (intKind prog w) s.heap k a) {l : List Value} (hl : ∀ v ∈ l, TupV prog w s.heap v) {Q : Bool -> Shared -> Prop} (h : Q false s) :
 wpAny (model prog w) A (searchCouldBeSeen (.ref a) l) Q E s:=by
 unfold searchCouldBeSeen;refine wpAny_bind ?_;refine wpAny_forIn_list _ (fun rest r s'=>r.1=none/\s'=s/\∀v ∈ rest,TupV prog w s.heap v) _ ?_ ?_ _ _ ⟨rfl,rfl,hl⟩
 . rintro v rest r s' ⟨hr,rfl,hall⟩;obtain ⟨k',b,rfl,hk'⟩:=hall v List.mem_cons_self;have hrest:∀v ∈ rest,TupV prog w s'.heap v:=fun u hu'=>hall u (List.mem_cons_of_mem _ hu')
   dsimp only
   split
   . exact wpAny_pure ⟨rfl,rfl,hrest⟩
   . refine wpAny_bind (wpAny_eqIsQuiet_tuple hk ?_);simp only [Bool.not_true,Bool.false_eq_true,if_false];refine wpAny_bind (wpAny_eqIsQuiet_tuple hk' ?_);simp only [Bool.not_true,Bool.false_eq_true,if_false];refine wpAny_bind (ofA_tup hk ?_);simp only [Bool.false_eq_true,if_false];refine wpAny_bind (ofA_tup hk' ?_);simp only [Bool.false_eq_true,if_false];exact wpAny_pure ⟨rfl,rfl,hrest⟩
 . rintro ⟨r1,r2⟩ s' ⟨hr,rfl,_⟩;simp only at hr
   subst hr;exact wpAny_pure h
def TSet(prog:Program)(w:World)(ok:Addr->Prop)(h:Heap)(a:Addr)(ks:List (List Int)):Prop:=
 ∃o es ep t,h.get? a=some o/\o.ExactSet/\o.data = .set es ep t/\TI t es/\((t.mask=7/\es.size<5)\/(t.mask=31/\es.size<19))/\es.size=ks.length /\
  (∀e ∈ es,∃k b,k ∈ ks/\e.2 = .ref b/\(ok b/\IsTupleKey (intKind prog w) h k b)/\e.1=tupleKeyHash (intKind prog w) k)/\∀k ∈ ks,∃e ∈ es,e.1=tupleKeyHash (intKind prog w) k
theorem mk_rd{t:SetTable}{n:Nat}(h:(t.mask=7/\n<5)\/(t.mask=31/\n<19)):Round t.mask/\n<=t.mask/\t.mask % 2=1:=by
 rcases h with ⟨e,h⟩ | ⟨e,h⟩
 . rw [e];exact ⟨rd7,by omega,rfl⟩
 . rw [e];exact ⟨rd31,by omega,rfl⟩
theorem TI.fits{t:SetTable}{es:Array (Int×Value)}(T:TI t es)(h:es.size<=t.mask):t.fits es.size=true:=by
 unfold SetTable.fits SetTable.fill;rw [T.nd,T.sz];simp [h]
theorem search_there {S : Addr} {o : Obj} {es : Array (Int × Value)} {ep : Nat} {t : SetTable} {k : List Int} {b : Addr} (hu : A.units < cLine) (hk : IsTupleKey (intKind prog w) s.heap k b)
 (ho:s.heap.get? S=some o) (hd:o.data = .set es ep t) (T:TI t es) (hm:(t.mask=7/\es.size<5)\/(t.mask=31/\es.size<19)) (hel:∀e ∈ es,TupV prog w s.heap e.2)
 (hsame:∀e ∈ es,e.1=tupleKeyHash (intKind prog w) k->∃c,e.2 = .ref c/\IsTupleKey (intKind prog w) s.heap k c)
 (hin:∃e ∈ es,e.1=tupleKeyHash (intKind prog w) k) {Q:SetFound->Shared->Prop} (h:Q (.there none) s) :
 wpAny (model prog w) A (setSearch S (.ref b) (tupleKeyHash (intKind prog w) k) (adding:=true)) Q E s:=by
 obtain ⟨hr,hz,hodd⟩:=mk_rd hm;obtain ⟨e,he,hh⟩:=hin;obtain ⟨i,hi,rfl⟩:=Array.mem_iff_getElem.mp he;obtain ⟨j,i',e',nx,he',hh',hp⟩:=T.there hr hz (Array.getElem?_eq_getElem hi);rw [hh] at hp hh'
 obtain ⟨c,hc,hkc⟩:=hsame e' (Array.mem_of_getElem? he') hh';unfold setSearch setSearchFrom;refine wpAny_bind (wpAny_setState_of ho hd (T.fits hz) ?_);have hg:t.gaveWay=false:=by unfold SetTable.gaveWay;rw [hodd];rfl
 simp only [hg,Bool.false_eq_true,if_false]
 erw [hp]
 dsimp only
 have hlist:∀v ∈ ((es.filter (·.1==tupleKeyHash (intKind prog w) k)).toList.map (·.2)),TupV prog w s.heap v:=fun v hv=>by
  obtain ⟨x,hx,rfl⟩:=List.mem_map.mp hv;exact hel x (Array.mem_filter.mp (Array.mem_toList_iff.mp hx)).1
 cases hl:t.led
 . simp only [Bool.not_false,if_true];refine wpAny_bind (seen_tup hk hlist ?_);simp only [Bool.false_eq_true,if_false];obtain ⟨e1,e2⟩:=e'
   dsimp only at hc
   subst hc;rw [he']
   dsimp only
   refine wpAny_bind (wpAny_holding (wpAny_eqBool_tuple hu hkc hk ?_));refine wpAny_bind (wpAny_setState_of ho hd (T.fits hz) ?_);simp only [decide_true,Bool.and_self,if_true];exact wpAny_pure h
 . simp only [Bool.not_true,Bool.false_eq_true,if_false];obtain ⟨e1,e2⟩:=e'
   dsimp only at hc
   subst hc;rw [he']
   dsimp only
   refine wpAny_bind (wpAny_holding (wpAny_eqBool_tuple hu hkc hk ?_));refine wpAny_bind (wpAny_setState_of ho hd (T.fits hz) ?_);simp only [decide_true,Bool.and_self,if_true];exact wpAny_pure h
theorem search_free {S : Addr} {o : Obj} {es : Array (Int × Value)} {ep : Nat} {t : SetTable} {k : List Int} {b : Addr}
 (ho:s.heap.get? S=some o) (hd:o.data = .set es ep t) (T:TI t es) (hm:(t.mask=7/\es.size<5)\/(t.mask=31/\es.size<19))
 (hn:∀e ∈ es,e.1≠tupleKeyHash (intKind prog w) k) {Q:SetFound->Shared->Prop}
 (h:∀N,¬OnP t (way t.mask (start t.mask (tupleKeyHash (intKind prog w) k)) N).j->(∀m,m<N->OnP t (way t.mask (start t.mask (tupleKeyHash (intKind prog w) k)) m).j)->Q (.free (way t.mask (start t.mask (tupleKeyHash (intKind prog w) k)) N).j false) s) :
 wpAny (model prog w) A (setSearch S (.ref b) (tupleKeyHash (intKind prog w) k) (adding:=true)) Q E s:=by
 obtain ⟨hr,hz,hodd⟩:=mk_rd hm;obtain ⟨N,hp,h1,h2⟩:=T.free hr hz (h:=tupleKeyHash (intKind prog w) k) (fun i e he=>hn e (Array.mem_of_getElem? he));unfold setSearch setSearchFrom;refine wpAny_bind (wpAny_setState_of ho hd (T.fits hz) ?_);have hg:t.gaveWay=false:=by unfold SetTable.gaveWay;rw [hodd];rfl
 simp only [hg,Bool.false_eq_true,if_false]
 erw [hp]
 exact wpAny_pure (h N h1 h2)
theorem tk_keep{h h':Heap}{S:Addr}{o:Obj}{es ep t}(ho:h.get? S=some o)(hd:o.data = .set es ep t)(hsb:Heap.SameBut S h h'){k:List Int}{b:Addr}(hk:IsTupleKey (intKind prog w) h k b):IsTupleKey (intKind prog w) h' k b:=by
 obtain ⟨o',items,n,ho',hc,hd',hi⟩:=hk
 have hne:b≠S:=by
  rintro rfl;obtain rfl:o'=o:=Option.some.inj (ho'.symm.trans ho);rw [hd] at hd';exact nomatch hd'
 exact ⟨o',items,n,(hsb.2 b hne).trans ho',hc,hd',hi⟩
theorem store_get {h : Heap} {S : Addr} {o : Obj} {es : Array (Int × Value)} {ep : Nat} {t : SetTable} (ho : h.get? S = some o) (hd : o.data = .set es ep t) (es' : Array (Int × Value)) (t' : SetTable) :
 (h.update S (Obj.putSet es' t')).get? S=some {o with data:= .set es' (ep+1) t' }:=by
 have:=Heap.get?_update_self (Obj.putSet es' t') ho (by rw [putSet_of es' t' hd];rfl);rw [putSet_of es' t' hd] at this;exact this
theorem ins_mem{α:Type}{xs:Array α}{p:Nat}(x y:α):y ∈ SetTable.insertAt xs p x↔y ∈ xs\/y=x:=by
 rw [<-Array.mem_toList_iff,(SetTable.insertAt_perm xs p x).mem_iff,Array.mem_toList_iff,Array.mem_push]
theorem add_tail {ok : Addr -> Prop} {S : Addr} {o : Obj} {es es1 : Array (Int × Value)} {ep : Nat} {t t1 : SetTable} {ks : List (List Int)} (ho : s.heap.get? S = some o) (hex : o.ExactSet) (hd : o.data = .set es ep t)
 (T:TI t1 es1) (hm:(t1.mask=7/\es1.size<6)\/(t1.mask=31/\es1.size<19)) (hn:es1.size=ks.length)
 (hel:∀e ∈ es1,∃k b,k ∈ ks/\e.2 = .ref b/\(ok b/\IsTupleKey (intKind prog w) s.heap k b)/\e.1=tupleKeyHash (intKind prog w) k) (hin:∀k ∈ ks,∃e ∈ es1,e.1=tupleKeyHash (intKind prog w) k)
 {n:Nat} (hsz:n=es1.size) {Q:Bool->Shared->Prop} (h:∀h',Heap.SameBut S s.heap h'->TSet prog w ok h' S ks->Q true {s with heap:=h' }) :
 wpAny (model prog w) A (do
  storeSet S es1 t1
  if (!false && t1.tooFull)=true then setRelay S (SetTable.grown n)
  return true) Q E s:=by
 have hb:es1.size<scanBound:=by
  have h0:scanBound=4096:=rfl;rw [h0];omega
 have hz1:es1.size<=t1.mask:=by omega
 refine wpAny_bind (wpAny_storeSet_of ho hd ?_ (fits_of_scanBound hb));have hg:=store_get ho hd es1 t1;have hsb:=Heap.SameBut.update s.heap S (Obj.putSet es1 t1)
 by_cases hf:t1.tooFull=true
 . have hf' : t1.mask * 3 <= es1.size * 5 := by
    unfold SetTable.tooFull SetTable.fill at hf
    rw [T.nd,T.sz] at hf
    simpa using hf
   have h5:t1.mask=7/\es1.size=5:=by omega
   obtain ⟨t',order,hlaid,hmask,_,_,hosz,homem,T'⟩:=laid_ok rd31 t1.finger (t1.movedTo 31) t1.led t1.plain es1 (by omega)
   have hrel:t1.relaid (es1.map (·.1)) (SetTable.grown n)=some (t',order):=by
    rw [hsz,h5.2];exact hlaid
   simp only [hf,Bool.not_false,Bool.and_self,if_true];refine wpAny_bind ?_;unfold setRelay;refine wpAny_bind (wpAny_setState_of hg rfl (T.fits hz1) ?_)
   dsimp only
   rw [if_neg (by rw [hsz,h5.2,sizeLine_eq];decide)]
   first | refine wpAny_bind (wpAny_pure ?_) | skip
   refine wpAny_bind ?_;rw [hrel];have hre:((order.filterMap (es1[·]?)).size != es1.size)=false:=by rw [hosz];simp
   show wpAny _ _ (if ((order.filterMap (es1[·]?)).size != es1.size)=true then _ else _) _ _ _;rw [hre];simp only [Bool.false_eq_true,if_false]
   first | refine wpAny_bind (wpAny_pure ?_) | skip
   refine wpAny_pure ?_
   dsimp only
   have hb2:(order.filterMap (es1[·]?)).size<scanBound:=by rw [hosz];exact hb
   refine wpAny_storeSet_of hg rfl ?_ (fits_of_scanBound hb2);refine wpAny_pure ?_;have hg2:=store_get hg rfl (order.filterMap (es1[·]?)) t';have hsb2:=hsb.trans (Heap.SameBut.update (s.heap.update S (Obj.putSet es1 t1)) S (Obj.putSet (order.filterMap (es1[·]?)) t'));refine h _ hsb2 ⟨_,_,_,_,hg2,hex,rfl,T', .inr ⟨hmask,by rw [hosz];omega⟩,by rw [hosz];exact hn,fun e he=> ?_,fun k hk=> ?_⟩
   . obtain ⟨k,b,h1,h2,h3,h4⟩:=hel e ((homem e).mp he);exact ⟨k,b,h1,h2,⟨h3.1,tk_keep ho hd hsb2 h3.2⟩,h4⟩
   . obtain ⟨e,he,h1⟩:=hin k hk;exact ⟨e,(homem e).mpr he,h1⟩
 . have hf' : ¬ t1.mask * 3 <= es1.size * 5 := by
    intro hc;refine hf ?_;unfold SetTable.tooFull SetTable.fill;rw [T.nd,T.sz];simpa using hc
   have hff:t1.tooFull=false:=by simpa using hf
   simp only [hff,Bool.and_false,Bool.false_eq_true,if_false]
   first | refine wpAny_bind (wpAny_pure ?_) | skip
   refine wpAny_pure ?_;refine h _ hsb ⟨_,_,_,_,hg,hex,rfl,T,by omega,hn,fun e he=> ?_,hin⟩;obtain ⟨k,b,h1,h2,h3,h4⟩:=hel e he;exact ⟨k,b,h1,h2,⟨h3.1,tk_keep ho hd hsb h3.2⟩,h4⟩
theorem add_tup {ok : Addr -> Prop} {S : Addr} {ks : List (List Int)} {k : List Int} {b : Addr} (hok : ok b) (hu : A.units < cLine) (hk : IsTupleKey (intKind prog w) s.heap k b) (hS : TSet prog w ok s.heap S ks) (hroom : ks.length + 1 < 19)
 (hinj:∀k' ∈ ks,tupleKeyHash (intKind prog w) k'=tupleKeyHash (intKind prog w) k->k'=k) {Q:Bool->Shared->Prop}
 (h:∀(b:Bool) h',Heap.SameBut S s.heap h'->TSet prog w ok h' S (if k ∈ ks then ks else ks ++ [k])->Q b {s with heap:=h' }) :
 wpAny (model prog w) A (setAddHashed S (.ref b) (tupleKeyHash (intKind prog w) k)) Q E s:=by
 obtain ⟨o,es,ep,t,ho,hex,hd,T,hm,hn,hel,hin⟩:=hS;obtain ⟨hr,hz,hodd⟩:=mk_rd hm;unfold setAddHashed setAddHashedIn;refine wpAny_holding (wpAny_bind (wpAny_setState_of ho hd (T.fits hz) ?_))
 dsimp only
 have hbs:byScan (.ref b) es=false:=by simp [byScan,Value.scannable]
 simp only [hbs,Bool.false_eq_true,if_false]
 by_cases hks:k ∈ ks
 . rw [if_pos hks] at h
   refine wpAny_bind (search_there hu hk ho hd T hm (fun e he=> ?_) (fun e he hh=> ?_) (hin k hks) ?_)
   . obtain ⟨k',c,_,h2,h3,_⟩:=hel e he;exact ⟨k',c,h2,h3.2⟩
   . obtain ⟨k',c,h1,h2,h3,h4⟩:=hel e he;have:=hinj k' h1 (h4.symm.trans hh);subst this;exact ⟨c,h2,h3.2⟩
   . exact wpAny_pure (h false s.heap (Heap.SameBut.refl S s.heap) ⟨o,es,ep,t,ho,hex,hd,T,hm,hn,hel,hin⟩)
 . rw [if_neg hks] at h
   have hne:∀e ∈ es,e.1≠tupleKeyHash (intKind prog w) k:=fun e he hh=>by
    obtain ⟨k',c,h1,h2,h3,h4⟩:=hel e he;exact hks (hinj k' h1 (h4.symm.trans hh) ▸ h1)
   refine wpAny_bind (search_free ho hd T hm hne fun N h1 h2=> ?_)
   dsimp only
   refine wpAny_bind (wpAny_setState_of ho hd (T.fits hz) ?_);have T1:=T.put (.ref b) h1 h2;have hp:(t.put (way t.mask (start t.mask (tupleKeyHash (intKind prog w) k)) N).j).2<=es.size:=T.sz ▸ (below_spec T.up _).1;have hmk:(t.put (way t.mask (start t.mask (tupleKeyHash (intKind prog w) k)) N).j).1.mask=t.mask:=rfl;have hsz1:(SetTable.insertAt es (t.put (way t.mask (start t.mask (tupleKeyHash (intKind prog w) k)) N).j).2 (tupleKeyHash (intKind prog w) k,Value.ref b)).size=es.size+1:=ins_size hp _;generalize hput:t.put (way t.mask (start t.mask (tupleKeyHash (intKind prog w) k)) N).j=tp at T1 hp hmk hsz1
   obtain ⟨t1,p⟩:=tp
   dsimp only at T1 hp hmk hsz1 ⊢
   have go : ∀ t2 : SetTable, t2.place = t1.place -> t2.mask = t1.mask -> t2.dummies = t1.dummies -> wpAny (model prog w) A (do
    storeSet S (SetTable.insertAt es p (tupleKeyHash (intKind prog w) k,Value.ref b)) t2
    if (!false && t2.tooFull)=true then setRelay S (SetTable.grown (es.size+1))
    return true) Q E s:=fun t2 e1 e2 e3=>by
    refine add_tail (ks:=ks ++ [k]) ho hex hd (T1.congr e1 e2 e3) (by rw [e2,hmk,hsz1];omega) (by rw [hsz1,hn];simp) (fun e he=> ?_) (fun k' hk' => ?_) hsz1.symm (fun h' hsb hS'=>h true h' hsb hS')
    . rcases (ins_mem _ _).mp he with he | rfl
      . obtain ⟨k',c,g1,g2,g3,g4⟩:=hel e he;exact ⟨k',c,List.mem_append_left _ g1,g2,g3,g4⟩
      . exact ⟨k,b,by simp,rfl,⟨hok,hk⟩,rfl⟩
    . rcases List.mem_append.mp hk' with g | g
      . obtain ⟨e,he,g1⟩:=hin k' g;exact ⟨e,(ins_mem _ _).mpr (.inl he),g1⟩
      . rw [List.mem_singleton.mp g];exact ⟨_,(ins_mem _ _).mpr (.inr rfl),rfl⟩
   by_cases hpl:t1.plain=true
   . rw [if_pos hpl];refine wpAny_bind (hbv_tup hk ?_);simp only [if_true];exact go t1 rfl rfl rfl
   . rw [if_neg hpl];refine wpAny_bind (wpAny_pure ?_);simp only [if_true];exact go t1 rfl rfl rfl
end
end SeT
namespace SeT
open PySem PyProof.Rows
def stepK(ks:List (List Int))(k:List Int):List (List Int):=if k ∈ ks then ks else ks ++ [k]
def metK(val:Nat->List Int)(i:Nat):List (List Int):=((List.range i).map val).foldl stepK []
theorem metK_succ(val:Nat->List Int)(i:Nat):metK val (i+1)=stepK (metK val i) (val i):=by
 unfold metK;rw [List.range_succ,List.map_append,List.foldl_append];rfl
theorem metK_len(val:Nat->List Int):∀i,(metK val i).length<=i
 | 0=>Nat.le_refl _
 | i+1=>by
  rw [metK_succ];unfold stepK;have:=metK_len val i
  split
  . omega
  . rw [List.length_append,List.length_singleton];omega
theorem metK_mem(val:Nat->List Int):∀(i:Nat) (k:List Int),k ∈ metK val i->∃j,j<i/\val j=k
 | 0,k,h=>by simp [metK] at h
 | i+1,k,h=>by
  rw [metK_succ] at h;unfold stepK at h
  split at h
  . obtain ⟨j,hj,e⟩:=metK_mem val i k h;exact ⟨j,by omega,e⟩
  . rcases List.mem_append.mp h with h | h
    . obtain ⟨j,hj,e⟩:=metK_mem val i k h;exact ⟨j,by omega,e⟩
    . exact ⟨i,by omega,(List.mem_singleton.mp h).symm⟩
section
variable {prog:Program} {w:World} {A:Around} {R:Result->Shared->Prop} {I:Addr} {fp wr:List Addr} {G:Array GenState->Array GenState->Prop} {n:Nat} {P:Nat->Value->Prop} {St:Nat->Shared->Prop}
theorem tk_mv{h h':Heap}{k:List Int}{b:Addr}(hb:∀o,h.get? b=some o->h'.get? b=some o)(hk:IsTupleKey (intKind prog w) h k b):IsTupleKey (intKind prog w) h' k b:=by
 obtain ⟨o,items,n,ho,r⟩:=hk;exact ⟨o,items,n,hb o ho,r⟩
theorem TSet.mv{ok:Addr->Prop}{h h':Heap}{S:Addr}{ks}(hS:TSet prog w ok h S ks)(h1:∀o,h.get? S=some o->h'.get? S=some o)(h2:∀b,ok b->∀o,h.get? b=some o->h'.get? b=some o):TSet prog w ok h' S ks:=by
 obtain ⟨o,es,ep,t,ho,hex,hd,T,hm,hn,hel,hin⟩:=hS;refine ⟨o,es,ep,t,h1 o ho,hex,hd,T,hm,hn,fun e he=> ?_,hin⟩;obtain ⟨k,b,g1,g2,g3,g4⟩:=hel e he;exact ⟨k,b,g1,g2,⟨g3.1,tk_mv (h2 b g3.1) g3.2⟩,g4⟩
theorem loop_tup (W : WalksS prog w A.in1 I fp wr G n P St) (S : Addr) (hSf : S ∉ fp) (hu : A.in1.units < cLine)
 (val:Nat->List Int) (hinj:∀i j,i<n->j<n->tupleKeyHash (intKind prog w) (val i)=tupleKeyHash (intKind prog w) (val j)->val i=val j) (hb:n<18) :
 ∀(k i:Nat) (s:Shared),n - i=k->i<=n->St i s->TSet prog w (fun b=>b ∉ S::wr) s.heap S (metK val i) ->
   (∀j v,P j v->∃b,v = .ref b/\b ∉ S::wr/\IsTupleKey (intKind prog w) s.heap (val j) b) ->
   (∀s',Moved (S::wr) G s s'->TSet prog w (fun b=>b ∉ S::wr) s'.heap S (metK val n)->R (.ok (.ret .none)) s') ->
   codeAny (model prog w) A (.builtin "set.update.loop" ⟨[.ref S, .ref I],[]⟩) R s:=by
 have hSw:S ∉ wr:=fun h=>hSf (W.sub _ h);have hsub:∀b ∈ wr,b ∈ S::wr:=fun b hb=>List.mem_cons_of_mem _ hb;intro k
 induction k with
 | zero=>
  intro i s hk hi hst hS hP hR;have hin:i=n:=by omega
  subst hin;refine codeAny_builtin PyProof.Rows.F.entry_set_update_loop ?_;rw [Around.under_plainId PyProof.Rows.F.plain_set_update_loop _];show wpAny _ A.in1 (pyNext (.ref I) >>= _) _ _ s;refine wpAny_bind (W.done s _ _ hst fun s' hm=> ?_);show wpAny _ A.in1 (ret Value.none) _ _ s'
  exact wpAny_pure (hR s' (hm.mono hsub) (hS.mv (fun o=>hm.heap S o hSw) fun b hb o=>hm.heap b o fun h=>hb (hsub b h)))
 | succ k ih=>
  intro i s hk hi hst hS hP hR;have hlt:i<n:=by omega
  refine codeAny_builtin PyProof.Rows.F.entry_set_update_loop ?_;rw [Around.under_plainId PyProof.Rows.F.plain_set_update_loop _];show wpAny _ A.in1 (pyNext (.ref I) >>= _) _ _ s;refine wpAny_bind (W.item i s _ _ hlt hst fun v s' hPv hst' hm=> ?_)
  have hP':∀j v,P j v->∃b,v = .ref b/\b ∉ S::wr/\IsTupleKey (intKind prog w) s'.heap (val j) b:=fun j v hj=>by
   obtain ⟨b,e,g1,g2⟩:=hP j v hj;exact ⟨b,e,g1,tk_mv (fun o=>hm.heap b o fun h=>g1 (hsub b h)) g2⟩
  obtain ⟨b,rfl,hbn,hkb⟩:=hP' i v hPv;have hS':=hS.mv (h':=s'.heap) (fun o=>hm.heap S o hSw) fun b hb o=>hm.heap b o fun h=>hb (hsub b h);show wpAny _ A.in1 (holding [Value.ref b] (setAdd S (.ref b)) >>= _) _ _ s';refine wpAny_bind (wpAny_holding ?_);unfold setAdd;refine wpAny_holding ?_;refine wpAny_bind (wpAny_pyHash_tuple hu hkb ?_);have hroom:(metK val i).length+1<19:=by have:=metK_len val i;omega
  refine add_tup (ok:=fun b=>b ∉ S::wr) (s:={s' with toks:=s'.toks+((val i).length+1)}) hbn hu hkb hS' hroom (fun k' hk' e=> ?_) fun bb h' hsb hS2=> ?_
  . obtain ⟨j,hj,rfl⟩:=metK_mem val i k' hk';exact hinj j i (by omega) hlt e
  . have hS2':TSet prog w (fun b=>b ∉ S::wr) h' S (metK val (i+1)):=by rw [metK_succ];exact hS2
    refine wpAny_pure ⟨plainId_quiet PyProof.Rows.F.plain_set_update_loop _,ih (i+1) _ (by omega) hlt (W.frame _ s' _ _ hst' (Nat.le_add_right _ _) fun c hc o e=> ?_) hS2' (fun j v hj=> ?_) fun s'' hm'' hS'' => ?_⟩
    . rw [hsb.2 c (fun h:c=S=>hSf (by rw [<-h];exact hc))];exact e
    . obtain ⟨c,e,g1,g2⟩:=hP' j v hj;exact ⟨c,e,g1,tk_mv (fun o e=>by rw [hsb.2 c (fun h:c=S=>g1 (by rw [h];exact List.mem_cons_self))];exact e) g2⟩
    . refine hR s'' (Moved.trans W.gtrans ((hm.mono hsub).then_heap (Nat.le_add_right _ _) fun c o hc e=> ?_) hm'') hS'';rw [hsb.2 c (fun h:c=S=>hc (by rw [h];exact List.mem_cons_self))];exact e
end
end SeT
namespace PySem
open PySem PySem.Spec
section
variable {prog:Program} {w:World} {A:Around} {E:Value->Shared->Prop} {s:Shared}
set_option maxRecDepth 100000 in
set_option maxHeartbeats 3200000 in
theorem call_set_tup {l : Addr} {items : Array Value} {val : Nat -> List Int} {Q : Value -> Shared -> Prop}
 (hh:A.handled=none) (hl:s.heap.IsList l items) (hu:A.in1.in1.in1.units<cLine) (hi:∀(i:Nat) v,items[i]? = some v->∃b,v = .ref b/\IsTupleKey (intKind prog w) s.heap (val i) b) (hinj:∀i j,i<items.size->j<items.size->tupleKeyHash (intKind prog w) (val i)=tupleKeyHash (intKind prog w) (val j)->val i=val j) (hb:items.size<18)
 (h:∀(h':Heap) (tk:Nat),(∃ok,SeT.TSet prog w ok h' s.heap.objs.size (SeT.metK val items.size)) ->
  (∀b o,b<s.heap.objs.size->s.heap.get? b=some o->h'.get? b=some o)->Q (.ref s.heap.objs.size) {s with heap:=h',toks:=tk}) :
 wpAny (model prog w) A (call (.type "set") [.ref l]) Q E s:=by
 obtain ⟨c,tl,hmro⟩:=F.called_set.mro;have hmade:=F.called_set.made;have hsub:=F.called_set.sub;refine wpAny_call (codeAny_of_tree ?_);show wpAny _ _ (callAny (.type "set") _) _ _ _;refine wpAny_pure ⟨Code.quiet_builtin _ (by decide +kernel),codeAny_builtin F.entry_type_call ?_⟩;rw [Around.under_plain (weight_type_call_type "set" [.ref l] []) rfl];have h1:=F.called_set.notType;have h2:=F.called_set.canCreate;have hct:=F.typeCall_set_1 (.ref l)
 repeat (any_goals (first | assumption | wp_step))
 refine codeAny_mono (code_set_new_1 (.ref l) (E:=E) (Q₁:=fun obj s₁=>∃led:Bool,obj = .ref s.heap.objs.size/\s₁={s with heap:=s.heap.push {cls:= .type "set",dict:=none,data:= .set #[] 0 (.fresh 0 0 led)} }) fun led=>⟨led,rfl,rfl⟩) fun r s₁ hr=> ?_
 cases r with
 | error e=>exact hr
 | ok fl=>
  cases fl with
  | ret obj=>
   obtain ⟨led,rfl,rfl⟩:=hr;have hS:(s.heap.push {cls:= .type "set",dict:=none,data:= .set #[] 0 (.fresh 0 0 led)}).get? s.heap.objs.size=some {cls:= .type "set",dict:=none,data:= .set #[] 0 (.fresh 0 0 led)}:=Heap.get?_push_size _ rfl;have hT:Shared.TypeIs {s with heap:=s.heap.push {cls:= .type "set",dict:=none,data:= .set #[] 0 (.fresh 0 0 led)} } (.ref s.heap.objs.size) "set" :=⟨_,hS,rfl⟩;have hli:=F.called_set.init.lookup;have hbi:=F.called_set.init.bind (.ref s.heap.objs.size)
   repeat (any_goals (first | assumption | wp_step))
   refine codeAny_mono (codeAny_call_builtin (R := wants (fun r s₂ => r = .none /\ ∃ h' tk, s₂ = { s with heap := h', toks := tk } /\
    (∃ok,SeT.TSet prog w ok h' s.heap.objs.size (SeT.metK val items.size)) /\
    (∀b o,b<s.heap.objs.size->s.heap.get? b=some o->h'.get? b=some o)) E) F.called_set.init.plain F.entry_set_init (check_set_init_1 hT ?_)) fun r₂ s₂ hr₂=> ?_
   . obtain ⟨ol,hol,hcl,nl,hdl⟩:=hl;obtain ⟨ocls,odict,odata,oslots⟩:=ol;simp only at hcl hdl
     subst hcl;subst hdl;have hol':(s.heap.push {cls:= .type "set",dict:=none,data:= .set #[] 0 (.fresh 0 0 led)}).get? l=some {cls:= .type "list",dict:=odict,data:= .seq items nl,slots:=oslots}:=Heap.get?_push_of_some _ hol;have hsls:=F.sub_list_set;have hslf:=F.sub_list_frozenset;have hne:(Value.type "list" ==Value.type "dict")=false:=by decide
     have hl1:(s.heap.push {cls:= .type "set",dict:=none,data:= .set #[] 0 (.fresh 0 0 led)}).IsList l items:=⟨_,hol',rfl,nl,rfl⟩;unfold Builtin.«set.__init__» noKeywords Builtin.Frozenset.updateFrom;generalize hPI:pyIter=PI
     wp_walk
     subst hPI;refine wpAny_pyIter_list hl1 ?_;refine wpAny_bind (wpAny_runValue ?_);have hlS:l<s.heap.objs.size:=Heap.lt_size hol;have hh3:A.in1.in1.in1.handled=none:=by simp [hh]
     have hneI:l≠(s.heap.push {cls:= .type "set",dict:=none,data:= .set #[] 0 (.fresh 0 0 led)}).objs.size:=by
      rw [Heap.size_push];exact Nat.ne_of_lt (Nat.lt_succ_of_lt hlS)
     have hSf:s.heap.objs.size ∉ [(s.heap.push {cls:= .type "set",dict:=none,data:= .set #[] 0 (.fresh 0 0 led)}).objs.size,l]:=by
      rw [Heap.size_push];simp only [List.mem_cons,List.mem_singleton,List.not_mem_nil,or_false,not_or];exact ⟨Nat.ne_of_lt (Nat.lt_succ_self _),Nat.ne_of_gt hlS⟩
     have hlow:∀b,b<s.heap.objs.size->b ∉ s.heap.objs.size :: [(s.heap.push {cls:= .type "set",dict:=none,data:= .set #[] 0 (.fresh 0 0 led)}).objs.size]:=fun b hb h=>by
      rw [Heap.size_push] at h;simp only [List.mem_cons,List.not_mem_nil,or_false] at h;omega
     refine SeT.loop_tup ((Walks.list hh3 _ l hneI items).toS) s.heap.objs.size
      hSf hu val hinj hb (items.size - 0) 0 _ (by omega) (Nat.zero_le _)
      ⟨⟨_,Heap.get?_push_size _ rfl,rfl,rfl⟩,(hl1.push _)⟩ ?hS0 ?hP ?hR
     case hS0=>
      have hget : ((s.heap.push { cls := .type "set", dict := none, data := .set #[] 0 (.fresh 0 0 led) }).push { cls := .type "list_iterator", data := .fields #[.ref l, .int 0 0] }).get? s.heap.objs.size
       = some {cls:= .type "set",dict:=none,data:= .set #[] 0 (.fresh 0 0 led)}:=Heap.get?_push_of_some _ hS
      exact ⟨_,_,_,_,hget,⟨rfl,rfl,rfl⟩,rfl,SeT.TI.none _ rfl rfl, .inl ⟨rfl,by decide⟩,rfl,fun e he=>absurd he (by simp),fun k hk=>absurd hk (by simp [SeT.metK])⟩
     case hP=>
      intro j v hj;obtain ⟨b,e,hk⟩:=hi j v hj;have hlt:b<s.heap.objs.size:=by obtain ⟨o,_,_,ho,_⟩:=hk;exact Heap.lt_size ho
      exact ⟨b,e,hlow b hlt,SeT.tk_mv (fun o e=>Heap.get?_push_of_some _ (Heap.get?_push_of_some _ e)) hk⟩
     case hR=>
      intro s' hm hS';obtain ⟨h',g',d',tk',os'⟩:=s';have eg:g'=s.gens:=hm.gens;have ed:d'=s.drawn:=hm.drawn;have eo:os'=s.os:=hm.os;subst eg;subst ed;subst eo;show wpAny _ _ _ _ _ _;refine wpAny_pure ?_;show wpAny _ _ (ret Value.none) _ _ _;refine wpAny_pure ⟨rfl,h',tk',rfl,⟨_,hS'⟩,fun b o hb e=> ?_⟩;have hb1:b≠s.heap.objs.size:=Nat.ne_of_lt hb
      have hb2:b≠(s.heap.push {cls:= .type "set",dict:=none,data:= .set #[] 0 (.fresh 0 0 led)}).objs.size:=by
       rw [Heap.size_push];exact Nat.ne_of_lt (Nat.lt_succ_of_lt hb)
      exact hm.heap b o (by simp only [List.mem_cons,List.mem_singleton,List.not_mem_nil,or_false,not_or];exact ⟨hb1,hb2⟩) (Heap.get?_push_of_some _ (Heap.get?_push_of_some _ e))
   . cases r₂ with
     | error e=>exact hr₂
     | ok fl₂=>
      cases fl₂ with
      | ret r=>
       obtain ⟨rfl,h',tk,rfl,hS',hk'⟩:=hr₂
       repeat (any_goals (first | assumption | wp_step))
       exact h _ _ hS' hk'
      | _=>exact hr₂.elim
  | _=>exact hr.elim
end
end PySem
namespace Tf
open PySem PySem.Spec PyProof.Rows L2
def SetN(a:Addr)(n:Nat):Heap->Prop:=fun h=>∃o es ep t,h.get? a=some o/\o.ExactSet/\o.data = .set es ep t/\t.fits es.size=true/\es.size=n/\n<4096
def hK(k:List Int):Int:=reduceHash (Builtin.Tuple.tupleHashOf (k.map hashInt))
def unT(kss:List (List Int)):Nat:=(SeT.metK (fun i=>kss.getD i []) kss.length).length
section
variable {X:Cx}
theorem call_lenSt:CallR X (.builtin "len") (fun xs H Q=>∃a n,xs = [V.ref a]/\H a=some (.ext (SetN a n))/\Q (.int n) H):=by
 intro pins s σ H xs us Q I r h;obtain ⟨a,n,rfl,ha,q⟩:=h;obtain ⟨u,rfl,ru⟩:=vals1 r
 cases ru
 obtain ⟨⟨o,es,ep,t,h1,h2,h3,h4,rfl,h6⟩,_⟩:=(show SetN a n s.heap/\_ from I.hok a _ ha)
 have hb:(es.size:Int)<2 ^ 63:=by
  have:(4096:Int)<2 ^ 63:=by decide
  omega
 exact call_len_set h1 h2 h3 h4 hb ⟨.int es.size,H,I.tok _,⟨_,rfl⟩,q⟩
theorem items_of{prog:Program}{w:World}:∀ {k:List Int} {its:List Value},Vals (k.map V.int) its->ItemsAre (intKind prog w) k its:=by
 intro k
 induction k with
 | nil=>intro its h;cases h;exact .nil
 | cons n k ih=>
  intro its h
  cases h with
  | cons h1 h2=>
   obtain ⟨t,rfl⟩:=h1;exact .cons (by show Value.isInt n (.int n t)=true;simp [Value.isInt]) (ih h2)
theorem paired_get{α β:Type}{F:α->β->Prop}:∀ {l:List α} {m:List β} {i:Nat} {x:α},Paired F l m->l[i]? = some x->∃u,m[i]? = some u/\F x u
 | _,_,_,_, .nil,e=>by simp at e
 | _,_,0,_, .cons r _,e=>by simp at e;subst e;exact ⟨_,rfl,r⟩
 | _,_,i+1,_, .cons _ r,e=>by simp at e;exact paired_get (i:=i) r e
theorem SetN.stay{a:Addr}{n:Nat}(h1 h2:Heap)(x:SetN a n h1)(k:∀o,h1.get? a=some o->h2.get? a=some o):SetN a n h2:=by
 obtain ⟨o,es,ep,t,e,r⟩:=x;exact ⟨o,es,ep,t,k o e,r⟩
theorem call_setT (hc : X.calm = true) (hu : X.A.units + 64 < cLine) : CallR X (.type "set") (fun xs H Q => ∃ a bs kss, xs = [V.ref a] /\ SqL X.K H a (bs.map V.ref) /\ Paired (fun b k => SqT X.K H b (k.map V.int)) bs kss /\
 (∀k ∈ kss,∀k' ∈ kss,hK k=hK k'->k=k')/\kss.length<18/\∀p,H p=none->Q (.ref p) (upd H p (.ext (SetN p (unT kss))))):=by
 intro pins s σ H xs us Q I r h;obtain ⟨a,bs,kss,rfl,hq,hp,hinj,hl,q⟩:=h;obtain ⟨u,rfl,ru⟩:=vals1 r
 cases ru
 obtain ⟨its,rv,p1,hz⟩:=I.list hq;have e1:=rv.length;rw [List.length_map] at e1
 have e2:=Paired.length hp;have esz:its.toArray.size=kss.length:=by rw [List.size_toArray];omega
 refine call_set_tup (items:=its.toArray) (val:=fun i=>kss.getD i []) (I.ok.hd hc) p1.isList (by show X.A.units+1+1+1<cLine;omega) (fun i v hv=> ?_) (fun i j hi hj he=> ?_) (by rw [esz];exact hl) fun h' tk hS hk=> ?_
 . rw [List.getElem?_toArray] at hv
   have hi:i<bs.length:=by rw [e1];exact (List.getElem?_eq_some_iff.mp hv).1
   obtain ⟨u,hu',ru⟩:=rv.get (i:=i) (x:=V.ref bs[i]) (by rw [List.getElem?_map,List.getElem?_eq_getElem hi];rfl);rw [hv] at hu'
   cases hu'
   obtain ⟨k,hk,hs⟩:=paired_get hp (List.getElem?_eq_getElem hi);obtain ⟨tis,rt,⟨o,ho,hcl,n,hd⟩,_⟩:=I.tuple hs;refine ⟨bs[i],ru,o,tis.toArray,n,ho,hcl,hd,?_⟩;rw [show kss.getD i []=k by rw [List.getD_eq_getElem?_getD,hk];rfl];exact items_of rt
 . rw [esz] at hi hj
   refine hinj _ ?_ _ ?_ he
   . rw [List.getD_eq_getElem?_getD,List.getElem?_eq_getElem hi];exact List.getElem_mem hi
   . rw [List.getD_eq_getElem?_getD,List.getElem?_eq_getElem hj];exact List.getElem_mem hj
 . rw [esz] at hS
   obtain ⟨ok,o,es,ep,t,ho,hex,hd,T,hm,hn,_⟩:=hS;have hlen:=SeT.metK_len (fun i=>kss.getD i []) kss.length;have hN:SetN s.heap.objs.size (unT kss) h':=⟨o,es,ep,t,ho,hex,hd,T.fits (SeT.mk_rd hm).2.1,hn,by show (SeT.metK _ _).length<4096;omega⟩;exact ⟨.ref s.heap.objs.size,_,I.laid (t':=tk) (o:= .ext (SetN s.heap.objs.size (unT kss))) (fun b u e=>hk b u (Heap.lt_size e) e) (Nat.le_refl _) ⟨hN,⟨o,ho⟩,fun h1 h2 x k=>x.stay h1 h2 k⟩,rfl,q _ (I.hok.fresh (Nat.le_refl _))⟩
end
end Tf
namespace Tf
open PySem PySem.Spec PyProof.Rows L2
theorem tups_at{K:PySem.W.Frag}{H:Hp}:∀ {kss:List (List Int)} {vs:List V},Reps K H vs (kss.map tI)->∃bs,vs=bs.map V.ref/\Paired (fun b k=>SqT K H b (k.map V.int)) bs kss
 | [],_, .nil=>⟨[],rfl, .nil⟩
 | k::kss,_, .cons h t=>by
  obtain ⟨bs,rfl,p⟩:=tups_at t;unfold tI at h
  cases h with
  | tuple h1 h2=>
   rw [reps_ints' h2] at h1
   exact ⟨_::bs,rfl, .cons (SqT.of (K:=K) h1) p⟩
end Tf
namespace Dm
open PySem PySem.Spec PyProof.Rows L2 Tf
def tups0:List PyData->Option (List (List Int))
 | []=>some []
 | .tuple ds::r=>(intsOf ds).bind fun ns=>(tups0 r).bind fun nss=>some (ns::nss)
 | _::_=>none
theorem tups0_eq:∀ {ds:List PyData} {nss:List (List Int)},tups0 ds=some nss->ds=nss.map tI
 | [],nss,h=>by cases h;rfl
 | d::r,nss,h=>by
  cases d with
  | tuple ds=>
   unfold tups0 at h
   obtain ⟨ns,h1,h⟩:=Option.bind_eq_some_iff.mp h;obtain ⟨ms,h2,h⟩:=Option.bind_eq_some_iff.mp h
   cases h
   rw [List.map_cons,tups0_eq h2,intsOf_eq h1];rfl
  | _=>cases h
theorem tups0_map:∀ {nss:List (List Int)},tups0 (nss.map tI)=some nss
 | []=>rfl
 | ns::nss=>by
  show ((intsOf (ns.map PyData.int)).bind fun ns=>(tups0 (nss.map tI)).bind fun nss=>some (ns::nss))=_;rw [intsOf_map,Option.bind_some,tups0_map];rfl
def apartK(kss:List (List Int)):Bool:=kss.all fun k=>kss.all fun k'=>hK k != hK k' || k==k'
theorem apartK_at{kss:List (List Int)}(h:apartK kss=true):∀k ∈ kss,∀k' ∈ kss,hK k=hK k'->k=k':=fun k hk k' hk' e=>by
 have:=List.all_eq_true.mp (List.all_eq_true.mp h k hk) k' hk';simpa [e] using this
def dLenSetT:List Sl->Option Sl
 | [s]=>match s.dat with
  | .list ds=>(tups0 ds).bind fun kss=>if kss.length<18/\apartK kss=true then some (.val (.int (unT kss:Nat))) else none
  | _=>none
 | _=>none
section
variable {K:PySem.W.Frag} {R:Rl} [RelOk K R]
theorem re_lenSetT {ta : TA} {f : En -> Option (List Sl)} (h : RQ K R ta f) : RE K R (tCB (fun xs H Q => ∃ a n, xs = [V.ref a] /\ H a = some (.ext (SetN a n)) /\ Q (.int n) H) (tCons (tCB (fun xs H Q => ∃ a bs kss, xs = [V.ref a] /\ SqL K H a (bs.map V.ref) /\ Paired (fun b k => SqT K H b (k.map V.int)) bs kss /\
 (∀k ∈ kss,∀k' ∈ kss,hK k=hK k'->k=k')/\kss.length<18/\∀p,H p=none->Q (.ref p) (upd H p (.ext (SetN p (unT kss))))) ta) tNil)) (mCallP dLenSetT f):=fun HB σ ρ H0 H s e z hz Q q=>by
 obtain ⟨ss,hd,hz⟩:=Option.bind_eq_some_iff.mp hz;refine h HB σ ρ H0 H s e ss hd _ fun vs H1 J1 x1 p1=> ?_;unfold dLenSetT at hz
 split at hz
 . obtain ⟨v,rfl,pa⟩:=paired1 p1
   split at hz
   . rename_i ds hd;obtain ⟨kss,hn,hz⟩:=Option.bind_eq_some_iff.mp hz
     split at hz
     . rename_i hl
       cases hz
       obtain ⟨a,vs,rfl,h1,h2⟩:=pa.lst x1.s1 hd;rw [tups0_eq hn] at h2
       obtain ⟨bs,rfl,hp⟩:=tups_at (Reps.same x1.s1 h2);refine ⟨a,bs,kss,rfl,h1,hp,apartK_at hl.2,hl.1,fun p hp=> ?_⟩;refine ⟨p,_,rfl,upd_same,?_⟩;exact q _ _ _ (x1.trans (Ext.alloc x1.s1 hp _)) (.int _)
     . cases hz
   . cases hz
 . cases hz
end
section
variable {X:Cx} {R:Rl} [RelOk X.K R] {a:Expr} {p p2 pos pos2:Pos} {fq:En->Option (List Sl)}
theorem de_lenSetT (hm : X.mg "set" = none) (hm2 : X.mg "len" = none) (h : DQ X R [a] fq) (hu : X.A.units + 64 < cLine) (hc : X.calm = true := by rfl) (hg : Gl X "set" := by rfl) (hg2 : Gl X "len" := by rfl)
 (he:starEach [a] X.env=(false,eval a X.env)::starEach [] X.env:=by rfl) (hpl:(backTo pos (starEach [] X.env)).any (·.1)=false:=by rfl)
 (he2:starEach [.Call (.Name "set" p) [a] [] pos] X.env=(false,eval (.Call (.Name "set" p) [a] [] pos) X.env)::starEach [] X.env:=by rfl) (hpl2:(backTo pos2 (starEach [] X.env)).any (·.1)=false:=by rfl):DE X R (.Call (.Name "len" p2) [.Call (.Name "set" p) [a] [] pos] [] pos2) (mCallP dLenSetT fq):=by
 obtain ⟨t,h1,h2⟩:=h;exact ⟨_,pe_callB call_lenSt hg2 hm2 bt_len (pa_cons (pe_callTy (call_setT hc hu) hg hm (by rfl) h1 (by decide) (by decide) he hpl) pa_nil he2) (by decide) (by decide) he2 hpl2,re_lenSetT h2⟩
end
end Dm
namespace SeT
open PySem PySem.SetTable
theorem TI.fit{t:SetTable}{es:Array (Int×Value)}(T:TI t es)(h:es.size<=t.mask):t.fits es.size=true:=by
 unfold SetTable.fits SetTable.fill;rw [T.nd,T.sz];simp [h]
theorem TI.layNew {t : SetTable} {es : Array (Int × Value)} (T : TI t es) (hr : Round t.mask) (hz : es.size + 1 <= t.mask) (h : Int) (x : Value) :
 ∃p t',PySem.layNew t es h x=(insertAt es p (h,x),t',false,false)/\p<=es.size/\TI t' (insertAt es p (h,x))/\t'.mask=t.mask/\t'.plain=t.plain/\t'.led=t.led:=by
 obtain ⟨N,h1,h2,h3⟩:=free_at hr (T.sz ▸ (by omega:es.size<=t.mask)) h
 have hp:t.probe (fun _=>h+1) h (t.probeStart h)=some (.empty (SeT.way t.mask (start t.mask h) N).j Option.none):=by
  rcases go_met T.up T.nd (fun _=>h+1) h (10*turns t.mask) (start t.mask h) N rfl h1 h3 h2 with ⟨j,i',nx,hj,hh,hg⟩ | ⟨_,hl⟩
  . omega
  . exact hl
 have hf:t.freeSlot h=some ((SeT.way t.mask (start t.mask h) N).j,false):=by
  unfold SetTable.freeSlot;rw [hp];rfl
 have T1:=T.put x h2 h3;have hple:(t.put (SeT.way t.mask (start t.mask h) N).j).2<=es.size:=T.sz ▸ (below_spec T.up _).1;have hmk:(t.put (SeT.way t.mask (start t.mask h) N).j).1.mask=t.mask:=rfl;have hfit:=T1.fit (by rw [ins_size hple,hmk];exact hz);refine ⟨(t.put (SeT.way t.mask (start t.mask h) N).j).2,(t.put (SeT.way t.mask (start t.mask h) N).j).1,?_,hple,T1,rfl,rfl,rfl⟩;unfold PySem.layNew;rw [hf];show (insertAt es _ (h,x),(t.put _).1.orStandIn _,false, !(t.put _).1.fits _)=_;unfold SetTable.orStandIn
 change (t.put _).1.fits (insertAt es (below t.place _) (h,x)).size=true at hfit
 rw [hfit];rfl
theorem TI.relayAll {t : SetTable} {es : Array (Int × Value)} (hz : es.size = 5) :
 ∃es' t',PySem.relayAll t es (grown es.size)=(es',t',false)/\es'.size=es.size/\(∀e,e ∈ es'↔e ∈ es)/\TI t' es'/\t'.mask=31/\t'.plain=t.plain/\t'.led=t.led:=by
 obtain ⟨t',order,hl,hm,hled,hpl,hsz,hmem,T'⟩:=laid_ok rd31 t.finger (t.movedTo 31) t.led t.plain es (by omega);have hperm:=laid_perm rd31 (by omega) hl
 have hrel:t.relaid (es.map (·.1)) (grown es.size)=some (t',order):=by
  rw [hz];exact hl
 refine ⟨order.filterMap (es[·]?),t',?_,hsz,hmem,T',hm,hpl,hled⟩;unfold PySem.relayAll;rw [hrel];have hc:coversAll order es.size=true:=by unfold coversAll;exact List.isPerm_iff.mpr hperm
 have hf:t'.fits (order.filterMap (es[·]?)).size=true:=T'.fit (by omega);show (if (coversAll order es.size && t'.fits (order.filterMap (es[·]?)).size)=true then _ else _)=_;rw [hc,hf];rfl
theorem erase_perm{α:Type}:∀(l:List α) (i:Nat) (h:i<l.length),([l[i]]++l.eraseIdx i).Perm l
 | a::l,0,_=>List.Perm.refl _
 | a::l,i+1,h=>by
  have ih:=erase_perm l i (by simpa using h);simp only [List.getElem_cons_succ,List.eraseIdx_cons_succ];exact (List.Perm.swap a _ _).trans (ih.cons a)
theorem pick_perm{α:Type}(next:Nat->Nat)(xs:Array α):(pickOrder next xs).toList.Perm xs.toList:=by
 have go:∀fuel k (left:List α) (out:Array α),left.length<=fuel->(pickOrder.go next fuel k left out).toList.Perm (out.toList++left):=by
  intro fuel
  induction fuel with
  | zero=>
   intro k left out h;have:left = []:=List.length_eq_zero_iff.mp (by omega)
   subst this;unfold pickOrder.go;simp
  | succ f ih=>
   intro k left out h;unfold pickOrder.go
   cases left with
   | nil=>simp
   | cons a l=>
    have hlt:next k % (a::l).length<(a::l).length:=Nat.mod_lt _ (by simp);rw [List.getElem?_eq_getElem hlt];refine (ih _ _ _ (by rw [List.length_eraseIdx_of_lt hlt];simp at h ⊢;omega)).trans ?_;rw [Array.toList_push,List.append_assoc];exact List.Perm.append_left _ (erase_perm _ _ hlt)
 have:=go xs.size 0 xs.toList #[] (by simp);simpa [pickOrder] using this
end SeT
namespace SeT
open PySem
section
variable {prog:Program} {w:World} {A:Around} {E:Value->Shared->Prop} {s:Shared}
def ISet(w:World)(h:Heap)(a:Addr)(ns:List Int):Prop:=
 ∃o es ep t,h.get? a=some o/\o.ExactSet/\o.data = .set es ep t/\TI t es/\((t.mask=7/\es.size<5)\/(t.mask=31/\es.size<19))/\t.plain=true/\t.led = !w.params.followText "set-order" /\ es.size=ns.length /\
  (∀e ∈ es,∃n tok,n ∈ ns/\e=(hashInt n, .int n tok))/\(∀n ∈ ns,∃tok,(hashInt n,Value.int n tok) ∈ es)/\ns.Nodup
theorem add_int {S : Addr} {ns : List Int} {n : Int} {tok : Tok} (hS : ISet w s.heap S ns) (hroom : ns.length + 1 < 19) {Q : Bool -> Shared -> Prop}
 (h:∀(b:Bool) h',Heap.SameBut S s.heap h'->ISet w h' S (if n ∈ ns then ns else ns ++ [n])->Q b {s with heap:=h' }) :
 wpAny (model prog w) A (setAddHashed S (.int n tok) (hashInt n)) Q E s:=by
 obtain ⟨o,es,ep,t,ho,hex,hd,T,hm,hpl,hled,hn,hel,hin,hnd⟩:=hS;obtain ⟨hr,hz,hodd⟩:=mk_rd hm;have h0:scanBound=4096:=rfl;have hb:es.size<scanBound:=by rw [h0];omega
 have hf:=T.fits hz
 have hel':ElemsOf (intKind prog w) es.toList:=fun e he=>by
  obtain ⟨m,tk,_,rfl⟩:=hel e (Array.mem_toList_iff.mp he);exact ⟨⟨m,by show Value.isInt m (.int m tk)=true;simp [Value.isInt],rfl⟩,rfl⟩
 have hkey:(intKind prog w).is n (.int n tok)=true:=by show Value.isInt n (.int n tok)=true;simp [Value.isInt]
 unfold setAddHashed setAddHashedIn;refine wpAny_holding (wpAny_bind (wpAny_setState_of ho hd hf ?_))
 dsimp only
 rw [byScan_of (knd:=intKind prog w) rfl hb hel'];simp only [↓reduceIte];unfold setAddByScan;refine wpAny_bind ?_;refine wpAny_bind (wpAny_rule ?_);refine wpAny_bind (wpAny_setScan_of (knd:=intKind prog w) hkey ho hd hf hel' ?_)
 cases hr':List.findIdx? (fun e=>(intKind prog w).is n e.2) es.toList with
 | some j=>
  dsimp only
  obtain ⟨hj,hpj,_⟩:=List.findIdx?_eq_some_iff_getElem.mp hr'
  have hns:n ∈ ns:=by
   obtain ⟨m,tk,hm',e⟩:=hel _ (Array.mem_toList_iff.mp (List.getElem_mem hj));rw [e] at hpj
   have:n=m:=(intKind prog w).inj (.int m tk) n m hpj (by show Value.isInt m (.int m tk)=true;simp [Value.isInt]);rw [this];exact hm'
  rw [if_pos hns] at h
  exact wpAny_pure (wpAny_pure (h false s.heap (Heap.SameBut.refl S s.heap) ⟨o,es,ep,t,ho,hex,hd,T,hm,hpl,hled,hn,hel,hin,hnd⟩))
 | none=>
  dsimp only
  have hns:n ∉ ns:=fun hc=>by
   obtain ⟨tk,he⟩:=hin n hc;have:=List.findIdx?_eq_none_iff.mp hr' _ (Array.mem_toList_iff.mpr he);exact absurd this (by show ¬Value.isInt n (.int n tk)=false;simp [Value.isInt])
  rw [if_neg hns] at h
  obtain ⟨p,t1,hlay,hp,T1,hm1,hp1,hl1⟩:=T.layNew hr (by omega) (hashInt n) (.int n tok);have hsz1:(SetTable.insertAt es p (hashInt n,Value.int n tok)).size=es.size+1:=ins_size hp _;rw [hlay]
  dsimp only
  refine wpAny_bind (wpAny_pure ?_);rw [if_pos (hp1.trans hpl)];rw [hashByValue_scannable 8 rfl];refine wpAny_bind (wpAny_pure ?_);simp only [plainKind,if_true]
  have hel1:∀e ∈ SetTable.insertAt es p (hashInt n,Value.int n tok),∃m tk,m ∈ ns ++ [n]/\e=(hashInt m, .int m tk):=fun e he=>by
   rcases (ins_mem _ _).mp he with he | rfl
   . obtain ⟨m,tk,g1,g2⟩:=hel e he;exact ⟨m,tk,List.mem_append_left _ g1,g2⟩
   . exact ⟨n,tok,by simp,rfl⟩
  have hin1:∀m ∈ ns ++ [n],∃tk,(hashInt m,Value.int m tk) ∈ SetTable.insertAt es p (hashInt n,Value.int n tok):=fun m hm'=>by
   rcases List.mem_append.mp hm' with g | g
   . obtain ⟨tk,he⟩:=hin m g;exact ⟨tk,(ins_mem _ _).mpr (.inl he)⟩
   . rw [List.mem_singleton.mp g];exact ⟨tok,(ins_mem _ _).mpr (.inr rfl)⟩
  have hnd1:(ns ++ [n]).Nodup:=by
   rw [List.nodup_append];exact ⟨hnd,by simp,fun a ha b hb' e=>hns (by rw [List.mem_singleton.mp hb'] at e;exact e ▸ ha)⟩
  have hlen1:(SetTable.insertAt es p (hashInt n,Value.int n tok)).size=(ns ++ [n]).length:=by rw [hsz1,hn];simp
  generalize hes1:SetTable.insertAt es p (hashInt n,Value.int n tok)=es1 at T1 hsz1 hel1 hin1 hlen1
  have hb1:es1.size<scanBound:=by rw [h0];omega
  refine wpAny_bind (wpAny_storeSet_of ho hd ?_ (fits_of_scanBound hb1));have hg:=store_get ho hd es1 t1;have hsb:=Heap.SameBut.update s.heap S (Obj.putSet es1 t1)
  by_cases hff:t1.tooFull=true
  . have hf' : t1.mask * 3 <= es1.size * 5 := by
     have hff':=hff;unfold SetTable.tooFull SetTable.fill at hff'
     rw [T1.nd,T1.sz] at hff'
     simpa using hff'
    have h5:es1.size=5:=by omega
    obtain ⟨es2,t2,hrl,hs2,hmem2,T2,hm2,hp2,hl2⟩:=TI.relayAll (t:=t1) h5;simp only [hff,Bool.not_false,Bool.and_self,if_true,hrl];refine wpAny_bind (wpAny_pure ?_);have hb2:es2.size<scanBound:=by rw [hs2];exact hb1
    refine wpAny_bind (wpAny_storeSet_of hg rfl ?_ (fits_of_scanBound hb2));refine wpAny_pure (wpAny_pure ?_);have hg2:=store_get hg rfl es2 t2;refine h true _ (hsb.trans (Heap.SameBut.update (s.heap.update S (Obj.putSet es1 t1)) S (Obj.putSet es2 t2))) ⟨_,_,_,_,hg2,hex,rfl,T2, .inr ⟨hm2,by omega⟩,hp2.trans (hp1.trans hpl),hl2.trans (hl1.trans hled),hs2.trans hlen1,fun e he=>hel1 e ((hmem2 e).mp he),fun m hm' => ?_,hnd1⟩;obtain ⟨tk,he⟩:=hin1 m hm';exact ⟨tk,(hmem2 _).mpr he⟩
  . have hf' : ¬ t1.mask * 3 <= es1.size * 5 := by
     intro hc;refine hff ?_;unfold SetTable.tooFull SetTable.fill;rw [T1.nd,T1.sz];simpa using hc
    have hff2:t1.tooFull=false:=by simpa using hff
    simp only [hff2,Bool.and_false,Bool.false_eq_true,if_false];refine wpAny_pure (wpAny_pure ?_);exact h true _ hsb ⟨_,_,_,_,hg,hex,rfl,T1,by omega,hp1.trans hpl,hl1.trans hled,hlen1,hel1,hin1,hnd1⟩
end
end SeT
namespace SeT
open PySem
section
variable {prog:Program} {w:World} {A:Around} {E:Value->Shared->Prop} {s:Shared}
def walked(w:World)(S:Addr)(ep:Nat)(es:Array (Int×Value)):Array (Int×Value):=if w.params.followText "set-order" = true then pickOrder (w.params.setOrder S ep) es else es
theorem walked_perm(w:World)(S:Addr)(ep:Nat)(es:Array (Int×Value)):(walked w S ep es).toList.Perm es.toList:=by
 unfold walked;split
 . exact pick_perm _ _
 . exact List.Perm.refl _
theorem below_next{xs:Array Nat}(hu:Up xs){slot i:Nat}(h:SetTable.below xs slot=i)(hi:i<xs.size):SetTable.below xs (xs[i]+1)=i+1:=by
 obtain ⟨h1,h2,h3⟩:=below_spec hu (xs[i]+1);rcases Nat.lt_trichotomy (SetTable.below xs (xs[i]+1)) (i+1) with hl | hl | hl
 . have:=h3 i (by omega) hi;omega
 . exact hl
 . have hlt:i+1<xs.size:=by omega
   have:=h2 (i+1) hl hlt;have:=hu i (i+1) (by omega) hlt;omega
theorem setNext_at {S : Addr} {o : Obj} {es : Array (Int × Value)} {ep : Nat} {t : SetTable} (ho : s.heap.get? S = some o) (hd : o.data = .set es ep t) (T : TI t es) (hz : es.size <= t.mask)
 (hpl:t.plain=true) (hled:t.led = !w.params.followText "set-order") {i slot:Nat} (hsl:w.params.followText "set-order" = false->SetTable.below t.place slot=i) {Q:Option (Value×Nat)->Shared->Prop}
 (h:∀slot',(i<es.size->w.params.followText "set-order" = false->SetTable.below t.place slot'=i+1)->Q ((walked w S ep es)[i]?.map fun e=>(e.2,slot')) s) :
 wpAny (model prog w) A (setNext S slot i ep) Q E s:=by
 unfold setNext;refine wpAny_bind (wpAny_setState_of ho hd (T.fits hz) ?_)
 dsimp only
 unfold setsByText;refine wpAny_bind (wpAny_bind (wpAny_askSetting (wpAny_pure ?_)));show wpAny _ _ (if w.params.followText "set-order" = true then _ else _) Q E s
 cases hb:w.params.followText "set-order"
 . rw [if_neg (by decide)];unfold walked at h
   rw [hb] at h
   simp only [Bool.false_eq_true,if_false] at h
   have hled':t.led=true:=by rw [hled,hb];rfl
   show wpAny _ _ (if (!t.plain && decide (es.size>1))=true then _ else _) Q E s;rw [hpl];simp only [Bool.not_true,Bool.false_and,Bool.false_eq_true,if_false];refine wpAny_bind ?_;show wpAny _ _ (if (!t.led && !es.isEmpty)=true then _ else _) _ E s;rw [hled'];simp only [Bool.not_true,Bool.false_and,Bool.false_eq_true,if_false];refine wpAny_pure ?_;rw [hsl hb]
   by_cases hi:i<es.size
   . have hi':i<t.place.size:=by rw [T.sz];exact hi
     rw [Array.getElem?_eq_getElem hi,Array.getElem?_eq_getElem hi'];have:=h (t.place[i]+1) (fun _ _=>below_next T.up (hsl hb) hi');rw [Array.getElem?_eq_getElem hi] at this
     exact wpAny_pure this
   . rw [Array.getElem?_eq_none (by omega)];have:=h 0 (fun h1=>absurd h1 hi);rw [Array.getElem?_eq_none (by omega)] at this
     exact wpAny_pure this
 . rw [if_pos rfl];simp only [bne_self_eq_false,Bool.false_eq_true,if_false];unfold walked at h
   rw [hb] at h
   simp only [if_true] at h
   first | refine wpAny_bind (wpAny_pure ?_) | skip
   unfold setWalk;refine wpAny_bind (wpAny_bind (wpAny_setState_of ho hd (T.fits hz) ?_))
   dsimp only
   unfold setsByText;refine wpAny_bind (wpAny_bind (wpAny_askSetting (wpAny_pure ?_)));show wpAny _ _ (if w.params.followText "set-order" = true then _ else _) _ E s;rw [if_pos hb];refine wpAny_bind (wpAny_askSetting (wpAny_pure ?_));exact wpAny_pure (h slot (fun _ h2=>by first | cases h2 | (rw [hb] at h2;cases h2)))
end
end SeT
namespace SeT
open PySem PyProof.Rows
def stepI(ns:List Int)(n:Int):List Int:=if n ∈ ns then ns else ns ++ [n]
def metI(val:Nat->Int)(i:Nat):List Int:=((List.range i).map val).foldl stepI []
theorem metI_succ(val:Nat->Int)(i:Nat):metI val (i+1)=stepI (metI val i) (val i):=by
 unfold metI;rw [List.range_succ,List.map_append,List.foldl_append];rfl
theorem metI_len(val:Nat->Int):∀i,(metI val i).length<=i
 | 0=>Nat.le_refl _
 | i+1=>by
  rw [metI_succ];unfold stepI;have:=metI_len val i
  split
  . omega
  . rw [List.length_append,List.length_singleton];omega
theorem metI_mono(val:Nat->Int){i n:Nat}(h:i<=n):(metI val i).length<=(metI val n).length:=by
 induction n with
 | zero=>cases Nat.le_zero.mp h;exact Nat.le_refl _
 | succ n ih=>
  rcases Nat.lt_or_ge i (n+1) with h1 | h1
  . refine Nat.le_trans (ih (Nat.le_of_lt_succ h1)) ?_;rw [metI_succ];unfold stepI
    split
    . exact Nat.le_refl _
    . rw [List.length_append];exact Nat.le_add_right _ _
  . cases Nat.le_antisymm h h1;exact Nat.le_refl _
section
variable {prog:Program} {w:World} {A:Around} {R:Result->Shared->Prop} {I:Addr} {fp wr:List Addr} {G:Array GenState->Array GenState->Prop} {n:Nat} {P:Nat->Value->Prop} {St:Nat->Shared->Prop}
theorem ISet.mv{h h':Heap}{S:Addr}{ns}(hS:ISet w h S ns)(h1:∀o,h.get? S=some o->h'.get? S=some o):ISet w h' S ns:=by
 obtain ⟨o,es,ep,t,ho,r⟩:=hS;exact ⟨o,es,ep,t,h1 o ho,r⟩
theorem loop_int (W : WalksS prog w A.in1 I fp wr G n P St) (S : Addr) (hSf : S ∉ fp) (val : Nat -> Int) (hval : ∀ i v, P i v -> ∃ t, v = .int (val i) t) (hb : (metI val n).length < 18) :
 ∀(k i:Nat) (s:Shared),n - i=k->i<=n->St i s->ISet w s.heap S (metI val i) ->
   (∀s',Moved (S::wr) G s s'->ISet w s'.heap S (metI val n)->R (.ok (.ret .none)) s') ->
   codeAny (model prog w) A (.builtin "set.update.loop" ⟨[.ref S, .ref I],[]⟩) R s:=by
 have hSw:S ∉ wr:=fun h=>hSf (W.sub _ h);have hsub:∀b ∈ wr,b ∈ S::wr:=fun b hb=>List.mem_cons_of_mem _ hb;intro k
 induction k with
 | zero=>
  intro i s hk hi hst hS hR;have hin:i=n:=by omega
  subst hin;refine codeAny_builtin PyProof.Rows.F.entry_set_update_loop ?_;rw [Around.under_plainId PyProof.Rows.F.plain_set_update_loop _];show wpAny _ A.in1 (pyNext (.ref I) >>= _) _ _ s;refine wpAny_bind (W.done s _ _ hst fun s' hm=> ?_);show wpAny _ A.in1 (ret Value.none) _ _ s'
  exact wpAny_pure (hR s' (hm.mono hsub) (hS.mv fun o=>hm.heap S o hSw))
 | succ k ih=>
  intro i s hk hi hst hS hR;have hlt:i<n:=by omega
  refine codeAny_builtin PyProof.Rows.F.entry_set_update_loop ?_;rw [Around.under_plainId PyProof.Rows.F.plain_set_update_loop _];show wpAny _ A.in1 (pyNext (.ref I) >>= _) _ _ s;refine wpAny_bind (W.item i s _ _ hlt hst fun v s' hPv hst' hm=> ?_);obtain ⟨tk,rfl⟩:=hval i v hPv;have hS':=hS.mv (h':=s'.heap) (fun o=>hm.heap S o hSw);show wpAny _ A.in1 (holding [Value.int (val i) tk] (setAdd S (.int (val i) tk)) >>= _) _ _ s';refine wpAny_bind (wpAny_holding ?_);unfold setAdd;refine wpAny_holding ?_;refine wpAny_bind ((intKind prog w).pyHash (k:=val i) (intKind_is _ _ _ _) ?_);have hroom:(metI val i).length+1<19:=by have:=metI_mono val hi;omega
  refine add_int (s:={s' with toks:=s'.toks+1}) hS' hroom fun bb h' hsb hS2=> ?_;have hS2':ISet w h' S (metI val (i+1)):=by rw [metI_succ];exact hS2
  refine wpAny_pure ⟨plainId_quiet PyProof.Rows.F.plain_set_update_loop _,ih (i+1) _ (by omega) hlt (W.frame _ s' _ _ hst' (Nat.le_succ _) fun c hc o e=> ?_) hS2' fun s'' hm'' hS'' => ?_⟩
  . rw [hsb.2 c (fun h:c=S=>hSf (by rw [<-h];exact hc))];exact e
  . refine hR s'' (Moved.trans W.gtrans ((hm.mono hsub).then_heap (Nat.le_succ _) fun c o hc e=> ?_) hm'') hS'';rw [hsb.2 c (fun h:c=S=>hc (by rw [h];exact List.mem_cons_self))];exact e
end
end SeT
namespace SeT
open PySem PyProof.Rows
theorem slot_setiter_next:Slot "set_iterator" "__next__" "set_iterator.__next__" :=
 .of (owner:= "set_iterator") (n:= "__next__") (by rw [typeLookup_type,builtinLookup_eq_fast];kernel_rfl) (by decide +kernel) (by decide +kernel) (by decide +kernel)
  (by first | exact .inl (by decide +kernel) | exact .inr (by decide +kernel)) (by rw [isSubtype_type];kernel_rfl)
theorem entry_setiter_next : entryFor table "set_iterator.__next__" = some Builtin.«set_iterator.__next__» := entryFor_of_tree (by kernel_rfl)
theorem args_setiter_next(a:Value):argsOk "set_iterator.__next__" ⟨[a],[]⟩:=by unfold argsOk;kernel_rfl
def SIt(h:Heap)(it S:Addr)(slot i n ep:Nat):Prop:=∃o,h.get? it=some o/\o.cls = .type "set_iterator" /\ o.data = .fields #[rawInt slot,rawInt i, .ref S,rawInt n,rawInt ep]
theorem SIt.typeIs{s:Shared}{it S:Addr}{slot i n ep:Nat}(x:SIt s.heap it S slot i n ep):s.TypeIs (.ref it) "set_iterator" :=let ⟨o,ho,hc,_⟩:=x;⟨o,ho,hc⟩
section
variable {prog:Program} {w:World} {A:Around} {E:Value->Shared->Prop} {s:Shared}
theorem next_item {it S : Addr} {o : Obj} {es : Array (Int × Value)} {ep : Nat} {t : SetTable} {slot i : Nat} {e : Int × Value} (hit : SIt s.heap it S slot i es.size ep) (ho : s.heap.get? S = some o) (hd : o.data = .set es ep t) (T : TI t es) (hz : es.size <= t.mask)
 (hpl:t.plain=true) (hled:t.led = !w.params.followText "set-order") (hsl:w.params.followText "set-order" = false->SetTable.below t.place slot=i) (hx:(walked w S ep es)[i]? = some e) (hi:i<es.size) {Q:Option Value->Shared->Prop}
 (hQ:∀h' slot',SIt h' it S slot' (i+1) es.size ep->(w.params.followText "set-order" = false->SetTable.below t.place slot'=i+1)->Heap.SameBut it s.heap h'->Q (some e.2) {s with heap:=h' }) :
 wpAny (model prog w) A (pyNext (.ref it)) Q E s:=by
 obtain ⟨oi,hoi,hc,hdi⟩:=id hit;unfold pyNext
 refine wpAny_bind (wpAny_attempt (wpAny_callSpecial?_slot (name:=Str.ofString "__next__") hit.typeIs slot_setiter_next
  (wpAny_call_entry slot_setiter_next hit.typeIs entry_setiter_next ?_ (args_setiter_next _))))
 show wpAny _ _ (fieldsOf (.ref it) >>= _) _ _ s;refine wpAny_bind (wpAny_fieldsOf hoi hdi ?_);show wpAny _ _ (setEntries S >>= _) _ _ s;unfold setEntries;refine wpAny_bind (wpAny_bind (wpAny_setState_of ho hd (T.fits hz) (wpAny_pure ?_)));simp only [bne_self_eq_false,Bool.false_eq_true,if_false];show wpAny _ _ (setNext S (slot:Int).toNat (i:Int).toNat (ep:Int).toNat >>= _) _ _ s;simp only [Int.toNat_natCast];refine wpAny_bind (setNext_at ho hd T hz hpl hled hsl fun slot' hs' => ?_);rw [hx]
 dsimp only [Option.map_some]
 refine wpAny_bind (wpAny_setField hoi hdi (by simp) ?_);have h1:(s.heap.update it (Obj.mapFields fun vs=>vs.setIfInBounds 0 (rawInt slot'))).get? it=_:=Heap.get?_update_self _ hoi (Obj.isFreed_of_fields (Obj.data_mapFields hdi _));refine wpAny_bind (wpAny_setField h1 (Obj.data_mapFields hdi _) (by simp) ?_);refine wpAny_pure ⟨e.2,rfl,wpAny_pure (hQ _ slot' ⟨_,Heap.get?_update_self _ h1 (Obj.isFreed_of_fields (Obj.data_mapFields (Obj.data_mapFields hdi _) _)),((Obj.cls_mapFields ..).trans (Obj.cls_mapFields ..)).trans hc,?_⟩ (hs' hi) ((Heap.SameBut.update ..).trans (Heap.SameBut.update ..)))⟩;rw [Obj.data_mapFields (Obj.data_mapFields hdi _)];simp [rawInt]
theorem next_end {it S : Addr} {o : Obj} {es : Array (Int × Value)} {ep : Nat} {t : SetTable} {slot i : Nat} (hh : A.handled = none) (hit : SIt s.heap it S slot i es.size ep) (ho : s.heap.get? S = some o) (hd : o.data = .set es ep t) (T : TI t es) (hz : es.size <= t.mask)
 (hpl:t.plain=true) (hled:t.led = !w.params.followText "set-order") (hsl:w.params.followText "set-order" = false->SetTable.below t.place slot=i) (hx:(walked w S ep es)[i]? = none) {Q:Option Value->Shared->Prop}
 (hQ:∀h',Heap.ExtBut it s.heap h'->Q none {s with heap:=h' }) :
 wpAny (model prog w) A (pyNext (.ref it)) Q E s:=by
 obtain ⟨oi,hoi,hc,hdi⟩:=id hit;unfold pyNext
 refine wpAny_bind (wpAny_attempt (wpAny_callSpecial?_slot (name:=Str.ofString "__next__") hit.typeIs slot_setiter_next
  (wpAny_call_entry slot_setiter_next hit.typeIs entry_setiter_next ?_ (args_setiter_next _))))
 show wpAny _ _ (fieldsOf (.ref it) >>= _) _ _ s;refine wpAny_bind (wpAny_fieldsOf hoi hdi ?_);show wpAny _ _ (setEntries S >>= _) _ _ s;unfold setEntries;refine wpAny_bind (wpAny_bind (wpAny_setState_of ho hd (T.fits hz) (wpAny_pure ?_)));simp only [bne_self_eq_false,Bool.false_eq_true,if_false];show wpAny _ _ (setNext S (slot:Int).toNat (i:Int).toNat (ep:Int).toNat >>= _) _ _ s;simp only [Int.toNat_natCast];refine wpAny_bind (setNext_at ho hd T hz hpl hled hsl fun slot' hs' => ?_);rw [hx]
 dsimp only [Option.map_none]
 refine wpAny_bind (wpAny_setField hoi hdi (by simp) ?_);show wpAny _ _ (newExc (.type "StopIteration") [] >>= _) _ _ _;refine wpAny_bind ?_;simp only [newExc,newTuple];refine wpAny_bind (wpAny_newObj_type ?_ (by size_fits));refine wpAny_bind (m:=firstArgMember _ _) (wpAny_of_eq (a:=Value.none) (by first | rfl | (simp only [firstArgMember];rfl)) ?_);refine wpAny_newObj_type ?_ (by size_fits);simp only [raiseNew];refine wpAny_bind (wpAny_handled ?_);rw [show A.in1.handled=none from hh];refine wpAny_bind (wpAny_pure (wpAny_throw ?_));refine wpAny_bind (wpAny_isInstance (T:= "StopIteration") (b:=true) ⟨_,Heap.get?_push_size _ rfl,rfl⟩ isSubtype_stop ?_);exact wpAny_pure (hQ _ (((Heap.SameBut.update ..).extBut.push _).push _))
end
end SeT
namespace SeT
open PySem PyProof.Rows
theorem entry_set_iter : entryFor table "set.__iter__" = some Builtin.«frozenset.__iter__» :=
 entryFor_alias (id' := "frozenset.__iter__") (by kernel_rfl) rfl (by decide +kernel) (by kernel_rfl)
theorem args_set_iter(a:Value):argsOk "set.__iter__" ⟨[a],[]⟩:=by unfold argsOk;kernel_rfl
theorem slot_set_iter':Slot "set" "__iter__" "set.__iter__" :=
 .of (owner:= "set") (n:= "__iter__") (by rw [typeLookup_type,builtinLookup_eq_fast];kernel_rfl) (by decide +kernel) (by decide +kernel) (by decide +kernel)
  (by first | exact .inl (by decide +kernel) | exact .inr (by decide +kernel)) (by rw [isSubtype_type];kernel_rfl)
section
variable {prog:Program} {w:World} {A:Around} {E:Value->Shared->Prop} {s:Shared}
theorem iter_set {S : Addr} {o : Obj} {es : Array (Int × Value)} {ep : Nat} {t : SetTable} (ho : s.heap.get? S = some o) (hex : o.ExactSet) (hd : o.data = .set es ep t) (T : TI t es) (hz : es.size <= t.mask) (hpl : t.plain = true) {Q : Value -> Shared -> Prop}
 (hQ:Q (.ref s.heap.objs.size) {s with heap:=s.heap.push {cls:= .type "set_iterator",data:= .fields #[rawInt (0:Nat),rawInt (0:Nat), .ref S,rawInt es.size,rawInt ep]} }) :
 wpAny (model prog w) A (pyIter (.ref S)) Q E s:=by
 have hT:s.TypeIs (.ref S) "set" :=⟨o,ho,hex.1⟩;have hf:=T.fits hz;refine wpAny_pyIter_slot hT slot_set_iter' (wpAny_call_entry slot_set_iter' hT entry_set_iter ?_ (args_set_iter _));show wpAny _ _ (Builtin.Frozenset.sizeOf S >>= _) _ _ s;unfold Builtin.Frozenset.sizeOf setEntries;refine wpAny_bind (wpAny_bind (wpAny_bind (wpAny_setState_of ho hd hf (wpAny_pure (wpAny_pure ?_)))));show wpAny _ _ (setDrawn S >>= _) _ _ s;unfold setDrawn;refine wpAny_bind (wpAny_bind (wpAny_setState_of ho hd hf ?_))
 dsimp only
 unfold setsByText;refine wpAny_bind (wpAny_bind (wpAny_askSetting (wpAny_pure (wpAny_pure ?_))));have hc:(!w.params.followText "set-order" && (!t.plain && decide (es.size>1)))=false:=by rw [hpl];simp
 show wpAny _ _ (if (!w.params.followText "set-order" && (!t.plain && decide (es.size>1)))=true then _ else _) _ _ s;rw [hc];simp only [Bool.false_eq_true,if_false];refine wpAny_bind (wpAny_pure ?_);refine wpAny_bind (wpAny_setEpoch_of ho hd hf ?_);exact wpAny_bind (wpAny_newObj_type (wpAny_pure ⟨_,rfl, "set_iterator",_,⟨_,Heap.get?_push_size _ rfl,rfl⟩,slot_setiter_next.lookup,hQ⟩))
end
end SeT
namespace SeT
open PySem PyProof.Rows
theorem slot_setiter_iter:Slot "set_iterator" "__iter__" "set_iterator.__iter__" :=
 .of (owner:= "set_iterator") (n:= "__iter__") (by rw [typeLookup_type,builtinLookup_eq_fast];kernel_rfl) (by decide +kernel) (by decide +kernel) (by decide +kernel)
  (by first | exact .inl (by decide +kernel) | exact .inr (by decide +kernel)) (by rw [isSubtype_type];kernel_rfl)
theorem entry_setiter_iter : entryFor table "set_iterator.__iter__" = some Builtin.«dict_keyiterator.__iter__» :=
 entryFor_alias (id' := "dict_keyiterator.__iter__") (by kernel_rfl) rfl (by decide +kernel) (by kernel_rfl)
theorem args_setiter_iter(a:Value):argsOk "set_iterator.__iter__" ⟨[a],[]⟩:=by unfold argsOk;kernel_rfl
section
variable {prog:Program} {w:World} {A:Around}
theorem self_iter{s:Shared}{E:Value->Shared->Prop}{it S:Addr}{slot i n ep:Nat}{Q:Value->Shared->Prop}(hit:SIt s.heap it S slot i n ep)(h:Q (.ref it) s):wpAny (model prog w) A (pyIter (.ref it)) Q E s:=by
 refine wpAny_pyIter_slot hit.typeIs slot_setiter_iter (wpAny_call_entry slot_setiter_iter hit.typeIs entry_setiter_iter ?_ (args_setiter_iter _));exact wpAny_pure ⟨_,rfl, "set_iterator",_,hit.typeIs,slot_setiter_next.lookup,h⟩
theorem Walks.setI (hh : A.handled = none) (I S : Addr) (hne : S ≠ I) (o : Obj) (es : Array (Int × Value)) (ep : Nat) (t : SetTable) (hd : o.data = .set es ep t) (T : TI t es) (hz : es.size <= t.mask) (hpl : t.plain = true) (hled : t.led = !w.params.followText "set-order") :
 Walks prog w A I [I,S] [I] es.size (fun i v=>∃e,(walked w S ep es)[i]? = some e/\e.2=v) (fun i h=>(∃slot,SIt h I S slot i es.size ep/\(w.params.followText "set-order" = false->SetTable.below t.place slot=i))/\h.get? S=some o) where
 sub:=fun b hb=>by simp at hb;simp [hb]
 frame:=fun i h h' st hk=>by
  obtain ⟨⟨slot,⟨oi,h1,h2⟩,h3⟩,h4⟩:=st;exact ⟨⟨slot,⟨oi,hk I (by simp) _ h1,h2⟩,h3⟩,hk S (by simp) _ h4⟩
 item:=fun i s Q E hi st hQ=>by
  obtain ⟨⟨slot,hit,hsl⟩,ho⟩:=st
  have hlen:(walked w S ep es).size=es.size:=by
   have:=(walked_perm w S ep es).length_eq;simpa using this
  have hx:(walked w S ep es)[i]? = some ((walked w S ep es)[i]'(by omega)):=Array.getElem?_eq_getElem (by omega);refine next_item hit ho hd T hz hpl hled hsl hx hi fun h' slot' h1 h2 h3=> ?_;exact hQ _ h' s.toks ⟨_,hx,rfl⟩ ⟨⟨slot',h1,h2⟩,(h3.2 S hne).trans ho⟩ fun b o' hb e=>(h3.2 b (fun h=>hb (by simp [h]))).trans e
 done:=fun s Q E st hQ=>by
  obtain ⟨⟨slot,hit,hsl⟩,ho⟩:=st
  have hlen:(walked w S ep es).size=es.size:=by
   have:=(walked_perm w S ep es).length_eq;simpa using this
  exact next_end hh hit ho hd T hz hpl hled hsl (Array.getElem?_eq_none (by omega)) fun h' he'=>hQ h' s.toks fun b o' hb e=>he' b o' (fun h=>hb (by simp [h])) e
 self:=fun i s Q E st hQ=>by
  obtain ⟨⟨slot,hit,_⟩,_⟩:=st;exact self_iter hit hQ
end
end SeT
namespace PySem
open PySem PySem.Spec
section
variable {prog:Program} {w:World} {A:Around} {E:Value->Shared->Prop} {s:Shared}
set_option maxRecDepth 100000 in
set_option maxHeartbeats 3200000 in
theorem set_new_led (a : Value) {Q₁ : Value -> Shared -> Prop}
 (h:Q₁ (.ref s.heap.objs.size) {s with heap:=s.heap.push {cls:= .type "set",dict:=none,data:= .set #[] 0 (.fresh 0 0 (!w.params.followText "set-order"))} }) :
 codeAny (model prog w) A (.call (.builtin "set.__new__") ⟨[.type "set",a],[]⟩) (wants Q₁ E) s:=by
 refine codeAny_of_tree ?_;show wpAny _ A.in1 (do checkBuiltinCall "set.__new__" ⟨[.type "set",a],[]⟩;again (.builtin "set.__new__" ⟨[.type "set",a],[]⟩)) _ _ s;refine wpAny_bind (wpAny_of_eq (F.newCall_set_1 a) (wpAny_pure ⟨plainId_quiet F.plain_set_new _,codeAny_builtin F.entry_set_new ?_⟩));rw [Around.under_plainId F.plain_set_new _];unfold Builtin.«set.__new__» Builtin.Frozenset.newClass;have hsub:=sub_set_self;obtain ⟨hp,g,d,tk,os⟩:=s
 dsimp only
 wp_walk
 refine wpAny_askSetting (wpAny_pure ?_)
 dsimp only
 simp only [newObj];refine wpAny_bind (wpAny_alloc (wpAny_pure ?_));exact wpAny_pure h
set_option maxRecDepth 100000 in
set_option maxHeartbeats 3200000 in
theorem call_set_int {l : Addr} {items : Array Value} {ns : List Int} {Q : Value -> Shared -> Prop}
 (hh:A.handled=none) (hl:s.heap.IsList l items) (hi:PyProof.Rows.IntsAre items.toList ns) (hb:(SeT.metI (fun i=>ns.getD i 0) items.size).length<18)
 (h:∀(h':Heap) (tk:Nat),SeT.ISet w h' s.heap.objs.size (SeT.metI (fun i=>ns.getD i 0) items.size) ->
  (∀b o,b<s.heap.objs.size->s.heap.get? b=some o->h'.get? b=some o)->Q (.ref s.heap.objs.size) {s with heap:=h',toks:=tk}) :
 wpAny (model prog w) A (call (.type "set") [.ref l]) Q E s:=by
 obtain ⟨c,tl,hmro⟩:=F.called_set.mro;have hmade:=F.called_set.made;have hsub:=F.called_set.sub;refine wpAny_call (codeAny_of_tree ?_);show wpAny _ _ (callAny (.type "set") _) _ _ _;refine wpAny_pure ⟨Code.quiet_builtin _ (by decide +kernel),codeAny_builtin F.entry_type_call ?_⟩;rw [Around.under_plain (weight_type_call_type "set" [.ref l] []) rfl];have h1:=F.called_set.notType;have h2:=F.called_set.canCreate;have hct:=F.typeCall_set_1 (.ref l)
 repeat (any_goals (first | assumption | wp_step))
 refine codeAny_mono (set_new_led (.ref l) (E:=E) (Q₁:=fun obj s₁=>∃led:Bool,led=(!w.params.followText "set-order")/\obj = .ref s.heap.objs.size/\s₁={s with heap:=s.heap.push {cls:= .type "set",dict:=none,data:= .set #[] 0 (.fresh 0 0 led)} }) ⟨_,rfl,rfl,rfl⟩) fun r s₁ hr=> ?_
 cases r with
 | error e=>exact hr
 | ok fl=>
  cases fl with
  | ret obj=>
   obtain ⟨led,hled0,rfl,rfl⟩:=hr;have hS:(s.heap.push {cls:= .type "set",dict:=none,data:= .set #[] 0 (.fresh 0 0 led)}).get? s.heap.objs.size=some {cls:= .type "set",dict:=none,data:= .set #[] 0 (.fresh 0 0 led)}:=Heap.get?_push_size _ rfl;have hT:Shared.TypeIs {s with heap:=s.heap.push {cls:= .type "set",dict:=none,data:= .set #[] 0 (.fresh 0 0 led)} } (.ref s.heap.objs.size) "set" :=⟨_,hS,rfl⟩;have hli:=F.called_set.init.lookup;have hbi:=F.called_set.init.bind (.ref s.heap.objs.size)
   repeat (any_goals (first | assumption | wp_step))
   refine codeAny_mono (codeAny_call_builtin (R := wants (fun r s₂ => r = .none /\ ∃ h' tk, s₂ = { s with heap := h', toks := tk } /\
    SeT.ISet w h' s.heap.objs.size (SeT.metI (fun i=>ns.getD i 0) items.size) /\
    (∀b o,b<s.heap.objs.size->s.heap.get? b=some o->h'.get? b=some o)) E) F.called_set.init.plain F.entry_set_init (check_set_init_1 hT ?_)) fun r₂ s₂ hr₂=> ?_
   . obtain ⟨ol,hol,hcl,nl,hdl⟩:=hl;obtain ⟨ocls,odict,odata,oslots⟩:=ol;simp only at hcl hdl
     subst hcl;subst hdl;have hol':(s.heap.push {cls:= .type "set",dict:=none,data:= .set #[] 0 (.fresh 0 0 led)}).get? l=some {cls:= .type "list",dict:=odict,data:= .seq items nl,slots:=oslots}:=Heap.get?_push_of_some _ hol;have hsls:=F.sub_list_set;have hslf:=F.sub_list_frozenset;have hne:(Value.type "list" ==Value.type "dict")=false:=by decide
     have hl1:(s.heap.push {cls:= .type "set",dict:=none,data:= .set #[] 0 (.fresh 0 0 led)}).IsList l items:=⟨_,hol',rfl,nl,rfl⟩;unfold Builtin.«set.__init__» noKeywords Builtin.Frozenset.updateFrom;generalize hPI:pyIter=PI
     wp_walk
     subst hPI;refine wpAny_pyIter_list hl1 ?_;refine wpAny_bind (wpAny_runValue ?_);have hlS:l<s.heap.objs.size:=Heap.lt_size hol;have hh3:A.in1.in1.in1.handled=none:=by simp [hh]
     have hneI:l≠(s.heap.push {cls:= .type "set",dict:=none,data:= .set #[] 0 (.fresh 0 0 led)}).objs.size:=by
      rw [Heap.size_push];exact Nat.ne_of_lt (Nat.lt_succ_of_lt hlS)
     have hSf:s.heap.objs.size ∉ [(s.heap.push {cls:= .type "set",dict:=none,data:= .set #[] 0 (.fresh 0 0 led)}).objs.size,l]:=by
      rw [Heap.size_push];simp only [List.mem_cons,List.mem_singleton,List.not_mem_nil,or_false,not_or];exact ⟨Nat.ne_of_lt (Nat.lt_succ_self _),Nat.ne_of_gt hlS⟩
     have hval:∀(i:Nat) (v:Value),items[i]? = some v->∃t,v = .int ((fun i=>ns.getD i 0) i) t:=fun i v hv=>
      PyProof.Rows.IntsAre.int_at hi i v (by rw [Array.getElem?_toList];exact hv)
     refine SeT.loop_int ((Walks.list hh3 _ l hneI items).toS) s.heap.objs.size
      hSf (fun i=>ns.getD i 0) hval hb (items.size - 0) 0 _ (by omega) (Nat.zero_le _)
      ⟨⟨_,Heap.get?_push_size _ rfl,rfl,rfl⟩,(hl1.push _)⟩ ?hS0 ?hR
     case hS0=>
      have hget : ((s.heap.push { cls := .type "set", dict := none, data := .set #[] 0 (.fresh 0 0 led) }).push { cls := .type "list_iterator", data := .fields #[.ref l, .int 0 0] }).get? s.heap.objs.size
       = some {cls:= .type "set",dict:=none,data:= .set #[] 0 (.fresh 0 0 led)}:=Heap.get?_push_of_some _ hS
      exact ⟨_,_,_,_,hget,⟨rfl,rfl,rfl⟩,rfl,SeT.TI.none _ rfl rfl, .inl ⟨rfl,by decide⟩,rfl,hled0,rfl,fun e he=>absurd he (by simp),fun k hk=>absurd hk (by simp [SeT.metI]),by simp [SeT.metI]⟩
     case hR=>
      intro s' hm hS';obtain ⟨h',g',d',tk',os'⟩:=s';have eg:g'=s.gens:=hm.gens;have ed:d'=s.drawn:=hm.drawn;have eo:os'=s.os:=hm.os;subst eg;subst ed;subst eo;show wpAny _ _ _ _ _ _;refine wpAny_pure ?_;show wpAny _ _ (ret Value.none) _ _ _;refine wpAny_pure ⟨rfl,h',tk',rfl,hS',fun b o hb e=> ?_⟩;have hb1:b≠s.heap.objs.size:=Nat.ne_of_lt hb
      have hb2:b≠(s.heap.push {cls:= .type "set",dict:=none,data:= .set #[] 0 (.fresh 0 0 led)}).objs.size:=by
       rw [Heap.size_push];exact Nat.ne_of_lt (Nat.lt_succ_of_lt hb)
      exact hm.heap b o (by simp only [List.mem_cons,List.mem_singleton,List.not_mem_nil,or_false,not_or];exact ⟨hb1,hb2⟩) (Heap.get?_push_of_some _ (Heap.get?_push_of_some _ e))
   . cases r₂ with
     | error e=>exact hr₂
     | ok fl₂=>
      cases fl₂ with
      | ret r=>
       obtain ⟨rfl,h',tk,rfl,hS',hk'⟩:=hr₂
       repeat (any_goals (first | assumption | wp_step))
       exact h _ _ hS' hk'
      | _=>exact hr₂.elim
  | _=>exact hr.elim
end
end PySem
namespace SeT
open PySem PyProof.Rows
theorem set_len_lookup:typeLookup (.type "set") "__len__" = pure (some (.builtin "set.__len__")):=by rw [typeLookup_type,builtinLookup_eq_fast];kernel_rfl
theorem perm_of{ns:List Int}:∀ {ns':List Int},ns.Nodup->ns ⊆ ns'->ns'.length=ns.length->ns'.Perm ns:=by
 induction ns with
 | nil=>intro ns' _ _ h;rw [List.length_eq_zero_iff.mp h]
 | cons n ns ih=>
  intro ns' hd hs hl;have hm:=hs List.mem_cons_self;obtain ⟨h1,h2⟩:=List.nodup_cons.mp hd;refine (List.perm_cons_erase hm).trans (.cons n (ih h2 (fun x hx=> ?_) (by rw [List.length_erase_of_mem hm,hl];rfl)));exact (List.mem_erase_of_ne (fun e=>h1 (by rw [<-e];exact hx))).mpr (hs (List.mem_cons_of_mem _ hx))
section
variable {prog:Program} {w:World} {A:Around} {E:Value->Shared->Prop} {s:Shared}
theorem walked_ints {es : Array (Int × Value)} {ns : List Int} {S : Addr} {ep : Nat} {acc : Array Value} (hel : ∀ e ∈ es, ∃ n tok, n ∈ ns /\ e = (hashInt n, .int n tok)) (hin : ∀ n ∈ ns, ∃ tok, (hashInt n, Value.int n tok) ∈ es) (hn : es.size = ns.length) (hnd : ns.Nodup)
 (ha:ItemsOf (fun i v=>∃e,(walked w S ep es)[i]? = some e/\e.2=v) acc es.size):∃ns',IntsAre acc.toList ns'/\ns'.Perm ns:=by
 have hp:=walked_perm w S ep es
 have e1:acc.toList=(walked w S ep es).toList.map (·.2):=by
  apply List.ext_getElem?;intro i;rw [Array.getElem?_toList,List.getElem?_map,Array.getElem?_toList]
  by_cases hi:i<acc.size
  . obtain ⟨e,h1,h2⟩:=ha.2 i acc[i] (Array.getElem?_eq_getElem hi);rw [h1,Array.getElem?_eq_getElem hi, <-h2];rfl
  . have hl:(walked w S ep es).size=es.size:=by simpa using hp.length_eq
    have:=ha.1;rw [Array.getElem?_eq_none (by omega),Array.getElem?_eq_none (by omega)];rfl
 have key:∀l:List (Int×Value),(∀e ∈ l,∃n tok,n ∈ ns/\e=(hashInt n,Value.int n tok))->∃ns':List Int,IntsAre (l.map (·.2)) ns'/\ns'.length=l.length/\(∀n tok,(hashInt n,Value.int n tok) ∈ l->n ∈ ns'):=by
  intro l
  induction l with
  | nil=>intro _;exact ⟨[], .nil,rfl,fun n tok h=>by simp at h⟩
  | cons e l ih=>
   intro h;obtain ⟨ns',h1,h2,h3⟩:=ih fun e he=>h e (List.mem_cons_of_mem _ he);obtain ⟨n,tok,hm,rfl⟩:=h e List.mem_cons_self;refine ⟨n::ns', .cons n tok h1,by simp [h2],fun m tk hm=> ?_⟩;rcases List.mem_cons.mp hm with h | h
   . have:=congrArg Prod.snd h;cases this;exact List.mem_cons_self
   . exact List.mem_cons_of_mem _ (h3 m tk h)
 obtain ⟨ns',h1,h2,h3⟩:=key (walked w S ep es).toList fun e he=>hel e (by have:=hp.mem_iff.mp he;simpa using this);refine ⟨ns',e1 ▸ h1,?_⟩;have hl:ns'.length=ns.length:=by rw [h2, <-hn];simpa using hp.length_eq
 have hs:ns ⊆ ns':=fun n hn=>by
  obtain ⟨tok,h⟩:=hin n hn;exact h3 n tok (hp.mem_iff.mpr (by simpa using h))
 exact perm_of hnd hs hl
theorem collect_set (hh : A.handled = none) {S : Addr} {ns : List Int} {Q : List Value -> Shared -> Prop} (hS : ISet w s.heap S ns)
 (hQ:∀(h':Heap) (tk:Nat) (vs:List Value) (ns':List Int),(∀b o,s.heap.get? b=some o->h'.get? b=some o)->s.heap.objs.size<h'.objs.size->IntsAre vs ns'->ns'.Perm ns->Q vs {s with heap:=h',toks:=tk}):wpAny (model prog w) A (collect (.ref S)) Q E s:=by
 obtain ⟨o,es,ep,t,ho,hex,hd,T,hm,hpl,hled,hn,hel,hin,hnd⟩:=hS;obtain ⟨hr,hz,hodd⟩:=mk_rd hm;have hlt:=Heap.lt_size ho;unfold collect;refine wpAny_bind (wpAny_runValue (codeAny_builtin PySem.F.entry_proto_collect ?_));rw [Around.under_plainId PySem.F.plain_proto_collect _];show wpAny _ A.in1 (newList [] >>= fun l=>again (.builtin "list.__iadd__" ⟨[l, .ref S],[]⟩)) _ _ s;refine wpAny_bind (wpAny_newObj_type ?_);refine wpAny_pure ⟨plainId_quiet PySem.F.plain_list_iadd _,codeAny_builtin PySem.F.entry_list_iadd ?_⟩;rw [Around.under_plainId PySem.F.plain_list_iadd _];have ho1:(s.heap.push {cls:= .type "list",data:= .seq ([]:List Value).toArray}).get? S=some o:=Heap.get?_push_of_some _ ho;have new1:(s.heap.push {cls:= .type "list",data:= .seq ([]:List Value).toArray}).get? s.heap.objs.size=some {cls:= .type "list",data:= .seq ([]:List Value).toArray}:=Heap.get?_push_size _ rfl;show wpAny _ A.in1 (Builtin.List.listExtendWith (.ref s.heap.objs.size) (.ref S) (.ref s.heap.objs.size)) _ _ {s with heap:=s.heap.push {cls:= .type "list",data:= .seq ([]:List Value).toArray} };unfold Builtin.List.listExtendWith;have ty:({s with heap:=s.heap.push {cls:= .type "list",data:= .seq ([]:List Value).toArray} }:Shared).TypeIs (.ref S) "set" :=⟨o,ho1,hex.1⟩;refine wpAny_bind (wpAny_typeOf ty ?_);have h1:Builtin.List.listSameRef (.ref s.heap.objs.size) (.ref S)=false:=by simp [Builtin.List.listSameRef];exact Nat.ne_of_gt hlt
 have h2:(Value.type "set" ==Value.type "list")=false:=by decide
 have h3:(Value.type "set" ==Value.type "tuple")=false:=by decide
 simp only [h1,h2,h3,Bool.or_false,Bool.false_eq_true,if_false];refine wpAny_bind (iter_set (s:={s with heap:=s.heap.push {cls:= .type "list",data:= .seq ([]:List Value).toArray} }) ho1 hex hd T hz hpl ?_);have es1:(s.heap.push {cls:= .type "list",data:= .seq ([]:List Value).toArray}).objs.size=s.heap.objs.size+1:=size_push' _ _;rw [es1];generalize hH:(s.heap.push {cls:= .type "list",data:= .seq ([]:List Value).toArray}).push {cls:= .type "set_iterator",data:= .fields #[rawInt (0:Nat),rawInt (0:Nat), .ref S,rawInt es.size,rawInt ep]}=H2;have ho2:H2.get? S=some o:=by rw [<-hH];exact Heap.get?_push_of_some _ ho1
 have new2:H2.get? s.heap.objs.size=some {cls:= .type "list",data:= .seq ([]:List Value).toArray}:=by rw [<-hH];exact Heap.get?_push_of_some _ new1
 have it2:H2.get? (s.heap.objs.size+1)=some {cls:= .type "set_iterator",data:= .fields #[rawInt (0:Nat),rawInt (0:Nat), .ref S,rawInt es.size,rawInt ep]}:=by rw [<-hH, <-es1];exact Heap.get?_push_size _ rfl
 have old2:∀b o,s.heap.get? b=some o->H2.get? b=some o:=fun b o e=>by rw [<-hH];exact Heap.get?_push_of_some _ (Heap.get?_push_of_some _ e)
 have ty2:({s with heap:=H2}:Shared).TypeIs (.ref S) "set" :=⟨o,ho2,hex.1⟩;show wpAny _ A.in1 _ _ _ {s with heap:=H2};refine wpAny_bind (wpAny_holding ?_);unfold Builtin.List.listLengthHint;refine wpAny_bind (wpAny_specialOf ty2 set_len_lookup ?_);generalize hid:("set.__len__" : String)=id0
 wp_delta
 rw [show splitId id0=some ("set","__len__") from by subst hid;decide +kernel];subst hid;refine wpAny_bind (wpAny_isInstance (T:= "set") (b:=true) ty2 (by rw [isSubtype_type];kernel_rfl) ?_);refine wpAny_ite_split (fun hab=>absurd hab (by decide)) (fun _=> ?_);refine wpAny_ite_split (fun _=> ?_) (fun hab=>absurd (by decide +kernel) hab);refine wpAny_bind (wpAny_typeOf ty2 ?_);refine wpAny_pure ?_;rw [if_pos (by decide)];have hSI:s.heap.objs.size≠s.heap.objs.size+1:=Nat.ne_of_lt (Nat.lt_succ_self _);have hSS:s.heap.objs.size≠S:=Nat.ne_of_gt hlt;refine wpAny_bind (wpAny_rule ?_);refine wpAny_bind ?_;show wpAny _ A.in1 (updateSeq s.heap.objs.size (·.push .none) >>= fun _=>updateSeq s.heap.objs.size (·.pop)) _ _ _;refine wpAny_bind (wpAny_updateSeq new2 rfl ?_);have new3:=Heap.get?_update_self (Obj.mapSeq (·.push Value.none)) new2 rfl;refine wpAny_updateSeq new3 rfl ?_;have new4:=Heap.get?_update_self (Obj.mapSeq (·.pop)) new3 rfl
 have oth:∀b o,b≠s.heap.objs.size->H2.get? b=some o->((H2.update s.heap.objs.size (Obj.mapSeq (·.push Value.none))).update s.heap.objs.size (Obj.mapSeq (·.pop))).get? b=some o:=
  fun b o hb e=>(Heap.get?_update_other _ _ (Ne.symm hb)).trans ((Heap.get?_update_other _ _ (Ne.symm hb)).trans e)
 have W:=(Walks.setI (prog:=prog) (w:=w) (A:=A.in1) hh (s.heap.objs.size+1) S (Nat.ne_of_lt (Nat.lt_succ_of_lt hlt)) o es ep t hd T hz hpl hled).toS;refine wpAny_pure ⟨plainId_quiet PySem.F.plain_extend_loop _,codeAny_extend_loopS W (by rw [sizeLine_eq];omega) s.heap.objs.size (by simp only [List.mem_cons,List.not_mem_nil,or_false,not_or];exact ⟨hSI,hSS⟩) _ es.size 0 _ _ _ rfl (Nat.zero_le _) ⟨⟨0,⟨_,oth _ _ (Ne.symm hSI) it2,rfl,rfl⟩,fun _=> ?_⟩,oth _ _ (Ne.symm hSS) ho2⟩ new4 (ItemsOf.nil _) fun s' acc' c' mv got all=> ?_⟩
 . obtain ⟨b1,b2,_⟩:=below_spec T.up 0;rcases Nat.eq_zero_or_pos (SetTable.below t.place 0) with h | h
   . exact h
   . exact absurd (b2 0 h (Nat.lt_of_lt_of_le h b1)) (Nat.not_lt_zero _)
 show wpAny _ A (load s.heap.objs.size >>= _) _ _ s';refine wpAny_bind (wpAny_load got ?_);obtain ⟨ns',i1,i2⟩:=walked_ints hel hin hn hnd all;rw [Moved.eq_with mv];refine wpAny_pure (hQ s'.heap s'.toks acc'.toList ns' (fun b o e=> ?_) (Heap.lt_size got) i1 i2);have hb:=Heap.lt_size e;exact mv.heap b o (by simp only [List.mem_cons,List.not_mem_nil,or_false,not_or];exact ⟨Nat.ne_of_lt hb,Nat.ne_of_lt (Nat.lt_succ_of_lt hb)⟩) (oth b o (Nat.ne_of_lt hb) (old2 b o e))
theorem sorted_set (hh : A.handled = none) {S : Addr} {ns : List Int} {Q : Value -> Shared -> Prop} (hS : ISet w s.heap S ns) (h64 : ns.length < 64)
 (h:∀(p:Addr) (h':Heap) (tk n:Nat) (out:Array Value) (ns':List Int),(∀b o,s.heap.get? b=some o->h'.get? b=some o)->s.heap.objs.size<=p->h'.get? p=some (seqObj "list" out n)->IntsAre out.toList ns'->ns'.Perm ns->ns'.Pairwise (· <= ·)->Q (.ref p) {s with heap:=h',toks:=tk}) :
 wpAny (model prog w) A (call (.builtin "sorted") [.ref S]) Q E s:=by
 refine Calls.call_function_entry kind_sorted plain_sorted entry_sorted (args_sorted1 _) ?_;unfold Builtin.«sorted»;refine wpAny_bind (m:=checkCount "sorted" 1 1 _) (wpAny_pure ?_);refine wpAny_bind (collect_set (A:=A.in1) hh hS fun h1 tk vs ns1 k1 z1 i1 p1=> ?_);have hl:vs.length<64:=by rw [i1.length,p1.length_eq];exact h64
 refine wpAny_bind (wpAny_newList ?_ (by rw [sizeLine_eq];omega));have hoL:(h1.push (seqObj "list" vs.toArray 0)).get? h1.objs.size=some (seqObj "list" vs.toArray 0):=Heap.get?_push_size _ rfl;show wpAny _ _ _ _ _ {s with heap:=h1.push (seqObj "list" vs.toArray 0),toks:=tk};refine wpAny_bind (wpAny_holding (wpAny_call_entry slot_list_sort ⟨_,hoL,rfl⟩ entry_list_sort (list_sort_tree hoL i1 hl fun out ns' a1 a2 a3=>⟨_,rfl,?_⟩) (args_list_sort _)));obtain ⟨e,he⟩:=sortedHeap_at (out:=out) hoL;refine wpAny_pure ⟨_,rfl,h h1.objs.size (sortedHeap (h1.push (seqObj "list" vs.toArray 0)) h1.objs.size vs out) tk e out ns' (fun b o e=> ?_) (Nat.le_of_lt z1) he a1 (a2.trans p1) a3⟩;have hb:=Heap.lt_size (k1 b o e);rw [sortedHeap_old (Nat.ne_of_lt hb) (by rw [size_push'];exact Nat.lt_succ_of_lt hb)];exact Heap.get?_push_of_some _ (k1 b o e)
end
end SeT
namespace Tf
open PySem PySem.Spec PyProof.Rows L2
def SetI(w:World)(a:Addr)(ns:List Int):Heap->Prop:=fun h=>SeT.ISet w h a ns
def unIs(ns:List Int):List Int:=SeT.metI (fun i=>ns.getD i 0) ns.length
section
variable {X:Cx}
theorem SetI.stay{w:World}{a:Addr}{ns:List Int}(h1 h2:Heap)(x:SetI w a ns h1)(k:∀o,h1.get? a=some o->h2.get? a=some o):SetI w a ns h2:=SeT.ISet.mv x k
theorem unIs_len(ns:List Int):(unIs ns).length<=ns.length:=SeT.metI_len _ _
theorem call_setI(hc:X.calm=true):CallR X (.type "set") (fun xs H Q=>∃a ns,xs = [V.ref a]/\SqL X.K H a (ns.map V.int)/\(unIs ns).length<18/\∀p,H p=none->Q (.ref p) (upd H p (.ext (SetI X.w p (unIs ns))))):=by
 intro pins s σ H xs us Q I r h;obtain ⟨a,ns,rfl,hq,hl,q⟩:=h;obtain ⟨u,rfl,ru⟩:=vals1 r
 cases ru
 obtain ⟨its,rv,p1,hz⟩:=I.list hq;have e1:=rv.length;rw [List.length_map] at e1
 have esz:its.toArray.size=ns.length:=by rw [List.size_toArray];omega
 refine call_set_int (items:=its.toArray) (ns:=ns) (I.ok.hd hc) p1.isList (by simpa using ints_of_vals rv) (by rw [esz];exact hl) fun h' tk hS hk=> ?_;rw [esz] at hS
 have hN:SetI X.w s.heap.objs.size (unIs ns) h':=hS;obtain ⟨o,es,ep,t,ho,_⟩:=hS;exact ⟨.ref s.heap.objs.size,_,I.laid (t':=tk) (o:= .ext (SetI X.w s.heap.objs.size (unIs ns))) (fun b u e=>hk b u (Heap.lt_size e) e) (Nat.le_refl _) ⟨hN,⟨o,ho⟩,fun h1 h2 x k=>x.stay h1 h2 k⟩,rfl,q _ (I.hok.fresh (Nat.le_refl _))⟩
theorem call_sortedI(hc:X.calm=true):CallR X (.builtin "sorted") (fun xs H Q=>∃a ns,xs = [V.ref a]/\H a=some (.ext (SetI X.w a ns))/\ns.length<64/\∀p,H p=none->∀ns':List Int,ns'.Perm ns->ns'.Pairwise (· <= ·)->Q (.ref p) (upd H p (.lst (ns'.map V.int)))):=by
 intro pins s σ H xs us Q I r h;obtain ⟨a,ns,rfl,ha,hl,q⟩:=h;obtain ⟨u,rfl,ru⟩:=vals1 r
 cases ru
 obtain ⟨hS,_⟩:=(show SetI X.w a ns s.heap/\_ from I.hok a _ ha);refine SeT.sorted_set (I.ok.hd hc) hS hl fun p h' tk n out ns' hk hp ho a1 a2 a3=> ?_;refine ⟨.ref p,_,I.laid (a:=p) (o:= .lst (ns'.map V.int)) (t':=tk) hk hp ⟨?_,out.toList,n,vals_ints a1,?_⟩,rfl,q _ (I.hok.fresh hp) ns' a2 a3⟩
 . rw [List.length_map,a2.length_eq];exact Nat.le_of_lt (Nat.lt_trans hl (by decide))
 . rw [ho]
end
end Tf
namespace Dm
open PySem PySem.Spec PyProof.Rows L2 Tf
def dSortSet:List Sl->Option Sl
 | [s]=>match s.dat with
  | .list ds=>(intsOf ds).bind fun ns=>if (unIs ns).length<18 then some (.own ((srt (unIs ns)).map .int)) else none
  | _=>none
 | _=>none
section
variable {X:Cx} {R:Rl} [RelOk X.K R]
theorem re_sortSet {ta : TA} {f : En -> Option (List Sl)} (h : RQ X.K R ta f) : RE X.K R (tCB (fun xs H Q => ∃ a ns, xs = [V.ref a] /\ H a = some (.ext (SetI X.w a ns)) /\ ns.length < 64 /\ ∀ p, H p = none -> ∀ ns' : List Int, ns'.Perm ns -> ns'.Pairwise (· <= ·) -> Q (.ref p) (upd H p (.lst (ns'.map V.int))))
 (tCons (tCB (fun xs H Q=>∃a ns,xs = [V.ref a]/\SqL X.K H a (ns.map V.int)/\(unIs ns).length<18/\∀p,H p=none->Q (.ref p) (upd H p (.ext (SetI X.w p (unIs ns))))) ta) tNil)) (mCallP dSortSet f):=fun HB σ ρ H0 H s e z hz Q q=>by
 obtain ⟨ss,hd,hz⟩:=Option.bind_eq_some_iff.mp hz;refine h HB σ ρ H0 H s e ss hd _ fun vs H1 J1 x1 p1=> ?_;unfold dSortSet at hz
 split at hz
 . obtain ⟨v,rfl,pa⟩:=paired1 p1
   split at hz
   . rename_i ds hd;obtain ⟨ns,hn,hz⟩:=Option.bind_eq_some_iff.mp hz
     split at hz
     . rename_i hl
       cases hz
       obtain ⟨a,vs,rfl,h1,h2⟩:=pa.lst x1.s1 hd;rw [intsOf_eq hn] at h2
       cases reps_ints h2
       refine ⟨a,ns,rfl,h1,hl,fun p hp=> ?_⟩;have hu:=unIs_len ns;refine ⟨p,unIs ns,rfl,upd_same,by omega,fun b hb ns' p1 p2=> ?_⟩;rw [srt_eq p1 p2];have x2:=x1.trans (Ext.alloc x1.s1 hp (.ext (SetI X.w p (unIs ns))));exact q _ _ _ (x2.trans (Ext.alloc x2.s1 hb _)) ⟨b,_,rfl,x2.s.free hb,x2.s1.free hb,upd_same,reps_of_ints _⟩
     . cases hz
   . cases hz
 . cases hz
end
section
variable {X:Cx} {R:Rl} [RelOk X.K R] {a:Expr} {p p2 pos pos2:Pos} {fq:En->Option (List Sl)}
theorem de_sortSet (hm : X.mg "set" = none) (hm2 : X.mg "sorted" = none) (h : DQ X R [a] fq) (hc : X.calm = true := by rfl) (hg : Gl X "set" := by rfl) (hg2 : Gl X "sorted" := by rfl)
 (he:starEach [a] X.env=(false,eval a X.env)::starEach [] X.env:=by rfl) (hpl:(backTo pos (starEach [] X.env)).any (·.1)=false:=by rfl)
 (he2:starEach [.Call (.Name "set" p) [a] [] pos] X.env=(false,eval (.Call (.Name "set" p) [a] [] pos) X.env)::starEach [] X.env:=by rfl) (hpl2:(backTo pos2 (starEach [] X.env)).any (·.1)=false:=by rfl):DE X R (.Call (.Name "sorted" p2) [.Call (.Name "set" p) [a] [] pos] [] pos2) (mCallP dSortSet fq):=by
 obtain ⟨t,h1,h2⟩:=h;exact ⟨_,pe_callB (call_sortedI hc) hg2 hm2 bt_sorted (pa_cons (pe_callTy (call_setI hc) hg hm (by rfl) h1 (by decide) (by decide) he hpl) pa_nil he2) (by decide) (by decide) he2 hpl2,re_sortSet h2⟩
end
end Dm
namespace Dm
open PySem PySem.Spec PyProof.Rows L2 Tf
section
variable {K:PySem.W.Frag} {R:Rl} [RelOk K R]
def tTruT(K:PySem.W.Frag)(te:TE):TT:=fun σ H Q=>te σ H fun x H1=>∃(p:Addr) (xs:List V),x = .ref p/\SqT K H1 p xs/\Q (!xs.isEmpty) H1
def mTruT(f:En->Option Sl):En->Option Bool:=fun ρ=>(f ρ).bind fun a=>match a.dat with
 | .tuple ds=>some (!ds.isEmpty)
 | _=>none
theorem rt_truT{te:TE}{f:En->Option Sl}(h:RP K R te f):RT K R (tTruT K te) (mTruT f):=fun HB σ ρ H0 H s e b hb Q q=>by
 obtain ⟨a,ha,hb⟩:=Option.bind_eq_some_iff.mp hb;refine h HB σ ρ H0 H s e a ha _ fun v H1 J1 x1 p1=> ?_
 split at hb
 . rename_i ds hd
   cases hb
   obtain ⟨p,vs,rfl,h1,h2⟩:=p1.tup hd;have e2:ds.isEmpty=vs.isEmpty:=by cases h2 <;> rfl
   refine ⟨p,vs,rfl,SqT.of (x1.s1 _ _ h1),?_⟩;rw [<-e2];exact q _ _ x1
 . cases hb
def bigS(i:Int):Prop:=i.natAbs<10 ^ 60
noncomputable instance (i:Int):Decidable (bigS i):=Classical.propDecidable _
theorem big_log{i:Int}(h:bigS i):i.natAbs.log2<1920:=by
 have h:i.natAbs<10 ^ 60:=h
 by_cases h0:i.natAbs=0
 . rw [h0];decide
 . exact Nat.lt_trans ((Nat.log2_lt h0).mpr (Nat.lt_of_lt_of_le h (show 10 ^ 60<=2 ^ 200 by decide))) (by decide)
theorem big_len{i:Int}(h:bigS i):(Str.ofString (toString i)).length<=1000:=by
 have e:=int_text_length_le10 (a:=i) (k:=60) (by decide) h;rw [PySem.ofString_length];omega
noncomputable def dStrB:List Sl->Option Sl
 | [.val (.int i)]=>if bigS i then some (.val (.str (toString i))) else none
 | _=>none
theorem cd_strB:CallD K (fun xs H Q=>∃i,xs = [.int i]/\i.natAbs.log2<1920/\Q (.str (toString i)) H) dStrB:=fun H0 H vs ss z s p hz Q q=>by
 unfold dStrB at hz
 split at hz
 . split at hz
   . rename_i hc
     cases hz
     obtain ⟨v,rfl,h⟩:=paired1 p
     cases h.int
     exact ⟨_,rfl,big_log hc,q _ _ _ (Ext.refl s) (.str _)⟩
   . cases hz
 . cases hz
end
section
variable {X:Cx}
def tFsB(i j:Nat)(t:Str):TE:=fun σ H Q=>∃a b:Int,σ[i]? = some (some (.int a))/\σ[j]? = some (some (.int b))/\bigS a/\bigS b/\Q (.str (Str.ofString (toString a)++t++Str.ofString (toString b))) H
theorem pe_fsB {i j : Nat} {x y t : Str} {j1 : Nat} {p1 p2 p3 p5 p6 pos : Pos} (hi : X.N[i]? = some x) (hv : Vis X.env.scope x) (hj : X.N[j]? = some y) (hw : Vis X.env.scope y) (ht : t.length <= 1000) (hd : (x == ("__debug__" : Str)) = false) (hcd : (x == ("__classdict__" : Str)) = false) (hd2 : (y == ("__debug__" : Str)) = false) (hcd2 : (y == ("__classdict__" : Str)) = false) :
 PE X (.JoinedStr [.FormattedValue (.Name x p2) (-1) none p3, .Constant (.str t) j1 p1, .FormattedValue (.Name y p5) (-1) none p6] pos) (tFsB i j t):=by
 intro pins s σ H Q I h;obtain ⟨a,b,h1,h2,ha,hb,q⟩:=h;have hz:sizeLine=2 ^ 24:=rfl;have z:Str.empty.length=0:=rfl;have la:=big_len ha;have lb:=big_len hb;refine wpAny_JoinedStr (Joins_cons (wpAny_FormattedValue_plain (thn ((pe_var (pos:=p2) hi hv hd hcd) pins _ σ H (fun v' H'=>v' = .int a/\H'=H) I ⟨_,h1,rfl,rfl⟩) fun u s1 ⟨v,H1,I1,rv,e1,e2⟩ => ?_)));subst e1 e2;obtain ⟨tk,rfl⟩:=rv;refine wpAny_formatField_int (big_log ha) ⟨_,_,rfl,?_,?_⟩
 . rw [strLen_append,hz];omega
 refine Joins_cons (Calls.Constant_str ⟨_,_,rfl,?_,?_⟩)
 . rw [strLen_append,strLen_append,hz];omega
 refine Joins_cons (wpAny_FormattedValue_plain (thn ((pe_var (pos:=p5) hj hw hd2 hcd2) pins _ σ H1 (fun v' H'=>v' = .int b/\H'=H1) ((I1.tok _).tok _) ⟨_,h2,rfl,rfl⟩) fun u s2 ⟨v,H2,I2,rv,e1,e2⟩ => ?_));subst e1 e2;obtain ⟨tk2,rfl⟩:=rv;refine wpAny_formatField_int (big_log hb) ⟨_,_,rfl,?_,Joins_nil ⟨?_,?_⟩⟩
 . rw [strLen_append,strLen_append,strLen_append,hz];omega
 . rw [strLen_append,strLen_append,strLen_append,hz];omega
 . rw [Str.empty_append];exact ⟨.str _,_,I2.tok _,⟨_,rfl⟩,q⟩
noncomputable def mFsB(i j:Nat)(t:Str):En->Option Sl:=fun ρ=>match (ρ[i]?).join,(ρ[j]?).join with
 | some (.val (.int a)),some (.val (.int b))=>if bigS a/\bigS b then some (.val (.str (Str.ofString (toString a)++t++Str.ofString (toString b)))) else none
 | _,_=>none
end
section
variable {K:PySem.W.Frag} {R:Rl} [RelOk K R]
theorem re_fsB(i j:Nat)(t:Str)(hi:R.slot i)(hj:R.slot j):RE K R (tFsB i j t) (mFsB i j t):=fun HB σ ρ H0 H s e z hz Q q=>by
 unfold mFsB at hz
 split at hz
 . rename_i a b ha hb
   split at hz
   . rename_i hc
     cases hz
     obtain ⟨v,g1,g2⟩:=RelOk.get (K:=K) e.r hi (join_some ha);obtain ⟨u,g3,g4⟩:=RelOk.get (K:=K) e.r hj (join_some hb)
     cases g2.p.int
     cases g4.p.int
     exact ⟨a,b,g1,g3,hc.1,hc.2,q _ _ _ (Ext.refl s) (.str _)⟩
   . cases hz
 . cases hz
end
section
variable {X:Cx} {R:Rl} [RelOk X.K R] {e:Expr} {f:En->Option Sl} {pos:Pos}
theorem dt_truT(h:DP X R e f)(he:∀whole,isTrue e X.env whole=(do let v <-whole;standAt e.pos;holding [v] (truthy v)):=by intro _;rfl):DT X R e (mTruT f):=by
 obtain ⟨t,h1,h2⟩:=h;refine ⟨_,?_,rt_truT h2⟩;intro pins s σ H Q I hw;refine isTrue_plain (thn (h1 pins s σ H _ I hw) fun v s1 ⟨x,H1,I1,r1,q1⟩ => ?_) (he _);obtain ⟨p,xs,rfl,hx,q⟩:=q1;exact tru_ok pins s1 σ H1 (.ref p) v Q I1 r1 ⟨_, .inr (.inl ⟨xs,hx,rfl⟩),q⟩
theorem de_strB {x:Expr} {p:Pos} {fq:En->Option (List Sl)} (hm:X.mg "str" = none) (h:DQ X R [x] fq) (hg:Gl X "str" :=by rfl) (he:starEach [x] X.env=(false,eval x X.env)::starEach [] X.env:=by rfl) (hpl:(backTo pos (starEach [] X.env)).any (·.1)=false:=by rfl):DE X R (.Call (.Name "str" p) [x] [] pos) (mCallP dStrB fq):=de_ty call_str_int cd_strB bt_str hm h hg (by decide) (by decide) he hpl
theorem de_fsB {x y t : Str} {j1 : Nat} {p1 p2 p3 p5 p6 : Pos} (i j : Nat) (hsi : R.slot i) (hsj : R.slot j) (hi : X.N[i]? = some x := by rfl) (hv : Vis X.env.scope x := by first | exact Or.inl rfl | exact Or.inr (Or.inl rfl) | exact Or.inr (Or.inr rfl)) (hj : X.N[j]? = some y := by rfl) (hw : Vis X.env.scope y := by first | exact Or.inl rfl | exact Or.inr (Or.inl rfl) | exact Or.inr (Or.inr rfl)) (ht : t.length <= 1000 := by decide)
 (hd:(x==("__debug__" : Str))=false:=by decide) (hcd:(x==("__classdict__" : Str))=false:=by decide) (hd2:(y==("__debug__" : Str))=false:=by decide) (hcd2:(y==("__classdict__" : Str))=false:=by decide) :
 DE X R (.JoinedStr [.FormattedValue (.Name x p2) (-1) none p3, .Constant (.str t) j1 p1, .FormattedValue (.Name y p5) (-1) none p6] pos) (mFsB i j t) :=
 ⟨_,pe_fsB hi hv hj hw ht hd hcd hd2 hcd2,re_fsB i j t hsi hsj⟩
end
end Dm
namespace Tf
open PySem PySem.Spec PyProof.Rows L2
theorem btW_one{n:Int}{k:Nat}(h:PySem.W.WData.weight (.int n)<=k):Bt k n:=by
 unfold PySem.W.WData.weight at h
 show n.natAbs<2 ^ k
 by_cases h0:n=0
 . subst h0;exact Nat.two_pow_pos _
 . rw [if_neg (by simpa using h0)] at h
   exact Nat.lt_of_lt_of_le Nat.lt_log2_self (Nat.pow_le_pow_right (by decide) h)
theorem btW_all:∀ {ns:List Int} {k:Nat},PySem.W.WData.weightAll (ns.map PySem.W.WData.int)<=k->∀n ∈ ns,Bt k n
 | [],_,_,n,h=>by cases h
 | m::ns,k,h,n,hn=>by
  have h:PySem.W.WData.weight (.int m)+1+PySem.W.WData.weightAll (ns.map PySem.W.WData.int)<=k:=h;rcases List.mem_cons.mp hn with e | e
  . subst e;exact btW_one (by omega)
  . exact btW_all (by omega) n e
theorem btW_lay{ns:List Int}(h:PySem.W.WData.layableAll [.list (ns.map PySem.W.WData.int)]=true):∀n ∈ ns,Bt 1048576 n:=by
 have h:(PySem.W.WData.layable (.list (ns.map PySem.W.WData.int)) && true)=true:=h;rw [Bool.and_true] at h
 have h2:=of_decide_eq_true (Bool.and_eq_true_iff.mp h).2;exact btW_all (show PySem.W.WData.weightAll _<=1048576 from h2)
theorem walk_ofW {l : PySem.W.OpenLaw} {n k : Nat} {q : Program} {loose : List Str} {XP : (Str -> Option Value) -> Heap -> Prop} {YP : World -> Heap -> Prop} {d : DefRec} {K : Params -> PySem.W.Frag} {names : List Str} {sp : PySem.W.Frag -> Sp} {x : Str}
 (hn:l.most=some n) (hn2:n<=sizeLine) (hdf:d.params.defaults = []) (hr:Room k callerA)
 (hY:∀(w:World) (h:Heap),YP w h->(K w.params).In h)
 (hrec:∀y ∈ names,∃e,(recsOf q).find? (fun e=>e.name==y)=some e)
 (F:∀(w:World) (mg:Str->Option Value) (fa:Addr) (h:Heap),(K w.params).In h->h.Ns mainGlobals mg->mg d.name=some (.ref fa)->(∀p ∈ (tbK names (K w.params)).map (·.2),h.get? p=some (PySem.W.tabObj #[])) ->
  (∃o,(K w.params).lookup mainGlobals=some o)/\∃fd:FuncData,(∀(s:Shared) (u:Value),BindsTo s fd ⟨[u],[]⟩ [(x,u)]) /\
   ∀base:Heap,(cutK (K w.params) ((tbK names (K w.params)).map (·.2))).In base->base.Ns mainGlobals mg->(∀p ∈ tbK names (K w.params),PySem.W.CodeHd base p.1 p.2)->BM base mg->FnOk l.prog w (cutK (K w.params) ((tbK names (K w.params)).map (·.2))) mg base CX0 k fa fd [x] (sp (cutK (K w.params) ((tbK names (K w.params)).map (·.2)))))
 (hsp:∀(K:PySem.W.Frag) (H:Hp) (a:Addr) (ns:List Int),ns.length<=n->(∀n ∈ ns,Bt 1048576 n)->SqL K H a (ns.map V.int)->sp K [.ref a] H (fun v _=>v = .bl true) fun _ _ _=>False) :
 PySem.W.WalkO q loose XP YP l.row.toRowW d [] (fun f vs=>PySem.call f vs):=by
 intro w s0 s1 mg mb G Y fa o pm cd doc dV kV ho hd hcd hD hmg hg args vals as pre lay rd wl lo
 cases PySem.W.Dflts.none hD hdf
 cases PySem.W.Dflts.noKw hD
 obtain ⟨a,vs,ns,e1,e2,hobj,hints,hlen⟩:=Att.script_of hn pre wl;subst e1 e2;have hb:=btW_lay lay;have KX:=hY w _ Y
 have hT:∀p ∈ tbK names (K w.params),PySem.W.CodeHd s1.heap p.1 p.2/\s1.heap.get? p.2=some (PySem.W.tabObj #[]):=fun p hp=>by
  obtain ⟨y,hy,e⟩:=List.mem_filterMap.mp hp;obtain ⟨e',he'⟩:=hrec y hy;exact PySem.W.tab_of G.T KX he' e
 obtain ⟨hmain,fd,hbd,hF⟩:=F w mg fa _ KX G.T.g hmg fun p hp=>by
  obtain ⟨r,hr',rfl⟩:=List.mem_map.mp hp;exact (hT r hr').2
 obtain ⟨bm,ob,b1,b2,b3,b4⟩:=G.T.bmain;refine wpAny_call (codeAny_mono (law_callT KX hmain G.T.g G.T.b G.T.builtins G.T.nolimit hg hobj hints (Nat.le_trans hlen hn2) hr hT ⟨bm,ob,b1,b2,b3,b4⟩ hF hbd fun H hS=>hsp _ H a ns hlen hb hS) fun r s' hq=> ?_);obtain ⟨e,h2,h3,h4⟩:=hq;subst e;exact ⟨.inl ⟨.bool true, .bool true,[],rfl,fun _=>rfl, .bool true,Att.post_true l _,fun _=>⟨List.Pairwise.nil,fun _ hm=>by cases hm⟩⟩,h2,h3,h4⟩
def spLawW(K:PySem.W.Frag):Sp:=fun vs H Q _=>∃(a:Addr) (ns:List Int),vs = [.ref a]/\SqL K H a (ns.map V.int)/\(ns.length<=63/\∀n ∈ ns,Bt 1048576 n)/\∀H',Q (.bl true) H'
end Tf
namespace Dm
open PySem PySem.Spec PyProof.Rows L2 Tf
theorem law_impW{K:PySem.W.Frag}{F:List PyData->Option Sl}(hL:∀ns:List Int,ns.length<=63->(∀n ∈ ns,Bt 1048576 n)->F [.list (ns.map .int)]=some (.val (.bool true))){vs:List V}{H:Hp}{Q:VK}{E:XK}(h:spLawW K vs H Q E):spD K F vs H Q E:=by
 obtain ⟨a,ns,rfl,h1,h2,q⟩:=h
 have allI:∀ns:List Int,Reps K H (ns.map V.int) (ns.map .int):=fun ns=>by
  induction ns with
  | nil=>exact .nil
  | cons n r ih=>exact .cons (.int n) ih
 refine ⟨H,[.list (ns.map .int)], .val (.bool true),Same.refl H, .cons (.list h1 (allI ns)) .nil,hL ns h2.1 h2.2,fun v H0' H' x p=> ?_⟩
 cases (show Rep K H0' v (.bool true) from p)
 exact q H'
end Dm
namespace Tx
open PySem PySem.NumText PySem.Builtin.Str
def isDg(c:Nat):Bool:=decide (48<=c) && decide (c<=57)
def fives:List Str:= ["0","1","2","3","4","5"]
theorem str_ext{x:Str}{cs:List Nat}(h:x.cps.toList=cs):x=⟨cs.toArray⟩:=by
 obtain ⟨a⟩:=x;subst h;simp
theorem sub_one(x:Str)(c i:Nat)(hi:i<x.length):subAt x ⟨#[c]⟩ i=(x.cps[i]? ==some c):=by
 obtain ⟨a⟩:=x;have hi:i<a.size:=hi;unfold subAt;show (a.extract i (i+1) == #[c])=(a[i]? ==some c)
 have e:a.extract i (i+1) = #[a[i]]:=by
  apply Array.ext
  . simp;omega
  . intro k h1 h2;simp at h2
    subst h2;simp
 rw [e,Array.getElem?_eq_getElem hi];simp
theorem figs:(Str.ofString "0123456789")=⟨#[48,49,50,51,52,53,54,55,56,57]⟩:=by decide +kernel
theorem contains_dig(c:Nat):Txt.contains "0123456789" ⟨#[c]⟩=isDg c:=by
 rw [figs]
 by_cases h:48<=c/\c<=57
 . have:c=48\/c=49\/c=50\/c=51\/c=52\/c=53\/c=54\/c=55\/c=56\/c=57:=by omega
   rcases this with rfl | rfl | rfl | rfl | rfl | rfl | rfl | rfl | rfl | rfl <;> decide +kernel
 . have e:isDg c=false:=by unfold isDg;simp only [Bool.and_eq_false_iff,decide_eq_false_iff_not];omega
   rw [e];unfold Txt.contains;rw [PySem.W.occ_nil_of_no]
   . rfl
   . intro i hi;have hi:i+1<=10:=hi;rw [sub_one _ _ _ (show i<10 by omega)];have:i=0\/i=1\/i=2\/i=3\/i=4\/i=5\/i=6\/i=7\/i=8\/i=9:=by omega
     rcases this with rfl | rfl | rfl | rfl | rfl | rfl | rfl | rfl | rfl | rfl <;> (show (some _==some c)=false;simp;omega)
theorem sw_one(x:Str)(c:Nat):Txt.startswith x ⟨#[c]⟩=(x.cps.toList.head? ==some c):=by
 unfold Txt.startswith;obtain ⟨⟨l⟩⟩:=x
 cases l with
 | nil=>rfl
 | cons d r=>
  rw [sub_one _ _ _ (show 0<(d::r).length by simp)];show (decide (0+1<=(d::r).length) && _)=_;simp
theorem slice1{x:Str}{c:Nat}{cs:List Nat}(h:x.cps.toList=c::cs):(Txt.slice x (some 1) none).cps.toList=cs:=by
 rw [str_ext h]
 have hi:strSliceIndices (some 1) none 1 (cs.length+1)=(List.range cs.length).map fun k=>1+k:=by
  unfold strSliceIndices sliceRange;simp only [show (1:Int)>0 by decide,if_true,show ¬(1:Int)<0 by decide,if_false];have e1:max 0 (min (1:Int) ((cs.length+1:Nat):Int))=1:=by omega
  rw [e1]
  by_cases h0:cs.length=0
  . rw [h0];decide
  . rw [if_pos (by omega)];have e2:((((cs.length+1:Nat):Int) - 1+1 - 1) / 1).toNat=cs.length:=by omega
    rw [e2];refine List.map_congr_left fun k _=> ?_;omega
 unfold Txt.slice;show (if ((1:Int)==1 && (strSliceIndices (some 1) none 1 (cs.length+1)).length==(cs.length+1))=true then _ else _:Str).cps.toList=cs;rw [hi,if_neg (by simp)];show (List.filterMap (fun x:Nat=>(c::cs).toArray[x]?) (strSliceIndices (some 1) none 1 (cs.length+1))).toArray.toList=cs;rw [hi,List.filterMap_map]
 have key:∀n,n<=cs.length->List.filterMap ((fun x:Nat=>(c::cs).toArray[x]?) ∘ fun k=>1+k) (List.range n)=cs.take n:=by
  intro n
  induction n with
  | zero=>intro _;rfl
  | succ n ih=>
   intro hn;rw [List.range_succ,List.filterMap_append,ih (by omega),List.take_add_one];congr 1
   simp only [List.filterMap_cons,List.filterMap_nil,Function.comp];rw [Nat.add_comm 1 n];simp [show n<cs.length by omega]
 rw [key _ (Nat.le_refl _),List.take_length]
def fig(x:Str):Str:=if Txt.startswith x "-" = true then Txt.slice x (some 1) none else x
def numOk(x:Str):Bool:= !(decide (fig x = "") || (decide (12<(fig x).length) || !((fig x).cps.toList.all isDg))) && (decide (x = "0") || !Txt.startswith (fig x) "0")
theorem dg_all{l:List Nat}(h:l.all isDg=true):AllDigits l:=fun c hc=>by
 have:=List.all_eq_true.mp h c hc;unfold isDg at this
 simpa using this
theorem num_int{x:Str}(h:numOk x=true):∃n:Int,PySem.intText? x=some n/\x.length<=13/\(0<=n->n<=5->x ∈ fives):=by
 unfold numOk at h
 simp only [Bool.and_eq_true,Bool.not_eq_true',Bool.or_eq_false_iff,decide_eq_false_iff_not,Bool.not_eq_false',Bool.or_eq_true,decide_eq_true_eq,Bool.not_eq_true'] at h
 obtain ⟨⟨h1,h2,h3⟩,h4⟩:=h;have d3:=dg_all h3;have em:(Str.ofString "")=⟨#[]⟩:=by decide +kernel
 have hne:(fig x).cps.toList ≠ []:=fun e=>h1 (by rw [em];exact str_ext e);have hln:(fig x).cps.toList.length=(fig x).length:=Array.length_toList;have o0:(Str.ofString "0")=⟨#[48]⟩:=by decide +kernel
 have om:(Str.ofString "-")=⟨#[45]⟩:=by decide +kernel
 by_cases hs:Txt.startswith x "-" = true
 . have ef:fig x=Txt.slice x (some 1) none:=if_pos hs;rw [om,sw_one] at hs
   cases hx:x.cps.toList with
   | nil=>rw [hx] at hs;cases hs
   | cons c cs=>
    rw [hx] at hs
    have hc:c=45:=by simpa using hs
    subst hc;have es:=slice1 hx;rw [<-ef] at es
    have hl:x.length=cs.length+1:=by
     have:x.cps.toList.length=x.length:=Array.length_toList;rw [hx] at this
     simpa using this.symm
    rw [es] at hne d3 hln
    refine ⟨_,intText_neg hx d3 hne (by omega),by omega,fun a b=> ?_⟩;rcases h4 with h4 | h4
    . rw [h4,o0] at hx;cases hx
    . rw [o0,sw_one,es] at h4
      cases cs with
      | nil=>exact absurd rfl hne
      | cons d r=>
       have hd:=d3 d List.mem_cons_self;have:d≠48:=by simpa using h4
       have:=digitsVal_pos (c:=d) (cs:=r) (by omega);omega
 . have ef:fig x=x:=if_neg hs;rw [ef] at hne d3 hln h2 h4
   refine ⟨_,intText_digits d3 hne (by omega),by omega,fun _ b=> ?_⟩;rcases h4 with h4 | h4
   . rw [h4];exact List.mem_cons_self
   . rw [o0,sw_one] at h4
     cases hx:x.cps.toList with
     | nil=>exact absurd hx hne
     | cons c cs=>
      rw [hx] at d3 h4 b
      have hc:=d3 c List.mem_cons_self;have hc':c≠48:=by simpa using h4
      cases cs with
      | cons d r=>
       have:(c - 48)*10<=digitsVal (c::d::r):=by
        show _<=List.foldl _ ((0*10+(c - 48))*10+(d - 48)) r;have:=foldl_ge r ((0*10+(c - 48))*10+(d - 48));omega
       omega
      | nil=>
       have e:digitsVal [c]=c - 48:=by show 0*10+(c - 48)=_;omega
       rw [e] at b
       rw [str_ext hx];have:c=49\/c=50\/c=51\/c=52\/c=53:=by omega
       rcases this with rfl | rfl | rfl | rfl | rfl <;> decide +kernel
theorem five_num:∀x ∈ fives,numOk x=true:=by decide +kernel
theorem five_val:∀x ∈ fives,∃n:Int,PySem.intText? x=some n/\0<=n/\n<=5:=by
 intro x hx;have h:x=("0" : Str)\/x=("1" : Str)\/x=("2" : Str)\/x=("3" : Str)\/x=("4" : Str)\/x=("5" : Str):=by simpa [fives] using hx
 rcases h with rfl | rfl | rfl | rfl | rfl | rfl
 . exact ⟨0,by decide +kernel,by decide,by decide⟩
 . exact ⟨1,by decide +kernel,by decide,by decide⟩
 . exact ⟨2,by decide +kernel,by decide,by decide⟩
 . exact ⟨3,by decide +kernel,by decide,by decide⟩
 . exact ⟨4,by decide +kernel,by decide,by decide⟩
 . exact ⟨5,by decide +kernel,by decide,by decide⟩
theorem split_ne(a b:Str):Txt.split a b ≠ []:=by
 unfold Txt.split
 split
 . simp
 . split
   . simp
   . intro h;have:=length_partsBetween a (occurrences a b 0 a.length (a.length+1)) b.length;rw [h] at this
     simp at this
theorem split_len(a b:Str):∀x ∈ Txt.split a b,x.length<=a.length:=by
 unfold Txt.split
 split
 . simp
 . split
   . simp
   . intro x hx;simp only [partsBetween,List.mem_map] at hx
     obtain ⟨⟨i,j⟩,_,rfl⟩:=hx;exact strSub_length_le ..
def Ok(n:Nat)(x:Str):Prop:=x.length<=n/\PyData.strOk x=true
theorem ok_iff{x:Str}:PyData.strOk x=true↔∀c ∈ x.cps.toList,c<0x110000:=by
 obtain ⟨⟨l⟩⟩:=x;unfold PyData.strOk;simp
theorem ok_sub{x y:Str}(h:PyData.strOk x=true)(k:∀c ∈ y.cps.toList,c ∈ x.cps.toList):PyData.strOk y=true:=ok_iff.mpr fun c hc=>ok_iff.mp h c (k c hc)
theorem ok_app{x y:Str}(h:PyData.strOk x=true)(k:PyData.strOk y=true):PyData.strOk (x++y)=true:=by
 refine ok_iff.mpr fun c hc=> ?_;have hc:c ∈ (x.cps++y.cps).toList:=hc;rw [Array.toList_append] at hc
 rcases List.mem_append.mp hc with z | z
 . exact ok_iff.mp h c z
 . exact ok_iff.mp k c z
theorem ok_q24{x:Str}(h:PyData.strOk x=true)(l u:Option Int):PyData.strOk (Txt.slice x l u)=true:=by
 unfold Txt.slice
 split
 . exact h
 . refine ok_sub h fun c hc=> ?_;have hc:c ∈ (List.filterMap (fun i=>x.cps[i]?) (strSliceIndices l u 1 x.length)).toArray.toList:=hc;obtain ⟨i,_,e⟩:=List.mem_filterMap.mp (by simpa using hc);exact Array.mem_toList_iff.mpr (Array.mem_of_getElem? e)
theorem ok_q25{a b:Str}(h:PyData.strOk a=true):∀x ∈ Txt.split a b,PyData.strOk x=true:=by
 unfold Txt.split
 split
 . intro x hx;cases List.mem_singleton.mp hx;exact h
 . split
   . intro x hx;cases List.mem_singleton.mp hx;exact h
   . intro x hx;simp only [partsBetween,List.mem_map] at hx
     obtain ⟨⟨i,j⟩,_,rfl⟩:=hx;refine ok_sub h fun c hc=> ?_;have hc:c ∈ (a.cps.extract i j).toList:=hc;obtain ⟨k,hk,rfl⟩:=Array.mem_extract_iff_getElem.mp (Array.mem_toList_iff.mp hc);exact Array.mem_toList_iff.mpr (Array.getElem_mem _)
theorem ok_q13{s:Str}(h:PyData.strOk s=true):∀ {l:List Str},(∀x ∈ l,PyData.strOk x=true)->PyData.strOk (Txt.join s l)=true:=by
 intro l hl;show PyData.strOk (glued s l)=true;rw [StrLaws.glued_eq_join]
 induction l with
 | nil=>exact (show PyData.strOk Str.empty=true by decide +kernel)
 | cons x r ih=>
  cases r with
  | nil=>exact hl x (by simp)
  | cons y r=>exact ok_app (ok_app (hl x (by simp)) h) (ih fun z hz=>hl z (by simp [hz]))
theorem join_len(s:Str)(l:List Str){k:Nat}(h:∀x ∈ l,x.length<=k):(Txt.join s l).length<=l.length*(k+s.length):=by
 show (glued s l).length<=_;rw [StrLaws.glued_eq_join];refine Nat.le_trans (StrLaws.join_length_le s l) ?_
 have:(l.map (·.length)).sum<=l.length*k:=by
  induction l with
  | nil=>simp
  | cons x r ih=>
   have a:=h x (by simp);have b:=ih fun y hy=>h y (by simp [hy]);rw [List.map_cons,List.sum_cons,List.length_cons,Nat.succ_mul];omega
 rw [Nat.mul_add];omega
theorem join_ok(s:Str)(l:List Str){k:Nat}(h:∀x ∈ l,x.length<=k)(hk:l.length*(k+s.length)<=100000):JoinOk s l=true:=by
 unfold JoinOk;rw [StrLaws.joinTotal]
 have:(l.map (·.length)).sum<=l.length*k:=by
  induction l with
  | nil=>simp
  | cons x r ih=>
   have a:=h x (by simp);have b:=ih (fun y hy=>h y (by simp [hy])) (Nat.le_trans (Nat.mul_le_mul_right _ (Nat.le_succ _)) hk);rw [List.map_cons,List.sum_cons,List.length_cons,Nat.succ_mul];omega
 rw [Nat.mul_add] at hk
 have e:tooLong ((l.map (·.length)).sum+l.length*s.length)=false:=by
  unfold tooLong;simp only [decide_eq_false_iff_not];have z:sizeLine=16777216:=rfl;omega
 rw [e];rfl
theorem split_ok{n:Nat}{a b:Str}(h:Ok n a):∀x ∈ Txt.split a b,Ok n x:=fun x hx=>⟨Nat.le_trans (split_len a b x hx) h.1,ok_q25 h.2 x hx⟩
end Tx
namespace Ri
open PySem Tf Dm
section
variable {α:Type} [DecidableEq α]
def st(acc:List α)(x:α):List α:=if x ∈ acc then acc else acc ++ [x]
theorem st_nodup:∀(ns acc:List α),acc.Nodup->(ns.foldl st acc).Nodup
 | [],acc,h=>h
 | n::ns,acc,h=>by
  refine st_nodup ns _ ?_;unfold st
  split
  . exact h
  . rename_i hn;refine List.nodup_append.mpr ⟨h,List.nodup_cons.mpr ⟨by simp,List.nodup_nil⟩,fun a ha b hb=> ?_⟩
    cases List.mem_singleton.mp hb
    exact fun e=>hn (e ▸ ha)
theorem st_mem(x:α):∀ns acc:List α,x ∈ ns.foldl st acc↔x ∈ acc\/x ∈ ns
 | [],acc=>by simp
 | n::ns,acc=>by
  rw [List.foldl_cons,st_mem x ns];unfold st
  split
  . rename_i hn
    constructor
    . rintro (h | h)
      . exact .inl h
      . exact .inr (List.mem_cons_of_mem _ h)
    . rintro (h | h)
      . exact .inl h
      . rcases List.mem_cons.mp h with h | h
        . subst h;exact .inl hn
        . exact .inr h
  . simp only [List.mem_append,List.mem_singleton,List.mem_cons,List.not_mem_nil,false_or,or_assoc]
theorem st_all:∀ns acc:List α,(acc++ns).Nodup->ns.foldl st acc=acc++ns
 | [],acc,_=>by simp
 | n::ns,acc,h=>by
  have hn:n ∉ acc:=fun hm=>(List.nodup_append.mp h).2.2 n hm n (by simp) rfl;rw [List.foldl_cons,show st acc n=acc ++ [n] from if_neg hn,st_all ns (acc ++ [n]) (by simpa using h)];simp
theorem st_full{ns:List α}(h:ns.length<=(ns.foldl st []).length):ns.Nodup:=by
 have h1:=st_nodup ns [] List.nodup_nil
 have hs:(ns.foldl st []) ⊆ ns:=fun x hx=>by
  rcases (st_mem x ns []).mp hx with h | h
  . cases h
  . exact h
 refine List.nodup_iff_count.mpr fun a=> ?_;refine Classical.byContradiction fun hc=> ?_;have hc:2<=ns.count a:=by omega
 have ha:a ∈ ns:=List.count_pos_iff.mp (by omega);have e1:(ns.erase a).length=ns.length - 1:=List.length_erase_of_mem ha
 have h2:(ns.foldl st []) ⊆ ns.erase a:=fun x hx=>by
  by_cases e:x=a
  . subst e;refine List.count_pos_iff.mp ?_;rw [List.count_erase_self];omega
  . exact (List.mem_erase_of_ne e).mpr (hs hx)
 have:=h1.length_le_of_subset h2;have:=List.length_pos_of_mem ha;omega
end
theorem range_getD{α:Type}(d:α)(ns:List α):(List.range ns.length).map (fun i=>ns.getD i d)=ns:=by
 apply List.ext_getElem?;intro i;rw [List.getElem?_map]
 by_cases h:i<ns.length
 . rw [List.getElem?_range h,Option.map_some,List.getD_eq_getElem?_getD,List.getElem?_eq_getElem h];rfl
 . rw [List.getElem?_eq_none (by simp;omega),List.getElem?_eq_none (by omega)];rfl
theorem unIs_eq(ns:List Int):unIs ns=ns.foldl st []:=by
 unfold unIs SeT.metI;rw [range_getD];rfl
theorem unT_eq(kss:List (List Int)):unT kss=(kss.foldl st []).length:=by
 unfold unT SeT.metK
 have:SeT.stepK=st:=by
  funext a x;unfold SeT.stepK st
  by_cases h:x ∈ a
  . rw [if_pos h,if_pos h]
  . rw [if_neg h,if_neg h]
 rw [range_getD,this]
theorem unT_lt(kss:List (List Int)):unT kss<kss.length↔¬kss.Nodup:=by
 rw [unT_eq]
 constructor
 . intro h hn;rw [st_all kss [] (by simpa using hn)] at h
   simp at h
 . intro h;exact Nat.lt_of_not_le fun z=>h (st_full z)
abbrev Up (ns:List Int):Prop:=ns.Pairwise (· < ·)
theorem up_nodup{ns:List Int}(h:Up ns):ns.Nodup:=h.imp fun h=>by omega
theorem srt_un(ns:List Int):srt (unIs ns)=ns↔Up ns:=by
 rw [unIs_eq]
 constructor
 . intro h;have h1:=srt_pair (ns.foldl st []);have h2:(srt (ns.foldl st [])).Nodup:=(srt_perm _).nodup_iff.mpr (st_nodup ns [] List.nodup_nil);rw [h] at h1 h2
   exact (h1.and h2).imp fun h=>by omega
 . intro h;rw [st_all ns [] (by simpa using up_nodup h),List.nil_append];exact (srt_eq (List.Perm.refl ns) (h.imp fun h=>by omega)).symm
abbrev six:List Int:= [0,1,2,3,4,5]
theorem six_mem{n:Int}(h:0<=n/\n<=5):n ∈ six:=by
 have:n=0\/n=1\/n=2\/n=3\/n=4\/n=5:=by omega
 simpa using this
theorem un_six{ns:List Int}(h:∀n ∈ ns,0<=n/\n<=5):(unIs ns).length<=6:=by
 rw [unIs_eq];refine (st_nodup ns [] List.nodup_nil).length_le_of_subset (l₂:=six) fun x hx=> ?_;rcases (st_mem x ns []).mp hx with z | z
 . cases z
 . exact six_mem (h x z)
def R6:List (List Int):=(List.range 64).map fun m=>six.filter fun i=>(m >>> i.toNat) % 2==1
theorem filt6(p:Int->Bool):six.filter p ∈ R6:=by
 have e:six.filter p=(if p 0 then [0] else [])++(if p 1 then [1] else [])++(if p 2 then [2] else [])++(if p 3 then [3] else [])++(if p 4 then [4] else [])++(if p 5 then [5] else []):=by
  simp only [List.filter_cons,List.filter_nil]
  cases p 0 <;> cases p 1 <;> cases p 2 <;> cases p 3 <;> cases p 4 <;> cases p 5 <;> rfl
 rw [e]
 cases p 0 <;> cases p 1 <;> cases p 2 <;> cases p 3 <;> cases p 4 <;> cases p 5 <;> decide +kernel
theorem up_in{ns:List Int}(h:Up ns)(k:∀n ∈ ns,0<=n/\n<=5):ns ∈ R6:=by
 have u:Up (six.filter fun x=>decide (x ∈ ns)):=List.Pairwise.filter _ (by decide)
 have e:ns=six.filter fun x=>decide (x ∈ ns):=by
  refine List.Perm.eq_of_pairwise (le:=(· < ·)) (fun a b _ _ h1 h2=>by omega) h u ((List.perm_ext_iff_of_nodup (up_nodup h) (up_nodup u)).mpr fun a=> ?_);rw [List.mem_filter,decide_eq_true_eq];exact ⟨fun z=>⟨six_mem (k a z),z⟩,fun z=>z.2⟩
 rw [e];exact filt6 _
theorem apart6:apartK R6=true:=by decide +kernel
theorem apart_of{kss:List (List Int)}(h:∀k ∈ kss,Up k/\∀n ∈ k,0<=n/\n<=5):apartK kss=true:=by
 unfold apartK;refine List.all_eq_true.mpr fun k hk=>List.all_eq_true.mpr fun k' hk' => ?_;have:=apartK_at apart6 k (up_in (h k hk).1 (h k hk).2) k' (up_in (h k' hk').1 (h k' hk').2)
 by_cases e:hK k=hK k'
 . rw [this e];simp
 . simp [e]
def cm(x:Str):Nat:=x.cps.toList.count 44
theorem cm_app(x y:Str):cm (x++y)=cm x+cm y:=by
 show (x.cps++y.cps).toList.count 44=_;rw [Array.toList_append,List.count_append];rfl
theorem join_split(x y:Str):Txt.join y (Txt.split x y)=x:=by
 unfold Txt.split
 have one:Txt.join y [x]=x:=by
  show Builtin.Str.glued y [x]=x;rw [StrLaws.glued_eq_join];rfl
 split
 . exact one
 . split
   . exact one
   . exact StrLaws.glued_between_self x y _
theorem cm_join_ge(s:Str):∀l:List Str,(l.length - 1)*cm s<=cm (Str.join s l)
 | []=>by simp
 | [x]=>by simp
 | x::y::l=>by
  show _<=cm (x++s++Str.join s (y::l));rw [cm_app,cm_app];have:=cm_join_ge s (y::l);simp only [List.length_cons,Nat.add_sub_cancel] at this ⊢
  rw [Nat.succ_mul];omega
theorem cm_join_le(s:Str){a:Nat}:∀l:List Str,(∀x ∈ l,cm x<=a)->cm (Str.join s l)<=l.length*(a+cm s)
 | [],_=>by show cm Str.empty<=_;exact Nat.le_trans (show cm Str.empty<=0 by decide +kernel) (Nat.zero_le _)
 | [x],h=>by
  show cm x<=_;have:=h x (by simp);simp only [List.length_cons,List.length_nil]
  omega
 | x::y::l,h=>by
  show cm (x++s++Str.join s (y::l))<=_;rw [cm_app,cm_app];have h1:=h x (by simp);have:=cm_join_le s (y::l) fun z hz=>h z (List.mem_cons_of_mem _ hz);simp only [List.length_cons] at this ⊢
  rw [Nat.succ_mul];omega
theorem join_cm_le(s:Str){a:Nat}(l:List Str)(h:∀x ∈ l,cm x<=a):cm (Txt.join s l)<=l.length*(a+cm s):=by
 show cm (Builtin.Str.glued s l)<=_;rw [StrLaws.glued_eq_join];exact cm_join_le s l h
theorem split_cm(x:Str):(Txt.split x ", ").length<=cm x+1:=by
 have e:=join_split x ", "
 have e:Str.join ", " (Txt.split x ", ")=x:=by
  rw [<-StrLaws.glued_eq_join];exact e
 have h:=cm_join_ge ", " (Txt.split x ", ");rw [e,show cm (Str.ofString ", ")=1 by decide +kernel] at h
 omega
theorem split_cm_le(x b:Str):∀z ∈ Txt.split x b,cm z<=cm x:=by
 unfold Txt.split
 split
 . intro z hz;cases List.mem_singleton.mp hz;exact Nat.le_refl _
 . split
   . intro z hz;cases List.mem_singleton.mp hz;exact Nat.le_refl _
   . intro z hz;simp only [Builtin.Str.partsBetween,List.mem_map] at hz
     obtain ⟨⟨i,j⟩,_,rfl⟩:=hz;show (x.cps.extract i j).toList.count 44<=_;rw [Array.toList_extract];exact List.Sublist.count_le _ (((List.take_sublist _ _)).trans (List.drop_sublist _ _))
theorem idx_one(l u:Option Int)(n:Nat):∃a m:Nat,Builtin.Str.strSliceIndices l u 1 n=(List.range m).map fun k=>a+k:=by
 unfold Builtin.Str.strSliceIndices sliceRange;simp only [show (1:Int)>0 by decide,if_true]
 have key:∀(st:Int) (c:Nat),0<=st->∃a m:Nat,((List.range c).map fun k:Nat=>(st+1*(k:Int)).toNat)=(List.range m).map fun k=>a+k:=fun st c h=>
  ⟨st.toNat,c,List.map_congr_left fun k _=>by omega⟩
 cases l with
 | none=>exact key 0 _ (Int.le_refl 0)
 | some i=>exact key _ _ (Int.le_max_left 0 _)
theorem pick_sub(a:Array Nat)(i m:Nat):(List.filterMap (fun k=>a[k]?) ((List.range m).map fun k=>i+k))=((a.toList.drop i).take m):=by
 induction m with
 | zero=>rfl
 | succ m ih=>
  rw [List.range_succ,List.map_append,List.filterMap_append,ih,List.take_add_one];congr 1
  simp only [List.map_cons,List.map_nil,List.filterMap_cons,List.filterMap_nil,List.getElem?_drop,Array.getElem?_toList]
  cases a[i+m]? <;> rfl
theorem cm_slice(x:Str)(l u:Option Int):cm (Txt.slice x l u)<=cm x:=by
 unfold Txt.slice
 split
 . exact Nat.le_refl _
 . show (List.filterMap (fun i=>x.cps[i]?) (Builtin.Str.strSliceIndices l u 1 x.length)).toArray.toList.count 44<=_;obtain ⟨a,m,e⟩:=idx_one l u x.length;rw [e,pick_sub];exact List.Sublist.count_le _ ((List.take_sublist _ _).trans (List.drop_sublist _ _))
end Ri
namespace K92
noncomputable section
open PySem L2 Tf Dm
def top (i : Nat) : Stmt := PySem.Challenge.pw_trialfield_k92_models_as_texts.main.body.getD i (.Pass ⟨0, 0, 0, 0⟩)
structure Bl (mg:Str->Option Value):Prop where
 ValueError:mg "ValueError" = none
 abs:mg "abs" = none
 all:mg "all" = none
 bool:mg "bool" = none
 e:mg "e" = none
 int:mg "int" = none
 isinstance:mg "isinstance" = none
 len:mg "len" = none
 list:mg "list" = none
 max:mg "max" = none
 min:mg "min" = none
 range:mg "range" = none
 set:mg "set" = none
 sorted:mg "sorted" = none
 str:mg "str" = none
 tuple:mg "tuple" = none
structure Xf (K:PySem.W.Frag) (mg:Str->Option Value) (c_TrialError c_NoEffect c_NoText c_NoRow c_NoThing c_NoFit:Addr):Prop where
 m_TrialError:mg "TrialError" = some (.ref c_TrialError)
 m_NoEffect:mg "NoEffect" = some (.ref c_NoEffect)
 m_NoText:mg "NoText" = some (.ref c_NoText)
 m_NoRow:mg "NoRow" = some (.ref c_NoRow)
 m_NoThing:mg "NoThing" = some (.ref c_NoThing)
 m_NoFit:mg "NoFit" = some (.ref c_NoFit)
 xc:XCls K c_NoText
 ex:PySem.W.excIn K c_NoText bmV "ValueError.__new__" = true
 em:PySem.W.exmOne K (.ref c_NoText) (.ref c_TrialError)=some true
 k_NoEffect:PySem.W.kitOne K (.ref c_NoText) (.ref c_NoEffect)=some false
 k_NoRow:PySem.W.kitOne K (.ref c_NoText) (.ref c_NoRow)=some false
 k_NoThing:PySem.W.kitOne K (.ref c_NoText) (.ref c_NoThing)=some false
 k_NoFit:PySem.W.kitOne K (.ref c_NoText) (.ref c_NoFit)=some false
 k_NoText:PySem.W.kitOne K (.ref c_NoText) (.ref c_NoText)=some true
 kb_ValueError:PySem.W.kitOne K (.ref c_NoText) (.type "ValueError")=some true
abbrev s_q12:Stmt:=top 11
theorem sc_q12:FnScope ["word","figures"] ["word"] (defScope s_q12):=⟨rfl,rfl,rfl,by decide +kernel,rfl,by decide +kernel,by decide +kernel⟩
abbrev s_q17:Stmt:=top 12
theorem sc_q17:FnScope ["word"] ["word"] (defScope s_q17):=⟨rfl,rfl,rfl,by decide +kernel,rfl,by decide +kernel,by decide +kernel⟩
abbrev s_q18:Stmt:=top 13
theorem sc_q18:FnScope ["words","least","most","numbers"] ["words","least","most"] (defScope s_q18):=⟨rfl,rfl,rfl,by decide +kernel,rfl,by decide +kernel,by decide +kernel⟩
abbrev s_q14:Stmt:=top 14
theorem sc_q14:FnScope ["text","separator"] ["text","separator"] (defScope s_q14):=⟨rfl,rfl,rfl,by decide +kernel,rfl,by decide +kernel,by decide +kernel⟩
abbrev s_q15:Stmt:=top 15
theorem sc_q15:FnScope ["text","effect"] ["text"] (defScope s_q15):=⟨rfl,rfl,rfl,by decide +kernel,rfl,by decide +kernel,by decide +kernel⟩
abbrev s_q16:Stmt:=top 16
theorem sc_q16:FnScope ["text","model"] ["text"] (defScope s_q16):=⟨rfl,rfl,rfl,by decide +kernel,rfl,by decide +kernel,by decide +kernel⟩
abbrev s_q23:Stmt:=top 17
theorem sc_q23:FnScope ["numbers"] ["numbers"] (defScope s_q23):=⟨rfl,rfl,rfl,by decide +kernel,rfl,by decide +kernel,by decide +kernel⟩
abbrev s_q19:Stmt:=top 18
theorem sc_q19:FnScope ["effect"] ["effect"] (defScope s_q19):=⟨rfl,rfl,rfl,by decide +kernel,rfl,by decide +kernel,by decide +kernel⟩
abbrev s_q22:Stmt:=top 19
theorem sc_q22:FnScope ["model"] ["model"] (defScope s_q22):=⟨rfl,rfl,rfl,by decide +kernel,rfl,by decide +kernel,by decide +kernel⟩
abbrev s_q20:Stmt:=top 20
theorem sc_q20:FnScope ["number","top","bottom"] ["number"] (defScope s_q20):=⟨rfl,rfl,rfl,by decide +kernel,rfl,by decide +kernel,by decide +kernel⟩
abbrev s_q21:Stmt:=top 21
theorem sc_q21:FnScope ["numbers"] ["numbers"] (defScope s_q21):=⟨rfl,rfl,rfl,by decide +kernel,rfl,by decide +kernel,by decide +kernel⟩
abbrev s_q11:Stmt:=top 23
theorem sc_q11:FnScope ["_law_found"] ["_law_found"] (defScope s_q11):=⟨rfl,rfl,rfl,by decide +kernel,rfl,by decide +kernel,by decide +kernel⟩
abbrev s_q3:Stmt:=top 24
theorem sc_q3:FnScope ["_law_cell","_law_j","_law_number"] ["_law_cell","_law_j"] (defScope s_q3):=⟨rfl,rfl,rfl,by decide +kernel,rfl,by decide +kernel,by decide +kernel⟩
abbrev s_q0:Stmt:=top 25
theorem sc_q0:FnScope ["_law_one","_law_other"] ["_law_one","_law_other"] (defScope s_q0):=⟨rfl,rfl,rfl,by decide +kernel,rfl,by decide +kernel,by decide +kernel⟩
abbrev s_q4:Stmt:=top 26
theorem sc_q4:FnScope ["_law_cell","_law_found","_law_k","_law_mask","_law_effect"] ["_law_cell"] (defScope s_q4):=⟨rfl,rfl,rfl,by decide +kernel,rfl,by decide +kernel,by decide +kernel⟩
abbrev s_q9:Stmt:=top 27
theorem sc_q9:FnScope ["_law_model_here","_law_found","_law_effect","_law_word"] ["_law_model_here"] (defScope s_q9):=⟨rfl,rfl,rfl,by decide +kernel,rfl,by decide +kernel,by decide +kernel⟩
abbrev s_q5:Stmt:=top 28
theorem sc_q5:FnScope ["_law_cell","_law_some"] ["_law_cell"] (defScope s_q5):=⟨rfl,rfl,rfl,by decide +kernel,rfl,by decide +kernel,by decide +kernel⟩
abbrev s_q8:Stmt:=top 29
theorem sc_q8:FnScope ["_law_text_here","_law_cell","_law_signs","_law_way","_law_at","_law_sign"] ["_law_text_here","_law_cell"] (defScope s_q8):=⟨rfl,rfl,rfl,by decide +kernel,rfl,by decide +kernel,by decide +kernel⟩
abbrev s_q10:Stmt:=top 30
theorem sc_q10:FnScope ["_law_text_here","_law_found","_law_piece","_law_effect","_law_word"] ["_law_text_here"] (defScope s_q10):=⟨rfl,rfl,rfl,by decide +kernel,rfl,by decide +kernel,by decide +kernel⟩
abbrev s_q2:Stmt:=top 31
theorem sc_q2:FnScope ["_law_found","_law_due","_law_effect"] ["_law_found","_law_due"] (defScope s_q2):=⟨rfl,rfl,rfl,by decide +kernel,rfl,by decide +kernel,by decide +kernel⟩
abbrev s_q6:Stmt:=top 32
theorem sc_q6:FnScope ["_law_text_here","_law_due","_law_error","_law_found","e"] ["_law_text_here"] (defScope s_q6):=⟨rfl,rfl,rfl,by decide +kernel,rfl,by decide +kernel,by decide +kernel⟩
abbrev s_q1:Stmt:=top 33
theorem sc_q1:FnScope ["_law_cell","_law_top","_law_bottom","_law_by"] ["_law_cell"] (defScope s_q1):=⟨rfl,rfl,rfl,by decide +kernel,rfl,by decide +kernel,by decide +kernel⟩
abbrev s_q7:Stmt:=top 34
theorem sc_q7:FnScope ["_law_numbers","_law_found","_law_top","_law_bottom","_law_word"] ["_law_numbers"] (defScope s_q7):=⟨rfl,rfl,rfl,by decide +kernel,rfl,by decide +kernel,by decide +kernel⟩
abbrev s_law:Stmt:=top 35
theorem sc_law:FnScope ["_law_script","_law_cells","_law_cell","_law_numbers","_law_kept","_law_found","_law_model_here","_law_text_here"] ["_law_script"] (defScope s_law):=⟨rfl,rfl,rfl,by decide +kernel,rfl,by decide +kernel,by decide +kernel⟩
def c_FIGURES:PyData:= .str "0123456789"
def c_MOST_FIGURES:PyData:= .int 12
def c_MOST_THINGS:PyData:= .int 6
section
variable {P:Program} {w:World} {K:PySem.W.Frag} {mg:Str->Option Value} {base:Heap} {f:Addr} {fd:FuncData} {c_TrialError:Addr} {c_NoEffect:Addr} {c_NoText:Addr} {c_NoRow:Addr} {c_NoThing:Addr} {c_NoFit:Addr}
def b_q12 : En -> Option Out :=
 (mSeq (mAsg 1 (mIfE (mTest (mBin dSw (mPk 0) (mK (.str "-")))) (mSlX (mPk 0) (mPart (mK (.int 1))) mNoPart) (mVar 0)))
 (mSeq (mFrz 1 (mIf (mOr (mTest (mBin deq (mPk 1) (mK (.str "")))) (mOr (mTest (mBin dGt (mCallP dLenX (mConsP (mPk 1) mNilP)) (mK c_MOST_FIGURES))) (mNot (mTest (mCallP dAll (mConsP (mLC (subE [none]) (mItX (mVar 1)) (gVar 0) mYes (mBin dInX (mPk 0) (mK c_FIGURES))) mNilP)))))) (mRet (mK (.bool false))) mNext))
 (mRet (mOrV (mBin deq (mPk 0) (mK (.str "0"))) (mNotV (mBin dSw (mPk 1) (mK (.str "0"))))))))
def m_q12:List PyData->Option Sl:=runD 2 b_q12 1
theorem ok_q12 (B:Bl mg) (C_FIGURES:GlobC K mg "FIGURES" c_FIGURES) (C_MOST_FIGURES:GlobC K mg "MOST_FIGURES" c_MOST_FIGURES) (F:Fun K "is_number" "is_number" s_q12 f fd):FnOk P w K mg base CX0 1 f fd ["word"] (spD K m_q12):=by
 have sc:=sc_q12
 exact fnD F sc_q12 rfl rfl fun cdv A outer s H E hr=>
  (dss_cons (ds_set 1 (de_ifE (dt_val (DE.dp (de_sw (dp_var 0) (DE.dp de_str)))) (de_slX (dp_var 0) (do_some (DE.dp de_int)) do_none) (de_var 0)) sc.nd)
  (dss_cons (ds_frz 1 (ds_if (dt_w (dw_or (dt_eq hr.units (dp_var 1) (DE.dp de_str)) (dw_or (dt_gt (DE.dp (de_lenX B.len (dq_cons (dp_var 1) dq_nil))) (DE.dp (de_globC C_MOST_FIGURES))) (dw_or1 (dt_not (dt_val (DE.dp (de_blt (call_all rfl) cd_all bt_all B.all (dq_cons (DE.dp (de_lc (N':= ["sign"]) (R':=PR K) cx_scope1 cx_names1 [none] (subE [none]) pr_sub (di_str (de_var 1)) (fun _=>(dgk_name 0 (show List.Nodup (α:=Str) ["sign"] by decide +kernel))) (fun _=>dts_nil) (fun _=>(de_inX (dp_var 0) (DE.dp (de_globC C_FIGURES)))))) dq_nil))))))))) (dss_one (ds_ret de_bool)) dss_nil))
  (dss_one (ds_ret (de_or (de_eq hr.units (dp_var 0) (DE.dp de_str)) (de_or1 (de_not (de_sw (dp_var 1) (DE.dp de_str)))))))))
def b_q17 : En -> Option (Option Out) :=
 (mSqx (mIfx (mNot (mTest (mCall m_q12 (mCons (mVar 0) mNil)))) (mRseE (mK (.str "this is no whole number in the form told"))) (mLf mNext))
 (mLf (mRet (mCallP dIntS (mConsP (mPk 0) mNilP)))))
def m_q17:List PyData->Option (Option Sl):=runX 1 b_q17 1
theorem ok_q17 (B:Bl mg) (D_q12:Def P w K mg base 1 "is_number" ["word"] (spD K m_q12)) (Y:Xf K mg c_TrialError c_NoEffect c_NoText c_NoRow c_NoThing c_NoFit) (F:Fun K "read_number" "read_number" s_q17 f fd):FnOk P w K mg base (CXe P w c_NoText) 2 f fd ["word"] (spX K m_q17):=by
 have sc:=sc_q17
 exact fnX F sc_q17 rfl rfl fun cdv A outer s H E hr=>
  (dx_if (dt_not (dt_val (DE.dp (de_call D_q12 hr (da_cons (de_var 0) da_nil))))) (dx_raiseE de_str Y.m_NoText Y.ex) (dx_of dss_nil)
  (dx_of (dss_one (ds_ret (de_intS B.int (dq_cons (dp_var 0) dq_nil))))))
def b_q18 : En -> Option (Option Out) :=
 (mSqx (mAsgx 3 (mLCx (subE [none]) (mItx (mItemsS (mVar 0))) (gVar 0) (mCallx m_q17 (mCons (mVar 0) mNil))))
 (mSqx (mIfx (mOr (mTest (mBin dLt (mCallP dMinL (mConsP (mPk 3) mNilP)) (mPk 1))) (mTest (mBin dGt (mCallP dMaxLi (mConsP (mPk 3) mNilP)) (mPk 2)))) (mRseE (mFsI 1 2)) (mLf mNext))
 (mLf (mRet (mPk 3)))))
def m_q18:List PyData->Option (Option Sl):=runX 4 b_q18 3
theorem ok_q18 (B:Bl mg) (D_q17:DefX P w K mg base c_NoText 2 "read_number" ["word"] (spX K m_q17)) (Y:Xf K mg c_TrialError c_NoEffect c_NoText c_NoRow c_NoThing c_NoFit) (F:Fun K "read_numbers" "read_numbers" s_q18 f fd):FnOk P w K mg base (CXe P w c_NoText) 3 f fd ["words","least","most"] (spX K m_q18):=by
 have sc:=sc_q18
 exact fnX F sc_q18 rfl rfl fun cdv A outer s H E hr=>
  (dx_setCb (N':= ["word"]) (R':=PR K) 3 [none] (subE [none]) pr_sub sc.nd (dix_of (di_seq (de_var 0))) (fun _=>(dgk_name 0 (show List.Nodup (α:=Str) ["word"] by decide +kernel))) (fun _ hb=>(dex_call D_q17 (passB hb) hr (da_cons (de_var 0) da_nil)))
  (dx_if (dt_w (dw_or (dt_lt (DE.dp (de_blt (call_minL rfl) cd_minL bt_min B.min (dq_cons (dp_var 3) dq_nil))) (dp_var 1)) (dw_or1 (dt_gt (DE.dp (de_blt (call_maxLi rfl) cd_maxLi bt_max B.max (dq_cons (dp_var 3) dq_nil))) (dp_var 2))))) (dx_raiseI 1 2 Y.m_NoText Y.ex) (dx_of dss_nil)
  (dx_of (dss_one (ds_retV 3)))))
def b_q14 : En -> Option (Option Out) :=
 (mSqx (mIfx (mNot (mTest (mIsi "str" (mPk 0)))) (mRseE (mK (.str "this is no text"))) (mLf mNext))
 (mLf (mRet (mBin dSplit (mPk 0) (mPk 1)))))
def m_q14:List PyData->Option (Option Sl):=runX 2 b_q14 2
theorem ok_q14 (B:Bl mg) (Y:Xf K mg c_TrialError c_NoEffect c_NoText c_NoRow c_NoThing c_NoFit) (F:Fun K "parts_of" "parts_of" s_q14 f fd):FnOk P w K mg base (CXe P w c_NoText) 1 f fd ["text","separator"] (spX K m_q14):=by
 have sc:=sc_q14
 exact fnX F sc_q14 rfl rfl fun cdv A outer s H E hr=>
  (dx_if (dt_not (dt_val (DE.dp (de_isi bt_str B.str B.isinstance (dp_var 0))))) (dx_raiseE de_str Y.m_NoText Y.ex) (dx_of dss_nil)
  (dx_of (dss_one (ds_ret (de_split (dp_var 0) (dp_var 1))))))
def b_q15 : En -> Option (Option Out) :=
 (mSqx (mLf (mIf (mTest (mBin deq (mPk 0) (mK (.str "mean")))) (mRet (mTup mNil)) mNext))
 (mSqx (mAsgx 1 (mCallx m_q18 (mCons (mBin dSplit (mPk 0) (mK (.str " "))) (mCons (mK (.int 0)) (mCons (mBin dSub (mK c_MOST_THINGS) (mK (.int 1))) mNil)))))
 (mSqx (mIfx (mTest (mBin dne (mPk 1) (mCallP dSortSet (mConsP (mPk 1) mNilP)))) (mRseE (mK (.str "the numbers of things do not rise"))) (mLf mNext))
 (mLf (mRet (mCallP dTuple (mConsP (mPk 1) mNilP)))))))
def m_q15:List PyData->Option (Option Sl):=runX 2 b_q15 1
theorem ok_q15 (B:Bl mg) (D_q18:DefX P w K mg base c_NoText 3 "read_numbers" ["words","least","most"] (spX K m_q18)) (C_MOST_THINGS:GlobC K mg "MOST_THINGS" c_MOST_THINGS) (Y:Xf K mg c_TrialError c_NoEffect c_NoText c_NoRow c_NoThing c_NoFit) (F:Fun K "read_effect" "read_effect" s_q15 f fd):FnOk P w K mg base (CXe P w c_NoText) 4 f fd ["text"] (spX K m_q15):=by
 have sc:=sc_q15
 exact fnX F sc_q15 rfl rfl fun cdv A outer s H E hr=>
  (dx_cons (ds_if (dt_eq hr.units (dp_var 0) (DE.dp de_str)) (dss_one (ds_ret (de_tup da_nil))) dss_nil)
  (dx_set 1 (dex_call D_q18 pass_b hr (da_cons (de_split (dp_var 0) (DE.dp de_str)) (da_cons de_int (da_cons (de_sub (DE.dp (de_globC C_MOST_THINGS)) (DE.dp de_int)) da_nil))))
  (dx_if (dt_ne hr.units (dp_var 1) (DE.dp (de_sortSet B.set B.sorted (dq_cons (dp_var 1) dq_nil)))) (dx_raiseE de_str Y.m_NoText Y.ex) (dx_of dss_nil)
  (dx_of (dss_one (ds_ret (de_ty call_tuple_of cd_tuple bt_tuple B.tuple (dq_cons (dp_var 1) dq_nil)))))) sc.nd))
def b_q16 : En -> Option (Option Out) :=
 (mSqx (mAsgx 1 (mLCx (subE [none]) (mItemsx (mCallx m_q14 (mCons (mVar 0) (mCons (mK (.str ", ")) mNil)))) (gVar 0) (mCallx m_q15 (mCons (mVar 0) mNil))))
 (mSqx (mIfx (mTest (mBin dLt (mCallP dLenSetT (mConsP (mPk 1) mNilP)) (mCallP dLen (mConsP (mPk 1) mNilP)))) (mRseE (mK (.str "an effect comes twice"))) (mLf mNext))
 (mLf (mRet (mPk 1)))))
def m_q16:List PyData->Option (Option Sl):=runX 2 b_q16 1
theorem ok_q16 (B:Bl mg) (D_q14:DefX P w K mg base c_NoText 1 "parts_of" ["text","separator"] (spX K m_q14)) (D_q15:DefX P w K mg base c_NoText 4 "read_effect" ["text"] (spX K m_q15)) (Y:Xf K mg c_TrialError c_NoEffect c_NoText c_NoRow c_NoThing c_NoFit) (F:Fun K "read_model" "read_model" s_q16 f fd):FnOk P w K mg base (CXe P w c_NoText) 5 f fd ["text"] (spX K m_q16):=by
 have sc:=sc_q16
 exact fnX F sc_q16 rfl rfl fun cdv A outer s H E hr=>
  (dx_setCb (N':= ["part"]) (R':=PR K) 1 [none] (subE [none]) pr_sub sc.nd (dix_list (dex_call D_q14 pass_b hr (da_cons (de_var 0) (da_cons de_str da_nil)))) (fun _=>(dgk_name 0 (show List.Nodup (α:=Str) ["part"] by decide +kernel))) (fun _ hb=>(dex_call D_q15 (passB hb) hr (da_cons (de_var 0) da_nil)))
  (dx_if (dt_lt (DE.dp (de_lenSetT B.set B.len (dq_cons (dp_var 1) dq_nil) hr.units)) (DE.dp (de_blt call_len_seq cd_len bt_len B.len (dq_cons (dp_var 1) dq_nil)))) (dx_raiseE de_str Y.m_NoText Y.ex) (dx_of dss_nil)
  (dx_of (dss_one (ds_retV 1)))))
def b_q23 : En -> Option Out :=
 (mRet (mBin dJoin (mK (.str " ")) (mLC (subE [none]) (mItemsS (mVar 0)) (gVar 0) mYes (mCallP dStrB (mConsP (mPk 0) mNilP)))))
def m_q23:List PyData->Option Sl:=runD 1 b_q23 1
theorem ok_q23 (B:Bl mg) (F:Fun K "show_numbers" "show_numbers" s_q23 f fd):FnOk P w K mg base CX0 1 f fd ["numbers"] (spD K m_q23):=by
 have sc:=sc_q23
 exact fnD F sc_q23 rfl rfl fun cdv A outer s H E hr=>
  (dss_one (ds_ret (de_join (DE.dp de_str) (DE.dp (de_lc (N':= ["number"]) (R':=PR K) cx_scope1 cx_names1 [none] (subE [none]) pr_sub (di_seq (de_var 0)) (fun _=>(dgk_name 0 (show List.Nodup (α:=Str) ["number"] by decide +kernel))) (fun _=>dts_nil) (fun _=>(de_strB B.str (dq_cons (dp_var 0) dq_nil))))))))
def b_q19 : En -> Option Out :=
 (mRet (mIfE (mTruT (mPk 0)) (mCall m_q23 (mCons (mVar 0) mNil)) (mK (.str "mean"))))
def m_q19:List PyData->Option Sl:=runD 1 b_q19 1
theorem ok_q19 (B:Bl mg) (D_q23:Def P w K mg base 1 "show_numbers" ["numbers"] (spD K m_q23)) (F:Fun K "show_effect" "show_effect" s_q19 f fd):FnOk P w K mg base CX0 2 f fd ["effect"] (spD K m_q19):=by
 have sc:=sc_q19
 exact fnD F sc_q19 rfl rfl fun cdv A outer s H E hr=>
  (dss_one (ds_ret (de_ifE (dt_truT (dp_var 0)) (de_call D_q23 hr (da_cons (de_var 0) da_nil)) de_str)))
def b_q22 : En -> Option Out :=
 (mRet (mBin dJoin (mK (.str ", ")) (mLC (subE [none]) (mItemsS (mVar 0)) (gVar 0) mYes (mCall m_q19 (mCons (mVar 0) mNil)))))
def m_q22:List PyData->Option Sl:=runD 1 b_q22 1
theorem ok_q22 (B:Bl mg) (D_q19:Def P w K mg base 2 "show_effect" ["effect"] (spD K m_q19)) (F:Fun K "show_model" "show_model" s_q22 f fd):FnOk P w K mg base CX0 3 f fd ["model"] (spD K m_q22):=by
 have sc:=sc_q22
 exact fnD F sc_q22 rfl rfl fun cdv A outer s H E hr=>
  (dss_one (ds_ret (de_join (DE.dp de_str) (DE.dp (de_lc (N':= ["effect"]) (R':=PR K) cx_scope1 cx_names1 [none] (subE [none]) pr_sub (di_seq (de_var 0)) (fun _=>(dgk_name 0 (show List.Nodup (α:=Str) ["effect"] by decide +kernel))) (fun _=>dts_nil) (fun _=>(de_call D_q19 hr (da_cons (de_var 0) da_nil))))))))
def b_q20 : En -> Option Out :=
 (mSeq (mAsg 1 (mBin dix (mPk 0) (mK (.int 0))))
 (mSeq (mAsg 2 (mBin dix (mPk 0) (mK (.int 1))))
 (mRet (mIfE (mTest (mBin deq (mPk 2) (mK (.int 1)))) (mCallP dStrB (mConsP (mPk 1) mNilP)) (mFsB 1 2 "/")))))
def m_q20:List PyData->Option Sl:=runD 3 b_q20 1
theorem ok_q20 (B:Bl mg) (F:Fun K "show_fraction" "show_fraction" s_q20 f fd):FnOk P w K mg base CX0 1 f fd ["number"] (spD K m_q20):=by
 have sc:=sc_q20
 exact fnD F sc_q20 rfl rfl fun cdv A outer s H E hr=>
  (dss_cons (ds_set 1 (de_ix (dp_var 0) (DE.dp de_int)) sc.nd)
  (dss_cons (ds_set 2 (de_ix (dp_var 0) (DE.dp de_int)) sc.nd)
  (dss_one (ds_ret (de_ifE (dt_eq hr.units (dp_var 2) (DE.dp de_int)) (de_strB B.str (dq_cons (dp_var 1) dq_nil)) (de_fsB 1 2 True.intro True.intro))))))
def b_q21 : En -> Option Out :=
 (mRet (mBin dJoin (mK (.str " ")) (mLC (subE [none]) (mItemsS (mVar 0)) (gVar 0) mYes (mCall m_q20 (mCons (mVar 0) mNil)))))
def m_q21:List PyData->Option Sl:=runD 1 b_q21 1
theorem ok_q21 (B:Bl mg) (D_q20:Def P w K mg base 1 "show_fraction" ["number"] (spD K m_q20)) (F:Fun K "show_fractions" "show_fractions" s_q21 f fd):FnOk P w K mg base CX0 2 f fd ["numbers"] (spD K m_q21):=by
 have sc:=sc_q21
 exact fnD F sc_q21 rfl rfl fun cdv A outer s H E hr=>
  (dss_one (ds_ret (de_join (DE.dp de_str) (DE.dp (de_lc (N':= ["number"]) (R':=PR K) cx_scope1 cx_names1 [none] (subE [none]) pr_sub (di_seq (de_var 0)) (fun _=>(dgk_name 0 (show List.Nodup (α:=Str) ["number"] by decide +kernel))) (fun _=>dts_nil) (fun _=>(de_call D_q20 hr (da_cons (de_var 0) da_nil))))))))
def b_q11 : En -> Option Out :=
 (mRet (mAndV (mIsi "int" (mPk 0)) (mNotV (mIsi "bool" (mPk 0)))))
def m_q11:List PyData->Option Sl:=runD 1 b_q11 1
theorem ok_q11 (B:Bl mg) (F:Fun K "_law_whole" "_law_whole" s_q11 f fd):FnOk P w K mg base CX0 1 f fd ["_law_found"] (spD K m_q11):=by
 have sc:=sc_q11
 exact fnD F sc_q11 rfl rfl fun cdv A outer s H E hr=>
  (dss_one (ds_ret (de_and (de_isi bt_int B.int B.isinstance (dp_var 0)) (de_and1 (de_not (de_isi bt_bool B.bool B.isinstance (dp_var 0)))))))
def b_q3 : En -> Option Out :=
 (mSeq (mIf (mTest (mBin deq (mBin dMod (mPk 0) (mK (.int 2))) (mK (.int 1)))) (mRet (mBin dMod (mBin dShr (mPk 0) (mBin dAdd (mK (.int 1)) (mBin dRep (mK (.int 10)) (mPk 1)))) (mK (.int 1024)))) mNext)
 (mSeq (mAsg 2 (mBin dMod (mBin dAdd (mBin dRep (mPk 0) (mBin dAdd (mBin dRep (mK (.int 2)) (mPk 1)) (mK (.int 3)))) (mPk 1)) (mK (.int 2147483629))))
 (mSeq (mAsg 2 (mBin dMod (mBin dRep (mBin dAdd (mBin dRep (mPk 2) (mPk 2)) (mK (.int 1))) (mK (.int 48271))) (mK (.int 2147483629))))
 (mRet (mBin dMod (mBin dRep (mPk 2) (mPk 2)) (mK (.int 2147483587)))))))
def m_q3:List PyData->Option Sl:=runD 3 b_q3 2
theorem ok_q3 (B:Bl mg) (F:Fun K "_law_mix" "_law_mix" s_q3 f fd):FnOk P w K mg base CX0 1 f fd ["_law_cell","_law_j"] (spD K m_q3):=by
 have sc:=sc_q3
 exact fnD F sc_q3 rfl rfl fun cdv A outer s H E hr=>
  (dss_cons (ds_if (dt_eq hr.units (DE.dp (de_mod (dp_var 0) (DE.dp de_int))) (DE.dp de_int)) (dss_one (ds_ret (de_mod (DE.dp (de_shr (dp_var 0) (DE.dp (de_add (DE.dp de_int) (DE.dp (de_mul (DE.dp de_int) (dp_var 1))))))) (DE.dp de_int)))) dss_nil)
  (dss_cons (ds_set 2 (de_mod (DE.dp (de_add (DE.dp (de_mul (dp_var 0) (DE.dp (de_add (DE.dp (de_mul (DE.dp de_int) (dp_var 1))) (DE.dp de_int))))) (dp_var 1))) (DE.dp de_int)) sc.nd)
  (dss_cons (ds_set 2 (de_mod (DE.dp (de_mul (DE.dp (de_add (DE.dp (de_mul (dp_var 2) (dp_var 2))) (DE.dp de_int))) (DE.dp de_int))) (DE.dp de_int)) sc.nd)
  (dss_one (ds_ret (de_mod (DE.dp (de_mul (dp_var 2) (dp_var 2))) (DE.dp de_int)))))))
def b_q0 : En -> Option Out :=
 (mSeq (mWhile (mTest (mBin dne (mPk 1) (mK (.int 0)))) (mPar 0 1 (mCons (mVar 1) (mCons (mBin dMod (mPk 0) (mPk 1)) mNil))))
 (mRet (mCallP dAbs (mConsP (mPk 0) mNilP))))
def m_q0:List PyData->Option Sl:=runD 2 b_q0 2
theorem ok_q0 (B:Bl mg) (F:Fun K "_law_divisor" "_law_divisor" s_q0 f fd):FnOk P w K mg base CX0 1 f fd ["_law_one","_law_other"] (spD K m_q0):=by
 have sc:=sc_q0
 exact fnD F sc_q0 rfl rfl fun cdv A outer s H E hr=>
  (dss_cons (ds_while PassesOwn.never (dt_ne hr.units (dp_var 1) (DE.dp de_int)) (dss_one (ds_par 0 1 (da_cons (de_var 1) (da_cons (de_mod (dp_var 0) (dp_var 1)) da_nil)) sc.nd)))
  (dss_one (ds_ret (de_blt call_abs cd_abs bt_abs B.abs (dq_cons (dp_var 0) dq_nil)))))
def b_q4 : En -> Option Out :=
 (mSeq (mAsg 1 (mLst mNil))
 (mSeq (mFor (mRng1 (mConsP (mBin dAdd (mK (.int 1)) (mBin dMod (mCall m_q3 (mCons (mVar 0) (mCons (mK (.int 1)) mNil))) (mK (.int 6)))) mNilP)) (gVar 2) (mSeq (mAsg 3 (mBin dMod (mCall m_q3 (mCons (mVar 0) (mCons (mBin dAdd (mK (.int 2)) (mPk 2)) mNil))) (mK (.int 64))))
 (mSeq (mAsg 4 (mCallP dTuple (mConsP (mSl (mLC (subE [some 3,none]) (mRng1 (mConsP (mK (.int 6)) mNilP)) (gVar 1) (mTest (mBin deq (mBin dMod (mBin dShr (mPk 0) (mPk 1)) (mK (.int 2))) (mK (.int 1)))) (mVar 1)) mNoPart (mPart (mBin dMod (mCall m_q3 (mCons (mVar 0) (mCons (mBin dAdd (mK (.int 10)) (mPk 2)) mNil))) (mK (.int 5))))) mNilP)))
 (mIf (mTest (mBin (dInD true) (mPk 4) (mPk 1))) (mFrz 4 (mApp 1 (mVar 4))) mNext))))
 (mRet (mPk 1))))
def m_q4:List PyData->Option Sl:=runD 5 b_q4 1
theorem ok_q4 (B:Bl mg) (D_q3:Def P w K mg base 1 "_law_mix" ["_law_cell","_law_j"] (spD K m_q3)) (F:Fun K "_law_model" "_law_model" s_q4 f fd):FnOk P w K mg base CX0 2 f fd ["_law_cell"] (spD K m_q4):=by
 have sc:=sc_q4
 exact fnD F sc_q4 rfl rfl fun cdv A outer s H E hr=>
  (dss_cons (ds_set 1 (de_lst da_nil) sc.nd)
  (dss_cons (ds_for PassesOwn.never (di_range1 B.range (dq_cons (DE.dp (de_add (DE.dp de_int) (DE.dp (de_mod (DE.dp (de_call D_q3 hr (da_cons (de_var 0) (da_cons de_int da_nil)))) (DE.dp de_int))))) dq_nil)) (dg_name 2 sc.nd) (dss_cons (ds_set 3 (de_mod (DE.dp (de_call D_q3 hr (da_cons (de_var 0) (da_cons (de_add (DE.dp de_int) (dp_var 2)) da_nil)))) (DE.dp de_int)) sc.nd)
  (dss_cons (ds_set 4 (de_ty call_tuple_of cd_tuple bt_tuple B.tuple (dq_cons (DE.dp (de_sl (DE.dp (de_lc (N':= ["_law_mask","_law_j"]) (R':=PR K) cx_scope1 cx_names1 [some 3,none] (subE [some 3,none]) pr_sub (di_range1 B.range (dq_cons (DE.dp de_int) dq_nil)) (fun _=>(dgk_name 1 (show List.Nodup (α:=Str) ["_law_mask","_law_j"] by decide +kernel))) (fun _=>(dts_one (dt_eq hr.units (DE.dp (de_mod (DE.dp (de_shr (dp_var 0) (dp_var 1))) (DE.dp de_int))) (DE.dp de_int)))) (fun _=>(de_var 1)))) do_none (do_some (DE.dp (de_mod (DE.dp (de_call D_q3 hr (da_cons (de_var 0) (da_cons (de_add (DE.dp de_int) (dp_var 2)) da_nil)))) (DE.dp de_int)))))) dq_nil)) sc.nd)
  (dss_one (ds_if (dt_notinD hr.units (dp_var 4) (dp_var 1)) (dss_one (ds_frz 4 (ds_app 1 (de_var 4)))) dss_nil)))))
  (dss_one (ds_retV 1))))
def b_q9 : En -> Option Out :=
 (mSeq (mAsg 1 (mLst mNil))
 (mSeq (mFor (mItemsS (mVar 0)) (gVar 2) (mSeq (mAsg 3 (mBin dJoin (mK (.str " ")) (mLC (subE [none]) (mItemsS (mVar 2)) (gVar 0) mYes (mCallP dStrB (mConsP (mPk 0) mNilP)))))
 (mSeq (mIf (mTest (mBin deq (mPk 2) (mTup mNil))) (mAsg 3 (mK (.str "mean"))) mNext)
 (mFrz 3 (mApp 1 (mVar 3))))))
 (mRet (mBin dJoin (mK (.str ", ")) (mPk 1)))))
def m_q9:List PyData->Option Sl:=runD 4 b_q9 1
theorem ok_q9 (B:Bl mg) (F:Fun K "_law_text" "_law_text" s_q9 f fd):FnOk P w K mg base CX0 1 f fd ["_law_model_here"] (spD K m_q9):=by
 have sc:=sc_q9
 exact fnD F sc_q9 rfl rfl fun cdv A outer s H E hr=>
  (dss_cons (ds_set 1 (de_lst da_nil) sc.nd)
  (dss_cons (ds_for PassesOwn.never (di_seq (de_var 0)) (dg_name 2 sc.nd) (dss_cons (ds_set 3 (de_join (DE.dp de_str) (DE.dp (de_lc (N':= ["_law_thing"]) (R':=PR K) cx_scope1 cx_names1 [none] (subE [none]) pr_sub (di_seq (de_var 2)) (fun _=>(dgk_name 0 (show List.Nodup (α:=Str) ["_law_thing"] by decide +kernel))) (fun _=>dts_nil) (fun _=>(de_strB B.str (dq_cons (dp_var 0) dq_nil)))))) sc.nd)
  (dss_cons (ds_if (dt_eq hr.units (dp_var 2) (DE.dp (de_tup da_nil))) (dss_one (ds_set 3 de_str sc.nd)) dss_nil)
  (dss_one (ds_frz 3 (ds_app 1 (de_var 3)))))))
  (dss_one (ds_ret (de_join (DE.dp de_str) (dp_var 1))))))
def b_q5 : En -> Option Out :=
 (mSeq (mAsg 1 (mLst (mCons (mK (.str "")) (mCons (mK (.str " ")) (mCons (mK (.str ",")) (mCons (mK (.str ", ")) (mCons (mK (.str "mean,")) (mCons (mK (.str "mean, ")) (mCons (mK (.str "mean,0")) (mCons (mK (.str "mean , 0")) (mCons (mK (.str " mean")) (mCons (mK (.str "mean ")) (mCons (mK (.str "Mean")) (mCons (mK (.str "mean 0")) mNil))))))))))))))
 (mSeq (mAsg 1 (mBin dAdd (mPk 1) (mLst (mCons (mK (.str "0 mean")) (mCons (mK (.str "6")) (mCons (mK (.str "0 0")) (mCons (mK (.str "1 0")) (mCons (mK (.str "01")) (mCons (mK (.str "-1")) (mCons (mK (.str "0\x20\x201")) (mCons (mK (.str "mean, mean")) (mCons (mK (.str "0 1, 0 1")) (mCons (mK (.str "0\n")) (mCons (mK .none) (mCons (mLst (mCons (mTup mNil) mNil)) mNil)))))))))))))))
 (mRet (mBin dix (mPk 1) (mBin dMod (mCall m_q3 (mCons (mVar 0) (mCons (mK (.int 30)) mNil))) (mK (.int 24)))))))
def m_q5:List PyData->Option Sl:=runD 2 b_q5 1
theorem ok_q5 (B:Bl mg) (D_q3:Def P w K mg base 1 "_law_mix" ["_law_cell","_law_j"] (spD K m_q3)) (F:Fun K "_law_odd" "_law_odd" s_q5 f fd):FnOk P w K mg base CX0 2 f fd ["_law_cell"] (spD K m_q5):=by
 have sc:=sc_q5
 exact fnD F sc_q5 rfl rfl fun cdv A outer s H E hr=>
  (dss_cons (ds_set 1 (de_lst (da_cons de_str (da_cons de_str (da_cons de_str (da_cons de_str (da_cons de_str (da_cons de_str (da_cons de_str (da_cons de_str (da_cons de_str (da_cons de_str (da_cons de_str (da_cons de_str da_nil))))))))))))) sc.nd)
  (dss_cons (ds_set 1 (de_add (dp_var 1) (DE.dp (de_lst (da_cons de_str (da_cons de_str (da_cons de_str (da_cons de_str (da_cons de_str (da_cons de_str (da_cons de_str (da_cons de_str (da_cons de_str (da_cons de_str (da_cons de_none (da_cons (de_lst (da_cons (de_tup da_nil) da_nil)) da_nil))))))))))))))) sc.nd)
  (dss_one (ds_ret (de_ix (dp_var 1) (DE.dp (de_mod (DE.dp (de_call D_q3 hr (da_cons (de_var 0) (da_cons de_int da_nil)))) (DE.dp de_int))))))))
def b_q8 : En -> Option Out :=
 (mSeq (mAsg 2 (mK (.str "\x20\x20\x20,,01234567mean-+\n\t")))
 (mSeq (mAsg 3 (mBin dMod (mCall m_q3 (mCons (mVar 1) (mCons (mK (.int 31)) mNil))) (mK (.int 8))))
 (mSeq (mAsg 4 (mBin dMod (mCall m_q3 (mCons (mVar 1) (mCons (mK (.int 32)) mNil))) (mBin dAdd (mCallP dLenX (mConsP (mPk 0) mNilP)) (mK (.int 1)))))
 (mSeq (mAsg 5 (mBin dIxX (mPk 2) (mBin dMod (mCall m_q3 (mCons (mVar 1) (mCons (mK (.int 33)) mNil))) (mCallP dLenX (mConsP (mPk 2) mNilP)))))
 (mSeq (mIf (mTest (mBin deq (mPk 3) (mK (.int 0)))) (mRet (mBin dAddX (mBin dAddX (mSlX (mPk 0) mNoPart (mPart (mPk 4))) (mPk 5)) (mSlX (mPk 0) (mPart (mPk 4)) mNoPart))) mNext)
 (mSeq (mIf (mTest (mBin deq (mPk 3) (mK (.int 1)))) (mRet (mBin dAddX (mSlX (mPk 0) mNoPart (mPart (mPk 4))) (mSlX (mPk 0) (mPart (mBin dAdd (mPk 4) (mK (.int 1)))) mNoPart))) mNext)
 (mSeq (mIf (mTest (mBin dLt (mPk 3) (mK (.int 5)))) (mRet (mBin dAddX (mBin dAddX (mSlX (mPk 0) mNoPart (mPart (mPk 4))) (mPk 5)) (mSlX (mPk 0) (mPart (mBin dAdd (mPk 4) (mK (.int 1)))) mNoPart))) mNext)
 (mSeq (mIf (mTest (mBin deq (mPk 3) (mK (.int 5)))) (mRet (mCall m_q5 (mCons (mVar 1) mNil))) mNext)
 (mSeq (mIf (mTest (mBin deq (mPk 3) (mK (.int 6)))) (mRet (mBin dAddX (mBin dAddX (mPk 0) (mK (.str ", "))) (mBin dix (mBin dSplit (mPk 0) (mK (.str ", "))) (mBin dMod (mCall m_q3 (mCons (mVar 1) (mCons (mK (.int 34)) mNil))) (mCallP dLen (mConsP (mBin dSplit (mPk 0) (mK (.str ", "))) mNilP)))))) mNext)
 (mRet (mPk 0)))))))))))
def m_q8:List PyData->Option Sl:=runD 6 b_q8 2
theorem ok_q8 (B:Bl mg) (D_q3:Def P w K mg base 1 "_law_mix" ["_law_cell","_law_j"] (spD K m_q3)) (D_q5:Def P w K mg base 2 "_law_odd" ["_law_cell"] (spD K m_q5)) (F:Fun K "_law_spoiled" "_law_spoiled" s_q8 f fd):FnOk P w K mg base CX0 3 f fd ["_law_text_here","_law_cell"] (spD K m_q8):=by
 have sc:=sc_q8
 exact fnD F sc_q8 rfl rfl fun cdv A outer s H E hr=>
  (dss_cons (ds_set 2 de_str sc.nd)
  (dss_cons (ds_set 3 (de_mod (DE.dp (de_call D_q3 hr (da_cons (de_var 1) (da_cons de_int da_nil)))) (DE.dp de_int)) sc.nd)
  (dss_cons (ds_set 4 (de_mod (DE.dp (de_call D_q3 hr (da_cons (de_var 1) (da_cons de_int da_nil)))) (DE.dp (de_add (DE.dp (de_lenX B.len (dq_cons (dp_var 0) dq_nil))) (DE.dp de_int)))) sc.nd)
  (dss_cons (ds_set 5 (de_ixX (dp_var 2) (DE.dp (de_mod (DE.dp (de_call D_q3 hr (da_cons (de_var 1) (da_cons de_int da_nil)))) (DE.dp (de_lenX B.len (dq_cons (dp_var 2) dq_nil)))))) sc.nd)
  (dss_cons (ds_if (dt_eq hr.units (dp_var 3) (DE.dp de_int)) (dss_one (ds_ret (de_addX (DE.dp (de_addX (DE.dp (de_slX (dp_var 0) do_none (do_some (dp_var 4)))) (dp_var 5))) (DE.dp (de_slX (dp_var 0) (do_some (dp_var 4)) do_none))))) dss_nil)
  (dss_cons (ds_if (dt_eq hr.units (dp_var 3) (DE.dp de_int)) (dss_one (ds_ret (de_addX (DE.dp (de_slX (dp_var 0) do_none (do_some (dp_var 4)))) (DE.dp (de_slX (dp_var 0) (do_some (DE.dp (de_add (dp_var 4) (DE.dp de_int)))) do_none))))) dss_nil)
  (dss_cons (ds_if (dt_lt (dp_var 3) (DE.dp de_int)) (dss_one (ds_ret (de_addX (DE.dp (de_addX (DE.dp (de_slX (dp_var 0) do_none (do_some (dp_var 4)))) (dp_var 5))) (DE.dp (de_slX (dp_var 0) (do_some (DE.dp (de_add (dp_var 4) (DE.dp de_int)))) do_none))))) dss_nil)
  (dss_cons (ds_if (dt_eq hr.units (dp_var 3) (DE.dp de_int)) (dss_one (ds_ret (de_call D_q5 hr (da_cons (de_var 1) da_nil)))) dss_nil)
  (dss_cons (ds_if (dt_eq hr.units (dp_var 3) (DE.dp de_int)) (dss_one (ds_ret (de_addX (DE.dp (de_addX (dp_var 0) (DE.dp de_str))) (DE.dp (de_ix (DE.dp (de_split (dp_var 0) (DE.dp de_str))) (DE.dp (de_mod (DE.dp (de_call D_q3 hr (da_cons (de_var 1) (da_cons de_int da_nil)))) (DE.dp (de_blt call_len_seq cd_len bt_len B.len (dq_cons (DE.dp (de_split (dp_var 0) (DE.dp de_str))) dq_nil)))))))))) dss_nil)
  (dss_one (ds_retV 0)))))))))))
def b_q10 : En -> Option Out :=
 (mSeq (mIf (mNot (mTest (mIsi "str" (mPk 0)))) (mRet (mK .none)) mNext)
 (mSeq (mAsg 1 (mLst mNil))
 (mSeq (mFor (mItemsS (mBin dSplit (mPk 0) (mK (.str ", ")))) (gVar 2) (mSeq (mAsg 3 (mTup mNil))
 (mSeq (mIf (mTest (mBin dne (mPk 2) (mK (.str "mean")))) (mFor (mItemsS (mBin dSplit (mPk 2) (mK (.str " ")))) (gVar 4) (mSeq (mIf (mTest (mBin (dInD true) (mPk 4) (mTup (mCons (mK (.str "0")) (mCons (mK (.str "1")) (mCons (mK (.str "2")) (mCons (mK (.str "3")) (mCons (mK (.str "4")) (mCons (mK (.str "5")) mNil))))))))) (mRet (mK .none)) mNext)
 (mSeq (mIf (mAnd (mTest (mBin dne (mPk 3) (mTup mNil))) (mTest (mBin dGe (mBin dix (mPk 3) (mBin dSub (mCallP dLen (mConsP (mPk 3) mNilP)) (mK (.int 1)))) (mCallP dIntS (mConsP (mPk 4) mNilP))))) (mRet (mK .none)) mNext)
 (mAsg 3 (mBin dAdd (mPk 3) (mTup (mCons (mCallP dIntS (mConsP (mPk 4) mNilP)) mNil))))))) mNext)
 (mSeq (mIf (mTest (mBin (dInD false) (mPk 3) (mPk 1))) (mRet (mK .none)) mNext)
 (mFrz 3 (mApp 1 (mVar 3)))))))
 (mRet (mPk 1)))))
def m_q10:List PyData->Option Sl:=runD 5 b_q10 1
theorem ok_q10 (B:Bl mg) (F:Fun K "_law_told" "_law_told" s_q10 f fd):FnOk P w K mg base CX0 1 f fd ["_law_text_here"] (spD K m_q10):=by
 have sc:=sc_q10
 exact fnD F sc_q10 rfl rfl fun cdv A outer s H E hr=>
  (dss_cons (ds_if (dt_not (dt_val (DE.dp (de_isi bt_str B.str B.isinstance (dp_var 0))))) (dss_one (ds_ret de_none)) dss_nil)
  (dss_cons (ds_set 1 (de_lst da_nil) sc.nd)
  (dss_cons (ds_for PassesOwn.never (di_seq (de_split (dp_var 0) (DE.dp de_str))) (dg_name 2 sc.nd) (dss_cons (ds_set 3 (de_tup da_nil) sc.nd)
  (dss_cons (ds_if (dt_ne hr.units (dp_var 2) (DE.dp de_str)) (dss_one (ds_for PassesOwn.never (di_seq (de_split (dp_var 2) (DE.dp de_str))) (dg_name 4 sc.nd) (dss_cons (ds_if (dt_notinD hr.units (dp_var 4) (DE.dp (de_tup (da_cons de_str (da_cons de_str (da_cons de_str (da_cons de_str (da_cons de_str (da_cons de_str da_nil))))))))) (dss_one (ds_ret de_none)) dss_nil)
  (dss_cons (ds_if (dt_w (dw_and (dt_ne hr.units (dp_var 3) (DE.dp (de_tup da_nil))) (dw_and1 (dt_ge (DE.dp (de_ix (dp_var 3) (DE.dp (de_sub (DE.dp (de_blt call_len_seq cd_len bt_len B.len (dq_cons (dp_var 3) dq_nil))) (DE.dp de_int))))) (DE.dp (de_intS B.int (dq_cons (dp_var 4) dq_nil))))))) (dss_one (ds_ret de_none)) dss_nil)
  (dss_one (ds_set 3 (de_add (dp_var 3) (DE.dp (de_tup (da_cons (de_intS B.int (dq_cons (dp_var 4) dq_nil)) da_nil)))) sc.nd)))))) dss_nil)
  (dss_cons (ds_if (dt_inD hr.units (dp_var 3) (dp_var 1)) (dss_one (ds_ret de_none)) dss_nil)
  (dss_one (ds_frz 3 (ds_app 1 (de_var 3))))))))
  (dss_one (ds_retV 1)))))
def b_q2 : En -> Option Out :=
 (mSeq (mIf (mOr (mNot (mTest (mIsi "list" (mPk 0)))) (mTest (mBin dne (mPk 0) (mPk 1)))) (mRet (mK (.bool false))) mNext)
 (mSeq (mFor (mItemsS (mVar 0)) (gVar 2) (mIf (mOr (mNot (mTest (mIsi "tuple" (mPk 2)))) (mTest (mBin dne (mLC (subE [none]) (mItemsS (mVar 2)) (gVar 0) (mNot (mTest (mCall m_q11 (mCons (mVar 0) mNil)))) (mVar 0)) (mLst mNil)))) (mRet (mK (.bool false))) mNext))
 (mRet (mK (.bool true)))))
def m_q2:List PyData->Option Sl:=runD 3 b_q2 2
theorem ok_q2 (B:Bl mg) (D_q11:Def P w K mg base 1 "_law_whole" ["_law_found"] (spD K m_q11)) (F:Fun K "_law_is_model" "_law_is_model" s_q2 f fd):FnOk P w K mg base CX0 2 f fd ["_law_found","_law_due"] (spD K m_q2):=by
 have sc:=sc_q2
 exact fnD F sc_q2 rfl rfl fun cdv A outer s H E hr=>
  (dss_cons (ds_if (dt_w (dw_or (dt_not (dt_val (DE.dp (de_isi bt_list B.list B.isinstance (dp_var 0))))) (dw_or1 (dt_ne hr.units (dp_var 0) (dp_var 1))))) (dss_one (ds_ret de_bool)) dss_nil)
  (dss_cons (ds_for PassesOwn.never (di_seq (de_var 0)) (dg_name 2 sc.nd) (dss_one (ds_if (dt_w (dw_or (dt_not (dt_val (DE.dp (de_isi bt_tuple B.tuple B.isinstance (dp_var 2))))) (dw_or1 (dt_ne hr.units (DE.dp (de_lc (N':= ["_law_thing"]) (R':=PR K) cx_scope1 cx_names1 [none] (subE [none]) pr_sub (di_seq (de_var 2)) (fun _=>(dgk_name 0 (show List.Nodup (α:=Str) ["_law_thing"] by decide +kernel))) (fun _=>(dts_one (dt_not (dt_val (DE.dp (de_call D_q11 hr (da_cons (de_var 0) da_nil))))))) (fun _=>(de_var 0)))) (DE.dp (de_lst da_nil)))))) (dss_one (ds_ret de_bool)) dss_nil)))
  (dss_one (ds_ret de_bool))))
def b_q6 : En -> Option Out :=
 (mSeq (mAsg 1 (mCall m_q10 (mCons (mVar 0) mNil)))
 (mSeq (mXN 2)
 (mSeq (mAsg 3 (mK .none))
 (mSeq (mTry 3 2 4 m_q16 (mCons (mVar 0) mNil))
 (mSeq (mIf (mTest (mBin disNN (mPk 1) (mK .none))) (mFrz 3 (mFrz 1 (mRet (mAndV (mXis 2) (mCall m_q2 (mCons (mVar 3) (mCons (mVar 1) mNil))))))) mNext)
 (mSeq (mIf (mTest (mXi 2 false)) (mRet (mK (.bool false))) mNext)
 (mRet (mAndV (mXi 2 true) (mXi 2 true)))))))))
def m_q6:List PyData->Option Sl:=runD 5 b_q6 1
theorem ok_q6 (B:Bl mg) (D_q10:Def P w K mg base 1 "_law_told" ["_law_text_here"] (spD K m_q10)) (D_q16:DefX P w K mg base c_NoText 5 "read_model" ["text"] (spX K m_q16)) (D_q2:Def P w K mg base 2 "_law_is_model" ["_law_found","_law_due"] (spD K m_q2)) (Y:Xf K mg c_TrialError c_NoEffect c_NoText c_NoRow c_NoThing c_NoFit) (F:Fun K "_law_right" "_law_right" s_q6 f fd):FnOk P w K mg base CX0 6 f fd ["_law_text_here"] (spD K m_q6):=by
 have sc:=sc_q6
 exact fnDX (C:=c_NoText) 2 F sc_q6 rfl rfl fun cdv A outer s H E hr=>
  (dss_cons (ds_set 1 (de_call D_q10 hr (da_cons (de_var 0) da_nil)) sc.nd)
  (dss_cons (ds_xn 2 sc.nd)
  (dss_cons (ds_set 3 de_none sc.nd)
  (dss_cons (ds_try 3 2 4 D_q16 hr (da_cons (de_var 0) da_nil) Y.m_TrialError Y.em sc.nd)
  (dss_cons (ds_if (dt_isNN (dp_var 1) (DE.dp de_none)) (dss_one (ds_frz 3 (ds_frz 1 (ds_ret (de_and (de_xis 2) (de_and1 (de_call D_q2 hr (da_cons (de_var 3) (da_cons (de_var 1) da_nil))))))))) dss_nil)
  (dss_cons (ds_if (dt_val (DE.dp (de_xiT 2 Y.xc B.isinstance (dxs_cons Y.m_NoEffect (dxs_cons Y.m_NoRow (dxs_cons Y.m_NoThing (dxs_cons Y.m_NoFit dxs_nil)))) (kany_f Y.k_NoEffect (kany_f Y.k_NoRow (kany_f Y.k_NoThing (kany_f Y.k_NoFit kany_nil))))))) (dss_one (ds_ret de_bool)) dss_nil)
  (dss_one (ds_ret (de_and (de_xi 2 Y.xc B.isinstance Y.m_NoText Y.k_NoText) (de_and1 (de_xb 2 Y.xc B.isinstance B.ValueError rfl Y.kb_ValueError)))))))))))
def b_q1 : En -> Option Out :=
 (mSeq (mAsg 1 (mBin dSub (mBin dMod (mCall m_q3 (mCons (mVar 0) (mCons (mK (.int 40)) mNil))) (mK (.int 13))) (mK (.int 6))))
 (mSeq (mIf (mTest (mBin deq (mBin dMod (mCall m_q3 (mCons (mVar 0) (mCons (mK (.int 41)) mNil))) (mK (.int 3))) (mK (.int 0)))) (mAsg 1 (mBin dSub (mBin dMod (mBin dSub (mBin dAdd (mPk 0) (mBin dPow (mK (.int 10)) (mK (.int 40)))) (mK (.int 1))) (mBin dSub (mBin dRep (mK (.int 2)) (mBin dPow (mK (.int 10)) (mK (.int 40)))) (mK (.int 1)))) (mBin dSub (mBin dPow (mK (.int 10)) (mK (.int 40))) (mK (.int 1))))) mNext)
 (mSeq (mAsg 2 (mBin dAdd (mK (.int 1)) (mBin dMod (mCall m_q3 (mCons (mVar 0) (mCons (mK (.int 42)) mNil))) (mK (.int 6)))))
 (mSeq (mIf (mTest (mBin deq (mBin dMod (mCall m_q3 (mCons (mVar 0) (mCons (mK (.int 43)) mNil))) (mK (.int 4))) (mK (.int 0)))) (mAsg 2 (mBin dAdd (mK (.int 1)) (mBin dMod (mBin dAdd (mBin dRep (mPk 0) (mPk 0)) (mK (.int 5))) (mBin dSub (mBin dPow (mK (.int 10)) (mK (.int 40))) (mK (.int 1)))))) mNext)
 (mSeq (mFrz 1 (mFrz 2 (mAsg 3 (mCall m_q0 (mCons (mVar 1) (mCons (mVar 2) mNil))))))
 (mRet (mTup (mCons (mBin dFdiv (mPk 1) (mPk 3)) (mCons (mBin dFdiv (mPk 2) (mPk 3)) mNil)))))))))
def m_q1:List PyData->Option Sl:=runD 4 b_q1 1
theorem ok_q1 (B:Bl mg) (D_q3:Def P w K mg base 1 "_law_mix" ["_law_cell","_law_j"] (spD K m_q3)) (D_q0:Def P w K mg base 1 "_law_divisor" ["_law_one","_law_other"] (spD K m_q0)) (F:Fun K "_law_fraction" "_law_fraction" s_q1 f fd):FnOk P w K mg base CX0 2 f fd ["_law_cell"] (spD K m_q1):=by
 have sc:=sc_q1
 exact fnD F sc_q1 rfl rfl fun cdv A outer s H E hr=>
  (dss_cons (ds_set 1 (de_sub (DE.dp (de_mod (DE.dp (de_call D_q3 hr (da_cons (de_var 0) (da_cons de_int da_nil)))) (DE.dp de_int))) (DE.dp de_int)) sc.nd)
  (dss_cons (ds_if (dt_eq hr.units (DE.dp (de_mod (DE.dp (de_call D_q3 hr (da_cons (de_var 0) (da_cons de_int da_nil)))) (DE.dp de_int))) (DE.dp de_int)) (dss_one (ds_set 1 (de_sub (DE.dp (de_mod (DE.dp (de_sub (DE.dp (de_add (dp_var 0) (DE.dp (de_pow (DE.dp de_int) (DE.dp de_int))))) (DE.dp de_int))) (DE.dp (de_sub (DE.dp (de_mul (DE.dp de_int) (DE.dp (de_pow (DE.dp de_int) (DE.dp de_int))))) (DE.dp de_int))))) (DE.dp (de_sub (DE.dp (de_pow (DE.dp de_int) (DE.dp de_int))) (DE.dp de_int)))) sc.nd)) dss_nil)
  (dss_cons (ds_set 2 (de_add (DE.dp de_int) (DE.dp (de_mod (DE.dp (de_call D_q3 hr (da_cons (de_var 0) (da_cons de_int da_nil)))) (DE.dp de_int)))) sc.nd)
  (dss_cons (ds_if (dt_eq hr.units (DE.dp (de_mod (DE.dp (de_call D_q3 hr (da_cons (de_var 0) (da_cons de_int da_nil)))) (DE.dp de_int))) (DE.dp de_int)) (dss_one (ds_set 2 (de_add (DE.dp de_int) (DE.dp (de_mod (DE.dp (de_add (DE.dp (de_mul (dp_var 0) (dp_var 0))) (DE.dp de_int))) (DE.dp (de_sub (DE.dp (de_pow (DE.dp de_int) (DE.dp de_int))) (DE.dp de_int)))))) sc.nd)) dss_nil)
  (dss_cons (ds_frz 1 (ds_frz 2 (ds_set 3 (de_call D_q0 hr (da_cons (de_var 1) (da_cons (de_var 2) da_nil))) sc.nd)))
  (dss_one (ds_ret (de_tup (da_cons (de_fdiv (dp_var 1) (dp_var 3)) (da_cons (de_fdiv (dp_var 2) (dp_var 3)) da_nil))))))))))
def b_q7 : En -> Option Out :=
 (mSeq (mAsg 1 (mLst mNil))
 (mSeq (mFor (mItemsS (mVar 0)) (gTupD [(gVar 2),(gVar 3)]) (mSeq (mAsg 4 (mCallP dStrB (mConsP (mPk 2) mNilP)))
 (mSeq (mIf (mTest (mBin dne (mPk 3) (mK (.int 1)))) (mAsg 4 (mBin dAddX (mBin dAddX (mPk 4) (mK (.str "/"))) (mCallP dStrB (mConsP (mPk 3) mNilP)))) mNext)
 (mFrz 4 (mApp 1 (mVar 4))))))
 (mRet (mBin dJoin (mK (.str " ")) (mPk 1)))))
def m_q7:List PyData->Option Sl:=runD 5 b_q7 1
theorem ok_q7 (B:Bl mg) (F:Fun K "_law_shown" "_law_shown" s_q7 f fd):FnOk P w K mg base CX0 1 f fd ["_law_numbers"] (spD K m_q7):=by
 have sc:=sc_q7
 exact fnD F sc_q7 rfl rfl fun cdv A outer s H E hr=>
  (dss_cons (ds_set 1 (de_lst da_nil) sc.nd)
  (dss_cons (ds_for PassesOwn.never (di_seq (de_var 0)) (dg_tup (dgs_cons (dg_name 2 sc.nd) (dgs_cons (dg_name 3 sc.nd) dgs_nil))) (dss_cons (ds_set 4 (de_strB B.str (dq_cons (dp_var 2) dq_nil)) sc.nd)
  (dss_cons (ds_if (dt_ne hr.units (dp_var 3) (DE.dp de_int)) (dss_one (ds_set 4 (de_addX (DE.dp (de_addX (dp_var 4) (DE.dp de_str))) (DE.dp (de_strB B.str (dq_cons (dp_var 3) dq_nil)))) sc.nd)) dss_nil)
  (dss_one (ds_frz 4 (ds_app 1 (de_var 4)))))))
  (dss_one (ds_ret (de_join (DE.dp de_str) (dp_var 1))))))
def b_law : En -> Option Out :=
 (mSeq (mAsg 1 (mBin dAdd (mSl (mPk 0) mNoPart (mPart (mK (.int 63)))) (mLst (mCons (mK (.int 0)) mNil))))
 (mSeq (mFrz 1 (mFor (mItemsS (mVar 1)) (gVar 2) (mSeq (mAsg 6 (mCall m_q4 (mCons (mVar 2) mNil)))
 (mSeq (mFrz 6 (mAsg 7 (mCall m_q9 (mCons (mVar 6) mNil))))
 (mSeq (mFrz 6 (mAsg 5 (mCall m_q22 (mCons (mVar 6) mNil))))
 (mSeq (mIf (mOr (mNot (mTest (mIsi "str" (mPk 5)))) (mOr (mTest (mBin dne (mPk 5) (mPk 7))) (mTest (mBin dne (mPk 6) (mCall m_q4 (mCons (mVar 2) mNil)))))) (mRet (mK (.bool false))) mNext)
 (mFrz 7 (mFrz 5 (mIf (mOr (mNot (mTest (mCall m_q6 (mCons (mVar 5) mNil)))) (mNot (mTest (mCall m_q6 (mCons (mCall m_q8 (mCons (mVar 7) (mCons (mVar 2) mNil))) mNil))))) (mRet (mK (.bool false))) mNext)))))))))
 (mSeq (mAsg 3 (mLC (subE [none]) (mItemsS (mSl (mPk 0) mNoPart (mPart (mK (.int 63))))) (gVar 0) mYes (mCall m_q1 (mCons (mVar 0) mNil))))
 (mSeq (mAsg 4 (mCallP dList (mConsP (mPk 3) mNilP)))
 (mSeq (mFrz 3 (mAsg 5 (mCall m_q21 (mCons (mVar 3) mNil))))
 (mFrz 4 (mRet (mAndV (mIsi "str" (mPk 5)) (mAndV (mBin deq (mPk 5) (mCall m_q7 (mCons (mVar 4) mNil))) (mAndV (mBin deq (mPk 3) (mPk 4)) (mBin deq (mCall m_q21 (mCons (mLst mNil) mNil)) (mK (.str "")))))))))))))
def m_law:List PyData->Option Sl:=runD 8 b_law 1
theorem ok_law (B:Bl mg) (D_q4:Def P w K mg base 2 "_law_model" ["_law_cell"] (spD K m_q4)) (D_q9:Def P w K mg base 1 "_law_text" ["_law_model_here"] (spD K m_q9)) (D_q22:Def P w K mg base 3 "show_model" ["model"] (spD K m_q22)) (D_q6:Def P w K mg base 6 "_law_right" ["_law_text_here"] (spD K m_q6)) (D_q8:Def P w K mg base 3 "_law_spoiled" ["_law_text_here","_law_cell"] (spD K m_q8)) (D_q1:Def P w K mg base 2 "_law_fraction" ["_law_cell"] (spD K m_q1)) (D_q21:Def P w K mg base 2 "show_fractions" ["numbers"] (spD K m_q21)) (D_q7:Def P w K mg base 1 "_law_shown" ["_law_numbers"] (spD K m_q7)) (F:Fun K "law" "law" s_law f fd):FnOk P w K mg base CX0 7 f fd ["_law_script"] (spD K m_law):=by
 have sc:=sc_law
 exact fnD F sc_law rfl rfl fun cdv A outer s H E hr=>
  (dss_cons (ds_set 1 (de_add (DE.dp (de_sl (dp_var 0) do_none (do_some (DE.dp de_int)))) (DE.dp (de_lst (da_cons de_int da_nil)))) sc.nd)
  (dss_cons (ds_frz 1 (ds_for PassesOwn.never (di_seq (de_var 1)) (dg_name 2 sc.nd) (dss_cons (ds_set 6 (de_call D_q4 hr (da_cons (de_var 2) da_nil)) sc.nd)
  (dss_cons (ds_frz 6 (ds_set 7 (de_call D_q9 hr (da_cons (de_var 6) da_nil)) sc.nd))
  (dss_cons (ds_frz 6 (ds_set 5 (de_call D_q22 hr (da_cons (de_var 6) da_nil)) sc.nd))
  (dss_cons (ds_if (dt_w (dw_or (dt_not (dt_val (DE.dp (de_isi bt_str B.str B.isinstance (dp_var 5))))) (dw_or (dt_ne hr.units (dp_var 5) (dp_var 7)) (dw_or1 (dt_ne hr.units (dp_var 6) (DE.dp (de_call D_q4 hr (da_cons (de_var 2) da_nil)))))))) (dss_one (ds_ret de_bool)) dss_nil)
  (dss_one (ds_frz 7 (ds_frz 5 (ds_if (dt_w (dw_or (dt_not (dt_val (DE.dp (de_call D_q6 hr (da_cons (de_var 5) da_nil))))) (dw_or1 (dt_not (dt_val (DE.dp (de_call D_q6 hr (da_cons (de_call D_q8 hr (da_cons (de_var 7) (da_cons (de_var 2) da_nil))) da_nil)))))))) (dss_one (ds_ret de_bool)) dss_nil))))))))))
  (dss_cons (ds_setC (N':= ["_law_cell"]) (R':=PR K) cx_scope1 cx_names1 3 [none] (subE [none]) pr_sub sc.nd (di_seq (de_sl (dp_var 0) do_none (do_some (DE.dp de_int)))) (fun _=>(dgk_name 0 (show List.Nodup (α:=Str) ["_law_cell"] by decide +kernel))) (fun _=>dts_nil) (fun _=>(de_call D_q1 hr (da_cons (de_var 0) da_nil))))
  (dss_cons (ds_set 4 (de_ty call_list_of cd_list bt_list B.list (dq_cons (dp_var 3) dq_nil)) sc.nd)
  (dss_cons (ds_frz 3 (ds_set 5 (de_call D_q21 hr (da_cons (de_var 3) da_nil)) sc.nd))
  (dss_one (ds_frz 4 (ds_ret (de_and (de_isi bt_str B.str B.isinstance (dp_var 5)) (de_and (de_eq hr.units (dp_var 5) (DE.dp (de_call D_q7 hr (da_cons (de_var 4) da_nil)))) (de_and (de_eq hr.units (dp_var 3) (dp_var 4)) (de_and1 (de_eq hr.units (DE.dp (de_call D_q21 hr (da_cons (de_lst da_nil) da_nil))) (DE.dp de_str))))))))))))))
end
local macro_rules | `(tactic| walk_at "ev") => `(tactic| simp only [mSeq, mIf, mTest, mBin, mUn, mK, mPk, mVar, mAsg, mRet, mRetN, mCall, mCons, mNil, mCallP, mConsP, mNilP, mTup, mLst, mOr, mAnd, mNot, mNotV, mAndV, mOrV, mIfE, mNext, mBrk, mCt, mDrop, mApp, mSet, mFrz, frz1, mPar, mAsgT, gVar, gTupD, gsAll, mItems, mItemsT, mSl, mPart, mNoPart, mDat, Sl.dat, mYes, mIsi, tyD, isiD, iop, icmp, iun, dAddI, dSub, dAdd, dLt, dLe, dGt, dGe, deq, dne, disN, disNN, isNone, dix, dLen, dAbs, dList, dTuple, dInt, dSl, Option.bind_some, Option.map_some, Option.join_some, Option.some.injEq, List.getElem?_cons_zero, List.getElem?_cons_succ, List.set_cons_zero, List.set_cons_succ, List.length_cons, List.length_nil, eqD_int, List.cons_append, List.nil_append, List.append_nil, List.map_cons, List.map_nil, if_true, if_false, Bool.false_eq_true, reduceIte, reduceCtorEq, Bool.not_true, Bool.not_false, decide_true, decide_false])
theorem bin_eq{op:Sl->Sl->Option Sl}{fa fb:En->Option Sl}{ρ:En}{a b:Sl}(ha:fa ρ=some a)(hb:fb ρ=some b):mBin op fa fb ρ=op a b:=by
 unfold mBin;rw [ha];show Option.bind (fb ρ) _=_;rw [hb];rfl
theorem test_eq{f:En->Option Sl}{ρ:En}{b:Bool}(h:f ρ=some (.val (.bool b))):mTest f ρ=some b:=by
 unfold mTest;rw [h];rfl
theorem app_to{i:Nat}{f:En->Option Sl}{ρ:En}{r:Sl}{ds:List PyData}(h:f ρ=some r)(ho:(ρ[i]?).join=some (.own ds))(hl:ds.length<sizeLine):mApp i f ρ=some (.nx (ρ.set i (some (.own (ds ++ [r.dat]))))):=by
 unfold mApp;rw [ho];show Option.bind (f ρ) _=_;rw [h];show (if ds.length<sizeLine then _ else _)=_;rw [if_pos hl]
theorem callP_to{F:List Sl->Option Sl}{f:En->Option (List Sl)}{ρ:En}{ss:List Sl}{r:Sl}(h:f ρ=some ss)(k:F ss=some r):mCallP F f ρ=some r:=by
 unfold mCallP;rw [h];exact k
theorem cons_to{f:En->Option Sl}{g:En->Option (List PyData)}{ρ:En}{a:Sl}{as:List PyData}(h:f ρ=some a)(k:g ρ=some as):mCons f g ρ=some (a.dat::as):=by
 unfold mCons;rw [h];show Option.bind (g ρ) _=_;rw [k];rfl
theorem consP_to{f:En->Option Sl}{g:En->Option (List Sl)}{ρ:En}{a:Sl}{as:List Sl}(h:f ρ=some a)(k:g ρ=some as):mConsP f g ρ=some (a::as):=by
 unfold mConsP;rw [h];show Option.bind (g ρ) _=_;rw [k];rfl
theorem cmL{i j:Int}(h1 : -(2 ^ 64)<i)(h2:i<2 ^ 64):CMulA i j:= .inl (.inl ⟨h1,h2⟩)
theorem cmR{i j:Int}(h1 : -(2 ^ 64)<j)(h2:j<2 ^ 64):CMulA i j:= .inl (.inr ⟨h1,h2⟩)
theorem run_whole(a:Int):m_q11 [.int a]=some (.val (.bool true)):=by
 refine runD_rt (ρ:= [some (.val (.int a))]) rfl rfl ?_;unfold b_q11;refine rts_ret ?_
 walk_at "ev"
 rfl
theorem run_mix(c:Int){j:Int}(h0:0<=j)(h1:j<1000000):∃v,m_q3 [.int c, .int j]=some (.val (.int v))/\0<=v/\v<2147483648:=by
 by_cases hc:c.fmod 2=1
 . refine ⟨(c / 2 ^ (1+10*j).toNat).fmod 1024,runD_rt (ρ:= [some (.val (.int c)),some (.val (.int j)),none]) rfl rfl ?_,Int.fmod_nonneg_of_pos _ (by decide),?_⟩
   . unfold b_q3;refine rts_seqR (rts_if (b:=true) ?_ (rts_ret ?_))
     . walk_at "ev"
       rw [modS (by decide)]
       walk_at "ev"
       simp [hc]
     . walk_at "ev"
       rw [mulS (cmL (by decide) (by decide))]
       walk_at "ev"
       rw [shrS (by omega)]
       walk_at "ev"
       rw [modS (by decide)]
   . have:=Int.fmod_lt_of_pos (c / 2 ^ (1+10*j).toNat) (show (0:Int)<1024 by decide);omega
 . have n1:=fun x:Int=>Int.fmod_nonneg_of_pos x (show (0:Int)<2147483629 by decide);have n2:=fun x:Int=>Int.fmod_lt_of_pos x (show (0:Int)<2147483629 by decide)
   let w1:=(c*(2*j+3)+j).fmod 2147483629
   let w2:=((w1*w1+1)*48271).fmod 2147483629
   refine ⟨(w2*w2).fmod 2147483587,runD_rt (ρ:= [some (.val (.int c)),some (.val (.int j)),none]) rfl rfl ?_,Int.fmod_nonneg_of_pos _ (by decide),?_⟩
   . unfold b_q3;refine rts_seq (ρ':= [some (.val (.int c)),some (.val (.int j)),none]) (if_to (b:=false) ?_ ?_) ?_
     . walk_at "ev"
       rw [modS (by decide)]
       walk_at "ev"
       simp [hc]
     . walk_at "ev"
     refine rts_seq (asg_to (r:= .val (.int w1)) ?_) ?_
     . walk_at "ev"
       rw [mulS (cmL (by decide) (by decide))]
       walk_at "ev"
       rw [mulS (cmR (by omega) (by omega))]
       walk_at "ev"
       rw [modS (by decide)]
     have a1:=n1 (c*(2*j+3)+j);have a2:=n2 (c*(2*j+3)+j);refine rts_seq (asg_to (r:= .val (.int w2)) ?_) ?_
     . walk_at "ev"
       rw [mulS (cmL (by show _<w1;omega) (by show w1<_;omega))]
       walk_at "ev"
       rw [mulS (cmR (by decide) (by decide))]
       walk_at "ev"
       rw [modS (by decide)]
     have b1:=n1 ((w1*w1+1)*48271);have b2:=n2 ((w1*w1+1)*48271);refine rts_ret ?_
     walk_at "ev"
     rw [mulS (cmL (by show _<w2;omega) (by show w2<_;omega))]
     walk_at "ev"
     rw [modS (by decide)]
   . have:=Int.fmod_lt_of_pos (w2*w2) (show (0:Int)<2147483587 by decide);omega
theorem sl1000:1000<sizeLine:=by decide
theorem lst1{f:En->Option Sl}{ρ:En}{a:Sl}(h:f ρ=some a):mLst (mCons f mNil) ρ=some (.own [a.dat]):=by
 unfold mLst;rw [cons_to h (show mNil ρ=some [] from rfl)];exact if_pos (e:=none) (show 1<=sizeLine by decide)
theorem add_own{a b:Sl}{xs ys:List PyData}(ha:a.dat = .list xs)(hb:b.dat = .list ys)(h:xs.length+ys.length<=sizeLine):dAdd a b=some (.own (xs++ys)):=by
 unfold dAdd;rw [ha,hb];exact if_pos (h)
theorem el_to{fg:PyData->En->Option En}{fe:En->Option Sl}{ρ0 ρ1:En}{d:PyData}{r:Sl}(h1:fg d ρ0=some ρ1)(h2:fe ρ1=some r):elM fg mYes fe ρ0 d=some (some r.dat):=by
 unfold elM;rw [h1];simp only [Option.bind_some,mYes,if_true,h2,Option.map_some]
def cellsOf(ns:List Int):List Int:=ns.take 63 ++ [0]
theorem cells_len(ns:List Int):(cellsOf ns).length<=64:=by simp [cellsOf];omega
theorem run_cells{ns:List Int}{ρ:En}{n:Nat}(h:(ρ[0]?).join=some (.val (.list (ns.map .int)))):(mBin dAdd (mSl (mPk 0) mNoPart (mPart (mK (.int 63)))) (mLst (mCons (mK (.int 0)) mNil))) ρ=some (.own (il (cellsOf ns))):=by
 have c1:(mSl (mPk 0) mNoPart (mPart (mK (.int 63)))) ρ=some (.own (il (ns.take 63))):=by
  have e:cutD (ns.map PyData.int) none (some ((63:Nat):Int))=il (ns.take 63):=by
   unfold cutD il;rw [HT.sIx_none,HT.sIx_nat,List.length_map,List.drop_zero,Nat.sub_zero, <-List.map_take];congr 1
   by_cases h:63<=ns.length
   . rw [Nat.min_eq_left h]
   . rw [Nat.min_eq_right (by omega),List.take_of_length_le (Nat.le_refl _),List.take_of_length_le (by omega)]
  rw [<-e];unfold mSl mPk;rw [h];rfl
 refine (bin_eq (op:=dAdd) c1 (lst1 (a:= .val (.int 0)) rfl)).trans ?_;refine (add_own (xs:=il (ns.take 63)) (ys:= [.int 0]) rfl rfl ?_).trans ?_
 . rw [il_len,List.length_take];have:=sl1000;simp;omega
 . rw [cellsOf,il_app];rfl
theorem compM_filt{α:Type}{f:PyData->Option (Option PyData)}{en g:α->PyData}{b:α->Bool}:∀ {xs:List α},(∀x ∈ xs,f (en x)=some (if b x then some (g x) else none))->compM f (xs.map en)=some ((xs.filter b).map g)
 | [],_=>rfl
 | x::xs,h=>by
  rw [List.map_cons,compM,h x List.mem_cons_self,compM_filt fun y hy=>h y (List.mem_cons_of_mem _ hy)]
  cases e:b x <;> simp [e]
theorem el_if{fg:PyData->En->Option En}{ft:En->Option Bool}{fe:En->Option Sl}{ρ0 ρ1:En}{d:PyData}{r:Sl}{b:Bool}(h1:fg d ρ0=some ρ1)(h2:ft ρ1=some b)(h3:fe ρ1=some r):elM fg ft fe ρ0 d=some (if b then some r.dat else none):=by
 unfold elM;rw [h1,Option.bind_some,h2,Option.bind_some]
 cases b
 . rfl
 . rw [if_pos rfl,h3];rfl
theorem andV_to{f g:En->Option Sl}{ρ:En}{r:Sl}(h:f ρ=some (.val (.bool true)))(k:g ρ=some r):mAndV f g ρ=some r:=by
 unfold mAndV;rw [test_eq h];exact k
theorem tup2{f g:En->Option Sl}{ρ:En}{a b:Sl}(h1:f ρ=some a)(h2:g ρ=some b):mTup (mCons f (mCons g mNil)) ρ=some (.val (.tuple [a.dat,b.dat])):=by
 unfold mTup;rw [cons_to h1 (cons_to h2 (show mNil ρ=some [] from rfl))];exact if_pos (e:=none) (show 2<=sizeLine by decide)
theorem tup1{f:En->Option Sl}{ρ:En}{a:Sl}(h1:f ρ=some a):mTup (mCons f mNil) ρ=some (.val (.tuple [a.dat])):=by
 unfold mTup;rw [cons_to h1 (show mNil ρ=some [] from rfl)];exact if_pos (e:=none) (show 1<=sizeLine by decide)
theorem sqx_nx{f:En->Option Out}{g:En->Option (Option Out)}{ρ ρ':En}(h:f ρ=some (.nx ρ')):mSqx (mLf f) g ρ=g ρ':=by
 unfold mSqx mLf;rw [h];rfl
theorem sqx_t{c:En->Option Bool}{f:En->Option (Option Out)}{g:En->Option (Option Out)}{ρ:En}(h:c ρ=some true)(k:f ρ=some none):mSqx (mIfx c f (mLf mNext)) g ρ=some none:=by
 unfold mSqx mIfx;rw [h];show Option.bind (f ρ) _=_;rw [k];rfl
theorem sqx_f{c:En->Option Bool}{f:En->Option (Option Out)}{g:En->Option (Option Out)}{ρ:En}(h:c ρ=some false):mSqx (mIfx c f (mLf mNext)) g ρ=g ρ:=by
 unfold mSqx mIfx;rw [h];rfl
theorem runX_to {n k : Nat} {g : En -> Option (Option Out)} {ds : List PyData} {ρ : En} (hl : ds.length = k) (e : ds.map (fun d => some (Sl.val d)) ++ List.replicate (n - ds.length) none = ρ) : runX n g k ds = (g ρ).bind fun o => match o with
 | some (.rt r _)=>some (some r)
 | some (.nx _)=>some (some (.val .none))
 | none=>some none
 | _=>none:=by
 unfold runX;rw [if_pos hl,e]
 all_goals rfl
theorem try_to{jf jg jn:Nat}{F:List PyData->Option (Option Sl)}{f:En->Option (List PyData)}{ρ:En}{ds:List PyData}{z:Sl}(h:f ρ=some ds)(k:F ds=some (some z)):mTry jf jg jn F f ρ=some (.nx (ρ.set jf (some z))):=by
 unfold mTry;rw [h,Option.bind_some,k];rfl
theorem try_no{jf jg jn:Nat}{F:List PyData->Option (Option Sl)}{f:En->Option (List PyData)}{ρ:En}{ds:List PyData}(h:f ρ=some ds)(k:F ds=some none):mTry jf jg jn F f ρ=some (.nx ((ρ.set jn none).set jg (some (.val xD)))):=by
 unfold mTry;rw [h,Option.bind_some,k];rfl
theorem eqD_str{a b:Str}(ha:PyData.strOk a=true)(hb:PyData.strOk b=true):eqD (.str a) (.str b)=some (decide (a=b)):=by
 have:PyData.eqv (.str a) (.str b)=decide (a=b):=by simp [PyData.eqv,Bool.beq_eq_decide_eq]
 unfold eqD;rw [if_pos ⟨ha,hb,by simp [PyData.depth]⟩,this]
theorem deq_str{a b:Str}(ha:PyData.strOk a=true)(hb:PyData.strOk b=true):deq (.val (.str a)) (.val (.str b))=some (.val (.bool (decide (a=b)))):=by
 show (eqD (.str a) (.str b)).map _=_;rw [eqD_str ha hb];rfl
theorem bools_map{α:Type}(g:α->Bool):∀xs:List α,boolsOf (xs.map fun x=> .bool (g x))=some (xs.map g)
 | []=>rfl
 | x::xs=>by
  show (boolsOf (xs.map fun x=> .bool (g x))).map (g x :: ·)=_;rw [bools_map g xs];rfl
theorem h24:sizeLine=16777216:=rfl
theorem run_isnum{w:Str}(ok:Tx.Ok 100000 w):m_q12 [.str w]=some (.val (.bool (Tx.numOk w))):=by
 have sz:=h24;have hw:=ok.1
 let W0:Option Sl:=some (.val (.str w))
 let F1:Option Sl:=some (.val (.str (Tx.fig w)))
 have hf:(Tx.fig w).length<=100000:=by
  unfold Tx.fig
  split
  . exact Nat.le_trans (Txt.slice_le ..) hw
  . exact hw
 have hfo:PyData.strOk (Tx.fig w)=true:=by
  unfold Tx.fig
  split
  . exact Tx.ok_q24 ok.2 _ _
  . exact ok.2
 refine run_wp (ρ:= [W0,none]) rfl rfl ?_;unfold b_q12;refine wp_asgS (r:= .val (.str (Tx.fig w))) ?_ ?_
 . have t:mTest (mBin dSw (mPk 0) (mK (.str "-"))) [W0,none]=some (Txt.startswith w "-"):=test_eq rfl;unfold mIfE;rw [t,Option.bind_some];unfold Tx.fig
   by_cases h:Txt.startswith w "-" = true
   . rw [if_pos h,if_pos h];show (if w.length<=sizeLine then _ else _)=_;rw [if_pos (by omega)]
   . rw [if_neg h,if_neg h];rfl
 . have tA:mTest (mBin deq (mPk 1) (mK (.str ""))) [W0,F1]=some (decide (Tx.fig w = "")):=test_eq ((bin_eq (op:=deq) (a:= .val (.str (Tx.fig w))) (b:= .val (.str "")) rfl rfl).trans (deq_str hfo (by decide +kernel)))
   have tB:mTest (mBin dGt (mCallP dLenX (mConsP (mPk 1) mNilP)) (mK c_MOST_FIGURES)) [W0,F1]=some (decide (12<(Tx.fig w).length)):=by
    refine test_eq ((bin_eq (op:=dGt) (a:= .val (.int (((Tx.fig w).length:Nat):Int))) (b:= .val (.int 12)) (callP_to (ss:= [.val (.str (Tx.fig w))]) rfl (if_pos (show (Tx.fig w).length<=sizeLine by omega))) rfl).trans ?_);show some (Sl.val (.bool (decide _)))=_;congr 3
    refine decide_eq_decide.mpr ?_;omega
   have tC:mTest (mCallP dAll (mConsP (mLC (subE [none]) (mItX (mVar 1)) (gVar 0) mYes (mBin dInX (mPk 0) (mK c_FIGURES))) mNilP)) [W0,F1]=some ((Tx.fig w).cps.toList.all Tx.isDg):=by
    refine test_eq (callP_to (ss:= [.own ((Tx.fig w).cps.toList.map fun c=> .bool (Tx.isDg c))]) (consP_to (as:= []) (lc_to (ds:=(Tx.fig w).cps.toList.map fun c=> .str ⟨#[c]⟩) rfl ?_ (compM_map (en:=fun c=> .str ⟨#[c]⟩) (g:=fun c=> .bool (Tx.isDg c)) fun c _=> ?_)) rfl) ?_)
    . rw [List.length_map];have:(Tx.fig w).cps.toList.length=(Tx.fig w).length:=Array.length_toList;omega
    . refine el_to (fg:=gVar 0) (ρ0:= [none]) (d:= .str ⟨#[c]⟩) (ρ1:= [some (.val (.str ⟨#[c]⟩))]) (r:= .val (.bool (Tx.isDg c))) rfl ?_;rw [<-Tx.contains_dig c];rfl
    . show (boolsOf _).map _=_;rw [bools_map];show some (Sl.val (.bool (List.all _ _)))=_;rw [List.all_map];rfl
   have tt:=or_to tA (or_to tB (not_to tC));refine wp_seqG (wp_if (b:=(decide (Tx.fig w = "") || (decide (12<(Tx.fig w).length) || !((Tx.fig w).cps.toList.all Tx.isDg)))) tt ?_);unfold Tx.numOk
   cases h:(decide (Tx.fig w = "") || (decide (12<(Tx.fig w).length) || !((Tx.fig w).cps.toList.all Tx.isDg))) with
   | true=>
    show Wp (mRet (mK (.bool false))) _ _
    exact wp_ret (r:= .val (.bool false)) rfl rfl
   | false=>
    show Wp mNext _ _;refine wp_next (wp_ret (r:= .val (.bool (!false && (decide (w = "0") || !Txt.startswith (Tx.fig w) "0")))) ?_ rfl);have t0:mTest (mBin deq (mPk 0) (mK (.str "0"))) [W0,F1]=some (decide (w = "0")):=test_eq ((bin_eq (op:=deq) (a:= .val (.str w)) (b:= .val (.str "0")) rfl rfl).trans (deq_str ok.2 (by decide +kernel)));show mOrV _ _ [W0,F1]=_;unfold mOrV;rw [t0,Option.bind_some]
    cases decide (w = "0") <;> rfl
theorem run_rnum{w:Str}(hw:Tx.Ok 100000 w):(Tx.numOk w=false/\m_q17 [.str w]=some none)\/∃n:Int,Tx.numOk w=true/\PySem.intText? w=some n/\(0<=n->n<=5->w ∈ Tx.fives)/\m_q17 [.str w]=some (some (.val (.int n))):=by
 let W0:Option Sl:=some (.val (.str w))
 have rn:=run_isnum hw;have tt:∀b,Tx.numOk w=b->mNot (mTest (mCall m_q12 (mCons (mVar 0) mNil))) [W0]=some (!b):=fun b hb=>not_to (test_eq (call_to (ds:= [.str w]) rfl (hb ▸ rn)))
 cases h:Tx.numOk w with
 | false=>
  refine .inl ⟨rfl,?_⟩;unfold m_q17;rw [runX_to (n:=1) (k:=1) (g:=b_q17) (ds:= [.str w]) (ρ:= [W0]) rfl rfl];unfold b_q17;rw [sqx_t (tt _ h) rfl]
  rfl
 | true=>
  obtain ⟨n,h1,h2,h3⟩:=Tx.num_int h;refine .inr ⟨n,rfl,h1,h3,?_⟩;unfold m_q17;rw [runX_to (n:=1) (k:=1) (g:=b_q17) (ds:= [.str w]) (ρ:= [W0]) rfl rfl];unfold b_q17;rw [sqx_f (tt _ h)]
  have:mCallP dIntS (mConsP (mPk 0) mNilP) [W0]=some (.val (.int n)):=by
   refine callP_to (ss:= [.val (.str w)]) rfl ?_;show (if w.length<=640 then _ else _)=_;rw [if_pos (by omega),h1];rfl
  unfold mLf;rw [ret_to this];rfl
theorem sqx_a1{i:Nat}{f:En->Option (Option Sl)}{g:En->Option (Option Out)}{ρ:En}{r:Sl}(h:f ρ=some (some r)):mSqx (mAsgx i f) g ρ=g (ρ.set i (some r)):=by
 unfold mSqx mAsgx;rw [h];rfl
theorem sqx_a0{i:Nat}{f:En->Option (Option Sl)}{g:En->Option (Option Out)}{ρ:En}(h:f ρ=some none):mSqx (mAsgx i f) g ρ=some none:=by
 unfold mSqx mAsgx;rw [h];rfl
theorem lcx_to{sb:En->En}{fi:En->Option (Option (List PyData))}{fg:PyData->En->Option En}{fe:En->Option (Option Sl)}{ρ:En}{ds:List PyData}{o:Option (List PyData)}(h:fi ρ=some (some ds))(hl:ds.length<sizeLine)(k:compMx (elMx fg fe (sb ρ)) ds=some o):mLCx sb fi fg fe ρ=some (o.map .own):=by
 unfold mLCx;rw [h,Option.bind_some];show (if ds.length<sizeLine then _ else _)=_;rw [if_pos hl,k];rfl
theorem compMx_if{α:Type}{f:PyData->Option (Option PyData)}{en g:α->PyData}{b:α->Bool}:∀ {xs:List α},(∀x ∈ xs,f (en x)=some (if b x=true then some (g x) else none))->compMx f (xs.map en)=some (if xs.all b=true then some (xs.map g) else none)
 | [],_=>rfl
 | x::xs,h=>by
  have ih:=compMx_if (f:=f) (en:=en) (g:=g) (b:=b) (xs:=xs) fun y hy=>h y (List.mem_cons_of_mem _ hy);rw [List.map_cons,compMx,h x List.mem_cons_self,Option.bind_some]
  cases e:b x with
  | false=>
   rw [if_neg (by simp),if_neg (by simp [e])]
  | true=>
   rw [if_pos rfl];show (compMx f (xs.map en)).map _=_;rw [ih]
   by_cases h2:xs.all b=true
   . rw [if_pos h2,if_pos (by rw [List.all_cons,e,h2];rfl)];rfl
   . rw [if_neg h2,if_neg (by rw [List.all_cons,e,Bool.true_and];exact h2)];rfl
def dg(w:Str):Int:=(PySem.intText? w).getD 0
def five(w:Str):Bool:=decide (w ∈ Tx.fives)
theorem dg_num{w:Str}(h:Tx.numOk w=true):PySem.intText? w=some (dg w)/\(five w=true↔0<=dg w/\dg w<=5):=by
 obtain ⟨n,h1,h2,h3⟩:=Tx.num_int h;have e:dg w=n:=by unfold dg;rw [h1];rfl
 rw [e];refine ⟨h1,fun hf=> ?_,fun z=>decide_eq_true (h3 z.1 z.2)⟩;obtain ⟨m,k1,k2⟩:=Tx.five_val w (of_decide_eq_true hf);rw [h1] at k1
 cases k1
 exact k2
theorem run_rn{w:Str}(hw:Tx.Ok 100000 w):m_q17 [.str w]=some (if Tx.numOk w=true then some (.val (.int (dg w))) else none):=by
 rcases run_rnum hw with ⟨h,e⟩ | ⟨n,h,h1,_,e⟩
 . rw [e,if_neg (by rw [h];simp)]
 . have:dg w=n:=by unfold dg;rw [h1];rfl
   rw [e,if_pos h,this]
theorem all_five{ws:List Str}:ws.all five=true↔∀w ∈ ws,w ∈ Tx.fives:=by
 rw [List.all_eq_true];exact ⟨fun h w hw=>of_decide_eq_true (h w hw),fun h w hw=>decide_eq_true (h w hw)⟩
theorem run_rnums {ws : List Str} (hne : ws ≠ []) (hl : ws.length <= 200000) (hw : ∀ w ∈ ws, Tx.Ok 100000 w) :
 m_q18 [.list (ws.map .str), .int 0, .int 5]=some (if ws.all five=true then some (.own (il (ws.map dg))) else none):=by
 have sz:=h24
 let W0:Option Sl:=some (.val (.list (ws.map .str)))
 let L1:Option Sl:=some (.val (.int 0))
 let M2:Option Sl:=some (.val (.int 5))
 unfold m_q18;rw [runX_to (n:=4) (k:=3) (g:=b_q18) (ds:= [.list (ws.map .str), .int 0, .int 5]) (ρ:= [W0,L1,M2,none]) rfl rfl]
 have hc:compMx (elMx (gVar 0) (mCallx m_q17 (mCons (mVar 0) mNil)) [none]) (ws.map .str)=some (if ws.all Tx.numOk=true then some (ws.map fun w=> .int (dg w)) else none):=by
  refine compMx_if (en:= .str) (g:=fun w=> .int (dg w)) (b:=Tx.numOk) fun w h=> ?_;show (m_q17 [.str w]).map _=_;rw [run_rn (hw w h)]
  by_cases hn:Tx.numOk w=true
  . rw [if_pos hn,if_pos hn];rfl
  . rw [if_neg hn,if_neg hn];rfl
 have hL:=lcx_to (sb:=subE [none]) (fi:=mItx (mItemsS (mVar 0))) (fg:=gVar 0) (fe:=mCallx m_q17 (mCons (mVar 0) mNil)) (ρ:= [W0,L1,M2,none]) (ds:=ws.map .str) rfl (by rw [List.length_map];omega) hc;unfold b_q18
 by_cases hn:ws.all Tx.numOk=true
 . rw [if_pos hn] at hL
   rw [sqx_a1 hL]
   let N3:Option Sl:=some (.own (il (ws.map dg)))
   have en:(Option.some (ws.map fun w=>PyData.int (dg w))).map Sl.own=some (.own (il (ws.map dg))):=by
    show some (Sl.own _)=_;rw [il,List.map_map];rfl
   have eN : [W0,L1,M2,none].set 3 (some (Sl.own (ws.map fun w=>PyData.int (dg w)))) = [W0,L1,M2,N3]:=by
    show [W0,L1,M2,some (Sl.own _)] = [W0,L1,M2,some (Sl.own _)];rw [il,List.map_map];rfl
   rw [eN];have nn:ws.map dg ≠ []:=fun h=>hne (List.map_eq_nil_iff.mp h);obtain ⟨m,hm⟩:=Option.isSome_iff_exists.mp (List.isSome_min?_of_ne_nil nn);obtain ⟨M,hM⟩:=Option.isSome_iff_exists.mp (List.isSome_max?_of_ne_nil nn);obtain ⟨m1,m2⟩:=List.min?_eq_some_iff.mp hm;obtain ⟨M1,M2'⟩:=List.max?_eq_some_iff.mp hM
   have t1:mTest (mBin dLt (mCallP dMinL (mConsP (mPk 3) mNilP)) (mPk 1)) [W0,L1,M2,N3]=some (decide (m<0)):=by
    refine test_eq ((bin_eq (op:=dLt) (a:= .val (.int m)) (b:= .val (.int 0)) (callP_to (ss:= [.own (il (ws.map dg))]) rfl ?_) rfl).trans rfl);show (intsOf (il (ws.map dg))).bind _=_;rw [intsOf_il,Option.bind_some,hm];rfl
   have t2:mTest (mBin dGt (mCallP dMaxLi (mConsP (mPk 3) mNilP)) (mPk 2)) [W0,L1,M2,N3]=some (decide (M>5)):=by
    refine test_eq ((bin_eq (op:=dGt) (a:= .val (.int M)) (b:= .val (.int 5)) (callP_to (ss:= [.own (il (ws.map dg))]) rfl ?_) rfl).trans rfl);show (intsOf (il (ws.map dg))).bind _=_;rw [intsOf_il,Option.bind_some,hM];rfl
   have num:∀w ∈ ws,Tx.numOk w=true:=List.all_eq_true.mp hn
   by_cases h5:ws.all five=true
   . rw [if_pos h5];have h5':=List.all_eq_true.mp h5
     have r:∀x ∈ ws.map dg,0<=x/\x<=5:=fun x hx=>by
      obtain ⟨w,h,rfl⟩:=List.mem_map.mp hx;exact (dg_num (num w h)).2.mp (h5' w h)
     have a1:=r m m1;have a2:=r M M1;rw [sqx_f ((or_to t1 t2).trans (by rw [decide_eq_false (by omega),decide_eq_false (by omega)];rfl))];rfl
   . rw [if_neg h5]
     have:∃w ∈ ws,five w=false:=by
      refine Classical.byContradiction fun z=>h5 (List.all_eq_true.mpr fun w hw=> ?_)
      cases e:five w with
      | true=>rfl
      | false=>exact absurd ⟨w,hw,e⟩ z
     obtain ⟨w,h,hf⟩:=this;have q:=(dg_num (num w h)).2;have hx:dg w ∈ ws.map dg:=List.mem_map_of_mem h;have b1:=m2 (dg w) hx;have b2:=M2' (dg w) hx;have nq:¬(0<=dg w/\dg w<=5):=fun z=>by rw [q.mpr z] at hf;cases hf
     rw [sqx_t ((or_to t1 t2).trans (show _=some true by
      congr 1
      rw [Bool.or_eq_true,decide_eq_true_eq,decide_eq_true_eq];omega)) (by
      show (mFsI 1 2 [W0,L1,M2,N3]).map _=_;show (if ((0:Int)<=0/\(0:Int)<1000)/\(0:Int)<=5/\(5:Int)<1000 then some (Sl.val .none) else none).map _=_;rw [if_pos (by decide)];rfl)]
     rfl
 . rw [if_neg hn] at hL
   rw [sqx_a0 hL];have:ws.all five≠true:=fun h=>hn (List.all_eq_true.mpr fun w hw'=>Tx.five_num w (all_five.mp h w hw'));rw [if_neg this];rfl
open Ri
theorem lstNil{ρ:En}:mLst mNil ρ=some (.own []):=if_pos (e:=none) (show 0<=sizeLine by decide)
theorem tupNil{ρ:En}:mTup mNil ρ=some (.val (.tuple [])):=if_pos (e:=none) (show 0<=sizeLine by decide)
theorem eqv_il:∀a b:List Int,PyData.eqvAll (il a) (il b)=decide (a=b)
 | [],[]=>by simp [il,PyData.eqvAll]
 | [],_::_=>by simp [il,PyData.eqvAll]
 | _::_,[]=>by simp [il,PyData.eqvAll]
 | x::a,y::b=>by
  have:=eqv_il a b;unfold il at this
  simp only [il,List.map_cons,PyData.eqvAll,this,PyData.eqv]
  by_cases h:x=y
  . subst h;simp
  . simp [h]
theorem eqv_tI(a b:List Int):PyData.eqv (tI a) (tI b)=decide (a=b):=by
 unfold tI;simp only [PyData.eqv];exact eqv_il a b
theorem lay_il(l:List Int):PyData.canLayAll0 (il l)=true:=lay_list (fun _=>rfl) l
theorem dep_il(l:List Int):PyData.depthAll (il l)<=1:=dep_list (fun _=>by simp [PyData.depth]) l
theorem lay_tI(l:List Int):(tI l).canLay0=true:=lay_il l
theorem dep_tI(l:List Int):(tI l).depth<=3:=by
 have:=dep_il l;unfold il at this
 simp only [tI,PyData.depth];omega
theorem ne_il{fa fb:En->Option Sl}{ρ:En}{a b:List Int}{x y:Sl}(ha:fa ρ=some x)(hb:fb ρ=some y)(ex:x.dat = .list (il a))(ey:y.dat = .list (il b)):mTest (mBin dne fa fb) ρ=some (!decide (a=b)):=by
 refine test_eq ((bin_eq (op:=dne) ha hb).trans ?_);show (eqD x.dat y.dat).map _=_;rw [ex,ey];have e:PyData.eqv (.list (il a)) (.list (il b))=decide (a=b):=by simp only [PyData.eqv];exact eqv_il a b
 have d1:=dep_il a;have d2:=dep_il b;unfold eqD;rw [if_pos ⟨lay_il a,lay_il b,by simp only [PyData.depth];omega⟩,e];rfl
abbrev pcs (t:Str):List Str:=Txt.split t ", "
abbrev wds (p:Str):List Str:=Txt.split p " "
def ef(p:Str):List Int:=if p = "mean" then [] else (wds p).map dg
def gE(p:Str):Bool:=decide (p = "mean") || ((wds p).all five && decide (Up ((wds p).map dg)))
theorem five_in{w:Str}(h:five w=true):0<=dg w/\dg w<=5:=(dg_num (Tx.five_num w (of_decide_eq_true h))).2.mp h
theorem gE_ok{p:Str}(h:gE p=true):Up (ef p)/\∀n ∈ ef p,0<=n/\n<=5:=by
 unfold gE at h
 unfold ef
 by_cases hm:p = "mean"
 . rw [if_pos hm];exact ⟨List.Pairwise.nil,fun _ h=>by cases h⟩
 . rw [decide_eq_false hm,Bool.false_or,Bool.and_eq_true] at h
   rw [if_neg hm];refine ⟨of_decide_eq_true h.2,fun n hn=> ?_⟩;obtain ⟨w,hw,rfl⟩:=List.mem_map.mp hn;exact five_in (List.all_eq_true.mp h.1 w hw)
theorem sqx_rt{f:En->Option Out}{g:En->Option (Option Out)}{ρ ρ':En}{r:Sl}(h:f ρ=some (.rt r ρ')):mSqx (mLf f) g ρ=some (some (.rt r ρ')):=by
 unfold mSqx mLf;rw [h];rfl
theorem split_to{f g:En->Option Sl}{ρ:En}{a b:Str}(h:f ρ=some (.val (.str a)))(k:g ρ=some (.val (.str b)))(hb:(b.length==0)=false)(ha:a.length<=100000):mBin dSplit f g ρ=some (.own ((Txt.split a b).map .str)):=by
 have sz:=h24;refine (bin_eq (op:=dSplit) h k).trans ?_;show (if _/\_ then _ else _)=_;rw [if_pos ⟨hb,by omega⟩]
theorem run_reff{p:Str}(hp:Tx.Ok 100000 p):m_q15 [.str p]=some (if gE p=true then some (.val (.tuple (il (ef p)))) else none):=by
 have sz:=h24;have hp1:=hp.1;have few:=split_few p " "
 let P0:Option Sl:=some (.val (.str p))
 have tm:mTest (mBin deq (mPk 0) (mK (.str "mean"))) [P0,none]=some (decide (p = "mean")):=test_eq ((bin_eq (op:=deq) (a:= .val (.str p)) (b:= .val (.str "mean")) rfl rfl).trans (deq_str hp.2 (by decide +kernel)));unfold m_q15;rw [runX_to (n:=2) (k:=1) (g:=b_q15) (ds:= [.str p]) (ρ:= [P0,none]) rfl rfl];unfold b_q15 gE ef
 by_cases hm:p = "mean"
 . rw [decide_eq_true hm] at tm
   rw [sqx_rt (r:= .val (.tuple [])) (ρ':= [P0,none]) (if_to (f:=mRet (mTup mNil)) (g:=mNext) tm (ret_to tupNil)),decide_eq_true hm,Bool.true_or,if_pos rfl,if_pos hm];rfl
 rw [decide_eq_false hm] at tm
 rw [sqx_nx (ρ':= [P0,none]) (if_to tm rfl),decide_eq_false hm,Bool.false_or,if_neg hm];have rn:=run_rnums (Tx.split_ne p " ") (by omega) (Tx.split_ok (b:= " ") hp)
 have hc:mCallx m_q18 (mCons (mBin dSplit (mPk 0) (mK (.str " "))) (mCons (mK (.int 0)) (mCons (mBin dSub (mK c_MOST_THINGS) (mK (.int 1))) mNil))) [P0,none]=some (if (wds p).all five=true then some (.own (il ((wds p).map dg))) else none):=by
  unfold mCallx;rw [cons_to (split_to (a:=p) (b:= " ") rfl rfl (by decide +kernel) hp1) (cons_to (a:= .val (.int 0)) rfl (cons_to (a:= .val (.int 5)) (as:= []) rfl rfl)),Option.bind_some];exact rn
 by_cases h5:(wds p).all five=true
 . rw [if_pos h5] at hc
   rw [sqx_a1 hc,h5,Bool.true_and]
   let E1:Option Sl:=some (.own (il ((wds p).map dg)))
   show Option.bind (mSqx _ _ [P0,E1]) _=_
   have hs:mCallP dSortSet (mConsP (mPk 1) mNilP) [P0,E1]=some (.own (il (srt (unIs ((wds p).map dg))))):=by
    refine callP_to (ss:= [.own (il ((wds p).map dg))]) rfl ?_;show (intsOf (il ((wds p).map dg))).bind _=_;rw [intsOf_il,Option.bind_some]
    have:(unIs ((wds p).map dg)).length<=6:=un_six fun n hn=>by
     obtain ⟨w,hw,rfl⟩:=List.mem_map.mp hn;exact five_in (List.all_eq_true.mp h5 w hw)
    rw [if_pos (by omega)];rfl
   have tn:=ne_il (fa:=mPk 1) (ρ:= [P0,E1]) (a:=(wds p).map dg) rfl hs rfl rfl;have iff:=srt_un ((wds p).map dg)
   by_cases hu:Up ((wds p).map dg)
   . rw [decide_eq_true (iff.mpr hu).symm] at tn
     rw [sqx_f tn,decide_eq_true hu,if_pos rfl];rfl
   . rw [decide_eq_false (fun e=>hu (iff.mp e.symm))] at tn
     rw [sqx_t tn rfl,decide_eq_false hu,if_neg (by simp)];rfl
 . rw [if_neg h5] at hc
   rw [sqx_a0 hc,if_neg (by rw [Bool.and_eq_true];exact fun z=>h5 z.1)];rfl
open Ri
theorem run_parts{t:Str}(ht:Tx.Ok 100000 t):m_q14 [.str t, .str ", "]=some (some (.own ((pcs t).map .str))):=by
 unfold m_q14;rw [runX_to (n:=2) (k:=2) (g:=b_q14) (ds:= [.str t, .str ", "]) (ρ:= [some (.val (.str t)),some (.val (.str ", "))]) rfl rfl];unfold b_q14;rw [sqx_f (c:=mNot (mTest (mIsi "str" (mPk 0)))) rfl];have hs:mBin dSplit (mPk 0) (mPk 1) [some (.val (.str t)),some (.val (.str ", "))]=some (.own ((pcs t).map .str)):=split_to rfl rfl (by decide +kernel) ht.1;unfold mLf;rw [ret_to hs];rfl
theorem len_to{f:En->Option Sl}{ρ:En}{a:Sl}{ds:List PyData}(h:f ρ=some a)(e:a.dat = .list ds\/a.dat = .tuple ds):mCallP dLen (mConsP f mNilP) ρ=some (.val (.int ds.length)):=by
 refine callP_to (ss:= [a]) (consP_to h rfl) ?_;unfold dLen;rcases e with e | e <;> simp only [e]
theorem lt_to{f g:En->Option Sl}{ρ:En}{i j:Int}(h:f ρ=some (.val (.int i)))(k:g ρ=some (.val (.int j))):mTest (mBin dLt f g) ρ=some (decide (i<j)):=test_eq ((bin_eq (op:=dLt) h k).trans rfl)
def efs(t:Str):List (List Int):=(pcs t).map ef
def OkM(t:Str):Prop:=(∀p ∈ pcs t,gE p=true)/\(efs t).Nodup
theorem efs_enc(t:Str):((pcs t).map fun p=>PyData.tuple (il (ef p)))=(efs t).map tI:=by
 unfold efs;rw [List.map_map];rfl
theorem run_rmodel{t:Str}(ht:Tx.Ok 100000 t)(hc:cm t<=16):(OkM t->m_q16 [.str t]=some (some (.own ((efs t).map tI))))/\(¬OkM t->m_q16 [.str t]=some none):=by
 have sz:=h24;have ht1:=ht.1;have few:(pcs t).length<=cm t+1:=split_cm t
 let T0:Option Sl:=some (.val (.str t))
 have hcm:compMx (elMx (gVar 0) (mCallx m_q15 (mCons (mVar 0) mNil)) [none]) ((pcs t).map .str)=some (if (pcs t).all gE=true then some ((pcs t).map fun p=>PyData.tuple (il (ef p))) else none):=by
  refine compMx_if (en:= .str) (g:=fun p=>PyData.tuple (il (ef p))) (b:=gE) fun p h=> ?_;show (m_q15 [.str p]).map _=_;rw [run_reff (Tx.split_ok ht p h)]
  by_cases hn:gE p=true
  . rw [if_pos hn,if_pos hn];rfl
  . rw [if_neg hn,if_neg hn];rfl
 rw [efs_enc] at hcm
 have hi:mItemsx (mCallx m_q14 (mCons (mVar 0) (mCons (mK (.str ", ")) mNil))) [T0,none]=some (some ((pcs t).map .str)):=by
  unfold mItemsx mCallx;rw [show mCons (mVar 0) (mCons (mK (.str ", ")) mNil) [T0,none]=some [.str t, .str ", "] from rfl,Option.bind_some,run_parts ht];rfl
 have hL:=lcx_to (sb:=subE [none]) (fi:=mItemsx (mCallx m_q14 (mCons (mVar 0) (mCons (mK (.str ", ")) mNil)))) (fg:=gVar 0) (fe:=mCallx m_q15 (mCons (mVar 0) mNil)) (ρ:= [T0,none]) hi (by rw [List.length_map];omega) hcm
 have go : ∀ o, b_q16 [T0, none] = some o -> m_q16 [.str t] = (some o).bind fun o => match o with
  | some (.rt r _)=>some (some r)
  | some (.nx _)=>some (some (.val .none))
  | none=>some none
  | _=>none:=fun o e=>by
  unfold m_q16;rw [runX_to (n:=2) (k:=1) (g:=b_q16) (ds:= [.str t]) (ρ:= [T0,none]) rfl rfl,e]
  all_goals rfl
 by_cases hg:(pcs t).all gE=true
 . rw [if_pos hg] at hL
   have hg':=List.all_eq_true.mp hg
   let M1:Option Sl:=some (.own ((efs t).map tI))
   have el:(efs t).length=(pcs t).length:=List.length_map ..
   have hs:mCallP dLenSetT (mConsP (mPk 1) mNilP) [T0,M1]=some (.val (.int (unT (efs t):Nat))):=by
    refine callP_to (ss:= [.own ((efs t).map tI)]) rfl ?_;show (tups0 ((efs t).map tI)).bind _=_
    rw [tups0_map,Option.bind_some,if_pos ⟨by omega,apart_of fun k hk=>by
     obtain ⟨p,hp,rfl⟩:=List.mem_map.mp hk;exact gE_ok (hg' p hp)⟩]
   have tt:=lt_to hs (len_to (f:=mPk 1) (ρ:= [T0,M1]) (a:= .own ((efs t).map tI)) rfl (.inl rfl));rw [List.length_map] at tt
   have iff:=unT_lt (efs t);refine ⟨fun ok=> ?_,fun nok=> ?_⟩
   . have : b_q16 [T0, none] = some (some (.rt (.own ((efs t).map tI)) [T0, M1])) := by
      unfold b_q16;rw [sqx_a1 hL];show mSqx _ _ [T0,M1]=_;rw [sqx_f (tt.trans (by rw [decide_eq_false];intro z;exact iff.mp (by omega) ok.2))];rfl
     rw [go _ this];rfl
   . have : b_q16 [T0, none] = some none := by
      unfold b_q16;rw [sqx_a1 hL];show mSqx _ _ [T0,M1]=_;have:=iff.mpr fun z=>nok ⟨hg',z⟩;rw [sqx_t (tt.trans (by rw [decide_eq_true];omega)) rfl]
     rw [go _ this];rfl
 . rw [if_neg hg] at hL
   have e1:b_q16 [T0,none]=some none:=by
    unfold b_q16;rw [sqx_a0 hL]
   refine ⟨fun ok=>absurd (List.all_eq_true.mpr ok.1) hg,fun _=> ?_⟩;rw [go _ e1];rfl
theorem run_rmodel_no {d:PyData} (hd:tyD d=some "NoneType" \/ tyD d=some "list"):m_q16 [d]=some none:=by
 have hp:m_q14 [d, .str ", "]=some none:=by
  unfold m_q14;rw [runX_to (n:=2) (k:=2) (g:=b_q14) (ds:= [d, .str ", "]) (ρ:= [some (.val d),some (.val (.str ", "))]) rfl rfl];unfold b_q14
  rw [sqx_t (c:=mNot (mTest (mIsi "str" (mPk 0)))) (f:=mRseE (mK (.str "this is no text"))) (by
   show Option.map _ (Option.bind (Option.bind (tyD d) _) _)=_;rcases hd with hd | hd <;> rw [hd] <;> rfl) rfl]
  rfl
 unfold m_q16;rw [runX_to (n:=2) (k:=1) (g:=b_q16) (ds:= [d]) (ρ:= [some (.val d),none]) rfl rfl];unfold b_q16;rw [sqx_a0]
 . rfl
 . unfold mLCx mItemsx mCallx;rw [show mCons (mVar 0) (mCons (mK (.str ", ")) mNil) [some (.val d),none]=some [d, .str ", "] from rfl,Option.bind_some,hp];rfl
open Ri
theorem any_five(w:Str):(([.str "0", .str "1", .str "2", .str "3", .str "4", .str "5"]:List PyData).any fun d=>PyData.eqv d (.str w))=five w:=by
 have e:∀a b:Str,PyData.eqv (.str a) (.str b)=decide (b=a):=fun a b=>by
  have:PyData.eqv (.str a) (.str b)=decide (a=b):=by simp [PyData.eqv,Bool.beq_eq_decide_eq]
  rw [this];exact decide_eq_decide.mpr eq_comm
 unfold five Tx.fives;simp only [List.any_cons,List.any_nil,e,List.mem_cons,List.not_mem_nil,or_false,Bool.or_false];simp only [Bool.decide_or]
theorem notin_five {w : Str} (hw : PyData.strOk w = true) {f : En -> Option Sl} {ρ : En} (h : f ρ = some (.val (.str w))) :
 mTest (mBin (dInD true) f (mTup (mCons (mK (.str "0")) (mCons (mK (.str "1")) (mCons (mK (.str "2")) (mCons (mK (.str "3")) (mCons (mK (.str "4")) (mCons (mK (.str "5")) mNil)))))))) ρ=some (!five w):=by
 refine test_eq ((bin_eq (op:=dInD true) (b:= .val (.tuple [.str "0", .str "1", .str "2", .str "3", .str "4", .str "5"])) h ?_).trans ?_)
 . exact if_pos (e:=none) (show 6<=sizeLine by decide)
 . show inD true (.str w) _=_;unfold inD;rw [if_pos ⟨hw,by decide +kernel,by simp [PyData.depth]⟩,if_pos rfl,any_five]
theorem five_len{w:Str}(h:five w=true):w.length<=640/\PySem.intText? w=some (dg w):=by
 have n:=Tx.five_num w (of_decide_eq_true h);obtain ⟨_,_,l,_⟩:=Tx.num_int n;exact ⟨by omega,(dg_num n).1⟩
theorem int_to{w:Str}(h:five w=true){f:En->Option Sl}{ρ:En}(k:f ρ=some (.val (.str w))):mCallP dIntS (mConsP f mNilP) ρ=some (.val (.int (dg w))):=by
 obtain ⟨k1,k2⟩:=five_len h;refine callP_to (ss:= [.val (.str w)]) (consP_to k rfl) ?_;show (if w.length<=640 then _ else _)=_;rw [if_pos k1,k2];rfl
theorem and_f{a b:En->Option Bool}{ρ:En}(h:a ρ=some false):mAnd a b ρ=some false:=by
 unfold mAnd;rw [h];rfl
theorem in_tI(neg:Bool)(e:List Int)(M:List (List Int)):inD neg (tI e) (M.map tI)=some (.val (.bool (if neg then decide (e ∉ M) else decide (e ∈ M)))):=by
 have d:=dep_tI e
 have ha:((M.map tI).all fun d=>d.canLay0)=true:=List.all_eq_true.mpr fun d hd=>by
  obtain ⟨m,_,rfl⟩:=List.mem_map.mp hd;exact lay_tI m
 have hy:(M.map tI).any (fun d=>PyData.eqv d (tI e))=decide (e ∈ M):=by
  induction M with
  | nil=>rfl
  | cons m M ih=>
   rw [List.map_cons,List.any_cons,ih (List.all_eq_true.mpr fun d hd=>List.all_eq_true.mp ha d (List.mem_cons_of_mem _ hd)),eqv_tI, <-Bool.decide_or];refine decide_eq_decide.mpr ?_;rw [List.mem_cons];exact ⟨fun z=>z.imp_left Eq.symm,fun z=>z.imp_left Eq.symm⟩
 unfold inD;rw [if_pos ⟨lay_tI e,ha,by omega⟩,hy]
 cases neg <;> simp
theorem up_snoc(l:List Int)(x:Int):Up (l ++ [x])↔Up l/\∀y ∈ l,y<x:=by
 unfold Up;rw [List.pairwise_append];simp
theorem up_last{l:List Int}{y x:Int}(h:Up (l ++ [y])):Up (l ++ [y] ++ [x])↔y<x:=by
 rw [up_snoc (l ++ [y])];refine ⟨fun z=>z.2 y (by simp),fun z=>⟨h,fun q hq=> ?_⟩⟩;rcases List.mem_append.mp hq with hq | hq
 . have:=((up_snoc l y).mp h).2 q hq;omega
 . cases List.mem_singleton.mp hq
   exact z
def Zt(t:Str):Out->Prop:=fun o=>(OkM t->Rt (.own ((efs t).map tI)) o)/\(¬OkM t->Rt (.val .none) o)
theorem zt_none{t:Str}{ρ:En}(h:¬OkM t):Zt t (.rt (.val .none) ρ):=⟨fun z=>absurd z h,fun _=>rfl⟩
theorem not_gE{t p:Str}(hp:p ∈ pcs t)(h:gE p≠true):¬OkM t:=fun z=>h (z.1 p hp)
theorem run_piece {t p : Str} (ht : Tx.Ok 100000 t) (hp : p ∈ pcs t) {T0 F1 z4 : Option Sl} {Z : Out -> Prop} {g : En -> Option Out} (hz : ∀ ρ, gE p ≠ true -> Z (.rt (.val .none) ρ))
 (k:∀z4,gE p=true->Wp g [T0,F1,some (.val (.str p)),some (.val (.tuple (il (ef p)))),z4] Z) :
 Wp (mSeq (mIf (mTest (mBin dne (mPk 2) (mK (.str "mean")))) (mFor (mItemsS (mBin dSplit (mPk 2) (mK (.str " ")))) (gVar 4) (mSeq (mIf (mTest (mBin (dInD true) (mPk 4) (mTup (mCons (mK (.str "0")) (mCons (mK (.str "1")) (mCons (mK (.str "2")) (mCons (mK (.str "3")) (mCons (mK (.str "4")) (mCons (mK (.str "5")) mNil))))))))) (mRet (mK .none)) mNext)
 (mSeq (mIf (mAnd (mTest (mBin dne (mPk 3) (mTup mNil))) (mTest (mBin dGe (mBin dix (mPk 3) (mBin dSub (mCallP dLen (mConsP (mPk 3) mNilP)) (mK (.int 1)))) (mCallP dIntS (mConsP (mPk 4) mNilP))))) (mRet (mK .none)) mNext)
 (mAsg 3 (mBin dAdd (mPk 3) (mTup (mCons (mCallP dIntS (mConsP (mPk 4) mNilP)) mNil))))))) mNext) g) [T0,F1,some (.val (.str p)),some (.val (.tuple [])),z4] Z:=by
 have sz:=h24;have okp:Tx.Ok 100000 p:=Tx.split_ok ht p hp;have okp1:=okp.1;have fewp:(wds p).length<=p.length+2:=split_few p " "
 let P2:Option Sl:=some (.val (.str p))
 have tm:mTest (mBin dne (mPk 2) (mK (.str "mean"))) [T0,F1,P2,some (.val (.tuple [])),z4]=some (!decide (p = "mean")):=by
  refine test_eq ((bin_eq (op:=dne) (a:= .val (.str p)) (b:= .val (.str "mean")) rfl rfl).trans ?_);show (eqD (.str p) (.str "mean")).map _=_;rw [eqD_str okp.2 (by decide +kernel)];rfl
 by_cases hm:p = "mean"
 . rw [decide_eq_true hm] at tm
   refine wp_skip tm ?_;have e:ef p = []:=if_pos hm;have:=k z4 (show gE p=true by unfold gE;rw [decide_eq_true hm];rfl);rw [e] at this
   exact this
 rw [decide_eq_false hm] at tm
 have eE:ef p=(wds p).map dg:=if_neg hm;have eG:gE p=((wds p).all five && decide (Up ((wds p).map dg))):=by unfold gE;rw [decide_eq_false hm,Bool.false_or]
 let V (i:Nat):List Int:=((wds p).take i).map dg
 refine wp_seqG (wp_ifT tm (wp_forL (en:= .str) (xs:=wds p) (fun i ρ=>∃z4,ρ = [T0,F1,P2,some (.val (.tuple (il (V i)))),z4]/\(∀w ∈ (wds p).take i,five w=true)/\Up (V i)) ?_ ⟨_,rfl,by simp,List.Pairwise.nil⟩ ?_ ?_))
 . unfold mItemsS;show (mBin dSplit (mPk 2) (mK (.str " ")) [T0,F1,P2,some (.val (.tuple [])),z4]).bind _=_;rw [split_to (a:=p) (b:= " ") rfl rfl (by decide +kernel) okp1];rfl
 . rintro i w ρ hi ⟨z4,rfl,hf,hu⟩;have hw:w ∈ wds p:=List.mem_of_getElem? hi;have hil:i<(wds p).length:=(List.getElem?_eq_some_iff.mp hi).1;refine ⟨_,rfl,?_⟩
   let W4:Option Sl:=some (.val (.str w))
   let E3:Option Sl:=some (.val (.tuple (il (V i))))
   show Wp _ [T0,F1,P2,E3,W4] _;have tn:=notin_five (f:=mPk 4) (ρ:= [T0,F1,P2,E3,W4]) (Tx.split_ok okp w hw).2 rfl;have eT:(wds p).take (i+1)=(wds p).take i ++ [w]:=by rw [List.take_add_one,hi];rfl
   have eV:V (i+1)=V i ++ [dg w]:=by show ((wds p).take (i+1)).map dg=_;rw [eT,List.map_append];rfl
   cases h5:five w with
   | false=>
    rw [h5] at tn
    refine wp_seqG (wp_ifT tn (wp_ret (r:= .val .none) rfl (hz _ fun z=> ?_)));rw [eG,Bool.and_eq_true] at z
    have:=List.all_eq_true.mp z.1 w hw;rw [h5] at this
    cases this
   | true=>
    rw [h5] at tn
    refine wp_skip tn ?_;have lenV:(V i).length=i:=by show (((wds p).take i).map dg).length=i;rw [List.length_map,List.length_take];omega
    have ta:mTest (mBin dne (mPk 3) (mTup mNil)) [T0,F1,P2,E3,W4]=some (!decide (V i = [])):=by
     refine test_eq ((bin_eq (op:=dne) (a:= .val (tI (V i))) (b:= .val (tI [])) rfl tupNil).trans ?_);show (eqD (tI (V i)) (tI [])).map _=_;have d1:=dep_tI (V i);have d2:=dep_tI [];unfold eqD;rw [if_pos ⟨lay_tI _,lay_tI _,by omega⟩,eqv_tI];rfl
    have sub:Up ((wds p).map dg)->Up (V (i+1)):=fun z=>by
     show Up (((wds p).take (i+1)).map dg);rw [List.map_take];exact z.sublist (List.take_sublist _ _)
    have fin:Up (V (i+1))->Wp (mAsg 3 (mBin dAdd (mPk 3) (mTup (mCons (mCallP dIntS (mConsP (mPk 4) mNilP)) mNil)))) [T0,F1,P2,E3,W4] (Lp (fun ρ=>∃z4,ρ = [T0,F1,P2,some (.val (.tuple (il (V (i+1))))),z4]/\(∀w ∈ (wds p).take (i+1),five w=true)/\Up (V (i+1))) (fun o=>match o with | .nx ρ'=>Wp g ρ' Z | o=>Z o)):=fun hu'=>by
     refine wp_asg (r:= .val (.tuple (il (V (i+1))))) ?_ ⟨W4,rfl,fun y hy=> ?_,hu'⟩
     . refine (bin_eq (op:=dAdd) (a:= .val (.tuple (il (V i)))) (b:= .val (.tuple [.int (dg w)])) rfl (tup1 (int_to h5 rfl))).trans ?_;show (if _ then _ else _)=_;rw [if_pos (by rw [il_len,lenV];show i+1<=sizeLine;omega),eV];unfold il;rw [List.map_append];rfl
     . rw [eT] at hy
       rcases List.mem_append.mp hy with hy | hy
       . exact hf y hy
       . cases List.mem_singleton.mp hy
         exact h5
    cases hV:V i with
    | nil=>
     rw [hV] at ta
     refine wp_skip (and_f ta) (fin ?_);rw [eV,hV]
     exact List.pairwise_singleton _ _
    | cons v vs=>
     have hne:V i ≠ []:=by rw [hV];simp
     rw [decide_eq_false hne] at ta
     obtain ⟨l,y,ly⟩:∃l y,V i=l ++ [y]:=⟨(V i).dropLast,(V i).getLast hne,(List.dropLast_concat_getLast hne).symm⟩
     have hix:mBin dix (mPk 3) (mBin dSub (mCallP dLen (mConsP (mPk 3) mNilP)) (mK (.int 1))) [T0,F1,P2,E3,W4]=some (.val (.int y)):=by
      have e1:mBin dSub (mCallP dLen (mConsP (mPk 3) mNilP)) (mK (.int 1)) [T0,F1,P2,E3,W4]=some (.val (.int ((l.length:Nat):Int))):=by
       refine (bin_eq (op:=dSub) (len_to (f:=mPk 3) (a:= .val (.tuple (il (V i)))) rfl (.inr rfl)) rfl).trans ?_;show some (Sl.val (.int _))=_;rw [il_len,ly,List.length_append];congr 3
       show ((l.length+1:Nat):Int) - 1=_;omega
      refine (bin_eq (op:=dix) (a:= .val (.tuple (il (V i)))) rfl e1).trans (dix_nat (.inr rfl) ?_);rw [ly];unfold il;rw [List.getElem?_map,List.getElem?_append_right (Nat.le_refl _)];simp
     have tb:mTest (mBin dGe (mBin dix (mPk 3) (mBin dSub (mCallP dLen (mConsP (mPk 3) mNilP)) (mK (.int 1)))) (mCallP dIntS (mConsP (mPk 4) mNilP))) [T0,F1,P2,E3,W4]=some (decide (y≥dg w)):=test_eq ((bin_eq (op:=dGe) hix (int_to h5 rfl)).trans rfl);have tab:=and_to ta tb;have lst:=up_last (x:=dg w) (ly ▸ hu);rw [<-ly, <-eV] at lst
     by_cases hy:y<dg w
     . exact wp_skip (tab.trans (by rw [decide_eq_false (by omega)];rfl)) (fin (lst.mpr hy))
     . refine wp_seqG (wp_ifT (tab.trans (by rw [decide_eq_true (by omega)];rfl)) (wp_ret (r:= .val .none) rfl (hz _ fun z=>hy (lst.mp (sub ?_)))));rw [eG,Bool.and_eq_true] at z
       exact of_decide_eq_true z.2
 . rintro ρ ⟨z4,rfl,hf,hu⟩;have eV:V (wds p).length=(wds p).map dg:=by show ((wds p).take _).map dg=_;rw [List.take_length]
   rw [List.take_length] at hf
   rw [eV] at hu ⊢
   rw [<-eE] at hu ⊢
   exact k z4 (by rw [eG, <-eE,decide_eq_true hu,List.all_eq_true.mpr hf];rfl)
open Ri
theorem run_told{t:Str}(ht:Tx.Ok 100000 t):Wp b_q10 [some (.val (.str t)),none,none,none,none] (Zt t):=by
 have sz:=h24;have ht1:=ht.1;have few:(pcs t).length<=t.length+2:=split_few t ", "
 let T0:Option Sl:=some (.val (.str t))
 unfold b_q10;refine wp_skip (c:=mNot (mTest (mIsi "str" (mPk 0)))) rfl (wp_asgS (r:= .own []) lstNil ?_)
 let M (j:Nat):List (List Int):=((pcs t).take j).map ef
 refine wp_seqG (wp_forL (en:= .str) (xs:=pcs t) (fun j ρ=>∃z2 z3 z4,ρ = [T0,some (.own ((M j).map tI)),z2,z3,z4]/\(∀p ∈ (pcs t).take j,gE p=true)/\(M j).Nodup) ?_ ⟨none,none,none,rfl,by simp,List.nodup_nil⟩ ?_ ?_)
 . unfold mItemsS;show (mBin dSplit (mPk 0) (mK (.str ", ")) [T0,some (.own []),none,none,none]).bind _=_;rw [split_to (a:=t) (b:= ", ") rfl rfl (by decide +kernel) ht1];rfl
 . rintro j p ρ hj ⟨z2,z3,z4,rfl,hg,hn⟩;have hp:p ∈ pcs t:=List.mem_of_getElem? hj;have eT:(pcs t).take (j+1)=(pcs t).take j ++ [p]:=by rw [List.take_add_one,hj];rfl
   have eM:M (j+1)=M j ++ [ef p]:=by show ((pcs t).take (j+1)).map ef=_;rw [eT,List.map_append];rfl
   have lM:(M j).length<=t.length+2:=by show (((pcs t).take j).map ef).length<=_;rw [List.length_map,List.length_take];omega
   refine ⟨_,rfl,wp_asgS (r:= .val (.tuple [])) tupNil ?_⟩;refine run_piece (F1:=some (.own ((M j).map tI))) ht hp (fun ρ hne=>zt_none (not_gE hp hne)) fun z4 hE=> ?_
   let E3:Option Sl:=some (.val (.tuple (il (ef p))))
   have ti:mTest (mBin (dInD false) (mPk 3) (mPk 1)) [T0,some (.own ((M j).map tI)),some (.val (.str p)),E3,z4]=some (decide (ef p ∈ M j)):=test_eq ((bin_eq (op:=dInD false) (a:= .val (tI (ef p))) (b:= .own ((M j).map tI)) rfl rfl).trans (in_tI false _ _))
   by_cases hi:ef p ∈ M j
   . refine wp_seqG (wp_ifT (ti.trans (by rw [decide_eq_true hi])) (wp_ret (r:= .val .none) rfl (zt_none fun z=> ?_)));have hs:((pcs t).take (j+1)).map ef=M j ++ [ef p]:=eM;have:=z.2.sublist (l₁:=((pcs t).take (j+1)).map ef) ((List.take_sublist _ _).map _);rw [hs] at this
     exact (List.nodup_append.mp this).2.2 _ hi _ (by simp) rfl
   . refine wp_skip (ti.trans (by rw [decide_eq_false hi])) (wp_frz ?_);refine wp_of (app_to (r:= .val (tI (ef p))) (ds:=(M j).map tI) rfl rfl (by rw [List.length_map];omega)) ⟨some (.val (.str p)),E3,z4,?_,fun q hq=> ?_,?_⟩
     . rw [eM,List.map_append];rfl
     . rw [eT] at hq
       rcases List.mem_append.mp hq with hq | hq
       . exact hg q hq
       . cases List.mem_singleton.mp hq
         exact hE
     . rw [eM];refine List.nodup_append.mpr ⟨hn,List.nodup_cons.mpr ⟨by simp,List.nodup_nil⟩,fun a ha b hb=> ?_⟩
       cases List.mem_singleton.mp hb
       exact fun e=>hi (e ▸ ha)
 . rintro ρ ⟨z2,z3,z4,rfl,hg,hn⟩;have eM:M (pcs t).length=efs t:=by show ((pcs t).take _).map ef=_;rw [List.take_length];rfl
   rw [List.take_length] at hg
   rw [eM] at hn ⊢
   exact wp_ret (r:= .own ((efs t).map tI)) rfl ⟨fun _=>rfl,fun z=>absurd ⟨hg,hn⟩ z⟩
theorem told_yes{t:Str}(ht:Tx.Ok 100000 t)(h:OkM t):m_q10 [.str t]=some (.own ((efs t).map tI)):=run_wp rfl rfl ((run_told ht).imp fun _ z=>z.1 h)
theorem told_no{t:Str}(ht:Tx.Ok 100000 t)(h:¬OkM t):m_q10 [.str t]=some (.val .none):=run_wp rfl rfl ((run_told ht).imp fun _ z=>z.2 h)
theorem told_odd {d:PyData} (hd:tyD d=some "NoneType" \/ tyD d=some "list"):m_q10 [d]=some (.val .none):=by
 refine run_wp (ρ:= [some (.val d),none,none,none,none]) rfl rfl ?_;unfold b_q10;refine wp_seqG (wp_ifT (c:=mNot (mTest (mIsi "str" (mPk 0)))) ?_ (wp_ret (r:= .val .none) rfl rfl));show Option.map _ (Option.bind (Option.bind (tyD d) _) _)=_;rcases hd with hd | hd <;> rw [hd] <;> rfl
theorem lay_ms(L:List (List Int)):(PyData.list (L.map tI)).canLay0=true:=lay_list lay_tI L
theorem dep_ms(L:List (List Int)):(PyData.list (L.map tI)).depth<=60:=by
 have:=dep_list dep_tI L;simp only [PyData.depth];omega
theorem run_ismodel{L:List (List Int)}(hL:∀l ∈ L,l.length<=100900):m_q2 [.list (L.map tI), .list (L.map tI)]=some (.val (.bool true)):=by
 have sl:=h24
 let A:Option Sl:=some (.val (.list (L.map tI)))
 refine run_wp (ρ:= [A,A,none]) rfl rfl ?_;unfold b_q2;refine wp_skip (or_to (k:=false) (l:=false) rfl (ne_same (a:= .val (.list (L.map tI))) (b:= .val (.list (L.map tI))) rfl rfl rfl (lay_ms L) (dep_ms L))) ?_;refine wp_seq (P:=fun ρ=>∃z,ρ = [A,A,z]) ?_ ?_
 . refine wp_forL (en:=tI) (xs:=L) (fun _ ρ=>∃z,ρ = [A,A,z]) rfl ⟨_,rfl⟩ ?_ (fun ρ h=>h);rintro j x ρ hj ⟨z,rfl⟩;have hx:=hL x (List.mem_of_getElem? hj);refine ⟨_,rfl,wp_ifF (or_to (k:=false) (l:=false) rfl (ne_same (a:= .own []) (b:= .own []) (lc_to (ds:=il x) rfl (by rw [il_len];omega) (compM_none fun d hd=> ?_)) lstNil rfl rfl (by decide))) (wp_next ⟨_,rfl⟩)⟩;obtain ⟨s,_,rfl⟩:=List.mem_map.mp hd;refine el_if (b:=false) (fg:=gVar 0) (ρ0:= [none]) (d:= .int s) (ρ1:= [some (.val (.int s))]) (r:= .val (.int s)) rfl (not_to (test_eq (call_to (ds:= [.int s]) rfl (run_whole s)))) rfl
 . rintro ρ ⟨z,rfl⟩;exact wp_ret (r:= .val (.bool true)) rfl rfl
theorem run_right{t:Str}(ht:Tx.Ok 100000 t)(hc:cm t<=16):m_q6 [.str t]=some (.val (.bool true)):=by
 obtain ⟨ry,rn⟩:=run_rmodel ht hc
 let T0:Option Sl:=some (.val (.str t))
 let NN:Option Sl:=some (.val .none)
 let D:List PyData:=(efs t).map tI
 refine run_wp (ρ:= [T0,none,none,none,none]) rfl rfl ?_;unfold b_q6
 by_cases ok:OkM t
 . refine wp_asgS (r:= .own D) (call_to (ds:= [.str t]) rfl (told_yes ht ok)) ?_;refine wp_seqN (ρ':= [T0,some (.own D),NN,none,none]) rfl (wp_asgS (r:= .val .none) rfl ?_);refine wp_seqN (ρ':= [T0,some (.own D),NN,some (.own D),none]) (try_to (ρ:= [T0,some (.own D),NN,NN,none]) (ds:= [.str t]) rfl (ry ok)) ?_;refine wp_seqG (wp_ifT (c:=mTest (mBin disNN (mPk 1) (mK .none))) rfl (wp_frz (wp_frz ?_)));show Wp _ [T0,some (.val (.list D)),NN,some (.val (.list D)),none] _;refine wp_ret (andV_to rfl (call_to (ds:= [.list D, .list D]) rfl (run_ismodel fun l hl=> ?_))) rfl;obtain ⟨p,hp,rfl⟩:=List.mem_map.mp hl;have a:=(Tx.split_ok (b:= ", ") ht p hp).1;have b:(wds p).length<=p.length+2:=split_few p " ";unfold ef
   split
   . simp
   . rw [List.length_map];omega
 . refine wp_asgS (r:= .val .none) (call_to (ds:= [.str t]) rfl (told_no ht ok)) ?_;refine wp_seqN (ρ':= [T0,NN,NN,none,none]) rfl (wp_asgS (r:= .val .none) rfl ?_);refine wp_seqN (ρ':= [T0,NN,some (.val xD),NN,none]) (try_no (ρ:= [T0,NN,NN,NN,none]) (ds:= [.str t]) rfl (rn ok)) ?_;refine wp_skip (c:=mTest (mBin disNN (mPk 1) (mK .none))) rfl (wp_skip (c:=mTest (mXi 2 false)) rfl (wp_ret (r:= .val (.bool true)) rfl rfl))
theorem run_right_odd {d:PyData} (hd:tyD d=some "NoneType" \/ tyD d=some "list"):m_q6 [d]=some (.val (.bool true)):=by
 let T0:Option Sl:=some (.val d)
 let NN:Option Sl:=some (.val .none)
 refine run_wp (ρ:= [T0,none,none,none,none]) rfl rfl ?_;unfold b_q6;refine wp_asgS (r:= .val .none) (call_to (ds:= [d]) rfl (told_odd hd)) ?_;refine wp_seqN (ρ':= [T0,NN,NN,none,none]) rfl (wp_asgS (r:= .val .none) rfl ?_);refine wp_seqN (ρ':= [T0,NN,some (.val xD),NN,none]) (try_no (ρ:= [T0,NN,NN,NN,none]) (ds:= [d]) rfl (run_rmodel_no hd)) ?_;refine wp_skip (c:=mTest (mBin disNN (mPk 1) (mK .none))) rfl (wp_skip (c:=mTest (mXi 2 false)) rfl (wp_ret (r:= .val (.bool true)) rfl rfl))
open Ri
theorem run_wpL{n k:Nat}{g:En->Option Out}{ρ:En}{ds:List PyData}{Q:Sl->Prop}(hl:ds.length=k)(e:ds.map (fun d=>some (Sl.val d))++List.replicate (n - ds.length) none=ρ)(h:Wp g ρ (fun o=>∃r,Rt r o/\Q r)):∃r,runD n g k ds=some r/\Q r:=by
 obtain ⟨o,h1,r,h2,h3⟩:=h;exact ⟨r,run_wp hl e ⟨o,h1,h2⟩,h3⟩
def mx(c j:Int):Int:=match m_q3 [.int c, .int j] with
 | some (.val (.int v))=>v
 | _=>0
theorem mx_eq(c:Int){j:Int}(h0:0<=j)(h1:j<1000000):m_q3 [.int c, .int j]=some (.val (.int (mx c j))):=by
 obtain ⟨v,e,_⟩:=run_mix c h0 h1;have:mx c j=v:=by unfold mx;rw [e]
 rw [this];exact e
theorem md_to{f g:En->Option Sl}{ρ:En}{i:Int}{m:Nat}(h:f ρ=some (.val (.int i)))(k:g ρ=some (.val (.int (m:Nat))))(hm:0<m):∃v:Nat,mBin dMod f g ρ=some (.val (.int (v:Nat)))/\v<m:=by
 have a:=Int.fmod_nonneg_of_pos i (show (0:Int)<m by omega);have b:=Int.fmod_lt_of_pos i (show (0:Int)<m by omega);refine ⟨(i.fmod m).toNat,(bin_eq (op:=dMod) h k).trans ((modS (by omega)).trans ?_),by omega⟩;rw [Int.toNat_of_nonneg a]
theorem eq1_to{f:En->Option Sl}{ρ:En}{v:Nat}(h:f ρ=some (.val (.int (v:Nat))))(k:Int):mTest (mBin deq f (mK (.int k))) ρ=some (decide (((v:Nat):Int)=k)):=eq_int h rfl
def GoodL(L:List (List Int)):Prop:=L.length<=6/\∀l ∈ L,l.length<=6/\∀x ∈ l,0<=x/\x<=5
theorem cut_il(l:List Int)(lo hi:Option Int):cutD (il l) lo hi=il (cutD l lo hi):=by
 unfold cutD;rw [il_len];unfold il;rw [<-List.map_drop, <-List.map_take]
theorem cut_mem{l:List Int}{lo hi:Option Int}{x:Int}(h:x ∈ cutD l lo hi):x ∈ l:=List.mem_of_mem_drop (List.mem_of_mem_take h)
theorem cut_len(l:List Int)(lo hi:Option Int):(cutD l lo hi).length<=l.length:=by
 unfold cutD;rw [List.length_take,List.length_drop];omega
theorem run_model(c:Int):∃r,m_q4 [.int c]=some r/\∃L,r = .own (L.map tI)/\GoodL L:=by
 have sz:=h24
 let C0:Option Sl:=some (.val (.int c))
 refine run_wpL (ρ:= [C0,none,none,none,none]) rfl rfl ?_;unfold b_q4;refine wp_asgS (r:= .own []) lstNil ?_;have mc:∀(k:Nat) (f:En->Option Sl) (ρ:En),mVar 0 ρ=some (.val (.int c))->f ρ=some (.val (.int (k:Nat)))->k<1000->mCall m_q3 (mCons (mVar 0) (mCons f mNil)) ρ=some (.val (.int (mx c k))):=fun k f ρ h0 h1 hk=>call_to (ds:= [.int c, .int (k:Nat)]) (cons_to h0 (cons_to (as:= []) h1 rfl)) (mx_eq c (by omega) (by omega));obtain ⟨v,ev,hv⟩:=md_to (mc 1 (mK (.int 1)) [C0,some (.own []),none,none,none] rfl rfl (by decide)) (g:=mK (.int 6)) (m:=6) rfl (by decide);refine wp_seq (P:=fun ρ=>∃(L:List (List Int)) (z2 z3 z4:Option Sl),ρ = [C0,some (.own (L.map tI)),z2,z3,z4]/\GoodL L) ?_ ?_
 . refine wp_forR0 (n:=1+v) (fun k ρ=>∃(L:List (List Int)) (z2 z3 z4:Option Sl),ρ = [C0,some (.own (L.map tI)),z2,z3,z4]/\L.length<=k/\∀l ∈ L,l.length<=6/\∀x ∈ l,0<=x/\x<=5) (rng1_to (consP_to ((bin_eq (op:=dAdd) (a:= .val (.int 1)) rfl ev).trans (by show some (Sl.val (.int (1+(v:Int))))=some (Sl.val (.int ((1+v:Nat):Int)));congr 3)) rfl) (by omega)) ⟨[],none,none,none,rfl,Nat.le_refl _,by simp⟩ ?_ (fun ρ ⟨L,z2,z3,z4,e,h1,h2⟩=>⟨L,z2,z3,z4,e,by omega,h2⟩);rintro k ρ hk ⟨L,z2,z3,z4,rfl,hL,hg⟩
   let F1:Option Sl:=some (.own (L.map tI))
   let K2:Option Sl:=some (.val (.int (k:Nat)))
   refine ⟨_,rfl,?_⟩;show Wp _ [C0,F1,K2,z3,z4] _;have ek:∀(n:Nat) (z3 z4:Option Sl),mBin dAdd (mK (.int (n:Nat))) (mPk 2) [C0,F1,K2,z3,z4]=some (.val (.int ((n+k:Nat):Int))):=fun n _ _=>(bin_eq (op:=dAdd) (a:= .val (.int (n:Nat))) (b:= .val (.int (k:Nat))) rfl rfl).trans rfl;obtain ⟨m,em,hm⟩:=md_to (mc (2+k) _ [C0,F1,K2,z3,z4] rfl (ek 2 z3 z4) (by omega)) (g:=mK (.int 64)) (m:=64) rfl (by decide);refine wp_asgS (r:= .val (.int (m:Nat))) em ?_
   let M3:Option Sl:=some (.val (.int (m:Nat)))
   show Wp _ [C0,F1,K2,M3,z4] _;obtain ⟨u,eu,hu⟩:=md_to (mc (10+k) _ [C0,F1,K2,M3,z4] rfl (ek 10 M3 z4) (by omega)) (g:=mK (.int 5)) (m:=5) rfl (by decide)
   let b:Nat->Bool:=fun j=>decide ((((m:Nat):Int) / 2 ^ (0+(j:Int)).toNat).fmod 2=1)
   let S:List Int:=((List.range 6).filter b).map fun j:Nat=>0+(j:Int)
   have hS:∀x ∈ S,0<=x/\x<=5:=fun x hx=>by
    obtain ⟨j,hj,rfl⟩:=List.mem_map.mp hx;have:=List.mem_range.mp (List.mem_filter.mp hj).1;omega
   have lS:S.length<=6:=by
    show (((List.range 6).filter b).map _).length<=6;rw [List.length_map];exact Nat.le_trans (List.length_filter_le ..) (by simp)
   have hlc:mLC (subE [some 3,none]) (mRng1 (mConsP (mK (.int 6)) mNilP)) (gVar 1) (mTest (mBin deq (mBin dMod (mBin dShr (mPk 0) (mPk 1)) (mK (.int 2))) (mK (.int 1)))) (mVar 1) [C0,F1,K2,M3,z4]=some (.own (il S)):=by
    refine lc_to (ds:=rngD 0 6) (rng1_to (j:=6) rfl (by decide)) (by rw [rngD,List.length_map,List.length_range];omega) ?_;have e:il S=((List.range 6).filter b).map fun j:Nat=>PyData.int (0+(j:Int)):=by show List.map _ (List.map _ _)=_;rw [List.map_map];rfl
    rw [e];refine compM_filt (en:=fun j:Nat=>PyData.int (0+(j:Nat))) (g:=fun j:Nat=>PyData.int (0+(j:Int))) (b:=b) (xs:=List.range 6) fun j hj=> ?_;refine el_if (b:=b j) (fg:=gVar 1) (ρ0:= [M3,none]) (d:= .int (0+(j:Nat))) (ρ1:= [M3,some (.val (.int (0+(j:Nat))))]) (r:= .val (.int (0+(j:Nat)))) rfl (eq_int ((bin_eq (op:=dMod) ((bin_eq (op:=dShr) (a:= .val (.int (m:Nat))) (b:= .val (.int (0+(j:Nat)))) rfl rfl).trans (shrS (by omega))) rfl).trans (modS (by decide))) rfl) rfl
   let E:List Int:=cutD S none (some ((u:Nat):Int))
   refine wp_asgS (r:= .val (tI E)) (callP_to (ss:= [.own (il E)]) (consP_to (as:= []) ?_ rfl) rfl) ?_
   . unfold mSl;rw [hlc,Option.bind_some];show Option.bind (mPart _ [C0,F1,K2,M3,z4]) _=_
     have ep:mPart (mBin dMod (mCall m_q3 (mCons (mVar 0) (mCons (mBin dAdd (mK (.int 10)) (mPk 2)) mNil))) (mK (.int 5))) [C0,F1,K2,M3,z4]=some (some ((u:Nat):Int)):=by
      unfold mPart;rw [show mBin dMod (mCall m_q3 (mCons (mVar 0) (mCons (mBin dAdd (mK (.int 10)) (mPk 2)) mNil))) (mK (.int 5)) [C0,F1,K2,M3,z4]=some (.val (.int (u:Nat))) from eu];rfl
     rw [ep,Option.bind_some];show some (Sl.own (cutD (il S) none (some ((u:Nat):Int))))=_;rw [cut_il]
   have gE':E.length<=6/\∀x ∈ E,0<=x/\x<=5:=⟨Nat.le_trans (cut_len ..) lS,fun x hx=>hS x (cut_mem hx)⟩;generalize E=E at gE'
   let E4:Option Sl:=some (.val (tI E))
   show Wp _ [C0,F1,K2,M3,E4] _;have tn:mTest (mBin (dInD true) (mPk 4) (mPk 1)) [C0,F1,K2,M3,E4]=some (decide (E ∉ L)):=test_eq ((bin_eq (op:=dInD true) (a:= .val (tI E)) (b:= .own (L.map tI)) rfl rfl).trans (in_tI true _ _));refine wp_if tn ?_
   split
   . refine wp_frz (wp_of (app_to (r:= .val (tI E)) (ds:=L.map tI) rfl rfl (by rw [List.length_map];omega)) ⟨L ++ [E],K2,M3,E4,?_,by rw [List.length_append];simp;exact hL,fun l hl=> ?_⟩)
     . rw [List.map_append];rfl
     . rcases List.mem_append.mp hl with hl | hl
       . exact hg l hl
       . cases List.mem_singleton.mp hl
         exact gE'
   . exact wp_next ⟨L,K2,M3,E4,rfl,by omega,hg⟩
 . rintro ρ ⟨L,z2,z3,z4,rfl,hL⟩;exact wp_ret (r:= .own (L.map tI)) rfl ⟨_,rfl,L,rfl,hL⟩
open Ri
theorem lst_to{f:En->Option (List PyData)}{ρ:En}{ds:List PyData}(h:f ρ=some ds)(k:ds.length<=sizeLine):mLst f ρ=some (.own ds):=by
 unfold mLst;rw [h];exact if_pos (e:=none) k
def Fine(d:PyData):Prop:=(∃s,d = .str s/\Tx.Ok 100000 s/\cm s<=16)\/tyD d=some "NoneType" \/ tyD d=some "list"
theorem fine_right{d:PyData}(h:Fine d):m_q6 [d]=some (.val (.bool true)):=by
 rcases h with ⟨s,rfl,hs⟩ | h
 . exact run_right hs.1 hs.2
 . exact run_right_odd h
theorem fine_all:∀d ∈ ([.str "", .str " ", .str ",", .str ", ", .str "mean,", .str "mean, ", .str "mean,0", .str "mean , 0", .str " mean", .str "mean ", .str "Mean", .str "mean 0", .str "0 mean", .str "6", .str "0 0", .str "1 0", .str "01", .str "-1", .str "0\x20\x201", .str "mean, mean", .str "0 1, 0 1", .str "0\n", .none, .list [.tuple []]]:List PyData),Fine d:=by
 intro d hd;simp only [List.mem_cons,List.not_mem_nil,or_false] at hd
 rcases hd with rfl | rfl | rfl | rfl | rfl | rfl | rfl | rfl | rfl | rfl | rfl | rfl | rfl | rfl | rfl | rfl | rfl | rfl | rfl | rfl | rfl | rfl | rfl | rfl
 all_goals first
  | exact .inl ⟨_,rfl,⟨by decide +kernel,by decide +kernel⟩,by decide +kernel⟩
  | exact .inr (.inl rfl)
  | exact .inr (.inr rfl)
theorem run_odd(c:Int):∃r,m_q5 [.int c]=some r/\∃d,r = .val d/\Fine d:=by
 let C0:Option Sl:=some (.val (.int c))
 refine run_wpL (ρ:= [C0,none]) rfl rfl ?_;unfold b_q5
 let A:List PyData:= [.str "", .str " ", .str ",", .str ", ", .str "mean,", .str "mean, ", .str "mean,0", .str "mean , 0", .str " mean", .str "mean ", .str "Mean", .str "mean 0"]
 let B:List PyData:= [.str "0 mean", .str "6", .str "0 0", .str "1 0", .str "01", .str "-1", .str "0\x20\x201", .str "mean, mean", .str "0 1, 0 1", .str "0\n", .none, .list [.tuple []]]
 refine wp_asgS (r:= .own A) (if_pos (e:=none) (show 12<=sizeLine by decide)) ?_
 have eb:mLst (mCons (mK (.str "0 mean")) (mCons (mK (.str "6")) (mCons (mK (.str "0 0")) (mCons (mK (.str "1 0")) (mCons (mK (.str "01")) (mCons (mK (.str "-1")) (mCons (mK (.str "0\x20\x201")) (mCons (mK (.str "mean, mean")) (mCons (mK (.str "0 1, 0 1")) (mCons (mK (.str "0\n")) (mCons (mK .none) (mCons (mLst (mCons (mTup mNil) mNil)) mNil)))))))))))) [C0,some (.own A)]=some (.own B):=by
  exact lst_to (cons_to (a:= .val (.str "0 mean")) rfl (cons_to (a:= .val (.str "6")) rfl (cons_to (a:= .val (.str "0 0")) rfl (cons_to (a:= .val (.str "1 0")) rfl (cons_to (a:= .val (.str "01")) rfl (cons_to (a:= .val (.str "-1")) rfl (cons_to (a:= .val (.str "0\x20\x201")) rfl (cons_to (a:= .val (.str "mean, mean")) rfl (cons_to (a:= .val (.str "0 1, 0 1")) rfl (cons_to (a:= .val (.str "0\n")) rfl (cons_to (a:= .val .none) rfl (cons_to (as:= []) (lst1 tupNil) rfl)))))))))))) (show 12<=sizeLine by decide)
 refine wp_asgS (r:= .own (A++B)) ((bin_eq (op:=dAdd) (a:= .own A) rfl eb).trans (add_own rfl rfl (show 24<=sizeLine by decide))) ?_;obtain ⟨v,ev,hv⟩:=md_to (f:=mCall m_q3 (mCons (mVar 0) (mCons (mK (.int 30)) mNil))) (ρ:= [C0,some (.own (A++B))]) (call_to (ds:= [.int c, .int 30]) rfl (mx_eq c (by decide) (by decide))) (g:=mK (.int 24)) (m:=24) rfl (by decide);have hl:v<(A++B).length:=hv;refine wp_ret (r:= .val (A++B)[v]) ((bin_eq (op:=dix) (a:= .own (A++B)) rfl ev).trans (dix_nat (.inl rfl) (List.getElem?_eq_getElem hl))) ⟨_,rfl,_,rfl,fine_all _ (List.getElem_mem _)⟩
theorem run_spoiled{t:Str}(ht:Tx.Ok 1000 t)(hcm:cm t<=6)(c:Int):∃r,m_q8 [.str t, .int c]=some r/\∃d,r = .val d/\Fine d:=by
 have sz:=h24;have ht1:=ht.1
 let T0:Option Sl:=some (.val (.str t))
 let C1:Option Sl:=some (.val (.int c))
 let S2:Option Sl:=some (.val (.str "\x20\x20\x20,,01234567mean-+\n\t"))
 refine run_wpL (ρ:= [T0,C1,none,none,none,none]) rfl rfl ?_;unfold b_q8;refine wp_asgS (r:= .val (.str "\x20\x20\x20,,01234567mean-+\n\t")) rfl ?_;have mc:∀(k:Nat) (z3 z4 z5:Option Sl),k<1000->mCall m_q3 (mCons (mVar 1) (mCons (mK (.int (k:Nat))) mNil)) [T0,C1,S2,z3,z4,z5]=some (.val (.int (mx c k))):=fun k _ _ _ hk=>call_to (ds:= [.int c, .int (k:Nat)]) rfl (mx_eq c (by omega) (by omega));obtain ⟨w,ew,hw⟩:=md_to (mc 31 none none none (by decide)) (g:=mK (.int 8)) (m:=8) rfl (by decide);refine wp_asgS (r:= .val (.int (w:Nat))) ew ?_
 let W3:Option Sl:=some (.val (.int (w:Nat)))
 have elen:∀z3 z4 z5,mBin dAdd (mCallP dLenX (mConsP (mPk 0) mNilP)) (mK (.int 1)) [T0,C1,S2,z3,z4,z5]=some (.val (.int ((t.length+1:Nat):Int))):=fun _ _ _=>(bin_eq (op:=dAdd) (a:= .val (.int (t.length:Nat))) (b:= .val (.int 1)) (callP_to (ss:= [.val (.str t)]) rfl (if_pos (show t.length<=sizeLine by omega))) rfl).trans rfl;obtain ⟨a,ea,ha⟩:=md_to (mc 32 W3 none none (by decide)) (elen W3 none none) (by omega);refine wp_asgS (r:= .val (.int (a:Nat))) ea ?_
 let A4:Option Sl:=some (.val (.int (a:Nat)))
 have sl:(Str.ofString "\x20\x20\x20,,01234567mean-+\n\t").length=21:=by decide +kernel
 obtain ⟨g,eg,hg⟩:=md_to (mc 33 W3 A4 none (by decide)) (g:=mCallP dLenX (mConsP (mPk 2) mNilP)) (m:=21) ((callP_to (ss:= [.val (.str "\x20\x20\x20,,01234567mean-+\n\t")]) (r:= .val (.int ((Str.ofString "\x20\x20\x20,,01234567mean-+\n\t").length:Nat))) rfl (if_pos (e:=none) (show (Str.ofString "\x20\x20\x20,,01234567mean-+\n\t").length<=sizeLine by rw [sl];decide))).trans (by rw [sl])) (by decide);have sl2:(Str.ofString "\x20\x20\x20,,01234567mean-+\n\t").cps.toList.length=21:=by rw [<-sl];exact Array.length_toList
 have hgl:g<(Str.ofString "\x20\x20\x20,,01234567mean-+\n\t").cps.toList.length:=by rw [sl2];exact hg
 have gg:(Str.ofString "\x20\x20\x20,,01234567mean-+\n\t").cps.toList[g]? = some (Str.ofString "\x20\x20\x20,,01234567mean-+\n\t").cps.toList[g]:=List.getElem?_eq_getElem hgl;have hch:(Str.ofString "\x20\x20\x20,,01234567mean-+\n\t").cps.toList[g]<0x110000:=Tx.ok_iff.mp (show PyData.strOk (Str.ofString "\x20\x20\x20,,01234567mean-+\n\t")=true by decide +kernel) _ (List.getElem_mem _);generalize (Str.ofString "\x20\x20\x20,,01234567mean-+\n\t").cps.toList[g]=ch at gg hch
 have eix:dIxX (.val (.str "\x20\x20\x20,,01234567mean-+\n\t")) (.val (.int (g:Nat)))=some (.val (.str ⟨#[ch]⟩)):=by
  have q:(if (Str.ofString "\x20\x20\x20,,01234567mean-+\n\t").length<=sizeLine then (atI (Str.ofString "\x20\x20\x20,,01234567mean-+\n\t").cps.toList ((g:Nat):Int)).map fun c=>Sl.val (.str ⟨#[c]⟩) else none)=some (.val (.str ⟨#[ch]⟩)):=by
   rw [if_pos (by rw [sl];decide),Dm.atI_nat gg];rfl
  exact q
 refine wp_asgS (r:= .val (.str ⟨#[ch]⟩)) ((bin_eq (op:=dIxX) (a:= .val (.str "\x20\x20\x20,,01234567mean-+\n\t")) rfl eg).trans eix) ?_
 have okc:PyData.strOk ⟨#[ch]⟩=true:=Tx.ok_iff.mpr fun x hx=>by
  have hx:x ∈ [ch]:=hx
  cases List.mem_singleton.mp hx
  exact hch
 let G5:Option Sl:=some (.val (.str ⟨#[ch]⟩))
 have slo:∀(lo hi:Option Int),Tx.Ok 1000 (Txt.slice t lo hi)/\cm (Txt.slice t lo hi)<=6:=fun lo hi=>⟨⟨Nat.le_trans (Txt.slice_le t lo hi) ht1,Tx.ok_q24 ht.2 lo hi⟩,Nat.le_trans (cm_slice t lo hi) hcm⟩
 have slt:∀(fl fh:En->Option (Option Int)) (lo hi:Option Int),fl [T0,C1,S2,W3,A4,G5]=some lo->fh [T0,C1,S2,W3,A4,G5]=some hi->mSlX (mPk 0) fl fh [T0,C1,S2,W3,A4,G5]=some (.val (.str (Txt.slice t lo hi))):=fun fl fh lo hi h1 h2=>by
  unfold mSlX;rw [show mPk 0 [T0,C1,S2,W3,A4,G5]=some (.val (.str t)) from rfl,Option.bind_some,h1,Option.bind_some,h2,Option.bind_some];exact if_pos (show t.length<=sizeLine by omega)
 have add:∀ {f h:En->Option Sl} {x y:Str} {m n p q:Nat},f [T0,C1,S2,W3,A4,G5]=some (.val (.str x))->h [T0,C1,S2,W3,A4,G5]=some (.val (.str y))->(Tx.Ok m x/\cm x<=p)->(Tx.Ok n y/\cm y<=q)->m+n<=100000->mBin dAddX f h [T0,C1,S2,W3,A4,G5]=some (.val (.str (x++y)))/\Tx.Ok (m+n) (x++y)/\cm (x++y)<=p+q:=fun {f h x y m n p q} h1 h2 k1 k2 hmn=>by
  have a1:=k1.1.1;have a2:=k2.1.1;refine ⟨(bin_eq (op:=dAddX) h1 h2).trans (if_pos (by omega)),⟨?_,Tx.ok_app k1.1.2 k2.1.2⟩,?_⟩
  . rw [Str.length_append];omega
  . rw [cm_app];have:=k1.2;have:=k2.2;omega
 have g1:Tx.Ok 1 ⟨#[ch]⟩/\cm ⟨#[ch]⟩<=1:=⟨⟨Nat.le_refl _,okc⟩,List.count_le_length (l:= [ch])⟩;have b1:mPart (mPk 4) [T0,C1,S2,W3,A4,G5]=some (some ((a:Nat):Int)):=rfl;have b2:mPart (mBin dAdd (mPk 4) (mK (.int 1))) [T0,C1,S2,W3,A4,G5]=some (some (((a:Nat):Int)+1)):=rfl;have fin:∀ {f:En->Option Sl} {x:Str} {n p:Nat} {Z:Out->Prop},(∀d ρ',Fine d->Z (.rt (.val d) ρ'))->f [T0,C1,S2,W3,A4,G5]=some (.val (.str x))/\Tx.Ok n x/\cm x<=p->n<=100000->p<=16->Wp (mRet f) [T0,C1,S2,W3,A4,G5] Z:=fun {f x n p Z} z h hn hp=>wp_ret h.1 (z _ _ (.inl ⟨x,rfl,⟨Nat.le_trans h.2.1.1 hn,h.2.1.2⟩,Nat.le_trans h.2.2 hp⟩));obtain ⟨c1,c2⟩:=add (slt mNoPart (mPart (mPk 4)) none _ rfl b1) (show mPk 5 [T0,C1,S2,W3,A4,G5]=some (.val (.str ⟨#[ch]⟩)) from rfl) (slo _ _) g1 (by decide);have tw:∀k:Int,mTest (mBin deq (mPk 3) (mK (.int k))) [T0,C1,S2,W3,A4,G5]=some (decide (((w:Nat):Int)=k)):=fun k=>eq1_to rfl k;refine wp_seqG (wp_if (tw 0) ?_)
 split
 . exact fin (fun d _ h=>⟨_,rfl,_,rfl,h⟩) (add c1 (slt (mPart (mPk 4)) mNoPart _ none b1 rfl) c2 (slo _ _) (by decide)) (by decide) (by decide)
 refine wp_next (wp_seqG (wp_if (tw 1) ?_))
 split
 . exact fin (fun d _ h=>⟨_,rfl,_,rfl,h⟩) (add (slt mNoPart (mPart (mPk 4)) none _ rfl b1) (slt (mPart (mBin dAdd (mPk 4) (mK (.int 1)))) mNoPart _ none b2 rfl) (slo _ _) (slo _ _) (by decide)) (by decide) (by decide)
 have tl:mTest (mBin dLt (mPk 3) (mK (.int 5))) [T0,C1,S2,W3,A4,G5]=some (decide (((w:Nat):Int)<5)):=test_eq ((bin_eq (op:=dLt) (a:= .val (.int (w:Nat))) (b:= .val (.int 5)) rfl rfl).trans rfl);refine wp_next (wp_seqG (wp_if tl ?_))
 split
 . exact fin (fun d _ h=>⟨_,rfl,_,rfl,h⟩) (add c1 (slt (mPart (mBin dAdd (mPk 4) (mK (.int 1)))) mNoPart _ none b2 rfl) c2 (slo _ _) (by decide)) (by decide) (by decide)
 refine wp_next (wp_seqG (wp_if (tw 5) ?_))
 split
 . obtain ⟨r,er,d,rfl,hd⟩:=run_odd c;exact wp_ret (call_to (ds:= [.int c]) rfl er) ⟨_,rfl,_,rfl,hd⟩
 refine wp_next (wp_seqG (wp_if (tw 6) ?_))
 split
 . have hsp:mBin dSplit (mPk 0) (mK (.str ", ")) [T0,C1,S2,W3,A4,G5]=some (.own ((pcs t).map .str)):=split_to rfl rfl (by decide +kernel) (by omega);have hpos:0<(pcs t).length:=List.length_pos_iff.mpr (Tx.split_ne t ", ");obtain ⟨y,ey,hy⟩:=md_to (mc 34 W3 A4 G5 (by decide)) ((len_to hsp (.inl rfl)).trans (by rw [List.length_map])) hpos;have gy:(pcs t)[y]? = some (pcs t)[y]:=List.getElem?_eq_getElem hy;have my:(pcs t)[y] ∈ pcs t:=List.getElem_mem _;generalize (pcs t)[y]=z at gy my
   have ez:mBin dix (mBin dSplit (mPk 0) (mK (.str ", "))) (mBin dMod (mCall m_q3 (mCons (mVar 1) (mCons (mK (.int 34)) mNil))) (mCallP dLen (mConsP (mBin dSplit (mPk 0) (mK (.str ", "))) mNilP))) [T0,C1,S2,W3,A4,G5]=some (.val (.str z)):=(bin_eq (op:=dix) hsp ey).trans (dix_nat (.inl rfl) (by rw [List.getElem?_map,gy];rfl));obtain ⟨d1,d2⟩:=add (show mPk 0 [T0,C1,S2,W3,A4,G5]=some (.val (.str t)) from rfl) (show mK (.str ", ") [T0,C1,S2,W3,A4,G5]=some (.val (.str ", ")) from rfl) ⟨ht,hcm⟩ (show Tx.Ok 2 ", " /\ cm ", " <= 1 from ⟨⟨by decide +kernel,by decide +kernel⟩,by decide +kernel⟩) (by decide);exact fin (fun d _ h=>⟨_,rfl,_,rfl,h⟩) (add d1 ez d2 ⟨Tx.split_ok ht z my,Nat.le_trans (split_cm_le t ", " z my) hcm⟩ (by decide)) (by decide) (by decide)
 exact wp_next (fin (fun d _ h=>⟨_,rfl,_,rfl,h⟩) ⟨rfl,ht,hcm⟩ (by decide) (by decide))
open Ri
def sT(x:Int):Str:=Str.ofString (toString x)
def rowT(l:List Int):Str:=Txt.join " " (l.map sT)
def wd(l:List Int):Str:=if l = [] then "mean" else rowT l
def txt(L:List (List Int)):Str:=Txt.join ", " (L.map wd)
theorem sT_ok{x:Int}(h:0<=x/\x<=5):(sT x).length<=1/\PyData.strOk (sT x)=true/\cm (sT x)<=0:=by
 have:x=0\/x=1\/x=2\/x=3\/x=4\/x=5:=by omega
 rcases this with rfl | rfl | rfl | rfl | rfl | rfl <;> decide +kernel
theorem row_ok{l:List Int}(hl:l.length<=6)(h:∀x ∈ l,0<=x/\x<=5):(rowT l).length<=14/\PyData.strOk (rowT l)=true/\JoinOk " " (l.map sT)=true/\cm (rowT l)<=0:=by
 have k:∀y ∈ l.map sT,y.length<=1:=fun y hy=>by
  obtain ⟨x,hx,rfl⟩:=List.mem_map.mp hy;exact (sT_ok (h x hx)).1
 have e:(Str.ofString " ").length=1:=by decide +kernel
 have a:=Tx.join_len " " (l.map sT) k;rw [List.length_map,e] at a
 refine ⟨by show (Txt.join _ _).length<=_;omega,Tx.ok_q13 (by decide +kernel) fun y hy=> ?_,Tx.join_ok " " (l.map sT) k (by rw [List.length_map,e];omega),?_⟩
 . obtain ⟨x,hx,rfl⟩:=List.mem_map.mp hy;exact (sT_ok (h x hx)).2.1
 . have := join_cm_le " " (a := 0) (l.map sT) fun y hy => by
    obtain ⟨x,hx,rfl⟩:=List.mem_map.mp hy;exact (sT_ok (h x hx)).2.2
   rw [show cm (Str.ofString " ")=0 by decide +kernel] at this
   show cm (Txt.join _ _)<=0;omega
theorem wd_ok{l:List Int}(hl:l.length<=6)(h:∀x ∈ l,0<=x/\x<=5):(wd l).length<=14/\PyData.strOk (wd l)=true/\cm (wd l)<=0:=by
 unfold wd
 split
 . decide +kernel
 . obtain ⟨a,b,_,d⟩:=row_ok hl h;exact ⟨a,b,d⟩
theorem txt_ok{L:List (List Int)}(h:GoodL L):Tx.Ok 1000 (txt L)/\JoinOk ", " (L.map wd)=true/\cm (txt L)<=6:=by
 have k:∀y ∈ L.map wd,y.length<=14/\PyData.strOk y=true/\cm y<=0:=fun y hy=>by
  obtain ⟨x,hx,rfl⟩:=List.mem_map.mp hy;exact wd_ok (h.2 x hx).1 (h.2 x hx).2
 have e:(Str.ofString ", ").length=2:=by decide +kernel
 have a:=Tx.join_len ", " (L.map wd) fun y hy=>(k y hy).1;rw [List.length_map,e] at a
 have h1:=h.1;refine ⟨⟨by show (Txt.join _ _).length<=_;omega,Tx.ok_q13 (by decide +kernel) fun y hy=>(k y hy).2.1⟩,Tx.join_ok ", " (L.map wd) (fun y hy=>(k y hy).1) (by rw [List.length_map,e];omega),?_⟩;have:=join_cm_le ", " (a:=0) (L.map wd) fun y hy=>(k y hy).2.2;rw [show cm (Str.ofString ", ")=1 by decide +kernel,List.length_map] at this
 show cm (Txt.join _ _)<=6;omega
theorem join_to{f:En->Option Sl}{ρ:En}{s:Str}{zs:List Str}(h:f ρ=some (.own (zs.map .str)))(k:JoinOk s zs=true):mBin dJoin (mK (.str s)) f ρ=some (.val (.str (Txt.join s zs))):=by
 refine (bin_eq (op:=dJoin) (a:= .val (.str s)) rfl h).trans ?_;show (strsOf (zs.map .str)).bind _=_;rw [strsOf_map,Option.bind_some,if_pos k]
theorem big_of{x:Int}(h:x.natAbs<10 ^ 60):bigS x:=h
theorem strB_to{f:En->Option Sl}{ρ:En}{x:Int}(h:f ρ=some (.val (.int x)))(k:bigS x):mCallP dStrB (mConsP f mNilP) ρ=some (.val (.str (sT x))):=callP_to (ss:= [.val (.int x)]) (consP_to h rfl) (if_pos k)
theorem big5{x:Int}(h:0<=x/\x<=5):bigS x:=big_of (Nat.lt_of_le_of_lt (show x.natAbs<=5 by omega) (by decide))
theorem nums_to {i : Nat} {ρ : En} {l : List Int} (h0 : mVar i ρ = some (.val (tI l))) (hl : l.length <= 6) (h : ∀ x ∈ l, 0 <= x /\ x <= 5) :
 mBin dJoin (mK (.str " ")) (mLC (subE [none]) (mItemsS (mVar i)) (gVar 0) mYes (mCallP dStrB (mConsP (mPk 0) mNilP))) ρ=some (.val (.str (rowT l))):=by
 have sz:=h24;have e:(l.map sT).map PyData.str=l.map fun x=> .str (sT x):=by rw [List.map_map];rfl
 refine join_to (lc_to (ds:=il l) ?_ (by rw [il_len];omega) ?_) (row_ok hl h).2.2.1
 . unfold mItemsS;rw [h0];rfl
 . rw [e];refine compM_map (en:= .int) fun x hx=> ?_;exact el_to (fg:=gVar 0) (ρ0:= [none]) (d:= .int x) (ρ1:= [some (.val (.int x))]) (r:= .val (.str (sT x))) rfl (strB_to rfl (big5 (h x hx)))
theorem run_shnums{l:List Int}(hl:l.length<=6)(h:∀x ∈ l,0<=x/\x<=5):m_q23 [tI l]=some (.val (.str (rowT l))):=by
 refine run_wp (ρ:= [some (.val (tI l))]) rfl rfl ?_;unfold b_q23;exact wp_ret (nums_to rfl hl h) rfl
theorem run_sheff{l:List Int}(hl:l.length<=6)(h:∀x ∈ l,0<=x/\x<=5):m_q19 [tI l]=some (.val (.str (wd l))):=by
 refine run_wp (ρ:= [some (.val (tI l))]) rfl rfl ?_;unfold b_q19;refine wp_ret (r:= .val (.str (wd l))) ?_ rfl;unfold mIfE wd
 cases l with
 | nil=>rfl
 | cons x l=>
  rw [show mTruT (mPk 0) [some (.val (tI (x::l)))]=some true from rfl,Option.bind_some,if_pos rfl,if_neg (by simp)];exact call_to (ds:= [tI (x::l)]) rfl (run_shnums hl h)
theorem wds_str(L:List (List Int)):(L.map wd).map PyData.str=L.map fun l=> .str (wd l):=by rw [List.map_map];rfl
theorem run_shmodel{L:List (List Int)}(h:GoodL L):m_q22 [.list (L.map tI)]=some (.val (.str (txt L))):=by
 have sz:=h24;have h1:=h.1;refine run_wp (ρ:= [some (.val (.list (L.map tI)))]) rfl rfl ?_;unfold b_q22;refine wp_ret (join_to (lc_to (ds:=L.map tI) rfl (by rw [List.length_map];omega) ?_) (txt_ok h).2.1) rfl;rw [wds_str];refine compM_map (en:=tI) fun l hl=> ?_;exact el_to (fg:=gVar 0) (ρ0:= [none]) (d:=tI l) (ρ1:= [some (.val (tI l))]) (r:= .val (.str (wd l))) rfl (call_to (ds:= [tI l]) rfl (run_sheff (h.2 l hl).1 (h.2 l hl).2))
theorem run_text{L:List (List Int)}(h:GoodL L):m_q9 [.list (L.map tI)]=some (.val (.str (txt L))):=by
 have sz:=h24;have h1:=h.1
 let D0:Option Sl:=some (.val (.list (L.map tI)))
 refine run_wp (ρ:= [D0,none,none,none]) rfl rfl ?_;unfold b_q9;refine wp_asgS (r:= .own []) lstNil ?_;refine wp_seq (P:=fun ρ=>∃z2 z3,ρ = [D0,some (.own ((L.map wd).map .str)),z2,z3]) ?_ ?_
 . refine wp_forL (en:=tI) (xs:=L) (fun j ρ=>∃z2 z3,ρ = [D0,some (.own (((L.take j).map wd).map .str)),z2,z3]) rfl ⟨none,none,rfl⟩ ?_ (fun ρ h=>by rw [List.take_length] at h;exact h);rintro j l ρ hj ⟨z2,z3,rfl⟩;have hl:=h.2 l (List.mem_of_getElem? hj)
   let F1:Option Sl:=some (.own (((L.take j).map wd).map .str))
   let E2:Option Sl:=some (.val (tI l))
   refine ⟨_,rfl,?_⟩;show Wp _ [D0,F1,E2,z3] _;refine wp_asgS (r:= .val (.str (rowT l))) (nums_to (i:=2) (ρ:= [D0,F1,E2,z3]) rfl hl.1 hl.2) ?_
   let W3:Option Sl:=some (.val (.str (rowT l)))
   show Wp _ [D0,F1,E2,W3] _
   have te:mTest (mBin deq (mPk 2) (mTup mNil)) [D0,F1,E2,W3]=some (decide (l = [])):=by
    refine test_eq ((bin_eq (op:=deq) (a:= .val (tI l)) (b:= .val (tI [])) rfl tupNil).trans ?_);show (eqD (tI l) (tI [])).map _=_;have d1:=dep_tI l;have d2:=dep_tI [];unfold eqD;rw [if_pos ⟨lay_tI _,lay_tI _,by omega⟩,eqv_tI];rfl
   have fin:Wp (mFrz 3 (mApp 1 (mVar 3))) [D0,F1,E2,some (.val (.str (wd l)))] (Lp (fun ρ=>∃z2 z3,ρ = [D0,some (.own (((L.take (j+1)).map wd).map .str)),z2,z3]) (Nx fun ρ=>∃z2 z3,ρ = [D0,some (.own ((L.map wd).map .str)),z2,z3])):=by
    refine wp_frz (wp_of (app_to (r:= .val (.str (wd l))) (ds:=((L.take j).map wd).map .str) rfl rfl (by rw [List.length_map,List.length_map,List.length_take];omega)) ⟨E2,some (.val (.str (wd l))),?_⟩);have et:((L.take (j+1)).map wd).map PyData.str=((L.take j).map wd).map PyData.str ++ [.str (wd l)]:=by rw [List.take_add_one,hj];simp
    rw [et];rfl
   by_cases he:l = []
   . refine wp_seqN (ρ' := [D0, F1, E2, some (.val (.str (wd l)))]) (if_to (te.trans (by rw [decide_eq_true he])) (by
      show mAsg 3 (mK (.str "mean")) [D0,F1,E2,W3]=_;unfold wd;rw [if_pos he];rfl)) fin
   . refine wp_skip (te.trans (by rw [decide_eq_false he])) ?_;have:wd l=rowT l:=if_neg he;rw [this] at fin
     exact fin
 . rintro ρ ⟨z2,z3,rfl⟩;exact wp_ret (join_to (f:=mPk 1) rfl (txt_ok h).2.1) rfl
open Ri
abbrev NN:Int:=10000000000000000000000000000000000000000
theorem hNN:NN=10000000000000000000000000000000000000000:=rfl
theorem run_div{a b:Int}(hb:1<=b)(hB:b<=NN):∃r,m_q0 [.int a, .int b]=some r/\∃g:Int,r = .val (.int g)/\1<=g/\g<=NN:=by
 refine run_wpL (ρ:= [some (.val (.int a)),some (.val (.int b))]) rfl rfl ?_;unfold b_q0
 let μ:En->Nat:=fun ρ=>match ((ρ[1]?).join:Option Sl) with
  | some (Sl.val (PyData.int y))=>y.toNat
  | _=>0
 refine wp_seq (P:=fun ρ=>∃x:Int,ρ = [some (.val (.int x)),some (.val (.int 0))]/\1<=x/\x<=NN) ?_ ?_
 . refine wp_while (fun ρ=>∃x y:Int,ρ = [some (.val (.int x)),some (.val (.int y))]/\((1<=y/\y<=NN)\/(y=0/\1<=x/\x<=NN))) μ ⟨a,b,rfl, .inl ⟨hb,hB⟩⟩ ?_;rintro ρ ⟨x,y,rfl,h⟩;have tn:=ne_int (fa:=mPk 1) (fb:=mK (.int 0)) (ρ:= [some (.val (.int x)),some (.val (.int y))]) (i:=y) (j:=0) rfl rfl;rcases h with ⟨y1,y2⟩ | ⟨rfl,x1,x2⟩
   . refine .inr ⟨tn.trans (by rw [decide_eq_false (by omega)];rfl),?_⟩;have m1:=Int.fmod_nonneg_of_pos x (show (0:Int)<y by omega);have m2:=Int.fmod_lt_of_pos x (show (0:Int)<y by omega)
     have ep:mPar 0 1 (mCons (mVar 1) (mCons (mBin dMod (mPk 0) (mPk 1)) mNil)) [some (.val (.int x)),some (.val (.int y))]=some (.nx [some (.val (.int y)),some (.val (.int (x.fmod y)))]):=by
      unfold mPar;rw [cons_to (a:= .val (.int y)) rfl (cons_to (a:= .val (.int (x.fmod y))) (as:= []) ((bin_eq (op:=dMod) (a:= .val (.int x)) (b:= .val (.int y)) rfl rfl).trans (modS (by omega))) rfl)];rfl
     refine wp_of ep ⟨⟨y,x.fmod y,rfl,?_⟩,?_⟩
     . by_cases h0:x.fmod y=0
       . exact .inr ⟨h0,y1,y2⟩
       . exact .inl ⟨by omega,by omega⟩
     . show (x.fmod y).toNat<y.toNat;omega
   . exact .inl ⟨tn.trans rfl,x,rfl,x1,x2⟩
 . rintro ρ ⟨x,rfl,x1,x2⟩;refine wp_ret (r:= .val (.int x)) ?_ ⟨_,rfl,x,rfl,x1,x2⟩;show some (Sl.val (.int (if x<0 then -x else x)))=_;rw [if_neg (by omega)]
theorem pow40{ρ:En}:mBin dPow (mK (.int 10)) (mK (.int 40)) ρ=some (.val (.int NN)):=(bin_eq (op:=dPow) (a:= .val (.int 10)) (b:= .val (.int 40)) rfl rfl).trans ((powS ⟨by decide,by decide,by decide⟩).trans (by rw [show (10:Int) ^ (40:Int).toNat=NN by decide +kernel]))
theorem bt140{x:Int}(h : -NN<=x/\x<=NN):Bt 140 x:=by
 show x.natAbs<2 ^ 140;have:(2:Nat) ^ 140=1393796574908163946345982392040522594123776:=by decide +kernel
 have hN:=hNN;rw [this];omega
theorem big140{x:Int}(h:Bt 140 x):bigS x:=Nat.lt_of_lt_of_le h (by decide +kernel)
theorem run_frac{c:Int}(hc:Bt 1048576 c):∃r,m_q1 [.int c]=some r/\∃a b:Int,r = .val (.tuple [.int a, .int b])/\bigS a/\bigS b:=by
 have hN:=hNN
 let C0:Option Sl:=some (.val (.int c))
 refine run_wpL (ρ:= [C0,none,none,none]) rfl rfl ?_;unfold b_q1;have mc:∀(k:Nat) (z1 z2 z3:Option Sl),k<1000->mCall m_q3 (mCons (mVar 0) (mCons (mK (.int (k:Nat))) mNil)) [C0,z1,z2,z3]=some (.val (.int (mx c k))):=fun k _ _ _ hk=>call_to (ds:= [.int c, .int (k:Nat)]) rfl (mx_eq c (by omega) (by omega));obtain ⟨v,ev,hv⟩:=md_to (mc 40 none none none (by decide)) (g:=mK (.int 13)) (m:=13) rfl (by decide);refine wp_asgS (r:= .val (.int ((v:Int) - 6))) ((bin_eq (op:=dSub) ev rfl).trans rfl) ?_;refine wp_seq (P:=fun ρ=>∃x:Int,ρ = [C0,some (.val (.int x)),none,none] /\ -NN<=x/\x<=NN) ?_ ?_
 . obtain ⟨q,eq,_⟩:=md_to (mc 41 (some (.val (.int ((v:Int) - 6)))) none none (by decide)) (g:=mK (.int 3)) (m:=3) rfl (by decide);refine wp_if (eq1_to eq 0) ?_
   split
   . have m1:=Int.fmod_nonneg_of_pos (c+NN - 1) (show (0:Int)<2*NN - 1 by decide);have m2:=Int.fmod_lt_of_pos (c+NN - 1) (show (0:Int)<2*NN - 1 by decide);refine wp_asg (r:= .val (.int ((c+NN - 1).fmod (2*NN - 1) - (NN - 1)))) ?_ ⟨_,rfl,by omega,by omega⟩;refine (bin_eq (op:=dSub) ((bin_eq (op:=dMod) ((bin_eq (op:=dSub) ((bin_eq (op:=dAdd) (a:= .val (.int c)) rfl pow40).trans rfl) rfl).trans rfl) ((bin_eq (op:=dSub) ((bin_eq (op:=dRep) (a:= .val (.int 2)) rfl pow40).trans (mulS (cmL (by decide) (by decide)))) rfl).trans rfl)).trans (modS (by decide))) ((bin_eq (op:=dSub) pow40 rfl).trans rfl)).trans rfl
   . exact wp_next ⟨_,rfl,by omega,by omega⟩
 rintro ρ ⟨x,rfl,x1,x2⟩
 let X1:Option Sl:=some (.val (.int x))
 obtain ⟨u,eu,hu⟩:=md_to (mc 42 X1 none none (by decide)) (g:=mK (.int 6)) (m:=6) rfl (by decide);refine wp_asgS (r:= .val (.int (1+(u:Int)))) ((bin_eq (op:=dAdd) (a:= .val (.int 1)) rfl eu).trans rfl) ?_;refine wp_seq (P:=fun ρ=>∃y:Int,ρ = [C0,X1,some (.val (.int y)),none]/\1<=y/\y<=NN) ?_ ?_
 . obtain ⟨q,eq,_⟩:=md_to (mc 43 X1 (some (.val (.int (1+(u:Int))))) none (by decide)) (g:=mK (.int 4)) (m:=4) rfl (by decide);refine wp_if (eq1_to eq 0) ?_
   split
   . have m1:=Int.fmod_nonneg_of_pos (c*c+5) (show (0:Int)<NN - 1 by decide);have m2:=Int.fmod_lt_of_pos (c*c+5) (show (0:Int)<NN - 1 by decide);refine wp_asg (r:= .val (.int (1+(c*c+5).fmod (NN - 1)))) ?_ ⟨_,rfl,by omega,by omega⟩;refine (bin_eq (op:=dAdd) (a:= .val (.int 1)) rfl ((bin_eq (op:=dMod) ((bin_eq (op:=dAdd) ((bin_eq (op:=dRep) (a:= .val (.int c)) (b:= .val (.int c)) rfl rfl).trans (mulS (.inr ⟨1048576,1048576,hc,hc,by decide⟩))) rfl).trans rfl) ((bin_eq (op:=dSub) pow40 rfl).trans rfl)).trans (modS (by decide)))).trans rfl
   . exact wp_next ⟨_,rfl,by omega,by omega⟩
 rintro ρ ⟨y,rfl,y1,y2⟩;obtain ⟨r,er,g,rfl,g1,g2⟩:=run_div (a:=x) y1 y2
 let Y2:Option Sl:=some (.val (.int y))
 refine wp_seqN (ρ':= [C0,X1,Y2,some (.val (.int g))]) (f:=mFrz 1 _) (asg_to (ρ:= [C0,X1,Y2,none]) (call_to (ds:= [.int x, .int y]) rfl er)) ?_;have cd:∀z:Int,CDivB z g:=fun z=>⟨by omega,(bt140 ⟨by omega,g2⟩).mono (by decide)⟩;refine wp_ret (tup2 ((bin_eq (op:=dFdiv) (a:= .val (.int x)) (b:= .val (.int g)) rfl rfl).trans (divS (cd x))) ((bin_eq (op:=dFdiv) (a:= .val (.int y)) (b:= .val (.int g)) rfl rfl).trans (divS (cd y)))) ⟨_,rfl,_,_,rfl,big140 (Bt.fdiv (bt140 ⟨x1,x2⟩)),big140 (Bt.fdiv (bt140 ⟨by omega,y2⟩))⟩
open Ri
theorem ofs_ok(s:String):PyData.strOk (Str.ofString s)=true:=by
 rw [Str.ofString_eq_toList];refine Tx.ok_iff.mpr fun c hc=> ?_;have hc:c ∈ s.toList.map Char.toNat:=hc;obtain ⟨k,_,rfl⟩:=List.mem_map.mp hc;have:=k.valid;rcases this with h | h
 . have:k.toNat<0xd800:=h;omega
 . exact h.2
theorem sT_big{x:Int}(h:bigS x):Tx.Ok 61 (sT x):=⟨by
 show (Str.ofString (toString x)).length<=61;rw [PySem.ofString_length];exact int_text_length_le10 (k:=60) (by decide) h,ofs_ok _⟩
def fw(q:Int×Int):Str:=if q.2=1 then sT q.1 else sT q.1 ++ "/" ++ sT q.2
theorem fw_ok{q:Int×Int}(h:bigS q.1/\bigS q.2):Tx.Ok 123 (fw q):=by
 have a:=sT_big h.1;have b:=sT_big h.2;have a1:=a.1;have b1:=b.1;unfold fw
 split
 . exact ⟨by omega,a.2⟩
 . refine ⟨?_,Tx.ok_app (Tx.ok_app a.2 (by decide +kernel)) b.2⟩;rw [Str.length_append,Str.length_append,show (Str.ofString "/").length=1 by decide +kernel];omega
theorem run_shfrac{q:Int×Int}(h:bigS q.1/\bigS q.2):m_q20 [encF q]=some (.val (.str (fw q))):=by
 let Q0:Option Sl:=some (.val (encF q))
 refine run_wp (ρ:= [Q0,none,none]) rfl rfl ?_;unfold b_q20;refine wp_asgS (r:= .val (.int q.1)) ((bin_eq (op:=dix) (a:= .val (encF q)) (b:= .val (.int 0)) rfl rfl).trans (dix_nat (j:=0) (.inr rfl) rfl)) ?_;refine wp_asgS (r:= .val (.int q.2)) ((bin_eq (op:=dix) (a:= .val (encF q)) (b:= .val (.int 1)) rfl rfl).trans (dix_nat (j:=1) (.inr rfl) rfl)) ?_;show Wp _ [Q0,some (.val (.int q.1)),some (.val (.int q.2))] _;refine wp_ret (r:= .val (.str (fw q))) ?_ rfl;have te:=eq_int (fa:=mPk 2) (fb:=mK (.int 1)) (ρ:= [Q0,some (.val (.int q.1)),some (.val (.int q.2))]) (i:=q.2) (j:=1) rfl rfl;unfold mIfE fw;rw [te,Option.bind_some]
 by_cases h1:q.2=1
 . rw [decide_eq_true h1,if_pos rfl,if_pos h1];exact strB_to rfl h.1
 . rw [decide_eq_false h1,if_neg (by simp),if_neg h1];exact if_pos h
theorem fws_str(L:List (Int×Int)):(L.map fw).map PyData.str=L.map fun q=> .str (fw q):=by rw [List.map_map];rfl
def GoodF(L:List (Int×Int)):Prop:=L.length<=63/\∀q ∈ L,bigS q.1/\bigS q.2
theorem fws_ok{L:List (Int×Int)}(h:GoodF L):PyData.strOk (Txt.join " " (L.map fw))=true/\JoinOk " " (L.map fw)=true:=by
 have k:∀y ∈ L.map fw,Tx.Ok 123 y:=fun y hy=>by
  obtain ⟨x,hx,rfl⟩:=List.mem_map.mp hy;exact fw_ok (h.2 x hx)
 have e:(Str.ofString " ").length=1:=by decide +kernel
 have h1:=h.1;exact ⟨Tx.ok_q13 (by decide +kernel) fun y hy=>(k y hy).2,Tx.join_ok " " (L.map fw) (fun y hy=>(k y hy).1) (by rw [List.length_map,e];omega)⟩
theorem run_shfracs{L:List (Int×Int)}(h:GoodF L):m_q21 [.list (L.map encF)]=some (.val (.str (Txt.join " " (L.map fw)))):=by
 have sz:=h24;have h1:=h.1;refine run_wp (ρ:= [some (.val (.list (L.map encF)))]) rfl rfl ?_;unfold b_q21;refine wp_ret (join_to (lc_to (ds:=L.map encF) rfl (by rw [List.length_map];omega) ?_) (fws_ok h).2) rfl;rw [fws_str];refine compM_map (en:=encF) fun q hq=> ?_;exact el_to (fg:=gVar 0) (ρ0:= [none]) (d:=encF q) (ρ1:= [some (.val (encF q))]) (r:= .val (.str (fw q))) rfl (call_to (ds:= [encF q]) rfl (run_shfrac (h.2 q hq)))
theorem run_shown{L:List (Int×Int)}(h:GoodF L):m_q7 [.list (L.map encF)]=some (.val (.str (Txt.join " " (L.map fw)))):=by
 have sz:=h24;have h1:=h.1
 let D0:Option Sl:=some (.val (.list (L.map encF)))
 refine run_wp (ρ:= [D0,none,none,none,none]) rfl rfl ?_;unfold b_q7;refine wp_asgS (r:= .own []) lstNil ?_;refine wp_seq (P:=fun ρ=>∃z2 z3 z4,ρ = [D0,some (.own ((L.map fw).map .str)),z2,z3,z4]) ?_ ?_
 . refine wp_forL (en:=encF) (xs:=L) (fun j ρ=>∃z2 z3 z4,ρ = [D0,some (.own (((L.take j).map fw).map .str)),z2,z3,z4]) rfl ⟨none,none,none,rfl⟩ ?_ (fun ρ h=>by rw [List.take_length] at h;exact h);rintro j q ρ hj ⟨z2,z3,z4,rfl⟩;have hq:=h.2 q (List.mem_of_getElem? hj)
   let F1:Option Sl:=some (.own (((L.take j).map fw).map .str))
   let A2:Option Sl:=some (.val (.int q.1))
   let B3:Option Sl:=some (.val (.int q.2))
   refine ⟨[D0,F1,A2,B3,z4],rfl,?_⟩;refine wp_asgS (r:= .val (.str (sT q.1))) (strB_to rfl hq.1) ?_
   let W4:Option Sl:=some (.val (.str (sT q.1)))
   show Wp _ [D0,F1,A2,B3,W4] _;have tn:=ne_int (fa:=mPk 3) (fb:=mK (.int 1)) (ρ:= [D0,F1,A2,B3,W4]) (i:=q.2) (j:=1) rfl rfl
   have fin:Wp (mFrz 4 (mApp 1 (mVar 4))) [D0,F1,A2,B3,some (.val (.str (fw q)))] (Lp (fun ρ=>∃z2 z3 z4,ρ = [D0,some (.own (((L.take (j+1)).map fw).map .str)),z2,z3,z4]) (Nx fun ρ=>∃z2 z3 z4,ρ = [D0,some (.own ((L.map fw).map .str)),z2,z3,z4])):=by
    refine wp_frz (wp_of (app_to (r:= .val (.str (fw q))) (ds:=((L.take j).map fw).map .str) rfl rfl (by rw [List.length_map,List.length_map,List.length_take];omega)) ⟨A2,B3,some (.val (.str (fw q))),?_⟩);have et:((L.take (j+1)).map fw).map PyData.str=((L.take j).map fw).map PyData.str ++ [.str (fw q)]:=by rw [List.take_add_one,hj];simp
    rw [et];rfl
   by_cases he:q.2=1
   . refine wp_skip (tn.trans (by rw [decide_eq_true he];rfl)) ?_;have:fw q=sT q.1:=if_pos he;rw [this] at fin
     exact fin
   . have a:=sT_big hq.1;have b:=sT_big hq.2;have a1:=a.1;have b1:=b.1;have l1:(Str.ofString "/").length=1:=by decide +kernel
     refine wp_seqN (ρ':= [D0,F1,A2,B3,some (.val (.str (fw q)))]) (if_to (b:=true) (tn.trans (by rw [decide_eq_false he];rfl)) (asg_to (i:=4) (ρ:= [D0,F1,A2,B3,W4]) (r:= .val (.str (fw q))) ?_)) fin;have:fw q=sT q.1 ++ "/" ++ sT q.2:=if_neg he;rw [this];refine (bin_eq (op:=dAddX) ((bin_eq (op:=dAddX) (a:= .val (.str (sT q.1))) (b:= .val (.str "/")) rfl rfl).trans (if_pos (by omega))) (strB_to rfl hq.2)).trans (if_pos ?_);rw [Str.length_append];omega
 . rintro ρ ⟨z2,z3,z4,rfl⟩;exact wp_ret (join_to (f:=mPk 1) rfl (fws_ok h).2) rfl
def fq(c:Int):Int×Int:=match m_q1 [.int c] with
 | some (.val (.tuple [.int a, .int b]))=>(a,b)
 | _=>(0,0)
theorem fq_eq{c:Int}(hc:Bt 1048576 c):m_q1 [.int c]=some (.val (encF (fq c)))/\bigS (fq c).1/\bigS (fq c).2:=by
 obtain ⟨r,e,a,b,rfl,ha,hb⟩:=run_frac hc;have:fq c=(a,b):=by unfold fq;rw [e]
 rw [this];exact ⟨e,ha,hb⟩
theorem law_true(ns:List Int)(hns:ns.length<=63)(hbt:∀n ∈ ns,Bt 1048576 n):m_law [.list (ns.map .int)]=some (.val (.bool true)):=by
 have sz:=h24
 let S:Option Sl:=some (.val (.list (ns.map .int)))
 have hlen:=cells_len ns
 let CV:Option Sl:=some (.val (.list (il (cellsOf ns))))
 refine run_wp (ρ:= [S,none,none,none,none,none,none,none]) rfl rfl ?_;unfold b_law;refine wp_asgS (run_cells (n:=0) rfl) ?_;refine wp_seq (P:=fun ρ=>∃z2 z5 z6 z7,ρ = [S,CV,z2,none,none,z5,z6,z7]) ?_ ?_
 . refine wp_frz ?_;show Wp _ [S,CV,none,none,none,none,none,none] _;refine wp_forL (en:=PyData.int) (xs:=cellsOf ns) (fun _ ρ=>∃z2 z5 z6 z7,ρ = [S,CV,z2,none,none,z5,z6,z7]) rfl ⟨_,_,_,_,rfl⟩ ?_ (fun ρ h=>h);rintro j c ρ hj ⟨z2,z5,z6,z7,rfl⟩;obtain ⟨r,er,L,rfl,hL⟩:=run_model c
   let C2:Option Sl:=some (.val (.int c))
   let L6:Option Sl:=some (.own (L.map tI))
   let V6:Option Sl:=some (.val (.list (L.map tI)))
   let X:Option Sl:=some (.val (.str (txt L)))
   obtain ⟨okt,_,cmt⟩:=txt_ok hL;have okt':Tx.Ok 100000 (txt L):=⟨Nat.le_trans okt.1 (by decide),okt.2⟩;refine ⟨[S,CV,C2,none,none,z5,z6,z7],rfl,?_⟩;refine wp_asgS (r:= .own (L.map tI)) (call_to (ds:= [.int c]) rfl er) ?_;refine wp_seqN (ρ':= [S,CV,C2,none,none,z5,V6,X]) (f:=mFrz 6 _) (asg_to (ρ:= [S,CV,C2,none,none,z5,V6,z7]) (call_to (ds:= [.list (L.map tI)]) rfl (run_text hL))) ?_;refine wp_seqN (ρ':= [S,CV,C2,none,none,X,V6,X]) (f:=mFrz 6 _) (asg_to (ρ:= [S,CV,C2,none,none,z5,V6,X]) (call_to (ds:= [.list (L.map tI)]) rfl (run_shmodel hL))) ?_;refine wp_skip (or_to (k:=false) (l:=false) rfl (or_to (k:=false) (l:=false) (ne_same (a:= .val (.str (txt L))) (b:= .val (.str (txt L))) rfl rfl rfl okt.2 (by show PyData.depth (.str _)<=60;simp [PyData.depth])) (ne_same (a:= .val (.list (L.map tI))) (b:= .own (L.map tI)) rfl (call_to (ds:= [.int c]) rfl er) rfl (lay_ms L) (dep_ms L)))) ?_;refine wp_frz (wp_frz ?_);show Wp _ [S,CV,C2,none,none,X,V6,X] _;obtain ⟨r,es,d,rfl,hd⟩:=run_spoiled okt cmt c;exact wp_ifF (or_to (k:=false) (l:=false) (not_to (k:=true) (test_eq (call_to (ds:= [.str (txt L)]) rfl (run_right okt' (by omega))))) (not_to (k:=true) (test_eq (call_to (ds:= [d]) (cons_to (a:= .val d) (as:= []) (call_to (ds:= [.str (txt L), .int c]) rfl es) rfl) (fine_right hd))))) (wp_next ⟨_,_,_,_,rfl⟩)
 rintro ρ ⟨z2,z5,z6,z7,rfl⟩
 let Q:List (Int×Int):=ns.map fq
 have hQ:GoodF Q:=⟨by show (ns.map fq).length<=63;rw [List.length_map];exact hns,fun q hq=>by
  obtain ⟨c,hc,rfl⟩:=List.mem_map.mp hq;exact (fq_eq (hbt c hc)).2⟩
 have hsl:mSl (mPk 0) mNoPart (mPart (mK (.int 63))) [S,CV,z2,none,none,z5,z6,z7]=some (.own (ns.map .int)):=by
  show some (Sl.own (cutD (ns.map PyData.int) none (some ((63:Nat):Int))))=_;unfold cutD;rw [HT.sIx_none,HT.sIx_nat,List.length_map,List.drop_zero,Nat.sub_zero,Nat.min_eq_right hns,List.take_of_length_le (by rw [List.length_map];exact Nat.le_refl _)]
 have hlc:mLC (subE [none]) (mItemsS (mSl (mPk 0) mNoPart (mPart (mK (.int 63))))) (gVar 0) mYes (mCall m_q1 (mCons (mVar 0) mNil)) [S,CV,z2,none,none,z5,z6,z7]=some (.own (Q.map encF)):=by
  refine lc_to (ds:=ns.map .int) ?_ (by rw [List.length_map];omega) ?_
  . unfold mItemsS;rw [hsl];rfl
  . have e:Q.map encF=ns.map fun c=>encF (fq c):=by show List.map _ (List.map _ _)=_;rw [List.map_map];rfl
    rw [e];refine compM_map (en:=PyData.int) fun c hc=> ?_;exact el_to (fg:=gVar 0) (ρ0:= [none]) (d:= .int c) (ρ1:= [some (.val (.int c))]) (r:= .val (encF (fq c))) rfl (call_to (ds:= [.int c]) rfl (fq_eq (hbt c hc)).1)
 refine wp_asgS hlc (wp_asgS (r:= .own (Q.map encF)) rfl ?_)
 let O:Option Sl:=some (.own (Q.map encF))
 let V:Option Sl:=some (.val (.list (Q.map encF)))
 let T5:Option Sl:=some (.val (.str (Txt.join " " (Q.map fw))))
 refine wp_seqN (ρ':= [S,CV,z2,V,O,T5,z6,z7]) (f:=mFrz 3 _) (asg_to (ρ:= [S,CV,z2,V,O,z5,z6,z7]) (call_to (ds:= [.list (Q.map encF)]) rfl (run_shfracs hQ))) ?_;refine wp_frz ?_;show Wp _ [S,CV,z2,V,V,T5,z6,z7] _;have dS:∀s:Str,(PyData.str s).depth<=60:=fun s=>by simp [PyData.depth]
 have emp:m_q21 [.list []]=some (.val (.str (Txt.join " " []))):=run_shfracs (L:= []) ⟨by decide,fun _ h=>by cases h⟩;refine wp_ret (andV_to (r:= .val (.bool true)) rfl (andV_to (eq_same (a:= .val (.str (Txt.join " " (Q.map fw)))) (b:= .val (.str (Txt.join " " (Q.map fw)))) rfl (call_to (ds:= [.list (Q.map encF)]) rfl (run_shown hQ)) rfl (fws_ok hQ).1 (dS _)) (andV_to (eq_same (a:= .val (.list (Q.map encF))) (b:= .val (.list (Q.map encF))) rfl rfl rfl ?_ ?_) (eq_same (a:= .val (.str (Txt.join " " []))) (b:= .val (.str "")) (call_to (ds:= [.list []]) (cons_to (as:= []) lstNil rfl) emp) rfl ?_ (by decide +kernel) (dS _))))) rfl
 . exact lay_list (fun q=>rfl) Q
 . have:=dep_list dep_F Q;simp only [Sl.dat,PyData.depth];omega
 . show PyData.str _=PyData.str _;congr 1
abbrev Na_ (K:PySem.W.Frag) (n:Str) (f:Addr):Prop:=PySem.W.nsIn K mainGlobals n=some (some (.ref f))
abbrev Nz_ (K:PySem.W.Frag) (n:Str):Prop:=PySem.W.nsIn K mainGlobals n=some none
abbrev Co_ (K:PySem.W.Frag) (c:Value) (n:Str):Prop:=PySem.W.codeIn K c n=true
abbrev Ke_ (K:PySem.W.Frag) (f:Addr):Prop:=PySem.W.keepIn K (.ref f)=true
abbrev Lo_ (K:PySem.W.Frag) (f:Addr) (oc:Value) (od:Option Addr) (n q:Str) (s:Stmt) (kV dc pm:Value) (an:Option Addr) (cd ct:Value) (sl:Array (Option Value)):Prop:=K.lookup f=some ⟨oc,od, .func (PySem.W.fnOf n q (defArgs s) (defBody s) (defScope s) .none kV dc pm an cd ct),sl⟩
local macro_rules | `(tactic| walk_at "u1") => `(tactic| exact fun _ _ _ _ _ _ us hl => match us, hl with | [_], _ => rfl)
local macro_rules | `(tactic| walk_at "u2") => `(tactic| exact fun _ _ _ _ _ _ us hl => match us, hl with | [_, _], _ => rfl)
local macro_rules | `(tactic| walk_at "u3") => `(tactic| exact fun _ _ _ _ _ _ us hl => match us, hl with | [_, _, _], _ => rfl)
theorem all_mk {l : PySem.W.OpenLaw} {w : World} {K : PySem.W.Frag} {h : Heap} {mg : Str -> Option Value} {fa f1 f2 f3 f4 f5 f6 f7 f8 f9 f10 f11 f12 f13 f14 f15 f16 f17 f18 f19 f20 f21 f22 f23 f24 c_TrialError c_NoEffect c_NoText c_NoRow c_NoThing c_NoFit : Addr} {od1 an1 od2 an2 od3 an3 od4 an4 od5 an5 od6 an6 od7 an7 od8 an8 od9 an9 od10 an10 od11 an11 od12 an12 od13 an13 od14 an14 od15 an15 od16 an16 od17 an17 od18 an18 od19 an19 od20 an20 od21 an21 od22 an22 od23 an23 od24 an24 dd_x od_x e3_x e4_x : Option Addr} {sl1 sl2 sl3 sl4 sl5 sl6 sl7 sl8 sl9 sl10 sl11 sl12 sl13 sl14 sl15 sl16 sl17 sl18 sl19 sl20 sl21 sl22 sl23 sl24 sl_x e9_x ea_x : Array (Option Value)} {oc1 kV1 dc1 pm1 cd1 ct1 oc2 kV2 dc2 pm2 cd2 ct2 oc3 kV3 dc3 pm3 cd3 ct3 oc4 kV4 dc4 pm4 cd4 ct4 oc5 kV5 dc5 pm5 cd5 ct5 oc6 kV6 dc6 pm6 cd6 ct6 oc7 kV7 dc7 pm7 cd7 ct7 oc8 kV8 dc8 pm8 cd8 ct8 oc9 kV9 dc9 pm9 cd9 ct9 oc10 kV10 dc10 pm10 cd10 ct10 oc11 kV11 dc11 pm11 cd11 ct11 oc12 kV12 dc12 pm12 cd12 ct12 oc13 kV13 dc13 pm13 cd13 ct13 oc14 kV14 dc14 pm14 cd14 ct14 oc15 kV15 dc15 pm15 cd15 ct15 oc16 kV16 dc16 pm16 cd16 ct16 oc17 kV17 dc17 pm17 cd17 ct17 oc18 kV18 dc18 pm18 cd18 ct18 oc19 kV19 dc19 pm19 cd19 ct19 oc20 kV20 dc20 pm20 cd20 ct20 oc21 kV21 dc21 pm21 cd21 ct21 oc22 kV22 dc22 pm22 cd22 ct22 oc23 kV23 dc23 pm23 cd23 ct23 oc24 kV24 dc24 pm24 cd24 ct24 oc_x e1_x e2_x : Value} {tk_FIGURES tk_MOST_FIGURES tk_MOST_THINGS : Tok} {cd_x ct_x : ClassData} {k0_x k1_x k2_x k3_x k5_x : Option Value} {e5_x e6_x : Array DictEntry} {e7_x e8_x : Nat} (X : K.In h) (G : h.Ns mainGlobals mg) (hfa : mg "law" = some (.ref fa)) (hT : ∀ p ∈ (tbK [] K).map (·.2), h.get? p = some (PySem.W.tabObj #[]))
 (ax_TrialError:Na_ K "TrialError" c_TrialError)
 (ax_NoEffect:Na_ K "NoEffect" c_NoEffect)
 (ax_NoText:Na_ K "NoText" c_NoText)
 (ax_NoRow:Na_ K "NoRow" c_NoRow)
 (ax_NoThing:Na_ K "NoThing" c_NoThing)
 (ax_NoFit:Na_ K "NoFit" c_NoFit)
 (x_ga:PySem.W.findIn K (.ref c_NoText) "__getattribute__" = some (some (.builtin "BaseException.__getattribute__")))
 (x_gg:PySem.W.findIn K (.ref c_NoText) "__getattr__" = some none)
 (x_cl:PySem.W.findIn K (.ref c_NoText) "__class__" = some (some (.builtin "object.__class__")))
 (x_mo:PySem.W.mroIn K c_NoText (.type "object")=some true)
 (x_mb:PySem.W.mroIn K c_NoText (.type "BaseException")=some true)
 (x_gt:PySem.W.specialIn K (.builtin "object.__class__") "__get__" = some (some (.builtin "getset_descriptor.__get__")))
 (x_tk:PySem.W.takesIn K (.builtin "object.__class__")=some true)
 (xi_TrialError:PySem.W.isClsIn K c_TrialError=true)
 (xt_TrialError:PySem.W.typeIn K (.ref c_TrialError)=some (.type "type"))
 (xm_TrialError:PySem.W.mroIn K c_NoText (.ref c_TrialError)=some true)
 (xi_NoEffect:PySem.W.isClsIn K c_NoEffect=true)
 (xt_NoEffect:PySem.W.typeIn K (.ref c_NoEffect)=some (.type "type"))
 (xm_NoEffect:PySem.W.mroIn K c_NoText (.ref c_NoEffect)=some false)
 (xi_NoText:PySem.W.isClsIn K c_NoText=true)
 (xt_NoText:PySem.W.typeIn K (.ref c_NoText)=some (.type "type"))
 (xm_NoText:PySem.W.mroIn K c_NoText (.ref c_NoText)=some true)
 (xi_NoRow:PySem.W.isClsIn K c_NoRow=true)
 (xt_NoRow:PySem.W.typeIn K (.ref c_NoRow)=some (.type "type"))
 (xm_NoRow:PySem.W.mroIn K c_NoText (.ref c_NoRow)=some false)
 (xi_NoThing:PySem.W.isClsIn K c_NoThing=true)
 (xt_NoThing:PySem.W.typeIn K (.ref c_NoThing)=some (.type "type"))
 (xm_NoThing:PySem.W.mroIn K c_NoText (.ref c_NoThing)=some false)
 (xi_NoFit:PySem.W.isClsIn K c_NoFit=true)
 (xt_NoFit:PySem.W.typeIn K (.ref c_NoFit)=some (.type "type"))
 (xm_NoFit:PySem.W.mroIn K c_NoText (.ref c_NoFit)=some false)
 (r_n_NoEffect:(Value.ref c_NoText==Value.ref c_NoEffect)=false)
 (r_n_NoRow:(Value.ref c_NoText==Value.ref c_NoRow)=false)
 (r_n_NoThing:(Value.ref c_NoText==Value.ref c_NoThing)=false)
 (r_n_NoFit:(Value.ref c_NoText==Value.ref c_NoFit)=false)
 (xm_ValueError:PySem.W.mroIn K c_NoText (.type "ValueError")=some true)
 (x_eb:PySem.W.mroIn K c_TrialError (.type "BaseException")=some true)
 (xl_1:K.lookup c_NoText=some ⟨.type "type",dd_x, .cls cd_x, #[k0_x,k1_x,k2_x,k3_x,some (.builtin "ValueError.__new__"),k5_x]⟩)
 (r_mro:cd_x.mro = .ref c_NoText :: .ref c_TrialError::bmV)
 (r_del:cd_x.hasDel=false)
 (xl_2:K.lookup c_TrialError=some ⟨oc_x,od_x, .cls ct_x,sl_x⟩)
 (xl_3:K.lookup cd_x.ns=some ⟨e1_x,e3_x, .dict e5_x e7_x,e9_x⟩)
 (r_es1:(e5_x.toList.all fun e=>match e.key with | .str _ _=>true | _=>false)=true)
 (xn_1:PySem.W.nsIn K cd_x.ns "__init__" = some none)
 (xl_4:K.lookup ct_x.ns=some ⟨e2_x,e4_x, .dict e6_x e8_x,ea_x⟩)
 (r_es2:(e6_x.toList.all fun e=>match e.key with | .str _ _=>true | _=>false)=true)
 (xn_2:PySem.W.nsIn K ct_x.ns "__init__" = some none)
 (a1:Na_ K "_law_mix" f1)
 (l1:Lo_ K f1 oc1 od1 "_law_mix" "_law_mix" s_q3 kV1 dc1 pm1 an1 cd1 ct1 sl1)
 (c1:Co_ K cd1 "_law_mix")
 (k1:Ke_ K f1)
 (a2:Na_ K "_law_model" f2)
 (l2:Lo_ K f2 oc2 od2 "_law_model" "_law_model" s_q4 kV2 dc2 pm2 an2 cd2 ct2 sl2)
 (c2:Co_ K cd2 "_law_model")
 (k2:Ke_ K f2)
 (a3:Na_ K "_law_text" f3)
 (l3:Lo_ K f3 oc3 od3 "_law_text" "_law_text" s_q9 kV3 dc3 pm3 an3 cd3 ct3 sl3)
 (c3:Co_ K cd3 "_law_text")
 (k3:Ke_ K f3)
 (a4:Na_ K "show_numbers" f4)
 (l4:Lo_ K f4 oc4 od4 "show_numbers" "show_numbers" s_q23 kV4 dc4 pm4 an4 cd4 ct4 sl4)
 (c4:Co_ K cd4 "show_numbers")
 (k4:Ke_ K f4)
 (a5:Na_ K "show_effect" f5)
 (l5:Lo_ K f5 oc5 od5 "show_effect" "show_effect" s_q19 kV5 dc5 pm5 an5 cd5 ct5 sl5)
 (c5:Co_ K cd5 "show_effect")
 (k5:Ke_ K f5)
 (a6:Na_ K "show_model" f6)
 (l6:Lo_ K f6 oc6 od6 "show_model" "show_model" s_q22 kV6 dc6 pm6 an6 cd6 ct6 sl6)
 (c6:Co_ K cd6 "show_model")
 (k6:Ke_ K f6)
 (a7:Na_ K "_law_told" f7)
 (l7:Lo_ K f7 oc7 od7 "_law_told" "_law_told" s_q10 kV7 dc7 pm7 an7 cd7 ct7 sl7)
 (c7:Co_ K cd7 "_law_told")
 (k7:Ke_ K f7)
 (a8:Na_ K "parts_of" f8)
 (l8:Lo_ K f8 oc8 od8 "parts_of" "parts_of" s_q14 kV8 dc8 pm8 an8 cd8 ct8 sl8)
 (c8:Co_ K cd8 "parts_of")
 (k8:Ke_ K f8)
 (a9:Na_ K "is_number" f9)
 (l9:Lo_ K f9 oc9 od9 "is_number" "is_number" s_q12 kV9 dc9 pm9 an9 cd9 ct9 sl9)
 (c9:Co_ K cd9 "is_number")
 (k9:Ke_ K f9)
 (a10:Na_ K "read_number" f10)
 (l10:Lo_ K f10 oc10 od10 "read_number" "read_number" s_q17 kV10 dc10 pm10 an10 cd10 ct10 sl10)
 (c10:Co_ K cd10 "read_number")
 (k10:Ke_ K f10)
 (a11:Na_ K "read_numbers" f11)
 (l11:Lo_ K f11 oc11 od11 "read_numbers" "read_numbers" s_q18 kV11 dc11 pm11 an11 cd11 ct11 sl11)
 (c11:Co_ K cd11 "read_numbers")
 (k11:Ke_ K f11)
 (a12:Na_ K "read_effect" f12)
 (l12:Lo_ K f12 oc12 od12 "read_effect" "read_effect" s_q15 kV12 dc12 pm12 an12 cd12 ct12 sl12)
 (c12:Co_ K cd12 "read_effect")
 (k12:Ke_ K f12)
 (a13:Na_ K "read_model" f13)
 (l13:Lo_ K f13 oc13 od13 "read_model" "read_model" s_q16 kV13 dc13 pm13 an13 cd13 ct13 sl13)
 (c13:Co_ K cd13 "read_model")
 (k13:Ke_ K f13)
 (a14:Na_ K "_law_whole" f14)
 (l14:Lo_ K f14 oc14 od14 "_law_whole" "_law_whole" s_q11 kV14 dc14 pm14 an14 cd14 ct14 sl14)
 (c14:Co_ K cd14 "_law_whole")
 (k14:Ke_ K f14)
 (a15:Na_ K "_law_is_model" f15)
 (l15:Lo_ K f15 oc15 od15 "_law_is_model" "_law_is_model" s_q2 kV15 dc15 pm15 an15 cd15 ct15 sl15)
 (c15:Co_ K cd15 "_law_is_model")
 (k15:Ke_ K f15)
 (a16:Na_ K "_law_right" f16)
 (l16:Lo_ K f16 oc16 od16 "_law_right" "_law_right" s_q6 kV16 dc16 pm16 an16 cd16 ct16 sl16)
 (c16:Co_ K cd16 "_law_right")
 (k16:Ke_ K f16)
 (a17:Na_ K "_law_odd" f17)
 (l17:Lo_ K f17 oc17 od17 "_law_odd" "_law_odd" s_q5 kV17 dc17 pm17 an17 cd17 ct17 sl17)
 (c17:Co_ K cd17 "_law_odd")
 (k17:Ke_ K f17)
 (a18:Na_ K "_law_spoiled" f18)
 (l18:Lo_ K f18 oc18 od18 "_law_spoiled" "_law_spoiled" s_q8 kV18 dc18 pm18 an18 cd18 ct18 sl18)
 (c18:Co_ K cd18 "_law_spoiled")
 (k18:Ke_ K f18)
 (a19:Na_ K "_law_divisor" f19)
 (l19:Lo_ K f19 oc19 od19 "_law_divisor" "_law_divisor" s_q0 kV19 dc19 pm19 an19 cd19 ct19 sl19)
 (c19:Co_ K cd19 "_law_divisor")
 (k19:Ke_ K f19)
 (a20:Na_ K "_law_fraction" f20)
 (l20:Lo_ K f20 oc20 od20 "_law_fraction" "_law_fraction" s_q1 kV20 dc20 pm20 an20 cd20 ct20 sl20)
 (c20:Co_ K cd20 "_law_fraction")
 (k20:Ke_ K f20)
 (a21:Na_ K "show_fraction" f21)
 (l21:Lo_ K f21 oc21 od21 "show_fraction" "show_fraction" s_q20 kV21 dc21 pm21 an21 cd21 ct21 sl21)
 (c21:Co_ K cd21 "show_fraction")
 (k21:Ke_ K f21)
 (a22:Na_ K "show_fractions" f22)
 (l22:Lo_ K f22 oc22 od22 "show_fractions" "show_fractions" s_q21 kV22 dc22 pm22 an22 cd22 ct22 sl22)
 (c22:Co_ K cd22 "show_fractions")
 (k22:Ke_ K f22)
 (a23:Na_ K "_law_shown" f23)
 (l23:Lo_ K f23 oc23 od23 "_law_shown" "_law_shown" s_q7 kV23 dc23 pm23 an23 cd23 ct23 sl23)
 (c23:Co_ K cd23 "_law_shown")
 (k23:Ke_ K f23)
 (a24:Na_ K "law" f24)
 (l24:Lo_ K f24 oc24 od24 "law" "law" s_law kV24 dc24 pm24 an24 cd24 ct24 sl24)
 (c24:Co_ K cd24 "law")
 (k24:Ke_ K f24)
 (a_FIGURES:PySem.W.nsIn K mainGlobals "FIGURES" = some (some (.str "0123456789" tk_FIGURES)))
 (a_MOST_FIGURES:PySem.W.nsIn K mainGlobals "MOST_FIGURES" = some (some (.int 12 tk_MOST_FIGURES)))
 (a_MOST_THINGS:PySem.W.nsIn K mainGlobals "MOST_THINGS" = some (some (.int 6 tk_MOST_THINGS)))
 (z0:Nz_ K "ValueError")
 (z1:Nz_ K "abs")
 (z2:Nz_ K "all")
 (z3:Nz_ K "bool")
 (z4:Nz_ K "e")
 (z5:Nz_ K "int")
 (z6:Nz_ K "isinstance")
 (z7:Nz_ K "len")
 (z8:Nz_ K "list")
 (z9:Nz_ K "max")
 (z10:Nz_ K "min")
 (z11:Nz_ K "range")
 (z12:Nz_ K "set")
 (z13:Nz_ K "sorted")
 (z14:Nz_ K "str")
 (z15:Nz_ K "tuple")
 : (∃o,K.lookup mainGlobals=some o)/\∃fd:FuncData,(∀(s:Shared) (v:Value),BindsTo s fd ⟨[v],[]⟩ [("_law_script",v)])/\∀base:Heap,(cutK K ((tbK [] K).map (·.2))).In base->base.Ns mainGlobals mg->(∀p ∈ tbK [] K,PySem.W.CodeHd base p.1 p.2)->BM base mg->FnOk l.prog w (cutK K ((tbK [] K).map (·.2))) mg base CX0 7 fa fd ["_law_script"] (spLawW (cutK K ((tbK [] K).map (·.2)))):=by
 have e:=hfa.symm.trans (PySem.W.mg_of X G a24)
 cases e
 have F_q3:=Fun_cut X hT (fun_mk (st:=s_q3) l1 c1 k1);have b_q3:=F_q3.binds (ps:= ["_law_cell","_law_j"]) (by walk_at "u2");have F_q4:=Fun_cut X hT (fun_mk (st:=s_q4) l2 c2 k2);have b_q4:=F_q4.binds (ps:= ["_law_cell"]) (by walk_at "u1");have F_q9:=Fun_cut X hT (fun_mk (st:=s_q9) l3 c3 k3);have b_q9:=F_q9.binds (ps:= ["_law_model_here"]) (by walk_at "u1");have F_q23:=Fun_cut X hT (fun_mk (st:=s_q23) l4 c4 k4);have b_q23:=F_q23.binds (ps:= ["numbers"]) (by walk_at "u1");have F_q19:=Fun_cut X hT (fun_mk (st:=s_q19) l5 c5 k5);have b_q19:=F_q19.binds (ps:= ["effect"]) (by walk_at "u1");have F_q22:=Fun_cut X hT (fun_mk (st:=s_q22) l6 c6 k6);have b_q22:=F_q22.binds (ps:= ["model"]) (by walk_at "u1");have F_q10:=Fun_cut X hT (fun_mk (st:=s_q10) l7 c7 k7);have b_q10:=F_q10.binds (ps:= ["_law_text_here"]) (by walk_at "u1");have F_q14:=Fun_cut X hT (fun_mk (st:=s_q14) l8 c8 k8);have b_q14:=F_q14.binds (ps:= ["text","separator"]) (by walk_at "u2");have F_q12:=Fun_cut X hT (fun_mk (st:=s_q12) l9 c9 k9);have b_q12:=F_q12.binds (ps:= ["word"]) (by walk_at "u1");have F_q17:=Fun_cut X hT (fun_mk (st:=s_q17) l10 c10 k10);have b_q17:=F_q17.binds (ps:= ["word"]) (by walk_at "u1");have F_q18:=Fun_cut X hT (fun_mk (st:=s_q18) l11 c11 k11);have b_q18:=F_q18.binds (ps:= ["words","least","most"]) (by walk_at "u3");have F_q15:=Fun_cut X hT (fun_mk (st:=s_q15) l12 c12 k12);have b_q15:=F_q15.binds (ps:= ["text"]) (by walk_at "u1");have F_q16:=Fun_cut X hT (fun_mk (st:=s_q16) l13 c13 k13);have b_q16:=F_q16.binds (ps:= ["text"]) (by walk_at "u1");have F_q11:=Fun_cut X hT (fun_mk (st:=s_q11) l14 c14 k14);have b_q11:=F_q11.binds (ps:= ["_law_found"]) (by walk_at "u1");have F_q2:=Fun_cut X hT (fun_mk (st:=s_q2) l15 c15 k15);have b_q2:=F_q2.binds (ps:= ["_law_found","_law_due"]) (by walk_at "u2");have F_q6:=Fun_cut X hT (fun_mk (st:=s_q6) l16 c16 k16);have b_q6:=F_q6.binds (ps:= ["_law_text_here"]) (by walk_at "u1");have F_q5:=Fun_cut X hT (fun_mk (st:=s_q5) l17 c17 k17);have b_q5:=F_q5.binds (ps:= ["_law_cell"]) (by walk_at "u1");have F_q8:=Fun_cut X hT (fun_mk (st:=s_q8) l18 c18 k18);have b_q8:=F_q8.binds (ps:= ["_law_text_here","_law_cell"]) (by walk_at "u2");have F_q0:=Fun_cut X hT (fun_mk (st:=s_q0) l19 c19 k19);have b_q0:=F_q0.binds (ps:= ["_law_one","_law_other"]) (by walk_at "u2");have F_q1:=Fun_cut X hT (fun_mk (st:=s_q1) l20 c20 k20);have b_q1:=F_q1.binds (ps:= ["_law_cell"]) (by walk_at "u1");have F_q20:=Fun_cut X hT (fun_mk (st:=s_q20) l21 c21 k21);have b_q20:=F_q20.binds (ps:= ["number"]) (by walk_at "u1");have F_q21:=Fun_cut X hT (fun_mk (st:=s_q21) l22 c22 k22);have b_q21:=F_q21.binds (ps:= ["numbers"]) (by walk_at "u1");have F_q7:=Fun_cut X hT (fun_mk (st:=s_q7) l23 c23 k23);have b_q7:=F_q7.binds (ps:= ["_law_numbers"]) (by walk_at "u1");have F_law:=Fun_cut X hT (fun_mk (st:=s_law) l24 c24 k24);have b_law:=F_law.binds (ps:= ["_law_script"]) (by walk_at "u1");have B:Bl mg:=⟨PySem.W.mg_none_of X G z0,PySem.W.mg_none_of X G z1,PySem.W.mg_none_of X G z2,PySem.W.mg_none_of X G z3,PySem.W.mg_none_of X G z4,PySem.W.mg_none_of X G z5,PySem.W.mg_none_of X G z6,PySem.W.mg_none_of X G z7,PySem.W.mg_none_of X G z8,PySem.W.mg_none_of X G z9,PySem.W.mg_none_of X G z10,PySem.W.mg_none_of X G z11,PySem.W.mg_none_of X G z12,PySem.W.mg_none_of X G z13,PySem.W.mg_none_of X G z14,PySem.W.mg_none_of X G z15⟩
 have u:=upK_cut X hT;have Y:Xf (cutK K ((tbK [] K).map (·.2))) mg c_TrialError c_NoEffect c_NoText c_NoRow c_NoThing c_NoFit:=⟨PySem.W.mg_of X G ax_TrialError,PySem.W.mg_of X G ax_NoEffect,PySem.W.mg_of X G ax_NoText,PySem.W.mg_of X G ax_NoRow,PySem.W.mg_of X G ax_NoThing,PySem.W.mg_of X G ax_NoFit,u.xcls ⟨x_ga,x_gg,x_cl,x_gt,x_tk,x_mo,x_mb,xi_NoText⟩,u.exc (exc_mk xl_1 r_mro r_del xl_2 ⟨⟨_,_,_,_,_,xl_3,r_es1⟩,xn_1⟩ ⟨⟨_,_,_,_,_,xl_4,r_es2⟩,xn_2⟩),u.exm (exm_mk x_eb xi_TrialError xt_TrialError xm_TrialError),u.kit (kit_f r_n_NoEffect xi_NoEffect xt_NoEffect xm_NoEffect),u.kit (kit_f r_n_NoRow xi_NoRow xt_NoRow xm_NoRow),u.kit (kit_f r_n_NoThing xi_NoThing xt_NoThing xm_NoThing),u.kit (kit_f r_n_NoFit xi_NoFit xt_NoFit xm_NoFit),u.kit kit_self,u.kit (kit_b (by decide +kernel) xm_ValueError)⟩;have C_FIGURES:GlobC (cutK K ((tbK [] K).map (·.2))) mg "FIGURES" c_FIGURES:=⟨.str "0123456789",_,PySem.W.mg_of X G a_FIGURES,⟨_,rfl⟩,fun _=> .str _⟩;have C_MOST_FIGURES:GlobC (cutK K ((tbK [] K).map (·.2))) mg "MOST_FIGURES" c_MOST_FIGURES:=⟨.int 12,_,PySem.W.mg_of X G a_MOST_FIGURES,⟨_,rfl⟩,fun _=> .int _⟩;have C_MOST_THINGS:GlobC (cutK K ((tbK [] K).map (·.2))) mg "MOST_THINGS" c_MOST_THINGS:=⟨.int 6,_,PySem.W.mg_of X G a_MOST_THINGS,⟨_,rfl⟩,fun _=> .int _⟩;refine ⟨main_of a24,PySem.W.fnOf "law" "law" (defArgs s_law) (defBody s_law) (defScope s_law) .none kV24 dc24 pm24 an24 cd24 ct24,fun s v=> .of_eq rfl,fun base _ _ hC bm=> ?_⟩;have D_q3:Def l.prog w (cutK K ((tbK [] K).map (·.2))) mg base 1 "_law_mix" ["_law_cell","_law_j"] (spD (cutK K ((tbK [] K).map (·.2))) m_q3):=⟨_,_,ok_q3 B F_q3,PySem.W.mg_of X G a1,F_q3.kp,b_q3⟩;have D_q4:Def l.prog w (cutK K ((tbK [] K).map (·.2))) mg base 2 "_law_model" ["_law_cell"] (spD (cutK K ((tbK [] K).map (·.2))) m_q4):=⟨_,_,ok_q4 B D_q3 F_q4,PySem.W.mg_of X G a2,F_q4.kp,b_q4⟩;have D_q9:Def l.prog w (cutK K ((tbK [] K).map (·.2))) mg base 1 "_law_text" ["_law_model_here"] (spD (cutK K ((tbK [] K).map (·.2))) m_q9):=⟨_,_,ok_q9 B F_q9,PySem.W.mg_of X G a3,F_q9.kp,b_q9⟩;have D_q23:Def l.prog w (cutK K ((tbK [] K).map (·.2))) mg base 1 "show_numbers" ["numbers"] (spD (cutK K ((tbK [] K).map (·.2))) m_q23):=⟨_,_,ok_q23 B F_q23,PySem.W.mg_of X G a4,F_q23.kp,b_q23⟩;have D_q19:Def l.prog w (cutK K ((tbK [] K).map (·.2))) mg base 2 "show_effect" ["effect"] (spD (cutK K ((tbK [] K).map (·.2))) m_q19):=⟨_,_,ok_q19 B D_q23 F_q19,PySem.W.mg_of X G a5,F_q19.kp,b_q19⟩;have D_q22:Def l.prog w (cutK K ((tbK [] K).map (·.2))) mg base 3 "show_model" ["model"] (spD (cutK K ((tbK [] K).map (·.2))) m_q22):=⟨_,_,ok_q22 B D_q19 F_q22,PySem.W.mg_of X G a6,F_q22.kp,b_q22⟩;have D_q10:Def l.prog w (cutK K ((tbK [] K).map (·.2))) mg base 1 "_law_told" ["_law_text_here"] (spD (cutK K ((tbK [] K).map (·.2))) m_q10):=⟨_,_,ok_q10 B F_q10,PySem.W.mg_of X G a7,F_q10.kp,b_q10⟩;have D_q14:DefX l.prog w (cutK K ((tbK [] K).map (·.2))) mg base c_NoText 1 "parts_of" ["text","separator"] (spX (cutK K ((tbK [] K).map (·.2))) m_q14):=⟨_,_,ok_q14 B Y F_q14,PySem.W.mg_of X G a8,F_q14.kp,b_q14⟩
 have D_q12:Def l.prog w (cutK K ((tbK [] K).map (·.2))) mg base 1 "is_number" ["word"] (spD (cutK K ((tbK [] K).map (·.2))) m_q12):=⟨_,_,ok_q12 B C_FIGURES C_MOST_FIGURES F_q12,PySem.W.mg_of X G a9,F_q12.kp,b_q12⟩;have D_q17:DefX l.prog w (cutK K ((tbK [] K).map (·.2))) mg base c_NoText 2 "read_number" ["word"] (spX (cutK K ((tbK [] K).map (·.2))) m_q17):=⟨_,_,ok_q17 B D_q12 Y F_q17,PySem.W.mg_of X G a10,F_q17.kp,b_q17⟩;have D_q18:DefX l.prog w (cutK K ((tbK [] K).map (·.2))) mg base c_NoText 3 "read_numbers" ["words","least","most"] (spX (cutK K ((tbK [] K).map (·.2))) m_q18):=⟨_,_,ok_q18 B D_q17 Y F_q18,PySem.W.mg_of X G a11,F_q18.kp,b_q18⟩;have D_q15:DefX l.prog w (cutK K ((tbK [] K).map (·.2))) mg base c_NoText 4 "read_effect" ["text"] (spX (cutK K ((tbK [] K).map (·.2))) m_q15):=⟨_,_,ok_q15 B D_q18 C_MOST_THINGS Y F_q15,PySem.W.mg_of X G a12,F_q15.kp,b_q15⟩;have D_q16:DefX l.prog w (cutK K ((tbK [] K).map (·.2))) mg base c_NoText 5 "read_model" ["text"] (spX (cutK K ((tbK [] K).map (·.2))) m_q16):=⟨_,_,ok_q16 B D_q14 D_q15 Y F_q16,PySem.W.mg_of X G a13,F_q16.kp,b_q16⟩;have D_q11:Def l.prog w (cutK K ((tbK [] K).map (·.2))) mg base 1 "_law_whole" ["_law_found"] (spD (cutK K ((tbK [] K).map (·.2))) m_q11):=⟨_,_,ok_q11 B F_q11,PySem.W.mg_of X G a14,F_q11.kp,b_q11⟩;have D_q2:Def l.prog w (cutK K ((tbK [] K).map (·.2))) mg base 2 "_law_is_model" ["_law_found","_law_due"] (spD (cutK K ((tbK [] K).map (·.2))) m_q2):=⟨_,_,ok_q2 B D_q11 F_q2,PySem.W.mg_of X G a15,F_q2.kp,b_q2⟩;have D_q6:Def l.prog w (cutK K ((tbK [] K).map (·.2))) mg base 6 "_law_right" ["_law_text_here"] (spD (cutK K ((tbK [] K).map (·.2))) m_q6):=⟨_,_,ok_q6 B D_q10 D_q16 D_q2 Y F_q6,PySem.W.mg_of X G a16,F_q6.kp,b_q6⟩;have D_q5:Def l.prog w (cutK K ((tbK [] K).map (·.2))) mg base 2 "_law_odd" ["_law_cell"] (spD (cutK K ((tbK [] K).map (·.2))) m_q5):=⟨_,_,ok_q5 B D_q3 F_q5,PySem.W.mg_of X G a17,F_q5.kp,b_q5⟩;have D_q8:Def l.prog w (cutK K ((tbK [] K).map (·.2))) mg base 3 "_law_spoiled" ["_law_text_here","_law_cell"] (spD (cutK K ((tbK [] K).map (·.2))) m_q8):=⟨_,_,ok_q8 B D_q3 D_q5 F_q8,PySem.W.mg_of X G a18,F_q8.kp,b_q8⟩;have D_q0:Def l.prog w (cutK K ((tbK [] K).map (·.2))) mg base 1 "_law_divisor" ["_law_one","_law_other"] (spD (cutK K ((tbK [] K).map (·.2))) m_q0):=⟨_,_,ok_q0 B F_q0,PySem.W.mg_of X G a19,F_q0.kp,b_q0⟩;have D_q1:Def l.prog w (cutK K ((tbK [] K).map (·.2))) mg base 2 "_law_fraction" ["_law_cell"] (spD (cutK K ((tbK [] K).map (·.2))) m_q1):=⟨_,_,ok_q1 B D_q3 D_q0 F_q1,PySem.W.mg_of X G a20,F_q1.kp,b_q1⟩;have D_q20:Def l.prog w (cutK K ((tbK [] K).map (·.2))) mg base 1 "show_fraction" ["number"] (spD (cutK K ((tbK [] K).map (·.2))) m_q20):=⟨_,_,ok_q20 B F_q20,PySem.W.mg_of X G a21,F_q20.kp,b_q20⟩;have D_q21:Def l.prog w (cutK K ((tbK [] K).map (·.2))) mg base 2 "show_fractions" ["numbers"] (spD (cutK K ((tbK [] K).map (·.2))) m_q21):=⟨_,_,ok_q21 B D_q20 F_q21,PySem.W.mg_of X G a22,F_q21.kp,b_q21⟩;have D_q7:Def l.prog w (cutK K ((tbK [] K).map (·.2))) mg base 1 "_law_shown" ["_law_numbers"] (spD (cutK K ((tbK [] K).map (·.2))) m_q7):=⟨_,_,ok_q7 B F_q7,PySem.W.mg_of X G a23,F_q7.kp,b_q7⟩
 exact (ok_law B D_q4 D_q9 D_q22 D_q6 D_q8 D_q1 D_q21 D_q7 F_law).imp (fun vs H Q E h=>law_impW law_true h)
theorem walk {l : PySem.W.OpenLaw} {q : Program} {loose : List Str} {XP : (Str -> Option Value) -> Heap -> Prop} {YP : World -> Heap -> Prop} {d : DefRec} {K : Params -> PySem.W.Frag} (hn : l.most = some 63) (hdf : d.params.defaults = [])
 (hY:∀(w:World) (h:Heap),YP w h->(K w.params).In h)
 (hrec:∀y ∈ ([]:List Str),∃e,(PyProof.Rows.recsOf q).find? (fun e=>e.name==y)=some e)
 (F:∀(w:World) (mg:Str->Option Value) (fa:Addr) (h:Heap),(K w.params).In h->h.Ns mainGlobals mg->mg d.name=some (.ref fa)->(∀p ∈ (tbK [] (K w.params)).map (·.2),h.get? p=some (PySem.W.tabObj #[])) ->
  (∃o,(K w.params).lookup mainGlobals=some o)/\∃fd:FuncData,(∀(s:Shared) (u:Value),BindsTo s fd ⟨[u],[]⟩ [("_law_script",u)])/\∀base:Heap,(cutK (K w.params) ((tbK [] (K w.params)).map (·.2))).In base->base.Ns mainGlobals mg->(∀p ∈ tbK [] (K w.params),PySem.W.CodeHd base p.1 p.2)->BM base mg->FnOk l.prog w (cutK (K w.params) ((tbK [] (K w.params)).map (·.2))) mg base CX0 7 fa fd ["_law_script"] (spLawW (cutK (K w.params) ((tbK [] (K w.params)).map (·.2))))) :
 PySem.W.WalkO q loose XP YP l.row.toRowW d [] (fun f vs=>PySem.call f vs) :=
 walk_ofW (n:=63) (k:=7) (x:= "_law_script") (sp:=spLawW) hn (by decide) hdf ⟨rfl,by decide,by decide,rfl⟩ hY hrec F fun _ _ a ns hl hb hS=>⟨a,ns,rfl,hS,⟨hl,hb⟩,fun _=>rfl⟩
end
end K92
namespace PySem.W.Fast
def tw9753076482746634569:=0
def tw3726189540086942470:=0
def tw3739369157482201956:=0
def tw2207315272113064186:=0
def tw12196600301811452791:=0
def tw1732929307203287266:=0
def tw7407155935615094554:=0
def tw17594491653550186532:=0
def tw12671908284361245670:=0
def tw9535355071917382515:=0
def tw163254400941973453:=0
def tw10610643399440894411:=0
def tw12511097964943404237:=0
def tw13493388837975160655:=0
def tw11486912356639870709:=0
def tw18035168776131870139:=0
end PySem.W.Fast
open PySem PySem.W PyProof.Rows
set_option maxRecDepth 100000 in
set_option maxHeartbeats 0 in
theorem PySem.Challenge.cw_trialfield_k92_models_as_texts_holds : PySem.Challenge.rw_trialfield_k92_models_as_texts.Holds := by
 w_on;o_law;k_head;(case hw=>w_witness2)
 k_fill
 refine K92.walk (l := PySem.Challenge.rw_trialfield_k92_models_as_texts) rfl rfl (fun w h Y => PySem.W.kIn_of Y) ?R ?F
 case R=>
  intro y hy;exact absurd hy List.not_mem_nil
 case F=>
  intro w mg fa h KX G hmg hT;refine' K92.all_mk KX G hmg hT ?_ ?_ ?_ ?_ ?_ ?_ ?_ ?_ ?_ ?_ ?_ ?_ ?_ ?_ ?_ ?_ ?_ ?_ ?_ ?_ ?_ ?_ ?_ ?_ ?_ ?_ ?_ ?_ ?_ ?_ ?_ ?r_n_NoEffect ?r_n_NoRow ?r_n_NoThing ?r_n_NoFit ?_ ?_ ?_ ?r_mro ?r_del ?_ ?_ ?r_es1 ?_ ?_ ?r_es2 ?_ ?_ ?_ ?_ ?_ ?_ ?_ ?_ ?_ ?_ ?_ ?_ ?_ ?_ ?_ ?_ ?_ ?_ ?_ ?_ ?_ ?_ ?_ ?_ ?_ ?_ ?_ ?_ ?_ ?_ ?_ ?_ ?_ ?_ ?_ ?_ ?_ ?_ ?_ ?_ ?_ ?_ ?_ ?_ ?_ ?_ ?_ ?_ ?_ ?_ ?_ ?_ ?_ ?_ ?_ ?_ ?_ ?_ ?_ ?_ ?_ ?_ ?_ ?_ ?_ ?_ ?_ ?_ ?_ ?_ ?_ ?_ ?_ ?_ ?_ ?_ ?_ ?_ ?_ ?_ ?_ ?_ ?_ ?_ ?_ ?_ ?_ ?_ ?_ ?_ ?_ ?_ ?_ ?_ ?_ ?_ ?_ ?_ ?_ ?_ ?_ ?_ ?_ ?_ ?_ ?_ ?_ ?_ ?_ ?_ ?_ ?_ ?_ ?_ ?_ ?_
  all_goals (first | ((first | unfold K92.Na_ | unfold K92.Nz_ | unfold K92.Co_ | unfold K92.Ke_ | unfold K92.Lo_);k_is) | k_is | skip)
  (case r_n_NoEffect=>exact rfl)
  (case r_n_NoRow=>exact rfl)
  (case r_n_NoThing=>exact rfl)
  (case r_n_NoFit=>exact rfl)
  all_goals (first | ((first | unfold K92.Na_ | unfold K92.Nz_ | unfold K92.Co_ | unfold K92.Ke_ | unfold K92.Lo_);k_is) | k_is | skip)
  (case r_mro=>exact rfl)
  (case r_del=>exact rfl)
  all_goals (first | ((first | unfold K92.Na_ | unfold K92.Nz_ | unfold K92.Co_ | unfold K92.Ke_ | unfold K92.Lo_);k_is) | k_is | skip)
  (case r_es1=>exact rfl)
  all_goals (first | ((first | unfold K92.Na_ | unfold K92.Nz_ | unfold K92.Co_ | unfold K92.Ke_ | unfold K92.Lo_);k_is) | k_is | skip)
  (case r_es2=>exact rfl)
  all_goals (first | ((first | unfold K92.Na_ | unfold K92.Nz_ | unfold K92.Co_ | unfold K92.Ke_ | unfold K92.Lo_);k_is) | k_is | skip)
