import PyProof.Rows.All
import Wide.All
import OpenK.AllK
import Wide.FinOn
import Lean
import PyProof.EqAt
import PyProof.EqKinds
import PyProof.TupleCall
import PySem.Challenge.RW_apartbook_k71_the_plain_book
set_option Elab.async false
set_option linter.all false
set_option maxRecDepth 100000
set_option compiler.extract_closed false
theorem zau0 (h : True:=by first | exact .inl rfl | exact .inr rfl | assumption) : True:=h
theorem zau1 (h : True:=by decide) : True:=h
theorem zau2 (h : True:=by rfl) : True:=h
theorem zau3 (h : True:=by intro _; rfl) : True:=h
theorem zau4 (h : True:=by first | exact Or.inl rfl | exact Or.inr (Or.inl rfl) | exact Or.inr (Or.inr rfl)) : True:=h
theorem zau5 (h : True:=by exact fun _ _=>rfl) : True:=h
theorem zau6 (h : True:=by exact fun _=>rfl) : True:=h
theorem zau7 (h : True:=by first | exact Or.inl rfl | exact Or.inr rfl) : True:=h
namespace L2
open PySem PySem.Spec PyProof.Rows
noncomputable abbrev Key:=Sum Int Str
noncomputable def jvh : Key → Value → Bool
 | .inl k,v=>Value.isInt k v
 | .inr x,v=>Value.isStrOf x v
noncomputable def keyH (w : World) : Key → Int
 | .inl k=>hashInt k
 | .inr x=>hashStr w x
theorem jbn : ∀ {k : Key} {v : Value},jvh k v = true → (∃ i t,k = Sum.inl i ∧ v = Value.int i t) ∨ (∃ x t,k = Sum.inr x ∧ v = Value.str x t)
 | .inl i,v,h=>by
  obtain ⟨t,e⟩:=Value.isInt_shape (k:=i) (v:=v) h
  exact .inl ⟨i,t,rfl,e⟩
 | .inr x,v,h=>by
  obtain ⟨t,e⟩:=Value.isStrOf_shape (x:=x) (v:=v) h
  exact .inr ⟨x,t,rfl,e⟩
theorem jvi (a b : Int) : decide ((Sum.inl a : Key) = Sum.inl b) = (a == b):=by
 by_cases e : a = b
 ·subst e; simp
 ·have h : ¬ (Sum.inl a : Key) = Sum.inl b:=fun q=>e (Sum.inl.inj q)
  rw [decide_eq_false h]
  exact (beq_eq_false_iff_ne.mpr e).symm
theorem jvl (a b : Str) : decide ((Sum.inr a : Key) = Sum.inr b) = decide (a = b):=by
 by_cases e : a = b
 ·subst e; simp
 ·have h : ¬ (Sum.inr a : Key) = Sum.inr b:=fun q=>e (Sum.inr.inj q)
  rw [decide_eq_false h,decide_eq_false e]
theorem jvj (a : Int) (b : Str) : decide ((Sum.inl a : Key) = Sum.inr b) = false:=decide_eq_false (fun q=>nomatch q)
theorem jvk (a : Str) (b : Int) : decide ((Sum.inr a : Key) = Sum.inl b) = false:=decide_eq_false (fun q=>nomatch q)
noncomputable def jkm (prog : Program) (w : World) : PySem.KeyKind prog w Key where
 is:=jvh
 hash:=keyH w
 inj:=fun v a b ha hb=>by
  rcases jbn ha with ⟨i,t,rfl,rfl⟩ | ⟨x,t,rfl,rfl⟩
  ·rcases jbn hb with ⟨j,u,rfl,e⟩ | ⟨y,u,rfl,e⟩
   ·injection e with e1 _; rw [e1]
   ·exact nomatch e
  ·rcases jbn hb with ⟨j,u,rfl,e⟩ | ⟨y,u,rfl,e⟩
   ·exact nomatch e
   ·injection e with e1 _; rw [e1]
 byValue:=fun k v h=>by
  rcases jbn h with ⟨i,t,rfl,rfl⟩ | ⟨x,t,rfl,rfl⟩ <;> rfl
 pyHash:=fun hv h=>by
  rcases jbn hv with ⟨i,t,rfl,rfl⟩ | ⟨x,t,rfl,rfl⟩
  ·exact wpAny_pyHash_int h
  ·exact wpAny_pyHash_str h
 eqBool:=fun hu hv h=>by
  rcases jbn hu with ⟨i,t,rfl,rfl⟩ | ⟨x,t,rfl,rfl⟩
  ·rcases jbn hv with ⟨j,u,rfl,rfl⟩ | ⟨y,u,rfl,rfl⟩
   ·rw [jvi] at h; exact wpAny_eqBool_int h
   ·rw [jvj] at h; exact SeqAt.EqAt.int_str i t y u _ _ _ _ h
  ·rcases jbn hv with ⟨j,u,rfl,rfl⟩ | ⟨y,u,rfl,rfl⟩
   ·rw [jvk] at h; exact SeqAt.EqAt.str_int x t j u _ _ _ _ h
   ·rw [jvl] at h; exact wpAny_eqBool_str h
 «strs»:=fun k x t v h=>by
  rcases jbn h with ⟨i,u,rfl,e⟩ | ⟨y,u,rfl,e⟩
  ·exact nomatch e
  ·injection e with e1 _
   subst e1
   cases v <;> rfl
end L2
namespace L2
open PySem PySem.Spec PyProof.Rows
inductive V where
 | non | bl (b : Bool) | int (i : Int) | str (x : Str) | byt (b : Array UInt8) | flt (b : UInt64) | ref (a : Addr) | ty (n : String)
 deriving DecidableEq
noncomputable def RelV : V → Value → Prop
 | .non,u=>u = Value.none
 | .bl b,u=>u = Value.bool b
 | .int i,u=>∃ t,u = Value.int i t
 | .str x,u=>∃ t,u = Value.str x t
 | .byt b,u=>∃ t,u = Value.bytes b t
 | .flt b,u=>∃ t,u = Value.float b t
 | .ref a,u=>u = Value.ref a
 | .ty n,u=>u = Value.type n
noncomputable abbrev Vals : List V → List Value → Prop:=Paired RelV
theorem Vals.length {xs : List V} {us : List Value} (r : Vals xs us) : xs.length = us.length:=Paired.length r
theorem Vals.get : ∀ {xs : List V} {us : List Value} {i : Nat} {x : V},Vals xs us → xs[i]? = some x → ∃ u,us[i]? = some u ∧ RelV x u
 | _,_,_,_,.nil,e=>by simp at e
 | _,_,0,_,.cons r _,e=>by simp at e; subst e; exact ⟨_,rfl,r⟩
 | _,_,i + 1,x,.cons _ t,e=>by
  obtain ⟨u,h1,h2⟩:=Vals.get (i:=i) (x:=x) t (by simpa using e)
  exact ⟨u,by simpa using h1,h2⟩
theorem Vals.append : ∀ {xs ys : List V} {us ws : List Value},Vals xs us → Vals ys ws → Vals (xs ++ ys) (us ++ ws)
 | _,_,_,_,.nil,s=>s
 | _,_,_,_,.cons r t,s=>.cons r (Vals.append t s)
theorem Vals.take : ∀ {xs : List V} {us : List Value} (n : Nat),Vals xs us → Vals (xs.take n) (us.take n)
 | _,_,0,_=>.nil
 | _,_,_ + 1,.nil=>.nil
 | _,_,n + 1,.cons r t=>.cons r (Vals.take n t)
theorem Vals.drop : ∀ {xs : List V} {us : List Value} (n : Nat),Vals xs us → Vals (xs.drop n) (us.drop n)
 | _,_,0,r=>r
 | _,_,_ + 1,.nil=>.nil
 | _,_,n + 1,.cons _ t=>Vals.drop n t
noncomputable def RelO : Option V → Option Value → Prop
 | some v,some u=>RelV v u
 | none,none=>True
 | _,_=>False
noncomputable def KV {κ : Type} : List (κ × V) → List (κ × Value) → Prop:=Paired fun (p : κ × V) (q : κ × Value)=>p.1 = q.1 ∧ RelV p.2 q.2
noncomputable def kV : Key → V
 | .inl i=>.int i
 | .inr x=>.str x
inductive HO where
  | lst (xs : List V)
  | tup (xs : List V)
  | dK (kvs : List (Key × V)) | dT (kvs : List (List Key × V))
  | set (S : Int → Bool) (n : Nat)
  | ins (C dx : Addr) (fs : List (Str × V))
  | own (x : Addr)
  | xd (fs : List (Str × V))
  | met (f x : Addr)
  | rng (lo hi : Int)
  | frz (o : Obj) (u : HO)
  | tbl (ps : Array Value)
  | ext (φ : Heap → Prop)
noncomputable abbrev Hp:=Addr → Option HO
noncomputable def upd (H : Hp) (a : Addr) (o : HO) : Hp:=fun b=>if b = a then some o else H b
theorem jak {H : Hp} {a : Addr} {o : HO} : upd H a o a = some o:=by unfold upd; rw [if_pos rfl]
theorem jai {H : Hp} {a b : Addr} {o : HO} (h : b ≠ a) : upd H a o b = H b:=by unfold upd; rw [if_neg h]
theorem js4 {H : Hp} {a b : Addr} {o u : HO} (h : H a = some o) (h' : H b = some u) (d : o ≠ u) : a ≠ b:=by
 intro e; subst e; rw [h] at h'; exact d (Option.some.inj h')
theorem ja7 {H : Hp} {a b : Addr} {o : HO} (h : H a = some o) (h' : H b = none) : a ≠ b:=by
 intro e; subst e; rw [h] at h'; cases h'
section
variable (P : Program) (w : World)
noncomputable def ObjOk (H : Hp) (h : Heap) (a : Addr) : HO → Prop
 | .lst xs=>xs.length ≤ sizeLine ∧ ∃ (its : List Value) (n : Nat),Vals xs its ∧ h.get? a = some { cls:=.type "list",data:=.seq its.toArray n }
 | .tup xs=>xs.length ≤ sizeLine ∧ ∃ its : List Value,Vals xs its ∧ IsTup h a its.toArray
 | .dK kvs=>kvs.length ≤ sizeLine ∧ (a == sysModules) = false ∧ ∃ vs,KV kvs vs ∧ h.DictOf (jkm P w) a vs
 | .dT kvs=>kvs.length ≤ sizeLine ∧ (a == sysModules) = false ∧ ∃ xs : List (List Key × Addr × Value),
   Paired (fun (p : List Key × V) (q : List Key × Addr × Value)=>p.1 = q.1 ∧ H q.2.1 = some (.tup (p.1.map kV)) ∧ RelV p.2 q.2.2) kvs xs ∧
   ∃ o es ep,h.get? a = some o ∧ o.ExactDict ∧ o.data = .dict es ep ∧ es.toList = xs.map (entryOfKey (tupleKind (jkm P w))) ∧ (xs.map (·.1)).Nodup
 | .set S n=>h.SetOf (intKind P w) a S n
 | .ins C dx fs=>H dx = some (.own a) ∧ fs.length ≤ 1000 ∧ dx ≠ a ∧ h.get? a = some (PySem.W.instObj C dx) ∧
   ∃ mA,h.Ns1 dx mA ∧ (∀ f,RelO (fs.lookup f) (mA f)) ∧ PySem.Within mA (fs.map (·.1))
 | .own _=>∃ o,h.get? a = some o
 | .xd fs=>∃ mA,h.Ns1 a mA ∧ ∀ f,RelO (fs.lookup f) (mA f)
 | .rng lo hi=>∃ t u v,h.get? a = some { cls:=.type "range",data:=.fields #[.int lo t,.int hi u,.int 1 v] }
 | .frz o u=>h.get? a = some o ∧ ObjOk H h a u
 | .tbl ps=>h.get? a = some { cls:=.none,data:=.fields ps }
 | .met f x=>h.get? a = some (PySem.W.methodObj (.ref f) (.ref x))
 | .ext φ=>φ h ∧ (∃ o,h.get? a = some o) ∧ ∀ h1 h2 : Heap,φ h1 → (∀ o,h1.get? a = some o → h2.get? a = some o) → φ h2
noncomputable def HOk (H : Hp) (h : Heap) : Prop:=∀ a o,H a = some o → ObjOk P w H h a o
end
section
variable {P : Program} {w : World} {H H' : Hp} {h h' : Heap} {a : Addr} {o : HO}
theorem ObjOk.lt (x : ObjOk P w H h a o) : a < h.objs.size:=by
 cases o with
 | lst xs=>obtain ⟨_,_,_,_,e⟩:=x; exact Heap.lt_size e
 | tup xs=>obtain ⟨_,_,_,p⟩:=x; exact p.lt
 | dK kvs=>obtain ⟨_,_,_,_,o,_,_,e,_⟩:=x; exact Heap.lt_size e
 | dT kvs=>obtain ⟨_,_,_,_,o,_,_,e,_⟩:=x; exact Heap.lt_size e
 | set S n=>obtain ⟨o,_,_,_,e,_⟩:=x; exact Heap.lt_size e
 | ins C dx fs=>obtain ⟨_,_,_,e,_⟩:=x; exact Heap.lt_size e
 | own y=>obtain ⟨_,e⟩:=x; exact Heap.lt_size e
 | xd fs=>obtain ⟨_,⟨_,_,_,e,_⟩,_⟩:=x; exact Heap.lt_size e
 | rng lo hi=>obtain ⟨_,_,_,e⟩:=x; exact Heap.lt_size e
 | frz ob u=>obtain ⟨e,_⟩:=x; exact Heap.lt_size e
 | tbl ps=>exact Heap.lt_size (show h.get? a = some _ from x)
 | met f y=>exact Heap.lt_size (show h.get? a = some _ from x)
 | ext φ=>obtain ⟨_,⟨_,e⟩,_⟩:=x; exact Heap.lt_size e
theorem Paired.mapP {α β : Type} {F G : α → β → Prop} : ∀ {l₁ : List α} {l₂ : List β},Paired F l₁ l₂ → (∀ a b,F a b → G a b) → Paired G l₁ l₂
 | _,_,.nil,_=>.nil
 | _,_,.cons r t,f=>.cons (f _ _ r) (Paired.mapP t f)
theorem ObjOk.stay (x : ObjOk P w H h a o) (k : ∀ b u,(b = a ∨ H b = some (.own a)) → h.get? b = some u → h'.get? b = some u)
  (ho : ∀ b,H b = some (.own a) → H' b = some (.own a)) (ht : ∀ b xs,H b = some (.tup xs) → H' b = some (.tup xs)) : ObjOk P w H' h' a o:=by
 induction o with
 | lst xs=>obtain ⟨z,its,n,r,e⟩:=x; exact ⟨z,its,n,r,k _ _ (.inl rfl) e⟩
 | tup xs=>obtain ⟨z,its,r,ob,e,c⟩:=x; exact ⟨z,its,r,ob,k _ _ (.inl rfl) e,c⟩
 | dK kvs=>obtain ⟨z,y,vs,r,ob,es,ep,e,c⟩:=x; exact ⟨z,y,vs,r,ob,es,ep,k _ _ (.inl rfl) e,c⟩
 | dT kvs =>
  obtain ⟨z,y,xs,r,ob,es,ep,e,c⟩:=x
  exact ⟨z,y,xs,Paired.mapP r fun p q z=>⟨z.1,ht _ _ z.2.1,z.2.2⟩,ob,es,ep,k _ _ (.inl rfl) e,c⟩
 | set S n=>obtain ⟨ob,es,ep,t,e,c⟩:=x; exact ⟨ob,es,ep,t,k _ _ (.inl rfl) e,c⟩
 | ins C dx fs =>
  obtain ⟨d,z,ne,e,mA,⟨od,es,ep,e2,c⟩,r⟩:=x
  exact ⟨ho _ d,z,ne,k _ _ (.inl rfl) e,mA,⟨od,es,ep,k _ _ (.inr d) e2,c⟩,r⟩
 | own y=>obtain ⟨ob,e⟩:=x; exact ⟨ob,k _ _ (.inl rfl) e⟩
 | xd fs=>obtain ⟨mA,⟨od,es,ep,e,c⟩,r⟩:=x; exact ⟨mA,⟨od,es,ep,k _ _ (.inl rfl) e,c⟩,r⟩
 | rng lo hi=>obtain ⟨t,u,v,e⟩:=x; exact ⟨t,u,v,k _ _ (.inl rfl) e⟩
 | frz ob u ih=>obtain ⟨e,q⟩:=x; exact ⟨k _ _ (.inl rfl) e,ih q⟩
 | tbl ps =>
  have e : h.get? a = some { cls:=.none,data:=.fields ps }:=x
  show h'.get? a = some { cls:=.none,data:=.fields ps }
  exact k a _ (.inl rfl) e
 | met f y =>
  have e : h.get? a = some (PySem.W.methodObj (.ref f) (.ref y)):=x
  show h'.get? a = some (PySem.W.methodObj (.ref f) (.ref y))
  exact k a _ (.inl rfl) e
 | ext φ=>obtain ⟨p,⟨o,e⟩,st⟩:=x; exact ⟨st _ _ p fun o q=>k _ _ (.inl rfl) q,⟨o,k _ _ (.inl rfl) e⟩,st⟩
theorem HOk.lt (x : HOk P w H h) (e : H a = some o) : a < h.objs.size:=(x a o e).lt
theorem HOk.fresh (x : HOk P w H h) (e : h.objs.size ≤ a) : H a = none:=by
 cases q : H a with
 | none=>rfl
 | some u=>exact absurd (Nat.lt_of_lt_of_le (x.lt q) e) (Nat.lt_irrefl _)
theorem HOk.kept (x : HOk P w H h) (k : ∀ b u,h.get? b = some u → h'.get? b = some u) : HOk P w H h':=fun a o e =>
 (x a o e).stay (fun b u _ q=>k b u q) (fun _ q=>q) fun _ _ q=>q
theorem HOk.laid (x : HOk P w H h) (k : ∀ b u,h.get? b = some u → h'.get? b = some u) (hp : h.objs.size ≤ a) (new : ObjOk P w (upd H a o) h' a o) : HOk P w (upd H a o) h':=fun b u e=>by
 have hn:=x.fresh hp
 by_cases hb : b = a
 ·subst hb; rw [jak] at e; cases e; exact new
 ·rw [jai hb] at e
  exact (x b u e).stay (fun c v _ q=>k c v q) (fun c q=>by rw [jai (ja7 q hn)]; exact q) fun c xs q=>by rw [jai (ja7 q hn)]; exact q
end
noncomputable def Rd (H : Hp) (a : Addr) (u : HO) : Prop:=H a = some u ∨ ∃ o,H a = some (.frz o u)
theorem Rd.ok {P : Program} {w : World} {H : Hp} {h : Heap} {a : Addr} {u : HO} (r : Rd H a u) (x : HOk P w H h) : ObjOk P w H h a u:=by
 rcases r with r | ⟨o,r⟩
 ·exact x a u r
 ·obtain ⟨_,q⟩:=x a _ r
  exact q
noncomputable def Mut : Option HO → Prop
 | some (.lst _)=>True
 | some (.dK _)=>True
 | some (.dT _)=>True
 | some (.set _ _)=>True
 | some (.ins _ _ _)=>True
 | some (.ext _)=>True
 | _=>False
section
variable {P : Program} {w : World} {H : Hp} {h h' : Heap} {x e : Addr} {o' : HO}
theorem HOk.write (ok : HOk P w H h) (mu : Mut (H x)) (he : e = x ∨ H e = some (.own x)) (k : ∀ b u,b ≠ e → h.get? b = some u → h'.get? b = some u) (heo : ∃ u,h'.get? e = some u)
  (new : ObjOk P w (upd H x o') h' x o') : HOk P w (upd H x o') h':=fun b u q=>by
 have nown : ∀ c y,H c = some (.own y) → c ≠ x:=fun c y r z=>by subst z; rw [r] at mu; exact mu
 have ntup : ∀ c xs,H c = some (.tup xs) → c ≠ x:=fun c xs r z=>by subst z; rw [r] at mu; exact mu
 by_cases hb : b = x
 ·subst hb; rw [jak] at q; cases q; exact new
 ·rw [jai hb] at q
  by_cases hbe : b = e
  ·have q' : H b = some (.own x):=by
    rcases he with z | z
    ·exact absurd (hbe.trans z) hb
    ·rw [hbe]; exact z
   rw [q] at q'; cases q'
   obtain ⟨v,hv⟩:=heo
   exact ⟨v,by rw [hbe]; exact hv⟩
  ·refine (ok b u q).stay (fun c v hc r=>k c v ?_ r) (fun c r=>by rw [jai (nown c b r)]; exact r) fun c xs r=>by rw [jai (ntup c xs r)]; exact r
   rcases hc with rfl | hc
   ·exact hbe
   ·rintro rfl
    rcases he with z | z
    ·exact nown c b hc z
    ·rw [hc] at z; cases z; exact hb rfl
end
structure Un (fs ex : List Addr) (H H' : Hp) (h h' : Heap) : Prop where
 keep : ∀ b o,h.get? b = some o → H b = none → b ∉ fs → b ∉ ex → h'.get? b = some o
 slot : ∀ b o,h.get? b = some o → H b = none → b ∈ fs → b ∉ ex → ∃ sl,h'.get? b = some { o with slots:=sl }
 free : ∀ b o,h.get? b = some o → H b = none → b ∉ ex → H' b = none
 there : ∀ b o,h.get? b = some o → b ∉ ex → ∃ o',h'.get? b = some o'
 tups : ∀ b xs,H b = some (.tup xs) → H' b = some (.tup xs)
 frzs : ∀ b o u,H b = some (.frz o u) → H' b = some (.frz o u)
 tbls : ∀ b ps,H b = some (.tbl ps) → ∃ more,H' b = some (.tbl (ps ++ more))
section
variable {fs fs' ex ex' : List Addr} {H H1 H2 : Hp} {h h1 h2 h' : Heap} {a x e : Addr} {o : HO}
theorem Un.any (u : Un fs ex H H1 h h1) {b : Addr} {ob : Obj} (q : h.get? b = some ob) (n : H b = none) (hx : b ∉ ex) : ∃ sl,h1.get? b = some { ob with slots:=sl }:=by
 by_cases hb : b ∈ fs
 ·exact u.slot b ob q n hb hx
 ·exact ⟨ob.slots,u.keep b ob q n hb hx⟩
theorem Un.kept (k : ∀ b u,h.get? b = some u → h'.get? b = some u) : Un fs ex H H h h' :=
 ⟨fun b ob q _ _ _=>k b ob q,fun b ob q _ _ _=>⟨ob.slots,k b ob q⟩,fun _ _ _ n _=>n,fun b ob q _=>⟨ob,k b ob q⟩,fun _ _ q=>q,fun _ _ _ q=>q,fun _ ps q=>⟨#[],by rw [q]; simp⟩⟩
theorem Un.refl : Un fs ex H H h h:=Un.kept fun _ _ q=>q
theorem Un.laid (k : ∀ b u,h.get? b = some u → h'.get? b = some u) (hp : h.objs.size ≤ a) (hn : H a = none) : Un fs ex H (upd H a o) h h' where
 keep:=fun b u q _ _ _=>k b u q
 slot:=fun b u q _ _ _=>⟨u.slots,k b u q⟩
 free:=fun b u q n _=>by rw [jai (Nat.ne_of_lt (Nat.lt_of_lt_of_le (Heap.lt_size q) hp))]; exact n
 there:=fun b u q _=>⟨u,k b u q⟩
 tups:=fun b xs q=>by rw [jai (ja7 q hn)]; exact q
 frzs:=fun b u xs q=>by rw [jai (ja7 q hn)]; exact q
 tbls:=fun b ps q=>⟨#[],by rw [jai (ja7 q hn),q]; simp⟩
theorem Un.write (mu : Mut (H x)) (he : e = x ∨ H e = some (.own x)) (k : ∀ b u,b ≠ e → h.get? b = some u → h'.get? b = some u) (heo : ∃ u,h'.get? e = some u) : Un fs ex H (upd H x o) h h':=by
 have hx : ∀ b,H b = none → b ≠ x:=fun b n z=>by subst z; rw [n] at mu; exact mu
 have hb : ∀ b,H b = none → b ≠ e:=fun b n z=>by
  subst z
  rcases he with r | r
  ·exact hx b n r
  ·rw [n] at r; cases r
 have hm : ∀ b u,H b = some u → ¬ Mut (some u) → b ≠ x:=fun b u q nm z=>by subst z; rw [q] at mu; exact nm mu
 refine ⟨fun b u q n _ _=>k b u (hb b n) q,fun b u q n _ _=>⟨u.slots,k b u (hb b n) q⟩,fun b u q n _=>by rw [jai (hx b n)]; exact n,fun b u q _=>?_,
  fun b xs q=>by rw [jai (hm b _ q fun z=>z)]; exact q,fun b u xs q=>by rw [jai (hm b _ q fun z=>z)]; exact q,fun b ps q=>⟨#[],by rw [jai (hm b _ q fun z=>z),q]; simp⟩⟩
 by_cases hbe : b = e
 ·subst hbe; exact heo
 ·exact ⟨u,k b u hbe q⟩
end
noncomputable def trk (h : Heap) (H : Hp) : List Addr:=(List.range h.objs.size).filter fun a=>(H a).isSome
noncomputable def hidT (h : Heap) (H : Hp) : Heap:=PySem.W.hideAll h (trk h H)
theorem jnf (h : Heap) (H : Hp) : (hidT h H).objs.size = h.objs.size:=PySem.W.hideAll_size _ _
theorem jpm {h : Heap} {H : Hp} {b : Addr} {o : Obj} (e : h.get? b = some o) (n : H b = none) : (hidT h H).get? b = some o :=
 PySem.W.hideAll_get _ e fun hm=>by
  have q : (H b).isSome = true:=(List.mem_filter.mp hm).2
  rw [n] at q; simp at q
theorem js6 {h : Heap} {H : Hp} {b : Addr} {o : Obj} (e : (hidT h H).get? b = some o) : h.get? b = some o ∧ H b = none:=by
 have e' : h.get? b = some o:=PySem.W.of_hideAll (trk h H) e
 refine ⟨e',?_⟩
 cases q : H b with
 | none=>rfl
 | some x =>
  have hm : b ∈ trk h H:=List.mem_filter.mpr ⟨List.mem_range.mpr (Heap.lt_size e'),by simp [q]⟩
  have z : (hidT h H).get? b = none:=PySem.W.hideAll_none (trk h H) hm
  rw [z] at e; cases e
noncomputable def jrr (g h : Heap) (L : Addr) : List (Addr × Obj):=(List.range h.objs.size).filterMap fun a=>if a = L ∨ (g.get? a).isSome = true then none else (h.get? a).map fun o=>(a,o)
noncomputable def rest (g h : Heap) (L d : Addr) : List (Addr × Obj):=(jrr g h L).filter fun p=>decide (p.1 ≠ d)
end L2
namespace L2
open PySem PySem.Spec PyProof.Rows
structure Mod (K : PySem.W.Frag) (mg : Str → Option Value) (base : Heap) : Prop where
 kin : K.In base
 glob : base.Ns mainGlobals mg
 blt : ∃ mb,base.Ns builtinsNs mb ∧ ∀ x : Str,x ≠ "__name__" → mb x = bootBuiltins x
 nolimit : base.NoLimit
structure Cx where
 prog : Program
 w : World
 K : PySem.W.Frag
 mg : Str → Option Value
 base : Heap
 A : Around
 N : List Str
 s₀ : Shared
 H₀ : Hp
 env : Env
 outer : List Env
 stack : List Env
 ex : List Addr
 fn : Str → Bool
 calm : Bool
 pn : List (Addr × Obj)
 xe : Value → Shared → Prop
noncomputable def frs (l : List Env) : List Addr:=l.filterMap (·.frame)
noncomputable abbrev Cx.fs (X : Cx) : List Addr:=frs X.outer
noncomputable def Vis (sc : Scope) (x : Str) : Prop:=sc.names.lookup x = some .local ∨ sc.names.lookup x = some .cell ∨ sc.names.lookup x = some .free
noncomputable def Loc (sc : Scope) (x : Str) : Prop:=sc.names.lookup x = some .local ∨ sc.names.lookup x = some .cell
noncomputable def Look (env : Env) (h : Heap) (m : Str → Option Value) (x : Str) (u : Value) : Prop :=
 (env.kindOf x = some .local ∧ m x = some u) ∨ ((env.kindOf x = some .cell ∨ env.kindOf x = some .free) ∧ ∃ c,env.cells.lookup x = some c ∧ h.IsCell c (some u))
structure Cx.Ok (X : Cx) : Prop where
 mod : Mod X.K X.mg X.base
 kind : X.env.scope.kind = .function
 glob : X.env.globals = mainGlobals
 blt : X.env.builtins = builtinsNs
 above : X.s₀.heap.objs.size ≤ X.env.locals
 inj : ∀ x y c,X.env.cells.lookup x = some c → X.env.cells.lookup y = some c → x = y
 has : ∀ x,(X.env.kindOf x = some .cell ∨ X.env.kindOf x = some .free) → ∃ c,X.env.cells.lookup x = some c
 cab : ∀ x c,X.fn x = true → X.env.cells.lookup x = some c → X.s₀.heap.objs.size ≤ c
 hd : X.calm = true → X.A.handled = none
 frames : X.A.frames = some X.stack
 stk : X.stack = X.outer ∨ (X.stack = X.env :: X.outer ∧ X.env.frame = some X.env.locals)
 exf : ∀ b ∈ X.ex,b ≠ X.env.locals ∧ ∀ x c,X.env.cells.lookup x = some c → c ≠ b
 bs : ∀ b o,X.base.get? b = some o → X.s₀.heap.get? b = some o ∧ X.H₀ b = none
 bsz : X.base.objs.size ≤ X.s₀.heap.objs.size
 noex : ∀ b o,X.base.get? b = some o → b ∉ X.ex
 exfs : ∀ b ∈ X.ex,b ∉ X.fs
 funs : X.s₀.heap.FunFrames X.base X.outer
 frf : ∀ b ∈ X.fs,X.H₀ b = none
structure Inv (X : Cx) (pins : List (Addr × Obj)) (σ : List (Option V)) (H : Hp) (s : Shared) : Prop where
 ok : X.Ok
 os : s.os = X.s₀.os
 bare : AllBare s.gens
 base : Un X.fs X.ex X.H₀ H X.s₀.heap s.heap
 loc : ∃ m,s.heap.Ns X.env.locals m ∧ ∀ (i : Nat) (x : Str) (v : V),X.N[i]? = some x → σ[i]? = some (some v) → Vis X.env.scope x → ∃ u,RelV v u ∧ Look X.env s.heap m x u
 cell : ∀ x c,X.env.cells.lookup x = some c → ∃ v,s.heap.IsCell c v
 free : H X.env.locals = none
 freeC : ∀ x c,X.env.cells.lookup x = some c → H c = none
 pin : ∀ p ∈ X.pn ++ pins,s.heap.get? p.1 = some p.2 ∧ H p.1 = none ∧ p.1 ≠ X.env.locals ∧ p.1 ∉ X.fs ∧ ∀ v,p.2.data ≠ .cell v
 hok : HOk X.prog X.w H s.heap
 len : σ.length = X.N.length
section
variable {X : Cx} {pins : List (Addr × Obj)} {σ : List (Option V)} {H H' : Hp} {s : Shared} {h' : Heap}
theorem Cx.Ok.nofr (ok : X.Ok) {b : Addr} {o : Obj} (e : X.base.get? b = some o) : b ∉ X.fs:=fun hb=>by
 have:=(ok.funs.mem hb).1
 rw [e] at this; cases this
theorem Inv.bs (I : Inv X pins σ H s) : ∀ b o,X.base.get? b = some o → s.heap.get? b = some o ∧ H b = none:=fun b o e =>
 ⟨I.base.keep b o (I.ok.bs b o e).1 (I.ok.bs b o e).2 (I.ok.nofr e) (I.ok.noex b o e),I.base.free b o (I.ok.bs b o e).1 (I.ok.bs b o e).2 (I.ok.noex b o e)⟩
theorem Inv.bk (I : Inv X pins σ H s) : ∀ b o,X.base.get? b = some o → s.heap.get? b = some o:=fun b o e=>(I.bs b o e).1
theorem Inv.mod (I : Inv X pins σ H s) : Mod X.K X.mg X.base:=I.ok.mod
theorem Inv.kIn (I : Inv X pins σ H s) : X.K.In s.heap:=I.ok.mod.kin.keeps I.bk
theorem Inv.lt (I : Inv X pins σ H s) : X.env.locals < s.heap.objs.size:=let ⟨_,hn,_⟩:=I.loc; hn.lt
theorem Inv.sz (I : Inv X pins σ H s) : X.s₀.heap.objs.size ≤ s.heap.objs.size:=Nat.le_trans I.ok.above (Nat.le_of_lt I.lt)
theorem Inv.nofs (I : Inv X pins σ H s) {a : Addr} (h : s.heap.objs.size ≤ a) : a ∉ X.fs:=fun hb=>by
 obtain ⟨_,o,ho,_⟩:=I.ok.funs.mem hb
 exact absurd (Nat.lt_of_lt_of_le (Heap.lt_size ho) (Nat.le_trans I.sz h)) (Nat.lt_irrefl _)
theorem Inv.cne (I : Inv X pins σ H s) : ∀ x c,X.env.cells.lookup x = some c → c ≠ X.env.locals:=fun x c e z=>by
 obtain ⟨v,o,ho,hd⟩:=I.cell x c e
 obtain ⟨m,⟨o',es,ep,ho',hd',_⟩,_⟩:=I.loc
 rw [z,ho'] at ho; cases ho; rw [hd'] at hd; cases hd
theorem Inv.funs (I : Inv X pins σ H s) : s.heap.FunFrames X.base X.outer:=by
 have all : ∀ (l : List Env),(∀ b ∈ frs l,b ∈ X.fs) → X.s₀.heap.FunFrames X.base l → s.heap.FunFrames X.base l:=by
  intro l
  induction l with
  | nil=>intro _ _; trivial
  | cons env r ih =>
   intro hs hl
   obtain ⟨hk,⟨L,o,hf,hn,ho,hd⟩,hr⟩:=hl
   have hL : L ∈ X.fs:=hs L (by unfold frs; rw [List.filterMap_cons,hf]; exact List.mem_cons_self)
   obtain ⟨sl,e⟩:=I.base.slot L o ho (I.ok.frf L hL) hL fun z=>I.ok.exfs L z hL
   exact ⟨hk,⟨L,_,hf,hn,e,hd⟩,ih (fun b hb=>hs b (by unfold frs; rw [List.filterMap_cons,hf]; exact List.mem_cons_of_mem _ hb)) hr⟩
 exact all X.outer (fun _ hb=>hb) I.ok.funs
theorem Inv.stack (I : Inv X pins σ H s) : s.heap.FunFrames X.base X.stack:=by
 rcases I.ok.stk with e | ⟨e,hf⟩
 ·rw [e]; exact I.funs
 ·rw [e]
  obtain ⟨m,hn,_⟩:=I.loc
  refine .cons (by rw [I.ok.kind]; decide) hf hn ?_ I.funs
  exact Heap.get?_none_of_le (Nat.le_trans I.ok.bsz I.ok.above)
theorem Inv.stkSub (I : Inv X pins σ H s) : ∀ b ∈ frs X.stack,b ∈ X.env.locals :: X.fs:=fun b hb=>by
 rcases I.ok.stk with e | ⟨e,hf⟩
 ·rw [e] at hb; exact List.mem_cons_of_mem _ hb
 ·rw [e] at hb
  unfold frs at hb
  rw [List.filterMap_cons,hf] at hb
  exact hb
theorem Inv.stkFree (I : Inv X pins σ H s) : ∀ b ∈ frs X.stack,H b = none:=fun b hb=>by
 rcases List.mem_cons.mp (I.stkSub b hb) with e | hb
 ·rw [e]; exact I.free
 ·obtain ⟨_,o,ho,_⟩:=I.ok.funs.mem hb
  exact I.base.free b o ho (I.ok.frf b hb) fun z=>I.ok.exfs b z hb
theorem Inv.step {g' : Array GenState} {t' : Nat} {d' : Drawn} {ch : List Addr} (I : Inv X pins σ H s)
  (hch : ∀ b ∈ ch,(b ∈ X.ex ∨ X.s₀.heap.objs.size ≤ b) ∧ b ≠ X.env.locals ∧ (∀ x c,X.env.cells.lookup x = some c → c ≠ b) ∧ ∀ p ∈ X.pn ++ pins,p.1 ≠ b)
  (keep : ∀ b o,b ≠ X.env.locals → b ∉ X.fs → b ∉ ch → s.heap.get? b = some o → H b = none → h'.get? b = some o)
  (slot : ∀ b o,b ≠ X.env.locals → b ∈ X.fs → b ∉ ch → s.heap.get? b = some o → H b = none → ∃ sl,h'.get? b = some { o with slots:=sl }) (free : ∀ b o,b ∉ ch → s.heap.get? b = some o → H b = none → H' b = none)
  (there : ∀ b o,b ∉ ch → s.heap.get? b = some o → ∃ o',h'.get? b = some o')
  (tups : ∀ b xs,H b = some (.tup xs) → H' b = some (.tup xs)) (frzs : ∀ b o u,H b = some (.frz o u) → H' b = some (.frz o u)) (tbls : ∀ b ps,H b = some (.tbl ps) → ∃ more,H' b = some (.tbl (ps ++ more)))
  (ns : ∀ m,s.heap.Ns X.env.locals m → h'.Ns X.env.locals m) (hok : HOk X.prog X.w H' h') (hg : AllBare g') :
  Inv X pins σ H' { s with heap:=h',gens:=g',drawn:=d',toks:=t' }:=by
 have neL : ∀ b o,X.s₀.heap.get? b = some o → b ≠ X.env.locals:=fun b o e=>Nat.ne_of_lt (Nat.lt_of_lt_of_le (Heap.lt_size e) I.ok.above)
 have neC : ∀ b o,X.s₀.heap.get? b = some o → b ∉ X.ex → b ∉ ch:=fun b o e hx hb=>by
  rcases (hch b hb).1 with z | z
  ·exact hx z
  ·exact absurd (Nat.lt_of_lt_of_le (Heap.lt_size e) z) (Nat.lt_irrefl _)
 have cellK : ∀ x c,X.env.cells.lookup x = some c → ∀ v,s.heap.IsCell c v → h'.IsCell c v:=fun x c e v ⟨o,ho,hd⟩=>by
  have nch : c ∉ ch:=fun z=>(hch c z).2.2.1 x c e rfl
  by_cases hc : c ∈ X.fs
  ·obtain ⟨sl,q⟩:=slot c o (I.cne x c e) hc nch ho (I.freeC x c e)
   exact ⟨_,q,hd⟩
  ·exact ⟨o,keep c o (I.cne x c e) hc nch ho (I.freeC x c e),hd⟩
 refine ⟨I.ok,I.os,hg,⟨fun b o e n hb hx=>?_,fun b o e n hb hx=>?_,fun b o e n hx=>?_,fun b o e hx=>?_,fun b xs e=>tups b xs (I.base.tups b xs e),fun b o xs e=>frzs b o xs (I.base.frzs b o xs e),fun b ps e=>?_⟩,?_,fun x c e=>?_,?_,fun x c e=>?_,fun p hp=>?_,hok,I.len⟩
 ·exact keep b o (neL b o e) hb (neC b o e hx) (I.base.keep b o e n hb hx) (I.base.free b o e n hx)
 ·obtain ⟨sl,e1⟩:=I.base.slot b o e n hb hx
  obtain ⟨sl',e2⟩:=slot b _ (neL b o e) hb (neC b o e hx) e1 (I.base.free b o e n hx)
  exact ⟨sl',e2⟩
 ·obtain ⟨o',e1⟩:=I.base.there b o e hx
  exact free b o' (neC b o e hx) e1 (I.base.free b o e n hx)
 ·obtain ⟨o',e1⟩:=I.base.there b o e hx
  exact there b o' (neC b o e hx) e1
 ·obtain ⟨m1,e1⟩:=I.base.tbls b ps e
  obtain ⟨m2,e2⟩:=tbls b _ e1
  exact ⟨m1 ++ m2,by rw [e2,Array.append_assoc]⟩
 ·obtain ⟨m,hn,hl⟩:=I.loc
  refine ⟨m,ns m hn,fun i x v e1 e2 e3=>?_⟩
  obtain ⟨u,r,l⟩:=hl i x v e1 e2 e3
  refine ⟨u,r,?_⟩
  rcases l with l | ⟨k,c,e,z⟩
  ·exact .inl l
  ·exact .inr ⟨k,c,e,cellK x c e _ z⟩
 ·obtain ⟨v,z⟩:=I.cell x c e
  exact ⟨v,cellK x c e v z⟩
 ·obtain ⟨m,⟨o,_,_,ho,_⟩,_⟩:=I.loc
  exact free _ o (fun z=>(hch _ z).2.1 rfl) ho I.free
 ·obtain ⟨v,o,ho,hd⟩:=I.cell x c e
  exact free c o (fun z=>(hch c z).2.2.1 x c e rfl) ho (I.freeC x c e)
 ·obtain ⟨e,n,ne,nf,d⟩:=I.pin p hp
  have nch : p.1 ∉ ch:=fun z=>(hch p.1 z).2.2.2 p hp rfl
  exact ⟨keep p.1 p.2 ne nf nch e n,free p.1 p.2 nch e n,ne,nf,d⟩
theorem Inv.un {t' : Nat} (I : Inv X pins σ H s) (u : Un X.fs [] H H' s.heap h') (hok : HOk X.prog X.w H' h') : Inv X pins σ H' { s with heap:=h',toks:=t' }:=by
 obtain ⟨m,⟨o,es,ep,ho,r⟩,_⟩:=id I.loc
 obtain ⟨sl,hL⟩:=u.any ho I.free (by simp)
 exact I.step (g':=s.gens) (d':=s.drawn) (ch:=[]) (fun _ z=>nomatch z) (fun b o _ hb _ e n=>u.keep b o e n hb (by simp)) (fun b o _ hb _ e n=>u.slot b o e n hb (by simp)) (fun b o _ e n=>u.free b o e n (by simp)) (fun b o _ e=>u.there b o e (by simp)) u.tups u.frzs u.tbls (fun m' hm=>by
  obtain ⟨o',es',ep',ho',r'⟩:=hm
  rw [ho] at ho'; cases ho'
  exact ⟨_,es',ep',hL,r'⟩) hok I.bare
theorem Inv.call {g' : Array GenState} {t' : Nat} {d' : Drawn} {ch : List Addr} (I : Inv X pins σ H s) (u : Un (frs X.stack) ch H H' s.heap h') (hok : HOk X.prog X.w H' h') (hg : AllBare g')
  (hch : ∀ b ∈ ch,(b ∈ X.ex ∨ X.s₀.heap.objs.size ≤ b) ∧ b ≠ X.env.locals ∧ (∀ x c,X.env.cells.lookup x = some c → c ≠ b) ∧ ∀ p ∈ X.pn ++ pins,p.1 ≠ b) :
  Inv X pins σ H' { s with heap:=h',gens:=g',drawn:=d',toks:=t' }:=by
 obtain ⟨m,⟨o,es,ep,ho,r⟩,_⟩:=id I.loc
 obtain ⟨sl,hL⟩:=u.any ho I.free fun z=>(hch _ z).2.1 rfl
 exact I.step (ch:=ch) hch (fun b o hL hb hc e n=>u.keep b o e n (fun z=>(List.mem_cons.mp (I.stkSub b z)).elim hL hb) hc) (fun b o _ _ hc e n=>u.any e n hc) (fun b o hc e n=>u.free b o e n hc) (fun b o hc e=>u.there b o e hc) u.tups u.frzs u.tbls (fun m' hm=>by
  obtain ⟨o',es',ep',ho',r'⟩:=hm
  rw [ho] at ho'; cases ho'
  exact ⟨_,es',ep',hL,r'⟩) hok hg
theorem Inv.turned {t' : Nat} {it : Addr} (I : Inv X pins σ H s) (k : ∀ b o,b ≠ it → s.heap.get? b = some o → h'.get? b = some o) (hn : H it = none) (hL : it ≠ X.env.locals)
  (h1 : it ∈ X.ex ∨ X.s₀.heap.objs.size ≤ it) (h2 : ∀ x c,X.env.cells.lookup x = some c → c ≠ it) (h3 : ∀ p ∈ X.pn ++ pins,p.1 ≠ it) : Inv X pins σ H { s with heap:=h',toks:=t' }:=by
 have nit : ∀ b u,H b = some u → b ≠ it:=fun b u e z=>by rw [z,hn] at e; cases e
 refine I.step (g':=s.gens) (d':=s.drawn) (ch:=[it]) (fun b hb=>?_) (fun b o _ _ hc e _=>k b o (fun z=>hc (by simp [z])) e) (fun b o _ _ hc e _=>⟨o.slots,k b o (fun z=>hc (by simp [z])) e⟩) (fun _ _ _ _ n=>n)
  (fun b o hc e=>⟨o,k b o (fun z=>hc (by simp [z])) e⟩) (fun _ _ e=>e) (fun _ _ _ e=>e) (fun b ps e=>⟨#[],by rw [e]; simp⟩) (fun m hm=>?_) (fun b u e=>?_) I.bare
 ·have e : b = it:=by simpa using hb
  subst e
  exact ⟨h1,hL,h2,h3⟩
 ·obtain ⟨o,es,ep,ho,r⟩:=hm
  exact ⟨o,es,ep,k _ o (Ne.symm hL) ho,r⟩
 ·refine (I.hok b u e).stay (fun c v hc q=>k c v ?_ q) (fun _ q=>q) fun _ _ q=>q
  rcases hc with z | z
  ·rw [z]; exact nit b u e
  ·exact nit c _ z
theorem Inv.tok (I : Inv X pins σ H s) (t : Nat) : Inv X pins σ H { s with toks:=t }:=I.un (h':=s.heap) (t':=t) Un.refl I.hok
theorem Inv.kept {t' : Nat} (I : Inv X pins σ H s) (k : ∀ b u,s.heap.get? b = some u → h'.get? b = some u) : Inv X pins σ H { s with heap:=h',toks:=t' }:=I.un (Un.kept k) (I.hok.kept k)
theorem Inv.laid {a : Addr} {o : HO} {t' : Nat} (I : Inv X pins σ H s) (k : ∀ b u,s.heap.get? b = some u → h'.get? b = some u) (hp : s.heap.objs.size ≤ a) (new : ObjOk X.prog X.w (upd H a o) h' a o) :
  Inv X pins σ (upd H a o) { s with heap:=h',toks:=t' }:=I.un (Un.laid k hp (I.hok.fresh hp)) (I.hok.laid k hp new)
theorem Inv.write {x e : Addr} {o : HO} {t' : Nat} (I : Inv X pins σ H s) (mu : Mut (H x)) (he : e = x ∨ H e = some (.own x)) (k : ∀ b u,b ≠ e → s.heap.get? b = some u → h'.get? b = some u) (heo : ∃ u,h'.get? e = some u)
  (new : ObjOk X.prog X.w (upd H x o) h' x o) : Inv X pins σ (upd H x o) { s with heap:=h',toks:=t' }:=I.un (Un.write mu he k heo) (I.hok.write mu he k heo new)
theorem Inv.pins_of {pins' : List (Addr × Obj)} (I : Inv X pins σ H s) (h : ∀ p ∈ pins',s.heap.get? p.1 = some p.2 ∧ H p.1 = none ∧ p.1 ≠ X.env.locals ∧ p.1 ∉ X.fs ∧ ∀ v,p.2.data ≠ .cell v) : Inv X pins' σ H s :=
 ⟨I.ok,I.os,I.bare,I.base,I.loc,I.cell,I.free,I.freeC,fun p hp=>(List.mem_append.mp hp).elim (fun z=>I.pin p (List.mem_append_left _ z)) (h p),I.hok,I.len⟩
theorem jie {N : List Str} (hN : N.Nodup) {i j : Nat} {x : Str} (a : N[i]? = some x) (b : N[j]? = some x) : i = j:=by
 obtain ⟨h1,e1⟩:=List.getElem?_eq_some_iff.mp a
 obtain ⟨h2,e2⟩:=List.getElem?_eq_some_iff.mp b
 exact (List.getElem_inj hN).mp (e1.trans e2.symm)
theorem jj3 {M : Model} {A : Around} {E : Value → Shared → Prop} {i : Nat} {x : Str} {v : V} {u : Value} {Q : Unit → Shared → Prop} (I : Inv X pins σ H s) (hN : X.N.Nodup) (hi : X.N[i]? = some x) (hx : Loc X.env.scope x) (r : RelV v u)
  (h : ∀ s',Inv X pins (σ.set i (some v)) H s' → (∃ a,Heap.SameBut a s.heap s'.heap ∧ (a = X.env.locals ∨ X.env.cells.lookup x = some a)) → Q () s') (hf : autoParam (X.fn x = true ∨ X.env.scope.names.lookup x = some .local) zau0._auto_1) : wpAny M A (storeName X.env x u) Q E s:=by
 obtain ⟨m,hn,hl⟩:=id I.loc
 have hcls : (X.env.scope.kind == .class || (X.env.scope.kind == .module && X.env.locals != X.env.globals)) = false:=by rw [I.ok.kind]; rfl
 have hiσ : i < σ.length:=by rw [I.len]; exact (List.getElem?_eq_some_iff.mp hi).1
 have cne:=I.cne
 have tracked : ∀ {a : Addr} {h' : Heap},(∃ o,s.heap.get? a = some o ∧ H a = none) → Heap.SameBut a s.heap h' → HOk X.prog X.w H h':=fun {a h'} ha hs b ob e=>by
  obtain ⟨_,_,hfree⟩:=ha
  refine (I.hok b ob e).stay (fun c w' hc q=>(hs.2 c ?_).trans q) (fun _ q=>q) fun _ _ q=>q
  rintro rfl
  rcases hc with rfl | hc
  ·rw [hfree] at e; cases e
  ·rw [hfree] at hc; cases hc
 rcases hx with hk | hk
 ·refine wpAny_storeName_local hk hn (fun h' hn' hs=>?_) hcls
  obtain ⟨oL,_,_,hoL,_⟩:=id hn
  refine h _ ⟨I.ok,I.os,I.bare,⟨fun b o e n hb hx=>?_,fun b o e n hb hx=>?_,I.base.free,fun b o e hx=>?_,I.base.tups,I.base.frzs,I.base.tbls⟩,⟨_,hn',fun j y v' e1 e2 e3=>?_⟩,fun y c e=>?_,I.free,I.freeC,fun p hp=>?_,tracked ⟨oL,hoL,I.free⟩ hs,by simpa using I.len⟩ ⟨_,hs,.inl rfl⟩
  ·exact (hs.2 b (Nat.ne_of_lt (Nat.lt_of_lt_of_le (Heap.lt_size e) I.ok.above))).trans (I.base.keep b o e n hb hx)
  ·obtain ⟨sl,e1⟩:=I.base.slot b o e n hb hx
   exact ⟨sl,(hs.2 b (Nat.ne_of_lt (Nat.lt_of_lt_of_le (Heap.lt_size e) I.ok.above))).trans e1⟩
  ·obtain ⟨o',e1⟩:=I.base.there b o e hx
   exact ⟨o',(hs.2 b (Nat.ne_of_lt (Nat.lt_of_lt_of_le (Heap.lt_size e) I.ok.above))).trans e1⟩
  ·by_cases hj : j = i
   ·subst hj
    rw [hi] at e1; cases e1
    rw [List.getElem?_set_self hiσ] at e2
    cases e2
    exact ⟨u,r,.inl ⟨hk,by simp⟩⟩
   ·rw [List.getElem?_set_ne (Ne.symm hj)] at e2
    obtain ⟨u',r',q⟩:=hl j y v' e1 e2 e3
    refine ⟨u',r',?_⟩
    rcases q with ⟨k,e⟩ | ⟨k,c,e,z⟩
    ·refine .inl ⟨k,?_⟩
     have : y ≠ x:=fun e=>hj (jie hN e1 (e ▸ hi))
     simp [this,e]
    ·exact .inr ⟨k,c,e,z.sameBut hs (cne y c e)⟩
  ·obtain ⟨w',z⟩:=I.cell y c e
   exact ⟨w',z.sameBut hs (cne y c e)⟩
  ·obtain ⟨e,n,ne,nf,d⟩:=I.pin p hp
   exact ⟨(hs.2 p.1 ne).trans e,n,ne,nf,d⟩
 ·have hfn : X.fn x = true:=by
   rcases hf with z | z
   ·exact z
   ·rw [z] at hk; cases hk
  obtain ⟨c,hc⟩:=I.ok.has x (.inl hk)
  obtain ⟨w',z⟩:=I.cell x c hc
  refine wpAny_storeName_cell I.ok.kind hk hc z (fun h' hc' hs=>?_)
  obtain ⟨oc,hoc,hocd⟩:=id z
  refine h { s with heap:=h' } ⟨I.ok,I.os,I.bare,⟨fun b o e n hb hx=>?_,fun b o e n hb hx=>?_,I.base.free,fun b o e hx=>?_,I.base.tups,I.base.frzs,I.base.tbls⟩,⟨m,hn.sameBut hs (Ne.symm (cne x c hc)),fun j y v' e1 e2 e3=>?_⟩,fun y c' e=>?_,I.free,I.freeC,fun p hp=>?_,tracked ⟨oc,hoc,I.freeC x c hc⟩ hs,by simpa using I.len⟩ ⟨c,hs,.inr hc⟩
  ·exact (hs.2 b (Nat.ne_of_lt (Nat.lt_of_lt_of_le (Heap.lt_size e) (I.ok.cab x c hfn hc)))).trans (I.base.keep b o e n hb hx)
  ·obtain ⟨sl,e1⟩:=I.base.slot b o e n hb hx
   exact ⟨sl,(hs.2 b (Nat.ne_of_lt (Nat.lt_of_lt_of_le (Heap.lt_size e) (I.ok.cab x c hfn hc)))).trans e1⟩
  ·obtain ⟨o',e1⟩:=I.base.there b o e hx
   exact ⟨o',(hs.2 b (Nat.ne_of_lt (Nat.lt_of_lt_of_le (Heap.lt_size e) (I.ok.cab x c hfn hc)))).trans e1⟩
  ·by_cases hj : j = i
   ·subst hj
    rw [hi] at e1; cases e1
    rw [List.getElem?_set_self hiσ] at e2
    cases e2
    exact ⟨u,r,.inr ⟨.inl hk,c,hc,hc'⟩⟩
   ·rw [List.getElem?_set_ne (Ne.symm hj)] at e2
    obtain ⟨u',r',q⟩:=hl j y v' e1 e2 e3
    refine ⟨u',r',?_⟩
    rcases q with q | ⟨k,c',e,z'⟩
    ·exact .inl q
    ·refine .inr ⟨k,c',e,z'.sameBut hs ?_⟩
     rintro rfl
     exact hj (jie hN e1 (I.ok.inj _ _ _ e hc ▸ hi))
  ·by_cases hcc : c' = c
   ·subst hcc; exact ⟨_,hc'⟩
   ·obtain ⟨w2,z2⟩:=I.cell y c' e
    exact ⟨w2,z2.sameBut hs hcc⟩
  ·obtain ⟨e,n,ne,nf,d⟩:=I.pin p hp
   refine ⟨(hs.2 p.1 ?_).trans e,n,ne,nf,d⟩
   intro q
   rw [q,hoc] at e
   have q' : oc = p.2:=Option.some.inj e
   exact d w' (by rw [← q']; exact hocd)
theorem jfu {M : Model} {A : Around} {E : Value → Shared → Prop} {i : Nat} {x : Str} {v : V} {u : Value} {Q : Unit → Shared → Prop} (I : Inv X pins σ H s) (hN : X.N.Nodup) (hi : X.N[i]? = some x) (hx : Loc X.env.scope x) (r : RelV v u)
  (h : ∀ s',Inv X pins (σ.set i (some v)) H s' → Q () s') (hf : autoParam (X.fn x = true ∨ X.env.scope.names.lookup x = some .local) zau0._auto_1) : wpAny M A (storeName X.env x u) Q E s :=
 jj3 I hN hi hx r (fun s' I' _=>h s' I') hf
theorem Inv.call' {s' : Shared} {ch : List Addr} (I : Inv X pins σ H s) (ho : s'.os = s.os) (u : Un (frs X.stack) ch H H' s.heap s'.heap) (hok : HOk X.prog X.w H' s'.heap) (hg : AllBare s'.gens)
  (hch : ∀ b ∈ ch,(b ∈ X.ex ∨ X.s₀.heap.objs.size ≤ b) ∧ b ≠ X.env.locals ∧ (∀ x c,X.env.cells.lookup x = some c → c ≠ b) ∧ ∀ p ∈ X.pn ++ pins,p.1 ≠ b) : Inv X pins σ H' s':=by
 obtain ⟨h',g',d',t',o'⟩:=s'
 have e : o' = s.os:=ho
 subst e
 exact I.call (g':=g') (t':=t') (d':=d') u hok hg hch
end
noncomputable abbrev XK:=Value → Option Addr → Hp → Prop
noncomputable abbrev St:=List (Option V)
noncomputable abbrev VK:=V → Hp → Prop
noncomputable abbrev TE:=St → Hp → VK → Prop
noncomputable abbrev TT:=St → Hp → (Bool → Hp → Prop) → Prop
noncomputable abbrev TA:=St → Hp → (List V → Hp → Prop) → Prop
structure Ends where
 nx : St → Hp → Prop
 rt : VK
 bk : St → Hp → Prop:=fun _ _=>False
 ct : St → Hp → Prop:=fun _ _=>False
noncomputable abbrev TS:=Ends → St → Hp → Prop
inductive EP (X : Cx) (pins : List (Addr × Obj)) (σ : St) (Q : VK) (u : Value) (s' : Shared) : Prop
 | mk (v : V) (H' : Hp) (h0 : Inv X pins σ H' s') (h1 : RelV v u) (h2 : Q v H')
inductive TP (X : Cx) (pins : List (Addr × Obj)) (σ : St) (Q : Bool → Hp → Prop) (b : Bool) (s' : Shared) : Prop
 | mk (H' : Hp) (h0 : Inv X pins σ H' s') (h1 : Q b H')
inductive AP (X : Cx) (pins : List (Addr × Obj)) (σ : St) (Q : List V → Hp → Prop) (us : List Value) (s' : Shared) : Prop
 | mk (vs : List V) (H' : Hp) (h0 : Inv X pins σ H' s') (h1 : Vals vs us) (h2 : Q vs H')
noncomputable def SP (X : Cx) (pins : List (Addr × Obj)) (D : Ends) (f : Flow) (s' : Shared) : Prop :=
 match f with
 | .next=>∃ σ' H',Inv X pins σ' H' s' ∧ D.nx σ' H'
 | .brk=>∃ σ' H',Inv X pins σ' H' s' ∧ D.bk σ' H'
 | .cont=>∃ σ' H',Inv X pins σ' H' s' ∧ D.ct σ' H'
 | .ret u=>∃ v σ' H',Inv X pins σ' H' s' ∧ RelV v u ∧ D.rt v H'
noncomputable def PE (X : Cx) (e : Expr) (t : TE) : Prop :=
 ∀ (pins : List (Addr × Obj)) (s : Shared) (σ : St) (H : Hp) (Q : VK),Inv X pins σ H s → t σ H Q → wpAny (model X.prog X.w) X.A (eval e X.env) (EP X pins σ Q) X.xe s
noncomputable def PT (X : Cx) (e : Expr) (t : TT) : Prop :=
 ∀ (pins : List (Addr × Obj)) (s : Shared) (σ : St) (H : Hp) (Q : Bool → Hp → Prop),Inv X pins σ H s → t σ H Q → wpAny (model X.prog X.w) X.A (isTrue e X.env (eval e X.env)) (TP X pins σ Q) X.xe s
noncomputable def PW (X : Cx) (e : Expr) (t : TT) : Prop :=
 ∀ (whole : Sem Value) (pins : List (Addr × Obj)) (s : Shared) (σ : St) (H : Hp) (Q : Bool → Hp → Prop),Inv X pins σ H s → t σ H Q → wpAny (model X.prog X.w) X.A (isTrue e X.env whole) (TP X pins σ Q) X.xe s
theorem PW.pt {X : Cx} {e : Expr} {t : TT} (h : PW X e t) : PT X e t:=h _
noncomputable def PA (X : Cx) (es : List Expr) (t : TA) : Prop :=
 ∀ (pos : Pos) (pins : List (Addr × Obj)) (s : Shared) (σ : St) (H : Hp) (Q : List V → Hp → Prop),Inv X pins σ H s → t σ H Q → wpAny (model X.prog X.w) X.A (spliced (backTo pos (starEach es X.env))) (AP X pins σ Q) X.xe s
noncomputable def PS (X : Cx) (st : Stmt) (t : TS) : Prop :=
 ∀ (pins : List (Addr × Obj)) (s : Shared) (σ : St) (H : Hp) (D : Ends),Inv X pins σ H s → t D σ H → wpAny (model X.prog X.w) X.A (exec st X.env) (SP X pins D) X.xe s
noncomputable def PSs (X : Cx) (st : List Stmt) (t : TS) : Prop :=
 ∀ (pins : List (Addr × Obj)) (s : Shared) (σ : St) (H : Hp) (D : Ends),Inv X pins σ H s → t D σ H → wpAny (model X.prog X.w) X.A (execs st X.env) (SP X pins D) X.xe s
theorem thn {α : Type} {t : Sem α} {Q Q' : α → Shared → Prop} {M : Model} {A : Around} {E : Value → Shared → Prop} {s : Shared} (h : wpAny M A t Q E s) (hQ : ∀ a s,Q a s → Q' a s) : wpAny M A t Q' E s:=wpAny_mono h hQ fun _ _ x=>x
end L2
namespace L2
open PySem PySem.Spec PyProof.Rows
section
variable {X : Cx}
noncomputable def tVar (i : Nat) : TE:=fun σ H Q=>∃ v,σ[i]? = some (some v) ∧ Q v H
noncomputable def tC (v : V) : TE:=fun _ H Q=>Q v H
theorem jls {i : Nat} {x : Str} {pos : Pos} (hN : X.N[i]? = some x) (hv : Vis X.env.scope x) (hd : autoParam ((x == ("__debug__" : Str)) = false) zau1._auto_1) (hcd : autoParam ((x == ("__classdict__" : Str)) = false) zau1._auto_1) : PE X (.Name x pos) (tVar i):=by
 intro pins s σ H Q I h
 obtain ⟨v,e,h⟩:=h
 obtain ⟨m,hn,hl⟩:=I.loc
 obtain ⟨u,r,l⟩:=hl i x v hN e hv
 have fin : EP X pins σ Q u s:=⟨v,H,I,r,h⟩
 rcases l with ⟨hk,hm⟩ | ⟨hk,c,hc,hcell⟩
 ·exact wpAny_Name (wpAny_loadName_local I.ok.kind hk hn hm fin) hd
 ·rcases hk with hk | hk
  ·exact wpAny_Name (wpAny_loadName_cell I.ok.kind hk hc hcell fin) hd
  ·exact wpAny_Name (wpAny_loadName_free I.ok.kind hk hc hcell fin hcd) hd
theorem jwe {i j pos} : PE X (.Constant (.int i) j pos) (tC (.int i)):=fun _ _ _ H _ I h=>wpAny_Constant_int ⟨.int i,H,I.tok _,⟨_,rfl⟩,h⟩
theorem jyj {b j pos} : PE X (.Constant (.bool b) j pos) (tC (.bl b)):=fun _ _ _ H _ I h=>Constant_bool ⟨.bl b,H,I,rfl,h⟩
theorem jwf {j pos} : PE X (.Constant .none j pos) (tC .non):=fun _ _ _ H _ I h=>Constant_none ⟨.non,H,I,rfl,h⟩
theorem jwh {x j pos} : PE X (.Constant (.str x) j pos) (tC (.str x)):=fun _ _ _ H _ I h=>Calls.Constant_str ⟨.str x,H,I.tok _,⟨_,rfl⟩,h⟩
noncomputable def Gl (X : Cx) (x : Str) : Prop:=X.env.kindOf x = some .globalImplicit
theorem jgw {E : Value → Shared → Prop} {pins : List (Addr × Obj)} {s : Shared} {σ : St} {H : Hp} {x : Str} {u : Value} {pos : Pos} {Q : Value → Shared → Prop} (I : Inv X pins σ H s) (hg : Gl X x) (hm : X.mg x = some u) (h : Q u s)
  (hd : autoParam ((x == ("__debug__" : Str)) = false) zau1._auto_1) : wpAny (model X.prog X.w) X.A (eval (.Name x pos) X.env) Q E s :=
 Calls.Name_function_global I.ok.kind hg (Calls.loadGlobal_global (by rw [I.ok.glob]; exact I.mod.glob.keeps I.bk) hm h) hd
theorem jhq {E : Value → Shared → Prop} {pins : List (Addr × Obj)} {s : Shared} {σ : St} {H : Hp} {x : Str} {u : Value} {pos : Pos} {Q : Value → Shared → Prop} (I : Inv X pins σ H s) (hg : Gl X x) (hm : X.mg x = none) (hv : bootBuiltins x = some u) (h : Q u s)
  (hn : autoParam (x ≠ "__name__") zau1._auto_1) (hd : autoParam ((x == ("__debug__" : Str)) = false) zau1._auto_1) : wpAny (model X.prog X.w) X.A (eval (.Name x pos) X.env) Q E s:=by
 obtain ⟨mb,h1,h2⟩:=I.mod.blt
 exact Calls.Name_function_global I.ok.kind hg (Calls.loadGlobal_builtin (by rw [I.ok.glob]; exact I.mod.glob.keeps I.bk) hm (by rw [I.ok.blt]; exact h1.keeps I.bk) ((h2 x hn).trans hv) h) hd
theorem jtf {x : Str} {v : V} {u : Value} {pos : Pos} (hg : Gl X x) (hm : X.mg x = some u) (r : RelV v u) (hd : autoParam ((x == ("__debug__" : Str)) = false) zau1._auto_1) : PE X (.Name x pos) (tC v) :=
 fun _ _ _ H _ I h=>jgw I hg hm ⟨v,H,I,r,h⟩ hd
theorem jn8 {x : Str} {v : V} {u : Value} {pos : Pos} (hg : Gl X x) (hm : X.mg x = none) (hv : bootBuiltins x = some u) (r : RelV v u) (hn : autoParam (x ≠ "__name__") zau1._auto_1) (hd : autoParam ((x == ("__debug__" : Str)) = false) zau1._auto_1) : PE X (.Name x pos) (tC v) :=
 fun _ _ _ H _ I h=>jhq I hg hm hv ⟨v,H,I,r,h⟩ hn hd
variable {a b : Expr} {ta tb : TE} {pos : Pos}
noncomputable def tB (t : TE) : TT:=fun σ H Q=>t σ H fun x H1=>∃ c,x = .bl c ∧ Q c H1
variable {tA tB' : TT} {rest : List Expr}
noncomputable def tAnd (t u : TT) : TT:=fun σ H Q=>t σ H fun c H1=>if c = true then u σ H1 Q else Q false H1
noncomputable def tOr (t u : TT) : TT:=fun σ H Q=>t σ H fun c H1=>if c = true then Q true H1 else u σ H1 Q
noncomputable def tNot (t : TT) : TT:=fun σ H Q=>t σ H fun c H1=>Q (!c) H1
theorem jtr (ha : PT X a tA) : PW X (.BoolOp .And [a] pos) tA:=by
 intro wh pins s σ H Q I h
 refine isTrue_and (thn (ha pins s σ H Q I h) fun c s1 e=>?_)
 cases c with
 | true=>exact isTrue_and_nil e
 | false=>exact e
theorem jwn (ha : PT X a tA) : PW X (.BoolOp .Or [a] pos) tA:=by
 intro wh pins s σ H Q I h
 refine isTrue_or (thn (ha pins s σ H Q I h) fun c s1 e=>?_)
 cases c with
 | false=>exact isTrue_or_nil e
 | true=>exact e
theorem jwm (ha : PT X a tA) (hb : PW X (.BoolOp .And (b :: rest) pos) tB') : PW X (.BoolOp .And (a :: b :: rest) pos) (tAnd tA tB'):=by
 intro wh pins s σ H Q I h
 refine isTrue_and (thn (ha pins s σ H _ I h) fun c s1 hzz=>?_)
 obtain ⟨H1,I1,q1⟩:=hzz
 cases c with
 | true=>exact hb wh pins s1 σ H1 Q I1 q1
 | false=>exact ⟨H1,I1,q1⟩
theorem jyp (ha : PT X a tA) (hb : PW X (.BoolOp .Or (b :: rest) pos) tB') : PW X (.BoolOp .Or (a :: b :: rest) pos) (tOr tA tB'):=by
 intro wh pins s σ H Q I h
 refine isTrue_or (thn (ha pins s σ H _ I h) fun c s1 hzz=>?_)
 obtain ⟨H1,I1,q1⟩:=hzz
 cases c with
 | true=>exact ⟨H1,I1,q1⟩
 | false=>exact hb wh pins s1 σ H1 Q I1 q1
theorem jri (ha : PT X a tA) : PT X (.UnaryOp .Not a pos) (tNot tA):=by
 intro pins s σ H Q I h
 exact isTrue_not (thn (ha pins s σ H (fun c H1=>Q (!c) H1) I h) fun c s1 z=>z.casesOn fun H1 I1 q1=>⟨H1,I1,q1⟩)
noncomputable def jyx (ta tb : TE) : TE:=fun σ H Q=>ta σ H fun x H1=>∃ c,x = .bl c ∧ if c = true then tb σ H1 Q else Q (.bl false) H1
theorem jwg {op} {t : TE} (h : PE X a t) : PE X (.BoolOp op [a] pos) t:=fun pins s σ H Q I hw=>BoolOp_one (h pins s σ H Q I hw)
theorem jwa (ha : PE X a ta) (hb : PE X (.BoolOp .And (b :: rest) pos) tb) : PE X (.BoolOp .And (a :: b :: rest) pos) (jyx ta tb):=by
 intro pins s σ H Q I h
 refine BoolOp_and (thn (ha pins s σ H _ I h) fun v s1 hzz=>?_)
 obtain ⟨x,H1,I1,r1,q1⟩:=hzz
 obtain ⟨c,rfl,q1⟩:=q1
 cases r1
 refine wpAny_truthy_bool ?_
 cases c with
 | true=>exact hb pins s1 σ H1 Q I1 q1
 | false=>exact ⟨.bl false,H1,I1,rfl,q1⟩
end
end L2
namespace L2
open PySem PySem.Spec PyProof.Rows
noncomputable def SqL (K : PySem.W.Frag) (H : Hp) (a : Addr) (xs : List V) : Prop :=
 Rd H a (.lst xs) ∨
  ∃ (o : Obj) (its : Array Value) (n : Nat),K.lookup a = some o ∧ o.cls = .type "list" ∧ o.dict = none ∧ o.data = .seq its n ∧ its.size ≤ sizeLine ∧ Vals xs its.toList
noncomputable def SqT (K : PySem.W.Frag) (H : Hp) (a : Addr) (xs : List V) : Prop :=
 Rd H a (.tup xs) ∨
  ∃ (o : Obj) (its : Array Value) (n : Nat),K.lookup a = some o ∧ o.cls = .type "tuple" ∧ o.data = .seq its n ∧ its.size ≤ sizeLine ∧ Vals xs its.toList
noncomputable def absV : Value → Option V
 | .none=>some .non
 | .bool b=>some (.bl b)
 | .int i _=>some (.int i)
 | .str x _=>some (.str x)
 | .bytes b _=>some (.byt b)
 | .float b _=>some (.flt b)
 | .ref a=>some (.ref a)
 | .type n=>some (.ty n)
 | _=>none
theorem RelV.abs {x : V} {u : Value} (r : RelV x u) : absV u = some x:=by
 cases x with
 | non=>cases r; rfl
 | bl _=>cases r; rfl
 | int _=>obtain ⟨t,rfl⟩:=r; rfl
 | str _=>obtain ⟨t,rfl⟩:=r; rfl
 | byt _=>obtain ⟨t,rfl⟩:=r; rfl
 | flt _=>obtain ⟨t,rfl⟩:=r; rfl
 | ref _=>cases r; rfl
 | ty _=>cases r; rfl
theorem RelV.inj {x y : V} {u : Value} (r : RelV x u) (q : RelV y u) : x = y:=Option.some.inj (r.abs.symm.trans q.abs)
theorem Vals.inj : ∀ {xs ys : List V} {us : List Value},Vals xs us → Vals ys us → xs = ys
 | _,_,_,.nil,.nil=>rfl
 | _,_,_,.cons r t,.cons r' t'=>by rw [r.inj r',Vals.inj t t']
section
variable {X : Cx} {pins : List (Addr × Obj)} {σ : St} {H : Hp} {s : Shared} {a : Addr} {xs ys : List V}
theorem SqL.of {K : PySem.W.Frag} (h : H a = some (.lst xs)) : SqL K H a xs:=.inl (.inl h)
theorem SqT.of {K : PySem.W.Frag} (h : H a = some (.tup xs)) : SqT K H a xs:=.inl (.inl h)
theorem Inv.list (I : Inv X pins σ H s) (h : SqL X.K H a xs) : ∃ its : List Value,Vals xs its ∧ PlainL s.heap a its.toArray ∧ xs.length ≤ sizeLine:=by
 rcases h with h | ⟨o,its,n,hk,hc,hd,hs,hz,r⟩
 ·obtain ⟨z,its,n,r,e⟩:=h.ok I.hok
  exact ⟨its,r,⟨_,n,e,rfl,rfl,rfl⟩,z⟩
 ·refine ⟨its.toList,r,⟨o,n,I.kIn a o hk,hc,hd,by simpa using hs⟩,?_⟩
  have e:=r.length
  simp only [Array.length_toList] at e
  omega
theorem Inv.tuple (I : Inv X pins σ H s) (h : SqT X.K H a xs) : ∃ its : List Value,Vals xs its ∧ IsTup s.heap a its.toArray ∧ xs.length ≤ sizeLine:=by
 rcases h with h | ⟨o,its,n,hk,hc,hs,hz,r⟩
 ·obtain ⟨z,its,r,p⟩:=h.ok I.hok
  exact ⟨its,r,p,z⟩
 ·refine ⟨its.toList,r,⟨o,I.kIn a o hk,hc,n,by simpa using hs⟩,?_⟩
  have e:=r.length
  simp only [Array.length_toList] at e
  omega
theorem Inv.list_inj (I : Inv X pins σ H s) (h : SqL X.K H a xs) (h' : SqL X.K H a ys) : xs = ys:=by
 obtain ⟨its,r,⟨o,n,e,_,_,d⟩,_⟩:=I.list h
 obtain ⟨its',r',⟨o',n',e',_,_,d'⟩,_⟩:=I.list h'
 rw [e] at e'; cases e'
 rw [d] at d'
 injection d' with d1 _
 have : its = its':=by simpa using congrArg Array.toList d1
 subst this
 exact r.inj r'
theorem Inv.tuple_inj (I : Inv X pins σ H s) (h : SqT X.K H a xs) (h' : SqT X.K H a ys) : xs = ys:=by
 obtain ⟨its,r,⟨o,e,_,n,d⟩,_⟩:=I.tuple h
 obtain ⟨its',r',⟨o',e',_,n',d'⟩,_⟩:=I.tuple h'
 rw [e] at e'; cases e'
 rw [d] at d'
 injection d' with d1 _
 have : its = its':=by simpa using congrArg Array.toList d1
 subst this
 exact r.inj r'
end
noncomputable abbrev Cx.wish (X : Cx) (E : Value → Shared → Prop) : Cx:={ X with xe:=E }
noncomputable abbrev Cx.nox (X : Cx) : Cx:=X.wish fun _ _=>False
theorem Cx.Ok.wish {X : Cx} (ok : X.Ok) (E : Value → Shared → Prop) : (X.wish E).Ok :=
 ⟨ok.mod,ok.kind,ok.glob,ok.blt,ok.above,ok.inj,ok.has,ok.cab,ok.hd,ok.frames,ok.stk,ok.exf,ok.bs,ok.bsz,ok.noex,ok.exfs,ok.funs,ok.frf⟩
theorem Cx.Ok.unwish {X : Cx} {E : Value → Shared → Prop} (ok : (X.wish E).Ok) : X.Ok :=
 ⟨ok.mod,ok.kind,ok.glob,ok.blt,ok.above,ok.inj,ok.has,ok.cab,ok.hd,ok.frames,ok.stk,ok.exf,ok.bs,ok.bsz,ok.noex,ok.exfs,ok.funs,ok.frf⟩
section
variable {X : Cx} {pins : List (Addr × Obj)} {σ : St} {H : Hp} {s : Shared} {E : Value → Shared → Prop}
theorem Inv.wish (I : Inv X pins σ H s) (E : Value → Shared → Prop) : Inv (X.wish E) pins σ H s:=⟨I.ok.wish E,I.os,I.bare,I.base,I.loc,I.cell,I.free,I.freeC,I.pin,I.hok,I.len⟩
theorem Inv.unwish (I : Inv (X.wish E) pins σ H s) : Inv X pins σ H s:=⟨I.ok.unwish,I.os,I.bare,I.base,I.loc,I.cell,I.free,I.freeC,I.pin,I.hok,I.len⟩
theorem SP.unwish {D : Ends} {f : Flow} {s' : Shared} (h : SP (X.wish E) pins D f s') : SP X pins D f s':=by
 cases f with
 | next=>obtain ⟨σ',H',I,q⟩:=h; exact ⟨σ',H',I.unwish,q⟩
 | brk=>obtain ⟨σ',H',I,q⟩:=h; exact ⟨σ',H',I.unwish,q⟩
 | cont=>obtain ⟨σ',H',I,q⟩:=h; exact ⟨σ',H',I.unwish,q⟩
 | ret u=>obtain ⟨v,σ',H',I,r,q⟩:=h; exact ⟨v,σ',H',I.unwish,r,q⟩
theorem PSs.nox {st : List Stmt} {t : TS} (h : PSs X.nox st t) : PSs X st t:=fun pins s σ H D I hw =>
 wpAny_mono (h pins s σ H D (I.wish _) hw) (fun _ _ q=>q.unwish) fun _ _ z=>False.elim z
end
section
variable {X : Cx} {st : Stmt} {rest : List Stmt} {t u : TS} {e : Expr} {te : TE} {pos : Pos}
noncomputable def jy0 : TS:=fun D σ H=>D.nx σ H
noncomputable def tSeq (t u : TS) : TS:=fun D σ H=>t { D with nx:=u D } σ H
theorem jod : PSs X [] jy0:=fun _ _ σ H _ I h=>wpAny_execs_nil ⟨σ,H,I,h⟩
theorem jij (h1 : PS X st t) (h2 : PSs X rest u) : PSs X (st :: rest) (tSeq t u):=by
 intro pins s σ H D I h
 refine wpAny_execs_cons (thn (h1 pins s σ H { D with nx:=u D } I h) fun f s1 q=>?_)
 cases f with
 | next =>
  obtain ⟨σ',H',I',q⟩:=q
  exact h2 pins s1 σ' H' D I' q
 | ret v=>exact q
 | brk=>exact q
 | cont=>exact q
theorem jik (h1 : PS X st t) : PSs X [st] t:=by
 intro pins s σ H D I h
 refine wpAny_execs_cons (thn (h1 pins s σ H D I h) fun f s1 q=>?_)
 cases f with
 | next=>exact wpAny_execs_nil q
 | ret v=>exact q
 | brk=>exact q
 | cont=>exact q
theorem Inv.quiet {pins : List (Addr × Obj)} {σ : St} {H : Hp} {s : Shared} (I : Inv X pins σ H s) : interactive X.env = false:=by simp [interactive,I.ok.kind]
noncomputable def jw2 (te : TE) : TS:=fun D σ H=>te σ H fun _ H1=>D.nx σ H1
theorem jkt (he : PE X e te) (hs : autoParam (swapsWith e none pos.line X.env = pure false) zau2._auto_1) : PS X (.Expr e pos) (jw2 te):=by
 intro pins s σ H D I h
 exact wpAny_Expr_any (thn (he pins s σ H _ I h) fun v s1 ⟨x,H1,I1,r1,q1⟩=>⟨σ,H1,I1,q1⟩) I.quiet hs
noncomputable def tRet (te : TE) : TS:=fun D σ H=>te σ H D.rt
theorem jrh (he : PE X e te) : PS X (.Return (some e) pos) (tRet te):=by
 intro pins s σ H D I h
 exact wpAny_Return_some (thn (he pins s σ H _ I h) fun v s1 ⟨x,H1,I1,r1,q1⟩=>⟨x,σ,H1,I1,r1,q1⟩)
noncomputable def tIfS (c : TT) (t u : TS) : TS:=fun D σ H=>c σ H fun b H1=>if b = true then t D σ H1 else u D σ H1
theorem jtn {c : Expr} {a b : List Stmt} {tc : TT} (hc : PT X c tc) (ha : PSs X a t) (hb : PSs X b u) : PS X (.If c a b pos) (tIfS tc t u):=by
 intro pins s σ H D I h
 refine wpAny_If (thn (hc pins s σ H _ I h) fun d s1 hzz=>?_)
 obtain ⟨H1,I1,q1⟩:=hzz
 cases d with
 | true=>exact ha pins s1 σ H1 D I1 q1
 | false=>exact hb pins s1 σ H1 D I1 q1
end
noncomputable abbrev TG:=V → St → Hp → (St → Hp → Prop) → Prop
noncomputable abbrev TGs:=List V → St → Hp → (St → Hp → Prop) → Prop
noncomputable def PG (X : Cx) (target : Expr) (t : TG) : Prop :=
 ∀ (pins : List (Addr × Obj)) (s : Shared) (σ : St) (H : Hp) (v : V) (u : Value) (Q : St → Hp → Prop),Inv X pins σ H s → RelV v u → t v σ H Q →
  wpAny (model X.prog X.w) X.A (assign target X.env u) (fun _ s'=>∃ σ' H',Inv X pins σ' H' s' ∧ Q σ' H') X.xe s
noncomputable def PGs (X : Cx) (ts : List Expr) (t : TGs) : Prop :=
 ∀ (pins : List (Addr × Obj)) (s : Shared) (σ : St) (H : Hp) (vs : List V) (us : List Value) (Q : St → Hp → Prop),Inv X pins σ H s → Vals vs us → t vs σ H Q →
  wpAny (model X.prog X.w) X.A (assignInOrder ((assignEach ts X.env).map (·.2)) us) (fun _ s'=>∃ σ' H',Inv X pins σ' H' s' ∧ Q σ' H') X.xe s
noncomputable abbrev TSet:=V → V → V → Hp → (Hp → Prop) → Prop
section
variable {X : Cx} {pos : Pos}
noncomputable def gName (i : Nat) : TG:=fun v σ H Q=>Q (σ.set i (some v)) H
theorem jks {i : Nat} {x : Str} (hN : X.N.Nodup) (hi : X.N[i]? = some x) (hx : Loc X.env.scope x) (hf : autoParam (X.fn x = true ∨ X.env.scope.names.lookup x = some .local) zau0._auto_1) : PG X (.Name x pos) (gName i):=by
 intro pins s σ H v u Q I r h
 exact wpAny_assign_Name (jfu I hN hi hx r (fun s' I'=>⟨_,H,I',h⟩) hf)
noncomputable def gNil : TGs:=fun vs σ H Q=>vs = [] ∧ Q σ H
noncomputable def jx1 (t : TG) (u : TGs) : TGs:=fun vs σ H Q=>∃ v r,vs = v :: r ∧ t v σ H fun σ' H'=>u r σ' H' Q
theorem jtj : PGs X [] gNil:=by
 intro pins s σ H vs us Q I r h
 obtain ⟨e,h⟩:=h
 subst e
 cases r
 exact assignInOrder_nil ⟨σ,H,I,h⟩
theorem jlt {e : Expr} {es : List Expr} {t : TG} {u : TGs} (h1 : PG X e t) (h2 : PGs X es u)
  (hs : autoParam ((assignEach (e :: es) X.env).map (·.2) = assign e X.env :: (assignEach es X.env).map (·.2)) zau2._auto_1) : PGs X (e :: es) (jx1 t u):=by
 intro pins s σ H vs us Q I r h
 obtain ⟨v,vr,e1,h⟩:=h
 subst e1
 cases r with
 | cons r rr =>
  rw [hs]
  refine assignInOrder_cons (thn (h1 pins s σ H _ _ _ I r h) fun _ s1 hzz=>?_)
  obtain ⟨σ1,H1,I1,q1⟩:=hzz
  exact h2 pins s1 σ1 H1 _ _ Q I1 rr q1
noncomputable def gTup (K : PySem.W.Frag) (n : Nat) (t : TGs) : TG:=fun v σ H Q=>∃ a xs,v = .ref a ∧ SqT K H a xs ∧ xs.length = n ∧ t xs σ H Q
theorem jwi {es : List Expr} {k : Nat} {t : TGs} {n : Nat} (hc : X.calm = true) (h : PGs X es t)
  (hn : autoParam ((assignEach es X.env).length = n) zau2._auto_1) (hst : autoParam ((assignEach es X.env).findIdx? (·.1) = none) zau2._auto_1) : PG X (.Tuple es k pos) (gTup X.K n t):=by
 intro pins s σ H v u Q I r hw
 obtain ⟨a,xs,e1,hq,hl,hw⟩:=hw
 subst e1
 cases r
 obtain ⟨its,rv,ht,hz⟩:=I.tuple hq
 refine assign_Tuple_tuple (I.ok.hd hc) ht (by simp [hn,← hl,rv.length]) hst fun h' hx=>?_
 have I1 : Inv X pins σ H { s with heap:=h' }:=I.kept (t':=s.toks) fun b o e=>hx b o (Nat.ne_of_lt (Heap.lt_size e)) e
 exact h pins _ σ H xs _ Q I1 (by simpa using rv) hw
noncomputable def gSub (to ti : TE) (t : TSet) : TG:=fun v σ H Q=>to σ H fun o H1=>ti σ H1 fun i H2=>t o i v H2 fun H3=>Q σ H3
noncomputable def tAsg (te : TE) (g : TG) : TS:=fun D σ H=>te σ H fun x H1=>g x σ H1 D.nx
theorem jrg {tg e : Expr} {te : TE} {g : TG} (he : PE X e te) (hg : PG X tg g) (hs : autoParam (swapsWithSole [tg] e pos.line X.env = pure false) zau2._auto_1) (hw : autoParam (swappedStores [tg] e X.env = pure none) zau2._auto_1)
  (h1 : autoParam ((assignEach [tg] X.env).map (·.2) = [assign tg X.env]) zau2._auto_1) : PS X (.Assign [tg] e pos) (tAsg te g):=by
 intro pins s σ H D I h
 refine wpAny_Assign_stores (thn (he pins s σ H _ I h) fun v s1 hzz=>?_) hs hw
 obtain ⟨x,H1,I1,r1,q1⟩:=hzz
 rw [h1]
 exact thn (hg pins s1 σ H1 x v _ I1 r1 q1) fun _ s2 q=>q
theorem jlu {i : Nat} {x : Str} {e : Expr} {te : TE} {pos' : Pos} (hN : X.N.Nodup) (hi : X.N[i]? = some x) (hx : Loc X.env.scope x) (he : PE X e te) (hs : autoParam (swapsWith e (some (.Name x pos')) pos.line X.env = pure false) zau2._auto_1) (hf : autoParam (X.fn x = true ∨ X.env.scope.names.lookup x = some .local) zau0._auto_1) :
  PS X (.Assign [.Name x pos'] e pos) (tAsg te (gName i)):=by
 intro pins s σ H D I h
 refine wpAny_Assign_Name (thn (he pins s σ H _ I h) fun v s1 hzz=>?_) hs
 obtain ⟨y,H1,I1,r1,q1⟩:=hzz
 exact jfu I1 hN hi hx r1 (fun s2 I2=>⟨_,H1,I2,q1⟩) hf
end
section
variable {X : Cx} {pos : Pos}
end
structure It where
 go : Nat → Hp → Prop
 yld : Nat → Hp → V → Hp → Prop
 stop : Nat → Hp → Prop
noncomputable def FpOk (X : Cx) (pins : List (Addr × Obj)) (H : Hp) (b : Addr) : Prop :=
 H b = none ∧ b ≠ X.env.locals ∧ b ∉ X.fs ∧ (b ∈ X.ex ∨ X.s₀.heap.objs.size ≤ b) ∧ (∀ x c,X.env.cells.lookup x = some c → c ≠ b) ∧ ∀ p ∈ X.pn ++ pins,p.1 ≠ b
theorem Inv.fpOk {X : Cx} {pins : List (Addr × Obj)} {σ : St} {H H' : Hp} {s : Shared} {b : Addr} (I : Inv X pins σ H s) (hb : s.heap.objs.size ≤ b) (hn : H' b = none) : FpOk X pins H' b:=by
 refine ⟨hn,Nat.ne_of_gt (Nat.lt_of_lt_of_le I.lt hb),I.nofs hb,.inr (Nat.le_trans I.sz hb),fun x c e z=>?_,fun p hp z=>?_⟩
 ·obtain ⟨v,q⟩:=I.cell x c e
  exact absurd (Nat.lt_of_lt_of_le q.lt (by rw [z]; exact hb)) (Nat.lt_irrefl _)
 ·exact absurd (Nat.lt_of_lt_of_le (Heap.lt_size (I.pin p hp).1) (by rw [z]; exact hb)) (Nat.lt_irrefl _)
structure Turn (P : Program) (w : World) (K : PySem.W.Frag) (tg : Expr) (J : It) (fp : List Addr) (it : Addr) (tn : Nat → Heap → Prop) : Prop where
 mem : it ∈ fp
 obj : ∀ i h,tn i h → ∀ b ∈ fp,∃ o,h.get? b = some o ∧ ∀ v,o.data ≠ .cell v
 keep : ∀ i h h',tn i h → (∀ b ∈ fp,∀ o,h.get? b = some o → h'.get? b = some o) → tn i h'
 item : ∀ (X : Cx),X.prog = P → X.w = w → X.K = K → X.calm = true → ∀ (i : Nat) (pins : List (Addr × Obj)) (s : Shared) (σ : St) (H : Hp) (E : Value → Shared → Prop),Inv X pins σ H s → (∀ b ∈ fp,FpOk X pins H b) → tn i s.heap → J.go i H →
  wpAny (model P w) X.A (pyNext (.ref it)) (fun r s1=>∃ u,r = some u ∧
   wpAny (model P w) X.A (letOwnedTupleGo tg (.ref it) u) (fun _ s2=>∃ x H',Inv X pins σ H' s2 ∧ RelV x u ∧ J.yld i H x H' ∧ tn (i + 1) s2.heap ∧ ∀ b ∈ fp,H' b = none) E s1) E s
 done : ∀ (X : Cx),X.prog = P → X.w = w → X.K = K → X.calm = true → ∀ (i : Nat) (pins : List (Addr × Obj)) (s : Shared) (σ : St) (H : Hp) (E : Value → Shared → Prop),Inv X pins σ H s → (∀ b ∈ fp,FpOk X pins H b) → tn i s.heap → J.stop i H →
  wpAny (model P w) X.A (pyNext (.ref it)) (fun r s1=>r = none ∧ Inv X pins σ H s1) E s
 self : ∀ (A : Around) (i : Nat) (s : Shared) (Q : Value → Shared → Prop) (E : Value → Shared → Prop),tn i s.heap → Q (.ref it) s → wpAny (model P w) A (pyIter (.ref it)) Q E s
noncomputable abbrev TI:=St → Hp → (It → Hp → Prop) → Prop
noncomputable def PIE (X : Cx) (pins : List (Addr × Obj)) (σ : St) (tg : Expr) (R : It → Hp → Prop) (itv : Value) (s2 : Shared) : Prop :=
 ∃ (it : Addr) (fp : List Addr) (tn : Nat → Heap → Prop) (J : It) (H' : Hp),itv = .ref it ∧ Inv X pins σ H' s2 ∧ Turn X.prog X.w X.K tg J fp it tn ∧ tn 0 s2.heap ∧ (∀ b ∈ fp,FpOk X pins H' b) ∧ R J H'
noncomputable def PI (X : Cx) (tg iter : Expr) (wi : TI) : Prop :=
 ∀ (pins : List (Addr × Obj)) (s : Shared) (σ : St) (H : Hp) (R : It → Hp → Prop),Inv X pins σ H s → wi σ H R →
  wpAny (model X.prog X.w) X.A (eval iter X.env) (fun v s1=>wpAny (model X.prog X.w) X.A (pyIter v) (PIE X pins σ tg R) X.xe s1) X.xe s
theorem jsd {M : Model} {A : Around} {E : Value → Shared → Prop} {s : Shared} {tg : Expr} {it : Addr} {u : Value} {o : Obj} {n : String} {vs : Array Value} {Q : Unit → Shared → Prop} (ho : s.heap.get? it = some o) (hc : o.cls = .type n) (hd : o.data = .fields vs)
    (hn : ["enumerate","zip","dict_itemiterator","dict_reverseitemiterator","odict_iterator","itertools.zip_longest","itertools.pairwise"].contains n = false) (hQ : Q () s) : wpAny M A (letOwnedTupleGo tg (.ref it) u) Q E s:=by
  unfold letOwnedTupleGo
  cases tg <;> first
    | exact wpAny_pure hQ
    | (cases u <;> first
        | exact wpAny_pure hQ
        | (refine wpAny_bind (wpAny_load ho ?_)
           rw [hc,hd]
           show wpAny M A (if (["enumerate","zip","dict_itemiterator","dict_reverseitemiterator","odict_iterator","itertools.zip_longest","itertools.pairwise"].contains n && vs[0]? == some (rawInt _)) = true then _ else _) Q E s
           rw [if_neg (by intro h; rw [hn,Bool.false_and] at h; cases h)]
           exact wpAny_pure hQ))
noncomputable def Itl (K : PySem.W.Frag) (a : Addr) : It :=
 ⟨fun i H=>∃ xs x,SqL K H a xs ∧ xs[i]? = some x,fun i H x H'=>H' = H ∧ ∀ xs,SqL K H a xs → xs[i]? = some x,fun i H=>∃ xs,SqL K H a xs ∧ xs.length ≤ i⟩
noncomputable def Itt (K : PySem.W.Frag) (a : Addr) : It :=
 ⟨fun i H=>∃ xs x,SqT K H a xs ∧ xs[i]? = some x,fun i H x H'=>H' = H ∧ ∀ xs,SqT K H a xs → xs[i]? = some x,fun i H=>∃ xs,SqT K H a xs ∧ xs.length ≤ i⟩
theorem jou {P : Program} {w : World} {K : PySem.W.Frag} {tg : Expr} (a it : Addr) : Turn P w K tg (Itl K a) [it] it (fun i h=>h.IsListIter it a i) where
 mem:=by simp
 obj:=fun i h st b hb=>by
  have e : b = it:=by simpa using hb
  subst e
  obtain ⟨o,e,c,d⟩:=st
  exact ⟨o,e,fun v z=>by rw [d] at z; cases z⟩
 keep:=fun i h h' st k=>st.at fun o e=>k it (by simp) o e
 item:=by
  intro X hP hw hK hc i pins s σ H E I hf st hg
  subst hP hw hK
  obtain ⟨xs,x,hq,hx⟩:=hg
  obtain ⟨its,rv,p,hz⟩:=I.list hq
  obtain ⟨u,hu,ru⟩:=rv.get hx
  obtain ⟨f0,f1,f2,f3,f4,f5⟩:=hf it (by simp)
  refine wpAny_pyNext_list_item st p.isList (x:=u) (by simpa using hu) fun h' st' sb=>?_
  have I1 : Inv X pins σ H { s with heap:=h' }:=I.turned (t':=s.toks) (fun b o hb e=>(sb.2 b hb).trans e) f0 f1 f3 f4 f5
  obtain ⟨o,e,c,d⟩:=id st'
  exact ⟨u,rfl,jsd (s:={ s with heap:=h' }) e c d (by decide) ⟨x,H,I1,ru,⟨rfl,fun ys hy=>by rw [I.list_inj hy hq]; exact hx⟩,st',fun b hb=>(hf b hb).1⟩⟩
 done:=by
  intro X hP hw hK hc i pins s σ H E I hf st hg
  subst hP hw hK
  obtain ⟨xs,hq,hx⟩:=hg
  obtain ⟨its,rv,p,hz⟩:=I.list hq
  obtain ⟨f0,f1,f2,f3,f4,f5⟩:=hf it (by simp)
  have hl:=rv.length
  exact wpAny_pyNext_list_end (I.ok.hd hc) st p.isList (by simp; omega) fun h' eb=>⟨rfl,I.turned (t':=s.toks) (fun b o hb e=>eb b o hb e) f0 f1 f3 f4 f5⟩
 self:=fun _ _ _ _ _ st h=>wpAny_pyIter_listiter st h
theorem jmt {P : Program} {w : World} {K : PySem.W.Frag} {tg : Expr} (a it : Addr) : Turn P w K tg (Itt K a) [it] it (fun i h=>h.IsTupleIter it a i) where
 mem:=by simp
 obj:=fun i h st b hb=>by
  have e : b = it:=by simpa using hb
  subst e
  obtain ⟨o,e,c,d⟩:=st
  exact ⟨o,e,fun v z=>by rw [d] at z; cases z⟩
 keep:=fun i h h' st k=>st.at fun o e=>k it (by simp) o e
 item:=by
  intro X hP hw hK hc i pins s σ H E I hf st hg
  subst hP hw hK
  obtain ⟨xs,x,hq,hx⟩:=hg
  obtain ⟨its,rv,p,hz⟩:=I.tuple hq
  obtain ⟨u,hu,ru⟩:=rv.get hx
  obtain ⟨f0,f1,f2,f3,f4,f5⟩:=hf it (by simp)
  refine wpAny_pyNext_tuple_item st (show s.heap.IsTuple a its.toArray from p) (x:=u) (by simpa using hu) fun h' st' sb=>?_
  have I1 : Inv X pins σ H { s with heap:=h' }:=I.turned (t':=s.toks) (fun b o hb e=>(sb.2 b hb).trans e) f0 f1 f3 f4 f5
  obtain ⟨o,e,c,d⟩:=id st'
  exact ⟨u,rfl,jsd (s:={ s with heap:=h' }) e c d (by decide) ⟨x,H,I1,ru,⟨rfl,fun ys hy=>by rw [I.tuple_inj hy hq]; exact hx⟩,st',fun b hb=>(hf b hb).1⟩⟩
 done:=by
  intro X hP hw hK hc i pins s σ H E I hf st hg
  subst hP hw hK
  obtain ⟨xs,hq,hx⟩:=hg
  obtain ⟨its,rv,p,hz⟩:=I.tuple hq
  obtain ⟨f0,f1,f2,f3,f4,f5⟩:=hf it (by simp)
  have hl:=rv.length
  exact wpAny_pyNext_tuple_end (I.ok.hd hc) st (show s.heap.IsTuple a its.toArray from p) (by simp; omega) fun h' eb=>⟨rfl,I.turned (t':=s.toks) (fun b o hb e=>eb b o hb e) f0 f1 f3 f4 f5⟩
 self:=fun _ _ _ _ _ st h=>wpAny_pyIter_tupleiter st h
end L2
namespace L2
open PySem PySem.Spec PyProof.Rows
section
variable {X : Cx} {tg : Expr}
noncomputable def tFor (wi : TI) (g : TG) (tb : TS) : TS:=fun D σ H=>wi σ H fun J H1=>∃ W : Nat → Nat → St → Hp → Prop,(∃ m,W 0 m σ H1) ∧ ∀ i m σ H,W i m σ H →
 (J.stop i H ∧ D.nx σ H) ∨ (J.go i H ∧ ∃ N : St → Hp → Prop,(∀ σ' H',N σ' H' → ∃ m',m' < m ∧ W (i + 1) m' σ' H') ∧ ∀ x H',J.yld i H x H' → g x σ H' fun σ2 H2=>tb { D with nx:=N,ct:=N,bk:=D.nx } σ2 H2)
noncomputable def jhs (fp : List Addr) (h : Heap) : List (Addr × Obj):=fp.filterMap fun b=>(h.get? b).map fun o=>(b,o)
theorem jc0 {fp : List Addr} {h : Heap} {b : Addr} {o : Obj} (hb : b ∈ fp) (e : h.get? b = some o) : (b,o) ∈ jhs fp h:=List.mem_filterMap.mpr ⟨b,hb,by rw [e]; rfl⟩
theorem jn5 {fp : List Addr} {h : Heap} {p : Addr × Obj} (hp : p ∈ jhs fp h) : p.1 ∈ fp ∧ h.get? p.1 = some p.2:=by
 obtain ⟨b,hb,e⟩:=List.mem_filterMap.mp hp
 cases q : h.get? b with
 | none=>rw [q] at e; cases e
 | some o =>
  rw [q] at e
  have e' : (b,o) = p:=Option.some.inj e
  subst e'
  exact ⟨hb,q⟩
theorem Inv.pinned {pins : List (Addr × Obj)} {σ : St} {H : Hp} {s : Shared} {fp : List Addr} (I : Inv X pins σ H s) (hf : ∀ b ∈ fp,FpOk X pins H b) (ho : ∀ b ∈ fp,∃ o,s.heap.get? b = some o ∧ ∀ v,o.data ≠ .cell v) : Inv X (pins ++ jhs fp s.heap) σ H s :=
 I.pins_of fun p hp=>(List.mem_append.mp hp).elim (fun z=>I.pin p (List.mem_append_right _ z)) fun z=>by
  obtain ⟨hb,e⟩:=jn5 z
  obtain ⟨f0,f1,f2,_⟩:=hf p.1 hb
  obtain ⟨o,e',d⟩:=ho p.1 hb
  rw [e] at e'; cases e'
  exact ⟨e,f0,f1,f2,d⟩
theorem Inv.unpinned {pins pl : List (Addr × Obj)} {σ : St} {H : Hp} {s : Shared} (I : Inv X (pins ++ pl) σ H s) : Inv X pins σ H s:=I.pins_of fun p hp=>I.pin p (List.mem_append_right _ (List.mem_append_left _ hp))
theorem joc {iter : Expr} {body : List Stmt} {wi : TI} {g : TG} {tb : TS} {pos : Pos} (hp : PassesOwn (model X.prog X.w) X.A X.env X.xe) (hc : X.calm = true) (hi : PI X tg iter wi) (hg : PG X tg g) (hb : PSs X body tb)
  (hs : autoParam (∀ x,foldedSetIterable iter X.env x = pure x) zau3._auto_1) : PS X (.For tg iter body [] pos) (tFor wi g tb):=by
 intro pins s σ H D I h
 refine wpAny_For (thn (hi pins s σ H _ I h) fun v s1 h1=>thn h1 fun itv s2 h2=>?_) hs
 obtain ⟨it,fp,tn,J,H2,e,I2,T,st2,f2,W,⟨m0,w0⟩,turn⟩:=h2
 subst e
 have stat : ∀ {H' : Hp},(∀ b ∈ fp,H' b = none) → ∀ b ∈ fp,FpOk X pins H' b:=fun hn b hb=>⟨hn b hb,(f2 b hb).2⟩
 refine codeAny_forLoop_any (fun n s'=>∃ i σ' H',Inv X pins σ' H' s' ∧ tn i s'.heap ∧ (∀ b ∈ fp,H' b = none) ∧ W i n σ' H') ?_ m0 ⟨0,σ,H2,I2,st2,fun b hb=>(f2 b hb).1,w0⟩
 rintro n s3 ⟨i,σ3,H3,I3,st3,fr3,w3⟩
 rcases turn i n σ3 H3 w3 with ⟨stop,qn⟩ | ⟨go,N,hN,step⟩
 ·refine wpAny_passesOwn hp (thn (T.done X rfl rfl rfl hc i pins s3 σ3 H3 X.xe I3 (stat fr3) st3 stop) fun r s4 hzz=>?_)
  obtain ⟨hr,I4⟩:=hzz
  subst hr
  exact wpAny_execs_nil ⟨σ3,H3,I4,qn⟩
 ·refine wpAny_passesOwn hp (thn (T.item X rfl rfl rfl hc i pins s3 σ3 H3 X.xe I3 (stat fr3) st3 go) fun r s4 hzz=>?_)
  obtain ⟨u,hr,h4⟩:=hzz
  subst hr
  refine wpAny_passesOwn hp (thn h4 fun _ s5 hzz=>?_)
  obtain ⟨x,H5,I5,r5,y5,st5,fr5⟩:=hzz
  have I5':=I5.pinned (stat fr5) (T.obj _ _ st5)
  refine wpAny_passesOwn hp (thn (hg _ s5 σ3 H5 x u _ I5' r5 (step x H5 y5)) fun _ s6 hzz=>?_)
  obtain ⟨σ6,H6,I6,q6⟩:=hzz
  refine wpAny_passesOwn hp (thn (hb _ s6 σ6 H6 _ I6 q6) fun f s7 q7=>?_)
  have again : ∀ {σ7 : St} {H7 : Hp},Inv X (pins ++ jhs fp s5.heap) σ7 H7 s7 → N σ7 H7 → ∃ m,m < n ∧ ∃ i σ' H',Inv X pins σ' H' s7 ∧ tn i s7.heap ∧ (∀ b ∈ fp,H' b = none) ∧ W i m σ' H':=fun {σ7 H7} I7 n7=>by
   obtain ⟨m',hm,w7⟩:=hN σ7 H7 n7
   refine ⟨m',hm,i + 1,σ7,H7,I7.unpinned,T.keep _ _ _ st5 fun b hb o e=>(I7.pin (b,o) (List.mem_append_right _ (List.mem_append_right _ (jc0 hb e)))).1,fun b hb=>?_,w7⟩
   obtain ⟨o,e,d⟩:=T.obj _ _ st5 b hb
   exact (I7.pin (b,o) (List.mem_append_right _ (List.mem_append_right _ (jc0 hb e)))).2.1
  cases f with
  | next=>obtain ⟨σ7,H7,I7,n7⟩:=q7; exact again I7 n7
  | cont=>obtain ⟨σ7,H7,I7,n7⟩:=q7; exact again I7 n7
  | brk=>obtain ⟨σ7,H7,I7,q7⟩:=q7; exact ⟨σ7,H7,I7.unpinned,q7⟩
  | ret v=>obtain ⟨x7,σ7,H7,I7,r7,q7⟩:=q7; exact ⟨x7,σ7,H7,I7.unpinned,r7,q7⟩
end
end L2
namespace L2
open PySem PySem.Spec PyProof.Rows
noncomputable abbrev R2:=V → V → Hp → VK → Prop
noncomputable def OpR (X : Cx) (f : Value → Value → Sem Value) (r : R2) : Prop :=
 ∀ (pins : List (Addr × Obj)) (s : Shared) (σ : St) (H : Hp) (x y : V) (v u : Value) (Q : VK),Inv X pins σ H s → RelV x v → RelV y u → r x y H Q →
  wpAny (model X.prog X.w) X.A (f v u) (EP X pins σ Q) X.xe s
noncomputable def UnR (X : Cx) (f : Value → Sem Value) (r : V → Hp → VK → Prop) : Prop :=
 ∀ (pins : List (Addr × Obj)) (s : Shared) (σ : St) (H : Hp) (x : V) (v : Value) (Q : VK),Inv X pins σ H s → RelV x v → r x H Q →
  wpAny (model X.prog X.w) X.A (f v) (EP X pins σ Q) X.xe s
noncomputable def CallR (X : Cx) (f : Value) (r : List V → Hp → VK → Prop) : Prop :=
 ∀ (pins : List (Addr × Obj)) (s : Shared) (σ : St) (H : Hp) (xs : List V) (us : List Value) (Q : VK),Inv X pins σ H s → Vals xs us → r xs H Q →
  wpAny (model X.prog X.w) X.A (call f us) (EP X pins σ Q) X.xe s
noncomputable def TruR (X : Cx) (r : V → Hp → (Bool → Hp → Prop) → Prop) : Prop :=
 ∀ (pins : List (Addr × Obj)) (s : Shared) (σ : St) (H : Hp) (x : V) (v : Value) (Q : Bool → Hp → Prop),Inv X pins σ H s → RelV x v → r x H Q →
  wpAny (model X.prog X.w) X.A (truthy v) (TP X pins σ Q) X.xe s
noncomputable def tOp (r : R2) (ta tb : TE) : TE:=fun σ H Q=>ta σ H fun x H1=>tb σ H1 fun y H2=>r x y H2 Q
noncomputable def tUn (r : V → Hp → VK → Prop) (ta : TE) : TE:=fun σ H Q=>ta σ H fun x H1=>r x H1 Q
noncomputable def rI (C : Int → Int → Prop) (g : Int → Int → V) : R2:=fun x y H Q=>∃ i j,x = .int i ∧ y = .int j ∧ C i j ∧ Q (g i j) H
noncomputable def rI0 (g : Int → Int → V) : R2:=fun x y H Q=>∃ i j,x = .int i ∧ y = .int j ∧ Q (g i j) H
noncomputable def rU (g : Int → V) : V → Hp → VK → Prop:=fun x H Q=>∃ i,x = .int i ∧ Q (g i) H
section
variable {X : Cx} {a b c : Expr} {ta tb tc : TE} {pos : Pos}
theorem binT (ha : PE X a ta) (hb : PE X b tb) {pins : List (Addr × Obj)} {s : Shared} {σ : St} {H : Hp} {R : V → V → Hp → Prop} (I : Inv X pins σ H s)
  (h : ta σ H fun x H1=>tb σ H1 fun y H2=>R x y H2) {Q : Value → Shared → Prop} {f : Value → Value → Sem Value}
  (hf : ∀ v u s2 x y H2,Inv X pins σ H2 s2 → RelV x v → RelV y u → R x y H2 → wpAny (model X.prog X.w) X.A (f v u) Q X.xe s2) :
  wpAny (model X.prog X.w) X.A (eval a X.env) (fun v s₁=>wpAny (model X.prog X.w) X.A (eval b X.env) (fun u s₂=>wpAny (model X.prog X.w) X.A (f v u) Q X.xe s₂) X.xe s₁) X.xe s:=by
 refine thn (ha pins s σ H _ I h) fun v s1 hzz=>?_
 obtain ⟨x,H1,I1,r1,q1⟩:=hzz
 refine thn (hb pins s1 σ H1 _ I1 q1) fun u s2 hzz=>?_
 obtain ⟨y,H2,I2,r2,q2⟩:=hzz
 exact hf v u s2 x y H2 I2 r1 r2 q2
theorem jyk {op : Operator} {r : R2} (ho : OpR X (binaryOp op) r) (ha : PE X a ta) (hb : PE X b tb) : PE X (.BinOp a op b pos) (tOp r ta tb):=by
 intro pins s σ H Q I h
 exact wpAny_BinOp (binT ha hb I h fun v u s2 x y H2 I2 rx ry q=>ho pins s2 σ H2 x y v u Q I2 rx ry q)
theorem jyl {op : UnaryOp} {r : V → Hp → VK → Prop} (ho : UnR X (unaryOp op) r) (ha : PE X a ta) : PE X (.UnaryOp op a pos) (tUn r ta):=by
 intro pins s σ H Q I h
 exact UnaryOp_ (thn (ha pins s σ H _ I h) fun v s1 ⟨x,H1,I1,r1,q1⟩=>ho pins s1 σ H1 x v Q I1 r1 q1)
theorem opI {f : Value → Value → Sem Value} {C : Int → Int → Prop} {g : Int → Int → Int}
  (rule : ∀ (i j : Int) (t u : Tok) (s : Shared) (Q : Value → Shared → Prop) (E : Value → Shared → Prop),C i j → Q (.int (g i j) s.toks) { s with toks:=s.toks + 1 } → wpAny (model X.prog X.w) X.A (f (.int i t) (.int j u)) Q E s) :
  OpR X f (rI C fun i j=>.int (g i j)):=by
 intro pins s σ H x y v u Q I rx ry h
 obtain ⟨i,j,rfl,rfl,hc,q⟩:=h
 obtain ⟨t,rfl⟩:=rx
 obtain ⟨t',rfl⟩:=ry
 exact rule i j t t' s _ _ hc ⟨.int (g i j),H,I.tok _,⟨_,rfl⟩,q⟩
theorem opI0 {f : Value → Value → Sem Value} {g : Int → Int → Int}
  (rule : ∀ (i j : Int) (t u : Tok) (s : Shared) (Q : Value → Shared → Prop) (E : Value → Shared → Prop),Q (.int (g i j) s.toks) { s with toks:=s.toks + 1 } → wpAny (model X.prog X.w) X.A (f (.int i t) (.int j u)) Q E s) :
  OpR X f (rI0 fun i j=>.int (g i j)):=by
 intro pins s σ H x y v u Q I rx ry h
 obtain ⟨i,j,rfl,rfl,q⟩:=h
 obtain ⟨t,rfl⟩:=rx
 obtain ⟨t',rfl⟩:=ry
 exact rule i j t t' s _ _ ⟨.int (g i j),H,I.tok _,⟨_,rfl⟩,q⟩
theorem opB0 {f : Value → Value → Sem Value} {g : Int → Int → Bool}
  (rule : ∀ (i j : Int) (t u : Tok) (s : Shared) (Q : Value → Shared → Prop) (E : Value → Shared → Prop),Q (.bool (g i j)) s → wpAny (model X.prog X.w) X.A (f (.int i t) (.int j u)) Q E s) :
  OpR X f (rI0 fun i j=>.bl (g i j)):=by
 intro pins s σ H x y v u Q I rx ry h
 obtain ⟨i,j,rfl,rfl,q⟩:=h
 obtain ⟨t,rfl⟩:=rx
 obtain ⟨t',rfl⟩:=ry
 exact rule i j t t' s _ _ ⟨.bl (g i j),H,I,rfl,q⟩
noncomputable def CPow (i j : Int) : Prop:=0 ≤ j ∧ j ≤ 1000000 ∧ i.natAbs < 2 ^ 64
theorem op_add : OpR X (binaryOp .Add) (rI0 fun i j=>.int (i + j)):=opI0 fun _ _ _ _ _ _ _ q=>add_int q
theorem jlp : OpR X (binaryOp .Sub) (rI0 fun i j=>.int (i - j)):=opI0 fun _ _ _ _ _ _ _ q=>sub_int q
theorem jcf : OpR X (binaryOp .Mod) (rI (fun _ j=>0 < j) fun i j=>.int (i % j)):=opI fun i j _ _ _ _ _ hc q=>by
 have h1 : (0 : Int) < j:=hc
 exact mod_int' (by omega) (by rw [Int.fmod_eq_emod_of_nonneg i (by omega)]; exact q)
theorem jv7 : OpR X (binaryOp .Pow) (rI CPow fun i j=>.int (i ^ j.toNat)):=opI fun _ _ _ _ _ _ _ hc q=>pow_int_small hc.1 hc.2.1 hc.2.2 q
theorem unI {f : Value → Sem Value} {g : Int → Int}
  (rule : ∀ (i : Int) (t : Tok) (s : Shared) (Q : Value → Shared → Prop) (E : Value → Shared → Prop),Q (.int (g i) s.toks) { s with toks:=s.toks + 1 } → wpAny (model X.prog X.w) X.A (f (.int i t)) Q E s) :
  UnR X f (rU fun i=>.int (g i)):=by
 intro pins s σ H x v Q I rx h
 obtain ⟨i,rfl,q⟩:=h
 obtain ⟨t,rfl⟩:=rx
 exact rule i t s _ _ ⟨.int (g i),H,I.tok _,⟨_,rfl⟩,q⟩
theorem jj6 : UnR X (unaryOp .USub) (rU fun i=>.int (-i)):=unI fun _ _ _ _ _ q=>neg_int q
end
section
variable {X : Cx} {a b c : Expr} {ta tb tc : TE} {pos : Pos}
theorem jq1 {pins : List (Addr × Obj)} {σ : St} {H : Hp} {s : Shared} {Q : VK} {k k' : Bool} (I : Inv X pins σ H s) (q : Q (.bl k) H) (e : k = k') : EP X pins σ Q (.bool k') s:=by
 subst e
 exact ⟨.bl k,H,I,rfl,q⟩
theorem op_lt : OpR X (compareOp .Lt) (rI0 fun i j=>.bl (decide (i < j))):=opB0 fun _ _ _ _ _ _ _ q=>lt_int q
theorem op_gt : OpR X (compareOp .Gt) (rI0 fun i j=>.bl (decide (j < i))):=opB0 fun _ _ _ _ _ _ _ q=>gt_int q
theorem jn7 : OpR X (compareOp .Lt) (fun x y H Q=>∃ i j,x = .str i ∧ y = .str j ∧ Q (.bl (decide (i.cps.toList < j.cps.toList))) H):=by
 intro pins s σ H x y v u Q I rx ry h
 obtain ⟨i,j,rfl,rfl,q⟩:=h
 obtain ⟨t,rfl⟩:=rx
 obtain ⟨t',rfl⟩:=ry
 exact lt_str (jq1 I q rfl)
theorem jrb : OpR X (compareOp .Is) (fun x y H Q=>y = .non ∧ Q (.bl (decide (x = .non))) H):=by
 intro pins s σ H x y v u Q I rx ry h
 obtain ⟨rfl,q⟩:=h
 cases ry
 refine is_none_gen (jq1 I q ?_)
 cases x <;> first
  | (cases rx; rfl)
  | (obtain ⟨t,rfl⟩:=rx; rfl)
theorem OpR.or {f : Value → Value → Sem Value} {r r' : R2} (h : OpR X f r) (h' : OpR X f r') : OpR X f (fun x y H Q=>r x y H Q ∨ r' x y H Q):=by
 intro pins s σ H x y v u Q I rx ry q
 rcases q with q | q
 ·exact h pins s σ H x y v u Q I rx ry q
 ·exact h' pins s σ H x y v u Q I rx ry q
theorem jc8 (b : Expr) {op : CmpOp} (h : autoParam (op ≠ .In) zau1._auto_1) (h2 : autoParam (op ≠ .NotIn) zau1._auto_1) : behindInMarks op b = false:=by
 have e1 : (op == CmpOp.In) = false:=by cases op <;> first | rfl | exact absurd rfl h
 have e2 : (op == CmpOp.NotIn) = false:=by cases op <;> first | rfl | exact absurd rfl h2
 cases b <;> simp [behindInMarks,e1,e2]
theorem jn9 {op : CmpOp} {r : R2} (ho : OpR X (compareOp op) r) (ha : PE X a ta) (hb : PE X b tb) (hm : behindInMarks op b = false) : PE X (.Compare a [op] [b] pos) (tOp r ta tb):=by
 intro pins s σ H Q I h
 exact wpAny_Compare1 (binT ha hb I h fun v u s2 x y H2 I2 rx ry q=>ho pins s2 σ H2 x y v u Q I2 rx ry q) hm
noncomputable def jy2 (t : TE) : TT:=fun σ H Q=>t σ H fun x H'=>∃ k,x = .bl k ∧ Q k H'
theorem jku {op : CmpOp} {r : R2} (ho : OpR X (compareOp op) r) (ha : PE X a ta) (hb : PE X b tb) (hm : behindInMarks op b = false) : PT X (.Compare a [op] [b] pos) (jy2 (tOp r ta tb)):=by
 intro pins s σ H Q I h
 refine wpAny_isTrue_Compare1 (thn (ha pins s σ H _ I h) fun v s1 ⟨x,H1,I1,r1,q1⟩=>thn (hb pins s1 σ H1 _ I1 q1) fun u s2 ⟨y,H2,I2,r2,q2⟩ =>
  thn (ho pins s2 σ H2 x y v u _ I2 r1 r2 q2) fun c s3 ⟨z,H3,I3,r3,k,e,q3⟩=>?_) hm
 subst e
 cases r3
 exact wpAny_truthy_bool ⟨H3,I3,q3⟩
noncomputable def TruV (K : PySem.W.Frag) (x : V) (H : Hp) (k : Bool) : Prop :=
 match x with
 | .non=>k = false
 | .bl b=>k = b
 | .int i=>k = (i != 0)
 | .str y=>y.length ≤ sizeLine ∧ k = ((y.length : Int) != 0)
 | .byt y=>y.size ≤ sizeLine ∧ k = ((y.size : Int) != 0)
 | .ref p=>(∃ xs,SqL K H p xs ∧ k = !xs.isEmpty) ∨ (∃ xs,SqT K H p xs ∧ k = !xs.isEmpty) ∨ ∃ kvs,H p = some (.dK kvs) ∧ k = !kvs.isEmpty
 | _=>False
theorem jmd {κ : Type} {kvs : List (κ × V)} {vs : List (κ × Value)} (r : KV kvs vs) : (!vs.isEmpty) = !kvs.isEmpty:=by
 cases r <;> rfl
theorem jhp {xs : List V} {its : List Value} (r : Vals xs its) : (!its.toArray.isEmpty) = !xs.isEmpty:=by
 cases r <;> simp
theorem jhr : (sizeLine : Nat) < 2 ^ 63:=by rw [sizeLine_eq]; decide
theorem jw5 : TruR X (fun x H Q=>∃ k,TruV X.K x H k ∧ Q k H):=by
 intro pins s σ H x v Q I rx h
 obtain ⟨k,e,q⟩:=h
 have hl:=jhr
 have hs : sizeLine = 16777216:=sizeLine_eq
 cases x with
 | non =>
  cases rx
  have e' : k = false:=e
  subst e'
  exact truthy_none ⟨H,I,q⟩
 | bl b =>
  cases rx
  have e' : k = b:=e
  subst e'
  exact wpAny_truthy_bool ⟨H,I,q⟩
 | int i =>
  obtain ⟨t,rfl⟩:=rx
  have e' : k = (i != 0):=e
  subst e'
  exact PySem.P.truthy_int ⟨H,I,q⟩
 | str y =>
  obtain ⟨t,rfl⟩:=rx
  obtain ⟨hy,e'⟩ : y.length ≤ sizeLine ∧ k = ((y.length : Int) != 0):=e
  subst e'
  exact PySem.P.truthy_str (by omega) ⟨H,I.tok _,q⟩
 | byt y =>
  obtain ⟨t,rfl⟩:=rx
  obtain ⟨hy,e'⟩ : y.size ≤ sizeLine ∧ k = ((y.size : Int) != 0):=e
  subst e'
  exact PySem.W.truthy_bytes (by omega) ⟨H,I.tok _,q⟩
 | ref p =>
  cases rx
  have e' : (∃ xs,SqL X.K H p xs ∧ k = !xs.isEmpty) ∨ (∃ xs,SqT X.K H p xs ∧ k = !xs.isEmpty) ∨ ∃ kvs,H p = some (.dK kvs) ∧ k = !kvs.isEmpty:=e
  rcases e' with ⟨xs,hx,e'⟩ | ⟨xs,hx,e'⟩ | ⟨kvs,hx,e'⟩
  ·subst e'
   obtain ⟨its,r,pl,hz⟩:=I.list hx
   have hlen:=r.length
   exact wpAny_truthy_list pl.isList (by simp only [List.size_toArray]; omega) ⟨H,I.tok _,by rw [jhp r]; exact q⟩
  ·subst e'
   obtain ⟨its,r,pl,hz⟩:=I.tuple hx
   have hlen:=r.length
   exact truthy_tuple pl (by simp only [List.size_toArray]; omega) ⟨H,I.tok _,by rw [jhp r]; exact q⟩
  ·subst e'
   obtain ⟨hz,hS,vs,r,m⟩ : kvs.length ≤ sizeLine ∧ (p == sysModules) = false ∧ ∃ vs,KV kvs vs ∧ s.heap.DictOf (jkm X.prog X.w) p vs:=I.hok p _ hx
   have hlen : kvs.length = vs.length:=Paired.length r
   exact wpAny_truthy_dict hS m (by omega) ⟨H,I.tok _,by rw [jmd r]; exact q⟩
 | _=>exact (show False from e).elim
theorem jlv (ha : PE X a ta) (he : ∀ whole,isTrue a X.env whole = (do let v ← whole; standAt a.pos; holding [v] (truthy v))) :
  PT X a (fun σ H Q=>ta σ H fun x H'=>∃ k,TruV X.K x H' k ∧ Q k H'):=by
 intro pins s σ H Q I h
 exact isTrue_plain (thn (ha pins s σ H _ I h) fun v s1 ⟨x,H1,I1,r1,q1⟩=>jw5 pins s1 σ H1 x v Q I1 r1 q1) (he _)
theorem jml : OpR X (binaryOp .Add) (fun x y H Q=>∃ i j,x = .str i ∧ y = .str j ∧ i.length + j.length ≤ sizeLine ∧ Q (.str (i ++ j)) H):=by
 intro pins s σ H x y v u Q I rx ry h
 obtain ⟨i,j,rfl,rfl,hz,q⟩:=h
 obtain ⟨t,rfl⟩:=rx
 obtain ⟨t',rfl⟩:=ry
 exact add_str (fun t' tk=>⟨.str (i ++ j),H,I.tok _,⟨_,rfl⟩,q⟩) hz
theorem jqp {x : V} {us : List Value} (r : Vals [x] us) : ∃ u,us = [u] ∧ RelV x u:=by
 cases r with
 | cons r1 r2=>cases r2; exact ⟨_,rfl,r1⟩
end
end L2
namespace L2
open PySem PySem.Spec PyProof.Rows
structure ObjM (h : Heap) (x dx C : Addr) (mA : Str → Option Value) : Prop where
 obj : h.get? x = some (PySem.W.instObj C dx)
 ns : h.Ns1 dx mA
 ne : dx ≠ x
theorem jjd {h : Heap} {dx : Addr} {mA : Str → Option Value} (n : h.Ns1 dx mA) : ∃ od,h.get? dx = some od ∧ ∀ name,PySem.W.lookIn name od = some (mA name):=by
 obtain ⟨o,es,ep,ho,hd,hk,_,hm⟩:=n
 refine ⟨o,ho,fun name=>?_⟩
 have e:=hm name
 unfold nsFind findBy at e
 rw [← Array.find?_toList] at e
 unfold PySem.W.lookIn
 rw [hd]
 dsimp only
 split
 ·rename_i y q
  rw [q] at e
  exact congrArg some e
 ·rename_i q
  rw [q] at e
  have a : es.toList.any (·.refKey) = false:=by
   rw [List.any_eq_false]
   intro y hy
   obtain ⟨z,t,hkey⟩:=hk y (Array.mem_toList_iff.mp hy)
   simp [DictEntry.refKey,hkey]
  have a' : ¬ es.toList.any (·.refKey) = true:=by rw [a]; exact Bool.false_ne_true
  rw [if_neg a']
  exact congrArg some e
theorem ObjM.look {h : Heap} {x dx C : Addr} {mA : Str → Option Value} (I : ObjM h x dx C mA) : ∃ od,PySem.W.InstAt h x (PySem.W.instObj C dx) C (some od) ∧ ∀ name,PySem.W.lookIn name od = some (mA name) :=
 let ⟨od,ho,hl⟩:=jjd I.ns
 ⟨od,⟨I.obj,rfl,rfl,ho⟩,hl⟩
section
variable {prog : Program} {w : World} {A : Around} {E : Value → Shared → Prop} {s : Shared} {K : PySem.W.Frag} {x dx C f : Addr} {mA : Str → Option Value} {name : Str} {v : Value}
theorem jsc {expr : Bool} {Q : Value → Shared → Prop} (X : K.In s.heap) (I : ObjM s.heap x dx C mA) (hg : PySem.W.plainGet K C name = true) (hh : PySem.W.hasDictIn K C = true)
  (ha : PySem.W.findIn K (.ref C) name = some none) (hv : mA name = some v) (hv' : PySem.W.handedIn v = true) (h : Q v { s with toks:=s.toks + 1 }) :
  wpAny (model prog w) A (getAttr (.ref x) name expr) Q E s:=by
 obtain ⟨od,J,hl⟩:=I.look
 exact PySem.W.get_value X J (PySem.W.plainGet_of hg).1 (PySem.W.findObj_own hh ha rfl (by rw [hl,hv])) hv' h
theorem jpl {pl : Sem Bool} {Q : Value × List Value → Shared → Prop} (X : K.In s.heap) (I : ObjM s.heap x dx C mA) (hg : PySem.W.plainGet K C name = true)
  (hf : PySem.W.findIn K (.ref C) name = some (some (.ref f))) (ht : PySem.W.isFn K (.ref f) = true) (hv : mA name = none) (h : Q (.ref f,[.ref x]) s) :
  wpAny (model prog w) A (getMethod (.ref x) name pl) Q E s:=by
 obtain ⟨od,J,hl⟩:=I.look
 exact PySem.W.method_fn X J (PySem.W.plainGet_of hg).1 (PySem.W.plainGet_of hg).2 hf (beq_iff_eq.mp ht) (by show (PySem.W.lookIn name od).map (·.isSome) = some false; rw [hl,hv]; rfl) h
theorem jt1 {ns : List Str} {Q : Unit → Shared → Prop} (X : K.In s.heap) (I : ObjM s.heap x dx C mA)
  (hs : PySem.W.findIn K (.ref C) "__setattr__" = some (some (.builtin "object.__setattr__"))) (hp : PySem.W.plainOver K C = true) (ht : PySem.W.takerIn K C name = some none) (hh : PySem.W.hasDictIn K C = true)
  (hw : PySem.Within mA ns) (hsz : ns.length ≤ sizeLine)
  (h : ∀ h',ObjM h' x dx C (fun y=>if y = name then some v else mA y) → Heap.SameBut dx s.heap h' → Q () { s with heap:=h',toks:=s.toks + 2 }) :
  wpAny (model prog w) A (setAttr (.ref x) name v) Q E s:=by
 obtain ⟨od,J,hl⟩:=I.look
 refine PySem.W.set_plain X J hs (PySem.W.osa_open (s:={ s with toks:=s.toks + 1 }) (r:=none) X J hp ht fun b=>?_)
 obtain ⟨cd,hc,hd'⟩:=PySem.W.any_some hh
 have hx : s.heap.get? x = some ⟨.ref C,some dx,.plain,#[]⟩:=I.obj
 refine wpAny_bind (wpAny_pure (wpAny_bind (wpAny_bind (wpAny_loadPart hx (wpAny_bind (PySem.W.Looks.here (s:={ s with toks:=s.toks + 1 }) (PySem.W.looks_clsIn X hc) ?_))))))
 rw [hd']
 refine wpAny_pure (a:=some dx) (wpAny_bind (wpAny_pure (wpAny_bind ?_)))
 refine wpAny_nsSet1 (s:={ s with toks:=s.toks + 1 }) I.ns fun h' hn2 hs2=>?_
 obtain ⟨oD,esD,epD,hoD,hdD,hcD⟩:=hn2.count (PySem.Within.cons name v hw)
 refine wpAny_bind (wpAny_lookBehind hoD (by rw [hdD]; exact pastItsLine_dict (Nat.le_trans hcD (by rw [List.length_cons]; omega))) ?_)
 exact wpAny_pure (h _ ⟨(hs2.2 _ (Ne.symm I.ne)).trans I.obj,hn2,I.ne⟩ hs2)
theorem jpy {R : Result → Shared → Prop} {vs : List Value} {kw : List (Str × Value)} (X : K.In s.heap) (hm : PySem.W.makesIn K C = true)
  (hi : PySem.W.findIn K (.ref C) "__init__" = some (some (.ref f))) (hf : PySem.W.typeIn K (.ref f) = some (.type "function"))
  (h : codeAny (model prog w) (A.under (.builtin "type.__call__" ⟨.ref C :: vs,kw⟩)) (.call (.ref f) ⟨.ref (s.heap.objs.size + 1) :: vs,kw⟩) (PySem.W.InitBack (s.heap.objs.size + 1) R)
   { s with heap:=(s.heap.push PySem.W.emptyDict).push (PySem.W.instObj C s.heap.objs.size) }) :
  codeAny (model prog w) A (.call (.ref C) ⟨vs,kw⟩) R s:=by
 obtain ⟨hh,g,d,t,os⟩:=s
 exact PySem.W.make_core (PySem.W.makes_of X hm) (PySem.W.looks_findIn X hi) (fun self=>PySem.W.bind_fn X self hf) (.inl rfl) h
end
noncomputable def putF (f : Str) (v : V) : List (Str × V) → List (Str × V)
 | []=>[(f,v)]
 | (g,x) :: r=>if g = f then (g,v) :: r else (g,x) :: putF f v r
theorem jfe (f g : Str) (v : V) : ∀ fs : List (Str × V),(putF f v fs).lookup g = if g = f then some v else fs.lookup g
 | []=>by
  show List.lookup g [(f,v)] = _
  by_cases h : g = f
  ·have hb : (g == f) = true:=beq_iff_eq.mpr h
   simp only [List.lookup,hb,if_pos h]
  ·have hb : (g == f) = false:=beq_eq_false_iff_ne.mpr h
   simp only [List.lookup,hb,if_neg h]
 | (k,x) :: r=>by
  have ih:=jfe f g v r
  rw [show putF f v ((k,x) :: r) = (if k = f then (k,v) :: r else (k,x) :: putF f v r) from rfl]
  by_cases hk : k = f
  ·rw [if_pos hk]
   by_cases h : g = k
   ·have hb : (g == k) = true:=beq_iff_eq.mpr h
    simp only [List.lookup,hb,if_pos (h.trans hk)]
   ·have hb : (g == k) = false:=beq_eq_false_iff_ne.mpr h
    simp only [List.lookup,hb,if_neg (fun e : g = f=>h (e.trans hk.symm))]
  ·rw [if_neg hk]
   by_cases h : g = k
   ·have hb : (g == k) = true:=beq_iff_eq.mpr h
    simp only [List.lookup,hb,if_neg (fun e : g = f=>hk (h.symm.trans e))]
   ·have hb : (g == k) = false:=beq_eq_false_iff_ne.mpr h
    simp only [List.lookup,hb]
    exact ih
theorem jep (f : Str) (v : V) : ∀ fs : List (Str × V),f ∈ (putF f v fs).map (·.1) ∧ ∀ g,g ∈ fs.map (·.1) → g ∈ (putF f v fs).map (·.1)
 | []=>⟨by simp [putF],fun g h=>by simp at h⟩
 | (k,x) :: r=>by
  obtain ⟨i1,i2⟩:=jep f v r
  rw [show putF f v ((k,x) :: r) = (if k = f then (k,v) :: r else (k,x) :: putF f v r) from rfl]
  by_cases hk : k = f
  ·rw [if_pos hk]
   subst hk
   exact ⟨by simp,fun g h=>by simpa using h⟩
  ·rw [if_neg hk]
   refine ⟨?_,fun g h=>?_⟩
   ·rw [List.map_cons]
    exact List.mem_cons_of_mem _ i1
   ·rw [List.map_cons] at h ⊢
    rcases List.mem_cons.mp h with e | e
    ·exact List.mem_cons.mpr (.inl e)
    ·exact List.mem_cons_of_mem _ (i2 g e)
theorem jfd (f : Str) (v : V) : ∀ fs : List (Str × V),(putF f v fs).length ≤ fs.length + 1
 | []=>by simp [putF]
 | (k,x) :: r=>by
  have ih:=jfd f v r
  rw [show putF f v ((k,x) :: r) = (if k = f then (k,v) :: r else (k,x) :: putF f v r) from rfl]
  by_cases hk : k = f
  ·rw [if_pos hk,List.length_cons,List.length_cons]; omega
  ·rw [if_neg hk,List.length_cons,List.length_cons]; omega
theorem RelO.some_of {v : V} {o : Option Value} (r : RelO (some v) o) : ∃ u,o = some u ∧ RelV v u:=by
 cases o with
 | none=>exact (show False from r).elim
 | some u=>exact ⟨u,rfl,r⟩
theorem RelO.none_of {o : Option Value} (r : RelO none o) : o = none:=by
 cases o with
 | none=>rfl
 | some u=>exact (show False from r).elim
theorem ji9 {v : V} {u : Value} (r : RelV v u) : PySem.W.handedIn u = true:=by
 cases v with
 | non=>cases (show u = Value.none from r); rfl
 | bl b=>cases (show u = Value.bool b from r); rfl
 | int i=>obtain ⟨t,e⟩:=(show ∃ t,u = Value.int i t from r); cases e; rfl
 | str x=>obtain ⟨t,e⟩:=(show ∃ t,u = Value.str x t from r); cases e; rfl
 | byt b=>obtain ⟨t,e⟩:=(show ∃ t,u = Value.bytes b t from r); cases e; rfl
 | flt b=>obtain ⟨t,e⟩:=(show ∃ t,u = Value.float b t from r); cases e; rfl
 | ref a=>cases (show u = Value.ref a from r); rfl
 | ty n=>cases (show u = Value.type n from r); rfl
section
variable {P : Program} {w : World} {H H' : Hp} {h h' : Heap} {a C dx : Addr} {fs fs' : List (Str × V)}
theorem jkg (hok : HOk P w H h) (e : H a = some (.ins C dx fs)) : ∃ mA,ObjM h a dx C mA ∧ (∀ f,RelO (fs.lookup f) (mA f)) ∧ PySem.Within mA (fs.map (·.1)) ∧ fs.length ≤ 1000 ∧ H dx = some (.own a):=by
 obtain ⟨d,z,ne,ob,mA,n,r,q⟩:=(show ObjOk P w H h a (.ins C dx fs) from hok a _ e)
 exact ⟨mA,⟨ob,n,ne⟩,r,q,z,d⟩
end
structure Cls (K : PySem.W.Frag) (C : Addr) : Prop where
 pg : PySem.W.plainGet K C Str.empty = true
 hd : PySem.W.hasDictIn K C = true
 po : PySem.W.plainOver K C = true
 sa : PySem.W.findIn K (.ref C) "__setattr__" = some (some (.builtin "object.__setattr__"))
theorem Cls.get {K : PySem.W.Frag} {C : Addr} (c : Cls K C) (f : Str) : PySem.W.plainGet K C f = true:=c.pg
noncomputable def NoAttr (K : PySem.W.Frag) (C : Addr) (f : Str) : Prop:=PySem.W.findIn K (.ref C) f = some none
theorem NoAttr.taker {K : PySem.W.Frag} {C : Addr} {f : Str} (n : NoAttr K C f) : PySem.W.takerIn K C f = some none:=by
 unfold PySem.W.takerIn
 rw [show PySem.W.findIn K (.ref C) f = some none from n]
 rfl
structure Con (K : PySem.W.Frag) (C : Addr) (f : Str) (v : V) (u : Value) : Prop where
 at_ : PySem.W.findIn K (.ref C) f = some (some u)
 rel : RelV v u
 get : PySem.W.specialIn K u "__get__" = some none
 cp : PySem.W.copiedNames.contains f = false
structure Meth (K : PySem.W.Frag) (C : Addr) (m : Str) (f : Addr) : Prop where
 at_ : PySem.W.findIn K (.ref C) m = some (some (.ref f))
 fn : PySem.W.isFn K (.ref f) = true
 kp : PySem.W.keepIn K (.ref f) = true
section
variable {X : Cx} {pins : List (Addr × Obj)} {σ : St} {H : Hp} {s : Shared} {a C dx : Addr} {fs : List (Str × V)} {f : Str} {v : V} {A : Around} {E : Value → Shared → Prop}
theorem jmc {b : Bool} {Q : Value → Shared → Prop} (I : Inv X pins σ H s) (e : H a = some (.ins C dx fs)) (c : Cls X.K C) (n : NoAttr X.K C f) (l : fs.lookup f = some v)
  (h : ∀ u s',Inv X pins σ H s' → RelV v u → Q u s') : wpAny (model X.prog X.w) A (getAttr (.ref a) f b) Q E s:=by
 obtain ⟨mA,O,r,_,_,_⟩:=jkg I.hok e
 obtain ⟨u,hu,ru⟩:=RelO.some_of (v:=v) (o:=mA f) (by rw [← l]; exact r f)
 exact jsc I.kIn O (c.get f) c.hd n hu (ji9 ru) (h u _ (I.tok _) ru)
theorem jhn {m : Str} {g : Addr} {pl : Sem Bool} {Q : Value × List Value → Shared → Prop} (I : Inv X pins σ H s) (e : H a = some (.ins C dx fs)) (c : Cls X.K C) (k : Meth X.K C m g) (l : fs.lookup m = none)
  (h : Q (.ref g,[.ref a]) s) : wpAny (model X.prog X.w) A (getMethod (.ref a) m pl) Q E s:=by
 obtain ⟨mA,O,r,_,_,_⟩:=jkg I.hok e
 have hn : mA m = none:=RelO.none_of (by rw [← l]; exact r m)
 exact jpl I.kIn O (c.get m) k.at_ k.fn hn h
theorem jmq {y : V} {u : Value} {Q : Unit → Shared → Prop} (I : Inv X pins σ H s) (e : H a = some (.ins C dx fs)) (c : Cls X.K C) (n : NoAttr X.K C f) (hl : fs.length < 1000) (ry : RelV y u)
  (h : ∀ s',Inv X pins σ (upd H a (.ins C dx (putF f y fs))) s' → Q () s') : wpAny (model X.prog X.w) A (setAttr (.ref a) f u) Q E s:=by
 obtain ⟨mA,O,r,wi,_,ho⟩:=jkg I.hok e
 have hz : (fs.map (·.1)).length ≤ sizeLine:=by rw [List.length_map,sizeLine_eq]; omega
 refine jt1 I.kIn O c.sa c.po n.taker c.hd wi hz fun h' O' sb=>h _ ?_
 have hd : ∃ o,h'.get? dx = some o:=let ⟨o,_,_,e',_⟩:=O'.ns; ⟨o,e'⟩
 refine I.write (x:=a) (e:=dx) (by rw [e]; exact True.intro) (.inr ho) (fun b q hb z=>(sb.2 b hb).trans z) hd ?_
 refine ⟨by rw [jai O.ne]; exact ho,?_,O.ne,O'.obj,_,O'.ns,fun g=>?_,fun g hg=>?_⟩
 ·have:=jfd f y fs; omega
 ·show RelO ((putF f y fs).lookup g) (if g = f then some u else mA g)
  rw [jfe]
  by_cases q : g = f
  ·rw [if_pos q,if_pos q]; exact ry
  ·rw [if_neg q,if_neg q]; exact r g
 ·by_cases q : g = f
  ·rw [q]; exact (jep f y fs).1
  ·refine (jep f y fs).2 g (wi g fun z=>hg ?_)
   show (if g = f then some u else mA g) = none
   rw [if_neg q]; exact z
theorem Inv.made (I : Inv X pins σ H s) : Inv X pins σ (upd (upd H s.heap.objs.size (.own (s.heap.objs.size + 1))) (s.heap.objs.size + 1) (.ins C s.heap.objs.size []))
  { s with heap:=(s.heap.push PySem.W.emptyDict).push (PySem.W.instObj C s.heap.objs.size) }:=by
 have e1 : (s.heap.push PySem.W.emptyDict).get? s.heap.objs.size = some PySem.W.emptyDict:=Heap.get?_push_size s.heap rfl
 have e2 : ((s.heap.push PySem.W.emptyDict).push (PySem.W.instObj C s.heap.objs.size)).get? (s.heap.objs.size + 1) = some (PySem.W.instObj C s.heap.objs.size):=by
  have:=Heap.get?_push_size (s.heap.push PySem.W.emptyDict) (o:=PySem.W.instObj C s.heap.objs.size) rfl
  rwa [Heap.size_push] at this
 have e3 : (s.heap.push PySem.W.emptyDict).Ns s.heap.objs.size (fun _=>none):=⟨PySem.W.emptyDict,#[],_,e1,rfl,(fun e he=>absurd he (by simp)),fun _=>rfl⟩
 have I1:=I.laid (a:=s.heap.objs.size) (o:=.own (s.heap.objs.size + 1)) (h':=s.heap.push PySem.W.emptyDict) (t':=s.toks) (fun b u q=>Heap.get?_push_of_some _ q) (Nat.le_refl _) ⟨_,e1⟩
 refine I1.laid (a:=s.heap.objs.size + 1) (o:=.ins C s.heap.objs.size []) (t':=s.toks) (fun b u q=>Heap.get?_push_of_some _ q) (Nat.le_of_eq (Heap.size_push _ _)) ?_
 have ne : s.heap.objs.size ≠ s.heap.objs.size + 1:=Nat.ne_of_lt (Nat.lt_succ_self _)
 refine ⟨by rw [jai ne,jak],Nat.zero_le _,ne,e2,fun _=>none,(Heap.Ns1.of_empty e3).at fun o q=>Heap.get?_push_of_some _ q,fun _=>True.intro,fun y hy=>absurd rfl hy⟩
theorem jmw {prog : Program} {w : World} {env : Env} {e : Expr} {f : Str} {pos : Pos} {s : Shared} {Q : Value → Shared → Prop} (hb : attributeBase e f env (eval e env) = eval e env)
  (h : wpAny (model prog w) A (eval e env) (fun o s₁=>wpAny (model prog w) A (getAttr o f true) Q E s₁) E s) : wpAny (model prog w) A (eval (.Attribute e f pos) env) Q E s :=
 Attribute_any_ h (by rw [arm_eval_Attribute,hb])
end
inductive FldP (K : PySem.W.Frag) (f : Str) (Q : VK) (x : V) (H1 : Hp) : Prop
 | mk (a C dx : Addr) (fs : List (Str × V)) (v : V) (h1 : x = .ref a) (h2 : H1 a = some (.ins C dx fs)) (h3 : Cls K C) (h4 : NoAttr K C f) (h5 : fs.lookup f = some v) (h6 : Q v H1)
noncomputable def tFld (K : PySem.W.Frag) (ta : TE) (f : Str) : TE:=fun σ H Q=>ta σ H (FldP K f Q)
noncomputable def sFld (K : PySem.W.Frag) (ta tv : TE) (f : Str) : TS:=fun D σ H=>tv σ H fun y H1=>ta σ H1 fun x H2=>∃ a C dx fs,x = .ref a ∧ H2 a = some (.ins C dx fs) ∧ Cls K C ∧ NoAttr K C f ∧ fs.length < 1000 ∧
 D.nx σ (upd H2 a (.ins C dx (putF f y fs)))
section
variable {X : Cx} {o e value : Expr} {f : Str} {pos pos' tpos : Pos} {ta tv : TE}
theorem jwd (he : PE X e ta) (hb : attributeBase e f X.env (eval e X.env) = eval e X.env) : PE X (.Attribute e f pos) (tFld X.K ta f):=by
 intro pins s σ H Q I h
 refine jmw hb (thn (he pins s σ H _ I h) fun u s1 hzz=>?_)
 obtain ⟨x,H1,I1,rx,a,C,dx,fs,v,ex,ea,c,n,l,q⟩:=hzz
 subst ex
 obtain rfl : u = Value.ref a:=rx
 exact jmc I1 ea c n l fun u' s2 I2 ru=>⟨v,H1,I2,ru,q⟩
theorem jwl (ha : PE X o ta) (hv : PE X value tv) (hs : swapsWith value (some (.Attribute o f pos')) pos.line X.env = pure false) : PS X (.Assign [.Attribute o f pos'] value pos) (sFld X.K ta tv f):=by
 intro pins s σ H D I h
 refine plainObj_wpAny_Assign_Attribute (thn (hv pins s σ H _ I h) fun u s1 ⟨y,H1,I1,ry,q⟩=>thn (ha pins s1 σ H1 _ I1 q) fun ov s2 hzz=>?_) hs
 obtain ⟨x,H2,I2,rx,a,C,dx,fs,ex,ea,c,n,l,q2⟩:=hzz
 subst ex
 obtain rfl : ov = Value.ref a:=rx
 exact jmq I2 ea c n l ry fun s3 I3=>⟨σ,_,I3,q2⟩
end
section
variable {X : Cx} {pins : List (Addr × Obj)} {σ : St} {H : Hp} {s : Shared} {A : Around} {E : Value → Shared → Prop} {Q : Value → Shared → Prop} {c : Value} {b : Bool}
inductive TyOf (K : PySem.W.Frag) (H : Hp) : V → Value → Prop where
 | non : TyOf K H .non (.type "NoneType")
 | bl (x : Bool) : TyOf K H (.bl x) (.type "bool")
 | int (i : Int) : TyOf K H (.int i) (.type "int")
 | str (x : Str) : TyOf K H (.str x) (.type "str")
 | flt (x : UInt64) : TyOf K H (.flt x) (.type "float")
 | lst {a : Addr} {xs : List V} (e : H a = some (.lst xs)) : TyOf K H (.ref a) (.type "list")
 | frz {a : Addr} {o : Obj} {xs : List V} (e : H a = some (.frz o (.lst xs))) : TyOf K H (.ref a) (.type "list")
 | tup {a : Addr} {xs : List V} (e : H a = some (.tup xs)) : TyOf K H (.ref a) (.type "tuple")
 | dK {a : Addr} {kvs : List (Key × V)} (e : H a = some (.dK kvs)) : TyOf K H (.ref a) (.type "dict")
 | dT {a : Addr} {kvs : List (List Key × V)} (e : H a = some (.dT kvs)) : TyOf K H (.ref a) (.type "dict")
 | ins {a C dx : Addr} {fs : List (Str × V)} (e : H a = some (.ins C dx fs)) (cl : Cls K C) (ha : PySem.W.findIn K (.ref C) "__class__" = some (some (.builtin "object.__class__")))
   (hn : PySem.W.specialIn K (.builtin "object.__class__") "__get__" = some (some (.builtin "getset_descriptor.__get__"))) (htk : PySem.W.takesIn K (.builtin "object.__class__") = some true)
   (hm : PySem.W.mroIn K C (.type "object") = some true) : TyOf K H (.ref a) (.ref C)
end
end L2
namespace L2
open PySem PySem.Spec PyProof.Rows
structure Room (k : Nat) (A : Around) : Prop where
 hd : A.handled = none
 dp : A.depth + 3 * k + 5 < recursionLimit
 un : A.units + 16 * k + 200 < cLine
theorem Room.mono {j k : Nat} {A : Around} (r : Room k A) (h : j ≤ k) : Room j A:=⟨r.hd,by have:=r.dp; omega,by have:=r.un; omega⟩
theorem Room.deeper {k : Nat} {A : Around} (r : Room (k + 1) A) (env : Env) : Room k (A.deeper env) :=
 ⟨r.hd,by have:=r.dp; show A.depth + 1 + 3 * k + 5 < _; omega,by have:=r.un; show A.units + 3 + 16 * k + 200 < _; omega⟩
theorem jmf {A : Around} {C : Addr} {us : List Value} {kw : List (Str × Value)} : (A.under (.builtin "type.__call__" ⟨.ref C :: us,kw⟩)).depth = A.depth + 1:=by
 first | rfl | simp [Around.under,Code.weight,Code.isCreation,Code.isGuard,Code.isCaller,Code.frames,Code.isFrame,guardIds]
theorem jmg {A : Around} {C : Addr} {us : List Value} {kw : List (Str × Value)} : (A.under (.builtin "type.__call__" ⟨.ref C :: us,kw⟩)).units = A.units + 1:=by
 first | rfl | simp [Around.under,Code.cUnits,Code.frames,Code.isFrame]
theorem Room.make {k : Nat} {A : Around} (r : Room (k + 1) A) (C : Addr) (us : List Value) (kw : List (Str × Value)) : Room k (A.under (.builtin "type.__call__" ⟨.ref C :: us,kw⟩)) :=
 ⟨r.hd,by have:=r.dp; rw [jmf]; omega,by have:=r.un; rw [jmg]; omega⟩
theorem Room.depth {k : Nat} {A : Around} (r : Room k A) : A.depth < recursionLimit:=by have:=r.dp; omega
theorem Room.units {k : Nat} {A : Around} (r : Room k A) : A.units + 64 < cLine:=by have:=r.un; omega
noncomputable def tNil : TA:=fun _ H Q=>Q [] H
noncomputable def jyy (ta : TE) (tr : TA) : TA:=fun σ H Q=>ta σ H fun x H1=>tr σ H1 fun xs H2=>Q (x :: xs) H2
section
variable {X : Cx} {e : Expr} {es : List Expr} {te : TE} {t : TA} {pos : Pos}
theorem jlq : PA X [] tNil:=fun _ _ _ _ H Q I h=>Calls.spliced_nil ⟨[],H,I,.nil,h⟩
theorem jf4 (ha : PE X e te) (hr : PA X es t) (hs : autoParam (starEach (e :: es) X.env = (false,eval e X.env) :: starEach es X.env) zau2._auto_1) : PA X (e :: es) (jyy te t):=by
 intro pos pins s σ H Q I h
 rw [hs]
 show wpAny _ _ (spliced ((false,eval e X.env) :: backTo pos (starEach es X.env))) _ _ s
 refine Calls.spliced_cons (thn (ha pins s σ H _ I h) fun u s1 hzz=>?_)
 obtain ⟨x,H1,I1,r1,q1⟩:=hzz
 exact thn (hr pos pins s1 σ H1 _ I1 q1) fun us s2 ⟨xs,H2,I2,r2,q2⟩=>⟨x :: xs,H2,I2,.cons r1 r2,q2⟩
noncomputable def tTup (t : TA) : TE:=fun σ H Q=>t σ H fun xs H1=>xs.length ≤ sizeLine ∧ ∀ p,H1 p = none → Q (.ref p) (upd H1 p (.tup xs))
noncomputable def tLst (t : TA) : TE:=fun σ H Q=>t σ H fun xs H1=>xs.length ≤ sizeLine ∧ ∀ p,H1 p = none → Q (.ref p) (upd H1 p (.lst xs))
theorem jrf {x1} (h : PA X es t) : PE X (.Tuple es x1 pos) (tTup t):=by
 intro pins s σ H Q I hq
 refine wpAny_Tuple_spliced (thn (h pos pins s σ H _ I hq) fun us s1 ⟨xs,H1,I1,r,z,q⟩=>⟨by rw [← r.length]; exact z,?_⟩)
 have hf : H1 s1.heap.objs.size = none:=I1.hok.fresh (Nat.le_refl _)
 refine ⟨.ref s1.heap.objs.size,upd H1 s1.heap.objs.size (.tup xs),I1.laid (t':=s1.toks) (fun b u e=>Heap.get?_push_of_some _ e) (Nat.le_refl _) ?_,rfl,q _ hf⟩
 exact ⟨z,us,r,⟨_,Heap.get?_push_size _ rfl,rfl,_,rfl⟩⟩
theorem jre (h : PA X es t) : PE X (.List es pos) (tLst t):=by
 intro pins s σ H Q I hq
 refine wpAny_List_spliced (thn (h pos pins s σ H _ I hq) fun us s1 ⟨xs,H1,I1,r,z,q⟩=>⟨by rw [← r.length]; exact z,?_⟩)
 have hf : H1 s1.heap.objs.size = none:=I1.hok.fresh (Nat.le_refl _)
 refine ⟨.ref s1.heap.objs.size,upd H1 s1.heap.objs.size (.lst xs),I1.laid (t':=s1.toks) (fun b u e=>Heap.get?_push_of_some _ e) (Nat.le_refl _) ?_,rfl,q _ hf⟩
 exact ⟨z,us,0,r,Heap.get?_push_size _ rfl⟩
end
noncomputable abbrev Sp:=List V → Hp → VK → XK → Prop
noncomputable abbrev CXT:=List Env → Hp → Shared → XK → Value → Shared → Prop
structure Env0 (P : Program) (w : World) (K : PySem.W.Frag) (mg : Str → Option Value) (base : Heap) (A : Around) (outer : List Env) (s : Shared) (H : Hp) : Prop where
 frames : A.frames = some outer
 mod : Mod K mg base
 bs : ∀ b o,base.get? b = some o → s.heap.get? b = some o ∧ H b = none
 bsz : base.objs.size ≤ s.heap.objs.size
 funs : s.heap.FunFrames base outer
 frf : ∀ b ∈ frs outer,H b = none
 hok : HOk P w H s.heap
 bare : AllBare s.gens
noncomputable def CE (outer : List Env) (P : Program) (w : World) (H : Hp) (s : Shared) (Q : VK) (u : Value) (s' : Shared) : Prop :=
 ∃ v H',s'.os = s.os ∧ AllBare s'.gens ∧ Un (frs outer) [] H H' s.heap s'.heap ∧ HOk P w H' s'.heap ∧ RelV v u ∧ Q v H'
noncomputable def CR (CX : CXT) (outer : List Env) (P : Program) (w : World) (H : Hp) (s : Shared) (Q : VK) (E : XK) (r : Result) (s' : Shared) : Prop :=
 match r with
 | .ok (.ret u)=>CE outer P w H s Q u s'
 | .ok _=>False
 | .error e=>CX outer H s E e s'
structure FnOk (P : Program) (w : World) (K : PySem.W.Frag) (mg : Str → Option Value) (base : Heap) (CX : CXT) (k : Nat) (f : Addr) (fd : FuncData) (ps : List Str) (sp : Sp) : Prop where
 len : ∀ vs H Q E,sp vs H Q E → vs.length = ps.length
 run : ∀ (A : Around) (outer : List Env) (s : Shared) (H : Hp) (args : Args) (us : List Value) (vs : List V) (Q : VK) (E : XK),Room k A → Env0 P w K mg base A outer s H → BindsTo s fd args (ps.zip us) → Vals vs us → sp vs H Q E →
  codeAny (model P w) A (.call (.ref f) args) (CR CX outer P w H s Q E) s
theorem FnOk.imp {P : Program} {w : World} {K : PySem.W.Frag} {mg : Str → Option Value} {base : Heap} {CX : CXT} {k : Nat} {f : Addr} {fd : FuncData} {ps : List Str} {sp sp' : Sp} (F : FnOk P w K mg base CX k f fd ps sp)
  (h : ∀ vs H Q E,sp' vs H Q E → sp vs H Q E) : FnOk P w K mg base CX k f fd ps sp' :=
 ⟨fun vs H Q E q=>F.len vs H Q E (h _ _ _ _ q),fun A outer s H args us vs Q E hr he hb hv hs=>F.run A outer s H args us vs Q E hr he hb hv (h _ _ _ _ hs)⟩
theorem Env0.make {P : Program} {w : World} {K : PySem.W.Frag} {mg : Str → Option Value} {base : Heap} {A : Around} {outer : List Env} {s : Shared} {H : Hp} (e : Env0 P w K mg base A outer s H) (C : Addr) (us : List Value) (kw : List (Str × Value)) :
  Env0 P w K mg base (A.under (.builtin "type.__call__" ⟨.ref C :: us,kw⟩)) outer s H:=⟨by first | exact e.frames | (simpa [Around.under,Code.envs,Code.isFrame,pushEnvs] using e.frames),e.mod,e.bs,e.bsz,e.funs,e.frf,e.hok,e.bare⟩
section
variable {X : Cx} {pins : List (Addr × Obj)} {σ : St} {H : Hp} {s s' : Shared}
theorem Inv.env0 (I : Inv X pins σ H s) : Env0 X.prog X.w X.K X.mg X.base X.A X.stack s H :=
 ⟨I.ok.frames,I.ok.mod,I.bs,Nat.le_trans I.ok.bsz I.sz,I.stack,I.stkFree,I.hok,I.bare⟩
theorem Inv.after {Q : VK} {u : Value} (I : Inv X pins σ H s) (h : CE X.stack X.prog X.w H s Q u s') : EP X pins σ Q u s':=by
 obtain ⟨v,H',os,bare,un,hok,r,q⟩:=h
 obtain ⟨hh,g,d,t,os'⟩:=s'
 obtain rfl : os' = s.os:=os
 exact ⟨v,H',I.call (h':=hh) (g':=g) (d':=d) (t':=t) (ch:=[]) un hok bare (fun b z=>absurd z (by simp)),r,q⟩
end
noncomputable def jw1 (sp : Sp) (dvs : List V) (E : XK) (t : TA) : TE:=fun σ H Q=>t σ H fun vs H1=>sp (vs ++ dvs) H1 Q E
noncomputable def jqn (C : Addr) (m : Str) (sp : Sp) (dvs : List V) (E : XK) (ta : TE) (t : TA) : TE:=fun σ H Q=>ta σ H fun x H1=>∃ a dx fs,x = .ref a ∧ H1 a = some (.ins C dx fs) ∧ fs.lookup m = none ∧
 t σ H1 fun vs H2=>sp (x :: (vs ++ dvs)) H2 Q E
noncomputable def jyz (C : Addr) (sp : Sp) (dvs : List V) (E : XK) (t : TA) : TE:=fun σ H Q=>t σ H fun vs H1=>∀ x dx,H1 x = none → H1 dx = none → dx ≠ x →
 sp (.ref x :: (vs ++ dvs)) (upd (upd H1 dx (.own x)) x (.ins C dx [])) (fun v H2=>v = .non ∧ Q (.ref x) H2) E
noncomputable def Binds (K : PySem.W.Frag) (fd : FuncData) (ps : List Str) (ds : List Value) : Prop :=
 ∀ (s : Shared) (us : List Value),K.In s.heap → (us ++ ds).length = ps.length → BindsTo s fd ⟨us,[]⟩ (ps.zip (us ++ ds))
theorem Binds.all {K : PySem.W.Frag} {fd : FuncData} {ps : List Str} (h : ∀ us : List Value,us.length = ps.length → bindArgs fd ⟨us,[]⟩ = pure (ps.zip us)) : Binds K fd ps []:=fun s us _ hl=>by
 rw [List.append_nil] at hl ⊢
 exact .of_eq (h us hl)
noncomputable def jgh (CX : CXT) (X : Cx) (E : XK) : Prop:=∀ (pins : List (Addr × Obj)) (σ : St) (H : Hp) (s : Shared) (e : Value) (s' : Shared),Inv X pins σ H s → CX X.stack H s E e s' → X.xe e s'
section
variable {X : Cx} {CX : CXT} {k : Nat} {f C : Addr} {fd : FuncData} {ps : List Str} {sp : Sp} {dvs : List V} {ds : List Value} {E : XK} {x m : Str} {p pos apos : Pos} {e o : Expr} {es : List Expr} {ta : TE} {t : TA}
theorem jrj {pins : List (Addr × Obj)} {σ : St} {H : Hp} {s : Shared} {Q : VK} {us : List Value} {vs : List V} (F : FnOk X.prog X.w X.K X.mg X.base CX k f fd ps sp) (hr : Room k X.A) (hb : Binds X.K fd ps ds) (hd : Vals dvs ds) (hx : jgh CX X E)
  (I : Inv X pins σ H s) (r : Vals vs us) (h : sp (vs ++ dvs) H Q E) : wpAny (model X.prog X.w) X.A (call (.ref f) us) (EP X pins σ Q) X.xe s:=by
 have r2 : Vals (vs ++ dvs) (us ++ ds):=r.append hd
 have hl : (us ++ ds).length = ps.length:=by rw [← r2.length]; exact F.len _ _ _ _ h
 refine wpAny_call (codeAny_mono (F.run X.A X.stack s H ⟨us,[]⟩ (us ++ ds) (vs ++ dvs) Q E hr I.env0 (hb s us I.kIn hl) r2 h) fun r s' hq=>?_)
 cases r with
 | error e=>exact hx pins σ H s e s' I hq
 | ok fl =>
  cases fl with
  | ret u=>exact I.after hq
  | next=>exact False.elim hq
  | brk=>exact False.elim hq
  | cont=>exact False.elim hq
theorem jii (F : FnOk X.prog X.w X.K X.mg X.base CX k f fd ps sp) (hr : Room k X.A) (hg : Gl X x) (hm : X.mg x = some (.ref f)) (hk : PySem.W.keepIn X.K (.ref f) = true) (hb : Binds X.K fd ps ds) (hd : Vals dvs ds) (hx : jgh CX X E)
  (ha : PA X (e :: es) t) (hdb : autoParam ((x == ("__debug__" : Str)) = false) zau1._auto_1) (he : autoParam (starEach (e :: es) X.env = (false,eval e X.env) :: starEach es X.env) zau2._auto_1) (hpl : autoParam ((backTo pos (starEach es X.env)).any (·.1) = false) zau2._auto_1) :
  PE X (.Call (.Name x p) (e :: es) [] pos) (jw1 sp dvs E t):=by
 intro pins s σ H Q I h
 refine wpAny_Call_Name_kw (jgw I hg hm ?_ hdb)
 refine PySem.W.callWith_K (h₀:=X.base) I.ok.mod.kin hk (thn (ha pos pins s σ H _ I h) fun us s1 ⟨vs,H1,I1,r,q⟩=>⟨I1.kIn,?_⟩) he hpl
 exact jrj F hr hb hd hx I1 r q
theorem jqa {pl : Sem Bool} (he : PE X o ta) (c : Cls X.K C) (hm : Meth X.K C m f) (F : FnOk X.prog X.w X.K X.mg X.base CX k f fd ps sp) (hr : Room k X.A) (hb : Binds X.K fd ps ds) (hd : Vals dvs ds) (hx : jgh CX X E)
  (ht : eval (.Call (.Attribute o m apos) [] [] pos) X.env = (do
   let ov ← eval o X.env
   standAt apos.atName
   let (f,first) ← holding [ov] (getMethod ov m pl)
   callWith pos f first (backTo pos (starEach [] X.env)) (backToKw pos (keywordEach [] X.env))):=by rfl) :
  PE X (.Call (.Attribute o m apos) [] [] pos) (jqn C m sp dvs E ta tNil):=by
 intro pins s σ H Q I h
 refine PySem.W.methodCall_KW (pl:=pl) (thn (he pins s σ H _ I h) fun u s1 hzz=>?_) ht
 obtain ⟨x,H1,I1,rx,a,dx,fs,ex,ea,l,q⟩:=hzz
 subst ex
 obtain rfl : u = Value.ref a:=rx
 refine jhn I1 ea c hm l ?_
 exact PySem.W.callWith_K0 (first:=[.ref a]) I1.kIn hm.kp (jrj (us:=[.ref a]) (vs:=[.ref a]) F hr hb hd hx I1 (.cons rfl .nil) q)
structure Mk (K : PySem.W.Frag) (C f : Addr) : Prop where
 makes : PySem.W.makesIn K C = true
 init : PySem.W.findIn K (.ref C) "__init__" = some (some (.ref f))
 fn : PySem.W.isFn K (.ref f) = true
 kp : PySem.W.keepIn K (.ref C) = true
theorem jqi {pins : List (Addr × Obj)} {σ : St} {H : Hp} {s : Shared} {Q : VK} {us : List Value} {vs : List V} (M : Mk X.K C f) (F : FnOk X.prog X.w X.K X.mg X.base CX k f fd ps sp) (hr : Room (k + 1) X.A) (hb : Binds X.K fd ps ds) (hd : Vals dvs ds)
  (hx : jgh CX X E) (I : Inv X pins σ H s) (r : Vals vs us)
  (h : ∀ x dx,H x = none → H dx = none → dx ≠ x → sp (.ref x :: (vs ++ dvs)) (upd (upd H dx (.own x)) x (.ins C dx [])) (fun v H2=>v = .non ∧ Q (.ref x) H2) E) :
  wpAny (model X.prog X.w) X.A (call (.ref C) us) (EP X pins σ Q) X.xe s:=by
 have hq:=h (s.heap.objs.size + 1) s.heap.objs.size (I.hok.fresh (Nat.le_succ _)) (I.hok.fresh (Nat.le_refl _)) (Nat.ne_of_lt (Nat.lt_succ_self _))
 have I2:=Inv.made (C:=C) I
 have r2 : Vals (V.ref (s.heap.objs.size + 1) :: (vs ++ dvs)) (Value.ref (s.heap.objs.size + 1) :: (us ++ ds)):=.cons rfl (r.append hd)
 have hl : (Value.ref (s.heap.objs.size + 1) :: us ++ ds).length = ps.length:=by
  have e:=r2.length
  rw [F.len _ _ _ _ hq] at e
  exact e.symm
 refine wpAny_call (jpy (f:=f) I.kIn M.makes M.init (beq_iff_eq.mp M.fn) (codeAny_mono (F.run _ X.stack _ _ ⟨Value.ref (s.heap.objs.size + 1) :: us,[]⟩ (Value.ref (s.heap.objs.size + 1) :: (us ++ ds)) _ _ E (hr.make C us [])
  (I2.env0.make C us []) (hb _ (Value.ref (s.heap.objs.size + 1) :: us) I2.kIn hl) r2 hq) fun r s' hq'=>?_))
 cases r with
 | error e=>exact hx pins σ _ _ e s' I2 hq'
 | ok fl =>
  cases fl with
  | ret u =>
   obtain ⟨v,H',I3,rv,ev,q3⟩:=I2.after hq'
   subst ev
   exact ⟨rv,⟨V.ref (s.heap.objs.size + 1),H',I3,rfl,q3⟩⟩
  | next=>exact False.elim hq'
  | brk=>exact False.elim hq'
  | cont=>exact False.elim hq'
theorem jth (M : Mk X.K C f) (F : FnOk X.prog X.w X.K X.mg X.base CX k f fd ps sp) (hr : Room (k + 1) X.A) (hg : Gl X x) (hm : X.mg x = some (.ref C)) (hb : Binds X.K fd ps ds) (hd : Vals dvs ds) (hx : jgh CX X E)
  (ha : PA X (e :: es) t) (hdb : autoParam ((x == ("__debug__" : Str)) = false) zau1._auto_1) (he : autoParam (starEach (e :: es) X.env = (false,eval e X.env) :: starEach es X.env) zau2._auto_1) (hpl : autoParam ((backTo pos (starEach es X.env)).any (·.1) = false) zau2._auto_1) :
  PE X (.Call (.Name x p) (e :: es) [] pos) (jyz C sp dvs E t):=by
 intro pins s σ H Q I h
 refine wpAny_Call_Name_kw (jgw I hg hm ?_ hdb)
 refine PySem.W.callWith_K (h₀:=X.base) I.ok.mod.kin M.kp (thn (ha pos pins s σ H _ I h) fun us s1 ⟨vs,H1,I1,r,q⟩=>⟨I1.kIn,?_⟩) he hpl
 exact jqi M F hr hb hd hx I1 r q
end
section
variable {X : Cx} {CX : CXT} {k : Nat} {f C : Addr} {fd : FuncData} {ps ks : List Str} {sp : Sp} {E : XK} {x m : Str} {p pos apos kpos : Pos} {e o : Expr} {es : List Expr} {kws : List Keyword} {te ta : TE} {t tk : TA} {nm : Option Str}
structure KBinds (K : PySem.W.Frag) (fd : FuncData) (ps ks : List Str) (g : List Value → List Value → List Value) (gV : List V → List V → List V) : Prop where
 to : ∀ (s : Shared) (us ws : List Value),K.In s.heap → (g us ws).length = ps.length → BindsTo s fd ⟨us,ks.zip ws⟩ (ps.zip (g us ws))
 rel : ∀ {vs : List V} {us : List Value} {zs : List V} {ws : List Value},Vals vs us → Vals zs ws → Vals (gV vs zs) (g us ws)
variable {g : List Value → List Value → List Value} {gV : List V → List V → List V}
end
structure FnScope (N P : List Str) (sc : Scope) : Prop where
 kind : sc.kind = .function
 co : sc.isCoroutine = false
 gen : sc.isGenerator = false
 nd : N.Nodup
 pre : N.take P.length = P
 par : ∀ x ∈ P,sc.names.lookup x = some .local ∨ sc.names.lookup x = some .cell
 nofree : ∀ y ∈ sc.names,y.2 ≠ .free
theorem jit {kindOf : Str → Option NameKind} {x : Str} : ∀ {binds : List (Str × Value)} {m : Str → Option Value},(∀ v,(x,v) ∉ binds) → bindL kindOf binds m x = m x
 | [],_,_=>rfl
 | (n,v) :: r,m,h=>by
  unfold bindL
  rw [jit fun w hw=>h w (List.mem_cons_of_mem _ hw)]
  split
  ·have : x ≠ n:=by rintro rfl; exact h v List.mem_cons_self
   simp [this]
  ·rfl
theorem jir {kindOf : Str → Option NameKind} {x : Str} : ∀ {binds : List (Str × Value)} {m : Str → Option Value},(∀ v,(x,v) ∉ binds) → bindC kindOf binds m x = m x
 | [],_,_=>rfl
 | (n,v) :: r,m,h=>by
  unfold bindC
  rw [jir fun w hw=>h w (List.mem_cons_of_mem _ hw)]
  split
  ·rfl
  ·have : x ≠ n:=by rintro rfl; exact h v List.mem_cons_self
   simp [this]
theorem jis {kindOf : Str → Option NameKind} {x : Str} {v : Value} : ∀ {P : List Str} {vs : List Value} {i : Nat} {m : Str → Option Value},P.Nodup → P[i]? = some x → vs[i]? = some v → kindOf x = some .local →
  bindL kindOf (P.zip vs) m x = some v
 | [],_,_,_,_,h,_,_=>by simp at h
 | _ :: _,[],_,_,_,_,h,_=>by simp at h
 | p :: P,w :: vs,0,m,nd,h1,h2,hk=>by
  simp at h1 h2; subst h1; subst h2
  show bindL kindOf ((p,w) :: P.zip vs) m p = _
  unfold bindL
  rw [jit fun v hv=>(List.nodup_cons.mp nd).1 (List.of_mem_zip hv).1,if_pos hk]
  simp
 | p :: P,w :: vs,i + 1,m,nd,h1,h2,hk=>by
  show bindL kindOf ((p,w) :: P.zip vs) m x = _
  unfold bindL
  exact jis (i:=i) (List.nodup_cons.mp nd).2 (by simpa using h1) (by simpa using h2) hk
theorem jiq {kindOf : Str → Option NameKind} {x : Str} {v : Value} : ∀ {P : List Str} {vs : List Value} {i : Nat} {m : Str → Option Value},P.Nodup → P[i]? = some x → vs[i]? = some v → kindOf x ≠ some .local →
  bindC kindOf (P.zip vs) m x = some v
 | [],_,_,_,_,h,_,_=>by simp at h
 | _ :: _,[],_,_,_,_,h,_=>by simp at h
 | p :: P,w :: vs,0,m,nd,h1,h2,hk=>by
  simp at h1 h2; subst h1; subst h2
  show bindC kindOf ((p,w) :: P.zip vs) m p = _
  unfold bindC
  rw [jir fun v hv=>(List.nodup_cons.mp nd).1 (List.of_mem_zip hv).1,if_neg hk]
  simp
 | p :: P,w :: vs,i + 1,m,nd,h1,h2,hk=>by
  show bindC kindOf ((p,w) :: P.zip vs) m x = _
  unfold bindC
  exact jiq (i:=i) (List.nodup_cons.mp nd).2 (by simpa using h1) (by simpa using h2) hk
noncomputable def start (N : List Str) (vs : List V) : St:=vs.map some ++ List.replicate (N.length - vs.length) none
noncomputable def cxOf (CX : CXT) (P : Program) (w : World) (K : PySem.W.Frag) (mg : Str → Option Value) (base : Heap) (N : List Str) (qual : Str) (scope : Scope) (f : Addr) (cd : Value) (A : Around) (outer : List Env) (s : Shared) (H : Hp) (E : XK) : Cx where
 prog:=P
 w:=w
 K:=K
 mg:=mg
 base:=base
 A:=A.deeper (envOfC qual scope s.heap.objs.size f cd)
 N:=N
 s₀:=s
 H₀:=H
 env:=envOfC qual scope s.heap.objs.size f cd
 outer:=outer
 stack:=envOfC qual scope s.heap.objs.size f cd :: outer
 ex:=[]
 calm:=true
 fn:=fun _=>true
 pn:=[]
 xe:=fun e s'=>wpAny (model P w) (A.deeper (envOfC qual scope s.heap.objs.size f cd)) (leaving (envOfC qual scope s.heap.objs.size f cd) e) (fun _ s''=>CX outer H s E e s'') (fun e' s''=>CX outer H s E e' s'') s'
theorem jk5 {sc : Scope} {n : Nat} {x : Str} (h : sc.names.lookup x = some .cell) : ∃ c,(cellsFrom n sc.names []).lookup x = some c:=by
 have q:=PySem.W.cellsFrom_some sc.names n [] (.inl h)
 exact Option.isSome_iff_exists.mp q
theorem jnj {CX : CXT} {P : Program} {w : World} {K : PySem.W.Frag} {mg : Str → Option Value} {base : Heap} {N ps : List Str} {qual : Str} {scope : Scope} {f : Addr} {cd : Value} {A : Around} {outer : List Env} {s s1 : Shared} {H : Hp} {E : XK} {us : List Value} {vs : List V}
  (S : FnScope N ps scope) (hd : A.handled = none) (e0 : Env0 P w K mg base A outer s H) (hl : vs.length = ps.length) (r : Vals vs us)
  (x : InCallC s s.heap.objs.size (bindL (envOfC qual scope s.heap.objs.size f cd).kindOf (ps.zip us) fun _=>none) (cellsFrom (s.heap.objs.size + 1) scope.names []) (bindC (envOfC qual scope s.heap.objs.size f cd).kindOf (ps.zip us) fun _=>none) s1) :
  Inv (cxOf CX P w K mg base N qual scope f cd A outer s H E) [] (start N vs) H s1:=by
 have hpl : ps.length ≤ N.length:=by have:=congrArg List.length S.pre; rw [List.length_take] at this; omega
 obtain ⟨h1,tk,rfl,hk⟩:=x.done
 have noA : ∀ b : Addr,b ∉ (cxOf CX P w K mg base N qual scope f cd A outer s H E).ex:=fun b z=>absurd (show b ∈ ([] : List Addr) from z) (by simp)
 refine ⟨⟨e0.mod,S.kind,rfl,rfl,Nat.le_refl _,fun y z c h1 h2=>?_,fun y hy=>?_,fun y c _ h=>?_,fun _=>hd,Around.frames_deeper e0.frames,.inr ⟨rfl,rfl⟩,fun b z=>absurd z (noA b),e0.bs,e0.bsz,fun b _ _=>noA b,fun b z=>absurd z (noA b),e0.funs,e0.frf⟩,
  rfl,e0.bare,Un.kept hk,⟨_,x.toInCall.ns,fun i y v h1 h2 h3=>?_⟩,fun y c h=>⟨_,x.cell y c h⟩,e0.hok.fresh (Nat.le_refl _),fun y c h=>?_,fun p hp=>absurd (show p ∈ ([] : List (Addr × Obj)) from hp) (by simp),e0.hok.kept hk,?_⟩
 ·exact name_of_addr x.apart (PySem.mem_of_lookup h1) (PySem.mem_of_lookup h2)
 ·have hy : scope.names.lookup y = some .cell ∨ scope.names.lookup y = some .free:=hy
  rcases hy with hy | hy
  ·exact jk5 hy
  ·exact absurd rfl (S.nofree _ (PySem.mem_of_lookup hy))
 ·exact Nat.le_of_lt (x.above y c (PySem.mem_of_lookup h))
 ·have hi : i < vs.length:=by
   unfold start at h2
   by_cases hi : i < vs.length
   ·exact hi
   ·rw [List.getElem?_append_right (by simpa using hi)] at h2
    rw [List.getElem?_replicate] at h2
    split at h2 <;> cases h2
  have ha : vs[i]? = some v:=by
   unfold start at h2
   rw [List.getElem?_append_left (by simpa using hi),List.getElem?_map] at h2
   cases e : vs[i]? with
   | none=>rw [e] at h2; cases h2
   | some a=>rw [e] at h2; cases h2; rfl
  obtain ⟨u,hu,rv⟩:=r.get ha
  have hp : ps[i]? = some y:=by
   rw [← S.pre,List.getElem?_take_of_lt (by omega)]; exact h1
  have ndP : ps.Nodup:=by rw [← S.pre]; exact S.nd.sublist (List.take_sublist _ _)
  refine ⟨u,rv,?_⟩
  rcases S.par y (List.mem_of_getElem? hp) with k | k
  ·exact .inl ⟨k,jis ndP hp hu k⟩
  ·obtain ⟨c,e⟩:=jk5 (n:=s.heap.objs.size + 1) k
   refine .inr ⟨.inl k,c,e,?_⟩
   have q:=x.cell y c e
   rw [jiq ndP hp hu (by show scope.names.lookup y ≠ _; rw [k]; decide)] at q
   exact q
 ·exact e0.hok.fresh (Nat.le_of_lt (x.above y c (PySem.mem_of_lookup h)))
 ·unfold start
  show _ = N.length
  rw [List.length_append,List.length_map,List.length_replicate]
  omega
theorem ju9 {CX : CXT} {P : Program} {w : World} {K : PySem.W.Frag} {mg : Str → Option Value} {base : Heap} {k : Nat} {f : Addr} {name qual : Str} {params : Arguments} {body : List Stmt} {scope : Scope} {dV kV doc pm cdv ct oc : Value} {an od : Option Addr}
  {osl : Array (Option Value)} {N ps : List Str} {sp : Sp} (lk : K.lookup f = some ⟨oc,od,.func (PySem.W.fnOf name qual params body scope dV kV doc pm an cdv ct),osl⟩) (hcd : PySem.W.codeIn K cdv qual = true) (S : FnScope N ps scope)
  (len : ∀ vs H Q E,sp vs H Q E → vs.length = ps.length)
  (hbody : ∀ (A : Around) (outer : List Env) (s : Shared) (H : Hp) (vs : List V) (Q : VK) (E : XK),Room k (A.deeper (envOfC qual scope s.heap.objs.size f cdv)) → sp vs H Q E →
   ∃ t,PSs (cxOf CX P w K mg base N qual scope f cdv A outer s H E) body t ∧ t { nx:=fun _ H'=>Q .non H',rt:=Q } (start N vs) H) :
  FnOk P w K mg base CX (k + 1) f (PySem.W.fnOf name qual params body scope dV kV doc pm an cdv ct) ps sp:=by
 refine ⟨len,fun A outer s H args us vs Q E hr e0 hb r hsp=>?_⟩
 have hl:=len _ _ _ _ hsp
 have KX : K.In s.heap:=e0.mod.kin.keeps fun b o e=>(e0.bs b o e).1
 have lim : s.heap.NoLimit:=e0.mod.nolimit.keeps fun b o e=>(e0.bs b o e).1
 have hkind : ∀ y ∈ ps.zip us,scope.names.lookup y.1 = some .local ∨ (scope.names.lookup y.1 = some .cell ∧ ((cellsFrom (s.heap.objs.size + 1) scope.names []).lookup y.1).isSome = true):=fun ⟨n,v⟩ hy=>by
  rcases S.par n (List.of_mem_zip hy).1 with q | q
  ·exact .inl q
  ·exact .inr ⟨q,PySem.W.cellsFrom_some _ _ _ (.inl q)⟩
 refine codeAny_call_function hr.depth (KX _ _ lk) rfl S.co S.gen rfl (PySem.W.codeRec_of KX hcd) (hb _ _ _ _ ?_)
 refine wpAny_newFunctionEnv_cells S.kind hkind fun env he s1 x=>?_
 subst he
 refine ⟨lim.keeps x.toInCall.keep,codeAny_func ?_⟩
 obtain ⟨t,ht,hq⟩:=hbody A outer s H vs Q E (hr.deeper _) hsp
 have I : Inv (cxOf CX P w K mg base N qual scope f cdv A outer s H E) [] (start N vs) H s1:=jnj S hr.hd e0 hl r x
 refine wpAny_mono (ht [] s1 (start N vs) H _ I hq) (fun fl s' hs=>?_) fun e s' hs=>hs
 have fin : ∀ {σ' : St} {H' : Hp} {v : V} {u : Value},Inv (cxOf CX P w K mg base N qual scope f cdv A outer s H E) [] σ' H' s' → RelV v u → Q v H' → CE outer P w H s Q u s' :=
  fun {σ' H' v u} J rv q=>⟨v,H',J.os,J.bare,J.base,J.hok,rv,q⟩
 cases fl with
 | ret u =>
  obtain ⟨v,σ',H',J,rv,q⟩:=hs
  exact fin J rv q
 | next =>
  obtain ⟨σ',H',J,q⟩:=hs
  exact fin (v:=V.non) (u:=Value.none) J rfl q
 | brk =>
  obtain ⟨_,_,_,q⟩:=hs
  exact False.elim q
 | cont =>
  obtain ⟨_,_,_,q⟩:=hs
  exact False.elim q
end L2
namespace L2
open PySem PySem.Spec PyProof.Rows
section
variable {X : Cx} {x : Str} {p pos : Pos} {e : Expr} {es : List Expr} {t : TA} {id T : String} {r : List V → Hp → VK → Prop}
noncomputable def tCB (r : List V → Hp → VK → Prop) (t : TA) : TE:=fun σ H Q=>t σ H fun vs H1=>r vs H1 Q
theorem jlr (hc : CallR X (.builtin id) r) (hg : Gl X x) (hm : X.mg x = none) (hv : bootBuiltins x = some (.builtin id)) (ha : PA X (e :: es) t) (hn : autoParam (x ≠ "__name__") zau1._auto_1) (hdb : autoParam ((x == ("__debug__" : Str)) = false) zau1._auto_1)
  (he : autoParam (starEach (e :: es) X.env = (false,eval e X.env) :: starEach es X.env) zau2._auto_1) (hpl : autoParam ((backTo pos (starEach es X.env)).any (·.1) = false) zau2._auto_1) : PE X (.Call (.Name x p) (e :: es) [] pos) (tCB r t):=by
 intro pins s σ H Q I h
 refine wpAny_Call_Name_kw (jhq I hg hm hv ?_ hn hdb)
 exact PyProof.Rows.callWith_builtin1 (thn (ha pos pins s σ H _ I h) fun us s1 ⟨vs,H1,I1,r1,q1⟩=>hc pins s1 σ H1 vs us Q I1 r1 q1) he hpl
theorem jg2 (hc : CallR X (.type T) r) (hg : Gl X x) (hm : X.mg x = none) (hv : bootBuiltins x = some (.type T)) (ha : PA X (e :: es) t) (hn : autoParam (x ≠ "__name__") zau1._auto_1) (hdb : autoParam ((x == ("__debug__" : Str)) = false) zau1._auto_1)
  (he : autoParam (starEach (e :: es) X.env = (false,eval e X.env) :: starEach es X.env) zau2._auto_1) (hpl : autoParam ((backTo pos (starEach es X.env)).any (·.1) = false) zau2._auto_1) : PE X (.Call (.Name x p) (e :: es) [] pos) (tCB r t):=by
 intro pins s σ H Q I h
 refine wpAny_Call_Name_kw (jhq I hg hm hv ?_ hn hdb)
 exact PyProof.Rows.callWith_type1 (thn (ha pos pins s σ H _ I h) fun us s1 ⟨vs,H1,I1,r1,q1⟩=>hc pins s1 σ H1 vs us Q I1 r1 q1) he hpl
end
end L2
namespace HT
open PySem PyProof.Rows
section
open PySem.SeqAt
open PySem.AutoSeq1 (wpAny_loadPart')
open PySem.MeetsSeq PySem.MeetsSeq2 PySem.MeetsSeq3
end
section
variable {prog : Program} {w : World} {A : Around} {E : Value → Shared → Prop} {s : Shared}
theorem cat_tup {t b : Addr} {vs ws : List Value} {Q : Value → Shared → Prop} (ht : IsTup s.heap t vs.toArray) (hb : IsTup s.heap b ws.toArray) (hv : vs ≠ [])
  (h1 : ws = [] → Q (.ref t) s) (h2 : ws ≠ [] → Q (.ref s.heap.objs.size) { s with heap:=s.heap.push { cls:=.type "tuple",data:=.seq (vs ++ ws).toArray } })
  (hsz : vs.length + ws.length ≤ sizeLine) : wpAny (model prog w) A (binaryOp .Add (.ref t) (.ref b)) Q E s:=by
 obtain ⟨⟨cls,dd,data,sl⟩,ho,hc,n,hd⟩:=id ht
 obtain ⟨⟨cls2,dd2,data2,sl2⟩,ho2,hc2,n2,hd2⟩:=id hb
 simp only at hc hd hc2 hd2
 subst hc hd hc2 hd2
 have e : vs.toArray ++ ws.toArray = (vs ++ ws).toArray:=by simp
 by_cases hw : ws = []
 ·exact concat_meets ⟨_,ho,rfl⟩ ⟨_,ho2,rfl⟩ noFill_tuple_add seq_tuple_add PySem.F.slot_tuple_add PySem.F.entry_tuple_add (PySem.F.args_tuple_add_2 _ _)
   (tuple_addW1 t b vs.toArray ws.toArray n n2 dd dd2 sl sl2 (by simpa using hv) (by simp [hw])) ⟨ho,ho2,h1 hw⟩
 ·refine concat_meets ⟨_,ho,rfl⟩ ⟨_,ho2,rfl⟩ noFill_tuple_add seq_tuple_add PySem.F.slot_tuple_add PySem.F.entry_tuple_add (PySem.F.args_tuple_add_2 _ _)
   (tuple_addW2 t b vs.toArray ws.toArray n n2 dd dd2 sl sl2 (by simpa using hv) (by simpa using hw) (by rw [List.size_toArray,List.size_toArray]; exact hsz)) ⟨ho,ho2,?_⟩
  rw [e]
  exact h2 hw
noncomputable def sIx (n d : Nat) : Option Int → Nat
 | none=>d
 | some v=>if v < 0 then (v + (n : Int)).toNat else min v.toNat n
theorem jwy (n d : Nat) (hd : d ≤ n) (o : Option Int) : sIx n d o ≤ n:=by
 cases o with
 | none=>exact hd
 | some v =>
  show (if v < 0 then (v + (n : Int)).toNat else min v.toNat n) ≤ n
  by_cases hv : v < 0
  ·rw [if_pos hv]; omega
  ·rw [if_neg hv]; exact Nat.min_le_right _ _
theorem jm2 (v : Int) (n d : Nat) : (if v < 0 then max (v + (n : Int)) 0 else min v (n : Int)) = ((sIx n d (some v) : Nat) : Int):=by
 show (if v < 0 then max (v + (n : Int)) 0 else min v (n : Int)) = (((if v < 0 then (v + (n : Int)).toNat else min v.toNat n) : Nat) : Int)
 by_cases hv : v < 0
 ·simp only [if_pos hv]; omega
 ·simp only [if_neg hv]; omega
theorem jl7 (lo hi : Option Int) (n : Nat) : Builtin.Slice.sliceAdjust lo hi 1 (n : Int) = (((sIx n 0 lo : Nat) : Int),((sIx n n hi : Nat) : Int)):=by
 have h1 : ¬ ((1 : Int) < 0):=by omega
 unfold Builtin.Slice.sliceAdjust
 simp only [h1,if_false]
 refine Prod.ext ?_ ?_
 ·cases lo with
  | none=>rfl
  | some v=>exact jm2 v n 0
 ·cases hi with
  | none=>rfl
  | some v=>exact jm2 v n n
theorem jmm (i j : Nat) : Builtin.Slice.slicePlaces (i : Int) (j : Int) 1 = j - i:=by
 unfold Builtin.Slice.slicePlaces
 have h1 : (1 : Int) > 0:=by omega
 simp only [h1,if_true,Int.ediv_one]
 split <;> omega
theorem jht {v : Value} {o : Option Int} {Q : Option Int → Shared → Prop} (p : IsPart v o) (h : Q o s) : wpAny (model prog w) A (Builtin.Slice.slicePartIndex v) Q E s:=by
 cases p with
 | none=>exact slicePart_none h
 | int i t=>exact slicePart_int h
theorem jgf {sl : Addr} {vl vu : Value} {lo hi : Option Int} {n : Nat} {Q : Int × Int × Nat → Shared → Prop} (hs : s.heap.IsSliceOf sl vl vu .none) (pl : IsPart vl lo) (pu : IsPart vu hi)
  (h : Q (((sIx n 0 lo : Nat) : Int),1,sIx n n hi - sIx n 0 lo) s) : wpAny (model prog w) A (Builtin.Slice.sliceApplied (.ref sl) (pure (n : Int))) Q E s:=by
 obtain ⟨os,hos,hcs,hds⟩:=id hs
 unfold Builtin.Slice.sliceApplied Builtin.Slice.sliceFields
 refine wpAny_bind (wpAny_bind (wpAny_field hos hds (x:=vl) rfl (wpAny_bind (wpAny_field hos hds (x:=vu) rfl (wpAny_bind (wpAny_field hos hds (x:=.none) rfl (wpAny_pure ?_)))))))
 refine wpAny_bind (slicePart_none ?_)
 show wpAny _ _ (if ((1 : Int) == 0) = true then _ else _) _ _ s
 rw [if_neg (by decide)]
 refine wpAny_bind (jht pl (wpAny_bind (jht pu (wpAny_bind (wpAny_pure ?_)))))
 show wpAny _ _ (match Builtin.Slice.sliceAdjust lo hi 1 (n : Int) with | (lo,hi)=>pure (lo,(1 : Int),Builtin.Slice.slicePlaces lo hi 1)) _ _ s
 rw [jl7 lo hi n]
 show wpAny _ _ (pure (((sIx n 0 lo : Nat) : Int),(1 : Int),Builtin.Slice.slicePlaces ((sIx n 0 lo : Nat) : Int) ((sIx n n hi : Nat) : Int) 1)) _ _ s
 rw [jmm]
 exact wpAny_pure h
theorem jqe (xs : Array Value) (i k : Nat) : ((List.range k).filterMap fun (m : Nat)=>xs[((i : Int) + (m : Int) * 1).toNat]?).toArray = ((xs.toList.drop i).take k).toArray:=by
 have e : (fun (m : Nat)=>xs[((i : Int) + (m : Int) * 1).toNat]?) = fun m=>xs[i + m]?:=by
  funext m
  have : ((i : Int) + (m : Int) * 1).toNat = i + m:=by omega
  rw [this]
 rw [e]
 have:=pick_run xs i k
 rw [List.filterMap_map] at this
 have e2 : ((fun x=>xs[x]?) ∘ fun x=>i + x) = fun m=>xs[i + m]?:=rfl
 rw [e2] at this
 rw [this]
theorem getItem_tuple_cut {t sl : Addr} {items : Array Value} {vl vu : Value} {lo hi : Option Int} {Q : Value → Shared → Prop} (ht : IsTup s.heap t items) (hs : s.heap.IsSliceOf sl vl vu .none) (pl : IsPart vl lo) (pu : IsPart vu hi)
  (hw : ¬ (sIx items.size 0 lo = 0 ∧ sIx items.size items.size hi = items.size))
  (h : Q (.ref s.heap.objs.size) { s with heap:=s.heap.push { cls:=.type "tuple",data:=.seq ((items.toList.drop (sIx items.size 0 lo)).take (sIx items.size items.size hi - sIx items.size 0 lo)).toArray } })
  (hsz : items.size ≤ sizeLine) : wpAny (model prog w) A (getItem (.ref t) (.ref sl)) Q E s:=by
 have htake : sizeOk (.seq ((items.toList.drop (sIx items.size 0 lo)).take (sIx items.size items.size hi - sIx items.size 0 lo)).toArray):=by
  show ((items.toList.drop (sIx items.size 0 lo)).take (sIx items.size items.size hi - sIx items.size 0 lo)).toArray.size ≤ sizeLine
  rw [List.size_toArray,List.length_take,List.length_drop,Array.length_toList]
  omega
 have hj : sIx items.size items.size hi ≤ items.size:=jwy _ _ (Nat.le_refl _) hi
 obtain ⟨os,hos,hcs,hds⟩:=id hs
 have hTs : s.TypeIs (.ref sl) "slice":=⟨os,hos,hcs⟩
 unfold getItem
 try with_reducible refine wpAny_holding ?_
 first | refine wpAny_bind (wpAny_pure ?_) | skip
 refine wpAny_bind (wpAny_sequenceKey ht.typeIs (by decide) ?_)
 refine wpAny_bind (wpAny_callSpecial?_slot (name:=Str.ofString "__getitem__") ht.typeIs PyProof.Rows.slot_tuple_getitem
  (wpAny_call_entry PyProof.Rows.slot_tuple_getitem ht.typeIs entry_tuple_getitem ?_ (args_tuple_getitem _ _)))
 show wpAny _ _ (Builtin.Tuple.tupleItemsOf (.ref t) >>= _) _ _ s
 refine wpAny_bind (tupleItemsOf_ ht ?_)
 refine wpAny_bind (wpAny_typeOf hTs ?_)
 rw [if_pos (by decide)]
 refine wpAny_bind (jgf hs pl pu ?_)
 have hno : ¬ ((((sIx items.size 0 lo : Nat) : Int) == 0 && (1 : Int) == 1 && (sIx items.size items.size hi - sIx items.size 0 lo) == items.size) = true):=by
  intro q
  rw [Bool.and_eq_true,Bool.and_eq_true] at q
  have q1 : ((sIx items.size 0 lo : Nat) : Int) = 0:=eq_of_beq q.1.1
  have q2 : sIx items.size items.size hi - sIx items.size 0 lo = items.size:=eq_of_beq q.2
  exact hw ⟨by omega,by omega⟩
 show wpAny _ _ (if (((sIx items.size 0 lo : Nat) : Int) == 0 && (1 : Int) == 1 && (sIx items.size items.size hi - sIx items.size 0 lo) == items.size) = true then _ else _) _ _ s
 rw [if_neg hno,jqe]
 first
  | exact wpAny_bind (m:=Builtin.Tuple.tupleExact _) (wpAny_newObj_type (wpAny_pure ⟨_,rfl,wpAny_pure h⟩) htake)
  | exact wpAny_bind (m:=Builtin.Tuple.tupleExact _) (wpAny_newObj_type (wpAny_bind (wpAny_pure (wpAny_pure ⟨_,rfl,wpAny_pure h⟩))) htake)
  | exact wpAny_bind (wpAny_bind (m:=Builtin.Tuple.tupleExact _) (wpAny_newObj_type (wpAny_pure (wpAny_pure ⟨_,rfl,wpAny_pure h⟩)) htake))
  | exact wpAny_bind (wpAny_bind (m:=Builtin.Tuple.tupleExact _) (wpAny_newObj_type (wpAny_pure ⟨_,rfl,wpAny_pure h⟩) htake))
end
end HT
namespace L2
open PySem PySem.Spec PyProof.Rows
noncomputable abbrev TO:=St → Hp → (Option Int → Hp → Prop) → Prop
noncomputable def PO (X : Cx) (e : Option Expr) (t : TO) : Prop :=
 ∀ (pins : List (Addr × Obj)) (s : Shared) (σ : St) (H : Hp) (Q : Option Int → Hp → Prop),Inv X pins σ H s → t σ H Q →
  wpAny (model X.prog X.w) X.A (evalPart e X.env) (fun u s'=>∃ o H',Inv X pins σ H' s' ∧ IsPart u o ∧ Q o H') X.xe s
noncomputable def jy1 (t : TE) : TO:=fun σ H Q=>t σ H fun x H1=>∃ i,x = .int i ∧ Q (some i) H1
section
variable {X : Cx} {e : Expr} {te : TE} {lo hi : Option Expr} {tl th : TO} {pos p2 : Pos}
theorem jtl (h : PE X e te) : PO X (some e) (jy1 te):=by
 intro pins s σ H Q I hw
 rw [evalPart_some]
 refine thn (h pins s σ H _ I hw) fun u s1 hzz=>?_
 obtain ⟨x,H1,I1,r1,q1⟩:=hzz
 obtain ⟨i,rfl,q⟩:=q1
 obtain ⟨t,rfl⟩:=r1
 exact ⟨some i,H1,I1,.int i t,q⟩
noncomputable def SlR (X : Cx) (r : V → Option Int → Option Int → Hp → VK → Prop) : Prop :=
 ∀ (pins : List (Addr × Obj)) (s : Shared) (σ : St) (H : Hp) (x : V) (v vl vu : Value) (lo hi : Option Int) (sl : Addr) (Q : VK),Inv X pins σ H s → RelV x v → s.heap.IsSliceOf sl vl vu .none → IsPart vl lo → IsPart vu hi → r x lo hi H Q →
  ∃ T id,typeLookup (.type T) "__getitem__" = pure (some (.builtin id)) ∧ s.TypeIs v T ∧ wpAny (model X.prog X.w) X.A (getItem v (.ref sl)) (EP X pins σ Q) X.xe s
theorem SlR.or {r r' : V → Option Int → Option Int → Hp → VK → Prop} (h : SlR X r) (h' : SlR X r') : SlR X (fun x lo hi H Q=>r x lo hi H Q ∨ r' x lo hi H Q):=by
 intro pins s σ H x v vl vu lo hi sl Q I rx hs pl pu q
 rcases q with q | q
 ·exact h pins s σ H x v vl vu lo hi sl Q I rx hs pl pu q
 ·exact h' pins s σ H x v vl vu lo hi sl Q I rx hs pl pu q
noncomputable def tSl (r : V → Option Int → Option Int → Hp → VK → Prop) (te : TE) (tl th : TO) : TE:=fun σ H Q=>te σ H fun x H1=>tl σ H1 fun l H2=>th σ H2 fun u H3=>r x l u H3 Q
theorem jqb {r : V → Option Int → Option Int → Hp → VK → Prop} (hr : SlR X r) (he : PE X e te) (hl : PO X lo tl) (hu : PO X hi th) : PE X (.Subscript e (.Slice lo hi none p2) pos) (tSl r te tl th):=by
 intro pins s σ H Q I h
 refine Subscript_ (thn (he pins s σ H _ I h) fun v s1 hzz=>?_)
 obtain ⟨x,H1,I1,r1,q1⟩:=hzz
 refine wpAny_Slice (thn (hl pins s1 σ H1 _ I1 q1) fun vl s2 ⟨l,H2,I2,pl,q2⟩=>thn (hu pins s2 σ H2 _ I2 q2) fun vu s3 hzz=>?_)
 obtain ⟨u,H3,I3,pu,q3⟩:=hzz
 rw [evalPart_none]
 refine wpAny_pure ?_
 have I4 : Inv X pins σ H3 { s3 with heap:=s3.heap.push { cls:=.type "slice",data:=.fields #[vl,vu,.none] } }:=I3.kept (t':=s3.toks) fun b ob q=>Heap.get?_push_of_some _ q
 obtain ⟨T,id,hT,ht,hg⟩:=hr pins { s3 with heap:=s3.heap.push { cls:=.type "slice",data:=.fields #[vl,vu,.none] } } σ H3 x v vl vu l u s3.heap.objs.size Q I4 r1 (Heap.IsSliceOf.new ..) pl pu q3
 show wpAny (model X.prog X.w) X.A (subscriptTail e (.Slice lo hi none p2) v (.ref s3.heap.objs.size)) (EP X pins σ Q) X.xe { s3 with heap:=s3.heap.push { cls:=.type "slice",data:=.fields #[vl,vu,.none] } }
 exact tail_any (ops:=[.ref s3.heap.objs.size,v]) ht hT hg (by with_unfolding_all rfl)
noncomputable def cutV (xs : List V) (lo hi : Option Int) : List V:=(xs.drop (HT.sIx xs.length 0 lo)).take (HT.sIx xs.length xs.length hi - HT.sIx xs.length 0 lo)
theorem jgm (xs : List V) (lo hi : Option Int) : (cutV xs lo hi).length ≤ xs.length:=by
 unfold cutV
 rw [List.length_take,List.length_drop]
 omega
noncomputable def rSlT (K : PySem.W.Frag) : V → Option Int → Option Int → Hp → VK → Prop:=fun x lo hi H Q=>∃ a xs,x = .ref a ∧ SqT K H a xs ∧
 ¬ (HT.sIx xs.length 0 lo = 0 ∧ HT.sIx xs.length xs.length hi = xs.length) ∧ ∀ p,H p = none → Q (.ref p) (upd H p (.tup (cutV xs lo hi)))
theorem sl_tup : SlR X (rSlT X.K):=by
 intro pins s σ H x v vl vu lo hi sl Q I rx hs pl pu h
 obtain ⟨a,xs,rfl,hx,hw,q⟩:=h
 cases rx
 obtain ⟨its,r,ht,hz⟩:=I.tuple hx
 have hlen : its.toArray.size = xs.length:=by rw [List.size_toArray]; exact r.length.symm
 refine ⟨"tuple",_,PyProof.Rows.slot_tuple_getitem.lookup,ht.typeIs,?_⟩
 refine HT.getItem_tuple_cut ht hs pl pu (by rw [hlen]; exact hw) ?_ (by rw [hlen]; exact hz)
 rw [hlen]
 refine ⟨.ref s.heap.objs.size,_,I.laid (t':=s.toks) (o:=.tup (cutV xs lo hi)) (fun b ob q=>Heap.get?_push_of_some _ q) (Nat.le_refl _) ?_,rfl,q _ (I.hok.fresh (Nat.le_refl _))⟩
 exact ⟨Nat.le_trans (jgm xs lo hi) hz,_,(r.drop (HT.sIx xs.length 0 lo)).take (HT.sIx xs.length xs.length hi - HT.sIx xs.length 0 lo),IsTup.new _ _⟩
noncomputable def jtv (K : PySem.W.Frag) : R2:=fun x y H Q=>∃ a b xs ys,x = .ref a ∧ y = .ref b ∧ SqT K H a xs ∧ SqT K H b ys ∧ xs ≠ [] ∧ xs.length + ys.length ≤ sizeLine ∧
 (ys = [] → Q (.ref a) H) ∧ (ys ≠ [] → ∀ p,H p = none → Q (.ref p) (upd H p (.tup (xs ++ ys))))
theorem Vals.nil_iff {xs : List V} {us : List Value} (r : Vals xs us) : us = [] ↔ xs = []:=by
 cases r with
 | nil=>simp
 | cons _ _=>simp
theorem js8 : OpR X (binaryOp .Add) (jtv X.K):=by
 intro pins s σ H x y v u Q I rx ry h
 obtain ⟨a,b,xs,ys,rfl,rfl,ha,hb,hx,hz,q1,q2⟩:=h
 cases rx
 cases ry
 obtain ⟨its,r1,p1,_⟩:=I.tuple ha
 obtain ⟨its2,r2,p2,_⟩:=I.tuple hb
 refine HT.cat_tup p1 p2 (fun z=>hx (r1.nil_iff.mp z)) (fun z=>⟨.ref a,H,I,rfl,q1 (r2.nil_iff.mp z)⟩) (fun z=>?_) (by rw [← r1.length,← r2.length]; exact hz)
 refine ⟨.ref s.heap.objs.size,_,I.laid (t':=s.toks) (o:=.tup (xs ++ ys)) (fun b ob q=>Heap.get?_push_of_some _ q) (Nat.le_refl _) ?_,rfl,q2 (fun w=>z (r2.nil_iff.mpr w)) _ (I.hok.fresh (Nat.le_refl _))⟩
 exact ⟨by rw [List.length_append]; exact hz,_,r1.append r2,IsTup.new _ _⟩
end
end L2
namespace L2
open PySem PySem.Spec PyProof.Rows
noncomputable def ixN (n : Nat) (i : Int) : Option Nat:=if 0 ≤ i then (if i < n then some i.toNat else none) else if -(n : Int) ≤ i then some (i + n).toNat else none
noncomputable def atI {α : Type} (xs : List α) (i : Int) : Option α:=(ixN xs.length i).bind fun j=>xs[j]?
theorem jsl {n : Nat} {i : Int} {j : Nat} (h : ixN n i = some j) : seqIndex? i n = some j ∧ j < n ∧ -(n : Int) ≤ i ∧ i < n:=by
 unfold ixN at h
 by_cases h0 : 0 ≤ i
 ·rw [if_pos h0] at h
  by_cases h1 : i < n
  ·rw [if_pos h1] at h
   have e : i.toNat = j:=Option.some.inj h
   exact ⟨by rw [seqIndex_of h0 h1,e],by omega,by omega,h1⟩
  ·rw [if_neg h1] at h; cases h
 ·rw [if_neg h0] at h
  by_cases h1 : -(n : Int) ≤ i
  ·rw [if_pos h1] at h
   have e : (i + n).toNat = j:=Option.some.inj h
   exact ⟨by rw [seqIndex_neg (by omega) h1,e],by omega,h1,by omega⟩
  ·rw [if_neg h1] at h; cases h
theorem atI_get {α : Type} {xs : List α} {i : Int} {v : α} (h : atI xs i = some v) : ∃ j,seqIndex? i xs.length = some j ∧ xs[j]? = some v ∧ j < xs.length ∧ -(xs.length : Int) ≤ i ∧ i < xs.length:=by
 unfold atI at h
 cases e : ixN xs.length i with
 | none=>rw [e] at h; cases h
 | some j =>
  rw [e] at h
  obtain ⟨h1,h2,h3,h4⟩:=jsl e
  exact ⟨j,h1,h,h2,h3,h4⟩
noncomputable def jhv (b : Expr) : Prop:=∀ o i,subscripted b false o i = operate [o,i] (getItem o i)
noncomputable def IxR (X : Cx) (r : R2) : Prop :=
 ∀ (value slice : Expr) (pins : List (Addr × Obj)) (s : Shared) (σ : St) (H : Hp) (x y : V) (v u : Value) (Q : VK),Inv X pins σ H s → RelV x v → RelV y u → r x y H Q →
  subscripted slice false v u = operate [v,u] (getItem v u) → wpAny (model X.prog X.w) X.A (subscriptTail value slice v u) (EP X pins σ Q) X.xe s
noncomputable def MtR (X : Cx) (id : String) (r : V → List V → Hp → VK → Prop) : Prop :=
 ∀ (pins : List (Addr × Obj)) (s : Shared) (σ : St) (H : Hp) (x : V) (xs : List V) (v : Value) (us : List Value) (Q : VK),Inv X pins σ H s → RelV x v → Vals xs us → r x xs H Q →
  wpAny (model X.prog X.w) X.A (call (.builtin id) (v :: us)) (EP X pins σ Q) X.xe s
section
variable {X : Cx} {a b : Expr} {ta tb : TE} {pos : Pos}
theorem IxR.or {r r' : R2} (h : IxR X r) (h' : IxR X r') : IxR X (fun x y H Q=>r x y H Q ∨ r' x y H Q):=by
 intro value slice pins s σ H x y v u Q I rx ry q hs
 rcases q with q | q
 ·exact h value slice pins s σ H x y v u Q I rx ry q hs
 ·exact h' value slice pins s σ H x y v u Q I rx ry q hs
theorem jtg {r : R2} (hr : IxR X r) (ha : PE X a ta) (hb : PE X b tb) (hs : jhv b) : PE X (.Subscript a b pos) (tOp r ta tb):=by
 intro pins s σ H Q I h
 exact Subscript_ (binT ha hb I h fun v u s2 x y H2 I2 rx ry q=>hr a b pins s2 σ H2 x y v u Q I2 rx ry q (hs _ _))
noncomputable def rIxL (K : PySem.W.Frag) : R2:=fun x y H Q=>∃ p xs i v,x = .ref p ∧ y = .int i ∧ SqL K H p xs ∧ atI xs i = some v ∧ Q v H
noncomputable def rIxT (K : PySem.W.Frag) : R2:=fun x y H Q=>∃ p xs i v,x = .ref p ∧ y = .int i ∧ SqT K H p xs ∧ atI xs i = some v ∧ Q v H
noncomputable def rIxS : R2:=fun x y H Q=>∃ z i c,x = .str z ∧ y = .int i ∧ z.length ≤ sizeLine ∧ atI z.cps.toList i = some c ∧ Q (.str ⟨#[c]⟩) H
theorem ix_list : IxR X (rIxL X.K):=by
 intro value slice pins s σ H x y v u Q I rx ry h hs
 obtain ⟨p,xs,i,z,rfl,rfl,hq,he,q⟩:=h
 cases rx
 obtain ⟨t,rfl⟩:=ry
 obtain ⟨its,r,pl,hz⟩:=I.list hq
 obtain ⟨j,h1,h2,h3,h4,h5⟩:=atI_get he
 obtain ⟨w,ew,rw'⟩:=r.get h2
 have hl:=r.length
 have hn:=jhr
 have fin : EP X pins σ Q w s:=⟨z,H,I,rw',q⟩
 by_cases h0 : 0 ≤ i
 ·have hj : i.toNat = j:=by
   rw [seqIndex_of h0 h5] at h1
   exact Option.some.inj h1
  exact item_listR pl.isList h0 (by omega) (by rw [hj]; simpa using ew) fin hs
 ·have hj : (i + (its.toArray.size : Int)).toNat = j:=by
   rw [seqIndex_neg (by omega) h4] at h1
   rw [List.size_toArray,← hl]
   exact Option.some.inj h1
  exact subscriptTail_builtinR (x:=w) pl.isList.typeIs slot_list_getitem.lookup
   (wpAny_getItem_list_neg (Q:=fun r s'=>r = w ∧ EP X pins σ Q r s') pl.isList (by omega) (by rw [List.size_toArray] <;> omega) (by omega) (by rw [hj]; simpa using ew) ⟨rfl,fin⟩) hs
theorem ix_tup : IxR X (rIxT X.K):=by
 intro value slice pins s σ H x y v u Q I rx ry h hs
 obtain ⟨p,xs,i,z,rfl,rfl,hq,he,q⟩:=h
 cases rx
 obtain ⟨t,rfl⟩:=ry
 obtain ⟨its,r,pl,hz⟩:=I.tuple hq
 obtain ⟨j,h1,h2,h3,h4,h5⟩:=atI_get he
 obtain ⟨w,ew,rw'⟩:=r.get h2
 have hl:=r.length
 have hn:=jhr
 have fin : EP X pins σ Q w s:=⟨z,H,I,rw',q⟩
 exact subscriptTail_builtinR (x:=w) pl.typeIs slot_tuple_getitem.lookup
  (getItem_tuple (j:=j) (Q:=fun r s'=>r = w ∧ EP X pins σ Q r s') pl (by omega) (by omega) (by rw [List.size_toArray,← hl]; exact h1) (by simpa using ew) ⟨rfl,fin⟩) hs
theorem jvg : IxR X rIxS:=by
 intro value slice pins s σ H x y v u Q I rx ry h hs
 obtain ⟨z,i,c,rfl,rfl,hz,he,q⟩:=h
 obtain ⟨t,rfl⟩:=rx
 obtain ⟨t',rfl⟩:=ry
 obtain ⟨j,h1,h2,h3,h4,h5⟩:=atI_get he
 have hl : z.cps.toList.length = z.length:=by simp [Str.length]
 rw [hl] at h1 h4 h5
 have hn:=jhr
 exact tail_any (typeIs_str s z t) slot_str_getitem.lookup (getItem_str (c:=c) (by
  have e1 : decide (i < -(2 ^ 63 : Int)) = false:=decide_eq_false (by omega)
  have e2 : decide (i ≥ 2 ^ 63) = false:=decide_eq_false (by omega)
  rw [e1,e2,Bool.or_false]) (by rw [h1]; simpa using h2) ⟨.str ⟨#[c]⟩,H,I.tok _,⟨_,rfl⟩,q⟩) hs
noncomputable def rIx (K : PySem.W.Frag) : R2:=fun x y H Q=>rIxL K x y H Q ∨ rIxT K x y H Q ∨ rIxS x y H Q
theorem jao : IxR X (rIx X.K):=ix_list.or (ix_tup.or jvg)
theorem jj1 (lo hi : Option Int) (n : Nat) : (sliceBounds lo hi none n).1 = ((HT.sIx n 0 lo : Nat) : Int) ∧ (sliceBounds lo hi none n).2.1 = ((HT.sIx n n hi : Nat) : Int) ∧ (sliceBounds lo hi none n).2.2 = 1:=by
 refine ⟨?_,?_,rfl⟩
 ·cases lo with
  | none=>simp [sliceBounds,HT.sIx]
  | some i =>
   simp only [sliceBounds,HT.sIx,Option.getD_none,show (1 : Int) > 0 by decide,if_true]
   by_cases h : i < 0
   ·simp only [h,if_true] <;> omega
   ·simp only [h,if_false] <;> omega
 ·cases hi with
  | none=>simp [sliceBounds,HT.sIx]
  | some i =>
   simp only [sliceBounds,HT.sIx,Option.getD_none,show (1 : Int) > 0 by decide,if_true]
   by_cases h : i < 0
   ·simp only [h,if_true] <;> omega
   ·simp only [h,if_false] <;> omega
theorem jio (its : List Value) (lo hi : Option Int) : slicePick its.toArray lo hi none = ((its.drop (HT.sIx its.length 0 lo)).take (HT.sIx its.length its.length hi - HT.sIx its.length 0 lo)).toArray:=by
 obtain ⟨h1,h2,h3⟩:=jj1 lo hi its.toArray.size
 unfold slicePick
 rw [h1,h2,h3]
 simp only [sliceRange_one,pick_run,List.size_toArray] <;> rfl
noncomputable def rSlL (K : PySem.W.Frag) : V → Option Int → Option Int → Hp → VK → Prop:=fun x lo hi H Q=>∃ a xs,x = .ref a ∧ SqL K H a xs ∧ ∀ p,H p = none → Q (.ref p) (upd H p (.lst (cutV xs lo hi)))
theorem sl_list : SlR X (rSlL X.K):=by
 intro pins s σ H x v vl vu lo hi sl Q I rx hs pl pu h
 obtain ⟨a,xs,rfl,hx,q⟩:=h
 cases rx
 obtain ⟨its,r,ht,hz⟩:=I.list hx
 have hlen:=r.length
 refine ⟨"list",_,slot_list_getitem.lookup,ht.isList.typeIs,?_⟩
 refine wpAny_getItem_list_slice ht.isList hs pl pu .none (by simp) ?_ (by rw [List.size_toArray] <;> omega)
 rw [jio,← hlen]
 refine ⟨.ref s.heap.objs.size,_,I.laid (t':=s.toks) (o:=.lst (cutV xs lo hi)) (fun b ob q=>Heap.get?_push_of_some _ q) (Nat.le_refl _) ?_,rfl,q _ (I.hok.fresh (Nat.le_refl _))⟩
 exact ⟨Nat.le_trans (jgm xs lo hi) hz,_,0,(r.drop (HT.sIx xs.length 0 lo)).take (HT.sIx xs.length xs.length hi - HT.sIx xs.length 0 lo),Heap.get?_push_size _ rfl⟩
theorem call_len_seq : CallR X (.builtin "len") (fun xs H Q=>∃ p ys,xs = [.ref p] ∧ (SqL X.K H p ys ∨ SqT X.K H p ys) ∧ Q (.int ys.length) H):=by
 intro pins s σ H xs us Q I r h
 obtain ⟨p,ys,rfl,hq,q⟩:=h
 obtain ⟨u,rfl,rx⟩:=jqp r
 cases rx
 have hn:=jhr
 rcases hq with hq | hq
 ·obtain ⟨its,r',pl,hz⟩:=I.list hq
  have hlen:=r'.length
  exact Calls.call_len_list pl.isList (by simp only [List.size_toArray] <;> omega) ⟨.int ys.length,H,I.tok _,⟨s.toks + 1,by rw [List.size_toArray,hlen]⟩,q⟩
 ·obtain ⟨its,r',pl,hz⟩:=I.tuple hq
  have hlen:=r'.length
  exact len_tuple pl (by simp only [List.size_toArray] <;> omega) ⟨.int ys.length,H,I.tok _,⟨s.toks + 1,by rw [List.size_toArray,hlen]⟩,q⟩
theorem jix : CallR X (.builtin "len") (fun xs H Q=>∃ z,xs = [.str z] ∧ z.length ≤ sizeLine ∧ Q (.int z.length) H):=by
 intro pins s σ H xs us Q I r h
 obtain ⟨z,rfl,hz,q⟩:=h
 obtain ⟨u,rfl,t,rfl⟩:=jqp r
 have hn:=jhr
 exact len_str (by omega) ⟨.int z.length,H,I.tok _,⟨_,rfl⟩,q⟩
theorem CallR.or {f : Value} {r r' : List V → Hp → VK → Prop} (h : CallR X f r) (h' : CallR X f r') : CallR X f (fun xs H Q=>r xs H Q ∨ r' xs H Q):=by
 intro pins s σ H xs us Q I rs q
 rcases q with q | q
 ·exact h pins s σ H xs us Q I rs q
 ·exact h' pins s σ H xs us Q I rs q
theorem jf6 : CallR X (.type "list") (fun xs H Q=>∃ p ys,xs = [.ref p] ∧ (SqL X.K H p ys ∨ SqT X.K H p ys) ∧ ∀ l,H l = none → Q (.ref l) (upd H l (.lst ys))):=by
 intro pins s σ H xs us Q I r h
 obtain ⟨p,ys,rfl,hq,q⟩:=h
 obtain ⟨u,rfl,rx⟩:=jqp r
 cases rx
 have fin : ∀ (its : List Value),Vals ys its → ys.length ≤ sizeLine → ∀ (h' : Heap) (c' : Nat),(∀ b o',s.heap.get? b = some o' → h'.get? b = some o') →
   h'.get? s.heap.objs.size = some { cls:=.type "list",dict:=none,data:=.seq its.toArray c',slots:=#[] } → EP X pins σ Q (.ref s.heap.objs.size) { s with heap:=h' }:=fun its r' hz h' c' kp e =>
  ⟨.ref s.heap.objs.size,_,I.laid (t':=s.toks) kp (Nat.le_refl _) (show ObjOk X.prog X.w _ h' _ (.lst ys) from ⟨hz,its,c',r',e⟩),rfl,q _ (I.hok.fresh (Nat.le_refl _))⟩
 rcases hq with hq | hq
 ·obtain ⟨its,r',pl,hz⟩:=I.list hq
  have hlen:=r'.length
  obtain ⟨o,ho,hc,n,hd⟩:=pl.isList
  exact call_list_seq p (.inl rfl) ho hc hd (fun h' c' kp e=>fin its r' hz h' c' kp e) (by simp only [List.size_toArray] <;> omega)
 ·obtain ⟨its,r',pl,hz⟩:=I.tuple hq
  have hlen:=r'.length
  obtain ⟨o,ho,hc,n,hd⟩:=pl
  exact call_list_seq p (.inr rfl) ho hc hd (fun h' c' kp e=>fin its r' hz h' c' kp e) (by simp only [List.size_toArray] <;> omega)
theorem jbz : CallR X (.type "tuple") (fun xs H Q=>∃ p ys,xs = [.ref p] ∧ ((SqL X.K H p ys ∧ ∀ l,H l = none → Q (.ref l) (upd H l (.tup ys))) ∨ (SqT X.K H p ys ∧ Q (.ref p) H))):=by
 intro pins s σ H xs us Q I r h
 obtain ⟨p,ys,rfl,h⟩:=h
 obtain ⟨u,rfl,rx⟩:=jqp r
 cases rx
 rcases h with ⟨hq,q⟩ | ⟨hq,q⟩
 ·obtain ⟨its,r',pl,hz⟩:=I.list hq
  have hlen:=r'.length
  refine call_tuple_list pl.isList (fun h' kp=>?_) (by simp only [List.size_toArray] <;> omega)
  have I1 : Inv X pins σ H { s with heap:=h' }:=I.kept (t':=s.toks) kp
  have I2 : Inv X pins σ (upd H h'.objs.size (.tup ys)) { s with heap:=h'.push { cls:=.type "tuple",data:=.seq its.toArray } } :=
   I1.laid (t':=s.toks) (fun b o e=>Heap.get?_push_of_some _ e) (Nat.le_refl _) (show ObjOk X.prog X.w _ _ _ (.tup ys) from ⟨hz,its,r',IsTup.new _ _⟩)
  exact ⟨.ref h'.objs.size,_,I2,rfl,q _ (I1.hok.fresh (Nat.le_refl _))⟩
 ·obtain ⟨its,r',pl,hz⟩:=I.tuple hq
  exact call_tuple_same pl ⟨.ref p,H,I,rfl,q⟩
noncomputable def tyV (K : PySem.W.Frag) (T : String) (x : V) (H : Hp) : Prop:=match x with
 | .str _=>T = "str"
 | .int _=>T = "int"
 | .ref p=>(T = "list" ∧ ∃ xs,SqL K H p xs) ∨ (T = "tuple" ∧ ∃ o,K.lookup p = some o ∧ o.cls = .type "tuple" ∧ o.dict = none) ∨
   (T = "dict" ∧ ((∃ kvs,H p = some (.dK kvs)) ∨ ∃ kvs,H p = some (.dT kvs))) ∨ (T = "set" ∧ ∃ S n,H p = some (.set S n))
 | _=>False
theorem jrk {pins : List (Addr × Obj)} {σ : St} {H : Hp} {s : Shared} {T : String} {x : V} {v : Value} (I : Inv X pins σ H s) (r : RelV x v) (ty : tyV X.K T x H) :
  s.TypeIs v T ∧ ∀ a,v = .ref a → ∃ ob,s.heap.get? a = some ob ∧ ob.dict = none:=by
 cases x with
 | str z =>
  obtain ⟨t,rfl⟩:=r
  cases (show T = "str" from ty)
  exact ⟨typeIs_str s z t,fun _ e=>nomatch e⟩
 | int i =>
  obtain ⟨t,rfl⟩:=r
  cases (show T = "int" from ty)
  exact ⟨typeIs_int s i t,fun _ e=>nomatch e⟩
 | ref p =>
  cases r
  rcases ty with ⟨rfl,xs,hq⟩ | ⟨rfl,o,hk,hc,hd⟩ | ⟨rfl,hk⟩ | ⟨rfl,S,n,hk⟩
  ·obtain ⟨its,_,pl,_⟩:=I.list hq
   refine ⟨pl.isList.typeIs,fun a e=>?_⟩
   cases e
   obtain ⟨o,n,e,c,hd,_⟩:=pl
   exact ⟨o,e,hd⟩
  ·refine ⟨⟨o,I.kIn p o hk,hc⟩,fun a e=>?_⟩
   cases e
   exact ⟨o,I.kIn _ o hk,hd⟩
  ·have z : ∃ o,s.heap.get? p = some o ∧ o.ExactDict:=by
    rcases hk with ⟨kvs,hk⟩ | ⟨kvs,hk⟩
    ·obtain ⟨_,_,_,_,o,_,_,e,ex,_⟩:=I.hok p _ hk
     exact ⟨o,e,ex⟩
    ·obtain ⟨_,_,_,_,o,_,_,e,ex,_⟩:=I.hok p _ hk
     exact ⟨o,e,ex⟩
   obtain ⟨o,e,ex⟩:=z
   refine ⟨⟨o,e,ex.1⟩,fun a e2=>?_⟩
   cases e2
   exact ⟨o,e,ex.2.1⟩
  ·obtain ⟨o,_,_,_,e,ex,_⟩:=I.hok p _ hk
   refine ⟨⟨o,e,ex.1⟩,fun a e2=>?_⟩
   cases e2
   exact ⟨o,e,ex.2.1⟩
 | _=>exact False.elim ty
noncomputable def tBM0 (K : PySem.W.Frag) (T : String) (r : V → List V → Hp → VK → Prop) (to : TE) : TE:=fun σ H Q=>to σ H fun x H1=>tyV K T x H1 ∧ r x [] H1 Q
noncomputable def tBM (K : PySem.W.Frag) (T : String) (r : V → List V → Hp → VK → Prop) (to : TE) (t : TA) : TE:=fun σ H Q=>to σ H fun x H1=>tyV K T x H1 ∧ t σ H1 fun xs H2=>r x xs H2 Q
variable {o e : Expr} {es : List Expr} {to : TE} {t : TA} {name : Str} {apos cpos : Pos} {T id : String} {r : V → List V → Hp → VK → Prop}
theorem jwc (pa : PlainAttrs T) (slot : Slot T name id) (hty : typeOf (.builtin id) = pure (.type "method_descriptor")) (hm : MtR X id r) (ho : PE X o to)
  (hbase : autoParam (attributeBase o name X.env (eval o X.env) = eval o X.env) zau2._auto_1) (hline : autoParam ((apos.endLine == cpos.line) = true) zau2._auto_1) : PE X (.Call (.Attribute o name apos) [] [] cpos) (tBM0 X.K T r to):=by
 intro pins s σ H Q I h
 refine wpAny_Call_method0_late hbase hline (thn (ho pins s σ H _ I h) fun v s1 hzz=>?_)
 obtain ⟨x,H1,I1,r1,ty,q1⟩:=hzz
 obtain ⟨h1,h2⟩:=jrk I1 r1 ty
 exact ⟨T,id,pa,slot,hty,h1,h2,Calls.callWith_builtin rfl (PySem.evalArgs_none (hm pins s1 σ H1 x [] v [] Q I1 r1 .nil q1))⟩
theorem jwb (pa : PlainAttrs T) (slot : Slot T name id) (hty : typeOf (.builtin id) = pure (.type "method_descriptor")) (hm : MtR X id r) (ho : PE X o to) (ha : PA X (e :: es) t)
  (hbase : autoParam (attributeBase o name X.env (eval o X.env) = eval o X.env) zau2._auto_1)
  (hfew : ((backTo cpos (starEach (e :: es) X.env)).all (fun x=>!x.1) && (backToKw cpos (keywordEach [] X.env)).all (fun x=>x.1.isSome)
   && decide ((e :: es).length + ([] : List Keyword).length + (if ([] : List Keyword).isEmpty then 0 else 1) < 30)) = true:=by rfl)
  (hline : autoParam ((apos.endLine == cpos.line) = true) zau2._auto_1) (hs : autoParam (starEach (e :: es) X.env = (false,eval e X.env) :: starEach es X.env) zau2._auto_1) (hplain : autoParam ((backTo cpos (starEach es X.env)).any (·.1) = false) zau2._auto_1) :
  PE X (.Call (.Attribute o name apos) (e :: es) [] cpos) (tBM X.K T r to t):=by
 intro pins s σ H Q I h
 refine wpAny_Call_method_late hbase hfew hline rfl (thn (ho pins s σ H _ I h) fun v s1 hzz=>?_)
 obtain ⟨x,H1,I1,r1,ty,q1⟩:=hzz
 obtain ⟨h1,h2⟩:=jrk I1 r1 ty
 refine ⟨T,id,pa,slot,hty,h1,h2,?_⟩
 have hA:=ha cpos pins s1 σ H1 _ I1 q1
 rw [hs] at hA ⊢
 refine Calls.callWith_builtin (by show (false || (backTo cpos (starEach es X.env)).any (·.1)) = false; rw [hplain] <;> rfl) (Calls.evalArgs_plain ?_)
 exact thn hA fun us s2 ⟨vs,H2,I2,r2,q2⟩=>hm pins s2 σ H2 x vs v us Q I2 r1 r2 q2
end
end L2
namespace L2
open PySem PySem.Spec PyProof.Rows
noncomputable def MtM (X : Cx) (id : String) (r : V → List V → Hp → VK → Prop) : Prop :=
 ∀ (pins : List (Addr × Obj)) (s : Shared) (σ : St) (H : Hp) (x : V) (xs : List V) (v : Value) (us : List Value) (Q : VK),Inv X pins σ H s → RelV x v → Vals xs us → r x xs H Q →
  wpAny (model X.prog X.w) X.A (call (.builtin id) (v :: us)) (EP X pins σ Q) X.xe s
theorem Vals.one : ∀ {x : V} {us : List Value},Vals [x] us → ∃ u,us = [u] ∧ RelV x u
 | _,_,.cons r .nil=>⟨_,rfl,r⟩
theorem Vals.two : ∀ {x y : V} {us : List Value},Vals [x,y] us → ∃ u v,us = [u,v] ∧ RelV x u ∧ RelV y v
 | _,_,_,.cons r (.cons q .nil)=>⟨_,_,rfl,r,q⟩
theorem Vals.zero : ∀ {us : List Value},Vals [] us → us = []
 | _,.nil=>rfl
theorem Vals.rep {xs : List V} {us : List Value} (h : Vals xs us) : ∀ k : Nat,Vals (List.replicate k xs).flatten (List.replicate k us).flatten
 | 0=>.nil
 | k + 1=>by
  rw [List.replicate_succ,List.replicate_succ,List.flatten_cons,List.flatten_cons]
  exact Vals.append h (Vals.rep h k)
theorem ji5 (its : List Value) : ∀ (k : Nat) (acc : List Value),
  List.foldl (fun x1 x2=>x1 ++ x2) acc.toArray (List.replicate k its.toArray) = (acc ++ (List.replicate k its).flatten).toArray
 | 0,acc=>by simp
 | k + 1,acc=>by
  have e : acc.toArray ++ its.toArray = (acc ++ its).toArray:=by simp
  have e2 : (acc ++ its) ++ (List.replicate k its).flatten = acc ++ (List.replicate (k + 1) its).flatten:=by
   rw [List.replicate_succ,List.flatten_cons,List.append_assoc]
  rw [← e2,← ji5 its k (acc ++ its),← e,List.replicate_succ,List.foldl_cons]
section
variable {X : Cx} {pins : List (Addr × Obj)} {σ : St} {H : Hp} {s : Shared} {l b : Addr} {xs ys zs : List V}
theorem Inv.lset {its its' : List Value} {n : Nat} {f : Array Value → Array Value} {t' : Nat} (I : Inv X pins σ H s) (hH : H l = some (.lst xs))
  (e : s.heap.get? l = some { cls:=.type "list",data:=.seq its.toArray n }) (hf : f its.toArray = its'.toArray) (hv : Vals ys its') (hz : ys.length ≤ sizeLine) :
  Inv X pins σ (upd H l (.lst ys)) { s with heap:=s.heap.update l (Obj.mapSeq f),toks:=t' }:=by
 have q:=PySem.IsL.update e f
 rw [hf] at q
 refine I.write (x:=l) (e:=l) (by rw [hH]; exact trivial) (.inl rfl) (fun b' u hb hu=>(Heap.get?_update_other s.heap (Obj.mapSeq f) (Ne.symm hb)).trans hu) ⟨_,q⟩ ?_
 exact ⟨hz,its',_,hv,q⟩
theorem Inv.lnew {its : List Value} {t' : Nat} (I : Inv X pins σ H s) (hv : Vals ys its) (hz : ys.length ≤ sizeLine) :
  Inv X pins σ (upd H s.heap.objs.size (.lst ys)) { s with heap:=s.heap.push { cls:=.type "list",data:=.seq its.toArray },toks:=t' } :=
 I.laid (fun _ _ q=>Heap.get?_push_of_some _ q) (Nat.le_refl _) ⟨hz,its,0,hv,Heap.get?_push_size _ rfl⟩
theorem Inv.fresh (I : Inv X pins σ H s) : H s.heap.objs.size = none:=I.hok.fresh (Nat.le_refl _)
theorem Inv.lstM (I : Inv X pins σ H s) (hH : H l = some (.lst xs)) : xs.length ≤ sizeLine ∧ ∃ (its : List Value) (n : Nat),Vals xs its ∧ xs.length = its.length ∧ s.heap.get? l = some { cls:=.type "list",data:=.seq its.toArray n }:=by
 obtain ⟨z,its,n,r,e⟩:=I.hok l _ hH
 exact ⟨z,its,n,r,r.length,e⟩
end
section
variable {X : Cx}
noncomputable def jtt : V → List V → Hp → VK → Prop:=fun x vs H Q=>∃ l xs y,x = .ref l ∧ vs = [y] ∧ H l = some (.lst xs) ∧ xs.length < sizeLine ∧ Q .non (upd H l (.lst (xs ++ [y])))
theorem jfp : MtM X "list.append" jtt:=by
 intro pins s σ H x vs v us Q I rx rv h
 obtain ⟨l,xs,y,rfl,rfl,hH,hz,q⟩:=h
 cases rx
 obtain ⟨u,rfl,ru⟩:=rv.one
 obtain ⟨z,its,n,r,hl,e⟩:=I.lstM hH
 refine call_meets F.slot_list_append ⟨_,e,rfl⟩ F.entry_list_append (F.args_list_append_2 _ _) (PySem.list_append l its.toArray n u (by rw [List.size_toArray]; omega)) ⟨e,?_⟩
 refine ⟨.non,_,I.lset (its':=its ++ [u]) hH e (by simp) (r.append (.cons ru .nil)) ?_,rfl,q⟩
 rw [List.length_append,List.length_singleton]
 omega
noncomputable def jwo : V → List V → Hp → VK → Prop:=fun x vs H Q=>∃ l xs,x = .ref l ∧ vs = [] ∧ H l = some (.lst xs) ∧ Q .non (upd H l (.lst []))
theorem jp4 : MtM X "list.clear" jwo:=by
 intro pins s σ H x vs v us Q I rx rv h
 obtain ⟨l,xs,rfl,rfl,hH,q⟩:=h
 cases rx
 have hus:=rv.zero
 subst hus
 obtain ⟨z,its,n,r,hl,e⟩:=I.lstM hH
 refine call_meets F.slot_list_clear ⟨_,e,rfl⟩ F.entry_list_clear (F.args_list_clear_1 _) (AutoSeq1.list_clear_list_0 l its.toArray n (by rw [List.size_toArray]; omega)) ⟨e,?_⟩
 exact ⟨.non,_,I.lset (its':=[]) (ys:=[]) hH e rfl .nil (Nat.zero_le _),rfl,q⟩
theorem jsn {α : Type} (xs : List α) (k : Nat) : (List.replicate k xs).flatten.length = k * xs.length:=by
 induction k with
 | zero=>simp
 | succ k ih=>rw [List.replicate_succ,List.flatten_cons,List.length_append,ih,Nat.succ_mul,Nat.add_comm]
end
section
variable {prog : Program} {w : World} {A : Around} {E : Value → Shared → Prop} {s : Shared}
end
section
variable {X : Cx}
end
end L2
namespace Att
open PySem PySem.W PySem.Calls PyProof.Rows
theorem jgv {P : Params} {h : Heap} : ∀ (ns : List Int) (vs : List Value),WellAll P h vs (ns.map WData.int) → IntsAre vs ns:=by
 intro ns
 induction ns with
 | nil =>
  intro vs w
  rw [List.map_nil] at w
  cases w
  exact .nil
 | cons n ns ih =>
  intro vs w
  rw [List.map_cons] at w
  cases w with
  | cons a b =>
   cases a
   exact .cons _ _ (ih _ b)
theorem jol {l : OpenLaw} {n : Nat} (hn : l.most = some n) {P : Params} {h : Heap} {args : List WData} {vals : List Value}
  (hpre : l.row.toRowW.claim.pre args = true) (hwl : WellAll P h vals args) :
  ∃ a vs ns,vals = [Value.ref a] ∧ args = [WData.list (ns.map WData.int)] ∧ h.get? a = some { cls:=.type "list",data:=.seq vs.toArray } ∧ IntsAre vs ns ∧ ns.length ≤ n:=by
 have hsh : WShape.hasAll [] args [.list .int] = true:=(pre_splitW hpre).1
 have hc : l.pre.holds [] { args:=args } = true:=(pre_splitW hpre).2
 obtain ⟨d,r,rfl,h1,h2⟩:=hasAllW_cons hsh
 obtain rfl:=hasAllW_nil h2
 obtain ⟨xs,rfl,h3⟩:=hasW_list h1
 obtain ⟨ns,rfl⟩:=items_int h3
 have hlen : ns.length ≤ n:=by
  unfold OpenLaw.pre at hc
  have h4 : (WTm.not (.lt (.lit (.int (n : Int))) (.len (.arg 0)))).holds [] { args:=[.list (ns.map .int)] } = true:=by
   have h4:=(holds_andW hc).1
   rw [hn] at h4
   exact h4
  have h5:=condW_of h4 (w_not (w_lt w_lit (w_len_list (w_arg rfl))))
  rw [List.length_map] at h5
  refine Nat.le_of_not_lt fun q=>?_
  have q' : (n : Int) < ((ns.length : Nat) : Int):=by omega
  first
   | (rw [decide_eq_true q'] at h5; exact absurd h5 (by decide))
   | (simp at h5; omega)
 cases hwl with
 | cons w1 w2 =>
  cases w2
  cases w1 with
  | list ho hall=>exact ⟨_,_,ns,rfl,rfl,ho,jgv ns _ hall,hlen⟩
theorem joa (l : OpenLaw) (args : List WData) : l.row.toRowW.claim.post args (.bool true) args = true :=
 postW_of (r:=l.row.toRowW) (X:=(true == true))
  (show WShape.has [] (.bool true) .bool = true by first | rfl | decide | simp [WShape.has,WShape.arms,WShape.armsAll])
  (show (WTm.eq .res (.lit (.bool true))).value [] { args:=args,res:=some (.bool true),after:=args } = some (.bool (true == true)) from w_eq_bool (w_res rfl) w_lit) rfl
theorem attach_call {l : OpenLaw} {n : Nat} {q : Program} {loose : List Str} {XP : (Str → Option Value) → Heap → Prop} {YP : World → Heap → Prop} {d : DefRec}
  (hn : l.most = some n) (hdf : d.params.defaults = [])
  (call : ∀ (w : World) (s₀ s₁ : Shared) (mg mb : Str → Option Value) (fa : Addr) (o : Obj) (pm cd doc : Value) (a : Addr) (vs : List Value) (ns : List Int),
   Ground q loose [] XP w s₀ mg mb s₁.heap → YP w s₁.heap →
   s₁.heap.get? fa = some o → o.data = .func (docDef d.name d.params d.body d.scope pm cd doc) → s₁.heap.CodeRec cd d.name → mg d.name = some (.ref fa) →
   s₁.heap.get? a = some { cls:=.type "list",data:=.seq vs.toArray } → IntsAre vs ns → ns.length ≤ n → s₁.gens = #[] →
   codeAny (model l.prog w) callerA (.call (.ref fa) ⟨[.ref a],[]⟩) (fun r s'=>r = .ok (.ret (.bool true)) ∧ OldK s₁.heap s'.heap ∧ s'.os = s₁.os ∧ AllBare s'.gens) s₁) :
  WalkO q loose XP YP l.row.toRowW d [] (fun f vs=>PySem.call f vs):=by
 intro w s₀ s₁ mg mb G Y fa o pm cd doc dV kV ho hd hcd hD hmg hg args vals as hpre hlay hrd hwl hlo
 obtain rfl : dV = .none:=Dflts.none hD hdf
 obtain rfl : kV = .none:=Dflts.noKw hD
 obtain ⟨a,vs,ns,rfl,rfl,hobj,hints,hlen⟩:=jol hn hpre hwl
 refine enter_call (codeAny_mono (call w s₀ s₁ mg mb fa o pm cd doc a vs ns G Y ho (fd_plain hd) hcd hmg hobj hints hlen hg) fun r s' hq=>?_)
 obtain ⟨rfl,h2,h3,h4⟩:=hq
 exact ⟨.inl ⟨.bool true,.bool true,[],rfl,fun _=>rfl,.bool true,joa l _,fun _=>⟨List.Pairwise.nil,fun _ hm=>(nomatch hm)⟩⟩,h2,h3,h4⟩
section
variable {prog : Program} {w : World} {A : Around} {E : Value → Shared → Prop} {s : Shared} {K : Frag}
end
end Att
namespace L2
open PySem PySem.Spec PyProof.Rows
theorem jj7 : ∀ {vs : List Value} {ns : List Int},IntsAre vs ns → Vals (ns.map V.int) vs
 | _,_,.nil=>.nil
 | _,_,.cons n t h=>.cons ⟨t,rfl⟩ (jj7 h)
noncomputable def Only (H : Hp) : Prop:=∀ b,H b = none ∨ ∃ o xs,H b = some (.frz o (.lst xs))
theorem jpv {P : Program} {w : World} {K : PySem.W.Frag} {mg mb : Str → Option Value} {CX : CXT} {k : Nat} {fa a : Addr} {fd : FuncData} {x : Str} {sp : Sp} {s₁ : Shared} {vs : List Value} {ns : List Int}
  (KX : K.In s₁.heap) (hns : s₁.heap.Ns mainGlobals mg) (hb : s₁.heap.Ns builtinsNs mb) (hbb : ∀ x : Str,x ≠ "__name__" → mb x = bootBuiltins x) (hlim : s₁.heap.NoLimit) (hg : s₁.gens = #[])
  (ha : s₁.heap.get? a = some { cls:=.type "list",data:=.seq vs.toArray }) (hi : IntsAre vs ns) (hl : ns.length ≤ sizeLine) (hr : Room k callerA)
  (F : ∀ base : Heap,K.In base → base.Ns mainGlobals mg → FnOk P w K mg base CX k fa fd [x] sp) (hbind : ∀ (s : Shared) (u : Value),BindsTo s fd ⟨[u],[]⟩ [(x,u)])
  (hsp : ∀ H : Hp,Only H → SqL K H a (ns.map V.int) → sp [.ref a] H (fun v _=>v = .bl true) fun _ _ _=>False)
  (hCX : ∀ H e s',CX [] H s₁ (fun _ _ _=>False) e s' → False) :
  codeAny (model P w) callerA (.call (.ref fa) ⟨[.ref a],[]⟩) (fun r s'=>r = .ok (.ret (.bool true)) ∧ OldK s₁.heap s'.heap ∧ s'.os = s₁.os ∧ AllBare s'.gens) s₁:=by
 have rv:=jj7 hi
 have lenV:=hi.length
 have core : ∀ H : Hp,Only H → SqL K H a (ns.map V.int) → HOk P w H s₁.heap → (∀ b,H b ≠ none → b = a) → (H a ≠ none → K.lookup a = none) →
   codeAny (model P w) callerA (.call (.ref fa) ⟨[.ref a],[]⟩) (fun r s'=>r = .ok (.ret (.bool true)) ∧ OldK s₁.heap s'.heap ∧ s'.os = s₁.os ∧ AllBare s'.gens) s₁:=by
  intro H hO hS hok hA hK
  have base_of : ∀ {b : Addr} {o : Obj},s₁.heap.get? b = some o → H b = none → (hidT s₁.heap H).get? b = some o:=fun e n=>jpm e n
  have noA : ∀ {b : Addr} {o : Obj} {es : Array DictEntry} {ep : Nat},s₁.heap.get? b = some o → o.data = .dict es ep → H b = none:=fun {b o es ep} e d=>by
   cases q : H b with
   | none=>rfl
   | some u =>
    have e' : b = a:=hA b (by rw [q]; simp)
    subst e'
    rw [ha] at e; cases e
    have d' : Data.seq vs.toArray _ = Data.dict es ep:=d
    cases d'
  have nsK : ∀ {b : Addr} {m : Str → Option Value},s₁.heap.Ns b m → (hidT s₁.heap H).Ns b m:=fun {b m} ⟨o,es,ep,e,d,r⟩=>⟨o,es,ep,base_of e (noA e d),d,r⟩
  have hKb : K.In (hidT s₁.heap H):=fun b o e=>base_of (KX b o e) (by
   cases q : H b with
   | none=>rfl
   | some u =>
    have e' : b = a:=hA b (by rw [q]; simp)
    subst e'
    rw [hK (by rw [q]; simp)] at e; cases e)
  have hM : Mod K mg (hidT s₁.heap H):=⟨hKb,nsK hns,⟨mb,nsK hb,hbb⟩,let ⟨mc,h1,h2⟩:=hlim; ⟨mc,nsK h1,h2⟩⟩
  have e0 : Env0 P w K mg (hidT s₁.heap H) callerA [] s₁ H:=⟨rfl,hM,fun b o e=>js6 e,Nat.le_of_eq (jnf _ _),trivial,fun b hb=>absurd (show b ∈ ([] : List Addr) from hb) (by simp),hok,.of_eq hg⟩
  refine codeAny_mono ((F _ hKb (nsK hns)).run callerA [] s₁ H ⟨[.ref a],[]⟩ [.ref a] [.ref a] _ _ hr e0 (hbind s₁ (.ref a)) (.cons rfl .nil) (hsp H hO hS)) fun r s' h=>?_
  cases r with
  | error e=>exact (hCX H e s' h).elim
  | ok fl =>
   cases fl with
   | next=>exact False.elim h
   | brk=>exact False.elim h
   | cont=>exact False.elim h
   | ret u =>
    obtain ⟨v,H',os,bare,un,hok',r',q⟩:=h
    have q' : v = .bl true:=q
    subst q'
    obtain rfl : u = Value.bool true:=r'
    refine ⟨rfl,OldK.of_keep fun b o e=>?_,os,bare⟩
    cases q : H b with
    | none=>exact un.keep b o e q (by intro z; exact absurd (show b ∈ ([] : List Addr) from z) (by simp)) (by simp)
    | some u =>
     rcases hO b with z | ⟨ob,xs,z⟩
     ·rw [q] at z; cases z
     ·have z2:=un.frzs b ob _ z
      obtain ⟨e1,_⟩:=hok b _ z
      obtain ⟨e2,_⟩:=hok' b _ z2
      rw [e] at e1; cases e1
      exact e2
 cases hk : K.lookup a with
 | some o =>
  have e:=KX a o hk
  rw [ha] at e
  cases e
  refine core (fun _=>none) (fun _=>.inl rfl) (.inr ⟨_,vs.toArray,_,hk,rfl,rfl,rfl,by rw [List.size_toArray,lenV]; exact hl,by simpa using rv⟩) (fun b u z=>by have z' : (none : Option HO) = some u:=z; cases z') (fun b z=>absurd rfl z) fun z=>absurd rfl z
 | none =>
  refine core (fun b=>if b = a then some (.frz { cls:=.type "list",data:=.seq vs.toArray } (.lst (ns.map V.int))) else none) (fun b=>?_) (.inl (.inr ⟨{ cls:=.type "list",data:=.seq vs.toArray },if_pos rfl⟩)) (fun b u z=>?_) (fun b z=>?_) fun _=>hk
  ·by_cases hb : b = a
   ·exact .inr ⟨_,_,if_pos hb⟩
   ·exact .inl (if_neg hb)
  ·by_cases hb : b = a
   ·have z':=(if_pos hb).symm.trans z
    cases z'
    subst hb
    exact ⟨ha,by rw [List.length_map]; exact hl,vs,_,rv,ha⟩
   ·have z':=(if_neg hb).symm.trans z
    cases z'
  ·by_cases hb : b = a
   ·exact hb
   ·exact absurd (if_neg hb) z
end L2
namespace L2
open PySem PySem.Spec PyProof.Rows
theorem walk_of {l : PySem.W.OpenLaw} {n k : Nat} {q : Program} {loose : List Str} {XP : (Str → Option Value) → Heap → Prop} {YP : World → Heap → Prop} {d : DefRec} {K : Params → PySem.W.Frag} {CX : World → CXT} {sp : World → Sp} {x : Str}
  (hn : l.most = some n) (hn2 : n ≤ sizeLine) (hdf : d.params.defaults = []) (hr : Room k callerA)
  (hY : ∀ (w : World) (h : Heap),YP w h → (K w.params).In h)
  (F : ∀ (w : World) (mg : Str → Option Value) (fa : Addr) (h : Heap),(K w.params).In h → h.Ns mainGlobals mg → mg d.name = some (.ref fa) →
   ∃ fd : FuncData,(∀ (s : Shared) (u : Value),BindsTo s fd ⟨[u],[]⟩ [(x,u)]) ∧
    ∀ base : Heap,(K w.params).In base → base.Ns mainGlobals mg → FnOk l.prog w (K w.params) mg base (CX w) k fa fd [x] (sp w))
  (hsp : ∀ (w : World) (H : Hp) (a : Addr) (ns : List Int),ns.length ≤ n → Only H → SqL (K w.params) H a (ns.map V.int) → sp w [.ref a] H (fun v _=>v = .bl true) fun _ _ _=>False)
  (hCX : ∀ (w : World) (H : Hp) (s : Shared) (e : Value) (s' : Shared),CX w [] H s (fun _ _ _=>False) e s' → False) :
  PySem.W.WalkO q loose XP YP l.row.toRowW d [] (fun f vs=>PySem.call f vs):=by
 refine Att.attach_call hn hdf fun w s₀ s₁ mg mb fa o pm cd doc a vs ns G Y ho hd hcd hmg hobj hints hlen hg=>?_
 have KX:=hY w _ Y
 obtain ⟨fd,hb,hF⟩:=F w mg fa _ KX G.T.g hmg
 exact jpv KX G.T.g G.T.b G.T.builtins G.T.nolimit hg hobj hints (Nat.le_trans hlen hn2) hr hF hb (fun H hO hS=>hsp w H a ns hlen hO hS) fun H e s'=>hCX w H s₁ e s'
end L2
namespace L2
open PySem PySem.Spec PyProof.Rows
noncomputable def jat (s : Stmt) : Arguments:=match s with
 | .FunctionDef _ a _ _ _ _ _ _ _ _=>a
 | _=>{ posonlyargs:=[],args:=[],vararg:=none,kwonlyargs:=[],kw_defaults:=[],kwarg:=none,defaults:=[] }
noncomputable def jah (s : Stmt) : List Stmt:=match s with
 | .FunctionDef _ _ b _ _ _ _ _ _ _=>b
 | _=>[]
noncomputable def jaa (s : Stmt) : Scope:=match s with
 | .FunctionDef _ _ _ _ _ _ sc _ _ _=>sc
 | _=>{ kind:=.function,names:=[],isGenerator:=false,isCoroutine:=false }
noncomputable abbrev CX0 : CXT:=fun _ _ _ _ _ _=>False
noncomputable abbrev E0 : XK:=fun _ _ _=>False
structure Fun (K : PySem.W.Frag) (x qual : Str) (st : Stmt) (f : Addr) (fd : FuncData) : Prop where
 ex : ∃ (oc : Value) (od : Option Addr) (kV doc pm : Value) (an : Option Addr) (cdv ct : Value) (osl : Array (Option Value)),
  fd = PySem.W.fnOf x qual (jat st) (jah st) (jaa st) .none kV doc pm an cdv ct ∧ K.lookup f = some ⟨oc,od,.func fd,osl⟩ ∧ PySem.W.codeIn K cdv qual = true
 kp : PySem.W.keepIn K (.ref f) = true
section
variable {P : Program} {w : World} {K : PySem.W.Frag} {mg : Str → Option Value} {base : Heap}
theorem Fun.ok {x qual : Str} {st : Stmt} {f : Addr} {fd : FuncData} {N ps : List Str} {k : Nat} {sp : Sp} (F : Fun K x qual st f fd) (S : FnScope N ps (jaa st)) (len : ∀ vs H Q E,sp vs H Q E → vs.length = ps.length)
  (hbody : ∀ (cdv : Value) (A : Around) (outer : List Env) (s : Shared) (H : Hp) (vs : List V) (Q : VK) (E : XK),Room k (A.deeper (envOfC qual (jaa st) s.heap.objs.size f cdv)) → sp vs H Q E →
   ∃ t,PSs (cxOf CX0 P w K mg base N qual (jaa st) f cdv A outer s H E).nox (jah st) t ∧ t { nx:=fun _ H'=>Q .non H',rt:=Q } (start N vs) H) : FnOk P w K mg base CX0 (k + 1) f fd ps sp:=by
 obtain ⟨oc,od,kV,doc,pm,an,cdv,ct,osl,rfl,lk,hcd⟩:=F.ex
 refine ju9 lk hcd S len fun A outer s H vs Q E hr hsp=>?_
 obtain ⟨t,h,q⟩:=hbody cdv A outer s H vs Q E hr hsp
 exact ⟨t,h.nox,q⟩
theorem Fun.binds {x qual : Str} {st : Stmt} {f : Addr} {fd : FuncData} {ps : List Str} (F : Fun K x qual st f fd)
  (h : ∀ (kV doc pm : Value) (an : Option Addr) (cdv ct : Value) (us : List Value),us.length = ps.length → bindArgs (PySem.W.fnOf x qual (jat st) (jah st) (jaa st) .none kV doc pm an cdv ct) ⟨us,[]⟩ = pure (ps.zip us)) : Binds K fd ps []:=by
 obtain ⟨oc,od,kV,doc,pm,an,cdv,ct,osl,rfl,lk,hcd⟩:=F.ex
 exact .all (h kV doc pm an cdv ct)
theorem jle {x qual : Str} {st : Stmt} {f : Addr} {oc : Value} {od an : Option Addr} {osl : Array (Option Value)} {kV doc pm cdv ct : Value} (l : K.lookup f = some ⟨oc,od,.func (PySem.W.fnOf x qual (jat st) (jah st) (jaa st) .none kV doc pm an cdv ct),osl⟩)
  (c : PySem.W.codeIn K cdv qual = true) (k : PySem.W.keepIn K (.ref f) = true) : Fun K x qual st f (PySem.W.fnOf x qual (jat st) (jah st) (jaa st) .none kV doc pm an cdv ct):=⟨⟨oc,od,kV,doc,pm,an,cdv,ct,osl,rfl,l,c⟩,k⟩
end
section
variable {X : Cx}
end
theorem iteF {A B : Prop} (h : B) : if false = true then A else B:=by
 rw [if_neg Bool.false_ne_true]
 exact h
theorem iteT {A B : Prop} (h : A) : if true = true then A else B:=by
 rw [if_pos rfl]
 exact h
noncomputable def Same (H H' : Hp) : Prop:=∀ b o,H b = some o → H' b = some o
theorem Same.refl (H : Hp) : Same H H:=fun _ _ h=>h
theorem Same.trans {H H1 H2 : Hp} (a : Same H H1) (b : Same H1 H2) : Same H H2:=fun c o h=>b c o (a c o h)
end L2
set_option maxHeartbeats 4000000
namespace L2
open PySem PySem.Spec PyProof.Rows
theorem ffk : (NameKind.free == NameKind.free) = true:=by decide
noncomputable def clOf (cells : List (Str × Addr)) : List (Str × NameKind) → List (Str × Addr) → List (Str × Addr)
 | [],acc=>acc
 | (n,k) :: r,acc=>clOf cells r (if k == .free then (n,(cells.lookup n).getD 0) :: acc else acc)
theorem jm3 {env : Env} : ∀ (ns : List (Str × NameKind)) (acc : List (Str × Addr)),(∀ p ∈ ns,p.2 = .free → ∃ c,env.cells.lookup p.1 = some c) →
  (forIn ns acc fun p cs=>(if p.2 == NameKind.free then (do let a ← cellOf env p.1; pure (ForInStep.yield ((p.1,a) :: cs))) else pure (ForInStep.yield cs) : Sem (ForInStep (List (Str × Addr))))) = pure (clOf env.cells ns acc)
 | [],acc,_=>by rw [List.forIn_nil]; rfl
 | (n,k) :: r,acc,h=>by
  rw [List.forIn_cons]
  by_cases hk : k = .free
  ·subst hk
   obtain ⟨c,hc⟩:=h (n,.free) List.mem_cons_self rfl
   have e1 : cellOf env n = pure c:=by unfold cellOf; rw [hc]
   show (do let a ← cellOf env n; pure (ForInStep.yield ((n,a) :: acc)) : Sem _) >>= _ = _
   rw [e1]
   show (forIn r ((n,c) :: acc) _ : Sem _) = _
   rw [jm3 r _ fun p hp=>h p (List.mem_cons_of_mem _ hp)]
   show _ = pure (clOf env.cells r (if NameKind.free == NameKind.free then _ else _))
   have hc' : env.cells.lookup n = some c:=hc
   rw [if_pos ffk,hc']
   rfl
  ·have e2 : (k == NameKind.free) = false:=by simpa using hk
   show (if (k == NameKind.free) = true then _ else _ : Sem _) >>= _ = _
   rw [if_neg (by rw [e2]; decide)]
   show (forIn r acc _ : Sem _) = _
   rw [jm3 r _ fun p hp=>h p (List.mem_cons_of_mem _ hp)]
   show _ = pure (clOf env.cells r (if (k == NameKind.free) = true then _ else _))
   rw [if_neg (by rw [e2]; decide)]
theorem jhk {scope : Scope} {env : Env} (h : ∀ p ∈ scope.names,p.2 = .free → ∃ c,env.cells.lookup p.1 = some c) : closureFor scope env = pure (clOf env.cells scope.names []):=by
 unfold closureFor
 have e:=jm3 (env:=env) scope.names [] h
 show (forIn scope.names ([] : List (Str × Addr)) _ >>= fun r=>pure r : Sem _) = _
 have e' : (forIn scope.names ([] : List (Str × Addr)) fun (p : Str × NameKind) (cs : List (Str × Addr))=>(if p.2 == NameKind.free then (do let a ← cellOf env p.1; pure (ForInStep.yield ((p.1,a) :: cs))) else pure (ForInStep.yield cs) : Sem (ForInStep (List (Str × Addr))))) >>= (fun r=>(pure r : Sem _)) = pure (clOf env.cells scope.names []):=by rw [e]; rfl
 exact e'
theorem jk8 {cells : List (Str × Addr)} {x : Str} {c : Addr} : ∀ (ns : List (Str × NameKind)) (acc : List (Str × Addr)),(clOf cells ns acc).lookup x = some c → acc.lookup x = some c ∨ ((x,NameKind.free) ∈ ns ∧ c = (cells.lookup x).getD 0)
 | [],acc,h=>.inl h
 | (n,k) :: r,acc,h=>by
  rcases jk8 r _ h with e | ⟨e1,e2⟩
  ·by_cases hk : k = .free
   ·subst hk
    rw [if_pos ffk,List.lookup_cons] at e
    cases hx : x == n with
    | true =>
     rw [hx] at e
     have : x = n:=by simpa using hx
     subst this
     exact .inr ⟨List.mem_cons_self,(Option.some.inj e).symm⟩
    | false=>rw [hx] at e; exact .inl e
   ·rw [if_neg (by simpa using hk)] at e
    exact .inl e
  ·exact .inr ⟨List.mem_cons_of_mem _ e1,e2⟩
theorem jk7 {cells : List (Str × Addr)} {x : Str} : ∀ (ns : List (Str × NameKind)) (acc : List (Str × Addr)),acc.lookup x = some ((cells.lookup x).getD 0) → (clOf cells ns acc).lookup x = some ((cells.lookup x).getD 0)
 | [],acc,h=>h
 | (n,k) :: r,acc,h=>by
  refine jk7 r _ ?_
  by_cases hk : k = .free
  ·subst hk
   rw [if_pos ffk,List.lookup_cons]
   cases hx : x == n with
   | true =>
    have : x = n:=by simpa using hx
    subst this
    rfl
   | false=>exact h
  ·rw [if_neg (by simpa using hk)]; exact h
theorem jh5 {cells : List (Str × Addr)} {x : Str} : ∀ (ns : List (Str × NameKind)) (acc : List (Str × Addr)),(x,NameKind.free) ∈ ns → (clOf cells ns acc).lookup x = some ((cells.lookup x).getD 0)
 | [],acc,h=>by cases h
 | (n,k) :: r,acc,h=>by
  rcases List.mem_cons.mp h with e | e
  ·cases e
   refine jk7 r _ ?_
   rw [if_pos ffk,List.lookup_cons]
   simp
  ·exact jh5 r _ e
noncomputable def jbe (X : Cx) (scope : Scope) (N : List Str) (C : Addr) (s0 : Shared) (H0 : Hp) (ex : List Addr) : Cx where
 prog:=X.prog
 w:=X.w
 K:=X.K
 mg:=X.mg
 base:=X.base
 A:=X.A
 N:=N
 s₀:=s0
 H₀:=H0
 env:=compEnvC scope (clOf X.env.cells scope.names []) C X.env
 outer:=X.stack
 stack:=X.stack
 ex:=ex
 fn:=fun _=>false
 calm:=X.calm
 pn:=[]
 xe:=fun _ _=>False
noncomputable def jqv (N : List Str) (out : List (Str × NameKind)) (inn : List (Str × NameKind)) (caps : List (Str × Nat)) : Bool :=
 inn.all (fun p=>p.2 != .cell) && inn.all (fun p=>p.2 != .local || inn.lookup p.1 == some .local) &&
 inn.all (fun p=>p.2 != .free || (out.lookup p.1 == some .cell || out.lookup p.1 == some .free)) &&
 caps.all (fun p=>N[p.2]? == some p.1 && inn.lookup p.1 == some .free)
structure CapsOk (X : Cx) (scope : Scope) (caps : List (Str × Nat)) : Prop where
 kind : scope.kind = .function
 nocell : ∀ x ∈ scope.names,x.2 ≠ .cell
 loc : ∀ x ∈ scope.names,x.2 = .local → scope.names.lookup x.1 = some .local
 fre : ∀ p ∈ scope.names,p.2 = .free → X.env.kindOf p.1 = some .cell ∨ X.env.kindOf p.1 = some .free
 cap : ∀ p ∈ caps,X.N[p.2]? = some p.1 ∧ scope.names.lookup p.1 = some .free
theorem jdy {X : Cx} {scope osc : Scope} {N : List Str} {caps : List (Str × Nat)} (hN : X.N = N) (ho : X.env.scope = osc) (hk : scope.kind = .function) (h : jqv N osc.names scope.names caps = true) : CapsOk X scope caps:=by
 unfold jqv at h
 simp only [Bool.and_eq_true,List.all_eq_true] at h
 obtain ⟨⟨⟨h1,h2⟩,h3⟩,h4⟩:=h
 refine ⟨hk,fun x hx=>by simpa using h1 x hx,fun x hx hl=>?_,fun p hp hf=>?_,fun p hp=>?_⟩
 ·have:=h2 x hx
  rw [hl] at this
  simpa using this
 ·have:=h3 p hp
  rw [hf] at this
  show X.env.scope.names.lookup p.1 = _ ∨ X.env.scope.names.lookup p.1 = _
  rw [ho]
  simpa using this
 ·have:=h4 p hp
  rw [hN]
  simpa using this
noncomputable def jcr (own : Nat) (caps : List (Str × Nat)) (σ : St) : St:=List.replicate own none ++ caps.map fun p=>(σ[p.2]?).join
noncomputable def jqm (own : Nat) (caps : List (Str × Nat)) (wi : TI) (g : TG) (tc : TT) (te : TE) : TE:=fun σ H Q=>wi σ H fun J H1=>∀ D,H1 D = none →
 ∃ W : Nat → Nat → St → Hp → Prop,(∃ m,W 0 m (jcr own caps σ) (upd H1 D (.lst []))) ∧ ∀ i m σ' H',W i m σ' H' →
  (J.stop i H' ∧ Q (.ref D) H') ∨ (J.go i H' ∧ ∃ N : St → Hp → Prop,(∀ σ2 H2,N σ2 H2 → ∃ m',m' < m ∧ W (i + 1) m' σ2 H2) ∧
   ∀ x H2,J.yld i H' x H2 → g x σ' H2 fun σ3 H3=>tc σ3 H3 fun b H4=>if b = true then te σ3 H4 fun v H5=>∃ ys,H5 D = some (.lst ys) ∧ ys.length < sizeLine ∧ N σ3 (upd H5 D (.lst (ys ++ [v]))) else N σ3 H4)
theorem jeu {scope : Scope} {env : Env} {x : Str} {k : NameKind} : ∀ {ns : List (Str × NameKind)},(ns.map fun (n,k)=>if (k == NameKind.free && env.scope.kind == .function && env.kindOf n == some .cell) then (n,NameKind.cell) else (n,k)).lookup x = some k →
  ∃ k',ns.lookup x = some k' ∧ (k = k' ∨ (k' = .free ∧ k = .cell))
 | [],h=>by simp at h
 | (n,k0) :: r,h=>by
  rw [List.map_cons] at h
  by_cases hc : (k0 == NameKind.free && env.scope.kind == .function && env.kindOf n == some .cell) = true
  ·simp only [if_pos hc,List.lookup_cons] at h
   cases hx : x == n with
   | true =>
    rw [hx] at h
    refine ⟨k0,by simp [List.lookup_cons,hx],.inr ⟨?_,(Option.some.inj h).symm⟩⟩
    simp only [Bool.and_eq_true] at hc
    simpa using hc.1.1
   | false =>
    rw [hx] at h
    obtain ⟨k',e,q⟩:=jeu (scope:=scope) h
    exact ⟨k',by simp only [List.lookup_cons,hx]; exact e,q⟩
  ·simp only [if_neg hc,List.lookup_cons] at h
   cases hx : x == n with
   | true =>
    rw [hx] at h
    exact ⟨k0,by simp [List.lookup_cons,hx],.inl (Option.some.inj h).symm⟩
   | false =>
    rw [hx] at h
    obtain ⟨k',e,q⟩:=jeu (scope:=scope) h
    exact ⟨k',by simp only [List.lookup_cons,hx]; exact e,q⟩
theorem jet {env : Env} {x : Str} : ∀ {ns : List (Str × NameKind)},ns.lookup x = some .free →
  (ns.map fun (n,k)=>if (k == NameKind.free && env.scope.kind == .function && env.kindOf n == some .cell) then (n,NameKind.cell) else (n,k)).lookup x = some .cell ∨
  (ns.map fun (n,k)=>if (k == NameKind.free && env.scope.kind == .function && env.kindOf n == some .cell) then (n,NameKind.cell) else (n,k)).lookup x = some .free
 | [],h=>by simp at h
 | (n,k0) :: r,h=>by
  rw [List.map_cons]
  simp only [List.lookup_cons] at h
  by_cases hc : (k0 == NameKind.free && env.scope.kind == .function && env.kindOf n == some .cell) = true
  ·simp only [if_pos hc,List.lookup_cons]
   cases hx : x == n with
   | true=>exact .inl rfl
   | false=>rw [hx] at h; exact jet h
  ·simp only [if_neg hc,List.lookup_cons]
   cases hx : x == n with
   | true=>rw [hx] at h; exact .inr h
   | false=>rw [hx] at h; exact jet h
theorem jnh {own : Nat} {caps : List (Str × Nat)} {σ : St} {i : Nat} {v : V} (h : (jcr own caps σ)[i]? = some (some v)) : ∃ p,caps[i - own]? = some p ∧ own ≤ i ∧ σ[p.2]? = some (some v):=by
 unfold jcr at h
 by_cases hi : i < own
 ·rw [List.getElem?_append_left (by simpa using hi),List.getElem?_replicate,if_pos hi] at h
  cases h
 ·rw [List.getElem?_append_right (by simpa using hi),List.length_replicate,List.getElem?_map] at h
  cases e : caps[i - own]? with
  | none=>rw [e] at h; cases h
  | some p =>
   rw [e] at h
   refine ⟨p,rfl,by omega,?_⟩
   have h' : (σ[p.2]?).join = some v:=Option.some.inj h
   cases q : σ[p.2]? with
   | none=>rw [q] at h'; cases h'
   | some o=>rw [q] at h'; exact congrArg some h'
section
variable {X : Cx} {pins : List (Addr × Obj)} {σ : St} {H : Hp} {s : Shared}
theorem jli {scope : Scope} {own : List Str} {caps : List (Str × Nat)} {h' : Heap} {t' : Nat} {fp : List Addr} (I : Inv X pins σ H s) (ck : CapsOk X scope caps)
  (hf : ∀ b ∈ fp,FpOk X pins H b) (hb : ∀ b ∈ fp,b < s.heap.objs.size) (ns : h'.Ns s.heap.objs.size fun x=>([] : List (Str × Value)).reverse.lookup x)
  (sb : Heap.SameBut s.heap.objs.size (s.heap.push { cls:=.type "dict",data:=.dict #[] }) h') :
  Inv (jbe X scope (own ++ caps.map (·.1)) s.heap.objs.size s H fp) [] (jcr own.length caps σ) H { s with heap:=h',toks:=t' }:=by
 have up : ∀ b o,s.heap.get? b = some o → h'.get? b = some o:=fun b o e=>sb.extBut b o (Nat.ne_of_lt (Heap.lt_size e)) (Heap.get?_push_of_some _ e)
 have stk : ∀ b ∈ fp,b ∉ frs X.stack:=fun b hb' z=>by
  obtain ⟨_,f1,f2,_⟩:=hf b hb'
  rcases List.mem_cons.mp (I.stkSub b z) with q | q
  ·exact f1 q
  ·exact f2 q
 have clc : ∀ x c,(clOf X.env.cells scope.names []).lookup x = some c → X.env.cells.lookup x = some c:=fun x c h=>by
  rcases jk8 _ _ h with e | ⟨e1,e2⟩
  ·cases e
  ·obtain ⟨c',hc'⟩:=I.ok.has x (ck.fre _ e1 rfl)
   rw [hc'] at e2 ⊢
   exact congrArg some e2.symm
 have cell : ∀ x c,(clOf X.env.cells scope.names []).lookup x = some c → ∃ v,s.heap.IsCell c v:=fun x c h=>I.cell x c (clc x c h)
 have okk : (jbe X scope (own ++ caps.map (·.1)) s.heap.objs.size s H fp).Ok:=by
  refine ⟨I.ok.mod,ck.kind,I.ok.glob,I.ok.blt,Nat.le_refl _,fun x y c h1 h2=>I.ok.inj x y c (clc x c h1) (clc y c h2),fun x hx=>?_,fun x c hfn=>?_,I.ok.hd,I.ok.frames,.inl rfl,fun b z=>⟨?_,fun x c h=>?_⟩,I.bs,
   Nat.le_trans I.ok.bsz I.sz,fun b o e z=>?_,stk,I.stack,I.stkFree⟩
  ·have hx' : ∃ k,(scope.names.map fun (n,k)=>if (k == NameKind.free && X.env.scope.kind == .function && X.env.kindOf n == some .cell) then (n,NameKind.cell) else (n,k)).lookup x = some k ∧ (k = .cell ∨ k = .free):=by
    rcases hx with q | q
    ·exact ⟨_,q,.inl rfl⟩
    ·exact ⟨_,q,.inr rfl⟩
   obtain ⟨k,q,hk⟩:=hx'
   obtain ⟨k',e,r⟩:=jeu (scope:=scope) q
   have m:=PySem.mem_of_lookup e
   have hfree : k' = .free:=by
    rcases r with r | r
    ·rcases hk with hk | hk
     ·exact absurd (r.symm.trans hk) (ck.nocell _ m)
     ·exact r.symm.trans hk
    ·exact r.1
   subst hfree
   exact ⟨_,jh5 _ _ m⟩
  ·cases hfn
  ·exact Nat.ne_of_lt (hb b z)
  ·exact (hf b z).2.2.2.2.1 x c (clc x c h)
  ·rcases (hf b z).2.2.2.1 with q | q
   ·exact I.ok.noex b o e q
   ·exact absurd (Nat.lt_of_lt_of_le (Heap.lt_size e) (Nat.le_trans I.ok.bsz q)) (Nat.lt_irrefl _)
 refine ⟨okk,rfl,I.bare,Un.kept up,⟨_,ns,fun i x v h1 h2 h3=>?_⟩,fun x c h=>?_,I.hok.fresh (Nat.le_refl _),fun x c h=>I.freeC x c (clc x c h),fun p hp=>absurd (show p ∈ ([] : List (Addr × Obj)) from hp) (by simp),I.hok.kept up,?_⟩
 ·obtain ⟨p,hp,hi,hv⟩:=jnh h2
  have hx : p.1 = x:=by
   have h1' : (own ++ caps.map (·.1))[i]? = some x:=h1
   rw [List.getElem?_append_right hi,List.getElem?_map,hp] at h1'
   exact Option.some.inj h1'
  subst hx
  obtain ⟨cN,cf⟩:=ck.cap p (List.mem_of_getElem? hp)
  have mem:=PySem.mem_of_lookup cf
  obtain ⟨m,hn,hl⟩:=I.loc
  have kf:=ck.fre _ mem rfl
  obtain ⟨u,r,l⟩:=hl p.2 p.1 v cN hv (by rcases kf with q | q; exact .inr (.inl q); exact .inr (.inr q))
  refine ⟨u,r,.inr ?_⟩
  rcases l with ⟨k,_⟩ | ⟨k,c,e,z⟩
  ·rcases kf with q | q <;> (rw [q] at k; cases k)
  ·refine ⟨jet cf,c,?_,z.keeps up⟩
   show (clOf X.env.cells scope.names []).lookup p.1 = some c
   rw [jh5 _ _ mem,e]
   rfl
 ·obtain ⟨v,z⟩:=cell x c h
  exact ⟨v,z.keeps up⟩
 ·show (jcr own.length caps σ).length = (own ++ caps.map (·.1)).length
  simp [jcr]
end
end L2
namespace L2
open PySem PySem.Spec PyProof.Rows
noncomputable abbrev NoX : Value → Shared → Prop:=fun _ _=>False
theorem jp8 {α : Type} {M : Model} {A : Around} {t : Sem α} {Q : α → Shared → Prop} {E : Value → Shared → Prop} {s : Shared} (h : wpAny M A t Q NoX s) : wpAny M A t Q E s:=wpAny_mono h (fun _ _ q=>q) fun _ _ q=>q.elim
noncomputable abbrev jos (ifs : List Expr) (env : Env) : Sem Bool:=forIn ifs true fun c r=>if r = true then do let ok ← isTrue c env (eval c env); pure (ForInStep.yield ok) else pure (ForInStep.yield r)
section
variable {prog : Program} {w : World} {A : Around} {R : Result → Shared → Prop} {s : Shared}
theorem jf7 {elt target iter : Expr} {ifs : List Expr} {scope : Scope} {pos : Pos} {it acc : Value} {env : Env} (J : Nat → Shared → Prop)
  (turn : ∀ n s,J n s → wpAny (model prog w) A (pyNext it) (fun r s1=>match r with
   | none=>R (.ok .next) s1
   | some v=>wpAny (model prog w) A (letOwnedTupleGo target it v) (fun _ s2=>wpAny (model prog w) A (assign target env v) (fun _ s3=>wpAny (model prog w) A (jos ifs env) (fun ok s4 =>
     if ok = true then wpAny (model prog w) A (eval elt env) (fun x s5=>wpAny (model prog w) A (call (.builtin "list.append") [acc,x]) (fun _ s6=>∃ m,m < n ∧ J m s6) NoX s5) NoX s4
     else ∃ m,m < n ∧ J m s4) NoX s3) NoX s2) NoX s1) NoX s)
  (n : Nat) (h : J n s) : codeAny (model prog w) A (.compLoop (.ListComp elt [⟨target,iter,ifs,0⟩] scope pos) 0 it acc env) R s:=by
 refine codeAny_loop rfl J (fun n s hJ=>?_) n h
 show wpAny _ A ((compTurn (.ListComp elt [⟨target,iter,ifs,0⟩] scope pos) 0 it acc env).onRaise (fun x=>do noteFrame x env; theTreesLotGoes x)) _ _ s
 refine wpAny_noted (jp8 ?_)
 rw [compTurn_list]
 refine wpAny_bind (wpAny_standAt (wpAny_bind (thn (turn n s hJ) fun r s1 h1=>?_)))
 cases r with
 | none=>exact wpAny_pure h1
 | some v =>
  refine wpAny_bind (thn h1 fun _ s2 h2=>wpAny_bind (thn h2 fun _ s3 h3=>wpAny_bind (thn h3 fun ok s4 h4=>?_)))
  cases ok with
  | false =>
   rw [if_neg (by decide)] at h4
   first
    | exact wpAny_pure ⟨rfl,h4⟩
    | exact wpAny_bind (wpAny_pure (wpAny_pure ⟨rfl,h4⟩))
  | true =>
   rw [if_pos rfl] at h4
   first
    | exact wpAny_bind (wpAny_bind (thn h4 fun x s5 h5=>wpAny_bind (thn h5 fun _ s6 h6=>wpAny_pure (wpAny_pure ⟨rfl,h6⟩))))
    | exact wpAny_bind (thn h4 fun x s5 h5=>wpAny_bind (thn h5 fun _ s6 h6=>wpAny_pure ⟨rfl,h6⟩))
end
section
variable {X : Cx}
noncomputable def PC0 (X : Cx) (ifs : List Expr) (t : TT) : Prop :=
 ∀ (pins : List (Addr × Obj)) (s : Shared) (σ : St) (H : Hp) (Q : Bool → Hp → Prop),Inv X pins σ H s → t σ H Q → wpAny (model X.prog X.w) X.A (jos ifs X.env) (TP X pins σ Q) X.xe s
noncomputable def jt2 : TT:=fun _ H Q=>Q true H
theorem jtd : PC0 X [] jt2:=fun pins s σ H Q I h=>wpAny_tests_nil ⟨H,I,h⟩
theorem jv9 {c : Expr} {t : TT} (h : PT X c t) : PC0 X [c] t:=fun pins s σ H Q I hw=>wpAny_tests_one (h pins s σ H Q I hw)
theorem jsf {P : Program} {w : World} {H : Hp} {h h' : Heap} {C : Addr} (ok : HOk P w H h) (hC : H C = none) (sb : Heap.SameBut C h h') : HOk P w H h':=fun b ob e=>by
 refine (ok b ob e).stay (fun c u hc q=>(sb.2 c ?_).trans q) (fun _ q=>q) fun _ _ q=>q
 rintro rfl
 rcases hc with rfl | hc
 ·rw [hC] at e; cases e
 ·rw [hC] at hc; cases hc
theorem jrl {fs ex : List Addr} {H H' : Hp} {h h1 h2 : Heap} {C : Addr} (u : Un fs ex H H' h h1) (hC : h.objs.size ≤ C) (sb : Heap.SameBut C h1 h2) : Un fs ex H H' h h2:=by
 have ne : ∀ b o,h.get? b = some o → b ≠ C:=fun b o e=>Nat.ne_of_lt (Nat.lt_of_lt_of_le (Heap.lt_size e) hC)
 refine ⟨fun b o e n a c=>(sb.2 b (ne b o e)).trans (u.keep b o e n a c),fun b o e n a c=>?_,u.free,fun b o e c=>?_,u.tups,u.frzs,u.tbls⟩
 ·obtain ⟨sl,q⟩:=u.slot b o e n a c
  exact ⟨sl,(sb.2 b (ne b o e)).trans q⟩
 ·obtain ⟨o',q⟩:=u.there b o e c
  exact ⟨o',(sb.2 b (ne b o e)).trans q⟩
inductive CpInv (X : Cx) (tn : Nat → Heap → Prop) (fp : List Addr) (W : Nat → Nat → St → Hp → Prop) (n : Nat) (s : Shared) : Prop
 | mk (i : Nat) (σ : St) (H : Hp) (hI : Inv X [] σ H s) (ht : tn i s.heap) (hf : ∀ b ∈ fp,H b = none) (hw : W i n σ H)
theorem jte {elt tg iter : Expr} {ifs : List Expr} {scope : Scope} {pos : Pos} {own : List Str} {caps : List (Str × Nat)} {wi : TI} {g : TG} {tc : TT} {te : TE} (hc : X.calm = true) (ck : CapsOk X scope caps)
  (hi : PI X tg iter wi) (hg : ∀ C s0 H0 ex,PG (jbe X scope (own ++ caps.map (·.1)) C s0 H0 ex) tg g) (ht : ∀ C s0 H0 ex,PC0 (jbe X scope (own ++ caps.map (·.1)) C s0 H0 ex) ifs tc)
  (he : ∀ C s0 H0 ex,PE (jbe X scope (own ++ caps.map (·.1)) C s0 H0 ex) elt te) (hs : autoParam (∀ x,foldedSetIterable iter X.env x = pure x) zau3._auto_1) :
  PE X (.ListComp elt [⟨tg,iter,ifs,0⟩] scope pos) (jqm own.length caps wi g tc te):=by
 intro pins s σ H Q I h
 have hcl : closureFor scope X.env = pure (clOf X.env.cells scope.names []):=jhk fun p hp hf=>I.ok.has p.1 (ck.fre p hp hf)
 rw [eval_ListComp]
 refine wpAny_comprehension_free (use:=none) rfl hs hcl ck.kind ck.loc (thn (hi pins s σ H _ I h) fun v s1 h1=>thn h1 fun itv s2 h2=>?_)
 obtain ⟨it,fp,tn,J,H2,e,I2,T,st2,f2,hw⟩:=h2
 subst e
 obtain ⟨W,⟨m0,w0⟩,turn⟩:=hw s2.heap.objs.size (I2.hok.fresh (Nat.le_refl _))
 refine wpAny_newObj_type ?_
 have hD:=I2.hok.fresh (Nat.le_refl s2.heap.objs.size)
 have I3 : Inv X pins σ (upd H2 s2.heap.objs.size (.lst [])) { s2 with heap:=s2.heap.push { cls:=.type "list",data:=.seq ([] : List Value).toArray } } :=
  I2.laid (t':=s2.toks) (fun b u e=>Heap.get?_push_of_some _ e) (Nat.le_refl _) ⟨Nat.zero_le _,[],0,.nil,Heap.get?_push_size _ rfl⟩
 have hlt : ∀ b ∈ fp,b < s2.heap.objs.size:=fun b hb=>by obtain ⟨o,e,_⟩:=T.obj _ _ st2 b hb; exact Heap.lt_size e
 have f3 : ∀ b ∈ fp,FpOk X pins (upd H2 s2.heap.objs.size (.lst [])) b:=fun b hb=>⟨by rw [jai (Nat.ne_of_lt (hlt b hb))]; exact (f2 b hb).1,(f2 b hb).2⟩
 have hlt3 : ∀ b ∈ fp,b < (s2.heap.push { cls:=.type "list",data:=.seq ([] : List Value).toArray }).objs.size:=fun b hb=>by rw [Heap.size_push]; exact Nat.lt_succ_of_lt (hlt b hb)
 refine wpAny_newFunctionEnv ck.nocell (by intro y hy; simp at hy) (fun h' hns hsb=>?_) ck.kind
 generalize hS3 : ({ s2 with heap:=s2.heap.push { cls:=.type "list",data:=.seq ([] : List Value).toArray } } : Shared) = S3 at I3 hns hsb ⊢
 have hlt3' : ∀ b ∈ fp,b < S3.heap.objs.size:=by rw [← hS3]; exact hlt3
 have I4:=jli (own:=own) (t':=S3.toks + ([] : List (Str × Value)).length) I3 ck f3 hlt3' hns hsb
 have st4 : tn 0 h':=T.keep _ _ _ st2 fun b hb o e=>hsb.extBut b o (Nat.ne_of_lt (hlt3' b hb)) (Heap.get?_push_of_some _ (by rw [← hS3]; exact Heap.get?_push_of_some _ e))
 have hsz : s2.heap.objs.size < S3.heap.objs.size:=by rw [← hS3]; show _ < (Heap.push _ _).objs.size; rw [Heap.size_push]; exact Nat.lt_succ_self _
 generalize hCC : S3.heap.objs.size = C at I4 hsb hns hsz
 have loop : codeAny (model X.prog X.w) X.A (.compLoop (.ListComp elt [⟨tg,iter,ifs,0⟩] scope pos) 0 (.ref it) (.ref s2.heap.objs.size) (compEnvC scope (clOf X.env.cells scope.names []) C X.env))
   (compPost (model X.prog X.w) X.A X.xe none (EP X pins σ Q) (.ref s2.heap.objs.size) C) { S3 with heap:=h',toks:=S3.toks + ([] : List (Str × Value)).length }:=by
  have xf : ∀ {H' : Hp},(∀ b ∈ fp,H' b = none) → ∀ b ∈ fp,FpOk (jbe X scope (own ++ caps.map (·.1)) C S3 (upd H2 s2.heap.objs.size (.lst [])) fp) [] H' b:=fun hn b hb=>by
   refine ⟨hn b hb,?_,?_,.inl hb,fun x c e=>(I4.ok.exf b hb).2 x c e,fun p hp=>absurd (show p ∈ ([] : List (Addr × Obj)) from hp) (by simp)⟩
   ·exact (I4.ok.exf b hb).1
   ·exact I4.ok.exfs b hb
  refine jf7 (CpInv (jbe X scope (own ++ caps.map (·.1)) C S3 (upd H2 s2.heap.objs.size (.lst [])) fp) tn fp W) ?_ m0
   ⟨0,_,_,I4,st4,fun b hb=>(f3 b hb).1,w0⟩
  rintro n s5 ⟨i,σ5,H5,I5,st5,fr5,w5⟩
  rcases turn i n σ5 H5 w5 with ⟨stop,qn⟩ | ⟨go,N,hN,step⟩
  ·refine thn (T.done (jbe X scope (own ++ caps.map (·.1)) C S3 (upd H2 s2.heap.objs.size (.lst [])) fp) rfl rfl rfl hc i [] s5 σ5 H5 NoX I5 (xf fr5) st5 stop) fun r s6 hzz=>?_
   obtain ⟨hr,I6⟩:=hzz
   subst hr
   obtain ⟨m6,n6,_⟩:=id I6.loc
   refine ⟨m6,n6,fun h7 sb7=>⟨.ref s2.heap.objs.size,H5,?_,rfl,qn⟩⟩
   have C3 : S3.heap.objs.size ≤ C:=Nat.le_of_eq hCC
   refine I3.call' (s':={ s6 with heap:=h7 }) (ch:=fp) I6.os (jrl I6.base C3 sb7) (jsf I6.hok I6.free sb7) I6.bare fun b hb=>?_
   obtain ⟨_,q1,_,q3,q4,q5⟩:=f3 b hb
   exact ⟨q3,q1,q4,q5⟩
  ·refine thn (T.item (jbe X scope (own ++ caps.map (·.1)) C S3 (upd H2 s2.heap.objs.size (.lst [])) fp) rfl rfl rfl hc i [] s5 σ5 H5 NoX I5 (xf fr5) st5 go) fun r s6 hzz=>?_
   obtain ⟨u,hr,h6⟩:=hzz
   subst hr
   refine thn h6 fun _ s7 hzz=>?_
   obtain ⟨x,H7,I7,r7,y7,st7,fr7⟩:=hzz
   have I7':=I7.pinned (xf fr7) (T.obj _ _ st7)
   refine thn (hg _ _ _ _ _ s7 σ5 H7 x u _ I7' r7 (step x H7 y7)) fun _ s8 hzz=>?_
   obtain ⟨σ8,H8,I8,q8⟩:=hzz
   refine thn (ht _ _ _ _ _ s8 σ8 H8 _ I8 q8) fun ok s9 hzz=>?_
   obtain ⟨H9,I9,q9⟩:=hzz
   have again : ∀ {s' : Shared} {σ' : St} {H' : Hp},Inv (jbe X scope (own ++ caps.map (·.1)) C S3 (upd H2 s2.heap.objs.size (.lst [])) fp) ([] ++ jhs fp s7.heap) σ' H' s' → N σ' H' → ∃ m,m < n ∧ CpInv (jbe X scope (own ++ caps.map (·.1)) C S3 (upd H2 s2.heap.objs.size (.lst [])) fp) tn fp W m s':=fun {s' σ' H'} Ia na=>by
    obtain ⟨m',hm,wa⟩:=hN σ' H' na
    refine ⟨m',hm,i + 1,σ',H',Ia.unpinned,T.keep _ _ _ st7 fun b hb o e=>(Ia.pin (b,o) (List.mem_append_right _ (List.mem_append_right _ (jc0 hb e)))).1,fun b hb=>?_,wa⟩
    obtain ⟨o,e,d⟩:=T.obj _ _ st7 b hb
    exact (Ia.pin (b,o) (List.mem_append_right _ (List.mem_append_right _ (jc0 hb e)))).2.1
   cases ok with
   | false =>
    rw [if_neg (by decide)] at q9 ⊢
    exact again I9 q9
   | true =>
    rw [if_pos rfl] at q9 ⊢
    refine thn (he _ _ _ _ _ s9 σ8 H9 _ I9 q9) fun y s10 hzz=>?_
    obtain ⟨vy,H10,I10,r10,ys,hys,hlen,q10⟩:=hzz
    refine thn (jfp _ s10 σ8 H10 (.ref s2.heap.objs.size) [vy] (.ref s2.heap.objs.size) [y] (fun _ H'=>N σ8 H') I10 rfl (.cons r10 .nil) ⟨_,ys,vy,rfl,rfl,hys,hlen,q10⟩) fun _ s11 hzz=>?_
    obtain ⟨_,H11,I11,_,q11⟩:=hzz
    exact again I11 q11
 exact codeAny_compStart_list loop (T.self _ 0 _ _ _ st4 loop)
end
end L2
namespace DL
open PySem PySem.Spec L2
inductive D where
 | non | bl (b : Bool) | int (i : Int) | str (x : Str) | ty (n : String) | obj (i : Nat) | tup (xs : List D) | lst (xs : List D)
structure XD where
 cls : Str
 fs : List (Str × D)
noncomputable abbrev M (α : Type):=Option (Except XD α)
noncomputable def M.b {α β : Type} (m : M α) (f : α → M β) : M β:=match m with
 | none=>none
 | some (.error x)=>some (.error x)
 | some (.ok a)=>f a
noncomputable def M.p {α : Type} (a : α) : M α:=some (.ok a)
noncomputable def M.o {α : Type} : Option α → M α
 | none=>none
 | some a=>some (.ok a)
inductive M.BInv {α β : Type} (m : M α) (f : α → M β) (r : Except XD β) : Prop
 | ok (a : α) (h1 : m = some (.ok a)) (h2 : f a = some r)
 | err (x : XD) (h1 : m = some (.error x)) (h2 : r = .error x)
theorem M.b_inv {α β : Type} {m : M α} {f : α → M β} {r : Except XD β} (h : m.b f = some r) : M.BInv m f r:=by
 cases m with
 | none=>cases h
 | some e =>
  cases e with
  | error x=>exact .err x rfl (Option.some.inj h).symm
  | ok a=>exact .ok a rfl h
theorem M.o_inv {α : Type} {m : Option α} {r : Except XD α} (h : M.o m = some r) : ∃ a,m = some a ∧ r = .ok a:=by
 cases m with
 | none=>cases h
 | some a=>exact ⟨a,rfl,(Option.some.inj h).symm⟩
@[simp] theorem M.b_ok {α β : Type} (a : α) (f : α → M β) : M.b (some (.ok a)) f = f a:=rfl
@[simp] theorem M.b_p {α β : Type} (a : α) (f : α → M β) : M.b (M.p a) f = f a:=rfl
@[simp] theorem M.b_err {α β : Type} (x : XD) (f : α → M β) : M.b (some (.error x)) f = some (.error x):=rfl
@[simp] theorem M.o_some {α : Type} (a : α) : M.o (some a) = M.p a:=rfl
noncomputable abbrev Rho:=Nat → Option Addr
mutual
noncomputable def Rep (ρ : Rho) (K : PySem.W.Frag) (H : Hp) : D → V → Prop
 | .non,v=>v = .non
 | .bl b,v=>v = .bl b
 | .int i,v=>v = .int i
 | .str x,v=>v = .str x
 | .ty n,v=>v = .ty n
 | .obj i,v=>∃ a,ρ i = some a ∧ v = .ref a
 | .tup ds,v=>∃ a xs,v = .ref a ∧ SqT K H a xs ∧ Reps ρ K H ds xs
 | .lst ds,v=>∃ a xs,v = .ref a ∧ SqL K H a xs ∧ Reps ρ K H ds xs
noncomputable def Reps (ρ : Rho) (K : PySem.W.Frag) (H : Hp) : List D → List V → Prop
 | [],xs=>xs = []
 | d :: ds,xs=>∃ v vs,xs = v :: vs ∧ Rep ρ K H d v ∧ Reps ρ K H ds vs
end
variable {ρ : Rho} {K : PySem.W.Frag} {H H' : Hp}
theorem joi {a : Addr} {u : HO} (e : Same H H') (h : Rd H a u) : Rd H' a u:=by
 rcases h with h | ⟨o,h⟩
 ·exact .inl (e a _ h)
 ·exact .inr ⟨o,e a _ h⟩
theorem jcu {a : Addr} {xs : List V} (e : Same H H') (h : SqL K H a xs) : SqL K H' a xs:=h.imp (joi e) id
theorem jc9 {a : Addr} {xs : List V} (e : Same H H') (h : SqT K H a xs) : SqT K H' a xs:=h.imp (joi e) id
mutual
theorem Rep.mono (e : Same H H') : ∀ {d : D} {v : V},Rep ρ K H d v → Rep ρ K H' d v
 | .non,_,h=>by unfold Rep at h ⊢; exact h
 | .bl _,_,h=>by unfold Rep at h ⊢; exact h
 | .int _,_,h=>by unfold Rep at h ⊢; exact h
 | .str _,_,h=>by unfold Rep at h ⊢; exact h
 | .ty _,_,h=>by unfold Rep at h ⊢; exact h
 | .obj _,_,h=>by unfold Rep at h ⊢; exact h
 | .tup _,_,h=>by
  unfold Rep at h ⊢
  obtain ⟨a,xs,q1,q2,q3⟩:=h
  exact ⟨a,xs,q1,jc9 e q2,Reps.mono e q3⟩
 | .lst _,_,h=>by
  unfold Rep at h ⊢
  obtain ⟨a,xs,q1,q2,q3⟩:=h
  exact ⟨a,xs,q1,jcu e q2,Reps.mono e q3⟩
theorem Reps.mono (e : Same H H') : ∀ {ds : List D} {vs : List V},Reps ρ K H ds vs → Reps ρ K H' ds vs
 | [],_,h=>by unfold Reps at h ⊢; exact h
 | _ :: _,_,h=>by
  unfold Reps at h ⊢
  obtain ⟨v,vs,q1,q2,q3⟩:=h
  exact ⟨v,vs,q1,Rep.mono e q2,Reps.mono e q3⟩
end
theorem reps_nil {vs : List V} : Reps ρ K H [] vs ↔ vs = []:=by unfold Reps; exact Iff.rfl
theorem reps_cons {d : D} {ds : List D} {vs : List V} : Reps ρ K H (d :: ds) vs ↔ ∃ v r,vs = v :: r ∧ Rep ρ K H d v ∧ Reps ρ K H ds r:=by
 conv=>lhs; unfold Reps
theorem Reps.cons {d : D} {ds : List D} {v : V} {vs : List V} (h : Rep ρ K H d v) (t : Reps ρ K H ds vs) : Reps ρ K H (d :: ds) (v :: vs):=reps_cons.mpr ⟨v,vs,rfl,h,t⟩
theorem Reps.nil : Reps ρ K H [] []:=reps_nil.mpr rfl
theorem Reps.length : ∀ {ds : List D} {vs : List V},Reps ρ K H ds vs → vs.length = ds.length
 | [],_,h=>by rw [reps_nil.mp h]; rfl
 | _ :: _,_,h=>by
  obtain ⟨v,r,rfl,_,t⟩:=reps_cons.mp h
  simp [Reps.length t]
theorem Reps.get : ∀ {ds : List D} {vs : List V} {i : Nat} {d : D},Reps ρ K H ds vs → ds[i]? = some d → ∃ v,vs[i]? = some v ∧ Rep ρ K H d v
 | [],_,_,_,_,e=>by simp at e
 | _ :: _,_,0,_,h,e=>by
  obtain ⟨v,r,rfl,q,_⟩:=reps_cons.mp h
  simp at e; subst e
  exact ⟨v,rfl,q⟩
 | _ :: _,_,i + 1,_,h,e=>by
  obtain ⟨v,r,rfl,_,t⟩:=reps_cons.mp h
  obtain ⟨u,q1,q2⟩:=Reps.get (i:=i) t (by simpa using e)
  exact ⟨u,by simpa using q1,q2⟩
theorem Reps.append : ∀ {ds es : List D} {vs us : List V},Reps ρ K H ds vs → Reps ρ K H es us → Reps ρ K H (ds ++ es) (vs ++ us)
 | [],_,_,_,h,k=>by rw [reps_nil.mp h]; exact k
 | _ :: _,_,_,_,h,k=>by
  obtain ⟨v,r,rfl,q,t⟩:=reps_cons.mp h
  exact Reps.cons q (Reps.append t k)
theorem rep_int {i : Int} {v : V} : Rep ρ K H (.int i) v ↔ v = .int i:=by unfold Rep; exact Iff.rfl
theorem rep_str {x : Str} {v : V} : Rep ρ K H (.str x) v ↔ v = .str x:=by unfold Rep; exact Iff.rfl
theorem rep_ty {n : String} {v : V} : Rep ρ K H (.ty n) v ↔ v = .ty n:=by unfold Rep; exact Iff.rfl
theorem rep_obj {i : Nat} {v : V} : Rep ρ K H (.obj i) v ↔ ∃ a,ρ i = some a ∧ v = .ref a:=by unfold Rep; exact Iff.rfl
theorem rep_bl {b : Bool} {v : V} : Rep ρ K H (.bl b) v ↔ v = .bl b:=by unfold Rep; exact Iff.rfl
theorem rep_non {v : V} : Rep ρ K H .non v ↔ v = .non:=by unfold Rep; exact Iff.rfl
theorem rep_tup {ds : List D} {v : V} : Rep ρ K H (.tup ds) v ↔ ∃ a xs,v = .ref a ∧ SqT K H a xs ∧ Reps ρ K H ds xs:=by conv=>lhs; unfold Rep
theorem rep_lst {ds : List D} {v : V} : Rep ρ K H (.lst ds) v ↔ ∃ a xs,v = .ref a ∧ SqL K H a xs ∧ Reps ρ K H ds xs:=by conv=>lhs; unfold Rep
theorem reps_ints : ∀ {ns : List Int} {vs : List V},Reps ρ K H (ns.map .int) vs ↔ vs = ns.map V.int
 | [],vs=>reps_nil
 | n :: ns,vs=>by
  rw [List.map_cons,reps_cons]
  constructor
  ·rintro ⟨v,r,rfl,h1,h2⟩
   rw [rep_int.mp h1,reps_ints.mp h2]; rfl
  ·rintro rfl
   exact ⟨_,_,rfl,rep_int.mpr rfl,reps_ints.mpr rfl⟩
noncomputable def hid (H : Hp) (G : Addr → Bool) : Hp:=fun b=>if G b = true then none else H b
theorem hid_some {G : Addr → Bool} {b : Addr} {o : HO} : hid H G b = some o ↔ G b = false ∧ H b = some o:=by
 unfold hid
 cases e : G b <;> simp
theorem jaq {G : Addr → Bool} (e : Same H H') : Same (hid H G) (hid H' G):=fun b o h=>by
 obtain ⟨q1,q2⟩:=hid_some.mp h
 exact hid_some.mpr ⟨q1,e b o q2⟩
theorem jeb {G G' : Addr → Bool} (h : ∀ b,G' b = true → G b = true) : Same (hid H G) (hid H G'):=fun b o q=>by
 obtain ⟨q1,q2⟩:=hid_some.mp q
 refine hid_some.mpr ⟨?_,q2⟩
 cases e : G' b with
 | false=>rfl
 | true=>rw [h b e] at q1; cases q1
theorem jam {G : Addr → Bool} : Same (hid H G) H:=fun b o q=>(hid_some.mp q).2
theorem jfb {G : Addr → Bool} {a : Addr} {o : HO} (h : G a = true) : hid (upd H a o) G = hid H G:=by
 funext b
 unfold hid upd
 by_cases e : b = a
 ·subst e; rw [if_pos h,if_pos h]
 ·rw [if_neg e]
theorem jaz {p : Addr} {o : HO} (h : H p = none) : Same H (upd H p o):=fun b u e=>by rw [jai (ja7 e h)]; exact e
theorem jfs {H₀ : Hp} {p : Addr} {o : HO} (e : Same H₀ H) (h : H₀ p = none) : Same H₀ (upd H p o):=fun b u q=>by rw [jai (ja7 q h)]; exact e b u q
noncomputable abbrev DSt:=List (Option D)
noncomputable def jtw : Option (Option V) → Option Addr
 | some (some (.ref a))=>some a
 | _=>none
theorem jmn {o : Option (Option V)} {a : Addr} : jtw o = some a ↔ o = some (some (.ref a)):=by
 constructor
 ·intro h
  unfold jtw at h
  split at h
  ·cases h; rfl
  ·cases h
 ·rintro rfl; rfl
noncomputable def ownA (σ : St) : List Nat → List Addr
 | []=>[]
 | i :: O=>(jtw σ[i]?).toList ++ ownA σ O
theorem jp2 {σ : St} {O : List Nat} {a : Addr} : a ∈ ownA σ O ↔ ∃ i ∈ O,σ[i]? = some (some (.ref a)):=by
 induction O with
 | nil=>simp [ownA]
 | cons j O ih =>
  unfold ownA
  rw [List.mem_append,ih,Option.mem_toList,jmn]
  constructor
  ·rintro (h | ⟨i,hi,h⟩)
   ·exact ⟨j,List.mem_cons_self,h⟩
   ·exact ⟨i,List.mem_cons_of_mem _ hi,h⟩
  ·rintro ⟨i,hi,h⟩
   rcases List.mem_cons.mp hi with rfl | hi
   ·exact .inl h
   ·exact .inr ⟨i,hi,h⟩
noncomputable def fob (F : Addr → Bool) (σ : St) (O : List Nat) : Addr → Bool:=fun b=>F b || (ownA σ O).contains b
theorem fob_t {F : Addr → Bool} {σ : St} {O : List Nat} {b : Addr} : fob F σ O b = true ↔ F b = true ∨ ∃ i ∈ O,σ[i]? = some (some (.ref b)):=by
 unfold fob
 rw [Bool.or_eq_true,List.contains_iff_mem,jp2]
theorem jcg {F : Addr → Bool} {σ : St} : fob F σ [] = F:=by
 funext b; unfold fob ownA; simp
structure RS (ρ : Rho) (K : PySem.W.Frag) (H₀ H : Hp) (F : Addr → Bool) (O : List Nat) (σ : St) (δ : DSt) : Prop where
 len : σ.length = δ.length
 same : Same H₀ H
 fin : ∀ b,F b = true → H b ≠ none
 val : ∀ (i : Nat) d,δ[i]? = some (some d) → i ∉ O → ∃ v,σ[i]? = some (some v) ∧ Rep ρ K (hid H (fob F σ O)) d v
 own : ∀ i ∈ O,∃ (a : Addr) (xs : List V) (ds : List D),δ[i]? = some (some (.lst ds)) ∧ σ[i]? = some (some (.ref a)) ∧ H a = some (.lst xs) ∧ (H₀ a = none ∧ F a = false) ∧ Reps ρ K (hid H (fob F σ O)) ds xs
 nd : ∀ i ∈ O,∀ j ∈ O,∀ a,σ[i]? = some (some (.ref a)) → σ[j]? = some (some (.ref a)) → i = j
section
variable {H₀ : Hp} {F : Addr → Bool} {O : List Nat} {σ : St} {δ : DSt}
theorem jty {b : Addr} (e : Same H H') (h : H b ≠ none) : H' b ≠ none:=fun z=>by
 cases q : H b with
 | none=>exact h q
 | some o=>rw [e b o q] at z; cases z
theorem jfv {b p : Addr} {o : HO} (h : H b ≠ none) : upd H p o b ≠ none:=by
 by_cases e : b = p
 ·subst e; rw [jak]; exact fun z=>nomatch z
 ·rw [jai e]; exact h
theorem RS.mono (R : RS ρ K H₀ H F O σ δ) (e : Same H H') : RS ρ K H₀ H' F O σ δ :=
 ⟨R.len,R.same.trans e,fun b hb=>jty e (R.fin b hb),fun i d h ho=>let ⟨v,q1,q2⟩:=R.val i d h ho; ⟨v,q1,q2.mono (jaq e)⟩,
  fun i hi=>let ⟨a,xs,ds,q1,q2,q3,q4,q5⟩:=R.own i hi; ⟨a,xs,ds,q1,q2,e a _ q3,q4,q5.mono (jaq e)⟩,R.nd⟩
theorem RS.fresh (R : RS ρ K H₀ H F O σ δ) {p : Addr} (h : H p = none) : fob F σ O p = false:=by
 cases e : fob F σ O p with
 | false=>rfl
 | true =>
  rcases fob_t.mp e with q | ⟨i,hi,q⟩
  ·exact absurd h (R.fin p q)
  ·obtain ⟨a,xs,ds,_,q2,q3,_⟩:=R.own i hi
   rw [q] at q2; cases q2
   rw [q3] at h; cases h
theorem RS.fresh0 (R : RS ρ K H₀ H F O σ δ) {p : Addr} (h : H p = none) : H₀ p = none:=by
 cases e0 : H₀ p with
 | none=>rfl
 | some o=>rw [R.same p o e0] at h; cases h
theorem RS.thaw {O' : List Nat} (R : RS ρ K H₀ H F O σ δ) (h : ∀ i ∈ O',i ∈ O) : RS ρ K H₀ H F O' σ δ:=by
 have le : ∀ b,fob F σ O' b = true → fob F σ O b = true:=fun b q=>by
  rcases fob_t.mp q with q | ⟨i,hi,q⟩
  ·exact fob_t.mpr (.inl q)
  ·exact fob_t.mpr (.inr ⟨i,h i hi,q⟩)
 refine ⟨R.len,R.same,R.fin,fun i d hd ho=>?_,fun i hi=>?_,fun i hi j hj=>R.nd i (h i hi) j (h j hj)⟩
 ·by_cases hO : i ∈ O
  ·obtain ⟨a,xs,ds,q1,q2,q3,q4,q5⟩:=R.own i hO
   rw [q1] at hd; cases hd
   refine ⟨_,q2,rep_lst.mpr ⟨a,xs,rfl,SqL.of (hid_some.mpr ⟨?_,q3⟩),q5.mono (jeb le)⟩⟩
   cases e : fob F σ O' a with
   | false=>rfl
   | true =>
    rcases fob_t.mp e with z | ⟨j,hj,z⟩
    ·rw [q4.2] at z; cases z
    ·exact absurd (R.nd i hO j (h j hj) a q2 z ▸ hj) ho
  ·obtain ⟨v,q1,q2⟩:=R.val i d hd hO
   exact ⟨v,q1,q2.mono (jeb le)⟩
 ·obtain ⟨a,xs,ds,q1,q2,q3,q4,q5⟩:=R.own i (h i hi)
  exact ⟨a,xs,ds,q1,q2,q3,q4,q5.mono (jeb le)⟩
theorem jb4 {i : Nat} {v : V} (h : i ∉ O) : fob F (σ.set i (some v)) O = fob F σ O:=by
 have : ownA (σ.set i (some v)) O = ownA σ O:=by
  induction O with
  | nil=>rfl
  | cons j O ih =>
   unfold ownA
   rw [List.getElem?_set_ne (by rintro rfl; exact h List.mem_cons_self),ih fun z=>h (List.mem_cons_of_mem _ z)]
 unfold fob
 rw [this]
theorem RS.set (R : RS ρ K H₀ H F O σ δ) {i : Nat} {d : D} {v : V} (ho : i ∉ O) (hr : Rep ρ K (hid H (fob F σ O)) d v) : RS ρ K H₀ H F O (σ.set i (some v)) (δ.set i (some d)):=by
 have ne : ∀ j ∈ O,j ≠ i:=fun j hj e=>ho (e ▸ hj)
 refine ⟨by simp [R.len],R.same,R.fin,fun j e hd hj=>?_,fun j hj=>?_,fun j hj k hk a e1 e2=>?_⟩
 ·rw [jb4 ho]
  by_cases hji : j = i
  ·subst hji
   have hl : j < δ.length:=by
    by_cases q : j < δ.length
    ·exact q
    ·rw [List.getElem?_eq_none (by simpa using q)] at hd; cases hd
   rw [List.getElem?_set_self hl] at hd
   cases hd
   exact ⟨v,List.getElem?_set_self (by rw [R.len]; exact hl),hr⟩
  ·rw [List.getElem?_set_ne (Ne.symm hji)] at hd ⊢
   exact R.val j e hd hj
 ·rw [jb4 ho,List.getElem?_set_ne (Ne.symm (ne j hj)),List.getElem?_set_ne (Ne.symm (ne j hj))]
  exact R.own j hj
 ·rw [List.getElem?_set_ne (Ne.symm (ne j hj))] at e1
  rw [List.getElem?_set_ne (Ne.symm (ne k hk))] at e2
  exact R.nd j hj k hk a e1 e2
theorem RS.take (R : RS ρ K H₀ H F O σ δ) {i : Nat} {ds : List D} {p : Addr} {xs : List V} {H1 : Hp} (ho : i ∉ O) (hi : i < δ.length) (e : Same H H1) (hp : H1 p = none) (hr : Reps ρ K (hid H1 (fob F σ O)) ds xs) :
  RS ρ K H₀ (upd H1 p (.lst xs)) F (i :: O) (σ.set i (some (.ref p))) (δ.set i (some (.lst ds))):=by
 have R1:=R.mono e
 have p0:=R1.fresh0 hp
 have pf:=R1.fresh hp
 have ne : ∀ j ∈ O,j ≠ i:=fun j hj e=>ho (e ▸ hj)
 have lσ : i < σ.length:=by rw [R.len]; exact hi
 have gp : ∀ b,fob F (σ.set i (some (.ref p))) (i :: O) b = true ↔ b = p ∨ fob F σ O b = true:=fun b=>by
  rw [fob_t,fob_t]
  constructor
  ·rintro (q | ⟨j,hj,q⟩)
   ·exact .inr (.inl q)
   ·rcases List.mem_cons.mp hj with rfl | hj
    ·rw [List.getElem?_set_self lσ] at q; cases q; exact .inl rfl
    ·rw [List.getElem?_set_ne (Ne.symm (ne j hj))] at q
     exact .inr (.inr ⟨j,hj,q⟩)
  ·rintro (rfl | q | ⟨j,hj,q⟩)
   ·exact .inr ⟨i,List.mem_cons_self,List.getElem?_set_self lσ⟩
   ·exact .inl q
   ·exact .inr ⟨j,List.mem_cons_of_mem _ hj,by rw [List.getElem?_set_ne (Ne.symm (ne j hj))]; exact q⟩
 have eqH : hid (upd H1 p (.lst xs)) (fob F (σ.set i (some (.ref p))) (i :: O)) = hid H1 (fob F σ O):=by
  funext b
  by_cases hb : b = p
  ·subst hb
   unfold hid
   rw [if_pos ((gp b).mpr (.inl rfl)),hp]
   split <;> rfl
  ·unfold hid
   rw [jai hb]
   cases q : fob F σ O b with
   | true=>rw [if_pos ((gp b).mpr (.inr q)),if_pos rfl]
   | false =>
    rw [if_neg (by rw [gp]; rintro (z | z); exact hb z; rw [q] at z; cases z),if_neg (by decide)]
 refine ⟨by simp [R.len],jfs R1.same p0,fun b hb=>jfv (R1.fin b hb),fun j d hd hj=>?_,fun j hj=>?_,fun j hj k hk a e1 e2=>?_⟩
 ·have hji : j ≠ i:=fun z=>hj (z ▸ List.mem_cons_self)
  rw [eqH]
  rw [List.getElem?_set_ne (Ne.symm hji)] at hd ⊢
  exact R1.val j d hd fun z=>hj (List.mem_cons_of_mem _ z)
 ·rw [eqH]
  rcases List.mem_cons.mp hj with rfl | hj
  ·exact ⟨p,xs,ds,List.getElem?_set_self hi,List.getElem?_set_self lσ,jak,⟨p0,by cases z : F p with | false=>rfl | true=>rw [fob_t.mpr (.inl z)] at pf; cases pf⟩,hr⟩
  ·obtain ⟨a,ys,es,q1,q2,q3,q4,q5⟩:=R1.own j hj
   refine ⟨a,ys,es,by rw [List.getElem?_set_ne (Ne.symm (ne j hj))]; exact q1,by rw [List.getElem?_set_ne (Ne.symm (ne j hj))]; exact q2,?_,q4,q5⟩
   rw [jai (ja7 q3 hp)]; exact q3
 ·have np : ∀ j ∈ O,∀ a,σ[j]? = some (some (.ref a)) → a ≠ p:=fun j hj a q z=>by
   obtain ⟨a',ys,es,q1,q2,q3,q4,q5⟩:=R1.own j hj
   rw [q] at q2; cases q2
   rw [z,hp] at q3; cases q3
  rcases List.mem_cons.mp hj with rfl | hj
  ·rw [List.getElem?_set_self lσ] at e1
   cases e1
   rcases List.mem_cons.mp hk with rfl | hk
   ·rfl
   ·rw [List.getElem?_set_ne (Ne.symm (ne k hk))] at e2
    exact absurd rfl (np k hk p e2)
  ·rw [List.getElem?_set_ne (Ne.symm (ne j hj))] at e1
   rcases List.mem_cons.mp hk with hke | hk
   ·subst hke
    rw [List.getElem?_set_self lσ] at e2
    cases e2
    exact absurd rfl (np j (by assumption) p e1)
   ·rw [List.getElem?_set_ne (Ne.symm (ne k hk))] at e2
    exact R.nd j hj k hk a e1 e2
theorem RS.write (R : RS ρ K H₀ H F O σ δ) {i : Nat} {a : Addr} {ds : List D} {xs : List V} (hi : i ∈ O) (ha : σ[i]? = some (some (.ref a))) (hr : Reps ρ K (hid H (fob F σ O)) ds xs) :
  RS ρ K H₀ (upd H a (.lst xs)) F O σ (δ.set i (some (.lst ds))):=by
 obtain ⟨a',ys,es,q1,q2,q3,q4,q5⟩:=R.own i hi
 rw [ha] at q2; cases q2
 have hl : i < δ.length:=(List.getElem?_eq_some_iff.mp q1).1
 have hh : hid (upd H a (.lst xs)) (fob F σ O) = hid H (fob F σ O):=jfb (fob_t.mpr (.inr ⟨i,hi,ha⟩))
 refine ⟨by simp [R.len],jfs R.same q4.1,fun b hb=>jfv (R.fin b hb),fun j d hd hj=>?_,fun j hj=>?_,R.nd⟩
 ·have hji : j ≠ i:=fun z=>hj (z ▸ hi)
  rw [hh]
  rw [List.getElem?_set_ne (Ne.symm hji)] at hd
  exact R.val j d hd hj
 ·rw [hh]
  by_cases hji : j = i
  ·subst hji
   exact ⟨a,xs,ds,List.getElem?_set_self hl,ha,jak,q4,hr⟩
  ·obtain ⟨b,zs,fs,p1,p2,p3,p4,p5⟩:=R.own j hj
   refine ⟨b,zs,fs,by rw [List.getElem?_set_ne (Ne.symm hji)]; exact p1,p2,?_,p4,p5⟩
   rw [jai (show b ≠ a from fun z=>hji (R.nd j hj i hi b p2 (by rw [z]; exact ha)))]
   exact p3
end
end DL
namespace DL
open PySem PySem.Spec L2
noncomputable def XRep (K : PySem.W.Frag) (H : Hp) (x : XD) (c : Value) (dx : Option Addr) : Prop:=False
noncomputable def okX (K : PySem.W.Frag) (H₀ : Hp) (E : XK) (x : XD) : Prop:=∀ c dx H',Same H₀ H' → XRep K H' x c dx → E c dx H'
inductive tD (K : PySem.W.Frag) (O : List Nat) (E : XK) (f : DSt → M D) (σ : St) (H : Hp) (Q : VK) : Prop
 | mk (ρ : Rho) (H₀ : Hp) (F : Addr → Bool) (δ : DSt) (r : Except XD D) (R : RS ρ K H₀ H F O σ δ) (hf : f δ = some r) (k : match (generalizing:=false) r with
  | .ok d=>∀ v H',Same H H' → Rep ρ K (hid H' (fob F σ O)) d v → Q v H'
  | .error x=>okX K H₀ E x)
noncomputable def DE (X : Cx) (O : List Nat) (E : XK) (e : Expr) (f : DSt → M D) : Prop:=PE X e (tD X.K O E f)
inductive tB (K : PySem.W.Frag) (O : List Nat) (E : XK) (f : DSt → M Bool) (σ : St) (H : Hp) (Q : Bool → Hp → Prop) : Prop
 | mk (ρ : Rho) (H₀ : Hp) (F : Addr → Bool) (δ : DSt) (r : Except XD Bool) (R : RS ρ K H₀ H F O σ δ) (hf : f δ = some r) (k : match (generalizing:=false) r with
  | .ok b=>∀ H',Same H H' → Q b H'
  | .error x=>okX K H₀ E x)
noncomputable def DT (X : Cx) (O : List Nat) (E : XK) (e : Expr) (f : DSt → M Bool) : Prop:=PT X e (tB X.K O E f)
inductive tL (K : PySem.W.Frag) (O : List Nat) (E : XK) (f : DSt → M (List D)) (σ : St) (H : Hp) (Q : List V → Hp → Prop) : Prop
 | mk (ρ : Rho) (H₀ : Hp) (F : Addr → Bool) (δ : DSt) (r : Except XD (List D)) (R : RS ρ K H₀ H F O σ δ) (hf : f δ = some r) (k : match (generalizing:=false) r with
  | .ok ds=>∀ vs H',Same H H' → Reps ρ K (hid H' (fob F σ O)) ds vs → Q vs H'
  | .error x=>okX K H₀ E x)
noncomputable def DA (X : Cx) (O : List Nat) (E : XK) (es : List Expr) (f : DSt → M (List D)) : Prop:=PA X es (tL X.K O E f)
noncomputable def fVar (i : Nat) : DSt → M D:=fun δ=>M.o (δ[i]?).join
noncomputable def fC (d : D) : DSt → M D:=fun _=>M.p d
noncomputable def f2 (g : D → D → Option D) (fa fb : DSt → M D) : DSt → M D:=fun δ=>(fa δ).b fun x=>(fb δ).b fun y=>M.o (g x y)
noncomputable def f1 (g : D → Option D) (fa : DSt → M D) : DSt → M D:=fun δ=>(fa δ).b fun x=>M.o (g x)
noncomputable def t2 (g : D → D → Option D) (fa fb : DSt → M D) : DSt → M Bool:=fun δ=>(fa δ).b fun x=>(fb δ).b fun y=>match g x y with
 | some (.bl b)=>M.p b
 | _=>none
noncomputable def fNil : DSt → M (List D):=fun _=>M.p []
noncomputable def jad (f : DSt → M D) (g : DSt → M (List D)) : DSt → M (List D):=fun δ=>(f δ).b fun x=>(g δ).b fun xs=>M.p (x :: xs)
noncomputable def fL (k : List D → Option D) (g : DSt → M (List D)) : DSt → M D:=fun δ=>(g δ).b fun xs=>M.o (k xs)
section
variable {ρ : Rho} {X : Cx} {O : List Nat} {E : XK} {a b c e : Expr} {es : List Expr} {fa fb fc : DSt → M D} {fl : DSt → M (List D)} {pos : Pos}
theorem join_some {δ : DSt} {i : Nat} {d : D} (h : (δ[i]?).join = some d) : δ[i]? = some (some d):=by
 cases e : δ[i]? with
 | none=>rw [e] at h; cases h
 | some o=>rw [e] at h; exact congrArg some h
theorem jac (i : Nat) {x : Str} (ho : autoParam (O.contains i = false) zau2._auto_1) (hN : autoParam (X.N[i]? = some x) zau2._auto_1) (hv : autoParam (Vis X.env.scope x) zau4._auto_1)
  (hd : autoParam ((x == ("__debug__" : Str)) = false) zau1._auto_1) (hcd : autoParam ((x == ("__classdict__" : Str)) = false) zau1._auto_1) : DE X O E (.Name x pos) (fVar i):=by
 rintro pins s σ H Q I ⟨ρ,H₀,F,δ,r,R,hf,h⟩
 obtain ⟨d,e,rfl⟩:=M.o_inv hf
 have ho' : i ∉ O:=fun z=>by rw [List.contains_iff_mem.mpr z] at ho; cases ho
 obtain ⟨v,q1,q2⟩:=R.val i d (join_some e) ho'
 exact jls hN hv hd hcd pins s σ H Q I ⟨v,q1,h v H (Same.refl H) q2⟩
theorem jiz {t : TE} {d : D} {v : V} (h : PE X e (tC v)) (hr : ∀ ρ H,Rep ρ X.K H d v) : DE X O E e (fC d):=by
 rintro pins s σ H Q I ⟨ρ,H₀,F,δ,r,R,hf,k⟩
 cases hf
 exact h pins s σ H Q I (k v H (Same.refl H) (hr _ _))
theorem jae {i : Int} {j} : DE X O E (.Constant (.int i) j pos) (fC (.int i)):=jiz (t:=tC (.int i)) jwe fun _ _=>rep_int.mpr rfl
theorem jpa {k : Bool} {j} : DE X O E (.Constant (.bool k) j pos) (fC (.bl k)):=jiz (t:=tC (.bl k)) jyj fun _ _=>rep_bl.mpr rfl
theorem jm6 {j} : DE X O E (.Constant .none j pos) (fC .non):=jiz (t:=tC .non) jwf fun _ _=>rep_non.mpr rfl
theorem jlb {x : Str} {j} : DE X O E (.Constant (.str x) j pos) (fC (.str x)):=jiz (t:=tC (.str x)) jwh fun _ _=>rep_str.mpr rfl
noncomputable def OpD (K : PySem.W.Frag) (g : D → D → Option D) (r : R2) : Prop:=∀ x y d,g x y = some d → ∀ (ρ : Rho) (H : Hp) (G : Addr → Bool) u v (Q : VK),(∀ p,H p = none → G p = false) → Rep ρ K (hid H G) x u → Rep ρ K (hid H G) y v →
 (∀ w H',Same H H' → Rep ρ K (hid H' G) d w → Q w H') → r u v H Q
noncomputable def UnD (K : PySem.W.Frag) (g : D → Option D) (r : V → Hp → VK → Prop) : Prop:=∀ x d,g x = some d → ∀ (ρ : Rho) (H : Hp) (G : Addr → Bool) u (Q : VK),(∀ p,H p = none → G p = false) → Rep ρ K (hid H G) x u →
 (∀ w H',Same H H' → Rep ρ K (hid H' G) d w → Q w H') → r u H Q
noncomputable def CaD (K : PySem.W.Frag) (g : List D → Option D) (r : List V → Hp → VK → Prop) : Prop:=∀ xs d,g xs = some d → ∀ (ρ : Rho) (H : Hp) (G : Addr → Bool) us (Q : VK),(∀ p,H p = none → G p = false) → Reps ρ K (hid H G) xs us →
 (∀ w H',Same H H' → Rep ρ K (hid H' G) d w → Q w H') → r us H Q
theorem jk3 {g : D → D → Option D} {r : R2} {σ : St} {H : Hp} {Q : VK} (hg : OpD X.K g r) (h : tD X.K O E (f2 g fa fb) σ H Q) : tOp r (tD X.K O E fa) (tD X.K O E fb) σ H Q:=by
 obtain ⟨ρ,H₀,F,δ,rr,R,hf,h⟩:=h
 rcases M.b_inv hf with ⟨x,e1,hf⟩ | ⟨x,e1,rfl⟩
 ·refine ⟨ρ,H₀,F,δ,.ok x,R,e1,fun u H1 s1 r1=>?_⟩
  rcases M.b_inv hf with ⟨y,e2,hf⟩ | ⟨y,e2,rfl⟩
  ·refine ⟨ρ,H₀,F,δ,.ok y,R.mono s1,e2,fun v H2 s2 r2=>?_⟩
   obtain ⟨d,hd,rfl⟩:=M.o_inv hf
   exact hg x y d hd ρ H2 _ u v Q (fun p hp=>(R.mono (s1.trans s2)).fresh hp) (r1.mono (jaq s2)) r2 fun w H3 s3 r3=>h w H3 (s1.trans (s2.trans s3)) r3
  ·exact ⟨ρ,H₀,F,δ,.error y,R.mono s1,e2,h⟩
 ·exact ⟨ρ,H₀,F,δ,.error x,R,e1,h⟩
theorem jas {op : Operator} {g : D → D → Option D} {r : R2} (ho : OpR X (binaryOp op) r) (hg : OpD X.K g r) (ha : DE X O E a fa) (hb : DE X O E b fb) : DE X O E (.BinOp a op b pos) (f2 g fa fb) :=
 fun pins s σ H Q I h=>jyk ho ha hb pins s σ H Q I (jk3 hg h)
theorem ja3 {g : D → D → Option D} {r : R2} (ho : IxR X r) (hg : OpD X.K g r) (ha : DE X O E a fa) (hb : DE X O E b fb) (hs : autoParam (jhv b) zau5._auto_1) : DE X O E (.Subscript a b pos) (f2 g fa fb) :=
 fun pins s σ H Q I h=>jtg ho ha hb hs pins s σ H Q I (jk3 hg h)
theorem jqx {op : CmpOp} {g : D → D → Option D} {r : R2} (ho : OpR X (compareOp op) r) (hg : OpD X.K g r) (ha : DE X O E a fa) (hb : DE X O E b fb) (hm : behindInMarks op b = false) : DE X O E (.Compare a [op] [b] pos) (f2 g fa fb) :=
 fun pins s σ H Q I h=>jn9 ho ha hb hm pins s σ H Q I (jk3 hg h)
theorem jgo {op : CmpOp} {g : D → D → Option D} {r : R2} (ho : OpR X (compareOp op) r) (hg : OpD X.K g r) (ha : DE X O E a fa) (hb : DE X O E b fb) (hm : behindInMarks op b = false) : DT X O E (.Compare a [op] [b] pos) (t2 g fa fb):=by
 rintro pins s σ H Q I ⟨ρ,H₀,F,δ,rr,R,hf,h⟩
 refine jku ho ha hb hm pins s σ H Q I (jk3 (r:=r) hg ?_)
 have key : ∃ r' : Except XD D,f2 g fa fb δ = some r' ∧ (match r',rr with | .ok d,.ok b=>d = .bl b | .error x,.error y=>x = y | _,_=>False):=by
  rcases M.b_inv hf with ⟨x,e1,hf⟩ | ⟨x,e1,rfl⟩
  ·rcases M.b_inv hf with ⟨y,e2,hf⟩ | ⟨y,e2,rfl⟩
   ·unfold f2
    rw [e1,M.b_ok,e2,M.b_ok]
    cases e3 : g x y with
    | none=>rw [e3] at hf; cases hf
    | some d =>
     rw [e3] at hf
     cases d with
     | bl k=>cases hf; exact ⟨_,rfl,rfl⟩
     | _=>cases hf
   ·exact ⟨.error y,by unfold f2; rw [e1,M.b_ok,e2]; rfl,rfl⟩
  ·exact ⟨.error x,by unfold f2; rw [e1]; rfl,rfl⟩
 obtain ⟨r',e,q⟩:=key
 refine ⟨ρ,H₀,F,δ,r',R,e,?_⟩
 cases r' with
 | error x=>cases rr with
  | error y=>cases q; exact h
  | ok _=>exact q.elim
 | ok d=>cases rr with
  | error y=>exact q.elim
  | ok k =>
   cases q
   exact fun v H' s' rv=>⟨k,rep_bl.mp rv,h H' s'⟩
theorem jy6 {g : D → Option D} {r : V → Hp → VK → Prop} {σ : St} {H : Hp} {Q : VK} (hg : UnD X.K g r) (h : tD X.K O E (f1 g fa) σ H Q) : tUn r (tD X.K O E fa) σ H Q:=by
 obtain ⟨ρ,H₀,F,δ,rr,R,hf,h⟩:=h
 rcases M.b_inv hf with ⟨x,e1,hf⟩ | ⟨x,e1,rfl⟩
 ·refine ⟨ρ,H₀,F,δ,.ok x,R,e1,fun u H1 s1 r1=>?_⟩
  obtain ⟨d,hd,rfl⟩:=M.o_inv hf
  exact hg x d hd ρ H1 _ u Q (fun p hp=>(R.mono s1).fresh hp) r1 fun w H3 s3 r3=>h w H3 (s1.trans s3) r3
 ·exact ⟨ρ,H₀,F,δ,.error x,R,e1,h⟩
theorem jm7 {op : UnaryOp} {g : D → Option D} {r : V → Hp → VK → Prop} (ho : UnR X (unaryOp op) r) (hg : UnD X.K g r) (ha : DE X O E a fa) : DE X O E (.UnaryOp op a pos) (f1 g fa) :=
 fun pins s σ H Q I h=>jyl ho ha pins s σ H Q I (jy6 hg h)
theorem jag : DA X O E [] fNil:=by
 rintro p pins s σ H Q I ⟨ρ,H₀,F,δ,r,R,hf,h⟩
 cases hf
 exact jlq p pins s σ H Q I (h [] H (Same.refl H) Reps.nil)
theorem jab (ha : DE X O E e fa) (hr : DA X O E es fl) (hs : autoParam (starEach (e :: es) X.env = (false,eval e X.env) :: starEach es X.env) zau2._auto_1) : DA X O E (e :: es) (jad fa fl):=by
 rintro p pins s σ H Q I ⟨ρ,H₀,F,δ,r,R,hf,h⟩
 refine jf4 ha hr hs p pins s σ H Q I ?_
 rcases M.b_inv hf with ⟨x,e1,hf⟩ | ⟨x,e1,rfl⟩
 ·refine ⟨ρ,H₀,F,δ,.ok x,R,e1,fun u H1 s1 r1=>?_⟩
  rcases M.b_inv hf with ⟨xs,e2,hf⟩ | ⟨y,e2,rfl⟩
  ·cases hf
   exact ⟨ρ,H₀,F,δ,.ok xs,R.mono s1,e2,fun vs H2 s2 r2=>h (u :: vs) H2 (s1.trans s2) (Reps.cons (r1.mono (jaq s2)) r2)⟩
  ·exact ⟨ρ,H₀,F,δ,.error y,R.mono s1,e2,h⟩
 ·exact ⟨ρ,H₀,F,δ,.error x,R,e1,h⟩
theorem jnm {k : List D → Option D} {r : List V → Hp → VK → Prop} {σ : St} {H : Hp} {Q : VK} (hg : CaD X.K k r) (h : tD X.K O E (fL k fl) σ H Q) : tCB r (tL X.K O E fl) σ H Q:=by
 obtain ⟨ρ,H₀,F,δ,rr,R,hf,h⟩:=h
 rcases M.b_inv hf with ⟨x,e1,hf⟩ | ⟨x,e1,rfl⟩
 ·refine ⟨ρ,H₀,F,δ,.ok x,R,e1,fun u H1 s1 r1=>?_⟩
  obtain ⟨d,hd,rfl⟩:=M.o_inv hf
  exact hg x d hd ρ H1 _ u Q (fun p hp=>(R.mono s1).fresh hp) r1 fun w H3 s3 r3=>h w H3 (s1.trans s3) r3
 ·exact ⟨ρ,H₀,F,δ,.error x,R,e1,h⟩
theorem jcv {k : List D → Option D} {r : List V → Hp → VK → Prop} {x : Str} {id : String} {p : Pos} (hc : CallR X (.builtin id) r) (hg : CaD X.K k r) (hG : Gl X x) (hm : X.mg x = none) (hv : bootBuiltins x = some (.builtin id)) (ha : DA X O E (e :: es) fl)
  (hn : autoParam (x ≠ "__name__") zau1._auto_1) (hdb : autoParam ((x == ("__debug__" : Str)) = false) zau1._auto_1) (he : autoParam (starEach (e :: es) X.env = (false,eval e X.env) :: starEach es X.env) zau2._auto_1) (hpl : autoParam ((backTo pos (starEach es X.env)).any (·.1) = false) zau2._auto_1) :
  DE X O E (.Call (.Name x p) (e :: es) [] pos) (fL k fl):=fun pins s σ H Q I h=>jlr hc hG hm hv ha hn hdb he hpl pins s σ H Q I (jnm hg h)
theorem jdq {k : List D → Option D} {r : List V → Hp → VK → Prop} {x : Str} {T : String} {p : Pos} (hc : CallR X (.type T) r) (hg : CaD X.K k r) (hG : Gl X x) (hm : X.mg x = none) (hv : bootBuiltins x = some (.type T)) (ha : DA X O E (e :: es) fl)
  (hn : autoParam (x ≠ "__name__") zau1._auto_1) (hdb : autoParam ((x == ("__debug__" : Str)) = false) zau1._auto_1) (he : autoParam (starEach (e :: es) X.env = (false,eval e X.env) :: starEach es X.env) zau2._auto_1) (hpl : autoParam ((backTo pos (starEach es X.env)).any (·.1) = false) zau2._auto_1) :
  DE X O E (.Call (.Name x p) (e :: es) [] pos) (fL k fl):=fun pins s σ H Q I h=>jg2 hc hG hm hv ha hn hdb he hpl pins s σ H Q I (jnm hg h)
noncomputable def jc4 (xs : List D) : Option D:=if xs.length ≤ sizeLine then some (.tup xs) else none
noncomputable def jb0 (xs : List D) : Option D:=if xs.length ≤ sizeLine then some (.lst xs) else none
theorem jbw {ρ : Rho} {K : PySem.W.Frag} {H : Hp} {G : Addr → Bool} {p : Addr} {vs : List V} {ds : List D} (hp : H p = none) (hG : G p = false) (h : Reps ρ K (hid H G) ds vs) : Rep ρ K (hid (upd H p (.tup vs)) G) (.tup ds) (.ref p) :=
 rep_tup.mpr ⟨p,vs,rfl,SqT.of (hid_some.mpr ⟨hG,jak⟩),h.mono (jaq (jaz hp))⟩
theorem jd8 {ρ : Rho} {K : PySem.W.Frag} {H : Hp} {G : Addr → Bool} {p : Addr} {vs : List V} {ds : List D} (hp : H p = none) (hG : G p = false) (h : Reps ρ K (hid H G) ds vs) : Rep ρ K (hid (upd H p (.lst vs)) G) (.lst ds) (.ref p) :=
 rep_lst.mpr ⟨p,vs,rfl,SqL.of (hid_some.mpr ⟨hG,jak⟩),h.mono (jaq (jaz hp))⟩
theorem jfj {x1} (h : DA X O E es fl) : DE X O E (.Tuple es x1 pos) (fL jc4 fl):=by
 rintro pins s σ H Q I ⟨ρ,H₀,F,δ,rr,R,hf,k⟩
 refine jrf h pins s σ H Q I ?_
 rcases M.b_inv hf with ⟨x,e1,hf⟩ | ⟨x,e1,rfl⟩
 ·refine ⟨ρ,H₀,F,δ,.ok x,R,e1,fun u H1 s1 r1=>?_⟩
  obtain ⟨d,hd,rfl⟩:=M.o_inv hf
  unfold jc4 at hd
  split at hd
  ·rename_i hz
   cases hd
   exact ⟨by rw [r1.length]; exact hz,fun p hp=>k _ _ (s1.trans (jaz hp)) (jbw hp ((R.mono s1).fresh hp) r1)⟩
  ·cases hd
 ·exact ⟨ρ,H₀,F,δ,.error x,R,e1,k⟩
theorem jk9 (h : DA X O E es fl) : DE X O E (.List es pos) (fL jb0 fl):=by
 rintro pins s σ H Q I ⟨ρ,H₀,F,δ,rr,R,hf,k⟩
 refine jre h pins s σ H Q I ?_
 rcases M.b_inv hf with ⟨x,e1,hf⟩ | ⟨x,e1,rfl⟩
 ·refine ⟨ρ,H₀,F,δ,.ok x,R,e1,fun u H1 s1 r1=>?_⟩
  obtain ⟨d,hd,rfl⟩:=M.o_inv hf
  unfold jb0 at hd
  split at hd
  ·rename_i hz
   cases hd
   exact ⟨by rw [r1.length]; exact hz,fun p hp=>k _ _ (s1.trans (jaz hp)) (jd8 hp ((R.mono s1).fresh hp) r1)⟩
  ·cases hd
 ·exact ⟨ρ,H₀,F,δ,.error x,R,e1,k⟩
noncomputable def fAnd (fa fb : DSt → M D) : DSt → M D:=fun δ=>(fa δ).b fun x=>match x with
 | .bl true=>fb δ
 | .bl false=>M.p (.bl false)
 | _=>none
noncomputable def fOr (fa fb : DSt → M D) : DSt → M D:=fun δ=>(fa δ).b fun x=>match x with
 | .bl true=>M.p (.bl true)
 | .bl false=>fb δ
 | _=>none
noncomputable def gNot : D → Option D
 | .bl b=>some (.bl !b)
 | _=>none
noncomputable def tAnd (ta tb : DSt → M Bool) : DSt → M Bool:=fun δ=>(ta δ).b fun x=>if x = true then tb δ else M.p false
noncomputable def tOr (ta tb : DSt → M Bool) : DSt → M Bool:=fun δ=>(ta δ).b fun x=>if x = true then M.p true else tb δ
noncomputable def tNot (ta : DSt → M Bool) : DSt → M Bool:=fun δ=>(ta δ).b fun x=>M.p !x
noncomputable def fIf (tc : DSt → M Bool) (fa fb : DSt → M D) : DSt → M D:=fun δ=>(tc δ).b fun x=>if x = true then fa δ else fb δ
variable {rest : List Expr} {ta tb' tc : DSt → M Bool}
noncomputable def DW (X : Cx) (O : List Nat) (E : XK) (e : Expr) (f : DSt → M Bool) : Prop:=PW X e (tB X.K O E f)
theorem DW.dt {f : DSt → M Bool} (h : DW X O E e f) : DT X O E e f:=PW.pt h
theorem jr4 (ha : DT X O E a ta) : DW X O E (.BoolOp .And [a] pos) ta:=jtr ha
theorem jut (ha : DT X O E a ta) (hb : DW X O E (.BoolOp .And (b :: rest) pos) tb') : DW X O E (.BoolOp .And (a :: b :: rest) pos) (tAnd ta tb'):=by
 rintro wh pins s σ H Q I ⟨ρ,H₀,F,δ,rr,R,hf,k⟩
 refine jwm ha hb wh pins s σ H Q I ?_
 rcases M.b_inv hf with ⟨x,e1,hf⟩ | ⟨x,e1,rfl⟩
 ·refine ⟨ρ,H₀,F,δ,.ok x,R,e1,fun H1 s1=>?_⟩
  cases x with
  | true =>
   refine iteT ⟨ρ,H₀,F,δ,rr,R.mono s1,hf,?_⟩
   cases rr with
   | ok d=>exact fun H' s'=>k H' (s1.trans s')
   | error y=>exact k
  | false=>cases hf; exact iteF (k H1 s1)
 ·exact ⟨ρ,H₀,F,δ,.error x,R,e1,k⟩
theorem jur (ha : DT X O E a ta) : DT X O E (.UnaryOp .Not a pos) (tNot ta):=by
 rintro pins s σ H Q I ⟨ρ,H₀,F,δ,rr,R,hf,k⟩
 refine jri ha pins s σ H Q I ?_
 rcases M.b_inv hf with ⟨x,e1,hf⟩ | ⟨x,e1,rfl⟩
 ·cases hf
  exact ⟨ρ,H₀,F,δ,.ok x,R,e1,fun H1 s1=>k H1 s1⟩
 ·exact ⟨ρ,H₀,F,δ,.error x,R,e1,k⟩
noncomputable def truD : D → Option Bool
 | .non=>some false
 | .bl b=>some b
 | .int i=>some (i != 0)
 | .str x=>if x.length ≤ sizeLine then some ((x.length : Int) != 0) else none
 | .tup xs=>some !xs.isEmpty
 | .lst xs=>some !xs.isEmpty
 | _=>none
noncomputable def tTru (fa : DSt → M D) : DSt → M Bool:=fun δ=>(fa δ).b fun x=>M.o (truD x)
theorem isE {ρ : Rho} {K : PySem.W.Frag} {H : Hp} {ds : List D} {xs : List V} (h : Reps ρ K H ds xs) : xs.isEmpty = ds.isEmpty:=by
 cases ds with
 | nil=>rw [reps_nil.mp h]; rfl
 | cons d ds=>obtain ⟨v,r,rfl,_⟩:=reps_cons.mp h; rfl
theorem jus (ha : DE X O E a fa) (he : autoParam (∀ whole,isTrue a X.env whole = (do let v ← whole; standAt a.pos; holding [v] (truthy v))) zau6._auto_1) : DT X O E a (tTru fa):=by
 rintro pins s σ H Q I ⟨ρ,H₀,F,δ,rr,R,hf,k⟩
 refine jlv ha he pins s σ H Q I ?_
 rcases M.b_inv hf with ⟨x,e1,hf⟩ | ⟨x,e1,rfl⟩
 ·refine ⟨ρ,H₀,F,δ,.ok x,R,e1,fun u H1 s1 r1=>?_⟩
  obtain ⟨z,hz,rfl⟩:=M.o_inv hf
  refine ⟨z,?_,k H1 s1⟩
  cases x with
  | non=>cases hz; rw [rep_non.mp r1]; rfl
  | bl y=>cases hz; rw [rep_bl.mp r1]; rfl
  | int i=>cases hz; rw [rep_int.mp r1]; rfl
  | str y =>
   by_cases hl : y.length ≤ sizeLine
   ·have e : truD (.str y) = some ((y.length : Int) != 0):=if_pos hl
    rw [e] at hz; cases hz
    rw [rep_str.mp r1]; exact ⟨hl,rfl⟩
   ·have e : truD (.str y) = none:=if_neg hl
    rw [e] at hz; cases hz
  | tup ds =>
   cases hz
   obtain ⟨q,xs,rfl,q2,q3⟩:=rep_tup.mp r1
   exact .inr (.inl ⟨xs,jc9 jam q2,by rw [isE q3]⟩)
  | lst ds =>
   cases hz
   obtain ⟨q,xs,rfl,q2,q3⟩:=rep_lst.mp r1
   exact .inl ⟨xs,jcu jam q2,by rw [isE q3]⟩
  | ty n=>cases hz
  | obj n=>cases hz
 ·exact ⟨ρ,H₀,F,δ,.error x,R,e1,k⟩
end
end DL
namespace DL
open PySem PySem.Spec L2
inductive Out where
 | nx (δ : DSt) | rt (d : D) | bk (δ : DSt) | ct (δ : DSt)
noncomputable def Ok (ρ : Rho) (K : PySem.W.Frag) (O' B : List Nat) (E : XK) (H₀ : Hp) (F : Addr → Bool) (Hv : Hp) (Dn : Ends) : Except XD Out → Prop
 | .ok (.nx δ')=>∀ σ' H',Same Hv (hid H' (fob F σ' O')) → RS ρ K H₀ H' F O' σ' δ' → Dn.nx σ' H'
 | .ok (.rt d)=>∀ v H',Same H₀ H' → Rep ρ K (hid H' F) d v → Dn.rt v H'
 | .ok (.bk δ')=>∀ σ' H',Same Hv (hid H' (fob F σ' B)) → RS ρ K H₀ H' F B σ' δ' → Dn.bk σ' H'
 | .ok (.ct δ')=>∀ σ' H',Same Hv (hid H' (fob F σ' B)) → RS ρ K H₀ H' F B σ' δ' → Dn.ct σ' H'
 | .error x=>okX K H₀ E x
inductive sD (K : PySem.W.Frag) (O O' B : List Nat) (E : XK) (g : DSt → M Out) (Dn : Ends) (σ : St) (H : Hp) : Prop
 | mk (ρ : Rho) (H₀ : Hp) (F : Addr → Bool) (δ : DSt) (r : Except XD Out) (R : RS ρ K H₀ H F O σ δ) (hf : g δ = some r) (k : Ok ρ K O' B E H₀ F (hid H (fob F σ O)) Dn r)
noncomputable def DS (X : Cx) (O O' B : List Nat) (E : XK) (st : Stmt) (g : DSt → M Out) : Prop:=PS X st (sD X.K O O' B E g)
noncomputable def DSs (X : Cx) (O O' B : List Nat) (E : XK) (st : List Stmt) (g : DSt → M Out) : Prop:=PSs X st (sD X.K O O' B E g)
theorem Ok.back {ρ : Rho} {K : PySem.W.Frag} {O' B : List Nat} {E : XK} {H₀ : Hp} {F : Addr → Bool} {Hv Hv' : Hp} {Dn : Ends} {r : Except XD Out} (e : Same Hv Hv') (h : Ok ρ K O' B E H₀ F Hv Dn r) : Ok ρ K O' B E H₀ F Hv' Dn r:=by
 cases r with
 | error x=>exact h
 | ok o =>
  cases o with
  | nx δ'=>exact fun σ' H' f=>h σ' H' (e.trans f)
  | bk δ'=>exact fun σ' H' f=>h σ' H' (e.trans f)
  | ct δ'=>exact fun σ' H' f=>h σ' H' (e.trans f)
  | rt d=>exact h
noncomputable def gNx : DSt → M Out:=fun δ=>M.p (.nx δ)
noncomputable def gSeq (g1 g2 : DSt → M Out) : DSt → M Out:=fun δ=>(g1 δ).b fun o=>match o with
 | .nx δ'=>g2 δ'
 | o=>M.p o
noncomputable def gSet (i : Nat) (f : DSt → M D) : DSt → M Out:=fun δ=>(f δ).b fun d=>M.p (.nx (δ.set i (some d)))
noncomputable def gRet (f : DSt → M D) : DSt → M Out:=fun δ=>(f δ).b fun d=>M.p (.rt d)
noncomputable def jx2 (f : DSt → M D) : DSt → M Out:=fun δ=>(f δ).b fun _=>M.p (.nx δ)
noncomputable def gIf (t : DSt → M Bool) (g1 g2 : DSt → M Out) : DSt → M Out:=fun δ=>(t δ).b fun b=>if b = true then g1 δ else g2 δ
noncomputable def gBrk : DSt → M Out:=fun δ=>M.p (.bk δ)
noncomputable def gCnt : DSt → M Out:=fun δ=>M.p (.ct δ)
noncomputable def gApp (i : Nat) (f : DSt → M D) : DSt → M Out:=fun δ=>(f δ).b fun d=>match (δ[i]?).join with
 | some (.lst ds)=>if ds.length < sizeLine then M.p (.nx (δ.set i (some (.lst (ds ++ [d]))))) else none
 | _=>none
noncomputable def forD (g : DSt → M Out) (tg : D → DSt → Option DSt) : List D → DSt → M Out
 | [],δ=>M.p (.nx δ)
 | d :: ds,δ=>match tg d δ with
  | none=>none
  | some δ1=>(g δ1).b fun o=>match o with
   | .nx δ'=>forD g tg ds δ'
   | .ct δ'=>forD g tg ds δ'
   | .bk δ'=>M.p (.nx δ')
   | .rt v=>M.p (.rt v)
noncomputable def gFor (fi : DSt → M (List D)) (tg : D → DSt → Option DSt) (g : DSt → M Out) : DSt → M Out:=fun δ=>(fi δ).b fun ds=>forD g tg ds δ
section
variable {ρ : Rho} {X : Cx} {O O' O'' B : List Nat} {E : XK} {a b c e : Expr} {es : List Expr} {fa fb fc : DSt → M D} {fl : DSt → M (List D)} {pos : Pos} {st : Stmt} {rest : List Stmt} {g g1 g2 : DSt → M Out} {tc : DSt → M Bool}
theorem jia : DSs X O O B E [] gNx:=by
 rintro pins s σ H Dn I ⟨ρ,H₀,F,δ,r,R,hf,h⟩
 cases hf
 exact jod pins s σ H Dn I (h σ H (Same.refl _) R)
theorem jaw (h1 : DS X O O' B E st g1) (h2 : DSs X O' O'' B E rest g2) : DSs X O O'' B E (st :: rest) (gSeq g1 g2):=by
 rintro pins s σ H Dn I ⟨ρ,H₀,F,δ,r,R,hf,h⟩
 refine jij h1 h2 pins s σ H Dn I ?_
 rcases M.b_inv hf with ⟨o,e1,hf⟩ | ⟨x,e1,rfl⟩
 ·refine ⟨ρ,H₀,F,δ,.ok o,R,e1,?_⟩
  cases o with
  | nx δ'=>exact fun σ' H' f R'=>⟨ρ,H₀,F,δ',r,R',hf,h.back f⟩
  | rt d=>cases hf; exact h
  | bk δ'=>cases hf; exact h
  | ct δ'=>cases hf; exact h
 ·exact ⟨ρ,H₀,F,δ,.error x,R,e1,h⟩
theorem jbd (h1 : DS X O O' B E st g) : DSs X O O' B E [st] g:=fun pins s σ H Dn I h=>jik h1 pins s σ H Dn I h
theorem jgn {sts : List Stmt} (hO : ∀ i ∈ O',i ∈ O) (h : DSs X O' O'' B E sts g) : DSs X O O'' B E sts g:=by
 rintro pins s σ H Dn I ⟨ρ,H₀,F,δ,r,R,hf,k⟩
 refine h pins s σ H Dn I ⟨ρ,H₀,F,δ,r,R.thaw hO,hf,k.back (jeb fun b q=>?_)⟩
 rcases fob_t.mp q with q | ⟨i,hi,q⟩
 ·exact fob_t.mpr (.inl q)
 ·exact fob_t.mpr (.inr ⟨i,hO i hi,q⟩)
theorem jvo {F : Addr → Bool} {σ : St} {O O' : List Nat} (hO : ∀ i ∈ O',i ∈ O) : ∀ b,fob F σ O' b = true → fob F σ O b = true:=fun b q=>by
 rcases fob_t.mp q with q | ⟨i,hi,q⟩
 ·exact fob_t.mpr (.inl q)
 ·exact fob_t.mpr (.inr ⟨i,hO i hi,q⟩)
theorem js7 {ρ : Rho} {K : PySem.W.Frag} {H₀ Hv : Hp} {F : Addr → Bool} {Dn : Ends} {r : Except XD Out} (hO : ∀ i ∈ O',i ∈ O'') (k : Ok ρ K O' B E H₀ F Hv Dn r) : Ok ρ K O'' B E H₀ F Hv Dn r:=by
 cases r with
 | error x=>exact k
 | ok o =>
  cases o with
  | nx δ'=>exact fun σ' H' f R'=>k σ' H' (f.trans (jeb (jvo hO))) (R'.thaw hO)
  | rt d=>exact k
  | bk δ'=>exact k
  | ct δ'=>exact k
theorem jpd {sts : List Stmt} (hO : ∀ i ∈ O',i ∈ O'') (h : DSs X O O'' B E sts g) : DSs X O O' B E sts g:=by
 rintro pins s σ H Dn I ⟨ρ,H₀,F,δ,r,R,hf,k⟩
 exact h pins s σ H Dn I ⟨ρ,H₀,F,δ,r,R,hf,js7 hO k⟩
theorem jl0 {F : Addr → Bool} {σ : St} {H H' : Hp} {i : Nat} {v : V} (ho : i ∉ O) (s1 : Same H H') : Same (hid H (fob F σ O)) (hid H' (fob F (σ.set i (some v)) O)):=by
 rw [jb4 ho]; exact jaq s1
theorem jcm {i : Nat} {x : Str} {pos' : Pos} (hN : X.N.Nodup) (he : DE X O E e fa) (ho : autoParam (O.contains i = false) zau2._auto_1) (hi : autoParam (X.N[i]? = some x) zau2._auto_1) (hx : autoParam (Loc X.env.scope x) zau7._auto_1) (hs : autoParam (swapsWith e (some (.Name x pos')) pos.line X.env = pure false) zau2._auto_1)
  (hf : autoParam (X.fn x = true ∨ X.env.scope.names.lookup x = some .local) zau0._auto_1) : DS X O O B E (.Assign [.Name x pos'] e pos) (gSet i fa):=by
 rintro pins s σ H Dn I ⟨ρ,H₀,F,δ,r,R,hg,k⟩
 have ho' : i ∉ O:=fun z=>by rw [List.contains_iff_mem.mpr z] at ho; cases ho
 refine jlu hN hi hx he hs hf pins s σ H Dn I ?_
 rcases M.b_inv hg with ⟨d,e1,hg⟩ | ⟨y,e1,rfl⟩
 ·cases hg
  exact ⟨ρ,H₀,F,δ,.ok d,R,e1,fun v H' s' r'=>k _ H' (jl0 ho' s') ((R.mono s').set ho' r')⟩
 ·exact ⟨ρ,H₀,F,δ,.error y,R,e1,k⟩
theorem ji2 {i : Nat} {x : Str} {pos' pos2 : Pos} (hN : X.N.Nodup) (h : DA X O E es fl) (ho : autoParam (O.contains i = false) zau2._auto_1) (hi : autoParam (X.N[i]? = some x) zau2._auto_1) (hx : autoParam (Loc X.env.scope x) zau7._auto_1) (hs : autoParam (swapsWith (.List es pos2) (some (.Name x pos')) pos.line X.env = pure false) zau2._auto_1)
  (hf : autoParam (X.fn x = true ∨ X.env.scope.names.lookup x = some .local) zau0._auto_1) : DS X O (i :: O) B E (.Assign [.Name x pos'] (.List es pos2) pos) (gSet i (fL jb0 fl)):=by
 rintro pins s σ H Dn I ⟨ρ,H₀,F,δ,r,R,hg,k⟩
 have ho' : i ∉ O:=fun z=>by rw [List.contains_iff_mem.mpr z] at ho; cases ho
 have hl : i < δ.length:=by rw [← R.len,I.len]; exact (List.getElem?_eq_some_iff.mp hi).1
 refine jlu hN hi hx (jre h) hs hf pins s σ H Dn I ?_
 rcases M.b_inv hg with ⟨d,e1,hg⟩ | ⟨y,e1,rfl⟩
 ·cases hg
  rcases M.b_inv e1 with ⟨ds,e1,hd⟩ | ⟨y,e1,z⟩
  ·refine ⟨ρ,H₀,F,δ,.ok ds,R,e1,fun vs H1 s1 r1=>?_⟩
   obtain ⟨d',hd',z⟩:=M.o_inv hd
   cases z
   unfold jb0 at hd'
   split at hd'
   ·rename_i hz
    cases hd'
    refine ⟨by rw [r1.length]; exact hz,fun p hp=>?_⟩
    refine k _ _ ?_ (R.take ho' hl s1 hp r1)
    have pf:=(R.mono s1).fresh hp
    have lσ : i < σ.length:=by rw [R.len]; exact hl
    intro b o q
    obtain ⟨q1,q2⟩:=hid_some.mp q
    have q3:=s1 b o q2
    have hb : b ≠ p:=ja7 q3 hp
    refine hid_some.mpr ⟨?_,by rw [jai hb]; exact q3⟩
    cases z : fob F (σ.set i (some (.ref p))) (i :: O) b with
    | false=>rfl
    | true =>
     rcases fob_t.mp z with z | ⟨j,hj,z⟩
     ·rw [fob_t.mpr (.inl z)] at q1; cases q1
     ·rcases List.mem_cons.mp hj with rfl | hj
      ·rw [List.getElem?_set_self lσ] at z
       cases z
       exact absurd rfl hb
      ·rw [List.getElem?_set_ne (by rintro rfl; exact ho' hj)] at z
       rw [fob_t.mpr (.inr ⟨j,hj,z⟩)] at q1; cases q1
   ·cases hd'
  ·cases z
 ·rcases M.b_inv e1 with ⟨ds,e1,hd⟩ | ⟨y',e1,z⟩
  ·obtain ⟨_,_,z⟩:=M.o_inv hd
   cases z
  ·cases z
   exact ⟨ρ,H₀,F,δ,.error _,R,e1,k⟩
theorem jcd (he : DE X O E e fa) : DS X O O' B E (.Return (some e) pos) (gRet fa):=by
 rintro pins s σ H Dn I ⟨ρ,H₀,F,δ,r,R,hg,k⟩
 refine jrh he pins s σ H Dn I ?_
 rcases M.b_inv hg with ⟨d,e1,hg⟩ | ⟨y,e1,rfl⟩
 ·cases hg
  exact ⟨ρ,H₀,F,δ,.ok d,R,e1,fun v H' s' r'=>k v H' (R.same.trans s') (r'.mono (jeb fun b q=>fob_t.mpr (.inl q)))⟩
 ·exact ⟨ρ,H₀,F,δ,.error y,R,e1,k⟩
theorem jpc {s1 s2 : List Stmt} (hc : DT X O E c tc) (h1 : DSs X O O' B E s1 g1) (h2 : DSs X O O' B E s2 g2) : DS X O O' B E (.If c s1 s2 pos) (gIf tc g1 g2):=by
 rintro pins s σ H Dn I ⟨ρ,H₀,F,δ,r,R,hg,k⟩
 refine jtn hc h1 h2 pins s σ H Dn I ?_
 rcases M.b_inv hg with ⟨z,e1,hg⟩ | ⟨y,e1,rfl⟩
 ·refine ⟨ρ,H₀,F,δ,.ok z,R,e1,fun H1 s1=>?_⟩
  cases z with
  | true=>exact iteT ⟨ρ,H₀,F,δ,r,R.mono s1,hg,k.back (jaq s1)⟩
  | false=>exact iteF ⟨ρ,H₀,F,δ,r,R.mono s1,hg,k.back (jaq s1)⟩
 ·exact ⟨ρ,H₀,F,δ,.error y,R,e1,k⟩
theorem ji0 {i : Nat} {x : Str} {p1 p2 p3 : Pos} (ho : O.contains i = true) (he : DE X O E e fa) (hi : autoParam (X.N[i]? = some x) zau2._auto_1) (hv : autoParam (Vis X.env.scope x) zau4._auto_1)
  (hd : autoParam ((x == ("__debug__" : Str)) = false) zau1._auto_1) (hcd : autoParam ((x == ("__classdict__" : Str)) = false) zau1._auto_1) (hbase : autoParam (attributeBase (.Name x p1) "append" X.env (eval (.Name x p1) X.env) = eval (.Name x p1) X.env) zau2._auto_1)
  (hfew : ((backTo p3 (starEach [e] X.env)).all (fun x=>!x.1) && (backToKw p3 (keywordEach [] X.env)).all (fun x=>x.1.isSome)
   && decide ([e].length + ([] : List Keyword).length + (if ([] : List Keyword).isEmpty then 0 else 1) < 30)) = true:=by rfl)
  (hline : autoParam ((p2.endLine == p3.line) = true) zau2._auto_1) (hs : autoParam (starEach [e] X.env = [(false,eval e X.env)]) zau2._auto_1) (hsw : autoParam (swapsWith (.Call (.Attribute (.Name x p1) "append" p2) [e] [] p3) none pos.line X.env = pure false) zau2._auto_1) :
  DS X O O B E (.Expr (.Call (.Attribute (.Name x p1) "append" p2) [e] [] p3) pos) (gApp i fa):=by
 rintro pins s σ H Dn I ⟨ρ,H₀,F,δ,r,R,hg,k⟩
 have ho' : i ∈ O:=List.contains_iff_mem.mp ho
 obtain ⟨l,xs0,ds0,q1,q2,q3,q4,q5⟩:=R.own i ho'
 refine jkt (jwb PySem.F.plainAttrs_list PySem.F.slot_list_append PySem.F.type_list_append jfp (jls hi hv hd hcd) (jf4 he jlq hs) hbase hfew hline hs rfl) hsw pins s σ H Dn I ?_
 refine ⟨.ref l,q2,.inl ⟨rfl,_,SqL.of q3⟩,?_⟩
 rcases M.b_inv hg with ⟨d,e1,hg⟩ | ⟨y,e1,rfl⟩
 ·refine ⟨ρ,H₀,F,δ,.ok d,R,e1,fun v H1 s1 r1=>?_⟩
  have hj : (δ[i]?).join = some (.lst ds0):=by rw [q1]; rfl
  rw [hj] at hg
  dsimp only at hg
  split at hg
  ·rename_i hz
   cases hg
   have R1:=R.mono s1
   obtain ⟨l',xs,ds,p1,p2,p3,p4,p5⟩:=R1.own i ho'
   rw [q2] at p2; cases p2
   rw [q1] at p1; cases p1
   refine ⟨l,xs,v,rfl,rfl,p3,by rw [p5.length]; exact hz,?_⟩
   refine k σ _ ?_ (R1.write ho' q2 (p5.append (Reps.cons r1 Reps.nil)))
   rw [jfb (fob_t.mpr (.inr ⟨i,ho',q2⟩))]
   exact jaq s1
  ·cases hg
 ·exact ⟨ρ,H₀,F,δ,.error y,R,e1,k⟩
inductive tG (K : PySem.W.Frag) (O : List Nat) (h : D → DSt → Option DSt) (v : V) (σ : St) (H : Hp) (Q : St → Hp → Prop) : Prop
 | mk (ρ : Rho) (H₀ : Hp) (F : Addr → Bool) (δ : DSt) (d : D) (δ' : DSt) (R : RS ρ K H₀ H F O σ δ) (hr : Rep ρ K (hid H (fob F σ O)) d v) (hf : h d δ = some δ') (k : ∀ σ',fob F σ' O = fob F σ O → RS ρ K H₀ H F O σ' δ' → Q σ' H)
noncomputable def DG (X : Cx) (O : List Nat) (tg : Expr) (h : D → DSt → Option DSt) : Prop:=PG X tg (tG X.K O h)
noncomputable def gName (i : Nat) : D → DSt → Option DSt:=fun d δ=>some (δ.set i (some d))
noncomputable def jcn (i j : Nat) : D → DSt → Option DSt:=fun d δ=>match d with
 | .tup [x,y]=>some ((δ.set i (some x)).set j (some y))
 | _=>none
theorem jek {i : Nat} {x : Str} (hN : X.N.Nodup) (ho : autoParam (O.contains i = false) zau2._auto_1) (hi : autoParam (X.N[i]? = some x) zau2._auto_1) (hx : autoParam (Loc X.env.scope x) zau7._auto_1)
  (hf : autoParam (X.fn x = true ∨ X.env.scope.names.lookup x = some .local) zau0._auto_1) : DG X O (.Name x pos) (gName i):=by
 rintro pins s σ H v u Q I r ⟨ρ,H₀,F,δ,d,δ',R,rd,e,k⟩
 have ho' : i ∉ O:=fun z=>by rw [List.contains_iff_mem.mpr z] at ho; cases ho
 cases e
 exact jks hN hi hx hf pins s σ H v u Q I r (k _ (jb4 ho') (R.set ho' rd))
theorem jdj {i j : Nat} {x y : Str} {px py : Pos} {kk : Nat} (hc : X.calm = true) (hN : X.N.Nodup) (ho : autoParam (O.contains i = false) zau2._auto_1) (ho2 : autoParam (O.contains j = false) zau2._auto_1) (hi : autoParam (X.N[i]? = some x) zau2._auto_1) (hj : autoParam (X.N[j]? = some y) zau2._auto_1)
  (hx : autoParam (Loc X.env.scope x) zau7._auto_1) (hy : autoParam (Loc X.env.scope y) zau7._auto_1)
  (hf : autoParam (X.fn x = true ∨ X.env.scope.names.lookup x = some .local) zau0._auto_1) (hf2 : autoParam (X.fn y = true ∨ X.env.scope.names.lookup y = some .local) zau0._auto_1) :
  DG X O (.Tuple [.Name x px,.Name y py] kk pos) (jcn i j):=by
 rintro pins s σ H v u Q I r ⟨ρ,H₀,F,δ,d,δ',R,rd,e,k⟩
 have ho' : i ∉ O:=fun z=>by rw [List.contains_iff_mem.mpr z] at ho; cases ho
 have ho2' : j ∉ O:=fun z=>by rw [List.contains_iff_mem.mpr z] at ho2; cases ho2
 unfold jcn at e
 split at e
 ·rename_i d1 d2
  cases e
  obtain ⟨p,xs,rfl,q2,q3⟩:=rep_tup.mp rd
  obtain ⟨v1,xs1,rfl,r1,q3⟩:=reps_cons.mp q3
  obtain ⟨v2,xs2,rfl,r2,q3⟩:=reps_cons.mp q3
  cases reps_nil.mp q3
  refine jwi hc (jlt (jks hN hi hx hf) (jlt (jks hN hj hy hf2) jtj)) rfl rfl pins s σ H _ u Q I r ?_
  refine ⟨p,_,rfl,jc9 jam q2,rfl,v1,_,rfl,v2,_,rfl,rfl,?_⟩
  have e2 : fob F ((σ.set i (some v1)).set j (some v2)) O = fob F σ O:=(jb4 ho2').trans (jb4 ho')
  refine k _ e2 ?_
  have R1:=R.set ho' r1
  exact R1.set ho2' (by rw [jb4 ho']; exact r2)
 ·cases e
noncomputable def ItD (ρ : Rho) (K : PySem.W.Frag) (J : It) (ds : List D) (Hv : Hp) : Prop:=∀ (H' : Hp) (G' : Addr → Bool) (i : Nat),Same Hv (hid H' G') → (∀ p,H' p = none → G' p = false) →
 (i < ds.length → J.go i H' ∧ ∀ x H2,J.yld i H' x H2 → Same H' H2 ∧ ∃ d,ds[i]? = some d ∧ Rep ρ K (hid H2 G') d x) ∧ (i = ds.length → J.stop i H')
inductive tI (K : PySem.W.Frag) (O : List Nat) (E : XK) (f : DSt → M (List D)) (σ : St) (H : Hp) (Q : It → Hp → Prop) : Prop
 | mk (ρ : Rho) (H₀ : Hp) (F : Addr → Bool) (δ : DSt) (r : Except XD (List D)) (R : RS ρ K H₀ H F O σ δ) (hf : f δ = some r) (k : match (generalizing:=false) r with
  | .ok ds=>∀ J H',Same H H' → ItD ρ K J ds (hid H' (fob F σ O)) → Q J H'
  | .error x=>okX K H₀ E x)
noncomputable def DI (X : Cx) (O : List Nat) (E : XK) (tg iter : Expr) (f : DSt → M (List D)) : Prop:=PI X tg iter (tI X.K O E f)
theorem ji1 {tg iter : Expr} {body : List Stmt} {fi : DSt → M (List D)} {h : D → DSt → Option DSt} (hp : PassesOwn (model X.prog X.w) X.A X.env X.xe) (hc : X.calm = true) (hi : DI X O E tg iter fi) (hg : DG X O tg h) (hb : DSs X O O O E body g)
  (hs : autoParam (∀ x,foldedSetIterable iter X.env x = pure x) zau3._auto_1) : DS X O O B E (.For tg iter body [] pos) (gFor fi h g):=by
 rintro pins s σ H Dn I ⟨ρ,H₀,F,δ,r,R,hgf,k⟩
 refine joc hp hc hi hg hb hs pins s σ H Dn I ?_
 rcases M.b_inv hgf with ⟨ds,e1,hgf⟩ | ⟨y,e1,rfl⟩
 ·refine ⟨ρ,H₀,F,δ,.ok ds,R,e1,fun J H1 s1 it=>?_⟩
  refine ⟨fun i m σ' H'=>m = ds.length - i ∧ i ≤ ds.length ∧ ∃ δ',RS ρ X.K H₀ H' F O σ' δ' ∧ Same (hid H1 (fob F σ O)) (hid H' (fob F σ' O)) ∧ forD g h (ds.drop i) δ' = some r,⟨ds.length,by simp,Nat.zero_le _,δ,R.mono s1,Same.refl _,hgf⟩,?_⟩
  rintro i m σ' H' ⟨rfl,hil,δ',R',f',hr⟩
  obtain ⟨j1,j2⟩:=it H' (fob F σ' O) i f' (fun p hp=>R'.fresh hp)
  by_cases hlt : i < ds.length
  ·obtain ⟨go,yld⟩:=j1 hlt
   refine .inr ⟨go,fun σ2 H2=>∃ δ2,RS ρ X.K H₀ H2 F O σ2 δ2 ∧ Same (hid H1 (fob F σ O)) (hid H2 (fob F σ2 O)) ∧ forD g h (ds.drop (i + 1)) δ2 = some r,fun σ2 H2 ⟨δ2,a1,a2,a3⟩=>⟨ds.length - (i + 1),by omega,rfl,hlt,δ2,a1,a2,a3⟩,fun x H2 y=>?_⟩
   obtain ⟨s2,d,hd,rd⟩:=yld x H2 y
   have hdr : ds.drop i = d :: ds.drop (i + 1):=by
    rw [List.drop_eq_getElem_cons hlt]
    have : ds[i] = d:=by rw [List.getElem?_eq_getElem hlt] at hd; exact Option.some.inj hd
    rw [this]
   rw [hdr] at hr
   unfold forD at hr
   cases e2 : h d δ' with
   | none=>rw [e2] at hr; cases hr
   | some δ1 =>
    rw [e2] at hr
    dsimp only at hr
    have f2 : Same (hid H1 (fob F σ O)) (hid H2 (fob F σ' O)):=f'.trans (jaq s2)
    refine ⟨ρ,H₀,F,δ',d,δ1,R'.mono s2,rd,e2,fun σ3 ef R3=>?_⟩
    rcases M.b_inv hr with ⟨o,e3,hr⟩ | ⟨y,e3,rfl⟩
    ·refine ⟨ρ,H₀,F,δ1,.ok o,R3,e3,?_⟩
     rw [ef]
     cases o with
     | nx δ4=>exact fun σ4 H4 f4 R4=>⟨δ4,R4,f2.trans f4,hr⟩
     | ct δ4=>exact fun σ4 H4 f4 R4=>⟨δ4,R4,f2.trans f4,hr⟩
     | bk δ4=>cases hr; exact fun σ4 H4 f4 R4=>k σ4 H4 ((jaq s1).trans (f2.trans f4)) R4
     | rt v=>cases hr; exact k
    ·exact ⟨ρ,H₀,F,δ1,.error y,R3,e3,k⟩
  ·have ei : i = ds.length:=by omega
   subst ei
   rw [List.drop_length] at hr
   cases hr
   exact .inl ⟨j2 rfl,k σ' H' ((jaq s1).trans f') R'⟩
 ·exact ⟨ρ,H₀,F,δ,.error y,R,e1,k⟩
end
end DL
namespace L2
open PySem PySem.Spec PyProof.Rows
noncomputable def ItOn (k : Bool) (h : Heap) (it l : Addr) (i : Nat) : Prop:=if k = true then h.IsTupleIter it l i else h.IsListIter it l i
noncomputable def SrcOn (k : Bool) (h : Heap) (l : Addr) (xs : Array Value) : Prop:=if k = true then h.IsTuple l xs else h.IsList l xs
theorem ItOn.mv {k : Bool} {h h' : Heap} {it l : Addr} {i : Nat} (x : ItOn k h it l i) (e : ∀ o,h.get? it = some o → h'.get? it = some o) : ItOn k h' it l i:=by
 cases k with
 | true=>exact Heap.IsTupleIter.at (h:=h) x e
 | false=>exact Heap.IsListIter.at (h:=h) x e
theorem SrcOn.mv {k : Bool} {h h' : Heap} {l : Addr} {xs : Array Value} (x : SrcOn k h l xs) (e : ∀ o,h.get? l = some o → h'.get? l = some o) : SrcOn k h' l xs:=by
 cases k with
 | true=>exact Heap.IsTuple.at (h:=h) x e
 | false=>exact Heap.IsList.at (h:=h) x e
theorem ItOn.ob {k : Bool} {h : Heap} {it l : Addr} {i : Nat} (x : ItOn k h it l i) : ∃ o vs,h.get? it = some o ∧ o.data = .fields vs:=by
 cases k with
 | true=>obtain ⟨o,e,_,d⟩:=(x : h.IsTupleIter it l i); exact ⟨o,_,e,d⟩
 | false=>obtain ⟨o,e,_,d⟩:=(x : h.IsListIter it l i); exact ⟨o,_,e,d⟩
section
variable {prog : Program} {w : World} {A : Around} {E : Value → Shared → Prop} {s : Shared}
theorem jmj {it l : Addr} {i : Nat} {items : Array Value} {x : Value} {Q : Value → Shared → Prop} (hi : s.heap.IsTupleIter it l i) (hl : s.heap.IsTuple l items) (hx : items[i]? = some x)
  (hQ : ∀ h',h'.IsTupleIter it l (i + 1) → Heap.SameBut it s.heap h' → Q x { s with heap:=h' }) : wpAny (model prog w) A (Builtin.SmallTypes.nextOf (.ref it)) Q E s:=by
 obtain ⟨ob,eo,oc,od⟩:=id hi
 obtain ⟨tl,el,_,nl,dl⟩:=hl
 unfold Builtin.SmallTypes.nextOf
 refine wpAny_bind (wpAny_callSpecial?_slot (name:=Str.ofString "__next__") hi.typeIs F.slot_tuple_iterator_next (wpAny_call_entry F.slot_tuple_iterator_next hi.typeIs F.entry_tuple_iterator_next ?_ (F.args_tuple_iterator_next_1 _)))
 show wpAny _ _ (field (.ref it) 0 >>= _) _ _ s
 refine wpAny_bind (wpAny_field eo od (x:=.ref l) rfl ?_)
 show wpAny _ _ (if (Value.ref l == Value.none) = true then _ else _) _ _ s
 rw [if_neg (show ¬ ((Value.ref l == Value.none) = true) from fun q=>Bool.false_ne_true q)]
 show wpAny _ _ (field (.ref it) 1 >>= _) _ _ s
 refine wpAny_bind (wpAny_field eo od (x:=.int i 0) rfl (show wpAny _ _ (seqItems? (.ref l) >>= _) _ _ s from wpAny_bind (wpAny_seqItems el dl ?_)))
 simp only [Int.toNat_natCast,hx]
 refine wpAny_bind (wpAny_setField eo od (by simp) (wpAny_pure ⟨x,rfl,wpAny_pure (hQ _ ⟨_,Heap.get?_update_self _ eo (Obj.isFreed_of_fields (Obj.data_mapFields od _)),(Obj.cls_mapFields ..).trans oc,?_⟩ (Heap.SameBut.update ..))⟩))
 rw [Obj.data_mapFields od]; simp [rawInt]
theorem jhf {it l : Addr} {i : Nat} {items : Array Value} {Q : Value → Shared → Prop} (hh : A.handled = none) (hi : s.heap.IsTupleIter it l i) (hl : s.heap.IsTuple l items) (hx : items[i]? = none)
  (hE : ∀ h' e,Heap.ExtBut it s.heap h' → (∃ o,h'.get? e = some o ∧ o.cls = .type "StopIteration") → E (.ref e) { s with heap:=h' }) : wpAny (model prog w) A (Builtin.SmallTypes.nextOf (.ref it)) Q E s:=by
 obtain ⟨ob,eo,oc,od⟩:=id hi
 obtain ⟨tl,el,_,nl,dl⟩:=hl
 unfold Builtin.SmallTypes.nextOf
 refine wpAny_bind (wpAny_callSpecial?_slot (name:=Str.ofString "__next__") hi.typeIs F.slot_tuple_iterator_next (wpAny_call_entry F.slot_tuple_iterator_next hi.typeIs F.entry_tuple_iterator_next ?_ (F.args_tuple_iterator_next_1 _)))
 show wpAny _ _ (field (.ref it) 0 >>= _) _ _ s
 refine wpAny_bind (wpAny_field eo od (x:=.ref l) rfl ?_)
 show wpAny _ _ (if (Value.ref l == Value.none) = true then _ else _) _ _ s
 rw [if_neg (show ¬ ((Value.ref l == Value.none) = true) from fun q=>Bool.false_ne_true q)]
 show wpAny _ _ (field (.ref it) 1 >>= _) _ _ s
 refine wpAny_bind (wpAny_field eo od (x:=.int i 0) rfl (show wpAny _ _ (seqItems? (.ref l) >>= _) _ _ s from wpAny_bind (wpAny_seqItems el dl ?_)))
 simp only [Int.toNat_natCast,hx]
 refine wpAny_bind (wpAny_rule (wpAny_bind (wpAny_setField eo od (by simp) ?_)))
 show wpAny _ _ (newExc (.type "StopIteration") [] >>= _) _ _ _
 refine wpAny_bind ?_
 simp only [newExc,newTuple]
 refine wpAny_bind (wpAny_newObj_type (wpAny_bind (m:=firstArgMember _ _) (wpAny_of_eq (a:=Value.none) (by first | rfl | (simp only [firstArgMember]; rfl)) (wpAny_newObj_type ?_ (by size_fits)))) (by size_fits))
 simp only [raiseNew]
 refine wpAny_bind (wpAny_handled ?_)
 first | rw [show A.in1.handled = none from hh] | rw [hh]
 exact wpAny_bind (wpAny_pure (wpAny_throw (hE _ _ (((Heap.SameBut.update ..).extBut.push _).push _) ⟨_,Heap.get?_push_size _ rfl,rfl⟩)))
theorem jgy {k : Bool} {it l : Addr} {i : Nat} {items : Array Value} {x : Value} {Q : Value → Shared → Prop} (hi : ItOn k s.heap it l i) (hl : SrcOn k s.heap l items) (hx : items[i]? = some x)
  (hQ : ∀ h',ItOn k h' it l (i + 1) → Heap.SameBut it s.heap h' → Q x { s with heap:=h' }) : wpAny (model prog w) A (Builtin.SmallTypes.nextOf (.ref it)) Q E s:=by
 cases k with
 | true=>exact jmj hi hl hx hQ
 | false=>exact wpAny_nextOf_list_item hi hl hx hQ
theorem jfq {k : Bool} {it l : Addr} {i : Nat} {items : Array Value} {Q : Value → Shared → Prop} (hh : A.handled = none) (hi : ItOn k s.heap it l i) (hl : SrcOn k s.heap l items) (hx : items[i]? = none)
  (hE : ∀ h' e,Heap.ExtBut it s.heap h' → (∃ o,h'.get? e = some o ∧ o.cls = .type "StopIteration") → E (.ref e) { s with heap:=h' }) : wpAny (model prog w) A (Builtin.SmallTypes.nextOf (.ref it)) Q E s:=by
 cases k with
 | true=>exact jhf hh hi hl hx hE
 | false=>exact wpAny_nextOf_list_end hh hi hl hx hE
theorem jnk {k : Bool} {l : Addr} {xs : Array Value} {Q : Value → Shared → Prop} (hl : SrcOn k s.heap l xs)
  (h : ∀ o,ItOn k (s.heap.push o) s.heap.objs.size l 0 → Q (.ref s.heap.objs.size) { s with heap:=s.heap.push o }) : wpAny (model prog w) A (pyIter (.ref l)) Q E s:=by
 cases k with
 | true=>exact wpAny_pyIter_tuple hl (h _ ⟨_,Heap.get?_push_size _ rfl,rfl,rfl⟩)
 | false=>exact wpAny_pyIter_list hl (h _ ⟨_,Heap.get?_push_size _ rfl,rfl,rfl⟩)
structure ZFar (z TI TO i1 i2 : Addr) : Prop where
 a1 : TI ≠ z
 a2 : TO ≠ z
 a3 : i1 ≠ z
 a4 : i2 ≠ z
 a5 : TI ≠ TO
 a6 : TI ≠ i1
 a7 : TI ≠ i2
 a8 : TO ≠ i1
 a9 : TO ≠ i2
 a10 : i1 ≠ i2
noncomputable def LFar (z TO i1 i2 l : Addr) : Prop:=l ≠ z ∧ l ≠ TO ∧ l ≠ i1 ∧ l ≠ i2
theorem jqu {k1 k2 : Bool} {z TI TO i1 i2 l1 l2 : Addr} {n1 n2 : Nat} {xs ys : Array Value} {x y a b : Value} {Q : Value → Shared → Prop} (D : ZFar z TI TO i1 i2) (d1 : LFar z TO i1 i2 l1) (d2 : LFar z TO i1 i2 l2)
  (hz : IsZip s.heap z TI TO .none) (ht : IsPair s.heap TI (.ref i1) (.ref i2)) (hu : IsPair s.heap TO a b) (j1 : ItOn k1 s.heap i1 l1 n1) (j2 : ItOn k2 s.heap i2 l2 n2) (c1 : SrcOn k1 s.heap l1 xs) (c2 : SrcOn k2 s.heap l2 ys)
  (hx : xs[n1]? = some x) (hy : ys[n2]? = some y)
  (hQ : ∀ h',IsZip h' z TI TO (rawInt s.heap.objs.size) → IsPair h' TO x y → ItOn k1 h' i1 l1 (n1 + 1) → ItOn k2 h' i2 l2 (n2 + 1) → IsPair h' s.heap.objs.size x y →
   (∀ c o,c ≠ z → c ≠ TO → c ≠ i1 → c ≠ i2 → s.heap.get? c = some o → h'.get? c = some o) → Q (.ref s.heap.objs.size) { s with heap:=h' }) :
  wpAny (model prog w) A (Builtin.«zip.__next__» ⟨[.ref z],[]⟩) (fun fin s'=>∃ v,fin = .done (.ret v) ∧ Q v s') E s:=by
 show wpAny _ _ (field (.ref z) 2 >>= _) _ _ _
 refine wpAny_bind (wpAny_field hz rfl (x:=.bool false) rfl (show wpAny _ _ (field (.ref z) 3 >>= _) _ _ _ from wpAny_bind (wpAny_field hz rfl (x:=.ref TI) rfl (wpAny_bind (wpAny_seqItems ht rfl ?_)))))
 show wpAny _ _ (Builtin.SmallTypes.ownedTupleIsFree (.ref z) >>= _) _ _ _
 refine wpAny_bind ?_
 unfold Builtin.SmallTypes.ownedTupleIsFree
 refine wpAny_bind (wpAny_field hz rfl (x:=.none) rfl (wpAny_pure ?_))
 simp only [if_true]
 refine wpAny_bind (wpAny_rule (wpAny_bind (wpAny_field hz rfl (x:=.ref TO) rfl (wpAny_bind (wpAny_setField_rec hz (by simp) fun g1 z1 e1=>wpAny_bind ?_)))))
 replace z1 : IsZip g1 z TI TO .ellipsis:=z1
 simp only [List.zipIdx_cons,List.zipIdx_nil,List.forIn_cons,List.forIn_nil]
 refine wpAny_bind (wpAny_bind (wpAny_onRaise (show wpAny _ _ (Builtin.SmallTypes.nextOf (.ref i1) >>= _) _ _ _ from ?_)))
 refine wpAny_bind (jgy (j1.mv fun o q=>e1.extBut _ _ D.a3 q) (c1.mv fun o q=>e1.extBut _ _ d1.1 q) hx fun g2 m1 e2=>wpAny_pure ?_)
 have u2 : IsPair g2 TO a b:=e2.extBut _ _ D.a8 (e1.extBut _ _ D.a2 hu)
 refine wpAny_bind (wpAny_seqItems u2 rfl (wpAny_bind (wpAny_updateSeq_pair u2 fun g3 u3 e3=>wpAny_bind (wpAny_letGo (wpAny_pure ?_)))))
 replace u3 : IsPair g3 TO x b:=u3
 have up3 : ∀ c o,c ≠ z → c ≠ TO → c ≠ i1 → s.heap.get? c = some o → g3.get? c = some o:=fun c o p1 p2 p3 q=>e3.extBut _ _ p2 (e2.extBut _ _ p3 (e1.extBut _ _ p1 q))
 refine wpAny_bind (wpAny_bind (wpAny_onRaise (show wpAny _ _ (Builtin.SmallTypes.nextOf (.ref i2) >>= _) _ _ _ from ?_)))
 refine wpAny_bind (jgy (j2.mv fun o q=>up3 _ o D.a4 D.a9.symm D.a10.symm q) (c2.mv fun o q=>up3 _ o d2.1 d2.2.1 d2.2.2.1 q) hy fun g4 m2 e4=>wpAny_pure ?_)
 have u4 : IsPair g4 TO x b:=e4.extBut _ _ D.a9 u3
 refine wpAny_bind (wpAny_seqItems u4 rfl (wpAny_bind (wpAny_updateSeq_pair u4 fun g5 u5 e5=>wpAny_bind (wpAny_letGo (wpAny_pure (wpAny_pure ?_))))))
 replace u5 : IsPair g5 TO x y:=u5
 refine wpAny_bind (wpAny_seqItems u5 rfl (wpAny_bind (wpAny_newTuple ?_)))
 have sz : g5.objs.size = s.heap.objs.size:=by rw [e5.1,e4.1,e3.1,e2.1,e1.1]
 have z5 : IsZip g5 z TI TO .ellipsis:=e5.extBut _ _ D.a2.symm (e4.extBut _ _ D.a4.symm (e3.extBut _ _ D.a2.symm (e2.extBut _ _ D.a3.symm z1)))
 have up5 : ∀ c o,c ≠ z → c ≠ TO → c ≠ i1 → c ≠ i2 → s.heap.get? c = some o → g5.get? c = some o:=fun c o p1 p2 p3 p4 q=>e5.extBut _ _ p2 (e4.extBut _ _ p4 (up3 c o p1 p2 p3 q))
 have m15 : ItOn k1 g5 i1 l1 (n1 + 1):=m1.mv fun o q=>e5.extBut _ _ D.a8.symm (e4.extBut _ _ D.a10 (e3.extBut _ _ D.a8.symm q))
 have m25 : ItOn k2 g5 i2 l2 (n2 + 1):=m2.mv fun o q=>e5.extBut _ _ D.a9.symm q
 have zlt : z < g5.objs.size:=Heap.lt_size z5
 show wpAny _ _ (Builtin.SmallTypes.ownedTupleHandOut (.ref z) (.ref g5.objs.size) >>= _) _ _ _
 refine wpAny_bind ?_
 unfold Builtin.SmallTypes.ownedTupleHandOut
 have z6 : IsZip (g5.push { cls:=.type "tuple",data:=.seq #[x,y] }) z TI TO .ellipsis:=Heap.get?_push_of_some _ z5
 refine wpAny_bind (wpAny_setField_rec z6 (by simp) fun g7 z7 e7=>?_)
 replace z7 : IsZip g7 z TI TO (rawInt g5.objs.size):=z7
 refine wpAny_setField_rec z7 (by simp) fun g8 z8 e8=>?_
 replace z8 : IsZip g8 z TI TO (rawInt g5.objs.size):=z8
 have up8 : ∀ c o,c ≠ z → g5.get? c = some o → g8.get? c = some o:=fun c o p1 q=>e8.extBut _ _ p1 (e7.extBut _ _ p1 (Heap.get?_push_of_some _ q))
 have t8 : IsPair g8 g5.objs.size x y:=e8.extBut _ _ (Nat.ne_of_gt zlt) (e7.extBut _ _ (Nat.ne_of_gt zlt) (Heap.get?_push_size _ rfl))
 rw [sz] at z8 t8
 refine wpAny_pure ⟨_,rfl,?_⟩
 show Q (.ref g5.objs.size) _
 rw [sz]
 exact hQ g8 z8 (up8 _ _ D.a2 u5) (m15.mv fun o q=>up8 _ o D.a3 q) (m25.mv fun o q=>up8 _ o D.a4 q) t8 fun c o p1 p2 p3 p4 q=>up8 c o p1 (up5 c o p1 p2 p3 p4 q)
theorem jug {k1 k2 : Bool} {z TI TO i1 i2 l1 l2 : Addr} {n1 n2 : Nat} {xs ys : Array Value} {a b : Value} {Q : PySem.Fin → Shared → Prop} (hh : A.handled = none) (D : ZFar z TI TO i1 i2) (d1 : LFar z TO i1 i2 l1) (d2 : LFar z TO i1 i2 l2)
  (hz : IsZip s.heap z TI TO .none) (ht : IsPair s.heap TI (.ref i1) (.ref i2)) (hu : IsPair s.heap TO a b) (j1 : ItOn k1 s.heap i1 l1 n1) (j2 : ItOn k2 s.heap i2 l2 n2) (c1 : SrcOn k1 s.heap l1 xs) (c2 : SrcOn k2 s.heap l2 ys)
  (hend : xs[n1]? = none ∨ ys[n2]? = none)
  (hE : ∀ h' e,(∀ c o,c ≠ z → c ≠ TO → c ≠ i1 → c ≠ i2 → s.heap.get? c = some o → h'.get? c = some o) → (∃ o,h'.get? e = some o ∧ o.cls = .type "StopIteration") → E (.ref e) { s with heap:=h' }) :
  wpAny (model prog w) A (Builtin.«zip.__next__» ⟨[.ref z],[]⟩) Q E s:=by
 show wpAny _ _ (field (.ref z) 2 >>= _) _ _ _
 refine wpAny_bind (wpAny_field hz rfl (x:=.bool false) rfl (show wpAny _ _ (field (.ref z) 3 >>= _) _ _ _ from wpAny_bind (wpAny_field hz rfl (x:=.ref TI) rfl (wpAny_bind (wpAny_seqItems ht rfl ?_)))))
 show wpAny _ _ (Builtin.SmallTypes.ownedTupleIsFree (.ref z) >>= _) _ _ _
 refine wpAny_bind ?_
 unfold Builtin.SmallTypes.ownedTupleIsFree
 refine wpAny_bind (wpAny_field hz rfl (x:=.none) rfl (wpAny_pure ?_))
 simp only [if_true]
 refine wpAny_bind (wpAny_rule (wpAny_bind (wpAny_field hz rfl (x:=.ref TO) rfl (wpAny_bind (wpAny_setField_rec hz (by simp) fun g1 z1 e1=>wpAny_bind ?_)))))
 replace z1 : IsZip g1 z TI TO .ellipsis:=z1
 simp only [List.zipIdx_cons,List.zipIdx_nil,List.forIn_cons,List.forIn_nil]
 refine wpAny_bind (wpAny_bind (wpAny_onRaise (show wpAny _ _ (Builtin.SmallTypes.nextOf (.ref i1) >>= _) _ _ _ from ?_)))
 cases hx : xs[n1]? with
 | none =>
  refine wpAny_bind (jfq hh (j1.mv fun o q=>e1.extBut _ _ D.a3 q) (c1.mv fun o q=>e1.extBut _ _ d1.1 q) hx fun g2 e f2 he=>?_)
  obtain ⟨oe,q1,q2⟩:=he
  have z2 : IsZip g2 z TI TO .ellipsis:=f2 _ _ D.a3.symm z1
  have nez : e ≠ z:=fun p=>by subst p; rw [z2] at q1; cases q1; simp at q2
  exact wpAny_setField_rec z2 (by simp) fun g3 _ e3=>hE g3 e (fun c o p1 _ p3 _ q=>e3.extBut _ _ p1 (f2 _ _ p3 (e1.extBut _ _ p1 q))) ⟨oe,e3.extBut _ _ nez q1,q2⟩
 | some x =>
  have hy : ys[n2]? = none:=by rcases hend with h | h; rw [hx] at h; cases h; exact h
  refine wpAny_bind (jgy (j1.mv fun o q=>e1.extBut _ _ D.a3 q) (c1.mv fun o q=>e1.extBut _ _ d1.1 q) hx fun g2 m1 e2=>wpAny_pure ?_)
  have u2 : IsPair g2 TO a b:=e2.extBut _ _ D.a8 (e1.extBut _ _ D.a2 hu)
  refine wpAny_bind (wpAny_seqItems u2 rfl (wpAny_bind (wpAny_updateSeq_pair u2 fun g3 u3 e3=>wpAny_bind (wpAny_letGo (wpAny_pure ?_)))))
  have up3 : ∀ c o,c ≠ z → c ≠ TO → c ≠ i1 → s.heap.get? c = some o → g3.get? c = some o:=fun c o p1 p2 p3 q=>e3.extBut _ _ p2 (e2.extBut _ _ p3 (e1.extBut _ _ p1 q))
  refine wpAny_bind (wpAny_bind (wpAny_onRaise (show wpAny _ _ (Builtin.SmallTypes.nextOf (.ref i2) >>= _) _ _ _ from ?_)))
  refine wpAny_bind (jfq hh (j2.mv fun o q=>up3 _ o D.a4 D.a9.symm D.a10.symm q) (c2.mv fun o q=>up3 _ o d2.1 d2.2.1 d2.2.2.1 q) hy fun g4 e f4 he=>?_)
  obtain ⟨oe,q1,q2⟩:=he
  have z4 : IsZip g4 z TI TO .ellipsis:=f4 _ _ D.a4.symm (e3.extBut _ _ D.a2.symm (e2.extBut _ _ D.a3.symm z1))
  have nez : e ≠ z:=fun p=>by subst p; rw [z4] at q1; cases q1; simp at q2
  exact wpAny_setField_rec z4 (by simp) fun g5 _ e5=>hE g5 e (fun c o p1 p2 p3 p4 q=>e5.extBut _ _ p1 (f4 _ _ p4 (up3 c o p1 p2 p3 q))) ⟨oe,e5.extBut _ _ nez q1,q2⟩
theorem jp7 {k1 k2 : Bool} {z TI TO i1 i2 l1 l2 : Addr} {n1 n2 : Nat} {xs ys : Array Value} {x y a b : Value} {Q : Option Value → Shared → Prop} (D : ZFar z TI TO i1 i2) (d1 : LFar z TO i1 i2 l1) (d2 : LFar z TO i1 i2 l2)
  (hz : IsZip s.heap z TI TO .none) (ht : IsPair s.heap TI (.ref i1) (.ref i2)) (hu : IsPair s.heap TO a b) (j1 : ItOn k1 s.heap i1 l1 n1) (j2 : ItOn k2 s.heap i2 l2 n2) (c1 : SrcOn k1 s.heap l1 xs) (c2 : SrcOn k2 s.heap l2 ys)
  (hx : xs[n1]? = some x) (hy : ys[n2]? = some y)
  (hQ : ∀ h',IsZip h' z TI TO (rawInt s.heap.objs.size) → IsPair h' TO x y → ItOn k1 h' i1 l1 (n1 + 1) → ItOn k2 h' i2 l2 (n2 + 1) → IsPair h' s.heap.objs.size x y →
   (∀ c o,c ≠ z → c ≠ TO → c ≠ i1 → c ≠ i2 → s.heap.get? c = some o → h'.get? c = some o) → Q (some (.ref s.heap.objs.size)) { s with heap:=h' }) : wpAny (model prog w) A (pyNext (.ref z)) Q E s:=by
 have ty : s.TypeIs (.ref z) "zip":=⟨_,hz,rfl⟩
 unfold pyNext
 exact wpAny_bind (wpAny_attempt (wpAny_callSpecial?_slot (name:=Str.ofString "__next__") ty F.slot_zip_next (wpAny_call_entry F.slot_zip_next ty F.entry_zip_next
  (jqu D d1 d2 hz ht hu j1 j2 c1 c2 hx hy fun h' b1 b2 b3 b4 b5 b6=>wpAny_pure (hQ h' b1 b2 b3 b4 b5 b6)) (F.args_zip_next_1 _))))
theorem jjl {k1 k2 : Bool} {z TI TO i1 i2 l1 l2 : Addr} {n1 n2 : Nat} {xs ys : Array Value} {a b : Value} {Q : Option Value → Shared → Prop} (hh : A.handled = none) (D : ZFar z TI TO i1 i2) (d1 : LFar z TO i1 i2 l1) (d2 : LFar z TO i1 i2 l2)
  (hz : IsZip s.heap z TI TO .none) (ht : IsPair s.heap TI (.ref i1) (.ref i2)) (hu : IsPair s.heap TO a b) (j1 : ItOn k1 s.heap i1 l1 n1) (j2 : ItOn k2 s.heap i2 l2 n2) (c1 : SrcOn k1 s.heap l1 xs) (c2 : SrcOn k2 s.heap l2 ys)
  (hend : xs[n1]? = none ∨ ys[n2]? = none)
  (hQ : ∀ h',(∀ c o,c ≠ z → c ≠ TO → c ≠ i1 → c ≠ i2 → s.heap.get? c = some o → h'.get? c = some o) → Q none { s with heap:=h' }) : wpAny (model prog w) A (pyNext (.ref z)) Q E s:=by
 have ty : s.TypeIs (.ref z) "zip":=⟨_,hz,rfl⟩
 unfold pyNext
 refine wpAny_bind (wpAny_attempt (wpAny_callSpecial?_slot (name:=Str.ofString "__next__") ty F.slot_zip_next (wpAny_call_entry F.slot_zip_next ty F.entry_zip_next (jug hh D d1 d2 hz ht hu j1 j2 c1 c2 hend fun h' e hk he=>?_) (F.args_zip_next_1 _))))
 obtain ⟨o,ho,hc⟩:=he
 exact wpAny_bind (wpAny_isInstance (T:="StopIteration") (b:=true) ⟨o,ho,hc⟩ isSubtype_stop (wpAny_pure (hQ _ hk)))
noncomputable abbrev zA (h : Heap) (o1 o2 : Obj) : Heap:=(h.push o1).push o2
noncomputable abbrev zB (h : Heap) (o1 o2 : Obj) : Heap:=(zA h o1 o2).push { cls:=.type "tuple",data:=.seq #[.ref h.objs.size,.ref (h.push o1).objs.size] }
noncomputable abbrev zC (h : Heap) (o1 o2 : Obj) : Heap:=(zB h o1 o2).push { cls:=.type "tuple",data:=.seq #[.none,.none] }
noncomputable abbrev zD (h : Heap) (o1 o2 : Obj) : Heap:=(zC h o1 o2).push { cls:=.type "zip",data:=.fields #[.none,.bool false,.bool false,.ref (zA h o1 o2).objs.size,.ref (zB h o1 o2).objs.size] }
theorem jnw {k1 k2 : Bool} (l1 l2 : Addr) (xs ys : Array Value) : Meets (Builtin.«zip.__new__» ⟨[.type "zip",.ref l1,.ref l2],[]⟩) (fun _ R s=>SrcOn k1 s.heap l1 xs ∧ SrcOn k2 s.heap l2 ys ∧
  ∀ o1 o2,ItOn k1 (s.heap.push o1) s.heap.objs.size l1 0 → ItOn k2 (zA s.heap o1 o2) (s.heap.push o1).objs.size l2 0 → R (.ok (.ret (.ref (zC s.heap o1 o2).objs.size))) { s with heap:=zD s.heap o1 o2 }) :=
 .of_wp fun prog w A R s h=>by
  obtain ⟨hp,g,d,tk,os⟩:=s
  obtain ⟨c1,c2,h⟩:=h
  have hsub:=sub_zip
  have q1 : SrcOn k1 (Shared.heap ⟨hp,g,d,tk,os⟩) l1 xs:=c1
  wp_walk using jnk q1
  intro o1 w1
  have q2 : SrcOn k2 (Shared.heap ⟨hp.push o1,g,d,tk,os⟩) l2 ys:=SrcOn.mv c2 fun o e=>Heap.get?_push_of_some _ e
  wp_walk using jnk q2
  intro o2 w2
  wp_walk
  exact ⟨_,rfl,h o1 o2 w1 w2⟩
end
end L2
namespace L2
open PySem PySem.Spec PyProof.Rows
section
variable {X : Cx} {pins : List (Addr × Obj)} {σ : St} {H : Hp} {s : Shared}
theorem Inv.spun {fp : List Addr} {h' : Heap} {t' : Nat} {T : Addr} {vs : List V} {its : List Value} (I : Inv X pins σ H s) (hf : ∀ b ∈ fp,FpOk X pins H b) (k : ∀ b o,b ∉ fp → s.heap.get? b = some o → h'.get? b = some o)
  (ko : ∀ b ∈ fp,∃ o,h'.get? b = some o) (hT : s.heap.get? T = none) (hn : H T = none) (hv : Vals vs its) (hz : vs.length ≤ sizeLine) (ht : IsTup h' T its.toArray) : Inv X pins σ (upd H T (.tup vs)) { s with heap:=h',toks:=t' }:=by
 have nT : ∀ b o,s.heap.get? b = some o → b ≠ T:=fun b o e z=>by rw [z,hT] at e; cases e
 have nf : ∀ b u,H b = some u → b ∉ fp:=fun b u e z=>by rw [(hf b z).1] at e; cases e
 refine I.step (g':=s.gens) (d':=s.drawn) (ch:=fp) (fun b hb=>?_) (fun b o _ _ hc e _=>k b o hc e) (fun b o _ _ hc e _=>⟨o.slots,k b o hc e⟩) (fun b o _ e n=>by rw [jai (nT b o e)]; exact n)
  (fun b o hc e=>⟨o,k b o hc e⟩) (fun b xs e=>by rw [jai (ja7 e hn)]; exact e) (fun b o u e=>by rw [jai (ja7 e hn)]; exact e) (fun b ps e=>⟨#[],by rw [jai (ja7 e hn),e]; simp⟩) (fun m hm=>?_) (fun b u e=>?_) I.bare
 ·obtain ⟨_,f1,_,f3,f4,f5⟩:=hf b hb
  exact ⟨f3,f1,f4,f5⟩
 ·obtain ⟨o,es,ep,ho,r⟩:=hm
  exact ⟨o,es,ep,k _ o (fun z=>(hf _ z).2.1 rfl) ho,r⟩
 ·by_cases hb : b = T
  ·subst hb
   rw [jak] at e; cases e
   exact ⟨hz,its,hv,ht⟩
  ·rw [jai hb] at e
   refine (I.hok b u e).stay (fun c v hc q=>k c v ?_ q) (fun c q=>by rw [jai (ja7 q hn)]; exact q) fun c xs q=>by rw [jai (ja7 q hn)]; exact q
   rcases hc with z | z
   ·rw [z]; exact nf b u e
   ·exact nf c _ z
theorem Inv.spun0 {fp : List Addr} {h' : Heap} {t' : Nat} (I : Inv X pins σ H s) (hf : ∀ b ∈ fp,FpOk X pins H b) (k : ∀ b o,b ∉ fp → s.heap.get? b = some o → h'.get? b = some o) : Inv X pins σ H { s with heap:=h',toks:=t' }:=by
 have nf : ∀ b u,H b = some u → b ∉ fp:=fun b u e z=>by rw [(hf b z).1] at e; cases e
 refine I.step (g':=s.gens) (d':=s.drawn) (ch:=fp) (fun b hb=>?_) (fun b o _ _ hc e _=>k b o hc e) (fun b o _ _ hc e _=>⟨o.slots,k b o hc e⟩) (fun b o _ e n=>n)
  (fun b o hc e=>⟨o,k b o hc e⟩) (fun b xs e=>e) (fun b o u e=>e) (fun b ps e=>⟨#[],by rw [e]; simp⟩) (fun m hm=>?_) (fun b u e=>?_) I.bare
 ·obtain ⟨_,f1,_,f3,f4,f5⟩:=hf b hb
  exact ⟨f3,f1,f4,f5⟩
 ·obtain ⟨o,es,ep,ho,r⟩:=hm
  exact ⟨o,es,ep,k _ o (fun z=>(hf _ z).2.1 rfl) ho,r⟩
 ·refine (I.hok b u e).stay (fun c v hc q=>k c v ?_ q) (fun c q=>q) fun c xs q=>q
  rcases hc with z | z
  ·rw [z]; exact nf b u e
  ·exact nf c _ z
noncomputable def SqV (k : Bool) (K : PySem.W.Frag) (H : Hp) (l : Addr) (xs : List V) : Prop:=if k = true then SqT K H l xs else SqL K H l xs
theorem Inv.src {k : Bool} {l : Addr} {xs : List V} (I : Inv X pins σ H s) (h : SqV k X.K H l xs) : ∃ its : List Value,Vals xs its ∧ SrcOn k s.heap l its.toArray ∧ xs.length ≤ sizeLine:=by
 cases k with
 | true =>
  obtain ⟨its,r,p,z⟩:=I.tuple (h : SqT X.K H l xs)
  exact ⟨its,r,p,z⟩
 | false =>
  obtain ⟨its,r,p,z⟩:=I.list (h : SqL X.K H l xs)
  exact ⟨its,r,p.isList,z⟩
theorem Inv.src_inj {k : Bool} {l : Addr} {xs ys : List V} (I : Inv X pins σ H s) (h : SqV k X.K H l xs) (h' : SqV k X.K H l ys) : xs = ys:=by
 cases k with
 | true=>exact I.tuple_inj (h : SqT X.K H l xs) h'
 | false=>exact I.list_inj (h : SqL X.K H l xs) h'
theorem jf8 {k : Bool} {l : Addr} {xs : List V} (I : Inv X pins σ H s) (h : SqV k X.K H l xs) {b : Addr} (f : FpOk X pins H b) : l ≠ b:=by
 intro e
 subst e
 obtain ⟨f0,f1,f2,f3,_⟩:=f
 have base : ∀ o,X.K.lookup l = some o → False:=fun o q=>by
  have hb:=I.ok.mod.kin l o q
  rcases f3 with z | z
  ·exact I.ok.noex l o hb z
  ·exact absurd (Nat.lt_of_lt_of_le (Heap.lt_size hb) (Nat.le_trans I.ok.bsz z)) (Nat.lt_irrefl _)
 cases k with
 | true =>
  rcases (h : SqT X.K H l xs) with q | ⟨o,its,n,q,_⟩
  ·rcases q with q | ⟨o,q⟩ <;> (rw [f0] at q; cases q)
  ·exact base o q
 | false =>
  rcases (h : SqL X.K H l xs) with q | ⟨o,its,n,q,_⟩
  ·rcases q with q | ⟨o,q⟩ <;> (rw [f0] at q; cases q)
  ·exact base o q
end
noncomputable def Itz (k1 k2 : Bool) (K : PySem.W.Frag) (l1 l2 : Addr) : It :=
  ⟨fun i H=>∃ xs ys x y,SqV k1 K H l1 xs ∧ SqV k2 K H l2 ys ∧ xs[i]? = some x ∧ ys[i]? = some y,
   fun i H v H'=>∃ T x y,H T = none ∧ v = .ref T ∧ H' = upd H T (.tup [x,y]) ∧ (∀ xs,SqV k1 K H l1 xs → xs[i]? = some x) ∧ (∀ ys,SqV k2 K H l2 ys → ys[i]? = some y),
   fun i H=>∃ xs ys,SqV k1 K H l1 xs ∧ SqV k2 K H l2 ys ∧ (xs.length ≤ i ∨ ys.length ≤ i)⟩
theorem jqo {P : Program} {w : World} {K : PySem.W.Frag} {es : List Expr} {kk : Nat} {tp : Pos} (k1 k2 : Bool) (l1 l2 z TI TO i1 i2 : Addr) (D : ZFar z TI TO i1 i2) :
  Turn P w K (.Tuple es kk tp) (Itz k1 k2 K l1 l2) [z,TI,TO,i1,i2] z (fun i h=>IsZip h z TI TO .none ∧ IsPair h TI (.ref i1) (.ref i2) ∧ (∃ a b,IsPair h TO a b) ∧ ItOn k1 h i1 l1 i ∧ ItOn k2 h i2 l2 i) where
 mem:=by simp
 obj:=fun i h st b hb=>by
  obtain ⟨q1,q2,⟨a,b',q3⟩,q4,q5⟩:=st
  simp only [List.mem_cons,List.not_mem_nil,or_false] at hb
  rcases hb with rfl | rfl | rfl | rfl | rfl
  ·exact ⟨_,q1,fun v e=>nomatch e⟩
  ·exact ⟨_,q2,fun v e=>nomatch e⟩
  ·exact ⟨_,q3,fun v e=>nomatch e⟩
  ·obtain ⟨o,vs,e,d⟩:=q4.ob; exact ⟨o,e,fun v z=>by rw [d] at z; cases z⟩
  ·obtain ⟨o,vs,e,d⟩:=q5.ob; exact ⟨o,e,fun v z=>by rw [d] at z; cases z⟩
 keep:=fun i h h' st k=>by
  obtain ⟨q1,q2,⟨a,b',q3⟩,q4,q5⟩:=st
  exact ⟨k z (by simp) _ q1,k TI (by simp) _ q2,⟨a,b',k TO (by simp) _ q3⟩,q4.mv fun o e=>k i1 (by simp) o e,q5.mv fun o e=>k i2 (by simp) o e⟩
 item:=by
  intro X hP hw hK hc i pins s σ H E I hf st hg
  subst hP hw hK
  obtain ⟨q1,q2,⟨a,b',q3⟩,q4,q5⟩:=st
  obtain ⟨xs,ys,x,y,sx,sy,hx,hy⟩:=hg
  obtain ⟨ix,rx,cx,_⟩:=I.src sx
  obtain ⟨iy,ry,cy,_⟩:=I.src sy
  obtain ⟨u,hu,ru⟩:=rx.get hx
  obtain ⟨v,hv,rv⟩:=ry.get hy
  have far : ∀ {k : Bool} {l : Addr} {xs : List V},SqV k X.K H l xs → LFar z TO i1 i2 l:=fun h=>⟨jf8 I h (hf z (by simp)),jf8 I h (hf TO (by simp)),jf8 I h (hf i1 (by simp)),jf8 I h (hf i2 (by simp))⟩
  refine jp7 D (far sx) (far sy) q1 q2 q3 q4 q5 cx cy (x:=u) (y:=v) (by simpa using hu) (by simpa using hv) fun h' b1 b2 b3 b4 b5 b6=>⟨_,rfl,?_⟩
  have keep : ∀ b o,b ∉ [z,TI,TO,i1,i2] → s.heap.get? b = some o → h'.get? b = some o:=fun b o hb e=>by
   simp only [List.mem_cons,List.not_mem_nil,or_false,not_or] at hb
   exact b6 b o hb.1 hb.2.2.1 hb.2.2.2.1 hb.2.2.2.2 e
  have e2 : IsPair h' TI (.ref i1) (.ref i2):=b6 TI _ D.a1 D.a5 D.a6 D.a7 q2
  have hfr : H s.heap.objs.size = none:=I.hok.fresh (Nat.le_refl _)
  have hno : s.heap.get? s.heap.objs.size = none:=Heap.get?_none_of_le (Nat.le_refl _)
  have Tz : s.heap.objs.size ≠ z:=Nat.ne_of_gt (Heap.lt_size q1)
  refine wpAny_letOwnedTupleGo_zip b1 fun h2 z2 s2=>?_
  have up2 : ∀ b o,b ≠ z → h'.get? b = some o → h2.get? b = some o:=fun b o hb e=>s2.extBut _ _ hb e
  have keep2 : ∀ b o,b ∉ [z,TI,TO,i1,i2] → s.heap.get? b = some o → h2.get? b = some o:=fun b o hb e=>up2 b o (fun q=>hb (by simp [q])) (keep b o hb e)
  have tu : IsTup h2 s.heap.objs.size [u,v].toArray:=⟨_,up2 _ _ Tz b5,rfl,0,rfl⟩
  have I2 : Inv X pins σ (upd H s.heap.objs.size (.tup [x,y])) { s with heap:=h2 }:=I.spun (t':=s.toks) hf keep2 (fun b hb=>by
   simp only [List.mem_cons,List.not_mem_nil,or_false] at hb
   rcases hb with rfl | rfl | rfl | rfl | rfl
   ·exact ⟨_,z2⟩
   ·exact ⟨_,up2 _ _ D.a1 e2⟩
   ·exact ⟨_,up2 _ _ D.a2 b2⟩
   ·obtain ⟨o,vs,e,_⟩:=b3.ob; exact ⟨o,up2 _ _ D.a3 e⟩
   ·obtain ⟨o,vs,e,_⟩:=b4.ob; exact ⟨o,up2 _ _ D.a4 e⟩) hno hfr (.cons ru (.cons rv .nil)) (by show 2 ≤ sizeLine; decide) tu
  refine ⟨.ref s.heap.objs.size,_,I2,rfl,⟨_,x,y,hfr,rfl,rfl,fun xs' h=>by rw [I.src_inj h sx]; exact hx,fun ys' h=>by rw [I.src_inj h sy]; exact hy⟩,?_,fun b hb=>?_⟩
  ·exact ⟨z2,up2 _ _ D.a1 e2,⟨_,_,up2 _ _ D.a2 b2⟩,b3.mv fun o e=>up2 _ o D.a3 e,b4.mv fun o e=>up2 _ o D.a4 e⟩
  ·have : b ≠ s.heap.objs.size:=fun q=>by
    subst q
    simp only [List.mem_cons,List.not_mem_nil,or_false] at hb
    rcases hb with q | q | q | q | q
    ·exact Tz q
    ·exact absurd (Heap.lt_size q2) (by rw [q]; exact Nat.lt_irrefl _)
    ·exact absurd (Heap.lt_size q3) (by rw [q]; exact Nat.lt_irrefl _)
    ·obtain ⟨o,vs,e,_⟩:=q4.ob; exact absurd (Heap.lt_size e) (by rw [q]; exact Nat.lt_irrefl _)
    ·obtain ⟨o,vs,e,_⟩:=q5.ob; exact absurd (Heap.lt_size e) (by rw [q]; exact Nat.lt_irrefl _)
   rw [jai this]
   exact (hf b hb).1
 done:=by
  intro X hP hw hK hc i pins s σ H E I hf st hg
  subst hP hw hK
  obtain ⟨q1,q2,⟨a,b',q3⟩,q4,q5⟩:=st
  obtain ⟨xs,ys,sx,sy,hend⟩:=hg
  obtain ⟨ix,rx,cx,_⟩:=I.src sx
  obtain ⟨iy,ry,cy,_⟩:=I.src sy
  have far : ∀ {k : Bool} {l : Addr} {xs : List V},SqV k X.K H l xs → LFar z TO i1 i2 l:=fun h=>⟨jf8 I h (hf z (by simp)),jf8 I h (hf TO (by simp)),jf8 I h (hf i1 (by simp)),jf8 I h (hf i2 (by simp))⟩
  have lx:=rx.length
  have ly:=ry.length
  refine jjl (I.ok.hd hc) D (far sx) (far sy) q1 q2 q3 q4 q5 cx cy ?_ fun h' k=>⟨rfl,I.spun0 (t':=s.toks) hf fun b o hb e=>?_⟩
  ·rcases hend with h | h
   ·exact .inl (by simp; omega)
   ·exact .inr (by simp; omega)
  ·simp only [List.mem_cons,List.not_mem_nil,or_false,not_or] at hb
   exact k b o hb.1 hb.2.2.1 hb.2.2.2.1 hb.2.2.2.2 e
 self:=fun _ _ _ _ _ st h=>wpAny_pyIter_zip st.1 h
theorem zfar (n : Nat) : ZFar (n + 4) (n + 2) (n + 3) n (n + 1):=⟨show (n + 2 : Nat) ≠ n + 4 by omega,show (n + 3 : Nat) ≠ n + 4 by omega,show (n : Nat) ≠ n + 4 by omega,show (n + 1 : Nat) ≠ n + 4 by omega,show (n + 2 : Nat) ≠ n + 3 by omega,
 show (n + 2 : Nat) ≠ n by omega,show (n + 2 : Nat) ≠ n + 1 by omega,show (n + 3 : Nat) ≠ n by omega,show (n + 3 : Nat) ≠ n + 1 by omega,show (n : Nat) ≠ n + 1 by omega⟩
section
variable {X : Cx}
noncomputable def iZip (K : PySem.W.Frag) (ta : TA) : TI:=fun σ H R=>ta σ H fun vs H1=>∃ k1 k2 l1 l2 xs ys,vs = [.ref l1,.ref l2] ∧ SqV k1 K H1 l1 xs ∧ SqV k2 K H1 l2 ys ∧ R (Itz k1 k2 K l1 l2) H1
theorem jwk {a b : Expr} {ta : TA} {es : List Expr} {kk : Nat} {tp p pos : Pos} (hg : Gl X "zip") (hm : X.mg "zip" = none) (ha : PA X [a,b] ta) (hs : autoParam (starEach [a,b] X.env = [(false,eval a X.env),(false,eval b X.env)]) zau2._auto_1) (hs2 : autoParam (starEach [b] X.env = [(false,eval b X.env)]) zau2._auto_1) :
  PI X (.Tuple es kk tp) (.Call (.Name "zip" p) [a,b] [] pos) (iZip X.K ta):=by
 intro pins s σ H R I h
 refine Call_ (jhq I hg hm boot_zip (PyProof.Rows.callWith_type1 (thn (ha pos pins s σ H _ I h) fun us s1 hzz=>?_) (by rw [hs,hs2]) (by rw [hs2]; rfl)))
 obtain ⟨vs,H1,I1,r1,q1⟩:=hzz
 obtain ⟨k1,k2,l1,l2,xs,ys,e,sx,sy,q⟩:=q1
 subst e
 obtain ⟨u1,u2,rfl,e1,e2⟩:=r1.two
 cases e1
 cases e2
 obtain ⟨ix,rx,cx,_⟩:=I1.src sx
 obtain ⟨iy,ry,cy,_⟩:=I1.src sy
 refine callType_new F.called_zip (by decide) (F.typeCall_zip_2 _ _) (F.newCall_zip_2 _ _) (fun obj=>F.args_object_init_3 obj _ _) F.entry_zip_new (jnw l1 l2 ix.toArray iy.toArray) ⟨cx,cy,fun o1 o2 w1 w2=>?_⟩
 have n1 : (s1.heap.push o1).objs.size = s1.heap.objs.size + 1:=Heap.size_push ..
 have n2 : (zA s1.heap o1 o2).objs.size = s1.heap.objs.size + 2:=by show (Heap.push _ _).objs.size = _; rw [Heap.size_push,n1]
 have n3 : (zB s1.heap o1 o2).objs.size = s1.heap.objs.size + 3:=by show (Heap.push _ _).objs.size = _; rw [Heap.size_push,n2]
 have n4 : (zC s1.heap o1 o2).objs.size = s1.heap.objs.size + 4:=by show (Heap.push _ _).objs.size = _; rw [Heap.size_push,n3]
 have g5 : (zD s1.heap o1 o2).get? (zC s1.heap o1 o2).objs.size = some _:=Heap.get?_push_size _ rfl
 have g4 : (zD s1.heap o1 o2).get? (zB s1.heap o1 o2).objs.size = some _:=Heap.get?_push_of_some _ (Heap.get?_push_size _ rfl)
 have g3 : (zD s1.heap o1 o2).get? (zA s1.heap o1 o2).objs.size = some _:=Heap.get?_push_of_some _ (Heap.get?_push_of_some _ (Heap.get?_push_size _ rfl))
 have kk2 : ∀ c o,(zA s1.heap o1 o2).get? c = some o → (zD s1.heap o1 o2).get? c = some o:=fun c o e=>Heap.get?_push_of_some _ (Heap.get?_push_of_some _ (Heap.get?_push_of_some _ e))
 have kk1 : ∀ c o,(s1.heap.push o1).get? c = some o → (zD s1.heap o1 o2).get? c = some o:=fun c o e=>kk2 c o (Heap.get?_push_of_some _ e)
 have kk0 : ∀ c o,s1.heap.get? c = some o → (zD s1.heap o1 o2).get? c = some o:=fun c o e=>kk1 c o (Heap.get?_push_of_some _ e)
 rw [n1] at w2 g3
 rw [n2] at g3
 rw [n3] at g4
 rw [n4,n2,n3] at g5
 show _ ∧ _
 rw [n4]
 refine ⟨⟨_,g5,rfl⟩,wpAny_pyIter_zip g5 ?_⟩
 have D : ZFar (s1.heap.objs.size + 4) (s1.heap.objs.size + 2) (s1.heap.objs.size + 3) s1.heap.objs.size (s1.heap.objs.size + 1):=zfar _
 refine ⟨s1.heap.objs.size + 4,[s1.heap.objs.size + 4,s1.heap.objs.size + 2,s1.heap.objs.size + 3,s1.heap.objs.size,s1.heap.objs.size + 1],_,_,H1,rfl,I1.kept (t':=s1.toks) fun c o e=>kk0 c o e,
  jqo k1 k2 l1 l2 _ _ _ _ _ D,⟨g5,g3,⟨_,_,g4⟩,w1.mv fun o e=>kk1 _ o e,w2.mv fun o e=>kk2 _ o e⟩,fun b hb=>?_,q⟩
 have hb' : s1.heap.objs.size ≤ b:=by
  simp only [List.mem_cons,List.not_mem_nil,or_false] at hb
  show (s1.heap.objs.size : Nat) ≤ (b : Nat)
  have hb2 : (b : Nat) = b:=rfl
  rcases hb with q | q | q | q | q <;> (rw [q]; first | exact Nat.le_refl _ | exact Nat.le_add_right _ _)
 exact I1.fpOk hb' (I1.hok.fresh hb')
end
noncomputable def Ite (K : PySem.W.Frag) (l : Addr) : It :=
  ⟨fun i H=>∃ xs x,SqL K H l xs ∧ xs[i]? = some x,
   fun i H v H'=>∃ T x,H T = none ∧ v = .ref T ∧ H' = upd H T (.tup [.int i,x]) ∧ (∀ xs,SqL K H l xs → xs[i]? = some x),
   fun i H=>∃ xs,SqL K H l xs ∧ xs.length ≤ i⟩
theorem jot {P : Program} {w : World} {K : PySem.W.Frag} {es : List Expr} {kk : Nat} {tp : Pos} (l e it : Addr) (D : e ≠ it) :
  Turn P w K (.Tuple es kk tp) (Ite K l) [e,it] e (fun i h=>(∃ old,IsEnum h e it i old) ∧ h.IsListIter it l i) where
 mem:=by simp
 obj:=fun i h st b hb=>by
  obtain ⟨⟨old,q1⟩,o,q2,_,q3⟩:=st
  simp only [List.mem_cons,List.not_mem_nil,or_false] at hb
  rcases hb with rfl | rfl
  ·exact ⟨_,q1,fun v e=>nomatch e⟩
  ·exact ⟨o,q2,fun v z=>by rw [q3] at z; cases z⟩
 keep:=fun i h h' st k=>by
  obtain ⟨⟨old,q1⟩,q2⟩:=st
  exact ⟨⟨old,k e (by simp) _ q1⟩,q2.at fun o z=>k it (by simp) o z⟩
 item:=by
  intro X hP hw hK hc i pins s σ H E I hf st hg
  subst hP hw hK
  obtain ⟨⟨old,q1⟩,q2⟩:=st
  obtain ⟨xs,x,sx,hx⟩:=hg
  obtain ⟨ix,rx,cx,_⟩:=I.list sx
  obtain ⟨u,hu,ru⟩:=rx.get hx
  refine wpAny_pyNext_enum_item q1 q2 cx.isList (x:=u) (by simpa using hu) D fun h' b1 b2 b3 b4 b5=>⟨_,rfl,?_⟩
  have hfr : H s.heap.objs.size = none:=I.hok.fresh (Nat.le_refl _)
  have hno : s.heap.get? s.heap.objs.size = none:=Heap.get?_none_of_le (Nat.le_refl _)
  have Te : s.heap.objs.size ≠ e:=Nat.ne_of_gt (Heap.lt_size q1)
  have Ti : s.heap.objs.size ≠ it:=by obtain ⟨o,q,_⟩:=q2; exact Nat.ne_of_gt (Heap.lt_size q)
  refine wpAny_letOwnedTupleGo_enum b1 fun h2 e2 s2=>?_
  have up2 : ∀ b o,b ≠ e → h'.get? b = some o → h2.get? b = some o:=fun b o hb z=>s2.extBut _ _ hb z
  have keep2 : ∀ b o,b ∉ [e,it] → s.heap.get? b = some o → h2.get? b = some o:=fun b o hb z=>by
   simp only [List.mem_cons,List.not_mem_nil,or_false,not_or] at hb
   exact up2 b o hb.1 (b5 b o hb.1 hb.2 z)
  have tu : IsTup h2 s.heap.objs.size [.int i s.toks,u].toArray:=⟨_,up2 _ _ Te b3,rfl,0,rfl⟩
  have i2 : h2.IsListIter it l (i + 1):=b2.at fun o z=>up2 _ o D.symm z
  have I2 : Inv X pins σ (upd H s.heap.objs.size (.tup [.int i,x])) { s with heap:=h2,toks:=s.toks + 1 }:=I.spun hf keep2 (fun b hb=>by
   simp only [List.mem_cons,List.not_mem_nil,or_false] at hb
   rcases hb with rfl | rfl
   ·exact ⟨_,e2⟩
   ·obtain ⟨o,q,_⟩:=i2; exact ⟨o,q⟩) hno hfr (.cons ⟨_,rfl⟩ (.cons ru .nil)) (by show 2 ≤ sizeLine; decide) tu
  refine ⟨.ref s.heap.objs.size,_,I2,rfl,⟨_,x,hfr,rfl,rfl,fun xs' h=>by rw [I.list_inj h sx]; exact hx⟩,⟨⟨u,by have:=e2; simpa using this⟩,i2⟩,fun b hb=>?_⟩
  have : b ≠ s.heap.objs.size:=fun q=>by
   subst q
   simp only [List.mem_cons,List.not_mem_nil,or_false] at hb
   rcases hb with q | q
   ·exact Te q
   ·exact Ti q
  rw [jai this]
  exact (hf b hb).1
 done:=by
  intro X hP hw hK hc i pins s σ H E I hf st hg
  subst hP hw hK
  obtain ⟨⟨old,q1⟩,q2⟩:=st
  obtain ⟨xs,sx,hend⟩:=hg
  obtain ⟨ix,rx,cx,_⟩:=I.list sx
  have lx:=rx.length
  refine wpAny_pyNext_enum_end (I.ok.hd hc) q1 q2 cx.isList (by simp; omega) fun h' k=>⟨rfl,I.spun0 (t':=s.toks) hf fun b o hb z=>?_⟩
  simp only [List.mem_cons,List.not_mem_nil,or_false,not_or] at hb
  exact k b o hb.2 z
 self:=fun _ _ _ _ _ st h=>by obtain ⟨⟨old,q1⟩,_⟩:=st; exact wpAny_pyIter_enum q1 h
section
variable {X : Cx}
noncomputable def jx4 (K : PySem.W.Frag) (ta : TA) : TI:=fun σ H R=>ta σ H fun vs H1=>∃ l xs,vs = [.ref l] ∧ SqL K H1 l xs ∧ R (Ite K l) H1
theorem jtk {a : Expr} {ta : TA} {es : List Expr} {kk : Nat} {tp p pos : Pos} (hg : Gl X "enumerate") (hm : X.mg "enumerate" = none) (ha : PA X [a] ta) (hs : autoParam (starEach [a] X.env = [(false,eval a X.env)]) zau2._auto_1) :
  PI X (.Tuple es kk tp) (.Call (.Name "enumerate" p) [a] [] pos) (jx4 X.K ta):=by
 intro pins s σ H R I h
 refine Call_ (jhq I hg hm boot_enumerate (PyProof.Rows.callWith_type1 (thn (ha pos pins s σ H _ I h) fun us s1 hzz=>?_) hs rfl))
 obtain ⟨vs,H1,I1,r1,q1⟩:=hzz
 obtain ⟨l,xs,e,sx,q⟩:=q1
 subst e
 obtain ⟨u,rfl,e1⟩:=r1.one
 cases e1
 obtain ⟨ix,rx,cx,_⟩:=I1.list sx
 refine call_enumerate_list cx.isList fun h' b1 b2 b3 b4=>wpAny_pyIter_enum b1 ?_
 refine ⟨s1.heap.objs.size + 1,[s1.heap.objs.size + 1,s1.heap.objs.size],_,_,H1,rfl,I1.kept (t':=s1.toks) fun c o e=>b4 c o e,jot l _ _ (show (s1.heap.objs.size + 1 : Nat) ≠ s1.heap.objs.size by omega),⟨⟨_,b1⟩,b2⟩,fun b hb=>?_,q⟩
 have hb' : s1.heap.objs.size ≤ b:=by
  simp only [List.mem_cons,List.not_mem_nil,or_false] at hb
  rcases hb with q | q <;> (rw [q]; first | exact Nat.le_refl _ | exact Nat.le_add_right _ _)
 exact I1.fpOk hb' (I1.hok.fresh hb')
end
end L2
namespace L2
open PySem PySem.Spec PyProof.Rows
noncomputable def iSeq (K : PySem.W.Frag) (tl : TE) : TI:=fun σ H R=>tl σ H fun x H1=>(∃ a,x = .ref a ∧ (∃ xs,SqL K H1 a xs) ∧ R (Itl K a) H1) ∨ (∃ a,x = .ref a ∧ (∃ xs,SqT K H1 a xs) ∧ R (Itt K a) H1)
theorem jwj {X : Cx} {tg l : Expr} {tl : TE} (hl : PE X l tl) : PI X tg l (iSeq X.K tl):=by
 intro pins s σ H R I h
 refine thn (hl pins s σ H _ I h) fun v s1 hzz=>?_
 obtain ⟨x,H1,I1,r1,q1⟩:=hzz
 have fp1 : ∀ b ∈ [s1.heap.objs.size],FpOk X pins H1 b:=fun b hb=>by
  have e : b = s1.heap.objs.size:=by simpa using hb
  subst e
  exact I1.fpOk (Nat.le_refl _) (I1.hok.fresh (Nat.le_refl _))
 rcases q1 with ⟨a,e,⟨xs,hq⟩,q⟩ | ⟨a,e,⟨xs,hq⟩,q⟩
 ·subst e
  cases r1
  obtain ⟨its,rv,p,hz⟩:=I1.list hq
  exact wpAny_pyIter_list p.isList ⟨s1.heap.objs.size,[s1.heap.objs.size],_,_,H1,rfl,I1.kept (t':=s1.toks) fun b o e=>Heap.get?_push_of_some _ e,jou a _,⟨_,Heap.get?_push_size _ rfl,rfl,rfl⟩,fp1,q⟩
 ·subst e
  cases r1
  obtain ⟨its,rv,p,hz⟩:=I1.tuple hq
  exact wpAny_pyIter_tuple (show s1.heap.IsTuple a its.toArray from p) ⟨s1.heap.objs.size,[s1.heap.objs.size],_,_,H1,rfl,I1.kept (t':=s1.toks) fun b o e=>Heap.get?_push_of_some _ e,jmt a _,⟨_,Heap.get?_push_size _ rfl,rfl,rfl⟩,fp1,q⟩
noncomputable def Itv (val : Nat → V) (n : Nat) : It:=⟨fun i _=>i < n,fun i H x H'=>H' = H ∧ x = val i,fun i _=>i = n⟩
noncomputable def jjs (nm : String) : Bool:=!["enumerate","zip","dict_itemiterator","dict_reverseitemiterator","odict_iterator","itertools.zip_longest","itertools.pairwise"].contains nm
theorem jj4 {P : Program} {w : World} {K : PySem.W.Frag} {tg : Expr} (it : Addr) (val : Nat → V) (n : Nat) (Stn : Nat → Heap → Prop) (W : ∀ A : Around,A.handled = none → Walks P w A it [it] [it] n (fun i v=>RelV (val i) v) Stn)
  (ob : ∀ i h,Stn i h → ∃ o nm vs,h.get? it = some o ∧ o.cls = .type nm ∧ o.data = .fields vs ∧ jjs nm = true)
  (sf : ∀ (A : Around) (i : Nat) (s : Shared) (Q : Value → Shared → Prop) (E : Value → Shared → Prop),Stn i s.heap → Q (.ref it) s → wpAny (model P w) A (pyIter (.ref it)) Q E s) : Turn P w K tg (Itv val n) [it] it Stn where
 mem:=by simp
 obj:=fun i h st b hb=>by
  have e : b = it:=by simpa using hb
  subst e
  obtain ⟨o,nm,vs,q1,_,q3,_⟩:=ob i h st
  exact ⟨o,q1,fun v z=>by rw [q3] at z; cases z⟩
 keep:=fun i h h' st k=>(W { handled:=none,frames:=some [] } rfl).frame i h h' st k
 item:=by
  intro X hP hw hK hc i pins s σ H E I hf st hg
  subst hP hw hK
  refine (W X.A (I.ok.hd hc)).item i s _ _ hg st fun v h' tk hv st' kk=>⟨v,rfl,?_⟩
  obtain ⟨o,nm,vs,q1,q2,q3,q4⟩:=ob _ _ st'
  have I1 : Inv X pins σ H { s with heap:=h',toks:=tk }:=I.spun0 hf kk
  exact jsd (s:={ s with heap:=h',toks:=tk }) q1 q2 q3 (by unfold jjs at q4; simpa using q4) ⟨val i,H,I1,hv,⟨rfl,rfl⟩,st',fun b hb=>(hf b hb).1⟩
 done:=by
  intro X hP hw hK hc i pins s σ H E I hf st hg
  subst hP hw hK
  have hg' : i = n:=hg
  subst hg'
  exact (W X.A (I.ok.hd hc)).done s _ _ st fun h' tk kk=>⟨rfl,I.spun0 hf kk⟩
 self:=fun A i s Q E st h=>sf A i s Q E st h
section
variable {X : Cx} {tg : Expr}
theorem jju {pins : List (Addr × Obj)} {σ : St} {H : Hp} {s : Shared} {R : It → Hp → Prop} {E : Value → Shared → Prop} {lo hi st : Int} {t u v : Tok} {tk : Nat} (I : Inv X pins σ H s) (hst : st = 1)
  (q : R (Itv (fun i=>.int (lo + (i : Nat) * st)) (Builtin.Range.rangeSize lo hi st).toNat) H) : wpAny (model X.prog X.w) X.A (pyIter (.ref s.heap.objs.size)) (PIE X pins σ tg R) E { s with heap:=s.heap.push { cls:=.type "range",data:=.fields #[.int lo t,.int hi u,.int st v] },toks:=tk }:=by
 have I1 : Inv X pins σ H { s with heap:=s.heap.push { cls:=.type "range",data:=.fields #[.int lo t,.int hi u,.int st v] },toks:=tk }:=I.kept fun b o e=>Heap.get?_push_of_some _ e
 subst hst
 have hn : 0 ≤ Builtin.Range.rangeSize lo hi 1:=by rw [rangeSize_one]; split <;> omega
 generalize hN : (Builtin.Range.rangeSize lo hi 1).toNat = N at q
 have hN' : Builtin.Range.rangeSize lo hi 1 = (N : Int):=by omega
 have fpk : ∀ b ∈ [(s.heap.push { cls:=.type "range",data:=.fields #[.int lo t,.int hi u,.int 1 v] }).objs.size],FpOk X pins H b:=fun b hb=>by
  have e : b = (s.heap.push { cls:=.type "range",data:=.fields #[.int lo t,.int hi u,.int 1 v] }).objs.size:=by simpa using hb
  subst e
  exact I1.fpOk (Nat.le_refl _) (I1.hok.fresh (Nat.le_refl _))
 by_cases hsm : Builtin.Range.small lo hi 1 = true
 ·refine wpAny_pyIter_range (IsRange.new ..) hsm ?_
  refine ⟨_,[_],_,_,H,rfl,I1.kept (t':=tk) fun b o e=>Heap.get?_push_of_some _ e,jj4 _ _ N _ (fun A hA=>Walks.range hA _ lo 1 N) (fun i h e=>⟨_,_,_,e,rfl,rfl,rfl⟩) (fun A i s Q E e h=>wpAny_pyIter_rangeiter e h),?_,fpk,q⟩
  show IsRangeIter _ _ (lo + ((0 : Nat) : Int) * 1) ((N : Int) - ((0 : Nat) : Int)) 1
  rw [← hN']
  have e1 : lo + ((0 : Nat) : Int) * 1 = lo:=by simp
  have e2 : Builtin.Range.rangeSize lo hi 1 - ((0 : Nat) : Int) = Builtin.Range.rangeSize lo hi 1:=by simp
  rw [e1,e2]
  exact Heap.get?_push_size _ rfl
 ·refine wpAny_pyIter_longrange (IsRange.new ..) (by simpa using hsm) ?_
  refine ⟨_,[_],_,_,H,rfl,I1.kept (t':=tk) fun b o e=>Heap.get?_push_of_some _ e,jj4 _ _ N _ (fun A hA=>Walks.longrange hA _ lo 1 N) (fun i h e=>⟨_,_,_,e,rfl,rfl,rfl⟩) (fun A i s Q E e h=>wpAny_pyIter_longiter e h),?_,fpk,q⟩
  show IsLongIter _ _ (lo + ((0 : Nat) : Int) * 1) ((N : Int) - ((0 : Nat) : Int)) 1
  rw [← hN']
  have e1 : lo + ((0 : Nat) : Int) * 1 = lo:=by simp
  have e2 : Builtin.Range.rangeSize lo hi 1 - ((0 : Nat) : Int) = Builtin.Range.rangeSize lo hi 1:=by simp
  rw [e1,e2]
  exact Heap.get?_push_size _ rfl
noncomputable def iRgA (ta : TA) : TI:=fun σ H R=>ta σ H fun vs H1=>(∃ j : Int,vs = [.int j] ∧ R (Itv (fun i=>.int (0 + (i : Nat) * 1)) (Builtin.Range.rangeSize 0 j 1).toNat) H1) ∨
 (∃ i j : Int,vs = [.int i,.int j] ∧ R (Itv (fun n=>.int (i + (n : Nat) * 1)) (Builtin.Range.rangeSize i j 1).toNat) H1)
theorem jqd {a : Expr} {es : List Expr} {ta : TA} {p pos : Pos} (hg : Gl X "range") (hm : X.mg "range" = none) (ha : PA X (a :: es) ta) (hs : autoParam (starEach (a :: es) X.env = (false,eval a X.env) :: starEach es X.env) zau2._auto_1) (hp : autoParam ((backTo pos (starEach es X.env)).any (·.1) = false) zau2._auto_1) :
  PI X tg (.Call (.Name "range" p) (a :: es) [] pos) (iRgA ta):=by
 intro pins s σ H R I h
 refine Call_ (jhq I hg hm boot_range (PyProof.Rows.callWith_type1 (thn (ha pos pins s σ H _ I h) fun us s1 hzz=>?_) hs hp))
 obtain ⟨vs,H1,I1,r1,q1⟩:=hzz
 rcases q1 with ⟨j,e,q⟩ | ⟨i,j,e,q⟩
 ·subst e
  obtain ⟨u,rfl,t,rfl⟩:=r1.one
  exact call_range_1 (jju I1 rfl q)
 ·subst e
  obtain ⟨u,v,rfl,⟨t,rfl⟩,⟨t',rfl⟩⟩:=r1.two
  exact call_range_2 (jju I1 rfl q)
end
end L2
namespace DL
open PySem PySem.Spec L2
noncomputable def seqD : D → Option (List D)
 | .lst ds=>some ds
 | .tup ds=>some ds
 | _=>none
noncomputable def jpn (f : DSt → M D) : DSt → M (List D):=fun δ=>(f δ).b fun d=>M.o (seqD d)
noncomputable def ja4 (lo : Int) (n : Nat) : List D:=(List.range n).map fun i=>.int (lo + (i : Nat))
noncomputable def jbv : List D → Option (List D)
 | [.int j]=>some (ja4 0 j.toNat)
 | [.int i,.int j]=>some (ja4 i (j - i).toNat)
 | _=>none
noncomputable def zipD : List D → List D → List D
 | x :: xs,y :: ys=>.tup [x,y] :: zipD xs ys
 | _,_=>[]
noncomputable def jb6 : List D → Option (List D)
 | [x,y]=>match seqD x,seqD y with
  | some xs,some ys=>some (zipD xs ys)
  | _,_=>none
 | _=>none
noncomputable def jdr : Int → List D → List D
 | _,[]=>[]
 | k,d :: ds=>.tup [.int k,d] :: jdr (k + 1) ds
noncomputable def jex : List D → Option (List D)
 | [.lst xs]=>some (jdr 0 xs)
 | _=>none
noncomputable def jc6 (k : List D → Option (List D)) (f : DSt → M (List D)) : DSt → M (List D):=fun δ=>(f δ).b fun ds=>M.o (k ds)
theorem jl5 : ∀ {xs ys : List D} {i : Nat} {d : D},(zipD xs ys)[i]? = some d → ∃ x y,xs[i]? = some x ∧ ys[i]? = some y ∧ d = .tup [x,y]
 | [],_,_,_,h=>by simp [zipD] at h
 | _ :: _,[],_,_,h=>by simp [zipD] at h
 | x :: xs,y :: ys,0,d,h=>by simp [zipD] at h; exact ⟨x,y,rfl,rfl,h.symm⟩
 | x :: xs,y :: ys,i + 1,d,h=>by
  obtain ⟨a,b,q1,q2,q3⟩:=jl5 (xs:=xs) (ys:=ys) (i:=i) (d:=d) (by simpa [zipD] using h)
  exact ⟨a,b,by simpa using q1,by simpa using q2,q3⟩
theorem jl6 : ∀ (xs ys : List D),(zipD xs ys).length = min xs.length ys.length
 | [],_=>by simp [zipD]
 | _ :: _,[]=>by simp [zipD]
 | x :: xs,y :: ys=>by simp [zipD,jl6 xs ys]
theorem ji3 : ∀ {xs : List D} {k : Int} {i : Nat} {d : D},(jdr k xs)[i]? = some d → ∃ x,xs[i]? = some x ∧ d = .tup [.int (k + i),x]
 | [],_,_,_,h=>by simp [jdr] at h
 | x :: xs,k,0,d,h=>by simp [jdr] at h; exact ⟨x,rfl,by rw [← h]; simp⟩
 | x :: xs,k,i + 1,d,h=>by
  obtain ⟨a,q1,q2⟩:=ji3 (xs:=xs) (k:=k + 1) (i:=i) (d:=d) (by simpa [jdr] using h)
  refine ⟨a,by simpa using q1,?_⟩
  have : k + 1 + (i : Int) = k + ((i + 1 : Nat) : Int):=by push_cast; omega
  rw [q2,this]
theorem ji4 : ∀ (xs : List D) (k : Int),(jdr k xs).length = xs.length
 | [],_=>rfl
 | _ :: xs,k=>by simp [jdr,ji4 xs]
section
variable {ρ : Rho} {X : Cx} {O : List Nat} {E : XK} {a b tg iter e elt : Expr} {es : List Expr} {fa : DSt → M D} {fl : DSt → M (List D)} {pos p : Pos}
theorem jjx {k : Bool} {K : PySem.W.Frag} {H H' : Hp} {l : Addr} {xs : List V} (e : Same H H') (h : SqV k K H l xs) : SqV k K H' l xs:=by
 cases k with
 | true=>exact jc9 (H:=H) e h
 | false=>exact jcu (H:=H) e h
theorem jvd {ρ : Rho} {K : PySem.W.Frag} {ds : List D} {Hv : Hp} {l : Addr} {xs : List V} (h : SqL K Hv l xs) (hr : Reps ρ K Hv ds xs) : ItD ρ K (Itl K l) ds Hv:=by
 intro H' G' i f hG
 have h' : SqL K H' l xs:=jcu (f.trans jam) h
 refine ⟨fun hi=>?_,fun hi=>⟨xs,h',by rw [hr.length,hi]; exact Nat.le_refl _⟩⟩
 obtain ⟨v,hv,rv⟩:=hr.get (List.getElem?_eq_getElem hi)
 refine ⟨⟨xs,v,h',hv⟩,fun x H2 y=>?_⟩
 obtain ⟨rfl,y⟩:=y
 refine ⟨Same.refl _,_,List.getElem?_eq_getElem hi,?_⟩
 have:=y xs h'
 rw [hv] at this; cases this
 exact rv.mono f
theorem jve {ρ : Rho} {K : PySem.W.Frag} {ds : List D} {Hv : Hp} {l : Addr} {xs : List V} (h : SqT K Hv l xs) (hr : Reps ρ K Hv ds xs) : ItD ρ K (Itt K l) ds Hv:=by
 intro H' G' i f hG
 have h' : SqT K H' l xs:=jc9 (f.trans jam) h
 refine ⟨fun hi=>?_,fun hi=>⟨xs,h',by rw [hr.length,hi]; exact Nat.le_refl _⟩⟩
 obtain ⟨v,hv,rv⟩:=hr.get (List.getElem?_eq_getElem hi)
 refine ⟨⟨xs,v,h',hv⟩,fun x H2 y=>?_⟩
 obtain ⟨rfl,y⟩:=y
 refine ⟨Same.refl _,_,List.getElem?_eq_getElem hi,?_⟩
 have:=y xs h'
 rw [hv] at this; cases this
 exact rv.mono f
theorem jq3 {ρ : Rho} {K : PySem.W.Frag} {Hv : Hp} {val : Nat → V} {ds : List D} {n : Nat} (hl : ds.length = n) (hv : ∀ i d,ds[i]? = some d → ∀ H,Rep ρ K H d (val i)) : ItD ρ K (Itv val n) ds Hv:=by
 intro H' G' i f hG
 subst hl
 refine ⟨fun hi=>⟨hi,fun x H2 y=>?_⟩,fun hi=>hi⟩
 obtain ⟨rfl,rfl⟩:=y
 exact ⟨Same.refl _,_,List.getElem?_eq_getElem hi,hv i _ (List.getElem?_eq_getElem hi) _⟩
theorem jvf {ρ : Rho} {K : PySem.W.Frag} {k1 k2 : Bool} {ds es : List D} {Hv : Hp} {l1 l2 : Addr} {xs ys : List V} (h1 : SqV k1 K Hv l1 xs) (r1 : Reps ρ K Hv ds xs) (h2 : SqV k2 K Hv l2 ys) (r2 : Reps ρ K Hv es ys) : ItD ρ K (Itz k1 k2 K l1 l2) (zipD ds es) Hv:=by
 intro H' G' i f hG
 have h1' : SqV k1 K H' l1 xs:=jjx (f.trans jam) h1
 have h2' : SqV k2 K H' l2 ys:=jjx (f.trans jam) h2
 refine ⟨fun hi=>?_,fun hi=>⟨xs,ys,h1',h2',?_⟩⟩
 ·obtain ⟨d1,d2,q1,q2,q3⟩:=jl5 (List.getElem?_eq_getElem hi)
  obtain ⟨v,hv,rv⟩:=r1.get q1
  obtain ⟨u,hu,ru⟩:=r2.get q2
  refine ⟨⟨xs,ys,v,u,h1',h2',hv,hu⟩,fun x H2 y=>?_⟩
  obtain ⟨T,x1,x2,hT,rfl,rfl,y1,y2⟩:=y
  have e1:=y1 xs h1'
  have e2:=y2 ys h2'
  rw [hv] at e1; cases e1
  rw [hu] at e2; cases e2
  refine ⟨jaz hT,_,List.getElem?_eq_getElem hi,?_⟩
  rw [q3]
  exact jbw hT (hG T hT) (Reps.cons (rv.mono f) (Reps.cons (ru.mono f) Reps.nil))
 ·rw [jl6] at hi
  rw [r1.length,r2.length]
  omega
theorem jvc {ρ : Rho} {K : PySem.W.Frag} {ds : List D} {Hv : Hp} {l : Addr} {xs : List V} (h : SqL K Hv l xs) (hr : Reps ρ K Hv ds xs) : ItD ρ K (Ite K l) (jdr 0 ds) Hv:=by
 intro H' G' i f hG
 have h' : SqL K H' l xs:=jcu (f.trans jam) h
 refine ⟨fun hi=>?_,fun hi=>⟨xs,h',by rw [hr.length,hi,ji4]; exact Nat.le_refl _⟩⟩
 obtain ⟨d,q1,q2⟩:=ji3 (List.getElem?_eq_getElem hi)
 obtain ⟨v,hv,rv⟩:=hr.get q1
 refine ⟨⟨xs,v,h',hv⟩,fun x H2 y=>?_⟩
 obtain ⟨T,x1,hT,rfl,rfl,y1⟩:=y
 have e1:=y1 xs h'
 rw [hv] at e1; cases e1
 refine ⟨jaz hT,_,List.getElem?_eq_getElem hi,?_⟩
 rw [q2,Int.zero_add]
 exact jbw hT (hG T hT) (Reps.cons (rep_int.mpr rfl) (Reps.cons (rv.mono f) Reps.nil))
theorem jqz (h : DE X O E iter fa) : DI X O E tg iter (jpn fa):=by
 rintro pins s σ H R I ⟨ρ,H₀,F,δ,r,RS0,hf,k⟩
 refine jwj h pins s σ H R I ?_
 rcases M.b_inv hf with ⟨d,e1,hf⟩ | ⟨y,e1,rfl⟩
 ·refine ⟨ρ,H₀,F,δ,.ok d,RS0,e1,fun v H1 s1 r1=>?_⟩
  obtain ⟨ds,hd,rfl⟩:=M.o_inv hf
  cases d with
  | lst es =>
   cases hd
   obtain ⟨q,xs,rfl,q2,q3⟩:=rep_lst.mp r1
   exact .inl ⟨q,rfl,⟨xs,jcu jam q2⟩,k _ H1 s1 (jvd q2 q3)⟩
  | tup es =>
   cases hd
   obtain ⟨q,xs,rfl,q2,q3⟩:=rep_tup.mp r1
   exact .inr ⟨q,rfl,⟨xs,jc9 jam q2⟩,k _ H1 s1 (jve q2 q3)⟩
  | _=>cases hd
 ·exact ⟨ρ,H₀,F,δ,.error y,RS0,e1,k⟩
theorem range_len (lo hi : Int) : (Builtin.Range.rangeSize lo hi 1).toNat = (hi - lo).toNat:=by
 rw [rangeSize_one]; split <;> omega
theorem jew (hg : Gl X "range") (hm : X.mg "range" = none) (ha : DA X O E (a :: es) fl) (hs : autoParam (starEach (a :: es) X.env = (false,eval a X.env) :: starEach es X.env) zau2._auto_1) (hp : autoParam ((backTo pos (starEach es X.env)).any (·.1) = false) zau2._auto_1) :
  DI X O E tg (.Call (.Name "range" p) (a :: es) [] pos) (jc6 jbv fl):=by
 rintro pins s σ H R I ⟨ρ,H₀,F,δ,r,RS0,hf,k⟩
 refine jqd hg hm ha hs hp pins s σ H R I ?_
 rcases M.b_inv hf with ⟨d,e1,hf⟩ | ⟨y,e1,rfl⟩
 ·refine ⟨ρ,H₀,F,δ,.ok d,RS0,e1,fun vs H1 s1 r1=>?_⟩
  obtain ⟨ds,hd,rfl⟩:=M.o_inv hf
  unfold jbv at hd
  split at hd
  ·rename_i j
   cases hd
   obtain ⟨v,r',rfl,q1,q2⟩:=reps_cons.mp r1
   cases reps_nil.mp q2
   cases rep_int.mp q1
   refine .inl ⟨j,rfl,k _ H1 s1 ?_⟩
   refine jq3 (by unfold ja4; rw [range_len]; simp) fun i d hd H=>?_
   unfold ja4 at hd
   rw [List.getElem?_map] at hd
   cases q : (List.range j.toNat)[i]? with
   | none=>rw [q] at hd; cases hd
   | some m =>
    rw [q] at hd
    have : m = i:=by
     have:=(List.getElem?_eq_some_iff.mp q).2
     simpa using this.symm
    subst this
    cases hd
    exact rep_int.mpr (by rw [Int.mul_one])
  ·rename_i i0 j
   cases hd
   obtain ⟨v,r',rfl,q1,q2⟩:=reps_cons.mp r1
   obtain ⟨v2,r2,rfl,q3,q4⟩:=reps_cons.mp q2
   cases reps_nil.mp q4
   cases rep_int.mp q1
   cases rep_int.mp q3
   refine .inr ⟨i0,j,rfl,k _ H1 s1 ?_⟩
   refine jq3 (by unfold ja4; rw [range_len]; simp) fun i d hd H=>?_
   unfold ja4 at hd
   rw [List.getElem?_map] at hd
   cases q : (List.range (j - i0).toNat)[i]? with
   | none=>rw [q] at hd; cases hd
   | some m =>
    rw [q] at hd
    have : m = i:=by
     have:=(List.getElem?_eq_some_iff.mp q).2
     simpa using this.symm
    subst this
    cases hd
    exact rep_int.mpr (by rw [Int.mul_one])
  ·cases hd
 ·exact ⟨ρ,H₀,F,δ,.error y,RS0,e1,k⟩
theorem jon {ρ : Rho} {K : PySem.W.Frag} {H : Hp} {d : D} {ds : List D} {v : V} (hd : seqD d = some ds) (h : Rep ρ K H d v) : ∃ k l xs,v = .ref l ∧ SqV k K H l xs ∧ Reps ρ K H ds xs:=by
 cases d with
 | lst es=>cases hd; obtain ⟨q,xs,rfl,q2,q3⟩:=rep_lst.mp h; exact ⟨false,q,xs,rfl,q2,q3⟩
 | tup es=>cases hd; obtain ⟨q,xs,rfl,q2,q3⟩:=rep_tup.mp h; exact ⟨true,q,xs,rfl,q2,q3⟩
 | _=>cases hd
theorem jhl {ts : List Expr} {kk : Nat} {tp : Pos} (hg : Gl X "zip") (hm : X.mg "zip" = none) (ha : DA X O E [a,b] fl) (hs : autoParam (starEach [a,b] X.env = [(false,eval a X.env),(false,eval b X.env)]) zau2._auto_1) (hs2 : autoParam (starEach [b] X.env = [(false,eval b X.env)]) zau2._auto_1) :
  DI X O E (.Tuple ts kk tp) (.Call (.Name "zip" p) [a,b] [] pos) (jc6 jb6 fl):=by
 rintro pins s σ H R I ⟨ρ,H₀,F,δ,r,RS0,hf,k⟩
 refine jwk hg hm ha hs hs2 pins s σ H R I ?_
 rcases M.b_inv hf with ⟨d,e1,hf⟩ | ⟨y,e1,rfl⟩
 ·refine ⟨ρ,H₀,F,δ,.ok d,RS0,e1,fun vs H1 s1 r1=>?_⟩
  obtain ⟨ds,hd,rfl⟩:=M.o_inv hf
  unfold jb6 at hd
  split at hd
  ·rename_i x y
   split at hd
   ·rename_i xs ys ex ey
    cases hd
    obtain ⟨v,r',rfl,q1,q2⟩:=reps_cons.mp r1
    obtain ⟨v2,r2,rfl,q3,q4⟩:=reps_cons.mp q2
    cases reps_nil.mp q4
    obtain ⟨k1,l1,us,rfl,z1,z2⟩:=jon ex q1
    obtain ⟨k2,l2,ws,rfl,z3,z4⟩:=jon ey q3
    exact ⟨k1,k2,l1,l2,us,ws,rfl,jjx jam z1,jjx jam z3,k _ H1 s1 (jvf z1 z2 z3 z4)⟩
   ·cases hd
  ·cases hd
 ·exact ⟨ρ,H₀,F,δ,.error y,RS0,e1,k⟩
theorem jm8 {ts : List Expr} {kk : Nat} {tp : Pos} (hg : Gl X "enumerate") (hm : X.mg "enumerate" = none) (ha : DA X O E [a] fl) (hs : autoParam (starEach [a] X.env = [(false,eval a X.env)]) zau2._auto_1) :
  DI X O E (.Tuple ts kk tp) (.Call (.Name "enumerate" p) [a] [] pos) (jc6 jex fl):=by
 rintro pins s σ H R I ⟨ρ,H₀,F,δ,r,RS0,hf,k⟩
 refine jtk hg hm ha hs pins s σ H R I ?_
 rcases M.b_inv hf with ⟨d,e1,hf⟩ | ⟨y,e1,rfl⟩
 ·refine ⟨ρ,H₀,F,δ,.ok d,RS0,e1,fun vs H1 s1 r1=>?_⟩
  obtain ⟨ds,hd,rfl⟩:=M.o_inv hf
  unfold jex at hd
  split at hd
  ·rename_i xs
   cases hd
   obtain ⟨v,r',rfl,q1,q2⟩:=reps_cons.mp r1
   cases reps_nil.mp q2
   obtain ⟨l,us,rfl,z1,z2⟩:=rep_lst.mp q1
   exact ⟨l,us,rfl,jcu jam z1,k _ H1 s1 (jvc z1 z2)⟩
  ·cases hd
 ·exact ⟨ρ,H₀,F,δ,.error y,RS0,e1,k⟩
noncomputable def jc3 (h : D → DSt → Option DSt) (tc : DSt → M Bool) (fe : DSt → M D) : List D → DSt → Option (List D)
 | [],_=>some []
 | d :: ds,δ=>match h d δ with
  | none=>none
  | some δ1=>match tc δ1 with
   | some (.ok true)=>(match fe δ1 with
    | some (.ok y)=>(jc3 h tc fe ds δ1).map (y :: ·)
    | _=>none)
   | some (.ok false)=>jc3 h tc fe ds δ1
   | _=>none
noncomputable def jeo (own : Nat) (caps : List (Str × Nat)) (δ : DSt) : DSt:=List.replicate own none ++ caps.map fun p=>(δ[p.2]?).join
noncomputable def jel (own : Nat) (caps : List (Str × Nat)) (fi : DSt → M (List D)) (h : D → DSt → Option DSt) (tc : DSt → M Bool) (fe : DSt → M D) : DSt → M D:=fun δ=>(fi δ).b fun ds=>M.o ((jc3 h tc fe ds (jeo own caps δ)).bind jb0)
noncomputable def tYes : DSt → M Bool:=fun _=>M.p true
noncomputable def DC (X : Cx) (O : List Nat) (E : XK) (ifs : List Expr) (f : DSt → M Bool) : Prop:=PC0 X ifs (tB X.K O E f)
theorem jei : DC X O E [] tYes:=by
 rintro pins s σ H Q I ⟨ρ,H₀,F,δ,r,R,hf,h⟩
 cases hf
 exact jtd pins s σ H Q I (h H (Same.refl H))
theorem juo {f : DSt → M Bool} (h : DT X O E a f) : DC X O E [a] f:=jv9 h
theorem jho {own : Nat} {caps : List (Str × Nat)} {δ : DSt} {i : Nat} {d : D} (h : (jeo own caps δ)[i]? = some (some d)) : ∃ p,caps[i - own]? = some p ∧ own ≤ i ∧ δ[p.2]? = some (some d):=by
 unfold jeo at h
 by_cases hi : i < own
 ·rw [List.getElem?_append_left (by simpa using hi),List.getElem?_replicate,if_pos hi] at h
  cases h
 ·rw [List.getElem?_append_right (by simpa using hi),List.length_replicate,List.getElem?_map] at h
  cases e : caps[i - own]? with
  | none=>rw [e] at h; cases h
  | some p =>
   rw [e] at h
   exact ⟨p,rfl,by omega,join_some (Option.some.inj h)⟩
theorem jja {own : Nat} {caps : List (Str × Nat)} {σ : St} {i : Nat} {p : Str × Nat} {v : V} (h : caps[i - own]? = some p) (hi : own ≤ i) (hv : σ[p.2]? = some (some v)) : (jcr own caps σ)[i]? = some (some v):=by
 unfold jcr
 rw [List.getElem?_append_right (by simpa using hi),List.length_replicate,List.getElem?_map,h]
 show some ((σ[p.2]?).join) = _
 rw [hv]; rfl
noncomputable def jh4 (O : List Nat) (caps : List (Str × Nat)) : Bool:=caps.all fun p=>!O.contains p.2
inductive CInv (ρ : Rho) (K : PySem.W.Frag) (H1 : Hp) (F : Addr → Bool) (Dd : Addr) (tot : List D) (cd : DSt → Option (List D)) (σ : St) (H : Hp) : Prop
 | mk (δ : DSt) (done : List D) (zs : List V) (rest : List D) (hR : RS ρ K H1 H F [] σ δ) (hD : H Dd = some (.lst zs)) (hz : Reps ρ K (hid H F) done zs) (hr : cd δ = some rest) (ht : done ++ rest = tot)
theorem je4 {ifs : List Expr} {scope : Scope} {own : List Str} {caps : List (Str × Nat)} {fi : DSt → M (List D)} {h : D → DSt → Option DSt} {tc : DSt → M Bool} {fe : DSt → M D} (hc : X.calm = true) (ck : CapsOk X scope caps) (hi : DI X O E tg iter fi)
  (hg : ∀ C s0 H0 ex,DG (jbe X scope (own ++ caps.map (·.1)) C s0 H0 ex) [] tg h) (ht : ∀ C s0 H0 ex,DC (jbe X scope (own ++ caps.map (·.1)) C s0 H0 ex) [] E0 ifs tc)
  (he : ∀ C s0 H0 ex,DE (jbe X scope (own ++ caps.map (·.1)) C s0 H0 ex) [] E0 elt fe) (hcf : autoParam (jh4 O caps = true) zau2._auto_1) (hs : autoParam (∀ x,foldedSetIterable iter X.env x = pure x) zau3._auto_1) :
  DE X O E (.ListComp elt [⟨tg,iter,ifs,0⟩] scope pos) (jel own.length caps fi h tc fe):=by
 rintro pins s σ H Q I ⟨ρ,H₀,F,δ,r,R,hf,k⟩
 refine jte (own:=own) (g:=tG X.K [] h) (tc:=tB X.K [] E0 tc) (te:=tD X.K [] E0 fe) hc ck hi hg ht he hs pins s σ H Q I ?_
 rcases M.b_inv hf with ⟨ds,e1,hf⟩ | ⟨y,e1,rfl⟩
 ·refine ⟨ρ,H₀,F,δ,.ok ds,R,e1,fun J H1 s1 it Dd hD=>?_⟩
  obtain ⟨dd,hd,rfl⟩:=M.o_inv hf
  cases hcd : jc3 h tc fe ds (jeo own.length caps δ) with
  | none=>rw [hcd] at hd; cases hd
  | some tot =>
   rw [hcd] at hd
   have hd' : jb0 tot = some dd:=hd
   unfold jb0 at hd'
   split at hd'
   ·rename_i hz
    cases hd'
    have R1:=R.mono s1
    have pf:=R1.fresh hD
    let F' : Addr → Bool:=fun b=>fob F σ O b || b == Dd
    have F't : ∀ b,F' b = true ↔ fob F σ O b = true ∨ b = Dd:=fun b=>by show (_ || _) = true ↔ _; rw [Bool.or_eq_true,beq_iff_eq]
    have vis : ∀ {H2 : Hp},Same H1 H2 → Same (hid H1 (fob F σ O)) (hid H2 F'):=fun {H2} e b o q=>by
     obtain ⟨q1,q2⟩:=hid_some.mp q
     refine hid_some.mpr ⟨?_,e b o q2⟩
     cases z : F' b with
     | false=>rfl
     | true =>
      rcases (F't b).mp z with z | z
      ·rw [q1] at z; cases z
      ·rw [z,hD] at q2; cases q2
    have R0 : RS ρ X.K H1 (upd H1 Dd (.lst [])) F' [] (jcr own.length caps σ) (jeo own.length caps δ):=by
     refine ⟨by simp [jcr,jeo],jaz hD,fun b hb=>?_,fun i d hd _=>?_,fun i hi=>absurd hi (by simp),fun i hi=>absurd hi (by simp)⟩
     ·rcases (F't b).mp hb with z | z
      ·refine jfv fun q=>?_
       rw [R1.fresh q] at z; cases z
      ·rw [z,jak]; exact fun q=>nomatch q
     ·obtain ⟨p,p1,p2,p3⟩:=jho hd
      have hO : p.2 ∉ O:=fun z=>by
       have:=List.all_eq_true.mp hcf p (List.mem_of_getElem? p1)
       rw [List.contains_iff_mem.mpr z] at this; cases this
      obtain ⟨v,q1,q2⟩:=R1.val p.2 d p3 hO
      exact ⟨v,jja p1 p2 q1,by rw [jcg]; exact q2.mono (vis (jaz hD))⟩
    refine ⟨fun i m σ' H'=>m = ds.length - i ∧ i ≤ ds.length ∧ CInv ρ X.K H1 F' Dd tot (jc3 h tc fe (ds.drop i)) σ' H',
     ⟨ds.length,by simp,Nat.zero_le _,_,[],[],tot,R0,jak,Reps.nil,hcd,rfl⟩,?_⟩
    rintro i m σ' H' ⟨rfl,hil,δ',done,zs,rest,R',hDd,rz,hr,htot⟩
    have fv : Same (hid H1 (fob F σ O)) (hid H' (fob F' σ' [])):=by rw [jcg]; exact vis R'.same
    obtain ⟨j1,j2⟩:=it H' (fob F' σ' []) i fv fun p hp=>R'.fresh hp
    by_cases hlt : i < ds.length
    ·obtain ⟨go,yld⟩:=j1 hlt
     refine .inr ⟨go,CInv ρ X.K H1 F' Dd tot (jc3 h tc fe (ds.drop (i + 1))),
      fun σ2 H2 q=>⟨ds.length - (i + 1),by omega,rfl,hlt,q⟩,fun x H2 y=>?_⟩
     obtain ⟨s2,d,hd,rd⟩:=yld x H2 y
     have hdr : ds.drop i = d :: ds.drop (i + 1):=by
      rw [List.drop_eq_getElem_cons hlt]
      have : ds[i] = d:=by rw [List.getElem?_eq_getElem hlt] at hd; exact Option.some.inj hd
      rw [this]
     rw [hdr] at hr
     unfold jc3 at hr
     cases e2 : h d δ' with
     | none=>rw [e2] at hr; cases hr
     | some δ1 =>
      rw [e2] at hr
      dsimp only at hr
      refine ⟨ρ,H1,F',δ',d,δ1,R'.mono s2,rd,e2,fun σ3 ef R3=>?_⟩
      have keepD : ∀ {H5 : Hp},Same H2 H5 → H5 Dd = some (.lst zs) ∧ Reps ρ X.K (hid H5 F') done zs:=fun {H5} e=>⟨e _ _ (s2 _ _ hDd),rz.mono (jaq (s2.trans e))⟩
      split at hr
      ·rename_i e3
       refine ⟨ρ,H1,F',δ1,.ok true,R3,e3,fun H4 s4=>iteT ?_⟩
       split at hr
       ·rename_i yv e4
        refine ⟨ρ,H1,F',δ1,.ok yv,R3.mono s4,e4,fun v H5 s5 r5=>?_⟩
        rw [jcg] at r5
        obtain ⟨k1,k2⟩:=keepD (s4.trans s5)
        cases e5 : jc3 h tc fe (ds.drop (i + 1)) δ1 with
        | none=>rw [e5] at hr; cases hr
        | some rest' =>
         rw [e5] at hr
         have hr' : yv :: rest' = rest:=Option.some.inj hr
         have hFD : F' Dd = true:=(F't Dd).mpr (.inr rfl)
         have hh : hid (upd H5 Dd (.lst (zs ++ [v]))) F' = hid H5 F':=jfb hFD
         refine ⟨zs,k1,?_,δ1,done ++ [yv],zs ++ [v],rest',?_,jak,?_,e5,by rw [List.append_assoc,← htot,← hr']; rfl⟩
         ·have l1:=k2.length
          have l2:=congrArg List.length htot
          rw [List.length_append,← hr',List.length_cons] at l2
          omega
         ·have R5:=R3.mono (s4.trans s5)
          refine ⟨R5.len,jfs R5.same hD,fun b hb=>jfv (R5.fin b hb),fun j d' hj hO=>?_,fun j hj=>absurd hj (by simp),fun j hj=>absurd hj (by simp)⟩
          obtain ⟨v',w1,w2⟩:=R5.val j d' hj hO
          refine ⟨v',w1,?_⟩
          rw [jcg] at w2 ⊢
          rw [hh]; exact w2
         ·rw [hh]
          exact k2.append (Reps.cons r5 Reps.nil)
       ·cases hr
      ·rename_i e3
       refine ⟨ρ,H1,F',δ1,.ok false,R3,e3,fun H4 s4=>iteF ?_⟩
       obtain ⟨k1,k2⟩:=keepD s4
       exact ⟨δ1,done,zs,rest,R3.mono s4,k1,k2,hr,htot⟩
      ·cases hr
    ·have ei : i = ds.length:=by omega
     subst ei
     rw [List.drop_length] at hr
     cases hr
     rw [List.append_nil] at htot
     subst htot
     refine .inl ⟨j2 rfl,k _ H' (s1.trans R'.same) ?_⟩
     exact rep_lst.mpr ⟨Dd,zs,rfl,SqL.of (hid_some.mpr ⟨pf,hDd⟩),rz.mono (jeb fun b q=>(F't b).mpr (.inl q))⟩
   ·cases hd'
 ·exact ⟨ρ,H₀,F,δ,.error y,R,e1,k⟩
end
end DL
namespace DL
open PySem PySem.Spec L2
mutual
noncomputable def okD : D → Bool
 | .ty _=>false
 | .obj _=>false
 | .tup ds=>okDs ds
 | .lst ds=>okDs ds
 | _=>true
noncomputable def okDs : List D → Bool
 | []=>true
 | d :: ds=>okD d && okDs ds
end
mutual
noncomputable def depD : D → Nat
 | .tup ds=>depDs ds + 1
 | .lst ds=>depDs ds + 1
 | _=>0
noncomputable def depDs : List D → Nat
 | []=>0
 | d :: ds=>max (depD d) (depDs ds)
end
mutual
noncomputable def eqB : D → D → Bool
 | .non,.non=>true
 | .bl a,.bl b=>a == b
 | .bl a,.int b=>(if a then 1 else 0) == b
 | .int a,.bl b=>a == (if b then 1 else 0)
 | .int a,.int b=>a == b
 | .str a,.str b=>a == b
 | .tup a,.tup b=>eqBs a b
 | .lst a,.lst b=>eqBs a b
 | _,_=>false
noncomputable def eqBs : List D → List D → Bool
 | [],[]=>true
 | a :: as,b :: bs=>eqB a b && eqBs as bs
 | _,_=>false
end
mutual
theorem jfk : ∀ d : D,okD d = true → eqB d d = true
 | .non,_=>by unfold eqB; rfl
 | .bl _,_=>by unfold eqB; simp
 | .int _,_=>by unfold eqB; simp
 | .str _,_=>by unfold eqB; simp
 | .ty _,h=>by unfold okD at h; cases h
 | .obj _,h=>by unfold okD at h; cases h
 | .tup ds,h=>by unfold okD at h; unfold eqB; exact eqBs_refl ds h
 | .lst ds,h=>by unfold okD at h; unfold eqB; exact eqBs_refl ds h
theorem eqBs_refl : ∀ ds : List D,okDs ds = true → eqBs ds ds = true
 | [],_=>by unfold eqBs; rfl
 | d :: ds,h=>by
  unfold okDs at h
  rw [Bool.and_eq_true] at h
  unfold eqBs
  rw [jfk d h.1,eqBs_refl ds h.2]; rfl
end
theorem jfm : ∀ {as bs : List D},eqBs as bs = true → as.length = bs.length
 | [],[],_=>rfl
 | [],_ :: _,h=>by unfold eqBs at h; cases h
 | _ :: _,[],h=>by unfold eqBs at h; cases h
 | a :: as,b :: bs,h=>by
  unfold eqBs at h
  rw [Bool.and_eq_true] at h
  simp [jfm h.2]
theorem jfl : ∀ {as bs : List D},as.length = bs.length → ∀ (k : Nat → Bool),(∀ j a b,as[j]? = some a → bs[j]? = some b → k j = eqB a b) → (List.range as.length).all k = eqBs as bs
 | [],[],_,k,_=>by unfold eqBs; rfl
 | [],_ :: _,h,_,_=>by simp at h
 | _ :: _,[],h,_,_=>by simp at h
 | a :: as,b :: bs,h,k,hk=>by
  unfold eqBs
  rw [List.length_cons,List.range_succ_eq_map,List.all_cons,List.all_map,hk 0 a b rfl rfl]
  congr 1
  exact jfl (by simpa using h) (k ∘ Nat.succ) fun j x y e1 e2=>hk (j + 1) x y (by simpa using e1) (by simpa using e2)
theorem jcy : ∀ {ds : List D} {i : Nat} {d : D},okDs ds = true → ds[i]? = some d → okD d = true
 | [],_,_,_,e=>by simp at e
 | d :: ds,0,x,h,e=>by unfold okDs at h; rw [Bool.and_eq_true] at h; simp at e; subst e; exact h.1
 | d :: ds,i + 1,x,h,e=>by unfold okDs at h; rw [Bool.and_eq_true] at h; exact jcy h.2 (by simpa using e)
theorem jej : ∀ {ds : List D} {i : Nat} {d : D},ds[i]? = some d → depD d ≤ depDs ds
 | [],_,_,e=>by simp at e
 | d :: ds,0,x,e=>by simp at e; subst e; unfold depDs; omega
 | d :: ds,i + 1,x,e=>by have:=jej (ds:=ds) (i:=i) (d:=x) (by simpa using e); unfold depDs; omega
section
variable {ρ : Rho} {X : Cx} {pins : List (Addr × Obj)} {σ : St} {H : Hp} {s : Shared}
theorem jvr {l : Addr} {xs ys : List V} (I : Inv X pins σ H s) (h1 : SqT X.K H l xs) (h2 : SqL X.K H l ys) : False:=by
 obtain ⟨i1,_,p1,_⟩:=I.tuple h1
 obtain ⟨i2,_,p2,_⟩:=I.list h2
 exact SeqAt.ne_of_list_tuple p2.isList p1 rfl
mutual
theorem jog (I : Inv X pins σ H s) : ∀ {d e : D} {v : V},okD d = true → okD e = true → Rep ρ X.K H d v → Rep ρ X.K H e v → d = e
 | .non,e,v,_,oe,h,k=>by
  cases rep_non.mp h
  cases e with
  | non=>rfl
  | bl _=>exact nomatch rep_bl.mp k
  | int _=>exact nomatch rep_int.mp k
  | str _=>exact nomatch rep_str.mp k
  | ty _=>unfold okD at oe; cases oe
  | obj _=>unfold okD at oe; cases oe
  | tup _=>obtain ⟨_,_,z,_⟩:=rep_tup.mp k; cases z
  | lst _=>obtain ⟨_,_,z,_⟩:=rep_lst.mp k; cases z
 | .bl b,e,v,_,oe,h,k=>by
  cases rep_bl.mp h
  cases e with
  | non=>exact nomatch rep_non.mp k
  | bl _=>cases rep_bl.mp k; rfl
  | int _=>exact nomatch rep_int.mp k
  | str _=>exact nomatch rep_str.mp k
  | ty _=>unfold okD at oe; cases oe
  | obj _=>unfold okD at oe; cases oe
  | tup _=>obtain ⟨_,_,z,_⟩:=rep_tup.mp k; cases z
  | lst _=>obtain ⟨_,_,z,_⟩:=rep_lst.mp k; cases z
 | .int b,e,v,_,oe,h,k=>by
  cases rep_int.mp h
  cases e with
  | non=>exact nomatch rep_non.mp k
  | bl _=>exact nomatch rep_bl.mp k
  | int _=>cases rep_int.mp k; rfl
  | str _=>exact nomatch rep_str.mp k
  | ty _=>unfold okD at oe; cases oe
  | obj _=>unfold okD at oe; cases oe
  | tup _=>obtain ⟨_,_,z,_⟩:=rep_tup.mp k; cases z
  | lst _=>obtain ⟨_,_,z,_⟩:=rep_lst.mp k; cases z
 | .str b,e,v,_,oe,h,k=>by
  cases rep_str.mp h
  cases e with
  | non=>exact nomatch rep_non.mp k
  | bl _=>exact nomatch rep_bl.mp k
  | int _=>exact nomatch rep_int.mp k
  | str _=>cases rep_str.mp k; rfl
  | ty _=>unfold okD at oe; cases oe
  | obj _=>unfold okD at oe; cases oe
  | tup _=>obtain ⟨_,_,z,_⟩:=rep_tup.mp k; cases z
  | lst _=>obtain ⟨_,_,z,_⟩:=rep_lst.mp k; cases z
 | .ty _,_,_,od,_,_,_=>by unfold okD at od; cases od
 | .obj _,_,_,od,_,_,_=>by unfold okD at od; cases od
 | .tup ds,e,v,od,oe,h,k=>by
  obtain ⟨a,xs,rfl,q1,q2⟩:=rep_tup.mp h
  cases e with
  | non=>exact nomatch rep_non.mp k
  | bl _=>exact nomatch rep_bl.mp k
  | int _=>exact nomatch rep_int.mp k
  | str _=>exact nomatch rep_str.mp k
  | ty _=>unfold okD at oe; cases oe
  | obj _=>unfold okD at oe; cases oe
  | tup es =>
   obtain ⟨b,ys,z,p1,p2⟩:=rep_tup.mp k
   cases z
   rw [I.tuple_inj q1 p1] at q2
   unfold okD at od oe
   rw [reps_inj I od oe q2 p2]
  | lst es =>
   obtain ⟨b,ys,z,p1,p2⟩:=rep_lst.mp k
   cases z
   exact (jvr I q1 p1).elim
 | .lst ds,e,v,od,oe,h,k=>by
  obtain ⟨a,xs,rfl,q1,q2⟩:=rep_lst.mp h
  cases e with
  | non=>exact nomatch rep_non.mp k
  | bl _=>exact nomatch rep_bl.mp k
  | int _=>exact nomatch rep_int.mp k
  | str _=>exact nomatch rep_str.mp k
  | ty _=>unfold okD at oe; cases oe
  | obj _=>unfold okD at oe; cases oe
  | tup es =>
   obtain ⟨b,ys,z,p1,p2⟩:=rep_tup.mp k
   cases z
   exact (jvr I p1 q1).elim
  | lst es =>
   obtain ⟨b,ys,z,p1,p2⟩:=rep_lst.mp k
   cases z
   rw [I.list_inj q1 p1] at q2
   unfold okD at od oe
   rw [reps_inj I od oe q2 p2]
theorem reps_inj (I : Inv X pins σ H s) : ∀ {ds es : List D} {vs : List V},okDs ds = true → okDs es = true → Reps ρ X.K H ds vs → Reps ρ X.K H es vs → ds = es
 | [],[],_,_,_,_,_=>rfl
 | [],_ :: _,_,_,_,h,k=>by cases reps_nil.mp h; obtain ⟨_,_,z,_⟩:=reps_cons.mp k; cases z
 | _ :: _,[],_,_,_,h,k=>by cases reps_nil.mp k; obtain ⟨_,_,z,_⟩:=reps_cons.mp h; cases z
 | d :: ds,e :: es,vs,od,oe,h,k=>by
  obtain ⟨v,r,rfl,h1,h2⟩:=reps_cons.mp h
  obtain ⟨v',r',z,k1,k2⟩:=reps_cons.mp k
  cases z
  unfold okDs at od oe
  rw [Bool.and_eq_true] at od oe
  rw [jog I od.1 oe.1 h1 k1,reps_inj I od.2 oe.2 h2 k2]
end
theorem jkc (I : Inv X pins σ H s) : ∀ (n : Nat) (A : Around) (d e : D) (v u : V) (a b : Value),depD d ≤ n → A.units + n + 1 < cLine → okD d = true → okD e = true → Rep ρ X.K H d v → Rep ρ X.K H e u → RelV v a → RelV u b →
  SeqAt.RcAt A s a b (eqB d e) ∧ SeqAt.EqAt A s a b (eqB d e):=by
 intro n
 induction n with
 | zero =>
  intro A d e v u a b hd hu od oe rd re ra rb
  have hu' : A.units < cLine:=by omega
  have seqT : ∀ {es : List D},Rep ρ X.K H (.tup es) u → ∃ l its,b = .ref l ∧ s.heap.IsTuple l its:=fun h=>by
   obtain ⟨l,xs,rfl,q1,_⟩:=rep_tup.mp h
   obtain ⟨its,_,p,_⟩:=I.tuple q1
   exact ⟨l,_,rb,p⟩
  have seqL : ∀ {es : List D},Rep ρ X.K H (.lst es) u → ∃ l its,b = .ref l ∧ s.heap.IsList l its:=fun h=>by
   obtain ⟨l,xs,rfl,q1,_⟩:=rep_lst.mp h
   obtain ⟨its,_,p,_⟩:=I.list q1
   exact ⟨l,_,rb,p.isList⟩
  cases d with
  | ty _=>unfold okD at od; cases od
  | obj _=>unfold okD at od; cases od
  | tup _=>unfold depD at hd; omega
  | lst _=>unfold depD at hd; omega
  | non =>
   cases rep_non.mp rd; cases ra
   cases e with
   | ty _=>unfold okD at oe; cases oe
   | obj _=>unfold okD at oe; cases oe
   | non=>cases rep_non.mp re; cases rb; exact ⟨SeqAt.RcAt.none_none,SeqAt.EqAt.same _⟩
   | bl y=>cases rep_bl.mp re; cases rb; exact ⟨SeqAt.RcAt.none_bool _,SeqAt.EqAt.none_bool _⟩
   | int y=>cases rep_int.mp re; obtain ⟨t,rfl⟩:=rb; exact ⟨SeqAt.RcAt.none_int _ _,SeqAt.EqAt.none_int _ _⟩
   | str y=>cases rep_str.mp re; obtain ⟨t,rfl⟩:=rb; exact ⟨SeqAt.RcAt.none_str _ _,SeqAt.EqAt.none_str _ _⟩
   | tup es=>obtain ⟨l,its,rfl,p⟩:=seqT re; exact ⟨SeqAt.RcAt.none_tuple p hu',SeqAt.EqAt.none_tuple p hu'⟩
   | lst es=>obtain ⟨l,its,rfl,p⟩:=seqL re; exact ⟨SeqAt.RcAt.none_list p hu',SeqAt.EqAt.none_list p hu'⟩
  | bl x =>
   cases rep_bl.mp rd; cases ra
   cases e with
   | ty _=>unfold okD at oe; cases oe
   | obj _=>unfold okD at oe; cases oe
   | non=>cases rep_non.mp re; cases rb; exact ⟨SeqAt.RcAt.bool_none _,SeqAt.EqAt.bool_none _⟩
   | bl y=>cases rep_bl.mp re; cases rb; exact ⟨SeqAt.RcAt.bool_bool _ _,SeqAt.EqAt.bool_bool _ _⟩
   | int y=>cases rep_int.mp re; obtain ⟨t,rfl⟩:=rb; exact ⟨SeqAt.RcAt.bool_int _ _ _,SeqAt.EqAt.bool_int _ _ _⟩
   | str y=>cases rep_str.mp re; obtain ⟨t,rfl⟩:=rb; exact ⟨SeqAt.RcAt.bool_str _ _ _,SeqAt.EqAt.bool_str _ _ _⟩
   | tup es=>obtain ⟨l,its,rfl,p⟩:=seqT re; exact ⟨SeqAt.RcAt.bool_tuple _ p hu',SeqAt.EqAt.bool_tuple _ p hu'⟩
   | lst es=>obtain ⟨l,its,rfl,p⟩:=seqL re; exact ⟨SeqAt.RcAt.bool_list _ p hu',SeqAt.EqAt.bool_list _ p hu'⟩
  | int x =>
   cases rep_int.mp rd; obtain ⟨ta,rfl⟩:=ra
   cases e with
   | ty _=>unfold okD at oe; cases oe
   | obj _=>unfold okD at oe; cases oe
   | non=>cases rep_non.mp re; cases rb; exact ⟨SeqAt.RcAt.int_none _ _,SeqAt.EqAt.int_none _ _⟩
   | bl y=>cases rep_bl.mp re; cases rb; exact ⟨SeqAt.RcAt.int_bool _ _ _,SeqAt.EqAt.int_bool _ _ _⟩
   | int y=>cases rep_int.mp re; obtain ⟨t,rfl⟩:=rb; exact ⟨SeqAt.RcAt.int_int _ _ _ _,SeqAt.EqAt.int_int _ _ _ _⟩
   | str y=>cases rep_str.mp re; obtain ⟨t,rfl⟩:=rb; exact ⟨SeqAt.RcAt.int_str _ _ _ _,SeqAt.EqAt.int_str _ _ _ _⟩
   | tup es=>obtain ⟨l,its,rfl,p⟩:=seqT re; exact ⟨SeqAt.RcAt.int_tuple _ _ p hu',SeqAt.EqAt.int_tuple _ _ p hu'⟩
   | lst es=>obtain ⟨l,its,rfl,p⟩:=seqL re; exact ⟨SeqAt.RcAt.int_list _ _ p hu',SeqAt.EqAt.int_list _ _ p hu'⟩
  | str x =>
   cases rep_str.mp rd; obtain ⟨ta,rfl⟩:=ra
   cases e with
   | ty _=>unfold okD at oe; cases oe
   | obj _=>unfold okD at oe; cases oe
   | non=>cases rep_non.mp re; cases rb; exact ⟨SeqAt.RcAt.str_none _ _,SeqAt.EqAt.str_none _ _⟩
   | bl y=>cases rep_bl.mp re; cases rb; exact ⟨SeqAt.RcAt.str_bool _ _ _,SeqAt.EqAt.str_bool _ _ _⟩
   | int y=>cases rep_int.mp re; obtain ⟨t,rfl⟩:=rb; exact ⟨SeqAt.RcAt.str_int _ _ _ _,SeqAt.EqAt.str_int _ _ _ _⟩
   | str y=>cases rep_str.mp re; obtain ⟨t,rfl⟩:=rb; exact ⟨SeqAt.RcAt.str_str _ _ _ _,SeqAt.EqAt.str_str _ _ _ _⟩
   | tup es=>obtain ⟨l,its,rfl,p⟩:=seqT re; exact ⟨SeqAt.RcAt.str_tuple _ _ p hu',SeqAt.EqAt.str_tuple _ _ p hu'⟩
   | lst es=>obtain ⟨l,its,rfl,p⟩:=seqL re; exact ⟨SeqAt.RcAt.str_list _ _ p hu',SeqAt.EqAt.str_list _ _ p hu'⟩
 | succ n ih =>
  intro A d e v u a b hd hu od oe rd re ra rb
  have hu' : A.units < cLine:=by omega
  have hin : A.in1.units + n + 1 < cLine:=by show A.units + 1 + n + 1 < cLine; omega
  by_cases small : depD d ≤ n
  ·exact ih A d e v u a b small (by omega) od oe rd re ra rb
  ·-- the two are refs: the same,or apart
   have both : ∀ {l m : Addr},v = .ref l → u = .ref m → a = .ref l → b = .ref m → SeqAt.RcAt A s a b (eqB d e) → SeqAt.RcAt A s a b (eqB d e) ∧ SeqAt.EqAt A s a b (eqB d e):=fun {l m} ev eu ea eb r=>by
    refine ⟨r,?_⟩
    subst ev eu ea eb
    by_cases z : l = m
    ·subst z
     have : d = e:=jog I od oe rd re
     subst this
     rw [jfk d od]
     exact SeqAt.EqAt.same _
    ·exact SeqAt.EqAt.of_refs z r
   cases d with
   | ty _=>unfold okD at od; cases od
   | obj _=>unfold okD at od; cases od
   | non=>unfold depD at small; omega
   | bl _=>unfold depD at small; omega
   | int _=>unfold depD at small; omega
   | str _=>unfold depD at small; omega
   | tup ds =>
    obtain ⟨l,xs,rfl,q1,q2⟩:=rep_tup.mp rd
    cases ra
    obtain ⟨ix,rx,px,_⟩:=I.tuple q1
    have px' : s.heap.IsTuple l ix.toArray:=px
    unfold okD at od
    unfold depD at hd
    cases e with
    | ty _=>unfold okD at oe; cases oe
    | obj _=>unfold okD at oe; cases oe
    | non=>cases rep_non.mp re; cases rb; exact ⟨SeqAt.RcAt.tuple_none px' hu',SeqAt.EqAt.tuple_none px' hu'⟩
    | bl y=>cases rep_bl.mp re; cases rb; exact ⟨SeqAt.RcAt.tuple_bool _ px' hu',SeqAt.EqAt.tuple_bool _ px' hu'⟩
    | int y=>cases rep_int.mp re; obtain ⟨t,rfl⟩:=rb; exact ⟨SeqAt.RcAt.tuple_int _ _ px' hu',SeqAt.EqAt.tuple_int _ _ px' hu'⟩
    | str y=>cases rep_str.mp re; obtain ⟨t,rfl⟩:=rb; exact ⟨SeqAt.RcAt.tuple_str _ _ px' hu',SeqAt.EqAt.tuple_str _ _ px' hu'⟩
    | lst es =>
     obtain ⟨m,ys,rfl,p1,p2⟩:=rep_lst.mp re
     cases rb
     obtain ⟨iy,ry,py,_⟩:=I.list p1
     unfold eqB
     exact ⟨SeqAt.RcAt.tuple_list px' py.isList hu',SeqAt.EqAt.tuple_list px' py.isList hu'⟩
    | tup es =>
     obtain ⟨m,ys,rfl,p1,p2⟩:=rep_tup.mp re
     cases rb
     obtain ⟨iy,ry,py,_⟩:=I.tuple p1
     unfold okD at oe
     refine both rfl rfl rfl rfl ?_
     have lx:=rx.length
     have ly:=ry.length
     have mx:=q2.length
     have my:=p2.length
     have R:=SeqAt.RcAt.tuples (e:=fun j=>match ds[j]?,es[j]? with | some x,some y=>eqB x y | _,_=>false) px' (show s.heap.IsTuple m iy.toArray from py) hu' fun j h1 h2=>by
      have h1' : j < ix.length:=by simpa using h1
      have h2' : j < iy.length:=by simpa using h2
      have hj1 : j < ds.length:=by omega
      have hj2 : j < es.length:=by omega
      obtain ⟨v1,e1,r1⟩:=q2.get (List.getElem?_eq_getElem hj1)
      obtain ⟨v2,e2,r2⟩:=p2.get (List.getElem?_eq_getElem hj2)
      obtain ⟨u1,f1,s1⟩:=rx.get e1
      obtain ⟨u2,f2,s2⟩:=ry.get e2
      have g1 : ix.toArray[j] = u1:=by rw [List.getElem?_eq_getElem h1'] at f1; simpa using Option.some.inj f1
      have g2 : iy.toArray[j] = u2:=by rw [List.getElem?_eq_getElem h2'] at f2; simpa using Option.some.inj f2
      rw [g1,g2,List.getElem?_eq_getElem hj1,List.getElem?_eq_getElem hj2]
      have dd:=jej (List.getElem?_eq_getElem hj1)
      exact (ih A.in1 _ _ v1 v2 u1 u2 (by omega) hin (jcy od (List.getElem?_eq_getElem hj1)) (jcy oe (List.getElem?_eq_getElem hj2)) r1 r2 s1 s2).2
     unfold eqB
     have fin : ((List.range (min ix.toArray.size iy.toArray.size)).all (fun j=>match ds[j]?,es[j]? with | some x,some y=>eqB x y | _,_=>false) && ix.toArray.size == iy.toArray.size) = eqBs ds es:=by
      simp only [List.size_toArray]
      by_cases hl : ds.length = es.length
      ·have e1 : min ix.length iy.length = ds.length:=by omega
       have e2 : (ix.length == iy.length) = true:=by simp; omega
       rw [e1,e2,Bool.and_true]
       exact jfl hl _ fun j x y z1 z2=>by rw [z1,z2]
      ·have e2 : (ix.length == iy.length) = false:=by simp; omega
       rw [e2,Bool.and_false]
       cases z : eqBs ds es with
       | false=>rfl
       | true=>exact absurd (jfm z) hl
     rw [fin] at R
     exact R
   | lst ds =>
    obtain ⟨l,xs,rfl,q1,q2⟩:=rep_lst.mp rd
    cases ra
    obtain ⟨ix,rx,px,_⟩:=I.list q1
    have px' : s.heap.IsList l ix.toArray:=px.isList
    unfold okD at od
    unfold depD at hd
    cases e with
    | ty _=>unfold okD at oe; cases oe
    | obj _=>unfold okD at oe; cases oe
    | non=>cases rep_non.mp re; cases rb; exact ⟨SeqAt.RcAt.list_none px' hu',SeqAt.EqAt.list_none px' hu'⟩
    | bl y=>cases rep_bl.mp re; cases rb; exact ⟨SeqAt.RcAt.list_bool _ px' hu',SeqAt.EqAt.list_bool _ px' hu'⟩
    | int y=>cases rep_int.mp re; obtain ⟨t,rfl⟩:=rb; exact ⟨SeqAt.RcAt.list_int _ _ px' hu',SeqAt.EqAt.list_int _ _ px' hu'⟩
    | str y=>cases rep_str.mp re; obtain ⟨t,rfl⟩:=rb; exact ⟨SeqAt.RcAt.list_str _ _ px' hu',SeqAt.EqAt.list_str _ _ px' hu'⟩
    | tup es =>
     obtain ⟨m,ys,rfl,p1,p2⟩:=rep_tup.mp re
     cases rb
     obtain ⟨iy,ry,py,_⟩:=I.tuple p1
     unfold eqB
     exact ⟨SeqAt.RcAt.list_tuple px' py hu',SeqAt.EqAt.list_tuple px' py hu'⟩
    | lst es =>
     obtain ⟨m,ys,rfl,p1,p2⟩:=rep_lst.mp re
     cases rb
     obtain ⟨iy,ry,py,_⟩:=I.list p1
     unfold okD at oe
     refine both rfl rfl rfl rfl ?_
     have lx:=rx.length
     have ly:=ry.length
     have mx:=q2.length
     have my:=p2.length
     unfold eqB
     by_cases hl : ds.length = es.length
     ·have hsz : ix.toArray.size = iy.toArray.size:=by simp only [List.size_toArray]; omega
      have R:=SeqAt.RcAt.lists (e:=fun j=>match ds[j]?,es[j]? with | some x,some y=>eqB x y | _,_=>false) px' py.isList hsz hu' fun j h1 h2=>by
       have h1' : j < ix.length:=by simpa using h1
       have h2' : j < iy.length:=by simpa using h2
       have hj1 : j < ds.length:=by omega
       have hj2 : j < es.length:=by omega
       obtain ⟨v1,e1,r1⟩:=q2.get (List.getElem?_eq_getElem hj1)
       obtain ⟨v2,e2,r2⟩:=p2.get (List.getElem?_eq_getElem hj2)
       obtain ⟨u1,f1,s1⟩:=rx.get e1
       obtain ⟨u2,f2,s2⟩:=ry.get e2
       have g1 : ix.toArray[j] = u1:=by rw [List.getElem?_eq_getElem h1'] at f1; simpa using Option.some.inj f1
       have g2 : iy.toArray[j] = u2:=by rw [List.getElem?_eq_getElem h2'] at f2; simpa using Option.some.inj f2
       rw [g1,g2,List.getElem?_eq_getElem hj1,List.getElem?_eq_getElem hj2]
       have dd:=jej (List.getElem?_eq_getElem hj1)
       exact (ih A.in1 _ _ v1 v2 u1 u2 (by omega) hin (jcy od (List.getElem?_eq_getElem hj1)) (jcy oe (List.getElem?_eq_getElem hj2)) r1 r2 s1 s2).2
      have e1 : ix.toArray.size = ds.length:=by simp only [List.size_toArray]; omega
      rw [e1,jfl hl _ fun j x y z1 z2=>by rw [z1,z2]] at R
      exact R
     ·have R:=SeqAt.RcAt.lists_lengths (s:=s) (A:=A) px' py.isList (by simp only [List.size_toArray]; simp; omega) hu'
      cases z : eqBs ds es with
      | false=>exact R
      | true=>exact absurd (jfm z) hl
end
end DL
namespace DL
open PySem PySem.Spec L2
noncomputable def BIGN : Nat:=Classical.choose (⟨2 ^ 100000,rfl⟩ : ∃ n : Nat,n = 2 ^ 100000)
theorem jmu : BIGN = 2 ^ 100000:=Classical.choose_spec (⟨2 ^ 100000,rfl⟩ : ∃ n : Nat,n = 2 ^ 100000)
noncomputable def BIG : Int:=(BIGN : Int)
noncomputable def DIVN : Nat:=Classical.choose (⟨2 ^ 9000,rfl⟩ : ∃ n : Nat,n = 2 ^ 9000)
theorem jmv : DIVN = 2 ^ 9000:=Classical.choose_spec (⟨2 ^ 9000,rfl⟩ : ∃ n : Nat,n = 2 ^ 9000)
noncomputable def DIVB : Int:=(DIVN : Int)
noncomputable def je1 (i : Int) : Bool:=decide (-BIG < i) && decide (i < BIG)
noncomputable def gAdd : D → D → Option D
 | .int i,.int j=>some (.int (i + j))
 | .str x,.str y=>if x.length + y.length ≤ sizeLine then some (.str (x ++ y)) else none
 | _,_=>none
noncomputable def gSub : D → D → Option D
 | .int i,.int j=>some (.int (i - j))
 | _,_=>none
noncomputable def gMul : D → D → Option D
 | .int i,.int j=>if (je1 i && je1 j) = true then some (.int (i * j)) else none
 | .str x,.int n=>if x.length ≤ 4096 ∧ -4096 ≤ n ∧ n ≤ 4096 then some (.str (Txt.mul x n)) else none
 | _,_=>none
noncomputable def gMod : D → D → Option D
 | .int i,.int j=>if 0 < j then some (.int (i % j)) else none
 | _,_=>none
noncomputable def je5 : D → D → Option D
 | .int i,.int j=>if 0 < j ∧ j < DIVB then some (.int (i / j)) else none
 | _,_=>none
noncomputable def gPow : D → D → Option D
 | .int i,.int j=>if 0 ≤ j ∧ j ≤ 1000 ∧ -(2 ^ 60) < i ∧ i < 2 ^ 60 then some (.int (i ^ j.toNat)) else none
 | _,_=>none
noncomputable def gCmp (p : Int → Int → Bool) (q : Str → Str → Bool) : D → D → Option D
 | .int i,.int j=>some (.bl (p i j))
 | .str x,.str y=>some (.bl (q x y))
 | _,_=>none
noncomputable def gLt:=gCmp (fun i j=>decide (i < j)) (fun x y=>decide (x.cps.toList < y.cps.toList))
noncomputable def gLe:=gCmp (fun i j=>decide (i ≤ j)) (fun x y=>!decide (y.cps.toList < x.cps.toList))
noncomputable def gGt:=gCmp (fun i j=>decide (j < i)) (fun x y=>decide (y.cps.toList < x.cps.toList))
noncomputable def gGe:=gCmp (fun i j=>decide (j ≤ i)) (fun x y=>!decide (x.cps.toList < y.cps.toList))
noncomputable def gEq : D → D → Option D:=fun x y=>if (okD x && okD y && decide (depD x ≤ 20)) = true then some (.bl (eqB x y)) else none
noncomputable def gNe : D → D → Option D:=fun x y=>if (okD x && okD y && decide (depD x ≤ 20)) = true then some (.bl !(eqB x y)) else none
noncomputable def jq2 : D → Bool
 | .non=>true
 | _=>false
noncomputable def gIs : D → D → Option D
 | x,.non=>some (.bl (jq2 x))
 | _,_=>none
noncomputable def gNeg : D → Option D
 | .int i=>some (.int (-i))
 | _=>none
noncomputable def gIx : D → D → Option D
 | .lst ds,.int i=>atI ds i
 | .tup ds,.int i=>atI ds i
 | .str z,.int i=>if z.length ≤ sizeLine then (atI z.cps.toList i).map fun c=>.str ⟨#[c]⟩ else none
 | _,_=>none
theorem jk2 {i : Int} (h : je1 i = true) : Builtin.Int.intBits i ≤ 100001:=by
 unfold je1 at h
 rw [Bool.and_eq_true,decide_eq_true_eq,decide_eq_true_eq] at h
 unfold Builtin.Int.intBits
 split
 ·omega
 ·have hn : i.natAbs ≠ 0:=by
   intro z
   have : i = 0:=by omega
   subst this
   simp at *
  have hlt : i.natAbs < BIGN:=by
   unfold BIG at h
   omega
  rw [jmu] at hlt
  have:=(Nat.log2_lt (k:=100000) hn).mpr hlt
  omega
theorem jrt {i j : Int} (h1 : je1 i = true) (h2 : je1 j = true) : IntMulOk i j:=by
 have b1:=jk2 h1
 have b2:=jk2 h2
 unfold IntMulOk
 have : Builtin.Int.intTooBig ((Builtin.Int.intBits i : Int) + (Builtin.Int.intBits j : Int)) = false:=by
  unfold Builtin.Int.intTooBig bitsLine
  simp
  omega
 intro h
 rw [Bool.and_eq_true] at h
 have h2:=h.2
 first
  | (rw [this] at h2; cases h2)
  | (push_cast at h2; rw [this] at h2; cases h2)
section
variable {X : Cx}
theorem op_addD : OpR X (binaryOp .Add) (fun x y H Q=>rI0 (fun i j=>.int (i + j)) x y H Q ∨ ∃ i j,x = .str i ∧ y = .str j ∧ i.length + j.length ≤ sizeLine ∧ Q (.str (i ++ j)) H):=op_add.or jml
theorem jih : OpD X.K gSub (rI0 fun i j=>.int (i - j)):=by
 intro x y d hd ρ H G u v Q hG ru rv k
 unfold gSub at hd
 split at hd
 ·cases hd; exact ⟨_,_,rep_int.mp ru,rep_int.mp rv,k _ H (Same.refl H) (rep_int.mpr rfl)⟩
 ·cases hd
theorem op_mulD : OpR X (binaryOp .Mult) (fun x y H Q=>rI (fun i j=>(je1 i && je1 j) = true) (fun i j=>.int (i * j)) x y H Q ∨ ∃ z n,x = .str z ∧ y = .int n ∧ (z.length ≤ 4096 ∧ -4096 ≤ n ∧ n ≤ 4096) ∧ Q (.str (Txt.mul z n)) H):=by
 refine OpR.or (opI fun i j t u s E Q hc q=>PyProof.Rows.mul_int q (by rw [Bool.and_eq_true] at hc; exact jrt hc.1 hc.2)) ?_
 intro pins s σ H x y v u Q I rx ry h
 obtain ⟨z,n,rfl,rfl,⟨h1,h2,h3⟩,q⟩:=h
 obtain ⟨t,rfl⟩:=rx
 obtain ⟨t',rfl⟩:=ry
 refine SB.mul (PyProof.Rows.mulOk_of 4096 4096 h1 h3 (by omega) (by decide) (by decide)) fun t' k=>⟨.str (Txt.mul z n),H,I.tok _,⟨_,rfl⟩,q⟩
theorem jtb : OpD X.K gMul (fun x y H Q=>rI (fun i j=>(je1 i && je1 j) = true) (fun i j=>.int (i * j)) x y H Q ∨ ∃ z n,x = .str z ∧ y = .int n ∧ (z.length ≤ 4096 ∧ -4096 ≤ n ∧ n ≤ 4096) ∧ Q (.str (Txt.mul z n)) H):=by
 intro x y d hd ρ H G u v Q hG ru rv k
 unfold gMul at hd
 split at hd
 ·split at hd
  ·rename_i hz
   cases hd; exact .inl ⟨_,_,rep_int.mp ru,rep_int.mp rv,hz,k _ H (Same.refl H) (rep_int.mpr rfl)⟩
  ·cases hd
 ·split at hd
  ·rename_i hz
   cases hd; exact .inr ⟨_,_,rep_str.mp ru,rep_int.mp rv,hz,k _ H (Same.refl H) (rep_str.mpr rfl)⟩
  ·cases hd
 ·cases hd
theorem jbp : OpD X.K gMod (rI (fun _ j=>0 < j) fun i j=>.int (i % j)):=by
 intro x y d hd ρ H G u v Q hG ru rv k
 unfold gMod at hd
 split at hd
 ·split at hd
  ·rename_i hz
   cases hd; exact ⟨_,_,rep_int.mp ru,rep_int.mp rv,hz,k _ H (Same.refl H) (rep_int.mpr rfl)⟩
  ·cases hd
 ·cases hd
theorem jd6 : OpR X (binaryOp .FloorDiv) (rI (fun _ j=>0 < j ∧ j < DIVB) fun i j=>.int (i / j)):=opI fun i j t u s E Q hc q=>by
 have e : i.fdiv j = i / j:=Int.fdiv_eq_ediv_of_nonneg i (Int.le_of_lt hc.1)
 refine PyProof.Rows.floordiv_int (by omega) (by rw [e]; exact q) (.inl (PyProof.noPylong_of_log2 ?_))
 have hn : j.natAbs ≠ 0:=by omega
 have hlt : j.natAbs < DIVN:=by
  have:=hc.2
  unfold DIVB at this
  omega
 rw [jmv] at hlt
 exact (Nat.log2_lt (k:=9000) hn).mpr hlt
theorem jd7 : OpD X.K je5 (rI (fun _ j=>0 < j ∧ j < DIVB) fun i j=>.int (i / j)):=by
 intro x y d hd ρ H G u v Q hG ru rv k
 unfold je5 at hd
 split at hd
 ·split at hd
  ·rename_i hz
   cases hd; exact ⟨_,_,rep_int.mp ru,rep_int.mp rv,hz,k _ H (Same.refl H) (rep_int.mpr rfl)⟩
  ·cases hd
 ·cases hd
theorem jtc : OpD X.K gPow (rI CPow fun i j=>.int (i ^ j.toNat)):=by
 intro x y d hd ρ H G u v Q hG ru rv k
 unfold gPow at hd
 split at hd
 ·split at hd
  ·rename_i hz
   cases hd; exact ⟨_,_,rep_int.mp ru,rep_int.mp rv,⟨hz.1,by omega,by omega⟩,k _ H (Same.refl H) (rep_int.mpr rfl)⟩
  ·cases hd
 ·cases hd
theorem jig {p : Int → Int → Bool} {q : Str → Str → Bool} : OpD X.K (gCmp p q) (fun x y H Q=>rI0 (fun i j=>.bl (p i j)) x y H Q ∨ ∃ i j,x = .str i ∧ y = .str j ∧ Q (.bl (q i j)) H):=by
 intro x y d hd ρ H G u v Q hG ru rv k
 unfold gCmp at hd
 split at hd
 ·cases hd; exact .inl ⟨_,_,rep_int.mp ru,rep_int.mp rv,k _ H (Same.refl H) (rep_bl.mpr rfl)⟩
 ·cases hd; exact .inr ⟨_,_,rep_str.mp ru,rep_str.mp rv,k _ H (Same.refl H) (rep_bl.mpr rfl)⟩
 ·cases hd
theorem js9 {op : CmpOp} {q : Str → Str → Bool} (h : ∀ {prog : Program} {w : World} {A : Around} {E : Value → Shared → Prop} {s : Shared} {Q : Value → Shared → Prop} (x y : Str) (t u : Tok),Q (.bool (q x y)) s → wpAny (model prog w) A (compareOp op (.str x t) (.str y u)) Q E s) :
  OpR X (compareOp op) (fun x y H Q=>∃ i j,x = .str i ∧ y = .str j ∧ Q (.bl (q i j)) H):=by
 intro pins s σ H x y v u Q I rx ry k
 obtain ⟨i,j,rfl,rfl,k⟩:=k
 obtain ⟨t,rfl⟩:=rx
 obtain ⟨t',rfl⟩:=ry
 exact h i j t t' ⟨.bl (q i j),H,I,rfl,k⟩
theorem jn6 : OpR X (compareOp .Lt) (fun x y H Q=>rI0 (fun i j=>.bl (decide (i < j))) x y H Q ∨ ∃ i j,x = .str i ∧ y = .str j ∧ Q (.bl (decide (i.cps.toList < j.cps.toList))) H):=op_lt.or jn7
theorem jv6 : OpR X (compareOp .Gt) (fun x y H Q=>rI0 (fun i j=>.bl (decide (j < i))) x y H Q ∨ ∃ i j,x = .str i ∧ y = .str j ∧ Q (.bl (decide (j.cps.toList < i.cps.toList))) H):=op_gt.or (js9 fun x y t u h=>P.gt_str h)
noncomputable def rEqD (K : PySem.W.Frag) (neg : Bool) : R2:=fun u v H Q=>∃ ρ x y,okD x = true ∧ okD y = true ∧ depD x ≤ 20 ∧ Rep ρ K H x u ∧ Rep ρ K H y v ∧ Q (.bl (if neg then !eqB x y else eqB x y)) H
theorem jg0 (hu : X.A.units + 30 < cLine) : OpR X (compareOp .Eq) (rEqD X.K false):=by
 intro pins s σ H x y v u Q I rx ry h
 obtain ⟨ρ,d,e,o1,o2,hd,r1,r2,q⟩:=h
 exact (jkc I 20 X.A d e x y v u hd (by omega) o1 o2 r1 r2 rx ry).1 _ _ _ _ ⟨.bl (eqB d e),H,I,rfl,q⟩
theorem jg1 : OpD X.K gEq (rEqD X.K false):=by
 intro x y d hd ρ H G u v Q hG ru rv k
 unfold gEq at hd
 split at hd
 ·rename_i h
  rw [Bool.and_eq_true,Bool.and_eq_true,decide_eq_true_eq] at h
  cases hd
  exact ⟨ρ,x,y,h.1.1,h.1.2,h.2,ru.mono jam,rv.mono jam,k _ H (Same.refl H) (rep_bl.mpr rfl)⟩
 ·cases hd
theorem jv8 : OpD X.K gNe (rEqD X.K true):=by
 intro x y d hd ρ H G u v Q hG ru rv k
 unfold gNe at hd
 split at hd
 ·rename_i h
  rw [Bool.and_eq_true,Bool.and_eq_true,decide_eq_true_eq] at h
  cases hd
  exact ⟨ρ,x,y,h.1.1,h.1.2,h.2,ru.mono jam,rv.mono jam,k _ H (Same.refl H) (rep_bl.mpr rfl)⟩
 ·cases hd
theorem jn4 {ρ : Rho} {pins : List (Addr × Obj)} {σ : St} {H : Hp} {s : Shared} (I : Inv X pins σ H s) (A : Around) {ds es : List D} {v u : V} {a b : Value} (hd : depD (.tup ds) ≤ 20) (hu : A.units + 24 < cLine) (od : okD (.tup ds) = true) (oe : okD (.tup es) = true)
  (rd : Rep ρ X.K H (.tup ds) v) (re : Rep ρ X.K H (.tup es) u) (ra : RelV v a) (rb : RelV u b) : SeqAt.RcNeAt A s a b (!eqB (.tup ds) (.tup es)):=by
 have hu' : A.units < cLine:=by omega
 obtain ⟨l,xs,rfl,q1,q2⟩:=rep_tup.mp rd
 obtain ⟨m,ys,rfl,p1,p2⟩:=rep_tup.mp re
 cases ra
 cases rb
 obtain ⟨ix,rx,px,_⟩:=I.tuple q1
 obtain ⟨iy,ry,py,_⟩:=I.tuple p1
 unfold okD at od oe
 unfold depD at hd
 have lx:=rx.length
 have ly:=ry.length
 have mx:=q2.length
 have my:=p2.length
 have R:=SeqAt.RcNeAt.tuples (A:=A) (e:=fun j=>match ds[j]?,es[j]? with | some x,some y=>eqB x y | _,_=>false) (show s.heap.IsTuple l ix.toArray from px) (show s.heap.IsTuple m iy.toArray from py) hu' fun j h1 h2=>by
  have h1' : j < ix.length:=by simpa using h1
  have h2' : j < iy.length:=by simpa using h2
  have hj1 : j < ds.length:=by omega
  have hj2 : j < es.length:=by omega
  obtain ⟨v1,e1,r1⟩:=q2.get (List.getElem?_eq_getElem hj1)
  obtain ⟨v2,e2,r2⟩:=p2.get (List.getElem?_eq_getElem hj2)
  obtain ⟨u1,f1,s1⟩:=rx.get e1
  obtain ⟨u2,f2,s2⟩:=ry.get e2
  have g1 : ix.toArray[j] = u1:=by rw [List.getElem?_eq_getElem h1'] at f1; simpa using Option.some.inj f1
  have g2 : iy.toArray[j] = u2:=by rw [List.getElem?_eq_getElem h2'] at f2; simpa using Option.some.inj f2
  rw [g1,g2,List.getElem?_eq_getElem hj1,List.getElem?_eq_getElem hj2]
  have dd:=jej (List.getElem?_eq_getElem hj1)
  exact (jkc I 20 A.in1 _ _ v1 v2 u1 u2 (by omega) (by show A.units + 1 + 20 + 1 < cLine; omega) (jcy od (List.getElem?_eq_getElem hj1)) (jcy oe (List.getElem?_eq_getElem hj2)) r1 r2 s1 s2).2
 unfold eqB
 have fin : ((List.range (min ix.toArray.size iy.toArray.size)).all (fun j=>match ds[j]?,es[j]? with | some x,some y=>eqB x y | _,_=>false) && ix.toArray.size == iy.toArray.size) = eqBs ds es:=by
  simp only [List.size_toArray]
  by_cases hl : ds.length = es.length
  ·have e1 : min ix.length iy.length = ds.length:=by omega
   have e2 : (ix.length == iy.length) = true:=by simp; omega
   rw [e1,e2,Bool.and_true]
   exact jfl hl _ fun j x y z1 z2=>by rw [z1,z2]
  ·have e2 : (ix.length == iy.length) = false:=by simp; omega
   rw [e2,Bool.and_false]
   cases z : eqBs ds es with
   | false=>rfl
   | true=>exact absurd (jfm z) hl
 rw [fin] at R
 exact R
theorem jp6 {ρ : Rho} {pins : List (Addr × Obj)} {σ : St} {H : Hp} {s : Shared} (I : Inv X pins σ H s) (A : Around) {ds es : List D} {v u : V} {a b : Value} (hd : depD (.lst ds) ≤ 20) (hu : A.units + 24 < cLine) (od : okD (.lst ds) = true) (oe : okD (.lst es) = true)
  (rd : Rep ρ X.K H (.lst ds) v) (re : Rep ρ X.K H (.lst es) u) (ra : RelV v a) (rb : RelV u b) : SeqAt.RcNeAt A s a b (!eqB (.lst ds) (.lst es)):=by
 have hu' : A.units < cLine:=by omega
 obtain ⟨l,xs,rfl,q1,q2⟩:=rep_lst.mp rd
 obtain ⟨m,ys,rfl,p1,p2⟩:=rep_lst.mp re
 cases ra
 cases rb
 obtain ⟨ix,rx,px,_⟩:=I.list q1
 obtain ⟨iy,ry,py,_⟩:=I.list p1
 unfold okD at od oe
 unfold depD at hd
 have lx:=rx.length
 have ly:=ry.length
 have mx:=q2.length
 have my:=p2.length
 unfold eqB
 by_cases hl : ds.length = es.length
 ·have hsz : ix.toArray.size = iy.toArray.size:=by simp only [List.size_toArray]; omega
  have R:=SeqAt.RcNeAt.lists (A:=A) (e:=fun j=>match ds[j]?,es[j]? with | some x,some y=>eqB x y | _,_=>false) px.isList py.isList hsz hu' fun j h1 h2=>by
   have h1' : j < ix.length:=by simpa using h1
   have h2' : j < iy.length:=by simpa using h2
   have hj1 : j < ds.length:=by omega
   have hj2 : j < es.length:=by omega
   obtain ⟨v1,e1,r1⟩:=q2.get (List.getElem?_eq_getElem hj1)
   obtain ⟨v2,e2,r2⟩:=p2.get (List.getElem?_eq_getElem hj2)
   obtain ⟨u1,f1,s1⟩:=rx.get e1
   obtain ⟨u2,f2,s2⟩:=ry.get e2
   have g1 : ix.toArray[j] = u1:=by rw [List.getElem?_eq_getElem h1'] at f1; simpa using Option.some.inj f1
   have g2 : iy.toArray[j] = u2:=by rw [List.getElem?_eq_getElem h2'] at f2; simpa using Option.some.inj f2
   rw [g1,g2,List.getElem?_eq_getElem hj1,List.getElem?_eq_getElem hj2]
   have dd:=jej (List.getElem?_eq_getElem hj1)
   exact (jkc I 20 A.in1 _ _ v1 v2 u1 u2 (by omega) (by show A.units + 1 + 20 + 1 < cLine; omega) (jcy od (List.getElem?_eq_getElem hj1)) (jcy oe (List.getElem?_eq_getElem hj2)) r1 r2 s1 s2).2
  have e1 : ix.toArray.size = ds.length:=by simp only [List.size_toArray]; omega
  rw [e1,jfl hl _ fun j x y z1 z2=>by rw [z1,z2]] at R
  exact R
 ·have R:=SeqAt.RcNeAt.lists_lengths (s:=s) (A:=A) px.isList py.isList (by simp only [List.size_toArray]; simp; omega) hu'
  cases z : eqBs ds es with
  | false=>exact R
  | true=>exact absurd (jfm z) hl
theorem jv3 {ρ : Rho} {pins : List (Addr × Obj)} {σ : St} {H : Hp} {s : Shared} (I : Inv X pins σ H s) (A : Around) (d e : D) (v u : V) (a b : Value) (hd : depD d ≤ 20) (hu : A.units + 24 < cLine) (od : okD d = true) (oe : okD e = true) (rd : Rep ρ X.K H d v) (re : Rep ρ X.K H e u) (ra : RelV v a) (rb : RelV u b) :
  SeqAt.RcNeAt A s a b (!eqB d e):=by
 have hu' : A.units < cLine:=by omega
 have seqT : ∀ {es : List D} {w : V} {c : Value},Rep ρ X.K H (.tup es) w → RelV w c → ∃ l its,c = .ref l ∧ s.heap.IsTuple l its:=fun h rc=>by
  obtain ⟨l,xs,rfl,q1,_⟩:=rep_tup.mp h
  obtain ⟨its,_,p,_⟩:=I.tuple q1
  exact ⟨l,_,rc,p⟩
 have seqL : ∀ {es : List D} {w : V} {c : Value},Rep ρ X.K H (.lst es) w → RelV w c → ∃ l its,c = .ref l ∧ s.heap.IsList l its:=fun h rc=>by
  obtain ⟨l,xs,rfl,q1,_⟩:=rep_lst.mp h
  obtain ⟨its,_,p,_⟩:=I.list q1
  exact ⟨l,_,rc,p.isList⟩
 cases d with
 | ty _=>unfold okD at od; cases od
 | obj _=>unfold okD at od; cases od
 | non =>
  cases e with
  | ty _=>unfold okD at oe; cases oe
  | obj _=>unfold okD at oe; cases oe
  | non=>cases rep_non.mp rd; cases ra; cases rep_non.mp re; cases rb; unfold eqB; exact SeqAt.RcNeAt.none_none
  | bl y=>cases rep_non.mp rd; cases ra; cases rep_bl.mp re; cases rb; unfold eqB; exact SeqAt.RcNeAt.none_bool _
  | int y=>cases rep_non.mp rd; cases ra; cases rep_int.mp re; obtain ⟨t2,rfl⟩:=rb; unfold eqB; exact SeqAt.RcNeAt.none_int _ _
  | str y=>cases rep_non.mp rd; cases ra; cases rep_str.mp re; obtain ⟨t2,rfl⟩:=rb; unfold eqB; exact SeqAt.RcNeAt.none_str _ _
  | tup y=>cases rep_non.mp rd; cases ra; obtain ⟨l2,i2,rfl,p2⟩:=seqT re rb; unfold eqB; exact SeqAt.RcNeAt.none_tuple p2 hu'
  | lst y=>cases rep_non.mp rd; cases ra; obtain ⟨l2,i2,rfl,p2⟩:=seqL re rb; unfold eqB; exact SeqAt.RcNeAt.none_list p2 hu'
 | bl x =>
  cases e with
  | ty _=>unfold okD at oe; cases oe
  | obj _=>unfold okD at oe; cases oe
  | non=>cases rep_bl.mp rd; cases ra; cases rep_non.mp re; cases rb; unfold eqB; exact SeqAt.RcNeAt.bool_none _
  | bl y=>cases rep_bl.mp rd; cases ra; cases rep_bl.mp re; cases rb; unfold eqB; exact SeqAt.RcNeAt.bool_bool _ _
  | int y=>cases rep_bl.mp rd; cases ra; cases rep_int.mp re; obtain ⟨t2,rfl⟩:=rb; unfold eqB; exact SeqAt.RcNeAt.bool_int _ _ _
  | str y=>cases rep_bl.mp rd; cases ra; cases rep_str.mp re; obtain ⟨t2,rfl⟩:=rb; unfold eqB; exact SeqAt.RcNeAt.bool_str _ _ _
  | tup y=>cases rep_bl.mp rd; cases ra; obtain ⟨l2,i2,rfl,p2⟩:=seqT re rb; unfold eqB; exact SeqAt.RcNeAt.bool_tuple _ p2 hu'
  | lst y=>cases rep_bl.mp rd; cases ra; obtain ⟨l2,i2,rfl,p2⟩:=seqL re rb; unfold eqB; exact SeqAt.RcNeAt.bool_list _ p2 hu'
 | int x =>
  cases e with
  | ty _=>unfold okD at oe; cases oe
  | obj _=>unfold okD at oe; cases oe
  | non=>cases rep_int.mp rd; obtain ⟨t1,rfl⟩:=ra; cases rep_non.mp re; cases rb; unfold eqB; exact SeqAt.RcNeAt.int_none _ _
  | bl y=>cases rep_int.mp rd; obtain ⟨t1,rfl⟩:=ra; cases rep_bl.mp re; cases rb; unfold eqB; exact SeqAt.RcNeAt.int_bool _ _ _
  | int y=>cases rep_int.mp rd; obtain ⟨t1,rfl⟩:=ra; cases rep_int.mp re; obtain ⟨t2,rfl⟩:=rb; unfold eqB; exact SeqAt.RcNeAt.int_int _ _ _ _
  | str y=>cases rep_int.mp rd; obtain ⟨t1,rfl⟩:=ra; cases rep_str.mp re; obtain ⟨t2,rfl⟩:=rb; unfold eqB; exact SeqAt.RcNeAt.int_str _ _ _ _
  | tup y=>cases rep_int.mp rd; obtain ⟨t1,rfl⟩:=ra; obtain ⟨l2,i2,rfl,p2⟩:=seqT re rb; unfold eqB; exact SeqAt.RcNeAt.int_tuple _ _ p2 hu'
  | lst y=>cases rep_int.mp rd; obtain ⟨t1,rfl⟩:=ra; obtain ⟨l2,i2,rfl,p2⟩:=seqL re rb; unfold eqB; exact SeqAt.RcNeAt.int_list _ _ p2 hu'
 | str x =>
  cases e with
  | ty _=>unfold okD at oe; cases oe
  | obj _=>unfold okD at oe; cases oe
  | non=>cases rep_str.mp rd; obtain ⟨t1,rfl⟩:=ra; cases rep_non.mp re; cases rb; unfold eqB; exact SeqAt.RcNeAt.str_none _ _
  | bl y=>cases rep_str.mp rd; obtain ⟨t1,rfl⟩:=ra; cases rep_bl.mp re; cases rb; unfold eqB; exact SeqAt.RcNeAt.str_bool _ _ _
  | int y=>cases rep_str.mp rd; obtain ⟨t1,rfl⟩:=ra; cases rep_int.mp re; obtain ⟨t2,rfl⟩:=rb; unfold eqB; exact SeqAt.RcNeAt.str_int _ _ _ _
  | str y=>cases rep_str.mp rd; obtain ⟨t1,rfl⟩:=ra; cases rep_str.mp re; obtain ⟨t2,rfl⟩:=rb; unfold eqB; exact SeqAt.RcNeAt.str_str _ _ _ _
  | tup y=>cases rep_str.mp rd; obtain ⟨t1,rfl⟩:=ra; obtain ⟨l2,i2,rfl,p2⟩:=seqT re rb; unfold eqB; exact SeqAt.RcNeAt.str_tuple _ _ p2 hu'
  | lst y=>cases rep_str.mp rd; obtain ⟨t1,rfl⟩:=ra; obtain ⟨l2,i2,rfl,p2⟩:=seqL re rb; unfold eqB; exact SeqAt.RcNeAt.str_list _ _ p2 hu'
 | tup x =>
  cases e with
  | ty _=>unfold okD at oe; cases oe
  | obj _=>unfold okD at oe; cases oe
  | non=>obtain ⟨l1,i1,rfl,p1⟩:=seqT rd ra; cases rep_non.mp re; cases rb; unfold eqB; exact SeqAt.RcNeAt.tuple_none p1 hu'
  | bl y=>obtain ⟨l1,i1,rfl,p1⟩:=seqT rd ra; cases rep_bl.mp re; cases rb; unfold eqB; exact SeqAt.RcNeAt.tuple_bool _ p1 hu'
  | int y=>obtain ⟨l1,i1,rfl,p1⟩:=seqT rd ra; cases rep_int.mp re; obtain ⟨t2,rfl⟩:=rb; unfold eqB; exact SeqAt.RcNeAt.tuple_int _ _ p1 hu'
  | str y=>obtain ⟨l1,i1,rfl,p1⟩:=seqT rd ra; cases rep_str.mp re; obtain ⟨t2,rfl⟩:=rb; unfold eqB; exact SeqAt.RcNeAt.tuple_str _ _ p1 hu'
  | tup y=>exact jn4 I A hd hu od oe rd re ra rb
  | lst y=>obtain ⟨l1,i1,rfl,p1⟩:=seqT rd ra; obtain ⟨l2,i2,rfl,p2⟩:=seqL re rb; unfold eqB; exact SeqAt.RcNeAt.tuple_list p1 p2 hu'
 | lst x =>
  cases e with
  | ty _=>unfold okD at oe; cases oe
  | obj _=>unfold okD at oe; cases oe
  | non=>obtain ⟨l1,i1,rfl,p1⟩:=seqL rd ra; cases rep_non.mp re; cases rb; unfold eqB; exact SeqAt.RcNeAt.list_none p1 hu'
  | bl y=>obtain ⟨l1,i1,rfl,p1⟩:=seqL rd ra; cases rep_bl.mp re; cases rb; unfold eqB; exact SeqAt.RcNeAt.list_bool _ p1 hu'
  | int y=>obtain ⟨l1,i1,rfl,p1⟩:=seqL rd ra; cases rep_int.mp re; obtain ⟨t2,rfl⟩:=rb; unfold eqB; exact SeqAt.RcNeAt.list_int _ _ p1 hu'
  | str y=>obtain ⟨l1,i1,rfl,p1⟩:=seqL rd ra; cases rep_str.mp re; obtain ⟨t2,rfl⟩:=rb; unfold eqB; exact SeqAt.RcNeAt.list_str _ _ p1 hu'
  | tup y=>obtain ⟨l1,i1,rfl,p1⟩:=seqL rd ra; obtain ⟨l2,i2,rfl,p2⟩:=seqT re rb; unfold eqB; exact SeqAt.RcNeAt.list_tuple p1 p2 hu'
  | lst y=>exact jp6 I A hd hu od oe rd re ra rb
theorem jrc (hu : X.A.units + 30 < cLine) : OpR X (compareOp .NotEq) (rEqD X.K true):=by
 intro pins s σ H x y v u Q I rx ry h
 obtain ⟨ρ,d,e,o1,o2,hd,r1,r2,q⟩:=h
 exact jv3 I X.A d e x y v u hd (by omega) o1 o2 r1 r2 rx ry _ _ _ _ ⟨.bl (!eqB d e),H,I,rfl,q⟩
theorem jrd : OpD X.K gIs (fun x y H Q=>y = .non ∧ Q (.bl (decide (x = .non))) H):=by
 intro x y d hd ρ H G u v Q hG ru rv k
 cases y with
 | non =>
  cases hd
  refine ⟨rep_non.mp rv,?_⟩
  have e : decide (u = V.non) = jq2 x:=by
   cases x with
   | non=>cases rep_non.mp ru; rfl
   | bl _=>cases rep_bl.mp ru; rfl
   | int _=>cases rep_int.mp ru; rfl
   | str _=>cases rep_str.mp ru; rfl
   | ty _=>cases rep_ty.mp ru; rfl
   | obj _=>obtain ⟨_,_,rfl⟩:=rep_obj.mp ru; rfl
   | tup _=>obtain ⟨_,_,rfl,_⟩:=rep_tup.mp ru; rfl
   | lst _=>obtain ⟨_,_,rfl,_⟩:=rep_lst.mp ru; rfl
  rw [e]
  exact k _ H (Same.refl H) (rep_bl.mpr rfl)
 | _=>cases hd
theorem jg5 : UnD X.K gNeg (rU fun i=>.int (-i)):=by
 intro x d hd ρ H G u Q hG ru k
 cases x with
 | int i=>cases hd; exact ⟨i,rep_int.mp ru,k _ H (Same.refl H) (rep_int.mpr rfl)⟩
 | _=>cases hd
theorem jkw {ρ : Rho} {K : PySem.W.Frag} {H : Hp} {ds : List D} {xs : List V} {i : Int} {d : D} (h : Reps ρ K H ds xs) (e : atI ds i = some d) : ∃ v,atI xs i = some v ∧ Rep ρ K H d v:=by
 unfold atI at e ⊢
 rw [h.length]
 cases z : ixN ds.length i with
 | none=>rw [z] at e; cases e
 | some j=>rw [z] at e; exact h.get e
theorem jap : OpD X.K gIx (rIx X.K):=by
 intro x y d hd ρ H G u v Q hG ru rv k
 unfold gIx at hd
 split at hd
 ·obtain ⟨a,xs,rfl,q1,q2⟩:=rep_lst.mp ru
  obtain ⟨w,e,r⟩:=jkw q2 hd
  exact .inl ⟨a,xs,_,w,rfl,rep_int.mp rv,jcu jam q1,e,k w H (Same.refl H) r⟩
 ·obtain ⟨a,xs,rfl,q1,q2⟩:=rep_tup.mp ru
  obtain ⟨w,e,r⟩:=jkw q2 hd
  exact .inr (.inl ⟨a,xs,_,w,rfl,rep_int.mp rv,jc9 jam q1,e,k w H (Same.refl H) r⟩)
 ·split at hd
  ·rename_i z i hz
   cases e : atI z.cps.toList i with
   | none=>rw [e] at hd; cases hd
   | some c =>
    rw [e] at hd
    cases hd
    exact .inr (.inr ⟨z,i,c,rep_str.mp ru,rep_int.mp rv,hz,e,k _ H (Same.refl H) (rep_str.mpr rfl)⟩)
  ·cases hd
 ·cases hd
noncomputable def kLen : List D → Option D
 | [.lst ds]=>some (.int ds.length)
 | [.tup ds]=>some (.int ds.length)
 | [.str z]=>if z.length ≤ sizeLine then some (.int z.length) else none
 | _=>none
theorem jil {ρ : Rho} {K : PySem.W.Frag} {H : Hp} {d : D} {vs : List V} (h : Reps ρ K H [d] vs) : ∃ v,vs = [v] ∧ Rep ρ K H d v:=by
 obtain ⟨v,r,rfl,q1,q2⟩:=reps_cons.mp h
 cases reps_nil.mp q2
 exact ⟨v,rfl,q1⟩
theorem jyq {ρ : Rho} {K : PySem.W.Frag} {H : Hp} {d e : D} {vs : List V} (h : Reps ρ K H [d,e] vs) : ∃ v u,vs = [v,u] ∧ Rep ρ K H d v ∧ Rep ρ K H e u:=by
 obtain ⟨v,r,rfl,q1,q2⟩:=reps_cons.mp h
 obtain ⟨u,rfl,q3⟩:=jil q2
 exact ⟨v,u,rfl,q1,q3⟩
theorem jeh : CallR X (.builtin "len") (fun xs H Q=>(∃ p ys,xs = [.ref p] ∧ (SqL X.K H p ys ∨ SqT X.K H p ys) ∧ Q (.int ys.length) H) ∨ ∃ z,xs = [.str z] ∧ z.length ≤ sizeLine ∧ Q (.int z.length) H):=call_len_seq.or jix
theorem jgk : CaD X.K kLen (fun xs H Q=>(∃ p ys,xs = [.ref p] ∧ (SqL X.K H p ys ∨ SqT X.K H p ys) ∧ Q (.int ys.length) H) ∨ ∃ z,xs = [.str z] ∧ z.length ≤ sizeLine ∧ Q (.int z.length) H):=by
 intro xs d hd ρ H G us Q hG ru k
 unfold kLen at hd
 split at hd
 ·cases hd
  obtain ⟨v,rfl,q⟩:=jil ru
  obtain ⟨a,ys,rfl,q1,q2⟩:=rep_lst.mp q
  exact .inl ⟨a,ys,rfl,.inl (jcu jam q1),k _ H (Same.refl H) (rep_int.mpr (by rw [q2.length]))⟩
 ·cases hd
  obtain ⟨v,rfl,q⟩:=jil ru
  obtain ⟨a,ys,rfl,q1,q2⟩:=rep_tup.mp q
  exact .inl ⟨a,ys,rfl,.inr (jc9 jam q1),k _ H (Same.refl H) (rep_int.mpr (by rw [q2.length]))⟩
 ·split at hd
  ·rename_i z hz
   cases hd
   obtain ⟨v,rfl,q⟩:=jil ru
   cases rep_str.mp q
   exact .inr ⟨z,rfl,hz,k _ H (Same.refl H) (rep_int.mpr rfl)⟩
  ·cases hd
 ·cases hd
noncomputable def kTuple : List D → Option D
 | [.lst ds]=>some (.tup ds)
 | [.tup ds]=>some (.tup ds)
 | _=>none
theorem jdm : CaD X.K kTuple (fun xs H Q=>∃ p ys,xs = [.ref p] ∧ ((SqL X.K H p ys ∧ ∀ l,H l = none → Q (.ref l) (upd H l (.tup ys))) ∨ (SqT X.K H p ys ∧ Q (.ref p) H))):=by
 intro xs d hd ρ H G us Q hG ru k
 unfold kTuple at hd
 split at hd
 ·cases hd
  obtain ⟨v,rfl,q⟩:=jil ru
  obtain ⟨a,ys,rfl,q1,q2⟩:=rep_lst.mp q
  exact ⟨a,ys,rfl,.inl ⟨jcu jam q1,fun l hl=>k _ _ (jaz hl) (jbw hl (hG l hl) q2)⟩⟩
 ·cases hd
  obtain ⟨v,rfl,q⟩:=jil ru
  obtain ⟨a,ys,rfl,q1,q2⟩:=rep_tup.mp q
  exact ⟨a,ys,rfl,.inr ⟨jc9 jam q1,k _ H (Same.refl H) q⟩⟩
 ·cases hd
noncomputable def kList : List D → Option D
 | [.lst ds]=>some (.lst ds)
 | [.tup ds]=>some (.lst ds)
 | _=>none
noncomputable def kMin : List D → Option D
 | [.int i,.int j]=>some (.int (if j < i then j else i))
 | _=>none
noncomputable def kInt : List D → Option D
 | [.int i]=>some (.int i)
 | [.bl k]=>some (.int (if k then 1 else 0))
 | _=>none
noncomputable def jhd : List D → Option (List Int)
 | []=>some []
 | .int i :: ds=>(jhd ds).map (i :: ·)
 | _ :: _=>none
theorem jlh : ∀ {ds : List D} {ns : List Int},jhd ds = some ns → ds = ns.map .int
 | [],_,h=>by cases h; rfl
 | .int i :: ds,ns,h=>by
  unfold jhd at h
  cases e : jhd ds with
  | none=>rw [e] at h; cases h
  | some ms=>rw [e] at h; cases h; rw [jlh e]; rfl
 | .non :: _,_,h=>by cases h
 | .bl _ :: _,_,h=>by cases h
 | .str _ :: _,_,h=>by cases h
 | .ty _ :: _,_,h=>by cases h
 | .obj _ :: _,_,h=>by cases h
 | .tup _ :: _,_,h=>by cases h
 | .lst _ :: _,_,h=>by cases h
theorem jni (ns : List Int) : jhd (ns.map .int) = some ns:=by
 induction ns with
 | nil=>rfl
 | cons n ns ih=>rw [List.map_cons]; unfold jhd; rw [ih]; rfl
noncomputable def kSum : List D → Option D
 | [d]=>match seqD d with
  | some ds=>(jhd ds).map fun ns=>.int ns.sum
  | none=>none
 | _=>none
theorem job (ns : List Int) : ∀ k,k ≤ ns.length → preSum (fun i=>ns.getD i 0) k = (ns.take k).sum:=by
 intro k
 induction k with
 | zero=>intro _; rfl
 | succ k ih =>
  intro h
  show preSum _ k + ns.getD k 0 = _
  rw [ih (by omega),List.take_succ,List.sum_append]
  congr 1
  rw [List.getD_eq_getElem?_getD,List.getElem?_eq_getElem (by omega)]
  simp
theorem jgl (hc : X.calm = true) : CallR X (.builtin "sum") (fun xs H Q=>∃ k p,∃ ns : List Int,xs = [.ref p] ∧ SqV k X.K H p (ns.map V.int) ∧ Q (.int ns.sum) H):=by
 intro pins s σ H xs us Q I r h
 obtain ⟨k,p,ns,rfl,hq,q⟩:=h
 obtain ⟨u,rfl,rx⟩:=r.one
 cases rx
 obtain ⟨its,rv,src,hz⟩:=I.src hq
 have hl:=rv.length
 rw [List.length_map] at hl
 have hh : X.A.in1.handled = none:=I.ok.hd hc
 have val : ∀ (i : Nat) v,its.toArray[i]? = some v → ∃ t,v = .int (ns.getD i 0) t:=fun i v e=>by
  have hi : i < ns.length:=by rw [hl]; have:=(Array.getElem?_eq_some_iff.mp e).1; simpa using this
  obtain ⟨v',e1,r1⟩:=rv.get (i:=i) (x:=.int ns[i]) (by rw [List.getElem?_map,List.getElem?_eq_getElem hi]; rfl)
  have : v = v':=by
   have e' : its[i]? = some v:=by simpa using e
   rw [e'] at e1; exact Option.some.inj e1
  subst this
  rw [List.getD_eq_getElem?_getD,List.getElem?_eq_getElem hi]
  exact r1
 have fin : ∀ {it : Addr} {s2 : Shared} {h' : Heap} {tk : Nat} {t' : Tok},s.heap.objs.size = it → (∀ b o,s.heap.get? b = some o → s2.heap.get? b = some o) → s2 = { s with heap:=s2.heap } → (∀ b o,b ∉ [it] → s2.heap.get? b = some o → h'.get? b = some o) →
   EP X pins σ Q (.int (preSum (fun i=>ns.getD i 0) its.toArray.size) t') { s2 with heap:=h',toks:=tk }:=fun {it s2 h' tk t'} e1 e2 e3 e4=>by
  have ep : preSum (fun i=>ns.getD i 0) its.toArray.size = ns.sum:=by
   rw [List.size_toArray,← hl,job ns _ (Nat.le_refl _),List.take_length]
  rw [ep,e3]
  refine ⟨.int ns.sum,H,I.kept fun b o e=>e4 b o ?_ (e2 b o e),⟨_,rfl⟩,q⟩
  intro z
  have : b = it:=by simpa using z
  rw [this,← e1] at e
  exact absurd (Heap.lt_size e) (Nat.lt_irrefl _)
 refine call_sum_walkG ?_
 cases k with
 | true =>
  have src' : s.heap.IsTuple p its.toArray:=src
  have hp : p < s.heap.objs.size:=by obtain ⟨o,e,_⟩:=src'; exact Heap.lt_size e
  refine wpAny_pyIter_tuple src' ?_
  refine ⟨_,_,_,_,_,_,_,rfl,Walks.tuple hh s.heap.objs.size p (Nat.ne_of_lt hp) its.toArray,⟨⟨_,Heap.get?_push_size _ rfl,rfl,rfl⟩,src'.at fun o e=>Heap.get?_push_of_some _ e⟩,fun b hb=>?_,val,fun h' tk t' kp=>fin rfl (fun b o e=>Heap.get?_push_of_some _ e) rfl kp⟩
  rw [Heap.size_push]
  simp only [List.mem_cons,List.not_mem_nil,or_false] at hb
  rcases hb with rfl | rfl
  ·exact Nat.lt_succ_self _
  ·exact Nat.lt_succ_of_lt hp
 | false =>
  have src' : s.heap.IsList p its.toArray:=src
  have hp : p < s.heap.objs.size:=by obtain ⟨o,e,_⟩:=src'; exact Heap.lt_size e
  refine wpAny_pyIter_list src' ?_
  refine ⟨_,_,_,_,_,_,_,rfl,Walks.list hh s.heap.objs.size p (Nat.ne_of_lt hp) its.toArray,⟨⟨_,Heap.get?_push_size _ rfl,rfl,rfl⟩,src'.at fun o e=>Heap.get?_push_of_some _ e⟩,fun b hb=>?_,val,fun h' tk t' kp=>fin rfl (fun b o e=>Heap.get?_push_of_some _ e) rfl kp⟩
  rw [Heap.size_push]
  simp only [List.mem_cons,List.not_mem_nil,or_false] at hb
  rcases hb with rfl | rfl
  ·exact Nat.lt_succ_self _
  ·exact Nat.lt_succ_of_lt hp
theorem jj9 : CaD X.K kSum (fun xs H Q=>∃ k p,∃ ns : List Int,xs = [.ref p] ∧ SqV k X.K H p (ns.map V.int) ∧ Q (.int ns.sum) H):=by
 intro xs d hd ρ H G us Q hG ru k
 unfold kSum at hd
 split at hd
 ·rename_i d0
  split at hd
  ·rename_i ds es
   cases e : jhd ds with
   | none=>rw [e] at hd; cases hd
   | some ns =>
    rw [e] at hd
    cases hd
    obtain ⟨v,rfl,q⟩:=jil ru
    obtain ⟨kk,l,ys,rfl,q1,q2⟩:=jon es q
    rw [jlh e] at q2
    rw [reps_ints.mp q2] at q1
    exact ⟨kk,l,ns,rfl,jjx jam q1,k _ H (Same.refl H) (rep_int.mpr rfl)⟩
  ·cases hd
 ·cases hd
noncomputable def isiD (T : String) : D → Option Bool
 | .non=>some (T == "NoneType")
 | .bl _=>some (T == "bool" || T == "int")
 | .int _=>some (T == "int")
 | .str _=>some (T == "str")
 | .tup _=>some (T == "tuple")
 | .lst _=>some (T == "list")
 | _=>none
noncomputable def kIsi : List D → Option D
 | [d,.ty T]=>if T = "int" ∨ T = "bool" ∨ T = "tuple" ∨ T = "list" ∨ T = "str" then (isiD T d).map .bl else none
 | _=>none
end
end DL
namespace DL
open PySem PySem.Spec L2
section
variable {X : Cx}
noncomputable def rIsi (K : PySem.W.Frag) : List V → Hp → VK → Prop:=fun xs H Q=>∃ ρ d v T b,xs = [v,.ty T] ∧ Rep ρ K H d v ∧ kIsi [d,.ty T] = some (.bl b) ∧ Q (.bl b) H
theorem jm0 : CallR X (.builtin "isinstance") (rIsi X.K):=by
 intro pins s σ H xs us Q I r h
 obtain ⟨ρ,d,v,T,b,rfl,rd,hk,q⟩:=h
 obtain ⟨u,c,rfl,ru,rc⟩:=r.two
 cases rc
 have fin : ∀ tk,EP X pins σ Q (.bool b) { s with toks:=tk }:=fun tk=>⟨.bl b,H,I.tok _,rfl,q⟩
 have hk2 : (if T = "int" ∨ T = "bool" ∨ T = "tuple" ∨ T = "list" ∨ T = "str" then (isiD T d).map D.bl else none) = some (.bl b):=hk
 clear hk
 by_cases hT : T = "int" ∨ T = "bool" ∨ T = "tuple" ∨ T = "list" ∨ T = "str"
 ·rw [if_pos hT] at hk2
  have hk:=hk2
  clear hk2
  cases d with
  | ty _=>cases hk
  | obj _=>cases hk
  | non =>
   cases rep_non.mp rd; cases ru
   rcases hT with rfl | rfl | rfl | rfl | rfl <;> (cases hk; exact PySem.W.kia_one PySem.W.kitx_none I.kIn True.intro rfl (fun z=>nomatch z) fin)
  | bl x =>
   cases rep_bl.mp rd; cases ru
   rcases hT with rfl | rfl | rfl | rfl | rfl <;> (cases hk; exact PySem.W.kia_one PySem.W.kitx_bool I.kIn True.intro rfl (fun z=>nomatch z) fin)
  | int x =>
   cases rep_int.mp rd; obtain ⟨t,rfl⟩:=ru
   rcases hT with rfl | rfl | rfl | rfl | rfl <;> (cases hk; exact PySem.W.kia_one PySem.W.kitx_int I.kIn True.intro rfl (fun z=>nomatch z) fin)
  | str x =>
   cases rep_str.mp rd; obtain ⟨t,rfl⟩:=ru
   rcases hT with rfl | rfl | rfl | rfl | rfl <;> (cases hk; exact PySem.W.kia_one PySem.W.kitx_str I.kIn True.intro rfl (fun z=>nomatch z) fin)
  | tup x =>
   obtain ⟨a,ys,rfl,q1,q2⟩:=rep_tup.mp rd
   cases ru
   obtain ⟨its,_,⟨o,e,hc,_⟩,_⟩:=I.tuple q1
   rcases hT with rfl | rfl | rfl | rfl | rfl <;> (cases hk; exact PySem.W.kia_one PySem.W.kitx_tuple I.kIn ⟨o,e,hc⟩ rfl (fun z=>nomatch z) fin)
  | lst x =>
   obtain ⟨a,ys,rfl,q1,q2⟩:=rep_lst.mp rd
   cases ru
   obtain ⟨its,_,p,_⟩:=I.list q1
   obtain ⟨o,e,hc,_⟩:=p.isList
   rcases hT with rfl | rfl | rfl | rfl | rfl <;> (cases hk; exact PySem.W.kia_one PySem.W.kitx_list I.kIn ⟨o,e,hc⟩ rfl (fun z=>nomatch z) fin)
 ·rw [if_neg hT] at hk2; cases hk2
theorem jrx : CaD X.K kIsi (rIsi X.K):=by
 intro xs d hd ρ H G us Q hG ru k
 have hd0:=hd
 unfold kIsi at hd
 split at hd
 ·rename_i d0 T
  split at hd
  ·obtain ⟨v,u,rfl,q1,q2⟩:=jyq ru
   cases rep_ty.mp q2
   cases e : isiD T d0 with
   | none=>rw [e] at hd; cases hd
   | some b =>
    rw [e] at hd
    cases hd
    exact ⟨ρ,d0,v,T,b,rfl,q1.mono jam,hd0,k _ H (Same.refl H) (rep_bl.mpr rfl)⟩
  ·cases hd
 ·cases hd
theorem jr1 {O : List Nat} {E : XK} {x : Str} {T : String} {pos : Pos} (hg : Gl X x) (hm : X.mg x = none) (hv : bootBuiltins x = some (.type T)) (hn : autoParam (x ≠ "__name__") zau1._auto_1) (hd : autoParam ((x == ("__debug__" : Str)) = false) zau1._auto_1) : DE X O E (.Name x pos) (fC (.ty T)) :=
 jiz (t:=tC (.ty T)) (v:=.ty T) (jn8 (v:=.ty T) hg hm hv rfl hn hd) fun _ _=>rep_ty.mpr rfl
end
inductive spD (K : PySem.W.Frag) (n : Nat) (m : List D → M D) (vs : List V) (H : Hp) (Q : VK) (E : XK) : Prop
 | mk (hn : vs.length = n) (ρ : Rho) (ds : List D) (r : Except XD D) (F : Addr → Bool) (hF : ∀ b,F b = true → H b ≠ none) (hr : Reps ρ K (hid H F) ds vs) (hf : m ds = some r) (k : match (generalizing:=false) r with
  | .ok d=>∀ v H',Same H H' → Rep ρ K (hid H' F) d v → Q v H'
  | .error x=>okX K H E x)
inductive CalX (P : Program) (w : World) (K : PySem.W.Frag) (mg : Str → Option Value) (base : Heap) (k : Nat) (x : Str) (n : Nat) (sp : Sp) : Prop
 | mk (f : Addr) (fd : FuncData) (ps : List Str) (h1 : ps.length = n) (h2 : mg x = some (.ref f)) (h3 : PySem.W.keepIn K (.ref f) = true) (h4 : Binds K fd ps []) (h5 : FnOk P w K mg base CX0 k f fd ps sp)
structure Cal (P : Program) (w : World) (K : PySem.W.Frag) (mg : Str → Option Value) (base : Heap) (k : Nat) (x : Str) (n : Nat) (m : List D → M D) : Prop where
 ex : CalX P w K mg base k x n (spD K n m)
 ar : ∀ ds r,m ds = some r → ds.length = n
noncomputable def jc2 (K : PySem.W.Frag) (mg : Str → Option Value) (x : Str) (st : Stmt) (ps : List Str) : Prop:=∃ f fd,mg x = some (.ref f) ∧ Fun K x x st f fd ∧ Binds K fd ps []
noncomputable def startD (n : Nat) (ds : List D) : DSt:=ds.map some ++ List.replicate (n - ds.length) none
noncomputable def outD : Out → M D
 | .rt d=>M.p d
 | .nx _=>M.p .non
 | _=>none
noncomputable def mir (n N : Nat) (g : DSt → M Out) : List D → M D:=fun ds=>if ds.length = n then (g (startD N ds)).b outD else none
theorem jf5 {N : Nat} {ds : List D} {i : Nat} {d : D} (h : (startD N ds)[i]? = some (some d)) : ds[i]? = some d:=by
 unfold startD at h
 by_cases hi : i < ds.length
 ·rw [List.getElem?_append_left (by simpa using hi),List.getElem?_map] at h
  cases e : ds[i]? with
  | none=>rw [e] at h; cases h
  | some a=>rw [e] at h; cases h; rfl
 ·rw [List.getElem?_append_right (by simpa using hi),List.getElem?_replicate] at h
  split at h <;> cases h
theorem jg4 {N : List Str} {vs : List V} {i : Nat} {v : V} (h : vs[i]? = some v) : (L2.start N vs)[i]? = some (some v):=by
 unfold L2.start
 have hi : i < vs.length:=(List.getElem?_eq_some_iff.mp h).1
 rw [List.getElem?_append_left (by simpa using hi),List.getElem?_map,h]
 rfl
section
variable {P : Program} {w : World} {K : PySem.W.Frag} {mg : Str → Option Value} {base : Heap}
theorem fn_D {x : Str} {st : Stmt} {N ps : List Str} {k : Nat} {O' : List Nat} {g : DSt → M Out} {f : Addr} {fd : FuncData} (F : Fun K x x st f fd) (S : FnScope N ps (jaa st))
  (hbody : ∀ (f : Addr) (cdv : Value) (A : Around) (outer : List Env) (s : Shared) (H : Hp) (E : XK),Room k (A.deeper (PyProof.Rows.envOfC x (jaa st) s.heap.objs.size f cdv)) →
   DSs (cxOf CX0 P w K mg base N x (jaa st) f cdv A outer s H E).nox [] O' [] E (jah st) g) : FnOk P w K mg base CX0 (k + 1) f fd ps (spD K ps.length (mir ps.length N.length g)):=by
 refine F.ok S (fun vs H Q E h=>h.1) fun cdv A outer s H vs Q E hr h=>?_
 obtain ⟨hl,ρ,ds,r,F',fin,rp,hmr,k0⟩:=h
 refine ⟨_,hbody f cdv A outer s H E hr,?_⟩
 have hpl : ps.length ≤ N.length:=by have:=congrArg List.length S.pre; rw [List.length_take] at this; omega
 have hdl : ds.length = ps.length:=by rw [← rp.length]; exact hl
 unfold mir at hmr
 rw [if_pos hdl] at hmr
 have R : RS ρ K H H F' [] (L2.start N vs) (startD N.length ds):=by
  refine ⟨?_,Same.refl H,fin,fun i d hd _=>?_,fun i hi=>absurd hi (by simp),fun i hi=>absurd hi (by simp)⟩
  ·simp [L2.start,startD,rp.length]
  ·obtain ⟨v,e,rv⟩:=rp.get (jf5 hd)
   exact ⟨v,jg4 e,by rw [jcg]; exact rv⟩
 rcases M.b_inv hmr with ⟨o,e1,hmr⟩ | ⟨y,e1,rfl⟩
 ·refine ⟨ρ,H,F',_,.ok o,R,e1,?_⟩
  cases o with
  | rt d=>cases hmr; exact fun v H' s' rv=>k0 v H' s' rv
  | nx δ=>cases hmr; exact fun σ' H' f' R'=>k0 .non H' R'.same (rep_non.mpr rfl)
  | bk δ=>cases hmr
  | ct δ=>cases hmr
 ·exact ⟨ρ,H,F',_,.error y,R,e1,k0⟩
theorem jdn {x : Str} {st : Stmt} {N ps : List Str} {k : Nat} {O' : List Nat} {g : DSt → M Out} (hf : jc2 K mg x st ps) (S : FnScope N ps (jaa st))
  (hbody : ∀ (f : Addr) (cdv : Value) (A : Around) (outer : List Env) (s : Shared) (H : Hp) (E : XK),Room k (A.deeper (PyProof.Rows.envOfC x (jaa st) s.heap.objs.size f cdv)) →
   DSs (cxOf CX0 P w K mg base N x (jaa st) f cdv A outer s H E).nox [] O' [] E (jah st) g) : Cal P w K mg base (k + 1) x ps.length (mir ps.length N.length g):=by
 obtain ⟨f,fd,hm,F,hb⟩:=hf
 refine ⟨⟨f,fd,ps,rfl,hm,F.kp,hb,fn_D F S hbody⟩,fun ds r h=>?_⟩
 unfold mir at h
 split at h
 ·assumption
 ·cases h
theorem jbc {h : Heap} {x : Str} {st : Stmt} {ps : List Str} {f : Addr} {oc : Value} {od an : Option Addr} {osl : Array (Option Value)} {kV doc pm cdv ct : Value} (X : K.In h) (G : h.Ns mainGlobals mg)
  (hb : ∀ (kV doc pm : Value) (an : Option Addr) (cdv ct : Value) (us : List Value),us.length = ps.length → bindArgs (PySem.W.fnOf x x (jat st) (jah st) (jaa st) .none kV doc pm an cdv ct) ⟨us,[]⟩ = pure (ps.zip us))
  (a : PySem.W.nsIn K mainGlobals x = some (some (.ref f))) (l : K.lookup f = some ⟨oc,od,.func (PySem.W.fnOf x x (jat st) (jah st) (jaa st) .none kV doc pm an cdv ct),osl⟩)
  (c : PySem.W.codeIn K cdv x = true) (k : PySem.W.keepIn K (.ref f) = true) : jc2 K mg x st ps:=by
 have F:=jle (st:=st) l c k
 exact ⟨f,_,PySem.W.mg_of X G a,F,F.binds hb⟩
theorem jne {st : Stmt} {x : Str} {f : Addr} (hf : jc2 K mg "law" st [x]) (hm : mg "law" = some (.ref f))
  (hb : ∀ (kV doc pm : Value) (an : Option Addr) (cdv ct : Value) (s : Shared) (u : Value),BindsTo s (PySem.W.fnOf "law" "law" (jat st) (jah st) (jaa st) .none kV doc pm an cdv ct) ⟨[u],[]⟩ [(x,u)]) :
  ∃ fd,Fun K "law" "law" st f fd ∧ ∀ (s : Shared) (u : Value),BindsTo s fd ⟨[u],[]⟩ [(x,u)]:=by
 obtain ⟨f',fd,hm',F,_⟩:=hf
 rw [hm] at hm'
 cases hm'
 refine ⟨fd,F,fun s u=>?_⟩
 obtain ⟨oc,od,kV,doc,pm,an,cdv,ct,osl,rfl,lk,hcd⟩:=F.ex
 exact hb kV doc pm an cdv ct s u
end
noncomputable def jbb (m : List D → M D) (fl : DSt → M (List D)) : DSt → M D:=fun δ=>(fl δ).b m
section
variable {X : Cx} {O : List Nat} {E : XK} {e : Expr} {es : List Expr} {fl : DSt → M (List D)} {pos p : Pos} {x : Str} {k n : Nat} {m : List D → M D}
theorem jav (C : Cal X.prog X.w X.K X.mg X.base k x n m) (hr : Room k X.A) (ha : DA X O E (e :: es) fl) (hg : autoParam (Gl X x) zau2._auto_1) (hdb : autoParam ((x == ("__debug__" : Str)) = false) zau1._auto_1) (he : autoParam (starEach (e :: es) X.env = (false,eval e X.env) :: starEach es X.env) zau2._auto_1)
  (hpl : autoParam ((backTo pos (starEach es X.env)).any (·.1) = false) zau2._auto_1) : DE X O E (.Call (.Name x p) (e :: es) [] pos) (jbb m fl):=by
 obtain ⟨f,fd,ps,hl,hm,hk,hb,F⟩:=C.ex
 rintro pins s σ H Q I ⟨ρ,H₀,G,δ,r,R,hf,h⟩
 refine jii F hr hg hm hk hb .nil (fun _ _ _ _ _ _ _ z=>z.elim) ha hdb he hpl pins s σ H Q I (E:=E) ?_
 rcases M.b_inv hf with ⟨ds,e1,hf⟩ | ⟨y,e1,rfl⟩
 ·refine ⟨ρ,H₀,G,δ,.ok ds,R,e1,fun vs H1 s1 r1=>?_⟩
  show spD X.K n m (vs ++ []) H1 Q E
  rw [List.append_nil]
  refine ⟨by rw [r1.length]; exact C.ar ds r hf,ρ,ds,r,fob G σ O,fun b hb z=>?_,r1,hf,?_⟩
  ·rw [(R.mono s1).fresh z] at hb; cases hb
  ·cases r with
   | ok d=>exact fun v H' s' rv=>h v H' (s1.trans s') rv
   | error y=>exact fun c dx H' s' xr=>h c dx H' (R.same.trans (s1.trans s')) xr
 ·exact ⟨ρ,H₀,G,δ,.error y,R,e1,h⟩
end
end DL
namespace DL
open PySem PySem.Spec L2
theorem hu30 {A : Around} {k : Nat} (hr : Room k A) : A.units + 30 < cLine:=Nat.lt_of_le_of_lt (Nat.add_le_add_left (by decide : 30 ≤ 64) _) hr.units
theorem jiw : bootBuiltins "len" = some (.builtin "len"):=by decide +kernel
theorem jmz : bootBuiltins "sum" = some (.builtin "sum"):=by decide +kernel
theorem jfi : bootBuiltins "isinstance" = some (.builtin "isinstance"):=by decide +kernel
theorem jdv : bootBuiltins "tuple" = some (.type "tuple"):=by decide +kernel
theorem jmy : bootBuiltins "list" = some (.type "list"):=by decide +kernel
end DL
namespace DL
open PySem PySem.Spec L2
noncomputable def gCat : D → D → Option D
 | .int i,.int j=>some (.int (i + j))
 | .str x,.str y=>if x.length + y.length ≤ sizeLine then some (.str (x ++ y)) else none
 | .lst xs,.lst ys=>if xs.length + ys.length ≤ sizeLine then some (.lst (xs ++ ys)) else none
 | .tup xs,.tup ys=>if xs.length + ys.length ≤ sizeLine ∧ xs ≠ [] ∧ ys ≠ [] then some (.tup (xs ++ ys)) else none
 | _,_=>none
noncomputable def jtu (K : PySem.W.Frag) : R2:=fun x y H Q=>∃ l b xs zs,x = .ref l ∧ y = .ref b ∧ SqL K H l xs ∧ SqL K H b zs ∧ xs.length + zs.length ≤ sizeLine ∧ ∀ p,H p = none → Q (.ref p) (upd H p (.lst (xs ++ zs)))
section
variable {X : Cx} {O O' B : List Nat} {E : XK} {a b c e : Expr} {es : List Expr} {fa fb fc : DSt → M D} {fl : DSt → M (List D)} {pos : Pos}
theorem op_catQ : OpR X (binaryOp .Add) (jtu X.K):=by
 intro pins s σ H x y v u Q I rx ry h
 obtain ⟨l,b,xs,zs,rfl,rfl,hH,hB,hz,q⟩:=h
 cases rx
 cases ry
 obtain ⟨its,r,⟨⟨cls,dd,data,sl⟩,n,ho,hc,_,hd⟩,_⟩:=I.list hH
 obtain ⟨its2,r2,⟨⟨cls2,dd2,data2,sl2⟩,n2,ho2,hc2,_,hd2⟩,_⟩:=I.list hB
 simp only at hc hd hc2 hd2
 subst hc hd hc2 hd2
 have l1:=r.length
 have l2:=r2.length
 have ea : its.toArray ++ its2.toArray = (its ++ its2).toArray:=by simp
 refine concat_meets ⟨_,ho,rfl⟩ ⟨_,ho2,rfl⟩ noFill_list_add seq_list_add PySem.F.slot_list_add PySem.F.entry_list_add (PySem.F.args_list_add_2 _ _) (PyProof.Rows.list_addW l b its.toArray its2.toArray n n2 dd dd2 sl sl2 (by simp only [List.size_toArray]; omega)) ⟨ho,ho2,?_⟩
 rw [ea]
 exact ⟨.ref _,_,I.lnew (t':=s.toks) (r.append r2) (by rw [List.length_append]; omega),rfl,q _ I.fresh⟩
theorem jax : OpR X (binaryOp .Add) (fun x y H Q=>(rI0 (fun i j=>.int (i + j)) x y H Q ∨ ∃ i j,x = .str i ∧ y = .str j ∧ i.length + j.length ≤ sizeLine ∧ Q (.str (i ++ j)) H) ∨ jtu X.K x y H Q ∨ jtv X.K x y H Q):=op_addD.or (op_catQ.or js8)
theorem jay : OpD X.K gCat (fun x y H Q=>(rI0 (fun i j=>.int (i + j)) x y H Q ∨ ∃ i j,x = .str i ∧ y = .str j ∧ i.length + j.length ≤ sizeLine ∧ Q (.str (i ++ j)) H) ∨ jtu X.K x y H Q ∨ jtv X.K x y H Q):=by
 intro x y d hd ρ H G u v Q hG ru rv k
 unfold gCat at hd
 split at hd
 ·cases hd; exact .inl (.inl ⟨_,_,rep_int.mp ru,rep_int.mp rv,k _ H (Same.refl H) (rep_int.mpr rfl)⟩)
 ·split at hd
  ·rename_i hz
   cases hd; exact .inl (.inr ⟨_,_,rep_str.mp ru,rep_str.mp rv,hz,k _ H (Same.refl H) (rep_str.mpr rfl)⟩)
  ·cases hd
 ·split at hd
  ·rename_i hz
   cases hd
   obtain ⟨l,xs,rfl,q1,q2⟩:=rep_lst.mp ru
   obtain ⟨m,ys,rfl,p1,p2⟩:=rep_lst.mp rv
   exact .inr (.inl ⟨l,m,xs,ys,rfl,rfl,jcu jam q1,jcu jam p1,by rw [q2.length,p2.length]; exact hz,fun p hp=>k _ _ (jaz hp) (jd8 hp (hG p hp) (q2.append p2))⟩)
  ·cases hd
 ·split at hd
  ·rename_i hz
   cases hd
   obtain ⟨l,xs,rfl,q1,q2⟩:=rep_tup.mp ru
   obtain ⟨m,ys,rfl,p1,p2⟩:=rep_tup.mp rv
   have n1 : xs ≠ []:=fun z=>by have:=q2.length; rw [z] at this; exact hz.2.1 (List.length_eq_zero_iff.mp this.symm)
   have n2 : ys ≠ []:=fun z=>by have:=p2.length; rw [z] at this; exact hz.2.2 (List.length_eq_zero_iff.mp this.symm)
   exact .inr (.inr ⟨l,m,xs,ys,rfl,rfl,jc9 jam q1,jc9 jam p1,n1,by rw [q2.length,p2.length]; exact hz.1,fun z=>absurd z n2,fun _ p hp=>k _ _ (jaz hp) (jbw hp (hG p hp) (q2.append p2))⟩)
  ·cases hd
 ·cases hd
theorem Reps.rep {ρ : Rho} {K : PySem.W.Frag} {H : Hp} {ds : List D} {vs : List V} (h : Reps ρ K H ds vs) : ∀ k : Nat,Reps ρ K H (List.replicate k ds).flatten (List.replicate k vs).flatten
 | 0=>Reps.nil
 | k + 1=>by rw [List.replicate_succ,List.flatten_cons,List.replicate_succ,List.flatten_cons]; exact h.append (Reps.rep h k)
inductive tOD (K : PySem.W.Frag) (O : List Nat) (E : XK) (f : DSt → M (Option Int)) (σ : St) (H : Hp) (Q : Option Int → Hp → Prop) : Prop
 | mk (ρ : Rho) (H₀ : Hp) (F : Addr → Bool) (δ : DSt) (r : Except XD (Option Int)) (R : RS ρ K H₀ H F O σ δ) (hf : f δ = some r) (k : match (generalizing:=false) r with
  | .ok o=>∀ H',Same H H' → Q o H'
  | .error x=>okX K H₀ E x)
noncomputable def DO (X : Cx) (O : List Nat) (E : XK) (e : Option Expr) (f : DSt → M (Option Int)) : Prop:=PO X e (tOD X.K O E f)
noncomputable def intD : D → Option (Option Int)
 | .int i=>some (some i)
 | _=>none
noncomputable def jgz (f : DSt → M D) : DSt → M (Option Int):=fun δ=>(f δ).b fun d=>M.o (intD d)
theorem jh8 (h : DE X O E e fa) : DO X O E (some e) (jgz fa):=by
 rintro pins s σ H Q I ⟨ρ,H₀,F,δ,r,R,hf,k⟩
 refine jtl h pins s σ H Q I ?_
 rcases M.b_inv hf with ⟨x,e1,hf⟩ | ⟨x,e1,rfl⟩
 ·refine ⟨ρ,H₀,F,δ,.ok x,R,e1,fun v H1 s1 r1=>?_⟩
  obtain ⟨o,ho,rfl⟩:=M.o_inv hf
  cases x with
  | int i=>cases ho; exact ⟨i,rep_int.mp r1,k H1 s1⟩
  | _=>cases ho
 ·exact ⟨ρ,H₀,F,δ,.error x,R,e1,k⟩
noncomputable def cutL {α : Type} (xs : List α) (lo hi : Option Int) : List α:=(xs.drop (HT.sIx xs.length 0 lo)).take (HT.sIx xs.length xs.length hi - HT.sIx xs.length 0 lo)
noncomputable def cutD : D → Option Int → Option Int → Option D
 | .lst ds,lo,hi=>some (.lst (cutL ds lo hi))
 | .tup ds,lo,hi=>if HT.sIx ds.length 0 lo = 0 ∧ HT.sIx ds.length ds.length hi = ds.length then none else some (.tup (cutL ds lo hi))
 | .str x,lo,hi=>if x.length ≤ sizeLine then some (.str (Txt.slice x lo hi)) else none
 | _,_,_=>none
noncomputable def rSlS : V → Option Int → Option Int → Hp → VK → Prop:=fun x lo hi H Q=>∃ z,x = .str z ∧ z.length ≤ sizeLine ∧ Q (.str (Txt.slice z lo hi)) H
theorem jw0 : SlR X rSlS:=by
 intro pins s σ H x v vl vu lo hi sl Q I rx hs pl pu h
 obtain ⟨z,rfl,hz,q⟩:=h
 obtain ⟨t,rfl⟩:=rx
 have fin : ∀ {l u : Option (Int × Tok)},l.map (·.1) = lo → u.map (·.1) = hi → s.heap.IsSlice sl l u none → wpAny (model X.prog X.w) X.A (getItem (.str z t) (.ref sl)) (EP X pins σ Q) X.xe s:=fun {l u} e1 e2 h=>by
  refine wpAny_getItem_str_slice (l:=l) (u:=u) (st:=none) h rfl ?_
  have hw : ∀ t' k,EP X pins σ Q (.str (Txt.slice z lo hi) t') { s with toks:=k }:=fun t' k=>⟨.str (Txt.slice z lo hi),H,I.tok _,⟨_,rfl⟩,q⟩
  rw [← e1,← e2] at hw
  exact post_val_or_str ⟨Nat.le_trans (Txt.slice_le z _ _) hz,hw⟩
 obtain ⟨os,ho,hc,hd⟩:=hs
 refine ⟨"str",_,PySem.F.slot_str_getitem.lookup,typeIs_str _ _ _,?_⟩
 cases pl with
 | none=>cases pu with
  | none=>exact fin (l:=none) (u:=none) rfl rfl ⟨os,ho,hc,hd⟩
  | int j tj=>exact fin (l:=none) (u:=some (j,tj)) rfl rfl ⟨os,ho,hc,hd⟩
 | int i ti=>cases pu with
  | none=>exact fin (l:=some (i,ti)) (u:=none) rfl rfl ⟨os,ho,hc,hd⟩
  | int j tj=>exact fin (l:=some (i,ti)) (u:=some (j,tj)) rfl rfl ⟨os,ho,hc,hd⟩
theorem Reps.take {ρ : Rho} {K : PySem.W.Frag} {H : Hp} : ∀ {ds : List D} {vs : List V} (n : Nat),Reps ρ K H ds vs → Reps ρ K H (ds.take n) (vs.take n)
 | _,_,0,_=>by simp; exact Reps.nil
 | [],_,n + 1,h=>by rw [reps_nil.mp h]; exact Reps.nil
 | d :: ds,_,n + 1,h=>by
  obtain ⟨v,r,rfl,q,t⟩:=reps_cons.mp h
  exact Reps.cons q (Reps.take n t)
theorem Reps.drop {ρ : Rho} {K : PySem.W.Frag} {H : Hp} : ∀ {ds : List D} {vs : List V} (n : Nat),Reps ρ K H ds vs → Reps ρ K H (ds.drop n) (vs.drop n)
 | _,_,0,h=>h
 | [],_,n + 1,h=>by rw [reps_nil.mp h]; exact Reps.nil
 | d :: ds,_,n + 1,h=>by
  obtain ⟨v,r,rfl,q,t⟩:=reps_cons.mp h
  exact Reps.drop n t
theorem Reps.cut {ρ : Rho} {K : PySem.W.Frag} {H : Hp} {ds : List D} {vs : List V} (h : Reps ρ K H ds vs) (lo hi : Option Int) : Reps ρ K H (cutL ds lo hi) (cutV vs lo hi):=by
 unfold cutL cutV
 rw [h.length]
 exact (h.drop _).take _
noncomputable def fSl (fa : DSt → M D) (fl fh : DSt → M (Option Int)) : DSt → M D:=fun δ=>(fa δ).b fun x=>(fl δ).b fun lo=>(fh δ).b fun hi=>M.o (cutD x lo hi)
theorem jla {lo hi : Option Expr} {fl fh : DSt → M (Option Int)} {p2 : Pos} (ha : DE X O E e fa) (hl : DO X O E lo fl) (hh : DO X O E hi fh) : DE X O E (.Subscript e (.Slice lo hi none p2) pos) (fSl fa fl fh):=by
 rintro pins s σ H Q I ⟨ρ,H₀,F,δ,r,R,hf,k⟩
 refine jqb (sl_list.or (sl_tup.or jw0)) ha hl hh pins s σ H Q I ?_
 rcases M.b_inv hf with ⟨x,e1,hf⟩ | ⟨x,e1,rfl⟩
 ·refine ⟨ρ,H₀,F,δ,.ok x,R,e1,fun v H1 s1 r1=>?_⟩
  rcases M.b_inv hf with ⟨l,e2,hf⟩ | ⟨y,e2,rfl⟩
  ·refine ⟨ρ,H₀,F,δ,.ok l,R.mono s1,e2,fun H2 s2=>?_⟩
   rcases M.b_inv hf with ⟨h,e3,hf⟩ | ⟨y,e3,rfl⟩
   ·refine ⟨ρ,H₀,F,δ,.ok h,R.mono (s1.trans s2),e3,fun H3 s3=>?_⟩
    obtain ⟨d,hd,rfl⟩:=M.o_inv hf
    have r3:=r1.mono (jaq (s2.trans s3))
    have R3:=R.mono (s1.trans (s2.trans s3))
    have sm:=s1.trans (s2.trans s3)
    cases x with
    | lst ds =>
     cases hd
     obtain ⟨q,xs,rfl,q2,q3⟩:=rep_lst.mp r3
     exact .inl ⟨q,xs,rfl,jcu jam q2,fun p hp=>k _ _ (sm.trans (jaz hp)) (jd8 hp (R3.fresh hp) (q3.cut l h))⟩
    | tup ds =>
     have hd' : (if HT.sIx ds.length 0 l = 0 ∧ HT.sIx ds.length ds.length h = ds.length then none else some (D.tup (cutL ds l h))) = some d:=hd
     split at hd'
     ·cases hd'
     ·rename_i hn
      cases hd'
      obtain ⟨q,xs,rfl,q2,q3⟩:=rep_tup.mp r3
      exact .inr (.inl ⟨q,xs,rfl,jc9 jam q2,by rw [q3.length]; exact hn,fun p hp=>k _ _ (sm.trans (jaz hp)) (jbw hp (R3.fresh hp) (q3.cut l h))⟩)
    | str z =>
     have hd' : (if z.length ≤ sizeLine then some (D.str (Txt.slice z l h)) else none) = some d:=hd
     split at hd'
     ·rename_i hz
      cases hd'
      exact .inr (.inr ⟨z,rep_str.mp r3,hz,k _ _ sm (rep_str.mpr rfl)⟩)
     ·cases hd'
    | _=>cases hd
   ·exact ⟨ρ,H₀,F,δ,.error y,R.mono (s1.trans s2),e3,k⟩
  ·exact ⟨ρ,H₀,F,δ,.error y,R.mono s1,e2,k⟩
 ·exact ⟨ρ,H₀,F,δ,.error x,R,e1,k⟩
noncomputable def jok : D → Bool
 | .non=>true
 | .bl _=>true
 | .int _=>true
 | .str _=>true
 | .ty _=>true
 | .obj _=>true
 | _=>false
theorem jl1 {ρ : Rho} {K : PySem.W.Frag} {H H' : Hp} {d : D} {v : V} (h : jok d = true) (r : Rep ρ K H d v) : Rep ρ K H' d v:=by
 cases d with
 | non=>exact rep_non.mpr (rep_non.mp r)
 | bl _=>exact rep_bl.mpr (rep_bl.mp r)
 | int _=>exact rep_int.mpr (rep_int.mp r)
 | str _=>exact rep_str.mpr (rep_str.mp r)
 | ty _=>exact rep_ty.mpr (rep_ty.mp r)
 | obj _=>exact rep_obj.mpr (rep_obj.mp r)
 | _=>cases h
noncomputable def gAug (i : Nat) (g : D → D → Option D) (f : DSt → M D) : DSt → M Out:=fun δ=>(M.o (δ[i]?).join).b fun x=>(f δ).b fun y=>(M.o (g x y)).b fun d=>M.p (.nx (δ.set i (some d)))
end
end DL
namespace DL
open PySem PySem.Spec L2
section
variable {X : Cx} {O O' B : List Nat} {E : XK} {a b c e o : Expr} {es : List Expr} {fa fb fc fo fe : DSt → M D} {fl : DSt → M (List D)} {pos : Pos}
noncomputable def gAsg (h : D → DSt → Option DSt) (f : DSt → M D) : DSt → M Out:=fun δ=>(f δ).b fun d=>match h d δ with
 | some δ'=>M.p (.nx δ')
 | none=>none
theorem juq {tg : Expr} {h : D → DSt → Option DSt} (he : DE X O E e fa) (hg : DG X O tg h) (hs : autoParam (swapsWithSole [tg] e pos.line X.env = pure false) zau2._auto_1) (hw : autoParam (swappedStores [tg] e X.env = pure none) zau2._auto_1)
  (h1 : autoParam ((assignEach [tg] X.env).map (·.2) = [assign tg X.env]) zau2._auto_1) : DS X O O B E (.Assign [tg] e pos) (gAsg h fa):=by
 rintro pins s σ H Dn I ⟨ρ,H₀,F,δ,r,R,hgg,k⟩
 refine jrg he hg hs hw h1 pins s σ H Dn I ?_
 rcases M.b_inv hgg with ⟨d,e1,hgg⟩ | ⟨y,e1,rfl⟩
 ·refine ⟨ρ,H₀,F,δ,.ok d,R,e1,fun v H1 s1 r1=>?_⟩
  cases e2 : h d δ with
  | none=>rw [e2] at hgg; cases hgg
  | some δ' =>
   rw [e2] at hgg
   cases hgg
   exact ⟨ρ,H₀,F,δ,d,δ',R.mono s1,r1,e2,fun σ' ef R'=>k σ' H1 (by rw [ef]; exact jaq s1) R'⟩
 ·exact ⟨ρ,H₀,F,δ,.error y,R,e1,k⟩
noncomputable def jx3 (i j l : Nat) : D → DSt → Option DSt:=fun d δ=>match d with
 | .tup [x,y,z]=>some (((δ.set i (some x)).set j (some y)).set l (some z))
 | _=>none
noncomputable def jx6 : List D → Option D
 | [.int i]=>some (.int i)
 | [.bl k]=>some (.int (if k then 1 else 0))
 | [.str x]=>if x.length ≤ 640 then (PySem.intText? x).map .int else none
 | _=>none
end
end DL
namespace L2
open PySem PySem.Spec PyProof.Rows
section
variable {X : Cx} {tg : Expr}
end
end L2
namespace DL
open PySem PySem.Spec L2
section
variable {X : Cx} {O : List Nat} {E : XK} {a b tg iter e o : Expr} {es : List Expr} {fa fo fe : DSt → M D} {fl : DSt → M (List D)} {pos p : Pos}
end
end DL
namespace L2
open PySem PySem.Spec PyProof.Rows
theorem jgb : fillsNumberSlot (.type "tuple") "mul" = pure false :=
 PySem.fillsNumberSlot_seq (id:="tuple.__mul__") (r:=some (.builtin "tuple.__rmul__")) PySem.F.slot_tuple_mul.lookup (by decide +kernel) PySem.F.slot_tuple_rmul.lookup (by decide +kernel)
theorem jjv : seqRepeat? (.type "tuple") = pure (some (.builtin "tuple.__mul__")):=by
 unfold seqRepeat?
 rw [PySem.seqSlot_of (T:="tuple") (name:="__mul__") (id:="tuple.__mul__") PySem.F.slot_tuple_mul.lookup (by decide +kernel),PySem.seqSlot_of (T:="tuple") (name:="__rmul__") (id:="tuple.__rmul__") PySem.F.slot_tuple_rmul.lookup (by decide +kernel)]
 rfl
theorem jhg (a : Int) (t : Tok) (l : Addr) (items : Array Value) (n : Nat) (dd : Option Addr) (sl : Array (Option Value)) :
  Meets (Builtin.«int.__rmul__» ⟨[.int a t,.ref l],[]⟩) (fun _ R s=>s.heap.get? l = some { cls:=.type "tuple",dict:=dd,data:=.seq items n,slots:=sl } ∧ R (.ok (.ret Value.notImplemented)) s) :=
 .of_wp fun prog w A R s h=>by obtain ⟨hp,g,d,tk,os⟩:=s; obtain ⟨hl,h⟩:=h; wp_walk; exact ⟨_,rfl,h⟩
theorem jmr (l : Addr) (items : Array Value) (n : Nat) (u : Tok) (dd : Option Addr) (sl : Array (Option Value)) (hne : items.isEmpty = false) :
  Meets (Builtin.«tuple.__mul__» ⟨[.ref l,.int 1 u],[]⟩) (fun _ R s=>s.heap.get? l = some { cls:=.type "tuple",dict:=dd,data:=.seq items n,slots:=sl } ∧ R (.ok (.ret (.ref l))) s) :=
 .of_wp fun prog w A R s h=>by
  obtain ⟨hp,g,d,tk,os⟩:=s; obtain ⟨hl,h⟩:=h
  have f1:=AutoSeq1.idx_int
  wp_walk
  exact ⟨_,rfl,h⟩
theorem jms (l : Addr) (items : Array Value) (n : Nat) (k : Int) (u : Tok) (dd : Option Addr) (sl : Array (Option Value)) (hne : items.isEmpty = false) (h2 : 2 ≤ k) (h3 : k ≤ 1000) (hsz : items.size * k.toNat ≤ 100000) :
  Meets (Builtin.«tuple.__mul__» ⟨[.ref l,.int k u],[]⟩) (fun _ R s=>s.heap.get? l = some { cls:=.type "tuple",dict:=dd,data:=.seq items n,slots:=sl } ∧ R (.ok (.ret (.ref s.heap.objs.size))) { s with heap:=s.heap.push { cls:=.type "tuple",data:=.seq (List.foldl (fun x1 x2=>x1 ++ x2) #[] (List.replicate k.toNat items)) } }) :=
 .of_wp fun prog w A R s h=>by
  obtain ⟨hp,g,d,tk,os⟩:=s; obtain ⟨hl,h⟩:=h
  have f1:=AutoSeq1.idx_int
  have c1 : (decide (k < -(2 ^ 63)) || decide (k ≥ 2 ^ 63)) = false:=by simp; omega
  have c2 : (items.isEmpty || k == 1) = false:=by rw [hne]; simp; omega
  have c3 : (decide (k ≤ 0) || items.isEmpty) = false:=by rw [hne]; simp; omega
  obtain ⟨m,rfl⟩:=Int.eq_ofNat_of_zero_le (show 0 ≤ k by omega)
  have hs : (items.size : Int) * (m : Int) = ((items.size * m : Nat) : Int):=by push_cast; rfl
  have hsz' : items.size * m ≤ 100000:=by simpa using hsz
  have c4 : ¬ ((items.size : Int) * (m : Int) > (2 ^ 63 - 1) / 8):=by rw [hs]; omega
  have c5 : Builtin.Tuple.tupleTooMany ((items.size : Int) * (m : Int)) = false:=by
   rw [hs]
   unfold Builtin.Tuple.tupleTooMany
   simp [sizeLine]
   omega
  wp_walk
  refine wpAny_ite_false (decide_eq_false (by rw [c1]; decide)) ?_
  wp_walk
  refine wpAny_ite_false (decide_eq_false (by rw [c2]; decide)) ?_
  wp_walk
  refine wpAny_ite_false (decide_eq_false (by rw [c3]; decide)) ?_
  try dsimp only
  refine wpAny_ite_false (decide_eq_false c4) ?_
  try dsimp only
  refine wpAny_ite_false (decide_eq_false (by rw [c5]; decide)) ?_
  try dsimp only
  refine wpAny_bind ?_
  unfold Builtin.Tuple.tupleExact
  refine wpAny_newObj_type ?_ ?_
  ·exact wpAny_pure ⟨_,rfl,h⟩
  ·show (List.foldl (fun x1 x2=>x1 ++ x2) #[] (List.replicate ((m : Nat) : Int).toNat items)).size ≤ sizeLine
   rw [AutoListH.size_joined]
   have : 100000 ≤ sizeLine:=by decide
   rw [Nat.mul_comm] at hsz'
   simp
   omega
end L2
namespace DL
open PySem PySem.Spec L2
noncomputable def jwq (K : PySem.W.Frag) : R2:=fun x y H Q=>∃ l k xs,x = .ref l ∧ y = .int k ∧ SqT K H l xs ∧ xs ≠ [] ∧ 1 ≤ k ∧ k ≤ 1000 ∧ xs.length * k.toNat ≤ 100000 ∧ (k = 1 → Q (.ref l) H) ∧ (k ≠ 1 → ∀ p,H p = none → Q (.ref p) (upd H p (.tup (List.replicate k.toNat xs).flatten)))
section
variable {X : Cx} {O O' B : List Nat} {E : XK} {a b c e : Expr} {es : List Expr} {fa fb fc : DSt → M D} {fl : DSt → M (List D)} {pos : Pos}
theorem jta : OpR X (binaryOp .Mult) (jwq X.K):=by
 intro pins s σ H x y v u Q I rx ry h
 obtain ⟨l,k,xs,rfl,rfl,hH,hne,h1,h2,hz,q1,q2⟩:=h
 cases rx
 obtain ⟨t,rfl⟩:=ry
 obtain ⟨its,r,⟨⟨cls,dd,data,sl⟩,e,hc,n,hd⟩,_⟩:=I.tuple hH
 simp only at hc hd
 subst hc hd
 have l1:=r.length
 have hne' : its.toArray.isEmpty = false:=by
  cases its with
  | nil=>exact absurd (List.length_eq_zero_iff.mp l1) hne
  | cons _ _=>rfl
 have hlen : its.toArray.size * k.toNat ≤ 100000:=by rw [List.size_toArray,← l1]; exact hz
 have hnew : List.foldl (fun x1 x2=>x1 ++ x2) #[] (List.replicate k.toNat its.toArray) = (List.replicate k.toNat its).flatten.toArray:=by
  have:=ji5 its k.toNat []
  rw [List.nil_append] at this
  exact this
 refine wpAny_binaryOp_repeat_ref (T:="tuple") (U:="int") (by decide) ⟨_,e,rfl⟩ (fun s'=>typeIs_int s' k t) jgb F.fills_int_mul F.slot_int_rmul jjv F.slot_int_index.lookup
  (call_meets F.slot_int_rmul (typeIs_int s k t) F.entry_int_rmul (F.args_int_rmul_2 _ _) (jhg k t l its.toArray n dd sl)
   ⟨e,rfl,⟨_,e,rfl⟩,?_⟩)
 by_cases hk : k = 1
 ·subst hk
  exact call_meets F.slot_tuple_mul ⟨_,e,rfl⟩ F.entry_tuple_mul (F.args_tuple_mul_2 _ _) (jmr l its.toArray n t dd sl hne') ⟨e,.ref l,H,I,rfl,q1 rfl⟩
 ·refine call_meets F.slot_tuple_mul ⟨_,e,rfl⟩ F.entry_tuple_mul (F.args_tuple_mul_2 _ _) (jms l its.toArray n k t dd sl hne' (by omega) h2 hlen) ⟨e,?_⟩
  rw [hnew]
  refine ⟨.ref s.heap.objs.size,_,I.laid (t':=s.toks) (o:=.tup (List.replicate k.toNat xs).flatten) (fun b ob q=>Heap.get?_push_of_some _ q) (Nat.le_refl _) ?_,rfl,q2 hk _ (I.hok.fresh (Nat.le_refl _))⟩
  refine ⟨?_,_,r.rep k.toNat,PyProof.Rows.IsTup.new _ _⟩
  rw [jsn,Nat.mul_comm]
  have : 100000 ≤ sizeLine:=by decide
  omega
noncomputable def jcw : D → D → Option D
 | .tup xs,.int k=>if xs ≠ [] ∧ 1 ≤ k ∧ k ≤ 1000 ∧ xs.length * k.toNat ≤ 100000 then some (.tup (List.replicate k.toNat xs).flatten) else none
 | x,y=>gMul x y
noncomputable def jwp (K : PySem.W.Frag) : R2:=fun x y H Q=>(rI (fun i j=>(je1 i && je1 j) = true) (fun i j=>.int (i * j)) x y H Q ∨ ∃ z n,x = .str z ∧ y = .int n ∧ (z.length ≤ 4096 ∧ -4096 ≤ n ∧ n ≤ 4096) ∧ Q (.str (Txt.mul z n)) H) ∨ jwq K x y H Q
theorem jct : OpR X (binaryOp .Mult) (jwp X.K):=op_mulD.or jta
theorem jb3 : OpD X.K jcw (jwp X.K):=by
 intro x y d hd ρ H G u v Q hG ru rv k
 unfold jcw at hd
 split at hd
 ·split at hd
  ·rename_i hz
   cases hd
   obtain ⟨l,xs,rfl,q1,q2⟩:=rep_tup.mp ru
   have n1 : xs ≠ []:=fun z=>by have:=q2.length; rw [z] at this; exact hz.1 (List.length_eq_zero_iff.mp this.symm)
   refine .inr ⟨l,_,xs,rfl,rep_int.mp rv,jc9 jam q1,n1,hz.2.1,hz.2.2.1,by rw [q2.length]; exact hz.2.2.2,fun e=>?_,fun _ p hp=>k _ _ (jaz hp) (jbw hp (hG p hp) (q2.rep _))⟩
   subst e
   refine k _ H (Same.refl H) ?_
   simpa using ru
  ·cases hd
 ·exact .inl (jtb (X:=X) x y d hd ρ H G u v Q hG ru rv k)
end
end DL
namespace L2
open PySem PySem.Spec PyProof.Rows
noncomputable abbrev xOb (C : Addr) (od : Option Addr) (vs : Array Value) (sl : Array (Option Value)) : Obj:=⟨.ref C,od,.fields vs,sl⟩
noncomputable def XO (a C : Addr) (od : Option Addr) (f : Bool) : HO:=.ext fun h=>∃ vs sl,h.get? a = some (xOb C od vs sl) ∧ (f = true → vs[1]? = some .none)
inductive XDv (a : Addr) (fs : List (Str × V)) (h : Heap) : Prop
 | mk (mA : Str → Option Value) (hn : h.Ns1 a mA) (hr : ∀ f,RelO (fs.lookup f) (mA f)) (hw : PySem.Within mA (fs.map (·.1))) (hl : fs.length ≤ 1000)
noncomputable def XDc (a : Addr) (fs : List (Str × V)) : HO:=.ext (XDv a fs)
theorem jxg {a C : Addr} {od : Option Addr} {f : Bool} {xs : List V} : XO a C od f ≠ .tup xs:=fun z=>by unfold XO at z; cases z
theorem jy8 {a : Addr} {fs : List (Str × V)} {xs : List V} : XDc a fs ≠ .tup xs:=fun z=>by unfold XDc at z; cases z
end L2
namespace DL
open PySem PySem.Spec L2
inductive SO where
 | ins (c : Str) (fs : List (Str × D)) | lst (ds : List D) | tab (x : Str) (l c : Nat) (q : Str) | dct (kvs : List (List Int × D)) | exc (c : Str) (j : Option Nat × Bool) | xd (fs : List (Str × D))
noncomputable abbrev Sto:=List SO
noncomputable abbrev MS (α : Type):=Sto → Option (Except XD α × Sto)
noncomputable def MS.b {α β : Type} (m : MS α) (f : α → MS β) : MS β:=fun Ω=>match m Ω with
 | none=>none
 | some (.error x,Ω')=>some (.error x,Ω')
 | some (.ok a,Ω')=>f a Ω'
noncomputable def MS.p {α : Type} (a : α) : MS α:=fun Ω=>some (.ok a,Ω)
noncomputable def MS.l {α : Type} (m : M α) : MS α:=fun Ω=>m.map fun r=>(r,Ω)
noncomputable def MS.o {α : Type} (m : Option α) : MS α:=fun Ω=>m.map fun r=>(.ok r,Ω)
inductive MS.BInv {α β : Type} (m : MS α) (f : α → MS β) (Ω Ω' : Sto) (r : Except XD β) : Prop
 | ok (a : α) (Ω1 : Sto) (h1 : m Ω = some (.ok a,Ω1)) (h2 : f a Ω1 = some (r,Ω'))
 | err (x : XD) (h1 : m Ω = some (.error x,Ω')) (h2 : r = .error x)
theorem MS.b_inv {α β : Type} {m : MS α} {f : α → MS β} {Ω Ω' : Sto} {r : Except XD β} (h : m.b f Ω = some (r,Ω')) : MS.BInv m f Ω Ω' r:=by
 unfold MS.b at h
 cases e : m Ω with
 | none=>rw [e] at h; cases h
 | some p =>
  rw [e] at h
  obtain ⟨q,Ω1⟩:=p
  cases q with
  | error x=>cases h; exact .err x e rfl
  | ok a=>exact .ok a Ω1 e h
theorem MS.l_inv {α : Type} {m : M α} {Ω Ω' : Sto} {r : Except XD α} (h : MS.l m Ω = some (r,Ω')) : m = some r ∧ Ω' = Ω:=by
 unfold MS.l at h
 cases e : m with
 | none=>rw [e] at h; cases h
 | some p=>rw [e] at h; cases h; exact ⟨rfl,rfl⟩
theorem MS.o_inv {α : Type} {m : Option α} {Ω Ω' : Sto} {r : Except XD α} (h : MS.o m Ω = some (r,Ω')) : ∃ a,m = some a ∧ r = .ok a ∧ Ω' = Ω:=by
 unfold MS.o at h
 cases e : m with
 | none=>rw [e] at h; cases h
 | some p=>rw [e] at h; cases h; exact ⟨p,rfl,rfl,rfl⟩
@[simp] theorem MS.b_p {α β : Type} (a : α) (f : α → MS β) : (MS.p a).b f = f a:=rfl
theorem MS.b_ok {α β : Type} {m : MS α} {f : α → MS β} {Ω Ω1 : Sto} {a : α} (h : m Ω = some (.ok a,Ω1)) : m.b f Ω = f a Ω1:=by unfold MS.b; rw [h]
noncomputable def RLe (ρ ρ' : Rho) : Prop:=∀ i a,ρ i = some a → ρ' i = some a
theorem RLe.refl (ρ : Rho) : RLe ρ ρ:=fun _ _ h=>h
theorem RLe.trans {ρ ρ' ρ'' : Rho} (a : RLe ρ ρ') (b : RLe ρ' ρ'') : RLe ρ ρ'':=fun i x h=>b i x (a i x h)
section
variable {ρ ρ' : Rho} {K : PySem.W.Frag} {H H' : Hp}
mutual
theorem Rep.rho (e : RLe ρ ρ') : ∀ {d : D} {v : V},Rep ρ K H d v → Rep ρ' K H d v
 | .non,_,h=>by unfold Rep at h ⊢; exact h
 | .bl _,_,h=>by unfold Rep at h ⊢; exact h
 | .int _,_,h=>by unfold Rep at h ⊢; exact h
 | .str _,_,h=>by unfold Rep at h ⊢; exact h
 | .ty _,_,h=>by unfold Rep at h ⊢; exact h
 | .obj _,_,h=>by
  unfold Rep at h ⊢
  obtain ⟨a,q1,q2⟩:=h
  exact ⟨a,e _ _ q1,q2⟩
 | .tup _,_,h=>by
  unfold Rep at h ⊢
  obtain ⟨a,xs,q1,q2,q3⟩:=h
  exact ⟨a,xs,q1,q2,Reps.rho e q3⟩
 | .lst _,_,h=>by
  unfold Rep at h ⊢
  obtain ⟨a,xs,q1,q2,q3⟩:=h
  exact ⟨a,xs,q1,q2,Reps.rho e q3⟩
theorem Reps.rho (e : RLe ρ ρ') : ∀ {ds : List D} {vs : List V},Reps ρ K H ds vs → Reps ρ' K H ds vs
 | [],_,h=>by unfold Reps at h ⊢; exact h
 | _ :: _,_,h=>by
  unfold Reps at h ⊢
  obtain ⟨v,vs,q1,q2,q3⟩:=h
  exact ⟨v,vs,q1,Rep.rho e q2,Reps.rho e q3⟩
end
noncomputable def putD (f : Str) (d : D) : List (Str × D) → List (Str × D)
 | []=>[(f,d)]
 | (g,x) :: r=>if g = f then (g,d) :: r else (g,x) :: putD f d r
noncomputable def Flds (ρ : Rho) (K : PySem.W.Frag) (H : Hp) : List (Str × D) → List (Str × V) → Prop
 | [],vs=>vs = []
 | (f,d) :: fs,vs=>∃ v r,vs = (f,v) :: r ∧ Rep ρ K H d v ∧ Flds ρ K H fs r
theorem Flds.mono (e : RLe ρ ρ') (s : Same H H') : ∀ {fs : List (Str × D)} {vs : List (Str × V)},Flds ρ K H fs vs → Flds ρ' K H' fs vs
 | [],_,h=>h
 | (f,d) :: fs,_,⟨v,r,q1,q2,q3⟩=>⟨v,r,q1,(q2.rho e).mono s,Flds.mono e s q3⟩
theorem Flds.length : ∀ {fs : List (Str × D)} {vs : List (Str × V)},Flds ρ K H fs vs → vs.length = fs.length
 | [],_,h=>by cases h; rfl
 | (f,d) :: fs,_,⟨v,r,q1,q2,q3⟩=>by subst q1; simp [Flds.length q3]
theorem Flds.get : ∀ {fs : List (Str × D)} {vs : List (Str × V)} {f : Str} {d : D},Flds ρ K H fs vs → fs.lookup f = some d → ∃ v,vs.lookup f = some v ∧ Rep ρ K H d v
 | [],_,_,_,_,e=>by cases e
 | (g,x) :: fs,_,f,d,⟨v,r,q1,q2,q3⟩,e=>by
  subst q1
  simp only [List.lookup_cons] at e ⊢
  cases h : f == g with
  | true=>rw [h] at e; cases e; exact ⟨v,rfl,q2⟩
  | false=>rw [h] at e; exact Flds.get q3 e
theorem Flds.none : ∀ {fs : List (Str × D)} {vs : List (Str × V)} {f : Str},Flds ρ K H fs vs → fs.lookup f = Option.none → vs.lookup f = Option.none
 | [],_,_,h,_=>by cases h; rfl
 | (g,x) :: fs,_,f,⟨v,r,q1,q2,q3⟩,e=>by
  subst q1
  simp only [List.lookup_cons] at e ⊢
  cases h : f == g with
  | true=>rw [h] at e; cases e
  | false=>rw [h] at e; exact Flds.none q3 e
theorem Flds.put {f : Str} {d : D} {v : V} (hr : Rep ρ K H d v) : ∀ {fs : List (Str × D)} {vs : List (Str × V)},Flds ρ K H fs vs → Flds ρ K H (putD f d fs) (putF f v vs)
 | [],_,h=>by cases h; exact ⟨v,[],rfl,hr,rfl⟩
 | (g,x) :: fs,_,⟨u,r,q1,q2,q3⟩=>by
  subst q1
  unfold putD putF
  by_cases h : g = f
  ·rw [if_pos h,if_pos h]; exact ⟨v,r,rfl,hr,q3⟩
  ·rw [if_neg h,if_neg h]; exact ⟨u,_,rfl,q2,Flds.put hr q3⟩
end
inductive InsOk (ρ : Rho) (S : Addr → Bool) (K : PySem.W.Frag) (mg : Str → Option Value) (H Hv : Hp) (a : Addr) (c : Str) (fs : List (Str × D)) : Prop
 | mk (C dx : Addr) (vfs : List (Str × V)) (h1 : mg c = some (.ref C)) (h2 : H a = some (.ins C dx vfs)) (h3 : H dx = some (.own a)) (h4 : S dx = true) (h5 : Flds ρ K Hv fs vfs)
inductive TabOf (K : PySem.W.Frag) (mg : Str → Option Value) (x : Str) (a : Addr) : Prop
 | mk (f c bm : Addr) (oc : Value) (od : Option Addr) (fd : FuncData) (osl : Array (Option Value)) (ob : Obj) (h1 : mg x = some (.ref f)) (h2 : K.lookup f = some ⟨oc,od,.func fd,osl⟩) (h3 : fd.code = .ref c) (h4 : PySem.W.codeHdIn K c a = true)
   (h5 : mg "__builtins__" = some (.ref bm)) (h6 : bm ≠ builtinsNs) (h7 : K.lookup bm = some ob) (h8 : ob.cls = .type "module") (h9 : ob.dict = some builtinsNs) (h10 : ob.data = .plain)
inductive TabG (Hv : Hp) (l c : Nat) (q : Str) (ps : Array Value) : Prop
 | nil (h : ps = #[])
 | one (c' : Addr) (o : Obj) (vs : Array Value) (t : Tok) (h : ps = #[rawInt l,rawInt c,.ref c']) (h1 : Hv c' = some (.frz o (.own 0))) (h2 : o.data = .fields vs) (h3 : vs[1]? = some (.str q t))
theorem TabG.mono {Hv Hv' : Hp} {l c : Nat} {q : Str} {ps : Array Value} (s : Same Hv Hv') : TabG Hv l c q ps → TabG Hv' l c q ps
 | .nil h=>.nil h
 | .one c' o vs t h h1 h2 h3=>.one c' o vs t h (s _ _ h1) h2 h3
inductive TabOk (K : PySem.W.Frag) (mg : Str → Option Value) (H Hv : Hp) (a : Addr) (x : Str) (l c : Nat) (q : Str) : Prop
 | mk (ps : Array Value) (h1 : H a = some (.tbl ps)) (h2 : TabOf K mg x a) (h3 : TabG Hv l c q ps)
inductive ExcOk (ρ : Rho) (mg : Str → Option Value) (H : Hp) (a : Addr) (c : Str) : Option Nat × Bool → Prop
 | no (f : Bool) (C : Addr) (h1 : mg c = some (.ref C)) (h2 : H a = some (XO a C none f)) : ExcOk ρ mg H a c (none,f)
 | yes (f : Bool) (j : Nat) (C dx : Addr) (h1 : mg c = some (.ref C)) (h2 : ρ j = some dx) (h3 : H a = some (XO a C (some dx) f)) : ExcOk ρ mg H a c (some j,f)
theorem ExcOk.mono {ρ ρ' : Rho} {mg : Str → Option Value} {H H' : Hp} {a : Addr} {c : Str} {j : Option Nat × Bool} (l : ∀ i b,ρ i = some b → ρ' i = some b) (e : H' a = H a) (h : ExcOk ρ mg H a c j) : ExcOk ρ' mg H' a c j:=by
 cases h with
 | no f C h1 h2=>exact .no f C h1 (by rw [e]; exact h2)
 | yes f j C dx h1 h2 h3=>exact .yes f j C dx h1 (l _ _ h2) (by rw [e]; exact h3)
noncomputable def SOk (ρ : Rho) (S : Addr → Bool) (K : PySem.W.Frag) (mg : Str → Option Value) (H Hv : Hp) (a : Addr) : SO → Prop
 | .ins c fs=>InsOk ρ S K mg H Hv a c fs
 | .lst ds=>∃ xs,H a = some (.lst xs) ∧ Reps ρ K Hv ds xs
 | .tab x l c q=>TabOk K mg H Hv a x l c q
 | .exc c j=>ExcOk ρ mg H a c j
 | .xd fs=>∃ vfs,H a = some (XDc a vfs) ∧ Flds ρ K Hv fs vfs
 | .dct kvs=>∃ vk : List (List Key × V),H a = some (.dT vk) ∧ vk.map (·.1) = kvs.map (fun p=>p.1.map Sum.inl) ∧ Reps ρ K Hv (kvs.map (·.2)) (vk.map (·.2))
inductive AtOk (ρ : Rho) (S : Addr → Bool) (K : PySem.W.Frag) (mg : Str → Option Value) (H Hv : Hp) (i : Nat) (so : SO) : Prop
 | mk (a : Addr) (h1 : ρ i = some a) (h2 : S a = true) (h3 : SOk ρ S K mg H Hv a so)
noncomputable def TV (H Hv : Hp) : Prop:=∀ b xs,H b = some (.tup xs) → Hv b = some (.tup xs)
theorem jj5 {H Hv : Hp} {a : Addr} {o : HO} (t : TV H Hv) (ho : ∀ xs,o ≠ .tup xs) : TV (upd H a o) Hv:=fun b xs q=>by
 by_cases hb : b = a
 ·subst hb
  rw [jak] at q
  cases q
  exact absurd rfl (ho xs)
 ·rw [jai hb] at q
  exact t b xs q
theorem jt6 {H Hv Hv' : Hp} (t : TV H Hv) (v : Same Hv Hv') : TV H Hv':=fun b xs q=>v b _ (t b xs q)
theorem jt5 {H H' : Hp} {F : Addr → Bool} (t : TV H (hid H F)) (fr : ∀ b,H b = none → F b = false) (e : Same H H') : TV H' (hid H' F):=fun b xs q=>by
 cases z : H b with
 | none=>exact hid_some.mpr ⟨fr b z,q⟩
 | some o =>
  have:=e b o z
  rw [q] at this
  cases this
  exact jaq e b _ (t b xs z)
structure StoOk (ρ : Rho) (S : Addr → Bool) (K : PySem.W.Frag) (mg : Str → Option Value) (H Hv : Hp) (Ω : Sto) : Prop where
 ats : ∀ (i : Nat) so,Ω[i]? = some so → AtOk ρ S K mg H Hv i so
 inj : ∀ i j a,ρ i = some a → ρ j = some a → i = j
 top : ∀ i,Ω.length ≤ i → ρ i = none
 fin : ∀ b,S b = true → H b ≠ none
 tv : TV H Hv
noncomputable abbrev nof : Addr → Bool:=fun _=>false
noncomputable def un (F S : Addr → Bool) : Addr → Bool:=fun b=>F b || S b
theorem un_t {F S : Addr → Bool} {b : Addr} : un F S b = true ↔ F b = true ∨ S b = true:=by unfold un; rw [Bool.or_eq_true]
theorem un_f {F S : Addr → Bool} {b : Addr} : un F S b = false ↔ F b = false ∧ S b = false:=by unfold un; rw [Bool.or_eq_false_iff]
section
variable {ρ ρ' : Rho} {S S' : Addr → Bool} {K : PySem.W.Frag} {mg : Str → Option Value} {H H' Hv Hv' : Hp} {Ω Ω' : Sto}
theorem SOk.mono {a : Addr} {so : SO} (hs : S a = true) (e : ∀ b,S b = true → H' b = H b) (v : Same Hv Hv') (h : SOk ρ S K mg H Hv a so) : SOk ρ S K mg H' Hv' a so:=by
 cases so with
 | ins c fs =>
  obtain ⟨C,dx,vfs,q1,q2,q3,q4,q5⟩:=h
  exact ⟨C,dx,vfs,q1,by rw [e a hs]; exact q2,by rw [e dx q4]; exact q3,q4,q5.mono (RLe.refl _) v⟩
 | lst ds =>
  obtain ⟨xs,q1,q2⟩:=h
  exact ⟨xs,by rw [e a hs]; exact q1,q2.mono v⟩
 | tab x l c q =>
  obtain ⟨ps,q1,q2,q3⟩:=h
  exact ⟨ps,by rw [e a hs]; exact q1,q2,q3.mono v⟩
 | dct kvs =>
  obtain ⟨vk,q1,q2,q3⟩:=h
  exact ⟨vk,by rw [e a hs]; exact q1,q2,q3.mono v⟩
 | exc c j=>exact ExcOk.mono (fun _ _ z=>z) (e a hs) h
 | xd fs =>
  obtain ⟨vfs,q1,q2⟩:=h
  exact ⟨vfs,by rw [e a hs]; exact q1,q2.mono (RLe.refl _) v⟩
theorem StoOk.mono (h : StoOk ρ S K mg H Hv Ω) (e : ∀ b,S b = true → H' b = H b) (v : Same Hv Hv') (t : TV H' Hv') : StoOk ρ S K mg H' Hv' Ω :=
 ⟨fun i so hi=>let ⟨a,q1,q2,q3⟩:=h.ats i so hi; ⟨a,q1,q2,q3.mono q2 e v⟩,h.inj,h.top,fun b hb=>by rw [e b hb]; exact h.fin b hb,t⟩
end
structure RM (ρ₀ : Rho) (S₀ : Addr → Bool) (H₀ : Hp) (F : Addr → Bool) (K : PySem.W.Frag) (mg : Str → Option Value) (O : List Nat) (ρ : Rho) (S : Addr → Bool) (H : Hp) (σ : St) (δ : DSt) (Ω : Sto) : Prop where
 rs : RS ρ K (hid H (fob nof σ O)) H (un F S) O σ δ
 rho : RLe ρ₀ ρ
 same : ∀ b o,S₀ b = false → H₀ b = some o → H b = some o
 old : ∀ b,S₀ b = true → S b = true
 new : ∀ b,S b = true → S₀ b = true ∨ H₀ b = none
 own0 : ∀ i ∈ O,∀ a,σ[i]? = some (some (.ref a)) → H₀ a = none
 ff : ∀ b,F b = true → S b = false
 sto : StoOk ρ S K mg H (hid H (fob (un F S) σ O)) Ω
section
variable {ρ₀ ρ : Rho} {S₀ S F : Addr → Bool} {H₀ H1 H H' : Hp} {K : PySem.W.Frag} {mg : Str → Option Value} {O O' : List Nat} {σ σ' : St} {δ δ' : DSt} {Ω : Sto}
theorem RS.rebase (R : RS ρ K H1 H F O σ δ) : RS ρ K (hid H (fob nof σ O)) H F O σ δ :=
 ⟨R.len,jam,R.fin,R.val,fun i hi=>by
  obtain ⟨a,xs,ds,q1,q2,q3,q4,q5⟩:=R.own i hi
  refine ⟨a,xs,ds,q1,q2,q3,⟨?_,q4.2⟩,q5⟩
  unfold hid
  rw [if_pos (fob_t.mpr (.inr ⟨i,hi,q2⟩))],R.nd⟩
theorem RM.at_store (R : RM ρ₀ S₀ H₀ F K mg O ρ S H σ δ Ω) (e : Same H H') : ∀ b,S b = true → H' b = H b:=fun b hb=>by
 cases q : H b with
 | none=>exact absurd q (R.sto.fin b hb)
 | some o=>exact e b o q
theorem RM.mono (R : RM ρ₀ S₀ H₀ F K mg O ρ S H σ δ Ω) (e : Same H H') : RM ρ₀ S₀ H₀ F K mg O ρ S H' σ δ Ω :=
 ⟨(R.rs.mono e).rebase,R.rho,fun b o h1 h2=>e b o (R.same b o h1 h2),R.old,R.new,R.own0,R.ff,R.sto.mono (R.at_store e) (jaq e) (jt5 R.sto.tv (fun _ h=>R.rs.fresh h) e)⟩
theorem RM.fresh (R : RM ρ₀ S₀ H₀ F K mg O ρ S H σ δ Ω) {p : Addr} (h : H p = none) : fob (un F S) σ O p = false:=R.rs.fresh h
theorem RM.fresh0 (R : RM ρ₀ S₀ H₀ F K mg O ρ S H σ δ Ω) {p : Addr} (h : H p = none) : H₀ p = none ∨ S₀ p = true:=by
 cases e : S₀ p with
 | true=>exact .inr rfl
 | false =>
  cases e0 : H₀ p with
  | none=>exact .inl rfl
  | some o=>rw [R.same p o e e0] at h; cases h
theorem RM.noS (R : RM ρ₀ S₀ H₀ F K mg O ρ S H σ δ Ω) {p : Addr} (h : H p = none) : S p = false:=by
 cases e : S p with
 | false=>rfl
 | true=>exact absurd h (R.sto.fin p e)
theorem RM.fresh00 (R : RM ρ₀ S₀ H₀ F K mg O ρ S H σ δ Ω) {p : Addr} (h : H p = none) : H₀ p = none:=by
 rcases R.fresh0 h with q | q
 ·exact q
 ·have:=R.noS h
  rw [R.old p q] at this; cases this
theorem RM.set (R : RM ρ₀ S₀ H₀ F K mg O ρ S H σ δ Ω) {i : Nat} {d : D} {v : V} (ho : i ∉ O) (hr : Rep ρ K (hid H (fob (un F S) σ O)) d v) : RM ρ₀ S₀ H₀ F K mg O ρ S H (σ.set i (some v)) (δ.set i (some d)) Ω:=by
 refine ⟨(R.rs.set ho hr).rebase,R.rho,R.same,R.old,R.new,fun j hj a q=>?_,R.ff,by rw [jb4 ho]; exact R.sto⟩
 rw [List.getElem?_set_ne (by rintro rfl; exact ho hj)] at q
 exact R.own0 j hj a q
end
end DL
namespace DL
open PySem PySem.Spec L2
inductive tE (K : PySem.W.Frag) (mg : Str → Option Value) (O : List Nat) (f : DSt → MS D) (σ : St) (H : Hp) (Q : VK) : Prop
 | mk (ρ₀ : Rho) (S₀ : Addr → Bool) (H₀ : Hp) (F : Addr → Bool) (ρ : Rho) (S : Addr → Bool) (δ : DSt) (Ω : Sto) (R : RM ρ₀ S₀ H₀ F K mg O ρ S H σ δ Ω) (r : Except XD D) (Ω' : Sto) (hf : f δ Ω = some (r,Ω')) (k : match (generalizing:=false) r with
  | .ok d=>∀ v ρ' S' H',RM ρ₀ S₀ H₀ F K mg O ρ' S' H' σ δ Ω' → RLe ρ ρ' → Same (hid H (fob (un F S) σ O)) (hid H' (fob (un F S') σ O)) → Rep ρ' K (hid H' (fob (un F S') σ O)) d v → Q v H'
  | .error _=>True)
noncomputable def ME (X : Cx) (O : List Nat) (e : Expr) (f : DSt → MS D) : Prop:=PE X e (tE X.K X.mg O f)
inductive tEB (K : PySem.W.Frag) (mg : Str → Option Value) (O : List Nat) (f : DSt → MS Bool) (σ : St) (H : Hp) (Q : Bool → Hp → Prop) : Prop
 | mk (ρ₀ : Rho) (S₀ : Addr → Bool) (H₀ : Hp) (F : Addr → Bool) (ρ : Rho) (S : Addr → Bool) (δ : DSt) (Ω : Sto) (R : RM ρ₀ S₀ H₀ F K mg O ρ S H σ δ Ω) (r : Except XD Bool) (Ω' : Sto) (hf : f δ Ω = some (r,Ω')) (k : match (generalizing:=false) r with
  | .ok d=>∀ ρ' S' H',RM ρ₀ S₀ H₀ F K mg O ρ' S' H' σ δ Ω' → RLe ρ ρ' → Same (hid H (fob (un F S) σ O)) (hid H' (fob (un F S') σ O)) → Q d H'
  | .error _=>True)
noncomputable def MT (X : Cx) (O : List Nat) (e : Expr) (f : DSt → MS Bool) : Prop:=PT X e (tEB X.K X.mg O f)
noncomputable def MW (X : Cx) (O : List Nat) (e : Expr) (f : DSt → MS Bool) : Prop:=PW X e (tEB X.K X.mg O f)
inductive tEL (K : PySem.W.Frag) (mg : Str → Option Value) (O : List Nat) (f : DSt → MS (List D)) (σ : St) (H : Hp) (Q : List V → Hp → Prop) : Prop
 | mk (ρ₀ : Rho) (S₀ : Addr → Bool) (H₀ : Hp) (F : Addr → Bool) (ρ : Rho) (S : Addr → Bool) (δ : DSt) (Ω : Sto) (R : RM ρ₀ S₀ H₀ F K mg O ρ S H σ δ Ω) (r : Except XD (List D)) (Ω' : Sto) (hf : f δ Ω = some (r,Ω')) (k : match (generalizing:=false) r with
  | .ok ds=>∀ vs ρ' S' H',RM ρ₀ S₀ H₀ F K mg O ρ' S' H' σ δ Ω' → RLe ρ ρ' → Same (hid H (fob (un F S) σ O)) (hid H' (fob (un F S') σ O)) → Reps ρ' K (hid H' (fob (un F S') σ O)) ds vs → Q vs H'
  | .error _=>True)
noncomputable def MA (X : Cx) (O : List Nat) (es : List Expr) (f : DSt → MS (List D)) : Prop:=PA X es (tEL X.K X.mg O f)
noncomputable def lF {α : Type} (f : DSt → M α) : DSt → MS α:=fun δ=>MS.l (f δ)
noncomputable def jc7 (f : DSt → MS D) (g : DSt → MS (List D)) : DSt → MS (List D):=fun δ=>(f δ).b fun x=>(g δ).b fun xs=>MS.p (x :: xs)
noncomputable def m2 (g : D → D → Option D) (fa fb : DSt → MS D) : DSt → MS D:=fun δ=>(fa δ).b fun x=>(fb δ).b fun y=>MS.o (g x y)
noncomputable def m1 (g : D → Option D) (fa : DSt → MS D) : DSt → MS D:=fun δ=>(fa δ).b fun x=>MS.o (g x)
noncomputable def mL (k : List D → Option D) (g : DSt → MS (List D)) : DSt → MS D:=fun δ=>(g δ).b fun xs=>MS.o (k xs)
noncomputable def mTru (fa : DSt → MS D) : DSt → MS Bool:=fun δ=>(fa δ).b fun x=>MS.o (truD x)
noncomputable def mNot (ta : DSt → MS Bool) : DSt → MS Bool:=fun δ=>(ta δ).b fun x=>MS.p !x
noncomputable def mOr (ta tb : DSt → MS Bool) : DSt → MS Bool:=fun δ=>(ta δ).b fun x=>if x = true then MS.p true else tb δ
noncomputable def getO (cs : List Str) (f : Str) : D → MS D:=fun x Ω=>match x with
 | .obj i=>match Ω[i]? with
  | some (.ins c fs)=>if cs.contains c then (fs.lookup f).map fun d=>(.ok d,Ω) else none
  | _=>none
 | _=>none
noncomputable def mGet (cs : List Str) (f : Str) (fa : DSt → MS D) : DSt → MS D:=fun δ=>(fa δ).b fun x=>getO cs f x
section
variable {X : Cx} {O : List Nat} {a b c e : Expr} {es : List Expr} {fa fb fc : DSt → MS D} {fl : DSt → MS (List D)} {pos : Pos} {ta tb tc : DSt → MS Bool}
theorem jau {f : DSt → M D} (h : DE X O E0 e f) : ME X O e (lF f):=by
 rintro pins s σ H Q I ⟨ρ₀,S₀,H₀,F,ρ,S,δ,Ω,R,r,Ω',hf,k⟩
 obtain ⟨hg,rfl⟩:=MS.l_inv hf
 refine h pins s σ H Q I ⟨ρ,_,un F S,δ,r,R.rs,hg,?_⟩
 cases r with
 | ok d=>exact fun v H' s' rv=>k v ρ S H' (R.mono s') (RLe.refl _) (jaq s') rv
 | error x=>exact fun c dx H' _ z=>z.elim
theorem jn3 {f : DSt → M Bool} (h : DT X O E0 e f) : MT X O e (lF f):=by
 rintro pins s σ H Q I ⟨ρ₀,S₀,H₀,F,ρ,S,δ,Ω,R,r,Ω',hf,k⟩
 obtain ⟨hg,rfl⟩:=MS.l_inv hf
 refine h pins s σ H Q I ⟨ρ,_,un F S,δ,r,R.rs,hg,?_⟩
 cases r with
 | ok d=>exact fun H' s'=>k ρ S H' (R.mono s') (RLe.refl _) (jaq s')
 | error x=>exact fun c dx H' _ z=>z.elim
theorem jbu {f : DSt → M (List D)} (h : DA X O E0 es f) : MA X O es (lF f):=by
 rintro p pins s σ H Q I ⟨ρ₀,S₀,H₀,F,ρ,S,δ,Ω,R,r,Ω',hf,k⟩
 obtain ⟨hg,rfl⟩:=MS.l_inv hf
 refine h p pins s σ H Q I ⟨ρ,_,un F S,δ,r,R.rs,hg,?_⟩
 cases r with
 | ok d=>exact fun v H' s' rv=>k v ρ S H' (R.mono s') (RLe.refl _) (jaq s') rv
 | error x=>exact fun c dx H' _ z=>z.elim
theorem jdk (ha : ME X O e fa) (hr : MA X O es fl) (hs : autoParam (starEach (e :: es) X.env = (false,eval e X.env) :: starEach es X.env) zau2._auto_1) : MA X O (e :: es) (jc7 fa fl):=by
 rintro p pins s σ H Q I ⟨ρ₀,S₀,H₀,F,ρ,S,δ,Ω,R,r,Ω',hf,k⟩
 refine jf4 ha hr hs p pins s σ H Q I ?_
 rcases MS.b_inv hf with ⟨x,Ω1,e1,hf⟩ | ⟨x,e1,rfl⟩
 ·refine ⟨ρ₀,S₀,H₀,F,ρ,S,δ,Ω,R,.ok x,Ω1,e1,fun u ρ1 S1 H1 R1 l1 v1 r1=>?_⟩
  rcases MS.b_inv hf with ⟨xs,Ω2,e2,hf⟩ | ⟨y,e2,rfl⟩
  ·cases hf
   exact ⟨ρ₀,S₀,H₀,F,ρ1,S1,δ,Ω1,R1,.ok xs,_,e2,fun vs ρ2 S2 H2 R2 l2 v2 r2=>k (u :: vs) ρ2 S2 H2 R2 (l1.trans l2) (v1.trans v2) (Reps.cons ((r1.rho l2).mono v2) r2)⟩
  ·exact ⟨ρ₀,S₀,H₀,F,ρ1,S1,δ,Ω1,R1,.error y,_,e2,trivial⟩
 ·exact ⟨ρ₀,S₀,H₀,F,ρ,S,δ,Ω,R,.error x,_,e1,trivial⟩
theorem jkk {g : D → D → Option D} {r : R2} {σ : St} {H : Hp} {Q : VK} (hg : OpD X.K g r) (h : tE X.K X.mg O (m2 g fa fb) σ H Q) : tOp r (tE X.K X.mg O fa) (tE X.K X.mg O fb) σ H Q:=by
 obtain ⟨ρ₀,S₀,H₀,F,ρ,S,δ,Ω,R,r,Ω',hf,k⟩:=h
 rcases MS.b_inv hf with ⟨x,Ω1,e1,hf⟩ | ⟨x,e1,rfl⟩
 ·refine ⟨ρ₀,S₀,H₀,F,ρ,S,δ,Ω,R,.ok x,Ω1,e1,fun u ρ1 S1 H1 R1 l1 v1 r1=>?_⟩
  rcases MS.b_inv hf with ⟨y,Ω2,e2,hf⟩ | ⟨y,e2,rfl⟩
  ·refine ⟨ρ₀,S₀,H₀,F,ρ1,S1,δ,Ω1,R1,.ok y,Ω2,e2,fun w ρ2 S2 H2 R2 l2 v2 r2=>?_⟩
   obtain ⟨d,hd,rfl,rfl⟩:=MS.o_inv hf
   exact hg x y d hd ρ2 H2 _ u w Q (fun p hp=>R2.fresh hp) ((r1.rho l2).mono v2) r2 fun z H3 s3 r3=>k z ρ2 S2 H3 (R2.mono s3) (l1.trans l2) (v1.trans (v2.trans (jaq s3))) r3
  ·exact ⟨ρ₀,S₀,H₀,F,ρ1,S1,δ,Ω1,R1,.error y,_,e2,trivial⟩
 ·exact ⟨ρ₀,S₀,H₀,F,ρ,S,δ,Ω,R,.error x,_,e1,trivial⟩
theorem jvt {g : D → D → Option D} {r : R2} (ho : IxR X r) (hg : OpD X.K g r) (ha : ME X O a fa) (hb : ME X O b fb) (hs : autoParam (jhv b) zau5._auto_1) : ME X O (.Subscript a b pos) (m2 g fa fb) :=
 fun pins s σ H Q I h=>jtg ho ha hb hs pins s σ H Q I (jkk hg h)
theorem jlj {op : CmpOp} {g : D → D → Option D} {r : R2} (ho : OpR X (compareOp op) r) (hg : OpD X.K g r) (ha : ME X O a fa) (hb : ME X O b fb) (hm : behindInMarks op b = false) : ME X O (.Compare a [op] [b] pos) (m2 g fa fb) :=
 fun pins s σ H Q I h=>jn9 ho ha hb hm pins s σ H Q I (jkk hg h)
theorem jq8 {x1} (h : MA X O es fl) : ME X O (.Tuple es x1 pos) (mL jc4 fl):=by
 rintro pins s σ H Q I ⟨ρ₀,S₀,H₀,F,ρ,S,δ,Ω,R,r,Ω',hf,k⟩
 refine jrf h pins s σ H Q I ?_
 rcases MS.b_inv hf with ⟨x,Ω1,e1,hf⟩ | ⟨x,e1,rfl⟩
 ·refine ⟨ρ₀,S₀,H₀,F,ρ,S,δ,Ω,R,.ok x,Ω1,e1,fun u ρ1 S1 H1 R1 l1 v1 r1=>?_⟩
  obtain ⟨d,hd,rfl,rfl⟩:=MS.o_inv hf
  unfold jc4 at hd
  split at hd
  ·rename_i hz
   cases hd
   exact ⟨by rw [r1.length]; exact hz,fun p hp=>k _ ρ1 S1 _ (R1.mono (jaz hp)) l1 (v1.trans (jaq (jaz hp))) (jbw hp (R1.fresh hp) r1)⟩
  ·cases hd
 ·exact ⟨ρ₀,S₀,H₀,F,ρ,S,δ,Ω,R,.error x,_,e1,trivial⟩
noncomputable def jrq (X : Cx) (cs : List Str) (f : Str) : Prop:=∀ c ∈ cs,∀ C,X.mg c = some (.ref C) → Cls X.K C ∧ NoAttr X.K C f
theorem jpj {cs : List Str} {f : Str} {x : D} {Ω Ω' : Sto} {r : Except XD D} (h : getO cs f x Ω = some (r,Ω')) : ∃ i cl fs d,x = .obj i ∧ Ω[i]? = some (.ins cl fs) ∧ cs.contains cl = true ∧ fs.lookup f = some d ∧ r = .ok d ∧ Ω' = Ω:=by
 unfold getO at h
 cases x with
 | obj i =>
  dsimp only at h
  cases hi : Ω[i]? with
  | none=>rw [hi] at h; cases h
  | some so =>
   rw [hi] at h
   cases so with
   | lst _=>cases h
   | tab _ _ _ _=>cases h
   | dct _=>cases h
   | exc _ _=>cases h
   | xd _=>cases h
   | ins cl fs =>
    dsimp only at h
    by_cases hc : cs.contains cl = true
    ·rw [if_pos hc] at h
     cases hl : fs.lookup f with
     | none=>rw [hl] at h; cases h
     | some d=>rw [hl] at h; cases h; exact ⟨i,cl,fs,d,rfl,hi,hc,hl,rfl,rfl⟩
    ·rw [if_neg hc] at h; cases h
 | _=>cases h
theorem jlk {cs : List Str} {f : Str} (hc : jrq X cs f) (ha : ME X O e fa) (hb : autoParam (attributeBase e f X.env (eval e X.env) = eval e X.env) zau2._auto_1) : ME X O (.Attribute e f pos) (mGet cs f fa):=by
 rintro pins s σ H Q I ⟨ρ₀,S₀,H₀,F,ρ,S,δ,Ω,R,r,Ω',hf,k⟩
 refine jwd ha hb pins s σ H Q I ?_
 rcases MS.b_inv hf with ⟨x,Ω1,e1,hf⟩ | ⟨x,e1,rfl⟩
 ·refine ⟨ρ₀,S₀,H₀,F,ρ,S,δ,Ω,R,.ok x,Ω1,e1,fun u ρ1 S1 H1 R1 l1 v1 r1=>?_⟩
  obtain ⟨i,cl,fs,d,rfl,hi,hcl,hl,rfl,rfl⟩:=jpj hf
  obtain ⟨ad,q1,q2⟩:=rep_obj.mp r1
  obtain ⟨ad',p1,p2,C,dx,vfs,p3,p4,p5,p6,p7⟩:=R1.sto.ats i _ hi
  rw [q1] at p1; cases p1
  obtain ⟨g1,g2⟩:=hc cl (List.contains_iff_mem.mp hcl) C p3
  obtain ⟨w,w1,w2⟩:=p7.get hl
  exact ⟨ad,C,dx,vfs,w,q2,p4,g1,g2,w1,k w ρ1 S1 H1 R1 l1 v1 w2⟩
 ·exact ⟨ρ₀,S₀,H₀,F,ρ,S,δ,Ω,R,.error x,_,e1,trivial⟩
theorem jlo (ha : ME X O a fa) (he : autoParam (∀ whole,isTrue a X.env whole = (do let v ← whole; standAt a.pos; holding [v] (truthy v))) zau6._auto_1) : MT X O a (mTru fa):=by
 rintro pins s σ H Q I ⟨ρ₀,S₀,H₀,F,ρ,S,δ,Ω,R,r,Ω',hf,k⟩
 refine jlv ha he pins s σ H Q I ?_
 rcases MS.b_inv hf with ⟨x,Ω1,e1,hf⟩ | ⟨x,e1,rfl⟩
 ·refine ⟨ρ₀,S₀,H₀,F,ρ,S,δ,Ω,R,.ok x,Ω1,e1,fun u ρ1 S1 H1 R1 l1 v1 r1=>?_⟩
  obtain ⟨z,hz,rfl,rfl⟩:=MS.o_inv hf
  refine ⟨z,?_,k ρ1 S1 H1 R1 l1 v1⟩
  cases x with
  | non=>cases hz; rw [rep_non.mp r1]; rfl
  | bl y=>cases hz; rw [rep_bl.mp r1]; rfl
  | int i=>cases hz; rw [rep_int.mp r1]; rfl
  | str y =>
   by_cases hl : y.length ≤ sizeLine
   ·have e : truD (.str y) = some ((y.length : Int) != 0):=if_pos hl
    rw [e] at hz; cases hz
    rw [rep_str.mp r1]; exact ⟨hl,rfl⟩
   ·have e : truD (.str y) = none:=if_neg hl
    rw [e] at hz; cases hz
  | tup ds =>
   cases hz
   obtain ⟨q,xs,rfl,q2,q3⟩:=rep_tup.mp r1
   exact .inr (.inl ⟨xs,jc9 jam q2,by rw [isE q3]⟩)
  | lst ds =>
   cases hz
   obtain ⟨q,xs,rfl,q2,q3⟩:=rep_lst.mp r1
   exact .inl ⟨xs,jcu jam q2,by rw [isE q3]⟩
  | ty n=>cases hz
  | obj n=>cases hz
 ·exact ⟨ρ₀,S₀,H₀,F,ρ,S,δ,Ω,R,.error x,_,e1,trivial⟩
theorem jn2 (ha : MT X O a ta) : MT X O (.UnaryOp .Not a pos) (mNot ta):=by
 rintro pins s σ H Q I ⟨ρ₀,S₀,H₀,F,ρ,S,δ,Ω,R,r,Ω',hf,k⟩
 refine jri ha pins s σ H Q I ?_
 rcases MS.b_inv hf with ⟨x,Ω1,e1,hf⟩ | ⟨x,e1,rfl⟩
 ·cases hf
  exact ⟨ρ₀,S₀,H₀,F,ρ,S,δ,Ω,R,.ok x,_,e1,fun ρ1 S1 H1 R1 l1 v1=>k ρ1 S1 H1 R1 l1 v1⟩
 ·exact ⟨ρ₀,S₀,H₀,F,ρ,S,δ,Ω,R,.error x,_,e1,trivial⟩
theorem MW.mt {f : DSt → MS Bool} (h : MW X O e f) : MT X O e f:=PW.pt h
theorem jra (ha : MT X O a ta) : MW X O (.BoolOp .Or [a] pos) ta:=jwn ha
theorem js2 {rest : List Expr} (ha : MT X O a ta) (hb : MW X O (.BoolOp .Or (b :: rest) pos) tb) : MW X O (.BoolOp .Or (a :: b :: rest) pos) (mOr ta tb):=by
 rintro wh pins s σ H Q I ⟨ρ₀,S₀,H₀,F,ρ,S,δ,Ω,R,r,Ω',hf,k⟩
 refine jyp ha hb wh pins s σ H Q I ?_
 rcases MS.b_inv hf with ⟨x,Ω1,e1,hf⟩ | ⟨x,e1,rfl⟩
 ·refine ⟨ρ₀,S₀,H₀,F,ρ,S,δ,Ω,R,.ok x,Ω1,e1,fun ρ1 S1 H1 R1 l1 v1=>?_⟩
  cases x with
  | true=>cases hf; exact iteT (k ρ1 S1 H1 R1 l1 v1)
  | false =>
   refine iteF ⟨ρ₀,S₀,H₀,F,ρ1,S1,δ,Ω1,R1,r,Ω',hf,?_⟩
   cases r with
   | ok d=>exact fun ρ2 S2 H2 R2 l2 v2=>k ρ2 S2 H2 R2 (l1.trans l2) (v1.trans v2)
   | error y=>trivial
 ·exact ⟨ρ₀,S₀,H₀,F,ρ,S,δ,Ω,R,.error x,_,e1,trivial⟩
end
end DL
namespace DL
open PySem PySem.Spec L2
structure RT (ρ₀ : Rho) (S₀ : Addr → Bool) (H₀ : Hp) (F : Addr → Bool) (K : PySem.W.Frag) (mg : Str → Option Value) (ρ : Rho) (S : Addr → Bool) (H : Hp) (Ω : Sto) : Prop where
 rho : RLe ρ₀ ρ
 same : ∀ b o,S₀ b = false → H₀ b = some o → H b = some o
 old : ∀ b,S₀ b = true → S b = true
 new : ∀ b,S b = true → S₀ b = true ∨ H₀ b = none
 ff : ∀ b,F b = true → S b = false
 sto : StoOk ρ S K mg H (hid H (un F S)) Ω
section
variable {ρ₀ ρ ρ' : Rho} {S₀ S S' F : Addr → Bool} {H₀ H H' : Hp} {K : PySem.W.Frag} {mg : Str → Option Value} {O O' B : List Nat} {σ σ' : St} {δ δ' : DSt} {Ω Ω' : Sto}
theorem jeq {σ : St} {O : List Nat} {F : Addr → Bool} : ∀ b,F b = true → fob F σ O b = true:=fun b h=>fob_t.mpr (.inl h)
theorem RM.rt (R : RM ρ₀ S₀ H₀ F K mg O ρ S H σ δ Ω) : RT ρ₀ S₀ H₀ F K mg ρ S H Ω :=
 ⟨R.rho,R.same,R.old,R.new,R.ff,R.sto.mono (fun _ _=>rfl) (jeb jeq) (jt6 R.sto.tv (jeb jeq))⟩
theorem RM.base_some (R : RM ρ₀ S₀ H₀ F K mg O ρ S H σ δ Ω) {b : Addr} {o : HO} (h : H b = some o) (hn : ¬ ∃ i ∈ O,σ[i]? = some (some (.ref b))) : hid H (fob nof σ O) b = some o :=
 hid_some.mpr ⟨by cases e : fob nof σ O b with
  | false=>rfl
  | true=>rcases fob_t.mp e with q | q; cases q; exact absurd q hn,h⟩
theorem RM.base_S (R : RM ρ₀ S₀ H₀ F K mg O ρ S H σ δ Ω) {b : Addr} (hb : S b = true) : ¬ ∃ i ∈ O,σ[i]? = some (some (.ref b)):=by
 rintro ⟨i,hi,q⟩
 obtain ⟨a,xs,ds,q1,q2,q3,q4,q5⟩:=R.rs.own i hi
 rw [q] at q2; cases q2
 rw [(un_f.mp q4.2).2] at hb; cases hb
theorem RM.base_0 (R : RM ρ₀ S₀ H₀ F K mg O ρ S H σ δ Ω) {b : Addr} {o : HO} (hb : H₀ b = some o) : ¬ ∃ i ∈ O,σ[i]? = some (some (.ref b)):=by
 rintro ⟨i,hi,q⟩
 rw [R.own0 i hi b q] at hb; cases hb
theorem RM.no_tup (R : RM ρ₀ S₀ H₀ F K mg O ρ S H σ δ Ω) (s : Same (hid H (fob nof σ O)) H') {b : Addr} {xs : List V} (hb : un F S b = true) : H' b ≠ some (.tup xs):=fun q=>by
 cases e : H b with
 | none=>exact R.rs.fin b hb e
 | some o =>
  have:=s b o (R.base_some e fun ⟨i,hi,y⟩=>by
   obtain ⟨a,xs,ds,q1,q2,q3,q4,q5⟩:=R.rs.own i hi
   rw [y] at q2; cases q2
   rw [q4.2] at hb; cases hb)
  rw [q] at this
  cases this
  have:=(hid_some.mp (R.sto.tv b xs e)).1
  rw [jeq b hb] at this; cases this
theorem RM.next (R : RM ρ₀ S₀ H₀ F K mg O ρ S H σ δ Ω) (R' : RS ρ K (hid H (fob nof σ O)) H' (un F S) O' σ' δ') (v : Same (hid H (fob (un F S) σ O)) (hid H' (fob (un F S) σ' O'))) : RM ρ₀ S₀ H₀ F K mg O' ρ S H' σ' δ' Ω:=by
 refine ⟨R'.rebase,R.rho,fun b o h1 h2=>R'.same b o (R.base_some (R.same b o h1 h2) (R.base_0 h2)),R.old,R.new,fun i hi a q=>?_,R.ff,R.sto.mono (fun b hb=>?_) v fun b xs q=>hid_some.mpr ⟨?_,q⟩⟩
 ·obtain ⟨a',xs,ds,q1,q2,q3,q4,q5⟩:=R'.own i hi
  rw [q] at q2; cases q2
  have h0:=q4.1
  cases e : H a with
  | none=>exact R.fresh00 e
  | some o =>
   by_cases hn : ∃ i ∈ O,σ[i]? = some (some (.ref a))
   ·obtain ⟨j,hj,z⟩:=hn
    exact R.own0 j hj a z
   ·rw [R.base_some e hn] at h0; cases h0
 ·cases e : H b with
  | none=>exact absurd e (R.sto.fin b hb)
  | some o=>exact R'.same b o (R.base_some e (R.base_S hb))
 ·cases z : fob (un F S) σ' O' b with
  | false=>rfl
  | true =>
   rcases fob_t.mp z with z | ⟨i,hi,z⟩
   ·exact absurd q (R.no_tup R'.same z)
   ·obtain ⟨a,xs,ds,q1,q2,q3,q4,q5⟩:=R'.own i hi
    rw [z] at q2; cases q2
    rw [q3] at q; cases q
theorem RM.left (R : RM ρ₀ S₀ H₀ F K mg O ρ S H σ δ Ω) (s : Same (hid H (fob nof σ O)) H') : RT ρ₀ S₀ H₀ F K mg ρ S H' Ω:=by
 refine ⟨R.rho,fun b o h1 h2=>s b o (R.base_some (R.same b o h1 h2) (R.base_0 h2)),R.old,R.new,R.ff,R.sto.mono (fun b hb=>?_) (fun b o q=>?_) fun b xs q=>hid_some.mpr ⟨?_,q⟩⟩
 ·cases e : H b with
  | none=>exact absurd e (R.sto.fin b hb)
  | some o=>exact s b o (R.base_some e (R.base_S hb))
 ·obtain ⟨q1,q2⟩:=hid_some.mp q
  refine hid_some.mpr ⟨?_,s b o (R.base_some q2 fun hn=>?_)⟩
  ·cases e : un F S b with
   | false=>rfl
   | true=>rw [jeq b e] at q1; cases q1
  ·rw [fob_t.mpr (.inr hn)] at q1; cases q1
 ·cases z : un F S b with
  | false=>rfl
  | true=>exact absurd q (R.no_tup s z)
end
noncomputable def OkE (K : PySem.W.Frag) (mg : Str → Option Value) (O' B : List Nat) (ρ₀ : Rho) (S₀ : Addr → Bool) (H₀ : Hp) (F : Addr → Bool) (ρ : Rho) (Hv : Hp) (Dn : Ends) : Except XD Out → Sto → Prop
 | .ok (.nx δ'),Ω'=>∀ ρ' S' σ' H',RM ρ₀ S₀ H₀ F K mg O' ρ' S' H' σ' δ' Ω' → RLe ρ ρ' → Same Hv (hid H' (fob (un F S') σ' O')) → Dn.nx σ' H'
 | .ok (.rt d),Ω'=>∀ v ρ' S' H',RT ρ₀ S₀ H₀ F K mg ρ' S' H' Ω' → Rep ρ' K (hid H' (un F S')) d v → Dn.rt v H'
 | .ok (.bk δ'),Ω'=>∀ ρ' S' σ' H',RM ρ₀ S₀ H₀ F K mg B ρ' S' H' σ' δ' Ω' → RLe ρ ρ' → Same Hv (hid H' (fob (un F S') σ' B)) → Dn.bk σ' H'
 | .ok (.ct δ'),Ω'=>∀ ρ' S' σ' H',RM ρ₀ S₀ H₀ F K mg B ρ' S' H' σ' δ' Ω' → RLe ρ ρ' → Same Hv (hid H' (fob (un F S') σ' B)) → Dn.ct σ' H'
 | .error _,_=>True
theorem OkE.back {K : PySem.W.Frag} {mg : Str → Option Value} {O' B : List Nat} {ρ₀ ρ ρ' : Rho} {S₀ : Addr → Bool} {H₀ : Hp} {F : Addr → Bool} {Hv Hv' : Hp} {Dn : Ends} {r : Except XD Out} {Ω' : Sto} (l : RLe ρ ρ') (e : Same Hv Hv') (h : OkE K mg O' B ρ₀ S₀ H₀ F ρ Hv Dn r Ω') :
  OkE K mg O' B ρ₀ S₀ H₀ F ρ' Hv' Dn r Ω':=by
 cases r with
 | error x=>trivial
 | ok o =>
  cases o with
  | nx δ'=>exact fun ρ1 S1 σ1 H1 R l1 v1=>h ρ1 S1 σ1 H1 R (l.trans l1) (e.trans v1)
  | bk δ'=>exact fun ρ1 S1 σ1 H1 R l1 v1=>h ρ1 S1 σ1 H1 R (l.trans l1) (e.trans v1)
  | ct δ'=>exact fun ρ1 S1 σ1 H1 R l1 v1=>h ρ1 S1 σ1 H1 R (l.trans l1) (e.trans v1)
  | rt d=>exact h
inductive sE (K : PySem.W.Frag) (mg : Str → Option Value) (O O' B : List Nat) (g : DSt → MS Out) (Dn : Ends) (σ : St) (H : Hp) : Prop
 | mk (ρ₀ : Rho) (S₀ : Addr → Bool) (H₀ : Hp) (F : Addr → Bool) (ρ : Rho) (S : Addr → Bool) (δ : DSt) (Ω : Sto) (R : RM ρ₀ S₀ H₀ F K mg O ρ S H σ δ Ω) (r : Except XD Out) (Ω' : Sto) (hf : g δ Ω = some (r,Ω')) (k : OkE K mg O' B ρ₀ S₀ H₀ F ρ (hid H (fob (un F S) σ O)) Dn r Ω')
noncomputable def MSt (X : Cx) (O O' B : List Nat) (st : Stmt) (g : DSt → MS Out) : Prop:=PS X st (sE X.K X.mg O O' B g)
noncomputable def MSs (X : Cx) (O O' B : List Nat) (st : List Stmt) (g : DSt → MS Out) : Prop:=PSs X st (sE X.K X.mg O O' B g)
noncomputable def eNx : DSt → MS Out:=fun δ=>MS.p (.nx δ)
noncomputable def eSeq (g1 g2 : DSt → MS Out) : DSt → MS Out:=fun δ=>(g1 δ).b fun o=>match o with
 | .nx δ'=>g2 δ'
 | o=>MS.p o
noncomputable def eSet (i : Nat) (f : DSt → MS D) : DSt → MS Out:=fun δ=>(f δ).b fun d=>MS.p (.nx (δ.set i (some d)))
noncomputable def eRet (f : DSt → MS D) : DSt → MS Out:=fun δ=>(f δ).b fun d=>MS.p (.rt d)
noncomputable def jgp (f : DSt → MS D) : DSt → MS Out:=fun δ=>(f δ).b fun _=>MS.p (.nx δ)
noncomputable def eIf (t : DSt → MS Bool) (g1 g2 : DSt → MS Out) : DSt → MS Out:=fun δ=>(t δ).b fun b=>if b = true then g1 δ else g2 δ
noncomputable def putO (cs : List Str) (f : Str) (x d : D) : MS Unit:=fun Ω=>match x with
 | .obj i=>match Ω[i]? with
  | some (.ins c fs)=>if (cs.contains c && decide (fs.length < 1000)) = true then some (.ok (),Ω.set i (.ins c (putD f d fs))) else none
  | _=>none
 | _=>none
noncomputable def ePut (cs : List Str) (f : Str) (fo fv : DSt → MS D) : DSt → MS Out:=fun δ=>(fv δ).b fun d=>(fo δ).b fun x=>(putO cs f x d).b fun _=>MS.p (.nx δ)
noncomputable def forE (g : DSt → MS Out) (tg : D → DSt → Option DSt) : List D → DSt → MS Out
 | [],δ=>MS.p (.nx δ)
 | d :: ds,δ=>match tg d δ with
  | none=>fun _=>none
  | some δ1=>(g δ1).b fun o=>match o with
   | .nx δ'=>forE g tg ds δ'
   | .ct δ'=>forE g tg ds δ'
   | .bk δ'=>MS.p (.nx δ')
   | .rt v=>MS.p (.rt v)
noncomputable def eFor (fi : DSt → MS (List D)) (tg : D → DSt → Option DSt) (g : DSt → MS Out) : DSt → MS Out:=fun δ=>(fi δ).b fun ds=>forE g tg ds δ
section
variable {X : Cx} {O O' O'' B : List Nat} {a b c e : Expr} {es : List Expr} {fa fb : DSt → MS D} {fl : DSt → MS (List D)} {pos : Pos} {st : Stmt} {rest : List Stmt} {g g1 g2 : DSt → MS Out} {tc : DSt → MS Bool}
theorem jcj {h : DSt → M Out} (hd : DS X O O' B E0 st h) : MSt X O O' B st (lF h):=by
 rintro pins s σ H Dn I ⟨ρ₀,S₀,H₀,F,ρ,S,δ,Ω,R,r,Ω',hf,k⟩
 obtain ⟨hg,rfl⟩:=MS.l_inv hf
 refine hd pins s σ H Dn I ⟨ρ,_,un F S,δ,r,R.rs,hg,?_⟩
 cases r with
 | error x=>exact fun c dx H' _ z=>z.elim
 | ok o =>
  cases o with
  | nx δ'=>exact fun σ' H' v R'=>k ρ S σ' H' (R.next R' v) (RLe.refl _) v
  | bk δ'=>exact fun σ' H' v R'=>k ρ S σ' H' (R.next R' v) (RLe.refl _) v
  | ct δ'=>exact fun σ' H' v R'=>k ρ S σ' H' (R.next R' v) (RLe.refl _) v
  | rt d=>exact fun v H' s' rv=>k v ρ S H' (R.left s') rv
theorem jgx : MSs X O O B [] eNx:=by
 rintro pins s σ H Dn I ⟨ρ₀,S₀,H₀,F,ρ,S,δ,Ω,R,r,Ω',hf,k⟩
 cases hf
 exact jod pins s σ H Dn I (k ρ S σ H R (RLe.refl _) (Same.refl _))
theorem ja1 (h1 : MSt X O O' B st g1) (h2 : MSs X O' O'' B rest g2) : MSs X O O'' B (st :: rest) (eSeq g1 g2):=by
 rintro pins s σ H Dn I ⟨ρ₀,S₀,H₀,F,ρ,S,δ,Ω,R,r,Ω',hf,k⟩
 refine jij h1 h2 pins s σ H Dn I ?_
 rcases MS.b_inv hf with ⟨o,Ω1,e1,hf⟩ | ⟨x,e1,rfl⟩
 ·refine ⟨ρ₀,S₀,H₀,F,ρ,S,δ,Ω,R,.ok o,Ω1,e1,?_⟩
  cases o with
  | nx δ'=>exact fun ρ1 S1 σ1 H1 R1 l1 v1=>⟨ρ₀,S₀,H₀,F,ρ1,S1,δ',Ω1,R1,r,Ω',hf,k.back l1 v1⟩
  | rt d=>cases hf; exact k
  | bk δ'=>cases hf; exact k
  | ct δ'=>cases hf; exact k
 ·exact ⟨ρ₀,S₀,H₀,F,ρ,S,δ,Ω,R,.error x,_,e1,trivial⟩
theorem jcs (h1 : MSt X O O' B st g) : MSs X O O' B [st] g:=fun pins s σ H Dn I h=>jik h1 pins s σ H Dn I h
theorem jjj {i : Nat} {x : Str} {pos' : Pos} (hN : X.N.Nodup) (he : ME X O e fa) (ho : autoParam (O.contains i = false) zau2._auto_1) (hi : autoParam (X.N[i]? = some x) zau2._auto_1) (hx : autoParam (Loc X.env.scope x) zau7._auto_1) (hs : autoParam (swapsWith e (some (.Name x pos')) pos.line X.env = pure false) zau2._auto_1)
  (hf : autoParam (X.fn x = true ∨ X.env.scope.names.lookup x = some .local) zau0._auto_1) : MSt X O O B (.Assign [.Name x pos'] e pos) (eSet i fa):=by
 rintro pins s σ H Dn I ⟨ρ₀,S₀,H₀,F,ρ,S,δ,Ω,R,r,Ω',hg,k⟩
 have ho' : i ∉ O:=fun z=>by rw [List.contains_iff_mem.mpr z] at ho; cases ho
 refine jlu hN hi hx he hs hf pins s σ H Dn I ?_
 rcases MS.b_inv hg with ⟨d,Ω1,e1,hg⟩ | ⟨x,e1,rfl⟩
 ·cases hg
  exact ⟨ρ₀,S₀,H₀,F,ρ,S,δ,Ω,R,.ok d,_,e1,fun v ρ1 S1 H1 R1 l1 v1 r1=>k ρ1 S1 _ H1 (R1.set ho' r1) l1 (by rw [jb4 ho']; exact v1)⟩
 ·exact ⟨ρ₀,S₀,H₀,F,ρ,S,δ,Ω,R,.error x,_,e1,trivial⟩
theorem jji (he : ME X O e fa) : MSt X O O' B (.Return (some e) pos) (eRet fa):=by
 rintro pins s σ H Dn I ⟨ρ₀,S₀,H₀,F,ρ,S,δ,Ω,R,r,Ω',hg,k⟩
 refine jrh he pins s σ H Dn I ?_
 rcases MS.b_inv hg with ⟨d,Ω1,e1,hg⟩ | ⟨x,e1,rfl⟩
 ·cases hg
  exact ⟨ρ₀,S₀,H₀,F,ρ,S,δ,Ω,R,.ok d,_,e1,fun v ρ1 S1 H1 R1 l1 v1 r1=>k v ρ1 S1 H1 R1.rt (r1.mono (jeb jeq))⟩
 ·exact ⟨ρ₀,S₀,H₀,F,ρ,S,δ,Ω,R,.error x,_,e1,trivial⟩
theorem jny (he : ME X O e fa) (hs : autoParam (swapsWith e none pos.line X.env = pure false) zau2._auto_1) : MSt X O O B (.Expr e pos) (jgp fa):=by
 rintro pins s σ H Dn I ⟨ρ₀,S₀,H₀,F,ρ,S,δ,Ω,R,r,Ω',hg,k⟩
 refine jkt he hs pins s σ H Dn I ?_
 rcases MS.b_inv hg with ⟨d,Ω1,e1,hg⟩ | ⟨x,e1,rfl⟩
 ·cases hg
  exact ⟨ρ₀,S₀,H₀,F,ρ,S,δ,Ω,R,.ok d,_,e1,fun v ρ1 S1 H1 R1 l1 v1 r1=>k ρ1 S1 σ H1 R1 l1 v1⟩
 ·exact ⟨ρ₀,S₀,H₀,F,ρ,S,δ,Ω,R,.error x,_,e1,trivial⟩
theorem jp3 {s1 s2 : List Stmt} (hc : MT X O c tc) (h1 : MSs X O O' B s1 g1) (h2 : MSs X O O' B s2 g2) : MSt X O O' B (.If c s1 s2 pos) (eIf tc g1 g2):=by
 rintro pins s σ H Dn I ⟨ρ₀,S₀,H₀,F,ρ,S,δ,Ω,R,r,Ω',hg,k⟩
 refine jtn hc h1 h2 pins s σ H Dn I ?_
 rcases MS.b_inv hg with ⟨z,Ω1,e1,hg⟩ | ⟨x,e1,rfl⟩
 ·refine ⟨ρ₀,S₀,H₀,F,ρ,S,δ,Ω,R,.ok z,_,e1,fun ρ1 S1 H1 R1 l1 v1=>?_⟩
  cases z with
  | true=>exact iteT ⟨ρ₀,S₀,H₀,F,ρ1,S1,δ,Ω1,R1,r,Ω',hg,k.back l1 v1⟩
  | false=>exact iteF ⟨ρ₀,S₀,H₀,F,ρ1,S1,δ,Ω1,R1,r,Ω',hg,k.back l1 v1⟩
 ·exact ⟨ρ₀,S₀,H₀,F,ρ,S,δ,Ω,R,.error x,_,e1,trivial⟩
end
end DL
namespace DL
open PySem PySem.Spec L2
section
variable {ρ₀ ρ ρ' : Rho} {S₀ S S' F : Addr → Bool} {H₀ H H1 H' : Hp} {K : PySem.W.Frag} {mg : Str → Option Value} {O O' B : List Nat} {σ σ' : St} {δ δ' : DSt} {Ω Ω' : Sto}
theorem RS.updF {a : Addr} {o : HO} (R : RS ρ K H1 H F O σ δ) (h : F a = true) : RS ρ K (hid (upd H a o) (fob nof σ O)) (upd H a o) F O σ δ:=by
 have hh : hid (upd H a o) (fob F σ O) = hid H (fob F σ O):=jfb (jeq a h)
 refine ⟨R.len,jam,fun b hb=>jfv (R.fin b hb),fun i d hd hi=>by rw [hh]; exact R.val i d hd hi,fun i hi=>?_,R.nd⟩
 obtain ⟨l,xs,ds,q1,q2,q3,q4,q5⟩:=R.own i hi
 have hl : l ≠ a:=by rintro rfl; rw [q4.2] at h; cases h
 refine ⟨l,xs,ds,q1,q2,by rw [jai hl]; exact q3,⟨?_,q4.2⟩,by rw [hh]; exact q5⟩
 unfold hid
 rw [if_pos (fob_t.mpr (.inr ⟨i,hi,q2⟩))]
theorem RM.put (R : RM ρ₀ S₀ H₀ F K mg O ρ S H σ δ Ω) {i : Nat} {c f : Str} {fs : List (Str × D)} {a C dx : Addr} {vfs : List (Str × V)} {d : D} {v : V} (hi : Ω[i]? = some (.ins c fs)) (ha : ρ i = some a) (hS : S a = true) (hC : mg c = some (.ref C)) (hH : H a = some (.ins C dx vfs))
  (hdx : H dx = some (.own a)) (hSd : S dx = true) (hfl : Flds ρ K (hid H (fob (un F S) σ O)) fs vfs) (hr : Rep ρ K (hid H (fob (un F S) σ O)) d v) :
  RM ρ₀ S₀ H₀ F K mg O ρ S (upd H a (.ins C dx (putF f v vfs))) σ δ (Ω.set i (.ins c (putD f d fs))) ∧ hid (upd H a (.ins C dx (putF f v vfs))) (fob (un F S) σ O) = hid H (fob (un F S) σ O):=by
 have hF : un F S a = true:=un_t.mpr (.inr hS)
 have hh : hid (upd H a (.ins C dx (putF f v vfs))) (fob (un F S) σ O) = hid H (fob (un F S) σ O):=jfb (jeq a hF)
 have il : i < Ω.length:=(List.getElem?_eq_some_iff.mp hi).1
 refine ⟨⟨R.rs.updF hF,R.rho,fun b o h1 h2=>?_,R.old,R.new,R.own0,R.ff,?_⟩,hh⟩
 ·have hb : b ≠ a:=by
   rintro rfl
   rcases R.new b hS with q | q
   ·rw [q] at h1; cases h1
   ·rw [q] at h2; cases h2
  rw [jai hb]; exact R.same b o h1 h2
 ·rw [hh]
  refine ⟨fun j so hj=>?_,R.sto.inj,fun j hj=>R.sto.top j (by simpa using hj),fun b hb=>jfv (R.sto.fin b hb),jj5 R.sto.tv fun _ z=>nomatch z⟩
  by_cases hji : j = i
  ·subst hji
   rw [List.getElem?_set_self il] at hj
   cases hj
   have nd : dx ≠ a:=js4 hdx hH (fun z=>nomatch z)
   exact ⟨a,ha,hS,C,dx,_,hC,jak,by rw [jai nd]; exact hdx,hSd,hfl.put hr⟩
  ·rw [List.getElem?_set_ne (Ne.symm hji)] at hj
   obtain ⟨a',q1,q2,q3⟩:=R.sto.ats j so hj
   have ne : a' ≠ a:=by
    rintro rfl
    exact hji (R.sto.inj j i a' q1 ha)
   refine ⟨a',q1,q2,?_⟩
   cases so with
   | ins c' fs' =>
    obtain ⟨C',dx',vfs',p1,p2,p3,p4,p5⟩:=q3
    have nd : dx' ≠ a:=js4 p3 hH (fun z=>nomatch z)
    exact ⟨C',dx',vfs',p1,by rw [jai ne]; exact p2,by rw [jai nd]; exact p3,p4,p5⟩
   | lst ds =>
    obtain ⟨xs,p1,p2⟩:=q3
    exact ⟨xs,by rw [jai ne]; exact p1,p2⟩
   | tab x l c q =>
    obtain ⟨ps,p1,p2,p3⟩:=q3
    exact ⟨ps,by rw [jai ne]; exact p1,p2,p3⟩
   | dct _ =>
    obtain ⟨vk,p1,p2,p3⟩:=q3
    exact ⟨vk,by rw [jai ne]; exact p1,p2,p3⟩
   | exc c j=>exact ExcOk.mono (fun _ _ z=>z) (jai ne) q3
   | xd fs =>
    obtain ⟨vfs,p1,p2⟩:=q3
    exact ⟨vfs,by rw [jai ne]; exact p1,p2⟩
theorem jdu : un (fob F σ O) S = fob (un F S) σ O:=by
 funext b
 unfold un fob
 simp only
 cases F b <;> cases S b <;> cases (ownA σ O).contains b <;> rfl
theorem RM.call (R : RM ρ₀ S₀ H₀ F K mg O ρ S H σ δ Ω) (l : RLe ρ ρ') (sm : ∀ b o,S b = false → H b = some o → H' b = some o) (old : ∀ b,S b = true → S' b = true) (new : ∀ b,S' b = true → S b = true ∨ H b = none)
  (ff : ∀ b,fob F σ O b = true → S' b = false) (sto : StoOk ρ' S' K mg H' (hid H' (un (fob F σ O) S')) Ω') :
  RM ρ₀ S₀ H₀ F K mg O ρ' S' H' σ δ Ω' ∧ Same (hid H (fob (un F S) σ O)) (hid H' (fob (un F S') σ O)):=by
 have keepS : ∀ b o,S b = false → H b = some o → S' b = false:=fun b o h1 h2=>by
  cases e : S' b with
  | false=>rfl
  | true =>
   rcases new b e with q | q
   ·rw [q] at h1; cases h1
   ·rw [q] at h2; cases h2
 have vis : Same (hid H (fob (un F S) σ O)) (hid H' (fob (un F S') σ O)):=fun b o q=>by
  obtain ⟨q1,q2⟩:=hid_some.mp q
  have hu : un F S b = false:=by
   cases e : un F S b with
   | false=>rfl
   | true=>rw [jeq b e] at q1; cases q1
  obtain ⟨h1,h2⟩:=un_f.mp hu
  refine hid_some.mpr ⟨?_,sm b o h2 q2⟩
  cases e : fob (un F S') σ O b with
  | false=>rfl
  | true =>
   rcases fob_t.mp e with z | z
   ·rcases un_t.mp z with z | z
    ·rw [h1] at z; cases z
    ·rw [keepS b o h2 q2] at z; cases z
   ·rw [fob_t.mpr (.inr z)] at q1; cases q1
 have rs : RS ρ' K (hid H' (fob nof σ O)) H' (un F S') O σ δ:=by
  refine ⟨R.rs.len,jam,fun b hb=>?_,fun i d hd hi=>?_,fun i hi=>?_,R.rs.nd⟩
  ·rcases un_t.mp hb with q | q
   ·have h1:=R.rs.fin b (un_t.mpr (.inl q))
    intro z
    cases e : H b with
    | none=>exact h1 e
    | some o=>rw [sm b o (R.ff b q) e] at z; cases z
   ·exact sto.fin b q
  ·obtain ⟨v,q1,q2⟩:=R.rs.val i d hd hi
   exact ⟨v,q1,(q2.rho l).mono vis⟩
  ·obtain ⟨a,xs,ds,q1,q2,q3,q4,q5⟩:=R.rs.own i hi
   have hS:=(un_f.mp q4.2).2
   refine ⟨a,xs,ds,q1,q2,sm a _ hS q3,⟨?_,un_f.mpr ⟨(un_f.mp q4.2).1,keepS a _ hS q3⟩⟩,(q5.rho l).mono vis⟩
   unfold hid
   rw [if_pos (fob_t.mpr (.inr ⟨i,hi,q2⟩))]
 refine ⟨⟨rs,R.rho.trans l,fun b o h1 h2=>?_,fun b hb=>old b (R.old b hb),fun b hb=>?_,R.own0,fun b hb=>ff b (fob_t.mpr (.inl hb)),by rw [jdu] at sto; exact sto⟩,vis⟩
 ·have h3:=R.same b o h1 h2
  refine sm b o ?_ h3
  cases e : S b with
  | false=>rfl
  | true =>
   rcases R.new b e with q | q
   ·rw [q] at h1; cases h1
   ·rw [q] at h2; cases h2
 ·rcases new b hb with q | q
  ·exact R.new b q
  ·exact .inr (R.fresh00 q)
noncomputable def addR (ρ : Rho) (n : Nat) (x : Addr) : Rho:=fun i=>if i = n then some x else ρ i
noncomputable def addS (S : Addr → Bool) (x dx : Addr) : Addr → Bool:=fun b=>S b || b == x || b == dx
theorem addS_t {S : Addr → Bool} {x dx b : Addr} : addS S x dx b = true ↔ S b = true ∨ b = x ∨ b = dx:=by
 unfold addS
 simp only [Bool.or_eq_true,beq_iff_eq,or_assoc]
theorem RM.make (R : RM ρ₀ S₀ H₀ F K mg O ρ S H σ δ Ω) {c : Str} {C x dx : Addr} (hC : mg c = some (.ref C)) (hx : H x = none) (hdx : H dx = none) (ne : dx ≠ x) :
  RM ρ₀ S₀ H₀ F K mg O (addR ρ Ω.length x) (addS S x dx) (upd (upd H dx (.own x)) x (.ins C dx [])) σ δ (Ω ++ [.ins c []]) ∧ RLe ρ (addR ρ Ω.length x) ∧
   Same (hid H (fob (un F S) σ O)) (hid (upd (upd H dx (.own x)) x (.ins C dx [])) (fob (un F (addS S x dx)) σ O)):=by
 have top:=R.sto.top Ω.length (Nat.le_refl _)
 have l : RLe ρ (addR ρ Ω.length x):=fun i a h=>by
  unfold addR
  by_cases e : i = Ω.length
  ·subst e; rw [top] at h; cases h
  ·rw [if_neg e]; exact h
 have sm : Same H (upd (upd H dx (.own x)) x (.ins C dx [])):=(jaz hdx).trans (jaz (by rw [jai ne.symm]; exact hx))
 have old : ∀ b,S b = true → addS S x dx b = true:=fun b h=>addS_t.mpr (.inl h)
 have new : ∀ b,addS S x dx b = true → S b = true ∨ H b = none:=fun b h=>by
  rcases addS_t.mp h with q | rfl | rfl
  ·exact .inl q
  ·exact .inr hx
  ·exact .inr hdx
 have ff : ∀ b,fob F σ O b = true → addS S x dx b = false:=fun b h=>by
  have h2 : fob (un F S) σ O b = true:=by rw [← jdu]; exact un_t.mpr (.inl h)
  cases e : addS S x dx b with
  | false=>rfl
  | true =>
   rcases addS_t.mp e with q | rfl | rfl
   ·rcases fob_t.mp h with z | z
    ·rw [R.ff b z] at q; cases q
    ·exact absurd z (R.base_S q)
   ·rw [R.fresh hx] at h2; cases h2
   ·rw [R.fresh hdx] at h2; cases h2
 have keep : ∀ b,S b = true → (upd (upd H dx (.own x)) x (.ins C dx [])) b = H b:=R.at_store sm
 have vis0 : Same (hid H (fob (un F S) σ O)) (hid (upd (upd H dx (.own x)) x (.ins C dx [])) (un (fob F σ O) (addS S x dx))):=fun b o q=>by
  obtain ⟨q1,q2⟩:=hid_some.mp q
  refine hid_some.mpr ⟨?_,sm b o q2⟩
  cases e : un (fob F σ O) (addS S x dx) b with
  | false=>rfl
  | true =>
   rcases un_t.mp e with z | z
   ·have h2 : fob (un F S) σ O b = true:=by rw [← jdu]; exact un_t.mpr (.inl z)
    rw [h2] at q1; cases q1
   ·rcases new b z with z | z
    ·have h2 : fob (un F S) σ O b = true:=jeq b (un_t.mpr (.inr z))
     rw [h2] at q1; cases q1
    ·rw [z] at q2; cases q2
 have sto : StoOk (addR ρ Ω.length x) (addS S x dx) K mg (upd (upd H dx (.own x)) x (.ins C dx [])) (hid (upd (upd H dx (.own x)) x (.ins C dx [])) (un (fob F σ O) (addS S x dx))) (Ω ++ [.ins c []]):=by
  refine ⟨fun i so hi=>?_,fun i j a h1 h2=>?_,fun i hi=>?_,fun b hb=>?_,jt6 (jj5 (jj5 R.sto.tv fun _ z=>nomatch z) fun _ z=>nomatch z) vis0⟩
  ·by_cases h : i < Ω.length
   ·rw [List.getElem?_append_left h] at hi
    obtain ⟨a,q1,q2,q3⟩:=R.sto.ats i so hi
    refine ⟨a,l i a q1,old a q2,?_⟩
    cases so with
    | ins c' fs' =>
     obtain ⟨C',dx',vfs',p1,p2,p3,p4,p5⟩:=q3
     exact ⟨C',dx',vfs',p1,by rw [keep a q2]; exact p2,by rw [keep dx' p4]; exact p3,old _ p4,p5.mono l vis0⟩
    | lst ds =>
     obtain ⟨xs,p1,p2⟩:=q3
     exact ⟨xs,by rw [keep a q2]; exact p1,(p2.rho l).mono vis0⟩
    | tab _ _ _ _ =>
     obtain ⟨ps,p1,p2,p3⟩:=q3
     exact ⟨ps,by rw [keep a q2]; exact p1,p2,p3.mono vis0⟩
    | dct _ =>
     obtain ⟨vk,p1,p2,p3⟩:=q3
     exact ⟨vk,by rw [keep a q2]; exact p1,p2,(p3.rho l).mono vis0⟩
    | exc c j=>exact ExcOk.mono l (keep a q2) q3
    | xd fs =>
     obtain ⟨vfs,p1,p2⟩:=q3
     exact ⟨vfs,by rw [keep a q2]; exact p1,p2.mono l vis0⟩
   ·have e : i = Ω.length:=by
     have:=(List.getElem?_eq_some_iff.mp hi).1
     simp at this; omega
    subst e
    rw [List.getElem?_append_right (Nat.le_refl _),Nat.sub_self] at hi
    cases hi
    exact ⟨x,by unfold addR; rw [if_pos rfl],addS_t.mpr (.inr (.inl rfl)),C,dx,[],hC,jak,by rw [jai ne,jak],addS_t.mpr (.inr (.inr rfl)),rfl⟩
  ·have fresh : ∀ i a,i ≠ Ω.length → ρ i = some a → a ≠ x:=fun i a hi h z=>by
    subst z
    have il : i < Ω.length:=by
     by_cases q : i < Ω.length
     ·exact q
     ·rw [R.sto.top i (by omega)] at h; cases h
    obtain ⟨a',q1,q2,_⟩:=R.sto.ats i _ (List.getElem?_eq_getElem il)
    rw [h] at q1; cases q1
    exact R.sto.fin a q2 hx
   unfold addR at h1 h2
   by_cases e1 : i = Ω.length
   ·by_cases e2 : j = Ω.length
    ·rw [e1,e2]
    ·rw [if_pos e1] at h1; rw [if_neg e2] at h2
     cases h1
     exact absurd rfl (fresh j _ e2 h2)
   ·by_cases e2 : j = Ω.length
    ·rw [if_neg e1] at h1; rw [if_pos e2] at h2
     cases h2
     exact absurd rfl (fresh i _ e1 h1)
    ·rw [if_neg e1] at h1; rw [if_neg e2] at h2
     exact R.sto.inj i j a h1 h2
  ·rw [List.length_append,List.length_singleton] at hi
   unfold addR
   rw [if_neg (by omega)]
   exact R.sto.top i (by omega)
  ·rcases addS_t.mp hb with q | rfl | rfl
   ·rw [keep b q]; exact R.sto.fin b q
   ·rw [jak]; exact fun z=>nomatch z
   ·rw [jai ne,jak]; exact fun z=>nomatch z
 obtain ⟨t1,t2⟩:=R.call l (fun b o _ h=>sm b o h) old new ff sto
 exact ⟨t1,l,t2⟩
end
inductive spE (K : PySem.W.Frag) (mg : Str → Option Value) (n : Nat) (m : List D → MS D) (vs : List V) (H : Hp) (Q : VK) (E : XK) : Prop
 | mk (hn : vs.length = n) (ρ : Rho) (S F : Addr → Bool) (ds : List D) (Ω : Sto) (hF : ∀ b,F b = true → H b ≠ none) (hS : ∀ b,F b = true → S b = false) (hr : Reps ρ K (hid H (un F S)) ds vs) (hs : StoOk ρ S K mg H (hid H (un F S)) Ω) (r : Except XD D) (Ω' : Sto) (hf : m ds Ω = some (r,Ω')) (k : match (generalizing:=false) r with
  | .ok d=>∀ v ρ' S' H',RLe ρ ρ' → (∀ b o,S b = false → H b = some o → H' b = some o) → (∀ b,S b = true → S' b = true) → (∀ b,S' b = true → S b = true ∨ H b = none) → (∀ b,F b = true → S' b = false) → StoOk ρ' S' K mg H' (hid H' (un F S')) Ω' → Rep ρ' K (hid H' (un F S')) d v → Q v H'
  | .error _=>True)
inductive MetX (P : Program) (w : World) (K : PySem.W.Frag) (mg : Str → Option Value) (base : Heap) (k : Nat) (c x : Str) (n : Nat) (sp : Sp) : Prop
 | mk (C f : Addr) (fd : FuncData) (ps : List Str) (h1 : ps.length = n) (h2 : mg c = some (.ref C)) (h3 : Cls K C) (h4 : Meth K C x f) (h5 : Binds K fd ps []) (h6 : FnOk P w K mg base CX0 k f fd ps sp)
inductive IniX (P : Program) (w : World) (K : PySem.W.Frag) (mg : Str → Option Value) (base : Heap) (k : Nat) (c : Str) (n : Nat) (sp : Sp) : Prop
 | mk (C f : Addr) (fd : FuncData) (ps : List Str) (h1 : ps.length = n) (h2 : mg c = some (.ref C)) (h3 : Mk K C f) (h4 : Binds K fd ps []) (h5 : FnOk P w K mg base CX0 k f fd ps sp)
structure CalE (P : Program) (w : World) (K : PySem.W.Frag) (mg : Str → Option Value) (base : Heap) (k : Nat) (x : Str) (n : Nat) (m : List D → MS D) : Prop where
 ex : CalX P w K mg base k x n (spE K mg n m)
 ar : ∀ ds Ω r,m ds Ω = some r → ds.length = n
structure MetE (P : Program) (w : World) (K : PySem.W.Frag) (mg : Str → Option Value) (base : Heap) (k : Nat) (c x : Str) (n : Nat) (m : List D → MS D) : Prop where
 ex : MetX P w K mg base k c x n (spE K mg n m)
 ar : ∀ ds Ω r,m ds Ω = some r → ds.length = n
structure IniE (P : Program) (w : World) (K : PySem.W.Frag) (mg : Str → Option Value) (base : Heap) (k : Nat) (c : Str) (n : Nat) (m : List D → MS D) : Prop where
 ex : IniX P w K mg base k c n (spE K mg n m)
 ar : ∀ ds Ω r,m ds Ω = some r → ds.length = n
noncomputable def outE : Out → MS D
 | .rt d=>MS.p d
 | .nx _=>MS.p .non
 | _=>fun _=>none
noncomputable def mirE (n N : Nat) (g : DSt → MS Out) : List D → MS D:=fun ds=>if ds.length = n then (g (startD N ds)).b outE else fun _=>none
theorem jf3 {n N : Nat} {g : DSt → MS Out} : ∀ ds Ω r,mirE n N g ds Ω = some r → ds.length = n:=fun ds Ω r h=>by
 unfold mirE at h
 split at h
 ·assumption
 ·cases h
section
variable {P : Program} {w : World} {K : PySem.W.Frag} {mg : Str → Option Value} {base : Heap}
theorem fn_E {x q : Str} {st : Stmt} {N ps : List Str} {k : Nat} {O' : List Nat} {g : DSt → MS Out} {f : Addr} {fd : FuncData} (F : Fun K x q st f fd) (Sc : FnScope N ps (jaa st))
  (hbody : ∀ (f : Addr) (cdv : Value) (A : Around) (outer : List Env) (s : Shared) (H : Hp) (E : XK),Room k (A.deeper (PyProof.Rows.envOfC q (jaa st) s.heap.objs.size f cdv)) →
   MSs (cxOf CX0 P w K mg base N q (jaa st) f cdv A outer s H E).nox [] O' [] (jah st) g) : FnOk P w K mg base CX0 (k + 1) f fd ps (spE K mg ps.length (mirE ps.length N.length g)):=by
 refine F.ok Sc (fun vs H Q E h=>h.1) fun cdv A outer s H vs Q E hr h=>?_
 obtain ⟨hl,ρ,S,F',ds,Ω,fin,ff,rp,sto,r,Ω',hmr,k0⟩:=h
 refine ⟨_,hbody f cdv A outer s H E hr,?_⟩
 have hpl : ps.length ≤ N.length:=by have:=congrArg List.length Sc.pre; rw [List.length_take] at this; omega
 have hdl : ds.length = ps.length:=by rw [← rp.length]; exact hl
 unfold mirE at hmr
 rw [if_pos hdl] at hmr
 have R : RM ρ S H F' K mg [] ρ S H (L2.start N vs) (startD N.length ds) Ω:=by
  refine ⟨⟨?_,jam,fun b hb=>?_,fun i d hd _=>?_,fun i hi=>absurd hi (by simp),fun i hi=>absurd hi (by simp)⟩,RLe.refl _,fun b o _ h=>h,fun b h=>h,fun b h=>.inl h,fun i hi=>absurd hi (by simp),ff,by rw [jcg]; exact sto⟩
  ·simp [L2.start,startD,rp.length]
  ·rcases un_t.mp hb with z | z
   ·exact fin b z
   ·exact sto.fin b z
  ·obtain ⟨v,e,rv⟩:=rp.get (jf5 hd)
   exact ⟨v,jg4 e,by rw [jcg]; exact rv⟩
 rcases MS.b_inv hmr with ⟨o,Ω1,e1,hmr⟩ | ⟨y,e1,rfl⟩
 ·refine ⟨ρ,S,H,F',ρ,S,_,Ω,R,.ok o,Ω1,e1,?_⟩
  cases o with
  | rt d =>
   cases hmr
   exact fun v ρ' S' H' T rv=>k0 v ρ' S' H' T.rho T.same T.old T.new T.ff T.sto rv
  | nx δ =>
   cases hmr
   exact fun ρ' S' σ' H' R' _ _=>k0 .non ρ' S' H' R'.rt.rho R'.rt.same R'.rt.old R'.rt.new R'.rt.ff R'.rt.sto (rep_non.mpr rfl)
  | bk δ=>cases hmr
  | ct δ=>cases hmr
 ·exact ⟨ρ,S,H,F',ρ,S,_,Ω,R,.error y,_,e1,trivial⟩
theorem jka {x : Str} {st : Stmt} {N ps : List Str} {k : Nat} {O' : List Nat} {g : DSt → MS Out} (hf : jc2 K mg x st ps) (S : FnScope N ps (jaa st))
  (hbody : ∀ (f : Addr) (cdv : Value) (A : Around) (outer : List Env) (s : Shared) (H : Hp) (E : XK),Room k (A.deeper (PyProof.Rows.envOfC x (jaa st) s.heap.objs.size f cdv)) →
   MSs (cxOf CX0 P w K mg base N x (jaa st) f cdv A outer s H E).nox [] O' [] (jah st) g) : CalE P w K mg base (k + 1) x ps.length (mirE ps.length N.length g):=by
 obtain ⟨f,fd,hm,F,hb⟩:=hf
 exact ⟨⟨f,fd,ps,rfl,hm,F.kp,hb,fn_E F S hbody⟩,jf3⟩
structure MetAt (K : PySem.W.Frag) (mg : Str → Option Value) (c x q : Str) (st : Stmt) (ps : List Str) : Prop where
 ex : ∃ C f fd,mg c = some (.ref C) ∧ Cls K C ∧ Meth K C x f ∧ Fun K x q st f fd ∧ Binds K fd ps []
structure IniAt (K : PySem.W.Frag) (mg : Str → Option Value) (c q : Str) (st : Stmt) (ps : List Str) : Prop where
 ex : ∃ C f fd,mg c = some (.ref C) ∧ Mk K C f ∧ Fun K "__init__" q st f fd ∧ Binds K fd ps []
theorem jsv {c x q : Str} {st : Stmt} {N ps : List Str} {k : Nat} {O' : List Nat} {g : DSt → MS Out} (hf : MetAt K mg c x q st ps) (S : FnScope N ps (jaa st))
  (hbody : ∀ (f : Addr) (cdv : Value) (A : Around) (outer : List Env) (s : Shared) (H : Hp) (E : XK),Room k (A.deeper (PyProof.Rows.envOfC q (jaa st) s.heap.objs.size f cdv)) →
   MSs (cxOf CX0 P w K mg base N q (jaa st) f cdv A outer s H E).nox [] O' [] (jah st) g) : MetE P w K mg base (k + 1) c x ps.length (mirE ps.length N.length g):=by
 obtain ⟨C,f,fd,hm,hc,hM,F,hb⟩:=hf.ex
 exact ⟨⟨C,f,fd,ps,rfl,hm,hc,hM,hb,fn_E F S hbody⟩,jf3⟩
theorem jsg {c q : Str} {st : Stmt} {N ps : List Str} {k : Nat} {O' : List Nat} {g : DSt → MS Out} (hf : IniAt K mg c q st ps) (S : FnScope N ps (jaa st))
  (hbody : ∀ (f : Addr) (cdv : Value) (A : Around) (outer : List Env) (s : Shared) (H : Hp) (E : XK),Room k (A.deeper (PyProof.Rows.envOfC q (jaa st) s.heap.objs.size f cdv)) →
   MSs (cxOf CX0 P w K mg base N q (jaa st) f cdv A outer s H E).nox [] O' [] (jah st) g) : IniE P w K mg base (k + 1) c ps.length (mirE ps.length N.length g):=by
 obtain ⟨C,f,fd,hm,hM,F,hb⟩:=hf.ex
 exact ⟨⟨C,f,fd,ps,rfl,hm,hM,hb,fn_E F S hbody⟩,jf3⟩
theorem jsm {m : List D → MS D} {H : Hp} {a : Addr} {ns : List Int} {Ω' : Sto} (hS : SqL K H a (ns.map V.int)) (h : m [.lst (ns.map .int)] [] = some (.ok (.bl true),Ω')) : spE K mg 1 m [.ref a] H (fun v _=>v = .bl true) fun _ _ _=>False:=by
 refine ⟨rfl,fun _=>none,fun _=>false,fun _=>false,[.lst (ns.map .int)],[],(fun b hb=>by cases hb),(fun b hb=>by cases hb),Reps.cons (rep_lst.mpr ⟨a,_,rfl,?_,reps_ints.mpr rfl⟩) Reps.nil,⟨fun i so hi=>by simp at hi,fun i j a h=>(nomatch h),fun i _=>rfl,(fun b hb=>by cases hb),fun _ _ q=>q⟩,_,_,h,fun v ρ' S' H' _ _ _ _ _ _ r=>rep_bl.mp r⟩
 have : hid H (un (fun _=>false) fun _=>false) = H:=by funext b; rfl
 rw [this]; exact hS
end
end DL
namespace DL
open PySem PySem.Spec L2
noncomputable def jf1 (m : List D → MS D) (fl : DSt → MS (List D)) : DSt → MS D:=fun δ=>(fl δ).b m
noncomputable def jje (m : List D → M D) (fl : DSt → MS (List D)) : DSt → MS D:=fun δ=>(fl δ).b fun ds=>MS.l (m ds)
noncomputable def jmi (c x : Str) (m : List D → MS D) (i : Nat) (fl : DSt → MS (List D)) (δ : DSt) : MS D:=fun Ω=>match Ω[i]? with
 | some (.ins c' fs)=>if c' = c ∧ fs.lookup x = none then ((fl δ).b fun ds=>m (.obj i :: ds)) Ω else none
 | _=>none
noncomputable def jdb (c x : Str) (m : List D → MS D) (fo : DSt → MS D) (fl : DSt → MS (List D)) : DSt → MS D:=fun δ=>(fo δ).b fun o=>match o with
 | .obj i=>jmi c x m i fl δ
 | _=>fun _=>none
noncomputable def jnq (c : Str) (m : List D → MS D) (ds : List D) : MS D:=fun Ω=>((m (.obj Ω.length :: ds)).b fun d=>match d with
 | .non=>MS.p (.obj Ω.length)
 | _=>fun _=>none) (Ω ++ [.ins c []])
noncomputable def jjg (c : Str) (m : List D → MS D) (fl : DSt → MS (List D)) : DSt → MS D:=fun δ=>(fl δ).b fun ds=>jnq c m ds
section
variable {X : Cx} {O : List Nat} {a b o e : Expr} {es : List Expr} {fa fb fo : DSt → MS D} {fl : DSt → MS (List D)} {pos p apos : Pos} {x c : Str} {k n : Nat}
variable {ρ₀ ρ : Rho} {S₀ S F : Addr → Bool} {H₀ H : Hp} {σ : St} {δ : DSt} {Ω Ω' : Sto}
theorem jhu {m : List D → MS D} {ds : List D} {vs : List V} {r : Except XD D} {Q : VK} {E : XK} (R : RM ρ₀ S₀ H₀ F X.K X.mg O ρ S H σ δ Ω) (hl : ds.length = n) (hr : Reps ρ X.K (hid H (fob (un F S) σ O)) ds vs) (hm : m ds Ω = some (r,Ω'))
  (k : match (generalizing:=false) r with
   | .ok d=>∀ v ρ' S' H',RM ρ₀ S₀ H₀ F X.K X.mg O ρ' S' H' σ δ Ω' → RLe ρ ρ' → Same (hid H (fob (un F S) σ O)) (hid H' (fob (un F S') σ O)) → Rep ρ' X.K (hid H' (fob (un F S') σ O)) d v → Q v H'
   | .error _=>True) : spE X.K X.mg n m vs H Q E:=by
 refine ⟨by rw [hr.length]; exact hl,ρ,S,fob F σ O,ds,Ω,fun b hb=>?_,fun b hb=>?_,by rw [jdu]; exact hr,by rw [jdu]; exact R.sto,r,Ω',hm,?_⟩
 ·intro z
  have:=R.fresh z
  rw [← jdu,un_t.mpr (.inl hb)] at this; cases this
 ·rcases fob_t.mp hb with z | z
  ·exact R.ff b z
  ·cases e : S b with
   | false=>rfl
   | true=>exact absurd z (R.base_S e)
 ·cases r with
  | error x=>trivial
  | ok d =>
   intro v ρ' S' H' l sm old new ff sto rv
   obtain ⟨t1,t2⟩:=R.call l sm old new ff sto
   rw [jdu] at rv
   exact k v ρ' S' H' t1 l t2 rv
theorem jkl {m : List D → MS D} (C : CalE X.prog X.w X.K X.mg X.base k x n m) (hr : Room k X.A) (ha : MA X O (e :: es) fl) (hg : autoParam (Gl X x) zau2._auto_1) (hdb : autoParam ((x == ("__debug__" : Str)) = false) zau1._auto_1) (he : autoParam (starEach (e :: es) X.env = (false,eval e X.env) :: starEach es X.env) zau2._auto_1)
  (hpl : autoParam ((backTo pos (starEach es X.env)).any (·.1) = false) zau2._auto_1) : ME X O (.Call (.Name x p) (e :: es) [] pos) (jf1 m fl):=by
 obtain ⟨f,fd,ps,hl,hm,hk,hb,G⟩:=C.ex
 rintro pins s σ H Q I ⟨ρ₀,S₀,H₀,F,ρ,S,δ,Ω,R,r,Ω',hf,k⟩
 refine jii G hr hg hm hk hb .nil (fun _ _ _ _ _ _ _ z=>z.elim) ha hdb he hpl pins s σ H Q I (E:=E0) ?_
 rcases MS.b_inv hf with ⟨ds,Ω1,e1,hf⟩ | ⟨y,e1,rfl⟩
 ·refine ⟨ρ₀,S₀,H₀,F,ρ,S,δ,Ω,R,.ok ds,Ω1,e1,fun vs ρ1 S1 H1 R1 l1 v1 r1=>?_⟩
  show spE X.K X.mg n m (vs ++ []) H1 Q E0
  rw [List.append_nil]
  refine jhu R1 (C.ar ds Ω1 _ hf) r1 hf ?_
  cases r with
  | error y=>trivial
  | ok d=>exact fun v ρ2 S2 H2 R2 l2 v2 r2=>k v ρ2 S2 H2 R2 (l1.trans l2) (v1.trans v2) r2
 ·exact ⟨ρ₀,S₀,H₀,F,ρ,S,δ,Ω,R,.error y,_,e1,trivial⟩
theorem jpz {m : List D → M D} (C : Cal X.prog X.w X.K X.mg X.base k x n m) (hr : Room k X.A) (ha : MA X O (e :: es) fl) (hg : autoParam (Gl X x) zau2._auto_1) (hdb : autoParam ((x == ("__debug__" : Str)) = false) zau1._auto_1) (he : autoParam (starEach (e :: es) X.env = (false,eval e X.env) :: starEach es X.env) zau2._auto_1)
  (hpl : autoParam ((backTo pos (starEach es X.env)).any (·.1) = false) zau2._auto_1) : ME X O (.Call (.Name x p) (e :: es) [] pos) (jje m fl):=by
 obtain ⟨f,fd,ps,hl,hm,hk,hb,G⟩:=C.ex
 rintro pins s σ H Q I ⟨ρ₀,S₀,H₀,F,ρ,S,δ,Ω,R,r,Ω',hf,k⟩
 refine jii G hr hg hm hk hb .nil (fun _ _ _ _ _ _ _ z=>z.elim) ha hdb he hpl pins s σ H Q I (E:=E0) ?_
 rcases MS.b_inv hf with ⟨ds,Ω1,e1,hf⟩ | ⟨y,e1,rfl⟩
 ·refine ⟨ρ₀,S₀,H₀,F,ρ,S,δ,Ω,R,.ok ds,Ω1,e1,fun vs ρ1 S1 H1 R1 l1 v1 r1=>?_⟩
  show spD X.K n m (vs ++ []) H1 Q E0
  rw [List.append_nil]
  obtain ⟨hg,rfl⟩:=MS.l_inv hf
  refine ⟨by rw [r1.length]; exact C.ar ds r hg,ρ1,ds,r,fob (un F S1) σ O,fun b hb z=>?_,r1,hg,?_⟩
  ·rw [R1.fresh z] at hb; cases hb
  ·cases r with
   | ok d=>exact fun v H' s' rv=>k v ρ1 S1 H' (R1.mono s') l1 (v1.trans (jaq s')) rv
   | error y=>exact fun c dx H' s' xr=>xr.elim
 ·exact ⟨ρ₀,S₀,H₀,F,ρ,S,δ,Ω,R,.error y,_,e1,trivial⟩
theorem jln {c x : Str} {m : List D → MS D} {fl : DSt → MS (List D)} {δ : DSt} {od : D} {Ω Ω' : Sto} {r : Except XD D} (h : (match od with
   | .obj i=>jmi c x m i fl δ
   | _=>fun _=>none : MS D) Ω = some (r,Ω')) : ∃ i fs,od = .obj i ∧ Ω[i]? = some (.ins c fs) ∧ fs.lookup x = none ∧ ((fl δ).b fun ds=>m (.obj i :: ds)) Ω = some (r,Ω'):=by
 cases od with
 | obj i =>
  have h2 : jmi c x m i fl δ Ω = some (r,Ω'):=h
  unfold jmi at h2
  cases hi : Ω[i]? with
  | none=>rw [hi] at h2; cases h2
  | some so =>
   rw [hi] at h2
   cases so with
   | lst _=>cases h2
   | tab _ _ _ _=>cases h2
   | dct _=>cases h2
   | exc _ _=>cases h2
   | xd _=>cases h2
   | ins c' fs =>
    dsimp only at h2
    by_cases hc : c' = c ∧ fs.lookup x = none
    ·rw [if_pos hc] at h2
     obtain ⟨rfl,hn⟩:=hc
     exact ⟨i,fs,rfl,hi,hn,h2⟩
    ·rw [if_neg hc] at h2; cases h2
 | _=>cases h
theorem jfo {pl : Sem Bool} {m : List D → MS D} (C : MetE X.prog X.w X.K X.mg X.base k c x n m) (hr : Room k X.A) (ho : ME X O o fo)
  (ht : eval (.Call (.Attribute o x apos) [] [] pos) X.env = (do
   let ov ← eval o X.env
   standAt apos.atName
   let (f,first) ← holding [ov] (getMethod ov x pl)
   callWith pos f first (backTo pos (starEach [] X.env)) (backToKw pos (keywordEach [] X.env))):=by rfl) : ME X O (.Call (.Attribute o x apos) [] [] pos) (jdb c x m fo (lF fNil)):=by
 obtain ⟨Ca,f,fd,ps,hl,hm,hc,hM,hb,G⟩:=C.ex
 rintro pins s σ H Q I ⟨ρ₀,S₀,H₀,F,ρ,S,δ,Ω,R,r,Ω',hf,k⟩
 refine jqa ho hc hM G hr hb .nil (fun _ _ _ _ _ _ _ z=>z.elim) ht pins s σ H Q I (E:=E0) ?_
 rcases MS.b_inv hf with ⟨od,Ω1,e1,hf⟩ | ⟨y,e1,rfl⟩
 ·refine ⟨ρ₀,S₀,H₀,F,ρ,S,δ,Ω,R,.ok od,Ω1,e1,fun v ρ1 S1 H1 R1 l1 v1 r1=>?_⟩
  obtain ⟨i,fs,rfl,hi,hno,hf2⟩:=jln hf
  obtain ⟨ad,q1,q2⟩:=rep_obj.mp r1
  obtain ⟨ad',p1,p2,C',dx,vfs,p3,p4,p5,p6,p7⟩:=R1.sto.ats i _ hi
  rw [q1] at p1; cases p1
  rw [hm] at p3; cases p3
  refine ⟨ad,dx,vfs,q2,p4,p7.none hno,?_⟩
  have hf3 : m [.obj i] Ω1 = some (r,Ω'):=hf2
  show spE X.K X.mg n m [v] H1 Q E0
  refine jhu R1 (C.ar _ _ _ hf3) (Reps.cons r1 Reps.nil) hf3 ?_
  cases r with
  | error y=>trivial
  | ok d=>exact fun v' ρ3 S3 H3 R3 l3 v3 r3=>k v' ρ3 S3 H3 R3 (l1.trans l3) (v1.trans v3) r3
 ·exact ⟨ρ₀,S₀,H₀,F,ρ,S,δ,Ω,R,.error y,_,e1,trivial⟩
theorem jsr {m : List D → MS D} {Ca f : Addr} {vs : List V} {ds : List D} {r : Except XD D} {Q : VK} (hm : X.mg c = some (.ref Ca)) (ar : ∀ ds Ω r,m ds Ω = some r → ds.length = n) (R : RM ρ₀ S₀ H₀ F X.K X.mg O ρ S H σ δ Ω) (hr : Reps ρ X.K (hid H (fob (un F S) σ O)) ds vs) (hf : jnq c m ds Ω = some (r,Ω'))
  (k : match (generalizing:=false) r with
   | .ok d=>∀ v ρ' S' H',RM ρ₀ S₀ H₀ F X.K X.mg O ρ' S' H' σ δ Ω' → RLe ρ ρ' → Same (hid H (fob (un F S) σ O)) (hid H' (fob (un F S') σ O)) → Rep ρ' X.K (hid H' (fob (un F S') σ O)) d v → Q v H'
   | .error _=>True) : ∀ x dx,H x = none → H dx = none → dx ≠ x → spE X.K X.mg n m (.ref x :: vs) (upd (upd H dx (.own x)) x (.ins Ca dx [])) (fun v H2=>v = .non ∧ Q (.ref x) H2) E0:=by
 intro x dx hx hdx ne
 obtain ⟨t1,t2,t3⟩:=R.make (c:=c) hm hx hdx ne
 have hob : Rep (addR ρ Ω.length x) X.K (hid (upd (upd H dx (.own x)) x (.ins Ca dx [])) (fob (un F (addS S x dx)) σ O)) (.obj Ω.length) (.ref x):=rep_obj.mpr ⟨x,by unfold addR; rw [if_pos rfl],rfl⟩
 unfold jnq at hf
 rcases MS.b_inv hf with ⟨d,Ω1,e1,hf⟩ | ⟨y,e1,rfl⟩
 ·refine jhu t1 (ar _ _ _ e1) (Reps.cons hob ((hr.rho t2).mono t3)) e1 ?_
  intro v ρ2 S2 H2 R2 l2 v2 r2
  cases d with
  | non =>
   cases hf
   exact ⟨rep_non.mp r2,k (.ref x) ρ2 S2 H2 R2 (t2.trans l2) (t3.trans v2) ((hob.rho l2).mono v2)⟩
  | _=>cases hf
 ·exact jhu t1 (ar _ _ _ e1) (Reps.cons hob ((hr.rho t2).mono t3)) e1 trivial
theorem jnv {m : List D → MS D} (C : IniE X.prog X.w X.K X.mg X.base k c n m) (hr : Room (k + 1) X.A) (ha : MA X O (e :: es) fl) (hg : autoParam (Gl X c) zau2._auto_1) (hdb : autoParam ((c == ("__debug__" : Str)) = false) zau1._auto_1) (he : autoParam (starEach (e :: es) X.env = (false,eval e X.env) :: starEach es X.env) zau2._auto_1)
  (hpl : autoParam ((backTo pos (starEach es X.env)).any (·.1) = false) zau2._auto_1) : ME X O (.Call (.Name c p) (e :: es) [] pos) (jjg c m fl):=by
 obtain ⟨Ca,f,fd,ps,hl,hm,hM,hb,G⟩:=C.ex
 rintro pins s σ H Q I ⟨ρ₀,S₀,H₀,F,ρ,S,δ,Ω,R,r,Ω',hf,k⟩
 refine jth hM G hr hg hm hb .nil (fun _ _ _ _ _ _ _ z=>z.elim) ha hdb he hpl pins s σ H Q I (E:=E0) ?_
 rcases MS.b_inv hf with ⟨ds,Ω1,e1,hf⟩ | ⟨y,e1,rfl⟩
 ·refine ⟨ρ₀,S₀,H₀,F,ρ,S,δ,Ω,R,.ok ds,Ω1,e1,fun vs ρ1 S1 H1 R1 l1 v1 r1=>?_⟩
  try dsimp only
  rw [List.append_nil]
  refine jsr (f:=f) hm C.ar R1 r1 hf ?_
  cases r with
  | error y=>trivial
  | ok d=>exact fun v ρ2 S2 H2 R2 l2 v2 r2=>k v ρ2 S2 H2 R2 (l1.trans l2) (v1.trans v2) r2
 ·exact ⟨ρ₀,S₀,H₀,F,ρ,S,δ,Ω,R,.error y,_,e1,trivial⟩
end
inductive tEI (K : PySem.W.Frag) (mg : Str → Option Value) (O : List Nat) (f : DSt → MS (List D)) (σ : St) (H : Hp) (Rk : It → Hp → Prop) : Prop
 | mk (ρ₀ : Rho) (S₀ : Addr → Bool) (H₀ : Hp) (F : Addr → Bool) (ρ : Rho) (S : Addr → Bool) (δ : DSt) (Ω : Sto) (R : RM ρ₀ S₀ H₀ F K mg O ρ S H σ δ Ω) (r : Except XD (List D)) (Ω' : Sto) (hf : f δ Ω = some (r,Ω')) (k : match (generalizing:=false) r with
  | .ok ds=>∀ J ρ' S' H',RM ρ₀ S₀ H₀ F K mg O ρ' S' H' σ δ Ω' → RLe ρ ρ' → Same (hid H (fob (un F S) σ O)) (hid H' (fob (un F S') σ O)) → ItD ρ' K J ds (hid H' (fob (un F S') σ O)) → Rk J H'
  | .error _=>True)
noncomputable def MI (X : Cx) (O : List Nat) (tg iter : Expr) (f : DSt → MS (List D)) : Prop:=PI X tg iter (tEI X.K X.mg O f)
section
variable {X : Cx} {O O' B : List Nat} {a b c e o iter tg : Expr} {es : List Expr} {fa fb fo fv : DSt → MS D} {fi : DSt → MS (List D)} {pos : Pos} {st : Stmt} {g : DSt → MS Out} {tc : DSt → MS Bool} {f : Str} {cs : List Str}
theorem jnx {f : DSt → M (List D)} (h : DI X O E0 tg iter f) : MI X O tg iter (lF f):=by
 rintro pins s σ H Q I ⟨ρ₀,S₀,H₀,F,ρ,S,δ,Ω,R,r,Ω',hf,k⟩
 obtain ⟨hg,rfl⟩:=MS.l_inv hf
 refine h pins s σ H Q I ⟨ρ,_,un F S,δ,r,R.rs,hg,?_⟩
 cases r with
 | ok d=>exact fun J H' s' it=>k J ρ S H' (R.mono s') (RLe.refl _) (jaq s') it
 | error x=>exact fun c dx H' _ z=>z.elim
theorem jpe {cs : List Str} {f : Str} {x d : D} {δ : DSt} {Ω Ω' : Sto} {r : Except XD Out} (h : ((putO cs f x d).b fun _=>MS.p (.nx δ)) Ω = some (r,Ω')) : ∃ i cl fs,x = .obj i ∧ Ω[i]? = some (.ins cl fs) ∧ cs.contains cl = true ∧ fs.length < 1000 ∧ r = .ok (.nx δ) ∧ Ω' = Ω.set i (.ins cl (putD f d fs)):=by
 unfold MS.b putO at h
 cases x with
 | obj i =>
  dsimp only at h
  cases hi : Ω[i]? with
  | none=>rw [hi] at h; cases h
  | some so =>
   rw [hi] at h
   cases so with
   | lst _=>cases h
   | tab _ _ _ _=>cases h
   | dct _=>cases h
   | exc _ _=>cases h
   | xd _=>cases h
   | ins cl fs =>
    dsimp only at h
    by_cases hcl : (cs.contains cl && decide (fs.length < 1000)) = true
    ·rw [if_pos hcl] at h
     cases h
     rw [Bool.and_eq_true,decide_eq_true_eq] at hcl
     exact ⟨i,cl,fs,rfl,hi,hcl.1,hcl.2,rfl,rfl⟩
    ·rw [if_neg hcl] at h; cases h
 | _=>cases h
theorem jnz {pos' : Pos} (hc : jrq X cs f) (ho : ME X O o fo) (hv : ME X O e fv) (hs : autoParam (swapsWith e (some (.Attribute o f pos')) pos.line X.env = pure false) zau2._auto_1) : MSt X O O B (.Assign [.Attribute o f pos'] e pos) (ePut cs f fo fv):=by
 rintro pins s σ H Dn I ⟨ρ₀,S₀,H₀,F,ρ,S,δ,Ω,R,r,Ω',hf,k⟩
 refine jwl ho hv hs pins s σ H Dn I ?_
 rcases MS.b_inv hf with ⟨d,Ω1,e1,hf⟩ | ⟨x,e1,rfl⟩
 ·refine ⟨ρ₀,S₀,H₀,F,ρ,S,δ,Ω,R,.ok d,Ω1,e1,fun v ρ1 S1 H1 R1 l1 v1 r1=>?_⟩
  rcases MS.b_inv hf with ⟨x,Ω2,e2,hf⟩ | ⟨x,e2,rfl⟩
  ·refine ⟨ρ₀,S₀,H₀,F,ρ1,S1,δ,Ω1,R1,.ok x,Ω2,e2,fun u ρ2 S2 H2 R2 l2 v2 r2=>?_⟩
   obtain ⟨i,cl,fs,rfl,hi,hcl,hlt,rfl,rfl⟩:=jpe hf
   obtain ⟨ad,q1,q2⟩:=rep_obj.mp r2
   obtain ⟨ad',p1,p2,C,dx,vfs,p3,p4,p5,p6,p7⟩:=R2.sto.ats i _ hi
   rw [q1] at p1; cases p1
   obtain ⟨g1,g2⟩:=hc cl (List.contains_iff_mem.mp hcl) C p3
   have r1':=(r1.rho l2).mono v2
   obtain ⟨t1,t2⟩:=R2.put (f:=f) hi q1 p2 p3 p4 p5 p6 p7 r1'
   exact ⟨ad,C,dx,vfs,q2,p4,g1,g2,by rw [p7.length]; exact hlt,k ρ2 S2 σ _ t1 (l1.trans l2) (by rw [t2]; exact v1.trans v2)⟩
  ·exact ⟨ρ₀,S₀,H₀,F,ρ1,S1,δ,Ω1,R1,.error x,_,e2,trivial⟩
 ·exact ⟨ρ₀,S₀,H₀,F,ρ,S,δ,Ω,R,.error x,_,e1,trivial⟩
theorem jvv {body : List Stmt} {h : D → DSt → Option DSt} (hp : PassesOwn (model X.prog X.w) X.A X.env X.xe) (hc : X.calm = true) (hi : MI X O tg iter fi) (hg : DG X O tg h) (hb : MSs X O O O body g)
  (hs : autoParam (∀ x,foldedSetIterable iter X.env x = pure x) zau3._auto_1) : MSt X O O B (.For tg iter body [] pos) (eFor fi h g):=by
 rintro pins s σ H Dn I ⟨ρ₀,S₀,H₀,F,ρ,S,δ,Ω,R,r,Ω',hgf,k⟩
 refine joc hp hc hi hg hb hs pins s σ H Dn I ?_
 rcases MS.b_inv hgf with ⟨ds,Ω1,e1,hgf⟩ | ⟨y,e1,rfl⟩
 ·refine ⟨ρ₀,S₀,H₀,F,ρ,S,δ,Ω,R,.ok ds,Ω1,e1,fun J ρ1 S1 H1 R1 l1 v1 it=>?_⟩
  refine ⟨fun i m σ' H'=>m = ds.length - i ∧ i ≤ ds.length ∧ ∃ ρ' S' δ' Ω2,RM ρ₀ S₀ H₀ F X.K X.mg O ρ' S' H' σ' δ' Ω2 ∧ RLe ρ1 ρ' ∧ Same (hid H1 (fob (un F S1) σ O)) (hid H' (fob (un F S') σ' O)) ∧ forE g h (ds.drop i) δ' Ω2 = some (r,Ω'),
   ⟨ds.length,by simp,Nat.zero_le _,ρ1,S1,δ,Ω1,R1,RLe.refl _,Same.refl _,hgf⟩,?_⟩
  rintro i m σ' H' ⟨rfl,hil,ρ',S',δ',Ω2,R',l',f',hr⟩
  obtain ⟨j1,j2⟩:=it H' (fob (un F S') σ' O) i f' (fun p hp=>R'.fresh hp)
  by_cases hlt : i < ds.length
  ·obtain ⟨go,yld⟩:=j1 hlt
   refine .inr ⟨go,fun σ2 H2=>∃ ρ2 S2 δ2 Ω3,RM ρ₀ S₀ H₀ F X.K X.mg O ρ2 S2 H2 σ2 δ2 Ω3 ∧ RLe ρ1 ρ2 ∧ Same (hid H1 (fob (un F S1) σ O)) (hid H2 (fob (un F S2) σ2 O)) ∧ forE g h (ds.drop (i + 1)) δ2 Ω3 = some (r,Ω'),fun σ2 H2 ⟨ρ2,S2,δ2,Ω3,a1,a2,a3,a4⟩=>⟨ds.length - (i + 1),by omega,rfl,hlt,ρ2,S2,δ2,Ω3,a1,a2,a3,a4⟩,fun x H2 y=>?_⟩
   obtain ⟨s2,d,hd,rd⟩:=yld x H2 y
   have hdr : ds.drop i = d :: ds.drop (i + 1):=by
    rw [List.drop_eq_getElem_cons hlt]
    have : ds[i] = d:=by rw [List.getElem?_eq_getElem hlt] at hd; exact Option.some.inj hd
    rw [this]
   rw [hdr] at hr
   unfold forE at hr
   cases e2 : h d δ' with
   | none=>rw [e2] at hr; cases hr
   | some δ1 =>
    rw [e2] at hr
    dsimp only at hr
    have R2:=R'.mono s2
    have f2 : Same (hid H1 (fob (un F S1) σ O)) (hid H2 (fob (un F S') σ' O)):=f'.trans (jaq s2)
    refine ⟨ρ',_,un F S',δ',d,δ1,R2.rs,rd.rho l',e2,fun σ3 ef R3=>?_⟩
    have R3' : RM ρ₀ S₀ H₀ F X.K X.mg O ρ' S' H2 σ3 δ1 Ω2:=R2.next R3 (by rw [ef]; exact Same.refl _)
    rcases MS.b_inv hr with ⟨o,Ω3,e3,hr⟩ | ⟨y,e3,rfl⟩
    ·refine ⟨ρ₀,S₀,H₀,F,ρ',S',δ1,Ω2,R3',.ok o,Ω3,e3,?_⟩
     rw [ef]
     cases o with
     | nx δ4=>exact fun ρ4 S4 σ4 H4 R4 l4 v4=>⟨ρ4,S4,δ4,Ω3,R4,l'.trans l4,f2.trans v4,hr⟩
     | ct δ4=>exact fun ρ4 S4 σ4 H4 R4 l4 v4=>⟨ρ4,S4,δ4,Ω3,R4,l'.trans l4,f2.trans v4,hr⟩
     | bk δ4=>cases hr; exact fun ρ4 S4 σ4 H4 R4 l4 v4=>k ρ4 S4 σ4 H4 R4 (l1.trans (l'.trans l4)) (v1.trans (f2.trans v4))
     | rt v=>cases hr; exact k
    ·exact ⟨ρ₀,S₀,H₀,F,ρ',S',δ1,Ω2,R3',.error y,_,e3,trivial⟩
  ·have ei : i = ds.length:=by omega
   subst ei
   rw [List.drop_length] at hr
   cases hr
   exact .inl ⟨j2 rfl,k ρ' S' σ' H' R' (l1.trans l') (v1.trans f')⟩
 ·exact ⟨ρ₀,S₀,H₀,F,ρ,S,δ,Ω,R,.error y,_,e1,trivial⟩
end
end DL
namespace DL
open PySem PySem.Spec L2
noncomputable def jh7 (st : Stmt) (j : Nat) : Stmt:=match st with
 | .ClassDef _ _ _ b _ _ _ _ _ _ _=>b.getD j (.Pass ⟨0,0,0,0⟩)
 | _=>.Pass ⟨0,0,0,0⟩
structure ClsAt (K : PySem.W.Frag) (mg : Str → Option Value) (c : Str) (fs : List Str) : Prop where
 ok : ∀ C,mg c = some (.ref C) → Cls K C ∧ ∀ f ∈ fs,NoAttr K C f
section
variable {K : PySem.W.Frag} {mg : Str → Option Value} {h : Heap} {c x q : Str} {st : Stmt} {ps : List Str} {C f : Addr} {oc : Value} {od an : Option Addr} {osl : Array (Option Value)} {kV doc pm cdv ct : Value}
theorem jh6 {fs : List Str} (X : K.In h) (G : h.Ns mainGlobals mg) (a : PySem.W.nsIn K mainGlobals c = some (some (.ref C))) (p1 : PySem.W.plainGet K C Str.empty = true) (p2 : PySem.W.hasDictIn K C = true) (p3 : PySem.W.plainOver K C = true)
  (p4 : PySem.W.findIn K (.ref C) "__setattr__" = some (some (.builtin "object.__setattr__"))) (n : ∀ f ∈ fs,PySem.W.findIn K (.ref C) f = some none) : ClsAt K mg c fs :=
 ⟨fun C' hC=>by rw [PySem.W.mg_of X G a] at hC; cases hC; exact ⟨⟨p1,p2,p3,p4⟩,n⟩⟩
theorem ClsAt.is {X : Cx} {fs : List Str} (T : ClsAt X.K X.mg c fs) {f : Str} (hf : f ∈ fs) : jrq X [c] f:=fun c' hc C hC=>by
 rw [List.mem_singleton] at hc
 subst hc
 exact ⟨(T.ok C hC).1,(T.ok C hC).2 f hf⟩
theorem jll {fs : List Str} (X : K.In h) (G : h.Ns mainGlobals mg) (T : ClsAt K mg c fs)
  (hb : ∀ (kV doc pm : Value) (an : Option Addr) (cdv ct : Value) (us : List Value),us.length = ps.length → bindArgs (PySem.W.fnOf x q (jat st) (jah st) (jaa st) .none kV doc pm an cdv ct) ⟨us,[]⟩ = pure (ps.zip us))
  (a : PySem.W.nsIn K mainGlobals c = some (some (.ref C))) (m1 : PySem.W.findIn K (.ref C) x = some (some (.ref f))) (m2 : PySem.W.isFn K (.ref f) = true)
  (l : K.lookup f = some ⟨oc,od,.func (PySem.W.fnOf x q (jat st) (jah st) (jaa st) .none kV doc pm an cdv ct),osl⟩)
  (cd : PySem.W.codeIn K cdv q = true) (k : PySem.W.keepIn K (.ref f) = true) : MetAt K mg c x q st ps:=by
 have F:=jle (st:=st) l cd k
 have hm:=PySem.W.mg_of X G a
 exact ⟨C,f,_,hm,(T.ok C hm).1,⟨m1,m2,k⟩,F,F.binds hb⟩
theorem jpo (X : K.In h) (G : h.Ns mainGlobals mg)
  (hb : ∀ (kV doc pm : Value) (an : Option Addr) (cdv ct : Value) (us : List Value),us.length = ps.length → bindArgs (PySem.W.fnOf "__init__" q (jat st) (jah st) (jaa st) .none kV doc pm an cdv ct) ⟨us,[]⟩ = pure (ps.zip us))
  (a : PySem.W.nsIn K mainGlobals c = some (some (.ref C))) (i1 : PySem.W.makesIn K C = true) (i2 : PySem.W.findIn K (.ref C) "__init__" = some (some (.ref f))) (i3 : PySem.W.isFn K (.ref f) = true) (i4 : PySem.W.keepIn K (.ref C) = true)
  (l : K.lookup f = some ⟨oc,od,.func (PySem.W.fnOf "__init__" q (jat st) (jah st) (jaa st) .none kV doc pm an cdv ct),osl⟩)
  (cd : PySem.W.codeIn K cdv q = true) (k : PySem.W.keepIn K (.ref f) = true) : IniAt K mg c q st ps:=by
 have F:=jle (st:=st) l cd k
 exact ⟨C,f,_,PySem.W.mg_of X G a,⟨i1,i2,i3,i4⟩,F,F.binds hb⟩
end
noncomputable def mB (f : DSt → MS D) : DSt → MS Bool:=fun δ=>(f δ).b fun d=>match d with
 | .bl k=>MS.p k
 | _=>fun _=>none
section
variable {X : Cx} {O : List Nat} {a b : Expr} {fa fb : DSt → MS D} {pos : Pos}
theorem jvx {op : CmpOp} {g : D → D → Option D} {r : R2} (ho : OpR X (compareOp op) r) (hg : OpD X.K g r) (ha : ME X O a fa) (hb : ME X O b fb) (hm : behindInMarks op b = false) : MT X O (.Compare a [op] [b] pos) (mB (m2 g fa fb)):=by
 rintro pins s σ H Q I ⟨ρ₀,S₀,H₀,F,ρ,S,δ,Ω,R,rr,Ω',hf,k⟩
 refine jku ho ha hb hm pins s σ H Q I (jkk (r:=r) hg ?_)
 rcases MS.b_inv hf with ⟨x,Ω1,e1,hf⟩ | ⟨x,e1,rfl⟩
 ·cases x with
  | bl kk=>cases hf; exact ⟨ρ₀,S₀,H₀,F,ρ,S,δ,Ω,R,.ok (.bl kk),_,e1,fun v ρ' S' H' R' l sm rv=>⟨kk,rep_bl.mp rv,k ρ' S' H' R' l sm⟩⟩
  | _=>cases hf
 ·exact ⟨ρ₀,S₀,H₀,F,ρ,S,δ,Ω,R,.error x,Ω',e1,k⟩
end
noncomputable def spA (K : PySem.W.Frag) (n : Nat) (m : List D → MS D) : Sp:=fun vs H Q E=>∀ mg,spE K mg n m vs H Q E
end DL
namespace DL
open PySem PySem.Spec L2
section
variable {δ : DSt} {fa fb fc : DSt → M D} {fl : DSt → M (List D)} {g : D → D → Option D} {u : D → Option D} {k : List D → Option D} {ta tb : DSt → M Bool} {g1 g2 : DSt → M Out} {m : List D → M D} {ki : List D → Option (List D)} {fi : DSt → M (List D)} {tg : D → DSt → Option DSt}
@[simp] theorem jx0 (i : Nat) : fVar i δ = M.o (δ[i]?).join:=rfl
@[simp] theorem e_C (d : D) : fC d δ = M.p d:=rfl
@[simp] theorem e_2 : f2 g fa fb δ = (fa δ).b fun x=>(fb δ).b fun y=>M.o (g x y):=rfl
@[simp] theorem e_1 : f1 u fa δ = (fa δ).b fun x=>M.o (u x):=rfl
noncomputable def asB : Option D → M Bool
 | some (.bl b)=>M.p b
 | _=>none
@[simp] theorem juj (b : Bool) : asB (some (.bl b)) = M.p b:=rfl
@[simp] theorem e_t2 : t2 g fa fb δ = (fa δ).b fun x=>(fb δ).b fun y=>asB (g x y):=rfl
@[simp] theorem jxw : fNil δ = M.p []:=rfl
@[simp] theorem jnb : jad fa fl δ = (fa δ).b fun x=>(fl δ).b fun xs=>M.p (x :: xs):=rfl
@[simp] theorem e_L : fL k fl δ = (fl δ).b fun xs=>M.o (k xs):=rfl
@[simp] theorem jna : jbb m fl δ = (fl δ).b m:=rfl
@[simp] theorem jxx : gNot (.bl b) = some (.bl !b):=rfl
@[simp] theorem ju4 : tNot ta δ = (ta δ).b fun x=>M.p !x:=rfl
@[simp] theorem ju3 : tAnd ta tb δ = (ta δ).b fun x=>if x = true then tb δ else M.p false:=rfl
@[simp] theorem jxy : tOr ta tb δ = (ta δ).b fun x=>if x = true then M.p true else tb δ:=rfl
@[simp] theorem e_if : fIf ta fa fb δ = (ta δ).b fun x=>if x = true then fa δ else fb δ:=rfl
noncomputable def andB (b : D) (r : M D) : M D:=match b with
 | .bl true=>r
 | .bl false=>M.p (.bl false)
 | _=>none
noncomputable def orB (b : D) (r : M D) : M D:=match b with
 | .bl true=>M.p (.bl true)
 | .bl false=>r
 | _=>none
@[simp] theorem andB_t (r : M D) : andB (.bl true) r = r:=rfl
@[simp] theorem andB_f (r : M D) : andB (.bl false) r = M.p (.bl false):=rfl
@[simp] theorem orB_t (r : M D) : orB (.bl true) r = M.p (.bl true):=rfl
@[simp] theorem orB_f (r : M D) : orB (.bl false) r = r:=rfl
@[simp] theorem jxu : fAnd fa fb δ = (fa δ).b fun x=>andB x (fb δ):=rfl
@[simp] theorem e_or : fOr fa fb δ = (fa δ).b fun x=>orB x (fb δ):=rfl
@[simp] theorem jxz : tTru fa δ = (fa δ).b fun x=>M.o (truD x):=rfl
@[simp] theorem jw4 (b : Bool) : truD (.bl b) = some b:=rfl
@[simp] theorem jy3 : truD .non = some false:=rfl
@[simp] theorem e_nx : gNx δ = M.p (.nx δ):=rfl
noncomputable def seqO (g2 : DSt → M Out) : Out → M Out
 | .nx δ'=>g2 δ'
 | o=>M.p o
@[simp] theorem jom (δ' : DSt) : seqO g2 (.nx δ') = g2 δ':=rfl
@[simp] theorem jtz (d : D) : seqO g2 (.rt d) = M.p (.rt d):=rfl
@[simp] theorem jys (δ' : DSt) : seqO g2 (.bk δ') = M.p (.bk δ'):=rfl
@[simp] theorem jyt (δ' : DSt) : seqO g2 (.ct δ') = M.p (.ct δ'):=rfl
@[simp] theorem ju1 : gSeq g1 g2 δ = (g1 δ).b (seqO g2):=by
 show (g1 δ).b _ = _
 congr 1
@[simp] theorem ju2 (i : Nat) : gSet i fa δ = (fa δ).b fun d=>M.p (.nx (δ.set i (some d))):=rfl
@[simp] theorem ju0 : gRet fa δ = (fa δ).b fun d=>M.p (.rt d):=rfl
@[simp] theorem e_drop : jx2 fa δ = (fa δ).b fun _=>M.p (.nx δ):=rfl
@[simp] theorem jux : gIf ta g1 g2 δ = (ta δ).b fun b=>if b = true then g1 δ else g2 δ:=rfl
@[simp] theorem e_brk : gBrk δ = M.p (.bk δ):=rfl
@[simp] theorem e_cnt : gCnt δ = M.p (.ct δ):=rfl
noncomputable def appO (i : Nat) (δ : DSt) (d : D) : Option D → M Out
 | some (.lst ds)=>if ds.length < sizeLine then M.p (.nx (δ.set i (some (.lst (ds ++ [d]))))) else none
 | _=>none
theorem jo3 {i : Nat} {δ : DSt} {d : D} {ds : List D} (h : ds.length < sizeLine) : appO i δ d (some (.lst ds)) = M.p (.nx (δ.set i (some (.lst (ds ++ [d]))))):=if_pos h
@[simp] theorem juu (i : Nat) : gApp i fa δ = (fa δ).b fun d=>appO i δ d (δ[i]?).join:=rfl
@[simp] theorem juw : gFor fi tg g1 δ = (fi δ).b fun ds=>forD g1 tg ds δ:=rfl
@[simp] theorem jr6 : jc6 ki fl δ = (fl δ).b fun ds=>M.o (ki ds):=rfl
@[simp] theorem juy : jpn fa δ = (fa δ).b fun d=>M.o (seqD d):=rfl
@[simp] theorem e_yes : tYes δ = M.p true:=rfl
@[simp] theorem jpf (d : D) : outD (.rt d) = M.p d:=rfl
@[simp] theorem jxl (δ : DSt) : outD (.nx δ) = M.p .non:=rfl
theorem jld (N : Nat) (x0 : D) : mir 1 N g1 [x0] = (g1 (some x0 :: List.replicate (N - 1) none)).b outD:=rfl
theorem jhm (N : Nat) (x0 x1 : D) : mir 2 N g1 [x0,x1] = (g1 (some x0 :: some x1 :: List.replicate (N - 2) none)).b outD:=rfl
theorem jq0 (N : Nat) (x0 x1 x2 : D) : mir 3 N g1 [x0,x1,x2] = (g1 (some x0 :: some x1 :: some x2 :: List.replicate (N - 3) none)).b outD:=rfl
theorem juz (N : Nat) (x0 x1 x2 x3 : D) : mir 4 N g1 [x0,x1,x2,x3] = (g1 (some x0 :: some x1 :: some x2 :: some x3 :: List.replicate (N - 4) none)).b outD:=rfl
@[simp] theorem b_none {α β : Type} (f : α → M β) : M.b none f = none:=rfl
@[simp] theorem jrs {α β γ : Type} (m : M α) (f : α → M β) (h : β → M γ) : (m.b f).b h = m.b fun a=>(f a).b h:=by
 cases m with
 | none=>rfl
 | some e=>cases e <;> rfl
@[simp] theorem juv {own : Nat} {caps : List (Str × Nat)} {tc : DSt → M Bool} : jel own caps fi tg tc fa δ = (fi δ).b fun ds=>M.o ((jc3 tg tc fa ds (jeo own caps δ)).bind jb0):=rfl
end
@[simp] theorem lt_int (i j : Int) : gLt (.int i) (.int j) = some (.bl (decide (i < j))):=rfl
@[simp] theorem jvn (i j : Int) : gLe (.int i) (.int j) = some (.bl (decide (i ≤ j))):=rfl
@[simp] theorem gt_int (i j : Int) : gGt (.int i) (.int j) = some (.bl (decide (j < i))):=rfl
@[simp] theorem jvb (i j : Int) : gGe (.int i) (.int j) = some (.bl (decide (j ≤ i))):=rfl
@[simp] theorem add_int (i j : Int) : gAdd (.int i) (.int j) = some (.int (i + j)):=rfl
@[simp] theorem sub_int (i j : Int) : gSub (.int i) (.int j) = some (.int (i - j)):=rfl
@[simp] theorem neg_int (i : Int) : gNeg (.int i) = some (.int (-i)):=rfl
theorem jbo {i j : Int} (h : 0 < j) : gMod (.int i) (.int j) = some (.int (i % j)):=if_pos h
noncomputable def Bt (k : Nat) (i : Int) : Prop:=i.natAbs < 2 ^ k
theorem Bt.mono {a b : Nat} {i : Int} (h : Bt a i) (hab : a ≤ b) : Bt b i:=Nat.lt_of_lt_of_le h (Nat.pow_le_pow_right (by decide) hab)
theorem Bt.mul {a b : Nat} {i j : Int} (h : Bt a i) (k : Bt b j) : Bt (a + b) (i * j):=by
 unfold Bt at *
 rw [Int.natAbs_mul,Nat.pow_add]
 exact Nat.mul_lt_mul'' h k
theorem Bt.add {a : Nat} {i j : Int} (h : Bt a i) (k : Bt a j) : Bt (a + 1) (i + j):=by
 unfold Bt at *
 rw [Nat.pow_succ]
 omega
theorem Bt.big {k : Nat} {i : Int} (h : Bt k i) (hk : k ≤ 100000) : je1 i = true:=by
 have h':=Nat.lt_of_lt_of_le h (Nat.pow_le_pow_right (by decide : 2 > 0) hk)
 rw [← jmu] at h'
 unfold je1 BIG
 rw [Bool.and_eq_true,decide_eq_true_eq,decide_eq_true_eq]
 omega
theorem jvz {a b : Nat} {i j : Int} (h : Bt a i) (k : Bt b j) (ha : autoParam (a ≤ 100000) zau1._auto_1) (hb : autoParam (b ≤ 100000) zau1._auto_1) : gMul (.int i) (.int j) = some (.int (i * j)):=by
 have : (je1 i && je1 j) = true:=by rw [h.big ha,k.big hb]; rfl
 exact if_pos this
theorem jdz {i j : Int} (h : 0 < j) (h2 : j < 2 ^ 200) : je5 (.int i) (.int j) = some (.int (i / j)):=by
 refine if_pos ⟨h,?_⟩
 unfold DIVB
 have : (2 ^ 200 : Nat) ≤ 2 ^ 9000:=Nat.pow_le_pow_right (by decide) (by decide)
 rw [← jmv] at this
 omega
theorem jtm {i : Int} {j : Int} (h : 0 ≤ j ∧ j ≤ 1000 ∧ -(2 ^ 60) < i ∧ i < 2 ^ 60) : gPow (.int i) (.int j) = some (.int (i ^ j.toNat)):=if_pos h
theorem atI_get {α : Type} {xs : List α} {j : Nat} {v : α} (h : xs[j]? = some v) : atI xs (j : Int) = some v:=by
 have hj:=(List.getElem?_eq_some_iff.mp h).1
 unfold atI ixN
 rw [if_pos (by omega),if_pos (by omega)]
 simpa using h
@[simp] theorem ix_t (ds : List D) (i : Int) : gIx (.tup ds) (.int i) = atI ds i:=rfl
@[simp] theorem ix_l (ds : List D) (i : Int) : gIx (.lst ds) (.int i) = atI ds i:=rfl
@[simp] theorem at0 {α : Type} (x : α) (xs : List α) : atI (x :: xs) 0 = some x:=by
 have:=atI_get (xs:=x :: xs) (j:=0) (v:=x) rfl
 simpa using this
@[simp] theorem at1 {α : Type} (x y : α) (xs : List α) : atI (x :: y :: xs) 1 = some y:=by
 have:=atI_get (xs:=x :: y :: xs) (j:=1) (v:=y) rfl
 simpa using this
@[simp] theorem at2 {α : Type} (x y z : α) (xs : List α) : atI (x :: y :: z :: xs) 2 = some z:=by
 have:=atI_get (xs:=x :: y :: z :: xs) (j:=2) (v:=z) rfl
 simpa using this
@[simp] theorem at3 {α : Type} (x y z w : α) (xs : List α) : atI (x :: y :: z :: w :: xs) 3 = some w:=by
 have:=atI_get (xs:=x :: y :: z :: w :: xs) (j:=3) (v:=w) rfl
 simpa using this
@[simp] theorem jya (ds : List D) : kLen [.lst ds] = some (.int ds.length):=rfl
@[simp] theorem jyb (ds : List D) : kLen [.tup ds] = some (.int ds.length):=rfl
@[simp] theorem jt3 (ds : List D) : kTuple [.lst ds] = some (.tup ds):=rfl
@[simp] theorem jvq (ds : List D) : kList [.lst ds] = some (.lst ds):=rfl
@[simp] theorem jws (j : Int) : jbv [.int j] = some (ja4 0 j.toNat):=rfl
@[simp] theorem jwt (i j : Int) : jbv [.int i,.int j] = some (ja4 i (j - i).toNat):=rfl
@[simp] theorem enum_l (xs : List D) : jex [.lst xs] = some (jdr 0 xs):=rfl
@[simp] theorem jwz (ds : List D) : seqD (.lst ds) = some ds:=rfl
@[simp] theorem jyw (ds : List D) : seqD (.tup ds) = some ds:=rfl
@[simp] theorem kmin (i j : Int) : kMin [.int i,.int j] = some (.int (if j < i then j else i)):=rfl
@[simp] theorem jx8 (b : Bool) : kInt [.bl b] = some (.int (if b then 1 else 0)):=rfl
@[simp] theorem jy4 (x y : D) : jc4 [x,y] = some (.tup [x,y]):=rfl
@[simp] theorem jy5 (x y z : D) : jc4 [x,y,z] = some (.tup [x,y,z]):=rfl
@[simp] theorem tupD4 (x y z w : D) : jc4 [x,y,z,w] = some (.tup [x,y,z,w]):=rfl
@[simp] theorem jyc : jb0 [] = some (.lst []):=rfl
@[simp] theorem jyd (x : D) : jb0 [x] = some (.lst [x]):=rfl
@[simp] theorem jye (x y : D) : jb0 [x,y] = some (.lst [x,y]):=rfl
@[simp] theorem jyf (x y z : D) : jb0 [x,y,z] = some (.lst [x,y,z]):=rfl
theorem jso {ds : List D} (h : ds.length ≤ sizeLine) : jb0 ds = some (.lst ds):=if_pos h
@[simp] theorem ju6 (i j : Int) : gEq (.int i) (.int j) = some (.bl (i == j)):=rfl
@[simp] theorem jv2 (i j : Int) : gNe (.int i) (.int j) = some (.bl !(i == j)):=rfl
@[simp] theorem eq_bl (i j : Bool) : gEq (.bl i) (.bl j) = some (.bl (i == j)):=rfl
theorem jnc {d : D} (h1 : okD d = true) (h2 : depD d ≤ 20) : gEq d d = some (.bl true):=by
 unfold gEq
 rw [if_pos (by rw [h1,decide_eq_true h2]; rfl),jfk d h1]
theorem jql (ns : List Int) : kSum [.lst (ns.map .int)] = some (.int ns.sum):=by
 show (match seqD (.lst (ns.map D.int)) with | some ds=>(jhd ds).map fun (ns : List Int)=>D.int ns.sum | none=>none) = _
 rw [jwz]
 dsimp only
 rw [jni]
 rfl
@[simp] theorem jki (i : Int) : kIsi [.int i,.ty "int"] = some (.bl true):=rfl
@[simp] theorem jjb (i : Int) : kIsi [.int i,.ty "bool"] = some (.bl false):=rfl
@[simp] theorem jkh (i : Bool) : kIsi [.bl i,.ty "bool"] = some (.bl true):=rfl
@[simp] theorem jpr (i : List D) : kIsi [.tup i,.ty "tuple"] = some (.bl true):=rfl
theorem jk1 : ∀ (xs ys : List D),zipD xs ys = (xs.zip ys).map fun p=>.tup [p.1,p.2]
 | [],_=>by simp [zipD]
 | _ :: _,[]=>by simp [zipD]
 | x :: xs,y :: ys=>by simp [zipD,jk1 xs ys]
theorem jnd {g : DSt → M Out} {tg : D → DSt → Option DSt} (I : List D → DSt → Prop) (h : ∀ d ds δ,I (d :: ds) δ → ∃ δ1,tg d δ = some δ1 ∧ ∃ δ2,(g δ1 = some (.ok (.nx δ2)) ∨ g δ1 = some (.ok (.ct δ2))) ∧ I ds δ2) :
  ∀ (ds : List D) (δ : DSt),I ds δ → ∃ δ',forD g tg ds δ = some (.ok (.nx δ')) ∧ I [] δ'
 | [],δ,hi=>⟨δ,rfl,hi⟩
 | d :: ds,δ,hi=>by
  obtain ⟨δ1,e1,δ2,e2,i2⟩:=h d ds δ hi
  obtain ⟨δ',e3,i3⟩:=jnd I h ds δ2 i2
  refine ⟨δ',?_,i3⟩
  unfold forD
  rw [e1]
  dsimp only
  rcases e2 with e2 | e2 <;> (rw [e2]; exact e3)
@[simp] theorem jxm (i : Nat) (d : D) (δ : DSt) : gName i d δ = some (δ.set i (some d)):=rfl
@[simp] theorem jxn (i j : Nat) (x y : D) (δ : DSt) : jcn i j (.tup [x,y]) δ = some ((δ.set i (some x)).set j (some y)):=rfl
end DL
namespace DL
open PySem PySem.Spec L2
theorem jgq {g : DSt → M Out} {tg : D → DSt → Option DSt} (ds : List D) (I : Nat → DSt → Prop)
  (h : ∀ (j : Nat) (hj : j < ds.length) (δ : DSt),I j δ → ∃ δ1,tg ds[j] δ = some δ1 ∧ ∃ δ2,(g δ1 = some (.ok (.nx δ2)) ∨ g δ1 = some (.ok (.ct δ2))) ∧ I (j + 1) δ2) (δ : DSt) (h0 : I 0 δ) :
  ∃ δ',forD g tg ds δ = some (.ok (.nx δ')) ∧ I ds.length δ':=by
 obtain ⟨δ',e,j,hd,hj,hi⟩:=jnd (g:=g) (tg:=tg) (fun rem δ=>∃ j,rem = ds.drop j ∧ j ≤ ds.length ∧ I j δ) (fun d rem δ ⟨j,hr,hj,hi⟩=>by
  have hlt : j < ds.length:=by
   by_cases q : j < ds.length
   ·exact q
   ·rw [List.drop_eq_nil_of_le (by omega)] at hr; cases hr
  rw [List.drop_eq_getElem_cons hlt] at hr
  obtain ⟨rfl,rfl⟩:=List.cons.inj hr
  obtain ⟨δ1,e1,δ2,e2,i2⟩:=h j hlt δ hi
  exact ⟨δ1,e1,δ2,e2,j + 1,rfl,hlt,i2⟩) ds δ ⟨0,rfl,Nat.zero_le _,h0⟩
 refine ⟨δ',e,?_⟩
 have : j = ds.length:=by
  have:=congrArg List.length hd
  simp at this
  omega
 rw [← this]; exact hi
@[simp] theorem jui (lo : Int) (n : Nat) : (ja4 lo n).length = n:=by simp [ja4]
@[simp] theorem juh (lo : Int) (n j : Nat) (h : j < (ja4 lo n).length) : (ja4 lo n)[j] = .int (lo + j):=by simp [ja4]
theorem jmh {lo : Int} {n : Nat} {d : D} (h : d ∈ ja4 lo n) : ∃ j : Nat,j < n ∧ d = .int (lo + j):=by
 unfold ja4 at h
 obtain ⟨j,hj,rfl⟩:=List.mem_map.mp h
 exact ⟨j,List.mem_range.mp hj,rfl⟩
end DL
namespace DL
open PySem PySem.Spec L2
section
variable {δ : DSt} {fa fb fc : DSt → M D} {fl : DSt → M (List D)} {g : D → D → Option D} {k : List D → Option D} {ta : DSt → M Bool}
@[simp] theorem jxv (i : Nat) : gAug i g fa δ = (M.o (δ[i]?).join).b fun x=>(fa δ).b fun y=>(M.o (g x y)).b fun d=>M.p (.nx (δ.set i (some d))):=rfl
@[simp] theorem jrz (i j : Int) : gCat (.int i) (.int j) = some (.int (i + j)):=rfl
theorem jdl {a b : Nat} {i j : Int} (h : Bt a i) (k : Bt b j) (ha : autoParam (a ≤ 100000) zau1._auto_1) (hb : autoParam (b ≤ 100000) zau1._auto_1) : jcw (.int i) (.int j) = some (.int (i * j)):=jvz h k ha hb
@[simp] theorem e_asg (h : D → DSt → Option DSt) : gAsg h fa δ = (fa δ).b fun d=>match h d δ with
 | some δ'=>M.p (.nx δ')
 | none=>none:=rfl
@[simp] theorem e_tup3 (i j l : Nat) (x y z : D) : jx3 i j l (.tup [x,y,z]) δ = some (((δ.set i (some x)).set j (some y)).set l (some z)):=rfl
@[simp] theorem jsi (b : Bool) : jx6 [.bl b] = some (.int (if b then 1 else 0)):=rfl
theorem jdp {c : DSt} {fe : DSt → M D} {α : Type} {K : α → D × D} {F : α → D} (ps : List α) (x y : Option D) (h : ∀ p ∈ ps,fe (some (K p).1 :: some (K p).2 :: c) = some (.ok (F p))) : jc3 (jcn 0 1) tYes fe (ps.map fun p=>.tup [(K p).1,(K p).2]) (x :: y :: c) = some (ps.map F):=by
 induction ps generalizing x y with
 | nil=>rfl
 | cons p ps ih =>
  rw [List.map_cons]
  unfold jc3
  have e1 : jcn 0 1 (.tup [(K p).1,(K p).2]) (x :: y :: c) = some (some (K p).1 :: some (K p).2 :: c):=rfl
  rw [e1]
  dsimp only [tYes,M.p]
  rw [h p List.mem_cons_self]
  dsimp only
  rw [ih (some (K p).1) (some (K p).2) fun e he=>h e (List.mem_cons_of_mem _ he)]
  rfl
theorem jiy {c : DSt} {fe : DSt → M D} {α : Type} {K : α → D} {F : α → D} (ps : List α) (x : Option D) (h : ∀ p ∈ ps,fe (some (K p) :: c) = some (.ok (F p))) : jc3 (gName 0) tYes fe (ps.map K) (x :: c) = some (ps.map F):=by
 induction ps generalizing x with
 | nil=>rfl
 | cons p ps ih =>
  rw [List.map_cons]
  unfold jc3
  have e1 : gName 0 (K p) (x :: c) = some (some (K p) :: c):=rfl
  rw [e1]
  dsimp only [tYes,M.p]
  rw [h p List.mem_cons_self]
  dsimp only
  rw [ih (some (K p)) fun e he=>h e (List.mem_cons_of_mem _ he)]
  rfl
theorem jo1 (as bs : List Int) : zipD (as.map .int) (bs.map .int) = (as.zip bs).map fun p=>.tup [.int p.1,.int p.2]:=by
 rw [jk1,List.zip_map,List.map_map]; rfl
end
end DL
namespace DL
open PySem PySem.Spec L2
noncomputable def jru {α β : Type} (r : Option (Except XD α × Sto)) (f : α → MS β) : Option (Except XD β × Sto):=match r with
 | none=>none
 | some (.error x,Ω')=>some (.error x,Ω')
 | some (.ok a,Ω')=>f a Ω'
section
variable {α β : Type} {Ω Ω' : Sto} {δ : DSt} {fa fb fo : DSt → MS D} {fl : DSt → MS (List D)} {ta : DSt → MS Bool} {g1 g2 : DSt → MS Out} {g : D → D → Option D}
@[simp] theorem s_b (m : MS α) (f : α → MS β) : (m.b f) Ω = jru (m Ω) f:=by
 unfold MS.b jru
 cases m Ω with
 | none=>rfl
 | some p=>obtain ⟨q,Ω1⟩:=p; cases q <;> rfl
@[simp] theorem s_bok (a : α) (f : α → MS β) : jru (some (.ok a,Ω')) f = f a Ω':=rfl
@[simp] theorem s_p (a : α) : MS.p a Ω = some (.ok a,Ω):=rfl
@[simp] theorem s_lp (a : α) : MS.l (M.p a) Ω = some (.ok a,Ω):=rfl
@[simp] theorem s_lok (a : α) : MS.l (some (.ok a) : M α) Ω = some (.ok a,Ω):=rfl
@[simp] theorem s_o (a : α) : MS.o (some a) Ω = some (.ok a,Ω):=rfl
@[simp] theorem s_lF (f : DSt → M α) : lF f δ = MS.l (f δ):=rfl
@[simp] theorem s_get (cs : List Str) (f : Str) : mGet cs f fa δ = (fa δ).b fun x=>getO cs f x:=rfl
@[simp] theorem s_cons : jc7 fa fl δ = (fa δ).b fun x=>(fl δ).b fun xs=>MS.p (x :: xs):=rfl
@[simp] theorem s_2 : m2 g fa fb δ = (fa δ).b fun x=>(fb δ).b fun y=>MS.o (g x y):=rfl
@[simp] theorem s_L (k : List D → Option D) : mL k fl δ = (fl δ).b fun xs=>MS.o (k xs):=rfl
@[simp] theorem jyr (m : List D → M D) : jje m fl δ = (fl δ).b fun ds=>MS.l (m ds):=rfl
@[simp] theorem s_call (m : List D → MS D) : jf1 m fl δ = (fl δ).b m:=rfl
@[simp] theorem s_set (i : Nat) : eSet i fa δ = (fa δ).b fun d=>MS.p (.nx (δ.set i (some d))):=rfl
@[simp] theorem s_ret : eRet fa δ = (fa δ).b fun d=>MS.p (.rt d):=rfl
@[simp] theorem s_drop : jgp fa δ = (fa δ).b fun _=>MS.p (.nx δ):=rfl
@[simp] theorem s_put (cs : List Str) (f : Str) : ePut cs f fo fa δ = (fa δ).b fun d=>(fo δ).b fun x=>(putO cs f x d).b fun _=>MS.p (.nx δ):=rfl
@[simp] theorem s_if : eIf ta g1 g2 δ = (ta δ).b fun b=>if b = true then g1 δ else g2 δ:=rfl
@[simp] theorem s_nx : eNx δ = MS.p (.nx δ):=rfl
@[simp] theorem s_not : mNot ta δ = (ta δ).b fun x=>MS.p !x:=rfl
@[simp] theorem s_tru : mTru fa δ = (fa δ).b fun x=>MS.o (truD x):=rfl
noncomputable def asBS : D → MS Bool
 | .bl k=>MS.p k
 | _=>fun _=>none
@[simp] theorem jxs (k : Bool) : asBS (.bl k) = MS.p k:=rfl
@[simp] theorem s_B : mB fa δ = (fa δ).b asBS:=by
 show (fa δ).b _ = _
 congr 1
noncomputable def seqS (g2 : DSt → MS Out) : Out → MS Out
 | .nx δ'=>g2 δ'
 | o=>MS.p o
@[simp] theorem jyu (δ' : DSt) : seqS g2 (.nx δ') = g2 δ':=rfl
@[simp] theorem jyv (d : D) : seqS g2 (.rt d) = MS.p (.rt d):=rfl
@[simp] theorem s_seq : eSeq g1 g2 δ = (g1 δ).b (seqS g2):=by
 show (g1 δ).b _ = _
 congr 1
@[simp] theorem jxp (d : D) : outE (.rt d) = MS.p d:=rfl
@[simp] theorem jxo (δ : DSt) : outE (.nx δ) = MS.p .non:=rfl
@[simp] theorem s_meth (c x : Str) (m : List D → MS D) : jdb c x m fo fl δ = (fo δ).b fun o=>match o with
 | .obj i=>jmi c x m i fl δ
 | _=>fun _=>none:=rfl
@[simp] theorem s_make (c : Str) (m : List D → MS D) : jjg c m fl δ = (fl δ).b fun ds=>jnq c m ds:=rfl
@[simp] theorem s_for (fi : DSt → MS (List D)) (tg : D → DSt → Option DSt) : eFor fi tg g1 δ = (fi δ).b fun ds=>forE g1 tg ds δ:=rfl
end
end DL
namespace DL
open PySem PySem.Spec L2
section
variable {X : Cx} {O : List Nat} {E : XK} {b : Expr} {fb : DSt → M D} {pos : Pos}
theorem jqy (i : Nat) {x : Str} {p : Pos} (ho : O.contains i = true) (hb : DE X O E b fb) (hN : autoParam (X.N[i]? = some x) zau2._auto_1) (hv : autoParam (Vis X.env.scope x) zau4._auto_1)
  (hd : autoParam ((x == ("__debug__" : Str)) = false) zau1._auto_1) (hcd : autoParam ((x == ("__classdict__" : Str)) = false) zau1._auto_1) (hs : autoParam (jhv b) zau5._auto_1) : DE X O E (.Subscript (.Name x p) b pos) (f2 gIx (fVar i) fb):=by
 rintro pins s σ H Q I ⟨ρ,H₀,F,δ,r,R,hf,k⟩
 have ho' : i ∈ O:=List.contains_iff_mem.mp ho
 obtain ⟨l,xs,ds,q1,q2,q3,q4,q5⟩:=R.own i ho'
 refine jtg jao (jls hN hv hd hcd) hb hs pins s σ H Q I ⟨.ref l,q2,?_⟩
 have e0 : fVar i δ = some (.ok (.lst ds)):=by unfold fVar; rw [q1]; rfl
 rcases M.b_inv hf with ⟨x,e1,hf⟩ | ⟨x,e1,rfl⟩
 ·rw [e0] at e1
  cases e1
  rcases M.b_inv hf with ⟨y,e2,hf⟩ | ⟨y,e2,rfl⟩
  ·refine ⟨ρ,H₀,F,δ,.ok y,R,e2,fun v H2 s2 r2=>?_⟩
   obtain ⟨d,hd,rfl⟩:=M.o_inv hf
   unfold gIx at hd
   split at hd
   ·rename_i z; cases z
    obtain ⟨w,e,r⟩:=jkw q5 hd
    exact .inl ⟨l,xs,_,w,rfl,rep_int.mp r2,SqL.of (s2 _ _ q3),e,k w H2 s2 (r.mono (jaq s2))⟩
   ·rename_i z; cases z
   ·rename_i z; cases z
   ·cases hd
  ·exact ⟨ρ,H₀,F,δ,.error y,R,e2,k⟩
 ·rw [e0] at e1; cases e1
end
end DL
namespace DL
open PySem PySem.Spec L2
theorem jts (own : Nat) (caps : List (Str × Nat)) (δ : DSt) : jeo own caps δ = List.replicate own none ++ caps.map fun p=>(δ[p.2]?).join:=rfl
theorem jxk (xs ys : List D) : jb6 [.tup xs,.tup ys] = some (zipD xs ys):=rfl
theorem jxj (xs ys : List D) : jb6 [.tup xs,.lst ys] = some (zipD xs ys):=rfl
theorem jxi (xs ys : List D) : jb6 [.lst xs,.tup ys] = some (zipD xs ys):=rfl
theorem jxh (xs ys : List D) : jb6 [.lst xs,.lst ys] = some (zipD xs ys):=rfl
theorem jyg (i j : Bool) : gNe (.bl i) (.bl j) = some (.bl !(i == j)):=rfl
theorem js5 {d : D} (h1 : okD d = true) (h2 : depD d ≤ 20) : gNe d d = some (.bl false):=by
 unfold gNe
 rw [if_pos (by rw [h1,decide_eq_true h2]; rfl),jfk d h1]
 rfl
theorem jdi {α : Type} {f : α → D} : ∀ {xs : List α},(∀ x ∈ xs,okD (f x) = true) → okDs (xs.map f) = true
 | [],_=>by rw [List.map_nil]; unfold okDs; rfl
 | x :: xs,h=>by rw [List.map_cons]; unfold okDs; rw [h x List.mem_cons_self,jdi fun y hy=>h y (List.mem_cons_of_mem _ hy)]; rfl
theorem jcl {α : Type} {f : α → D} {k : Nat} : ∀ {xs : List α},(∀ x ∈ xs,depD (f x) ≤ k) → depDs (xs.map f) ≤ k
 | [],_=>by rw [List.map_nil]; unfold depDs; omega
 | x :: xs,h=>by
  rw [List.map_cons]; unfold depDs
  have h1:=h x List.mem_cons_self
  have h2:=jcl (f:=f) (k:=k) (xs:=xs) fun y hy=>h y (List.mem_cons_of_mem _ hy)
  omega
theorem jd9 {g1 g2 : DSt → M Out} {δ δ' : DSt} (h : g1 δ = some (.ok (.nx δ'))) : gSeq g1 g2 δ = g2 δ':=by rw [ju1,h,M.b_ok,jom]
theorem w_if {t : DSt → M Bool} {g1 g2 : DSt → M Out} {δ : DSt} {b : Bool} (h : t δ = some (.ok b)) : gIf t g1 g2 δ = if b = true then g1 δ else g2 δ:=by rw [jux,h,M.b_ok]
theorem jt8 {fa : DSt → M D} {δ : DSt} {d : D} (hd : fa δ = some (.ok d)) : gRet fa δ = some (.ok (.rt d)):=by rw [ju0,hd,M.b_ok]; rfl
theorem jea {fa : DSt → M D} {δ : DSt} {d : D} (i : Nat) (hd : fa δ = some (.ok d)) : gSet i fa δ = some (.ok (.nx (δ.set i (some d)))):=by rw [ju2,hd,M.b_ok]; rfl
theorem jox {fi : DSt → M (List D)} {tg : D → DSt → Option DSt} {g : DSt → M Out} {δ : DSt} {ds : List D} (h : fi δ = some (.ok ds)) : gFor fi tg g δ = forD g tg ds δ:=by rw [juw,h,M.b_ok]
theorem jow {fa : DSt → M D} {δ : DSt} {d : D} {ds : List D} (i : Nat) (hd : fa δ = some (.ok d)) (hi : δ[i]? = some (some (.lst ds))) (hl : ds.length ≤ 100000) : gApp i fa δ = some (.ok (.nx (δ.set i (some (.lst (ds ++ [d])))))):=by
 rw [juu,hd,M.b_ok,hi]
 exact jo3 (by have:=sizeLine_eq; omega)
theorem jfn {ds : List D} (h : ds.length ≤ 1000) : jb0 ds = some (.lst ds):=jso (Nat.le_trans h (by decide))
noncomputable def stp:=And.intro (@if_true.{1}) <| And.intro (@if_false.{1}) <| And.intro (@Bool.false_eq_true) <| And.intro (@ju1) <| And.intro (@ju2) <| And.intro (@e_2) <| And.intro (@e_1) <| And.intro (@e_t2) <| And.intro (@ju0) <| And.intro (@jux) <| And.intro (@juw) <| And.intro (@jr6) <| And.intro (@juy) <| And.intro (@juv) <| And.intro (@jna) <| And.intro (@jnb) <| And.intro (@jx0) <| And.intro (@jxw) <| And.intro (@e_C) <| And.intro (@e_L) <| And.intro (@e_if) <| And.intro (@jxz) <| And.intro (@ju3) <| And.intro (@jxy) <| And.intro (@ju4) <| And.intro (@jxx) <| And.intro (@e_nx) <| And.intro (@jxv) <| And.intro (@juu) <| And.intro (@jxu) <| And.intro (@e_or) <| And.intro (@M.o_some) <| And.intro (@M.b_p) <| And.intro (@M.b_ok) <| And.intro (@jrs) <| And.intro (@jom) <| And.intro (@jtz) <| And.intro (@jpf) <| And.intro (@ix_t) <| And.intro (@ix_l) <| And.intro (@at0) <| And.intro (@at1) <| And.intro (@at2) <| And.intro (@at3) <| And.intro (@jwz) <| And.intro (@jyw) <| And.intro (@jt3) <| And.intro (@jvq) <| And.intro (@jya) <| And.intro (@jyb) <| And.intro (@jy4) <| And.intro (@jy5) <| And.intro (@jyc) <| And.intro (@jyd) <| And.intro (@jye) <| And.intro (@jyf) <| And.intro (@jrz) <| And.intro (@sub_int) <| And.intro (@neg_int) <| And.intro (@ju6) <| And.intro (@jv2) <| And.intro (@jyg) <| And.intro (@lt_int) <| And.intro (@jvn) <| And.intro (@gt_int) <| And.intro (@jvb) <| And.intro (@juj) <| And.intro (@jw4) <| And.intro (@jws) <| And.intro (@jwt) <| And.intro (@Int.toNat_natCast) <| And.intro (@jo1) <| And.intro (@jts) <| And.intro (@jxk) <| And.intro (@jxj) <| And.intro (@jxi) <| And.intro (@jxh) <| And.intro (@jki) <| And.intro (@jjb) <| And.intro (@jkh) <| And.intro (@jsi) <| And.intro (@List.replicate_succ.{0}) <| And.intro (@List.replicate_zero.{0}) <| And.intro (@List.set_cons_succ.{0}) <| And.intro (@List.set_cons_zero.{0}) <| And.intro (@List.getElem?_cons_zero.{0}) <| And.intro (@List.getElem?_cons_succ.{0}) <| And.intro (@Option.join_some.{0}) <| And.intro (@List.map_nil.{0,0}) <| And.intro (@List.map_cons.{0,0}) <| And.intro (@List.append_nil.{0}) <| And.intro (@List.cons_append.{0}) <| And.intro (@List.nil_append.{0}) <| And.intro (@Option.bind_some.{0,0}) <| True.intro
theorem jky {α : Type} (xs : List α) (f : α → Int) : kSum [.lst (xs.map fun x=>.int (f x))] = some (.int (xs.map f).sum):=by
 have : (xs.map fun x=>D.int (f x)) = (xs.map f).map .int:=by rw [List.map_map]; rfl
 rw [this,jql]
theorem jg6 {α β : Type} (f : α → D) (g : β → D) (as : List α) (bs : List β) : zipD (as.map f) (bs.map g) = (as.zip bs).map fun p=>.tup [f p.1,g p.2]:=by
 rw [jk1,List.zip_map,List.map_map]; rfl
end DL
namespace L2
open PySem PySem.Spec PyProof.Rows
section
variable {prog : Program} {w : World} {A : Around} {E : Value → Shared → Prop} {s : Shared} {I : Addr} {fp wr : List Addr} {G : Array GenState → Array GenState → Prop} {n : Nat} {P : Nat → Value → Prop} {St : Nat → Shared → Prop}
end
end L2
namespace DL
open PySem PySem.Spec L2
section
variable {X : Cx} {O : List Nat} {E : XK} {e o : Expr} {fo fe : DSt → M D} {pos p : Pos}
end
end DL
namespace L2
open PySem PySem.Spec PyProof.Rows
section
variable {X : Cx}
theorem jm5 {elt tg iter : Expr} {ifs : List Expr} {scope : Scope} {pos p0 : Pos} {own : List Str} {caps : List (Str × Nat)} {wi : TI} {g : TG} {tc : TT} {te : TE} {use : Option (Value → Sem Unit)} {QS : Value → Shared → Prop} (hc : X.calm = true) (ck : CapsOk X scope caps)
  (hi : PI X tg iter wi) (hg : ∀ C s0 H0 ex,PG (jbe X scope (own ++ caps.map (·.1)) C s0 H0 ex) tg g) (ht : ∀ C s0 H0 ex,PC0 (jbe X scope (own ++ caps.map (·.1)) C s0 H0 ex) ifs tc)
  (he : ∀ C s0 H0 ex,PE (jbe X scope (own ++ caps.map (·.1)) C s0 H0 ex) elt te) (hs : ∀ x,foldedSetIterable iter X.env x = pure x)
  {pins : List (Addr × Obj)} {s : Shared} {σ : St} {H : Hp} {Q : VK} (I : Inv X pins σ H s) (h : jqm own.length caps wi g tc te σ H Q)
  (fin : ∀ D H5 C s6 r,Inv X pins σ H5 s6 → FpOk X pins H5 C → (∃ m,s6.heap.Ns C m) → Q (.ref D) H5 → compPost (model X.prog X.w) X.A X.xe use QS (.ref D) C (.ok r) s6) :
  wpAny (model X.prog X.w) X.A (comprehension (.ListComp elt [⟨tg,iter,ifs,0⟩] scope pos) scope X.env p0 (newList []) false (eval iter X.env) use) QS X.xe s:=by
 have hcl : closureFor scope X.env = pure (clOf X.env.cells scope.names []):=jhk fun p hp hf=>I.ok.has p.1 (ck.fre p hp hf)
 refine wpAny_comprehension_free rfl hs hcl ck.kind ck.loc (thn (hi pins s σ H _ I h) fun v s1 h1=>thn h1 fun itv s2 h2=>?_)
 obtain ⟨it,fp,tn,J,H2,e,I2,T,st2,f2,hw⟩:=h2
 subst e
 obtain ⟨W,⟨m0,w0⟩,turn⟩:=hw s2.heap.objs.size (I2.hok.fresh (Nat.le_refl _))
 refine wpAny_newObj_type ?_
 have hD:=I2.hok.fresh (Nat.le_refl s2.heap.objs.size)
 have I3 : Inv X pins σ (upd H2 s2.heap.objs.size (.lst [])) { s2 with heap:=s2.heap.push { cls:=.type "list",data:=.seq ([] : List Value).toArray } } :=
  I2.laid (t':=s2.toks) (fun b u e=>Heap.get?_push_of_some _ e) (Nat.le_refl _) ⟨Nat.zero_le _,[],0,.nil,Heap.get?_push_size _ rfl⟩
 have hlt : ∀ b ∈ fp,b < s2.heap.objs.size:=fun b hb=>by obtain ⟨o,e,_⟩:=T.obj _ _ st2 b hb; exact Heap.lt_size e
 have f3 : ∀ b ∈ fp,FpOk X pins (upd H2 s2.heap.objs.size (.lst [])) b:=fun b hb=>⟨by rw [jai (Nat.ne_of_lt (hlt b hb))]; exact (f2 b hb).1,(f2 b hb).2⟩
 have hlt3 : ∀ b ∈ fp,b < (s2.heap.push { cls:=.type "list",data:=.seq ([] : List Value).toArray }).objs.size:=fun b hb=>by rw [Heap.size_push]; exact Nat.lt_succ_of_lt (hlt b hb)
 refine wpAny_newFunctionEnv ck.nocell (by intro y hy; simp at hy) (fun h' hns hsb=>?_) ck.kind
 generalize hS3 : ({ s2 with heap:=s2.heap.push { cls:=.type "list",data:=.seq ([] : List Value).toArray } } : Shared) = S3 at I3 hns hsb ⊢
 have hlt3' : ∀ b ∈ fp,b < S3.heap.objs.size:=by rw [← hS3]; exact hlt3
 have I4:=jli (own:=own) (t':=S3.toks + ([] : List (Str × Value)).length) I3 ck f3 hlt3' hns hsb
 have st4 : tn 0 h':=T.keep _ _ _ st2 fun b hb o e=>hsb.extBut b o (Nat.ne_of_lt (hlt3' b hb)) (Heap.get?_push_of_some _ (by rw [← hS3]; exact Heap.get?_push_of_some _ e))
 have hsz : s2.heap.objs.size < S3.heap.objs.size:=by rw [← hS3]; show _ < (Heap.push _ _).objs.size; rw [Heap.size_push]; exact Nat.lt_succ_self _
 generalize hCC : S3.heap.objs.size = C at I4 hsb hns hsz
 have loop : codeAny (model X.prog X.w) X.A (.compLoop (.ListComp elt [⟨tg,iter,ifs,0⟩] scope pos) 0 (.ref it) (.ref s2.heap.objs.size) (compEnvC scope (clOf X.env.cells scope.names []) C X.env))
   (compPost (model X.prog X.w) X.A X.xe use QS (.ref s2.heap.objs.size) C) { S3 with heap:=h',toks:=S3.toks + ([] : List (Str × Value)).length }:=by
  have xf : ∀ {H' : Hp},(∀ b ∈ fp,H' b = none) → ∀ b ∈ fp,FpOk (jbe X scope (own ++ caps.map (·.1)) C S3 (upd H2 s2.heap.objs.size (.lst [])) fp) [] H' b:=fun hn b hb=>by
   refine ⟨hn b hb,?_,?_,.inl hb,fun x c e=>(I4.ok.exf b hb).2 x c e,fun p hp=>absurd (show p ∈ ([] : List (Addr × Obj)) from hp) (by simp)⟩
   ·exact (I4.ok.exf b hb).1
   ·exact I4.ok.exfs b hb
  refine jf7 (fun n s'=>∃ i σ' H',Inv (jbe X scope (own ++ caps.map (·.1)) C S3 (upd H2 s2.heap.objs.size (.lst [])) fp) [] σ' H' s' ∧ tn i s'.heap ∧ (∀ b ∈ fp,H' b = none) ∧ W i n σ' H') ?_ m0
   ⟨0,_,_,I4,st4,fun b hb=>(f3 b hb).1,w0⟩
  rintro n s5 ⟨i,σ5,H5,I5,st5,fr5,w5⟩
  rcases turn i n σ5 H5 w5 with ⟨stop,qn⟩ | ⟨go,N,hN,step⟩
  ·refine thn (T.done (jbe X scope (own ++ caps.map (·.1)) C S3 (upd H2 s2.heap.objs.size (.lst [])) fp) rfl rfl rfl hc i [] s5 σ5 H5 NoX I5 (xf fr5) st5 stop) fun r s6 hzz=>?_
   obtain ⟨hr,I6⟩:=hzz
   subst hr
   obtain ⟨m6,n6,_⟩:=id I6.loc
   have C3 : S3.heap.objs.size ≤ C:=Nat.le_of_eq hCC
   have I7 : Inv X pins σ H5 s6:=I3.call' (s':=s6) (ch:=fp) I6.os (jrl I6.base C3 (Heap.SameBut.refl _ _)) I6.hok I6.bare fun b hb=>by
    obtain ⟨_,q1,_,q3,q4,q5⟩:=f3 b hb
    exact ⟨q3,q1,q4,q5⟩
   exact fin _ _ _ _ _ I7 (I3.fpOk C3 I6.free) ⟨m6,n6⟩ qn
  ·refine thn (T.item (jbe X scope (own ++ caps.map (·.1)) C S3 (upd H2 s2.heap.objs.size (.lst [])) fp) rfl rfl rfl hc i [] s5 σ5 H5 NoX I5 (xf fr5) st5 go) fun r s6 hzz=>?_
   obtain ⟨u,hr,h6⟩:=hzz
   subst hr
   refine thn h6 fun _ s7 hzz=>?_
   obtain ⟨x,H7,I7,r7,y7,st7,fr7⟩:=hzz
   have I7':=I7.pinned (xf fr7) (T.obj _ _ st7)
   refine thn (hg _ _ _ _ _ s7 σ5 H7 x u _ I7' r7 (step x H7 y7)) fun _ s8 hzz=>?_
   obtain ⟨σ8,H8,I8,q8⟩:=hzz
   refine thn (ht _ _ _ _ _ s8 σ8 H8 _ I8 q8) fun ok s9 hzz=>?_
   obtain ⟨H9,I9,q9⟩:=hzz
   have again : ∀ {s' : Shared} {σ' : St} {H' : Hp},Inv (jbe X scope (own ++ caps.map (·.1)) C S3 (upd H2 s2.heap.objs.size (.lst [])) fp) ([] ++ jhs fp s7.heap) σ' H' s' → N σ' H' → ∃ m,m < n ∧ ∃ i σ' H',Inv (jbe X scope (own ++ caps.map (·.1)) C S3 (upd H2 s2.heap.objs.size (.lst [])) fp) [] σ' H' s' ∧ tn i s'.heap ∧ (∀ b ∈ fp,H' b = none) ∧ W i m σ' H':=fun {s' σ' H'} Ia na=>by
    obtain ⟨m',hm,wa⟩:=hN σ' H' na
    refine ⟨m',hm,i + 1,σ',H',Ia.unpinned,T.keep _ _ _ st7 fun b hb o e=>(Ia.pin (b,o) (List.mem_append_right _ (List.mem_append_right _ (jc0 hb e)))).1,fun b hb=>?_,wa⟩
    obtain ⟨o,e,d⟩:=T.obj _ _ st7 b hb
    exact (Ia.pin (b,o) (List.mem_append_right _ (List.mem_append_right _ (jc0 hb e)))).2.1
   cases ok with
   | false =>
    rw [if_neg (by decide)] at q9 ⊢
    exact again I9 q9
   | true =>
    rw [if_pos rfl] at q9 ⊢
    refine thn (he _ _ _ _ _ s9 σ8 H9 _ I9 q9) fun y s10 hzz=>?_
    obtain ⟨vy,H10,I10,r10,ys,hys,hlen,q10⟩:=hzz
    refine thn (jfp _ s10 σ8 H10 (.ref s2.heap.objs.size) [vy] (.ref s2.heap.objs.size) [y] (fun _ H'=>N σ8 H') I10 rfl (.cons r10 .nil) ⟨_,ys,vy,rfl,rfl,hys,hlen,q10⟩) fun _ s11 hzz=>?_
    obtain ⟨_,H11,I11,_,q11⟩:=hzz
    exact again I11 q11
 exact codeAny_compStart_list loop (T.self _ 0 _ _ _ st4 loop)
theorem jto {elt tg iter : Expr} {ifs : List Expr} {scope : Scope} {pos pos' cpos : Pos} {own : List Str} {caps : List (Str × Nat)} {wi : TI} {g : TG} {tc : TT} {te : TE} {i : Nat} {x : Str} (hc : X.calm = true) (ck : CapsOk X scope caps)
  (hi : PI X tg iter wi) (hg : ∀ C s0 H0 ex,PG (jbe X scope (own ++ caps.map (·.1)) C s0 H0 ex) tg g) (ht : ∀ C s0 H0 ex,PC0 (jbe X scope (own ++ caps.map (·.1)) C s0 H0 ex) ifs tc)
  (he : ∀ C s0 H0 ex,PE (jbe X scope (own ++ caps.map (·.1)) C s0 H0 ex) elt te) (hN : X.N.Nodup) (hix : X.N[i]? = some x) (hx : Loc X.env.scope x) (hsw : swapsWith (.ListComp elt [⟨tg,iter,ifs,0⟩] scope cpos) (some (.Name x pos')) pos.line X.env = pure true)
  (hf : X.fn x = true ∨ X.env.scope.names.lookup x = some .local) (hs : ∀ x,foldedSetIterable iter X.env x = pure x) :
  PS X (.Assign [.Name x pos'] (.ListComp elt [⟨tg,iter,ifs,0⟩] scope cpos) pos) (fun Dn σ H=>jqm own.length caps wi g tc te σ H fun v H'=>Dn.nx (σ.set i (some v)) H'):=by
 intro pins s σ H Dn I h; rw [exec_Assign_Name_used _ _ _ _ hsw]; refine wpAny_bind (wpAny_standAt (wpAny_bind ?_))
 show wpAny _ X.A (do let _ ← comprehension (.ListComp elt [⟨tg,iter,ifs,0⟩] scope cpos) scope X.env _ (newList []) false (eval iter X.env) (some (assign (.Name x pos') X.env))) _ _ s
 refine wpAny_bind (thn (jm5 (use:=some (assign (.Name x pos') X.env)) (QS:=fun _ s'=>SP X pins Dn .next s') hc ck hi hg ht he hs I h ?_) fun _ s' hq=>wpAny_pure (wpAny_pure hq))
 intro D H5 C s6 r I6 fc ⟨m6,n6⟩ qn
 obtain ⟨f1,f2,f3,f4,f5,f6⟩:=fc
 show wpAny (model X.prog X.w) X.A (assign (.Name x pos') X.env (.ref D)) (fun _ s''=>∃ m,s''.heap.Ns C m ∧ ∀ h',Heap.SameBut C s''.heap h' → SP X pins Dn .next { s'' with heap:=h' }) X.xe s6
 refine wpAny_assign_Name (jj3 I6 hN hix hx (v:=.ref D) rfl (fun s7 I7 hzz=>?_) hf)
 obtain ⟨a,sba,ha⟩:=hzz
 have hCa : C ≠ a:=by
  rcases ha with ha | ha
  ·rw [ha]; exact f2
  ·exact fun z=>f5 x a ha z.symm
 refine ⟨m6,n6.sameBut sba hCa,fun h8 sb8=>⟨_,H5,I7.turned (fun b o hb e=>(sb8.2 b hb).trans e) f1 f2 f4 f5 f6,qn⟩⟩
end
end L2
namespace DL
open PySem PySem.Spec L2
theorem jr0 {K : PySem.W.Frag} {O : List Nat} {E : XK} {own : Nat} {caps : List (Str × Nat)} {fi : DSt → M (List D)} {h : D → DSt → Option DSt} {tc : DSt → M Bool} {fe : DSt → M D} {σ : St} {H : Hp} {Q : VK} (hcf : jh4 O caps = true)
  (hh : tD K O E (jel own caps fi h tc fe) σ H Q) : jqm own caps (tI K O E fi) (tG K [] h) (tB K [] E0 tc) (tD K [] E0 fe) σ H Q:=by
 obtain ⟨ρ,H₀,F,δ,r,R,hf,k⟩:=hh
 rcases M.b_inv hf with ⟨ds,e1,hf⟩ | ⟨y,e1,rfl⟩
 ·refine ⟨ρ,H₀,F,δ,.ok ds,R,e1,fun J H1 s1 it Dd hD=>?_⟩
  obtain ⟨dd,hd,rfl⟩:=M.o_inv hf
  cases hcd : jc3 h tc fe ds (jeo own caps δ) with
  | none=>rw [hcd] at hd; cases hd
  | some tot =>
   rw [hcd] at hd
   have hd' : jb0 tot = some dd:=hd
   unfold jb0 at hd'
   split at hd'
   ·rename_i hz
    cases hd'
    have R1:=R.mono s1
    have pf:=R1.fresh hD
    let F' : Addr → Bool:=fun b=>fob F σ O b || b == Dd
    have F't : ∀ b,F' b = true ↔ fob F σ O b = true ∨ b = Dd:=fun b=>by show (_ || _) = true ↔ _; rw [Bool.or_eq_true,beq_iff_eq]
    have vis : ∀ {H2 : Hp},Same H1 H2 → Same (hid H1 (fob F σ O)) (hid H2 F'):=fun {H2} e b o q=>by
     obtain ⟨q1,q2⟩:=hid_some.mp q
     refine hid_some.mpr ⟨?_,e b o q2⟩
     cases z : F' b with
     | false=>rfl
     | true =>
      rcases (F't b).mp z with z | z
      ·rw [q1] at z; cases z
      ·rw [z,hD] at q2; cases q2
    have R0 : RS ρ K H1 (upd H1 Dd (.lst [])) F' [] (jcr own caps σ) (jeo own caps δ):=by
     refine ⟨by simp [jcr,jeo],jaz hD,fun b hb=>?_,fun i d hd _=>?_,fun i hi=>absurd hi (by simp),fun i hi=>absurd hi (by simp)⟩
     ·rcases (F't b).mp hb with z | z
      ·refine jfv fun q=>?_
       rw [R1.fresh q] at z; cases z
      ·rw [z,jak]; exact fun q=>nomatch q
     ·obtain ⟨p,p1,p2,p3⟩:=jho hd
      have hO : p.2 ∉ O:=fun z=>by
       have:=List.all_eq_true.mp hcf p (List.mem_of_getElem? p1)
       rw [List.contains_iff_mem.mpr z] at this; cases this
      obtain ⟨v,q1,q2⟩:=R1.val p.2 d p3 hO
      exact ⟨v,jja p1 p2 q1,by rw [jcg]; exact q2.mono (vis (jaz hD))⟩
    refine ⟨fun i m σ' H'=>m = ds.length - i ∧ i ≤ ds.length ∧ ∃ δ' done zs rest,RS ρ K H1 H' F' [] σ' δ' ∧ H' Dd = some (.lst zs) ∧ Reps ρ K (hid H' F') done zs ∧ jc3 h tc fe (ds.drop i) δ' = some rest ∧ done ++ rest = tot,
     ⟨ds.length,by simp,Nat.zero_le _,_,[],[],tot,R0,jak,Reps.nil,hcd,rfl⟩,?_⟩
    rintro i m σ' H' ⟨rfl,hil,δ',done,zs,rest,R',hDd,rz,hr,htot⟩
    have fv : Same (hid H1 (fob F σ O)) (hid H' (fob F' σ' [])):=by rw [jcg]; exact vis R'.same
    obtain ⟨j1,j2⟩:=it H' (fob F' σ' []) i fv fun p hp=>R'.fresh hp
    by_cases hlt : i < ds.length
    ·obtain ⟨go,yld⟩:=j1 hlt
     refine .inr ⟨go,fun σ2 H2=>∃ δ2 done zs rest,RS ρ K H1 H2 F' [] σ2 δ2 ∧ H2 Dd = some (.lst zs) ∧ Reps ρ K (hid H2 F') done zs ∧ jc3 h tc fe (ds.drop (i + 1)) δ2 = some rest ∧ done ++ rest = tot,
      fun σ2 H2 q=>⟨ds.length - (i + 1),by omega,rfl,hlt,q⟩,fun x H2 y=>?_⟩
     obtain ⟨s2,d,hd,rd⟩:=yld x H2 y
     have hdr : ds.drop i = d :: ds.drop (i + 1):=by
      rw [List.drop_eq_getElem_cons hlt]
      have : ds[i] = d:=by rw [List.getElem?_eq_getElem hlt] at hd; exact Option.some.inj hd
      rw [this]
     rw [hdr] at hr
     unfold jc3 at hr
     cases e2 : h d δ' with
     | none=>rw [e2] at hr; cases hr
     | some δ1 =>
      rw [e2] at hr
      dsimp only at hr
      refine ⟨ρ,H1,F',δ',d,δ1,R'.mono s2,rd,e2,fun σ3 ef R3=>?_⟩
      have keepD : ∀ {H5 : Hp},Same H2 H5 → H5 Dd = some (.lst zs) ∧ Reps ρ K (hid H5 F') done zs:=fun {H5} e=>⟨e _ _ (s2 _ _ hDd),rz.mono (jaq (s2.trans e))⟩
      split at hr
      ·rename_i e3
       refine ⟨ρ,H1,F',δ1,.ok true,R3,e3,fun H4 s4=>iteT ?_⟩
       split at hr
       ·rename_i yv e4
        refine ⟨ρ,H1,F',δ1,.ok yv,R3.mono s4,e4,fun v H5 s5 r5=>?_⟩
        rw [jcg] at r5
        obtain ⟨k1,k2⟩:=keepD (s4.trans s5)
        cases e5 : jc3 h tc fe (ds.drop (i + 1)) δ1 with
        | none=>rw [e5] at hr; cases hr
        | some rest' =>
         rw [e5] at hr
         have hr' : yv :: rest' = rest:=Option.some.inj hr
         have hFD : F' Dd = true:=(F't Dd).mpr (.inr rfl)
         have hh : hid (upd H5 Dd (.lst (zs ++ [v]))) F' = hid H5 F':=jfb hFD
         refine ⟨zs,k1,?_,δ1,done ++ [yv],zs ++ [v],rest',?_,jak,?_,e5,by rw [List.append_assoc,← htot,← hr']; rfl⟩
         ·have l1:=k2.length
          have l2:=congrArg List.length htot
          rw [List.length_append,← hr',List.length_cons] at l2
          omega
         ·have R5:=R3.mono (s4.trans s5)
          refine ⟨R5.len,jfs R5.same hD,fun b hb=>jfv (R5.fin b hb),fun j d' hj hO=>?_,fun j hj=>absurd hj (by simp),fun j hj=>absurd hj (by simp)⟩
          obtain ⟨v',w1,w2⟩:=R5.val j d' hj hO
          refine ⟨v',w1,?_⟩
          rw [jcg] at w2 ⊢
          rw [hh]; exact w2
         ·rw [hh]
          exact k2.append (Reps.cons r5 Reps.nil)
       ·cases hr
      ·rename_i e3
       refine ⟨ρ,H1,F',δ1,.ok false,R3,e3,fun H4 s4=>iteF ?_⟩
       obtain ⟨k1,k2⟩:=keepD s4
       exact ⟨δ1,done,zs,rest,R3.mono s4,k1,k2,hr,htot⟩
      ·cases hr
    ·have ei : i = ds.length:=by omega
     subst ei
     rw [List.drop_length] at hr
     cases hr
     rw [List.append_nil] at htot
     subst htot
     refine .inl ⟨j2 rfl,k _ H' (s1.trans R'.same) ?_⟩
     exact rep_lst.mpr ⟨Dd,zs,rfl,SqL.of (hid_some.mpr ⟨pf,hDd⟩),rz.mono (jeb fun b q=>(F't b).mpr (.inl q))⟩
   ·cases hd'
 ·exact ⟨ρ,H₀,F,δ,.error y,R,e1,k⟩
section
variable {X : Cx} {O B : List Nat} {E : XK} {elt tg iter : Expr} {pos : Pos}
theorem jm9 {i : Nat} {x : Str} {pos' cpos : Pos} {ifs : List Expr} {scope : Scope} {own : List Str} {caps : List (Str × Nat)} {fi : DSt → M (List D)} {h : D → DSt → Option DSt} {tc : DSt → M Bool} {fe : DSt → M D} (hN : X.N.Nodup) (hc : X.calm = true) (ck : CapsOk X scope caps) (hi : DI X O E tg iter fi)
  (hg : ∀ C s0 H0 ex,DG (jbe X scope (own ++ caps.map (·.1)) C s0 H0 ex) [] tg h) (ht : ∀ C s0 H0 ex,DC (jbe X scope (own ++ caps.map (·.1)) C s0 H0 ex) [] E0 ifs tc)
  (he : ∀ C s0 H0 ex,DE (jbe X scope (own ++ caps.map (·.1)) C s0 H0 ex) [] E0 elt fe) (ho : autoParam (O.contains i = false) zau2._auto_1) (hix : autoParam (X.N[i]? = some x) zau2._auto_1) (hx : autoParam (Loc X.env.scope x) zau7._auto_1)
  (hsw : autoParam (swapsWith (.ListComp elt [⟨tg,iter,ifs,0⟩] scope cpos) (some (.Name x pos')) pos.line X.env = pure true) zau2._auto_1)
  (hf : autoParam (X.fn x = true ∨ X.env.scope.names.lookup x = some .local) zau0._auto_1) (hcf : autoParam (jh4 O caps = true) zau2._auto_1) (hs : autoParam (∀ x,foldedSetIterable iter X.env x = pure x) zau3._auto_1) :
  DS X O O B E (.Assign [.Name x pos'] (.ListComp elt [⟨tg,iter,ifs,0⟩] scope cpos) pos) (gSet i (jel own.length caps fi h tc fe)):=by
 rintro pins s σ H Dn I ⟨ρ,H₀,F,δ,r,R,hg',k⟩
 have ho' : i ∉ O:=fun z=>by rw [List.contains_iff_mem.mpr z] at ho; cases ho
 refine jto (own:=own) (g:=tG X.K [] h) (tc:=tB X.K [] E0 tc) (te:=tD X.K [] E0 fe) hc ck hi hg ht he hN hix hx hsw hf hs pins s σ H Dn I (jr0 hcf ?_)
 rcases M.b_inv hg' with ⟨d,e1,hg'⟩ | ⟨y,e1,rfl⟩
 ·cases hg'
  exact ⟨ρ,H₀,F,δ,.ok d,R,e1,fun v H' s' r'=>k _ H' (jl0 ho' s') ((R.mono s').set ho' r')⟩
 ·exact ⟨ρ,H₀,F,δ,.error y,R,e1,k⟩
end
end DL
namespace DL
open PySem PySem.Spec L2 PyProof.Rows
section
variable {X : Cx}
noncomputable def jx7 : List D → Option D
 | [.lst [.int i,.int j]]=>some (.int (if j < i then j else i))
 | _=>none
@[simp] theorem kmin1 (i j : Int) : jx7 [.lst [.int i,.int j]] = some (.int (if j < i then j else i)):=rfl
end
end DL
namespace DL
open PySem PySem.Spec L2
section
variable {ρ₀ ρ ρ' : Rho} {S₀ S S' F : Addr → Bool} {H₀ H H1 H' : Hp} {K : PySem.W.Frag} {mg : Str → Option Value} {O O' B : List Nat} {σ σ' : St} {δ δ' : DSt} {Ω Ω' : Sto}
theorem SOk.no_tup {ρ : Rho} {S : Addr → Bool} {K : PySem.W.Frag} {mg : Str → Option Value} {H Hv : Hp} {a : Addr} {so : SO} (h : SOk ρ S K mg H Hv a so) (xs : List V) : H a ≠ some (.tup xs):=fun q=>by
 cases so with
 | ins c fs =>
  obtain ⟨_,_,_,_,p,_⟩:=h
  rw [q] at p; cases p
 | lst ds =>
  obtain ⟨_,p,_⟩:=h
  rw [q] at p; cases p
 | tab _ _ _ _ =>
  obtain ⟨_,p,_⟩:=h
  rw [q] at p; cases p
 | dct _ =>
  obtain ⟨_,p,_⟩:=h
  rw [q] at p; cases p
 | exc c j =>
  cases h with
  | no f C h1 h2=>rw [q] at h2; exact jxg (Option.some.inj h2).symm
  | yes f j C dx h1 h2 h3=>rw [q] at h3; exact jxg (Option.some.inj h3).symm
 | xd fs =>
  obtain ⟨_,p,_⟩:=h
  rw [q] at p; exact jy8 (Option.some.inj p).symm
theorem RM.putS (R : RM ρ₀ S₀ H₀ F K mg O ρ S H σ δ Ω) {i : Nat} {a : Addr} {so0 so' : SO} {o0 o' : HO} (hi : Ω[i]? = some so0) (ha : ρ i = some a) (hS : S a = true) (hH : H a = some o0) (hno : ∀ y,HO.own y ≠ o0) (hr : SOk ρ S K mg (upd H a o') (hid H (fob (un F S) σ O)) a so') :
  RM ρ₀ S₀ H₀ F K mg O ρ S (upd H a o') σ δ (Ω.set i so') ∧ hid (upd H a o') (fob (un F S) σ O) = hid H (fob (un F S) σ O):=by
 have hF : un F S a = true:=un_t.mpr (.inr hS)
 have hh : hid (upd H a o') (fob (un F S) σ O) = hid H (fob (un F S) σ O):=jfb (jeq a hF)
 have il : i < Ω.length:=(List.getElem?_eq_some_iff.mp hi).1
 refine ⟨⟨R.rs.updF hF,R.rho,fun b o h1 h2=>?_,R.old,R.new,R.own0,R.ff,?_⟩,hh⟩
 ·have hb : b ≠ a:=by
   rintro rfl
   rcases R.new b hS with q | q
   ·rw [q] at h1; cases h1
   ·rw [q] at h2; cases h2
  rw [jai hb]; exact R.same b o h1 h2
 ·rw [hh]
  refine ⟨fun j so hj=>?_,R.sto.inj,fun j hj=>R.sto.top j (by simpa using hj),fun b hb=>jfv (R.sto.fin b hb),jj5 R.sto.tv fun xs z=>hr.no_tup xs (by rw [jak,z])⟩
  by_cases hji : j = i
  ·subst hji
   rw [List.getElem?_set_self il] at hj
   cases hj
   exact ⟨a,ha,hS,hr⟩
  ·rw [List.getElem?_set_ne (Ne.symm hji)] at hj
   obtain ⟨a',q1,q2,q3⟩:=R.sto.ats j so hj
   have ne : a' ≠ a:=by
    rintro rfl
    exact hji (R.sto.inj j i a' q1 ha)
   refine ⟨a',q1,q2,?_⟩
   cases so with
   | ins c' fs' =>
    obtain ⟨C',dx',vfs',p1,p2,p3,p4,p5⟩:=q3
    have nd : dx' ≠ a:=js4 p3 hH (hno _)
    exact ⟨C',dx',vfs',p1,by rw [jai ne]; exact p2,by rw [jai nd]; exact p3,p4,p5⟩
   | lst ds0 =>
    obtain ⟨xs0,p1,p2⟩:=q3
    exact ⟨xs0,by rw [jai ne]; exact p1,p2⟩
   | tab _ _ _ _ =>
    obtain ⟨ps,p1,p2,p3⟩:=q3
    exact ⟨ps,by rw [jai ne]; exact p1,p2,p3⟩
   | dct _ =>
    obtain ⟨vk,p1,p2,p3⟩:=q3
    exact ⟨vk,by rw [jai ne]; exact p1,p2,p3⟩
   | exc c j=>exact ExcOk.mono (fun _ _ z=>z) (jai ne) q3
   | xd fs =>
    obtain ⟨vfs,p1,p2⟩:=q3
    exact ⟨vfs,by rw [jai ne]; exact p1,p2⟩
theorem RM.putL (R : RM ρ₀ S₀ H₀ F K mg O ρ S H σ δ Ω) {i : Nat} {a : Addr} {ds ds' : List D} {xs xs' : List V} (hi : Ω[i]? = some (.lst ds)) (ha : ρ i = some a) (hS : S a = true) (hH : H a = some (.lst xs)) (hr : Reps ρ K (hid H (fob (un F S) σ O)) ds' xs') :
  RM ρ₀ S₀ H₀ F K mg O ρ S (upd H a (.lst xs')) σ δ (Ω.set i (.lst ds')) ∧ hid (upd H a (.lst xs')) (fob (un F S) σ O) = hid H (fob (un F S) σ O) :=
 R.putS hi ha hS hH (fun _ z=>nomatch z) ⟨xs',jak,hr⟩
theorem RM.newS (R : RM ρ₀ S₀ H₀ F K mg O ρ S H σ δ Ω) {x : Addr} {nso : SO} {no : HO} (hx : H x = none) (hr : ∀ ρ' S' Hv',RLe ρ ρ' → Same (hid H (fob (un F S) σ O)) Hv' → SOk ρ' S' K mg (upd H x no) Hv' x nso) :
  RM ρ₀ S₀ H₀ F K mg O (addR ρ Ω.length x) (addS S x x) (upd H x no) σ δ (Ω ++ [nso]) ∧ RLe ρ (addR ρ Ω.length x) ∧
   Same (hid H (fob (un F S) σ O)) (hid (upd H x no) (fob (un F (addS S x x)) σ O)):=by
 have top:=R.sto.top Ω.length (Nat.le_refl _)
 have l : RLe ρ (addR ρ Ω.length x):=fun i a h=>by
  unfold addR
  by_cases e : i = Ω.length
  ·subst e; rw [top] at h; cases h
  ·rw [if_neg e]; exact h
 have sm : Same H (upd H x no):=jaz hx
 have old : ∀ b,S b = true → addS S x x b = true:=fun b h=>addS_t.mpr (.inl h)
 have new : ∀ b,addS S x x b = true → S b = true ∨ H b = none:=fun b h=>by
  rcases addS_t.mp h with q | rfl | rfl
  ·exact .inl q
  ·exact .inr hx
  ·exact .inr hx
 have ff : ∀ b,fob F σ O b = true → addS S x x b = false:=fun b h=>by
  have h2 : fob (un F S) σ O b = true:=by rw [← jdu]; exact un_t.mpr (.inl h)
  cases e : addS S x x b with
  | false=>rfl
  | true =>
   rcases addS_t.mp e with q | rfl | rfl
   ·rcases fob_t.mp h with z | z
    ·rw [R.ff b z] at q; cases q
    ·exact absurd z (R.base_S q)
   ·rw [R.fresh hx] at h2; cases h2
   ·rw [R.fresh hx] at h2; cases h2
 have keep : ∀ b,S b = true → (upd H x no) b = H b:=R.at_store sm
 have vis0 : Same (hid H (fob (un F S) σ O)) (hid (upd H x no) (un (fob F σ O) (addS S x x))):=fun b o q=>by
  obtain ⟨q1,q2⟩:=hid_some.mp q
  refine hid_some.mpr ⟨?_,sm b o q2⟩
  cases e : un (fob F σ O) (addS S x x) b with
  | false=>rfl
  | true =>
   rcases un_t.mp e with z | z
   ·have h2 : fob (un F S) σ O b = true:=by rw [← jdu]; exact un_t.mpr (.inl z)
    rw [h2] at q1; cases q1
   ·rcases new b z with z | z
    ·have h2 : fob (un F S) σ O b = true:=jeq b (un_t.mpr (.inr z))
     rw [h2] at q1; cases q1
    ·rw [z] at q2; cases q2
 have sto : StoOk (addR ρ Ω.length x) (addS S x x) K mg (upd H x no) (hid (upd H x no) (un (fob F σ O) (addS S x x))) (Ω ++ [nso]):=by
  refine ⟨fun i so hi=>?_,fun i j a h1 h2=>?_,fun i hi=>?_,fun b hb=>?_,jt6 (jj5 R.sto.tv fun xs z=>(hr ρ S _ (RLe.refl _) (Same.refl _)).no_tup xs (by rw [jak,z])) vis0⟩
  ·by_cases h : i < Ω.length
   ·rw [List.getElem?_append_left h] at hi
    obtain ⟨a,q1,q2,q3⟩:=R.sto.ats i so hi
    refine ⟨a,l i a q1,old a q2,?_⟩
    cases so with
    | ins c' fs' =>
     obtain ⟨C',dx',vfs',p1,p2,p3,p4,p5⟩:=q3
     exact ⟨C',dx',vfs',p1,by rw [keep a q2]; exact p2,by rw [keep dx' p4]; exact p3,old _ p4,p5.mono l vis0⟩
    | lst ds =>
     obtain ⟨xs,p1,p2⟩:=q3
     exact ⟨xs,by rw [keep a q2]; exact p1,(p2.rho l).mono vis0⟩
    | tab _ _ _ _ =>
     obtain ⟨ps,p1,p2,p3⟩:=q3
     exact ⟨ps,by rw [keep a q2]; exact p1,p2,p3.mono vis0⟩
    | dct _ =>
     obtain ⟨vk,p1,p2,p3⟩:=q3
     exact ⟨vk,by rw [keep a q2]; exact p1,p2,(p3.rho l).mono vis0⟩
    | exc c j=>exact ExcOk.mono l (keep a q2) q3
    | xd fs =>
     obtain ⟨vfs,p1,p2⟩:=q3
     exact ⟨vfs,by rw [keep a q2]; exact p1,p2.mono l vis0⟩
   ·have e : i = Ω.length:=by
     have:=(List.getElem?_eq_some_iff.mp hi).1
     simp at this; omega
    subst e
    rw [List.getElem?_append_right (Nat.le_refl _),Nat.sub_self] at hi
    cases hi
    exact ⟨x,by unfold addR; rw [if_pos rfl],addS_t.mpr (.inr (.inl rfl)),hr _ _ _ l vis0⟩
  ·have fresh : ∀ i a,i ≠ Ω.length → ρ i = some a → a ≠ x:=fun i a hi h z=>by
    subst z
    have il : i < Ω.length:=by
     by_cases q : i < Ω.length
     ·exact q
     ·rw [R.sto.top i (by omega)] at h; cases h
    obtain ⟨a',q1,q2,_⟩:=R.sto.ats i _ (List.getElem?_eq_getElem il)
    rw [h] at q1; cases q1
    exact R.sto.fin a q2 hx
   unfold addR at h1 h2
   by_cases e1 : i = Ω.length
   ·by_cases e2 : j = Ω.length
    ·rw [e1,e2]
    ·rw [if_pos e1] at h1; rw [if_neg e2] at h2
     cases h1
     exact absurd rfl (fresh j _ e2 h2)
   ·by_cases e2 : j = Ω.length
    ·rw [if_neg e1] at h1; rw [if_pos e2] at h2
     cases h2
     exact absurd rfl (fresh i _ e1 h1)
    ·rw [if_neg e1] at h1; rw [if_neg e2] at h2
     exact R.sto.inj i j a h1 h2
  ·rw [List.length_append,List.length_singleton] at hi
   unfold addR
   rw [if_neg (by omega)]
   exact R.sto.top i (by omega)
  ·rcases addS_t.mp hb with q | rfl | rfl
   ·rw [keep b q]; exact R.sto.fin b q
   ·rw [jak]; exact fun z=>nomatch z
   ·rw [jak]; exact fun z=>nomatch z
 obtain ⟨t1,t2⟩:=R.call l (fun b o _ h=>sm b o h) old new ff sto
 exact ⟨t1,l,t2⟩
theorem RM.newL (R : RM ρ₀ S₀ H₀ F K mg O ρ S H σ δ Ω) {x : Addr} {nds : List D} {nxs : List V} (hx : H x = none) (hr : Reps ρ K (hid H (fob (un F S) σ O)) nds nxs) :
  RM ρ₀ S₀ H₀ F K mg O (addR ρ Ω.length x) (addS S x x) (upd H x (.lst nxs)) σ δ (Ω ++ [.lst nds]) ∧ RLe ρ (addR ρ Ω.length x) ∧
   Same (hid H (fob (un F S) σ O)) (hid (upd H x (.lst nxs)) (fob (un F (addS S x x)) σ O)) :=
 R.newS (nso:=.lst nds) hx fun ρ' S' Hv' l v=>⟨nxs,jak,(hr.rho l).mono v⟩
end
section
variable {X : Cx} {O B : List Nat} {a b e o : Expr} {es : List Expr} {fa fb fo : DSt → MS D} {fl : DSt → MS (List D)} {pos : Pos}
inductive AtLI (x y : D) (Ω Ω' : Sto) (r : Except XD D) : Prop
 | mk (i : Nat) (j : Int) (ds : List D) (d : D) (hx : x = .obj i) (hy : y = .int j) (hi : Ω[i]? = some (.lst ds)) (ha : L2.atI ds j = some d) (hr : r = .ok d) (ho : Ω' = Ω)
noncomputable def chkL : D → MS D:=fun x Ω=>match x with
 | .obj i=>match Ω[i]? with
  | some (.lst _)=>some (.ok x,Ω)
  | _=>none
 | _=>none
noncomputable def putL (g : List D → Option (List D)) : D → MS D:=fun x Ω=>match x with
 | .obj i=>match Ω[i]? with
  | some (.lst ds)=>(g ds).map fun es=>(.ok .non,Ω.set i (.lst es))
  | _=>none
 | _=>none
inductive ChkI (x : D) (Ω Ω' : Sto) (r : Except XD D) : Prop
 | mk (i : Nat) (ds : List D) (hx : x = .obj i) (hi : Ω[i]? = some (.lst ds)) (hr : r = .ok x) (ho : Ω' = Ω)
theorem jk6 {x : D} {Ω Ω' : Sto} {r : Except XD D} (h : chkL x Ω = some (r,Ω')) : ChkI x Ω Ω' r:=by
 unfold chkL at h
 cases x with
 | obj i =>
  dsimp only at h
  cases hi : Ω[i]? with
  | none=>rw [hi] at h; cases h
  | some so =>
   rw [hi] at h
   cases so with
   | ins c fs=>cases h
   | tab _ _ _ _=>cases h
   | dct _=>cases h
   | exc _ _=>cases h
   | xd _=>cases h
   | lst ds=>cases h; exact ⟨i,ds,rfl,hi,rfl,rfl⟩
 | _=>cases h
inductive PutI (g : List D → Option (List D)) (x : D) (Ω Ω' : Sto) (r : Except XD D) : Prop
 | mk (i : Nat) (ds es : List D) (hx : x = .obj i) (hi : Ω[i]? = some (.lst ds)) (hg : g ds = some es) (hr : r = .ok .non) (ho : Ω' = Ω.set i (.lst es))
theorem jlw {g : List D → Option (List D)} {x : D} {Ω Ω' : Sto} {r : Except XD D} (h : putL g x Ω = some (r,Ω')) : PutI g x Ω Ω' r:=by
 unfold putL at h
 cases x with
 | obj i =>
  dsimp only at h
  cases hi : Ω[i]? with
  | none=>rw [hi] at h; cases h
  | some so =>
   rw [hi] at h
   cases so with
   | ins c fs=>cases h
   | tab _ _ _ _=>cases h
   | dct _=>cases h
   | exc _ _=>cases h
   | xd _=>cases h
   | lst ds =>
    dsimp only at h
    cases hg : g ds with
    | none=>rw [hg] at h; cases h
    | some es=>rw [hg] at h; cases h; exact ⟨i,ds,es,rfl,hi,hg,rfl,rfl⟩
 | _=>cases h
noncomputable def gApL (d : D) : List D → Option (List D):=fun ds=>if ds.length < sizeLine then some (ds ++ [d]) else none
noncomputable def jpw (fo fa : DSt → MS D) : DSt → MS D:=fun δ=>(fo δ).b fun x=>(chkL x).b fun x=>(fa δ).b fun d=>putL (gApL d) x
theorem jss {p2 p3 : Pos} (ho : ME X O o fo) (he : ME X O e fa) (hbase : autoParam (attributeBase o "append" X.env (eval o X.env) = eval o X.env) zau2._auto_1)
  (hfew : ((backTo p3 (starEach [e] X.env)).all (fun x=>!x.1) && (backToKw p3 (keywordEach [] X.env)).all (fun x=>x.1.isSome)
   && decide ([e].length + ([] : List Keyword).length + (if ([] : List Keyword).isEmpty then 0 else 1) < 30)) = true:=by rfl)
  (hline : autoParam ((p2.endLine == p3.line) = true) zau2._auto_1) (hs : autoParam (starEach [e] X.env = [(false,eval e X.env)]) zau2._auto_1) :
  ME X O (.Call (.Attribute o "append" p2) [e] [] p3) (jpw fo fa):=by
 rintro pins s σ H Q I ⟨ρ₀,S₀,H₀,F,ρ,S,δ,Ω,R,r,Ω',hf,k⟩
 refine jwb PySem.F.plainAttrs_list PySem.F.slot_list_append PySem.F.type_list_append jfp ho (jf4 he jlq hs) hbase hfew hline hs rfl pins s σ H Q I ?_
 rcases MS.b_inv hf with ⟨x,Ω1,e1,hf⟩ | ⟨x,e1,rfl⟩
 ·refine ⟨ρ₀,S₀,H₀,F,ρ,S,δ,Ω,R,.ok x,Ω1,e1,fun u ρ1 S1 H1 R1 l1 v1 r1=>?_⟩
  rcases MS.b_inv hf with ⟨x',Ω1',e1',hf⟩ | ⟨x',e1',rfl⟩
  ·obtain ⟨i,ds,rfl,hi,hr,rfl⟩:=jk6 e1'
   cases hr
   obtain ⟨ad,q1,q2⟩:=rep_obj.mp r1
   obtain ⟨ad',p1,p2,xs,p3,p4⟩:=R1.sto.ats i _ hi
   rw [q1] at p1; cases p1
   refine ⟨by rw [q2]; exact .inl ⟨rfl,xs,SqL.of p3⟩,?_⟩
   rcases MS.b_inv hf with ⟨y,Ω2,e2,hf⟩ | ⟨y,e2,rfl⟩
   ·refine ⟨ρ₀,S₀,H₀,F,ρ1,S1,δ,_,R1,.ok y,Ω2,e2,fun w ρ2 S2 H2 R2 l2 v2 r2=>?_⟩
    obtain ⟨i',ds',es',hx',hi',hg',hr',rfl⟩:=jlw hf
    cases hx'
    cases hr'
    obtain ⟨b1,t1,t2,ys,t3,t4⟩:=R2.sto.ats i _ hi'
    rw [l2 i ad q1] at t1; cases t1
    unfold gApL at hg'
    by_cases hz : ds'.length < sizeLine
    ·rw [if_pos hz] at hg'
     cases hg'
     obtain ⟨w1,w2⟩:=R2.putL hi' (l2 i ad q1) t2 t3 (t4.append (Reps.cons r2 Reps.nil))
     exact ⟨ad,ys,w,q2,rfl,t3,by rw [t4.length]; exact hz,k _ ρ2 S2 _ w1 (l1.trans l2) (by rw [w2]; exact v1.trans v2) (rep_non.mpr rfl)⟩
    ·rw [if_neg hz] at hg'; cases hg'
   ·exact ⟨ρ₀,S₀,H₀,F,ρ1,S1,δ,_,R1,.error y,_,e2,trivial⟩
  ·exact absurd (jk6 e1') (fun ⟨_,_,_,_,h,_⟩=>by cases h)
 ·exact ⟨ρ₀,S₀,H₀,F,ρ,S,δ,Ω,R,.error x,_,e1,trivial⟩
end
end DL
namespace DL
open PySem PySem.Spec L2
noncomputable def forL (k : Nat → D → D) (g : DSt → MS Out) (h : D → DSt → Option DSt) (n : Nat) : Nat → Nat → DSt → MS Out
 | 0,_,_=>fun _=>none
 | f + 1,i,δ=>fun Ω=>match Ω[n]? with
  | some (.lst ds)=>match ds[i]? with
   | none=>some (.ok (.nx δ),Ω)
   | some d=>match h (k i d) δ with
    | none=>none
    | some δ1=>((g δ1).b fun o=>match o with
     | .nx δ2=>forL k g h n f (i + 1) δ2
     | .ct δ2=>forL k g h n f (i + 1) δ2
     | .bk δ2=>MS.p (.nx δ2)
     | .rt v=>MS.p (.rt v)) Ω
  | _=>none
inductive ForLI (k : Nat → D → D) (g : DSt → MS Out) (h : D → DSt → Option DSt) (n f i : Nat) (δ : DSt) (Ω Ω' : Sto) (r : Except XD Out) : Prop
 | stop (ds : List D) (hn : Ω[n]? = some (.lst ds)) (hi : ds[i]? = none) (hr : r = .ok (.nx δ)) (ho : Ω' = Ω)
 | turn (ds : List D) (d : D) (δ1 : DSt) (hn : Ω[n]? = some (.lst ds)) (hi : ds[i]? = some d) (hh : h (k i d) δ = some δ1) (hg : ((g δ1).b fun o=>match o with
     | .nx δ2=>forL k g h n f (i + 1) δ2
     | .ct δ2=>forL k g h n f (i + 1) δ2
     | .bk δ2=>MS.p (.nx δ2)
     | .rt v=>MS.p (.rt v)) Ω = some (r,Ω'))
inductive FLInv (X : Cx) (O : List Nat) (ρ₀ : Rho) (S₀ : Addr → Bool) (H₀ : Hp) (F : Addr → Bool) (ρ1 : Rho) (H1 : Hp) (m : DSt → MS Out) (r : Except XD Out) (Ω' : Sto) (σ : St) (H : Hp) : Prop
 | mk (ρ : Rho) (S : Addr → Bool) (δ : DSt) (Ω : Sto) (hR : RM ρ₀ S₀ H₀ F X.K X.mg O ρ S H σ δ Ω) (hl : RLe ρ1 ρ) (hs : Same H1 (hid H (fob (un F S) σ O))) (hf : m δ Ω = some (r,Ω'))
section
variable {X : Cx} {O B : List Nat} {a iter tg : Expr} {fo : DSt → MS D} {g : DSt → MS Out} {pos : Pos}
variable {fl : DSt → MS (List D)}
end
end DL
namespace DL
open PySem PySem.Spec L2
noncomputable def jx5 (done : List D) : Except XD (List D) → Except XD (List D)
 | .ok rest=>.ok (done ++ rest)
 | .error y=>.error y
inductive CEI (X : Cx) (ρ1 : Rho) (S1 : Addr → Bool) (H1 Hv : Hp) (G : Addr → Bool) (Dd : Addr) (T : Except XD (List D)) (Ωe : Sto) (cd : DSt → MS (List D)) (i : Nat) (σ : St) (H : Hp) : Prop
 | mk (ρ : Rho) (S : Addr → Bool) (δ : DSt) (Ω : Sto) (done : List D) (zs : List V) (rr : Except XD (List D)) (hR : RM ρ S H G X.K X.mg [] ρ S H σ δ Ω) (hD : H Dd = some (.lst zs)) (hz : Reps ρ X.K (hid H (un G S)) done zs) (hlen : zs.length = i)
  (hc : cd δ Ω = some (rr,Ωe)) (hT : T = jx5 done rr) (hv : Same Hv (hid H (un G S))) (hl : RLe ρ1 ρ) (hsm : ∀ b o,S1 b = false → H1 b = some o → H b = some o) (hold : ∀ b,S1 b = true → S b = true) (hnew : ∀ b,S b = true → S1 b = true ∨ H1 b = none)
section
variable {ρ₀ ρ : Rho} {S₀ S F : Addr → Bool} {H₀ H : Hp} {K : PySem.W.Frag} {mg : Str → Option Value} {O : List Nat} {σ : St} {δ : DSt} {Ω : Sto}
end
section
variable {X : Cx} {O : List Nat} {elt iter tg : Expr} {fe : DSt → MS D} {fi : DSt → MS (List D)} {pos : Pos}
end
end DL
namespace L2
open PySem PySem.Spec PyProof.Rows
section
variable {prog : Program} {w : World} {A : Around} {E : Value → Shared → Prop} {s : Shared}
inductive RgEnd (s : Shared) (n : Nat) (q : Result) (s' : Shared) : Prop
 | mk (h' : Heap) (tk : Nat) (acc : Array Value) (c : Nat) (e1 : q = .ok (.ret (.ref s.heap.objs.size))) (e2 : s' = { s with heap:=h',toks:=tk }) (k : ∀ b o,s.heap.get? b = some o → h'.get? b = some o)
   (at' : h'.get? s.heap.objs.size = some { cls:=.type "list",dict:=none,data:=.seq acc c,slots:=#[] }) (got : ItemsOf (fun i v=>∃ t,v = Value.int ((0 : Int) + i * 1) t) acc n)
end
end L2
namespace L2
open PySem PySem.Spec PyProof.Rows
open Att
noncomputable def jq4 {α : Type} (c : Nat → Nat → Bool) : PySem.W.KasT α → α
 | .ret a=>a
 | .ask i j k=>jq4 c (k (c i j))
noncomputable def jpt {α : Type} (n : Nat) : PySem.W.KasT α → Bool
 | .ret _=>true
 | .ask i j k=>decide (i < n) && decide (j < n) && jpt n (k true) && jpt n (k false)
noncomputable def jmo (keys : List Int) (n : Nat) : List Nat:=(jq4 (fun i j=>decide (keys.getD i 0 < keys.getD j 0)) (PySem.W.kas_sort n)).toList
section
variable {prog : Program} {w : World} {A : Around} {E : Value → Shared → Prop} {s : Shared} {L : Addr} {m : Str → Option Value} {h h1 h2 g : Heap}
structure Lk (L : Addr) (m : Str → Option Value) (h h' : Heap) : Prop where
 k : ∀ b o,b ≠ L → h.get? b = some o → h'.get? b = some o
 ns : h'.Ns L m
end
end L2
namespace L2
open PySem PySem.Spec PyProof.Rows
section
variable {P : Program} {w : World} {H : Hp} {h : Heap} {a : Addr} {o : HO}
theorem ObjOk.here (x : ObjOk P w H h a o) : ∃ ob,h.get? a = some ob:=by
 cases o with
 | lst xs=>obtain ⟨_,_,_,_,e⟩:=x; exact ⟨_,e⟩
 | tup xs=>obtain ⟨_,_,_,o,e,_⟩:=x; exact ⟨_,e⟩
 | dK kvs=>obtain ⟨_,_,_,_,o,_,_,e,_⟩:=x; exact ⟨_,e⟩
 | dT kvs=>obtain ⟨_,_,_,_,o,_,_,e,_⟩:=x; exact ⟨_,e⟩
 | set S n=>obtain ⟨o,_,_,_,e,_⟩:=x; exact ⟨_,e⟩
 | ins C dx fs=>obtain ⟨_,_,_,e,_⟩:=x; exact ⟨_,e⟩
 | own y=>exact x
 | xd fs=>obtain ⟨_,⟨_,_,_,e,_⟩,_⟩:=x; exact ⟨_,e⟩
 | rng lo hi=>obtain ⟨_,_,_,e⟩:=x; exact ⟨_,e⟩
 | frz ob u=>obtain ⟨e,_⟩:=x; exact ⟨_,e⟩
 | tbl ps=>exact ⟨_,x⟩
 | met f y=>exact ⟨_,x⟩
 | ext φ=>exact x.2.1
end
section
variable {X : Cx} {pins : List (Addr × Obj)} {σ : St} {H : Hp} {s : Shared} {h' : Heap} {m : Str → Option Value}
end
end L2
namespace DL
open PySem PySem.Spec L2
section
variable {ρ₀ ρ ρ' : Rho} {S₀ S S' F : Addr → Bool} {H₀ H H1 H' : Hp} {K : PySem.W.Frag} {mg : Str → Option Value} {O O' B : List Nat} {σ σ' : St} {δ δ' : DSt} {Ω Ω' : Sto}
end
inductive CdOf (K : PySem.W.Frag) (mg : Str → Option Value) (x : Str) (cdv : Value) : Prop
 | mk (f : Addr) (oc : Value) (od : Option Addr) (fd : FuncData) (osl : Array (Option Value)) (h1 : mg x = some (.ref f)) (h2 : K.lookup f = some ⟨oc,od,.func fd,osl⟩) (h3 : fd.code = cdv)
noncomputable def ordD (n : Int) (rs : List D) : Option (List D):=match jhd rs with
 | some ks=>if 2 ≤ n ∧ n < 64 ∧ (ks.length : Int) = n ∧ jpt n.toNat (PySem.W.kas_sort n.toNat) = true ∧ (jmo (ks.map fun k=>-k) n.toNat).all (fun i=>decide (i < n.toNat)) = true ∧ (jmo (ks.map fun k=>-k) n.toNat).length ≤ 64 then
   some ((jmo (ks.map fun k=>-k) n.toNat).map fun i=>.int (Int.ofNat i)) else none
 | none=>none
inductive SortI (x : Str) (l c : Nat) (q : Str) (ir : Nat) (δ : DSt) (ds : List D) (Ω Ω' : Sto) (r : Except XD D) : Prop
 | mk (n : Int) (rs es : List D) (h1 : ds = [.int n]) (h2 : δ[ir]? = some (some (.lst rs))) (h3 : Ω[0]? = some (.tab x l c q)) (h4 : ordD n rs = some es) (h5 : r = .ok (.lst es)) (h6 : Ω' = Ω)
inductive OrdI (n : Int) (rs es : List D) : Prop
 | mk (N : Nat) (ks : List Int) (h1 : n = N) (h2 : rs = ks.map .int) (h3 : 2 ≤ N) (h4 : N < 64) (h5 : ks.length = N) (h6 : jpt N (PySem.W.kas_sort N) = true) (h7 : ∀ i ∈ jmo (ks.map fun k=>-k) N,i < N) (h8 : (jmo (ks.map fun k=>-k) N).length ≤ 64) (h9 : es = (jmo (ks.map fun k=>-k) N).map fun i=>.int (Int.ofNat i))
end DL
namespace DL
open PySem PySem.Spec PyProof.Rows L2
section
variable {X : Cx} {O : List Nat}
end
end DL
namespace DL
open PySem PySem.Spec PyProof.Rows L2
section
variable {P : Program} {w : World} {K : PySem.W.Frag} {mg : Str → Option Value} {base : Heap}
end
noncomputable def jr3 (T : Addr) (K : PySem.W.Frag) : PySem.W.Frag:=K.filter fun p=>!(p.1 == T)
section
variable {K : PySem.W.Frag} {T a : Addr}
variable (hT : K.lookup T = some ⟨.none,none,.fields #[],#[]⟩)
include hT
end
end DL
namespace DL
open PySem PySem.Spec PyProof.Rows L2
inductive LawT (P : Program) (w : World) (K : PySem.W.Frag) (mg : Str → Option Value) (n k : Nat) (x : Str) (fa : Addr) : Prop
 | mk (T c : Addr) (fd : FuncData) (sp : Sp) (h1 : K.lookup T = some ⟨.none,none,.fields #[],#[]⟩) (h2 : PySem.W.codeHdIn K c T = true) (h3 : ∀ (s : Shared) (u : Value),BindsTo s fd ⟨[u],[]⟩ [(x,u)])
   (h4 : ∀ base : Heap,(jr3 T K).In base → base.Ns mainGlobals mg → FnOk P w (jr3 T K) mg base CX0 k fa fd [x] sp)
   (h5 : ∀ (H : Hp) (a : Addr) (ns : List Int),ns.length ≤ n → H T = some (.tbl #[]) → SqL (jr3 T K) H a (ns.map V.int) → sp [.ref a] H (fun v _=>v = .bl true) fun _ _ _=>False)
end DL
namespace DL
open PySem PySem.Spec PyProof.Rows L2
section
variable {X : Cx} {O B : List Nat} {E : XK} {elt tg iter e : Expr} {pos : Pos} {fa fb : DSt → M D}
end
end DL
namespace L2
open PySem PySem.Spec PyProof.Rows
end L2
namespace DL
open PySem PySem.Spec PyProof.Rows L2
noncomputable def orA (G : Addr → Bool) (l : Addr) : Addr → Bool:=fun b=>G b || b == l
inductive spF (K : PySem.W.Frag) (mg : Str → Option Value) (n : Nat) (m : List D → MS D) (vs : List V) (H : Hp) (Q : VK) (E : XK) : Prop
 | mk (hn : vs.length = n) (ρ : Rho) (S F : Addr → Bool) (ds : List D) (Ω : Sto) (hF : ∀ b,F b = true → H b ≠ none) (hS : ∀ b,F b = true → S b = false) (hr : Reps ρ K (hid H (un F S)) ds vs) (hs : StoOk ρ S K mg H (hid H (un F S)) Ω) (es : List D) (Ω' : Sto) (hf : m ds Ω = some (.ok (.lst es),Ω'))
   (k : ∀ (l : Addr) zs ρ' S' H',RLe ρ ρ' → (∀ b o,S b = false → H b = some o → H' b = some o) → (∀ b,S b = true → S' b = true) → (∀ b,S' b = true → S b = true ∨ H b = none) → (∀ b,F b = true → S' b = false) → StoOk ρ' S' K mg H' (hid H' (orA (un F S') l)) Ω' →
    H l = none → H' l = some (.lst zs) → S' l = false → Reps ρ' K (hid H' (orA (un F S') l)) es zs → Q (.ref l) H')
structure CalF (P : Program) (w : World) (K : PySem.W.Frag) (mg : Str → Option Value) (base : Heap) (k : Nat) (x : Str) (n : Nat) (m : List D → MS D) : Prop where
 ex : CalX P w K mg base k x n (spF K mg n m)
 ar : ∀ ds Ω r,m ds Ω = some r → ds.length = n
 ls : ∀ ds Ω r Ω',m ds Ω = some (r,Ω') → ∃ es,r = .ok (.lst es)
inductive PickF (i : Nat) (q : Option (Except XD Out × Sto)) (es : List D) (Ω' : Sto) : Prop
 | mk (δ' : DSt) (h1 : q = some (.ok (.nx δ'),Ω')) (h2 : δ'[i]? = some (some (.lst es)))
section
variable {P : Program} {w : World} {K : PySem.W.Frag} {mg : Str → Option Value} {base : Heap}
end
section
variable {X : Cx} {O B : List Nat} {e : Expr} {es : List Expr} {fl : DSt → MS (List D)} {pos : Pos} {k n : Nat}
end
end DL
namespace L2
open PySem PySem.Spec PyProof.Rows
open Att
section
variable {prog : Program} {w : World} {A : Around} {E : Value → Shared → Prop} {s : Shared} {L : Addr} {m : Str → Option Value}
inductive TpAt (h : Heap) (v : Value) (ns : List Int) : Prop
 | mk (a : Addr) (its : Array Value) (e : v = .ref a) (h1 : IsTup h a its) (h2 : IntsAre its.toList ns)
end
end L2
namespace DL
open PySem PySem.Spec PyProof.Rows L2
section
variable {X : Cx} {O B : List Nat} {E : XK} {e : Expr} {pos : Pos} {fa fb : DSt → M D}
inductive TupV (K : PySem.W.Frag) (H : Hp) (v : V) (t : List Int) : Prop
 | mk (a : Addr) (e : v = .ref a) (h : SqT K H a (t.map V.int))
end
noncomputable def jhe (fa fb : DSt → MS D) : DSt → MS D:=fun δ=>(fa δ).b fun x=>match x with
 | .bl true=>fb δ
 | .bl false=>MS.p (.bl false)
 | _=>fun _=>none
section
variable {X : Cx} {O : List Nat} {a b : Expr} {rest : List Expr} {pos : Pos} {fa fb : DSt → MS D}
theorem jq7 {op} (h : ME X O a fa) : ME X O (.BoolOp op [a] pos) fa:=fun pins s σ H Q I hw=>jwg h pins s σ H Q I hw
theorem jnu (ha : ME X O a fa) (hb : ME X O (.BoolOp .And (b :: rest) pos) fb) : ME X O (.BoolOp .And (a :: b :: rest) pos) (jhe fa fb):=by
 rintro pins s σ H Q I ⟨ρ₀,S₀,H₀,F,ρ,S,δ,Ω,R,r,Ω',hf,k⟩
 refine jwa ha hb pins s σ H Q I ?_
 rcases MS.b_inv hf with ⟨x,Ω1,e1,hf⟩ | ⟨x,e1,rfl⟩
 ·refine ⟨ρ₀,S₀,H₀,F,ρ,S,δ,Ω,R,.ok x,Ω1,e1,fun u ρ1 S1 H1 R1 l1 v1 r1=>?_⟩
  cases x with
  | bl z =>
   refine ⟨z,rep_bl.mp r1,?_⟩
   cases z with
   | true =>
    refine iteT ⟨ρ₀,S₀,H₀,F,ρ1,S1,δ,Ω1,R1,r,Ω',hf,?_⟩
    cases r with
    | ok d=>exact fun v ρ2 S2 H2 R2 l2 v2 r2=>k v ρ2 S2 H2 R2 (l1.trans l2) (v1.trans v2) r2
    | error y=>trivial
   | false =>
    refine iteF ?_
    cases hf
    exact k _ ρ1 S1 H1 R1 l1 v1 (rep_bl.mpr rfl)
  | _=>cases hf
 ·exact ⟨ρ₀,S₀,H₀,F,ρ,S,δ,Ω,R,.error x,_,e1,trivial⟩
end
end DL
namespace L2
open PySem PySem.Spec PyProof.Rows
end L2
namespace L2
open PySem PySem.Spec PyProof.Rows
end L2
namespace L2
open PySem PySem.Spec PyProof.Rows
end L2
namespace L2
open PySem PySem.Spec PyProof.Rows
end L2
namespace L2
open PySem PySem.Spec PyProof.Rows
end L2
namespace L2
open PySem PySem.Spec PyProof.Rows
end L2
namespace L2
open PySem PySem.Spec PyProof.Rows
end L2
namespace L2
open PySem PySem.Spec PyProof.Rows
end L2
namespace L2
open PySem PySem.Spec PyProof.Rows
end L2
namespace L2
open PySem PySem.Spec PyProof.Rows
end L2
namespace L2
open PySem PySem.Spec PyProof.Rows
section
variable {κ : Type} [DecidableEq κ]
end
section
variable {P : Program} {w : World} {H : Hp} {h : Heap} {a : Addr}
end
section
variable {X : Cx} {pins : List (Addr × Obj)} {σ : St} {H : Hp} {s : Shared} {a : Addr} {y v : V} {u r : Value} {o : Option V} {A : Around} {E : Value → Shared → Prop}
end
section
variable {X : Cx} {pins : List (Addr × Obj)} {σ : St} {H : Hp} {s : Shared} {a : Addr} {kvs : List (Key × V)} {k : Key} {u : Value} {A : Around} {E : Value → Shared → Prop}
end
section
variable {X : Cx} {o i e value : Expr} {pos pos' tpos : Pos} {td ty tv : TE}
end
section
variable {X : Cx} {pos : Pos}
end
structure M1 (X : Cx) (o : Expr) (m : Str) (apos : Pos) (e : Expr) (cpos : Pos) : Prop where
 base : attributeBase o m X.env (eval o X.env) = eval o X.env
 few : ((backTo cpos (starEach [e] X.env)).all (fun x=>!x.1) && (backToKw cpos (keywordEach [] X.env)).all (fun x=>x.1.isSome)
  && decide (([e] : List Expr).length + ([] : List Keyword).length + (if ([] : List Keyword).isEmpty then 0 else 1) < 30)) = true
 line : (apos.endLine == cpos.line) = true
 trees : backTo cpos (starEach [e] X.env) = [(false,eval e X.env)]
structure M2 (X : Cx) (o : Expr) (m : Str) (apos : Pos) (e f : Expr) (cpos : Pos) : Prop where
 base : attributeBase o m X.env (eval o X.env) = eval o X.env
 few : ((backTo cpos (starEach [e,f] X.env)).all (fun x=>!x.1) && (backToKw cpos (keywordEach [] X.env)).all (fun x=>x.1.isSome)
  && decide (([e,f] : List Expr).length + ([] : List Keyword).length + (if ([] : List Keyword).isEmpty then 0 else 1) < 30)) = true
 line : (apos.endLine == cpos.line) = true
 trees : backTo cpos (starEach [e,f] X.env) = [(false,eval e X.env),(false,eval f X.env)]
section
variable {X : Cx} {pins : List (Addr × Obj)} {σ : St} {H : Hp} {s : Shared} {a : Addr} {y d : V} {u r : Value} {o : Option V} {A : Around} {E : Value → Shared → Prop}
end
section
variable {X : Cx} {o e f : Expr} {apos cpos : Pos} {td ty tx : TE}
end
section
variable {X : Cx} {pins : List (Addr × Obj)} {σ : St} {H : Hp} {s : Shared} {a : Addr} {kvs : List (Key × V)} {A : Around} {E : Value → Shared → Prop}
end
section
variable {X : Cx} {pins : List (Addr × Obj)} {σ : St} {H : Hp} {s : Shared} {a : Addr} {y : V} {u : Value} {A : Around} {E : Value → Shared → Prop}
end
end L2
namespace Att
open PySem PySem.W PySem.Calls PyProof.Rows
end Att
namespace L2
open PySem PySem.Spec PyProof.Rows
end L2
namespace L2
open PySem PySem.Spec PyProof.Rows
end L2
namespace L2
open PySem PySem.Spec PyProof.Rows
section
variable {κ : Type} [DecidableEq κ]
end
end L2
namespace L2
open PySem PySem.Spec PyProof.Rows Builtin Builtin.ObjectAttr
open PySem.W (Frag InstAt Looks findIn mroIn clsIn findObj takerIn tailIn isFn)
noncomputable abbrev bmV : List Value:=[.type "ValueError",.type "Exception",.type "BaseException",.type "object"]
noncomputable def xIn (K : Frag) (C : Addr) : Bool:=match K.lookup C with
 | some ⟨.type "type",_,.cls cd,sl⟩=>(match cd.mro,sl.toList with
  | .ref C' :: bm,[_,_,_,_,some (.builtin n),_]=>C' == C && n == "ValueError.__new__" && !cd.hasDel && cd.hasDict && tailIn K bmV bm
  | _,_=>false)
 | _=>false
inductive XAt (K : Frag) (h : Heap) (C : Addr) : Prop
 | mk (bm : List Value) (N : Addr) (nm q : Str) (bs : List Value) (sn : List Str) (sub : List Value) (ab : Bool) (col : Option Bool) (dd : Option Addr) (k0 k1 k2 k3 k5 : Option Value) (cd : ClassData)
  (hC : h.get? C = some (excClassObj nm q C N bs bm true sn sub ab col dd k0 k1 k2 k3 k5 "ValueError.__new__")) (T : OwnTail h bmV bm) (hk : clsIn K C = some cd) (hm : cd.mro = .ref C :: bm) (hd : cd.hasDict = true) (hN : cd.ns = N)
theorem x_at {K : Frag} {h : Heap} {C : Addr} (X : K.In h) (e : xIn K C = true) : XAt K h C:=by
 unfold xIn at e
 split at e
 ·rename_i dd cd sl ho
  split at e
  ·rename_i C' bm k0 k1 k2 k3 n k5 hm hs
   simp only [Bool.and_eq_true,beq_iff_eq,Bool.not_eq_true'] at e
   obtain ⟨⟨⟨⟨e1,e2⟩,e3⟩,e4⟩,e5⟩:=e
   subst e1 e2
   have hk : clsIn K C' = some cd:=by unfold clsIn; rw [ho]
   have hm0:=hm
   have e40:=e4
   obtain ⟨nm,bs,mro,ns,qn,hd,sn,sub,ab,col,del⟩:=cd
   dsimp only at hm e3 e4
   subst hm e3 e4
   have hsl : sl = #[k0,k1,k2,k3,some (.builtin "ValueError.__new__"),k5]:=by
    obtain ⟨l⟩:=sl
    simp only at hs
    rw [hs]
   subst hsl
   exact ⟨bm,ns,nm,qn,bs,sn,sub,ab,col,dd,k0,k1,k2,k3,k5,_,X _ _ ho,PySem.W.tail_of_in X e5,hk,hm0,e40,rfl⟩
  ·cases e
 ·cases e
theorem jkv {h : Heap} {bm : List Value} (self : Value) (T : OwnTail h bmV bm) : refuseLoop self "__setattr__" bm = pure ():=by
 induction T with
 | base=>exact PySem.F.store_ValueError.passes self
 | own _ _ _ _ ih=>rw [refuseLoop_ref]; exact ih
section
variable {prog : Program} {w : World} {A : Around} {E : Value → Shared → Prop} {s : Shared} {K : Frag} {x C f : Addr} {name : Str} {v : Value} {ox : Obj} {od : Option Obj}
theorem jxb {rest : List Value} {Q : Value → Shared → Prop} (X : K.In s.heap) (hx : xIn K C = true) (hi : findIn K (.ref C) "__init__" = some (some (.ref f))) (hf : isFn K (.ref f) = true)
  (hq : ∀ h' e,Heap.MadeExcOf s.heap h' e (.ref C) rest → wpAny (model prog w) (A.under (.builtin "type.__call__" ⟨.ref C :: rest,[]⟩)) (call (.ref f) (.ref e :: rest)) (fun r s'=>r = .none ∧ Q (.ref e) s') E { s with heap:=h' }) (hrest : rest.length ≤ sizeLine) :
  wpAny (model prog w) A (call (.ref C) rest) Q E s:=by
 obtain ⟨bm,N,nm,q,bs,sn,sub,ab,col,dd,k0,k1,k2,k3,k5,cd,hC,T,hk,hm,hd,hN⟩:=x_at X hx
 obtain ⟨h,g,d,t,os⟩:=s
 have F:=PySem.F.excBase_ValueError
 have f1:=tc_lookup
 have f2:=tc_bind (.ref C)
 have hT : (⟨h,g,d,t,os⟩ : Shared).TypeIs (.ref C) "type":=⟨_,hC,rfl⟩
 refine wpAny_call (codeAny_of_tree (show wpAny _ _ (callAny (.ref C) _) _ _ _ from ?_))
 repeat (any_goals (first | assumption | with_reducible refine wpAny_loadPart_at hC ?_ | wp_step))
 refine ⟨rfl,codeAny_call_builtin_at (Code.quiet_builtin _ (by decide +kernel)) entry_typeCall (wpAny_check_type_call_sub hC ?_)⟩
 repeat (first | with_reducible refine wpAny_loadPart_at hC ?_ | with_reducible refine wpAny_madeBy_exc hC ?_ | wp_step)
 refine codeAny_call_builtin_code (Code.quiet_builtin _ F.quiet) (wpAny_check_new_subT F T hC (codeAny_exc_new_subT F T hC (show wpAny _ _ _ _ _ _ from ?_) hrest))
 have kp : ∀ b o,h.get? b = some o → ((h.push { cls:=.type "tuple",data:=.seq rest.toArray }).push { cls:=.ref C,data:=.fields #[.ref h.objs.size,.none,.none,.none,.bool false,.none] }).get? b = some o:=fun b o e=>Heap.get?_push_of_some _ (Heap.get?_push_of_some _ e)
 have hC1:=kp _ _ hC
 have X1 : K.In ((h.push { cls:=.type "tuple",data:=.seq rest.toArray }).push { cls:=.ref C,data:=.fields #[.ref h.objs.size,.none,.none,.none,.bool false,.none] }):=fun b o e=>kp b o (X b o e)
 have hg1 : ((h.push { cls:=.type "tuple",data:=.seq rest.toArray }).push { cls:=.ref C,data:=.fields #[.ref h.objs.size,.none,.none,.none,.bool false,.none] }).get? (h.objs.size + 1) = some { cls:=.ref C,data:=.fields #[.ref h.objs.size,.none,.none,.none,.bool false,.none] }:=by heap_get
 have hc1 : (Value.ref C :: bm).contains (.ref C) = true:=by simp
 unfold isInstance
 repeat (first | with_reducible refine wpAny_loadPart_at hg1 ?_ | (with_reducible refine wpAny_isSubtype_exc hC1 ?_; rw [hc1]) | wp_step)
 refine wpAny_isSubtype_exc (C:=C) hC1 ?_
 rw [hc1]
 repeat wp_step
 repeat (first | with_reducible refine wpAny_loadPart_at hg1 ?_ | wp_step)
 show wpAny _ _ (typeLookup (.ref C) _) _ _ _
 refine (PySem.W.looks_findIn X1 hi).at ?_
 refine wpAny_holding (wpAny_bind ((PySem.W.bind_fn X1 _ (beq_iff_eq.mp hf)).at ?_))
 refine wpAny_bind (wpAny_mono (hq _ (h.objs.size + 1) ⟨kp,Heap.get?_none_of_le (Nat.le_succ _),h.objs.size,hg1,Heap.get?_none_of_le (Nat.le_refl _),Heap.get?_push_of_some _ (Heap.get?_push_at rfl rfl)⟩) (fun r s' hr=>?_) fun _ _ z=>z)
 obtain ⟨rfl,hQ⟩:=hr
 wp_walk
 exact hQ
noncomputable def xNoI (K : Frag) (C : Addr) : Bool:=(clsIn K C).any fun cd=>PySem.W.nsOkIn K cd.ns && PySem.W.nsIn K cd.ns "__init__" == some none
theorem jub {K : Frag} {C : Addr} {h : Heap} (X : K.In h) (hx : xIn K C = true) {T : String} (hT : bmV.contains (.type T) = true) : mroIn K C (.type T) = some true:=by
 obtain ⟨bm,N,nm,q,bs,sn,sub,ab,col,dd,k0,k1,k2,k3,k5,cd,hC,Tl,hk,hm,hd,hN⟩:=x_at X hx
 unfold mroIn
 rw [hk,Option.bind_some,hm,if_neg (fun z=>by cases z),List.contains_cons,Tl.hasType hT,Bool.or_true]
theorem jxc {R : Result → Shared → Prop} {tk : Tok} (X : K.In s.heap) (I : InstAt s.heap x ox C od) (hx : xIn K C = true) (ht : takerIn K C name = some none)
  (h : ∀ b,wpAny (model prog w) A.in1 (storeInOwnDict (.ref x) (.ref C) (.str name tk) name v b) (fun fin s'=>match fin with | .done f=>R (.ok f) s' | .again c'=>c'.quiet = true ∧ codeAny (model prog w) A c' R s') (fun e s'=>R (.error e) s') s) :
  codeAny (model prog w) A (.call (.builtin "object.__setattr__") ⟨[.ref x,.str name tk,v],[]⟩) R s:=by
 have SF:=PySem.F.store_object
 have sub : Looks (model prog w) s.heap (isInstance (.ref x) (.type "object")) true:=I.type.andThen (PySem.W.looks_mroIn X (jub X hx (by decide)))
 obtain ⟨bm,N,nm,q,bs,sn,sub',ab,col,dd,k0,k1,k2,k3,k5,cd,hC,Tl,hk,hm,hd,hN⟩:=x_at X hx
 have hmr : Looks (model prog w) s.heap (mroOf (.ref C)) (.ref C :: bm):=by
  have:=(PySem.W.looks_clsIn (M:=model prog w) X hk).andThen (f:=fun cd=>pure cd.mro) (b:=cd.mro) .now
  rw [hm] at this
  exact this
 refine codeAny_call_builtin SF.slot.plain SF.entry (@PySem.W.check_slot (model prog w) _ _ s "object.__setattr__" "object" "__setattr__" (.ref x) [.str name tk,v] [] _ SF.kind SF.split sub (SF.args (.ref x) (.str name tk) v) ?_)
 obtain ⟨attr,ha,hr⟩:=Option.bind_eq_some_iff.mp ht
 have L3 : Looks (model prog w) s.heap (storeTaker? attr) none:=by
  cases attr with
  | none=>exact .now
  | some a =>
   obtain ⟨b,hb,e⟩:=Option.map_eq_some_iff.mp hr
   cases b with
   | false=>exact (PySem.W.looks_takesIn X hb).andThen .now
   | true=>cases e
 rw [PySem.W.osa_eq,refuse_eq]
 refine wpAny_bind (wpAny_bind (I.type.here (wpAny_bind (hmr.here ?_))))
 rw [refuseLoop_ref,jkv _ Tl]
 exact wpAny_pure (wpAny_bind (I.type.here (wpAny_bind ((PySem.W.looks_findIn X ha).here (wpAny_bind (L3.here (h _)))))))
theorem joz {h : Heap} {vs : Array Value} {sl : Array (Option Value)} (e : h.get? x = some (xOb C none vs sl)) : InstAt h x (xOb C none vs sl) C none:=⟨e,rfl,rfl,trivial⟩
theorem jkz {h : Heap} {vs : Array Value} {sl : Array (Option Value)} {dx : Addr} {o : Obj} (e : h.get? x = some (xOb C (some dx) vs sl)) (e2 : h.get? dx = some o) : InstAt h x (xOb C (some dx) vs sl) C (some o):=⟨e,rfl,rfl,e2⟩
theorem jxd {vs : Array Value} {sl : Array (Option Value)} {Q : Unit → Shared → Prop} (X : K.In s.heap) (h0 : s.heap.get? x = some (xOb C none vs sl)) (hx : xIn K C = true) (hs : findIn K (.ref C) "__setattr__" = some (some (.builtin "object.__setattr__"))) (ht : takerIn K C name = some none)
  (h : ∀ h' : Heap,h'.get? x = some (xOb C (some s.heap.objs.size) vs sl) → h'.Ns1 s.heap.objs.size (fun y=>if y = name then some v else none) → (∀ b ob,b ≠ x → s.heap.get? b = some ob → h'.get? b = some ob) → Q () { s with heap:=h',toks:=s.toks + 2 }) :
  wpAny (model prog w) A (setAttr (.ref x) name v) Q E s:=by
 have I:=joz h0
 refine PySem.W.set_plain X I hs (jxc (s:={ s with toks:=s.toks + 1 }) X I hx ht fun b=>?_)
 obtain ⟨bm,N,nm,q,bs,sn,sub',ab,col,dd,k0,k1,k2,k3,k5,cd,hC,Tl,hk,hm,hd,hN⟩:=x_at X hx
 have hxs : x ≠ s.heap.objs.size:=Nat.ne_of_lt (Heap.lt_size h0)
 have h1 : (s.heap.push { cls:=.type "dict",data:=.dict #[] }).get? x = some (xOb C none vs sl):=Heap.get?_push_of_some _ h0
 refine wpAny_bind (wpAny_pure (wpAny_bind (wpAny_bind (wpAny_loadPart h0 (wpAny_bind (Looks.here (s:={ s with toks:=s.toks + 1 }) (PySem.W.looks_clsIn X hk) ?_))))))
 rw [hd]
 refine (show wpAny (model prog w) A.in1 (alloc { cls:=Value.type "dict",data:=Data.dict #[] } >>= fun d=>update x (fun o=>{ cls:=o.cls,dict:=some d,data:=o.data,slots:=o.slots }) >>= fun _=>(pure (some d) : Sem (Option Addr))) _ _ _ from ?_)
 refine wpAny_bind (wpAny_alloc (wpAny_bind (wpAny_update h1 (wpAny_pure ?_))))
 have g1 : ((s.heap.push { cls:=.type "dict",data:=.dict #[] }).update x fun o=>{ cls:=o.cls,dict:=some s.heap.objs.size,data:=o.data,slots:=o.slots }).get? s.heap.objs.size = some { cls:=.type "dict",data:=.dict #[] }:=by
  rw [Heap.get?_update_ne _ _ _ _ hxs.symm]; exact Heap.get?_push_size _ rfl
 have g2 : ((s.heap.push { cls:=.type "dict",data:=.dict #[] }).update x fun o=>{ cls:=o.cls,dict:=some s.heap.objs.size,data:=o.data,slots:=o.slots }).Ns s.heap.objs.size (fun _=>none) :=
  ⟨_,#[],_,g1,rfl,(fun e he=>absurd he (by simp)),fun _=>rfl⟩
 show wpAny _ _ (storeInDict s.heap.objs.size (.str name s.toks) name v) _ _ _
 unfold storeInDict newKeyGuard
 refine wpAny_bind (wpAny_pure (wpAny_bind (wpAny_nsSet1 (s:=⟨(s.heap.push { cls:=.type "dict",data:=.dict #[] }).update x fun o=>{ cls:=o.cls,dict:=some s.heap.objs.size,data:=o.data,slots:=o.slots },s.gens,s.drawn,s.toks + 1,s.os⟩) (Heap.Ns1.of_empty g2) fun h' hn' hsb=>?_)))
 obtain ⟨oD,esD,epD,hoD,hdD,hcD⟩:=hn'.count (PySem.Within.cons name v PySem.Within.nil)
 refine wpAny_bind (wpAny_lookBehind hoD (by rw [hdD]; exact pastItsLine_dict (Nat.le_trans hcD (by rw [List.length_cons,List.length_nil,sizeLine_eq]; omega))) ?_)
 refine wpAny_pure (h h' ?_ hn' fun b ob nb hb=>?_)
 ·refine (hsb.2 x hxs).trans (Heap.get?_update_self _ h1 rfl)
 ·exact (hsb.2 b (Nat.ne_of_lt (Heap.lt_size hb))).trans ((Heap.get?_update_ne _ _ _ _ nb).trans (Heap.get?_push_of_some _ hb))
theorem jxe {vs : Array Value} {sl : Array (Option Value)} {dx : Addr} {mA : Str → Option Value} {ns : List Str} {Q : Unit → Shared → Prop} (X : K.In s.heap) (h0 : s.heap.get? x = some (xOb C (some dx) vs sl)) (hn : s.heap.Ns1 dx mA) (hx : xIn K C = true)
  (hs : findIn K (.ref C) "__setattr__" = some (some (.builtin "object.__setattr__"))) (ht : takerIn K C name = some none) (hw : PySem.Within mA ns) (hsz : ns.length ≤ sizeLine)
  (h : ∀ h' : Heap,h'.Ns1 dx (fun y=>if y = name then some v else mA y) → Heap.SameBut dx s.heap h' → Q () { s with heap:=h',toks:=s.toks + 2 }) :
  wpAny (model prog w) A (setAttr (.ref x) name v) Q E s:=by
 obtain ⟨od,_,_,e1,_⟩:=id hn
 have I:=jkz h0 e1
 refine PySem.W.set_plain X I hs (jxc (s:={ s with toks:=s.toks + 1 }) X I hx ht fun b=>?_)
 obtain ⟨bm,N,nm,q,bs,sn,sub',ab,col,dd,k0,k1,k2,k3,k5,cd,hC,Tl,hk,hm,hd,hN⟩:=x_at X hx
 refine wpAny_bind (wpAny_pure (wpAny_bind (wpAny_bind (wpAny_loadPart h0 (wpAny_bind (Looks.here (s:={ s with toks:=s.toks + 1 }) (PySem.W.looks_clsIn X hk) ?_))))))
 rw [hd]
 refine wpAny_pure (a:=some dx) (wpAny_bind (wpAny_pure (wpAny_bind (wpAny_nsSet1 (s:={ s with toks:=s.toks + 1 }) hn fun h' hn2 hs2=>?_))))
 obtain ⟨oD,esD,epD,hoD,hdD,hcD⟩:=hn2.count (PySem.Within.cons name v hw)
 exact wpAny_bind (wpAny_lookBehind hoD (by rw [hdD]; exact pastItsLine_dict (Nat.le_trans hcD (by rw [List.length_cons]; omega))) (wpAny_pure (h _ hn2 hs2)))
end
end L2
namespace L2
open PySem PySem.Spec PyProof.Rows Builtin Builtin.ObjectAttr
open PySem.W (Frag InstAt Looks findIn mroIn clsIn findObj takerIn specialIn takesIn hasDictIn isFn)
section
variable {prog : Program} {w : World} {A : Around} {E : Value → Shared → Prop} {s : Shared} {K : Frag} {x C f : Addr} {name : Str} {v : Value} {ox : Obj} {od : Option Obj}
theorem jpu : builtinKind "BaseException.__getattribute__" = some .slot:=by decide +kernel
theorem jop : splitId "BaseException.__getattribute__" = some ("BaseException","__getattribute__"):=by decide +kernel
theorem x_ga {R : Result → Shared → Prop} {tk : Tok} (X : K.In s.heap) (I : InstAt s.heap x ox C od) (hx : xIn K C = true)
  (h : wpAny (model prog w) A.in1 (Builtin.«object.__getattribute__» ⟨[.ref x,.str name tk],[]⟩) (fun fin s'=>match fin with | .done f=>R (.ok f) s' | .again c'=>c'.quiet = true ∧ codeAny (model prog w) A c' R s') (fun e s'=>R (.error e) s') s) :
  codeAny (model prog w) A (.call (.builtin "BaseException.__getattribute__") ⟨[.ref x,.str name tk],[]⟩) R s:=by
 have sub : Looks (model prog w) s.heap (isInstance (.ref x) (.type "BaseException")) true:=I.type.andThen (PySem.W.looks_mroIn X (jub X hx (by decide)))
 exact codeAny_call_builtin PySem.F.excAttr_ValueError.ga.plain PySem.F.entry_bexc_ga (@PySem.W.check_slot (model prog w) _ _ s "BaseException.__getattribute__" "BaseException" "__getattribute__" (.ref x) [.str name tk] [] _ jpu jop sub (PySem.F.args_bexc_ga _ _) h)
theorem x_by {tk : Tok} {fill expr : Bool} {Q : Value → Shared → Prop} (X : K.In s.heap) (I : InstAt s.heap x ox C od) (hx : xIn K C = true) (hga : findIn K (.ref C) "__getattribute__" = some (some (.builtin "BaseException.__getattribute__"))) (hgh : findIn K (.ref C) "__getattr__" = some none)
  (h : wpAny (model prog w) A.in1 (Builtin.«object.__getattribute__» ⟨[.ref x,.str name tk],[]⟩) (fun fin s'=>match fin with | .done (.ret v)=>wpAny (model prog w) A (handedOut v) Q E s' | _=>False) (fun _ _=>False) s) :
  wpAny (model prog w) A (getAttrBy (.ref x) (.str name tk) fill expr) Q E s:=by
 have L0:=I.type (M:=model prog w)
 have L1:=PySem.W.looks_findIn (M:=model prog w) X hga
 have L2:=PySem.W.looks_hook (M:=model prog w) (mc:=.ref C) (r:=none) X hgh
 unfold getAttrBy
 refine wpAny_holding (wpAny_bind (L0.here (wpAny_bind (L1.here ?_))))
 show wpAny _ _ (getAttrByItsOwn (.ref x) (.str name tk) (.ref C) (.builtin "BaseException.__getattribute__") fill expr) _ _ _
 unfold getAttrByItsOwn
 refine wpAny_bind (L2.here (wpAny_bind (wpAny_attempt (wpAny_holding ?_))))
 have e0 : callGetattribute (.ref x) (.str name tk) (.builtin "BaseException.__getattribute__") expr = boundAndCalled (.builtin "BaseException.__getattribute__") (.ref x) (.str name tk):=by cases expr <;> rfl
 rw [e0]
 unfold boundAndCalled
 rw [PySem.F.excAttr_ValueError.ga.bind]
 refine wpAny_bind (wpAny_pure (wpAny_call (x_ga X I hx (wpAny_mono h (fun fin s' z=>?_) fun _ _ z=>z.elim))))
 rcases fin with (_ | _ | _ | _) | _ <;> first | exact z | exact z.elim
theorem jrm {tk : Tok} {r : Found} {Q : PySem.Fin → Shared → Prop} (X : K.In s.heap) (I : InstAt s.heap x ox C od) (hf : findObj K C od name = some r)
  (h : wpAny (model prog w) A (match r with | .value v=>ret v | .bind g a=>bindTo g a (.ref x) (.ref C) | .missing=>unsupported "no") Q E s) (hr : r ≠ .missing) :
  wpAny (model prog w) A (Builtin.«object.__getattribute__» ⟨[.ref x,.str name tk],[]⟩) Q E s:=by
 have L0:=I.type (M:=model prog w)
 have L1:=PySem.W.looks_find (M:=model prog w) X I hf
 refine wpAny_bind (wpAny_pure (wpAny_bind (wpAny_pure (wpAny_bind (L0.here (wpAny_bind (L1.here ?_)))))))
 cases r with
 | value v=>exact h
 | bind g a=>exact h
 | missing=>exact absurd rfl hr
theorem jxa {h : Heap} (X : K.In h) (hx : xIn K C = true) : hasDictIn K C = true:=by
 obtain ⟨bm,N,nm,q,bs,sn,sub',ab,col,dd,k0,k1,k2,k3,k5,cd,hC,Tl,hk,hm,hd,hN⟩:=x_at X hx
 unfold hasDictIn
 rw [hk]; exact hd
theorem jy7 {vs : Array Value} {sl : Array (Option Value)} {dx : Addr} {mA : Str → Option Value} {expr : Bool} {Q : Value → Shared → Prop} (X : K.In s.heap) (h0 : s.heap.get? x = some (xOb C (some dx) vs sl)) (hn : s.heap.Ns1 dx mA) (hx : xIn K C = true)
  (hga : findIn K (.ref C) "__getattribute__" = some (some (.builtin "BaseException.__getattribute__"))) (hgh : findIn K (.ref C) "__getattr__" = some none) (ha : findIn K (.ref C) name = some none) (hv : mA name = some v) (hh : PySem.W.handedIn v = true)
  (h : Q v { s with toks:=s.toks + 1 }) : wpAny (model prog w) A (getAttr (.ref x) name expr) Q E s:=by
 obtain ⟨o,ho,hl⟩:=jjd hn
 have I:=jkz h0 ho
 unfold getAttr
 refine wpAny_bind (wpAny_mkText (x_by (s:={ s with toks:=s.toks + 1 }) X I hx hga hgh (jrm (s:={ s with toks:=s.toks + 1 }) X I (r:=.value v) (PySem.W.findObj_own (jxa X hx) ha rfl (by rw [hl,hv])) (wpAny_pure (PySem.W.handed_on hh h)) (fun z=>nomatch z))))
theorem jt9 {Q : Option Value → Shared → Prop} (X : K.In s.heap) (I : InstAt s.heap x ox C od) (hx : xIn K C = true) (hga : findIn K (.ref C) "__getattribute__" = some (some (.builtin "BaseException.__getattribute__"))) (hgh : findIn K (.ref C) "__getattr__" = some none)
  (ha : findIn K (.ref C) "__class__" = some (some (.builtin "object.__class__"))) (hn : specialIn K (.builtin "object.__class__") "__get__" = some (some (.builtin "getset_descriptor.__get__"))) (htk : takesIn K (.builtin "object.__class__") = some true)
  (h : Q (some (.ref C)) { s with toks:=s.toks + 1 }) : wpAny (model prog w) A (getAttr? (.ref x) "__class__") Q E s:=by
 obtain ⟨bm,N,nm,q,bs,sn,sub',ab,col,dd,k0,k1,k2,k3,k5,cd,hC,Tl,hk,hm,hd,hN⟩:=x_at X hx
 have hf : findObj K C od "__class__" = some (.bind (.builtin "getset_descriptor.__get__") (.builtin "object.__class__")):=by
  unfold PySem.W.findObj
  rw [hk,Option.bind_some,ha,Option.bind_some]
  dsimp only
  rw [hn,Option.bind_some]
  dsimp only
  rw [htk]; rfl
 unfold getAttr? getAttrBy?
 refine wpAny_bind (wpAny_mkText (wpAny_bind (wpAny_attempt (x_by (s:={ s with toks:=s.toks + 1 }) X I hx hga hgh (jrm (s:={ s with toks:=s.toks + 1 }) X I hf (show wpAny _ _ (holding [Value.builtin "object.__class__"] (call (.builtin "getset_descriptor.__get__") [.builtin "object.__class__",.ref x,.ref C]) >>= ret) _ _ _ from ?_) (fun z=>nomatch z))))))
 refine wpAny_bind (wpAny_holding (wpAny_call (PySem.W.class_get (s:={ s with toks:=s.toks + 1 }) X I (jub X hx (by decide)) (wpAny_pure (PySem.W.handed_on rfl (wpAny_pure h))))))
theorem jvm (hx : xIn K C = true) (hga : findIn K (.ref C) "__getattribute__" = some (some (.builtin "BaseException.__getattribute__"))) (hgh : findIn K (.ref C) "__getattr__" = some none)
  (ha : findIn K (.ref C) "__class__" = some (some (.builtin "object.__class__"))) (hn : specialIn K (.builtin "object.__class__") "__get__" = some (some (.builtin "getset_descriptor.__get__"))) (htk : takesIn K (.builtin "object.__class__") = some true) :
  PySem.W.KitX K (.ref x) (.ref C) (fun h=>∃ ox od,InstAt h x ox C od) where
 ty:=fun _ _ _ ⟨_,_,I⟩=>I.type
 it:=fun _ _ X _=>by
  obtain ⟨bm,N,nm,q,bs,sn,sub',ab,col,dd,k0,k1,k2,k3,k5,cd,hC,Tl,hk,hm,hd,hN⟩:=x_at X hx
  intro A' Q' E' s' k z
  unfold isType loadHead
  exact wpAny_bind (wpAny_loadPart (k _ _ hC) (wpAny_pure z))
 ne:=fun h tp dd its n sl X htp=>by
  obtain ⟨bm,N,nm,q,bs,sn,sub',ab,col,dd',k0,k1,k2,k3,k5,cd,hC,Tl,hk,hm,hd,hN⟩:=x_at X hx
  refine Bool.eq_false_iff.mpr fun q=>?_
  rw [← Value.ref.inj (beq_iff_eq.mp q),hC] at htp
  exact absurd (Value.type.inj (congrArg Obj.cls (Option.some.inj htp))) (by decide)
 ca:=fun X ⟨_,_,I⟩ z=>jt9 X I hx hga hgh ha hn htk z
end
end L2
namespace L2
open PySem PySem.Spec PyProof.Rows
open PySem.W (Frag InstAt Looks findIn mroIn clsIn findObj takerIn specialIn takesIn hasDictIn isFn)
structure XCls (K : Frag) (C : Addr) : Prop where
 x : xIn K C = true
 sa : findIn K (.ref C) "__setattr__" = some (some (.builtin "object.__setattr__"))
 ga : findIn K (.ref C) "__getattribute__" = some (some (.builtin "BaseException.__getattribute__"))
 gh : findIn K (.ref C) "__getattr__" = some none
 cl : findIn K (.ref C) "__class__" = some (some (.builtin "object.__class__"))
 kp : PySem.W.keepIn K (.ref C) = true
noncomputable def xCls (K : Frag) (C : Addr) : Bool:=xIn K C && findIn K (.ref C) "__setattr__" == some (some (.builtin "object.__setattr__")) && findIn K (.ref C) "__getattribute__" == some (some (.builtin "BaseException.__getattribute__")) && findIn K (.ref C) "__getattr__" == some none && findIn K (.ref C) "__class__" == some (some (.builtin "object.__class__")) && PySem.W.keepIn K (.ref C)
theorem jud {K : Frag} {C : Addr} (h : xCls K C = true) : XCls K C:=by
 unfold xCls at h
 simp only [Bool.and_eq_true,beq_iff_eq] at h
 obtain ⟨⟨⟨⟨⟨h1,h2⟩,h3⟩,h4⟩,h5⟩,h6⟩:=h
 exact ⟨h1,h2,h3,h4,h5,h6⟩
section
variable {X : Cx} {pins : List (Addr × Obj)} {σ : St} {H : Hp} {s : Shared} {h' : Heap} {A : Around} {E : Value → Shared → Prop} {a C dx : Addr} {fs : List (Str × V)} {f : Str}
theorem jkd {P : Program} {w : World} {φ : Heap → Prop} {h : Heap} (e : φ h) (o : ∃ ob,h.get? a = some ob) (k : ∀ h1 h2 : Heap,φ h1 → (∀ ob,h1.get? a = some ob → h2.get? a = some ob) → φ h2) : ObjOk P w H h a (.ext φ):=⟨e,o,k⟩
theorem jl4 {P : Program} {w : World} {h : Heap} {od : Option Addr} {fr : Bool} {vs : Array Value} {sl : Array (Option Value)} (e : h.get? a = some (xOb C od vs sl)) (ef : fr = true → vs[1]? = some .none) : ObjOk P w H h a (XO a C od fr):=jkd ⟨vs,sl,e,ef⟩ ⟨_,e⟩ fun _ _ ⟨vs,sl,e,ef⟩ k=>⟨vs,sl,k _ e,ef⟩
theorem jrn {P : Program} {w : World} {h : Heap} (e : XDv a fs h) : ObjOk P w H h a (XDc a fs):=by
 refine jkd e ?_ ?_
 ·obtain ⟨mA,⟨o,_,_,q,_⟩,_⟩:=e
  exact ⟨o,q⟩
 ·rintro h1 h2 ⟨mA,n,r,w',l⟩ k
  exact ⟨mA,n.at k,r,w',l⟩
theorem jk0 {od : Option Addr} {fr : Bool} (I : Inv X pins σ H s) (e : H a = some (XO a C od fr)) : ∃ vs sl,s.heap.get? a = some (xOb C od vs sl) ∧ (fr = true → vs[1]? = some .none):=(show ObjOk X.prog X.w H s.heap a (XO a C od fr) from I.hok a _ e).1
theorem jue (I : Inv X pins σ H s) (e : H dx = some (XDc dx fs)) : XDv dx fs s.heap:=(show ObjOk X.prog X.w H s.heap dx (XDc dx fs) from I.hok dx _ e).1
theorem Inv.laidX {o : HO} {t' : Nat} (I : Inv X pins σ H s) (k : ∀ b u,s.heap.get? b = some u → h'.get? b = some u) (hD : s.heap.get? a = none) (new : ObjOk X.prog X.w (upd H a o) h' a o) : Inv X pins σ (upd H a o) { s with heap:=h',toks:=t' }:=by
 have hn : H a = none:=by
  cases e : H a with
  | none=>rfl
  | some u=>obtain ⟨o,q⟩:=(I.hok a u e).here; rw [hD] at q; cases q
 have nD : ∀ b o,s.heap.get? b = some o → b ≠ a:=fun b o e z=>by rw [z,hD] at e; cases e
 have nD' : ∀ b u,H b = some u → b ≠ a:=fun b u e z=>by rw [z,hn] at e; cases e
 refine I.un ⟨fun b u q _ _ _=>k b u q,fun b u q _ _ _=>⟨u.slots,k b u q⟩,fun b u q n _=>by rw [jai (nD b u q)]; exact n,fun b u q _=>⟨u,k b u q⟩,fun b xs q=>by rw [jai (nD' b _ q)]; exact q,fun b u xs q=>by rw [jai (nD' b _ q)]; exact q,fun b ps q=>⟨#[],by rw [jai (nD' b _ q),q]; simp⟩⟩ fun b u e=>?_
 by_cases z : b = a
 ·subst z
  rw [jak] at e
  cases e
  exact new
 ·rw [jai z] at e
  exact (I.hok b u e).stay (fun c v _ q=>k c v q) (fun c q=>by rw [jai (nD' c _ q)]; exact q) fun c xs q=>by rw [jai (nD' c _ q)]; exact q
theorem jib {h : Heap} {b : Addr} (I : Inv X pins σ H s) (hD : s.heap.get? b = none) : H b = none:=by
 cases e : H b with
 | none=>rfl
 | some u=>obtain ⟨o,q⟩:=(I.hok b u e).here; rw [hD] at q; cases q
theorem jqs {y : V} {u : Value} {fr : Bool} {Q : Unit → Shared → Prop} (I : Inv X pins σ H s) (e : H a = some (XO a C none fr)) (c : XCls X.K C) (ht : takerIn X.K C f = some none) (ry : RelV y u)
  (h : ∀ d s',H d = none → Inv X pins σ (upd (upd H d (XDc d [(f,y)])) a (XO a C (some d) fr)) s' → Q () s') : wpAny (model X.prog X.w) A (setAttr (.ref a) f u) Q E s:=by
 obtain ⟨vs,sl,h0,hf0⟩:=jk0 I e
 refine jxd I.kIn h0 c.x c.sa ht fun h' e1 n1 k1=>?_
 have hD : s.heap.get? s.heap.objs.size = none:=Heap.get?_none_of_le (Nat.le_refl _)
 have hn:=jib (h:=s.heap) I hD
 have ne : a ≠ s.heap.objs.size:=fun z=>by rw [z,hD] at h0; cases h0
 have nd : XDv s.heap.objs.size [(f,y)] h':=by
  refine ⟨_,n1,fun g=>?_,fun g hg=>?_,Nat.le_of_ble_eq_true rfl⟩
  ·show RelO (List.lookup g [(f,y)]) (if g = f then some u else none)
   by_cases q : g = f
   ·subst q
    rw [if_pos rfl,List.lookup_cons,beq_self_eq_true]; exact ry
   ·rw [if_neg q,List.lookup_cons,show (g == f) = false by simpa using q]; exact True.intro
  ·by_cases q : g = f
   ·subst q; exact List.mem_singleton.mpr rfl
   ·exact absurd (if_neg q) hg
 refine h s.heap.objs.size _ hn ?_
 have nD : ∀ b o,s.heap.get? b = some o → b ≠ s.heap.objs.size:=fun b o q z=>by rw [z,hD] at q; cases q
 have nD' : ∀ b u,H b = some u → b ≠ s.heap.objs.size:=fun b u q z=>by rw [z,hn] at q; cases q
 have na : ∀ b,H b = none → b ≠ a:=fun b q z=>by rw [z,e] at q; cases q
 have nx : ∀ b u,H b = some u → (∀ φ,u ≠ .ext φ) → b ≠ a:=fun b u q hu z=>by rw [z,e] at q; cases q; exact hu _ rfl
 refine I.un ⟨fun b u q n _ _=>k1 b u (na b n) q,fun b u q n _ _=>⟨u.slots,k1 b u (na b n) q⟩,fun b u q n _=>by rw [jai (na b n),jai (nD b u q)]; exact n,fun b u q _=>?_,fun b xs q=>by rw [jai (nx b _ q fun _ z=>nomatch z),jai (nD' b _ q)]; exact q,
  fun b u xs q=>by rw [jai (nx b _ q fun _ z=>nomatch z),jai (nD' b _ q)]; exact q,fun b ps q=>⟨#[],by rw [jai (nx b _ q fun _ z=>nomatch z),jai (nD' b _ q),q]; simp⟩⟩ fun b w eb=>?_
 ·by_cases z : b = a
  ·rw [z]; exact ⟨_,e1⟩
  ·exact ⟨u,k1 b u z q⟩
 ·by_cases z : b = a
  ·subst z
   rw [jak] at eb
   cases eb
   exact jl4 e1 hf0
  ·rw [jai z] at eb
   by_cases z2 : b = s.heap.objs.size
   ·subst z2
    rw [jak] at eb
    cases eb
    exact jrn nd
   ·rw [jai z2] at eb
    refine (I.hok b w eb).stay (fun c v hc q=>k1 c v ?_ q) (fun c q=>by rw [jai (nx c _ q fun _ z=>nomatch z),jai (nD' c _ q)]; exact q) fun c xs q=>by rw [jai (nx c _ q fun _ z=>nomatch z),jai (nD' c _ q)]; exact q
    rcases hc with r | r
    ·rw [r]; exact z
    ·exact nx c _ r fun _ z=>nomatch z
theorem jqt {y : V} {u : Value} {fr : Bool} {Q : Unit → Shared → Prop} (I : Inv X pins σ H s) (e : H a = some (XO a C (some dx) fr)) (ed : H dx = some (XDc dx fs)) (c : XCls X.K C) (ht : takerIn X.K C f = some none) (hl : fs.length < 1000) (ry : RelV y u)
  (h : ∀ s',Inv X pins σ (upd H dx (XDc dx (putF f y fs))) s' → Q () s') : wpAny (model X.prog X.w) A (setAttr (.ref a) f u) Q E s:=by
 obtain ⟨vs,sl,h0,hf0⟩:=jk0 I e
 obtain ⟨mA,n,r,wi,_⟩:=jue I ed
 refine jxe I.kIn h0 n c.x c.sa ht wi (by rw [List.length_map,sizeLine_eq]; omega) fun h' n' sb=>h _ ?_
 have hd : ∃ o,h'.get? dx = some o:=let ⟨o,_,_,e',_⟩:=n'; ⟨o,e'⟩
 refine I.write (x:=dx) (e:=dx) (by rw [ed]; exact True.intro) (.inl rfl) (fun b q hb z=>(sb.2 b hb).trans z) hd (jrn ⟨_,n',fun g=>?_,fun g hg=>?_,?_⟩)
 ·show RelO ((putF f y fs).lookup g) (if g = f then some u else mA g)
  rw [jfe]
  by_cases q : g = f
  ·rw [if_pos q,if_pos q]; exact ry
  ·rw [if_neg q,if_neg q]; exact r g
 ·by_cases q : g = f
  ·rw [q]; exact (jep f y fs).1
  ·exact (jep f y fs).2 g (wi g fun z=>hg ((if_neg q).trans z))
 ·have:=jfd f y fs; omega
theorem juf {v : V} {ex fr : Bool} {Q : Value → Shared → Prop} (I : Inv X pins σ H s) (e : H a = some (XO a C (some dx) fr)) (ed : H dx = some (XDc dx fs)) (c : XCls X.K C) (ht : findIn X.K (.ref C) f = some none) (l : fs.lookup f = some v)
  (h : ∀ u s',Inv X pins σ H s' → RelV v u → Q u s') : wpAny (model X.prog X.w) A (getAttr (.ref a) f ex) Q E s:=by
 obtain ⟨vs,sl,h0,hf0⟩:=jk0 I e
 obtain ⟨mA,n,r,wi,_⟩:=jue I ed
 obtain ⟨u,hu,ru⟩:=RelO.some_of (v:=v) (o:=mA f) (by rw [← l]; exact r f)
 exact jy7 I.kIn h0 n c.x c.ga c.gh ht hu (ji9 ru) (h u _ (I.tok _) ru)
theorem jsq {h h' : Heap} {us : List Value} (m : Heap.MadeExcOf h h' a (.ref C) us) : ∃ vs sl,h'.get? a = some (xOb C none vs sl) ∧ vs[1]? = some .none:=by
 obtain ⟨_,_,t,e,_⟩:=m
 exact ⟨_,_,e,rfl⟩
end
structure XMk (K : Frag) (C f : Addr) : Prop where
 c : XCls K C
 init : findIn K (.ref C) "__init__" = some (some (.ref f))
 fn : isFn K (.ref f) = true
section
variable {X : Cx} {CX : CXT} {k : Nat} {f C : Addr} {fd : FuncData} {ps : List Str} {sp : Sp} {E : XK} {x m : Str} {p pos apos : Pos} {e o value : Expr} {es : List Expr} {ta tv : TE} {t : TA}
theorem joh {pins : List (Addr × Obj)} {σ : St} {H : Hp} {s : Shared} {Q : VK} {us : List Value} {vs : List V} (M : XMk X.K C f) (F : FnOk X.prog X.w X.K X.mg X.base CX k f fd ps sp) (hr : Room (k + 1) X.A) (hb : Binds X.K fd ps [])
  (hx : jgh CX X E) (I : Inv X pins σ H s) (r : Vals vs us) (hz : vs.length ≤ 1000)
  (h : ∀ a,H a = none → sp (.ref a :: vs) (upd H a (XO a C none true)) (fun v H2=>v = .non ∧ Q (.ref a) H2) E) :
  wpAny (model X.prog X.w) X.A (call (.ref C) us) (EP X pins σ Q) X.xe s:=by
 refine jxb I.kIn M.c.x M.init M.fn (fun h' a m=>?_) (by rw [← r.length,sizeLine_eq]; omega)
 have hn:=jib (h:=s.heap) I m.new
 have hq:=h a hn
 obtain ⟨w1,w2,w3,w4⟩:=jsq m
 have I2 : Inv X pins σ (upd H a (XO a C none true)) { s with heap:=h' }:=I.laidX (t':=s.toks) m.keeps m.new (jl4 w3 fun _=>w4)
 have r2 : Vals (V.ref a :: vs) (Value.ref a :: us):=.cons rfl r
 have hl : (Value.ref a :: us ++ []).length = ps.length:=by
  rw [List.append_nil]
  have e:=r2.length
  rw [F.len _ _ _ _ hq] at e
  exact e.symm
 refine wpAny_call (codeAny_mono (F.run _ X.stack _ _ ⟨Value.ref a :: us,[]⟩ (Value.ref a :: us ++ []) _ _ E (hr.make C us []) (I2.env0.make C us []) (hb _ (Value.ref a :: us) I2.kIn hl) (by rw [List.append_nil]; exact r2) hq) fun r s' hq'=>?_)
 cases r with
 | error e=>exact hx pins σ _ _ e s' I2 hq'
 | ok fl =>
  cases fl with
  | ret u =>
   obtain ⟨v,H',I3,rv,ev,q3⟩:=I2.after hq'
   subst ev
   exact ⟨rv,⟨V.ref a,H',I3,rfl,q3⟩⟩
  | next=>exact False.elim hq'
  | brk=>exact False.elim hq'
  | cont=>exact False.elim hq'
noncomputable def jw3 (C : Addr) (sp : Sp) (E : XK) (t : TA) : TE:=fun σ H Q=>t σ H fun vs H1=>vs.length ≤ 1000 ∧ ∀ a,H1 a = none → sp (.ref a :: vs) (upd H1 a (XO a C none true)) (fun v H2=>v = .non ∧ Q (.ref a) H2) E
theorem jqc (M : XMk X.K C f) (F : FnOk X.prog X.w X.K X.mg X.base CX k f fd ps sp) (hr : Room (k + 1) X.A) (hg : Gl X x) (hm : X.mg x = some (.ref C)) (hb : Binds X.K fd ps []) (hx : jgh CX X E)
  (ha : PA X (e :: es) t) (hdb : autoParam ((x == ("__debug__" : Str)) = false) zau1._auto_1) (he : autoParam (starEach (e :: es) X.env = (false,eval e X.env) :: starEach es X.env) zau2._auto_1) (hpl : autoParam ((backTo pos (starEach es X.env)).any (·.1) = false) zau2._auto_1) :
  PE X (.Call (.Name x p) (e :: es) [] pos) (jw3 C sp E t):=by
 intro pins s σ H Q I h
 refine wpAny_Call_Name_kw (jgw I hg hm ?_ hdb)
 exact PySem.W.callWith_K (h₀:=X.base) I.ok.mod.kin M.c.kp (thn (ha pos pins s σ H _ I h) fun us s1 ⟨vs,H1,I1,r,hz,q⟩=>⟨I1.kIn,joh M F hr hb hx I1 r hz q⟩) he hpl
inductive tXFld (K : Frag) (ta : TE) (g : Str) (σ : St) (H : Hp) (Q : VK) : Prop
 | mk (h : ta σ H fun x H1=>∃ a C dx fr fs v,x = .ref a ∧ H1 a = some (XO a C (some dx) fr) ∧ H1 dx = some (XDc dx fs) ∧ XCls K C ∧ findIn K (.ref C) g = some none ∧ fs.lookup g = some v ∧ Q v H1)
theorem jti {g : Str} (he : PE X e ta) (hb : attributeBase e g X.env (eval e X.env) = eval e X.env) : PE X (.Attribute e g pos) (tXFld X.K ta g):=by
 intro pins s σ H Q I h
 refine jmw hb (thn (he pins s σ H _ I h.1) fun u s1 hzz=>?_)
 obtain ⟨x,H1,I1,rx,a,C,dx,fr,fs,v,ex,ea,ed,c,n,l,q⟩:=hzz
 subst ex
 cases rx
 exact juf I1 ea ed c n l fun u' s2 I2 ru=>⟨v,H1,I2,ru,q⟩
inductive XPut (K : Frag) (H : Hp) (a : Addr) (g : Str) (y : V) (Q : Hp → Prop) : Prop
 | first (C : Addr) (fr : Bool) (ea : H a = some (XO a C none fr)) (c : XCls K C) (ht : takerIn K C g = some none) (q : ∀ d,H d = none → Q (upd (upd H d (XDc d [(g,y)])) a (XO a C (some d) fr)))
 | more (C dx : Addr) (fr : Bool) (fs : List (Str × V)) (ea : H a = some (XO a C (some dx) fr)) (ed : H dx = some (XDc dx fs)) (c : XCls K C) (ht : takerIn K C g = some none) (l : fs.length < 1000) (q : Q (upd H dx (XDc dx (putF g y fs))))
theorem jtq {g : Str} {pos' : Pos} (ha : PE X o ta) (hv : PE X value tv) (hs : swapsWith value (some (.Attribute o g pos')) pos.line X.env = pure false) :
  PS X (.Assign [.Attribute o g pos'] value pos) (fun D σ H=>tv σ H fun y H1=>ta σ H1 fun x H2=>∃ a,x = .ref a ∧ XPut X.K H2 a g y (D.nx σ)):=by
 intro pins s σ H D I h
 refine plainObj_wpAny_Assign_Attribute (thn (hv pins s σ H _ I h) fun u s1 ⟨y,H1,I1,ry,q⟩=>thn (ha pins s1 σ H1 _ I1 q) fun ov s2 hzz=>?_) hs
 obtain ⟨x,H2,I2,rx,a,ex,q2⟩:=hzz
 subst ex
 cases rx
 cases q2 with
 | first C fr ea c ht q=>exact jqs I2 ea c ht ry fun d s3 hd I3=>⟨σ,_,I3,q d hd⟩
 | more C dx fr fs ea ed c ht l q=>exact jqt I2 ea ed c ht l ry fun s3 I3=>⟨σ,_,I3,q⟩
theorem jm1 (hn : specialIn X.K (.builtin "object.__class__") "__get__" = some (some (.builtin "getset_descriptor.__get__"))) (htk : takesIn X.K (.builtin "object.__class__") = some true) :
  CallR X (.builtin "isinstance") (fun xs H Q=>∃ a C od fr v c b,xs = [.ref a,v] ∧ H a = some (XO a C od fr) ∧ XCls X.K C ∧ (∀ dx,od = some dx → ∃ fs,H dx = some (XDc dx fs)) ∧ (∀ u,RelV v u → u = c) ∧ PySem.W.kitOne X.K (.ref C) c = some b ∧ Q (.bl b) H):=by
 intro pins s σ H xs us Q I r h
 obtain ⟨a,C,od,fr,v,c,b,rfl,ea,cl,hd,hv,hk,q⟩:=h
 obtain ⟨u,c',rfl,ru,rc⟩:=r.two
 cases ru
 rw [hv c' rc]
 obtain ⟨vs,sl,h0,hf0⟩:=jk0 I ea
 have J : ∃ ox od',InstAt s.heap a ox C od':=by
  cases od with
  | none=>exact ⟨_,_,joz h0⟩
  | some dx =>
   obtain ⟨fs,ed⟩:=hd dx rfl
   obtain ⟨mA,⟨o,_,_,e,_⟩,_⟩:=jue I ed
   exact ⟨_,_,jkz h0 e⟩
 exact PySem.W.kia_one (jvm cl.x cl.ga cl.gh cl.cl hn htk) I.kIn J hk (fun z=>nomatch z) fun tk=>⟨.bl b,H,I.tok _,rfl,q⟩
end
end L2
namespace DL
open PySem PySem.Spec L2
structure ErrT (K : PySem.W.Frag) (mg : Str → Option Value) (cs fs : List Str) (b : Str) : Prop where
 ats : ∀ c ∈ cs,∃ C,mg c = some (.ref C)
 atb : ∃ C,mg b = some (.ref C)
 cls : ∀ c ∈ cs,∀ C,mg c = some (.ref C) → XCls K C
 fld : ∀ c ∈ cs,∀ C,mg c = some (.ref C) → ∀ f ∈ fs,PySem.W.findIn K (.ref C) f = some none
 pair : ∀ c ∈ cs,∀ d ∈ cs,∀ C,mg c = some (.ref C) → ∃ D,mg d = some (.ref D) ∧ PySem.W.kitOne K (.ref C) (.ref D) = some (c == d)
 base : ∀ c ∈ cs,∀ C,mg c = some (.ref C) → ∃ D,mg b = some (.ref D) ∧ PySem.W.kitOne K (.ref C) (.ref D) = some true
 val : ∀ c ∈ cs,∀ C,mg c = some (.ref C) → PySem.W.kitOne K (.ref C) (.type "ValueError") = some true
 sp : PySem.W.specialIn K (.builtin "object.__class__") "__get__" = some (some (.builtin "getset_descriptor.__get__"))
 tk : PySem.W.takesIn K (.builtin "object.__class__") = some true
noncomputable def xOne (K : PySem.W.Frag) (es : List (Str × Addr)) (B : Addr) (fs : List Str) (p : Str × Addr) : Bool :=
 xCls K p.2 && fs.all (fun f=>PySem.W.findIn K (.ref p.2) f == some none) && PySem.W.kitOne K (.ref p.2) (.ref B) == some true && PySem.W.kitOne K (.ref p.2) (.type "ValueError") == some true && es.all fun q=>PySem.W.kitOne K (.ref p.2) (.ref q.2) == some (p.1 == q.1)
noncomputable def xTab (K : PySem.W.Frag) (es : List (Str × Addr)) (B : Addr) (fs : List Str) : Bool :=
 es.all (xOne K es B fs) && PySem.W.specialIn K (.builtin "object.__class__") "__get__" == some (some (.builtin "getset_descriptor.__get__")) && PySem.W.takesIn K (.builtin "object.__class__") == some true
theorem jr9 {K : PySem.W.Frag} {mg : Str → Option Value} {es : List (Str × Addr)} {B : Addr} {fs : List Str} {b : Str} (hm : ∀ p ∈ es,mg p.1 = some (.ref p.2)) (hb : mg b = some (.ref B)) (h : xTab K es B fs = true) : ErrT K mg (es.map (·.1)) fs b:=by
 unfold xTab at h
 rw [Bool.and_eq_true,Bool.and_eq_true,List.all_eq_true,beq_iff_eq,beq_iff_eq] at h
 obtain ⟨⟨h1,h2⟩,h3⟩:=h
 have one : ∀ c ∈ es.map (·.1),∀ C,mg c = some (.ref C) → xOne K es B fs (c,C) = true:=fun c hc C hC=>by
  obtain ⟨p,hp,rfl⟩:=List.mem_map.mp hc
  rw [hm p hp] at hC
  cases hC
  exact h1 p hp
 have all : ∀ c ∈ es.map (·.1),∀ C,mg c = some (.ref C) → (((xCls K C = true ∧ fs.all (fun f=>PySem.W.findIn K (.ref C) f == some none) = true) ∧ PySem.W.kitOne K (.ref C) (.ref B) = some true) ∧ PySem.W.kitOne K (.ref C) (.type "ValueError") = some true) ∧ (es.all fun q=>PySem.W.kitOne K (.ref C) (.ref q.2) == some (c == q.1)) = true:=fun c hc C hC=>by
  have:=one c hc C hC
  unfold xOne at this
  rw [Bool.and_eq_true,Bool.and_eq_true,Bool.and_eq_true,Bool.and_eq_true,beq_iff_eq,beq_iff_eq] at this
  exact this
 refine ⟨fun c hc=>by obtain ⟨p,hp,rfl⟩:=List.mem_map.mp hc; exact ⟨_,hm p hp⟩,⟨B,hb⟩,fun c hc C hC=>jud (all c hc C hC).1.1.1.1,fun c hc C hC f hf=>?_,fun c hc d hd C hC=>?_,fun c hc C hC=>⟨B,hb,(all c hc C hC).1.1.2⟩,fun c hc C hC=>(all c hc C hC).1.2,h2,h3⟩
 ·exact beq_iff_eq.mp (List.all_eq_true.mp (all c hc C hC).1.1.1.2 f hf)
 ·obtain ⟨q,hq,rfl⟩:=List.mem_map.mp hd
  exact ⟨q.2,hm q hq,beq_iff_eq.mp (List.all_eq_true.mp (all c hc C hC).2 q hq)⟩
noncomputable def jme (c : Str) (m : List D → MS D) (ds : List D) : MS D:=fun Ω=>((m (.obj Ω.length :: ds)).b fun d=>match d with
 | .non=>MS.p (.obj Ω.length)
 | _=>fun _=>none) (Ω ++ [.exc c (none,true)])
noncomputable def jjh (c : Str) (m : List D → MS D) (fl : DSt → MS (List D)) : DSt → MS D:=fun δ=>(fl δ).b fun ds=>jme c m ds
inductive IniY (P : Program) (w : World) (K : PySem.W.Frag) (mg : Str → Option Value) (base : Heap) (k : Nat) (c : Str) (n : Nat) (sp : Sp) : Prop
 | mk (C f : Addr) (fd : FuncData) (ps : List Str) (h1 : ps.length = n) (h2 : mg c = some (.ref C)) (h3 : XMk K C f) (h4 : Binds K fd ps []) (h5 : FnOk P w K mg base CX0 k f fd ps sp)
structure IniXE (P : Program) (w : World) (K : PySem.W.Frag) (mg : Str → Option Value) (base : Heap) (k : Nat) (c : Str) (n : Nat) (m : List D → MS D) : Prop where
 ex : IniY P w K mg base k c n (spE K mg n m)
 ar : ∀ ds Ω r,m ds Ω = some r → ds.length = n
 sm : n ≤ 1000
structure IniXAt (K : PySem.W.Frag) (mg : Str → Option Value) (c q : Str) (st : Stmt) (ps : List Str) : Prop where
 ex : ∃ C f fd,mg c = some (.ref C) ∧ XMk K C f ∧ Fun K "__init__" q st f fd ∧ Binds K fd ps []
section
variable {P : Program} {w : World} {K : PySem.W.Frag} {mg : Str → Option Value} {base : Heap}
theorem jpp {c q : Str} {st : Stmt} {N ps : List Str} {k : Nat} {O' : List Nat} {g : DSt → MS Out} (hf : IniXAt K mg c q st ps) (S : FnScope N ps (jaa st))
  (hbody : ∀ (f : Addr) (cdv : Value) (A : Around) (outer : List Env) (s : Shared) (H : Hp) (E : XK),Room k (A.deeper (PyProof.Rows.envOfC q (jaa st) s.heap.objs.size f cdv)) →
   MSs (cxOf CX0 P w K mg base N q (jaa st) f cdv A outer s H E).nox [] O' [] (jah st) g) (hs : ps.length ≤ 1000) : IniXE P w K mg base (k + 1) c ps.length (mirE ps.length N.length g):=by
 obtain ⟨C,f,fd,hm,hM,F,hb⟩:=hf.ex
 exact ⟨⟨C,f,fd,ps,rfl,hm,hM,hb,fn_E F S hbody⟩,jf3,hs⟩
end
section
variable {X : Cx} {O B : List Nat} {a b o e : Expr} {es : List Expr} {fa fb fo fv : DSt → MS D} {fl : DSt → MS (List D)} {pos p apos : Pos} {x c f : Str} {k n : Nat}
variable {ρ₀ ρ : Rho} {S₀ S F : Addr → Bool} {H₀ H : Hp} {σ : St} {δ : DSt} {Ω Ω' : Sto} {cs fs : List Str} {bn d : Str}
theorem RM.newX {Ca x : Addr} (R : RM ρ₀ S₀ H₀ F X.K X.mg O ρ S H σ δ Ω) (hm : X.mg c = some (.ref Ca)) (hx : H x = none) : RM ρ₀ S₀ H₀ F X.K X.mg O (addR ρ Ω.length x) (addS S x x) (upd H x (XO x Ca none true)) σ δ (Ω ++ [.exc c (none,true)]) ∧ RLe ρ (addR ρ Ω.length x) ∧
   Same (hid H (fob (un F S) σ O)) (hid (upd H x (XO x Ca none true)) (fob (un F (addS S x x)) σ O)) :=
 R.newS (nso:=.exc c (none,true)) hx fun ρ' S' Hv' l v=>ExcOk.no true Ca hm jak
theorem jpx {m : List D → MS D} {Ca : Addr} {vs : List V} {ds : List D} {r : Except XD D} {Q : VK} (hm : X.mg c = some (.ref Ca)) (ar : ∀ ds Ω r,m ds Ω = some r → ds.length = n) (R : RM ρ₀ S₀ H₀ F X.K X.mg O ρ S H σ δ Ω) (hr : Reps ρ X.K (hid H (fob (un F S) σ O)) ds vs) (hf : jme c m ds Ω = some (r,Ω'))
  (k : match (generalizing:=false) r with
   | .ok d=>∀ v ρ' S' H',RM ρ₀ S₀ H₀ F X.K X.mg O ρ' S' H' σ δ Ω' → RLe ρ ρ' → Same (hid H (fob (un F S) σ O)) (hid H' (fob (un F S') σ O)) → Rep ρ' X.K (hid H' (fob (un F S') σ O)) d v → Q v H'
   | .error _=>True) : ∀ x,H x = none → spE X.K X.mg n m (.ref x :: vs) (upd H x (XO x Ca none true)) (fun v H2=>v = .non ∧ Q (.ref x) H2) E0:=by
 intro x hx
 obtain ⟨t1,t2,t3⟩:=R.newX hm hx
 have hob : Rep (addR ρ Ω.length x) X.K (hid (upd H x (XO x Ca none true)) (fob (un F (addS S x x)) σ O)) (.obj Ω.length) (.ref x):=rep_obj.mpr ⟨x,by unfold addR; rw [if_pos rfl],rfl⟩
 unfold jme at hf
 rcases MS.b_inv hf with ⟨d,Ω1,e1,hf⟩ | ⟨y,e1,rfl⟩
 ·refine jhu t1 (ar _ _ _ e1) (Reps.cons hob ((hr.rho t2).mono t3)) e1 ?_
  intro v ρ2 S2 H2 R2 l2 v2 r2
  cases d with
  | non =>
   cases hf
   exact ⟨rep_non.mp r2,k (.ref x) ρ2 S2 H2 R2 (t2.trans l2) (t3.trans v2) ((hob.rho l2).mono v2)⟩
  | _=>cases hf
 ·exact jhu t1 (ar _ _ _ e1) (Reps.cons hob ((hr.rho t2).mono t3)) e1 trivial
theorem jnr {m : List D → MS D} {ds : List D} {r : Except XD D} (ar : ∀ ds Ω r,m ds Ω = some r → ds.length = n) (hf : jme c m ds Ω = some (r,Ω')) : ds.length + 1 = n:=by
 unfold jme at hf
 rcases MS.b_inv hf with ⟨d,Ω1,e1,hf⟩ | ⟨y,e1,rfl⟩
 ·exact ar _ _ _ e1
 ·exact ar _ _ _ e1
theorem jp1 {m : List D → MS D} (C : IniXE X.prog X.w X.K X.mg X.base k c n m) (hr : Room (k + 1) X.A) (ha : MA X O (e :: es) fl) (hg : autoParam (Gl X c) zau2._auto_1) (hdb : autoParam ((c == ("__debug__" : Str)) = false) zau1._auto_1) (he : autoParam (starEach (e :: es) X.env = (false,eval e X.env) :: starEach es X.env) zau2._auto_1)
  (hpl : autoParam ((backTo pos (starEach es X.env)).any (·.1) = false) zau2._auto_1) : ME X O (.Call (.Name c p) (e :: es) [] pos) (jjh c m fl):=by
 obtain ⟨Ca,f,fd,ps,hl,hm,hM,hb,G⟩:=C.ex
 rintro pins s σ H Q I ⟨ρ₀,S₀,H₀,F,ρ,S,δ,Ω,R,r,Ω',hf,k⟩
 refine jqc hM G hr hg hm hb (fun _ _ _ _ _ _ _ z=>z.elim) ha hdb he hpl pins s σ H Q I (E:=E0) ?_
 rcases MS.b_inv hf with ⟨ds,Ω1,e1,hf⟩ | ⟨y,e1,rfl⟩
 ·refine ⟨ρ₀,S₀,H₀,F,ρ,S,δ,Ω,R,.ok ds,Ω1,e1,fun vs ρ1 S1 H1 R1 l1 v1 r1=>?_⟩
  refine ⟨?_,jpx hm C.ar R1 r1 hf ?_⟩
  ·have h1:=jnr C.ar hf
   have h2:=C.sm
   rw [r1.length]
   omega
  ·cases r with
   | error y=>trivial
   | ok d=>exact fun v ρ2 S2 H2 R2 l2 v2 r2=>k v ρ2 S2 H2 R2 (l1.trans l2) (v1.trans v2) r2
 ·exact ⟨ρ₀,S₀,H₀,F,ρ,S,δ,Ω,R,.error y,_,e1,trivial⟩
inductive NewAt (K : PySem.W.Frag) (mg : Str → Option Value) (c : Str) : Prop
 | mk (C : Addr) (h1 : mg c = some (.ref C)) (h2 : XCls K C) (h3 : xNoI K C = true)
end
end DL
namespace DL
open PySem PySem.Spec PyProof.Rows L2
noncomputable def getX (cs : List Str) (f : Str) : D → MS D:=fun x Ω=>match x with
 | .obj i=>match Ω[i]? with
  | some (.exc c (some j,_))=>match Ω[j]? with
   | some (.xd fs)=>if cs.contains c then (fs.lookup f).map fun d=>(.ok d,Ω) else none
   | _=>none
  | _=>none
 | _=>none
noncomputable def jno (cs : List Str) (f : Str) (fa : DSt → MS D) : DSt → MS D:=fun δ=>(fa δ).b fun x=>getX cs f x
noncomputable def putX (cs : List Str) (f : Str) (x d : D) : MS Unit:=fun Ω=>match x with
 | .obj i=>match Ω[i]? with
  | some (.exc c (none,fr))=>if cs.contains c then some (.ok (),(Ω ++ [SO.xd [(f,d)]]).set i (.exc c (some Ω.length,fr))) else none
  | some (.exc c (some j,_))=>match Ω[j]? with
   | some (.xd fs)=>if cs.contains c && decide (fs.length < 1000) then some (.ok (),Ω.set j (.xd (putD f d fs))) else none
   | _=>none
  | _=>none
 | _=>none
noncomputable def jr5 (cs : List Str) (f : Str) (fo fv : DSt → MS D) : DSt → MS Out:=fun δ=>(fv δ).b fun d=>(fo δ).b fun x=>(putX cs f x d).b fun _=>MS.p (.nx δ)
noncomputable def isX (cs : List Str) (g : Str → Bool) : D → MS D:=fun x Ω=>match x with
 | .obj i=>match Ω[i]? with
  | some (.exc c (none,_))=>if cs.contains c then some (.ok (.bl (g c)),Ω) else none
  | some (.exc c (some j,_))=>match Ω[j]? with
   | some (.xd fs)=>if cs.contains c then some (.ok (.bl (g c)),Ω) else none
   | _=>none
  | _=>none
 | _=>none
noncomputable def mIsX (cs : List Str) (g : Str → Bool) (fa : DSt → MS D) : DSt → MS D:=fun δ=>(fa δ).b fun x=>isX cs g x
section
variable {Ω Ω' : Sto} {cs : List Str} {f : Str} {x d : D}
inductive GetXI (cs : List Str) (f : Str) (x : D) (Ω Ω' : Sto) (r : Except XD D) : Prop
 | mk (i j : Nat) (c : Str) (fr : Bool) (fs : List (Str × D)) (d : D) (h1 : x = .obj i) (h2 : Ω[i]? = some (.exc c (some j,fr))) (h3 : Ω[j]? = some (.xd fs)) (h4 : c ∈ cs) (h5 : fs.lookup f = some d) (h6 : r = .ok d) (h7 : Ω' = Ω)
theorem jpk {r : Except XD D} (h : getX cs f x Ω = some (r,Ω')) : GetXI cs f x Ω Ω' r:=by
 unfold getX at h
 split at h
 ·rename_i i
  split at h
  ·rename_i c j fr hi
   split at h
   ·rename_i fs hj
    split at h
    ·rename_i hc
     cases hl : fs.lookup f with
     | none=>rw [hl] at h; cases h
     | some d=>rw [hl] at h; cases h; exact ⟨i,j,c,fr,fs,d,rfl,hi,hj,List.contains_iff_mem.mp hc,hl,rfl,rfl⟩
    ·cases h
   ·cases h
  ·cases h
 ·cases h
inductive PutXI (cs : List Str) (f : Str) (x d : D) (Ω Ω' : Sto) (r : Except XD Unit) : Prop
 | first (i : Nat) (c : Str) (fr : Bool) (h1 : x = .obj i) (h2 : Ω[i]? = some (.exc c (none,fr))) (h4 : c ∈ cs) (h6 : r = .ok ()) (h7 : Ω' = (Ω ++ [SO.xd [(f,d)]]).set i (.exc c (some Ω.length,fr)))
 | more (i j : Nat) (c : Str) (fr : Bool) (fs : List (Str × D)) (h1 : x = .obj i) (h2 : Ω[i]? = some (.exc c (some j,fr))) (h3 : Ω[j]? = some (.xd fs)) (h4 : c ∈ cs) (h5 : fs.length < 1000) (h6 : r = .ok ()) (h7 : Ω' = Ω.set j (.xd (putD f d fs)))
theorem jlx {r : Except XD Unit} (h : putX cs f x d Ω = some (r,Ω')) : PutXI cs f x d Ω Ω' r:=by
 unfold putX at h
 split at h
 ·rename_i i
  split at h
  ·rename_i c fr hi
   split at h
   ·rename_i hc
    cases h; exact .first i c fr rfl hi (List.contains_iff_mem.mp hc) rfl rfl
   ·cases h
  ·rename_i c j fr hi
   split at h
   ·rename_i fs hj
    split at h
    ·rename_i hc
     rw [Bool.and_eq_true,decide_eq_true_eq] at hc
     cases h; exact .more i j c fr fs rfl hi hj (List.contains_iff_mem.mp hc.1) hc.2 rfl rfl
    ·cases h
   ·cases h
  ·cases h
 ·cases h
inductive IsXI (cs : List Str) (g : Str → Bool) (x : D) (Ω Ω' : Sto) (r : Except XD D) : Prop
 | mk (i : Nat) (c : Str) (oj : Option Nat) (fr : Bool) (h1 : x = .obj i) (h2 : Ω[i]? = some (.exc c (oj,fr))) (h3 : ∀ j,oj = some j → ∃ fs,Ω[j]? = some (.xd fs)) (h4 : c ∈ cs) (h6 : r = .ok (.bl (g c))) (h7 : Ω' = Ω)
theorem jsk {g : Str → Bool} {r : Except XD D} (h : isX cs g x Ω = some (r,Ω')) : IsXI cs g x Ω Ω' r:=by
 unfold isX at h
 split at h
 ·rename_i i
  split at h
  ·rename_i c fr hi
   split at h
   ·rename_i hc
    cases h; exact ⟨i,c,none,fr,rfl,hi,(fun j z=>nomatch z),List.contains_iff_mem.mp hc,rfl,rfl⟩
   ·cases h
  ·rename_i c j fr hi
   split at h
   ·rename_i fs hj
    split at h
    ·rename_i hc
     cases h; exact ⟨i,c,some j,fr,rfl,hi,fun j' z=>by cases z; exact ⟨fs,hj⟩,List.contains_iff_mem.mp hc,rfl,rfl⟩
    ·cases h
   ·cases h
  ·cases h
 ·cases h
end
theorem jl2 {K : PySem.W.Frag} {C : Addr} {f : Str} (h : PySem.W.findIn K (.ref C) f = some none) : PySem.W.takerIn K C f = some none:=by
 unfold PySem.W.takerIn
 rw [h]
 rfl
theorem jrp {a C : Addr} {od : Option Addr} {fr : Bool} : ∀ y,HO.own y ≠ XO a C od fr:=fun y z=>by unfold XO at z; cases z
theorem jxf {a : Addr} {fs : List (Str × V)} : ∀ y,HO.own y ≠ XDc a fs:=fun y z=>by unfold XDc at z; cases z
section
variable {X : Cx} {O B : List Nat} {a b o e : Expr} {es : List Expr} {fa fb fo fv : DSt → MS D} {fl : DSt → MS (List D)} {pos p p2 apos : Pos} {x c f : Str} {k n : Nat}
variable {ρ₀ ρ : Rho} {S₀ S F : Addr → Bool} {H₀ H : Hp} {σ : L2.St} {δ : DSt} {Ω Ω' : Sto} {cs fs : List Str} {bn d : Str}
theorem jsu (T : ErrT X.K X.mg cs fs bn) (hf : fs.contains f = true) (ha : ME X O e fa) (hb : autoParam (attributeBase e f X.env (eval e X.env) = eval e X.env) zau2._auto_1) : ME X O (.Attribute e f pos) (jno cs f fa):=by
 rintro pins s σ H Q I ⟨ρ₀,S₀,H₀,F,ρ,S,δ,Ω,R,r,Ω',hg,k⟩
 refine jti ha hb pins s σ H Q I ⟨?_⟩
 rcases MS.b_inv hg with ⟨x,Ω1,e1,hg⟩ | ⟨x,e1,rfl⟩
 ·refine ⟨ρ₀,S₀,H₀,F,ρ,S,δ,Ω,R,.ok x,Ω1,e1,fun u ρ1 S1 H1 R1 l1 v1 r1=>?_⟩
  obtain ⟨i,j,c,fr,fl,d,rfl,hi,hj,hc,hl,rfl,rfl⟩:=jpk hg
  obtain ⟨ad,q1,q2⟩:=rep_obj.mp r1
  obtain ⟨ad',p1,p2,p3⟩:=R1.sto.ats i _ hi
  rw [q1] at p1; cases p1
  obtain ⟨dx,s1,s2,vfs,s3,s4⟩:=R1.sto.ats j _ hj
  cases p3 with
  | yes fr j C dx' h1 h2 h3 =>
   rw [s1] at h2; cases h2
   obtain ⟨w,w1,w2⟩:=s4.get hl
   exact ⟨ad,C,dx,fr,vfs,w,q2,h3,s3,T.cls c hc C h1,T.fld c hc C h1 f (List.contains_iff_mem.mp hf),w1,k w ρ1 S1 H1 R1 l1 v1 w2⟩
 ·exact ⟨ρ₀,S₀,H₀,F,ρ,S,δ,Ω,R,.error x,_,e1,trivial⟩
theorem jsy {pos' : Pos} (T : ErrT X.K X.mg cs fs bn) (hf : fs.contains f = true) (ho : ME X O o fo) (hv : ME X O e fv) (hs : autoParam (swapsWith e (some (.Attribute o f pos')) pos.line X.env = pure false) zau2._auto_1) : MSt X O O B (.Assign [.Attribute o f pos'] e pos) (jr5 cs f fo fv):=by
 rintro pins s σ H Dn I ⟨ρ₀,S₀,H₀,F,ρ,S,δ,Ω,R,r,Ω',hg,k⟩
 refine jtq ho hv hs pins s σ H Dn I ?_
 rcases MS.b_inv hg with ⟨d,Ω1,e1,hg⟩ | ⟨x,e1,rfl⟩
 ·refine ⟨ρ₀,S₀,H₀,F,ρ,S,δ,Ω,R,.ok d,Ω1,e1,fun v ρ1 S1 H1 R1 l1 v1 r1=>?_⟩
  rcases MS.b_inv hg with ⟨x,Ω2,e2,hg⟩ | ⟨x,e2,rfl⟩
  ·refine ⟨ρ₀,S₀,H₀,F,ρ1,S1,δ,Ω1,R1,.ok x,Ω2,e2,fun u ρ2 S2 H2 R2 l2 v2 r2=>?_⟩
   have r1':=(r1.rho l2).mono v2
   rcases MS.b_inv hg with ⟨z,Ω3,e3,hg⟩ | ⟨y,e3,rfl⟩
   ·cases hg
    cases jlx e3 with
    | first i c fr h1 h2 h4 h6 h7 =>
     subst h1 h7
     obtain ⟨ad,q1,q2⟩:=rep_obj.mp r2
     obtain ⟨ad',p1,p2,p3⟩:=R2.sto.ats i _ h2
     rw [q1] at p1; cases p1
     cases p3 with
     | no fr C g1 g2 =>
      refine ⟨ad,q2,.first C fr g2 (T.cls c h4 C g1) (jl2 (T.fld c h4 C g1 f (List.contains_iff_mem.mp hf))) fun dx hd=>?_⟩
      obtain ⟨t1,t2,t3⟩:=R2.newS (nso:=.xd [(f,d)]) (no:=XDc dx [(f,v)]) hd fun ρ' S' Hv' l vv=>⟨[(f,v)],jak,v,[],rfl,(r1'.rho l).mono vv,rfl⟩
      have il : i < Ω2.length:=(List.getElem?_eq_some_iff.mp h2).1
      have hne : ad ≠ dx:=fun z=>by rw [z,hd] at g2; cases g2
      have q1':=t2 _ _ q1
      obtain ⟨w1,w2⟩:=t1.putS (so':=.exc c (some Ω2.length,fr)) (o':=XO ad C (some dx) fr) (by rw [List.getElem?_append_left il]; exact h2) q1' (addS_t.mpr (.inl p2)) (by rw [jai hne]; exact g2) jrp
       (ExcOk.yes fr _ C dx g1 (by unfold addR; rw [if_pos rfl]) jak)
      exact k _ _ σ _ w1 (l1.trans (l2.trans t2)) (by rw [w2]; exact v1.trans (v2.trans t3))
    | more i j c fr fl h1 h2 h3 h4 h5 h6 h7 =>
     subst h1 h7
     obtain ⟨ad,q1,q2⟩:=rep_obj.mp r2
     obtain ⟨ad',p1,p2,p3⟩:=R2.sto.ats i _ h2
     rw [q1] at p1; cases p1
     obtain ⟨dx,s1,s2,vfs,s3,s4⟩:=R2.sto.ats j _ h3
     cases p3 with
     | yes fr j C dx' g1 g2 g3 =>
      rw [s1] at g2; cases g2
      refine ⟨ad,q2,.more C dx fr vfs g3 s3 (T.cls c h4 C g1) (jl2 (T.fld c h4 C g1 f (List.contains_iff_mem.mp hf))) (by rw [s4.length]; exact h5) ?_⟩
      obtain ⟨w1,w2⟩:=R2.putS (so':=.xd (putD f d fl)) (o':=XDc dx (putF f v vfs)) h3 s1 s2 s3 jxf ⟨_,jak,s4.put r1'⟩
      exact k _ _ σ _ w1 (l1.trans l2) (by rw [w2]; exact v1.trans v2)
   ·cases jlx e3 with
    | first i c fr h1 h2 h4 h6 h7=>cases h6
    | more i j c fr fl h1 h2 h3 h4 h5 h6 h7=>cases h6
  ·exact ⟨ρ₀,S₀,H₀,F,ρ1,S1,δ,Ω1,R1,.error x,_,e2,trivial⟩
 ·exact ⟨ρ₀,S₀,H₀,F,ρ,S,δ,Ω,R,.error x,_,e1,trivial⟩
theorem jq5 {g : Str → Bool} {nm : Expr} {v : V} {u : Value} (T : ErrT X.K X.mg cs fs bn) (hn : PE X nm (tC v)) (hv : ∀ w,RelV v w → w = u) (hk : ∀ c ∈ cs,∀ C,X.mg c = some (.ref C) → PySem.W.kitOne X.K (.ref C) u = some (g c)) (ha : ME X O e fa) (hG : autoParam (Gl X "isinstance") zau2._auto_1) (hm : X.mg "isinstance" = none)
  (he : autoParam (starEach (e :: [nm]) X.env = (false,eval e X.env) :: starEach [nm] X.env) zau2._auto_1) (he2 : autoParam (starEach [nm] X.env = (false,eval nm X.env) :: starEach [] X.env) zau2._auto_1) (hpl : autoParam ((backTo pos (starEach [nm] X.env)).any (·.1) = false) zau2._auto_1) :
  ME X O (.Call (.Name "isinstance" p) [e,nm] [] pos) (mIsX cs g fa):=by
 rintro pins s σ H Q I ⟨ρ₀,S₀,H₀,F,ρ,S,δ,Ω,R,r,Ω',hg,k⟩
 refine jlr (jm1 T.sp T.tk) hG hm jfi (jf4 ha (jf4 hn jlq he2) he) (by decide) (by decide) he hpl pins s σ H Q I ?_
 rcases MS.b_inv hg with ⟨x,Ω1,e1,hg⟩ | ⟨x,e1,rfl⟩
 ·refine ⟨ρ₀,S₀,H₀,F,ρ,S,δ,Ω,R,.ok x,Ω1,e1,fun w ρ1 S1 H1 R1 l1 v1 r1=>?_⟩
  obtain ⟨i,c,oj,fr,rfl,hi,hj,hc,rfl,rfl⟩:=jsk hg
  obtain ⟨ad,q1,q2⟩:=rep_obj.mp r1
  obtain ⟨ad',p1,p2,p3⟩:=R1.sto.ats i _ hi
  rw [q1] at p1; cases p1
  subst q2
  cases p3 with
  | no fr C h1 h2=>exact ⟨ad,C,none,fr,v,u,g c,rfl,h2,T.cls c hc C h1,(fun dx z=>nomatch z),hv,hk c hc C h1,k _ ρ1 S1 H1 R1 l1 v1 (rep_bl.mpr rfl)⟩
  | yes fr j C dx h1 h2 h3 =>
   obtain ⟨fl,hj⟩:=hj j rfl
   obtain ⟨dx',s1,s2,vfs,s3,s4⟩:=R1.sto.ats j _ hj
   rw [h2] at s1; cases s1
   exact ⟨ad,C,some dx,fr,v,u,g c,rfl,h3,T.cls c hc C h1,fun dx' z=>by cases z; exact ⟨vfs,s3⟩,hv,hk c hc C h1,k _ ρ1 S1 H1 R1 l1 v1 (rep_bl.mpr rfl)⟩
 ·exact ⟨ρ₀,S₀,H₀,F,ρ,S,δ,Ω,R,.error x,_,e1,trivial⟩
theorem jq6 (T : ErrT X.K X.mg cs fs bn) (hd : cs.contains d = true) (hm : X.mg "isinstance" = none) (ha : ME X O e fa) (hg : autoParam (Gl X d) zau2._auto_1) (hdb : autoParam ((d == ("__debug__" : Str)) = false) zau1._auto_1) (hG : autoParam (Gl X "isinstance") zau2._auto_1)
  (he : autoParam (starEach (e :: [.Name d p2]) X.env = (false,eval e X.env) :: starEach [.Name d p2] X.env) zau2._auto_1) : ME X O (.Call (.Name "isinstance" p) [e,.Name d p2] [] pos) (mIsX cs (fun c=>c == d) fa):=by
 have hd':=List.contains_iff_mem.mp hd
 obtain ⟨D0,h0⟩:=T.ats d hd'
 refine jq5 (v:=.ref D0) (u:=.ref D0) T (jtf hg h0 rfl hdb) (fun w r=>by cases r; rfl) (fun c hc C hC=>?_) ha hG hm he rfl rfl
 obtain ⟨D1,h1,h2⟩:=T.pair c hc d hd' C hC
 rw [h0] at h1; cases h1
 exact h2
theorem jh3 : bootBuiltins "ValueError" = some (.type "ValueError"):=by decide +kernel
theorem jvs (T : ErrT X.K X.mg cs fs bn) (hm : X.mg "isinstance" = none) (hvm : X.mg "ValueError" = none) (ha : ME X O e fa) (hg : autoParam (Gl X "ValueError") zau2._auto_1) (hG : autoParam (Gl X "isinstance") zau2._auto_1)
  (he : autoParam (starEach (e :: [.Name "ValueError" p2]) X.env = (false,eval e X.env) :: starEach [.Name "ValueError" p2] X.env) zau2._auto_1) : ME X O (.Call (.Name "isinstance" p) [e,.Name "ValueError" p2] [] pos) (mIsX cs (fun _=>true) fa) :=
 jq5 (v:=.ty "ValueError") (u:=.type "ValueError") T (jn8 hg hvm jh3 rfl) (fun w r=>by cases r; rfl) (fun c hc C hC=>T.val c hc C hC) ha hG hm he rfl rfl
end
theorem jng {K : PySem.W.Frag} {mg : Str → Option Value} {h : Heap} {c q : Str} {st : Stmt} {ps : List Str} {C f : Addr} {oc : Value} {od an : Option Addr} {osl : Array (Option Value)} {kV doc pm cdv ct : Value} (X : K.In h) (G : h.Ns mainGlobals mg)
  (hb : ∀ (kV doc pm : Value) (an : Option Addr) (cdv ct : Value) (us : List Value),us.length = ps.length → bindArgs (PySem.W.fnOf "__init__" q (jat st) (jah st) (jaa st) .none kV doc pm an cdv ct) ⟨us,[]⟩ = pure (ps.zip us))
  (a : mg c = some (.ref C)) (xc : XCls K C) (i2 : PySem.W.findIn K (.ref C) "__init__" = some (some (.ref f))) (i3 : PySem.W.isFn K (.ref f) = true)
  (l : K.lookup f = some ⟨oc,od,.func (PySem.W.fnOf "__init__" q (jat st) (jah st) (jaa st) .none kV doc pm an cdv ct),osl⟩)
  (cd : PySem.W.codeIn K cdv q = true) (k : PySem.W.keepIn K (.ref f) = true) : IniXAt K mg c q st ps:=by
 have F:=jle (st:=st) l cd k
 exact ⟨C,f,_,a,⟨xc,i2,i3⟩,F,F.binds hb⟩
end DL
namespace L2
open PySem PySem.Spec PyProof.Rows
open PySem.W (Frag InstAt Looks findIn mroIn clsIn)
section
variable {M : Model} {w : World} {A : Around} {E : Value → Shared → Prop} {s : Shared} {K : Frag} {C : Addr} {env : Env}
theorem juc {x : Sem Value} {Q : Flow → Shared → Prop} (hh : A.handled = none)
  (h : wpAny M A x (fun v s₁=>∃ e C od vs sl,v = .ref e ∧ K.In s₁.heap ∧ xIn K C = true ∧ s₁.heap.get? e = some (xOb C od vs sl) ∧ vs[1]? = some .none ∧ E (.ref e) s₁) E s) :
  wpAny M A (raiseStmt env (some x) none) Q E s:=by
 unfold raiseStmt
 refine wpAny_bind (thn h fun v s₁ hzz=>?_)
 obtain ⟨e,C,od,vs,sl,ev,X,hx,he,h1,hE⟩:=hzz
 subst ev
 obtain ⟨bm,N,nm,q,bs,sn,sub,ab,col,dd,k0,k1,k2,k3,k5,cd,hC,T,hk,hm,hd,hN⟩:=x_at X hx
 have hcB : (Value.ref C :: bm).contains (.type "BaseException") = true:=by rw [List.contains_cons,T.hasType (show bmV.contains (.type "BaseException") = true by decide),Bool.or_true]
 obtain ⟨hp,g,d,tk,os⟩:=s₁
 repeat (first | with_reducible refine wpAny_loadPart_at he ?_ | with_reducible refine wpAny_loadPart_at hC ?_ | (with_reducible refine wpAny_isSubtype_exc hC ?_; rw [hcB]) | wp_step)
 rw [h1]
 exact wpAny_pure (by rw [if_neg (by decide)]; exact wpAny_pure (wpAny_raiseNew_none hh hE))
noncomputable abbrev frL (l : List Env) : List Addr:=l.filterMap (·.frame)
inductive TbAt (h : Heap) (vs : Array Value) : Prop
 | no (h1 : vs[1]? = some .none)
 | yes (T : Addr) (oT : Obj) (ts : Array Value) (h1 : vs[1]? = some (.ref T)) (h2 : h.get? T = some oT) (h3 : oT.data = .fields ts) (h4 : ts[3]? = some .none)
inductive Note (l : List Env) (e C : Addr) (od : Option Addr) (vs : Array Value) (sl : Array (Option Value)) (h h' : Heap) : Prop
 | mk (vs' : Array Value) (T : Addr) (oT : Obj) (ts : Array Value) (h1 : h'.get? e = some (xOb C od vs' sl)) (h2 : vs'[1]? = some (.ref T)) (h3 : h.get? T = none) (h4 : h'.get? T = some oT) (h5 : oT.data = .fields ts) (h6 : ts[3]? = some .none)
   (h7 : ∀ b o,h.get? b = some o → b ∉ frL l → b ≠ e → vs[1]? ≠ some (.ref b) → h'.get? b = some o) (h8 : ∀ b o,h.get? b = some o → b ∈ frL l → ∃ sl',h'.get? b = some { o with slots:=sl' }) (h9 : ∀ T,vs[1]? = some (.ref T) → ∃ oT ts,h'.get? T = some oT ∧ oT.data = .fields ts ∧ ts[3]? = some .none)
theorem joy {base : Heap} {env : Env} {outer : List Env} {L e : Addr} {od : Option Addr} {vs : Array Value} {sl : Array (Option Value)} {head : Value} {hadNext : Bool} {Q : Unit → Shared → Prop}
  (hfr : A.frames = some (env :: outer)) (hl : s.heap.FunFrames base (env :: outer)) (hf : env.frame = some L) (he : s.heap.get? e = some (xOb C od vs sl)) (hsz : 1 < vs.size)
  (h : ∀ h' vs' T oT ts,h'.get? e = some (xOb C od vs' sl) → vs'[1]? = some (.ref T) → s.heap.get? T = none → h'.get? T = some oT → oT.data = .fields ts → ts[3]? = some .none → (∀ b o,s.heap.get? b = some o → b ∉ frL (env :: outer) → b ≠ e → h'.get? b = some o) →
   (∀ b o,s.heap.get? b = some o → b ∈ frL (env :: outer) → ∃ sl',h'.get? b = some { o with slots:=sl' }) → Q () { s with heap:=h' }) :
  wpAny M A (do let a ← frameOf env; let pl ← entryPlaceOf L hadNext; let b ← EntryCells.newEntry head a .none (rawInt L) .none pl; setField (.ref e) 1 b) (fun _ s'=>wpAny M A (setFlight (.ref e) none) Q E s') E s:=by
 have nfe : ∀ b,b ∈ frL (env :: outer) → b ≠ e:=fun b hb z=>by
  obtain ⟨_,o,ho,hnf⟩:=hl.mem hb
  rw [z,he] at ho
  cases ho
  exact hnf vs rfl
 refine wpAny_bind (wpAny_frameOf_fun hfr hl hf fun g hs=>wpAny_bind (wpAny_entryPlaceOf fun pl hpl=>?_))
 unfold EntryCells.newEntry newFields
 refine wpAny_bind (wpAny_newObj_type ?_ (hpl.sizeOk5 _ _ _ _ _))
 have e1 : g.get? e = some (xOb C od vs sl):=(hs.2.1 e fun hb=>nfe e hb rfl).trans he
 generalize hob : ({ cls:=.type "traceback",dict:=none,data:=.fields ([head,.ref L,.none,rawInt L,.none] ++ (if pl.isEmpty then List.replicate 6 Value.none else pl)).toArray } : Obj) = ob
 have hdat : ob.data = .fields ([head,.ref L,.none,rawInt L,.none] ++ (if pl.isEmpty then List.replicate 6 Value.none else pl)).toArray:=by rw [← hob]
 have hsz3 : 3 < ([head,.ref L,.none,rawInt L,.none] ++ (if pl.isEmpty then List.replicate 6 Value.none else pl)).toArray.size:=by
  rw [List.size_toArray,List.length_append]
  show 3 < 5 + _
  omega
 generalize ([head,.ref L,.none,rawInt L,.none] ++ (if pl.isEmpty then List.replicate 6 Value.none else pl)).toArray = ts at hdat hsz3
 have e2:=Heap.get?_push_of_some ob e1
 refine wpAny_setField e2 rfl hsz ?_
 have ne : g.objs.size ≠ e:=Nat.ne_of_gt (Heap.lt_size e1)
 have e3 : ((g.push ob).update e (Obj.mapFields (·.setIfInBounds 1 (Value.ref g.objs.size)))).get? e = some (xOb C od (vs.setIfInBounds 1 (.ref g.objs.size)) sl):=Heap.get?_update_self _ e2 rfl
 have t3 : ((g.push ob).update e (Obj.mapFields (·.setIfInBounds 1 (Value.ref g.objs.size)))).get? g.objs.size = some ob:=by
  rw [Heap.get?_update_other _ _ (Ne.symm ne)]
  exact Heap.get?_push_size _ (Obj.isFreed_of_fields hdat)
 have v1 : (vs.setIfInBounds 1 (Value.ref g.objs.size))[1]? = some (.ref g.objs.size):=by simp [hsz]
 unfold setFlight
 refine wpAny_bind (wpAny_field e3 rfl v1 ?_)
 rw [if_pos (show (Value.ref g.objs.size != Value.none) = true from by simp)]
 refine wpAny_setField t3 hdat hsz3 ?_
 have dT:=Obj.data_mapFields hdat (·.setIfInBounds 3 ((none : Option Addr).elim Value.none fun f=>rawInt f))
 have t4:=Heap.get?_update_self (Obj.mapFields (·.setIfInBounds 3 ((none : Option Addr).elim Value.none fun f=>rawInt f))) t3 (Obj.isFreed_of_fields dT)
 have fresh : s.heap.get? g.objs.size = none:=Heap.get?_none_of_le (by rw [hs.1]; exact Nat.le_refl _)
 have keep : ∀ b o,b ≠ e → g.get? b = some o → (((g.push ob).update e (Obj.mapFields (·.setIfInBounds 1 (Value.ref g.objs.size)))).update g.objs.size (Obj.mapFields (·.setIfInBounds 3 ((none : Option Addr).elim Value.none fun f=>rawInt f)))).get? b = some o:=fun b o hb q=>by
  rw [Heap.get?_update_other _ _ (Nat.ne_of_gt (Heap.lt_size q)),Heap.get?_update_other _ _ (Ne.symm hb)]
  exact Heap.get?_push_of_some _ q
 refine h _ _ g.objs.size _ _ ?_ v1 fresh t4 dT (by simp [hsz3]) (fun b o q hb hbe=>keep b o hbe ((hs.2.1 b hb).trans q)) fun b o q hb=>?_
 ·rw [Heap.get?_update_other _ _ ne]; exact e3
 ·obtain ⟨sl',q'⟩:=hs.2.2 b o q
  exact ⟨sl',keep b _ (nfe b hb) q'⟩
theorem jua {base : Heap} {env : Env} {outer : List Env} {L e : Addr} {od : Option Addr} {vs : Array Value} {sl : Array (Option Value)} {Q : Unit → Shared → Prop}
  (hfr : A.frames = some (env :: outer)) (hl : s.heap.FunFrames base (env :: outer)) (hf : env.frame = some L) (he : s.heap.get? e = some (xOb C od vs sl)) (tb : TbAt s.heap vs) (hne : vs[1]? ≠ some (.ref e))
  (h : ∀ h',Note (env :: outer) e C od vs sl s.heap h' → Q () { s with heap:=h' }) : wpAny M A (noteFrame (.ref e) env) (fun _ s'=>wpAny M A (setFlight (.ref e) none) Q E s') E s:=by
 unfold noteFrame
 simp only [hf]
 cases tb with
 | no h1 =>
  refine wpAny_bind (wpAny_field he rfl h1 ?_)
  rw [if_neg (by decide)]
  refine joy hfr hl hf he (Array.getElem?_eq_some_iff.mp h1).1 fun h' vs' T oT ts a1 a2 a3 a4 a5 a6 a7 a8=>h h' ⟨vs',T,oT,ts,a1,a2,a3,a4,a5,a6,fun b o q hb hbe _=>a7 b o q hb hbe,a8,fun T z=>by rw [h1] at z; cases z⟩
 | yes T oT ts h1 h2 h3 h4 =>
  have hTe : T ≠ e:=fun z=>hne (by rw [h1,z])
  have nT : T ∉ frL (env :: outer):=fun hb=>by
   obtain ⟨_,o,ho,hnf⟩:=hl.mem hb
   rw [h2] at ho
   cases ho
   exact hnf ts h3
  refine wpAny_bind (wpAny_field he rfl h1 ?_)
  rw [if_pos (show (Value.ref T != Value.none) = true from by simp)]
  refine wpAny_bind (wpAny_field h2 h3 h4 ?_)
  rw [if_neg (show ¬ ((Value.none == rawInt L) = true) from by simp [rawInt])]
  refine wpAny_bind (wpAny_setField h2 h3 (Array.getElem?_eq_some_iff.mp h4).1 ?_)
  have other : ∀ b,b ≠ T → (s.heap.update T (Obj.mapFields (·.setIfInBounds 3 Value.none))).get? b = s.heap.get? b:=fun b hb=>Heap.get?_update_other _ _ (Ne.symm hb)
  refine joy (s:={ s with heap:=s.heap.update T (Obj.mapFields (·.setIfInBounds 3 Value.none)) }) hfr (hl.of_keeps fun b o q nf=>⟨o,(other b fun z=>nf ts (by rw [z,h2] at q; cases q; exact h3)).trans q,rfl⟩) hf ((other e (Ne.symm hTe)).trans he) (Array.getElem?_eq_some_iff.mp h1).1
   fun h' vs' T' oT' ts' a1 a2 a3 a4 a5 a6 a7 a8=>h h' ⟨vs',T',oT',ts',a1,a2,?_,a4,a5,a6,fun b o q hb hbe hbT=>a7 b o ((other b fun z=>hbT (by rw [z]; exact h1)).trans q) hb hbe,fun b o q hb=>a8 b o ((other b fun z=>nT (by rw [← z]; exact hb)).trans q) hb,fun T2 z=>?_⟩
  rotate_left
  ·rw [h1] at z
   cases z
   exact ⟨_,_,a7 T _ (Heap.get?_update_self _ h2 (Obj.isFreed_of_fields (Obj.data_mapFields h3 _))) nT hTe,Obj.data_mapFields h3 _,by simp [(Array.getElem?_eq_some_iff.mp h4).1]⟩
  by_cases z : T' = T
  ·subst z
   exact absurd a3 (by rw [Heap.get?_update_self _ h2 (Obj.isFreed_of_fields (Obj.data_mapFields h3 _))]; exact fun z=>nomatch z)
  ·exact (other T' z).symm.trans a3
end
end L2
namespace L2
open PySem PySem.Spec PyProof.Rows
open PySem.W (Frag InstAt Looks findIn mroIn clsIn)
noncomputable def XT (T : Addr) : HO:=.ext fun h=>∃ oT ts,h.get? T = some oT ∧ oT.data = .fields ts ∧ ts[3]? = some .none
inductive Fly (H : Hp) (a C : Addr) (od : Option Addr) (s : Shared) : Prop
 | mk (e1 : H a = some (XO a C od false)) (vs : Array Value) (sl : Array (Option Value)) (e2 : s.heap.get? a = some (xOb C od vs sl)) (tb : TbAt s.heap vs) (ne : vs[1]? ≠ some (.ref a)) (tr : ∀ T,vs[1]? = some (.ref T) → H T = some (XT T))
theorem jo0 {P : Program} {w : World} {H : Hp} {h : Heap} {T : Addr} {oT : Obj} {ts : Array Value} (h1 : h.get? T = some oT) (h2 : oT.data = .fields ts) (h3 : ts[3]? = some .none) : ObjOk P w H h T (XT T) :=
 jkd ⟨oT,ts,h1,h2,h3⟩ ⟨_,h1⟩ fun _ _ ⟨oT,ts,h1,h2,h3⟩ k=>⟨oT,ts,k _ h1,h2,h3⟩
section
variable {X : Cx} {pins : List (Addr × Obj)} {σ : St} {H : Hp} {s : Shared} {a C : Addr} {od : Option Addr}
theorem jv4 {A' : Around} {E' : Value → Shared → Prop} {Q : Unit → Shared → Prop} (I : Inv X pins σ H s) (F : Fly H a C od s) (hst : X.stack = X.env :: X.outer) (hf : X.env.frame = some X.env.locals) (hA : A'.frames = some X.stack)
  (k : ∀ T h',H T = none → Inv X pins σ (upd H T (XT T)) { s with heap:=h' } → Fly (upd H T (XT T)) a C od { s with heap:=h' } → Q () { s with heap:=h' }) :
  wpAny (model X.prog X.w) A' (noteFrame (.ref a) X.env) (fun _ s'=>wpAny (model X.prog X.w) A' (setFlight (.ref a) none) Q E' s') E' s:=by
 obtain ⟨e1,vs,sl,e2,tb,ne,tr⟩:=F
 refine jua (base:=X.base) (by rw [hA,hst]) (by rw [← hst]; exact I.stack) hf e2 tb ne fun h' N=>?_
 obtain ⟨vs',T,oT,ts,n1,n2,n3,n4,n5,n6,n7,n8,n9⟩:=N
 have hT : H T = none:=jib (h:=s.heap) I n3
 have nfr : ∀ b ∈ frL (X.env :: X.outer),H b = none:=fun b hb=>I.stkFree b (by rw [hst]; exact hb)
 have na : ∀ b,H b = none → b ≠ a:=fun b q z=>by rw [z,e1] at q; cases q
 have nTb : ∀ b,H b = none → vs[1]? ≠ some (.ref b):=fun b q z=>by rw [tr b z] at q; cases q
 have nT : ∀ b u,s.heap.get? b = some u → b ≠ T:=fun b u q z=>by rw [z,n3] at q; cases q
 have nT' : ∀ b u,H b = some u → b ≠ T:=fun b u q z=>by rw [z,hT] at q; cases q
 have there : ∀ b o,s.heap.get? b = some o → ∃ o',h'.get? b = some o':=fun b o q=>by
  by_cases z2 : b = a
  ·rw [z2]; exact ⟨_,n1⟩
  ·by_cases z3 : vs[1]? = some (.ref b)
   ·obtain ⟨oT,ts,q',_⟩:=n9 b z3
    exact ⟨oT,q'⟩
   ·by_cases z4 : b ∈ frL (X.env :: X.outer)
    ·obtain ⟨sl',q'⟩:=n8 b o q z4
     exact ⟨_,q'⟩
    ·exact ⟨o,n7 b o q z4 z2 z3⟩
 have hok : HOk X.prog X.w (upd H T (XT T)) h':=fun b u e=>by
  by_cases z : b = T
  ·subst z
   rw [jak] at e
   cases e
   exact jo0 n4 n5 n6
  ·rw [jai z] at e
   by_cases z2 : b = a
   ·subst z2
    rw [e1] at e
    cases e
    exact jl4 n1 fun z=>nomatch z
   ·by_cases z3 : vs[1]? = some (.ref b)
    ·rw [tr b z3] at e
     cases e
     obtain ⟨oT,ts,q1,q2,q3⟩:=n9 b z3
     exact jo0 q1 q2 q3
    ·refine (I.hok b u e).stay (fun c v hc q=>?_) (fun c q=>by rw [jai (nT' c _ q)]; exact q) fun c xs q=>by rw [jai (nT' c _ q)]; exact q
     have hcn : H c ≠ none:=by
      rcases hc with r | r
      ·rw [r,e]; exact fun z=>nomatch z
      ·rw [r]; exact fun z=>nomatch z
     refine n7 c v q (fun z=>hcn (nfr c z)) (fun z=>?_) fun z=>?_
     ·rcases hc with r | r
      ·exact z2 (r.symm.trans z)
      ·rw [z,e1] at r
       exact absurd (Option.some.inj r) (fun z=>by unfold XO at z; cases z)
     ·rcases hc with r | r
      ·exact z3 (by rw [← r]; exact z)
      ·rw [tr c z] at r
       exact absurd (Option.some.inj r) (fun z=>by unfold XT at z; cases z)
 have J : Inv X pins σ (upd H T (XT T)) { s with heap:=h' }:=I.call (g':=s.gens) (t':=s.toks) (d':=s.drawn) (ch:=[]) ⟨fun b o q n hb _=>n7 b o q (by rw [hst] at hb; exact hb) (na b n) (nTb b n),fun b o q n hb _=>n8 b o q (by rw [hst] at hb; exact hb),
  fun b o q n _=>by rw [jai (nT b o q)]; exact n,fun b o q _=>there b o q,fun b xs q=>by rw [jai (nT' b _ q)]; exact q,fun b u xs q=>by rw [jai (nT' b _ q)]; exact q,fun b ps q=>⟨#[],by rw [jai (nT' b _ q),q]; simp⟩⟩ hok I.bare (fun b z=>nomatch z)
 refine k T h' hT J ⟨by rw [jai (nT' a _ e1)]; exact e1,vs',sl,n1,.yes T oT ts n2 n4 n5 n6,fun z=>?_,fun T2 z=>?_⟩
 ·rw [n2] at z
  cases z
  exact nT' _ _ e1 rfl
 ·rw [n2] at z
  cases z
  exact jak
inductive CXr (P : Program) (w : World) (outer : List Env) (H : Hp) (s : Shared) (E : XK) (e : Value) (s' : Shared) : Prop
 | mk (a C : Addr) (od : Option Addr) (H1 H' : Hp) (h1 : e = .ref a) (h2 : s'.os = s.os) (h3 : AllBare s'.gens) (h4 : Un (frs outer) [] H H' s.heap s'.heap) (h5 : HOk P w H' s'.heap) (h6 : Fly H' a C od s') (h7 : ∀ b o,H1 b = some o → H' b = some o) (h8 : E (.ref a) od H1)
noncomputable def CX1 (P : Program) (w : World) : CXT:=fun outer H s E e s'=>CXr P w outer H s E e s'
inductive Back (X : Cx) (pins : List (Addr × Obj)) (σ : St) (E : XK) (e : Value) (s : Shared) : Prop
 | mk (a C : Addr) (od : Option Addr) (H1 H : Hp) (h1 : e = .ref a) (I : Inv X pins σ H s) (F : Fly H a C od s) (h7 : ∀ b o,H1 b = some o → H b = some o) (h8 : E (.ref a) od H1)
theorem jmx {E : XK} {e : Value} {s' : Shared} (I : Inv X pins σ H s) (h : CX1 X.prog X.w X.stack H s E e s') : Back X pins σ E e s':=by
 obtain ⟨a,C,od,H1,H',h1,h2,h3,h4,h5,h6,h7,h8⟩:=h
 exact ⟨a,C,od,H1,H',h1,I.call' h2 h4 h5 h3 (fun b z=>nomatch z),h6,h7,h8⟩
theorem jvp {P : Program} {w : World} {K : Frag} {mg : Str → Option Value} {base : Heap} {N : List Str} {qual : Str} {scope : Scope} {f : Addr} {cd : Value} {A : Around} {outer : List Env} {s : Shared} {H : Hp} {E : XK} {e : Value} {s2 : Shared}
  (B : Back (cxOf (CX1 P w) P w K mg base N qual scope f cd A outer s H E) pins σ E e s2) : (cxOf (CX1 P w) P w K mg base N qual scope f cd A outer s H E).xe e s2:=by
 obtain ⟨a,C,od,H1,H2,rfl,I,F,h7,h8⟩:=B
 show wpAny _ _ (leaving _ (.ref a)) _ _ s2
 unfold leaving
 refine wpAny_bind (jv4 (X:=cxOf (CX1 P w) P w K mg base N qual scope f cd A outer s H E) I F rfl rfl I.ok.frames fun T h' hT J F'=>?_)
 exact ⟨a,C,od,H1,_,rfl,J.os,J.bare,J.base,J.hok,F',fun b o q=>by rw [jai (fun z=>by rw [z,] at q; rw [h7 _ _ q] at hT; cases hT)]; exact h7 b o q,h8⟩
theorem jqf {e : Expr} {te : TE} {pos : Pos} (he : PE X e te) (hc : X.calm = true) : PS X (.Raise (some e) none pos) (fun D σ H=>te σ H fun v H1=>∃ a C od,v = .ref a ∧ H1 a = some (XO a C od true) ∧ XCls X.K C ∧ ∀ pins s,Inv X pins σ (upd H1 a (XO a C od false)) s → Fly (upd H1 a (XO a C od false)) a C od s → X.xe (.ref a) s):=by
 intro pins s σ H D I h
 show wpAny _ _ (do standAt pos; raiseStmt X.env (some (do let v ← eval e X.env; standAt pos; pure v)) none) _ _ s
 refine wpAny_bind (wpAny_standAt (juc (K:=X.K) (I.ok.hd hc) (wpAny_bind (thn (he pins s σ H _ I h) fun u s1 ⟨v,H1,I1,rv,a,C,od,ev,ha,cl,k⟩=>wpAny_bind (wpAny_standAt (wpAny_pure ?_))))))
 subst ev
 cases rv
 obtain ⟨vs,sl,h0,hf0⟩:=jk0 I1 ha
 have h1:=hf0 rfl
 refine ⟨a,C,od,vs,sl,rfl,I1.kIn,cl.x,h0,h1,?_⟩
 have J : Inv X pins σ (upd H1 a (XO a C od false)) { s1 with heap:=s1.heap,toks:=s1.toks }:=I1.write (x:=a) (e:=a) (by rw [ha]; exact True.intro) (.inl rfl) (fun b u _ q=>q) ⟨_,h0⟩ (jl4 h0 fun z=>nomatch z)
 exact k pins s1 J ⟨jak,vs,sl,h0,.no h1,fun z=>by rw [h1] at z; (cases z),fun T z=>by rw [h1] at z; cases z⟩
end
end L2
namespace L2
open PySem PySem.Spec PyProof.Rows
open PySem.W (Frag InstAt Looks findIn mroIn clsIn)
section
variable {X : Cx} {pins : List (Addr × Obj)} {σ : St} {H : Hp} {s : Shared} {a C : Addr} {od : Option Addr}
noncomputable abbrev Cx.mk1 (X : Cx) (v : Value) (E : Value → Shared → Prop) : Cx:={ X with A:=X.A.mark (some v),calm:=false,xe:=E }
theorem Inv.mk1 (I : Inv X pins σ H s) (v : Value) (E : Value → Shared → Prop) : Inv (X.mk1 v E) pins σ H s :=
 ⟨⟨I.ok.mod,I.ok.kind,I.ok.glob,I.ok.blt,I.ok.above,I.ok.inj,I.ok.has,I.ok.cab,(fun z=>nomatch z),I.ok.frames,I.ok.stk,I.ok.exf,I.ok.bs,I.ok.bsz,I.ok.noex,I.ok.exfs,I.ok.funs,I.ok.frf⟩,I.os,I.bare,I.base,I.loc,I.cell,I.free,I.freeC,I.pin,I.hok,I.len⟩
theorem Inv.un1 {v : Value} {E : Value → Shared → Prop} {σ' : St} {H' : Hp} {s' : Shared} (I : Inv X pins σ H s) (J : Inv (X.mk1 v E) pins σ' H' s') : Inv X pins σ' H' s' :=
 ⟨I.ok,J.os,J.bare,J.base,J.loc,J.cell,J.free,J.freeC,J.pin,J.hok,J.len⟩
theorem jov {M : Model} {A : Around} {E : Value → Shared → Prop} {i : Nat} {x : Str} {v : V} {pos : Pos} {Q : Unit → Shared → Prop} (I : Inv X pins σ H s) (hN : X.N.Nodup) (hi : X.N[i]? = some x) (hk : X.env.scope.names.lookup x = some .local) (hv : σ[i]? = some (some v))
  (h : ∀ s',Inv X pins (σ.set i none) H s' → Q () s') : wpAny M A (unbindBehindTheSuite X.env x pos) Q E s:=by
 obtain ⟨m,hn,hl⟩:=id I.loc
 have hcls : (X.env.scope.kind == .class || (X.env.scope.kind == .module && X.env.locals != X.env.globals)) = false:=by rw [I.ok.kind]; rfl
 have cne:=I.cne
 obtain ⟨u,ru,lk⟩:=hl i x v hi hv (.inl hk)
 have hu : m x = some u:=by
  rcases lk with ⟨_,e⟩ | ⟨k,_⟩
  ·exact e
  ·have hk' : X.env.kindOf x = some .local:=hk
   rcases k with k | k
   ·rw [hk'] at k; cases k
   ·rw [hk'] at k; cases k
 unfold unbindBehindTheSuite
 refine wpAny_onRaise (wpAny_unbindName_local hk hn hu hcls fun h' u' hn' hs=>?_)
 obtain ⟨oL,_,_,hoL,_⟩:=id hn
 have low : ∀ {b : Addr} {o : Obj},X.s₀.heap.get? b = some o → b ≠ X.env.locals:=fun e=>Nat.ne_of_lt (Nat.lt_of_lt_of_le (Heap.lt_size e) I.ok.above)
 refine h _ ⟨I.ok,I.os,I.bare,⟨fun b o e n hb hx=>(hs.2 b (low e)).trans (I.base.keep b o e n hb hx),fun b o e n hb hx=>?_,I.base.free,fun b o e hx=>?_,I.base.tups,I.base.frzs,I.base.tbls⟩,⟨_,hn',fun j y v' e1 e2 e3=>?_⟩,fun y c e=>?_,I.free,I.freeC,fun p hp=>?_,fun b ob e=>?_,by simpa using I.len⟩
 ·obtain ⟨sl,e1⟩:=I.base.slot b o e n hb hx
  exact ⟨sl,(hs.2 b (low e)).trans e1⟩
 ·obtain ⟨o',e1⟩:=I.base.there b o e hx
  exact ⟨o',(hs.2 b (low e)).trans e1⟩
 ·have hj : j ≠ i:=fun z=>by
   rw [z,List.getElem?_set_self (List.getElem?_eq_some_iff.mp hv).1] at e2
   cases e2
  rw [List.getElem?_set_ne (Ne.symm hj)] at e2
  obtain ⟨w,r',q⟩:=hl j y v' e1 e2 e3
  refine ⟨w,r',?_⟩
  rcases q with ⟨k,e⟩ | ⟨k,c,e,z⟩
  ·refine .inl ⟨k,?_⟩
   have : y ≠ x:=fun e=>hj (jie hN e1 (e ▸ hi))
   simp [this,e]
  ·exact .inr ⟨k,c,e,z.sameBut hs (cne y c e)⟩
 ·obtain ⟨w,z⟩:=I.cell y c e
  exact ⟨w,z.sameBut hs (cne y c e)⟩
 ·obtain ⟨e,n,ne,nf,d⟩:=I.pin p hp
  exact ⟨(hs.2 p.1 ne).trans e,n,ne,nf,d⟩
 ·refine (I.hok b ob e).stay (fun c w hc q=>(hs.2 c ?_).trans q) (fun _ q=>q) fun _ _ q=>q
  rintro rfl
  rcases hc with z | hc
  ·rw [← z,I.free] at e; cases e
  ·rw [I.free] at hc; cases hc
theorem jx9 {A' : Around} {E' : Value → Shared → Prop} {Q : Unit → Shared → Prop} (I : Inv X pins σ H s) (F : Fly H a C od s) (k : ∀ s',Inv X pins σ H s' → Q () s') : wpAny (model X.prog X.w) A' (setFlight (.ref a) none) Q E' s:=by
 obtain ⟨e1,vs,sl,e2,tb,ne,tr⟩:=F
 unfold setFlight
 cases tb with
 | no h1 =>
  refine wpAny_bind (wpAny_field e2 rfl h1 ?_)
  rw [if_neg (by decide)]
  exact wpAny_pure (k s I)
 | yes T oT ts h1 h2 h3 h4 =>
  refine wpAny_bind (wpAny_field e2 rfl h1 ?_)
  rw [if_pos (show (Value.ref T != Value.none) = true from by simp)]
  have hs:=(Array.getElem?_eq_some_iff.mp h4).1
  refine wpAny_setField h2 h3 hs (k _ ?_)
  have dT:=Obj.data_mapFields h3 (·.setIfInBounds 3 ((none : Option Addr).elim Value.none fun f=>rawInt f))
  have q:=Heap.get?_update_self (Obj.mapFields (·.setIfInBounds 3 ((none : Option Addr).elim Value.none fun f=>rawInt f))) h2 (Obj.isFreed_of_fields dT)
  have hT:=tr T h1
  have J : Inv X pins σ (upd H T (XT T)) { s with heap:=s.heap.update T (Obj.mapFields (·.setIfInBounds 3 ((none : Option Addr).elim Value.none fun f=>rawInt f))),toks:=s.toks } :=
   I.write (x:=T) (e:=T) (by rw [hT]; exact True.intro) (.inl rfl) (fun b u hb z=>(Heap.get?_update_other _ _ (Ne.symm hb)).trans z) ⟨_,q⟩ (jo0 q dT (by simp [hs]))
  have eH : upd H T (XT T) = H:=by
   funext b
   by_cases z : b = T
   ·rw [z,jak,hT]
   ·rw [jai z]
  rw [eH] at J
  exact J
theorem jse {B n y : Str} {Bc : Addr} {j l : Nat} {np hpos py pn ypos : Pos} {Q : Flow → Shared → Prop} {E' : Value → Shared → Prop} (I : Inv X pins σ H s) (F : Fly H a C od s) (hex : PySem.W.exmOne X.K (.ref C) (.ref Bc) = some true) (hg : Gl X B) (hm : X.mg B = some (.ref Bc)) (hdb : (B == ("__debug__" : Str)) = false)
  (hN : X.N.Nodup) (hj : X.N[j]? = some n) (hn : X.env.scope.names.lookup n = some .local) (hl : X.N[l]? = some y) (hy : X.env.scope.names.lookup y = some .local) (hjl : j ≠ l)
  (hnd : (n == ("__debug__" : Str)) = false) (hncd : (n == ("__classdict__" : Str)) = false) (hs : swapsWith (.Name n pn) (some (.Name y py)) ypos.line X.env = pure false)
  (k : ∀ s',Inv X pins (((σ.set j (some (.ref a))).set l (some (.ref a))).set j none) H s' → Q .next s') :
  wpAny (model X.prog X.w) X.A (handleBy (.ref a) X.env [.ExceptHandler (some (.Name B np)) (some n) [.Assign [.Name y py] (.Name n pn) ypos] hpos]) Q E' s:=by
 have e2 : ∃ vs sl,s.heap.get? a = some (xOb C od vs sl):=by obtain ⟨_,vs,sl,e2,_⟩:=F; exact ⟨vs,sl,e2⟩
 obtain ⟨vs,sl,e2⟩:=e2
 have jl : j < σ.length:=by rw [I.len]; exact (List.getElem?_eq_some_iff.mp hj).1
 have I':=I.mk1 (.ref a) fun _ _=>False
 have LT : Looks (model X.prog X.w) s.heap (typeOf (.ref a)) (.ref C):=by
  intro A' Q' E' s' k z
  unfold typeOf
  exact wpAny_bind (wpAny_loadPart (k _ _ e2) (wpAny_pure z))
 refine wpAny_handleBy_cons (codeAny_handlers_test (jgw (X:=X.mk1 (.ref a) fun _ _=>False) I' hg hm ?_ hdb)) (by intro q; cases q)
 refine (PySem.W.exm_one I.kIn LT hex).here ?_
 show codeAny _ _ (.handlers (.ref a) [.ExceptHandler none (some n) [.Assign [.Name y py] (.Name n pn) ypos] hpos] X.env) _ s
 refine codeAny_handlers_suite_as (jx9 (X:=X.mk1 (.ref a) fun _ _=>False) I' F fun s1 I1=>?_)
 refine jfu (X:=X.mk1 (.ref a) fun _ _=>False) I1 hN hj (.inl hn) (v:=.ref a) rfl (fun s2 I2=>?_) (.inr hn)
 have hv : (σ.set j (some (V.ref a)))[j]? = some (some (.ref a)):=List.getElem?_set_self jl
 have PSx:=jik (jlu (X:=X.mk1 (.ref a) fun _ _=>False) (pos:=ypos) (pos':=py) hN hl (.inl hy) (jls (pos:=pn) hj (.inl hn) hnd hncd) hs (.inr hy))
 refine wpAny_mono (PSx pins s2 _ H ⟨fun σ' H'=>σ' = (σ.set j (some (.ref a))).set l (some (.ref a)) ∧ H' = H,fun _ _=>False,fun _ _=>False,fun _ _=>False⟩ I2 ⟨_,hv,rfl,rfl⟩) (fun f s3 q=>?_) fun _ _ z=>z.elim
 cases f with
 | brk=>obtain ⟨_,_,_,z⟩:=q; exact z.elim
 | cont=>obtain ⟨_,_,_,z⟩:=q; exact z.elim
 | ret u=>obtain ⟨_,_,_,_,_,z⟩:=q; exact z.elim
 | next =>
  obtain ⟨σ3,H3,I3,rfl,rfl⟩:=q
  show wpAny _ X.A (do bindName X.env n .none; unbindBehindTheSuite X.env n hpos) (fun _ s₃=>Q .next s₃) E' s3
  refine wpAny_bind (wpAny_bindName (jfu (I.un1 I3) hN hj (.inl hn) (v:=.non) rfl (fun s4 I4=>?_) (.inr hn)))
  refine jov I4 hN hj hn (List.getElem?_set_self (by simpa using jl)) fun s5 I5=>k s5 ?_
  rw [List.set_set] at I5
  exact I5
end
end L2
namespace L2
open PySem PySem.Spec PyProof.Rows
open PySem.W (Frag InstAt Looks findIn mroIn clsIn)
noncomputable def EX (Er : Addr → Addr → Option Addr → Hp → Prop) : XK:=fun v od H=>∃ a C,v = .ref a ∧ H a = some (XO a C od false) ∧ Er a C od H
theorem jro {X : Cx} {pins : List (Addr × Obj)} {σ : St} {H : Hp} {s : Shared} {a C C' : Addr} {od od' : Option Addr} {f f' : Bool} (I : Inv X pins σ H s) (h : H a = some (XO a C od f)) (h' : H a = some (XO a C' od' f')) : C = C':=by
 obtain ⟨vs,sl,e,_⟩:=jk0 I h
 obtain ⟨vs',sl',e',_⟩:=jk0 I h'
 rw [e] at e'
 have:=congrArg Obj.cls (Option.some.inj e')
 exact Value.ref.inj this
section
variable {X : Cx} {CX : CXT} {k : Nat} {f C : Addr} {fd : FuncData} {ps : List Str} {sp : Sp} {E : XK} {x m : Str} {p pos apos : Pos} {e o : Expr} {es : List Expr} {ta : TE} {t : TA}
theorem jwx {pins : List (Addr × Obj)} {σ : St} {H : Hp} {s : Shared} {Q : VK} {us : List Value} {vs : List V} (F : FnOk X.prog X.w X.K X.mg X.base CX k f fd ps sp) (hr : Room k X.A) (hb : Binds X.K fd ps []) (hx : ∀ H1 s1 e s',Inv X pins σ H1 s1 → CX X.stack H1 s1 E e s' → X.xe e s')
  (I : Inv X pins σ H s) (r : Vals vs us) (h : sp vs H Q E) : wpAny (model X.prog X.w) X.A (call (.ref f) us) (EP X pins σ Q) X.xe s:=by
 have hl : (us ++ []).length = ps.length:=by rw [List.append_nil,← r.length]; exact F.len _ _ _ _ h
 refine wpAny_call (codeAny_mono (F.run X.A X.stack s H ⟨us,[]⟩ (us ++ []) vs Q E hr I.env0 (hb s us I.kIn hl) (by rw [List.append_nil]; exact r) h) fun r s' hq=>?_)
 cases r with
 | error e=>exact hx H s e s' I hq
 | ok fl =>
  cases fl with
  | ret u=>exact I.after hq
  | next=>exact False.elim hq
  | brk=>exact False.elim hq
  | cont=>exact False.elim hq
theorem jsx {pl : Sem Bool} {pins : List (Addr × Obj)} {σ : St} {H : Hp} {s : Shared} {Q : VK} (he : PE X o ta) (c : Cls X.K C) (hm : Meth X.K C m f) (F : FnOk X.prog X.w X.K X.mg X.base CX k f fd ps sp) (hr : Room k X.A) (hb : Binds X.K fd ps []) (hx : ∀ H1 s1 e s',Inv X pins σ H1 s1 → CX X.stack H1 s1 E e s' → X.xe e s') (ha : PA X (e :: es) t)
  (hst : starEach (e :: es) X.env = (false,eval e X.env) :: starEach es X.env) (hpl : (backTo pos (starEach es X.env)).any (·.1) = false)
  (ht : eval (.Call (.Attribute o m apos) (e :: es) [] pos) X.env = (do
   let ov ← eval o X.env
   standAt apos.atName
   let (f,first) ← holding [ov] (getMethod ov m pl)
   callWith pos f first (backTo pos (starEach (e :: es) X.env)) (backToKw pos (keywordEach [] X.env))))
  (I : Inv X pins σ H s) (h : jqn C m sp [] E ta t σ H Q) : wpAny (model X.prog X.w) X.A (eval (.Call (.Attribute o m apos) (e :: es) [] pos) X.env) (EP X pins σ Q) X.xe s:=by
 refine PySem.W.methodCall_KW (pl:=pl) (thn (he pins s σ H _ I h) fun u s1 hzz=>?_) ht
 obtain ⟨x,H1,I1,rx,a,dx,fs,ex,ea,l,q⟩:=hzz
 subst ex
 obtain rfl : u = Value.ref a:=rx
 refine jhn I1 ea c hm l ?_
 refine PySem.W.callWith_K (first:=[.ref a]) (h₀:=X.base) I.ok.mod.kin hm.kp (thn (ha pos pins s1 σ H1 _ I1 q) fun us s2 ⟨vs,H2,I2,r,q2⟩=>⟨I2.kIn,?_⟩) hst hpl
 have q3 : sp (.ref a :: (vs ++ [])) H2 Q E:=q2
 rw [List.append_nil] at q3
 exact jwx (us:=.ref a :: us) (vs:=.ref a :: vs) F hr hb hx I2 (.cons rfl r) q3
inductive tTryM (K : Frag) (C : Addr) (m : Str) (sp : Sp) (ta : TE) (t : TA) (Bc : Addr) (i j l : Nat) (D : Ends) (σ : St) (H : Hp) : Prop
 | mk (Er : Addr → Addr → Option Addr → Hp → Prop) (h1 : jqn C m sp [] (EX Er) ta t σ H fun v H1=>D.nx (σ.set i (some v)) H1)
  (h2 : ∀ a C' od H1,H1 a = some (XO a C' od false) → Er a C' od H1 → (∃ C2 od2,H1 a = some (XO a C2 od2 false) ∧ PySem.W.exmOne K (.ref C2) (.ref Bc) = some true) ∧ ∀ H2,(∀ b o,H1 b = some o → H2 b = some o) → D.nx (((σ.set j (some (.ref a))).set l (some (.ref a))).set j none) H2)
theorem jtp {pl : Sem Bool} {B n y : Str} {Bc : Addr} {i j l : Nat} {np hpos py pn ypos px spos tpos : Pos} (he : ∀ W,PE (X.wish W) o ta) (c : Cls X.K C) (hm : Meth X.K C m f) (F : FnOk X.prog X.w X.K X.mg X.base (CX1 X.prog X.w) k f fd ps sp) (hr : Room k X.A) (hb : Binds X.K fd ps []) (ha : ∀ W,PA (X.wish W) (e :: es) t)
  (hst : X.stack = X.env :: X.outer) (hfr : X.env.frame = some X.env.locals) (hg : Gl X B) (hmB : X.mg B = some (.ref Bc)) (hN : X.N.Nodup) (hi : X.N[i]? = some x) (hx : X.env.scope.names.lookup x = some .local) (hj : X.N[j]? = some n) (hn : X.env.scope.names.lookup n = some .local) (hl : X.N[l]? = some y) (hy : X.env.scope.names.lookup y = some .local) (hjl : j ≠ l)
  (hdb : autoParam ((B == ("__debug__" : Str)) = false) zau1._auto_1) (hnd : autoParam ((n == ("__debug__" : Str)) = false) zau1._auto_1) (hncd : autoParam ((n == ("__classdict__" : Str)) = false) zau1._auto_1) (hs : autoParam (swapsWith (.Name n pn) (some (.Name y py)) ypos.line X.env = pure false) zau2._auto_1)
  (hs1 : autoParam (swapsWith (.Call (.Attribute o m apos) (e :: es) [] pos) (some (.Name x px)) spos.line X.env = pure false) zau2._auto_1)
  (hse : autoParam (starEach (e :: es) X.env = (false,eval e X.env) :: starEach es X.env) zau2._auto_1) (hpl : autoParam ((backTo pos (starEach es X.env)).any (·.1) = false) zau2._auto_1)
  (ht : eval (.Call (.Attribute o m apos) (e :: es) [] pos) X.env = (do
   let ov ← eval o X.env
   standAt apos.atName
   let (f,first) ← holding [ov] (getMethod ov m pl)
   callWith pos f first (backTo pos (starEach (e :: es) X.env)) (backToKw pos (keywordEach [] X.env))):=by rfl) :
  PS X (.Try [.Assign [.Name x px] (.Call (.Attribute o m apos) (e :: es) [] pos) spos] [.ExceptHandler (some (.Name B np)) (some n) [.Assign [.Name y py] (.Name n pn) ypos] hpos] [] [] tpos) (tTryM X.K C m sp ta t Bc i j l):=by
 rintro pins s σ H D I ⟨Er,h1,h2⟩
 refine wpAny_Try_except ?_
 generalize hW : (fun (e : Value) (s₁ : Shared)=>wpAny (model X.prog X.w) X.A (noteFrame e X.env) (fun _ s₂=>wpAny (model X.prog X.w) X.A (setFlight e none) (fun _ s₃=>wpAny (model X.prog X.w) X.A (handleBy e X.env [.ExceptHandler (some (.Name B np)) (some n) [.Assign [.Name y py] (.Name n pn) ypos] hpos]) (SP X pins D) X.xe s₃) X.xe s₂) X.xe s₁) = W
 have hxW : ∀ H1 s1 e s',Inv (X.wish W) pins σ H1 s1 → CX1 X.prog X.w X.stack H1 s1 (EX Er) e s' → W e s':=fun H1 s1 e' s' I1 hc=>by
  obtain ⟨a,C',od,Ha,H2,rfl,J,Fl,g7,a2,C2,g8,g9,g10⟩:=jmx (X:=X) I1.unwish hc
  cases g8
  rw [← hW]
  have e1 : H2 a = some (XO a C' od false):=by obtain ⟨e1,_⟩:=Fl; exact e1
  obtain rfl : C' = C2:=jro J e1 (g7 _ _ g9)
  obtain ⟨⟨C3,od3,g11,q1⟩,q2⟩:=h2 a C' od Ha g9 g10
  obtain rfl : C' = C3:=jro J e1 (g7 _ _ g11)
  refine jv4 J Fl hst hfr I.ok.frames fun T h' hT J2 F2=>?_
  refine jse J2 F2 q1 hg hmB hdb hN hj hn hl hy hjl hnd hncd hs fun s5 J5=>?_
  refine ⟨_,_,J5,q2 _ fun b ob q=>?_⟩
  rw [jai (fun z=>by rw [z] at q; rw [g7 _ _ q] at hT; cases hT)]
  exact g7 b ob q
 have I1 : Inv (X.wish W) pins σ H s:=I.wish W
 have body : wpAny (model X.prog X.w) X.A (exec (.Assign [.Name x px] (.Call (.Attribute o m apos) (e :: es) [] pos) spos) X.env) (SP (X.wish W) pins D) W s:=by
  refine wpAny_Assign_Name (thn (jsx (X:=X.wish W) (pl:=pl) (he W) c hm F hr hb hxW (ha W) hse hpl ht I1 h1) fun v s1 hzz=>?_) hs1
  obtain ⟨z,H1,J1,rz,q⟩:=hzz
  exact jfu (X:=X.wish W) J1 hN hi (.inl hx) rz (fun s2 J2=>⟨_,H1,J2,q⟩) (.inr hx)
 refine wpAny_execs_cons (thn body fun f s1 q=>?_)
 cases f with
 | next=>exact wpAny_execs_nil (wpAny_execs_nil (SP.unwish q))
 | ret v=>exact SP.unwish q
 | brk=>exact SP.unwish q
 | cont=>exact SP.unwish q
end
end L2
namespace DL
open PySem PySem.Spec L2
noncomputable def xdO (i : Nat) : XD:=⟨"",[("",.obj i)]⟩
noncomputable def errI (x : XD) : Option Nat:=match x.fs with
 | [(_,.obj i)]=>some i
 | _=>none
noncomputable def ErrK (K : PySem.W.Frag) (mg : Str → Option Value) (ρ₀ : Rho) (S₀ : Addr → Bool) (H₀ : Hp) (F : Addr → Bool) (Ω' : Sto) (x : XD) (E : XK) : Prop :=
 ∀ i a C od ρ' S' H',errI x = some i → RT ρ₀ S₀ H₀ F K mg ρ' S' H' Ω' → ρ' i = some a → H' a = some (XO a C od false) → E (.ref a) od H'
noncomputable def OkR (K : PySem.W.Frag) (mg : Str → Option Value) (O' B : List Nat) (ρ₀ : Rho) (S₀ : Addr → Bool) (H₀ : Hp) (F : Addr → Bool) (ρ : Rho) (Hv : Hp) (Dn : Ends) (E : XK) (r : Except XD Out) (Ω' : Sto) : Prop:=match r with
 | .ok o=>OkE K mg O' B ρ₀ S₀ H₀ F ρ Hv Dn (.ok o) Ω'
 | .error x=>ErrK K mg ρ₀ S₀ H₀ F Ω' x E
theorem OkR.back {K : PySem.W.Frag} {mg : Str → Option Value} {O' B : List Nat} {ρ₀ ρ ρ' : Rho} {S₀ : Addr → Bool} {H₀ : Hp} {F : Addr → Bool} {Hv Hv' : Hp} {Dn : Ends} {E : XK} {r : Except XD Out} {Ω' : Sto} (l : RLe ρ ρ') (e : Same Hv Hv') (h : OkR K mg O' B ρ₀ S₀ H₀ F ρ Hv Dn E r Ω') :
  OkR K mg O' B ρ₀ S₀ H₀ F ρ' Hv' Dn E r Ω':=by
 cases r with
 | error x=>exact h
 | ok o=>exact OkE.back l e h
inductive sR (K : PySem.W.Frag) (mg : Str → Option Value) (O O' B : List Nat) (g : DSt → MS Out) (E : XK) (Dn : Ends) (σ : St) (H : Hp) : Prop
 | mk (ρ₀ : Rho) (S₀ : Addr → Bool) (H₀ : Hp) (F : Addr → Bool) (ρ : Rho) (S : Addr → Bool) (δ : DSt) (Ω : Sto) (R : RM ρ₀ S₀ H₀ F K mg O ρ S H σ δ Ω) (r : Except XD Out) (Ω' : Sto) (hf : g δ Ω = some (r,Ω')) (k : OkR K mg O' B ρ₀ S₀ H₀ F ρ (hid H (fob (un F S) σ O)) Dn E r Ω')
noncomputable def MSr (X : Cx) (O O' B : List Nat) (E : XK) (st : Stmt) (g : DSt → MS Out) : Prop:=PS X st (sR X.K X.mg O O' B g E)
noncomputable def MSsr (X : Cx) (O O' B : List Nat) (E : XK) (st : List Stmt) (g : DSt → MS Out) : Prop:=PSs X st (sR X.K X.mg O O' B g E)
noncomputable def Wx (X : Cx) (E : XK) : Prop:=∀ pins σ e s,Back X pins σ E e s → X.xe e s
noncomputable def jly (cs : List Str) (i : Nat) : MS Out:=fun Ω=>match Ω[i]? with
 | some (.exc c (j,true))=>if cs.contains c then some (.error (xdO i),Ω.set i (.exc c (j,false))) else none
 | _=>none
noncomputable def jlc (cs : List Str) (fa : DSt → MS D) : DSt → MS Out:=fun δ=>(fa δ).b fun d=>match d with
 | .obj i=>jly cs i
 | _=>fun _=>none
inductive RaiseI (cs : List Str) (d : D) (Ω Ω' : Sto) (r : Except XD Out) : Prop
 | mk (i : Nat) (c : Str) (j : Option Nat) (h1 : d = .obj i) (h2 : Ω[i]? = some (.exc c (j,true))) (h3 : c ∈ cs) (h4 : r = .error (xdO i)) (h5 : Ω' = Ω.set i (.exc c (j,false)))
theorem joe {cs : List Str} {d : D} {Ω Ω' : Sto} {r : Except XD Out} (h : (match d with
 | .obj i=>jly cs i
 | _=>fun _=>none : MS Out) Ω = some (r,Ω')) : RaiseI cs d Ω Ω' r:=by
 split at h
 ·rename_i i
  unfold jly at h
  split at h
  ·rename_i c j hi
   split at h
   ·rename_i hc
    cases h
    exact ⟨i,c,j,rfl,hi,List.contains_iff_mem.mp hc,rfl,rfl⟩
   ·cases h
  ·cases h
 ·cases h
section
variable {X : Cx} {O O' O'' B : List Nat} {E : XK} {a b c e o iter tg : Expr} {es : List Expr} {fa fb fo fv : DSt → MS D} {fi : DSt → MS (List D)} {fl : DSt → MS (List D)} {pos : Pos} {st : Stmt} {rest : List Stmt} {g g1 g2 : DSt → MS Out} {tc : DSt → MS Bool} {cs fs : List Str} {bn : Str}
theorem jq9 (h : MSt X O O' B st g) : MSr X O O' B E st g:=by
 rintro pins s σ H Dn I ⟨ρ₀,S₀,H₀,F,ρ,S,δ,Ω,R,r,Ω',hf,k⟩
 refine h pins s σ H Dn I ⟨ρ₀,S₀,H₀,F,ρ,S,δ,Ω,R,r,Ω',hf,?_⟩
 cases r with
 | ok o=>exact k
 | error x=>trivial
theorem js1 (h : MSs X O O' B rest g) : MSsr X O O' B E rest g:=by
 rintro pins s σ H Dn I ⟨ρ₀,S₀,H₀,F,ρ,S,δ,Ω,R,r,Ω',hf,k⟩
 refine h pins s σ H Dn I ⟨ρ₀,S₀,H₀,F,ρ,S,δ,Ω,R,r,Ω',hf,?_⟩
 cases r with
 | ok o=>exact k
 | error x=>trivial
theorem jjk (h1 : MSr X O O' B E st g1) (h2 : MSsr X O' O'' B E rest g2) : MSsr X O O'' B E (st :: rest) (eSeq g1 g2):=by
 rintro pins s σ H Dn I ⟨ρ₀,S₀,H₀,F,ρ,S,δ,Ω,R,r,Ω',hf,k⟩
 refine jij h1 h2 pins s σ H Dn I ?_
 rcases MS.b_inv hf with ⟨o,Ω1,e1,hf⟩ | ⟨x,e1,rfl⟩
 ·refine ⟨ρ₀,S₀,H₀,F,ρ,S,δ,Ω,R,.ok o,Ω1,e1,?_⟩
  cases o with
  | nx δ'=>exact fun ρ1 S1 σ1 H1 R1 l1 v1=>⟨ρ₀,S₀,H₀,F,ρ1,S1,δ',Ω1,R1,r,Ω',hf,k.back l1 v1⟩
  | rt d=>cases hf; exact k
  | bk δ'=>cases hf; exact k
  | ct δ'=>cases hf; exact k
 ·exact ⟨ρ₀,S₀,H₀,F,ρ,S,δ,Ω,R,.error x,_,e1,k⟩
theorem jgg (h1 : MSr X O O' B E st g) : MSsr X O O' B E [st] g:=fun pins s σ H Dn I h=>jik h1 pins s σ H Dn I h
theorem jvw {s1 s2 : List Stmt} (hc : MT X O c tc) (h1 : MSsr X O O' B E s1 g1) (h2 : MSsr X O O' B E s2 g2) : MSr X O O' B E (.If c s1 s2 pos) (eIf tc g1 g2):=by
 rintro pins s σ H Dn I ⟨ρ₀,S₀,H₀,F,ρ,S,δ,Ω,R,r,Ω',hg,k⟩
 refine jtn hc h1 h2 pins s σ H Dn I ?_
 rcases MS.b_inv hg with ⟨z,Ω1,e1,hg⟩ | ⟨x,e1,rfl⟩
 ·refine ⟨ρ₀,S₀,H₀,F,ρ,S,δ,Ω,R,.ok z,_,e1,fun ρ1 S1 H1 R1 l1 v1=>?_⟩
  cases z with
  | true=>exact iteT ⟨ρ₀,S₀,H₀,F,ρ1,S1,δ,Ω1,R1,r,Ω',hg,k.back l1 v1⟩
  | false=>exact iteF ⟨ρ₀,S₀,H₀,F,ρ1,S1,δ,Ω1,R1,r,Ω',hg,k.back l1 v1⟩
 ·exact ⟨ρ₀,S₀,H₀,F,ρ,S,δ,Ω,R,.error x,_,e1,trivial⟩
theorem js0 {body : List Stmt} {h : D → DSt → Option DSt} (hp : PassesOwn (model X.prog X.w) X.A X.env X.xe) (hc : X.calm = true) (hi : MI X O tg iter fi) (hg : DG X O tg h) (hb : MSsr X O O O E body g)
  (hs : autoParam (∀ x,foldedSetIterable iter X.env x = pure x) zau3._auto_1) : MSr X O O B E (.For tg iter body [] pos) (eFor fi h g):=by
 rintro pins s σ H Dn I ⟨ρ₀,S₀,H₀,F,ρ,S,δ,Ω,R,r,Ω',hgf,k⟩
 refine joc hp hc hi hg hb hs pins s σ H Dn I ?_
 rcases MS.b_inv hgf with ⟨ds,Ω1,e1,hgf⟩ | ⟨y,e1,rfl⟩
 ·refine ⟨ρ₀,S₀,H₀,F,ρ,S,δ,Ω,R,.ok ds,Ω1,e1,fun J ρ1 S1 H1 R1 l1 v1 it=>?_⟩
  refine ⟨fun i m σ' H'=>m = ds.length - i ∧ i ≤ ds.length ∧ ∃ ρ' S' δ' Ω2,RM ρ₀ S₀ H₀ F X.K X.mg O ρ' S' H' σ' δ' Ω2 ∧ RLe ρ1 ρ' ∧ Same (hid H1 (fob (un F S1) σ O)) (hid H' (fob (un F S') σ' O)) ∧ forE g h (ds.drop i) δ' Ω2 = some (r,Ω'),
   ⟨ds.length,by simp,Nat.zero_le _,ρ1,S1,δ,Ω1,R1,RLe.refl _,Same.refl _,hgf⟩,?_⟩
  rintro i m σ' H' ⟨rfl,hil,ρ',S',δ',Ω2,R',l',f',hr⟩
  obtain ⟨j1,j2⟩:=it H' (fob (un F S') σ' O) i f' (fun p hp=>R'.fresh hp)
  by_cases hlt : i < ds.length
  ·obtain ⟨go,yld⟩:=j1 hlt
   refine .inr ⟨go,fun σ2 H2=>∃ ρ2 S2 δ2 Ω3,RM ρ₀ S₀ H₀ F X.K X.mg O ρ2 S2 H2 σ2 δ2 Ω3 ∧ RLe ρ1 ρ2 ∧ Same (hid H1 (fob (un F S1) σ O)) (hid H2 (fob (un F S2) σ2 O)) ∧ forE g h (ds.drop (i + 1)) δ2 Ω3 = some (r,Ω'),fun σ2 H2 ⟨ρ2,S2,δ2,Ω3,a1,a2,a3,a4⟩=>⟨ds.length - (i + 1),by omega,rfl,hlt,ρ2,S2,δ2,Ω3,a1,a2,a3,a4⟩,fun x H2 y=>?_⟩
   obtain ⟨s2,d,hd,rd⟩:=yld x H2 y
   have hdr : ds.drop i = d :: ds.drop (i + 1):=by
    rw [List.drop_eq_getElem_cons hlt]
    have : ds[i] = d:=by rw [List.getElem?_eq_getElem hlt] at hd; exact Option.some.inj hd
    rw [this]
   rw [hdr] at hr
   unfold forE at hr
   cases e2 : h d δ' with
   | none=>rw [e2] at hr; cases hr
   | some δ1 =>
    rw [e2] at hr
    dsimp only at hr
    have R2:=R'.mono s2
    have f2 : Same (hid H1 (fob (un F S1) σ O)) (hid H2 (fob (un F S') σ' O)):=f'.trans (jaq s2)
    refine ⟨ρ',_,un F S',δ',d,δ1,R2.rs,rd.rho l',e2,fun σ3 ef R3=>?_⟩
    have R3' : RM ρ₀ S₀ H₀ F X.K X.mg O ρ' S' H2 σ3 δ1 Ω2:=R2.next R3 (by rw [ef]; exact Same.refl _)
    rcases MS.b_inv hr with ⟨o,Ω3,e3,hr⟩ | ⟨y,e3,rfl⟩
    ·refine ⟨ρ₀,S₀,H₀,F,ρ',S',δ1,Ω2,R3',.ok o,Ω3,e3,?_⟩
     rw [ef]
     cases o with
     | nx δ4=>exact fun ρ4 S4 σ4 H4 R4 l4 v4=>⟨ρ4,S4,δ4,Ω3,R4,l'.trans l4,f2.trans v4,hr⟩
     | ct δ4=>exact fun ρ4 S4 σ4 H4 R4 l4 v4=>⟨ρ4,S4,δ4,Ω3,R4,l'.trans l4,f2.trans v4,hr⟩
     | bk δ4=>cases hr; exact fun ρ4 S4 σ4 H4 R4 l4 v4=>k ρ4 S4 σ4 H4 R4 (l1.trans (l'.trans l4)) (v1.trans (f2.trans v4))
     | rt v=>cases hr; exact k
    ·exact ⟨ρ₀,S₀,H₀,F,ρ',S',δ1,Ω2,R3',.error y,_,e3,k⟩
  ·have ei : i = ds.length:=by omega
   subst ei
   rw [List.drop_length] at hr
   cases hr
   exact .inl ⟨j2 rfl,k ρ' S' σ' H' R' (l1.trans l') (v1.trans f')⟩
 ·exact ⟨ρ₀,S₀,H₀,F,ρ,S,δ,Ω,R,.error y,_,e1,trivial⟩
theorem jn1 (T : ErrT X.K X.mg cs fs bn) (hc : X.calm = true) (hx : Wx X E) (ha : ME X O e fa) : MSr X O O' B E (.Raise (some e) none pos) (jlc cs fa):=by
 rintro pins s σ H Dn I ⟨ρ₀,S₀,H₀,F,ρ,S,δ,Ω,R,r,Ω',hg,k⟩
 refine jqf ha hc pins s σ H Dn I ?_
 rcases MS.b_inv hg with ⟨d,Ω1,e1,hg⟩ | ⟨x,e1,rfl⟩
 ·refine ⟨ρ₀,S₀,H₀,F,ρ,S,δ,Ω,R,.ok d,Ω1,e1,fun v ρ1 S1 H1 R1 l1 v1 r1=>?_⟩
  obtain ⟨i,c,j,rfl,hi,hcs,rfl,rfl⟩:=joe hg
  obtain ⟨ad,q1,q2⟩:=rep_obj.mp r1
  obtain ⟨ad',p1,p2,p3⟩:=R1.sto.ats i _ hi
  rw [q1] at p1; cases p1
  have fin : ∀ C od,X.mg c = some (.ref C) → H1 ad = some (XO ad C od true) → SOk ρ1 S1 X.K X.mg (upd H1 ad (XO ad C od false)) (hid H1 (fob (un F S1) σ O)) ad (.exc c (j,false)) →
    ∃ a C od,v = .ref a ∧ H1 a = some (XO a C od true) ∧ XCls X.K C ∧ ∀ pins s,Inv X pins σ (upd H1 a (XO a C od false)) s → Fly (upd H1 a (XO a C od false)) a C od s → X.xe (.ref a) s:=fun C od g1 g2 g3=>by
   refine ⟨ad,C,od,q2,g2,T.cls c hcs C g1,fun pins' s' J Fl=>?_⟩
   obtain ⟨w1,w2⟩:=R1.putS (so':=.exc c (j,false)) (o':=XO ad C od false) hi q1 p2 g2 jrp g3
   exact hx pins' σ _ s' ⟨ad,C,od,_,_,rfl,J,Fl,fun _ _ z=>z,k i ad C od ρ1 S1 _ rfl w1.rt q1 jak⟩
  cases p3 with
  | no f C g1 g2=>exact fin C none g1 g2 (ExcOk.no false C g1 jak)
  | yes f j C dx g1 g2 g3=>exact fin C (some dx) g1 g3 (ExcOk.yes false j C dx g1 g2 jak)
 ·exact ⟨ρ₀,S₀,H₀,F,ρ,S,δ,Ω,R,.error x,_,e1,trivial⟩
end
end DL
namespace DL
open PySem PySem.Spec L2
inductive spR (K : PySem.W.Frag) (mg : Str → Option Value) (n : Nat) (m : List D → MS D) (vs : List V) (H : Hp) (Q : VK) (E : XK) : Prop
 | mk (hn : vs.length = n) (ρ : Rho) (S F : Addr → Bool) (ds : List D) (Ω : Sto) (hF : ∀ b,F b = true → H b ≠ none) (hS : ∀ b,F b = true → S b = false) (hr : Reps ρ K (hid H (un F S)) ds vs) (hs : StoOk ρ S K mg H (hid H (un F S)) Ω) (r : Except XD D) (Ω' : Sto) (hf : m ds Ω = some (r,Ω')) (k : match (generalizing:=false) r with
  | .ok d=>∀ v ρ' S' H',RT ρ S H F K mg ρ' S' H' Ω' → Rep ρ' K (hid H' (un F S')) d v → Q v H'
  | .error x=>ErrK K mg ρ S H F Ω' x E)
inductive CalY (P : Program) (w : World) (K : PySem.W.Frag) (mg : Str → Option Value) (base : Heap) (k : Nat) (x : Str) (n : Nat) (sp : Sp) : Prop
 | mk (f : Addr) (fd : FuncData) (ps : List Str) (h1 : ps.length = n) (h2 : mg x = some (.ref f)) (h3 : PySem.W.keepIn K (.ref f) = true) (h4 : Binds K fd ps []) (h5 : FnOk P w K mg base (CX1 P w) k f fd ps sp)
inductive MetY (P : Program) (w : World) (K : PySem.W.Frag) (mg : Str → Option Value) (base : Heap) (k : Nat) (c x : Str) (n : Nat) (sp : Sp) : Prop
 | mk (C f : Addr) (fd : FuncData) (ps : List Str) (h1 : ps.length = n) (h2 : mg c = some (.ref C)) (h3 : Cls K C) (h4 : Meth K C x f) (h5 : Binds K fd ps []) (h6 : FnOk P w K mg base (CX1 P w) k f fd ps sp)
structure CalR (P : Program) (w : World) (K : PySem.W.Frag) (mg : Str → Option Value) (base : Heap) (k : Nat) (x : Str) (n : Nat) (m : List D → MS D) : Prop where
 ex : CalY P w K mg base k x n (spR K mg n m)
 ar : ∀ ds Ω r,m ds Ω = some r → ds.length = n
structure MetR (P : Program) (w : World) (K : PySem.W.Frag) (mg : Str → Option Value) (base : Heap) (k : Nat) (c x : Str) (n : Nat) (m : List D → MS D) : Prop where
 ex : MetY P w K mg base k c x n (spR K mg n m)
 ar : ∀ ds Ω r,m ds Ω = some r → ds.length = n
section
variable {P : Program} {w : World} {K : PySem.W.Frag} {mg : Str → Option Value} {base : Heap}
theorem jw8 {N : List Str} {qual : Str} {scope : Scope} {f : Addr} {cd : Value} {A : Around} {outer : List Env} {s : Shared} {H : Hp} {E : XK} : Wx (cxOf (CX1 P w) P w K mg base N qual scope f cd A outer s H E) E:=fun _ _ _ _ B=>jvp B
theorem fn_R {x q : Str} {st : Stmt} {N ps : List Str} {k : Nat} {O' : List Nat} {g : DSt → MS Out} {f : Addr} {fd : FuncData} (F : Fun K x q st f fd) (Sc : FnScope N ps (jaa st))
  (hbody : ∀ (f : Addr) (cdv : Value) (A : Around) (outer : List Env) (s : Shared) (H : Hp) (E : XK),Room k (A.deeper (PyProof.Rows.envOfC q (jaa st) s.heap.objs.size f cdv)) →
   MSsr (cxOf (CX1 P w) P w K mg base N q (jaa st) f cdv A outer s H E) [] O' [] E (jah st) g) : FnOk P w K mg base (CX1 P w) (k + 1) f fd ps (spR K mg ps.length (mirE ps.length N.length g)):=by
 obtain ⟨oc,od,kV,doc,pm,an,cdv,ct,osl,rfl,lk,hcd⟩:=F.ex
 refine ju9 lk hcd Sc (fun vs H Q E h=>h.1) fun A outer s H vs Q E hr h=>?_
 obtain ⟨hl,ρ,S,F',ds,Ω,fin,ff,rp,sto,r,Ω',hmr,k0⟩:=h
 refine ⟨_,hbody f cdv A outer s H E hr,?_⟩
 have hpl : ps.length ≤ N.length:=by have:=congrArg List.length Sc.pre; rw [List.length_take] at this; omega
 have hdl : ds.length = ps.length:=by rw [← rp.length]; exact hl
 unfold mirE at hmr
 rw [if_pos hdl] at hmr
 have R : RM ρ S H F' K mg [] ρ S H (L2.start N vs) (startD N.length ds) Ω:=by
  refine ⟨⟨?_,jam,fun b hb=>?_,fun i d hd _=>?_,fun i hi=>absurd hi (by simp),fun i hi=>absurd hi (by simp)⟩,RLe.refl _,fun b o _ h=>h,fun b h=>h,fun b h=>.inl h,fun i hi=>absurd hi (by simp),ff,by rw [jcg]; exact sto⟩
  ·simp [L2.start,startD,rp.length]
  ·rcases un_t.mp hb with z | z
   ·exact fin b z
   ·exact sto.fin b z
  ·obtain ⟨v,e,rv⟩:=rp.get (jf5 hd)
   exact ⟨v,jg4 e,by rw [jcg]; exact rv⟩
 rcases MS.b_inv hmr with ⟨o,Ω1,e1,hmr⟩ | ⟨y,e1,rfl⟩
 ·refine ⟨ρ,S,H,F',ρ,S,_,Ω,R,.ok o,Ω1,e1,?_⟩
  cases o with
  | rt d =>
   cases hmr
   exact fun v ρ' S' H' T rv=>k0 v ρ' S' H' T rv
  | nx δ =>
   cases hmr
   exact fun ρ' S' σ' H' R' _ _=>k0 .non ρ' S' H' R'.rt (rep_non.mpr rfl)
  | bk δ=>cases hmr
  | ct δ=>cases hmr
 ·exact ⟨ρ,S,H,F',ρ,S,_,Ω,R,.error y,_,e1,k0⟩
theorem jry {x : Str} {st : Stmt} {N ps : List Str} {k : Nat} {O' : List Nat} {g : DSt → MS Out} (hf : jc2 K mg x st ps) (S : FnScope N ps (jaa st))
  (hbody : ∀ (f : Addr) (cdv : Value) (A : Around) (outer : List Env) (s : Shared) (H : Hp) (E : XK),Room k (A.deeper (PyProof.Rows.envOfC x (jaa st) s.heap.objs.size f cdv)) →
   MSsr (cxOf (CX1 P w) P w K mg base N x (jaa st) f cdv A outer s H E) [] O' [] E (jah st) g) : CalR P w K mg base (k + 1) x ps.length (mirE ps.length N.length g):=by
 obtain ⟨f,fd,hm,F,hb⟩:=hf
 exact ⟨⟨f,fd,ps,rfl,hm,F.kp,hb,fn_R F S hbody⟩,jf3⟩
theorem jsw {c x q : Str} {st : Stmt} {N ps : List Str} {k : Nat} {O' : List Nat} {g : DSt → MS Out} (hf : MetAt K mg c x q st ps) (S : FnScope N ps (jaa st))
  (hbody : ∀ (f : Addr) (cdv : Value) (A : Around) (outer : List Env) (s : Shared) (H : Hp) (E : XK),Room k (A.deeper (PyProof.Rows.envOfC q (jaa st) s.heap.objs.size f cdv)) →
   MSsr (cxOf (CX1 P w) P w K mg base N q (jaa st) f cdv A outer s H E) [] O' [] E (jah st) g) : MetR P w K mg base (k + 1) c x ps.length (mirE ps.length N.length g):=by
 obtain ⟨C,f,fd,hm,hc,hM,F,hb⟩:=hf.ex
 exact ⟨⟨C,f,fd,ps,rfl,hm,hc,hM,hb,fn_R F S hbody⟩,jf3⟩
end
section
variable {X : Cx} {O B : List Nat} {E : XK} {a b o e : Expr} {es : List Expr} {fa fb fo : DSt → MS D} {fl : DSt → MS (List D)} {pos p apos : Pos} {x c : Str} {k n : Nat}
variable {ρ₀ ρ : Rho} {S₀ S F : Addr → Bool} {H₀ H : Hp} {σ : St} {δ : DSt} {Ω Ω' : Sto}
theorem joo {m : List D → MS D} {ds : List D} {vs : List V} {r : Except XD D} {Q : VK} (R : RM ρ₀ S₀ H₀ F X.K X.mg O ρ S H σ δ Ω) (hl : ds.length = n) (hr : Reps ρ X.K (hid H (fob (un F S) σ O)) ds vs) (hm : m ds Ω = some (r,Ω'))
  (k : match (generalizing:=false) r with
   | .ok d=>∀ v ρ' S' H',RM ρ₀ S₀ H₀ F X.K X.mg O ρ' S' H' σ δ Ω' → RLe ρ ρ' → Same (hid H (fob (un F S) σ O)) (hid H' (fob (un F S') σ O)) → Rep ρ' X.K (hid H' (fob (un F S') σ O)) d v → Q v H'
   | .error x=>∀ i a C od ρ' S' H',errI x = some i → RM ρ₀ S₀ H₀ F X.K X.mg O ρ' S' H' σ δ Ω' → RLe ρ ρ' → Same (hid H (fob (un F S) σ O)) (hid H' (fob (un F S') σ O)) → ρ' i = some a → H' a = some (XO a C od false) → E (.ref a) od H') : spR X.K X.mg n m vs H Q E:=by
 refine ⟨by rw [hr.length]; exact hl,ρ,S,fob F σ O,ds,Ω,fun b hb=>?_,fun b hb=>?_,by rw [jdu]; exact hr,by rw [jdu]; exact R.sto,r,Ω',hm,?_⟩
 ·intro z
  have:=R.fresh z
  rw [← jdu,un_t.mpr (.inl hb)] at this; cases this
 ·rcases fob_t.mp hb with z | z
  ·exact R.ff b z
  ·cases e : S b with
   | false=>rfl
   | true=>exact absurd z (R.base_S e)
 ·cases r with
  | error x =>
   intro i a C od ρ' S' H' hx T hρ hH
   obtain ⟨t1,t2⟩:=R.call T.rho T.same T.old T.new T.ff T.sto
   exact k i a C od ρ' S' H' hx t1 T.rho t2 hρ hH
  | ok d =>
   intro v ρ' S' H' T rv
   obtain ⟨t1,t2⟩:=R.call T.rho T.same T.old T.new T.ff T.sto
   rw [jdu] at rv
   exact k v ρ' S' H' t1 T.rho t2 rv
theorem jn0 {m : List D → MS D} {spos : Pos} (C : CalR X.prog X.w X.K X.mg X.base k x n m) (hr : Room k X.A) (hx : Wx X E) (ha : MA X O (e :: es) fl) (hg : autoParam (Gl X x) zau2._auto_1) (hdb : autoParam ((x == ("__debug__" : Str)) = false) zau1._auto_1) (he : autoParam (starEach (e :: es) X.env = (false,eval e X.env) :: starEach es X.env) zau2._auto_1)
  (hpl : autoParam ((backTo pos (starEach es X.env)).any (·.1) = false) zau2._auto_1) (hs : autoParam (swapsWith (.Call (.Name x p) (e :: es) [] pos) none spos.line X.env = pure false) zau2._auto_1) : MSr X O O B E (.Expr (.Call (.Name x p) (e :: es) [] pos) spos) (jgp (jf1 m fl)):=by
 obtain ⟨f,fd,ps,hl,hm,hk,hb,G⟩:=C.ex
 rintro pins s σ H Dn I ⟨ρ₀,S₀,H₀,F,ρ,S,δ,Ω,R,r,Ω',hf,k⟩
 refine jkt (jii G hr hg hm hk hb .nil (fun pins σ H s e s' I c=>hx pins σ e s' (jmx I c)) ha hdb he hpl) hs pins s σ H Dn I ?_
 have go : ∀ {ds : List D} {Ω1 : Sto},fl δ Ω = some (.ok ds,Ω1) → (∀ vs ρ1 S1 H1,RM ρ₀ S₀ H₀ F X.K X.mg O ρ1 S1 H1 σ δ Ω1 → RLe ρ ρ1 → Same (hid H (fob (un F S) σ O)) (hid H1 (fob (un F S1) σ O)) → Reps ρ1 X.K (hid H1 (fob (un F S1) σ O)) ds vs → spR X.K X.mg n m (vs ++ []) H1 (fun _ H2=>Dn.nx σ H2) E) → jw2 (jw1 (spR X.K X.mg n m) [] E (tEL X.K X.mg O fl)) Dn σ H:=fun e1 q =>
  ⟨ρ₀,S₀,H₀,F,ρ,S,δ,Ω,R,.ok _,_,e1,q⟩
 rcases MS.b_inv hf with ⟨d,Ω2,e2,hf⟩ | ⟨y,e2,rfl⟩
 ·cases hf
  rcases MS.b_inv e2 with ⟨ds,Ω1,e1,e3⟩ | ⟨y,e1,z⟩
  ·refine go e1 fun vs ρ1 S1 H1 R1 l1 v1 r1=>?_
   rw [List.append_nil]
   exact joo R1 (C.ar ds Ω1 _ e3) r1 e3 fun v ρ2 S2 H2 R2 l2 v2 r2=>k ρ2 S2 σ H2 R2 (l1.trans l2) (v1.trans v2)
  ·cases z
 ·rcases MS.b_inv e2 with ⟨ds,Ω1,e1,e3⟩ | ⟨y,e1,z⟩
  ·refine go e1 fun vs ρ1 S1 H1 R1 l1 v1 r1=>?_
   rw [List.append_nil]
   exact joo R1 (C.ar ds Ω1 _ e3) r1 e3 fun i a C od ρ2 S2 H2 hi R2 l2 v2 hρ hH=>k i a C od ρ2 S2 H2 hi R2.rt hρ hH
  ·exact ⟨ρ₀,S₀,H₀,F,ρ,S,δ,Ω,R,.error _,_,e1,trivial⟩
end
end DL
namespace DL
open PySem PySem.Spec L2
structure ErrM (K : PySem.W.Frag) (mg : Str → Option Value) (cs : List Str) (b : Str) : Prop where
 atb : ∃ C,mg b = some (.ref C)
 ex : ∀ c ∈ cs,∀ C,mg c = some (.ref C) → ∀ D,mg b = some (.ref D) → PySem.W.exmOne K (.ref C) (.ref D) = some true
noncomputable def jw9 (K : PySem.W.Frag) (es : List (Str × Addr)) (B : Addr) : Bool:=es.all fun p=>PySem.W.exmOne K (.ref p.2) (.ref B) == some true
theorem jr8 {K : PySem.W.Frag} {mg : Str → Option Value} {es : List (Str × Addr)} {B : Addr} {b : Str} (hm : ∀ p ∈ es,mg p.1 = some (.ref p.2)) (hb : mg b = some (.ref B)) (h : jw9 K es B = true) : ErrM K mg (es.map (·.1)) b:=by
 refine ⟨⟨B,hb⟩,fun c hc C hC D hD=>?_⟩
 rw [hb] at hD
 cases hD
 obtain ⟨p,hp,rfl⟩:=List.mem_map.mp hc
 rw [hm p hp] at hC
 cases hC
 exact beq_iff_eq.mp (List.all_eq_true.mp h p hp)
noncomputable def jk4 (cs : List Str) (j l : Nat) (δ : DSt) (y : XD) (Ω' : Sto) : Option (Except XD Out × Sto):=match errI y with
 | some q=>match Ω'[q]? with
  | some (.exc c (_,false))=>if cs.contains c then some (.ok (.nx (((δ.set j (some (.obj q))).set l (some (.obj q))).set j none)),Ω') else none
  | _=>none
 | none=>none
noncomputable def jkb (c x : Str) (m : List D → MS D) (cs : List Str) (i j l : Nat) (fo : DSt → MS D) (fl : DSt → MS (List D)) : DSt → MS Out:=fun δ Ω=>match jdb c x m fo fl δ Ω with
 | some (.ok d,Ω')=>some (.ok (.nx (δ.set i (some d))),Ω')
 | some (.error y,Ω')=>jk4 cs j l δ y Ω'
 | none=>none
inductive CaughtI (cs : List Str) (j l : Nat) (δ : DSt) (y : XD) (Ω Ω' : Sto) (r : Except XD Out) : Prop
 | mk (q : Nat) (c : Str) (jj : Option Nat) (h1 : errI y = some q) (h2 : Ω[q]? = some (.exc c (jj,false))) (h3 : c ∈ cs) (h4 : r = .ok (.nx (((δ.set j (some (.obj q))).set l (some (.obj q))).set j none))) (h5 : Ω' = Ω)
theorem jma {cs : List Str} {j l : Nat} {δ : DSt} {y : XD} {Ω Ω' : Sto} {r : Except XD Out} (h : jk4 cs j l δ y Ω = some (r,Ω')) : CaughtI cs j l δ y Ω Ω' r:=by
 unfold jk4 at h
 split at h
 ·rename_i q hq
  split at h
  ·rename_i c jj hi
   split at h
   ·rename_i hc
    cases h
    exact ⟨q,c,jj,hq,hi,List.contains_iff_mem.mp hc,rfl,rfl⟩
   ·cases h
  ·cases h
 ·cases h
section
variable {ρ₀ ρ : Rho} {S₀ S F : Addr → Bool} {H₀ H : Hp} {K : PySem.W.Frag} {mg : Str → Option Value} {O : List Nat} {σ : St} {δ : DSt} {Ω : Sto}
theorem jds {F : Addr → Bool} {j : Nat} (h : j ∉ O) : fob F (σ.set j none) O = fob F σ O:=by
 funext b
 rw [Bool.eq_iff_iff,fob_t,fob_t]
 refine or_congr Iff.rfl ⟨?_,?_⟩
 ·rintro ⟨i,hi,q⟩
  rw [List.getElem?_set_ne (by rintro rfl; exact h hi)] at q
  exact ⟨i,hi,q⟩
 ·rintro ⟨i,hi,q⟩
  exact ⟨i,hi,by rw [List.getElem?_set_ne (by rintro rfl; exact h hi)]; exact q⟩
theorem RM.unset (R : RM ρ₀ S₀ H₀ F K mg O ρ S H σ δ Ω) {j : Nat} (ho : j ∉ O) : RM ρ₀ S₀ H₀ F K mg O ρ S H (σ.set j none) (δ.set j none) Ω:=by
 have ne : ∀ i ∈ O,j ≠ i:=fun i hi e=>ho (e ▸ hi)
 refine ⟨⟨by simp [R.rs.len],?_,R.rs.fin,fun i d hd hi=>?_,fun i hi=>?_,fun i hi k hk a q1 q2=>?_⟩,R.rho,R.same,R.old,R.new,fun i hi a q=>?_,R.ff,by rw [jds ho]; exact R.sto⟩
 ·rw [jds ho]; exact R.rs.same
 ·rw [jds ho]
  have hij : j ≠ i:=fun z=>by
   subst z
   by_cases q : j < δ.length
   ·rw [List.getElem?_set_self q] at hd; cases hd
   ·rw [List.getElem?_eq_none (by simpa using q)] at hd; cases hd
  rw [List.getElem?_set_ne hij] at hd ⊢
  exact R.rs.val i d hd hi
 ·rw [List.getElem?_set_ne (ne i hi),List.getElem?_set_ne (ne i hi),jds ho,jds ho]
  exact R.rs.own i hi
 ·rw [List.getElem?_set_ne (ne i hi)] at q1
  rw [List.getElem?_set_ne (ne k hk)] at q2
  exact R.rs.nd i hi k hk a q1 q2
 ·rw [List.getElem?_set_ne (ne i hi)] at q
  exact R.own0 i hi a q
end
section
variable {X : Cx} {O B : List Nat} {E : XK} {o e : Expr} {es : List Expr} {fo : DSt → MS D} {fl : DSt → MS (List D)} {pos p apos : Pos} {x c : Str} {k n : Nat}
variable {ρ₀ ρ : Rho} {S₀ S F : Addr → Bool} {H₀ H : Hp} {σ : St} {δ : DSt} {Ω Ω' : Sto}
theorem jlm {m : List D → MS D} {Ca : Addr} {r : Except XD D} {Q : VK} (hm : X.mg c = some (.ref Ca)) (ar : ∀ ds Ω r,m ds Ω = some r → ds.length = n) (R : RM ρ₀ S₀ H₀ F X.K X.mg O ρ S H σ δ Ω) (hf : jdb c x m fo fl δ Ω = some (r,Ω'))
  (k : match (generalizing:=false) r with
   | .ok d=>∀ v ρ' S' H',RM ρ₀ S₀ H₀ F X.K X.mg O ρ' S' H' σ δ Ω' → RLe ρ ρ' → Same (hid H (fob (un F S) σ O)) (hid H' (fob (un F S') σ O)) → Rep ρ' X.K (hid H' (fob (un F S') σ O)) d v → Q v H'
   | .error y=>∀ i a C od ρ' S' H',errI y = some i → RM ρ₀ S₀ H₀ F X.K X.mg O ρ' S' H' σ δ Ω' → RLe ρ ρ' → Same (hid H (fob (un F S) σ O)) (hid H' (fob (un F S') σ O)) → ρ' i = some a → H' a = some (XO a C od false) → E (.ref a) od H') : jqn Ca x (spR X.K X.mg n m) [] E (tE X.K X.mg O fo) (tEL X.K X.mg O fl) σ H Q:=by
 rcases MS.b_inv hf with ⟨od,Ω1,e1,hf⟩ | ⟨y,e1,rfl⟩
 ·refine ⟨ρ₀,S₀,H₀,F,ρ,S,δ,Ω,R,.ok od,Ω1,e1,fun v ρ1 S1 H1 R1 l1 v1 r1=>?_⟩
  obtain ⟨i,fs,rfl,hi,hno,hf2⟩:=jln hf
  obtain ⟨ad,q1,q2⟩:=rep_obj.mp r1
  obtain ⟨ad',p1,p2,C',dx,vfs,p3,p4,p5,p6,p7⟩:=R1.sto.ats i _ hi
  rw [q1] at p1; cases p1
  rw [hm] at p3; cases p3
  refine ⟨ad,dx,vfs,q2,p4,p7.none hno,?_⟩
  rcases MS.b_inv hf2 with ⟨ds,Ω2,e2,hf3⟩ | ⟨y,e2,rfl⟩
  ·refine ⟨ρ₀,S₀,H₀,F,ρ1,S1,δ,Ω1,R1,.ok ds,Ω2,e2,fun vs ρ2 S2 H2 R2 l2 v2 r2=>?_⟩
   show spR X.K X.mg n m (v :: (vs ++ [])) H2 Q E
   rw [List.append_nil]
   refine joo R2 (ar _ _ _ hf3) (Reps.cons ((r1.rho l2).mono v2) r2) hf3 ?_
   cases r with
   | error y=>exact fun i a C od ρ3 S3 H3 he R3 l3 v3 hρ hH=>k i a C od ρ3 S3 H3 he R3 (l1.trans (l2.trans l3)) (v1.trans (v2.trans v3)) hρ hH
   | ok d=>exact fun v' ρ3 S3 H3 R3 l3 v3 r3=>k v' ρ3 S3 H3 R3 (l1.trans (l2.trans l3)) (v1.trans (v2.trans v3)) r3
  ·exact ⟨ρ₀,S₀,H₀,F,ρ1,S1,δ,Ω1,R1,.error y,_,e2,trivial⟩
 ·exact ⟨ρ₀,S₀,H₀,F,ρ,S,δ,Ω,R,.error y,_,e1,trivial⟩
theorem jsz {pl : Sem Bool} {m : List D → MS D} {cs : List Str} {n' y z bn : Str} {i j l : Nat} {np hpos py pn ypos px spos tpos : Pos} (C : MetR X.prog X.w X.K X.mg X.base k c x n m) (Em : ErrM X.K X.mg cs bn) (hr : Room k X.A) (ho : ∀ W,ME (X.wish W) O o fo) (ha : ∀ W,MA (X.wish W) O (e :: es) fl)
  (hst : X.stack = X.env :: X.outer) (hfr : X.env.frame = some X.env.locals) (hN : X.N.Nodup) (hio : O.contains i = false) (hjo : O.contains j = false) (hlo : O.contains l = false) (hjl : j ≠ l)
  (hi : autoParam (X.N[i]? = some z) zau2._auto_1) (hz : autoParam (X.env.scope.names.lookup z = some .local) zau2._auto_1) (hj : autoParam (X.N[j]? = some n') zau2._auto_1) (hn : autoParam (X.env.scope.names.lookup n' = some .local) zau2._auto_1) (hl : autoParam (X.N[l]? = some y) zau2._auto_1) (hy : autoParam (X.env.scope.names.lookup y = some .local) zau2._auto_1) (hg : autoParam (Gl X bn) zau2._auto_1)
  (hdb : autoParam ((bn == ("__debug__" : Str)) = false) zau1._auto_1) (hnd : autoParam ((n' == ("__debug__" : Str)) = false) zau1._auto_1) (hncd : autoParam ((n' == ("__classdict__" : Str)) = false) zau1._auto_1) (hs : autoParam (swapsWith (.Name n' pn) (some (.Name y py)) ypos.line X.env = pure false) zau2._auto_1)
  (hs1 : autoParam (swapsWith (.Call (.Attribute o x apos) (e :: es) [] pos) (some (.Name z px)) spos.line X.env = pure false) zau2._auto_1)
  (hse : autoParam (starEach (e :: es) X.env = (false,eval e X.env) :: starEach es X.env) zau2._auto_1) (hpl : autoParam ((backTo pos (starEach es X.env)).any (·.1) = false) zau2._auto_1)
  (ht : eval (.Call (.Attribute o x apos) (e :: es) [] pos) X.env = (do
   let ov ← eval o X.env
   standAt apos.atName
   let (f,first) ← holding [ov] (getMethod ov x pl)
   callWith pos f first (backTo pos (starEach (e :: es) X.env)) (backToKw pos (keywordEach [] X.env))):=by rfl) :
  MSt X O O B (.Try [.Assign [.Name z px] (.Call (.Attribute o x apos) (e :: es) [] pos) spos] [.ExceptHandler (some (.Name bn np)) (some n') [.Assign [.Name y py] (.Name n' pn) ypos] hpos] [] [] tpos) (jkb c x m cs i j l fo fl):=by
 have no : ∀ {q : Nat},O.contains q = false → q ∉ O:=fun h z=>by rw [List.contains_iff_mem.mpr z] at h; cases h
 obtain ⟨Ca,f,fd,ps,hln,hm,hc,hM,hb,G⟩:=C.ex
 obtain ⟨Bc,hB⟩:=Em.atb
 rintro pins s σ H Dn I ⟨ρ₀,S₀,H₀,F,ρ,S,δ,Ω,R,r,Ω',hf,k⟩
 refine jtp (X:=X) (ta:=tE X.K X.mg O fo) (t:=tEL X.K X.mg O fl) (pl:=pl) (fun W=>ho W) hc hM G hr hb (fun W=>ha W) hst hfr hg hB hN hi hz hj hn hl hy hjl hdb hnd hncd hs hs1 hse hpl ht pins s σ H Dn I ?_
 unfold jkb at hf
 cases e0 : jdb c x m fo fl δ Ω with
 | none=>rw [e0] at hf; cases hf
 | some pr =>
  obtain ⟨r0,Ω0⟩:=pr
  rw [e0] at hf
  cases r0 with
  | ok d =>
   cases hf
   refine ⟨fun _ _ _ _=>False,jlm hm C.ar R e0 fun v ρ1 S1 H1 R1 l1 v1 r1=>?_,fun _ _ _ _ _ z=>z.elim⟩
   exact k ρ1 S1 _ H1 (R1.set (no hio) r1) l1 (by rw [jb4 (no hio)]; exact v1)
  | error y0 =>
   obtain ⟨q,c',jj,g1,g2,g3,rfl,rfl⟩:=jma hf
   refine ⟨fun a C' od H1=>∃ ρ1 S1,RM ρ₀ S₀ H₀ F X.K X.mg O ρ1 S1 H1 σ δ Ω' ∧ RLe ρ ρ1 ∧ Same (hid H (fob (un F S) σ O)) (hid H1 (fob (un F S1) σ O)) ∧ ρ1 q = some a,jlm hm C.ar R e0 fun i' a C' od ρ1 S1 H1 he R1 l1 v1 hρ hH=>?_,fun a C' od H1 hH ⟨ρ1,S1,R1,l1,v1,hρ⟩=>⟨?_,fun H2 sm=>?_⟩⟩
   ·rw [g1] at he
    cases he
    exact ⟨a,C',rfl,hH,ρ1,S1,R1,l1,v1,hρ⟩
   ·obtain ⟨a',p1,p2,p3⟩:=R1.sto.ats q _ g2
    rw [hρ] at p1; cases p1
    cases p3 with
    | no f C2 w1 w2=>exact ⟨C2,none,w2,Em.ex c' g3 C2 w1 Bc hB⟩
    | yes f j2 C2 dx w1 w2 w3=>exact ⟨C2,some dx,w3,Em.ex c' g3 C2 w1 Bc hB⟩
   ·have R2:=R1.mono (H':=H2) sm
    have hob : ∀ {Hx : Hp},Rep ρ1 X.K Hx (.obj q) (.ref a):=rep_obj.mpr ⟨a,hρ,rfl⟩
    have R3:=((R2.set (i:=j) (d:=.obj q) (v:=.ref a) (no hjo) hob).set (i:=l) (d:=.obj q) (v:=.ref a) (no hlo) hob).unset (no hjo)
    refine k ρ1 S1 _ H2 R3 l1 ?_
    rw [jds (no hjo),jb4 (no hlo),jb4 (no hjo)]
    exact v1.trans (jaq sm)
end
end DL
namespace DL
open PySem PySem.Spec L2
noncomputable def rs1 (Ω : Sto) : D → Option D
 | .obj i=>match Ω[i]? with
  | some (.lst ds)=>some (.lst ds)
  | _=>none
 | d=>some d
noncomputable def rsL (Ω : Sto) : List D → Option (List D)
 | []=>some []
 | d :: ds=>(rs1 Ω d).bind fun x=>(rsL Ω ds).map fun xs=>x :: xs
noncomputable def rsT (Ω : Sto) : D → Option D
 | .tup ds=>(rsL Ω ds).map .tup
 | d=>rs1 Ω d
section
variable {ρ₀ ρ : Rho} {S₀ S F : Addr → Bool} {H₀ H Hw : Hp} {K : PySem.W.Frag} {mg : Str → Option Value} {O : List Nat} {σ : St} {δ : DSt} {Ω : Sto}
theorem RM.rs1 (R : RM ρ₀ S₀ H₀ F K mg O ρ S H σ δ Ω) (hw : Same (hid H (fob (un F S) σ O)) Hw) (hS : ∀ b ys,S b = true → H b = some (.lst ys) → Hw b = some (.lst ys)) {d x : D} {v : V} (h : rs1 Ω d = some x) (r : Rep ρ K (hid H (fob (un F S) σ O)) d v) : Rep ρ K Hw x v:=by
 cases d with
 | obj i =>
  unfold DL.rs1 at h
  dsimp only at h
  split at h
  ·rename_i ds hi
   cases h
   obtain ⟨ad,q1,q2⟩:=rep_obj.mp r
   obtain ⟨ad',p1,p2,xs,p3,p4⟩:=R.sto.ats i _ hi
   rw [q1] at p1; cases p1
   exact rep_lst.mpr ⟨ad,xs,q2,SqL.of (hS _ _ p2 p3),p4.mono hw⟩
  ·cases h
 | _=>cases h; exact r.mono hw
theorem RM.rsL (R : RM ρ₀ S₀ H₀ F K mg O ρ S H σ δ Ω) (hw : Same (hid H (fob (un F S) σ O)) Hw) (hS : ∀ b ys,S b = true → H b = some (.lst ys) → Hw b = some (.lst ys)) : ∀ {ds xs : List D} {vs : List V},rsL Ω ds = some xs → Reps ρ K (hid H (fob (un F S) σ O)) ds vs → Reps ρ K Hw xs vs
 | [],xs,vs,h,r=>by
  cases h
  rw [reps_nil.mp r]; exact Reps.nil
 | d :: ds,xs,vs,h,r=>by
  unfold DL.rsL at h
  obtain ⟨x,f1,h⟩:=Option.bind_eq_some_iff.mp h
  obtain ⟨xs',f2,rfl⟩:=Option.map_eq_some_iff.mp h
  obtain ⟨v,r',rfl,q1,q2⟩:=reps_cons.mp r
  exact Reps.cons (R.rs1 hw hS f1 q1) (R.rsL hw hS f2 q2)
theorem RM.rsT (R : RM ρ₀ S₀ H₀ F K mg O ρ S H σ δ Ω) (hw : Same (hid H (fob (un F S) σ O)) Hw) (hS : ∀ b ys,S b = true → H b = some (.lst ys) → Hw b = some (.lst ys)) {d x : D} {v : V} (h : rsT Ω d = some x) (r : Rep ρ K (hid H (fob (un F S) σ O)) d v) : Rep ρ K Hw x v:=by
 cases d with
 | tup ds =>
  unfold DL.rsT at h
  obtain ⟨xs,f,rfl⟩:=Option.map_eq_some_iff.mp h
  obtain ⟨a,ys,rfl,q1,q2⟩:=rep_tup.mp r
  exact rep_tup.mpr ⟨a,ys,rfl,jc9 hw q1,R.rsL hw hS f q2⟩
 | _=>unfold DL.rsT at h; exact R.rs1 hw hS h r
end
noncomputable def neR (x y : D) : MS D:=fun Ω=>match rsT Ω x,rsT Ω y with
 | some x',some y'=>if (okD x' && okD y' && decide (depD x' ≤ 20)) = true then some (.ok (.bl !(eqB x' y')),Ω) else none
 | _,_=>none
inductive NeRI (x y : D) (Ω Ω' : Sto) (r : Except XD D) : Prop
 | mk (x' y' : D) (h1 : rsT Ω x = some x') (h2 : rsT Ω y = some y') (h3 : (okD x' && okD y' && decide (depD x' ≤ 20)) = true) (h4 : r = .ok (.bl !(eqB x' y'))) (h5 : Ω' = Ω)
theorem js3 {x y : D} {Ω Ω' : Sto} {r : Except XD D} (h : neR x y Ω = some (r,Ω')) : NeRI x y Ω Ω' r:=by
 unfold neR at h
 split at h
 ·rename_i x' y' h1 h2
  split at h
  ·rename_i h3
   cases h
   exact ⟨x',y',h1,h2,h3,rfl,rfl⟩
  ·cases h
 ·cases h
noncomputable def mNeR (fa fb : DSt → MS D) : DSt → MS D:=fun δ=>(fa δ).b fun x=>(fb δ).b fun y=>neR x y
noncomputable def ju8 : D → Bool
 | .tup ds=>ds.all jok
 | d=>jok d
theorem jj0 {ρ : Rho} {K : PySem.W.Frag} {H H' : Hp} : ∀ {ds : List D} {vs : List V},ds.all jok = true → Reps ρ K H ds vs → Reps ρ K H' ds vs
 | [],vs,_,r=>by rw [reps_nil.mp r]; exact Reps.nil
 | d :: ds,vs,h,r=>by
  rw [List.all_cons,Bool.and_eq_true] at h
  obtain ⟨v,r',rfl,q1,q2⟩:=reps_cons.mp r
  exact Reps.cons (jl1 h.1 q1) (jj0 h.2 q2)
noncomputable def jpq : Option HO → Bool
 | some (.lst _)=>true
 | _=>false
noncomputable def unl (F S : Addr → Bool) (H : Hp) : Addr → Bool:=fun b=>un F S b && !jpq (H b)
theorem jt7 {F S : Addr → Bool} {H : Hp} {b : Addr} (h : unl F S H b = true) : un F S b = true:=by
 unfold unl at h
 rw [Bool.and_eq_true] at h
 exact h.1
theorem jwu {H H' : Hp} {q : Addr} {xs : List V} (h : Rd H q (.tup xs)) (k : ∀ o,(∀ ys,o ≠ .lst ys) → H q = some o → H' q = some o) : Rd H' q (.tup xs):=by
 rcases h with h | ⟨o,h⟩
 ·exact .inl (k _ (fun _ z=>nomatch z) h)
 ·exact .inr ⟨o,k _ (fun _ z=>nomatch z) h⟩
noncomputable def jjf (i : Nat) (f : DSt → M D) : DSt → MS D:=fun δ Ω=>match (δ[i]?).join with
 | some d=>match rsT Ω d with
  | some d'=>MS.l ((f (δ.set i (some d'))).b fun x=>if ju8 x = true then M.p x else none) Ω
  | none=>none
 | none=>none
section
variable {X : Cx} {O B : List Nat} {a b c e o tg : Expr} {es : List Expr} {fa fb fo fv : DSt → MS D} {fl : DSt → MS (List D)} {pos : Pos}
theorem jv1 {σ : St} {H : Hp} {Q : VK} (h : tE X.K X.mg O (mNeR fa fb) σ H Q) : tOp (rEqD X.K true) (tE X.K X.mg O fa) (tE X.K X.mg O fb) σ H Q:=by
 obtain ⟨ρ₀,S₀,H₀,F,ρ,S,δ,Ω,R,r,Ω',hf,k⟩:=h
 rcases MS.b_inv hf with ⟨x,Ω1,e1,hf⟩ | ⟨x,e1,rfl⟩
 ·refine ⟨ρ₀,S₀,H₀,F,ρ,S,δ,Ω,R,.ok x,Ω1,e1,fun u ρ1 S1 H1 R1 l1 v1 r1=>?_⟩
  rcases MS.b_inv hf with ⟨y,Ω2,e2,hf⟩ | ⟨y,e2,rfl⟩
  ·refine ⟨ρ₀,S₀,H₀,F,ρ1,S1,δ,Ω1,R1,.ok y,Ω2,e2,fun w ρ2 S2 H2 R2 l2 v2 r2=>?_⟩
   obtain ⟨x',y',f1,f2,hh,rfl,rfl⟩:=js3 hf
   rw [Bool.and_eq_true,Bool.and_eq_true,decide_eq_true_eq] at hh
   exact ⟨ρ2,x',y',hh.1.1,hh.1.2,hh.2,R2.rsT jam (fun _ _ _ z=>z) f1 ((r1.rho l2).mono v2),R2.rsT jam (fun _ _ _ z=>z) f2 r2,k _ ρ2 S2 H2 R2 (l1.trans l2) (v1.trans v2) (rep_bl.mpr rfl)⟩
  ·exact ⟨ρ₀,S₀,H₀,F,ρ1,S1,δ,Ω1,R1,.error y,_,e2,trivial⟩
 ·exact ⟨ρ₀,S₀,H₀,F,ρ,S,δ,Ω,R,.error x,_,e1,trivial⟩
theorem jvy (ho : OpR X (compareOp .NotEq) (rEqD X.K true)) (ha : ME X O a fa) (hb : ME X O b fb) (hm : behindInMarks .NotEq b = false) : MT X O (.Compare a [.NotEq] [b] pos) (mB (mNeR fa fb)):=by
 rintro pins s σ H Q I ⟨ρ₀,S₀,H₀,F,ρ,S,δ,Ω,R,rr,Ω',hf,k⟩
 refine jku ho ha hb hm pins s σ H Q I (jv1 ?_)
 rcases MS.b_inv hf with ⟨x,Ω1,e1,hf⟩ | ⟨x,e1,rfl⟩
 ·cases x with
  | bl kk=>cases hf; exact ⟨ρ₀,S₀,H₀,F,ρ,S,δ,Ω,R,.ok (.bl kk),_,e1,fun v ρ' S' H' R' l sm rv=>⟨kk,rep_bl.mp rv,k ρ' S' H' R' l sm⟩⟩
  | _=>cases hf
 ·exact ⟨ρ₀,S₀,H₀,F,ρ,S,δ,Ω,R,.error x,Ω',e1,k⟩
theorem jp0 {i : Nat} {f : DSt → M D} (ho : O.contains i = false) (h : DE X O E0 e f) : ME X O e (jjf i f):=by
 rintro pins s σ H Q I ⟨ρ₀,S₀,H₀,F,ρ,S,δ,Ω,R,r,Ω',hf,k⟩
 have ho' : i ∉ O:=fun z=>by rw [List.contains_iff_mem.mpr z] at ho; cases ho
 unfold jjf at hf
 split at hf
 ·rename_i d hn
  split at hf
  ·rename_i d' hds
   have hδ : δ[i]? = some (some d):=by
    cases z : δ[i]? with
    | none=>rw [z] at hn; cases hn
    | some y=>rw [z] at hn; exact congrArg some hn
   have le : Same (hid H (fob (un F S) σ O)) (hid H (fob (unl F S H) σ O)):=jeb fun b q=>by
    rcases fob_t.mp q with z | z
    ·exact fob_t.mpr (.inl (jt7 z))
    ·exact fob_t.mpr (.inr z)
   have hS : ∀ b ys,S b = true → H b = some (.lst ys) → hid H (fob (unl F S H) σ O) b = some (.lst ys):=fun b ys hb q=>hid_some.mpr ⟨by
    cases z : fob (unl F S H) σ O b with
    | false=>rfl
    | true =>
     rcases fob_t.mp z with z | z
     ·unfold unl at z
      rw [q] at z
      simp [jpq] at z
     ·exact absurd z (R.base_S hb),q⟩
   have hil : i < δ.length:=(List.getElem?_eq_some_iff.mp hδ).1
   obtain ⟨v,s1,rv⟩:=R.rs.val i _ hδ ho'
   have rs : RS ρ X.K (hid H (fob nof σ O)) H (unl F S H) O σ (δ.set i (some d')):=by
    refine ⟨by rw [List.length_set]; exact R.rs.len,jam,fun b z=>R.rs.fin b (jt7 z),fun j d2 hd hj=>?_,fun j hj=>?_,R.rs.nd⟩
    ·by_cases ej : j = i
     ·subst ej
      rw [List.getElem?_set_self hil] at hd
      cases hd
      exact ⟨v,s1,R.rsT le hS hds rv⟩
     ·rw [List.getElem?_set_ne (Ne.symm ej)] at hd
      obtain ⟨v,t1,t2⟩:=R.rs.val j d2 hd hj
      exact ⟨v,t1,t2.mono le⟩
    ·obtain ⟨a,ys,es,t1,t2,t3,t4,t5⟩:=R.rs.own j hj
     exact ⟨a,ys,es,by rw [List.getElem?_set_ne (by rintro rfl; exact ho' hj)]; exact t1,t2,t3,⟨t4.1,by cases z : unl F S H a with | false=>rfl | true=>rw [jt7 z] at t4; exact absurd t4.2 (by decide)⟩,t5.mono le⟩
   obtain ⟨hg,rfl⟩:=MS.l_inv hf
   rcases M.b_inv hg with ⟨x,e1,hg⟩ | ⟨x,e1,rfl⟩
   ·split at hg
    ·rename_i hs
     cases hg
     refine h pins s σ H Q I ⟨ρ,_,unl F S H,_,.ok x,rs,e1,fun v H' s' rv=>k v ρ S H' (R.mono s') (RLe.refl _) (jaq s') ?_⟩
     cases x with
     | tup ds =>
      obtain ⟨q,xs,rfl,q2,q3⟩:=rep_tup.mp rv
      refine rep_tup.mpr ⟨q,xs,rfl,?_,jj0 hs q3⟩
      refine q2.imp (fun z=>?_) id
      refine jwu z fun o hn h1=>?_
      obtain ⟨z1,z2⟩:=hid_some.mp h1
      refine hid_some.mpr ⟨?_,z2⟩
      cases w : fob (un F S) σ O q with
      | false=>rfl
      | true =>
       rcases fob_t.mp w with w | w
       ·cases w2 : jpq (H q) with
        | false=>rw [fob_t.mpr (.inl (show unl F S H q = true by unfold unl; rw [w,w2]; rfl))] at z1; cases z1
        | true =>
         unfold jpq at w2
         split at w2
         ·rename_i ys w3
          rw [s' _ _ w3] at z2
          cases z2
          exact absurd rfl (hn _)
         ·cases w2
       ·rw [fob_t.mpr (.inr w)] at z1; cases z1
     | _=>exact jl1 hs rv
    ·cases hg
   ·exact h pins s σ H Q I ⟨ρ,_,unl F S H,_,.error x,rs,e1,fun c dx H' _ z=>z.elim⟩
  ·cases hf
 ·cases hf
noncomputable def jnl (xs : List D) : MS D:=fun Ω=>match xs with
 | [d]=>match rs1 Ω d with
  | some (.lst ds)=>some (.ok (.lst ds),Ω)
  | _=>none
 | _=>none
theorem jid {p : Pos} (hG : Gl X "list") (hm : X.mg "list" = none) (hl : MA X O [a] fl) (he : autoParam (starEach [a] X.env = (false,eval a X.env) :: starEach [] X.env) zau2._auto_1) (hpl : autoParam ((backTo pos (starEach [] X.env)).any (·.1) = false) zau2._auto_1) :
  ME X O (.Call (.Name "list" p) [a] [] pos) (fun δ=>(fl δ).b jnl):=by
 rintro pins s σ H Q I ⟨ρ₀,S₀,H₀,F,ρ,S,δ,Ω,R,r,Ω',hf,k⟩
 refine jg2 jf6 hG hm jmy hl (by decide) (by decide) he hpl pins s σ H Q I ?_
 rcases MS.b_inv hf with ⟨xs,Ω1,e1,hf⟩ | ⟨x,e1,rfl⟩
 ·refine ⟨ρ₀,S₀,H₀,F,ρ,S,δ,Ω,R,.ok xs,Ω1,e1,fun us ρ1 S1 H1 R1 l1 v1 r1=>?_⟩
  unfold jnl at hf
  split at hf
  ·rename_i d
   split at hf
   ·rename_i ds hn
    cases hf
    obtain ⟨v,rfl,q⟩:=jil r1
    have view : ∃ ad ys,v = .ref ad ∧ SqL X.K H1 ad ys ∧ Reps ρ1 X.K (hid H1 (fob (un F S1) σ O)) ds ys:=by
     cases d with
     | obj n =>
      unfold DL.rs1 at hn
      dsimp only at hn
      split at hn
      ·rename_i ds' hi
       cases hn
       obtain ⟨ad,q1,q2⟩:=rep_obj.mp q
       obtain ⟨ad',p1,p2,ys,p3,p4⟩:=R1.sto.ats n _ hi
       rw [q1] at p1; cases p1
       exact ⟨ad,ys,q2,SqL.of p3,p4⟩
      ·cases hn
     | lst ds' =>
      cases hn
      obtain ⟨ad,ys,rfl,q2,q3⟩:=rep_lst.mp q
      exact ⟨ad,ys,rfl,jcu jam q2,q3⟩
     | _=>cases hn
    obtain ⟨ad,ys,rfl,p3,p4⟩:=view
    refine ⟨ad,ys,rfl,.inl p3,fun l hl'=>?_⟩
    exact k _ ρ1 S1 _ (R1.mono (jaz hl')) l1 (v1.trans (jaq (jaz hl'))) (jd8 hl' (R1.fresh hl') p4)
   ·cases hf
  ·cases hf
 ·exact ⟨ρ₀,S₀,H₀,F,ρ,S,δ,Ω,R,.error x,_,e1,trivial⟩
noncomputable def jjc (xs : List D) : MS D:=fun Ω=>match xs with
 | [.lst ds]=>some (.ok (.obj Ω.length),Ω ++ [.lst ds])
 | _=>none
theorem jic {p : Pos} (hG : Gl X "list") (hm : X.mg "list" = none) (hl : MA X O [a] fl) (he : autoParam (starEach [a] X.env = (false,eval a X.env) :: starEach [] X.env) zau2._auto_1) (hpl : autoParam ((backTo pos (starEach [] X.env)).any (·.1) = false) zau2._auto_1) :
  ME X O (.Call (.Name "list" p) [a] [] pos) (fun δ=>(fl δ).b jjc):=by
 rintro pins s σ H Q I ⟨ρ₀,S₀,H₀,F,ρ,S,δ,Ω,R,r,Ω',hf,k⟩
 refine jg2 jf6 hG hm jmy hl (by decide) (by decide) he hpl pins s σ H Q I ?_
 rcases MS.b_inv hf with ⟨xs,Ω1,e1,hf⟩ | ⟨x,e1,rfl⟩
 ·refine ⟨ρ₀,S₀,H₀,F,ρ,S,δ,Ω,R,.ok xs,Ω1,e1,fun us ρ1 S1 H1 R1 l1 v1 r1=>?_⟩
  unfold jjc at hf
  split at hf
  ·rename_i ds
   cases hf
   obtain ⟨v,rfl,q⟩:=jil r1
   obtain ⟨ad,ys,rfl,q2,q3⟩:=rep_lst.mp q
   refine ⟨ad,ys,rfl,.inl (jcu jam q2),fun l hl'=>?_⟩
   obtain ⟨t1,t2,t3⟩:=R1.newL hl' q3
   exact k _ _ _ _ t1 (l1.trans t2) (v1.trans t3) (rep_obj.mpr ⟨l,by unfold addR; rw [if_pos rfl],rfl⟩)
  ·cases hf
 ·exact ⟨ρ₀,S₀,H₀,F,ρ,S,δ,Ω,R,.error x,_,e1,trivial⟩
noncomputable def jsp (fo : DSt → MS D) : DSt → MS D:=fun δ=>(fo δ).b fun x=>putL (fun _=>some []) x
theorem jst {p2 p3 : Pos} (ho : ME X O o fo) (hbase : autoParam (attributeBase o "clear" X.env (eval o X.env) = eval o X.env) zau2._auto_1) (hline : autoParam ((p2.endLine == p3.line) = true) zau2._auto_1) :
  ME X O (.Call (.Attribute o "clear" p2) [] [] p3) (jsp fo):=by
 rintro pins s σ H Q I ⟨ρ₀,S₀,H₀,F,ρ,S,δ,Ω,R,r,Ω',hf,k⟩
 refine jwc PySem.F.plainAttrs_list PySem.F.slot_list_clear PySem.F.type_list_clear jp4 ho hbase hline pins s σ H Q I ?_
 rcases MS.b_inv hf with ⟨x,Ω1,e1,hf⟩ | ⟨x,e1,rfl⟩
 ·refine ⟨ρ₀,S₀,H₀,F,ρ,S,δ,Ω,R,.ok x,Ω1,e1,fun u ρ1 S1 H1 R1 l1 v1 r1=>?_⟩
  obtain ⟨i,ds,es',rfl,hi,hg,rfl,rfl⟩:=jlw hf
  cases hg
  obtain ⟨ad,q1,q2⟩:=rep_obj.mp r1
  obtain ⟨ad',p1,p2,xs,p3,p4⟩:=R1.sto.ats i _ hi
  rw [q1] at p1; cases p1
  subst q2
  refine ⟨.inl ⟨rfl,xs,SqL.of p3⟩,ad,xs,rfl,rfl,p3,?_⟩
  obtain ⟨w1,w2⟩:=R1.putL hi q1 p2 p3 (ds':=[]) (xs':=[]) Reps.nil
  exact k _ ρ1 S1 _ w1 l1 (by rw [w2]; exact v1) (rep_non.mpr rfl)
 ·exact ⟨ρ₀,S₀,H₀,F,ρ,S,δ,Ω,R,.error x,_,e1,trivial⟩
noncomputable def eAsg (h : D → DSt → Option DSt) (f : DSt → MS D) : DSt → MS Out:=fun δ=>(f δ).b fun d=>match h d δ with
 | some δ'=>MS.p (.nx δ')
 | none=>fun _=>none
theorem jvu {h : D → DSt → Option DSt} (he : ME X O e fa) (hg : DG X O tg h) (hs : autoParam (swapsWithSole [tg] e pos.line X.env = pure false) zau2._auto_1) (hw : autoParam (swappedStores [tg] e X.env = pure none) zau2._auto_1)
  (h1 : autoParam ((assignEach [tg] X.env).map (·.2) = [assign tg X.env]) zau2._auto_1) : MSt X O O B (.Assign [tg] e pos) (eAsg h fa):=by
 rintro pins s σ H Dn I ⟨ρ₀,S₀,H₀,F,ρ,S,δ,Ω,R,r,Ω',hf,k⟩
 refine jrg he hg hs hw h1 pins s σ H Dn I ?_
 rcases MS.b_inv hf with ⟨d,Ω1,e1,hf⟩ | ⟨y,e1,rfl⟩
 ·refine ⟨ρ₀,S₀,H₀,F,ρ,S,δ,Ω,R,.ok d,Ω1,e1,fun v ρ1 S1 H1 R1 l1 v1 r1=>?_⟩
  cases e2 : h d δ with
  | none=>rw [e2] at hf; cases hf
  | some δ' =>
   rw [e2] at hf
   cases hf
   refine ⟨ρ1,_,un F S1,δ,d,δ',R1.rs,r1,e2,fun σ' ef R'=>?_⟩
   exact k ρ1 S1 σ' H1 (R1.next R' (by rw [ef]; exact Same.refl _)) l1 (by rw [ef]; exact v1)
 ·exact ⟨ρ₀,S₀,H₀,F,ρ,S,δ,Ω,R,.error y,_,e1,trivial⟩
end
end DL
namespace MyLaw
open PySem PySem.Spec L2 DL
noncomputable def top (i : Nat) : Stmt:=PySem.Challenge.pw_apartbook_k71_the_plain_book.main.body.getD i (.Pass ⟨0,0,0,0⟩)
noncomputable abbrev jcp : Stmt:=top 8
noncomputable abbrev jbr : Stmt:=top 9
noncomputable abbrev jba : Stmt:=jh7 (top 13) 0
noncomputable abbrev jcq : Stmt:=top 16
noncomputable abbrev jbi : Stmt:=top 15
noncomputable abbrev jcc : Stmt:=top 17
noncomputable abbrev jby : Stmt:=top 18
noncomputable abbrev jbl : Stmt:=top 19
noncomputable abbrev jbx : Stmt:=top 20
noncomputable abbrev jca : Stmt:=top 21
noncomputable abbrev jbg : Stmt:=jh7 (top 13) 2
noncomputable abbrev jbj : Stmt:=top 23
noncomputable abbrev jbh : Stmt:=top 11
noncomputable abbrev ja5 : Stmt:=jh7 (top 2) 0
noncomputable abbrev jb1 : Stmt:=top 5
noncomputable abbrev jev : Stmt:=top 10
noncomputable abbrev ja6 : Stmt:=top 7
noncomputable abbrev jb9 : Stmt:=jh7 (top 13) 1
noncomputable abbrev jcb : Stmt:=top 24
noncomputable abbrev jbq : Stmt:=top 22
noncomputable abbrev jbk : Stmt:=top 25
noncomputable abbrev jjw : Stmt:=top 26
noncomputable abbrev xcs : List Str:=["Broken","ShortShare"]
noncomputable abbrev xfs : List Str:=["name","lack"]
structure Txt (K : PySem.W.Frag) (mg : Str → Option Value) : Prop where
 c_Plain : ClsAt K mg "Plain" ["book","numbers"]
 errs : ErrT K mg xcs xfs "BookError"
 errm : ErrM K mg xcs "BookError"
 f_copy_of : jc2 K mg "copy_of" jcp ["book"]
 f_starts_of : jc2 K mg "starts_of" jbr ["book"]
 f_Plain_init__ : IniAt K mg "Plain" "Plain.__init__" jba ["self","book"]
 f_law_mix : jc2 K mg "_law_mix" jcq ["_law_cell","_law_k"]
 f_law_cell_at : jc2 K mg "_law_cell_at" jbi ["_law_script","_law_k"]
 f_law_name : jc2 K mg "_law_name" jcc ["_law_script","_law_k"]
 f_law_items : jc2 K mg "_law_items" jby ["_law_script"]
 f_law_rules : jc2 K mg "_law_rules" jbl ["_law_script","_law_items_here"]
 f_law_deeds : jc2 K mg "_law_deeds" jbx ["_law_script","_law_items_here"]
 f_law_book : jc2 K mg "_law_book" jca ["_law_script"]
 f_Plain_state : MetAt K mg "Plain" "state" "Plain.state" jbg ["self"]
 f_law_starts : jc2 K mg "_law_starts" jbj ["_law_book_here"]
 f_changed_by : jc2 K mg "changed_by" jbh ["book","state","deed","n"]
 f_Broken_init__ : IniXAt K mg "Broken" "Broken.__init__" ja5 ["self","name"]
 f_value_of : jc2 K mg "value_of" jb1 ["form","values"]
 f_spare : jc2 K mg "spare" jev ["book","rule","state"]
 f_refuse_broken : jc2 K mg "refuse_broken" ja6 ["book","state"]
 f_Plain_do : MetAt K mg "Plain" "do" "Plain.do" jb9 ["self","deed","n"]
 f_law_done : jc2 K mg "_law_done" jcb ["_law_plain","_law_deed","_law_n"]
 f_law_spare : jc2 K mg "_law_spare" jbq ["_law_book_here","_law_rule","_law_state"]
 f_law_right : jc2 K mg "_law_right" jbk ["_law_book_here","_law_plain","_law_state","_law_deed","_law_n"]
 f_law : jc2 K mg "law" jjw ["_law_script"]
 b_ValueError : mg "ValueError" = none
 b_enumerate : mg "enumerate" = none
 b_isinstance : mg "isinstance" = none
 b_len : mg "len" = none
 b_list : mg "list" = none
 b_range : mg "range" = none
 b_sum : mg "sum" = none
 b_tuple : mg "tuple" = none
 b_zip : mg "zip" = none
section
variable {P : Program} {w : World} {K : PySem.W.Frag} {mg : Str → Option Value} {base : Heap}
theorem jmp : FnScope ["book"] ["book"] (jaa jcp):=⟨rfl,rfl,rfl,by decide +kernel,rfl,by decide +kernel,by decide +kernel⟩
noncomputable def ji7 : DSt → MS Out:=(eRet (mL jc4 (jc7 (fun δ=>MS.b ((lF (jad (f2 gIx (fVar 0) (fC (.int 0))) fNil)) δ) jnl) (jc7 (fun δ=>MS.b ((lF (jad (f2 gIx (fVar 0) (fC (.int 1))) fNil)) δ) jnl) (jc7 (fun δ=>MS.b ((lF (jad (f2 gIx (fVar 0) (fC (.int 2))) fNil)) δ) jnl) (lF fNil))))))
noncomputable def jdt : List D → MS D:=mirE 1 1 ji7
theorem jiu (T : Txt K mg) (f : Addr) (cdv : Value) (A : Around) (outer : List Env) (s : Shared) (H : Hp) (E : XK) (hr : Room 1 (A.deeper (PyProof.Rows.envOfC "copy_of" (jaa jcp) s.heap.objs.size f cdv))) :
  MSs (cxOf CX0 P w K mg base ["book"] "copy_of" (jaa jcp) f cdv A outer s H E).nox [] [] [] (jah jcp) ji7 :=
 (jcs (jji (jq8 (jdk (jid rfl T.b_list (jbu (jab (ja3 jao jap (jac 0) jae) jag))) (jdk (jid rfl T.b_list (jbu (jab (ja3 jao jap (jac 0) jae) jag))) (jdk (jid rfl T.b_list (jbu (jab (ja3 jao jap (jac 0) jae) jag))) (jbu jag)))))))
theorem jmk (T : Txt K mg) : CalE P w K mg base 2 "copy_of" 1 jdt:=jka T.f_copy_of jmp (jiu T)
theorem jjz : FnScope ["book"] ["book"] (jaa jbr):=⟨rfl,rfl,rfl,by decide +kernel,rfl,by decide +kernel,by decide +kernel⟩
noncomputable def jeg : DSt → M D:=(f2 gIx (fVar 0) (fC (.int 1)))
noncomputable def jfa : DSt → M Out:=(gRet (fL kTuple (jad (jel 1 [] (jpn (f2 gIx (fVar 0) (fC (.int 0)))) (DL.gName 0) tYes jeg) fNil)))
noncomputable def jci : List D → M D:=mir 1 1 jfa
theorem jhc (T : Txt K mg) (f : Addr) (cdv : Value) (A : Around) (outer : List Env) (s : Shared) (H : Hp) (E : XK) (hr : Room 1 (A.deeper (PyProof.Rows.envOfC "starts_of" (jaa jbr) s.heap.objs.size f cdv))) :
  DSs (cxOf CX0 P w K mg base ["book"] "starts_of" (jaa jbr) f cdv A outer s H E).nox [] [] [] E (jah jbr) jfa :=
 (jbd (jcd (jdq jbz jdm rfl T.b_tuple jdv (jab (je4 (own:=["item"]) (caps:=[]) rfl (jdy (N:=["book"]) (osc:=jaa jbr) rfl rfl rfl (by decide +kernel)) (jqz (ja3 jao jap (jac 0) jae)) (fun _ _ _ _=>(jek (i:=0) (show (["item"] : List Str).Nodup from by decide +kernel))) (fun _ _ _ _=>jei) (fun _ _ _ _=>(ja3 jao jap (jac 0) jae))) jag))))
theorem jjr (T : Txt K mg) : Cal P w K mg base 2 "starts_of" 1 jci:=jdn T.f_starts_of jjz (jhc T)
theorem jg3 : FnScope ["self","book"] ["self","book"] (jaa jba):=⟨rfl,rfl,rfl,by decide +kernel,rfl,by decide +kernel,by decide +kernel⟩
noncomputable def jck : DSt → MS Out:=(eSeq (ePut ["Plain"] "book" (lF (fVar 0)) (jf1 jdt (lF (jad (fVar 1) fNil))))
  (ePut ["Plain"] "numbers" (lF (fVar 0)) (jjf 1 (jbb jci (jad (fVar 1) fNil)))))
noncomputable def ja9 : List D → MS D:=mirE 2 2 jck
theorem jfx (T : Txt K mg) (f : Addr) (cdv : Value) (A : Around) (outer : List Env) (s : Shared) (H : Hp) (E : XK) (hr : Room 2 (A.deeper (PyProof.Rows.envOfC "Plain.__init__" (jaa jba) s.heap.objs.size f cdv))) :
  MSs (cxOf CX0 P w K mg base ["self","book"] "Plain.__init__" (jaa jba) f cdv A outer s H E).nox [] [] [] (jah jba) jck :=
 (ja1 (jnz (T.c_Plain.is (by decide +kernel)) (jau (jac 0)) (jkl (jmk T) (hr.mono (by decide)) (jbu (jab (jac 1) jag))))
  (jcs (jnz (T.c_Plain.is (by decide +kernel)) (jau (jac 0)) (jp0 (i:=1) rfl (jav (jjr T) (hr.mono (by decide)) (jab (jac 1) jag))))))
theorem jer (T : Txt K mg) : IniE P w K mg base 3 "Plain" 2 ja9:=jsg T.f_Plain_init__ jg3 (jfx T)
theorem sc_law_mix : FnScope ["_law_cell","_law_k","_law_number"] ["_law_cell","_law_k"] (jaa jcq):=⟨rfl,rfl,rfl,by decide +kernel,rfl,by decide +kernel,by decide +kernel⟩
noncomputable def jgr : DSt → M Out:=(gSeq (gSet 2 (f2 gMod (f2 jcw (f2 gCat (f2 gCat (f2 gMod (fVar 0) (fC (.int 1000003))) (f2 jcw (f2 jcw (fVar 1) (fVar 1)) (fC (.int 7919)))) (fVar 1)) (fC (.int 48271))) (fC (.int 2147483629))))
  (gRet (f2 je5 (f2 gMod (f2 jcw (fVar 2) (fVar 2)) (fC (.int 2147483587))) (fC (.int 7)))))
noncomputable def ja8 : List D → M D:=mir 2 3 jgr
theorem jiv (T : Txt K mg) (f : Addr) (cdv : Value) (A : Around) (outer : List Env) (s : Shared) (H : Hp) (E : XK) (hr : Room 1 (A.deeper (PyProof.Rows.envOfC "_law_mix" (jaa jcq) s.heap.objs.size f cdv))) :
  DSs (cxOf CX0 P w K mg base ["_law_cell","_law_k","_law_number"] "_law_mix" (jaa jcq) f cdv A outer s H E).nox [] [] [] E (jah jcq) jgr :=
 (jaw (jcm (i:=2) sc_law_mix.nd (jas jcf jbp (jas jct jb3 (jas jax jay (jas jax jay (jas jcf jbp (jac 0) jae) (jas jct jb3 (jas jct jb3 (jac 1) (jac 1)) jae)) (jac 1)) jae) jae))
  (jbd (jcd (jas jd6 jd7 (jas jcf jbp (jas jct jb3 (jac 2) (jac 2)) jae) jae))))
theorem jbs (T : Txt K mg) : Cal P w K mg base 2 "_law_mix" 2 ja8:=jdn T.f_law_mix sc_law_mix (jiv T)
theorem jhi : FnScope ["_law_script","_law_k"] ["_law_script","_law_k"] (jaa jbi):=⟨rfl,rfl,rfl,by decide +kernel,rfl,by decide +kernel,by decide +kernel⟩
noncomputable def jd0 : DSt → M Out:=(gSeq (gIf (t2 gLt (fVar 1) (fL kLen (jad (fVar 0) fNil))) (gRet (f2 gIx (fVar 0) (fVar 1))) gNx)
  (gRet (fC (.int 0))))
noncomputable def jar : List D → M D:=mir 2 2 jd0
theorem jga (T : Txt K mg) (f : Addr) (cdv : Value) (A : Around) (outer : List Env) (s : Shared) (H : Hp) (E : XK) (hr : Room 1 (A.deeper (PyProof.Rows.envOfC "_law_cell_at" (jaa jbi) s.heap.objs.size f cdv))) :
  DSs (cxOf CX0 P w K mg base ["_law_script","_law_k"] "_law_cell_at" (jaa jbi) f cdv A outer s H E).nox [] [] [] E (jah jbi) jd0 :=
 (jaw (jpc (jgo jn6 jig (jac 1) (jcv jeh jgk rfl T.b_len jiw (jab (jac 0) jag)) (jc8 _)) (jbd (jcd (ja3 jao jap (jac 0) (jac 1)))) jia)
  (jbd (jcd jae)))
theorem ja2 (T : Txt K mg) : Cal P w K mg base 2 "_law_cell_at" 2 jar:=jdn T.f_law_cell_at jhi (jga T)
theorem sc_law_name : FnScope ["_law_script","_law_k","_law_drawn"] ["_law_script","_law_k"] (jaa jcc):=⟨rfl,rfl,rfl,by decide +kernel,rfl,by decide +kernel,by decide +kernel⟩
noncomputable def jfz : DSt → M Out:=(gSeq (gSet 2 (jbb ja8 (jad (jbb jar (jad (fVar 0) (jad (fC (.int 4)) fNil))) (jad (f2 gCat (fC (.int 200)) (fVar 1)) fNil))))
  (gRet (f2 gCat (f2 jcw (f2 gIx (fC (.str "abcdefghijklmnop")) (fVar 1)) (f2 gCat (fC (.int 1)) (f2 gMod (fVar 2) (fC (.int 9))))) (f2 gIx (fC (.str "xyz")) (f2 gMod (f2 je5 (fVar 2) (fC (.int 9))) (fC (.int 3)))))))
noncomputable def jb8 : List D → M D:=mir 2 3 jfz
theorem jh1 (T : Txt K mg) (f : Addr) (cdv : Value) (A : Around) (outer : List Env) (s : Shared) (H : Hp) (E : XK) (hr : Room 2 (A.deeper (PyProof.Rows.envOfC "_law_name" (jaa jcc) s.heap.objs.size f cdv))) :
  DSs (cxOf CX0 P w K mg base ["_law_script","_law_k","_law_drawn"] "_law_name" (jaa jcc) f cdv A outer s H E).nox [] [] [] E (jah jcc) jfz :=
 (jaw (jcm (i:=2) sc_law_name.nd (jav (jbs T) (hr.mono (by decide)) (jab (jav (ja2 T) (hr.mono (by decide)) (jab (jac 0) (jab jae jag))) (jab (jas jax jay jae (jac 1)) jag))))
  (jbd (jcd (jas jax jay (jas jct jb3 (ja3 jao jap jlb (jac 1)) (jas jax jay jae (jas jcf jbp (jac 2) jae))) (ja3 jao jap jlb (jas jcf jbp (jas jd6 jd7 (jac 2) jae) jae))))))
theorem jff (T : Txt K mg) : Cal P w K mg base 3 "_law_name" 2 jb8:=jdn T.f_law_name sc_law_name (jh1 T)
theorem sc_law_items : FnScope ["_law_script","_law_items_here","_law_k","_law_drawn","_law_start"] ["_law_script"] (jaa jby):=⟨rfl,rfl,rfl,by decide +kernel,rfl,by decide +kernel,by decide +kernel⟩
noncomputable def jec : DSt → M Out:=(gSeq (gSet 3 (jbb ja8 (jad (jbb jar (jad (fVar 0) (jad (fC (.int 1)) fNil))) (jad (f2 gCat (fC (.int 10)) (fVar 2)) fNil))))
  (gSeq (gSet 4 (f2 gSub (f2 gMod (fVar 3) (fC (.int 41))) (fC (.int 10))))
  (gSeq (gIf (t2 gEq (f2 gMod (f2 je5 (fVar 3) (fC (.int 41))) (fC (.int 8))) (fC (.int 1))) (gSet 4 (f2 gCat (fVar 4) (f2 gPow (fC (.int 10)) (fC (.int 25))))) gNx)
  (gApp 1 (fL jc4 (jad (jbb jb8 (jad (fVar 0) (jad (fVar 2) fNil))) (jad (fVar 4) fNil)))))))
noncomputable def je7 : DSt → M Out:=(gSeq (gSet 1 (fL jb0 fNil))
  (gSeq (gFor (jc6 jbv (jad (f2 gCat (fC (.int 1)) (f2 gMod (jbb ja8 (jad (jbb jar (jad (fVar 0) (jad (fC (.int 0)) fNil))) (jad (fC (.int 1)) fNil))) (fC (.int 3)))) fNil)) (DL.gName 2) jec)
  (gRet (fVar 1))))
noncomputable def jd3 : List D → M D:=mir 1 5 je7
theorem jg8 (T : Txt K mg) (f : Addr) (cdv : Value) (A : Around) (outer : List Env) (s : Shared) (H : Hp) (E : XK) (hr : Room 3 (A.deeper (PyProof.Rows.envOfC "_law_items" (jaa jby) s.heap.objs.size f cdv))) :
  DSs (cxOf CX0 P w K mg base ["_law_script","_law_items_here","_law_k","_law_drawn","_law_start"] "_law_items" (jaa jby) f cdv A outer s H E).nox [] [] [] E (jah jby) je7 :=
 (jaw (ji2 (i:=1) sc_law_items.nd jag)
  (jaw (ji1 PassesOwn.never rfl (jew rfl T.b_range (jab (jas jax jay jae (jas jcf jbp (jav (jbs T) (hr.mono (by decide)) (jab (jav (ja2 T) (hr.mono (by decide)) (jab (jac 0) (jab jae jag))) (jab jae jag))) jae)) jag)) (jek (i:=2) sc_law_items.nd) (jaw (jcm (i:=3) sc_law_items.nd (jav (jbs T) (hr.mono (by decide)) (jab (jav (ja2 T) (hr.mono (by decide)) (jab (jac 0) (jab jae jag))) (jab (jas jax jay jae (jac 2)) jag))))
  (jaw (jcm (i:=4) sc_law_items.nd (jas jlp jih (jas jcf jbp (jac 3) jae) jae))
  (jaw (jpc (jgo (jg0 (hu30 hr)) jg1 (jas jcf jbp (jas jd6 jd7 (jac 3) jae) jae) jae (jc8 _)) (jbd (jcm (i:=4) sc_law_items.nd (jas jax jay (jac 4) (jas jv7 jtc jae jae)))) jia)
  (jbd (ji0 (i:=1) rfl (jfj (jab (jav (jff T) (hr.mono (by decide)) (jab (jac 0) (jab (jac 2) jag))) (jab (jac 4) jag)))))))))
  (jgn (O':=[]) (by decide) (jbd (jcd (jac 1))))))
theorem jjn (T : Txt K mg) : Cal P w K mg base 4 "_law_items" 1 jd3:=jdn T.f_law_items sc_law_items (jg8 T)
theorem sc_law_rules : FnScope ["_law_script","_law_items_here","_law_rules_here","_law_k","_law_numbers","_law_place","_law_drawn","_law_rest"] ["_law_script","_law_items_here"] (jaa jbl):=⟨rfl,rfl,rfl,by decide +kernel,rfl,by decide +kernel,by decide +kernel⟩
noncomputable def jdd : DSt → M Out:=(gApp 4 (f2 gIx (fL jb0 (jad (fC (.int 0)) (jad (fC (.int 1)) (jad (fC (.int 1)) (jad (f1 gNeg (fC (.int 1))) (jad (fC (.int 2)) (jad (fC (.int 0)) (jad (fC (.int 1)) (jad (f1 gNeg (fC (.int 2))) fNil))))))))) (f2 gMod (jbb ja8 (jad (jbb jar (jad (fVar 0) (jad (fC (.int 2)) fNil))) (jad (f2 gCat (f2 gCat (fC (.int 20)) (f2 jcw (fC (.int 5)) (fVar 3))) (fVar 5)) fNil))) (fC (.int 8)))))
noncomputable def jdg : DSt → M D:=(f2 gCat (fVar 0) (fVar 1))
noncomputable def jdh : DSt → M D:=(f2 jcw (fVar 0) (f2 gIx (fVar 1) (fC (.int 1))))
noncomputable def jee : DSt → M Out:=(gSeq (gSet 4 (fL jb0 fNil))
  (gSeq (gFor (jc6 jbv (jad (fL kLen (jad (fVar 1) fNil)) fNil)) (DL.gName 5) jdd)
  (gSeq (gSet 6 (jbb ja8 (jad (jbb jar (jad (fVar 0) (jad (fC (.int 3)) fNil))) (jad (f2 gCat (fC (.int 50)) (fVar 3)) fNil))))
  (gSeq (gIf (DL.tAnd (t2 gGt (fVar 3) (fC (.int 1))) (t2 gEq (f2 gMod (fVar 6) (fC (.int 3))) (fC (.int 1)))) (gSet 4 (jel 2 [] (jc6 jb6 (jad (f2 gIx (f2 gIx (fVar 2) (fC (.int 0))) (fC (.int 1))) (jad (f2 gIx (f2 gIx (fVar 2) (fC (.int 1))) (fC (.int 1))) fNil))) (jcn 0 1) tYes jdg)) gNx)
  (gSeq (gSet 7 (f2 gSub (f2 gMod (f2 je5 (fVar 6) (fC (.int 3))) (fC (.int 30))) (fL kSum (jad (jel 2 [] (jc6 jb6 (jad (fVar 4) (jad (fVar 1) fNil))) (jcn 0 1) tYes jdh) fNil))))
  (gApp 2 (fL jc4 (jad (jbb jb8 (jad (fVar 0) (jad (f2 gCat (fC (.int 4)) (fVar 3)) fNil))) (jad (fL kTuple (jad (fVar 4) fNil)) (jad (fVar 7) fNil))))))))))
noncomputable def je8 : DSt → M Out:=(gSeq (gSet 2 (fL jb0 fNil))
  (gSeq (gFor (jc6 jbv (jad (f2 gCat (fC (.int 1)) (f2 gMod (jbb ja8 (jad (jbb jar (jad (fVar 0) (jad (fC (.int 0)) fNil))) (jad (fC (.int 2)) fNil))) (fC (.int 4)))) fNil)) (DL.gName 3) jee)
  (gRet (fVar 2))))
noncomputable def jd5 : List D → M D:=mir 2 8 je8
theorem jha (T : Txt K mg) (f : Addr) (cdv : Value) (A : Around) (outer : List Env) (s : Shared) (H : Hp) (E : XK) (hr : Room 3 (A.deeper (PyProof.Rows.envOfC "_law_rules" (jaa jbl) s.heap.objs.size f cdv))) :
  DSs (cxOf CX0 P w K mg base ["_law_script","_law_items_here","_law_rules_here","_law_k","_law_numbers","_law_place","_law_drawn","_law_rest"] "_law_rules" (jaa jbl) f cdv A outer s H E).nox [] [] [] E (jah jbl) je8 :=
 (jaw (ji2 (i:=2) sc_law_rules.nd jag)
  (jaw (ji1 PassesOwn.never rfl (jew rfl T.b_range (jab (jas jax jay jae (jas jcf jbp (jav (jbs T) (hr.mono (by decide)) (jab (jav (ja2 T) (hr.mono (by decide)) (jab (jac 0) (jab jae jag))) (jab jae jag))) jae)) jag)) (jek (i:=3) sc_law_rules.nd) (jaw (ji2 (i:=4) sc_law_rules.nd jag)
  (jaw (ji1 PassesOwn.never rfl (jew rfl T.b_range (jab (jcv jeh jgk rfl T.b_len jiw (jab (jac 1) jag)) jag)) (jek (i:=5) sc_law_rules.nd) (jbd (ji0 (i:=4) rfl (ja3 jao jap (jk9 (jab jae (jab jae (jab jae (jab (jm7 jj6 jg5 jae) (jab jae (jab jae (jab jae (jab (jm7 jj6 jg5 jae) jag))))))))) (jas jcf jbp (jav (jbs T) (hr.mono (by decide)) (jab (jav (ja2 T) (hr.mono (by decide)) (jab (jac 0) (jab jae jag))) (jab (jas jax jay (jas jax jay jae (jas jct jb3 jae (jac 3))) (jac 5)) jag))) jae)))))
  (jaw (jcm (i:=6) sc_law_rules.nd (jav (jbs T) (hr.mono (by decide)) (jab (jav (ja2 T) (hr.mono (by decide)) (jab (jac 0) (jab jae jag))) (jab (jas jax jay jae (jac 3)) jag))))
  (jaw (jpc (DW.dt (jut (jgo jv6 jig (jac 3) jae (jc8 _)) (jr4 (jgo (jg0 (hu30 hr)) jg1 (jas jcf jbp (jac 6) jae) jae (jc8 _))))) (jgn (O':=[2]) (by decide) (jbd (jm9 (i:=4) sc_law_rules.nd (own:=["_law_one","_law_other"]) (caps:=[]) rfl (jdy (N:=["_law_script","_law_items_here","_law_rules_here","_law_k","_law_numbers","_law_place","_law_drawn","_law_rest"]) (osc:=jaa jbl) rfl rfl rfl (by decide +kernel)) (jhl rfl T.b_zip (jab (ja3 jao jap (jqy 2 rfl jae) jae) (jab (ja3 jao jap (jqy 2 rfl jae) jae) jag))) (fun _ _ _ _=>(jdj (i:=0) (j:=1) rfl (show (["_law_one","_law_other"] : List Str).Nodup from by decide +kernel))) (fun _ _ _ _=>jei) (fun _ _ _ _=>(jas jax jay (jac 0) (jac 1)))))) (jpd (O':=[2]) (by decide) jia))
  (jaw (jcm (i:=7) sc_law_rules.nd (jas jlp jih (jas jcf jbp (jas jd6 jd7 (jac 6) jae) jae) (jcv (jgl rfl) jj9 rfl T.b_sum jmz (jab (je4 (own:=["_law_number","_law_item"]) (caps:=[]) rfl (jdy (N:=["_law_script","_law_items_here","_law_rules_here","_law_k","_law_numbers","_law_place","_law_drawn","_law_rest"]) (osc:=jaa jbl) rfl rfl rfl (by decide +kernel)) (jhl rfl T.b_zip (jab (jac 4) (jab (jac 1) jag))) (fun _ _ _ _=>(jdj (i:=0) (j:=1) rfl (show (["_law_number","_law_item"] : List Str).Nodup from by decide +kernel))) (fun _ _ _ _=>jei) (fun _ _ _ _=>(jas jct jb3 (jac 0) (ja3 jao jap (jac 1) jae)))) jag))))
  (jbd (ji0 (i:=2) rfl (jfj (jab (jav (jff T) (hr.mono (by decide)) (jab (jac 0) (jab (jas jax jay jae (jac 3)) jag))) (jab (jdq jbz jdm rfl T.b_tuple jdv (jab (jac 4) jag)) (jab (jac 7) jag))))))))))))
  (jgn (O':=[]) (by decide) (jbd (jcd (jac 2))))))
theorem jjp (T : Txt K mg) : Cal P w K mg base 4 "_law_rules" 2 jd5:=jdn T.f_law_rules sc_law_rules (jha T)
theorem sc_law_deeds : FnScope ["_law_script","_law_items_here","_law_deeds_here","_law_k","_law_drawn","_law_low","_law_changes","_law_place","_law_some"] ["_law_script","_law_items_here"] (jaa jbx):=⟨rfl,rfl,rfl,by decide +kernel,rfl,by decide +kernel,by decide +kernel⟩
noncomputable def jdc : DSt → M Out:=(gSeq (gSet 8 (jbb ja8 (jad (jbb jar (jad (fVar 0) (jad (fC (.int 5)) fNil))) (jad (f2 gCat (f2 gCat (fC (.int 90)) (f2 jcw (fC (.int 5)) (fVar 3))) (fVar 7)) fNil))))
  (gApp 6 (fL jc4 (jad (f2 gIx (fL jb0 (jad (fC (.int 0)) (jad (fC (.int 1)) (jad (f1 gNeg (fC (.int 1))) (jad (f1 gNeg (fC (.int 1))) (jad (fC (.int 2)) (jad (fC (.int 0)) fNil))))))) (f2 gMod (fVar 8) (fC (.int 6)))) (jad (f2 gIx (fL jb0 (jad (fC (.int 0)) (jad (fC (.int 0)) (jad (fC (.int 1)) (jad (f1 gNeg (fC (.int 1))) fNil))))) (f2 gMod (f2 je5 (fVar 8) (fC (.int 6))) (fC (.int 4)))) fNil)))))
noncomputable def jed : DSt → M Out:=(gSeq (gSet 4 (jbb ja8 (jad (jbb jar (jad (fVar 0) (jad (fC (.int 5)) fNil))) (jad (f2 gCat (fC (.int 70)) (fVar 3)) fNil))))
  (gSeq (gSet 5 (f2 gSub (f2 gMod (fVar 4) (fC (.int 4))) (fC (.int 1))))
  (gSeq (gSet 6 (fL jb0 fNil))
  (gSeq (gFor (jc6 jbv (jad (fL kLen (jad (fVar 1) fNil)) fNil)) (DL.gName 7) jdc)
  (gApp 2 (fL jc4 (jad (jbb jb8 (jad (fVar 0) (jad (f2 gCat (fC (.int 9)) (fVar 3)) fNil))) (jad (fVar 5) (jad (f2 gCat (fVar 5) (f2 gMod (f2 je5 (fVar 4) (fC (.int 4))) (fC (.int 6)))) (jad (fL kTuple (jad (fVar 6) fNil)) fNil))))))))))
noncomputable def je6 : DSt → M Out:=(gSeq (gSet 2 (fL jb0 fNil))
  (gSeq (gFor (jc6 jbv (jad (f2 gCat (fC (.int 1)) (f2 gMod (jbb ja8 (jad (jbb jar (jad (fVar 0) (jad (fC (.int 0)) fNil))) (jad (fC (.int 3)) fNil))) (fC (.int 4)))) fNil)) (DL.gName 3) jed)
  (gRet (fVar 2))))
noncomputable def jd2 : List D → M D:=mir 2 9 je6
theorem jg7 (T : Txt K mg) (f : Addr) (cdv : Value) (A : Around) (outer : List Env) (s : Shared) (H : Hp) (E : XK) (hr : Room 3 (A.deeper (PyProof.Rows.envOfC "_law_deeds" (jaa jbx) s.heap.objs.size f cdv))) :
  DSs (cxOf CX0 P w K mg base ["_law_script","_law_items_here","_law_deeds_here","_law_k","_law_drawn","_law_low","_law_changes","_law_place","_law_some"] "_law_deeds" (jaa jbx) f cdv A outer s H E).nox [] [] [] E (jah jbx) je6 :=
 (jaw (ji2 (i:=2) sc_law_deeds.nd jag)
  (jaw (ji1 PassesOwn.never rfl (jew rfl T.b_range (jab (jas jax jay jae (jas jcf jbp (jav (jbs T) (hr.mono (by decide)) (jab (jav (ja2 T) (hr.mono (by decide)) (jab (jac 0) (jab jae jag))) (jab jae jag))) jae)) jag)) (jek (i:=3) sc_law_deeds.nd) (jaw (jcm (i:=4) sc_law_deeds.nd (jav (jbs T) (hr.mono (by decide)) (jab (jav (ja2 T) (hr.mono (by decide)) (jab (jac 0) (jab jae jag))) (jab (jas jax jay jae (jac 3)) jag))))
  (jaw (jcm (i:=5) sc_law_deeds.nd (jas jlp jih (jas jcf jbp (jac 4) jae) jae))
  (jaw (ji2 (i:=6) sc_law_deeds.nd jag)
  (jaw (ji1 PassesOwn.never rfl (jew rfl T.b_range (jab (jcv jeh jgk rfl T.b_len jiw (jab (jac 1) jag)) jag)) (jek (i:=7) sc_law_deeds.nd) (jaw (jcm (i:=8) sc_law_deeds.nd (jav (jbs T) (hr.mono (by decide)) (jab (jav (ja2 T) (hr.mono (by decide)) (jab (jac 0) (jab jae jag))) (jab (jas jax jay (jas jax jay jae (jas jct jb3 jae (jac 3))) (jac 7)) jag))))
  (jbd (ji0 (i:=6) rfl (jfj (jab (ja3 jao jap (jk9 (jab jae (jab jae (jab (jm7 jj6 jg5 jae) (jab (jm7 jj6 jg5 jae) (jab jae (jab jae jag))))))) (jas jcf jbp (jac 8) jae)) (jab (ja3 jao jap (jk9 (jab jae (jab jae (jab jae (jab (jm7 jj6 jg5 jae) jag))))) (jas jcf jbp (jas jd6 jd7 (jac 8) jae) jae)) jag)))))))
  (jgn (O':=[2]) (by decide) (jbd (ji0 (i:=2) rfl (jfj (jab (jav (jff T) (hr.mono (by decide)) (jab (jac 0) (jab (jas jax jay jae (jac 3)) jag))) (jab (jac 5) (jab (jas jax jay (jac 5) (jas jcf jbp (jas jd6 jd7 (jac 4) jae) jae)) (jab (jdq jbz jdm rfl T.b_tuple jdv (jab (jac 6) jag)) jag)))))))))))))
  (jgn (O':=[]) (by decide) (jbd (jcd (jac 2))))))
theorem jjm (T : Txt K mg) : Cal P w K mg base 4 "_law_deeds" 2 jd2:=jdn T.f_law_deeds sc_law_deeds (jg7 T)
theorem sc_law_book : FnScope ["_law_script","_law_items_here"] ["_law_script"] (jaa jca):=⟨rfl,rfl,rfl,by decide +kernel,rfl,by decide +kernel,by decide +kernel⟩
noncomputable def jfy : DSt → M Out:=(gSeq (gSet 1 (jbb jd3 (jad (fVar 0) fNil)))
  (gRet (fL jc4 (jad (fVar 1) (jad (jbb jd5 (jad (fVar 0) (jad (fVar 1) fNil))) (jad (jbb jd2 (jad (fVar 0) (jad (fVar 1) fNil))) fNil))))))
noncomputable def jcz : List D → M D:=mir 1 2 jfy
theorem jhz (T : Txt K mg) (f : Addr) (cdv : Value) (A : Around) (outer : List Env) (s : Shared) (H : Hp) (E : XK) (hr : Room 4 (A.deeper (PyProof.Rows.envOfC "_law_book" (jaa jca) s.heap.objs.size f cdv))) :
  DSs (cxOf CX0 P w K mg base ["_law_script","_law_items_here"] "_law_book" (jaa jca) f cdv A outer s H E).nox [] [] [] E (jah jca) jfy :=
 (jaw (jcm (i:=1) sc_law_book.nd (jav (jjn T) (hr.mono (by decide)) (jab (jac 0) jag)))
  (jbd (jcd (jfj (jab (jac 1) (jab (jav (jjp T) (hr.mono (by decide)) (jab (jac 0) (jab (jac 1) jag))) (jab (jav (jjm T) (hr.mono (by decide)) (jab (jac 0) (jab (jac 1) jag))) jag)))))))
theorem jkp (T : Txt K mg) : Cal P w K mg base 5 "_law_book" 1 jcz:=jdn T.f_law_book sc_law_book (jhz T)
theorem jhh : FnScope ["self"] ["self"] (jaa jbg):=⟨rfl,rfl,rfl,by decide +kernel,rfl,by decide +kernel,by decide +kernel⟩
noncomputable def jcx : DSt → MS Out:=(eRet (mGet ["Plain"] "numbers" (lF (fVar 0))))
noncomputable def jal : List D → MS D:=mirE 1 1 jcx
theorem jf9 (T : Txt K mg) (f : Addr) (cdv : Value) (A : Around) (outer : List Env) (s : Shared) (H : Hp) (E : XK) (hr : Room 1 (A.deeper (PyProof.Rows.envOfC "Plain.state" (jaa jbg) s.heap.objs.size f cdv))) :
  MSs (cxOf CX0 P w K mg base ["self"] "Plain.state" (jaa jbg) f cdv A outer s H E).nox [] [] [] (jah jbg) jcx :=
 (jcs (jji (jlk (T.c_Plain.is (by decide +kernel)) (jau (jac 0)))))
theorem jb2 (T : Txt K mg) : MetE P w K mg base 2 "Plain" "state" 1 jal:=jsv T.f_Plain_state jhh (jf9 T)
theorem jin : FnScope ["_law_book_here"] ["_law_book_here"] (jaa jbj):=⟨rfl,rfl,rfl,by decide +kernel,rfl,by decide +kernel,by decide +kernel⟩
noncomputable def jdx : DSt → M D:=(f2 gIx (fVar 0) (fC (.int 1)))
noncomputable def jen : DSt → M Out:=(gRet (fL kTuple (jad (jel 1 [] (jpn (f2 gIx (fVar 0) (fC (.int 0)))) (DL.gName 0) tYes jdx) fNil)))
noncomputable def jbf : List D → M D:=mir 1 1 jen
theorem jgj (T : Txt K mg) (f : Addr) (cdv : Value) (A : Around) (outer : List Env) (s : Shared) (H : Hp) (E : XK) (hr : Room 1 (A.deeper (PyProof.Rows.envOfC "_law_starts" (jaa jbj) s.heap.objs.size f cdv))) :
  DSs (cxOf CX0 P w K mg base ["_law_book_here"] "_law_starts" (jaa jbj) f cdv A outer s H E).nox [] [] [] E (jah jbj) jen :=
 (jbd (jcd (jdq jbz jdm rfl T.b_tuple jdv (jab (je4 (own:=["_law_item"]) (caps:=[]) rfl (jdy (N:=["_law_book_here"]) (osc:=jaa jbj) rfl rfl rfl (by decide +kernel)) (jqz (ja3 jao jap (jac 0) jae)) (fun _ _ _ _=>(jek (i:=0) (show (["_law_item"] : List Str).Nodup from by decide +kernel))) (fun _ _ _ _=>jei) (fun _ _ _ _=>(ja3 jao jap (jac 0) jae))) jag))))
theorem jfr (T : Txt K mg) : Cal P w K mg base 2 "_law_starts" 1 jbf:=jdn T.f_law_starts jin (jgj T)
theorem jim : FnScope ["book","state","deed","n"] ["book","state","deed","n"] (jaa jbh):=⟨rfl,rfl,rfl,by decide +kernel,rfl,by decide +kernel,by decide +kernel⟩
noncomputable def jdw : DSt → M D:=(f2 gCat (f2 gCat (fVar 0) (f2 jcw (f2 gIx (fVar 1) (fC (.int 0))) (fVar 2))) (f2 gIx (fVar 1) (fC (.int 1))))
noncomputable def jem : DSt → M Out:=(gRet (fL kTuple (jad (jel 2 [("n",3)] (jc6 jb6 (jad (fVar 1) (jad (f2 gIx (f2 gIx (f2 gIx (fVar 0) (fC (.int 2))) (fVar 2)) (fC (.int 3))) fNil))) (jcn 0 1) tYes jdw) fNil)))
noncomputable def jco : List D → M D:=mir 4 4 jem
theorem jgi (T : Txt K mg) (f : Addr) (cdv : Value) (A : Around) (outer : List Env) (s : Shared) (H : Hp) (E : XK) (hr : Room 1 (A.deeper (PyProof.Rows.envOfC "changed_by" (jaa jbh) s.heap.objs.size f cdv))) :
  DSs (cxOf CX0 P w K mg base ["book","state","deed","n"] "changed_by" (jaa jbh) f cdv A outer s H E).nox [] [] [] E (jah jbh) jem :=
 (jbd (jcd (jdq jbz jdm rfl T.b_tuple jdv (jab (je4 (own:=["number","change"]) (caps:=[("n",3)]) rfl (jdy (N:=["book","state","deed","n"]) (osc:=jaa jbh) rfl rfl rfl (by decide +kernel)) (jhl rfl T.b_zip (jab (jac 1) (jab (ja3 jao jap (ja3 jao jap (ja3 jao jap (jac 0) jae) (jac 2)) jae) jag))) (fun _ _ _ _=>(jdj (i:=0) (j:=1) rfl (show (["number","change","n"] : List Str).Nodup from by decide +kernel))) (fun _ _ _ _=>jei) (fun _ _ _ _=>(jas jax jay (jas jax jay (jac 0) (jas jct jb3 (ja3 jao jap (jac 1) jae) (jac 2))) (ja3 jao jap (jac 1) jae)))) jag))))
theorem jif (T : Txt K mg) : Cal P w K mg base 2 "changed_by" 4 jco:=jdn T.f_changed_by jim (jgi T)
theorem jge : FnScope ["self","name"] ["self","name"] (jaa ja5):=⟨rfl,rfl,rfl,by decide +kernel,rfl,by decide +kernel,by decide +kernel⟩
noncomputable def jce : DSt → MS Out:=(jr5 xcs "name" (lF (fVar 0)) (lF (fVar 1)))
noncomputable def jbm : List D → MS D:=mirE 2 2 jce
theorem jfg (T : Txt K mg) (f : Addr) (cdv : Value) (A : Around) (outer : List Env) (s : Shared) (H : Hp) (E : XK) (hr : Room 1 (A.deeper (PyProof.Rows.envOfC "Broken.__init__" (jaa ja5) s.heap.objs.size f cdv))) :
  MSs (cxOf CX0 P w K mg base ["self","name"] "Broken.__init__" (jaa ja5) f cdv A outer s H E).nox [] [] [] (jah ja5) jce :=
 (jcs (jsy T.errs rfl (jau (jac 0)) (jau (jac 1))))
theorem jgc (T : Txt K mg) : IniXE P w K mg base 2 "Broken" 2 jbm:=jpp T.f_Broken_init__ jge (jfg T) (by decide)
theorem jkx : FnScope ["form","values"] ["form","values"] (jaa jb1):=⟨rfl,rfl,rfl,by decide +kernel,rfl,by decide +kernel,by decide +kernel⟩
noncomputable def je3 : DSt → M D:=(f2 jcw (fVar 0) (fVar 1))
noncomputable def jf0 : DSt → M Out:=(gRet (f2 gCat (fL kSum (jad (jel 2 [] (jc6 jb6 (jad (f2 gIx (fVar 0) (fC (.int 0))) (jad (fVar 1) fNil))) (jcn 0 1) tYes je3) fNil)) (f2 gIx (fVar 0) (fC (.int 1)))))
noncomputable def je0 : List D → M D:=mir 2 2 jf0
theorem jh2 (T : Txt K mg) (f : Addr) (cdv : Value) (A : Around) (outer : List Env) (s : Shared) (H : Hp) (E : XK) (hr : Room 1 (A.deeper (PyProof.Rows.envOfC "value_of" (jaa jb1) s.heap.objs.size f cdv))) :
  DSs (cxOf CX0 P w K mg base ["form","values"] "value_of" (jaa jb1) f cdv A outer s H E).nox [] [] [] E (jah jb1) jf0 :=
 (jbd (jcd (jas jax jay (jcv (jgl rfl) jj9 rfl T.b_sum jmz (jab (je4 (own:=["coefficient","value"]) (caps:=[]) rfl (jdy (N:=["form","values"]) (osc:=jaa jb1) rfl rfl rfl (by decide +kernel)) (jhl rfl T.b_zip (jab (ja3 jao jap (jac 0) jae) (jab (jac 1) jag))) (fun _ _ _ _=>(jdj (i:=0) (j:=1) rfl (show (["coefficient","value"] : List Str).Nodup from by decide +kernel))) (fun _ _ _ _=>jei) (fun _ _ _ _=>(jas jct jb3 (jac 0) (jac 1)))) jag)) (ja3 jao jap (jac 0) jae))))
theorem jkr (T : Txt K mg) : Cal P w K mg base 2 "value_of" 2 je0:=jdn T.f_value_of jkx (jh2 T)
theorem jqj : FnScope ["book","rule","state"] ["book","rule","state"] (jaa jev):=⟨rfl,rfl,rfl,by decide +kernel,rfl,by decide +kernel,by decide +kernel⟩
noncomputable def jke : DSt → M Out:=(gRet (jbb je0 (jad (fL jc4 (jad (f2 gIx (f2 gIx (f2 gIx (fVar 0) (fC (.int 1))) (fVar 1)) (fC (.int 1))) (jad (f2 gIx (f2 gIx (f2 gIx (fVar 0) (fC (.int 1))) (fVar 1)) (fC (.int 2))) fNil))) (jad (fVar 2) fNil))))
noncomputable def jf2 : List D → M D:=mir 3 3 jke
theorem jl9 (T : Txt K mg) (f : Addr) (cdv : Value) (A : Around) (outer : List Env) (s : Shared) (H : Hp) (E : XK) (hr : Room 2 (A.deeper (PyProof.Rows.envOfC "spare" (jaa jev) s.heap.objs.size f cdv))) :
  DSs (cxOf CX0 P w K mg base ["book","rule","state"] "spare" (jaa jev) f cdv A outer s H E).nox [] [] [] E (jah jev) jke :=
 (jbd (jcd (jav (jkr T) (hr.mono (by decide)) (jab (jfj (jab (ja3 jao jap (ja3 jao jap (ja3 jao jap (jac 0) jae) (jac 1)) jae) (jab (ja3 jao jap (ja3 jao jap (ja3 jao jap (jac 0) jae) (jac 1)) jae) jag))) (jab (jac 2) jag)))))
theorem jp9 (T : Txt K mg) : Cal P w K mg base 3 "spare" 3 jf2:=jdn T.f_spare jqj (jl9 T)
theorem sc_refuse_broken : FnScope ["book","state","place","rule"] ["book","state"] (jaa ja6):=⟨rfl,rfl,rfl,by decide +kernel,rfl,by decide +kernel,by decide +kernel⟩
noncomputable def ja0 : DSt → MS Out:=(eIf (lF (t2 gLt (jbb jf2 (jad (fVar 0) (jad (fVar 2) (jad (fVar 1) fNil)))) (fC (.int 0)))) (jlc xcs (jjh "Broken" jbm (lF (jad (f2 gIx (fVar 3) (fC (.int 0))) fNil)))) eNx)
noncomputable def jc5 : DSt → MS Out:=(eFor (lF (jc6 jex (jad (f2 gIx (fVar 0) (fC (.int 1))) fNil))) (jcn 2 3) ja0)
noncomputable def jbt : List D → MS D:=mirE 2 4 jc5
theorem jfh (T : Txt K mg) (f : Addr) (cdv : Value) (A : Around) (outer : List Env) (s : Shared) (H : Hp) (E : XK) (hr : Room 3 (A.deeper (PyProof.Rows.envOfC "refuse_broken" (jaa ja6) s.heap.objs.size f cdv))) :
  MSsr (cxOf (CX1 P w) P w K mg base ["book","state","place","rule"] "refuse_broken" (jaa ja6) f cdv A outer s H E) [] [] [] E (jah ja6) jc5 :=
 (jgg (js0 PassesOwn.leaving rfl (jnx (jm8 rfl T.b_enumerate (jab (ja3 jao jap (jac 0) jae) jag))) (jdj (i:=2) (j:=3) rfl sc_refuse_broken.nd) (jgg (jvw (jn3 (jgo jn6 jig (jav (jp9 T) (hr.mono (by decide)) (jab (jac 0) (jab (jac 2) (jab (jac 1) jag)))) jae (jc8 _))) (jgg (jn1 T.errs rfl jw8 (jp1 (jgc T) (hr.mono (by decide)) (jbu (jab (ja3 jao jap (jac 3) jae) jag))))) (js1 jgx)))))
theorem jgd (T : Txt K mg) : CalR P w K mg base 4 "refuse_broken" 2 jbt:=jry T.f_refuse_broken sc_refuse_broken (jfh T)
theorem sc_Plain_do : FnScope ["self","deed","n","numbers"] ["self","deed","n"] (jaa jb9):=⟨rfl,rfl,rfl,by decide +kernel,rfl,by decide +kernel,by decide +kernel⟩
noncomputable def jch : DSt → MS Out:=(eSeq (eSet 3 (jje jco (jc7 (mGet ["Plain"] "book" (lF (fVar 0))) (jc7 (mGet ["Plain"] "numbers" (lF (fVar 0))) (lF (jad (fVar 1) (jad (fVar 2) fNil)))))))
  (eSeq (jgp (jf1 jbt (jc7 (mGet ["Plain"] "book" (lF (fVar 0))) (lF (jad (fVar 3) fNil)))))
  (ePut ["Plain"] "numbers" (lF (fVar 0)) (lF (fVar 3)))))
noncomputable def jb7 : List D → MS D:=mirE 3 4 jch
theorem jhy (T : Txt K mg) (f : Addr) (cdv : Value) (A : Around) (outer : List Env) (s : Shared) (H : Hp) (E : XK) (hr : Room 4 (A.deeper (PyProof.Rows.envOfC "Plain.do" (jaa jb9) s.heap.objs.size f cdv))) :
  MSsr (cxOf (CX1 P w) P w K mg base ["self","deed","n","numbers"] "Plain.do" (jaa jb9) f cdv A outer s H E) [] [] [] E (jah jb9) jch :=
 (jjk (jq9 (jjj (i:=3) sc_Plain_do.nd (jpz (jif T) (hr.mono (by decide)) (jdk (jlk (T.c_Plain.is (by decide +kernel)) (jau (jac 0))) (jdk (jlk (T.c_Plain.is (by decide +kernel)) (jau (jac 0))) (jbu (jab (jac 1) (jab (jac 2) jag))))))))
  (jjk (jn0 (jgd T) (hr.mono (by decide)) jw8 (jdk (jlk (T.c_Plain.is (by decide +kernel)) (jau (jac 0))) (jbu (jab (jac 3) jag))))
  (jgg (jq9 (jnz (T.c_Plain.is (by decide +kernel)) (jau (jac 0)) (jau (jac 3)))))))
theorem jko (T : Txt K mg) : MetR P w K mg base 5 "Plain" "do" 3 jb7:=jsw T.f_Plain_do sc_Plain_do (jhy T)
theorem sc_law_done : FnScope ["_law_plain","_law_deed","_law_n","_law_told","_law_kept","e"] ["_law_plain","_law_deed","_law_n"] (jaa jcb):=⟨rfl,rfl,rfl,by decide +kernel,rfl,by decide +kernel,by decide +kernel⟩
noncomputable def jey : DSt → MS Out:=(eSeq (lF (gSet 3 (fC (.str "nothing"))))
  (eSeq (lF (gSet 4 (fC .non)))
  (eSeq (jkb "Plain" "do" jb7 xcs 3 5 4 (lF (fVar 0)) (lF (jad (fVar 1) (jad (fVar 2) fNil))))
  (lF (gRet (fL jc4 (jad (fVar 3) (jad (fVar 4) fNil))))))))
noncomputable def jez : List D → MS D:=mirE 3 6 jey
theorem jh0 (T : Txt K mg) (f : Addr) (cdv : Value) (A : Around) (outer : List Env) (s : Shared) (H : Hp) (E : XK) (hr : Room 5 (A.deeper (PyProof.Rows.envOfC "_law_done" (jaa jcb) s.heap.objs.size f cdv))) :
  MSs (cxOf CX0 P w K mg base ["_law_plain","_law_deed","_law_n","_law_told","_law_kept","e"] "_law_done" (jaa jcb) f cdv A outer s H E).nox [] [] [] (jah jcb) jey :=
 (ja1 (jcj (jcm (i:=3) sc_law_done.nd jlb))
  (ja1 (jcj (jcm (i:=4) sc_law_done.nd jm6))
  (ja1 (jsz (i:=3) (j:=5) (l:=4) (jko T) T.errm (hr.mono (by decide)) (fun _=>(jau (jac 0))) (fun _=>(jbu (jab (jac 1) (jab (jac 2) jag)))) rfl rfl sc_law_done.nd rfl rfl rfl (by decide))
  (jcs (jcj (jcd (jfj (jab (jac 3) (jab (jac 4) jag)))))))))
theorem jkq (T : Txt K mg) : CalE P w K mg base 6 "_law_done" 3 jez:=jka T.f_law_done sc_law_done (jh0 T)
theorem jjy : FnScope ["_law_book_here","_law_rule","_law_state"] ["_law_book_here","_law_rule","_law_state"] (jaa jbq):=⟨rfl,rfl,rfl,by decide +kernel,rfl,by decide +kernel,by decide +kernel⟩
noncomputable def jef : DSt → M D:=(f2 jcw (fVar 0) (fVar 1))
noncomputable def je9 : DSt → M Out:=(gRet (f2 gCat (fL kSum (jad (jel 2 [] (jc6 jb6 (jad (f2 gIx (f2 gIx (f2 gIx (fVar 0) (fC (.int 1))) (fVar 1)) (fC (.int 1))) (jad (fVar 2) fNil))) (jcn 0 1) tYes jef) fNil)) (f2 gIx (f2 gIx (f2 gIx (fVar 0) (fC (.int 1))) (fVar 1)) (fC (.int 2)))))
noncomputable def jb5 : List D → M D:=mir 3 3 je9
theorem jhb (T : Txt K mg) (f : Addr) (cdv : Value) (A : Around) (outer : List Env) (s : Shared) (H : Hp) (E : XK) (hr : Room 1 (A.deeper (PyProof.Rows.envOfC "_law_spare" (jaa jbq) s.heap.objs.size f cdv))) :
  DSs (cxOf CX0 P w K mg base ["_law_book_here","_law_rule","_law_state"] "_law_spare" (jaa jbq) f cdv A outer s H E).nox [] [] [] E (jah jbq) je9 :=
 (jbd (jcd (jas jax jay (jcv (jgl rfl) jj9 rfl T.b_sum jmz (jab (je4 (own:=["_law_one","_law_other"]) (caps:=[]) rfl (jdy (N:=["_law_book_here","_law_rule","_law_state"]) (osc:=jaa jbq) rfl rfl rfl (by decide +kernel)) (jhl rfl T.b_zip (jab (ja3 jao jap (ja3 jao jap (ja3 jao jap (jac 0) jae) (jac 1)) jae) (jab (jac 2) jag))) (fun _ _ _ _=>(jdj (i:=0) (j:=1) rfl (show (["_law_one","_law_other"] : List Str).Nodup from by decide +kernel))) (fun _ _ _ _=>jei) (fun _ _ _ _=>(jas jct jb3 (jac 0) (jac 1)))) jag)) (ja3 jao jap (ja3 jao jap (ja3 jao jap (jac 0) jae) (jac 1)) jae))))
theorem jjq (T : Txt K mg) : Cal P w K mg base 2 "_law_spare" 3 jb5:=jdn T.f_law_spare jjy (jhb T)
theorem sc_law_right : FnScope ["_law_book_here","_law_plain","_law_state","_law_deed","_law_n","_law_after","_law_broken","_law_told","_law_kept"] ["_law_book_here","_law_plain","_law_state","_law_deed","_law_n"] (jaa jbk):=⟨rfl,rfl,rfl,by decide +kernel,rfl,by decide +kernel,by decide +kernel⟩
noncomputable def jde : DSt → M D:=(f2 gCat (f2 gCat (fVar 0) (f2 jcw (f2 gIx (fVar 1) (fC (.int 0))) (fVar 2))) (f2 gIx (fVar 1) (fC (.int 1))))
noncomputable def jdf : DSt → M D:=(fVar 0)
noncomputable def jd1 : DSt → MS Out:=(eSeq (lF (gSet 5 (fL kTuple (jad (jel 2 [("_law_n",4)] (jc6 jb6 (jad (fVar 2) (jad (f2 gIx (f2 gIx (f2 gIx (fVar 0) (fC (.int 2))) (fVar 3)) (fC (.int 3))) fNil))) (jcn 0 1) tYes jde) fNil))))
  (eSeq (lF (gSet 6 (jel 1 [("_law_book_here",0),("_law_after",5)] (jc6 jbv (jad (fL kLen (jad (f2 gIx (fVar 0) (fC (.int 1))) fNil)) fNil)) (DL.gName 0) (t2 gLt (jbb jb5 (jad (fVar 1) (jad (fVar 0) (jad (fVar 2) fNil)))) (fC (.int 0))) jdf)))
  (eSeq (eAsg (jcn 7 8) (jf1 jez (lF (jad (fVar 1) (jad (fVar 3) (jad (fVar 4) fNil))))))
  (eSeq (eIf (lF (t2 gEq (fVar 6) (fL jb0 fNil))) (eRet (jhe (lF (f2 gIs (fVar 8) (fC .non))) (jhe (lF (f2 gIs (fVar 7) (fC .non))) (m2 gEq (jdb "Plain" "state" jal (lF (fVar 1)) (lF fNil)) (lF (fVar 5)))))) eNx)
  (eSeq (eIf (mOr (mNot (mTru (mIsX xcs (fun c=>c == "Broken") (lF (fVar 8))))) (mOr (mNot (mTru (mIsX xcs (fun _=>true) (lF (fVar 8))))) (mTru (mIsX xcs (fun c=>c == "ShortShare") (lF (fVar 8)))))) (lF (gRet (fC (.bl false)))) eNx)
  (eRet (jhe (m2 gEq (jno xcs "name" (lF (fVar 8))) (lF (f2 gIx (f2 gIx (f2 gIx (fVar 0) (fC (.int 1))) (f2 gIx (fVar 6) (fC (.int 0)))) (fC (.int 0))))) (m2 gEq (jdb "Plain" "state" jal (lF (fVar 1)) (lF fNil)) (lF (fVar 2))))))))))
noncomputable def jd4 : List D → MS D:=mirE 5 9 jd1
theorem jg9 (T : Txt K mg) (f : Addr) (cdv : Value) (A : Around) (outer : List Env) (s : Shared) (H : Hp) (E : XK) (hr : Room 6 (A.deeper (PyProof.Rows.envOfC "_law_right" (jaa jbk) s.heap.objs.size f cdv))) :
  MSs (cxOf CX0 P w K mg base ["_law_book_here","_law_plain","_law_state","_law_deed","_law_n","_law_after","_law_broken","_law_told","_law_kept"] "_law_right" (jaa jbk) f cdv A outer s H E).nox [] [] [] (jah jbk) jd1 :=
 (ja1 (jcj (jcm (i:=5) sc_law_right.nd (jdq jbz jdm rfl T.b_tuple jdv (jab (je4 (own:=["_law_one","_law_change"]) (caps:=[("_law_n",4)]) rfl (jdy (N:=["_law_book_here","_law_plain","_law_state","_law_deed","_law_n","_law_after","_law_broken","_law_told","_law_kept"]) (osc:=jaa jbk) rfl rfl rfl (by decide +kernel)) (jhl rfl T.b_zip (jab (jac 2) (jab (ja3 jao jap (ja3 jao jap (ja3 jao jap (jac 0) jae) (jac 3)) jae) jag))) (fun _ _ _ _=>(jdj (i:=0) (j:=1) rfl (show (["_law_one","_law_change","_law_n"] : List Str).Nodup from by decide +kernel))) (fun _ _ _ _=>jei) (fun _ _ _ _=>(jas jax jay (jas jax jay (jac 0) (jas jct jb3 (ja3 jao jap (jac 1) jae) (jac 2))) (ja3 jao jap (jac 1) jae)))) jag))))
  (ja1 (jcj (jm9 (i:=6) sc_law_right.nd (own:=["_law_rule"]) (caps:=[("_law_book_here",0),("_law_after",5)]) rfl (jdy (N:=["_law_book_here","_law_plain","_law_state","_law_deed","_law_n","_law_after","_law_broken","_law_told","_law_kept"]) (osc:=jaa jbk) rfl rfl rfl (by decide +kernel)) (jew rfl T.b_range (jab (jcv jeh jgk rfl T.b_len jiw (jab (ja3 jao jap (jac 0) jae) jag)) jag)) (fun _ _ _ _=>(jek (i:=0) (show (["_law_rule","_law_book_here","_law_after"] : List Str).Nodup from by decide +kernel))) (fun _ _ _ _=>(juo (jgo jn6 jig (jav (jjq T) (hr.mono (by decide)) (jab (jac 1) (jab (jac 0) (jab (jac 2) jag)))) jae (jc8 _)))) (fun _ _ _ _=>(jac 0))))
  (ja1 (jvu (jkl (jkq T) (hr.mono (by decide)) (jbu (jab (jac 1) (jab (jac 3) (jab (jac 4) jag))))) (jdj (i:=7) (j:=8) rfl sc_law_right.nd))
  (ja1 (jp3 (jn3 (jgo (jg0 (hu30 hr)) jg1 (jac 6) (jk9 jag) (jc8 _))) (jcs (jji (jnu (jau (jqx jrb jrd (jac 8) jm6 (jc8 _))) (jnu (jau (jqx jrb jrd (jac 7) jm6 (jc8 _))) (jq7 (jlj (jg0 (hu30 hr)) jg1 (jfo (jb2 T) (hr.mono (by decide)) (jau (jac 1))) (jau (jac 5)) (jc8 _))))))) jgx)
  (ja1 (jp3 (MW.mt (js2 (jn2 (jlo (jq6 (d:="Broken") T.errs rfl T.b_isinstance (jau (jac 8))))) (js2 (jn2 (jlo (jvs T.errs T.b_isinstance T.b_ValueError (jau (jac 8))))) (jra (jlo (jq6 (d:="ShortShare") T.errs rfl T.b_isinstance (jau (jac 8)))))))) (jcs (jcj (jcd jpa))) jgx)
  (jcs (jji (jnu (jlj (jg0 (hu30 hr)) jg1 (jsu T.errs rfl (jau (jac 8))) (jau (ja3 jao jap (ja3 jao jap (ja3 jao jap (jac 0) jae) (ja3 jao jap (jac 6) jae)) jae)) (jc8 _)) (jq7 (jlj (jg0 (hu30 hr)) jg1 (jfo (jb2 T) (hr.mono (by decide)) (jau (jac 1))) (jau (jac 2)) (jc8 _)))))))))))
theorem jjo (T : Txt K mg) : CalE P w K mg base 7 "_law_right" 5 jd4:=jka T.f_law_right sc_law_right (jg9 T)
theorem sc_law : FnScope ["_law_script","_law_book_here","_law_handed","_law_plain","_law_beside","_law_at","_law_cell","_law_drawn","_law_deed","_law_low","_law_high","_law_state"] ["_law_script"] (jaa jjw):=⟨rfl,rfl,rfl,by decide +kernel,rfl,by decide +kernel,by decide +kernel⟩
noncomputable def jip : DSt → MS Out:=(eSeq (lF (gSet 7 (jbb ja8 (jad (fVar 6) (jad (f2 gCat (fC (.int 30)) (fVar 5)) fNil)))))
  (eSeq (lF (gSet 8 (f2 gMod (fVar 7) (fL kLen (jad (f2 gIx (fVar 1) (fC (.int 2))) fNil)))))
  (eSeq (lF (gAsg (jcn 9 10) (fSl (f2 gIx (f2 gIx (fVar 1) (fC (.int 2))) (fVar 8)) (jgz (fC (.int 1))) (jgz (fC (.int 3))))))
  (eSeq (eSet 11 (jdb "Plain" "state" jal (lF (fVar 3)) (lF fNil)))
  (eSeq (lF (gIf (DL.tNot (tTru (fL kIsi (jad (fVar 11) (jad (fC (.ty "tuple")) fNil))))) (gRet (fC (.bl false))) gNx))
  (eIf (mNot (mTru (jf1 jd4 (lF (jad (fVar 1) (jad (fVar 3) (jad (fVar 11) (jad (fVar 8) (jad (f2 gCat (fVar 9) (f2 gMod (f2 je5 (fVar 7) (fC (.int 4))) (f2 gCat (f2 gSub (fVar 10) (fVar 9)) (fC (.int 1))))) fNil))))))))) (lF (gRet (fC (.bl false)))) eNx))))))
noncomputable def jpi : DSt → MS Out:=(eSeq (lF (gSet 1 (jbb jcz (jad (fVar 0) fNil))))
  (eSeq (eSet 2 (mL jc4 (jc7 (fun δ=>MS.b ((lF (jad (f2 gIx (fVar 1) (fC (.int 0))) fNil)) δ) jjc) (jc7 (fun δ=>MS.b ((lF (jad (f2 gIx (fVar 1) (fC (.int 1))) fNil)) δ) jjc) (jc7 (fun δ=>MS.b ((lF (jad (f2 gIx (fVar 1) (fC (.int 2))) fNil)) δ) jjc) (lF fNil))))))
  (eSeq (eSet 3 (jjg "Plain" ja9 (jc7 (lF (fVar 2)) (lF fNil))))
  (eSeq (eSet 4 (jjg "Plain" ja9 (lF (jad (fVar 1) fNil))))
  (eSeq (eIf (mOr (mB (mNeR (lF (fVar 2)) (lF (fVar 1)))) (mB (m2 gNe (jdb "Plain" "state" jal (lF (fVar 3)) (lF fNil)) (lF (jbb jbf (jad (fVar 1) fNil)))))) (lF (gRet (fC (.bl false)))) eNx)
  (eSeq (jgp (jsp (m2 gIx (lF (fVar 2)) (lF (fC (.int 1))))))
  (eSeq (jgp (jpw (m2 gIx (lF (fVar 2)) (lF (fC (.int 2)))) (lF (fL jc4 (jad (fC (.str "x")) (jad (fC (.int 0)) (jad (fC (.int 0)) (jad (fL jc4 fNil) fNil))))))))
  (eSeq (eFor (lF (jc6 jex (jad (fSl (fVar 0) (jgz (fC (.int 3))) (jgz (fC (.int 63)))) fNil))) (jcn 5 6) jip)
  (eRet (m2 gEq (jdb "Plain" "state" jal (lF (fVar 4)) (lF fNil)) (lF (jbb jbf (jad (fVar 1) fNil)))))))))))))
noncomputable def jnp : List D → MS D:=mirE 1 12 jpi
theorem jo4 (T : Txt K mg) (f : Addr) (cdv : Value) (A : Around) (outer : List Env) (s : Shared) (H : Hp) (E : XK) (hr : Room 7 (A.deeper (PyProof.Rows.envOfC "law" (jaa jjw) s.heap.objs.size f cdv))) :
  MSs (cxOf CX0 P w K mg base ["_law_script","_law_book_here","_law_handed","_law_plain","_law_beside","_law_at","_law_cell","_law_drawn","_law_deed","_law_low","_law_high","_law_state"] "law" (jaa jjw) f cdv A outer s H E).nox [] [] [] (jah jjw) jpi :=
 (ja1 (jcj (jcm (i:=1) sc_law.nd (jav (jkp T) (hr.mono (by decide)) (jab (jac 0) jag))))
  (ja1 (jjj (i:=2) sc_law.nd (jq8 (jdk (jic rfl T.b_list (jbu (jab (ja3 jao jap (jac 1) jae) jag))) (jdk (jic rfl T.b_list (jbu (jab (ja3 jao jap (jac 1) jae) jag))) (jdk (jic rfl T.b_list (jbu (jab (ja3 jao jap (jac 1) jae) jag))) (jbu jag))))))
  (ja1 (jjj (i:=3) sc_law.nd (jnv (jer T) (hr.mono (by decide)) (jdk (jau (jac 2)) (jbu jag))))
  (ja1 (jjj (i:=4) sc_law.nd (jnv (jer T) (hr.mono (by decide)) (jbu (jab (jac 1) jag))))
  (ja1 (jp3 (MW.mt (js2 (jvy (jrc (hu30 hr)) (jau (jac 2)) (jau (jac 1)) (jc8 _)) (jra (jvx (jrc (hu30 hr)) jv8 (jfo (jb2 T) (hr.mono (by decide)) (jau (jac 3))) (jau (jav (jfr T) (hr.mono (by decide)) (jab (jac 1) jag))) (jc8 _))))) (jcs (jcj (jcd jpa))) jgx)
  (ja1 (jny (jst (jvt jao jap (jau (jac 2)) (jau jae))))
  (ja1 (jny (jss (jvt jao jap (jau (jac 2)) (jau jae)) (jau (jfj (jab jlb (jab jae (jab jae (jab (jfj jag) jag))))))))
  (ja1 (jvv PassesOwn.never rfl (jnx (jm8 rfl T.b_enumerate (jab (jla (jac 0) (jh8 jae) (jh8 jae)) jag))) (jdj (i:=5) (j:=6) rfl sc_law.nd) (ja1 (jcj (jcm (i:=7) sc_law.nd (jav (jbs T) (hr.mono (by decide)) (jab (jac 6) (jab (jas jax jay jae (jac 5)) jag)))))
  (ja1 (jcj (jcm (i:=8) sc_law.nd (jas jcf jbp (jac 7) (jcv jeh jgk rfl T.b_len jiw (jab (ja3 jao jap (jac 1) jae) jag)))))
  (ja1 (jcj (juq (jla (ja3 jao jap (ja3 jao jap (jac 1) jae) (jac 8)) (jh8 jae) (jh8 jae)) (jdj (i:=9) (j:=10) rfl sc_law.nd)))
  (ja1 (jjj (i:=11) sc_law.nd (jfo (jb2 T) (hr.mono (by decide)) (jau (jac 3))))
  (ja1 (jcj (jpc (jur (jus (jcv jm0 jrx rfl T.b_isinstance jfi (jab (jac 11) (jab (jr1 rfl T.b_tuple jdv) jag))))) (jbd (jcd jpa)) jia))
  (jcs (jp3 (jn2 (jlo (jkl (jjo T) (hr.mono (by decide)) (jbu (jab (jac 1) (jab (jac 3) (jab (jac 11) (jab (jac 8) (jab (jas jax jay (jac 9) (jas jcf jbp (jas jd6 jd7 (jac 7) jae) (jas jax jay (jas jlp jih (jac 10) (jac 9)) jae))) jag))))))))) (jcs (jcj (jcd jpa))) jgx))))))))
  (jcs (jji (jlj (jg0 (hu30 hr)) jg1 (jfo (jb2 T) (hr.mono (by decide)) (jau (jac 4))) (jau (jav (jfr T) (hr.mono (by decide)) (jab (jac 1) jag))) (jc8 _))))))))))))
end
theorem jfc {us : List Value} {n : Nat} (h : us.length = n + 1) : ∃ a r,us = a :: r ∧ r.length = n:=by
 cases us with
 | nil=>cases h
 | cons a r=>exact ⟨a,r,rfl,Nat.succ.inj h⟩
theorem jl8 {fd : FuncData} {p0 : Str} (h : ∀ a0 : Value,bindArgs fd ⟨[a0],[]⟩ = pure ([p0].zip [a0])) (us : List Value) (hl : us.length = ([p0] : List Str).length) : bindArgs fd ⟨us,[]⟩ = pure ([p0].zip us):=by
 obtain ⟨a0,r0,rfl,q0⟩:=jfc hl
 cases List.eq_nil_of_length_eq_zero q0
 exact h a0
theorem jhx {fd : FuncData} {p0 p1 : Str} (h : ∀ a0 a1 : Value,bindArgs fd ⟨[a0,a1],[]⟩ = pure ([p0,p1].zip [a0,a1])) (us : List Value) (hl : us.length = ([p0,p1] : List Str).length) : bindArgs fd ⟨us,[]⟩ = pure ([p0,p1].zip us):=by
 obtain ⟨a0,r0,rfl,q0⟩:=jfc hl
 obtain ⟨a1,r1,rfl,q1⟩:=jfc q0
 cases List.eq_nil_of_length_eq_zero q1
 exact h a0 a1
theorem jo2 {fd : FuncData} {p0 p1 p2 : Str} (h : ∀ a0 a1 a2 : Value,bindArgs fd ⟨[a0,a1,a2],[]⟩ = pure ([p0,p1,p2].zip [a0,a1,a2])) (us : List Value) (hl : us.length = ([p0,p1,p2] : List Str).length) : bindArgs fd ⟨us,[]⟩ = pure ([p0,p1,p2].zip us):=by
 obtain ⟨a0,r0,rfl,q0⟩:=jfc hl
 obtain ⟨a1,r1,rfl,q1⟩:=jfc q0
 obtain ⟨a2,r2,rfl,q2⟩:=jfc q1
 cases List.eq_nil_of_length_eq_zero q2
 exact h a0 a1 a2
theorem jxq {fd : FuncData} {p0 p1 p2 p3 : Str} (h : ∀ a0 a1 a2 a3 : Value,bindArgs fd ⟨[a0,a1,a2,a3],[]⟩ = pure ([p0,p1,p2,p3].zip [a0,a1,a2,a3])) (us : List Value) (hl : us.length = ([p0,p1,p2,p3] : List Str).length) : bindArgs fd ⟨us,[]⟩ = pure ([p0,p1,p2,p3].zip us):=by
 obtain ⟨a0,r0,rfl,q0⟩:=jfc hl
 obtain ⟨a1,r1,rfl,q1⟩:=jfc q0
 obtain ⟨a2,r2,rfl,q2⟩:=jfc q1
 obtain ⟨a3,r3,rfl,q3⟩:=jfc q2
 cases List.eq_nil_of_length_eq_zero q3
 exact h a0 a1 a2 a3
theorem jxr {fd : FuncData} {p0 p1 p2 p3 p4 : Str} (h : ∀ a0 a1 a2 a3 a4 : Value,bindArgs fd ⟨[a0,a1,a2,a3,a4],[]⟩ = pure ([p0,p1,p2,p3,p4].zip [a0,a1,a2,a3,a4])) (us : List Value) (hl : us.length = ([p0,p1,p2,p3,p4] : List Str).length) : bindArgs fd ⟨us,[]⟩ = pure ([p0,p1,p2,p3,p4].zip us):=by
 obtain ⟨a0,r0,rfl,q0⟩:=jfc hl
 obtain ⟨a1,r1,rfl,q1⟩:=jfc q0
 obtain ⟨a2,r2,rfl,q2⟩:=jfc q1
 obtain ⟨a3,r3,rfl,q3⟩:=jfc q2
 obtain ⟨a4,r4,rfl,q4⟩:=jfc q3
 cases List.eq_nil_of_length_eq_zero q4
 exact h a0 a1 a2 a3 a4
theorem txt_mk {K : PySem.W.Frag} {h : Heap} {mg : Str → Option Value} (X : K.In h) (G : h.Ns mainGlobals mg)
    {C_Plain : Addr}
    {C_BookError : Addr}
    {C_Broken : Addr}
    {C_ShortShare : Addr}
    {f0 : Addr} {oc0 kV0 dc0 pm0 cd0 ct0 : Value} {od0 an0 : Option Addr} {sl0 : Array (Option Value)}
    {f1 : Addr} {oc1 kV1 dc1 pm1 cd1 ct1 : Value} {od1 an1 : Option Addr} {sl1 : Array (Option Value)}
    {f2 : Addr} {oc2 kV2 dc2 pm2 cd2 ct2 : Value} {od2 an2 : Option Addr} {sl2 : Array (Option Value)}
    {f3 : Addr} {oc3 kV3 dc3 pm3 cd3 ct3 : Value} {od3 an3 : Option Addr} {sl3 : Array (Option Value)}
    {f4 : Addr} {oc4 kV4 dc4 pm4 cd4 ct4 : Value} {od4 an4 : Option Addr} {sl4 : Array (Option Value)}
    {f5 : Addr} {oc5 kV5 dc5 pm5 cd5 ct5 : Value} {od5 an5 : Option Addr} {sl5 : Array (Option Value)}
    {f6 : Addr} {oc6 kV6 dc6 pm6 cd6 ct6 : Value} {od6 an6 : Option Addr} {sl6 : Array (Option Value)}
    {f7 : Addr} {oc7 kV7 dc7 pm7 cd7 ct7 : Value} {od7 an7 : Option Addr} {sl7 : Array (Option Value)}
    {f8 : Addr} {oc8 kV8 dc8 pm8 cd8 ct8 : Value} {od8 an8 : Option Addr} {sl8 : Array (Option Value)}
    {f9 : Addr} {oc9 kV9 dc9 pm9 cd9 ct9 : Value} {od9 an9 : Option Addr} {sl9 : Array (Option Value)}
    {f10 : Addr} {oc10 kV10 dc10 pm10 cd10 ct10 : Value} {od10 an10 : Option Addr} {sl10 : Array (Option Value)}
    {f11 : Addr} {oc11 kV11 dc11 pm11 cd11 ct11 : Value} {od11 an11 : Option Addr} {sl11 : Array (Option Value)}
    {f12 : Addr} {oc12 kV12 dc12 pm12 cd12 ct12 : Value} {od12 an12 : Option Addr} {sl12 : Array (Option Value)}
    {f13 : Addr} {oc13 kV13 dc13 pm13 cd13 ct13 : Value} {od13 an13 : Option Addr} {sl13 : Array (Option Value)}
    {f14 : Addr} {oc14 kV14 dc14 pm14 cd14 ct14 : Value} {od14 an14 : Option Addr} {sl14 : Array (Option Value)}
    {f15 : Addr} {oc15 kV15 dc15 pm15 cd15 ct15 : Value} {od15 an15 : Option Addr} {sl15 : Array (Option Value)}
    {f16 : Addr} {oc16 kV16 dc16 pm16 cd16 ct16 : Value} {od16 an16 : Option Addr} {sl16 : Array (Option Value)}
    {f17 : Addr} {oc17 kV17 dc17 pm17 cd17 ct17 : Value} {od17 an17 : Option Addr} {sl17 : Array (Option Value)}
    {f18 : Addr} {oc18 kV18 dc18 pm18 cd18 ct18 : Value} {od18 an18 : Option Addr} {sl18 : Array (Option Value)}
    {f19 : Addr} {oc19 kV19 dc19 pm19 cd19 ct19 : Value} {od19 an19 : Option Addr} {sl19 : Array (Option Value)}
    {f20 : Addr} {oc20 kV20 dc20 pm20 cd20 ct20 : Value} {od20 an20 : Option Addr} {sl20 : Array (Option Value)}
    {f21 : Addr} {oc21 kV21 dc21 pm21 cd21 ct21 : Value} {od21 an21 : Option Addr} {sl21 : Array (Option Value)}
    (ca_Plain : PySem.W.nsIn K mainGlobals "Plain" = some (some (.ref C_Plain)))
    (cp_Plain : PySem.W.plainGet K C_Plain Str.empty = true)
    (cq_Plain : PySem.W.hasDictIn K C_Plain = true)
    (cr_Plain : PySem.W.plainOver K C_Plain = true)
    (cs_Plain : PySem.W.findIn K (.ref C_Plain) "__setattr__" = some (some (.builtin "object.__setattr__")))
    (cf0_Plain : PySem.W.findIn K (.ref C_Plain) "book" = some none)
    (cf1_Plain : PySem.W.findIn K (.ref C_Plain) "numbers" = some none)
    (ca_BookError : PySem.W.nsIn K mainGlobals "BookError" = some (some (.ref C_BookError)))
    (ca_Broken : PySem.W.nsIn K mainGlobals "Broken" = some (some (.ref C_Broken)))
    (ca_ShortShare : PySem.W.nsIn K mainGlobals "ShortShare" = some (some (.ref C_ShortShare)))
    (tab : xTab K [("Broken",C_Broken),("ShortShare",C_ShortShare)] C_BookError xfs = true)
    (tab2 : jw9 K [("Broken",C_Broken),("ShortShare",C_ShortShare)] C_BookError = true)
    (a0 : PySem.W.nsIn K mainGlobals "copy_of" = some (some (.ref f0)))
    (l0 : K.lookup f0 = some ⟨oc0,od0,.func (PySem.W.fnOf "copy_of" "copy_of" (jat jcp) (jah jcp) (jaa jcp) .none kV0 dc0 pm0 an0 cd0 ct0),sl0⟩)
    (c0 : PySem.W.codeIn K cd0 "copy_of" = true)
    (k0 : PySem.W.keepIn K (.ref f0) = true)
    (a1 : PySem.W.nsIn K mainGlobals "starts_of" = some (some (.ref f1)))
    (l1 : K.lookup f1 = some ⟨oc1,od1,.func (PySem.W.fnOf "starts_of" "starts_of" (jat jbr) (jah jbr) (jaa jbr) .none kV1 dc1 pm1 an1 cd1 ct1),sl1⟩)
    (c1 : PySem.W.codeIn K cd1 "starts_of" = true)
    (k1 : PySem.W.keepIn K (.ref f1) = true)
    (a2 : PySem.W.findIn K (.ref C_Plain) "__init__" = some (some (.ref f2)))
    (b2 : PySem.W.isFn K (.ref f2) = true)
    (i2 : PySem.W.makesIn K C_Plain = true)
    (j2 : PySem.W.keepIn K (.ref C_Plain) = true)
    (l2 : K.lookup f2 = some ⟨oc2,od2,.func (PySem.W.fnOf "__init__" "Plain.__init__" (jat jba) (jah jba) (jaa jba) .none kV2 dc2 pm2 an2 cd2 ct2),sl2⟩)
    (c2 : PySem.W.codeIn K cd2 "Plain.__init__" = true)
    (k2 : PySem.W.keepIn K (.ref f2) = true)
    (a3 : PySem.W.nsIn K mainGlobals "_law_mix" = some (some (.ref f3)))
    (l3 : K.lookup f3 = some ⟨oc3,od3,.func (PySem.W.fnOf "_law_mix" "_law_mix" (jat jcq) (jah jcq) (jaa jcq) .none kV3 dc3 pm3 an3 cd3 ct3),sl3⟩)
    (c3 : PySem.W.codeIn K cd3 "_law_mix" = true)
    (k3 : PySem.W.keepIn K (.ref f3) = true)
    (a4 : PySem.W.nsIn K mainGlobals "_law_cell_at" = some (some (.ref f4)))
    (l4 : K.lookup f4 = some ⟨oc4,od4,.func (PySem.W.fnOf "_law_cell_at" "_law_cell_at" (jat jbi) (jah jbi) (jaa jbi) .none kV4 dc4 pm4 an4 cd4 ct4),sl4⟩)
    (c4 : PySem.W.codeIn K cd4 "_law_cell_at" = true)
    (k4 : PySem.W.keepIn K (.ref f4) = true)
    (a5 : PySem.W.nsIn K mainGlobals "_law_name" = some (some (.ref f5)))
    (l5 : K.lookup f5 = some ⟨oc5,od5,.func (PySem.W.fnOf "_law_name" "_law_name" (jat jcc) (jah jcc) (jaa jcc) .none kV5 dc5 pm5 an5 cd5 ct5),sl5⟩)
    (c5 : PySem.W.codeIn K cd5 "_law_name" = true)
    (k5 : PySem.W.keepIn K (.ref f5) = true)
    (a6 : PySem.W.nsIn K mainGlobals "_law_items" = some (some (.ref f6)))
    (l6 : K.lookup f6 = some ⟨oc6,od6,.func (PySem.W.fnOf "_law_items" "_law_items" (jat jby) (jah jby) (jaa jby) .none kV6 dc6 pm6 an6 cd6 ct6),sl6⟩)
    (c6 : PySem.W.codeIn K cd6 "_law_items" = true)
    (k6 : PySem.W.keepIn K (.ref f6) = true)
    (a7 : PySem.W.nsIn K mainGlobals "_law_rules" = some (some (.ref f7)))
    (l7 : K.lookup f7 = some ⟨oc7,od7,.func (PySem.W.fnOf "_law_rules" "_law_rules" (jat jbl) (jah jbl) (jaa jbl) .none kV7 dc7 pm7 an7 cd7 ct7),sl7⟩)
    (c7 : PySem.W.codeIn K cd7 "_law_rules" = true)
    (k7 : PySem.W.keepIn K (.ref f7) = true)
    (a8 : PySem.W.nsIn K mainGlobals "_law_deeds" = some (some (.ref f8)))
    (l8 : K.lookup f8 = some ⟨oc8,od8,.func (PySem.W.fnOf "_law_deeds" "_law_deeds" (jat jbx) (jah jbx) (jaa jbx) .none kV8 dc8 pm8 an8 cd8 ct8),sl8⟩)
    (c8 : PySem.W.codeIn K cd8 "_law_deeds" = true)
    (k8 : PySem.W.keepIn K (.ref f8) = true)
    (a9 : PySem.W.nsIn K mainGlobals "_law_book" = some (some (.ref f9)))
    (l9 : K.lookup f9 = some ⟨oc9,od9,.func (PySem.W.fnOf "_law_book" "_law_book" (jat jca) (jah jca) (jaa jca) .none kV9 dc9 pm9 an9 cd9 ct9),sl9⟩)
    (c9 : PySem.W.codeIn K cd9 "_law_book" = true)
    (k9 : PySem.W.keepIn K (.ref f9) = true)
    (a10 : PySem.W.findIn K (.ref C_Plain) "state" = some (some (.ref f10)))
    (b10 : PySem.W.isFn K (.ref f10) = true)
    (l10 : K.lookup f10 = some ⟨oc10,od10,.func (PySem.W.fnOf "state" "Plain.state" (jat jbg) (jah jbg) (jaa jbg) .none kV10 dc10 pm10 an10 cd10 ct10),sl10⟩)
    (c10 : PySem.W.codeIn K cd10 "Plain.state" = true)
    (k10 : PySem.W.keepIn K (.ref f10) = true)
    (a11 : PySem.W.nsIn K mainGlobals "_law_starts" = some (some (.ref f11)))
    (l11 : K.lookup f11 = some ⟨oc11,od11,.func (PySem.W.fnOf "_law_starts" "_law_starts" (jat jbj) (jah jbj) (jaa jbj) .none kV11 dc11 pm11 an11 cd11 ct11),sl11⟩)
    (c11 : PySem.W.codeIn K cd11 "_law_starts" = true)
    (k11 : PySem.W.keepIn K (.ref f11) = true)
    (a12 : PySem.W.nsIn K mainGlobals "changed_by" = some (some (.ref f12)))
    (l12 : K.lookup f12 = some ⟨oc12,od12,.func (PySem.W.fnOf "changed_by" "changed_by" (jat jbh) (jah jbh) (jaa jbh) .none kV12 dc12 pm12 an12 cd12 ct12),sl12⟩)
    (c12 : PySem.W.codeIn K cd12 "changed_by" = true)
    (k12 : PySem.W.keepIn K (.ref f12) = true)
    (a13 : PySem.W.findIn K (.ref C_Broken) "__init__" = some (some (.ref f13)))
    (b13 : PySem.W.isFn K (.ref f13) = true)
    (l13 : K.lookup f13 = some ⟨oc13,od13,.func (PySem.W.fnOf "__init__" "Broken.__init__" (jat ja5) (jah ja5) (jaa ja5) .none kV13 dc13 pm13 an13 cd13 ct13),sl13⟩)
    (c13 : PySem.W.codeIn K cd13 "Broken.__init__" = true)
    (k13 : PySem.W.keepIn K (.ref f13) = true)
    (a14 : PySem.W.nsIn K mainGlobals "value_of" = some (some (.ref f14)))
    (l14 : K.lookup f14 = some ⟨oc14,od14,.func (PySem.W.fnOf "value_of" "value_of" (jat jb1) (jah jb1) (jaa jb1) .none kV14 dc14 pm14 an14 cd14 ct14),sl14⟩)
    (c14 : PySem.W.codeIn K cd14 "value_of" = true)
    (k14 : PySem.W.keepIn K (.ref f14) = true)
    (a15 : PySem.W.nsIn K mainGlobals "spare" = some (some (.ref f15)))
    (l15 : K.lookup f15 = some ⟨oc15,od15,.func (PySem.W.fnOf "spare" "spare" (jat jev) (jah jev) (jaa jev) .none kV15 dc15 pm15 an15 cd15 ct15),sl15⟩)
    (c15 : PySem.W.codeIn K cd15 "spare" = true)
    (k15 : PySem.W.keepIn K (.ref f15) = true)
    (a16 : PySem.W.nsIn K mainGlobals "refuse_broken" = some (some (.ref f16)))
    (l16 : K.lookup f16 = some ⟨oc16,od16,.func (PySem.W.fnOf "refuse_broken" "refuse_broken" (jat ja6) (jah ja6) (jaa ja6) .none kV16 dc16 pm16 an16 cd16 ct16),sl16⟩)
    (c16 : PySem.W.codeIn K cd16 "refuse_broken" = true)
    (k16 : PySem.W.keepIn K (.ref f16) = true)
    (a17 : PySem.W.findIn K (.ref C_Plain) "do" = some (some (.ref f17)))
    (b17 : PySem.W.isFn K (.ref f17) = true)
    (l17 : K.lookup f17 = some ⟨oc17,od17,.func (PySem.W.fnOf "do" "Plain.do" (jat jb9) (jah jb9) (jaa jb9) .none kV17 dc17 pm17 an17 cd17 ct17),sl17⟩)
    (c17 : PySem.W.codeIn K cd17 "Plain.do" = true)
    (k17 : PySem.W.keepIn K (.ref f17) = true)
    (a18 : PySem.W.nsIn K mainGlobals "_law_done" = some (some (.ref f18)))
    (l18 : K.lookup f18 = some ⟨oc18,od18,.func (PySem.W.fnOf "_law_done" "_law_done" (jat jcb) (jah jcb) (jaa jcb) .none kV18 dc18 pm18 an18 cd18 ct18),sl18⟩)
    (c18 : PySem.W.codeIn K cd18 "_law_done" = true)
    (k18 : PySem.W.keepIn K (.ref f18) = true)
    (a19 : PySem.W.nsIn K mainGlobals "_law_spare" = some (some (.ref f19)))
    (l19 : K.lookup f19 = some ⟨oc19,od19,.func (PySem.W.fnOf "_law_spare" "_law_spare" (jat jbq) (jah jbq) (jaa jbq) .none kV19 dc19 pm19 an19 cd19 ct19),sl19⟩)
    (c19 : PySem.W.codeIn K cd19 "_law_spare" = true)
    (k19 : PySem.W.keepIn K (.ref f19) = true)
    (a20 : PySem.W.nsIn K mainGlobals "_law_right" = some (some (.ref f20)))
    (l20 : K.lookup f20 = some ⟨oc20,od20,.func (PySem.W.fnOf "_law_right" "_law_right" (jat jbk) (jah jbk) (jaa jbk) .none kV20 dc20 pm20 an20 cd20 ct20),sl20⟩)
    (c20 : PySem.W.codeIn K cd20 "_law_right" = true)
    (k20 : PySem.W.keepIn K (.ref f20) = true)
    (a21 : PySem.W.nsIn K mainGlobals "law" = some (some (.ref f21)))
    (l21 : K.lookup f21 = some ⟨oc21,od21,.func (PySem.W.fnOf "law" "law" (jat jjw) (jah jjw) (jaa jjw) .none kV21 dc21 pm21 an21 cd21 ct21),sl21⟩)
    (c21 : PySem.W.codeIn K cd21 "law" = true)
    (k21 : PySem.W.keepIn K (.ref f21) = true)
    (z0 : PySem.W.nsIn K mainGlobals "ValueError" = some none)
    (z1 : PySem.W.nsIn K mainGlobals "enumerate" = some none)
    (z2 : PySem.W.nsIn K mainGlobals "isinstance" = some none)
    (z3 : PySem.W.nsIn K mainGlobals "len" = some none)
    (z4 : PySem.W.nsIn K mainGlobals "list" = some none)
    (z5 : PySem.W.nsIn K mainGlobals "range" = some none)
    (z6 : PySem.W.nsIn K mainGlobals "sum" = some none)
    (z7 : PySem.W.nsIn K mainGlobals "tuple" = some none)
    (z8 : PySem.W.nsIn K mainGlobals "zip" = some none) : Txt K mg:=by
  have alls : ∀ p ∈ ([("Broken",C_Broken),("ShortShare",C_ShortShare)] : List (Str × Addr)),mg p.1 = some (.ref p.2):=(List.forall_mem_cons.mpr ⟨PySem.W.mg_of X G ca_Broken,(List.forall_mem_cons.mpr ⟨PySem.W.mg_of X G ca_ShortShare,(List.forall_mem_nil _)⟩)⟩)
  have errs : ErrT K mg xcs xfs "BookError":=jr9 (es:=[("Broken",C_Broken),("ShortShare",C_ShortShare)]) alls (PySem.W.mg_of X G ca_BookError) tab
  exact ⟨jh6 X G ca_Plain cp_Plain cq_Plain cr_Plain cs_Plain (List.forall_mem_cons.mpr ⟨cf0_Plain,(List.forall_mem_cons.mpr ⟨cf1_Plain,(List.forall_mem_nil _)⟩)⟩),
   errs,
   jr8 (es:=[("Broken",C_Broken),("ShortShare",C_ShortShare)]) alls (PySem.W.mg_of X G ca_BookError) tab2,
   jbc X G (fun _ _ _ _ _ _=>jl8 (fun _=>rfl)) a0 l0 c0 k0,
   jbc X G (fun _ _ _ _ _ _=>jl8 (fun _=>rfl)) a1 l1 c1 k1,
   jpo X G (fun _ _ _ _ _ _=>jhx (fun _ _=>rfl)) ca_Plain i2 a2 b2 j2 l2 c2 k2,
   jbc X G (fun _ _ _ _ _ _=>jhx (fun _ _=>rfl)) a3 l3 c3 k3,
   jbc X G (fun _ _ _ _ _ _=>jhx (fun _ _=>rfl)) a4 l4 c4 k4,
   jbc X G (fun _ _ _ _ _ _=>jhx (fun _ _=>rfl)) a5 l5 c5 k5,
   jbc X G (fun _ _ _ _ _ _=>jl8 (fun _=>rfl)) a6 l6 c6 k6,
   jbc X G (fun _ _ _ _ _ _=>jhx (fun _ _=>rfl)) a7 l7 c7 k7,
   jbc X G (fun _ _ _ _ _ _=>jhx (fun _ _=>rfl)) a8 l8 c8 k8,
   jbc X G (fun _ _ _ _ _ _=>jl8 (fun _=>rfl)) a9 l9 c9 k9,
   jll X G (jh6 X G ca_Plain cp_Plain cq_Plain cr_Plain cs_Plain (List.forall_mem_cons.mpr ⟨cf0_Plain,(List.forall_mem_cons.mpr ⟨cf1_Plain,(List.forall_mem_nil _)⟩)⟩)) (fun _ _ _ _ _ _=>jl8 (fun _=>rfl)) ca_Plain a10 b10 l10 c10 k10,
   jbc X G (fun _ _ _ _ _ _=>jl8 (fun _=>rfl)) a11 l11 c11 k11,
   jbc X G (fun _ _ _ _ _ _=>jxq (fun _ _ _ _=>rfl)) a12 l12 c12 k12,
   jng X G (fun _ _ _ _ _ _=>jhx (fun _ _=>rfl)) (PySem.W.mg_of X G ca_Broken) (errs.cls "Broken" (List.contains_iff_mem.mp rfl) _ (PySem.W.mg_of X G ca_Broken)) a13 b13 l13 c13 k13,
   jbc X G (fun _ _ _ _ _ _=>jhx (fun _ _=>rfl)) a14 l14 c14 k14,
   jbc X G (fun _ _ _ _ _ _=>jo2 (fun _ _ _=>rfl)) a15 l15 c15 k15,
   jbc X G (fun _ _ _ _ _ _=>jhx (fun _ _=>rfl)) a16 l16 c16 k16,
   jll X G (jh6 X G ca_Plain cp_Plain cq_Plain cr_Plain cs_Plain (List.forall_mem_cons.mpr ⟨cf0_Plain,(List.forall_mem_cons.mpr ⟨cf1_Plain,(List.forall_mem_nil _)⟩)⟩)) (fun _ _ _ _ _ _=>jo2 (fun _ _ _=>rfl)) ca_Plain a17 b17 l17 c17 k17,
   jbc X G (fun _ _ _ _ _ _=>jo2 (fun _ _ _=>rfl)) a18 l18 c18 k18,
   jbc X G (fun _ _ _ _ _ _=>jo2 (fun _ _ _=>rfl)) a19 l19 c19 k19,
   jbc X G (fun _ _ _ _ _ _=>jxr (fun _ _ _ _ _=>rfl)) a20 l20 c20 k20,
   jbc X G (fun _ _ _ _ _ _ us hl=>match us,hl with | [_],_=>rfl) a21 l21 c21 k21,
   PySem.W.mg_none_of X G z0,
   PySem.W.mg_none_of X G z1,
   PySem.W.mg_none_of X G z2,
   PySem.W.mg_none_of X G z3,
   PySem.W.mg_none_of X G z4,
   PySem.W.mg_none_of X G z5,
   PySem.W.mg_none_of X G z6,
   PySem.W.mg_none_of X G z7,
   PySem.W.mg_none_of X G z8⟩
theorem walk {l : PySem.W.OpenLaw} {q : Program} {loose : List Str} {XP : (Str → Option Value) → Heap → Prop} {YP : World → Heap → Prop} {d : DefRec} {K : Params → PySem.W.Frag} (hn : l.most = some 63) (hdf : d.params.defaults = [])
  (hY : ∀ (w : World) (h : Heap),YP w h → (K w.params).In h)
  (F : ∀ (w : World) (mg : Str → Option Value) (fa : Addr) (h : Heap),(K w.params).In h → h.Ns mainGlobals mg → mg d.name = some (.ref fa) → Txt (K w.params) mg ∧ mg "law" = some (.ref fa))
  (hm : ∀ ns : List Int,ns.length ≤ 63 → ∃ Ω,jnp [.lst (ns.map .int)] [] = some (.ok (.bl true),Ω)) :
  PySem.W.WalkO q loose XP YP l.row.toRowW d [] (fun f vs=>PySem.call f vs) :=
 L2.walk_of (n:=63) (k:=8) (x:="_law_script") (CX:=fun _=>CX0) (sp:=fun w=>spA (K w.params) 1 jnp) hn (by decide) hdf ⟨rfl,by decide,by decide⟩ hY
  (fun w mg fa h KX G hmg=>by
   obtain ⟨T,hf⟩:=F w mg fa h KX G hmg
   obtain ⟨fd,FF,hb⟩:=jne T.f_law hf (fun _ _ _ _ _ _ _ _=>.of_eq rfl)
   exact ⟨fd,hb,fun base _ _=>(fn_E FF sc_law (jo4 T)).imp fun vs H Q E z=>z mg⟩)
  (fun _ _ a ns hl _ hS=>fun mg=>let ⟨Ω,e⟩:=hm ns hl; jsm hS e) fun _ _ _ _ _ z=>z
theorem jqr {q : Program} {loose : List Str} {XP : (Str → Option Value) → Heap → Prop} {K : Params → PySem.W.Frag} {as : List Addr} {n t : Nat} {r : PySem.W.RowW} {d : DefRec} {kwd : List (Str × Expr)} {run : Value → List Value → Sem Value}
  (he : ∀ P,as = (K P).map (·.1)) (h : PySem.W.WalkO q loose XP (fun w h=>(K w.params).In h) r d kwd run) : PySem.W.WalkX q loose XP (PySem.W.X.obsZ as) (PySem.W.X.valZ K n t) r d kwd run:=by
 intro w s₀ s₁ mg mb G y a o pm cd doc dV kV ho hd hcd hD hmg hg args vals as' L
 refine h w s₀ s₁ mg mb G ?_ a o pm cd doc dV kV ho hd hcd hD hmg hg args vals as'
 have e : (K w.params).In s₀.heap:=(PySem.W.X.z_facts he y).2.1
 exact fun b o' q=>L.keeps b o' (e b o' q)
theorem walkZ {l : PySem.W.OpenLaw} {q : Program} {loose : List Str} {XP : (Str → Option Value) → Heap → Prop} {d : DefRec} {K : Params → PySem.W.Frag} {as : List Addr} {n t : Nat} (he : ∀ P,as = (K P).map (·.1)) (hn : l.most = some 63) (hdf : d.params.defaults = [])
  (F : ∀ (w : World) (mg : Str → Option Value) (fa : Addr) (h : Heap),(K w.params).In h → h.Ns mainGlobals mg → mg d.name = some (.ref fa) → Txt (K w.params) mg ∧ mg "law" = some (.ref fa))
  (hm : ∀ ns : List Int,ns.length ≤ 63 → ∃ Ω,jnp [.lst (ns.map .int)] [] = some (.ok (.bl true),Ω)) :
  PySem.W.WalkX q loose XP (PySem.W.X.obsZ as) (PySem.W.X.valZ K n t) l.row.toRowW d [] (fun f vs=>PySem.call f vs) :=
 jqr he (walk (K:=K) hn hdf (fun _ _ y=>y) F hm)
end MyLaw
namespace MyLaw
open PySem PySem.Spec L2 DL
noncomputable section
structure Rul where
 nm : Str
 cs : List Int
 rest : Int
structure Ded where
 nm : Str
 lo : Int
 hi : Int
 chs : List (Int × Int)
structure Bk where
 its : List (Str × Int)
 rls : List Rul
 dds : List Ded
noncomputable def itD (p : Str × Int) : D:=.tup [.str p.1,.int p.2]
noncomputable def rulD (r : Rul) : D:=.tup [.str r.nm,.tup (r.cs.map .int),.int r.rest]
noncomputable def chD (c : Int × Int) : D:=.tup [.int c.1,.int c.2]
noncomputable def dedD (d : Ded) : D:=.tup [.str d.nm,.int d.lo,.int d.hi,.tup (d.chs.map chD)]
noncomputable abbrev itsD (b : Bk) : D:=.lst (b.its.map itD)
noncomputable abbrev rlsD (b : Bk) : D:=.lst (b.rls.map rulD)
noncomputable abbrev ddsD (b : Bk) : D:=.lst (b.dds.map dedD)
noncomputable abbrev bkD (b : Bk) : D:=.tup [itsD b,rlsD b,ddsD b]
noncomputable abbrev stD (st : List Int) : D:=.tup (st.map .int)
structure RulOk (r : Rul) : Prop where
 len : r.cs.length ≤ 3
 bt : ∀ c ∈ r.cs,Bt 10 c
structure DedOk (d : Ded) : Prop where
 len : d.chs.length ≤ 3
 bt : ∀ c ∈ d.chs,c.1.natAbs ≤ 2 ∧ c.2.natAbs ≤ 1
 l1 : -1 ≤ d.lo
 l2 : d.lo ≤ 2
 h1 : d.lo ≤ d.hi
 h2 : d.hi ≤ d.lo + 5
structure BkOk (b : Bk) : Prop where
 i3 : b.its.length ≤ 3
 r4 : b.rls.length ≤ 4
 d1 : 1 ≤ b.dds.length
 d4 : b.dds.length ≤ 4
 st : ∀ p ∈ b.its,p.2.natAbs ≤ 2 ^ 90
 rl : ∀ r ∈ b.rls,RulOk r
 dd : ∀ d ∈ b.dds,DedOk d
noncomputable def jaj (b : Bk) : List Int:=b.its.map (·.2)
noncomputable def jda (r : Rul) (st : List Int) : Int:=((r.cs.zip st).map fun p=>p.1 * p.2).sum + r.rest
noncomputable def jan (d : Ded) (st : List Int) (n : Int) : List Int:=(st.zip d.chs).map fun p=>p.1 + p.2.1 * n + p.2.2
structure StOk (k : Nat) (st : List Int) : Prop where
 len : st.length ≤ 3
 bt : ∀ x ∈ st,x.natAbs ≤ 2 ^ 90 + 100 * k
theorem StOk.b {k : Nat} {st : List Int} (h : StOk k st) (hk : k ≤ 1000) : ∀ x ∈ st,Bt 100 x:=fun x hx=>by
 have:=h.bt x hx
 unfold Bt
 have e : (2 : Nat) ^ 90 + 100000 < 2 ^ 100:=by decide
 omega
theorem jnt {α : Type} (f : α → D) (g : α → Int) (xs : List α) (h : ∀ x,f x = .int (g x)) : xs.map f = (xs.map g).map .int:=by
 rw [List.map_map]
 exact List.map_congr_left fun x _=>h x
theorem jqq {cs st : List Int} {rest : Int} (hc : ∀ c ∈ cs,Bt 10 c) (hs : ∀ x ∈ st,Bt 100 x) (hl : cs.length ≤ 1000) :
  je0 [.tup [.tup (cs.map .int),.int rest],stD st] = some (.ok (.int (((cs.zip st).map fun p=>p.1 * p.2).sum + rest))):=by
 have ec:=jdp (c:=[]) (fe:=je3) (K:=fun p : Int × Int=>(D.int p.1,D.int p.2)) (F:=fun p=>.int (p.1 * p.2)) (cs.zip st) none none (fun p hp=>by
  unfold je3
  have:=jdl (a:=10) (b:=100) (hc p.1 (List.of_mem_zip hp).1) (hs p.2 (List.of_mem_zip hp).2)
  simp only [stp,this]; rfl)
 have ln : ((cs.zip st).map fun p=>D.int (p.1 * p.2)).length ≤ 1000:=by
  rw [List.length_map,List.length_zip]; omega
 unfold je0
 rw [jhm]
 unfold jf0
 simp only [stp,ec,jfn ln,jky,Nat.reduceSub]
 rfl
theorem jqk {b : Bk} {k i : Nat} {r : Rul} {st : List Int} (hb : BkOk b) (hk : k ≤ 1000) (hs : StOk k st) (hi : b.rls[i]? = some r) : jf2 [bkD b,.int (i : Nat),stD st] = some (.ok (.int (jda r st))):=by
 have hr:=hb.rl r (List.mem_of_getElem? hi)
 have e:=atI_get (xs:=b.rls.map rulD) (j:=i) (v:=rulD r) (by rw [List.getElem?_map,hi]; rfl)
 have v:=jqq (rest:=r.rest) hr.bt (hs.b hk) (Nat.le_trans hr.len (by decide))
 unfold jf2
 rw [jq0]
 unfold jke
 simp only [stp,e,rulD,v,Nat.reduceSub]
 rfl
theorem jnn {b : Bk} {k i : Nat} {r : Rul} {st : List Int} (hb : BkOk b) (hk : k ≤ 1000) (hs : StOk k st) (hi : b.rls[i]? = some r) : jb5 [bkD b,.int (i : Nat),stD st] = some (.ok (.int (jda r st))):=by
 have hr:=hb.rl r (List.mem_of_getElem? hi)
 have e:=atI_get (xs:=b.rls.map rulD) (j:=i) (v:=rulD r) (by rw [List.getElem?_map,hi]; rfl)
 have ec:=jdp (c:=[]) (fe:=jef) (K:=fun p : Int × Int=>(D.int p.1,D.int p.2)) (F:=fun p=>.int (p.1 * p.2)) (r.cs.zip st) none none (fun p hp=>by
  unfold jef
  have:=jdl (a:=10) (b:=100) (hr.bt p.1 (List.of_mem_zip hp).1) (hs.b hk p.2 (List.of_mem_zip hp).2)
  simp only [stp,this]; rfl)
 have ln : ((r.cs.zip st).map fun p=>D.int (p.1 * p.2)).length ≤ 1000:=by
  rw [List.length_map,List.length_zip]; have:=hr.len; omega
 unfold jb5
 rw [jq0]
 unfold je9
 simp only [stp,e,rulD,ec,jfn ln,jky,Nat.reduceSub]
 rfl
theorem joq {b : Bk} (hb : BkOk b) {y z : D} : jbf [.tup [itsD b,y,z]] = some (.ok (stD (jaj b))):=by
 have ec:=jiy (c:=[]) (fe:=jdx) (K:=itD) (F:=fun p=>.int p.2) b.its none (fun p hp=>by
  unfold jdx itD
  simp only [stp]; rfl)
 have ln : (b.its.map fun p=>D.int p.2).length ≤ 1000:=by rw [List.length_map]; have:=hb.i3; omega
 unfold jbf
 rw [jld]
 unfold jen
 simp only [stp,ec,jfn ln,Nat.reduceSub]
 unfold jaj
 rw [jnt (fun p : Str × Int=>D.int p.2) (·.2) b.its fun _=>rfl]
 rfl
theorem jj2 {b : Bk} (hb : BkOk b) {y z : D} : jci [.tup [itsD b,y,z]] = some (.ok (stD (jaj b))):=by
 have ec:=jiy (c:=[]) (fe:=jeg) (K:=itD) (F:=fun p=>.int p.2) b.its none (fun p hp=>by
  unfold jeg itD
  simp only [stp]; rfl)
 have ln : (b.its.map fun p=>D.int p.2).length ≤ 1000:=by rw [List.length_map]; have:=hb.i3; omega
 unfold jci
 rw [jld]
 unfold jfa
 simp only [stp,ec,jfn ln,Nat.reduceSub]
 unfold jaj
 rw [jnt (fun p : Str × Int=>D.int p.2) (·.2) b.its fun _=>rfl]
 rfl
theorem jqw {d : Ded} {n : Int} (hd : DedOk d) (hn : n.natAbs ≤ 7) {c : Int × Int} (hc : c ∈ d.chs) : jcw (.int c.1) (.int n) = some (.int (c.1 * n)):=jdl (a:=10) (b:=10) (by unfold Bt; have:=(hd.bt c hc).1; omega) (by unfold Bt; omega)
theorem jmb {b : Bk} {j : Nat} {d : Ded} {st : List Int} {n : Int} (hb : BkOk b) (hj : b.dds[j]? = some d) (hl : st.length ≤ 3) (hn : n.natAbs ≤ 7) : jco [bkD b,stD st,.int (j : Nat),.int n] = some (.ok (stD (jan d st n))):=by
 have hd:=hb.dd d (List.mem_of_getElem? hj)
 have e:=atI_get (xs:=b.dds.map dedD) (j:=j) (v:=dedD d) (by rw [List.getElem?_map,hj]; rfl)
 have ec:=jdp (c:=[some (.int n)]) (fe:=jdw) (K:=fun p : Int × Int × Int=>(D.int p.1,chD p.2)) (F:=fun p=>.int (p.1 + p.2.1 * n + p.2.2)) (st.zip d.chs) none none (fun p hp=>by
  unfold jdw chD
  have:=jqw hd hn (List.of_mem_zip hp).2
  simp only [stp,this]; rfl)
 have ln : ((st.zip d.chs).map fun p=>D.int (p.1 + p.2.1 * n + p.2.2)).length ≤ 1000:=by rw [List.length_map,List.length_zip]; omega
 unfold jco
 rw [juz]
 unfold jem
 simp only [stp,e,dedD,jg6,ec,jfn ln,Nat.reduceSub]
 rw [jnt (fun p : Int × Int × Int=>D.int (p.1 + p.2.1 * n + p.2.2)) (fun p=>p.1 + p.2.1 * n + p.2.2) _ fun _=>rfl]
 rfl
theorem jhw {k : Nat} {d : Ded} {st : List Int} {n : Int} (hd : DedOk d) (hs : StOk k st) (hn : n.natAbs ≤ 7) : StOk (k + 1) (jan d st n):=by
 refine ⟨?_,fun x hx=>?_⟩
 ·unfold jan
  rw [List.length_map,List.length_zip]
  have:=hs.len
  omega
 ·obtain ⟨p,hp,rfl⟩:=List.mem_map.mp hx
  have h1:=hs.bt p.1 (List.of_mem_zip hp).1
  obtain ⟨h2,h3⟩:=hd.bt p.2 (List.of_mem_zip hp).2
  have h4 : (p.2.1 * n).natAbs ≤ 2 * 7:=by rw [Int.natAbs_mul]; exact Nat.mul_le_mul h2 hn
  omega
end
end MyLaw
namespace MyLaw
open PySem PySem.Spec L2 DL
noncomputable section
theorem jt0 {a b c : SO} (Ω : Sto) : ((Ω ++ [a]) ++ [b]).set Ω.length c = Ω ++ [c,b]:=by
 rw [List.append_assoc,List.set_append_right _ _ (Nat.le_refl _),Nat.sub_self]
 rfl
theorem jgs {a : SO} {r : Sto} (Ω : Sto) : (Ω ++ a :: r)[Ω.length]? = some a:=by
 rw [List.getElem?_append_right (Nat.le_refl _),Nat.sub_self]
 rfl
noncomputable def errs (Ω : Sto) (f : Bool) (nm : Str) : Sto:=Ω ++ [.exc "Broken" (some (Ω.length + 1),f),.xd [("name",.str nm)]]
theorem jkf (Ω : Sto) (nm : Str) : jbm [.obj Ω.length,.str nm] (Ω ++ [.exc "Broken" (none,true)]) = some (.ok .non,errs Ω true nm):=by
 unfold jbm mirE
 rw [if_pos (show [D.obj Ω.length,D.str nm].length = 2 from rfl)]
 refine (MS.b_ok (a:=.nx [some (.obj Ω.length),some (.str nm)]) (Ω1:=errs Ω true nm) ?_).trans rfl
 show jce [some (.obj Ω.length),some (.str nm)] _ = _
 unfold jce jr5
 rw [MS.b_ok (a:=.str nm) (Ω1:=Ω ++ [.exc "Broken" (none,true)]) rfl,MS.b_ok (a:=.obj Ω.length) (Ω1:=Ω ++ [.exc "Broken" (none,true)]) rfl]
 refine (MS.b_ok (a:=()) (Ω1:=errs Ω true nm) ?_).trans rfl
 unfold putX
 dsimp only
 rw [jgs]
 dsimp only
 rw [if_pos (by decide),jt0,List.length_append]
 rfl
theorem jkj {Ω : Sto} {δ : DSt} {nm : Str} {fl : DSt → MS (List D)} (h : fl δ Ω = some (.ok [.str nm],Ω)) : jjh "Broken" jbm fl δ Ω = some (.ok (.obj Ω.length),errs Ω true nm):=by
 unfold jjh
 rw [MS.b_ok h]
 unfold jme
 rw [MS.b_ok (jkf Ω nm)]
 rfl
theorem jjt {Ω : Sto} {δ : DSt} {nm : Str} {fl : DSt → MS (List D)} (h : fl δ Ω = some (.ok [.str nm],Ω)) : jlc xcs (jjh "Broken" jbm fl) δ Ω = some (.error (xdO Ω.length),errs Ω false nm):=by
 unfold jlc
 rw [MS.b_ok (jkj h)]
 dsimp only
 unfold jly errs
 rw [jgs]
 dsimp only
 rw [if_pos (by decide),List.set_append_right _ _ (Nat.le_refl _),Nat.sub_self]
 rfl
theorem ji6 {g : DSt → MS Out} {tg : D → DSt → Option DSt} {d : D} {ds : List D} {δ δ1 δ2 : DSt} {Ω Ω1 : Sto} (h1 : tg d δ = some δ1) (h2 : g δ1 Ω = some (.ok (.nx δ2),Ω1)) : forE g tg (d :: ds) δ Ω = forE g tg ds δ2 Ω1:=by
 conv=>lhs; unfold forE
 rw [h1]
 dsimp only
 rw [MS.b_ok h2]
theorem jph {g : DSt → MS Out} {tg : D → DSt → Option DSt} {d : D} {ds : List D} {δ δ1 : DSt} {Ω Ω1 : Sto} {x : XD} (h1 : tg d δ = some δ1) (h2 : g δ1 Ω = some (.error x,Ω1)) : forE g tg (d :: ds) δ Ω = some (.error x,Ω1):=by
 conv=>lhs; unfold forE
 rw [h1]
 dsimp only
 unfold MS.b
 rw [h2]
theorem eseq {g1 g2 : DSt → MS Out} {δ δ' : DSt} {Ω Ω' : Sto} (h : g1 δ Ω = some (.ok (.nx δ'),Ω')) : eSeq g1 g2 δ Ω = g2 δ' Ω':=by
 unfold eSeq
 rw [MS.b_ok h]
theorem jpg {g1 g2 : DSt → MS Out} {δ : DSt} {Ω Ω' : Sto} {x : XD} (h : g1 δ Ω = some (.error x,Ω')) : eSeq g1 g2 δ Ω = some (.error x,Ω'):=by
 unfold eSeq MS.b
 rw [h]
theorem b_err {α β : Type} {m : MS α} {f : α → MS β} {Ω Ω1 : Sto} {x : XD} (h : m Ω = some (.error x,Ω1)) : m.b f Ω = some (.error x,Ω1):=by unfold MS.b; rw [h]
theorem juk {b : Bk} {k i : Nat} {r : Rul} {st : List Int} (hb : BkOk b) (hk : k ≤ 1000) (hs : StOk k st) (hi : b.rls[i]? = some r) (Ω : Sto) :
  ja0 [some (bkD b),some (stD st),some (.int (i : Nat)),some (rulD r)] Ω = if jda r st < 0 then some (.error (xdO Ω.length),errs Ω false r.nm) else some (.ok (.nx [some (bkD b),some (stD st),some (.int (i : Nat)),some (rulD r)]),Ω):=by
 have ht : t2 gLt (jbb jf2 (jad (fVar 0) (jad (fVar 2) (jad (fVar 1) fNil)))) (fC (.int 0)) [some (bkD b),some (stD st),some (.int (i : Nat)),some (rulD r)] = some (.ok (decide (jda r st < 0))):=by
  simp only [stp,jqk hb hk hs hi]
  rfl
 have ht' : lF (t2 gLt (jbb jf2 (jad (fVar 0) (jad (fVar 2) (jad (fVar 1) fNil)))) (fC (.int 0))) [some (bkD b),some (stD st),some (.int (i : Nat)),some (rulD r)] Ω = some (.ok (decide (jda r st < 0)),Ω):=by
  unfold lF MS.l
  rw [ht]
  rfl
 unfold ja0 eIf
 rw [MS.b_ok ht']
 by_cases h : jda r st < 0
 ·rw [if_pos h,if_pos (by simpa using h)]
  exact jjt rfl
 ·rw [if_neg h,if_neg (by simpa using h)]
  rfl
noncomputable def fstB (b : Bk) (st : List Int) : Option Rul:=b.rls.find? fun r=>decide (jda r st < 0)
theorem jlz {b : Bk} {k : Nat} {st : List Int} (hb : BkOk b) (hk : k ≤ 1000) (hs : StOk k st) (Ω : Sto) : ∀ (rs : List Rul) (i : Nat) (x y : Option D),b.rls.drop i = rs → match rs.find? (fun r=>decide (jda r st < 0)) with
  | none=>∃ x' y',forE ja0 (jcn 2 3) (jdr (i : Nat) (rs.map rulD)) [some (bkD b),some (stD st),x,y] Ω = some (.ok (.nx [some (bkD b),some (stD st),x',y']),Ω)
  | some r=>forE ja0 (jcn 2 3) (jdr (i : Nat) (rs.map rulD)) [some (bkD b),some (stD st),x,y] Ω = some (.error (xdO Ω.length),errs Ω false r.nm)
 | [],i,x,y,_=>⟨x,y,rfl⟩
 | r :: rs,i,x,y,h=>by
  have hi : b.rls[i]? = some r:=by
   have:=congrArg (·[0]?) h
   simpa using this
  have hd : b.rls.drop (i + 1) = rs:=by
   rw [← List.drop_drop,h]
   rfl
  have b1:=juk hb hk hs hi Ω
  rw [List.find?_cons]
  by_cases hr : jda r st < 0
  ·rw [if_pos hr] at b1
   rw [decide_eq_true hr]
   exact jph rfl b1
  ·rw [if_neg hr] at b1
   rw [decide_eq_false hr]
   have ih:=jlz hb hk hs Ω rs (i + 1) (some (.int (i : Nat))) (some (rulD r)) hd
   have e : forE ja0 (jcn 2 3) (jdr (i : Nat) ((r :: rs).map rulD)) [some (bkD b),some (stD st),x,y] Ω = forE ja0 (jcn 2 3) (jdr ((i + 1 : Nat) : Int) (rs.map rulD)) [some (bkD b),some (stD st),some (.int (i : Nat)),some (rulD r)] Ω:=ji6 (ds:=jdr ((i : Int) + 1) (rs.map rulD)) rfl b1
   rw [e]
   exact ih
theorem efor {fi : DSt → MS (List D)} {tg : D → DSt → Option DSt} {g : DSt → MS Out} {δ : DSt} {Ω Ω' : Sto} {ds : List D} (h : fi δ Ω = some (.ok ds,Ω')) : eFor fi tg g δ Ω = forE g tg ds δ Ω':=by
 unfold eFor
 rw [MS.b_ok h]
theorem jof {b : Bk} {k : Nat} {st : List Int} (hb : BkOk b) (hk : k ≤ 1000) (hs : StOk k st) (Ω : Sto) : jbt [bkD b,stD st] Ω = match fstB b st with
  | none=>some (.ok .non,Ω)
  | some r=>some (.error (xdO Ω.length),errs Ω false r.nm):=by
 have l:=jlz hb hk hs Ω b.rls 0 none none rfl
 unfold fstB
 have e : jbt [bkD b,stD st] Ω = MS.b (forE ja0 (jcn 2 3) (jdr ((0 : Nat) : Int) (b.rls.map rulD)) [some (bkD b),some (stD st),none,none]) outE Ω:=by
  unfold jbt mirE
  rw [if_pos (show [bkD b,stD st].length = 2 from rfl)]
  unfold jc5 MS.b
  rw [show startD 4 [bkD b,stD st] = [some (bkD b),some (stD st),none,none] from rfl,efor (ds:=jdr 0 (b.rls.map rulD)) (Ω':=Ω) (by rfl)]
  rfl
 rw [e]
 cases hf : b.rls.find? (fun r=>decide (jda r st < 0)) with
 | none =>
  rw [hf] at l
  obtain ⟨x',y',l⟩:=l
  rw [MS.b_ok l]
  rfl
 | some r =>
  rw [hf] at l
  rw [b_err l]
noncomputable abbrev jaf (b : Bk) (st : List Int) : SO:=.ins "Plain" [("book",bkD b),("numbers",stD st)]
theorem jlf {Ω : Sto} {p : Nat} {b : Bk} {st : List Int} (hp : Ω[p]? = some (jaf b st)) {δ : DSt} (h0 : lF (fVar 0) δ Ω = some (.ok (.obj p),Ω)) : mGet ["Plain"] "book" (lF (fVar 0)) δ Ω = some (.ok (bkD b),Ω):=by
 unfold mGet
 rw [MS.b_ok h0]
 unfold getO
 dsimp only
 rw [hp]
 dsimp only
 rw [if_pos (by decide)]
 rfl
theorem jlg {Ω : Sto} {p : Nat} {b : Bk} {st : List Int} (hp : Ω[p]? = some (jaf b st)) {δ : DSt} (h0 : lF (fVar 0) δ Ω = some (.ok (.obj p),Ω)) : mGet ["Plain"] "numbers" (lF (fVar 0)) δ Ω = some (.ok (stD st),Ω):=by
 unfold mGet
 rw [MS.b_ok h0]
 unfold getO
 dsimp only
 rw [hp]
 dsimp only
 rw [if_pos (by decide)]
 rfl
theorem jft {Ω : Sto} {p : Nat} {b : Bk} {st : List Int} (hp : Ω[p]? = some (jaf b st)) : jal [.obj p] Ω = some (.ok (stD st),Ω):=by
 unfold jal mirE
 rw [if_pos (show [D.obj p].length = 1 from rfl)]
 refine (MS.b_ok (a:=.rt (stD st)) (Ω1:=Ω) ?_).trans rfl
 show jcx [some (.obj p)] Ω = _
 unfold jcx eRet
 rw [MS.b_ok (jlg hp rfl)]
 rfl
theorem jc1 {x : Str} {m : List D → MS D} {fo : DSt → MS D} {fl : DSt → MS (List D)} {δ : DSt} {Ω : Sto} {p : Nat} {b : Bk} {st : List Int} {ds : List D} (hx : ([("book",bkD b),("numbers",stD st)] : List (Str × D)).lookup x = none) (hp : Ω[p]? = some (jaf b st)) (ho : fo δ Ω = some (.ok (.obj p),Ω)) (hf : fl δ Ω = some (.ok ds,Ω)) :
  jdb "Plain" x m fo fl δ Ω = m (.obj p :: ds) Ω:=by
 unfold jdb
 rw [MS.b_ok ho]
 dsimp only
 unfold jmi
 rw [hp]
 dsimp only
 rw [if_pos ⟨rfl,hx⟩,MS.b_ok hf]
theorem jxt {b : Bk} {k p j : Nat} {d : Ded} {st : List Int} {n : Int} {Ω : Sto} (hb : BkOk b) (hk : k + 1 ≤ 1000) (hs : StOk k st) (hj : b.dds[j]? = some d) (hn : n.natAbs ≤ 7) (hp : Ω[p]? = some (jaf b st)) : jb7 [.obj p,.int (j : Nat),.int n] Ω = match fstB b (jan d st n) with
  | none=>some (.ok .non,Ω.set p (jaf b (jan d st n)))
  | some r=>some (.error (xdO Ω.length),errs Ω false r.nm):=by
 have hd:=hb.dd d (List.mem_of_getElem? hj)
 have ha:=jhw hd hs hn
 have s1 : eSet 3 (jje jco (jc7 (mGet ["Plain"] "book" (lF (fVar 0))) (jc7 (mGet ["Plain"] "numbers" (lF (fVar 0))) (lF (jad (fVar 1) (jad (fVar 2) fNil)))))) [some (.obj p),some (.int (j : Nat)),some (.int n),none] Ω = some (.ok (.nx [some (.obj p),some (.int (j : Nat)),some (.int n),some (stD (jan d st n))]),Ω):=by
  have a1 : jc7 (mGet ["Plain"] "book" (lF (fVar 0))) (jc7 (mGet ["Plain"] "numbers" (lF (fVar 0))) (lF (jad (fVar 1) (jad (fVar 2) fNil)))) [some (.obj p),some (.int (j : Nat)),some (.int n),none] Ω = some (.ok [bkD b,stD st,.int (j : Nat),.int n],Ω):=by
   unfold jc7
   rw [MS.b_ok (jlf hp rfl),MS.b_ok (a:=[stD st,.int (j : Nat),.int n]) (Ω1:=Ω) (by rw [MS.b_ok (jlg hp rfl)]; rfl)]
   rfl
  unfold eSet jje
  rw [MS.b_ok (a:=stD (jan d st n)) (Ω1:=Ω) (by rw [MS.b_ok a1]; unfold MS.l; rw [jmb hb hj hs.len hn]; rfl)]
  rfl
 have a2 : jc7 (mGet ["Plain"] "book" (lF (fVar 0))) (lF (jad (fVar 3) fNil)) [some (.obj p),some (.int (j : Nat)),some (.int n),some (stD (jan d st n))] Ω = some (.ok [bkD b,stD (jan d st n)],Ω):=by
  unfold jc7
  rw [MS.b_ok (jlf hp rfl)]
  rfl
 have rf:=jof hb hk ha Ω
 have e : jb7 [.obj p,.int (j : Nat),.int n] Ω = MS.b (jch [some (.obj p),some (.int (j : Nat)),some (.int n),none]) outE Ω:=rfl
 rw [e]
 cases hf : fstB b (jan d st n) with
 | none =>
  rw [hf] at rf
  refine (MS.b_ok (a:=.nx [some (.obj p),some (.int (j : Nat)),some (.int n),some (stD (jan d st n))]) (Ω1:=Ω.set p (jaf b (jan d st n))) ?_).trans rfl
  show jch _ Ω = _
  unfold jch
  rw [eseq s1,eseq (δ':=[some (.obj p),some (.int (j : Nat)),some (.int n),some (stD (jan d st n))]) (Ω':=Ω) (by
   unfold jgp jf1
   rw [MS.b_ok (a:=.non) (Ω1:=Ω) (by rw [MS.b_ok a2]; exact rf)]
   rfl)]
  unfold ePut
  rw [MS.b_ok (a:=stD (jan d st n)) (Ω1:=Ω) rfl,MS.b_ok (a:=.obj p) (Ω1:=Ω) rfl]
  refine (MS.b_ok (a:=()) (Ω1:=Ω.set p (jaf b (jan d st n))) ?_).trans rfl
  unfold putO
  dsimp only
  rw [hp]
  dsimp only
  rw [if_pos (by rfl)]
  rfl
 | some r =>
  rw [hf] at rf
  refine b_err ?_
  show jch _ Ω = _
  unfold jch
  rw [eseq s1,jpg (x:=xdO Ω.length) (Ω':=errs Ω false r.nm)]
  unfold jgp jf1
  exact b_err (by rw [MS.b_ok a2]; exact rf)
end
end MyLaw
namespace MyLaw
open PySem PySem.Spec L2 DL
noncomputable section
theorem jgt {Ω : Sto} {f : Bool} {nm : Str} : (errs Ω f nm)[Ω.length]? = some (.exc "Broken" (some (Ω.length + 1),f)):=by unfold errs; exact jgs Ω
theorem ji8 {Ω : Sto} {f : Bool} {nm : Str} : (errs Ω f nm)[Ω.length + 1]? = some (.xd [("name",.str nm)]):=by
 unfold errs
 rw [List.getElem?_append_right (Nat.le_succ _),show (List.length Ω).succ - List.length Ω = 1 by omega]
 rfl
theorem jgu {Ω : Sto} {f : Bool} {nm : Str} {p : Nat} {so : SO} (h : Ω[p]? = some so) : (errs Ω f nm)[p]? = some so:=by
 unfold errs
 rw [List.getElem?_append_left (List.getElem?_eq_some_iff.mp h).1]
 exact h
noncomputable def jh9 (b : Bk) (d : Ded) (st : List Int) (n : Int) (p : Nat) (Ω : Sto) : D × Sto:=match fstB b (jan d st n) with
 | none=>(.tup [.non,.non],Ω.set p (jaf b (jan d st n)))
 | some r=>(.tup [.str "nothing",.obj Ω.length],errs Ω false r.nm)
theorem jr2 {b : Bk} {k p j : Nat} {d : Ded} {st : List Int} {n : Int} {Ω : Sto} (hb : BkOk b) (hk : k + 1 ≤ 1000) (hs : StOk k st) (hj : b.dds[j]? = some d) (hn : n.natAbs ≤ 7) (hp : Ω[p]? = some (jaf b st)) :
  jez [.obj p,.int (j : Nat),.int n] Ω = some (.ok (jh9 b d st n p Ω).1,(jh9 b d st n p Ω).2):=by
 have dk:=jxt hb hk hs hj hn hp
 have mt : jdb "Plain" "do" jb7 (lF (fVar 0)) (lF (jad (fVar 1) (jad (fVar 2) fNil))) [some (.obj p),some (.int (j : Nat)),some (.int n),some (.str "nothing"),some .non,none] Ω = jb7 [.obj p,.int (j : Nat),.int n] Ω:=jc1 (by rfl) hp rfl rfl
 have e : jez [.obj p,.int (j : Nat),.int n] Ω = MS.b (jey [some (.obj p),some (.int (j : Nat)),some (.int n),none,none,none]) outE Ω:=rfl
 rw [e]
 unfold jey jh9
 cases hf : fstB b (jan d st n) with
 | none =>
  rw [hf] at dk
  rw [dk] at mt
  have t : jkb "Plain" "do" jb7 xcs 3 5 4 (lF (fVar 0)) (lF (jad (fVar 1) (jad (fVar 2) fNil))) [some (.obj p),some (.int (j : Nat)),some (.int n),some (.str "nothing"),some .non,none] Ω = some (.ok (.nx [some (.obj p),some (.int (j : Nat)),some (.int n),some .non,some .non,none]),Ω.set p (jaf b (jan d st n))):=by
   unfold jkb
   rw [mt]
   rfl
  refine (MS.b_ok (a:=.rt (.tup [.non,.non])) (Ω1:=Ω.set p (jaf b (jan d st n))) ?_).trans rfl
  rw [eseq (δ':=[some (.obj p),some (.int (j : Nat)),some (.int n),some (.str "nothing"),none,none]) (Ω':=Ω) rfl,eseq (δ':=[some (.obj p),some (.int (j : Nat)),some (.int n),some (.str "nothing"),some .non,none]) (Ω':=Ω) rfl,eseq t]
  rfl
 | some r =>
  rw [hf] at dk
  rw [dk] at mt
  have t : jkb "Plain" "do" jb7 xcs 3 5 4 (lF (fVar 0)) (lF (jad (fVar 1) (jad (fVar 2) fNil))) [some (.obj p),some (.int (j : Nat)),some (.int n),some (.str "nothing"),some .non,none] Ω = some (.ok (.nx [some (.obj p),some (.int (j : Nat)),some (.int n),some (.str "nothing"),some (.obj Ω.length),none]),errs Ω false r.nm):=by
   unfold jkb
   rw [mt]
   dsimp only
   unfold jk4 errI xdO
   dsimp only
   rw [jgt]
   dsimp only
   rw [if_pos (by decide)]
   rfl
  refine (MS.b_ok (a:=.rt (.tup [.str "nothing",.obj Ω.length])) (Ω1:=errs Ω false r.nm) ?_).trans rfl
  rw [eseq (δ':=[some (.obj p),some (.int (j : Nat)),some (.int n),some (.str "nothing"),none,none]) (Ω':=Ω) rfl,eseq (δ':=[some (.obj p),some (.int (j : Nat)),some (.int n),some (.str "nothing"),some .non,none]) (Ω':=Ω) rfl,eseq t]
  rfl
noncomputable def qB (b : Bk) (st : List Int) (i : Nat) : Bool:=match b.rls[i]? with
 | some r=>decide (jda r st < 0)
 | none=>false
theorem jj8 {b : Bk} {st : List Int} : ∀ (rs : List Rul) (i : Nat),b.rls.drop i = rs → match rs.find? (fun r=>decide (jda r st < 0)) with
  | none=>(List.range' i rs.length).filter (qB b st) = []
  | some r=>∃ k rest,(List.range' i rs.length).filter (qB b st) = k :: rest ∧ b.rls[k]? = some r
 | [],i,_=>rfl
 | r :: rs,i,h=>by
  have hi : b.rls[i]? = some r:=by
   have:=congrArg (·[0]?) h
   simpa using this
  have hd : b.rls.drop (i + 1) = rs:=by
   rw [← List.drop_drop,h]
   rfl
  have ih:=jj8 (st:=st) rs (i + 1) hd
  have hq : qB b st i = decide (jda r st < 0):=by unfold qB; rw [hi]
  rw [List.find?_cons,List.length_cons,List.range'_succ,List.filter_cons,hq]
  cases hr : decide (jda r st < 0) with
  | true=>exact ⟨i,_,rfl,hi⟩
  | false=>exact ih
noncomputable def brkL (b : Bk) (st : List Int) : List Nat:=(List.range b.rls.length).filter (qB b st)
theorem jo6 {b : Bk} {st : List Int} (h : fstB b st = none) : brkL b st = []:=by
 have:=jj8 (st:=st) b.rls 0 rfl
 unfold fstB at h
 rw [h] at this
 unfold brkL
 rw [List.range_eq_range']
 exact this
theorem jo7 {b : Bk} {st : List Int} {r : Rul} (h : fstB b st = some r) : ∃ k rest,brkL b st = k :: rest ∧ b.rls[k]? = some r:=by
 have:=jj8 (st:=st) b.rls 0 rfl
 unfold fstB at h
 rw [h] at this
 unfold brkL
 rw [List.range_eq_range']
 exact this
theorem jul {c : DSt} {tc : DSt → M Bool} {fe : DSt → M D} {p : D → Bool} : ∀ (ds : List D) (x : Option D),(∀ d ∈ ds,tc (some d :: c) = some (.ok (p d)) ∧ fe (some d :: c) = some (.ok d)) → jc3 (DL.gName 0) tc fe ds (x :: c) = some (ds.filter p)
 | [],_,_=>rfl
 | d :: ds,x,h=>by
  obtain ⟨h1,h2⟩:=h d List.mem_cons_self
  have ih:=jul ds (some d) fun y hy=>h y (List.mem_cons_of_mem _ hy)
  conv=>lhs; unfold jc3
  show (match tc (some d :: c) with
   | some (.ok true)=>(match fe (some d :: c) with
    | some (.ok y)=>(jc3 (DL.gName 0) tc fe ds (some d :: c)).map (y :: ·)
    | _=>none)
   | some (.ok false)=>jc3 (DL.gName 0) tc fe ds (some d :: c)
   | _=>none) = _
  rw [h1,List.filter_cons]
  cases hp : p d with
  | true =>
   dsimp only
   rw [h2,ih,if_pos rfl]
   rfl
  | false =>
   dsimp only
   rw [ih,if_neg (by decide)]
theorem ju7 {ds : List D} (h : okDs ds = true) (h2 : depDs ds ≤ 19) : gEq (.lst ds) (.lst []) = some (.bl ds.isEmpty):=by
 unfold gEq
 rw [if_pos]
 ·congr 2
  cases ds with
  | nil=>unfold eqB; unfold eqBs; rfl
  | cons d ds=>unfold eqB; unfold eqBs; rfl
 ·rw [Bool.and_eq_true,Bool.and_eq_true,decide_eq_true_eq]
  refine ⟨⟨h,rfl⟩,?_⟩
  show depDs ds + 1 ≤ 20
  omega
theorem okI (st : List Int) : okD (stD st) = true:=by unfold okD; exact jdi fun x _=>by unfold okD; rfl
theorem depI (st : List Int) : depD (stD st) ≤ 20:=by
 unfold depD
 have:=jcl (f:=D.int) (k:=0) (xs:=st) fun x _=>by unfold depD; omega
 omega
theorem jr7 (st : List Int) : gEq (stD st) (stD st) = some (.bl true):=jnc (okI st) (depI st)
theorem jyh (st : List Int) : gNe (stD st) (stD st) = some (.bl false):=js5 (okI st) (depI st)
theorem ju5 (L : List Nat) : gEq (.lst (L.map fun i=>.int (0 + (i : Nat)))) (.lst []) = some (.bl L.isEmpty):=by
 rw [ju7 (jdi fun x _=>by unfold okD; rfl) (Nat.le_trans (jcl (k:=0) fun x _=>by unfold depD; omega) (by decide)),List.isEmpty_map]
theorem jo5 {b : Bk} {k : Nat} {st : List Int} (hb : BkOk b) (hk : k ≤ 1000) (hs : StOk k st) : jc3 (DL.gName 0) (t2 gLt (jbb jb5 (jad (fVar 1) (jad (fVar 0) (jad (fVar 2) fNil)))) (fC (.int 0))) jdf (ja4 0 b.rls.length) [none,some (bkD b),some (stD st)] = some ((brkL b st).map fun i=>.int (0 + (i : Nat))):=by
 have e:=jul (c:=[some (bkD b),some (stD st)]) (tc:=t2 gLt (jbb jb5 (jad (fVar 1) (jad (fVar 0) (jad (fVar 2) fNil)))) (fC (.int 0))) (fe:=jdf) (p:=fun d=>match d with | .int i=>qB b st i.toNat | _=>false) (ja4 0 b.rls.length) none (fun d hd=>by
  obtain ⟨j,hj,rfl⟩:=jmh hd
  have hr : b.rls[j]? = some b.rls[j]:=List.getElem?_eq_getElem hj
  have v:=jnn hb hk hs hr
  have e0 : ((0 : Int) + (j : Nat)) = (j : Nat):=Int.zero_add _
  rw [e0]
  refine ⟨?_,rfl⟩
  have hq : qB b st (((j : Nat) : Int)).toNat = decide (jda b.rls[j] st < 0):=by rw [Int.toNat_natCast]; unfold qB; rw [hr]
  dsimp only
  rw [hq]
  simp only [stp,v]
  rfl)
 rw [e]
 unfold ja4 brkL
 rw [List.filter_map]
 congr 2
 refine List.filter_congr fun i _=>?_
 show qB b st ((0 : Int) + (i : Nat)).toNat = qB b st i
 rw [Int.zero_add,Int.toNat_natCast]
theorem eif {t : DSt → MS Bool} {g1 g2 : DSt → MS Out} {δ : DSt} {Ω Ω' : Sto} {c : Bool} (h : t δ Ω = some (.ok c,Ω')) : eIf t g1 g2 δ Ω = if c = true then g1 δ Ω' else g2 δ Ω':=by
 unfold eIf
 rw [MS.b_ok h]
 cases c <;> rfl
theorem jsa {g1 g2 : DSt → MS Out} {δ : DSt} {Ω Ω' : Sto} {d : D} (h : g1 δ Ω = some (.ok (.rt d),Ω')) : eSeq g1 g2 δ Ω = some (.ok (.rt d),Ω'):=by
 unfold eSeq
 rw [MS.b_ok h]
 rfl
noncomputable def je2 (b : Bk) (d : Ded) (st : List Int) (n : Int) (p : Nat) (Ω : Sto) : Sto:=(jh9 b d st n p Ω).2
theorem jqg {b : Bk} {k p j : Nat} {d : Ded} {st : List Int} {n : Int} {Ω : Sto} (hb : BkOk b) (hk : k + 1 ≤ 1000) (hs : StOk k st) (hj : b.dds[j]? = some d) (hn : n.natAbs ≤ 7) (hp : Ω[p]? = some (jaf b st)) :
  jd4 [bkD b,.obj p,stD st,.int (j : Nat),.int n] Ω = some (.ok (.bl true),je2 b d st n p Ω):=by
 have hd:=hb.dd d (List.mem_of_getElem? hj)
 have ha:=jhw hd hs hn
 have ei:=atI_get (xs:=b.dds.map dedD) (j:=j) (v:=dedD d) (by rw [List.getElem?_map,hj]; rfl)
 have ec:=jdp (c:=[some (.int n)]) (fe:=jde) (K:=fun p : Int × Int × Int=>(D.int p.1,chD p.2)) (F:=fun p=>.int (p.1 + p.2.1 * n + p.2.2)) (st.zip d.chs) none none (fun p hp=>by
  unfold jde chD
  have:=jqw hd hn (List.of_mem_zip hp).2
  simp only [stp,this]; rfl)
 have ln : ((st.zip d.chs).map fun p=>D.int (p.1 + p.2.1 * n + p.2.2)).length ≤ 1000:=by rw [List.length_map,List.length_zip]; have:=hs.len; omega
 have hm : (st.zip d.chs).map (fun p=>D.int (p.1 + p.2.1 * n + p.2.2)) = (jan d st n).map .int:=jnt (fun p : Int × Int × Int=>D.int (p.1 + p.2.1 * n + p.2.2)) (fun p=>p.1 + p.2.1 * n + p.2.2) _ fun _=>rfl
 rw [hm] at ec ln
 have s5 : gSet 5 (fL kTuple (jad (jel 2 [("_law_n",4)] (jc6 jb6 (jad (fVar 2) (jad (f2 gIx (f2 gIx (f2 gIx (fVar 0) (fC (.int 2))) (fVar 3)) (fC (.int 3))) fNil))) (jcn 0 1) tYes jde) fNil)) [some (bkD b),some (.obj p),some (stD st),some (.int (j : Nat)),some (.int n),none,none,none,none] = some (.ok (.nx [some (bkD b),some (.obj p),some (stD st),some (.int (j : Nat)),some (.int n),some (stD (jan d st n)),none,none,none])):=by
  refine jea 5 ?_
  simp only [stp,ei,dedD,jg6,ec,jfn ln]
  rfl
 have bc:=jo5 hb hk ha
 have ln2 : ((brkL b (jan d st n)).map fun i=>D.int (0 + (i : Nat))).length ≤ 1000:=by
  rw [List.length_map]
  have:=List.length_filter_le (qB b (jan d st n)) (List.range b.rls.length)
  rw [List.length_range] at this
  have h4:=hb.r4
  exact Nat.le_trans this (by omega)
 have s6 : gSet 6 (jel 1 [("_law_book_here",0),("_law_after",5)] (jc6 jbv (jad (fL kLen (jad (f2 gIx (fVar 0) (fC (.int 1))) fNil)) fNil)) (DL.gName 0) (t2 gLt (jbb jb5 (jad (fVar 1) (jad (fVar 0) (jad (fVar 2) fNil)))) (fC (.int 0))) jdf) [some (bkD b),some (.obj p),some (stD st),some (.int (j : Nat)),some (.int n),some (stD (jan d st n)),none,none,none] =
   some (.ok (.nx [some (bkD b),some (.obj p),some (stD st),some (.int (j : Nat)),some (.int n),some (stD (jan d st n)),some (.lst ((brkL b (jan d st n)).map fun i=>.int (0 + (i : Nat)))),none,none])):=by
  refine jea 6 ?_
  simp only [stp,List.length_map,bc,jfn ln2]
  rfl
 have dn:=jr2 hb hk hs hj hn hp
 have e : jd4 [bkD b,.obj p,stD st,.int (j : Nat),.int n] Ω = MS.b (jd1 [some (bkD b),some (.obj p),some (stD st),some (.int (j : Nat)),some (.int n),none,none,none,none]) outE Ω:=rfl
 rw [e]
 refine (MS.b_ok (a:=.rt (.bl true)) (Ω1:=je2 b d st n p Ω) ?_).trans rfl
 unfold jd1
 rw [eseq (Ω':=Ω) (by unfold lF MS.l; rw [s5]; rfl),eseq (Ω':=Ω) (by unfold lF MS.l; rw [s6]; rfl)]
 have eb:=ju5 (brkL b (jan d st n))
 unfold je2
 cases hf : fstB b (jan d st n) with
 | none =>
  have dr : jh9 b d st n p Ω = (.tup [.non,.non],Ω.set p (jaf b (jan d st n))):=by unfold jh9; rw [hf]
  rw [dr] at dn ⊢
  have pl : p < Ω.length:=(List.getElem?_eq_some_iff.mp hp).1
  have hp' : (Ω.set p (jaf b (jan d st n)))[p]? = some (jaf b (jan d st n)):=List.getElem?_set_self pl
  rw [eseq (δ':=[some (bkD b),some (.obj p),some (stD st),some (.int (j : Nat)),some (.int n),some (stD (jan d st n)),some (.lst ((brkL b (jan d st n)).map fun i=>.int (0 + (i : Nat)))),some .non,some .non]) (Ω':=Ω.set p (jaf b (jan d st n))) (by
   unfold eAsg jf1
   rw [MS.b_ok (a:=.tup [.non,.non]) (Ω1:=Ω.set p (jaf b (jan d st n))) (by rw [MS.b_ok (a:=[.obj p,.int (j : Nat),.int n]) (Ω1:=Ω) rfl]; exact dn)]
   rfl)]
  rw [jo6 hf] at eb ⊢
  rw [List.map_nil] at eb ⊢
  have st' : jdb "Plain" "state" jal (lF (fVar 1)) (lF fNil) [some (bkD b),some (.obj p),some (stD st),some (.int (j : Nat)),some (.int n),some (stD (jan d st n)),some (.lst []),some .non,some .non] (Ω.set p (jaf b (jan d st n))) = some (.ok (stD (jan d st n)),Ω.set p (jaf b (jan d st n))):=by
   rw [jc1 (by rfl) hp' rfl rfl]
   exact jft hp'
  have cmp : m2 gEq (jdb "Plain" "state" jal (lF (fVar 1)) (lF fNil)) (lF (fVar 5)) [some (bkD b),some (.obj p),some (stD st),some (.int (j : Nat)),some (.int n),some (stD (jan d st n)),some (.lst []),some .non,some .non] (Ω.set p (jaf b (jan d st n))) = some (.ok (.bl true),Ω.set p (jaf b (jan d st n))):=by
   unfold m2
   rw [MS.b_ok st',MS.b_ok (a:=stD (jan d st n)) (Ω1:=Ω.set p (jaf b (jan d st n))) rfl,jr7]
   rfl
  have ret : eIf (lF (t2 gEq (fVar 6) (fL jb0 fNil))) (eRet (jhe (lF (f2 gIs (fVar 8) (fC .non))) (jhe (lF (f2 gIs (fVar 7) (fC .non))) (m2 gEq (jdb "Plain" "state" jal (lF (fVar 1)) (lF fNil)) (lF (fVar 5)))))) eNx [some (bkD b),some (.obj p),some (stD st),some (.int (j : Nat)),some (.int n),some (stD (jan d st n)),some (.lst []),some .non,some .non] (Ω.set p (jaf b (jan d st n))) = some (.ok (.rt (.bl true)),Ω.set p (jaf b (jan d st n))):=by
   rw [eif (c:=true) (Ω':=Ω.set p (jaf b (jan d st n))) (by
    have : t2 gEq (fVar 6) (fL jb0 fNil) [some (bkD b),some (.obj p),some (stD st),some (.int (j : Nat)),some (.int n),some (stD (jan d st n)),some (.lst []),some .non,some .non] = some (.ok true):=by simp only [stp,eb]; rfl
    unfold lF MS.l
    rw [this]
    rfl),if_pos rfl]
   unfold eRet jhe
   rw [MS.b_ok (a:=.bl true) (Ω1:=Ω.set p (jaf b (jan d st n))) (by rw [MS.b_ok (a:=.bl true) (Ω1:=Ω.set p (jaf b (jan d st n))) rfl]; dsimp only; rw [MS.b_ok (a:=.bl true) (Ω1:=Ω.set p (jaf b (jan d st n))) rfl]; exact cmp)]
   rfl
  exact jsa ret
 | some r =>
  obtain ⟨k0,rest,hbk,hrk⟩:=jo7 hf
  have dr : jh9 b d st n p Ω = (.tup [.str "nothing",.obj Ω.length],errs Ω false r.nm):=by unfold jh9; rw [hf]
  rw [dr] at dn ⊢
  have hp' : (errs Ω false r.nm)[p]? = some (jaf b st):=jgu hp
  rw [eseq (δ':=[some (bkD b),some (.obj p),some (stD st),some (.int (j : Nat)),some (.int n),some (stD (jan d st n)),some (.lst ((brkL b (jan d st n)).map fun i=>.int (0 + (i : Nat)))),some (.str "nothing"),some (.obj Ω.length)]) (Ω':=errs Ω false r.nm) (by
   unfold eAsg jf1
   rw [MS.b_ok (a:=.tup [.str "nothing",.obj Ω.length]) (Ω1:=errs Ω false r.nm) (by rw [MS.b_ok (a:=[.obj p,.int (j : Nat),.int n]) (Ω1:=Ω) rfl]; exact dn)]
   rfl)]
  rw [hbk] at eb ⊢
  rw [List.map_cons] at eb ⊢
  generalize hδ : [some (bkD b),some (.obj p),some (stD st),some (.int (j : Nat)),some (.int n),some (stD (jan d st n)),some (.lst (.int (0 + (k0 : Nat)) :: rest.map fun i=>.int (0 + (i : Nat)))),some (.str "nothing"),some (.obj Ω.length)] = δ
  have isx : ∀ g : Str → Bool,mIsX xcs g (lF (fVar 8)) δ (errs Ω false r.nm) = some (.ok (.bl (g "Broken")),errs Ω false r.nm):=fun g=>by
   unfold mIsX
   rw [MS.b_ok (a:=.obj Ω.length) (Ω1:=errs Ω false r.nm) (by rw [← hδ]; rfl)]
   unfold isX
   dsimp only
   rw [jgt]
   dsimp only
   rw [ji8]
   dsimp only
   rw [if_pos (by decide)]
  have tru : ∀ {g : Str → Bool} {c : Bool},g "Broken" = c → mTru (mIsX xcs g (lF (fVar 8))) δ (errs Ω false r.nm) = some (.ok c,errs Ω false r.nm):=fun {g c} hg=>by
   unfold mTru
   rw [MS.b_ok (isx g),hg]
   rfl
  have nt : ∀ {t : DSt → MS Bool} {c : Bool},t δ (errs Ω false r.nm) = some (.ok c,errs Ω false r.nm) → mNot t δ (errs Ω false r.nm) = some (.ok !c,errs Ω false r.nm):=fun h=>by
   unfold mNot
   rw [MS.b_ok h]
   rfl
  have orf : ∀ {t u : DSt → MS Bool} {c : Bool},t δ (errs Ω false r.nm) = some (.ok false,errs Ω false r.nm) → u δ (errs Ω false r.nm) = some (.ok c,errs Ω false r.nm) → mOr t u δ (errs Ω false r.nm) = some (.ok c,errs Ω false r.nm):=fun h1 h2=>by
   unfold mOr
   rw [MS.b_ok h1,if_neg (by decide)]
   exact h2
  have i1 : eIf (lF (t2 gEq (fVar 6) (fL jb0 fNil))) (eRet (jhe (lF (f2 gIs (fVar 8) (fC .non))) (jhe (lF (f2 gIs (fVar 7) (fC .non))) (m2 gEq (jdb "Plain" "state" jal (lF (fVar 1)) (lF fNil)) (lF (fVar 5)))))) eNx δ (errs Ω false r.nm) = some (.ok (.nx δ),errs Ω false r.nm):=by
   rw [eif (c:=false) (Ω':=errs Ω false r.nm) (by
    have : t2 gEq (fVar 6) (fL jb0 fNil) δ = some (.ok false):=by rw [← hδ]; simp only [stp,eb]; rfl
    unfold lF MS.l
    rw [this]
    rfl),if_neg (by decide)]
   rfl
  have i2 : eIf (mOr (mNot (mTru (mIsX xcs (fun c=>c == "Broken") (lF (fVar 8))))) (mOr (mNot (mTru (mIsX xcs (fun _=>true) (lF (fVar 8))))) (mTru (mIsX xcs (fun c=>c == "ShortShare") (lF (fVar 8)))))) (lF (gRet (fC (.bl false)))) eNx δ (errs Ω false r.nm) = some (.ok (.nx δ),errs Ω false r.nm):=by
   rw [eif (c:=false) (Ω':=errs Ω false r.nm) (orf (nt (tru (c:=true) (by decide))) (orf (nt (tru (c:=true) rfl)) (tru (c:=false) (by decide)))),if_neg (by decide)]
   rfl
  have st' : jdb "Plain" "state" jal (lF (fVar 1)) (lF fNil) δ (errs Ω false r.nm) = some (.ok (stD st),errs Ω false r.nm):=by
   rw [jc1 (p:=p) (ds:=[]) (by rfl) hp' (by rw [← hδ]; rfl) rfl]
   exact jft hp'
  have cmp : m2 gEq (jdb "Plain" "state" jal (lF (fVar 1)) (lF fNil)) (lF (fVar 2)) δ (errs Ω false r.nm) = some (.ok (.bl true),errs Ω false r.nm):=by
   unfold m2
   rw [MS.b_ok st',MS.b_ok (a:=stD st) (Ω1:=errs Ω false r.nm) (by rw [← hδ]; rfl),jr7]
   rfl
  have gx : jno xcs "name" (lF (fVar 8)) δ (errs Ω false r.nm) = some (.ok (.str r.nm),errs Ω false r.nm):=by
   unfold jno
   rw [MS.b_ok (a:=.obj Ω.length) (Ω1:=errs Ω false r.nm) (by rw [← hδ]; rfl)]
   unfold getX
   dsimp only
   rw [jgt]
   dsimp only
   rw [ji8]
   dsimp only
   rw [if_pos (by decide)]
   rfl
  have er:=atI_get (xs:=b.rls.map rulD) (j:=k0) (v:=rulD r) (by rw [List.getElem?_map,hrk]; rfl)
  have nx : lF (f2 gIx (f2 gIx (f2 gIx (fVar 0) (fC (.int 1))) (f2 gIx (fVar 6) (fC (.int 0)))) (fC (.int 0))) δ (errs Ω false r.nm) = some (.ok (.str r.nm),errs Ω false r.nm):=by
   have : f2 gIx (f2 gIx (f2 gIx (fVar 0) (fC (.int 1))) (f2 gIx (fVar 6) (fC (.int 0)))) (fC (.int 0)) δ = some (.ok (.str r.nm)):=by
    rw [← hδ]
    simp only [stp,Int.zero_add,er,rulD]
    rfl
   unfold lF MS.l
   rw [this]
   rfl
  have cmp1 : m2 gEq (jno xcs "name" (lF (fVar 8))) (lF (f2 gIx (f2 gIx (f2 gIx (fVar 0) (fC (.int 1))) (f2 gIx (fVar 6) (fC (.int 0)))) (fC (.int 0)))) δ (errs Ω false r.nm) = some (.ok (.bl true),errs Ω false r.nm):=by
   unfold m2
   rw [MS.b_ok gx,MS.b_ok nx,jnc (by unfold okD; rfl) (by unfold depD; omega)]
   rfl
  rw [eseq i1,eseq i2]
  unfold eRet jhe
  rw [MS.b_ok (a:=.bl true) (Ω1:=errs Ω false r.nm) (by rw [MS.b_ok cmp1]; exact cmp)]
  rfl
end
end MyLaw
namespace MyLaw
open PySem PySem.Spec L2 DL
noncomputable section
noncomputable abbrev scr (ns : List Int) : D:=.lst (ns.map .int)
theorem jw6 (ns : List Int) (k : Int) (h0 : 0 ≤ k) : ∃ i,jar [scr ns,.int k] = some (.ok (.int i)):=by
 unfold jar
 rw [jhm]
 unfold jd0
 obtain ⟨k,rfl⟩:=Int.eq_ofNat_of_zero_le h0
 by_cases h : k < ns.length
 ·refine ⟨ns[k],?_⟩
  have h2 : ((k : Int) < (ns.length : Int)):=by omega
  simp [h2,DL.atI_get (xs:=ns.map D.int) (j:=k) (v:=.int ns[k]) (by simp [h]),M.p]
 ·refine ⟨0,?_⟩
  have h2 : ¬ ((k : Int) < (ns.length : Int)):=by omega
  simp [h2,M.p]
noncomputable def gI (m : M D) : Int:=match m with
 | some (.ok (.int i))=>i
 | _=>0
theorem jva {m : M D} {i : Int} (h : m = some (.ok (.int i))) : m = some (.ok (.int (gI m))):=by rw [h]; rfl
noncomputable def jdo (ns : List Int) (k : Int) : Int:=gI (jar [scr ns,.int k])
theorem jfw {ns : List Int} {k : Int} (h0 : 0 ≤ k) : jar [scr ns,.int k] = some (.ok (.int (jdo ns k))):=let ⟨_,h⟩:=jw6 ns k h0; jva h
theorem jrw {k m : Nat} {n : Int} (h0 : 0 ≤ n) (h1 : n < (m : Int)) (h2 : m ≤ 2 ^ k) : Bt k n:=by
 obtain ⟨j,rfl⟩:=Int.eq_ofNat_of_zero_le h0
 exact Nat.lt_of_lt_of_le (Int.ofNat_lt.mp h1) h2
theorem jw7 (n p : Int) (h0 : 0 ≤ p) (hp : p ≤ 1000) : ∃ r,ja8 [.int n,.int p] = some (.ok (.int r)) ∧ 0 ≤ r:=by
 unfold ja8
 rw [jhm]
 unfold jgr
 have h1:=Int.emod_nonneg n (show (1000003 : Int) ≠ 0 by decide)
 have h2:=Int.emod_lt_of_pos n (show (0 : Int) < 1000003 by decide)
 have bp : Bt 10 p:=jrw (m:=1001) h0 (Int.lt_add_one_of_le hp) (by decide)
 have a1 : jcw (.int p) (.int p) = some (.int (p * p)):=jdl bp bp
 have b1 : Bt 20 (p * p):=bp.mul bp
 have a2 : jcw (.int (p * p)) (.int 7919) = some (.int (p * p * 7919)):=jdl (b:=13) b1 (by unfold Bt; decide)
 have b2 : Bt 33 (p * p * 7919):=Bt.mul (b:=13) b1 (by unfold Bt; decide)
 have b3 : Bt 35 (n % 1000003 + p * p * 7919 + p):=(Bt.add (a:=33) (jrw (m:=1000003) h1 h2 (by decide)) b2).add (bp.mono (by decide))
 have a3 : jcw (.int (n % 1000003 + p * p * 7919 + p)) (.int 48271) = some (.int ((n % 1000003 + p * p * 7919 + p) * 48271)):=jdl (b:=16) b3 (by unfold Bt; decide)
 generalize hx : (n % 1000003 + p * p * 7919 + p) * 48271 % 2147483629 = x
 have x1 : 0 ≤ x:=by rw [← hx]; exact Int.emod_nonneg _ (by decide)
 have x2 : x < 2147483629:=by rw [← hx]; exact Int.emod_lt_of_pos _ (by decide)
 have bx : Bt 32 x:=jrw (m:=2147483629) x1 x2 (by decide)
 have a4 : jcw (.int x) (.int x) = some (.int (x * x)):=jdl bx bx
 generalize hy : x * x % 2147483587 = y
 have y1 : 0 ≤ y:=by rw [← hy]; exact Int.emod_nonneg _ (by decide)
 refine ⟨y / 7,?_,by omega⟩
 simp [jbo (i:=n) (j:=1000003) (by decide),a1,a2,a3,jbo (i:=(n % 1000003 + p * p * 7919 + p) * 48271) (j:=2147483629) (by decide),hx,a4,jbo (i:=x * x) (j:=2147483587) (by decide),hy,jdz (i:=y) (j:=7) (by decide) (by decide),List.replicate]
 rfl
noncomputable def mixF (n p : Int) : Int:=gI (ja8 [.int n,.int p])
theorem jhj {n p : Int} (h0 : 0 ≤ p) (hp : p ≤ 1000) : ja8 [.int n,.int p] = some (.ok (.int (mixF n p))):=let ⟨_,h,_⟩:=jw7 n p h0 hp; jva h
theorem jwr {n p : Int} (h0 : 0 ≤ p) (hp : p ≤ 1000) : 0 ≤ mixF n p:=by
 obtain ⟨r,h,q⟩:=jw7 n p h0 hp
 unfold mixF
 rw [h]; exact q
noncomputable def isSt : Option D → Bool
 | some (.str _)=>true
 | _=>false
theorem jsj {d : Option D} (h : isSt d = true) : ∃ s,d = some (.str s):=by
 unfold isSt at h
 split at h
 ·exact ⟨_,rfl⟩
 ·cases h
noncomputable def jv0 (k m q : Nat) : Option D:=(gIx (.str "abcdefghijklmnop") (.int k)).bind fun c=>(jcw c (.int (1 + (m : Int)))).bind fun x=>(gIx (.str "xyz") (.int q)).bind fun y=>gCat x y
theorem jp5 : ∀ k ∈ List.range 16,∀ m ∈ List.range 9,∀ q ∈ List.range 3,isSt (jv0 k m q) = true:=by decide +kernel
theorem jkn (ns : List Int) {k : Nat} (hk : k < 16) : ∃ s,jb8 [scr ns,.int (k : Nat)] = some (.ok (.str s)):=by
 have c:=jfw (ns:=ns) (k:=4) (by decide)
 have mx:=jhj (n:=jdo ns 4) (p:=200 + (k : Int)) (by omega) (by omega)
 have m0:=jwr (n:=jdo ns 4) (p:=200 + (k : Int)) (by omega) (by omega)
 generalize mixF (jdo ns 4) (200 + (k : Int)) = m at mx m0
 have r1:=Int.emod_nonneg m (show (9 : Int) ≠ 0 by decide)
 have r2:=Int.emod_lt_of_pos m (show (0 : Int) < 9 by decide)
 have r3:=Int.emod_nonneg (m / 9) (show (3 : Int) ≠ 0 by decide)
 have r4:=Int.emod_lt_of_pos (m / 9) (show (0 : Int) < 3 by decide)
 have e1:=jbo (i:=m) (j:=9) (by decide)
 have e2:=jdz (i:=m) (j:=9) (by decide) (by decide)
 have e3:=jbo (i:=m / 9) (j:=3) (by decide)
 obtain ⟨a,ha⟩:=Int.eq_ofNat_of_zero_le r1
 obtain ⟨q,hq⟩:=Int.eq_ofNat_of_zero_le r3
 rw [ha] at e1 r2
 rw [hq] at e3 r4
 obtain ⟨s,hs⟩:=jsj (jp5 k (List.mem_range.mpr hk) a (List.mem_range.mpr (by omega)) q (List.mem_range.mpr (by omega)))
 refine ⟨s,?_⟩
 unfold jv0 at hs
 obtain ⟨x1,f1,hs⟩:=Option.bind_eq_some_iff.mp hs
 obtain ⟨x2,f2',hs⟩:=Option.bind_eq_some_iff.mp hs
 obtain ⟨x3,f3,hs⟩:=Option.bind_eq_some_iff.mp hs
 unfold jb8
 rw [jhm]
 unfold jfz
 simp only [stp,c,mx,e1,e2,e3,f1,f2',f3,hs,Nat.reduceSub]
 rfl
end
end MyLaw
namespace MyLaw
open PySem PySem.Spec L2 DL
noncomputable section
theorem jyi : gPow (.int 10) (.int 25) = some (.int 10000000000000000000000000):=by rw [jtm (by decide)]; rfl
theorem range_len (n : Nat) : (ja4 0 n).length = n:=by unfold ja4; rw [List.length_map,List.length_range]
theorem jes {n j : Nat} (h : j < (ja4 0 n).length) : (ja4 0 n)[j] = .int (j : Nat):=by
 simp [ja4]
theorem jps (ns : List Int) : ∃ its : List (Str × Int),jd3 [scr ns] = some (.ok (.lst (its.map itD))) ∧ its.length ≤ 3 ∧ ∀ p ∈ its,p.2.natAbs ≤ 2 ^ 90:=by
 have c0:=jfw (ns:=ns) (k:=0) (by decide)
 have mx:=jhj (n:=jdo ns 0) (p:=1) (by decide) (by decide)
 generalize mixF (jdo ns 0) 1 = m at mx
 have r1:=Int.emod_nonneg m (show (3 : Int) ≠ 0 by decide)
 have r2:=Int.emod_lt_of_pos m (show (0 : Int) < 3 by decide)
 have e3:=jbo (i:=m) (j:=3) (by decide)
 generalize m % 3 = r at r1 r2 e3
 obtain ⟨N,hN⟩ : ∃ N : Nat,1 + r = (N : Int):=⟨(1 + r).toNat,by omega⟩
 have c1:=jfw (ns:=ns) (k:=1) (by decide)
 obtain ⟨δ',e,its,k',a,c,rfl,hl,hb⟩:=jgq (g:=jec) (tg:=DL.gName 2) (ja4 0 N) (fun j δ=>∃ (its : List (Str × Int)) (k a c : Option D),δ = [some (scr ns),some (.lst (its.map itD)),k,a,c] ∧ its.length = j ∧ ∀ p ∈ its,p.2.natAbs ≤ 2 ^ 90)
  (fun j hj δ ⟨its,k,a,c,hδ,hl,hb⟩=>by
   subst hδ
   rw [range_len] at hj
   have mx1:=jhj (n:=jdo ns 1) (p:=10 + (j : Int)) (by omega) (by omega)
   generalize mixF (jdo ns 1) (10 + (j : Int)) = d at mx1
   obtain ⟨s,hs⟩:=jkn ns (k:=j) (by omega)
   have f1:=jbo (i:=d) (j:=41) (by decide)
   have f2':=jdz (i:=d) (j:=41) (by decide) (by decide)
   have f3:=jbo (i:=d / 41) (j:=8) (by decide)
   have q1:=Int.emod_nonneg d (show (41 : Int) ≠ 0 by decide)
   have q2:=Int.emod_lt_of_pos d (show (0 : Int) < 41 by decide)
   have e2 : (2 : Nat) ^ 90 = 1237940039285380274899124224:=by decide
   have la : (its.map itD).length ≤ 100000:=by rw [List.length_map]; omega
   refine ⟨[some (scr ns),some (.lst (its.map itD)),some (.int (j : Nat)),a,c],by rw [jes]; rfl,?_⟩
   let st : Int:=if d / 41 % 8 = 1 then d % 41 - 10 + 10000000000000000000000000 else d % 41 - 10
   refine ⟨[some (scr ns),some (.lst ((its ++ [(s,st)]).map itD)),some (.int (j : Nat)),some (.int d),some (.int st)],.inl ?_,its ++ [(s,st)],_,_,_,rfl,by rw [List.length_append,hl]; rfl,fun p hp=>?_⟩
   ·unfold jec
    rw [jd9 (δ':=[some (scr ns),some (.lst (its.map itD)),some (.int (j : Nat)),some (.int d),c]) (jea 3 (by simp only [stp,c1,mx1] <;> rfl)),
     jd9 (δ':=[some (scr ns),some (.lst (its.map itD)),some (.int (j : Nat)),some (.int d),some (.int (d % 41 - 10))]) (jea 4 (by simp only [stp,f1] <;> rfl)),
     jd9 (δ':=[some (scr ns),some (.lst (its.map itD)),some (.int (j : Nat)),some (.int d),some (.int st)]) ?_]
    ·rw [jow (d:=itD (s,st)) (ds:=its.map itD) 1 (by simp only [stp,hs] <;> rfl) rfl la]
     rw [List.map_append]
     rfl
    ·have ht : t2 gEq (f2 gMod (f2 je5 (fVar 3) (fC (.int 41))) (fC (.int 8))) (fC (.int 1)) [some (scr ns),some (.lst (its.map itD)),some (.int (j : Nat)),some (.int d),some (.int (d % 41 - 10))] = some (.ok (decide (d / 41 % 8 = 1))):=by
      simp only [stp,f2',f3]
      rfl
     rw [w_if ht]
     by_cases h : d / 41 % 8 = 1
     ·rw [if_pos (by simpa using h),jea (d:=.int (d % 41 - 10 + 10000000000000000000000000)) 4 (by simp only [stp,jyi] <;> rfl)]
      simp only [st,if_pos h]
      rfl
     ·rw [if_neg (by simpa using h)]
      simp only [st,if_neg h]
      rfl
   ·rcases List.mem_append.mp hp with hp | hp
    ·exact hb p hp
    ·rw [List.mem_singleton] at hp
     subst hp
     show st.natAbs ≤ _
     simp only [st]
     rw [e2]
     split <;> omega) [some (scr ns),some (.lst []),none,none,none] ⟨[],none,none,none,rfl,rfl,fun p hp=>by cases hp⟩
 rw [range_len] at hl
 refine ⟨its,?_,by omega,hb⟩
 unfold jd3
 rw [jld]
 unfold je7
 rw [jd9 (δ':=[some (scr ns),some (.lst []),none,none,none]) (jea 1 rfl),
  jd9 (δ':=[some (scr ns),some (.lst (its.map itD)),k',a,c]) (by rw [jox (ds:=ja4 0 N) (by simp only [stp,c0,mx,e3,hN] <;> rfl)]; exact e),jt8 (d:=.lst (its.map itD)) rfl]
 rfl
theorem jyo {r : Int} (h0 : 0 ≤ r) (h1 : r < 8) : ∃ v : Int,gIx (.lst [.int 0,.int 1,.int 1,.int (-1),.int 2,.int 0,.int 1,.int (-2)]) (.int r) = some (.int v) ∧ v.natAbs ≤ 2:=by
 obtain ⟨n,rfl⟩:=Int.eq_ofNat_of_zero_le h0
 have hn : n < 8:=by omega
 match n,hn with
 | 0,_=>exact ⟨_,rfl,by decide⟩
 | 1,_=>exact ⟨_,rfl,by decide⟩
 | 2,_=>exact ⟨_,rfl,by decide⟩
 | 3,_=>exact ⟨_,rfl,by decide⟩
 | 4,_=>exact ⟨_,rfl,by decide⟩
 | 5,_=>exact ⟨_,rfl,by decide⟩
 | 6,_=>exact ⟨_,rfl,by decide⟩
 | 7,_=>exact ⟨_,rfl,by decide⟩
noncomputable abbrev r8 (ns : List Int) (its : List (Str × Int)) (rls : List Rul) (k a b c d : Option D) : DSt:=[some (scr ns),some (.lst (its.map itD)),some (.lst (rls.map rulD)),k,a,b,c,d]
theorem jm4 (ns : List Int) {its : List (Str × Int)} (hi : its.length ≤ 3) (rls : List Rul) {k : Nat} (hk : k ≤ 4) (b c d : Option D) : ∃ (cs : List Int) (b' : Option D),forD jdd (DL.gName 5) (ja4 0 its.length) (r8 ns its rls (some (.int (k : Nat))) (some (.lst [])) b c d) = some (.ok (.nx (r8 ns its rls (some (.int (k : Nat))) (some (.lst (cs.map .int))) b' c d))) ∧ cs.length ≤ 3 ∧ ∀ x ∈ cs,x.natAbs ≤ 2:=by
 have c2:=jfw (ns:=ns) (k:=2) (by decide)
 have a5 : jcw (.int 5) (.int (k : Nat)) = some (.int (5 * (k : Nat))):=jdl (a:=10) (b:=10) (by unfold Bt; decide) (by unfold Bt; omega)
 obtain ⟨δ',e,cs,b',rfl,hl,hb⟩:=jgq (g:=jdd) (tg:=DL.gName 5) (ja4 0 its.length) (fun j δ=>∃ (cs : List Int) (b' : Option D),δ = r8 ns its rls (some (.int (k : Nat))) (some (.lst (cs.map .int))) b' c d ∧ cs.length = j ∧ ∀ x ∈ cs,x.natAbs ≤ 2)
  (fun j hj δ ⟨cs,b',hδ,hl,hb⟩=>by
   subst hδ
   rw [range_len] at hj
   have mx:=jhj (n:=jdo ns 2) (p:=20 + 5 * (k : Nat) + (j : Nat)) (by omega) (by omega)
   generalize mixF (jdo ns 2) (20 + 5 * (k : Nat) + (j : Nat)) = m at mx
   have e8:=jbo (i:=m) (j:=8) (by decide)
   obtain ⟨v,hv,hv2⟩:=jyo (Int.emod_nonneg m (show (8 : Int) ≠ 0 by decide)) (Int.emod_lt_of_pos m (show (0 : Int) < 8 by decide))
   have l8 : ∀ δ,fL jb0 (jad (fC (.int 0)) (jad (fC (.int 1)) (jad (fC (.int 1)) (jad (f1 gNeg (fC (.int 1))) (jad (fC (.int 2)) (jad (fC (.int 0)) (jad (fC (.int 1)) (jad (f1 gNeg (fC (.int 2))) fNil)))))))) δ = some (.ok (.lst [.int 0,.int 1,.int 1,.int (-1),.int 2,.int 0,.int 1,.int (-2)])):=fun _=>rfl
   have la : (cs.map D.int).length ≤ 100000:=by rw [List.length_map]; omega
   refine ⟨r8 ns its rls (some (.int (k : Nat))) (some (.lst (cs.map .int))) (some (.int (j : Nat))) c d,by rw [jes]; rfl,r8 ns its rls (some (.int (k : Nat))) (some (.lst ((cs ++ [v]).map .int))) (some (.int (j : Nat))) c d,.inl ?_,cs ++ [v],_,rfl,by rw [List.length_append,hl]; rfl,fun x hx=>?_⟩
   ·unfold jdd
    rw [jow (d:=.int v) (ds:=cs.map .int) 4 ?_ rfl la,List.map_append]
    ·rfl
    ·rw [e_2,l8,M.b_ok]
     simp only [stp,c2,a5,mx,e8,hv] <;> rfl
   ·rcases List.mem_append.mp hx with hx | hx
    ·exact hb x hx
    ·rw [List.mem_singleton] at hx; rw [hx]; exact hv2) (r8 ns its rls (some (.int (k : Nat))) (some (.lst [])) b c d) ⟨[],b,rfl,rfl,fun x hx=>by cases hx⟩
 rw [range_len] at hl
 exact ⟨cs,b',e,by omega,hb⟩
end
end MyLaw
namespace MyLaw
open PySem PySem.Spec L2 DL
noncomputable section
structure RulAt (i : Nat) (r : Rul) : Prop where
 len : r.cs.length ≤ 3
 bt : ∀ c ∈ r.cs,c.natAbs ≤ 2 * (i + 1)
theorem joj {ns : List Int} {its : List (Str × Int)} {rls : List Rul} {k : Nat} {cs : List Int} {b d : Option D} {m : Int} (hl : rls.length = k) (hk : k ≤ 3) (hr : ∀ i r,rls[i]? = some r → RulAt i r) (h1 : cs.length ≤ 3) (h2 : ∀ x ∈ cs,x.natAbs ≤ 2) :
  ∃ cs' : List Int,gIf (DL.tAnd (t2 gGt (fVar 3) (fC (.int 1))) (t2 gEq (f2 gMod (fVar 6) (fC (.int 3))) (fC (.int 1)))) (gSet 4 (jel 2 [] (jc6 jb6 (jad (f2 gIx (f2 gIx (fVar 2) (fC (.int 0))) (fC (.int 1))) (jad (f2 gIx (f2 gIx (fVar 2) (fC (.int 1))) (fC (.int 1))) fNil))) (jcn 0 1) tYes jdg)) gNx (r8 ns its rls (some (.int (k : Nat))) (some (.lst (cs.map .int))) b (some (.int m)) d) =
   some (.ok (.nx (r8 ns its rls (some (.int (k : Nat))) (some (.lst (cs'.map .int))) b (some (.int m)) d))) ∧ cs'.length ≤ 3 ∧ ∀ x ∈ cs',x.natAbs ≤ 2 * (k + 1):=by
 have e3:=jbo (i:=m) (j:=3) (by decide)
 by_cases hk1 : 1 < k
 ·have ht : DL.tAnd (t2 gGt (fVar 3) (fC (.int 1))) (t2 gEq (f2 gMod (fVar 6) (fC (.int 3))) (fC (.int 1))) (r8 ns its rls (some (.int (k : Nat))) (some (.lst (cs.map .int))) b (some (.int m)) d) = some (.ok (decide (m % 3 = 1))):=by
   have h' : decide ((1 : Int) < (k : Nat)) = true:=decide_eq_true (by omega)
   simp only [stp,e3,h'] <;> rfl
  rw [w_if ht]
  by_cases hm : m % 3 = 1
  ·rw [if_pos (by simpa using hm)]
   obtain ⟨r0,hr0⟩ : ∃ r,rls[0]? = some r:=⟨_,List.getElem?_eq_getElem (by omega)⟩
   obtain ⟨r1,hr1⟩ : ∃ r,rls[1]? = some r:=⟨_,List.getElem?_eq_getElem (by omega)⟩
   have g0 : atI (rls.map rulD) 0 = some (rulD r0):=atI_get (j:=0) (by rw [List.getElem?_map,hr0]; rfl)
   have g1 : atI (rls.map rulD) 1 = some (rulD r1):=atI_get (j:=1) (by rw [List.getElem?_map,hr1]; rfl)
   have a0:=hr 0 r0 hr0
   have a1:=hr 1 r1 hr1
   have ec:=jdp (c:=[]) (fe:=jdg) (K:=fun p : Int × Int=>(D.int p.1,D.int p.2)) (F:=fun p=>.int (p.1 + p.2)) (r0.cs.zip r1.cs) none none (fun p hp=>by
    unfold jdg
    simp only [stp] <;> rfl)
   have hm' : (r0.cs.zip r1.cs).map (fun p=>D.int (p.1 + p.2)) = ((r0.cs.zip r1.cs).map fun p=>p.1 + p.2).map .int:=jnt (fun p : Int × Int=>D.int (p.1 + p.2)) (fun p=>p.1 + p.2) _ fun _=>rfl
   rw [hm'] at ec
   have ll : ((r0.cs.zip r1.cs).map fun p=>p.1 + p.2).length ≤ 3:=by rw [List.length_map,List.length_zip]; have:=a0.len; omega
   have ln : ((((r0.cs.zip r1.cs).map fun p=>p.1 + p.2)).map D.int).length ≤ 1000:=by rw [List.length_map]; omega
   refine ⟨(r0.cs.zip r1.cs).map fun p=>p.1 + p.2,jea 4 (d:=.lst (((r0.cs.zip r1.cs).map fun p=>p.1 + p.2).map .int)) ?_,ll,fun x hx=>?_⟩
   ·simp only [stp,g0,g1,rulD,ec,jfn ln] <;> rfl
   ·obtain ⟨p,hp,rfl⟩:=List.mem_map.mp hx
    have z0:=a0.bt p.1 (List.of_mem_zip hp).1
    have z1:=a1.bt p.2 (List.of_mem_zip hp).2
    omega
  ·rw [if_neg (by simpa using hm)]
   exact ⟨cs,rfl,h1,fun x hx=>Nat.le_trans (h2 x hx) (by omega)⟩
 ·have ht : DL.tAnd (t2 gGt (fVar 3) (fC (.int 1))) (t2 gEq (f2 gMod (fVar 6) (fC (.int 3))) (fC (.int 1))) (r8 ns its rls (some (.int (k : Nat))) (some (.lst (cs.map .int))) b (some (.int m)) d) = some (.ok false):=by
   have h' : decide ((1 : Int) < (k : Nat)) = false:=decide_eq_false (by omega)
   simp only [stp,h'] <;> rfl
  rw [w_if ht,if_neg (by decide)]
  exact ⟨cs,rfl,h1,fun x hx=>Nat.le_trans (h2 x hx) (by omega)⟩
theorem jtx {ns : List Int} {its : List (Str × Int)} {rls : List Rul} {k : Nat} {cs : List Int} {b d : Option D} {m : Int} (hb : ∀ p ∈ its,p.2.natAbs ≤ 2 ^ 90) (hi : its.length ≤ 3) (h2 : ∀ x ∈ cs,x.natAbs ≤ 100) :
  ∃ v : Int,gSet 7 (f2 gSub (f2 gMod (f2 je5 (fVar 6) (fC (.int 3))) (fC (.int 30))) (fL kSum (jad (jel 2 [] (jc6 jb6 (jad (fVar 4) (jad (fVar 1) fNil))) (jcn 0 1) tYes jdh) fNil))) (r8 ns its rls (some (.int (k : Nat))) (some (.lst (cs.map .int))) b (some (.int m)) d) = some (.ok (.nx (r8 ns its rls (some (.int (k : Nat))) (some (.lst (cs.map .int))) b (some (.int m)) (some (.int v))))):=by
 have e1:=jdz (i:=m) (j:=3) (by decide) (by decide)
 have e2:=jbo (i:=m / 3) (j:=30) (by decide)
 have ec:=jdp (c:=[]) (fe:=jdh) (K:=fun p : Int × Str × Int=>(D.int p.1,itD p.2)) (F:=fun p=>.int (p.1 * p.2.2)) (cs.zip its) none none (fun p hp=>by
  unfold jdh itD
  have z1:=h2 p.1 (List.of_mem_zip hp).1
  have z2:=hb p.2 (List.of_mem_zip hp).2
  have : jcw (.int p.1) (.int p.2.2) = some (.int (p.1 * p.2.2)):=jdl (a:=10) (b:=100) (by unfold Bt; omega) (Nat.lt_of_le_of_lt z2 (by decide))
  simp only [stp,this] <;> rfl)
 have ln : ((cs.zip its).map fun p=>D.int (p.1 * p.2.2)).length ≤ 1000:=by rw [List.length_map,List.length_zip]; omega
 refine ⟨m / 3 % 30 - ((cs.zip its).map fun p=>p.1 * p.2.2).sum,jea 7 ?_⟩
 simp only [stp,e1,e2,jg6,ec,jfn ln,jky] <;> rfl
theorem jqh (ns : List Int) {its : List (Str × Int)} (hi : its.length ≤ 3) (hb : ∀ p ∈ its,p.2.natAbs ≤ 2 ^ 90) : ∃ rls : List Rul,jd5 [scr ns,.lst (its.map itD)] = some (.ok (.lst (rls.map rulD))) ∧ rls.length ≤ 4 ∧ ∀ r ∈ rls,RulOk r:=by
 have c0:=jfw (ns:=ns) (k:=0) (by decide)
 have mx:=jhj (n:=jdo ns 0) (p:=2) (by decide) (by decide)
 generalize mixF (jdo ns 0) 2 = m at mx
 have r1:=Int.emod_nonneg m (show (4 : Int) ≠ 0 by decide)
 have r2:=Int.emod_lt_of_pos m (show (0 : Int) < 4 by decide)
 have e3:=jbo (i:=m) (j:=4) (by decide)
 generalize m % 4 = r at r1 r2 e3
 obtain ⟨N,hN⟩ : ∃ N : Nat,1 + r = (N : Int):=⟨(1 + r).toNat,by omega⟩
 have c3:=jfw (ns:=ns) (k:=3) (by decide)
 obtain ⟨δ',e,rls,k',a,b,c,d,rfl,hl,hr⟩:=jgq (g:=jee) (tg:=DL.gName 3) (ja4 0 N) (fun j δ=>∃ (rls : List Rul) (k a b c d : Option D),δ = r8 ns its rls k a b c d ∧ rls.length = j ∧ ∀ i r,rls[i]? = some r → RulAt i r)
  (fun j hj δ ⟨rls,k,a,b,c,d,hδ,hl,hr⟩=>by
   subst hδ
   rw [range_len] at hj
   have j3 : j ≤ 3:=by omega
   refine ⟨r8 ns its rls (some (.int (j : Nat))) a b c d,by rw [jes]; rfl,?_⟩
   obtain ⟨cs,b',lp,h1,h2⟩:=jm4 ns hi rls (k:=j) (by omega) b c d
   have mx1:=jhj (n:=jdo ns 3) (p:=50 + (j : Int)) (by omega) (by omega)
   generalize mixF (jdo ns 3) (50 + (j : Int)) = m1 at mx1
   obtain ⟨cs',s4,h3,h4⟩:=joj (ns:=ns) (its:=its) (b:=b') (d:=d) (m:=m1) hl j3 hr h1 h2
   obtain ⟨v,s5⟩:=jtx (ns:=ns) (rls:=rls) (k:=j) (b:=b') (d:=d) (m:=m1) hb hi (fun x hx=>Nat.le_trans (h4 x hx) (by omega))
   obtain ⟨s,hs⟩:=jkn ns (k:=4 + j) (by omega)
   have hs' : jb8 [scr ns,.int (4 + (j : Int))] = some (.ok (.str s)):=by
    rw [show (4 + (j : Int)) = ((4 + j : Nat) : Int) by omega]
    exact hs
   have la : (rls.map rulD).length ≤ 100000:=by rw [List.length_map]; omega
   refine ⟨r8 ns its (rls ++ [⟨s,cs',v⟩]) (some (.int (j : Nat))) (some (.lst (cs'.map .int))) b' (some (.int m1)) (some (.int v)),.inl ?_,rls ++ [⟨s,cs',v⟩],_,_,_,_,_,rfl,by rw [List.length_append,hl]; rfl,fun i r hir=>?_⟩
   ·unfold jee
    rw [jd9 (δ':=r8 ns its rls (some (.int (j : Nat))) (some (.lst [])) b c d) (jea 4 rfl),
     jd9 (δ':=r8 ns its rls (some (.int (j : Nat))) (some (.lst (cs.map .int))) b' c d) (by rw [jox (ds:=ja4 0 its.length) (by simp only [stp,List.length_map] <;> rfl)]; exact lp),
     jd9 (δ':=r8 ns its rls (some (.int (j : Nat))) (some (.lst (cs.map .int))) b' (some (.int m1)) d) (jea 6 (by simp only [stp,c3,mx1] <;> rfl)),
     jd9 s4,jd9 s5,jow (d:=rulD ⟨s,cs',v⟩) (ds:=rls.map rulD) 2 (by simp only [stp,hs'] <;> rfl) rfl la]
    rw [r8,r8,List.map_append]
    rfl
   ·by_cases hlt : i < rls.length
    ·rw [List.getElem?_append_left hlt] at hir
     exact hr i r hir
    ·rw [List.getElem?_append_right (by omega)] at hir
     have hz : i - rls.length = 0:=by
      have:=(List.getElem?_eq_some_iff.mp hir).1
      simp at this
      omega
     rw [hz] at hir
     cases hir
     have : i = j:=by omega
     subst this
     exact ⟨h3,h4⟩) (r8 ns its [] none none none none none) ⟨[],none,none,none,none,none,rfl,rfl,fun i r h=>by simp at h⟩
 rw [range_len] at hl
 refine ⟨rls,?_,by omega,fun r hr'=>?_⟩
 ·unfold jd5
  rw [jhm]
  unfold je8
  rw [jd9 (δ':=r8 ns its [] none none none none none) (jea 2 rfl),
   jd9 (δ':=r8 ns its rls k' a b c d) (by rw [jox (ds:=ja4 0 N) (by simp only [stp,c0,mx,e3,hN] <;> rfl)]; exact e),jt8 (d:=.lst (rls.map rulD)) rfl]
  rfl
 ·obtain ⟨i,hi',he⟩:=List.getElem_of_mem hr'
  have:=hr i r (by rw [List.getElem?_eq_getElem hi',he])
  exact ⟨this.len,fun c hc=>by have:=this.bt c hc; unfold Bt; omega⟩
end
end MyLaw
namespace MyLaw
open PySem PySem.Spec L2 DL
noncomputable section
theorem jyn {r : Int} (h0 : 0 ≤ r) (h1 : r < 6) : ∃ v : Int,gIx (.lst [.int 0,.int 1,.int (-1),.int (-1),.int 2,.int 0]) (.int r) = some (.int v) ∧ v.natAbs ≤ 2:=by
 obtain ⟨n,rfl⟩:=Int.eq_ofNat_of_zero_le h0
 have hn : n < 6:=by omega
 match n,hn with
 | 0,_=>exact ⟨_,rfl,by decide⟩
 | 1,_=>exact ⟨_,rfl,by decide⟩
 | 2,_=>exact ⟨_,rfl,by decide⟩
 | 3,_=>exact ⟨_,rfl,by decide⟩
 | 4,_=>exact ⟨_,rfl,by decide⟩
 | 5,_=>exact ⟨_,rfl,by decide⟩
theorem jym {r : Int} (h0 : 0 ≤ r) (h1 : r < 4) : ∃ v : Int,gIx (.lst [.int 0,.int 0,.int 1,.int (-1)]) (.int r) = some (.int v) ∧ v.natAbs ≤ 1:=by
 obtain ⟨n,rfl⟩:=Int.eq_ofNat_of_zero_le h0
 have hn : n < 4:=by omega
 match n,hn with
 | 0,_=>exact ⟨_,rfl,by decide⟩
 | 1,_=>exact ⟨_,rfl,by decide⟩
 | 2,_=>exact ⟨_,rfl,by decide⟩
 | 3,_=>exact ⟨_,rfl,by decide⟩
noncomputable abbrev d9 (ns : List Int) (its : List (Str × Int)) (dds : List Ded) (k a b c d e : Option D) : DSt:=[some (scr ns),some (.lst (its.map itD)),some (.lst (dds.map dedD)),k,a,b,c,d,e]
theorem jo8 (ns : List Int) {its : List (Str × Int)} (hi : its.length ≤ 3) (dds : List Ded) {k : Nat} (hk : k ≤ 4) (a b d e : Option D) : ∃ (cs : List (Int × Int)) (d' e' : Option D),forD jdc (DL.gName 7) (ja4 0 its.length) (d9 ns its dds (some (.int (k : Nat))) a b (some (.lst [])) d e) = some (.ok (.nx (d9 ns its dds (some (.int (k : Nat))) a b (some (.lst (cs.map chD))) d' e'))) ∧ cs.length ≤ 3 ∧ ∀ x ∈ cs,x.1.natAbs ≤ 2 ∧ x.2.natAbs ≤ 1:=by
 have c5:=jfw (ns:=ns) (k:=5) (by decide)
 have a5 : jcw (.int 5) (.int (k : Nat)) = some (.int (5 * (k : Nat))):=jdl (a:=10) (b:=10) (by unfold Bt; decide) (by unfold Bt; omega)
 obtain ⟨δ',lp,cs,d',e',rfl,hl,hb⟩:=jgq (g:=jdc) (tg:=DL.gName 7) (ja4 0 its.length) (fun j δ=>∃ (cs : List (Int × Int)) (d' e' : Option D),δ = d9 ns its dds (some (.int (k : Nat))) a b (some (.lst (cs.map chD))) d' e' ∧ cs.length = j ∧ ∀ x ∈ cs,x.1.natAbs ≤ 2 ∧ x.2.natAbs ≤ 1)
  (fun j hj δ ⟨cs,d',e',hδ,hl,hb⟩=>by
   subst hδ
   rw [range_len] at hj
   have mx:=jhj (n:=jdo ns 5) (p:=90 + 5 * (k : Nat) + (j : Nat)) (by omega) (by omega)
   generalize mixF (jdo ns 5) (90 + 5 * (k : Nat) + (j : Nat)) = m at mx
   have e6:=jbo (i:=m) (j:=6) (by decide)
   have f6:=jdz (i:=m) (j:=6) (by decide) (by decide)
   have e4:=jbo (i:=m / 6) (j:=4) (by decide)
   obtain ⟨v,hv,hv2⟩:=jyn (Int.emod_nonneg m (show (6 : Int) ≠ 0 by decide)) (Int.emod_lt_of_pos m (show (0 : Int) < 6 by decide))
   obtain ⟨u,hu,hu2⟩:=jym (Int.emod_nonneg (m / 6) (show (4 : Int) ≠ 0 by decide)) (Int.emod_lt_of_pos (m / 6) (show (0 : Int) < 4 by decide))
   have l6 : ∀ δ,fL jb0 (jad (fC (.int 0)) (jad (fC (.int 1)) (jad (f1 gNeg (fC (.int 1))) (jad (f1 gNeg (fC (.int 1))) (jad (fC (.int 2)) (jad (fC (.int 0)) fNil)))))) δ = some (.ok (.lst [.int 0,.int 1,.int (-1),.int (-1),.int 2,.int 0])):=fun _=>rfl
   have l4 : ∀ δ,fL jb0 (jad (fC (.int 0)) (jad (fC (.int 0)) (jad (fC (.int 1)) (jad (f1 gNeg (fC (.int 1))) fNil)))) δ = some (.ok (.lst [.int 0,.int 0,.int 1,.int (-1)])):=fun _=>rfl
   have la : (cs.map chD).length ≤ 100000:=by rw [List.length_map]; omega
   refine ⟨d9 ns its dds (some (.int (k : Nat))) a b (some (.lst (cs.map chD))) (some (.int (j : Nat))) e',by rw [jes]; rfl,d9 ns its dds (some (.int (k : Nat))) a b (some (.lst ((cs ++ [(v,u)]).map chD))) (some (.int (j : Nat))) (some (.int m)),.inl ?_,cs ++ [(v,u)],_,_,rfl,by rw [List.length_append,hl]; rfl,fun x hx=>?_⟩
   ·unfold jdc
    rw [jd9 (δ':=d9 ns its dds (some (.int (k : Nat))) a b (some (.lst (cs.map chD))) (some (.int (j : Nat))) (some (.int m))) (jea 8 (by simp only [stp,c5,a5,mx] <;> rfl)),jow (d:=chD (v,u)) (ds:=cs.map chD) 6 ?_ rfl la,List.map_append]
    ·rfl
    ·have x1 : f2 gIx (fL jb0 (jad (fC (.int 0)) (jad (fC (.int 1)) (jad (f1 gNeg (fC (.int 1))) (jad (f1 gNeg (fC (.int 1))) (jad (fC (.int 2)) (jad (fC (.int 0)) fNil))))))) (f2 gMod (fVar 8) (fC (.int 6))) (d9 ns its dds (some (.int (k : Nat))) a b (some (.lst (cs.map chD))) (some (.int (j : Nat))) (some (.int m))) = some (.ok (.int v)):=by
      rw [e_2,l6,M.b_ok]
      simp only [stp,e6,hv] <;> rfl
     have x2 : f2 gIx (fL jb0 (jad (fC (.int 0)) (jad (fC (.int 0)) (jad (fC (.int 1)) (jad (f1 gNeg (fC (.int 1))) fNil))))) (f2 gMod (f2 je5 (fVar 8) (fC (.int 6))) (fC (.int 4))) (d9 ns its dds (some (.int (k : Nat))) a b (some (.lst (cs.map chD))) (some (.int (j : Nat))) (some (.int m))) = some (.ok (.int u)):=by
      rw [e_2,l4,M.b_ok]
      simp only [stp,f6,e4,hu] <;> rfl
     rw [e_L,jnb,x1,M.b_ok,jnb,x2,M.b_ok]
     rfl
   ·rcases List.mem_append.mp hx with hx | hx
    ·exact hb x hx
    ·rw [List.mem_singleton] at hx; rw [hx]; exact ⟨hv2,hu2⟩) (d9 ns its dds (some (.int (k : Nat))) a b (some (.lst [])) d e) ⟨[],d,e,rfl,rfl,fun x hx=>by cases hx⟩
 rw [range_len] at hl
 exact ⟨cs,d',e',lp,by omega,hb⟩
theorem jpb (ns : List Int) {its : List (Str × Int)} (hi : its.length ≤ 3) : ∃ dds : List Ded,jd2 [scr ns,.lst (its.map itD)] = some (.ok (.lst (dds.map dedD))) ∧ 1 ≤ dds.length ∧ dds.length ≤ 4 ∧ ∀ d ∈ dds,DedOk d:=by
 have c0:=jfw (ns:=ns) (k:=0) (by decide)
 have mx:=jhj (n:=jdo ns 0) (p:=3) (by decide) (by decide)
 generalize mixF (jdo ns 0) 3 = m at mx
 have r1:=Int.emod_nonneg m (show (4 : Int) ≠ 0 by decide)
 have r2:=Int.emod_lt_of_pos m (show (0 : Int) < 4 by decide)
 have e3:=jbo (i:=m) (j:=4) (by decide)
 generalize m % 4 = r at r1 r2 e3
 obtain ⟨N,hN⟩ : ∃ N : Nat,1 + r = (N : Int):=⟨(1 + r).toNat,by omega⟩
 have c5:=jfw (ns:=ns) (k:=5) (by decide)
 obtain ⟨δ',lp,dds,k',a,b,c,d,e,rfl,hl,hr⟩:=jgq (g:=jed) (tg:=DL.gName 3) (ja4 0 N) (fun j δ=>∃ (dds : List Ded) (k a b c d e : Option D),δ = d9 ns its dds k a b c d e ∧ dds.length = j ∧ ∀ x ∈ dds,DedOk x)
  (fun j hj δ ⟨dds,k,a,b,c,d,e,hδ,hl,hr⟩=>by
   subst hδ
   rw [range_len] at hj
   refine ⟨d9 ns its dds (some (.int (j : Nat))) a b c d e,by rw [jes]; rfl,?_⟩
   have mx1:=jhj (n:=jdo ns 5) (p:=70 + (j : Int)) (by omega) (by omega)
   generalize mixF (jdo ns 5) (70 + (j : Int)) = m1 at mx1
   have f1:=jbo (i:=m1) (j:=4) (by decide)
   have f2':=jdz (i:=m1) (j:=4) (by decide) (by decide)
   have f3:=jbo (i:=m1 / 4) (j:=6) (by decide)
   have q1:=Int.emod_nonneg m1 (show (4 : Int) ≠ 0 by decide)
   have q2:=Int.emod_lt_of_pos m1 (show (0 : Int) < 4 by decide)
   have q3:=Int.emod_nonneg (m1 / 4) (show (6 : Int) ≠ 0 by decide)
   have q4:=Int.emod_lt_of_pos (m1 / 4) (show (0 : Int) < 6 by decide)
   generalize m1 % 4 = lo at f1 q1 q2
   generalize m1 / 4 % 6 = hi' at f3 q3 q4
   obtain ⟨cs,d',e',lp,h1,h2⟩:=jo8 ns hi dds (k:=j) (by omega) (some (.int m1)) (some (.int (lo - 1))) d e
   obtain ⟨s,hs⟩:=jkn ns (k:=9 + j) (by omega)
   have hs' : jb8 [scr ns,.int (9 + (j : Int))] = some (.ok (.str s)):=by
    rw [show (9 + (j : Int)) = ((9 + j : Nat) : Int) by omega]
    exact hs
   have la : (dds.map dedD).length ≤ 100000:=by rw [List.length_map]; omega
   refine ⟨d9 ns its (dds ++ [⟨s,lo - 1,lo - 1 + hi',cs⟩]) (some (.int (j : Nat))) (some (.int m1)) (some (.int (lo - 1))) (some (.lst (cs.map chD))) d' e',.inl ?_,dds ++ [⟨s,lo - 1,lo - 1 + hi',cs⟩],_,_,_,_,_,_,rfl,by rw [List.length_append,hl]; rfl,fun x hx=>?_⟩
   ·unfold jed
    rw [jd9 (δ':=d9 ns its dds (some (.int (j : Nat))) (some (.int m1)) b c d e) (jea 4 (by simp only [stp,c5,mx1] <;> rfl)),
     jd9 (δ':=d9 ns its dds (some (.int (j : Nat))) (some (.int m1)) (some (.int (lo - 1))) c d e) (jea 5 (by simp only [stp,f1] <;> rfl)),
     jd9 (δ':=d9 ns its dds (some (.int (j : Nat))) (some (.int m1)) (some (.int (lo - 1))) (some (.lst [])) d e) (jea 6 rfl),
     jd9 (δ':=d9 ns its dds (some (.int (j : Nat))) (some (.int m1)) (some (.int (lo - 1))) (some (.lst (cs.map chD))) d' e') (by rw [jox (ds:=ja4 0 its.length) (by simp only [stp,List.length_map] <;> rfl)]; exact lp),
     jow (d:=dedD ⟨s,lo - 1,lo - 1 + hi',cs⟩) (ds:=dds.map dedD) 2 (by simp only [stp,hs',f2',f3] <;> rfl) rfl la]
    rw [d9,d9,List.map_append]
    rfl
   ·rcases List.mem_append.mp hx with hx | hx
    ·exact hr x hx
    ·rw [List.mem_singleton] at hx
     rw [hx]
     exact ⟨h1,h2,show -1 ≤ lo - 1 by omega,show lo - 1 ≤ 2 by omega,show lo - 1 ≤ lo - 1 + hi' by omega,show lo - 1 + hi' ≤ lo - 1 + 5 by omega⟩) (d9 ns its [] none none none none none none) ⟨[],none,none,none,none,none,none,rfl,rfl,fun x hx=>by cases hx⟩
 rw [range_len] at hl
 refine ⟨dds,?_,by omega,by omega,hr⟩
 unfold jd2
 rw [jhm]
 unfold je6
 rw [jd9 (δ':=d9 ns its [] none none none none none none) (jea 2 rfl),
  jd9 (δ':=d9 ns its dds k' a b c d e) (by rw [jox (ds:=ja4 0 N) (by simp only [stp,c0,mx,e3,hN] <;> rfl)]; exact lp),jt8 (d:=.lst (dds.map dedD)) rfl]
 rfl
theorem jrv (ns : List Int) : ∃ b : Bk,jcz [scr ns] = some (.ok (bkD b)) ∧ BkOk b:=by
 obtain ⟨its,h1,i1,i2⟩:=jps ns
 obtain ⟨rls,h2,r1,r2⟩:=jqh ns i1 i2
 obtain ⟨dds,h3,d1,d2,d3⟩:=jpb ns i1
 refine ⟨⟨its,rls,dds⟩,?_,⟨i1,r1,d1,d2,i2,r2,d3⟩⟩
 unfold jcz
 rw [jld]
 unfold jfy
 simp only [stp,h1,h2,h3,Nat.reduceSub] <;> rfl
end
end MyLaw
namespace MyLaw
open PySem PySem.Spec L2 DL
noncomputable section
noncomputable abbrev hdD : D:=.tup [.obj 0,.obj 1,.obj 2]
theorem jum (A B C : List D) (T : Sto) : jdt [hdD] (.lst A :: .lst B :: .lst C :: T) = some (.ok (.tup [.lst A,.lst B,.lst C]),.lst A :: .lst B :: .lst C :: T):=by kernel_rfl
theorem jun (A B C : List D) (Ω : Sto) : jdt [.tup [.lst A,.lst B,.lst C]] Ω = some (.ok (.tup [.lst A,.lst B,.lst C]),Ω):=by kernel_rfl
theorem jwv (A B C : List D) (T : Sto) : rsT (.lst A :: .lst B :: .lst C :: T) hdD = some (.tup [.lst A,.lst B,.lst C]):=by kernel_rfl
theorem jww (A B C : List D) (Ω : Sto) : rsT Ω (.tup [.lst A,.lst B,.lst C]) = some (.tup [.lst A,.lst B,.lst C]):=by kernel_rfl
theorem jsb (st : List Int) : ju8 (stD st) = true:=by
 show (st.map D.int).all jok = true
 rw [List.all_map]
 exact List.all_eq_true.mpr fun x _=>rfl
theorem jsh {b : Bk} {d : D} {Ω : Sto} (hb : BkOk b) (hc : ∀ T,jdt [d] (Ω ++ T) = some (.ok (bkD b),Ω ++ T)) (hr : ∀ T,rsT (Ω ++ T) d = some (bkD b)) : ja9 [.obj Ω.length,d] (Ω ++ [.ins "Plain" []]) = some (.ok .non,Ω ++ [jaf b (jaj b)]):=by
 have e : ja9 [.obj Ω.length,d] (Ω ++ [.ins "Plain" []]) = MS.b (jck [some (.obj Ω.length),some d]) outE (Ω ++ [.ins "Plain" []]):=rfl
 rw [e]
 have set1 : ∀ a c : SO,(Ω ++ [a]).set Ω.length c = Ω ++ [c]:=fun a c=>by rw [List.set_append_right _ _ (Nat.le_refl _),Nat.sub_self]; rfl
 refine (MS.b_ok (a:=.nx [some (.obj Ω.length),some d]) (Ω1:=Ω ++ [jaf b (jaj b)]) ?_).trans rfl
 unfold jck
 rw [eseq (δ':=[some (.obj Ω.length),some d]) (Ω':=Ω ++ [.ins "Plain" [("book",bkD b)]]) (by
  unfold ePut jf1
  rw [MS.b_ok (a:=bkD b) (Ω1:=Ω ++ [.ins "Plain" []]) (by rw [MS.b_ok (a:=[d]) (Ω1:=Ω ++ [.ins "Plain" []]) rfl]; exact hc _),MS.b_ok (a:=.obj Ω.length) (Ω1:=Ω ++ [.ins "Plain" []]) rfl]
  refine (MS.b_ok (a:=()) (Ω1:=Ω ++ [.ins "Plain" [("book",bkD b)]]) ?_).trans rfl
  unfold putO
  dsimp only
  rw [jgs]
  dsimp only
  rw [if_pos (by rfl),set1]
  rfl)]
 have lk : jjf 1 (jbb jci (jad (fVar 1) fNil)) [some (.obj Ω.length),some d] (Ω ++ [.ins "Plain" [("book",bkD b)]]) = some (.ok (stD (jaj b)),Ω ++ [.ins "Plain" [("book",bkD b)]]):=by
  have h1 : jbb jci (jad (fVar 1) fNil) [some (.obj Ω.length),some (bkD b)] = some (.ok (stD (jaj b))):=by
   have:=jj2 hb (y:=rlsD b) (z:=ddsD b)
   rw [jna]
   exact this
  have h0 : (([some (D.obj Ω.length),some d] : DSt)[1]?).join = some d:=rfl
  have h2 : ([some (D.obj Ω.length),some d] : DSt).set 1 (some (bkD b)) = [some (.obj Ω.length),some (bkD b)]:=rfl
  unfold jjf
  rw [h0]
  dsimp only
  rw [hr]
  dsimp only
  rw [h2,h1,M.b_ok,if_pos (jsb _)]
  rfl
 unfold ePut
 rw [MS.b_ok lk,MS.b_ok (a:=.obj Ω.length) (Ω1:=Ω ++ [.ins "Plain" [("book",bkD b)]]) rfl]
 refine (MS.b_ok (a:=()) (Ω1:=Ω ++ [jaf b (jaj b)]) ?_).trans rfl
 unfold putO
 dsimp only
 rw [jgs]
 dsimp only
 rw [if_pos (by rfl),set1]
 rfl
theorem jns {b : Bk} {d : D} {Ω : Sto} {δ : DSt} {fl : DSt → MS (List D)} (hb : BkOk b) (hc : ∀ T,jdt [d] (Ω ++ T) = some (.ok (bkD b),Ω ++ T)) (hr : ∀ T,rsT (Ω ++ T) d = some (bkD b)) (hf : fl δ Ω = some (.ok [d],Ω)) : jjg "Plain" ja9 fl δ Ω = some (.ok (.obj Ω.length),Ω ++ [jaf b (jaj b)]):=by
 unfold jjg
 rw [MS.b_ok hf]
 unfold jnq
 rw [MS.b_ok (jsh hb hc hr)]
 rfl
noncomputable abbrev s12 (ns : List Int) (b : Bk) (a5 a6 a7 a8 a9 a10 a11 : Option D) : DSt:=[some (scr ns),some (bkD b),some hdD,some (.obj 3),some (.obj 4),a5,a6,a7,a8,a9,a10,a11]
theorem jt4 {ns : List Int} {b : Bk} {st : List Int} {i : Nat} {c : Int} {Ω : Sto} {a7 a8 a9 a10 a11 : Option D} (hb : BkOk b) (hi : i ≤ 500) (hs : StOk i st) (h3 : Ω[3]? = some (jaf b st)) (h4 : Ω[4]? = some (jaf b (jaj b))) :
  ∃ (x7 x8 x9 x10 x11 : Option D) (Ω' : Sto) (st' : List Int),jip (s12 ns b (some (.int (i : Nat))) (some (.int c)) a7 a8 a9 a10 a11) Ω = some (.ok (.nx (s12 ns b (some (.int (i : Nat))) (some (.int c)) x7 x8 x9 x10 x11)),Ω') ∧ StOk (i + 1) st' ∧ Ω'[3]? = some (jaf b st') ∧ Ω'[4]? = some (jaf b (jaj b)):=by
 have mx:=jhj (n:=c) (p:=30 + (i : Int)) (by omega) (by omega)
 have m0:=jwr (n:=c) (p:=30 + (i : Int)) (by omega) (by omega)
 generalize mixF c (30 + (i : Int)) = m at mx m0
 have dl : (0 : Int) < (b.dds.length : Nat):=by have:=hb.d1; omega
 have e1:=jbo (i:=m) (j:=(b.dds.length : Nat)) dl
 have q1:=Int.emod_nonneg m (show ((b.dds.length : Nat) : Int) ≠ 0 by omega)
 have q2:=Int.emod_lt_of_pos m dl
 obtain ⟨j,hj⟩:=Int.eq_ofNat_of_zero_le q1
 rw [hj] at e1 q2
 have jl : j < b.dds.length:=by omega
 have hd : b.dds[j]? = some b.dds[j]:=List.getElem?_eq_getElem jl
 generalize b.dds[j] = d at hd
 have dk:=hb.dd d (List.mem_of_getElem? hd)
 have ed:=atI_get (xs:=b.dds.map dedD) (j:=j) (v:=dedD d) (by rw [List.getElem?_map,hd]; rfl)
 have f4:=jdz (i:=m) (j:=4) (by decide) (by decide)
 have hp : (0 : Int) < d.hi - d.lo + 1:=by have:=dk.h1; omega
 have e5:=jbo (i:=m / 4) (j:=d.hi - d.lo + 1) hp
 have q3:=Int.emod_nonneg (m / 4) (show d.hi - d.lo + 1 ≠ 0 by omega)
 have q4:=Int.emod_lt_of_pos (m / 4) hp
 generalize hn : m / 4 % (d.hi - d.lo + 1) = n0 at e5 q3 q4
 have nb : (d.lo + n0).natAbs ≤ 7:=by have:=dk.l1; have:=dk.l2; have:=dk.h2; omega
 have rk:=jqg hb (by omega) hs hd nb h3
 have t7 : gSet 7 (jbb ja8 (jad (fVar 6) (jad (f2 gCat (fC (.int 30)) (fVar 5)) fNil))) (s12 ns b (some (.int (i : Nat))) (some (.int c)) a7 a8 a9 a10 a11) = some (.ok (.nx (s12 ns b (some (.int (i : Nat))) (some (.int c)) (some (.int m)) a8 a9 a10 a11))):=jea 7 (by simp only [stp,mx] <;> rfl)
 have t8 : gSet 8 (f2 gMod (fVar 7) (fL kLen (jad (f2 gIx (fVar 1) (fC (.int 2))) fNil))) (s12 ns b (some (.int (i : Nat))) (some (.int c)) (some (.int m)) a8 a9 a10 a11) = some (.ok (.nx (s12 ns b (some (.int (i : Nat))) (some (.int c)) (some (.int m)) (some (.int (j : Nat))) a9 a10 a11))):=jea 8 (by simp only [stp,List.length_map,e1] <;> rfl)
 have sl : fSl (f2 gIx (f2 gIx (fVar 1) (fC (.int 2))) (fVar 8)) (jgz (fC (.int 1))) (jgz (fC (.int 3))) (s12 ns b (some (.int (i : Nat))) (some (.int c)) (some (.int m)) (some (.int (j : Nat))) a9 a10 a11) = some (.ok (.tup [.int d.lo,.int d.hi])):=by
  have x1 : f2 gIx (f2 gIx (fVar 1) (fC (.int 2))) (fVar 8) (s12 ns b (some (.int (i : Nat))) (some (.int c)) (some (.int m)) (some (.int (j : Nat))) a9 a10 a11) = some (.ok (dedD d)):=by simp only [stp,ed] <;> rfl
  unfold fSl
  rw [x1,M.b_ok]
  rfl
 have t9 : gAsg (jcn 9 10) (fSl (f2 gIx (f2 gIx (fVar 1) (fC (.int 2))) (fVar 8)) (jgz (fC (.int 1))) (jgz (fC (.int 3)))) (s12 ns b (some (.int (i : Nat))) (some (.int c)) (some (.int m)) (some (.int (j : Nat))) a9 a10 a11) = some (.ok (.nx (s12 ns b (some (.int (i : Nat))) (some (.int c)) (some (.int m)) (some (.int (j : Nat))) (some (.int d.lo)) (some (.int d.hi)) a11))):=by
  unfold gAsg
  rw [sl,M.b_ok]
  rfl
 have lft : ∀ {g : DSt → M Out} {δ δ' : DSt},g δ = some (.ok (.nx δ')) → lF g δ Ω = some (.ok (.nx δ'),Ω):=fun h=>by
  unfold lF MS.l
  rw [h]
  rfl
 have arg : jad (fVar 1) (jad (fVar 3) (jad (fVar 11) (jad (fVar 8) (jad (f2 gCat (fVar 9) (f2 gMod (f2 je5 (fVar 7) (fC (.int 4))) (f2 gCat (f2 gSub (fVar 10) (fVar 9)) (fC (.int 1))))) fNil)))) (s12 ns b (some (.int (i : Nat))) (some (.int c)) (some (.int m)) (some (.int (j : Nat))) (some (.int d.lo)) (some (.int d.hi)) (some (stD st))) = some (.ok [bkD b,.obj 3,stD st,.int (j : Nat),.int (d.lo + n0)]):=by
  simp only [stp,f4,e5] <;> rfl
 have lst : lF (jad (fVar 1) (jad (fVar 3) (jad (fVar 11) (jad (fVar 8) (jad (f2 gCat (fVar 9) (f2 gMod (f2 je5 (fVar 7) (fC (.int 4))) (f2 gCat (f2 gSub (fVar 10) (fVar 9)) (fC (.int 1))))) fNil))))) (s12 ns b (some (.int (i : Nat))) (some (.int c)) (some (.int m)) (some (.int (j : Nat))) (some (.int d.lo)) (some (.int d.hi)) (some (stD st))) Ω = some (.ok [bkD b,.obj 3,stD st,.int (j : Nat),.int (d.lo + n0)],Ω):=by
  unfold lF MS.l
  rw [arg]
  rfl
 have fin : ∃ st',StOk (i + 1) st' ∧ (je2 b d st (d.lo + n0) 3 Ω)[3]? = some (jaf b st') ∧ (je2 b d st (d.lo + n0) 3 Ω)[4]? = some (jaf b (jaj b)):=by
  unfold je2 jh9
  cases hf : fstB b (jan d st (d.lo + n0)) with
  | none=>exact ⟨_,jhw dk hs nb,List.getElem?_set_self (List.getElem?_eq_some_iff.mp h3).1,by dsimp only; rw [List.getElem?_set_ne (by decide)]; exact h4⟩
  | some r=>exact ⟨st,⟨hs.len,fun x hx=>Nat.le_trans (hs.bt x hx) (by omega)⟩,jgu h3,jgu h4⟩
 obtain ⟨st',g1,g2,g3⟩:=fin
 refine ⟨some (.int m),some (.int (j : Nat)),some (.int d.lo),some (.int d.hi),some (stD st),je2 b d st (d.lo + n0) 3 Ω,st',?_,g1,g2,g3⟩
 ·unfold jip
  rw [eseq (lft t7),eseq (lft t8),eseq (lft t9),eseq (δ':=s12 ns b (some (.int (i : Nat))) (some (.int c)) (some (.int m)) (some (.int (j : Nat))) (some (.int d.lo)) (some (.int d.hi)) (some (stD st))) (Ω':=Ω) (by
   unfold eSet
   rw [MS.b_ok (a:=stD st) (Ω1:=Ω) (by rw [jc1 (p:=3) (ds:=[]) (by rfl) h3 rfl rfl]; exact jft h3)]
   rfl),eseq (δ':=s12 ns b (some (.int (i : Nat))) (some (.int c)) (some (.int m)) (some (.int (j : Nat))) (some (.int d.lo)) (some (.int d.hi)) (some (stD st))) (Ω':=Ω) (by rfl)]
  rw [eif (c:=false) (Ω':=je2 b d st (d.lo + n0) 3 Ω) (by
   unfold mNot mTru jf1
   rw [MS.b_ok (a:=true) (Ω1:=je2 b d st (d.lo + n0) 3 Ω) (by rw [MS.b_ok (a:=.bl true) (Ω1:=je2 b d st (d.lo + n0) 3 Ω) (by rw [MS.b_ok lst]; exact rk)]; rfl)]
   rfl),if_neg (by decide)]
  rfl
theorem jl3 {ns : List Int} {b : Bk} (hb : BkOk b) : ∀ (ms : List Int) (i : Nat) (st : List Int) (Ω : Sto) (a5 a6 a7 a8 a9 a10 a11 : Option D),i + ms.length ≤ 500 → StOk i st → Ω[3]? = some (jaf b st) → Ω[4]? = some (jaf b (jaj b)) →
  ∃ (x5 x6 x7 x8 x9 x10 x11 : Option D) (Ω' : Sto),forE jip (jcn 5 6) (jdr (i : Nat) (ms.map .int)) (s12 ns b a5 a6 a7 a8 a9 a10 a11) Ω = some (.ok (.nx (s12 ns b x5 x6 x7 x8 x9 x10 x11)),Ω') ∧ Ω'[4]? = some (jaf b (jaj b))
 | [],i,st,Ω,a5,a6,a7,a8,a9,a10,a11,_,_,_,h4=>⟨a5,a6,a7,a8,a9,a10,a11,Ω,rfl,h4⟩
 | c :: ms,i,st,Ω,a5,a6,a7,a8,a9,a10,a11,hl,hs,h3,h4=>by
  rw [List.length_cons] at hl
  obtain ⟨x7,x8,x9,x10,x11,Ω1,st',e,g1,g2,g3⟩:=jt4 (ns:=ns) (c:=c) (a7:=a7) (a8:=a8) (a9:=a9) (a10:=a10) (a11:=a11) hb (by omega) hs h3 h4
  obtain ⟨y5,y6,y7,y8,y9,y10,y11,Ω',e2,g4⟩:=jl3 (ns:=ns) hb ms (i + 1) st' Ω1 (some (.int (i : Nat))) (some (.int c)) x7 x8 x9 x10 x11 (by omega) g1 g2 g3
  refine ⟨y5,y6,y7,y8,y9,y10,y11,Ω',?_,g4⟩
  rw [← e2]
  exact ji6 (ds:=jdr ((i : Int) + 1) (ms.map .int)) rfl e
theorem jor {b : Bk} (hb : BkOk b) : StOk 0 (jaj b):=by
 refine ⟨by unfold jaj; rw [List.length_map]; exact hb.i3,fun x hx=>?_⟩
 obtain ⟨p,hp,rfl⟩:=List.mem_map.mp hx
 exact hb.st p hp
theorem jv5 (b : Bk) : okD (bkD b) = true:=by
 have h1 : okDs (b.its.map itD) = true:=jdi fun x _=>by unfold itD; rfl
 have h2 : okDs (b.rls.map rulD) = true:=jdi fun x _=>by
  unfold rulD
  have : okDs (x.cs.map D.int) = true:=jdi fun y _=>rfl
  show (okD (.str x.nm) && (okDs (x.cs.map D.int) && (okD (.int x.rest) && true))) = true
  rw [this]
  rfl
 have h3 : okDs (b.dds.map dedD) = true:=jdi fun x _=>by
  unfold dedD
  have : okDs (x.chs.map chD) = true:=jdi fun y _=>by unfold chD; rfl
  show (okD (.str x.nm) && (okD (.int x.lo) && (okD (.int x.hi) && (okDs (x.chs.map chD) && true)))) = true
  rw [this]
  rfl
 show (okDs (b.its.map itD) && (okDs (b.rls.map rulD) && (okDs (b.dds.map dedD) && true))) = true
 rw [h1,h2,h3]
 rfl
theorem jup (b : Bk) : depD (bkD b) ≤ 20:=by
 have h1 : depDs (b.its.map itD) ≤ 3:=jcl fun x _=>by
  unfold itD
  simp only [depD,depDs]
  omega
 have h2 : depDs (b.rls.map rulD) ≤ 5:=jcl fun x _=>by
  have : depDs (x.cs.map D.int) ≤ 1:=jcl fun y _=>by unfold depD; omega
  unfold rulD
  simp only [depD,depDs]
  omega
 have h3 : depDs (b.dds.map dedD) ≤ 7:=jcl fun x _=>by
  have : depDs (x.chs.map chD) ≤ 3:=jcl fun y _=>by
   unfold chD
   simp only [depD,depDs]
   omega
  unfold dedD
  simp only [depD,depDs]
  omega
 simp only [depD,depDs]
 omega
theorem jo9 (ns : List Int) (lo hi : Option Int) : ∃ ms : List Int,cutL (ns.map D.int) lo hi = ms.map .int ∧ ms.length ≤ ns.length:=by
 refine ⟨cutL ns lo hi,?_,?_⟩
 ·unfold cutL
  rw [List.length_map,List.map_take,List.map_drop]
 ·unfold cutL
  rw [List.length_take,List.length_drop]
  omega
end
end MyLaw
namespace MyLaw
open PySem PySem.Spec L2 DL
noncomputable section
theorem law_true : ∀ ns : List Int,ns.length ≤ 63 → ∃ Ω,jnp [.lst (ns.map .int)] [] = some (.ok (.bl true),Ω):=fun ns hns=>by
 obtain ⟨b,hbk,hb⟩:=jrv ns
 let A:=b.its.map itD
 let B:=b.rls.map rulD
 let C:=b.dds.map dedD
 have g1 : gSet 1 (jbb jcz (jad (fVar 0) fNil)) [some (scr ns),none,none,none,none,none,none,none,none,none,none,none] = some (.ok (.nx [some (scr ns),some (bkD b),none,none,none,none,none,none,none,none,none,none])):=jea 1 (by simp only [stp,hbk] <;> rfl)
 have s1 : lF (gSet 1 (jbb jcz (jad (fVar 0) fNil))) [some (scr ns),none,none,none,none,none,none,none,none,none,none,none] [] = some (.ok (.nx [some (scr ns),some (bkD b),none,none,none,none,none,none,none,none,none,none]),[]):=by
  unfold lF MS.l
  rw [g1]
  rfl
 have s2 : eSet 2 (mL jc4 (jc7 (fun δ=>MS.b ((lF (jad (f2 gIx (fVar 1) (fC (.int 0))) fNil)) δ) jjc) (jc7 (fun δ=>MS.b ((lF (jad (f2 gIx (fVar 1) (fC (.int 1))) fNil)) δ) jjc) (jc7 (fun δ=>MS.b ((lF (jad (f2 gIx (fVar 1) (fC (.int 2))) fNil)) δ) jjc) (lF fNil))))) [some (scr ns),some (bkD b),none,none,none,none,none,none,none,none,none,none] [] =
   some (.ok (.nx [some (scr ns),some (bkD b),some hdD,none,none,none,none,none,none,none,none,none]),[.lst A,.lst B,.lst C]):=by kernel_rfl
 have s3 : eSet 3 (jjg "Plain" ja9 (jc7 (lF (fVar 2)) (lF fNil))) [some (scr ns),some (bkD b),some hdD,none,none,none,none,none,none,none,none,none] [.lst A,.lst B,.lst C] = some (.ok (.nx [some (scr ns),some (bkD b),some hdD,some (.obj 3),none,none,none,none,none,none,none,none]),[.lst A,.lst B,.lst C,jaf b (jaj b)]):=by
  unfold eSet
  rw [MS.b_ok (jns (d:=hdD) hb (fun T=>jum A B C T) (fun T=>jwv A B C T) rfl)]
  rfl
 have s4 : eSet 4 (jjg "Plain" ja9 (lF (jad (fVar 1) fNil))) [some (scr ns),some (bkD b),some hdD,some (.obj 3),none,none,none,none,none,none,none,none] [.lst A,.lst B,.lst C,jaf b (jaj b)] = some (.ok (.nx (s12 ns b none none none none none none none)),[.lst A,.lst B,.lst C,jaf b (jaj b),jaf b (jaj b)]):=by
  unfold eSet
  rw [MS.b_ok (jns (d:=bkD b) hb (fun T=>jun A B C _) (fun T=>jww A B C _) rfl)]
  rfl
 have st3 : jdb "Plain" "state" jal (lF (fVar 3)) (lF fNil) (s12 ns b none none none none none none none) [.lst A,.lst B,.lst C,jaf b (jaj b),jaf b (jaj b)] = some (.ok (stD (jaj b)),[.lst A,.lst B,.lst C,jaf b (jaj b),jaf b (jaj b)]):=by
  rw [jc1 (p:=3) (ds:=[]) (b:=b) (st:=jaj b) (by rfl) rfl rfl rfl]
  exact jft (b:=b) rfl
 have stl : ∀ (a5 a6 a7 a8 a9 a10 a11 : Option D) (Ω : Sto),lF (jbb jbf (jad (fVar 1) fNil)) (s12 ns b a5 a6 a7 a8 a9 a10 a11) Ω = some (.ok (stD (jaj b)),Ω):=fun a5 a6 a7 a8 a9 a10 a11 Ω=>by
  have : jbb jbf (jad (fVar 1) fNil) (s12 ns b a5 a6 a7 a8 a9 a10 a11) = some (.ok (stD (jaj b))):=by
   rw [jna]
   exact joq hb
  unfold lF MS.l
  rw [this]
  rfl
 have s5 : eIf (mOr (mB (mNeR (lF (fVar 2)) (lF (fVar 1)))) (mB (m2 gNe (jdb "Plain" "state" jal (lF (fVar 3)) (lF fNil)) (lF (jbb jbf (jad (fVar 1) fNil)))))) (lF (gRet (fC (.bl false)))) eNx (s12 ns b none none none none none none none) [.lst A,.lst B,.lst C,jaf b (jaj b),jaf b (jaj b)] = some (.ok (.nx (s12 ns b none none none none none none none)),[.lst A,.lst B,.lst C,jaf b (jaj b),jaf b (jaj b)]):=by
  have n1 : mNeR (lF (fVar 2)) (lF (fVar 1)) (s12 ns b none none none none none none none) [.lst A,.lst B,.lst C,jaf b (jaj b),jaf b (jaj b)] = some (.ok (.bl false),[.lst A,.lst B,.lst C,jaf b (jaj b),jaf b (jaj b)]):=by
   unfold mNeR
   rw [MS.b_ok (a:=hdD) (Ω1:=[.lst A,.lst B,.lst C,jaf b (jaj b),jaf b (jaj b)]) rfl,MS.b_ok (a:=bkD b) (Ω1:=[.lst A,.lst B,.lst C,jaf b (jaj b),jaf b (jaj b)]) rfl]
   unfold neR
   rw [jwv A B C,jww A B C]
   dsimp only
   rw [if_pos (by rw [show okD (D.tup [.lst A,.lst B,.lst C]) = true from jv5 b,decide_eq_true (show depD (D.tup [.lst A,.lst B,.lst C]) ≤ 20 from jup b)]; rfl),jfk _ (show okD (D.tup [.lst A,.lst B,.lst C]) = true from jv5 b)]
   rfl
  have n2 : m2 gNe (jdb "Plain" "state" jal (lF (fVar 3)) (lF fNil)) (lF (jbb jbf (jad (fVar 1) fNil))) (s12 ns b none none none none none none none) [.lst A,.lst B,.lst C,jaf b (jaj b),jaf b (jaj b)] = some (.ok (.bl false),[.lst A,.lst B,.lst C,jaf b (jaj b),jaf b (jaj b)]):=by
   unfold m2
   rw [MS.b_ok st3,MS.b_ok (stl _ _ _ _ _ _ _ _),jyh]
   rfl
  rw [eif (c:=false) (Ω':=[.lst A,.lst B,.lst C,jaf b (jaj b),jaf b (jaj b)]) (by
   unfold mOr mB
   rw [MS.b_ok (a:=false) (Ω1:=[.lst A,.lst B,.lst C,jaf b (jaj b),jaf b (jaj b)]) (by rw [MS.b_ok n1]; rfl),if_neg (by decide),MS.b_ok n2]
   rfl),if_neg (by decide)]
  rfl
 have s6 : jgp (jsp (m2 gIx (lF (fVar 2)) (lF (fC (.int 1))))) (s12 ns b none none none none none none none) [.lst A,.lst B,.lst C,jaf b (jaj b),jaf b (jaj b)] = some (.ok (.nx (s12 ns b none none none none none none none)),[.lst A,.lst [],.lst C,jaf b (jaj b),jaf b (jaj b)]):=by kernel_rfl
 have s7 : jgp (jpw (m2 gIx (lF (fVar 2)) (lF (fC (.int 2)))) (lF (fL jc4 (jad (fC (.str "x")) (jad (fC (.int 0)) (jad (fC (.int 0)) (jad (fL jc4 fNil) fNil))))))) (s12 ns b none none none none none none none) [.lst A,.lst [],.lst C,jaf b (jaj b),jaf b (jaj b)] = some (.ok (.nx (s12 ns b none none none none none none none)),[.lst A,.lst [],.lst (C ++ [.tup [.str "x",.int 0,.int 0,.tup []]]),jaf b (jaj b),jaf b (jaj b)]):=by
  have hC : C.length < sizeLine:=by
   show (b.dds.map dedD).length < sizeLine
   rw [List.length_map]
   exact Nat.lt_of_le_of_lt hb.d4 (by decide)
  have q1 : m2 gIx (lF (fVar 2)) (lF (fC (.int 2))) (s12 ns b none none none none none none none) [.lst A,.lst [],.lst C,jaf b (jaj b),jaf b (jaj b)] = some (.ok (.obj 2),[.lst A,.lst [],.lst C,jaf b (jaj b),jaf b (jaj b)]):=by kernel_rfl
  have q2 : chkL (.obj 2) [.lst A,.lst [],.lst C,jaf b (jaj b),jaf b (jaj b)] = some (.ok (.obj 2),[.lst A,.lst [],.lst C,jaf b (jaj b),jaf b (jaj b)]):=rfl
  have q3 : lF (fL jc4 (jad (fC (.str "x")) (jad (fC (.int 0)) (jad (fC (.int 0)) (jad (fL jc4 fNil) fNil))))) (s12 ns b none none none none none none none) [.lst A,.lst [],.lst C,jaf b (jaj b),jaf b (jaj b)] = some (.ok (.tup [.str "x",.int 0,.int 0,.tup []]),[.lst A,.lst [],.lst C,jaf b (jaj b),jaf b (jaj b)]):=by kernel_rfl
  have q4 : putL (gApL (.tup [.str "x",.int 0,.int 0,.tup []])) (.obj 2) [.lst A,.lst [],.lst C,jaf b (jaj b),jaf b (jaj b)] = some (.ok .non,[.lst A,.lst [],.lst (C ++ [.tup [.str "x",.int 0,.int 0,.tup []]]),jaf b (jaj b),jaf b (jaj b)]):=by
   show (gApL (.tup [.str "x",.int 0,.int 0,.tup []]) C).map _ = _
   unfold gApL
   rw [if_pos hC]
   rfl
  unfold jgp jpw
  rw [MS.b_ok (a:=.non) (Ω1:=[.lst A,.lst [],.lst (C ++ [.tup [.str "x",.int 0,.int 0,.tup []]]),jaf b (jaj b),jaf b (jaj b)]) (by rw [MS.b_ok q1,MS.b_ok q2,MS.b_ok q3]; exact q4)]
  rfl
 obtain ⟨ms,hms,hml⟩:=jo9 ns (some 3) (some 63)
 obtain ⟨x5,x6,x7,x8,x9,x10,x11,Ω',e,h4⟩:=jl3 (ns:=ns) hb ms 0 (jaj b) [.lst A,.lst [],.lst (C ++ [.tup [.str "x",.int 0,.int 0,.tup []]]),jaf b (jaj b),jaf b (jaj b)] none none none none none none none (by omega) (jor hb) rfl rfl
 have s8 : eFor (lF (jc6 jex (jad (fSl (fVar 0) (jgz (fC (.int 3))) (jgz (fC (.int 63)))) fNil))) (jcn 5 6) jip (s12 ns b none none none none none none none) [.lst A,.lst [],.lst (C ++ [.tup [.str "x",.int 0,.int 0,.tup []]]),jaf b (jaj b),jaf b (jaj b)] = some (.ok (.nx (s12 ns b x5 x6 x7 x8 x9 x10 x11)),Ω'):=by
  rw [efor (ds:=jdr 0 (ms.map .int)) (Ω':=[.lst A,.lst [],.lst (C ++ [.tup [.str "x",.int 0,.int 0,.tup []]]),jaf b (jaj b),jaf b (jaj b)]) (by rw [← hms]; rfl)]
  exact e
 refine ⟨Ω',?_⟩
 have e0 : jnp [.lst (ns.map .int)] [] = MS.b (jpi [some (scr ns),none,none,none,none,none,none,none,none,none,none,none]) outE []:=rfl
 rw [e0]
 refine (MS.b_ok (a:=.rt (.bl true)) (Ω1:=Ω') ?_).trans rfl
 unfold jpi
 rw [eseq s1,eseq s2,eseq s3,eseq s4,eseq s5,eseq s6,eseq s7,eseq s8]
 unfold eRet
 rw [MS.b_ok (a:=.bl true) (Ω1:=Ω') ?_]
 ·rfl
 ·unfold m2
  rw [MS.b_ok (a:=stD (jaj b)) (Ω1:=Ω') (by rw [jc1 (p:=4) (ds:=[]) (by rfl) h4 rfl rfl]; exact jft h4),MS.b_ok (stl _ _ _ _ _ _ _ _),jr7]
  rfl
end
end MyLaw
set_option maxRecDepth 100000 in
set_option maxHeartbeats 0 in
theorem PySem.Challenge.cw_apartbook_k71_the_plain_book_holds : PySem.Challenge.rw_apartbook_k71_the_plain_book.Holds := by
 w_on; o_law; z_head; (case hw=>w_witness2)
 k_fill
 refine MyLaw.walkZ (l:=PySem.Challenge.rw_apartbook_k71_the_plain_book) (fun P=>rfl) rfl rfl ?F MyLaw.law_true
 case F =>
  intro w mg fa h KX G hmg
  refine' ⟨?T,hmg⟩
  case T =>
   refine' MyLaw.txt_mk KX G ?ca_Plain ?cp_Plain ?cq_Plain ?cr_Plain ?cs_Plain ?cf0_Plain ?cf1_Plain ?ca_BookError ?ca_Broken ?ca_ShortShare ?tab ?tab2 ?a0 ?l0 ?c0 ?k0 ?a1 ?l1 ?c1 ?k1 ?a2 ?b2 ?i2 ?j2 ?l2 ?c2 ?k2 ?a3 ?l3 ?c3 ?k3 ?a4 ?l4 ?c4 ?k4 ?a5 ?l5 ?c5 ?k5 ?a6 ?l6 ?c6 ?k6 ?a7 ?l7 ?c7 ?k7 ?a8 ?l8 ?c8 ?k8 ?a9 ?l9 ?c9 ?k9 ?a10 ?b10 ?l10 ?c10 ?k10 ?a11 ?l11 ?c11 ?k11 ?a12 ?l12 ?c12 ?k12 ?a13 ?b13 ?l13 ?c13 ?k13 ?a14 ?l14 ?c14 ?k14 ?a15 ?l15 ?c15 ?k15 ?a16 ?l16 ?c16 ?k16 ?a17 ?b17 ?l17 ?c17 ?k17 ?a18 ?l18 ?c18 ?k18 ?a19 ?l19 ?c19 ?k19 ?a20 ?l20 ?c20 ?k20 ?a21 ?l21 ?c21 ?k21 ?z0 ?z1 ?z2 ?z3 ?z4 ?z5 ?z6 ?z7 ?z8
   (case ca_Plain=>k_is); (case cp_Plain=>k_is); (case cq_Plain=>k_is); (case cr_Plain=>k_is); (case cs_Plain=>k_is); (case cf0_Plain=>k_is); (case cf1_Plain=>k_is); (case ca_BookError=>k_is)
   (case ca_Broken=>k_is); (case ca_ShortShare=>k_is); (case tab=>kernel_rfl); (case tab2=>kernel_rfl); (case a0=>k_is); (case l0=>k_is); (case c0=>k_is); (case k0=>k_is)
   (case a1=>k_is); (case l1=>k_is); (case c1=>k_is); (case k1=>k_is); (case a2=>k_is); (case b2=>k_is); (case i2=>k_is); (case j2=>k_is)
   (case l2=>k_is); (case c2=>k_is); (case k2=>k_is); (case a3=>k_is); (case l3=>k_is); (case c3=>k_is); (case k3=>k_is); (case a4=>k_is)
   (case l4=>k_is); (case c4=>k_is); (case k4=>k_is); (case a5=>k_is); (case l5=>k_is); (case c5=>k_is); (case k5=>k_is); (case a6=>k_is)
   (case l6=>k_is); (case c6=>k_is); (case k6=>k_is); (case a7=>k_is); (case l7=>k_is); (case c7=>k_is); (case k7=>k_is); (case a8=>k_is)
   (case l8=>k_is); (case c8=>k_is); (case k8=>k_is); (case a9=>k_is); (case l9=>k_is); (case c9=>k_is); (case k9=>k_is); (case a10=>k_is)
   (case b10=>k_is); (case l10=>k_is); (case c10=>k_is); (case k10=>k_is); (case a11=>k_is); (case l11=>k_is); (case c11=>k_is); (case k11=>k_is)
   (case a12=>k_is); (case l12=>k_is); (case c12=>k_is); (case k12=>k_is); (case a13=>k_is); (case b13=>k_is); (case l13=>k_is); (case c13=>k_is)
   (case k13=>k_is); (case a14=>k_is); (case l14=>k_is); (case c14=>k_is); (case k14=>k_is); (case a15=>k_is); (case l15=>k_is); (case c15=>k_is)
   (case k15=>k_is); (case a16=>k_is); (case l16=>k_is); (case c16=>k_is); (case k16=>k_is); (case a17=>k_is); (case b17=>k_is); (case l17=>k_is)
   (case c17=>k_is); (case k17=>k_is); (case a18=>k_is); (case l18=>k_is); (case c18=>k_is); (case k18=>k_is); (case a19=>k_is); (case l19=>k_is)
   (case c19=>k_is); (case k19=>k_is); (case a20=>k_is); (case l20=>k_is); (case c20=>k_is); (case k20=>k_is); (case a21=>k_is); (case l21=>k_is)
   (case c21=>k_is); (case k21=>k_is); (case z0=>k_is); (case z1=>k_is); (case z2=>k_is); (case z3=>k_is); (case z4=>k_is); (case z5=>k_is)
   (case z6=>k_is); (case z7=>k_is); (case z8=>k_is)
