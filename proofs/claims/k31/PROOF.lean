import PyProof.Rows.All
import Wide.All
import OpenK.AllK
import Wide.FinOn
import Lean
import PyProof.EqAt
import PyProof.EqKinds
import PyProof.TupleCall
import PySem.Challenge.RW_apartbook_k31_dealt
set_option Elab.async false
set_option linter.all false
set_option maxRecDepth 100000
set_option compiler.extract_closed false
theorem zau0 (h : True := by first | exact .inl rfl | exact .inr rfl | assumption) : True := h
theorem zau1 (h : True := by decide) : True := h
theorem zau2 (h : True := by rfl) : True := h
theorem zau3 (h : True := by intros; rfl) : True := h
theorem zau4 (h : True := by intro _; rfl) : True := h
theorem zau5 (h : True := by first | exact Or.inl rfl | exact Or.inr (Or.inl rfl) | exact Or.inr (Or.inr rfl)) : True := h
theorem zau6 (h : True := by exact fun _ _ => rfl) : True := h
theorem zau7 (h : True := by exact fun _ => rfl) : True := h
theorem zau8 (h : True := by first | exact Or.inl rfl | exact Or.inr rfl) : True := h
theorem zau9 (h : True := by exact Or.inr (Or.inl rfl)) : True := h
namespace L2
open PySem PySem.Spec PyProof.Rows
noncomputable abbrev Key := Sum Int Str
noncomputable def keyIs : Key → Value → Bool
  | .inl k, v => Value.isInt k v
  | .inr x, v => Value.isStrOf x v
noncomputable def keyH (w : World) : Key → Int
  | .inl k => hashInt k
  | .inr x => hashStr w x
theorem keyIs_shape : ∀ {k : Key} {v : Value}, keyIs k v = true → (∃ i t, k = Sum.inl i ∧ v = Value.int i t) ∨ (∃ x t, k = Sum.inr x ∧ v = Value.str x t)
  | .inl i, v, h => by
    obtain ⟨t, e⟩ := Value.isInt_shape (k := i) (v := v) h
    exact .inl ⟨i, t, rfl, e⟩
  | .inr x, v, h => by
    obtain ⟨t, e⟩ := Value.isStrOf_shape (x := x) (v := v) h
    exact .inr ⟨x, t, rfl, e⟩
theorem key_ll (a b : Int) : decide ((Sum.inl a : Key) = Sum.inl b) = (a == b) := by
  by_cases e : a = b
  · subst e; simp
  · have h : ¬ (Sum.inl a : Key) = Sum.inl b := fun q => e (Sum.inl.inj q)
    rw [decide_eq_false h]
    exact (beq_eq_false_iff_ne.mpr e).symm
theorem key_rr (a b : Str) : decide ((Sum.inr a : Key) = Sum.inr b) = decide (a = b) := by
  by_cases e : a = b
  · subst e; simp
  · have h : ¬ (Sum.inr a : Key) = Sum.inr b := fun q => e (Sum.inr.inj q)
    rw [decide_eq_false h, decide_eq_false e]
theorem key_lr (a : Int) (b : Str) : decide ((Sum.inl a : Key) = Sum.inr b) = false := decide_eq_false (fun q => nomatch q)
theorem key_rl (a : Str) (b : Int) : decide ((Sum.inr a : Key) = Sum.inl b) = false := decide_eq_false (fun q => nomatch q)
noncomputable def mixKind (prog : Program) (w : World) : PySem.KeyKind prog w Key where
  is := keyIs
  hash := keyH w
  inj := fun v a b ha hb => by
    rcases keyIs_shape ha with ⟨i, t, rfl, rfl⟩ | ⟨x, t, rfl, rfl⟩
    · rcases keyIs_shape hb with ⟨j, u, rfl, e⟩ | ⟨y, u, rfl, e⟩
      · injection e with e1 _; rw [e1]
      · exact nomatch e
    · rcases keyIs_shape hb with ⟨j, u, rfl, e⟩ | ⟨y, u, rfl, e⟩
      · exact nomatch e
      · injection e with e1 _; rw [e1]
  byValue := fun k v h => by
    rcases keyIs_shape h with ⟨i, t, rfl, rfl⟩ | ⟨x, t, rfl, rfl⟩ <;> rfl
  pyHash := fun hv h => by
    rcases keyIs_shape hv with ⟨i, t, rfl, rfl⟩ | ⟨x, t, rfl, rfl⟩
    · exact wpAny_pyHash_int h
    · exact wpAny_pyHash_str h
  eqBool := fun hu hv h => by
    rcases keyIs_shape hu with ⟨i, t, rfl, rfl⟩ | ⟨x, t, rfl, rfl⟩
    · rcases keyIs_shape hv with ⟨j, u, rfl, rfl⟩ | ⟨y, u, rfl, rfl⟩
      · rw [key_ll] at h; exact wpAny_eqBool_int h
      · rw [key_lr] at h; exact SeqAt.EqAt.int_str i t y u _ _ _ _ h
    · rcases keyIs_shape hv with ⟨j, u, rfl, rfl⟩ | ⟨y, u, rfl, rfl⟩
      · rw [key_rl] at h; exact SeqAt.EqAt.str_int x t j u _ _ _ _ h
      · rw [key_rr] at h; exact wpAny_eqBool_str h
  «strs» := fun k x t v h => by
    rcases keyIs_shape h with ⟨i, u, rfl, e⟩ | ⟨y, u, rfl, e⟩
    · exact nomatch e
    · injection e with e1 _
      subst e1
      cases v <;> rfl
end L2
namespace L2
open PySem PySem.Spec PyProof.Rows
inductive V where
  | non | bl (b : Bool) | int (i : Int) | str (x : Str) | byt (b : Array UInt8) | flt (b : UInt64) | ref (a : Addr) | ty (n : String)
  deriving DecidableEq
noncomputable def RelV : V → Value → Prop
  | .non, u => u = Value.none
  | .bl b, u => u = Value.bool b
  | .int i, u => ∃ t, u = Value.int i t
  | .str x, u => ∃ t, u = Value.str x t
  | .byt b, u => ∃ t, u = Value.bytes b t
  | .flt b, u => ∃ t, u = Value.float b t
  | .ref a, u => u = Value.ref a
  | .ty n, u => u = Value.type n
noncomputable abbrev Vals : List V → List Value → Prop := Paired RelV
theorem Vals.length {xs : List V} {us : List Value} (r : Vals xs us) : xs.length = us.length := Paired.length r
theorem Vals.get : ∀ {xs : List V} {us : List Value} {i : Nat} {x : V}, Vals xs us → xs[i]? = some x → ∃ u, us[i]? = some u ∧ RelV x u
  | _, _, _, _, .nil, e => by simp at e
  | _, _, 0, _, .cons r _, e => by simp at e; subst e; exact ⟨_, rfl, r⟩
  | _, _, i + 1, x, .cons _ t, e => by
    obtain ⟨u, h1, h2⟩ := Vals.get (i := i) (x := x) t (by simpa using e)
    exact ⟨u, by simpa using h1, h2⟩
theorem Vals.set {x : V} {u : Value} (r : RelV x u) : ∀ {xs : List V} {us : List Value} (i : Nat), Vals xs us → Vals (xs.set i x) (us.set i u)
  | _, _, _, .nil => .nil
  | _, _, 0, .cons _ t => .cons r t
  | _, _, i + 1, .cons q t => .cons q (Vals.set r i t)
theorem Vals.append : ∀ {xs ys : List V} {us ws : List Value}, Vals xs us → Vals ys ws → Vals (xs ++ ys) (us ++ ws)
  | _, _, _, _, .nil, s => s
  | _, _, _, _, .cons r t, s => .cons r (Vals.append t s)
theorem Vals.take : ∀ {xs : List V} {us : List Value} (n : Nat), Vals xs us → Vals (xs.take n) (us.take n)
  | _, _, 0, _ => .nil
  | _, _, _ + 1, .nil => .nil
  | _, _, n + 1, .cons r t => .cons r (Vals.take n t)
theorem Vals.drop : ∀ {xs : List V} {us : List Value} (n : Nat), Vals xs us → Vals (xs.drop n) (us.drop n)
  | _, _, 0, r => r
  | _, _, _ + 1, .nil => .nil
  | _, _, n + 1, .cons _ t => Vals.drop n t
noncomputable def RelO : Option V → Option Value → Prop
  | some v, some u => RelV v u
  | none, none => True
  | _, _ => False
noncomputable def KV {κ : Type} : List (κ × V) → List (κ × Value) → Prop := Paired fun (p : κ × V) (q : κ × Value) => p.1 = q.1 ∧ RelV p.2 q.2
noncomputable def kV : Key → V
  | .inl i => .int i
  | .inr x => .str x
inductive HO where
    | lst (xs : List V)
    | tup (xs : List V)
    | dK (kvs : List (Key × V)) | dT (kvs : List (List Key × V))
    | set (S : Int → Bool) (n : Nat)
    | ins (C dx : Addr) (fs : List (Str × V))
    | own (x : Addr)
    | xd (fs : List (Str × V))
    | met (f x : Addr)
    | rng (lo hi : Int)
    | frz (o : Obj) (u : HO)
    | tbl (ps : Array Value)
    | ext (φ : Heap → Prop)
noncomputable abbrev Hp := Addr → Option HO
noncomputable def upd (H : Hp) (a : Addr) (o : HO) : Hp := fun b => if b = a then some o else H b
theorem upd_same {H : Hp} {a : Addr} {o : HO} : upd H a o a = some o := by unfold upd; rw [if_pos rfl]
theorem upd_ne {H : Hp} {a b : Addr} {o : HO} (h : b ≠ a) : upd H a o b = H b := by unfold upd; rw [if_neg h]
theorem ne_of {H : Hp} {a b : Addr} {o u : HO} (h : H a = some o) (h' : H b = some u) (d : o ≠ u) : a ≠ b := by
  intro e; subst e; rw [h] at h'; exact d (Option.some.inj h')
theorem ne_of_none {H : Hp} {a b : Addr} {o : HO} (h : H a = some o) (h' : H b = none) : a ≠ b := by
  intro e; subst e; rw [h] at h'; cases h'
section
variable (P : Program) (w : World)
noncomputable def ObjOk (H : Hp) (h : Heap) (a : Addr) : HO → Prop
  | .lst xs => xs.length ≤ sizeLine ∧ ∃ (its : List Value) (n : Nat), Vals xs its ∧ h.get? a = some { cls := .type "list", data := .seq its.toArray n }
  | .tup xs => xs.length ≤ sizeLine ∧ ∃ its : List Value, Vals xs its ∧ IsTup h a its.toArray
  | .dK kvs => kvs.length ≤ sizeLine ∧ (a == sysModules) = false ∧ ∃ vs, KV kvs vs ∧ h.DictOf (mixKind P w) a vs
  | .dT kvs => kvs.length ≤ sizeLine ∧ (a == sysModules) = false ∧ ∃ xs : List (List Key × Addr × Value),
      Paired (fun (p : List Key × V) (q : List Key × Addr × Value) => p.1 = q.1 ∧ H q.2.1 = some (.tup (p.1.map kV)) ∧ RelV p.2 q.2.2) kvs xs ∧
      ∃ o es ep, h.get? a = some o ∧ o.ExactDict ∧ o.data = .dict es ep ∧ es.toList = xs.map (entryOfKey (tupleKind (mixKind P w))) ∧ (xs.map (·.1)).Nodup
  | .set S n => h.SetOf (intKind P w) a S n
  | .ins C dx fs => H dx = some (.own a) ∧ fs.length ≤ 1000 ∧ dx ≠ a ∧ h.get? a = some (PySem.W.instObj C dx) ∧
      ∃ mA, h.Ns1 dx mA ∧ (∀ f, RelO (fs.lookup f) (mA f)) ∧ PySem.Within mA (fs.map (·.1))
  | .own _ => ∃ o, h.get? a = some o
  | .xd fs => ∃ mA, h.Ns1 a mA ∧ ∀ f, RelO (fs.lookup f) (mA f)
  | .rng lo hi => ∃ t u v, h.get? a = some { cls := .type "range", data := .fields #[.int lo t, .int hi u, .int 1 v] }
  | .frz o u => h.get? a = some o ∧ ObjOk H h a u
  | .tbl ps => h.get? a = some { cls := .none, data := .fields ps }
  | .met f x => h.get? a = some (PySem.W.methodObj (.ref f) (.ref x))
  | .ext φ => φ h ∧ (∃ o, h.get? a = some o) ∧ ∀ h1 h2 : Heap, φ h1 → (∀ o, h1.get? a = some o → h2.get? a = some o) → φ h2
noncomputable def HOk (H : Hp) (h : Heap) : Prop := ∀ a o, H a = some o → ObjOk P w H h a o
end
section
variable {P : Program} {w : World} {H H' : Hp} {h h' : Heap} {a : Addr} {o : HO}
theorem ObjOk.lt (x : ObjOk P w H h a o) : a < h.objs.size := by
  cases o with
  | lst xs => obtain ⟨_, _, _, _, e⟩ := x; exact Heap.lt_size e
  | tup xs => obtain ⟨_, _, _, p⟩ := x; exact p.lt
  | dK kvs => obtain ⟨_, _, _, _, o, _, _, e, _⟩ := x; exact Heap.lt_size e
  | dT kvs => obtain ⟨_, _, _, _, o, _, _, e, _⟩ := x; exact Heap.lt_size e
  | set S n => obtain ⟨o, _, _, _, e, _⟩ := x; exact Heap.lt_size e
  | ins C dx fs => obtain ⟨_, _, _, e, _⟩ := x; exact Heap.lt_size e
  | own y => obtain ⟨_, e⟩ := x; exact Heap.lt_size e
  | xd fs => obtain ⟨_, ⟨_, _, _, e, _⟩, _⟩ := x; exact Heap.lt_size e
  | rng lo hi => obtain ⟨_, _, _, e⟩ := x; exact Heap.lt_size e
  | frz ob u => obtain ⟨e, _⟩ := x; exact Heap.lt_size e
  | tbl ps => exact Heap.lt_size (show h.get? a = some _ from x)
  | met f y => exact Heap.lt_size (show h.get? a = some _ from x)
  | ext φ => obtain ⟨_, ⟨_, e⟩, _⟩ := x; exact Heap.lt_size e
theorem Paired.mapP {α β : Type} {F G : α → β → Prop} : ∀ {l₁ : List α} {l₂ : List β}, Paired F l₁ l₂ → (∀ a b, F a b → G a b) → Paired G l₁ l₂
  | _, _, .nil, _ => .nil
  | _, _, .cons r t, f => .cons (f _ _ r) (Paired.mapP t f)
theorem ObjOk.stay (x : ObjOk P w H h a o) (k : ∀ b u, (b = a ∨ H b = some (.own a)) → h.get? b = some u → h'.get? b = some u)
    (ho : ∀ b, H b = some (.own a) → H' b = some (.own a)) (ht : ∀ b xs, H b = some (.tup xs) → H' b = some (.tup xs)) : ObjOk P w H' h' a o := by
  induction o with
  | lst xs => obtain ⟨z, its, n, r, e⟩ := x; exact ⟨z, its, n, r, k _ _ (.inl rfl) e⟩
  | tup xs => obtain ⟨z, its, r, ob, e, c⟩ := x; exact ⟨z, its, r, ob, k _ _ (.inl rfl) e, c⟩
  | dK kvs => obtain ⟨z, y, vs, r, ob, es, ep, e, c⟩ := x; exact ⟨z, y, vs, r, ob, es, ep, k _ _ (.inl rfl) e, c⟩
  | dT kvs =>
    obtain ⟨z, y, xs, r, ob, es, ep, e, c⟩ := x
    exact ⟨z, y, xs, Paired.mapP r fun p q z => ⟨z.1, ht _ _ z.2.1, z.2.2⟩, ob, es, ep, k _ _ (.inl rfl) e, c⟩
  | set S n => obtain ⟨ob, es, ep, t, e, c⟩ := x; exact ⟨ob, es, ep, t, k _ _ (.inl rfl) e, c⟩
  | ins C dx fs =>
    obtain ⟨d, z, ne, e, mA, ⟨od, es, ep, e2, c⟩, r⟩ := x
    exact ⟨ho _ d, z, ne, k _ _ (.inl rfl) e, mA, ⟨od, es, ep, k _ _ (.inr d) e2, c⟩, r⟩
  | own y => obtain ⟨ob, e⟩ := x; exact ⟨ob, k _ _ (.inl rfl) e⟩
  | xd fs => obtain ⟨mA, ⟨od, es, ep, e, c⟩, r⟩ := x; exact ⟨mA, ⟨od, es, ep, k _ _ (.inl rfl) e, c⟩, r⟩
  | rng lo hi => obtain ⟨t, u, v, e⟩ := x; exact ⟨t, u, v, k _ _ (.inl rfl) e⟩
  | frz ob u ih => obtain ⟨e, q⟩ := x; exact ⟨k _ _ (.inl rfl) e, ih q⟩
  | tbl ps =>
    have e : h.get? a = some { cls := .none, data := .fields ps } := x
    show h'.get? a = some { cls := .none, data := .fields ps }
    exact k a _ (.inl rfl) e
  | met f y =>
    have e : h.get? a = some (PySem.W.methodObj (.ref f) (.ref y)) := x
    show h'.get? a = some (PySem.W.methodObj (.ref f) (.ref y))
    exact k a _ (.inl rfl) e
  | ext φ => obtain ⟨p, ⟨o, e⟩, st⟩ := x; exact ⟨st _ _ p fun o q => k _ _ (.inl rfl) q, ⟨o, k _ _ (.inl rfl) e⟩, st⟩
theorem HOk.lt (x : HOk P w H h) (e : H a = some o) : a < h.objs.size := (x a o e).lt
theorem HOk.fresh (x : HOk P w H h) (e : h.objs.size ≤ a) : H a = none := by
  cases q : H a with
  | none => rfl
  | some u => exact absurd (Nat.lt_of_lt_of_le (x.lt q) e) (Nat.lt_irrefl _)
theorem HOk.kept (x : HOk P w H h) (k : ∀ b u, h.get? b = some u → h'.get? b = some u) : HOk P w H h' := fun a o e =>
  (x a o e).stay (fun b u _ q => k b u q) (fun _ q => q) fun _ _ q => q
theorem HOk.laid (x : HOk P w H h) (k : ∀ b u, h.get? b = some u → h'.get? b = some u) (hp : h.objs.size ≤ a) (new : ObjOk P w (upd H a o) h' a o) : HOk P w (upd H a o) h' := fun b u e => by
  have hn := x.fresh hp
  by_cases hb : b = a
  · subst hb; rw [upd_same] at e; cases e; exact new
  · rw [upd_ne hb] at e
    exact (x b u e).stay (fun c v _ q => k c v q) (fun c q => by rw [upd_ne (ne_of_none q hn)]; exact q) fun c xs q => by rw [upd_ne (ne_of_none q hn)]; exact q
end
noncomputable def Rd (H : Hp) (a : Addr) (u : HO) : Prop := H a = some u ∨ ∃ o, H a = some (.frz o u)
theorem Rd.ok {P : Program} {w : World} {H : Hp} {h : Heap} {a : Addr} {u : HO} (r : Rd H a u) (x : HOk P w H h) : ObjOk P w H h a u := by
  rcases r with r | ⟨o, r⟩
  · exact x a u r
  · obtain ⟨_, q⟩ := x a _ r
    exact q
noncomputable def Mut : Option HO → Prop
  | some (.lst _) => True
  | some (.dK _) => True
  | some (.dT _) => True
  | some (.set _ _) => True
  | some (.ins _ _ _) => True
  | some (.ext _) => True
  | _ => False
section
variable {P : Program} {w : World} {H : Hp} {h h' : Heap} {x e : Addr} {o' : HO}
theorem HOk.write (ok : HOk P w H h) (mu : Mut (H x)) (he : e = x ∨ H e = some (.own x)) (k : ∀ b u, b ≠ e → h.get? b = some u → h'.get? b = some u) (heo : ∃ u, h'.get? e = some u)
    (new : ObjOk P w (upd H x o') h' x o') : HOk P w (upd H x o') h' := fun b u q => by
  have nown : ∀ c y, H c = some (.own y) → c ≠ x := fun c y r z => by subst z; rw [r] at mu; exact mu
  have ntup : ∀ c xs, H c = some (.tup xs) → c ≠ x := fun c xs r z => by subst z; rw [r] at mu; exact mu
  by_cases hb : b = x
  · subst hb; rw [upd_same] at q; cases q; exact new
  · rw [upd_ne hb] at q
    by_cases hbe : b = e
    · have q' : H b = some (.own x) := by
        rcases he with z | z
        · exact absurd (hbe.trans z) hb
        · rw [hbe]; exact z
      rw [q] at q'; cases q'
      obtain ⟨v, hv⟩ := heo
      exact ⟨v, by rw [hbe]; exact hv⟩
    · refine (ok b u q).stay (fun c v hc r => k c v ?_ r) (fun c r => by rw [upd_ne (nown c b r)]; exact r) fun c xs r => by rw [upd_ne (ntup c xs r)]; exact r
      rcases hc with rfl | hc
      · exact hbe
      · rintro rfl
        rcases he with z | z
        · exact nown c b hc z
        · rw [hc] at z; cases z; exact hb rfl
end
structure Un (fs ex : List Addr) (H H' : Hp) (h h' : Heap) : Prop where
  keep : ∀ b o, h.get? b = some o → H b = none → b ∉ fs → b ∉ ex → h'.get? b = some o
  slot : ∀ b o, h.get? b = some o → H b = none → b ∈ fs → b ∉ ex → ∃ sl, h'.get? b = some { o with slots := sl }
  free : ∀ b o, h.get? b = some o → H b = none → b ∉ ex → H' b = none
  there : ∀ b o, h.get? b = some o → b ∉ ex → ∃ o', h'.get? b = some o'
  tups : ∀ b xs, H b = some (.tup xs) → H' b = some (.tup xs)
  frzs : ∀ b o u, H b = some (.frz o u) → H' b = some (.frz o u)
  tbls : ∀ b ps, H b = some (.tbl ps) → ∃ more, H' b = some (.tbl (ps ++ more))
section
variable {fs fs' ex ex' : List Addr} {H H1 H2 : Hp} {h h1 h2 h' : Heap} {a x e : Addr} {o : HO}
theorem Un.any (u : Un fs ex H H1 h h1) {b : Addr} {ob : Obj} (q : h.get? b = some ob) (n : H b = none) (hx : b ∉ ex) : ∃ sl, h1.get? b = some { ob with slots := sl } := by
  by_cases hb : b ∈ fs
  · exact u.slot b ob q n hb hx
  · exact ⟨ob.slots, u.keep b ob q n hb hx⟩
theorem Un.kept (k : ∀ b u, h.get? b = some u → h'.get? b = some u) : Un fs ex H H h h' :=
  ⟨fun b ob q _ _ _ => k b ob q, fun b ob q _ _ _ => ⟨ob.slots, k b ob q⟩, fun _ _ _ n _ => n, fun b ob q _ => ⟨ob, k b ob q⟩, fun _ _ q => q, fun _ _ _ q => q, fun _ ps q => ⟨#[], by rw [q]; simp⟩⟩
theorem Un.refl : Un fs ex H H h h := Un.kept fun _ _ q => q
theorem Un.laid (k : ∀ b u, h.get? b = some u → h'.get? b = some u) (hp : h.objs.size ≤ a) (hn : H a = none) : Un fs ex H (upd H a o) h h' where
  keep := fun b u q _ _ _ => k b u q
  slot := fun b u q _ _ _ => ⟨u.slots, k b u q⟩
  free := fun b u q n _ => by rw [upd_ne (Nat.ne_of_lt (Nat.lt_of_lt_of_le (Heap.lt_size q) hp))]; exact n
  there := fun b u q _ => ⟨u, k b u q⟩
  tups := fun b xs q => by rw [upd_ne (ne_of_none q hn)]; exact q
  frzs := fun b u xs q => by rw [upd_ne (ne_of_none q hn)]; exact q
  tbls := fun b ps q => ⟨#[], by rw [upd_ne (ne_of_none q hn), q]; simp⟩
theorem Un.write (mu : Mut (H x)) (he : e = x ∨ H e = some (.own x)) (k : ∀ b u, b ≠ e → h.get? b = some u → h'.get? b = some u) (heo : ∃ u, h'.get? e = some u) : Un fs ex H (upd H x o) h h' := by
  have hx : ∀ b, H b = none → b ≠ x := fun b n z => by subst z; rw [n] at mu; exact mu
  have hb : ∀ b, H b = none → b ≠ e := fun b n z => by
    subst z
    rcases he with r | r
    · exact hx b n r
    · rw [n] at r; cases r
  have hm : ∀ b u, H b = some u → ¬ Mut (some u) → b ≠ x := fun b u q nm z => by subst z; rw [q] at mu; exact nm mu
  refine ⟨fun b u q n _ _ => k b u (hb b n) q, fun b u q n _ _ => ⟨u.slots, k b u (hb b n) q⟩, fun b u q n _ => by rw [upd_ne (hx b n)]; exact n, fun b u q _ => ?_,
    fun b xs q => by rw [upd_ne (hm b _ q fun z => z)]; exact q, fun b u xs q => by rw [upd_ne (hm b _ q fun z => z)]; exact q, fun b ps q => ⟨#[], by rw [upd_ne (hm b _ q fun z => z), q]; simp⟩⟩
  by_cases hbe : b = e
  · subst hbe; exact heo
  · exact ⟨u, k b u hbe q⟩
end
noncomputable def trk (h : Heap) (H : Hp) : List Addr := (List.range h.objs.size).filter fun a => (H a).isSome
noncomputable def hidT (h : Heap) (H : Hp) : Heap := PySem.W.hideAll h (trk h H)
theorem hidT_size (h : Heap) (H : Hp) : (hidT h H).objs.size = h.objs.size := PySem.W.hideAll_size _ _
theorem hidT_get {h : Heap} {H : Hp} {b : Addr} {o : Obj} (e : h.get? b = some o) (n : H b = none) : (hidT h H).get? b = some o :=
  PySem.W.hideAll_get _ e fun hm => by
    have q : (H b).isSome = true := (List.mem_filter.mp hm).2
    rw [n] at q; simp at q
theorem of_hidT {h : Heap} {H : Hp} {b : Addr} {o : Obj} (e : (hidT h H).get? b = some o) : h.get? b = some o ∧ H b = none := by
  have e' : h.get? b = some o := PySem.W.of_hideAll (trk h H) e
  refine ⟨e', ?_⟩
  cases q : H b with
  | none => rfl
  | some x =>
    have hm : b ∈ trk h H := List.mem_filter.mpr ⟨List.mem_range.mpr (Heap.lt_size e'), by simp [q]⟩
    have z : (hidT h H).get? b = none := PySem.W.hideAll_none (trk h H) hm
    rw [z] at e; cases e
noncomputable def allNews (g h : Heap) (L : Addr) : List (Addr × Obj) := (List.range h.objs.size).filterMap fun a => if a = L ∨ (g.get? a).isSome = true then none else (h.get? a).map fun o => (a, o)
noncomputable def rest (g h : Heap) (L d : Addr) : List (Addr × Obj) := (allNews g h L).filter fun p => decide (p.1 ≠ d)
end L2
namespace L2
open PySem PySem.Spec PyProof.Rows
structure Mod (K : PySem.W.Frag) (mg : Str → Option Value) (base : Heap) : Prop where
  kin : K.In base
  glob : base.Ns mainGlobals mg
  blt : ∃ mb, base.Ns builtinsNs mb ∧ ∀ x : Str, x ≠ "__name__" → mb x = bootBuiltins x
  nolimit : base.NoLimit
structure Cx where
  prog : Program
  w : World
  K : PySem.W.Frag
  mg : Str → Option Value
  base : Heap
  A : Around
  N : List Str
  s₀ : Shared
  H₀ : Hp
  env : Env
  outer : List Env
  stack : List Env
  ex : List Addr
  fn : Str → Bool
  calm : Bool
  pn : List (Addr × Obj)
  xe : Value → Shared → Prop
noncomputable def frs (l : List Env) : List Addr := l.filterMap (·.frame)
noncomputable abbrev Cx.fs (X : Cx) : List Addr := frs X.outer
noncomputable def Vis (sc : Scope) (x : Str) : Prop := sc.names.lookup x = some .local ∨ sc.names.lookup x = some .cell ∨ sc.names.lookup x = some .free
noncomputable def Loc (sc : Scope) (x : Str) : Prop := sc.names.lookup x = some .local ∨ sc.names.lookup x = some .cell
noncomputable def Look (env : Env) (h : Heap) (m : Str → Option Value) (x : Str) (u : Value) : Prop :=
  (env.kindOf x = some .local ∧ m x = some u) ∨ ((env.kindOf x = some .cell ∨ env.kindOf x = some .free) ∧ ∃ c, env.cells.lookup x = some c ∧ h.IsCell c (some u))
structure Cx.Ok (X : Cx) : Prop where
  mod : Mod X.K X.mg X.base
  kind : X.env.scope.kind = .function
  glob : X.env.globals = mainGlobals
  blt : X.env.builtins = builtinsNs
  above : X.s₀.heap.objs.size ≤ X.env.locals
  inj : ∀ x y c, X.env.cells.lookup x = some c → X.env.cells.lookup y = some c → x = y
  has : ∀ x, (X.env.kindOf x = some .cell ∨ X.env.kindOf x = some .free) → ∃ c, X.env.cells.lookup x = some c
  cab : ∀ x c, X.fn x = true → X.env.cells.lookup x = some c → X.s₀.heap.objs.size ≤ c
  hd : X.calm = true → X.A.handled = none
  frames : X.A.frames = some X.stack
  stk : X.stack = X.outer ∨ (X.stack = X.env :: X.outer ∧ X.env.frame = some X.env.locals)
  exf : ∀ b ∈ X.ex, b ≠ X.env.locals ∧ ∀ x c, X.env.cells.lookup x = some c → c ≠ b
  bs : ∀ b o, X.base.get? b = some o → X.s₀.heap.get? b = some o ∧ X.H₀ b = none
  bsz : X.base.objs.size ≤ X.s₀.heap.objs.size
  noex : ∀ b o, X.base.get? b = some o → b ∉ X.ex
  exfs : ∀ b ∈ X.ex, b ∉ X.fs
  funs : X.s₀.heap.FunFrames X.base X.outer
  frf : ∀ b ∈ X.fs, X.H₀ b = none
structure Inv (X : Cx) (pins : List (Addr × Obj)) (σ : List (Option V)) (H : Hp) (s : Shared) : Prop where
  ok : X.Ok
  os : s.os = X.s₀.os
  bare : AllBare s.gens
  base : Un X.fs X.ex X.H₀ H X.s₀.heap s.heap
  loc : ∃ m, s.heap.Ns X.env.locals m ∧ ∀ (i : Nat) (x : Str) (v : V), X.N[i]? = some x → σ[i]? = some (some v) → Vis X.env.scope x → ∃ u, RelV v u ∧ Look X.env s.heap m x u
  cell : ∀ x c, X.env.cells.lookup x = some c → ∃ v, s.heap.IsCell c v
  free : H X.env.locals = none
  freeC : ∀ x c, X.env.cells.lookup x = some c → H c = none
  pin : ∀ p ∈ X.pn ++ pins, s.heap.get? p.1 = some p.2 ∧ H p.1 = none ∧ p.1 ≠ X.env.locals ∧ p.1 ∉ X.fs ∧ ∀ v, p.2.data ≠ .cell v
  hok : HOk X.prog X.w H s.heap
  len : σ.length = X.N.length
section
variable {X : Cx} {pins : List (Addr × Obj)} {σ : List (Option V)} {H H' : Hp} {s : Shared} {h' : Heap}
theorem Cx.Ok.nofr (ok : X.Ok) {b : Addr} {o : Obj} (e : X.base.get? b = some o) : b ∉ X.fs := fun hb => by
  have := (ok.funs.mem hb).1
  rw [e] at this; cases this
theorem Inv.bs (I : Inv X pins σ H s) : ∀ b o, X.base.get? b = some o → s.heap.get? b = some o ∧ H b = none := fun b o e =>
  ⟨I.base.keep b o (I.ok.bs b o e).1 (I.ok.bs b o e).2 (I.ok.nofr e) (I.ok.noex b o e), I.base.free b o (I.ok.bs b o e).1 (I.ok.bs b o e).2 (I.ok.noex b o e)⟩
theorem Inv.bk (I : Inv X pins σ H s) : ∀ b o, X.base.get? b = some o → s.heap.get? b = some o := fun b o e => (I.bs b o e).1
theorem Inv.mod (I : Inv X pins σ H s) : Mod X.K X.mg X.base := I.ok.mod
theorem Inv.kIn (I : Inv X pins σ H s) : X.K.In s.heap := I.ok.mod.kin.keeps I.bk
theorem Inv.lt (I : Inv X pins σ H s) : X.env.locals < s.heap.objs.size := let ⟨_, hn, _⟩ := I.loc; hn.lt
theorem Inv.sz (I : Inv X pins σ H s) : X.s₀.heap.objs.size ≤ s.heap.objs.size := Nat.le_trans I.ok.above (Nat.le_of_lt I.lt)
theorem Inv.nofs (I : Inv X pins σ H s) {a : Addr} (h : s.heap.objs.size ≤ a) : a ∉ X.fs := fun hb => by
  obtain ⟨_, o, ho, _⟩ := I.ok.funs.mem hb
  exact absurd (Nat.lt_of_lt_of_le (Heap.lt_size ho) (Nat.le_trans I.sz h)) (Nat.lt_irrefl _)
theorem Inv.cne (I : Inv X pins σ H s) : ∀ x c, X.env.cells.lookup x = some c → c ≠ X.env.locals := fun x c e z => by
  obtain ⟨v, o, ho, hd⟩ := I.cell x c e
  obtain ⟨m, ⟨o', es, ep, ho', hd', _⟩, _⟩ := I.loc
  rw [z, ho'] at ho; cases ho; rw [hd'] at hd; cases hd
theorem Inv.funs (I : Inv X pins σ H s) : s.heap.FunFrames X.base X.outer := by
  have all : ∀ (l : List Env), (∀ b ∈ frs l, b ∈ X.fs) → X.s₀.heap.FunFrames X.base l → s.heap.FunFrames X.base l := by
    intro l
    induction l with
    | nil => intro _ _; trivial
    | cons env r ih =>
      intro hs hl
      obtain ⟨hk, ⟨L, o, hf, hn, ho, hd⟩, hr⟩ := hl
      have hL : L ∈ X.fs := hs L (by unfold frs; rw [List.filterMap_cons, hf]; exact List.mem_cons_self)
      obtain ⟨sl, e⟩ := I.base.slot L o ho (I.ok.frf L hL) hL fun z => I.ok.exfs L z hL
      exact ⟨hk, ⟨L, _, hf, hn, e, hd⟩, ih (fun b hb => hs b (by unfold frs; rw [List.filterMap_cons, hf]; exact List.mem_cons_of_mem _ hb)) hr⟩
  exact all X.outer (fun _ hb => hb) I.ok.funs
theorem Inv.stack (I : Inv X pins σ H s) : s.heap.FunFrames X.base X.stack := by
  rcases I.ok.stk with e | ⟨e, hf⟩
  · rw [e]; exact I.funs
  · rw [e]
    obtain ⟨m, hn, _⟩ := I.loc
    refine .cons (by rw [I.ok.kind]; decide) hf hn ?_ I.funs
    exact Heap.get?_none_of_le (Nat.le_trans I.ok.bsz I.ok.above)
theorem Inv.stkSub (I : Inv X pins σ H s) : ∀ b ∈ frs X.stack, b ∈ X.env.locals :: X.fs := fun b hb => by
  rcases I.ok.stk with e | ⟨e, hf⟩
  · rw [e] at hb; exact List.mem_cons_of_mem _ hb
  · rw [e] at hb
    unfold frs at hb
    rw [List.filterMap_cons, hf] at hb
    exact hb
theorem Inv.stkFree (I : Inv X pins σ H s) : ∀ b ∈ frs X.stack, H b = none := fun b hb => by
  rcases List.mem_cons.mp (I.stkSub b hb) with e | hb
  · rw [e]; exact I.free
  · obtain ⟨_, o, ho, _⟩ := I.ok.funs.mem hb
    exact I.base.free b o ho (I.ok.frf b hb) fun z => I.ok.exfs b z hb
theorem Inv.step {g' : Array GenState} {t' : Nat} {d' : Drawn} {ch : List Addr} (I : Inv X pins σ H s)
    (hch : ∀ b ∈ ch, (b ∈ X.ex ∨ X.s₀.heap.objs.size ≤ b) ∧ b ≠ X.env.locals ∧ (∀ x c, X.env.cells.lookup x = some c → c ≠ b) ∧ ∀ p ∈ X.pn ++ pins, p.1 ≠ b)
    (keep : ∀ b o, b ≠ X.env.locals → b ∉ X.fs → b ∉ ch → s.heap.get? b = some o → H b = none → h'.get? b = some o)
    (slot : ∀ b o, b ≠ X.env.locals → b ∈ X.fs → b ∉ ch → s.heap.get? b = some o → H b = none → ∃ sl, h'.get? b = some { o with slots := sl }) (free : ∀ b o, b ∉ ch → s.heap.get? b = some o → H b = none → H' b = none)
    (there : ∀ b o, b ∉ ch → s.heap.get? b = some o → ∃ o', h'.get? b = some o')
    (tups : ∀ b xs, H b = some (.tup xs) → H' b = some (.tup xs)) (frzs : ∀ b o u, H b = some (.frz o u) → H' b = some (.frz o u)) (tbls : ∀ b ps, H b = some (.tbl ps) → ∃ more, H' b = some (.tbl (ps ++ more)))
    (ns : ∀ m, s.heap.Ns X.env.locals m → h'.Ns X.env.locals m) (hok : HOk X.prog X.w H' h') (hg : AllBare g') :
    Inv X pins σ H' { s with heap := h', gens := g', drawn := d', toks := t' } := by
  have neL : ∀ b o, X.s₀.heap.get? b = some o → b ≠ X.env.locals := fun b o e => Nat.ne_of_lt (Nat.lt_of_lt_of_le (Heap.lt_size e) I.ok.above)
  have neC : ∀ b o, X.s₀.heap.get? b = some o → b ∉ X.ex → b ∉ ch := fun b o e hx hb => by
    rcases (hch b hb).1 with z | z
    · exact hx z
    · exact absurd (Nat.lt_of_lt_of_le (Heap.lt_size e) z) (Nat.lt_irrefl _)
  have cellK : ∀ x c, X.env.cells.lookup x = some c → ∀ v, s.heap.IsCell c v → h'.IsCell c v := fun x c e v ⟨o, ho, hd⟩ => by
    have nch : c ∉ ch := fun z => (hch c z).2.2.1 x c e rfl
    by_cases hc : c ∈ X.fs
    · obtain ⟨sl, q⟩ := slot c o (I.cne x c e) hc nch ho (I.freeC x c e)
      exact ⟨_, q, hd⟩
    · exact ⟨o, keep c o (I.cne x c e) hc nch ho (I.freeC x c e), hd⟩
  refine ⟨I.ok, I.os, hg, ⟨fun b o e n hb hx => ?_, fun b o e n hb hx => ?_, fun b o e n hx => ?_, fun b o e hx => ?_, fun b xs e => tups b xs (I.base.tups b xs e), fun b o xs e => frzs b o xs (I.base.frzs b o xs e), fun b ps e => ?_⟩, ?_, fun x c e => ?_, ?_, fun x c e => ?_, fun p hp => ?_, hok, I.len⟩
  · exact keep b o (neL b o e) hb (neC b o e hx) (I.base.keep b o e n hb hx) (I.base.free b o e n hx)
  · obtain ⟨sl, e1⟩ := I.base.slot b o e n hb hx
    obtain ⟨sl', e2⟩ := slot b _ (neL b o e) hb (neC b o e hx) e1 (I.base.free b o e n hx)
    exact ⟨sl', e2⟩
  · obtain ⟨o', e1⟩ := I.base.there b o e hx
    exact free b o' (neC b o e hx) e1 (I.base.free b o e n hx)
  · obtain ⟨o', e1⟩ := I.base.there b o e hx
    exact there b o' (neC b o e hx) e1
  · obtain ⟨m1, e1⟩ := I.base.tbls b ps e
    obtain ⟨m2, e2⟩ := tbls b _ e1
    exact ⟨m1 ++ m2, by rw [e2, Array.append_assoc]⟩
  · obtain ⟨m, hn, hl⟩ := I.loc
    refine ⟨m, ns m hn, fun i x v e1 e2 e3 => ?_⟩
    obtain ⟨u, r, l⟩ := hl i x v e1 e2 e3
    refine ⟨u, r, ?_⟩
    rcases l with l | ⟨k, c, e, z⟩
    · exact .inl l
    · exact .inr ⟨k, c, e, cellK x c e _ z⟩
  · obtain ⟨v, z⟩ := I.cell x c e
    exact ⟨v, cellK x c e v z⟩
  · obtain ⟨m, ⟨o, _, _, ho, _⟩, _⟩ := I.loc
    exact free _ o (fun z => (hch _ z).2.1 rfl) ho I.free
  · obtain ⟨v, o, ho, hd⟩ := I.cell x c e
    exact free c o (fun z => (hch c z).2.2.1 x c e rfl) ho (I.freeC x c e)
  · obtain ⟨e, n, ne, nf, d⟩ := I.pin p hp
    have nch : p.1 ∉ ch := fun z => (hch p.1 z).2.2.2 p hp rfl
    exact ⟨keep p.1 p.2 ne nf nch e n, free p.1 p.2 nch e n, ne, nf, d⟩
theorem Inv.un {t' : Nat} (I : Inv X pins σ H s) (u : Un X.fs [] H H' s.heap h') (hok : HOk X.prog X.w H' h') : Inv X pins σ H' { s with heap := h', toks := t' } := by
  obtain ⟨m, ⟨o, es, ep, ho, r⟩, _⟩ := id I.loc
  obtain ⟨sl, hL⟩ := u.any ho I.free (by simp)
  exact I.step (g' := s.gens) (d' := s.drawn) (ch := []) (fun _ z => nomatch z) (fun b o _ hb _ e n => u.keep b o e n hb (by simp)) (fun b o _ hb _ e n => u.slot b o e n hb (by simp)) (fun b o _ e n => u.free b o e n (by simp)) (fun b o _ e => u.there b o e (by simp)) u.tups u.frzs u.tbls (fun m' hm => by
    obtain ⟨o', es', ep', ho', r'⟩ := hm
    rw [ho] at ho'; cases ho'
    exact ⟨_, es', ep', hL, r'⟩) hok I.bare
theorem Inv.call {g' : Array GenState} {t' : Nat} {d' : Drawn} {ch : List Addr} (I : Inv X pins σ H s) (u : Un (frs X.stack) ch H H' s.heap h') (hok : HOk X.prog X.w H' h') (hg : AllBare g')
    (hch : ∀ b ∈ ch, (b ∈ X.ex ∨ X.s₀.heap.objs.size ≤ b) ∧ b ≠ X.env.locals ∧ (∀ x c, X.env.cells.lookup x = some c → c ≠ b) ∧ ∀ p ∈ X.pn ++ pins, p.1 ≠ b) :
    Inv X pins σ H' { s with heap := h', gens := g', drawn := d', toks := t' } := by
  obtain ⟨m, ⟨o, es, ep, ho, r⟩, _⟩ := id I.loc
  obtain ⟨sl, hL⟩ := u.any ho I.free fun z => (hch _ z).2.1 rfl
  exact I.step (ch := ch) hch (fun b o hL hb hc e n => u.keep b o e n (fun z => (List.mem_cons.mp (I.stkSub b z)).elim hL hb) hc) (fun b o _ _ hc e n => u.any e n hc) (fun b o hc e n => u.free b o e n hc) (fun b o hc e => u.there b o e hc) u.tups u.frzs u.tbls (fun m' hm => by
    obtain ⟨o', es', ep', ho', r'⟩ := hm
    rw [ho] at ho'; cases ho'
    exact ⟨_, es', ep', hL, r'⟩) hok hg
theorem Inv.turned {t' : Nat} {it : Addr} (I : Inv X pins σ H s) (k : ∀ b o, b ≠ it → s.heap.get? b = some o → h'.get? b = some o) (hn : H it = none) (hL : it ≠ X.env.locals)
    (h1 : it ∈ X.ex ∨ X.s₀.heap.objs.size ≤ it) (h2 : ∀ x c, X.env.cells.lookup x = some c → c ≠ it) (h3 : ∀ p ∈ X.pn ++ pins, p.1 ≠ it) : Inv X pins σ H { s with heap := h', toks := t' } := by
  have nit : ∀ b u, H b = some u → b ≠ it := fun b u e z => by rw [z, hn] at e; cases e
  refine I.step (g' := s.gens) (d' := s.drawn) (ch := [it]) (fun b hb => ?_) (fun b o _ _ hc e _ => k b o (fun z => hc (by simp [z])) e) (fun b o _ _ hc e _ => ⟨o.slots, k b o (fun z => hc (by simp [z])) e⟩) (fun _ _ _ _ n => n)
    (fun b o hc e => ⟨o, k b o (fun z => hc (by simp [z])) e⟩) (fun _ _ e => e) (fun _ _ _ e => e) (fun b ps e => ⟨#[], by rw [e]; simp⟩) (fun m hm => ?_) (fun b u e => ?_) I.bare
  · have e : b = it := by simpa using hb
    subst e
    exact ⟨h1, hL, h2, h3⟩
  · obtain ⟨o, es, ep, ho, r⟩ := hm
    exact ⟨o, es, ep, k _ o (Ne.symm hL) ho, r⟩
  · refine (I.hok b u e).stay (fun c v hc q => k c v ?_ q) (fun _ q => q) fun _ _ q => q
    rcases hc with z | z
    · rw [z]; exact nit b u e
    · exact nit c _ z
theorem Inv.tok (I : Inv X pins σ H s) (t : Nat) : Inv X pins σ H { s with toks := t } := I.un (h' := s.heap) (t' := t) Un.refl I.hok
theorem Inv.kept {t' : Nat} (I : Inv X pins σ H s) (k : ∀ b u, s.heap.get? b = some u → h'.get? b = some u) : Inv X pins σ H { s with heap := h', toks := t' } := I.un (Un.kept k) (I.hok.kept k)
theorem Inv.laid {a : Addr} {o : HO} {t' : Nat} (I : Inv X pins σ H s) (k : ∀ b u, s.heap.get? b = some u → h'.get? b = some u) (hp : s.heap.objs.size ≤ a) (new : ObjOk X.prog X.w (upd H a o) h' a o) :
    Inv X pins σ (upd H a o) { s with heap := h', toks := t' } := I.un (Un.laid k hp (I.hok.fresh hp)) (I.hok.laid k hp new)
theorem Inv.write {x e : Addr} {o : HO} {t' : Nat} (I : Inv X pins σ H s) (mu : Mut (H x)) (he : e = x ∨ H e = some (.own x)) (k : ∀ b u, b ≠ e → s.heap.get? b = some u → h'.get? b = some u) (heo : ∃ u, h'.get? e = some u)
    (new : ObjOk X.prog X.w (upd H x o) h' x o) : Inv X pins σ (upd H x o) { s with heap := h', toks := t' } := I.un (Un.write mu he k heo) (I.hok.write mu he k heo new)
theorem Inv.pins_of {pins' : List (Addr × Obj)} (I : Inv X pins σ H s) (h : ∀ p ∈ pins', s.heap.get? p.1 = some p.2 ∧ H p.1 = none ∧ p.1 ≠ X.env.locals ∧ p.1 ∉ X.fs ∧ ∀ v, p.2.data ≠ .cell v) : Inv X pins' σ H s :=
  ⟨I.ok, I.os, I.bare, I.base, I.loc, I.cell, I.free, I.freeC, fun p hp => (List.mem_append.mp hp).elim (fun z => I.pin p (List.mem_append_left _ z)) (h p), I.hok, I.len⟩
theorem nodup_ix {N : List Str} (hN : N.Nodup) {i j : Nat} {x : Str} (a : N[i]? = some x) (b : N[j]? = some x) : i = j := by
  obtain ⟨h1, e1⟩ := List.getElem?_eq_some_iff.mp a
  obtain ⟨h2, e2⟩ := List.getElem?_eq_some_iff.mp b
  exact (List.getElem_inj hN).mp (e1.trans e2.symm)
theorem store_ok2 {M : Model} {A : Around} {E : Value → Shared → Prop} {i : Nat} {x : Str} {v : V} {u : Value} {Q : Unit → Shared → Prop} (I : Inv X pins σ H s) (hN : X.N.Nodup) (hi : X.N[i]? = some x) (hx : Loc X.env.scope x) (r : RelV v u)
    (h : ∀ s', Inv X pins (σ.set i (some v)) H s' → (∃ a, Heap.SameBut a s.heap s'.heap ∧ (a = X.env.locals ∨ X.env.cells.lookup x = some a)) → Q () s') (hf : autoParam (X.fn x = true ∨ X.env.scope.names.lookup x = some .local) zau0._auto_1) : wpAny M A (storeName X.env x u) Q E s := by
  obtain ⟨m, hn, hl⟩ := id I.loc
  have hcls : (X.env.scope.kind == .class || (X.env.scope.kind == .module && X.env.locals != X.env.globals)) = false := by rw [I.ok.kind]; rfl
  have hiσ : i < σ.length := by rw [I.len]; exact (List.getElem?_eq_some_iff.mp hi).1
  have cne := I.cne
  have tracked : ∀ {a : Addr} {h' : Heap}, (∃ o, s.heap.get? a = some o ∧ H a = none) → Heap.SameBut a s.heap h' → HOk X.prog X.w H h' := fun {a h'} ha hs b ob e => by
    obtain ⟨_, _, hfree⟩ := ha
    refine (I.hok b ob e).stay (fun c w' hc q => (hs.2 c ?_).trans q) (fun _ q => q) fun _ _ q => q
    rintro rfl
    rcases hc with rfl | hc
    · rw [hfree] at e; cases e
    · rw [hfree] at hc; cases hc
  rcases hx with hk | hk
  · refine wpAny_storeName_local hk hn (fun h' hn' hs => ?_) hcls
    obtain ⟨oL, _, _, hoL, _⟩ := id hn
    refine h _ ⟨I.ok, I.os, I.bare, ⟨fun b o e n hb hx => ?_, fun b o e n hb hx => ?_, I.base.free, fun b o e hx => ?_, I.base.tups, I.base.frzs, I.base.tbls⟩, ⟨_, hn', fun j y v' e1 e2 e3 => ?_⟩, fun y c e => ?_, I.free, I.freeC, fun p hp => ?_, tracked ⟨oL, hoL, I.free⟩ hs, by simpa using I.len⟩ ⟨_, hs, .inl rfl⟩
    · exact (hs.2 b (Nat.ne_of_lt (Nat.lt_of_lt_of_le (Heap.lt_size e) I.ok.above))).trans (I.base.keep b o e n hb hx)
    · obtain ⟨sl, e1⟩ := I.base.slot b o e n hb hx
      exact ⟨sl, (hs.2 b (Nat.ne_of_lt (Nat.lt_of_lt_of_le (Heap.lt_size e) I.ok.above))).trans e1⟩
    · obtain ⟨o', e1⟩ := I.base.there b o e hx
      exact ⟨o', (hs.2 b (Nat.ne_of_lt (Nat.lt_of_lt_of_le (Heap.lt_size e) I.ok.above))).trans e1⟩
    · by_cases hj : j = i
      · subst hj
        rw [hi] at e1; cases e1
        rw [List.getElem?_set_self hiσ] at e2
        cases e2
        exact ⟨u, r, .inl ⟨hk, by simp⟩⟩
      · rw [List.getElem?_set_ne (Ne.symm hj)] at e2
        obtain ⟨u', r', q⟩ := hl j y v' e1 e2 e3
        refine ⟨u', r', ?_⟩
        rcases q with ⟨k, e⟩ | ⟨k, c, e, z⟩
        · refine .inl ⟨k, ?_⟩
          have : y ≠ x := fun e => hj (nodup_ix hN e1 (e ▸ hi))
          simp [this, e]
        · exact .inr ⟨k, c, e, z.sameBut hs (cne y c e)⟩
    · obtain ⟨w', z⟩ := I.cell y c e
      exact ⟨w', z.sameBut hs (cne y c e)⟩
    · obtain ⟨e, n, ne, nf, d⟩ := I.pin p hp
      exact ⟨(hs.2 p.1 ne).trans e, n, ne, nf, d⟩
  · have hfn : X.fn x = true := by
      rcases hf with z | z
      · exact z
      · rw [z] at hk; cases hk
    obtain ⟨c, hc⟩ := I.ok.has x (.inl hk)
    obtain ⟨w', z⟩ := I.cell x c hc
    refine wpAny_storeName_cell I.ok.kind hk hc z (fun h' hc' hs => ?_)
    obtain ⟨oc, hoc, hocd⟩ := id z
    refine h { s with heap := h' } ⟨I.ok, I.os, I.bare, ⟨fun b o e n hb hx => ?_, fun b o e n hb hx => ?_, I.base.free, fun b o e hx => ?_, I.base.tups, I.base.frzs, I.base.tbls⟩, ⟨m, hn.sameBut hs (Ne.symm (cne x c hc)), fun j y v' e1 e2 e3 => ?_⟩, fun y c' e => ?_, I.free, I.freeC, fun p hp => ?_, tracked ⟨oc, hoc, I.freeC x c hc⟩ hs, by simpa using I.len⟩ ⟨c, hs, .inr hc⟩
    · exact (hs.2 b (Nat.ne_of_lt (Nat.lt_of_lt_of_le (Heap.lt_size e) (I.ok.cab x c hfn hc)))).trans (I.base.keep b o e n hb hx)
    · obtain ⟨sl, e1⟩ := I.base.slot b o e n hb hx
      exact ⟨sl, (hs.2 b (Nat.ne_of_lt (Nat.lt_of_lt_of_le (Heap.lt_size e) (I.ok.cab x c hfn hc)))).trans e1⟩
    · obtain ⟨o', e1⟩ := I.base.there b o e hx
      exact ⟨o', (hs.2 b (Nat.ne_of_lt (Nat.lt_of_lt_of_le (Heap.lt_size e) (I.ok.cab x c hfn hc)))).trans e1⟩
    · by_cases hj : j = i
      · subst hj
        rw [hi] at e1; cases e1
        rw [List.getElem?_set_self hiσ] at e2
        cases e2
        exact ⟨u, r, .inr ⟨.inl hk, c, hc, hc'⟩⟩
      · rw [List.getElem?_set_ne (Ne.symm hj)] at e2
        obtain ⟨u', r', q⟩ := hl j y v' e1 e2 e3
        refine ⟨u', r', ?_⟩
        rcases q with q | ⟨k, c', e, z'⟩
        · exact .inl q
        · refine .inr ⟨k, c', e, z'.sameBut hs ?_⟩
          rintro rfl
          exact hj (nodup_ix hN e1 (I.ok.inj _ _ _ e hc ▸ hi))
    · by_cases hcc : c' = c
      · subst hcc; exact ⟨_, hc'⟩
      · obtain ⟨w2, z2⟩ := I.cell y c' e
        exact ⟨w2, z2.sameBut hs hcc⟩
    · obtain ⟨e, n, ne, nf, d⟩ := I.pin p hp
      refine ⟨(hs.2 p.1 ?_).trans e, n, ne, nf, d⟩
      intro q
      rw [q, hoc] at e
      have q' : oc = p.2 := Option.some.inj e
      exact d w' (by rw [← q']; exact hocd)
theorem store_ok {M : Model} {A : Around} {E : Value → Shared → Prop} {i : Nat} {x : Str} {v : V} {u : Value} {Q : Unit → Shared → Prop} (I : Inv X pins σ H s) (hN : X.N.Nodup) (hi : X.N[i]? = some x) (hx : Loc X.env.scope x) (r : RelV v u)
    (h : ∀ s', Inv X pins (σ.set i (some v)) H s' → Q () s') (hf : autoParam (X.fn x = true ∨ X.env.scope.names.lookup x = some .local) zau0._auto_1) : wpAny M A (storeName X.env x u) Q E s :=
  store_ok2 I hN hi hx r (fun s' I' _ => h s' I') hf
theorem Inv.call' {s' : Shared} {ch : List Addr} (I : Inv X pins σ H s) (ho : s'.os = s.os) (u : Un (frs X.stack) ch H H' s.heap s'.heap) (hok : HOk X.prog X.w H' s'.heap) (hg : AllBare s'.gens)
    (hch : ∀ b ∈ ch, (b ∈ X.ex ∨ X.s₀.heap.objs.size ≤ b) ∧ b ≠ X.env.locals ∧ (∀ x c, X.env.cells.lookup x = some c → c ≠ b) ∧ ∀ p ∈ X.pn ++ pins, p.1 ≠ b) : Inv X pins σ H' s' := by
  obtain ⟨h', g', d', t', o'⟩ := s'
  have e : o' = s.os := ho
  subst e
  exact I.call (g' := g') (t' := t') (d' := d') u hok hg hch
end
noncomputable abbrev XK := Value → Option Addr → Hp → Prop
noncomputable abbrev St := List (Option V)
noncomputable abbrev VK := V → Hp → Prop
noncomputable abbrev TE := St → Hp → VK → Prop
noncomputable abbrev TT := St → Hp → (Bool → Hp → Prop) → Prop
noncomputable abbrev TA := St → Hp → (List V → Hp → Prop) → Prop
structure Ends where
  nx : St → Hp → Prop
  rt : VK
  bk : St → Hp → Prop := fun _ _ => False
  ct : St → Hp → Prop := fun _ _ => False
noncomputable abbrev TS := Ends → St → Hp → Prop
inductive EP (X : Cx) (pins : List (Addr × Obj)) (σ : St) (Q : VK) (u : Value) (s' : Shared) : Prop
  | mk (v : V) (H' : Hp) (h0 : Inv X pins σ H' s') (h1 : RelV v u) (h2 : Q v H')
inductive TP (X : Cx) (pins : List (Addr × Obj)) (σ : St) (Q : Bool → Hp → Prop) (b : Bool) (s' : Shared) : Prop
  | mk (H' : Hp) (h0 : Inv X pins σ H' s') (h1 : Q b H')
inductive AP (X : Cx) (pins : List (Addr × Obj)) (σ : St) (Q : List V → Hp → Prop) (us : List Value) (s' : Shared) : Prop
  | mk (vs : List V) (H' : Hp) (h0 : Inv X pins σ H' s') (h1 : Vals vs us) (h2 : Q vs H')
noncomputable def SP (X : Cx) (pins : List (Addr × Obj)) (D : Ends) (f : Flow) (s' : Shared) : Prop :=
  match f with
  | .next => ∃ σ' H', Inv X pins σ' H' s' ∧ D.nx σ' H'
  | .brk => ∃ σ' H', Inv X pins σ' H' s' ∧ D.bk σ' H'
  | .cont => ∃ σ' H', Inv X pins σ' H' s' ∧ D.ct σ' H'
  | .ret u => ∃ v σ' H', Inv X pins σ' H' s' ∧ RelV v u ∧ D.rt v H'
noncomputable def PE (X : Cx) (e : Expr) (t : TE) : Prop :=
  ∀ (pins : List (Addr × Obj)) (s : Shared) (σ : St) (H : Hp) (Q : VK), Inv X pins σ H s → t σ H Q → wpAny (model X.prog X.w) X.A (eval e X.env) (EP X pins σ Q) X.xe s
noncomputable def PT (X : Cx) (e : Expr) (t : TT) : Prop :=
  ∀ (pins : List (Addr × Obj)) (s : Shared) (σ : St) (H : Hp) (Q : Bool → Hp → Prop), Inv X pins σ H s → t σ H Q → wpAny (model X.prog X.w) X.A (isTrue e X.env (eval e X.env)) (TP X pins σ Q) X.xe s
noncomputable def PW (X : Cx) (e : Expr) (t : TT) : Prop :=
  ∀ (whole : Sem Value) (pins : List (Addr × Obj)) (s : Shared) (σ : St) (H : Hp) (Q : Bool → Hp → Prop), Inv X pins σ H s → t σ H Q → wpAny (model X.prog X.w) X.A (isTrue e X.env whole) (TP X pins σ Q) X.xe s
theorem PW.pt {X : Cx} {e : Expr} {t : TT} (h : PW X e t) : PT X e t := h _
noncomputable def PA (X : Cx) (es : List Expr) (t : TA) : Prop :=
  ∀ (pos : Pos) (pins : List (Addr × Obj)) (s : Shared) (σ : St) (H : Hp) (Q : List V → Hp → Prop), Inv X pins σ H s → t σ H Q → wpAny (model X.prog X.w) X.A (spliced (backTo pos (starEach es X.env))) (AP X pins σ Q) X.xe s
noncomputable def PS (X : Cx) (st : Stmt) (t : TS) : Prop :=
  ∀ (pins : List (Addr × Obj)) (s : Shared) (σ : St) (H : Hp) (D : Ends), Inv X pins σ H s → t D σ H → wpAny (model X.prog X.w) X.A (exec st X.env) (SP X pins D) X.xe s
noncomputable def PSs (X : Cx) (st : List Stmt) (t : TS) : Prop :=
  ∀ (pins : List (Addr × Obj)) (s : Shared) (σ : St) (H : Hp) (D : Ends), Inv X pins σ H s → t D σ H → wpAny (model X.prog X.w) X.A (execs st X.env) (SP X pins D) X.xe s
theorem thn {α : Type} {t : Sem α} {Q Q' : α → Shared → Prop} {M : Model} {A : Around} {E : Value → Shared → Prop} {s : Shared} (h : wpAny M A t Q E s) (hQ : ∀ a s, Q a s → Q' a s) : wpAny M A t Q' E s := wpAny_mono h hQ fun _ _ x => x
end L2
namespace L2
open PySem PySem.Spec PyProof.Rows
section
variable {X : Cx}
noncomputable def tVar (i : Nat) : TE := fun σ H Q => ∃ v, σ[i]? = some (some v) ∧ Q v H
noncomputable def tC (v : V) : TE := fun _ H Q => Q v H
theorem pe_var {i : Nat} {x : Str} {pos : Pos} (hN : X.N[i]? = some x) (hv : Vis X.env.scope x) (hd : autoParam ((x == ("__debug__" : Str)) = false) zau1._auto_1) (hcd : autoParam ((x == ("__classdict__" : Str)) = false) zau1._auto_1) : PE X (.Name x pos) (tVar i) := by
  intro pins s σ H Q I h
  obtain ⟨v, e, h⟩ := h
  obtain ⟨m, hn, hl⟩ := I.loc
  obtain ⟨u, r, l⟩ := hl i x v hN e hv
  have fin : EP X pins σ Q u s := ⟨v, H, I, r, h⟩
  rcases l with ⟨hk, hm⟩ | ⟨hk, c, hc, hcell⟩
  · exact wpAny_Name (wpAny_loadName_local I.ok.kind hk hn hm fin) hd
  · rcases hk with hk | hk
    · exact wpAny_Name (wpAny_loadName_cell I.ok.kind hk hc hcell fin) hd
    · exact wpAny_Name (wpAny_loadName_free I.ok.kind hk hc hcell fin hcd) hd
theorem pe_int {i j pos} : PE X (.Constant (.int i) j pos) (tC (.int i)) := fun _ _ _ H _ I h => wpAny_Constant_int ⟨.int i, H, I.tok _, ⟨_, rfl⟩, h⟩
theorem pe_bl {b j pos} : PE X (.Constant (.bool b) j pos) (tC (.bl b)) := fun _ _ _ H _ I h => Constant_bool ⟨.bl b, H, I, rfl, h⟩
noncomputable def Gl (X : Cx) (x : Str) : Prop := X.env.kindOf x = some .globalImplicit
theorem ld_glob {E : Value → Shared → Prop} {pins : List (Addr × Obj)} {s : Shared} {σ : St} {H : Hp} {x : Str} {u : Value} {pos : Pos} {Q : Value → Shared → Prop} (I : Inv X pins σ H s) (hg : Gl X x) (hm : X.mg x = some u) (h : Q u s)
    (hd : autoParam ((x == ("__debug__" : Str)) = false) zau1._auto_1) : wpAny (model X.prog X.w) X.A (eval (.Name x pos) X.env) Q E s :=
  Calls.Name_function_global I.ok.kind hg (Calls.loadGlobal_global (by rw [I.ok.glob]; exact I.mod.glob.keeps I.bk) hm h) hd
theorem ld_blt {E : Value → Shared → Prop} {pins : List (Addr × Obj)} {s : Shared} {σ : St} {H : Hp} {x : Str} {u : Value} {pos : Pos} {Q : Value → Shared → Prop} (I : Inv X pins σ H s) (hg : Gl X x) (hm : X.mg x = none) (hv : bootBuiltins x = some u) (h : Q u s)
    (hn : autoParam (x ≠ "__name__") zau1._auto_1) (hd : autoParam ((x == ("__debug__" : Str)) = false) zau1._auto_1) : wpAny (model X.prog X.w) X.A (eval (.Name x pos) X.env) Q E s := by
  obtain ⟨mb, h1, h2⟩ := I.mod.blt
  exact Calls.Name_function_global I.ok.kind hg (Calls.loadGlobal_builtin (by rw [I.ok.glob]; exact I.mod.glob.keeps I.bk) hm (by rw [I.ok.blt]; exact h1.keeps I.bk) ((h2 x hn).trans hv) h) hd
theorem pe_bltn {x : Str} {v : V} {u : Value} {pos : Pos} (hg : Gl X x) (hm : X.mg x = none) (hv : bootBuiltins x = some u) (r : RelV v u) (hn : autoParam (x ≠ "__name__") zau1._auto_1) (hd : autoParam ((x == ("__debug__" : Str)) = false) zau1._auto_1) : PE X (.Name x pos) (tC v) :=
  fun _ _ _ H _ I h => ld_blt I hg hm hv ⟨v, H, I, r, h⟩ hn hd
variable {a b : Expr} {ta tb : TE} {pos : Pos}
noncomputable def tB (t : TE) : TT := fun σ H Q => t σ H fun x H1 => ∃ c, x = .bl c ∧ Q c H1
variable {tA tB' : TT} {rest : List Expr}
noncomputable def tAnd (t u : TT) : TT := fun σ H Q => t σ H fun c H1 => if c = true then u σ H1 Q else Q false H1
noncomputable def tOr (t u : TT) : TT := fun σ H Q => t σ H fun c H1 => if c = true then Q true H1 else u σ H1 Q
noncomputable def tNot (t : TT) : TT := fun σ H Q => t σ H fun c H1 => Q (!c) H1
theorem pw_and1 (ha : PT X a tA) : PW X (.BoolOp .And [a] pos) tA := by
  intro wh pins s σ H Q I h
  refine isTrue_and (thn (ha pins s σ H Q I h) fun c s1 e => ?_)
  cases c with
  | true => exact isTrue_and_nil e
  | false => exact e
theorem pw_or1 (ha : PT X a tA) : PW X (.BoolOp .Or [a] pos) tA := by
  intro wh pins s σ H Q I h
  refine isTrue_or (thn (ha pins s σ H Q I h) fun c s1 e => ?_)
  cases c with
  | false => exact isTrue_or_nil e
  | true => exact e
theorem pw_and (ha : PT X a tA) (hb : PW X (.BoolOp .And (b :: rest) pos) tB') : PW X (.BoolOp .And (a :: b :: rest) pos) (tAnd tA tB') := by
  intro wh pins s σ H Q I h
  refine isTrue_and (thn (ha pins s σ H _ I h) fun c s1 hzz => ?_)
  obtain ⟨H1, I1, q1⟩ := hzz
  cases c with
  | true => exact hb wh pins s1 σ H1 Q I1 q1
  | false => exact ⟨H1, I1, q1⟩
theorem pw_or (ha : PT X a tA) (hb : PW X (.BoolOp .Or (b :: rest) pos) tB') : PW X (.BoolOp .Or (a :: b :: rest) pos) (tOr tA tB') := by
  intro wh pins s σ H Q I h
  refine isTrue_or (thn (ha pins s σ H _ I h) fun c s1 hzz => ?_)
  obtain ⟨H1, I1, q1⟩ := hzz
  cases c with
  | true => exact ⟨H1, I1, q1⟩
  | false => exact hb wh pins s1 σ H1 Q I1 q1
theorem pt_not (ha : PT X a tA) : PT X (.UnaryOp .Not a pos) (tNot tA) := by
  intro pins s σ H Q I h
  exact isTrue_not (thn (ha pins s σ H (fun c H1 => Q (!c) H1) I h) fun c s1 z => z.casesOn fun H1 I1 q1 => ⟨H1, I1, q1⟩)
noncomputable def tAndV (ta tb : TE) : TE := fun σ H Q => ta σ H fun x H1 => ∃ c, x = .bl c ∧ if c = true then tb σ H1 Q else Q (.bl false) H1
noncomputable def tNotV (ta : TE) : TE := fun σ H Q => ta σ H fun x H1 => ∃ c, x = .bl c ∧ Q (.bl (!c)) H1
theorem pe_one {op} {t : TE} (h : PE X a t) : PE X (.BoolOp op [a] pos) t := fun pins s σ H Q I hw => BoolOp_one (h pins s σ H Q I hw)
theorem pe_and (ha : PE X a ta) (hb : PE X (.BoolOp .And (b :: rest) pos) tb) : PE X (.BoolOp .And (a :: b :: rest) pos) (tAndV ta tb) := by
  intro pins s σ H Q I h
  refine BoolOp_and (thn (ha pins s σ H _ I h) fun v s1 hzz => ?_)
  obtain ⟨x, H1, I1, r1, q1⟩ := hzz
  obtain ⟨c, rfl, q1⟩ := q1
  cases r1
  refine wpAny_truthy_bool ?_
  cases c with
  | true => exact hb pins s1 σ H1 Q I1 q1
  | false => exact ⟨.bl false, H1, I1, rfl, q1⟩
theorem pe_not (ha : PE X a ta) : PE X (.UnaryOp .Not a pos) (tNotV ta) := by
  intro pins s σ H Q I h
  refine UnaryOp_ (thn (ha pins s σ H _ I h) fun v s1 hzz => ?_)
  obtain ⟨x, H1, I1, r1, q1⟩ := hzz
  obtain ⟨c, rfl, q1⟩ := q1
  cases r1
  exact not_of (wpAny_truthy_bool ⟨.bl (!c), H1, I1, rfl, q1⟩)
end
end L2
namespace L2
open PySem PySem.Spec PyProof.Rows
noncomputable def SqL (K : PySem.W.Frag) (H : Hp) (a : Addr) (xs : List V) : Prop :=
  Rd H a (.lst xs) ∨
    ∃ (o : Obj) (its : Array Value) (n : Nat), K.lookup a = some o ∧ o.cls = .type "list" ∧ o.dict = none ∧ o.data = .seq its n ∧ its.size ≤ sizeLine ∧ Vals xs its.toList
noncomputable def SqT (K : PySem.W.Frag) (H : Hp) (a : Addr) (xs : List V) : Prop :=
  Rd H a (.tup xs) ∨
    ∃ (o : Obj) (its : Array Value) (n : Nat), K.lookup a = some o ∧ o.cls = .type "tuple" ∧ o.data = .seq its n ∧ its.size ≤ sizeLine ∧ Vals xs its.toList
noncomputable def absV : Value → Option V
  | .none => some .non
  | .bool b => some (.bl b)
  | .int i _ => some (.int i)
  | .str x _ => some (.str x)
  | .bytes b _ => some (.byt b)
  | .float b _ => some (.flt b)
  | .ref a => some (.ref a)
  | .type n => some (.ty n)
  | _ => none
theorem RelV.abs {x : V} {u : Value} (r : RelV x u) : absV u = some x := by
  cases x with
  | non => cases r; rfl
  | bl _ => cases r; rfl
  | int _ => obtain ⟨t, rfl⟩ := r; rfl
  | str _ => obtain ⟨t, rfl⟩ := r; rfl
  | byt _ => obtain ⟨t, rfl⟩ := r; rfl
  | flt _ => obtain ⟨t, rfl⟩ := r; rfl
  | ref _ => cases r; rfl
  | ty _ => cases r; rfl
theorem RelV.inj {x y : V} {u : Value} (r : RelV x u) (q : RelV y u) : x = y := Option.some.inj (r.abs.symm.trans q.abs)
theorem Vals.inj : ∀ {xs ys : List V} {us : List Value}, Vals xs us → Vals ys us → xs = ys
  | _, _, _, .nil, .nil => rfl
  | _, _, _, .cons r t, .cons r' t' => by rw [r.inj r', Vals.inj t t']
section
variable {X : Cx} {pins : List (Addr × Obj)} {σ : St} {H : Hp} {s : Shared} {a : Addr} {xs ys : List V}
theorem SqL.of {K : PySem.W.Frag} (h : H a = some (.lst xs)) : SqL K H a xs := .inl (.inl h)
theorem SqT.of {K : PySem.W.Frag} (h : H a = some (.tup xs)) : SqT K H a xs := .inl (.inl h)
theorem Inv.list (I : Inv X pins σ H s) (h : SqL X.K H a xs) : ∃ its : List Value, Vals xs its ∧ PlainL s.heap a its.toArray ∧ xs.length ≤ sizeLine := by
  rcases h with h | ⟨o, its, n, hk, hc, hd, hs, hz, r⟩
  · obtain ⟨z, its, n, r, e⟩ := h.ok I.hok
    exact ⟨its, r, ⟨_, n, e, rfl, rfl, rfl⟩, z⟩
  · refine ⟨its.toList, r, ⟨o, n, I.kIn a o hk, hc, hd, by simpa using hs⟩, ?_⟩
    have e := r.length
    simp only [Array.length_toList] at e
    omega
theorem Inv.tuple (I : Inv X pins σ H s) (h : SqT X.K H a xs) : ∃ its : List Value, Vals xs its ∧ IsTup s.heap a its.toArray ∧ xs.length ≤ sizeLine := by
  rcases h with h | ⟨o, its, n, hk, hc, hs, hz, r⟩
  · obtain ⟨z, its, r, p⟩ := h.ok I.hok
    exact ⟨its, r, p, z⟩
  · refine ⟨its.toList, r, ⟨o, I.kIn a o hk, hc, n, by simpa using hs⟩, ?_⟩
    have e := r.length
    simp only [Array.length_toList] at e
    omega
theorem Inv.list_inj (I : Inv X pins σ H s) (h : SqL X.K H a xs) (h' : SqL X.K H a ys) : xs = ys := by
  obtain ⟨its, r, ⟨o, n, e, _, _, d⟩, _⟩ := I.list h
  obtain ⟨its', r', ⟨o', n', e', _, _, d'⟩, _⟩ := I.list h'
  rw [e] at e'; cases e'
  rw [d] at d'
  injection d' with d1 _
  have : its = its' := by simpa using congrArg Array.toList d1
  subst this
  exact r.inj r'
theorem Inv.tuple_inj (I : Inv X pins σ H s) (h : SqT X.K H a xs) (h' : SqT X.K H a ys) : xs = ys := by
  obtain ⟨its, r, ⟨o, e, _, n, d⟩, _⟩ := I.tuple h
  obtain ⟨its', r', ⟨o', e', _, n', d'⟩, _⟩ := I.tuple h'
  rw [e] at e'; cases e'
  rw [d] at d'
  injection d' with d1 _
  have : its = its' := by simpa using congrArg Array.toList d1
  subst this
  exact r.inj r'
end
noncomputable abbrev Cx.wish (X : Cx) (E : Value → Shared → Prop) : Cx := { X with xe := E }
noncomputable abbrev Cx.nox (X : Cx) : Cx := X.wish fun _ _ => False
theorem Cx.Ok.wish {X : Cx} (ok : X.Ok) (E : Value → Shared → Prop) : (X.wish E).Ok :=
  ⟨ok.mod, ok.kind, ok.glob, ok.blt, ok.above, ok.inj, ok.has, ok.cab, ok.hd, ok.frames, ok.stk, ok.exf, ok.bs, ok.bsz, ok.noex, ok.exfs, ok.funs, ok.frf⟩
theorem Cx.Ok.unwish {X : Cx} {E : Value → Shared → Prop} (ok : (X.wish E).Ok) : X.Ok :=
  ⟨ok.mod, ok.kind, ok.glob, ok.blt, ok.above, ok.inj, ok.has, ok.cab, ok.hd, ok.frames, ok.stk, ok.exf, ok.bs, ok.bsz, ok.noex, ok.exfs, ok.funs, ok.frf⟩
section
variable {X : Cx} {pins : List (Addr × Obj)} {σ : St} {H : Hp} {s : Shared} {E : Value → Shared → Prop}
theorem Inv.wish (I : Inv X pins σ H s) (E : Value → Shared → Prop) : Inv (X.wish E) pins σ H s := ⟨I.ok.wish E, I.os, I.bare, I.base, I.loc, I.cell, I.free, I.freeC, I.pin, I.hok, I.len⟩
theorem Inv.unwish (I : Inv (X.wish E) pins σ H s) : Inv X pins σ H s := ⟨I.ok.unwish, I.os, I.bare, I.base, I.loc, I.cell, I.free, I.freeC, I.pin, I.hok, I.len⟩
theorem SP.unwish {D : Ends} {f : Flow} {s' : Shared} (h : SP (X.wish E) pins D f s') : SP X pins D f s' := by
  cases f with
  | next => obtain ⟨σ', H', I, q⟩ := h; exact ⟨σ', H', I.unwish, q⟩
  | brk => obtain ⟨σ', H', I, q⟩ := h; exact ⟨σ', H', I.unwish, q⟩
  | cont => obtain ⟨σ', H', I, q⟩ := h; exact ⟨σ', H', I.unwish, q⟩
  | ret u => obtain ⟨v, σ', H', I, r, q⟩ := h; exact ⟨v, σ', H', I.unwish, r, q⟩
theorem PSs.nox {st : List Stmt} {t : TS} (h : PSs X.nox st t) : PSs X st t := fun pins s σ H D I hw =>
  wpAny_mono (h pins s σ H D (I.wish _) hw) (fun _ _ q => q.unwish) fun _ _ z => False.elim z
end
section
variable {X : Cx} {st : Stmt} {rest : List Stmt} {t u : TS} {e : Expr} {te : TE} {pos : Pos}
noncomputable def tNext : TS := fun D σ H => D.nx σ H
noncomputable def tSeq (t u : TS) : TS := fun D σ H => t { D with nx := u D } σ H
theorem pss_nil : PSs X [] tNext := fun _ _ σ H _ I h => wpAny_execs_nil ⟨σ, H, I, h⟩
theorem pss_cons (h1 : PS X st t) (h2 : PSs X rest u) : PSs X (st :: rest) (tSeq t u) := by
  intro pins s σ H D I h
  refine wpAny_execs_cons (thn (h1 pins s σ H { D with nx := u D } I h) fun f s1 q => ?_)
  cases f with
  | next =>
    obtain ⟨σ', H', I', q⟩ := q
    exact h2 pins s1 σ' H' D I' q
  | ret v => exact q
  | brk => exact q
  | cont => exact q
theorem pss_one (h1 : PS X st t) : PSs X [st] t := by
  intro pins s σ H D I h
  refine wpAny_execs_cons (thn (h1 pins s σ H D I h) fun f s1 q => ?_)
  cases f with
  | next => exact wpAny_execs_nil q
  | ret v => exact q
  | brk => exact q
  | cont => exact q
theorem Inv.quiet {pins : List (Addr × Obj)} {σ : St} {H : Hp} {s : Shared} (I : Inv X pins σ H s) : interactive X.env = false := by simp [interactive, I.ok.kind]
noncomputable def tDrop (te : TE) : TS := fun D σ H => te σ H fun _ H1 => D.nx σ H1
theorem ps_expr (he : PE X e te) (hs : autoParam (swapsWith e none pos.line X.env = pure false) zau2._auto_1) : PS X (.Expr e pos) (tDrop te) := by
  intro pins s σ H D I h
  exact wpAny_Expr_any (thn (he pins s σ H _ I h) fun v s1 ⟨x, H1, I1, r1, q1⟩ => ⟨σ, H1, I1, q1⟩) I.quiet hs
noncomputable def tRet (te : TE) : TS := fun D σ H => te σ H D.rt
theorem ps_ret (he : PE X e te) : PS X (.Return (some e) pos) (tRet te) := by
  intro pins s σ H D I h
  exact wpAny_Return_some (thn (he pins s σ H _ I h) fun v s1 ⟨x, H1, I1, r1, q1⟩ => ⟨x, σ, H1, I1, r1, q1⟩)
noncomputable def tIfS (c : TT) (t u : TS) : TS := fun D σ H => c σ H fun b H1 => if b = true then t D σ H1 else u D σ H1
theorem ps_if {c : Expr} {a b : List Stmt} {tc : TT} (hc : PT X c tc) (ha : PSs X a t) (hb : PSs X b u) : PS X (.If c a b pos) (tIfS tc t u) := by
  intro pins s σ H D I h
  refine wpAny_If (thn (hc pins s σ H _ I h) fun d s1 hzz => ?_)
  obtain ⟨H1, I1, q1⟩ := hzz
  cases d with
  | true => exact ha pins s1 σ H1 D I1 q1
  | false => exact hb pins s1 σ H1 D I1 q1
end
noncomputable abbrev TG := V → St → Hp → (St → Hp → Prop) → Prop
noncomputable def PG (X : Cx) (target : Expr) (t : TG) : Prop :=
  ∀ (pins : List (Addr × Obj)) (s : Shared) (σ : St) (H : Hp) (v : V) (u : Value) (Q : St → Hp → Prop), Inv X pins σ H s → RelV v u → t v σ H Q →
    wpAny (model X.prog X.w) X.A (assign target X.env u) (fun _ s' => ∃ σ' H', Inv X pins σ' H' s' ∧ Q σ' H') X.xe s
noncomputable abbrev TSet := V → V → V → Hp → (Hp → Prop) → Prop
noncomputable def PSet (X : Cx) (t : TSet) : Prop :=
  ∀ (pins : List (Addr × Obj)) (s : Shared) (σ : St) (H : Hp) (o i v : V) (ov iv u : Value) (Q : Hp → Prop), Inv X pins σ H s → RelV o ov → RelV i iv → RelV v u → t o i v H Q →
    wpAny (model X.prog X.w) X.A (setItem ov iv u) (fun _ s' => ∃ H', Inv X pins σ H' s' ∧ Q H') X.xe s
noncomputable abbrev TIp := V → V → Hp → VK → Prop
noncomputable def PIp (X : Cx) (op : Operator) (t : TIp) : Prop :=
  ∀ (pins : List (Addr × Obj)) (s : Shared) (σ : St) (H : Hp) (x y : V) (v u : Value) (Q : VK), Inv X pins σ H s → RelV x v → RelV y u → t x y H Q →
    wpAny (model X.prog X.w) X.A (inplaceOp op v u) (EP X pins σ Q) X.xe s
section
variable {X : Cx} {pos : Pos}
noncomputable def gName (i : Nat) : TG := fun v σ H Q => Q (σ.set i (some v)) H
theorem pg_name {i : Nat} {x : Str} (hN : X.N.Nodup) (hi : X.N[i]? = some x) (hx : Loc X.env.scope x) (hf : autoParam (X.fn x = true ∨ X.env.scope.names.lookup x = some .local) zau0._auto_1) : PG X (.Name x pos) (gName i) := by
  intro pins s σ H v u Q I r h
  exact wpAny_assign_Name (store_ok I hN hi hx r (fun s' I' => ⟨_, H, I', h⟩) hf)
noncomputable def gSub (to ti : TE) (t : TSet) : TG := fun v σ H Q => to σ H fun o H1 => ti σ H1 fun i H2 => t o i v H2 fun H3 => Q σ H3
theorem pg_sub {o i : Expr} {to ti : TE} {t : TSet} (ho : PE X o to) (hi : PE X i ti) (hs : PSet X t)
    (ha : ∀ v, assign (.Subscript o i pos) X.env v = (do
      let ov ← holding [v] (eval o X.env)
      let iv ← holding [v, ov] (eval i X.env)
      standAt pos
      holding [v, ov, iv] (setItem ov iv v)
      release [v, ov, iv] []) := by intro _; rfl) : PG X (.Subscript o i pos) (gSub to ti t) := by
  intro pins s σ H v u Q I r h
  rw [ha]
  refine wpAny_bind (wpAny_holding (thn (ho pins s σ H _ I h) fun ov s1 hzz => ?_))
  obtain ⟨x, H1, I1, r1, q1⟩ := hzz
  refine wpAny_bind (wpAny_holding (thn (hi pins s1 σ H1 _ I1 q1) fun iv s2 hzz => ?_))
  obtain ⟨y, H2, I2, r2, q2⟩ := hzz
  refine wpAny_bind (wpAny_standAt (wpAny_bind (wpAny_holding (thn (hs pins s2 σ H2 x y v ov iv u _ I2 r1 r2 r q2) fun _ s3 hzz => ?_))))
  obtain ⟨H3, I3, q3⟩ := hzz
  exact wpAny_release ⟨σ, H3, I3, q3⟩
noncomputable def tAsg (te : TE) (g : TG) : TS := fun D σ H => te σ H fun x H1 => g x σ H1 D.nx
theorem ps_asg {tg e : Expr} {te : TE} {g : TG} (he : PE X e te) (hg : PG X tg g) (hs : autoParam (swapsWithSole [tg] e pos.line X.env = pure false) zau2._auto_1) (hw : autoParam (swappedStores [tg] e X.env = pure none) zau2._auto_1)
    (h1 : autoParam ((assignEach [tg] X.env).map (·.2) = [assign tg X.env]) zau2._auto_1) : PS X (.Assign [tg] e pos) (tAsg te g) := by
  intro pins s σ H D I h
  refine wpAny_Assign_stores (thn (he pins s σ H _ I h) fun v s1 hzz => ?_) hs hw
  obtain ⟨x, H1, I1, r1, q1⟩ := hzz
  rw [h1]
  exact thn (hg pins s1 σ H1 x v _ I1 r1 q1) fun _ s2 q => q
theorem ps_set {i : Nat} {x : Str} {e : Expr} {te : TE} {pos' : Pos} (hN : X.N.Nodup) (hi : X.N[i]? = some x) (hx : Loc X.env.scope x) (he : PE X e te) (hs : autoParam (swapsWith e (some (.Name x pos')) pos.line X.env = pure false) zau2._auto_1) (hf : autoParam (X.fn x = true ∨ X.env.scope.names.lookup x = some .local) zau0._auto_1) :
    PS X (.Assign [.Name x pos'] e pos) (tAsg te (gName i)) := by
  intro pins s σ H D I h
  refine wpAny_Assign_Name (thn (he pins s σ H _ I h) fun v s1 hzz => ?_) hs
  obtain ⟨y, H1, I1, r1, q1⟩ := hzz
  exact store_ok I1 hN hi hx r1 (fun s2 I2 => ⟨_, H1, I2, q1⟩) hf
noncomputable def tAugS (to ti te : TE) (tget : V → V → Hp → VK → Prop) (tip : TIp) (tset : TSet) : TS := fun D σ H => to σ H fun o H1 => ti σ H1 fun i H2 => tget o i H2 fun x H3 => te σ H3 fun y H4 => tip x y H4 fun z H5 => tset o i z H5 fun H6 => D.nx σ H6
noncomputable def PGet (X : Cx) (t : V → V → Hp → VK → Prop) : Prop :=
  ∀ (pins : List (Addr × Obj)) (s : Shared) (σ : St) (H : Hp) (o i : V) (ov iv : Value) (Q : VK), Inv X pins σ H s → RelV o ov → RelV i iv → t o i H Q →
    wpAny (model X.prog X.w) X.A (getItem ov iv) (EP X pins σ Q) X.xe s
theorem ps_augS {o i e : Expr} {to ti te : TE} {tget : V → V → Hp → VK → Prop} {tip : TIp} {tset : TSet} {op : Operator} {tpos : Pos} (ho : PE X o to) (hi : PE X i ti) (hg : PGet X tget) (he : PE X e te) (hp : PIp X op tip) (hs : PSet X tset)
    (ha : autoParam (∀ ov iv new, augStore i ov iv new = (do holding [new, ov, iv] (setItem ov iv new); release [new, ov, iv] []; pure .next)) zau3._auto_1) : PS X (.AugAssign (.Subscript o i tpos) op e pos) (tAugS to ti te tget tip tset) := by
  intro pins s σ H D I h
  refine wpAny_AugAssign_SubscriptAny (thn (ho pins s σ H _ I h) fun ov s1 hzz => ?_) ha
  obtain ⟨x1, H1, I1, r1, q1⟩ := hzz
  refine thn (hi pins s1 σ H1 _ I1 q1) fun iv s2 hzz => ?_
  obtain ⟨x2, H2, I2, r2, q2⟩ := hzz
  refine thn (hg pins s2 σ H2 x1 x2 ov iv _ I2 r1 r2 q2) fun old s3 hzz => ?_
  obtain ⟨x3, H3, I3, r3, q3⟩ := hzz
  refine thn (he pins s3 σ H3 _ I3 q3) fun v s4 hzz => ?_
  obtain ⟨x4, H4, I4, r4, q4⟩ := hzz
  refine thn (hp pins s4 σ H4 x3 x4 old v _ I4 r3 r4 q4) fun new s5 hzz => ?_
  obtain ⟨x5, H5, I5, r5, q5⟩ := hzz
  exact thn (hs pins s5 σ H5 x1 x2 x5 ov iv new _ I5 r1 r2 r5 q5) fun _ s6 ⟨H6, I6, q6⟩ => ⟨σ, H6, I6, q6⟩
noncomputable def ipI (f : Int → Int → Int) : TIp := fun x y H Q => ∃ i j, x = .int i ∧ y = .int j ∧ Q (.int (f i j)) H
theorem ip_add : PIp X .Add (ipI fun i j => i + j) := by
  intro pins s σ H x y v u Q I r1 r2 h
  obtain ⟨i, j, e1, e2, q⟩ := h
  subst e1; subst e2
  obtain ⟨t, rfl⟩ := r1
  obtain ⟨t', rfl⟩ := r2
  exact iadd_int ⟨.int _, H, I.tok _, ⟨_, rfl⟩, q⟩
end
section
variable {X : Cx} {pos : Pos}
end
structure It where
  go : Nat → Hp → Prop
  yld : Nat → Hp → V → Hp → Prop
  stop : Nat → Hp → Prop
noncomputable def FpOk (X : Cx) (pins : List (Addr × Obj)) (H : Hp) (b : Addr) : Prop :=
  H b = none ∧ b ≠ X.env.locals ∧ b ∉ X.fs ∧ (b ∈ X.ex ∨ X.s₀.heap.objs.size ≤ b) ∧ (∀ x c, X.env.cells.lookup x = some c → c ≠ b) ∧ ∀ p ∈ X.pn ++ pins, p.1 ≠ b
theorem Inv.fpOk {X : Cx} {pins : List (Addr × Obj)} {σ : St} {H H' : Hp} {s : Shared} {b : Addr} (I : Inv X pins σ H s) (hb : s.heap.objs.size ≤ b) (hn : H' b = none) : FpOk X pins H' b := by
  refine ⟨hn, Nat.ne_of_gt (Nat.lt_of_lt_of_le I.lt hb), I.nofs hb, .inr (Nat.le_trans I.sz hb), fun x c e z => ?_, fun p hp z => ?_⟩
  · obtain ⟨v, q⟩ := I.cell x c e
    exact absurd (Nat.lt_of_lt_of_le q.lt (by rw [z]; exact hb)) (Nat.lt_irrefl _)
  · exact absurd (Nat.lt_of_lt_of_le (Heap.lt_size (I.pin p hp).1) (by rw [z]; exact hb)) (Nat.lt_irrefl _)
structure Turn (P : Program) (w : World) (K : PySem.W.Frag) (tg : Expr) (J : It) (fp : List Addr) (it : Addr) (tn : Nat → Heap → Prop) : Prop where
  mem : it ∈ fp
  obj : ∀ i h, tn i h → ∀ b ∈ fp, ∃ o, h.get? b = some o ∧ ∀ v, o.data ≠ .cell v
  keep : ∀ i h h', tn i h → (∀ b ∈ fp, ∀ o, h.get? b = some o → h'.get? b = some o) → tn i h'
  item : ∀ (X : Cx), X.prog = P → X.w = w → X.K = K → X.calm = true → ∀ (i : Nat) (pins : List (Addr × Obj)) (s : Shared) (σ : St) (H : Hp) (E : Value → Shared → Prop), Inv X pins σ H s → (∀ b ∈ fp, FpOk X pins H b) → tn i s.heap → J.go i H →
    wpAny (model P w) X.A (pyNext (.ref it)) (fun r s1 => ∃ u, r = some u ∧
      wpAny (model P w) X.A (letOwnedTupleGo tg (.ref it) u) (fun _ s2 => ∃ x H', Inv X pins σ H' s2 ∧ RelV x u ∧ J.yld i H x H' ∧ tn (i + 1) s2.heap ∧ ∀ b ∈ fp, H' b = none) E s1) E s
  done : ∀ (X : Cx), X.prog = P → X.w = w → X.K = K → X.calm = true → ∀ (i : Nat) (pins : List (Addr × Obj)) (s : Shared) (σ : St) (H : Hp) (E : Value → Shared → Prop), Inv X pins σ H s → (∀ b ∈ fp, FpOk X pins H b) → tn i s.heap → J.stop i H →
    wpAny (model P w) X.A (pyNext (.ref it)) (fun r s1 => r = none ∧ Inv X pins σ H s1) E s
  self : ∀ (A : Around) (i : Nat) (s : Shared) (Q : Value → Shared → Prop) (E : Value → Shared → Prop), tn i s.heap → Q (.ref it) s → wpAny (model P w) A (pyIter (.ref it)) Q E s
noncomputable abbrev TI := St → Hp → (It → Hp → Prop) → Prop
noncomputable def PIE (X : Cx) (pins : List (Addr × Obj)) (σ : St) (tg : Expr) (R : It → Hp → Prop) (itv : Value) (s2 : Shared) : Prop :=
  ∃ (it : Addr) (fp : List Addr) (tn : Nat → Heap → Prop) (J : It) (H' : Hp), itv = .ref it ∧ Inv X pins σ H' s2 ∧ Turn X.prog X.w X.K tg J fp it tn ∧ tn 0 s2.heap ∧ (∀ b ∈ fp, FpOk X pins H' b) ∧ R J H'
noncomputable def PI (X : Cx) (tg iter : Expr) (wi : TI) : Prop :=
  ∀ (pins : List (Addr × Obj)) (s : Shared) (σ : St) (H : Hp) (R : It → Hp → Prop), Inv X pins σ H s → wi σ H R →
    wpAny (model X.prog X.w) X.A (eval iter X.env) (fun v s1 => wpAny (model X.prog X.w) X.A (pyIter v) (PIE X pins σ tg R) X.xe s1) X.xe s
theorem go_of {M : Model} {A : Around} {E : Value → Shared → Prop} {s : Shared} {tg : Expr} {it : Addr} {u : Value} {o : Obj} {n : String} {vs : Array Value} {Q : Unit → Shared → Prop} (ho : s.heap.get? it = some o) (hc : o.cls = .type n) (hd : o.data = .fields vs)
    (hn : ["enumerate", "zip", "dict_itemiterator", "dict_reverseitemiterator", "odict_iterator", "itertools.zip_longest", "itertools.pairwise"].contains n = false) (hQ : Q () s) : wpAny M A (letOwnedTupleGo tg (.ref it) u) Q E s := by
  unfold letOwnedTupleGo
  cases tg <;> first
    | exact wpAny_pure hQ
    | (cases u <;> first
        | exact wpAny_pure hQ
        | (refine wpAny_bind (wpAny_load ho ?_)
           rw [hc, hd]
           show wpAny M A (if (["enumerate", "zip", "dict_itemiterator", "dict_reverseitemiterator", "odict_iterator", "itertools.zip_longest", "itertools.pairwise"].contains n && vs[0]? == some (rawInt _)) = true then _ else _) Q E s
           rw [if_neg (by intro h; rw [hn, Bool.false_and] at h; cases h)]
           exact wpAny_pure hQ))
noncomputable def Itl (K : PySem.W.Frag) (a : Addr) : It :=
  ⟨fun i H => ∃ xs x, SqL K H a xs ∧ xs[i]? = some x, fun i H x H' => H' = H ∧ ∀ xs, SqL K H a xs → xs[i]? = some x, fun i H => ∃ xs, SqL K H a xs ∧ xs.length ≤ i⟩
noncomputable def Itt (K : PySem.W.Frag) (a : Addr) : It :=
  ⟨fun i H => ∃ xs x, SqT K H a xs ∧ xs[i]? = some x, fun i H x H' => H' = H ∧ ∀ xs, SqT K H a xs → xs[i]? = some x, fun i H => ∃ xs, SqT K H a xs ∧ xs.length ≤ i⟩
theorem turn_list {P : Program} {w : World} {K : PySem.W.Frag} {tg : Expr} (a it : Addr) : Turn P w K tg (Itl K a) [it] it (fun i h => h.IsListIter it a i) where
  mem := by simp
  obj := fun i h st b hb => by
    have e : b = it := by simpa using hb
    subst e
    obtain ⟨o, e, c, d⟩ := st
    exact ⟨o, e, fun v z => by rw [d] at z; cases z⟩
  keep := fun i h h' st k => st.at fun o e => k it (by simp) o e
  item := by
    intro X hP hw hK hc i pins s σ H E I hf st hg
    subst hP hw hK
    obtain ⟨xs, x, hq, hx⟩ := hg
    obtain ⟨its, rv, p, hz⟩ := I.list hq
    obtain ⟨u, hu, ru⟩ := rv.get hx
    obtain ⟨f0, f1, f2, f3, f4, f5⟩ := hf it (by simp)
    refine wpAny_pyNext_list_item st p.isList (x := u) (by simpa using hu) fun h' st' sb => ?_
    have I1 : Inv X pins σ H { s with heap := h' } := I.turned (t' := s.toks) (fun b o hb e => (sb.2 b hb).trans e) f0 f1 f3 f4 f5
    obtain ⟨o, e, c, d⟩ := id st'
    exact ⟨u, rfl, go_of (s := { s with heap := h' }) e c d (by decide) ⟨x, H, I1, ru, ⟨rfl, fun ys hy => by rw [I.list_inj hy hq]; exact hx⟩, st', fun b hb => (hf b hb).1⟩⟩
  done := by
    intro X hP hw hK hc i pins s σ H E I hf st hg
    subst hP hw hK
    obtain ⟨xs, hq, hx⟩ := hg
    obtain ⟨its, rv, p, hz⟩ := I.list hq
    obtain ⟨f0, f1, f2, f3, f4, f5⟩ := hf it (by simp)
    have hl := rv.length
    exact wpAny_pyNext_list_end (I.ok.hd hc) st p.isList (by simp; omega) fun h' eb => ⟨rfl, I.turned (t' := s.toks) (fun b o hb e => eb b o hb e) f0 f1 f3 f4 f5⟩
  self := fun _ _ _ _ _ st h => wpAny_pyIter_listiter st h
theorem turn_tuple {P : Program} {w : World} {K : PySem.W.Frag} {tg : Expr} (a it : Addr) : Turn P w K tg (Itt K a) [it] it (fun i h => h.IsTupleIter it a i) where
  mem := by simp
  obj := fun i h st b hb => by
    have e : b = it := by simpa using hb
    subst e
    obtain ⟨o, e, c, d⟩ := st
    exact ⟨o, e, fun v z => by rw [d] at z; cases z⟩
  keep := fun i h h' st k => st.at fun o e => k it (by simp) o e
  item := by
    intro X hP hw hK hc i pins s σ H E I hf st hg
    subst hP hw hK
    obtain ⟨xs, x, hq, hx⟩ := hg
    obtain ⟨its, rv, p, hz⟩ := I.tuple hq
    obtain ⟨u, hu, ru⟩ := rv.get hx
    obtain ⟨f0, f1, f2, f3, f4, f5⟩ := hf it (by simp)
    refine wpAny_pyNext_tuple_item st (show s.heap.IsTuple a its.toArray from p) (x := u) (by simpa using hu) fun h' st' sb => ?_
    have I1 : Inv X pins σ H { s with heap := h' } := I.turned (t' := s.toks) (fun b o hb e => (sb.2 b hb).trans e) f0 f1 f3 f4 f5
    obtain ⟨o, e, c, d⟩ := id st'
    exact ⟨u, rfl, go_of (s := { s with heap := h' }) e c d (by decide) ⟨x, H, I1, ru, ⟨rfl, fun ys hy => by rw [I.tuple_inj hy hq]; exact hx⟩, st', fun b hb => (hf b hb).1⟩⟩
  done := by
    intro X hP hw hK hc i pins s σ H E I hf st hg
    subst hP hw hK
    obtain ⟨xs, hq, hx⟩ := hg
    obtain ⟨its, rv, p, hz⟩ := I.tuple hq
    obtain ⟨f0, f1, f2, f3, f4, f5⟩ := hf it (by simp)
    have hl := rv.length
    exact wpAny_pyNext_tuple_end (I.ok.hd hc) st (show s.heap.IsTuple a its.toArray from p) (by simp; omega) fun h' eb => ⟨rfl, I.turned (t' := s.toks) (fun b o hb e => eb b o hb e) f0 f1 f3 f4 f5⟩
  self := fun _ _ _ _ _ st h => wpAny_pyIter_tupleiter st h
end L2
namespace L2
open PySem PySem.Spec PyProof.Rows
section
variable {X : Cx} {tg : Expr}
noncomputable def tFor (wi : TI) (g : TG) (tb : TS) : TS := fun D σ H => wi σ H fun J H1 => ∃ W : Nat → Nat → St → Hp → Prop, (∃ m, W 0 m σ H1) ∧ ∀ i m σ H, W i m σ H →
  (J.stop i H ∧ D.nx σ H) ∨ (J.go i H ∧ ∃ N : St → Hp → Prop, (∀ σ' H', N σ' H' → ∃ m', m' < m ∧ W (i + 1) m' σ' H') ∧ ∀ x H', J.yld i H x H' → g x σ H' fun σ2 H2 => tb { D with nx := N, ct := N, bk := D.nx } σ2 H2)
noncomputable def pinsAt (fp : List Addr) (h : Heap) : List (Addr × Obj) := fp.filterMap fun b => (h.get? b).map fun o => (b, o)
theorem mem_pinsAt {fp : List Addr} {h : Heap} {b : Addr} {o : Obj} (hb : b ∈ fp) (e : h.get? b = some o) : (b, o) ∈ pinsAt fp h := List.mem_filterMap.mpr ⟨b, hb, by rw [e]; rfl⟩
theorem of_pinsAt {fp : List Addr} {h : Heap} {p : Addr × Obj} (hp : p ∈ pinsAt fp h) : p.1 ∈ fp ∧ h.get? p.1 = some p.2 := by
  obtain ⟨b, hb, e⟩ := List.mem_filterMap.mp hp
  cases q : h.get? b with
  | none => rw [q] at e; cases e
  | some o =>
    rw [q] at e
    have e' : (b, o) = p := Option.some.inj e
    subst e'
    exact ⟨hb, q⟩
theorem Inv.pinned {pins : List (Addr × Obj)} {σ : St} {H : Hp} {s : Shared} {fp : List Addr} (I : Inv X pins σ H s) (hf : ∀ b ∈ fp, FpOk X pins H b) (ho : ∀ b ∈ fp, ∃ o, s.heap.get? b = some o ∧ ∀ v, o.data ≠ .cell v) : Inv X (pins ++ pinsAt fp s.heap) σ H s :=
  I.pins_of fun p hp => (List.mem_append.mp hp).elim (fun z => I.pin p (List.mem_append_right _ z)) fun z => by
    obtain ⟨hb, e⟩ := of_pinsAt z
    obtain ⟨f0, f1, f2, _⟩ := hf p.1 hb
    obtain ⟨o, e', d⟩ := ho p.1 hb
    rw [e] at e'; cases e'
    exact ⟨e, f0, f1, f2, d⟩
theorem Inv.unpinned {pins pl : List (Addr × Obj)} {σ : St} {H : Hp} {s : Shared} (I : Inv X (pins ++ pl) σ H s) : Inv X pins σ H s := I.pins_of fun p hp => I.pin p (List.mem_append_right _ (List.mem_append_left _ hp))
theorem ps_for {iter : Expr} {body : List Stmt} {wi : TI} {g : TG} {tb : TS} {pos : Pos} (hp : PassesOwn (model X.prog X.w) X.A X.env X.xe) (hc : X.calm = true) (hi : PI X tg iter wi) (hg : PG X tg g) (hb : PSs X body tb)
    (hs : autoParam (∀ x, foldedSetIterable iter X.env x = pure x) zau4._auto_1) : PS X (.For tg iter body [] pos) (tFor wi g tb) := by
  intro pins s σ H D I h
  refine wpAny_For (thn (hi pins s σ H _ I h) fun v s1 h1 => thn h1 fun itv s2 h2 => ?_) hs
  obtain ⟨it, fp, tn, J, H2, e, I2, T, st2, f2, W, ⟨m0, w0⟩, turn⟩ := h2
  subst e
  have stat : ∀ {H' : Hp}, (∀ b ∈ fp, H' b = none) → ∀ b ∈ fp, FpOk X pins H' b := fun hn b hb => ⟨hn b hb, (f2 b hb).2⟩
  refine codeAny_forLoop_any (fun n s' => ∃ i σ' H', Inv X pins σ' H' s' ∧ tn i s'.heap ∧ (∀ b ∈ fp, H' b = none) ∧ W i n σ' H') ?_ m0 ⟨0, σ, H2, I2, st2, fun b hb => (f2 b hb).1, w0⟩
  rintro n s3 ⟨i, σ3, H3, I3, st3, fr3, w3⟩
  rcases turn i n σ3 H3 w3 with ⟨stop, qn⟩ | ⟨go, N, hN, step⟩
  · refine wpAny_passesOwn hp (thn (T.done X rfl rfl rfl hc i pins s3 σ3 H3 X.xe I3 (stat fr3) st3 stop) fun r s4 hzz => ?_)
    obtain ⟨hr, I4⟩ := hzz
    subst hr
    exact wpAny_execs_nil ⟨σ3, H3, I4, qn⟩
  · refine wpAny_passesOwn hp (thn (T.item X rfl rfl rfl hc i pins s3 σ3 H3 X.xe I3 (stat fr3) st3 go) fun r s4 hzz => ?_)
    obtain ⟨u, hr, h4⟩ := hzz
    subst hr
    refine wpAny_passesOwn hp (thn h4 fun _ s5 hzz => ?_)
    obtain ⟨x, H5, I5, r5, y5, st5, fr5⟩ := hzz
    have I5' := I5.pinned (stat fr5) (T.obj _ _ st5)
    refine wpAny_passesOwn hp (thn (hg _ s5 σ3 H5 x u _ I5' r5 (step x H5 y5)) fun _ s6 hzz => ?_)
    obtain ⟨σ6, H6, I6, q6⟩ := hzz
    refine wpAny_passesOwn hp (thn (hb _ s6 σ6 H6 _ I6 q6) fun f s7 q7 => ?_)
    have again : ∀ {σ7 : St} {H7 : Hp}, Inv X (pins ++ pinsAt fp s5.heap) σ7 H7 s7 → N σ7 H7 → ∃ m, m < n ∧ ∃ i σ' H', Inv X pins σ' H' s7 ∧ tn i s7.heap ∧ (∀ b ∈ fp, H' b = none) ∧ W i m σ' H' := fun {σ7 H7} I7 n7 => by
      obtain ⟨m', hm, w7⟩ := hN σ7 H7 n7
      refine ⟨m', hm, i + 1, σ7, H7, I7.unpinned, T.keep _ _ _ st5 fun b hb o e => (I7.pin (b, o) (List.mem_append_right _ (List.mem_append_right _ (mem_pinsAt hb e)))).1, fun b hb => ?_, w7⟩
      obtain ⟨o, e, d⟩ := T.obj _ _ st5 b hb
      exact (I7.pin (b, o) (List.mem_append_right _ (List.mem_append_right _ (mem_pinsAt hb e)))).2.1
    cases f with
    | next => obtain ⟨σ7, H7, I7, n7⟩ := q7; exact again I7 n7
    | cont => obtain ⟨σ7, H7, I7, n7⟩ := q7; exact again I7 n7
    | brk => obtain ⟨σ7, H7, I7, q7⟩ := q7; exact ⟨σ7, H7, I7.unpinned, q7⟩
    | ret v => obtain ⟨x7, σ7, H7, I7, r7, q7⟩ := q7; exact ⟨x7, σ7, H7, I7.unpinned, r7, q7⟩
end
end L2
namespace L2
open PySem PySem.Spec PyProof.Rows
noncomputable abbrev R2 := V → V → Hp → VK → Prop
noncomputable def OpR (X : Cx) (f : Value → Value → Sem Value) (r : R2) : Prop :=
  ∀ (pins : List (Addr × Obj)) (s : Shared) (σ : St) (H : Hp) (x y : V) (v u : Value) (Q : VK), Inv X pins σ H s → RelV x v → RelV y u → r x y H Q →
    wpAny (model X.prog X.w) X.A (f v u) (EP X pins σ Q) X.xe s
noncomputable def UnR (X : Cx) (f : Value → Sem Value) (r : V → Hp → VK → Prop) : Prop :=
  ∀ (pins : List (Addr × Obj)) (s : Shared) (σ : St) (H : Hp) (x : V) (v : Value) (Q : VK), Inv X pins σ H s → RelV x v → r x H Q →
    wpAny (model X.prog X.w) X.A (f v) (EP X pins σ Q) X.xe s
noncomputable def CallR (X : Cx) (f : Value) (r : List V → Hp → VK → Prop) : Prop :=
  ∀ (pins : List (Addr × Obj)) (s : Shared) (σ : St) (H : Hp) (xs : List V) (us : List Value) (Q : VK), Inv X pins σ H s → Vals xs us → r xs H Q →
    wpAny (model X.prog X.w) X.A (call f us) (EP X pins σ Q) X.xe s
noncomputable def TruR (X : Cx) (r : V → Hp → (Bool → Hp → Prop) → Prop) : Prop :=
  ∀ (pins : List (Addr × Obj)) (s : Shared) (σ : St) (H : Hp) (x : V) (v : Value) (Q : Bool → Hp → Prop), Inv X pins σ H s → RelV x v → r x H Q →
    wpAny (model X.prog X.w) X.A (truthy v) (TP X pins σ Q) X.xe s
noncomputable def tOp (r : R2) (ta tb : TE) : TE := fun σ H Q => ta σ H fun x H1 => tb σ H1 fun y H2 => r x y H2 Q
noncomputable def tUn (r : V → Hp → VK → Prop) (ta : TE) : TE := fun σ H Q => ta σ H fun x H1 => r x H1 Q
noncomputable def rI (C : Int → Int → Prop) (g : Int → Int → V) : R2 := fun x y H Q => ∃ i j, x = .int i ∧ y = .int j ∧ C i j ∧ Q (g i j) H
noncomputable def rI0 (g : Int → Int → V) : R2 := fun x y H Q => ∃ i j, x = .int i ∧ y = .int j ∧ Q (g i j) H
noncomputable def rU (g : Int → V) : V → Hp → VK → Prop := fun x H Q => ∃ i, x = .int i ∧ Q (g i) H
section
variable {X : Cx} {a b c : Expr} {ta tb tc : TE} {pos : Pos}
theorem binT (ha : PE X a ta) (hb : PE X b tb) {pins : List (Addr × Obj)} {s : Shared} {σ : St} {H : Hp} {R : V → V → Hp → Prop} (I : Inv X pins σ H s)
    (h : ta σ H fun x H1 => tb σ H1 fun y H2 => R x y H2) {Q : Value → Shared → Prop} {f : Value → Value → Sem Value}
    (hf : ∀ v u s2 x y H2, Inv X pins σ H2 s2 → RelV x v → RelV y u → R x y H2 → wpAny (model X.prog X.w) X.A (f v u) Q X.xe s2) :
    wpAny (model X.prog X.w) X.A (eval a X.env) (fun v s₁ => wpAny (model X.prog X.w) X.A (eval b X.env) (fun u s₂ => wpAny (model X.prog X.w) X.A (f v u) Q X.xe s₂) X.xe s₁) X.xe s := by
  refine thn (ha pins s σ H _ I h) fun v s1 hzz => ?_
  obtain ⟨x, H1, I1, r1, q1⟩ := hzz
  refine thn (hb pins s1 σ H1 _ I1 q1) fun u s2 hzz => ?_
  obtain ⟨y, H2, I2, r2, q2⟩ := hzz
  exact hf v u s2 x y H2 I2 r1 r2 q2
theorem pe_op {op : Operator} {r : R2} (ho : OpR X (binaryOp op) r) (ha : PE X a ta) (hb : PE X b tb) : PE X (.BinOp a op b pos) (tOp r ta tb) := by
  intro pins s σ H Q I h
  exact wpAny_BinOp (binT ha hb I h fun v u s2 x y H2 I2 rx ry q => ho pins s2 σ H2 x y v u Q I2 rx ry q)
theorem pe_un {op : UnaryOp} {r : V → Hp → VK → Prop} (ho : UnR X (unaryOp op) r) (ha : PE X a ta) : PE X (.UnaryOp op a pos) (tUn r ta) := by
  intro pins s σ H Q I h
  exact UnaryOp_ (thn (ha pins s σ H _ I h) fun v s1 ⟨x, H1, I1, r1, q1⟩ => ho pins s1 σ H1 x v Q I1 r1 q1)
theorem opI {f : Value → Value → Sem Value} {C : Int → Int → Prop} {g : Int → Int → Int}
    (rule : ∀ (i j : Int) (t u : Tok) (s : Shared) (Q : Value → Shared → Prop) (E : Value → Shared → Prop), C i j → Q (.int (g i j) s.toks) { s with toks := s.toks + 1 } → wpAny (model X.prog X.w) X.A (f (.int i t) (.int j u)) Q E s) :
    OpR X f (rI C fun i j => .int (g i j)) := by
  intro pins s σ H x y v u Q I rx ry h
  obtain ⟨i, j, rfl, rfl, hc, q⟩ := h
  obtain ⟨t, rfl⟩ := rx
  obtain ⟨t', rfl⟩ := ry
  exact rule i j t t' s _ _ hc ⟨.int (g i j), H, I.tok _, ⟨_, rfl⟩, q⟩
theorem opI0 {f : Value → Value → Sem Value} {g : Int → Int → Int}
    (rule : ∀ (i j : Int) (t u : Tok) (s : Shared) (Q : Value → Shared → Prop) (E : Value → Shared → Prop), Q (.int (g i j) s.toks) { s with toks := s.toks + 1 } → wpAny (model X.prog X.w) X.A (f (.int i t) (.int j u)) Q E s) :
    OpR X f (rI0 fun i j => .int (g i j)) := by
  intro pins s σ H x y v u Q I rx ry h
  obtain ⟨i, j, rfl, rfl, q⟩ := h
  obtain ⟨t, rfl⟩ := rx
  obtain ⟨t', rfl⟩ := ry
  exact rule i j t t' s _ _ ⟨.int (g i j), H, I.tok _, ⟨_, rfl⟩, q⟩
theorem opB0 {f : Value → Value → Sem Value} {g : Int → Int → Bool}
    (rule : ∀ (i j : Int) (t u : Tok) (s : Shared) (Q : Value → Shared → Prop) (E : Value → Shared → Prop), Q (.bool (g i j)) s → wpAny (model X.prog X.w) X.A (f (.int i t) (.int j u)) Q E s) :
    OpR X f (rI0 fun i j => .bl (g i j)) := by
  intro pins s σ H x y v u Q I rx ry h
  obtain ⟨i, j, rfl, rfl, q⟩ := h
  obtain ⟨t, rfl⟩ := rx
  obtain ⟨t', rfl⟩ := ry
  exact rule i j t t' s _ _ ⟨.bl (g i j), H, I, rfl, q⟩
noncomputable def CPow (i j : Int) : Prop := 0 ≤ j ∧ j ≤ 1000000 ∧ i.natAbs < 2 ^ 64
theorem op_add : OpR X (binaryOp .Add) (rI0 fun i j => .int (i + j)) := opI0 fun _ _ _ _ _ _ _ q => add_int q
theorem op_sub : OpR X (binaryOp .Sub) (rI0 fun i j => .int (i - j)) := opI0 fun _ _ _ _ _ _ _ q => sub_int q
theorem op_mod : OpR X (binaryOp .Mod) (rI (fun _ j => 0 < j) fun i j => .int (i % j)) := opI fun i j _ _ _ _ _ hc q => by
  have h1 : (0 : Int) < j := hc
  exact mod_int' (by omega) (by rw [Int.fmod_eq_emod_of_nonneg i (by omega)]; exact q)
theorem op_pow : OpR X (binaryOp .Pow) (rI CPow fun i j => .int (i ^ j.toNat)) := opI fun _ _ _ _ _ _ _ hc q => pow_int_small hc.1 hc.2.1 hc.2.2 q
theorem unI {f : Value → Sem Value} {g : Int → Int}
    (rule : ∀ (i : Int) (t : Tok) (s : Shared) (Q : Value → Shared → Prop) (E : Value → Shared → Prop), Q (.int (g i) s.toks) { s with toks := s.toks + 1 } → wpAny (model X.prog X.w) X.A (f (.int i t)) Q E s) :
    UnR X f (rU fun i => .int (g i)) := by
  intro pins s σ H x v Q I rx h
  obtain ⟨i, rfl, q⟩ := h
  obtain ⟨t, rfl⟩ := rx
  exact rule i t s _ _ ⟨.int (g i), H, I.tok _, ⟨_, rfl⟩, q⟩
theorem un_neg : UnR X (unaryOp .USub) (rU fun i => .int (-i)) := unI fun _ _ _ _ _ q => neg_int q
end
section
variable {X : Cx} {a b c : Expr} {ta tb tc : TE} {pos : Pos}
theorem fin_bl {pins : List (Addr × Obj)} {σ : St} {H : Hp} {s : Shared} {Q : VK} {k k' : Bool} (I : Inv X pins σ H s) (q : Q (.bl k) H) (e : k = k') : EP X pins σ Q (.bool k') s := by
  subst e
  exact ⟨.bl k, H, I, rfl, q⟩
theorem op_lt : OpR X (compareOp .Lt) (rI0 fun i j => .bl (decide (i < j))) := opB0 fun _ _ _ _ _ _ _ q => lt_int q
theorem op_ge : OpR X (compareOp .GtE) (rI0 fun i j => .bl (decide (j ≤ i))) := opB0 fun _ _ _ _ _ _ _ q => ge_int q
theorem op_lt_str : OpR X (compareOp .Lt) (fun x y H Q => ∃ i j, x = .str i ∧ y = .str j ∧ Q (.bl (decide (i.cps.toList < j.cps.toList))) H) := by
  intro pins s σ H x y v u Q I rx ry h
  obtain ⟨i, j, rfl, rfl, q⟩ := h
  obtain ⟨t, rfl⟩ := rx
  obtain ⟨t', rfl⟩ := ry
  exact lt_str (fin_bl I q rfl)
theorem OpR.or {f : Value → Value → Sem Value} {r r' : R2} (h : OpR X f r) (h' : OpR X f r') : OpR X f (fun x y H Q => r x y H Q ∨ r' x y H Q) := by
  intro pins s σ H x y v u Q I rx ry q
  rcases q with q | q
  · exact h pins s σ H x y v u Q I rx ry q
  · exact h' pins s σ H x y v u Q I rx ry q
theorem nomark (b : Expr) {op : CmpOp} (h : autoParam (op ≠ .In) zau1._auto_1) (h2 : autoParam (op ≠ .NotIn) zau1._auto_1) : behindInMarks op b = false := by
  have e1 : (op == CmpOp.In) = false := by cases op <;> first | rfl | exact absurd rfl h
  have e2 : (op == CmpOp.NotIn) = false := by cases op <;> first | rfl | exact absurd rfl h2
  cases b <;> simp [behindInMarks, e1, e2]
theorem pe_cmpR {op : CmpOp} {r : R2} (ho : OpR X (compareOp op) r) (ha : PE X a ta) (hb : PE X b tb) (hm : behindInMarks op b = false) : PE X (.Compare a [op] [b] pos) (tOp r ta tb) := by
  intro pins s σ H Q I h
  exact wpAny_Compare1 (binT ha hb I h fun v u s2 x y H2 I2 rx ry q => ho pins s2 σ H2 x y v u Q I2 rx ry q) hm
noncomputable def tTest (t : TE) : TT := fun σ H Q => t σ H fun x H' => ∃ k, x = .bl k ∧ Q k H'
theorem pt_cmpR {op : CmpOp} {r : R2} (ho : OpR X (compareOp op) r) (ha : PE X a ta) (hb : PE X b tb) (hm : behindInMarks op b = false) : PT X (.Compare a [op] [b] pos) (tTest (tOp r ta tb)) := by
  intro pins s σ H Q I h
  refine wpAny_isTrue_Compare1 (thn (ha pins s σ H _ I h) fun v s1 ⟨x, H1, I1, r1, q1⟩ => thn (hb pins s1 σ H1 _ I1 q1) fun u s2 ⟨y, H2, I2, r2, q2⟩ =>
    thn (ho pins s2 σ H2 x y v u _ I2 r1 r2 q2) fun c s3 ⟨z, H3, I3, r3, k, e, q3⟩ => ?_) hm
  subst e
  cases r3
  exact wpAny_truthy_bool ⟨H3, I3, q3⟩
noncomputable def TruV (K : PySem.W.Frag) (x : V) (H : Hp) (k : Bool) : Prop :=
  match x with
  | .non => k = false
  | .bl b => k = b
  | .int i => k = (i != 0)
  | .str y => y.length ≤ sizeLine ∧ k = ((y.length : Int) != 0)
  | .byt y => y.size ≤ sizeLine ∧ k = ((y.size : Int) != 0)
  | .ref p => (∃ xs, SqL K H p xs ∧ k = !xs.isEmpty) ∨ (∃ xs, SqT K H p xs ∧ k = !xs.isEmpty) ∨ ∃ kvs, H p = some (.dK kvs) ∧ k = !kvs.isEmpty
  | _ => False
theorem isEmpty_kv {κ : Type} {kvs : List (κ × V)} {vs : List (κ × Value)} (r : KV kvs vs) : (!vs.isEmpty) = !kvs.isEmpty := by
  cases r <;> rfl
theorem isEmpty_of {xs : List V} {its : List Value} (r : Vals xs its) : (!its.toArray.isEmpty) = !xs.isEmpty := by
  cases r <;> simp
theorem line63 : (sizeLine : Nat) < 2 ^ 63 := by rw [sizeLine_eq]; decide
theorem tru_ok : TruR X (fun x H Q => ∃ k, TruV X.K x H k ∧ Q k H) := by
  intro pins s σ H x v Q I rx h
  obtain ⟨k, e, q⟩ := h
  have hl := line63
  have hs : sizeLine = 16777216 := sizeLine_eq
  cases x with
  | non =>
    cases rx
    have e' : k = false := e
    subst e'
    exact truthy_none ⟨H, I, q⟩
  | bl b =>
    cases rx
    have e' : k = b := e
    subst e'
    exact wpAny_truthy_bool ⟨H, I, q⟩
  | int i =>
    obtain ⟨t, rfl⟩ := rx
    have e' : k = (i != 0) := e
    subst e'
    exact PySem.P.truthy_int ⟨H, I, q⟩
  | str y =>
    obtain ⟨t, rfl⟩ := rx
    obtain ⟨hy, e'⟩ : y.length ≤ sizeLine ∧ k = ((y.length : Int) != 0) := e
    subst e'
    exact PySem.P.truthy_str (by omega) ⟨H, I.tok _, q⟩
  | byt y =>
    obtain ⟨t, rfl⟩ := rx
    obtain ⟨hy, e'⟩ : y.size ≤ sizeLine ∧ k = ((y.size : Int) != 0) := e
    subst e'
    exact PySem.W.truthy_bytes (by omega) ⟨H, I.tok _, q⟩
  | ref p =>
    cases rx
    have e' : (∃ xs, SqL X.K H p xs ∧ k = !xs.isEmpty) ∨ (∃ xs, SqT X.K H p xs ∧ k = !xs.isEmpty) ∨ ∃ kvs, H p = some (.dK kvs) ∧ k = !kvs.isEmpty := e
    rcases e' with ⟨xs, hx, e'⟩ | ⟨xs, hx, e'⟩ | ⟨kvs, hx, e'⟩
    · subst e'
      obtain ⟨its, r, pl, hz⟩ := I.list hx
      have hlen := r.length
      exact wpAny_truthy_list pl.isList (by simp only [List.size_toArray]; omega) ⟨H, I.tok _, by rw [isEmpty_of r]; exact q⟩
    · subst e'
      obtain ⟨its, r, pl, hz⟩ := I.tuple hx
      have hlen := r.length
      exact truthy_tuple pl (by simp only [List.size_toArray]; omega) ⟨H, I.tok _, by rw [isEmpty_of r]; exact q⟩
    · subst e'
      obtain ⟨hz, hS, vs, r, m⟩ : kvs.length ≤ sizeLine ∧ (p == sysModules) = false ∧ ∃ vs, KV kvs vs ∧ s.heap.DictOf (mixKind X.prog X.w) p vs := I.hok p _ hx
      have hlen : kvs.length = vs.length := Paired.length r
      exact wpAny_truthy_dict hS m (by omega) ⟨H, I.tok _, by rw [isEmpty_kv r]; exact q⟩
  | _ => exact (show False from e).elim
theorem pt_truth (ha : PE X a ta) (he : ∀ whole, isTrue a X.env whole = (do let v ← whole; standAt a.pos; holding [v] (truthy v))) :
    PT X a (fun σ H Q => ta σ H fun x H' => ∃ k, TruV X.K x H' k ∧ Q k H') := by
  intro pins s σ H Q I h
  exact isTrue_plain (thn (ha pins s σ H _ I h) fun v s1 ⟨x, H1, I1, r1, q1⟩ => tru_ok pins s1 σ H1 x v Q I1 r1 q1) (he _)
theorem op_add_str : OpR X (binaryOp .Add) (fun x y H Q => ∃ i j, x = .str i ∧ y = .str j ∧ i.length + j.length ≤ sizeLine ∧ Q (.str (i ++ j)) H) := by
  intro pins s σ H x y v u Q I rx ry h
  obtain ⟨i, j, rfl, rfl, hz, q⟩ := h
  obtain ⟨t, rfl⟩ := rx
  obtain ⟨t', rfl⟩ := ry
  exact add_str (fun t' tk => ⟨.str (i ++ j), H, I.tok _, ⟨_, rfl⟩, q⟩) hz
theorem vals1 {x : V} {us : List Value} (r : Vals [x] us) : ∃ u, us = [u] ∧ RelV x u := by
  cases r with
  | cons r1 r2 => cases r2; exact ⟨_, rfl, r1⟩
theorem vals2 {x y : V} {us : List Value} (r : Vals [x, y] us) : ∃ u w', us = [u, w'] ∧ RelV x u ∧ RelV y w' := by
  cases r with
  | cons r1 r2 =>
    cases r2 with
    | cons r3 r4 => cases r4; exact ⟨_, _, rfl, r1, r3⟩
theorem call_max2 (hc : X.calm = true) : CallR X (.builtin "max") (fun xs H Q => ∃ i j, xs = [.int i, .int j] ∧ Q (.int (if j > i then j else i)) H) := by
  intro pins s σ H xs us Q I r h
  obtain ⟨i, j, rfl, q⟩ := h
  obtain ⟨u, w', rfl, ⟨t, rfl⟩, ⟨t', rfl⟩⟩ := vals2 r
  refine max_two_ints (I.ok.hd hc) fun h' tk k => ⟨_, H, I.kept k, ?_, q⟩
  by_cases hj : j > i
  · rw [if_pos hj, if_pos hj]; exact ⟨_, rfl⟩
  · rw [if_neg hj, if_neg hj]; exact ⟨_, rfl⟩
end
end L2
namespace L2
open PySem PySem.Spec PyProof.Rows
structure ObjM (h : Heap) (x dx C : Addr) (mA : Str → Option Value) : Prop where
  obj : h.get? x = some (PySem.W.instObj C dx)
  ns : h.Ns1 dx mA
  ne : dx ≠ x
section
variable {prog : Program} {w : World} {A : Around} {E : Value → Shared → Prop} {s : Shared} {K : PySem.W.Frag} {x dx C f : Addr} {mA : Str → Option Value} {name : Str} {v : Value}
end
section
variable {P : Program} {w : World} {H H' : Hp} {h h' : Heap} {a C dx : Addr} {fs fs' : List (Str × V)}
end
structure Cls (K : PySem.W.Frag) (C : Addr) : Prop where
  pg : PySem.W.plainGet K C Str.empty = true
  hd : PySem.W.hasDictIn K C = true
  po : PySem.W.plainOver K C = true
  sa : PySem.W.findIn K (.ref C) "__setattr__" = some (some (.builtin "object.__setattr__"))
noncomputable def NoAttr (K : PySem.W.Frag) (C : Addr) (f : Str) : Prop := PySem.W.findIn K (.ref C) f = some none
structure Con (K : PySem.W.Frag) (C : Addr) (f : Str) (v : V) (u : Value) : Prop where
  at_ : PySem.W.findIn K (.ref C) f = some (some u)
  rel : RelV v u
  get : PySem.W.specialIn K u "__get__" = some none
  cp : PySem.W.copiedNames.contains f = false
structure Meth (K : PySem.W.Frag) (C : Addr) (m : Str) (f : Addr) : Prop where
  at_ : PySem.W.findIn K (.ref C) m = some (some (.ref f))
  fn : PySem.W.isFn K (.ref f) = true
  kp : PySem.W.keepIn K (.ref f) = true
section
variable {X : Cx} {pins : List (Addr × Obj)} {σ : St} {H : Hp} {s : Shared} {a C dx : Addr} {fs : List (Str × V)} {f : Str} {v : V} {A : Around} {E : Value → Shared → Prop}
end
inductive FldP (K : PySem.W.Frag) (f : Str) (Q : VK) (x : V) (H1 : Hp) : Prop
  | mk (a C dx : Addr) (fs : List (Str × V)) (v : V) (h1 : x = .ref a) (h2 : H1 a = some (.ins C dx fs)) (h3 : Cls K C) (h4 : NoAttr K C f) (h5 : fs.lookup f = some v) (h6 : Q v H1)
section
variable {X : Cx} {o e value : Expr} {f : Str} {pos pos' tpos : Pos} {ta tv : TE}
end
section
variable {X : Cx} {pins : List (Addr × Obj)} {σ : St} {H : Hp} {s : Shared} {A : Around} {E : Value → Shared → Prop} {Q : Value → Shared → Prop} {c : Value} {b : Bool}
inductive TyOf (K : PySem.W.Frag) (H : Hp) : V → Value → Prop where
  | non : TyOf K H .non (.type "NoneType")
  | bl (x : Bool) : TyOf K H (.bl x) (.type "bool")
  | int (i : Int) : TyOf K H (.int i) (.type "int")
  | str (x : Str) : TyOf K H (.str x) (.type "str")
  | flt (x : UInt64) : TyOf K H (.flt x) (.type "float")
  | lst {a : Addr} {xs : List V} (e : H a = some (.lst xs)) : TyOf K H (.ref a) (.type "list")
  | frz {a : Addr} {o : Obj} {xs : List V} (e : H a = some (.frz o (.lst xs))) : TyOf K H (.ref a) (.type "list")
  | tup {a : Addr} {xs : List V} (e : H a = some (.tup xs)) : TyOf K H (.ref a) (.type "tuple")
  | dK {a : Addr} {kvs : List (Key × V)} (e : H a = some (.dK kvs)) : TyOf K H (.ref a) (.type "dict")
  | dT {a : Addr} {kvs : List (List Key × V)} (e : H a = some (.dT kvs)) : TyOf K H (.ref a) (.type "dict")
  | ins {a C dx : Addr} {fs : List (Str × V)} (e : H a = some (.ins C dx fs)) (cl : Cls K C) (ha : PySem.W.findIn K (.ref C) "__class__" = some (some (.builtin "object.__class__")))
      (hn : PySem.W.specialIn K (.builtin "object.__class__") "__get__" = some (some (.builtin "getset_descriptor.__get__"))) (htk : PySem.W.takesIn K (.builtin "object.__class__") = some true)
      (hm : PySem.W.mroIn K C (.type "object") = some true) : TyOf K H (.ref a) (.ref C)
end
end L2
namespace L2
open PySem PySem.Spec PyProof.Rows
structure Room (k : Nat) (A : Around) : Prop where
  hd : A.handled = none
  dp : A.depth + 3 * k + 5 < recursionLimit
  un : A.units + 16 * k + 200 < cLine
theorem Room.mono {j k : Nat} {A : Around} (r : Room k A) (h : j ≤ k) : Room j A := ⟨r.hd, by have := r.dp; omega, by have := r.un; omega⟩
theorem Room.deeper {k : Nat} {A : Around} (r : Room (k + 1) A) (env : Env) : Room k (A.deeper env) :=
  ⟨r.hd, by have := r.dp; show A.depth + 1 + 3 * k + 5 < _; omega, by have := r.un; show A.units + 3 + 16 * k + 200 < _; omega⟩
theorem Room.depth {k : Nat} {A : Around} (r : Room k A) : A.depth < recursionLimit := by have := r.dp; omega
theorem Room.units {k : Nat} {A : Around} (r : Room k A) : A.units + 64 < cLine := by have := r.un; omega
noncomputable def tNil : TA := fun _ H Q => Q [] H
noncomputable def tCons (ta : TE) (tr : TA) : TA := fun σ H Q => ta σ H fun x H1 => tr σ H1 fun xs H2 => Q (x :: xs) H2
section
variable {X : Cx} {e : Expr} {es : List Expr} {te : TE} {t : TA} {pos : Pos}
theorem pa_nil : PA X [] tNil := fun _ _ _ _ H Q I h => Calls.spliced_nil ⟨[], H, I, .nil, h⟩
theorem pa_cons (ha : PE X e te) (hr : PA X es t) (hs : autoParam (starEach (e :: es) X.env = (false, eval e X.env) :: starEach es X.env) zau2._auto_1) : PA X (e :: es) (tCons te t) := by
  intro pos pins s σ H Q I h
  rw [hs]
  show wpAny _ _ (spliced ((false, eval e X.env) :: backTo pos (starEach es X.env))) _ _ s
  refine Calls.spliced_cons (thn (ha pins s σ H _ I h) fun u s1 hzz => ?_)
  obtain ⟨x, H1, I1, r1, q1⟩ := hzz
  exact thn (hr pos pins s1 σ H1 _ I1 q1) fun us s2 ⟨xs, H2, I2, r2, q2⟩ => ⟨x :: xs, H2, I2, .cons r1 r2, q2⟩
noncomputable def tTup (t : TA) : TE := fun σ H Q => t σ H fun xs H1 => xs.length ≤ sizeLine ∧ ∀ p, H1 p = none → Q (.ref p) (upd H1 p (.tup xs))
noncomputable def tLst (t : TA) : TE := fun σ H Q => t σ H fun xs H1 => xs.length ≤ sizeLine ∧ ∀ p, H1 p = none → Q (.ref p) (upd H1 p (.lst xs))
theorem pe_tup {x1} (h : PA X es t) : PE X (.Tuple es x1 pos) (tTup t) := by
  intro pins s σ H Q I hq
  refine wpAny_Tuple_spliced (thn (h pos pins s σ H _ I hq) fun us s1 ⟨xs, H1, I1, r, z, q⟩ => ⟨by rw [← r.length]; exact z, ?_⟩)
  have hf : H1 s1.heap.objs.size = none := I1.hok.fresh (Nat.le_refl _)
  refine ⟨.ref s1.heap.objs.size, upd H1 s1.heap.objs.size (.tup xs), I1.laid (t' := s1.toks) (fun b u e => Heap.get?_push_of_some _ e) (Nat.le_refl _) ?_, rfl, q _ hf⟩
  exact ⟨z, us, r, ⟨_, Heap.get?_push_size _ rfl, rfl, _, rfl⟩⟩
theorem pe_lst (h : PA X es t) : PE X (.List es pos) (tLst t) := by
  intro pins s σ H Q I hq
  refine wpAny_List_spliced (thn (h pos pins s σ H _ I hq) fun us s1 ⟨xs, H1, I1, r, z, q⟩ => ⟨by rw [← r.length]; exact z, ?_⟩)
  have hf : H1 s1.heap.objs.size = none := I1.hok.fresh (Nat.le_refl _)
  refine ⟨.ref s1.heap.objs.size, upd H1 s1.heap.objs.size (.lst xs), I1.laid (t' := s1.toks) (fun b u e => Heap.get?_push_of_some _ e) (Nat.le_refl _) ?_, rfl, q _ hf⟩
  exact ⟨z, us, 0, r, Heap.get?_push_size _ rfl⟩
end
noncomputable abbrev Sp := List V → Hp → VK → XK → Prop
noncomputable abbrev CXT := List Env → Hp → Shared → XK → Value → Shared → Prop
structure Env0 (P : Program) (w : World) (K : PySem.W.Frag) (mg : Str → Option Value) (base : Heap) (A : Around) (outer : List Env) (s : Shared) (H : Hp) : Prop where
  frames : A.frames = some outer
  mod : Mod K mg base
  bs : ∀ b o, base.get? b = some o → s.heap.get? b = some o ∧ H b = none
  bsz : base.objs.size ≤ s.heap.objs.size
  funs : s.heap.FunFrames base outer
  frf : ∀ b ∈ frs outer, H b = none
  hok : HOk P w H s.heap
  bare : AllBare s.gens
noncomputable def CE (outer : List Env) (P : Program) (w : World) (H : Hp) (s : Shared) (Q : VK) (u : Value) (s' : Shared) : Prop :=
  ∃ v H', s'.os = s.os ∧ AllBare s'.gens ∧ Un (frs outer) [] H H' s.heap s'.heap ∧ HOk P w H' s'.heap ∧ RelV v u ∧ Q v H'
noncomputable def CR (CX : CXT) (outer : List Env) (P : Program) (w : World) (H : Hp) (s : Shared) (Q : VK) (E : XK) (r : Result) (s' : Shared) : Prop :=
  match r with
  | .ok (.ret u) => CE outer P w H s Q u s'
  | .ok _ => False
  | .error e => CX outer H s E e s'
structure FnOk (P : Program) (w : World) (K : PySem.W.Frag) (mg : Str → Option Value) (base : Heap) (CX : CXT) (k : Nat) (f : Addr) (fd : FuncData) (ps : List Str) (sp : Sp) : Prop where
  len : ∀ vs H Q E, sp vs H Q E → vs.length = ps.length
  run : ∀ (A : Around) (outer : List Env) (s : Shared) (H : Hp) (args : Args) (us : List Value) (vs : List V) (Q : VK) (E : XK), Room k A → Env0 P w K mg base A outer s H → BindsTo s fd args (ps.zip us) → Vals vs us → sp vs H Q E →
    codeAny (model P w) A (.call (.ref f) args) (CR CX outer P w H s Q E) s
section
variable {X : Cx} {pins : List (Addr × Obj)} {σ : St} {H : Hp} {s s' : Shared}
theorem Inv.env0 (I : Inv X pins σ H s) : Env0 X.prog X.w X.K X.mg X.base X.A X.stack s H :=
  ⟨I.ok.frames, I.ok.mod, I.bs, Nat.le_trans I.ok.bsz I.sz, I.stack, I.stkFree, I.hok, I.bare⟩
theorem Inv.after {Q : VK} {u : Value} (I : Inv X pins σ H s) (h : CE X.stack X.prog X.w H s Q u s') : EP X pins σ Q u s' := by
  obtain ⟨v, H', os, bare, un, hok, r, q⟩ := h
  obtain ⟨hh, g, d, t, os'⟩ := s'
  obtain rfl : os' = s.os := os
  exact ⟨v, H', I.call (h' := hh) (g' := g) (d' := d) (t' := t) (ch := []) un hok bare (fun b z => absurd z (by simp)), r, q⟩
end
noncomputable def tCall (sp : Sp) (dvs : List V) (E : XK) (t : TA) : TE := fun σ H Q => t σ H fun vs H1 => sp (vs ++ dvs) H1 Q E
noncomputable def Binds (K : PySem.W.Frag) (fd : FuncData) (ps : List Str) (ds : List Value) : Prop :=
  ∀ (s : Shared) (us : List Value), K.In s.heap → (us ++ ds).length = ps.length → BindsTo s fd ⟨us, []⟩ (ps.zip (us ++ ds))
theorem Binds.all {K : PySem.W.Frag} {fd : FuncData} {ps : List Str} (h : ∀ us : List Value, us.length = ps.length → bindArgs fd ⟨us, []⟩ = pure (ps.zip us)) : Binds K fd ps [] := fun s us _ hl => by
  rw [List.append_nil] at hl ⊢
  exact .of_eq (h us hl)
noncomputable def Passes (CX : CXT) (X : Cx) (E : XK) : Prop := ∀ (pins : List (Addr × Obj)) (σ : St) (H : Hp) (s : Shared) (e : Value) (s' : Shared), Inv X pins σ H s → CX X.stack H s E e s' → X.xe e s'
section
variable {X : Cx} {CX : CXT} {k : Nat} {f C : Addr} {fd : FuncData} {ps : List Str} {sp : Sp} {dvs : List V} {ds : List Value} {E : XK} {x m : Str} {p pos apos : Pos} {e o : Expr} {es : List Expr} {ta : TE} {t : TA}
theorem run_fn {pins : List (Addr × Obj)} {σ : St} {H : Hp} {s : Shared} {Q : VK} {us : List Value} {vs : List V} (F : FnOk X.prog X.w X.K X.mg X.base CX k f fd ps sp) (hr : Room k X.A) (hb : Binds X.K fd ps ds) (hd : Vals dvs ds) (hx : Passes CX X E)
    (I : Inv X pins σ H s) (r : Vals vs us) (h : sp (vs ++ dvs) H Q E) : wpAny (model X.prog X.w) X.A (call (.ref f) us) (EP X pins σ Q) X.xe s := by
  have r2 : Vals (vs ++ dvs) (us ++ ds) := r.append hd
  have hl : (us ++ ds).length = ps.length := by rw [← r2.length]; exact F.len _ _ _ _ h
  refine wpAny_call (codeAny_mono (F.run X.A X.stack s H ⟨us, []⟩ (us ++ ds) (vs ++ dvs) Q E hr I.env0 (hb s us I.kIn hl) r2 h) fun r s' hq => ?_)
  cases r with
  | error e => exact hx pins σ H s e s' I hq
  | ok fl =>
    cases fl with
    | ret u => exact I.after hq
    | next => exact False.elim hq
    | brk => exact False.elim hq
    | cont => exact False.elim hq
theorem pe_call (F : FnOk X.prog X.w X.K X.mg X.base CX k f fd ps sp) (hr : Room k X.A) (hg : Gl X x) (hm : X.mg x = some (.ref f)) (hk : PySem.W.keepIn X.K (.ref f) = true) (hb : Binds X.K fd ps ds) (hd : Vals dvs ds) (hx : Passes CX X E)
    (ha : PA X (e :: es) t) (hdb : autoParam ((x == ("__debug__" : Str)) = false) zau1._auto_1) (he : autoParam (starEach (e :: es) X.env = (false, eval e X.env) :: starEach es X.env) zau2._auto_1) (hpl : autoParam ((backTo pos (starEach es X.env)).any (·.1) = false) zau2._auto_1) :
    PE X (.Call (.Name x p) (e :: es) [] pos) (tCall sp dvs E t) := by
  intro pins s σ H Q I h
  refine wpAny_Call_Name_kw (ld_glob I hg hm ?_ hdb)
  refine PySem.W.callWith_K (h₀ := X.base) I.ok.mod.kin hk (thn (ha pos pins s σ H _ I h) fun us s1 ⟨vs, H1, I1, r, q⟩ => ⟨I1.kIn, ?_⟩) he hpl
  exact run_fn F hr hb hd hx I1 r q
structure Mk (K : PySem.W.Frag) (C f : Addr) : Prop where
  makes : PySem.W.makesIn K C = true
  init : PySem.W.findIn K (.ref C) "__init__" = some (some (.ref f))
  fn : PySem.W.isFn K (.ref f) = true
  kp : PySem.W.keepIn K (.ref C) = true
end
section
variable {X : Cx} {CX : CXT} {k : Nat} {f C : Addr} {fd : FuncData} {ps ks : List Str} {sp : Sp} {E : XK} {x m : Str} {p pos apos kpos : Pos} {e o : Expr} {es : List Expr} {kws : List Keyword} {te ta : TE} {t tk : TA} {nm : Option Str}
structure KBinds (K : PySem.W.Frag) (fd : FuncData) (ps ks : List Str) (g : List Value → List Value → List Value) (gV : List V → List V → List V) : Prop where
  to : ∀ (s : Shared) (us ws : List Value), K.In s.heap → (g us ws).length = ps.length → BindsTo s fd ⟨us, ks.zip ws⟩ (ps.zip (g us ws))
  rel : ∀ {vs : List V} {us : List Value} {zs : List V} {ws : List Value}, Vals vs us → Vals zs ws → Vals (gV vs zs) (g us ws)
variable {g : List Value → List Value → List Value} {gV : List V → List V → List V}
end
structure FnScope (N P : List Str) (sc : Scope) : Prop where
  kind : sc.kind = .function
  co : sc.isCoroutine = false
  gen : sc.isGenerator = false
  nd : N.Nodup
  pre : N.take P.length = P
  par : ∀ x ∈ P, sc.names.lookup x = some .local ∨ sc.names.lookup x = some .cell
  nofree : ∀ y ∈ sc.names, y.2 ≠ .free
theorem bindL_out {kindOf : Str → Option NameKind} {x : Str} : ∀ {binds : List (Str × Value)} {m : Str → Option Value}, (∀ v, (x, v) ∉ binds) → bindL kindOf binds m x = m x
  | [], _, _ => rfl
  | (n, v) :: r, m, h => by
    unfold bindL
    rw [bindL_out fun w hw => h w (List.mem_cons_of_mem _ hw)]
    split
    · have : x ≠ n := by rintro rfl; exact h v List.mem_cons_self
      simp [this]
    · rfl
theorem bindC_out {kindOf : Str → Option NameKind} {x : Str} : ∀ {binds : List (Str × Value)} {m : Str → Option Value}, (∀ v, (x, v) ∉ binds) → bindC kindOf binds m x = m x
  | [], _, _ => rfl
  | (n, v) :: r, m, h => by
    unfold bindC
    rw [bindC_out fun w hw => h w (List.mem_cons_of_mem _ hw)]
    split
    · rfl
    · have : x ≠ n := by rintro rfl; exact h v List.mem_cons_self
      simp [this]
theorem bindL_get {kindOf : Str → Option NameKind} {x : Str} {v : Value} : ∀ {P : List Str} {vs : List Value} {i : Nat} {m : Str → Option Value}, P.Nodup → P[i]? = some x → vs[i]? = some v → kindOf x = some .local →
    bindL kindOf (P.zip vs) m x = some v
  | [], _, _, _, _, h, _, _ => by simp at h
  | _ :: _, [], _, _, _, _, h, _ => by simp at h
  | p :: P, w :: vs, 0, m, nd, h1, h2, hk => by
    simp at h1 h2; subst h1; subst h2
    show bindL kindOf ((p, w) :: P.zip vs) m p = _
    unfold bindL
    rw [bindL_out fun v hv => (List.nodup_cons.mp nd).1 (List.of_mem_zip hv).1, if_pos hk]
    simp
  | p :: P, w :: vs, i + 1, m, nd, h1, h2, hk => by
    show bindL kindOf ((p, w) :: P.zip vs) m x = _
    unfold bindL
    exact bindL_get (i := i) (List.nodup_cons.mp nd).2 (by simpa using h1) (by simpa using h2) hk
theorem bindC_get {kindOf : Str → Option NameKind} {x : Str} {v : Value} : ∀ {P : List Str} {vs : List Value} {i : Nat} {m : Str → Option Value}, P.Nodup → P[i]? = some x → vs[i]? = some v → kindOf x ≠ some .local →
    bindC kindOf (P.zip vs) m x = some v
  | [], _, _, _, _, h, _, _ => by simp at h
  | _ :: _, [], _, _, _, _, h, _ => by simp at h
  | p :: P, w :: vs, 0, m, nd, h1, h2, hk => by
    simp at h1 h2; subst h1; subst h2
    show bindC kindOf ((p, w) :: P.zip vs) m p = _
    unfold bindC
    rw [bindC_out fun v hv => (List.nodup_cons.mp nd).1 (List.of_mem_zip hv).1, if_neg hk]
    simp
  | p :: P, w :: vs, i + 1, m, nd, h1, h2, hk => by
    show bindC kindOf ((p, w) :: P.zip vs) m x = _
    unfold bindC
    exact bindC_get (i := i) (List.nodup_cons.mp nd).2 (by simpa using h1) (by simpa using h2) hk
noncomputable def start (N : List Str) (vs : List V) : St := vs.map some ++ List.replicate (N.length - vs.length) none
noncomputable def cxOf (CX : CXT) (P : Program) (w : World) (K : PySem.W.Frag) (mg : Str → Option Value) (base : Heap) (N : List Str) (qual : Str) (scope : Scope) (f : Addr) (cd : Value) (A : Around) (outer : List Env) (s : Shared) (H : Hp) (E : XK) : Cx where
  prog := P
  w := w
  K := K
  mg := mg
  base := base
  A := A.deeper (envOfC qual scope s.heap.objs.size f cd)
  N := N
  s₀ := s
  H₀ := H
  env := envOfC qual scope s.heap.objs.size f cd
  outer := outer
  stack := envOfC qual scope s.heap.objs.size f cd :: outer
  ex := []
  calm := true
  fn := fun _ => true
  pn := []
  xe := fun e s' => wpAny (model P w) (A.deeper (envOfC qual scope s.heap.objs.size f cd)) (leaving (envOfC qual scope s.heap.objs.size f cd) e) (fun _ s'' => CX outer H s E e s'') (fun e' s'' => CX outer H s E e' s'') s'
theorem cell_has {sc : Scope} {n : Nat} {x : Str} (h : sc.names.lookup x = some .cell) : ∃ c, (cellsFrom n sc.names []).lookup x = some c := by
  have q := PySem.W.cellsFrom_some sc.names n [] (.inl h)
  exact Option.isSome_iff_exists.mp q
theorem inv_start {CX : CXT} {P : Program} {w : World} {K : PySem.W.Frag} {mg : Str → Option Value} {base : Heap} {N ps : List Str} {qual : Str} {scope : Scope} {f : Addr} {cd : Value} {A : Around} {outer : List Env} {s s1 : Shared} {H : Hp} {E : XK} {us : List Value} {vs : List V}
    (S : FnScope N ps scope) (hd : A.handled = none) (e0 : Env0 P w K mg base A outer s H) (hl : vs.length = ps.length) (r : Vals vs us)
    (x : InCallC s s.heap.objs.size (bindL (envOfC qual scope s.heap.objs.size f cd).kindOf (ps.zip us) fun _ => none) (cellsFrom (s.heap.objs.size + 1) scope.names []) (bindC (envOfC qual scope s.heap.objs.size f cd).kindOf (ps.zip us) fun _ => none) s1) :
    Inv (cxOf CX P w K mg base N qual scope f cd A outer s H E) [] (start N vs) H s1 := by
  have hpl : ps.length ≤ N.length := by have := congrArg List.length S.pre; rw [List.length_take] at this; omega
  obtain ⟨h1, tk, rfl, hk⟩ := x.done
  have noA : ∀ b : Addr, b ∉ (cxOf CX P w K mg base N qual scope f cd A outer s H E).ex := fun b z => absurd (show b ∈ ([] : List Addr) from z) (by simp)
  refine ⟨⟨e0.mod, S.kind, rfl, rfl, Nat.le_refl _, fun y z c h1 h2 => ?_, fun y hy => ?_, fun y c _ h => ?_, fun _ => hd, Around.frames_deeper e0.frames, .inr ⟨rfl, rfl⟩, fun b z => absurd z (noA b), e0.bs, e0.bsz, fun b _ _ => noA b, fun b z => absurd z (noA b), e0.funs, e0.frf⟩,
    rfl, e0.bare, Un.kept hk, ⟨_, x.toInCall.ns, fun i y v h1 h2 h3 => ?_⟩, fun y c h => ⟨_, x.cell y c h⟩, e0.hok.fresh (Nat.le_refl _), fun y c h => ?_, fun p hp => absurd (show p ∈ ([] : List (Addr × Obj)) from hp) (by simp), e0.hok.kept hk, ?_⟩
  · exact name_of_addr x.apart (PySem.mem_of_lookup h1) (PySem.mem_of_lookup h2)
  · have hy : scope.names.lookup y = some .cell ∨ scope.names.lookup y = some .free := hy
    rcases hy with hy | hy
    · exact cell_has hy
    · exact absurd rfl (S.nofree _ (PySem.mem_of_lookup hy))
  · exact Nat.le_of_lt (x.above y c (PySem.mem_of_lookup h))
  · have hi : i < vs.length := by
      unfold start at h2
      by_cases hi : i < vs.length
      · exact hi
      · rw [List.getElem?_append_right (by simpa using hi)] at h2
        rw [List.getElem?_replicate] at h2
        split at h2 <;> cases h2
    have ha : vs[i]? = some v := by
      unfold start at h2
      rw [List.getElem?_append_left (by simpa using hi), List.getElem?_map] at h2
      cases e : vs[i]? with
      | none => rw [e] at h2; cases h2
      | some a => rw [e] at h2; cases h2; rfl
    obtain ⟨u, hu, rv⟩ := r.get ha
    have hp : ps[i]? = some y := by
      rw [← S.pre, List.getElem?_take_of_lt (by omega)]; exact h1
    have ndP : ps.Nodup := by rw [← S.pre]; exact S.nd.sublist (List.take_sublist _ _)
    refine ⟨u, rv, ?_⟩
    rcases S.par y (List.mem_of_getElem? hp) with k | k
    · exact .inl ⟨k, bindL_get ndP hp hu k⟩
    · obtain ⟨c, e⟩ := cell_has (n := s.heap.objs.size + 1) k
      refine .inr ⟨.inl k, c, e, ?_⟩
      have q := x.cell y c e
      rw [bindC_get ndP hp hu (by show scope.names.lookup y ≠ _; rw [k]; decide)] at q
      exact q
  · exact e0.hok.fresh (Nat.le_of_lt (x.above y c (PySem.mem_of_lookup h)))
  · unfold start
    show _ = N.length
    rw [List.length_append, List.length_map, List.length_replicate]
    omega
theorem fn_of {CX : CXT} {P : Program} {w : World} {K : PySem.W.Frag} {mg : Str → Option Value} {base : Heap} {k : Nat} {f : Addr} {name qual : Str} {params : Arguments} {body : List Stmt} {scope : Scope} {dV kV doc pm cdv ct oc : Value} {an od : Option Addr}
    {osl : Array (Option Value)} {N ps : List Str} {sp : Sp} (lk : K.lookup f = some ⟨oc, od, .func (PySem.W.fnOf name qual params body scope dV kV doc pm an cdv ct), osl⟩) (hcd : PySem.W.codeIn K cdv qual = true) (S : FnScope N ps scope)
    (len : ∀ vs H Q E, sp vs H Q E → vs.length = ps.length)
    (hbody : ∀ (A : Around) (outer : List Env) (s : Shared) (H : Hp) (vs : List V) (Q : VK) (E : XK), Room k (A.deeper (envOfC qual scope s.heap.objs.size f cdv)) → sp vs H Q E →
      ∃ t, PSs (cxOf CX P w K mg base N qual scope f cdv A outer s H E) body t ∧ t { nx := fun _ H' => Q .non H', rt := Q } (start N vs) H) :
    FnOk P w K mg base CX (k + 1) f (PySem.W.fnOf name qual params body scope dV kV doc pm an cdv ct) ps sp := by
  refine ⟨len, fun A outer s H args us vs Q E hr e0 hb r hsp => ?_⟩
  have hl := len _ _ _ _ hsp
  have KX : K.In s.heap := e0.mod.kin.keeps fun b o e => (e0.bs b o e).1
  have lim : s.heap.NoLimit := e0.mod.nolimit.keeps fun b o e => (e0.bs b o e).1
  have hkind : ∀ y ∈ ps.zip us, scope.names.lookup y.1 = some .local ∨ (scope.names.lookup y.1 = some .cell ∧ ((cellsFrom (s.heap.objs.size + 1) scope.names []).lookup y.1).isSome = true) := fun ⟨n, v⟩ hy => by
    rcases S.par n (List.of_mem_zip hy).1 with q | q
    · exact .inl q
    · exact .inr ⟨q, PySem.W.cellsFrom_some _ _ _ (.inl q)⟩
  refine codeAny_call_function hr.depth (KX _ _ lk) rfl S.co S.gen rfl (PySem.W.codeRec_of KX hcd) (hb _ _ _ _ ?_)
  refine wpAny_newFunctionEnv_cells S.kind hkind fun env he s1 x => ?_
  subst he
  refine ⟨lim.keeps x.toInCall.keep, codeAny_func ?_⟩
  obtain ⟨t, ht, hq⟩ := hbody A outer s H vs Q E (hr.deeper _) hsp
  have I : Inv (cxOf CX P w K mg base N qual scope f cdv A outer s H E) [] (start N vs) H s1 := inv_start S hr.hd e0 hl r x
  refine wpAny_mono (ht [] s1 (start N vs) H _ I hq) (fun fl s' hs => ?_) fun e s' hs => hs
  have fin : ∀ {σ' : St} {H' : Hp} {v : V} {u : Value}, Inv (cxOf CX P w K mg base N qual scope f cdv A outer s H E) [] σ' H' s' → RelV v u → Q v H' → CE outer P w H s Q u s' :=
    fun {σ' H' v u} J rv q => ⟨v, H', J.os, J.bare, J.base, J.hok, rv, q⟩
  cases fl with
  | ret u =>
    obtain ⟨v, σ', H', J, rv, q⟩ := hs
    exact fin J rv q
  | next =>
    obtain ⟨σ', H', J, q⟩ := hs
    exact fin (v := V.non) (u := Value.none) J rfl q
  | brk =>
    obtain ⟨_, _, _, q⟩ := hs
    exact False.elim q
  | cont =>
    obtain ⟨_, _, _, q⟩ := hs
    exact False.elim q
end L2
namespace L2
open PySem PySem.Spec PyProof.Rows
section
variable {X : Cx} {x : Str} {p pos : Pos} {e : Expr} {es : List Expr} {t : TA} {id T : String} {r : List V → Hp → VK → Prop}
noncomputable def tCB (r : List V → Hp → VK → Prop) (t : TA) : TE := fun σ H Q => t σ H fun vs H1 => r vs H1 Q
theorem pe_callB (hc : CallR X (.builtin id) r) (hg : Gl X x) (hm : X.mg x = none) (hv : bootBuiltins x = some (.builtin id)) (ha : PA X (e :: es) t) (hn : autoParam (x ≠ "__name__") zau1._auto_1) (hdb : autoParam ((x == ("__debug__" : Str)) = false) zau1._auto_1)
    (he : autoParam (starEach (e :: es) X.env = (false, eval e X.env) :: starEach es X.env) zau2._auto_1) (hpl : autoParam ((backTo pos (starEach es X.env)).any (·.1) = false) zau2._auto_1) : PE X (.Call (.Name x p) (e :: es) [] pos) (tCB r t) := by
  intro pins s σ H Q I h
  refine wpAny_Call_Name_kw (ld_blt I hg hm hv ?_ hn hdb)
  exact PyProof.Rows.callWith_builtin1 (thn (ha pos pins s σ H _ I h) fun us s1 ⟨vs, H1, I1, r1, q1⟩ => hc pins s1 σ H1 vs us Q I1 r1 q1) he hpl
theorem pe_callTy (hc : CallR X (.type T) r) (hg : Gl X x) (hm : X.mg x = none) (hv : bootBuiltins x = some (.type T)) (ha : PA X (e :: es) t) (hn : autoParam (x ≠ "__name__") zau1._auto_1) (hdb : autoParam ((x == ("__debug__" : Str)) = false) zau1._auto_1)
    (he : autoParam (starEach (e :: es) X.env = (false, eval e X.env) :: starEach es X.env) zau2._auto_1) (hpl : autoParam ((backTo pos (starEach es X.env)).any (·.1) = false) zau2._auto_1) : PE X (.Call (.Name x p) (e :: es) [] pos) (tCB r t) := by
  intro pins s σ H Q I h
  refine wpAny_Call_Name_kw (ld_blt I hg hm hv ?_ hn hdb)
  exact PyProof.Rows.callWith_type1 (thn (ha pos pins s σ H _ I h) fun us s1 ⟨vs, H1, I1, r1, q1⟩ => hc pins s1 σ H1 vs us Q I1 r1 q1) he hpl
end
end L2
namespace HT
open PySem PyProof.Rows
noncomputable def lexLt : List Int → List Int → Bool
  | [], [] => false
  | [], _ :: _ => true
  | _ :: _, [] => false
  | x :: xs, y :: ys => if x = y then lexLt xs ys else decide (x < y)
theorem lexLt_cons (x y : Int) (xs ys : List Int) : lexLt (x :: xs) (y :: ys) = if x = y then lexLt xs ys else decide (x < y) := rfl
section
open PySem.SeqAt
open PySem.AutoSeq1 (wpAny_loadPart')
open PySem.MeetsSeq PySem.MeetsSeq2 PySem.MeetsSeq3
end
section
variable {prog : Program} {w : World} {A : Around} {E : Value → Shared → Prop} {s : Shared}
theorem cat_tup {t b : Addr} {vs ws : List Value} {Q : Value → Shared → Prop} (ht : IsTup s.heap t vs.toArray) (hb : IsTup s.heap b ws.toArray) (hv : vs ≠ [])
    (h1 : ws = [] → Q (.ref t) s) (h2 : ws ≠ [] → Q (.ref s.heap.objs.size) { s with heap := s.heap.push { cls := .type "tuple", data := .seq (vs ++ ws).toArray } })
    (hsz : vs.length + ws.length ≤ sizeLine) : wpAny (model prog w) A (binaryOp .Add (.ref t) (.ref b)) Q E s := by
  obtain ⟨⟨cls, dd, data, sl⟩, ho, hc, n, hd⟩ := id ht
  obtain ⟨⟨cls2, dd2, data2, sl2⟩, ho2, hc2, n2, hd2⟩ := id hb
  simp only at hc hd hc2 hd2
  subst hc hd hc2 hd2
  have e : vs.toArray ++ ws.toArray = (vs ++ ws).toArray := by simp
  by_cases hw : ws = []
  · exact concat_meets ⟨_, ho, rfl⟩ ⟨_, ho2, rfl⟩ noFill_tuple_add seq_tuple_add PySem.F.slot_tuple_add PySem.F.entry_tuple_add (PySem.F.args_tuple_add_2 _ _)
      (tuple_addW1 t b vs.toArray ws.toArray n n2 dd dd2 sl sl2 (by simpa using hv) (by simp [hw])) ⟨ho, ho2, h1 hw⟩
  · refine concat_meets ⟨_, ho, rfl⟩ ⟨_, ho2, rfl⟩ noFill_tuple_add seq_tuple_add PySem.F.slot_tuple_add PySem.F.entry_tuple_add (PySem.F.args_tuple_add_2 _ _)
      (tuple_addW2 t b vs.toArray ws.toArray n n2 dd dd2 sl sl2 (by simpa using hv) (by simpa using hw) (by rw [List.size_toArray, List.size_toArray]; exact hsz)) ⟨ho, ho2, ?_⟩
    rw [e]
    exact h2 hw
noncomputable def sIx (n d : Nat) : Option Int → Nat
  | none => d
  | some v => if v < 0 then (v + (n : Int)).toNat else min v.toNat n
theorem sIx_none (n d : Nat) : sIx n d none = d := rfl
theorem sIx_le (n d : Nat) (hd : d ≤ n) (o : Option Int) : sIx n d o ≤ n := by
  cases o with
  | none => exact hd
  | some v =>
    show (if v < 0 then (v + (n : Int)).toNat else min v.toNat n) ≤ n
    by_cases hv : v < 0
    · rw [if_pos hv]; omega
    · rw [if_neg hv]; exact Nat.min_le_right _ _
theorem clip_eq (v : Int) (n d : Nat) : (if v < 0 then max (v + (n : Int)) 0 else min v (n : Int)) = ((sIx n d (some v) : Nat) : Int) := by
  show (if v < 0 then max (v + (n : Int)) 0 else min v (n : Int)) = (((if v < 0 then (v + (n : Int)).toNat else min v.toNat n) : Nat) : Int)
  by_cases hv : v < 0
  · simp only [if_pos hv]; omega
  · simp only [if_neg hv]; omega
theorem adjust_gen (lo hi : Option Int) (n : Nat) : Builtin.Slice.sliceAdjust lo hi 1 (n : Int) = (((sIx n 0 lo : Nat) : Int), ((sIx n n hi : Nat) : Int)) := by
  have h1 : ¬ ((1 : Int) < 0) := by omega
  unfold Builtin.Slice.sliceAdjust
  simp only [h1, if_false]
  refine Prod.ext ?_ ?_
  · cases lo with
    | none => rfl
    | some v => exact clip_eq v n 0
  · cases hi with
    | none => rfl
    | some v => exact clip_eq v n n
theorem places_gen (i j : Nat) : Builtin.Slice.slicePlaces (i : Int) (j : Int) 1 = j - i := by
  unfold Builtin.Slice.slicePlaces
  have h1 : (1 : Int) > 0 := by omega
  simp only [h1, if_true, Int.ediv_one]
  split <;> omega
theorem slicePart_ {v : Value} {o : Option Int} {Q : Option Int → Shared → Prop} (p : IsPart v o) (h : Q o s) : wpAny (model prog w) A (Builtin.Slice.slicePartIndex v) Q E s := by
  cases p with
  | none => exact slicePart_none h
  | int i t => exact slicePart_int h
theorem sliceApplied_gen {sl : Addr} {vl vu : Value} {lo hi : Option Int} {n : Nat} {Q : Int × Int × Nat → Shared → Prop} (hs : s.heap.IsSliceOf sl vl vu .none) (pl : IsPart vl lo) (pu : IsPart vu hi)
    (h : Q (((sIx n 0 lo : Nat) : Int), 1, sIx n n hi - sIx n 0 lo) s) : wpAny (model prog w) A (Builtin.Slice.sliceApplied (.ref sl) (pure (n : Int))) Q E s := by
  obtain ⟨os, hos, hcs, hds⟩ := id hs
  unfold Builtin.Slice.sliceApplied Builtin.Slice.sliceFields
  refine wpAny_bind (wpAny_bind (wpAny_field hos hds (x := vl) rfl (wpAny_bind (wpAny_field hos hds (x := vu) rfl (wpAny_bind (wpAny_field hos hds (x := .none) rfl (wpAny_pure ?_)))))))
  refine wpAny_bind (slicePart_none ?_)
  show wpAny _ _ (if ((1 : Int) == 0) = true then _ else _) _ _ s
  rw [if_neg (by decide)]
  refine wpAny_bind (slicePart_ pl (wpAny_bind (slicePart_ pu (wpAny_bind (wpAny_pure ?_)))))
  show wpAny _ _ (match Builtin.Slice.sliceAdjust lo hi 1 (n : Int) with | (lo, hi) => pure (lo, (1 : Int), Builtin.Slice.slicePlaces lo hi 1)) _ _ s
  rw [adjust_gen lo hi n]
  show wpAny _ _ (pure (((sIx n 0 lo : Nat) : Int), (1 : Int), Builtin.Slice.slicePlaces ((sIx n 0 lo : Nat) : Int) ((sIx n n hi : Nat) : Int) 1)) _ _ s
  rw [places_gen]
  exact wpAny_pure h
theorem pick_gen (xs : Array Value) (i k : Nat) : ((List.range k).filterMap fun (m : Nat) => xs[((i : Int) + (m : Int) * 1).toNat]?).toArray = ((xs.toList.drop i).take k).toArray := by
  have e : (fun (m : Nat) => xs[((i : Int) + (m : Int) * 1).toNat]?) = fun m => xs[i + m]? := by
    funext m
    have : ((i : Int) + (m : Int) * 1).toNat = i + m := by omega
    rw [this]
  rw [e]
  have := pick_run xs i k
  rw [List.filterMap_map] at this
  have e2 : ((fun x => xs[x]?) ∘ fun x => i + x) = fun m => xs[i + m]? := rfl
  rw [e2] at this
  rw [this]
theorem getItem_tuple_cut {t sl : Addr} {items : Array Value} {vl vu : Value} {lo hi : Option Int} {Q : Value → Shared → Prop} (ht : IsTup s.heap t items) (hs : s.heap.IsSliceOf sl vl vu .none) (pl : IsPart vl lo) (pu : IsPart vu hi)
    (hw : ¬ (sIx items.size 0 lo = 0 ∧ sIx items.size items.size hi = items.size))
    (h : Q (.ref s.heap.objs.size) { s with heap := s.heap.push { cls := .type "tuple", data := .seq ((items.toList.drop (sIx items.size 0 lo)).take (sIx items.size items.size hi - sIx items.size 0 lo)).toArray } })
    (hsz : items.size ≤ sizeLine) : wpAny (model prog w) A (getItem (.ref t) (.ref sl)) Q E s := by
  have htake : sizeOk (.seq ((items.toList.drop (sIx items.size 0 lo)).take (sIx items.size items.size hi - sIx items.size 0 lo)).toArray) := by
    show ((items.toList.drop (sIx items.size 0 lo)).take (sIx items.size items.size hi - sIx items.size 0 lo)).toArray.size ≤ sizeLine
    rw [List.size_toArray, List.length_take, List.length_drop, Array.length_toList]
    omega
  have hj : sIx items.size items.size hi ≤ items.size := sIx_le _ _ (Nat.le_refl _) hi
  obtain ⟨os, hos, hcs, hds⟩ := id hs
  have hTs : s.TypeIs (.ref sl) "slice" := ⟨os, hos, hcs⟩
  unfold getItem
  try with_reducible refine wpAny_holding ?_
  first | refine wpAny_bind (wpAny_pure ?_) | skip
  refine wpAny_bind (wpAny_sequenceKey ht.typeIs (by decide) ?_)
  refine wpAny_bind (wpAny_callSpecial?_slot (name := Str.ofString "__getitem__") ht.typeIs PyProof.Rows.slot_tuple_getitem
    (wpAny_call_entry PyProof.Rows.slot_tuple_getitem ht.typeIs entry_tuple_getitem ?_ (args_tuple_getitem _ _)))
  show wpAny _ _ (Builtin.Tuple.tupleItemsOf (.ref t) >>= _) _ _ s
  refine wpAny_bind (tupleItemsOf_ ht ?_)
  refine wpAny_bind (wpAny_typeOf hTs ?_)
  rw [if_pos (by decide)]
  refine wpAny_bind (sliceApplied_gen hs pl pu ?_)
  have hno : ¬ ((((sIx items.size 0 lo : Nat) : Int) == 0 && (1 : Int) == 1 && (sIx items.size items.size hi - sIx items.size 0 lo) == items.size) = true) := by
    intro q
    rw [Bool.and_eq_true, Bool.and_eq_true] at q
    have q1 : ((sIx items.size 0 lo : Nat) : Int) = 0 := eq_of_beq q.1.1
    have q2 : sIx items.size items.size hi - sIx items.size 0 lo = items.size := eq_of_beq q.2
    exact hw ⟨by omega, by omega⟩
  show wpAny _ _ (if (((sIx items.size 0 lo : Nat) : Int) == 0 && (1 : Int) == 1 && (sIx items.size items.size hi - sIx items.size 0 lo) == items.size) = true then _ else _) _ _ s
  rw [if_neg hno, pick_gen]
  first
    | exact wpAny_bind (m := Builtin.Tuple.tupleExact _) (wpAny_newObj_type (wpAny_pure ⟨_, rfl, wpAny_pure h⟩) htake)
    | exact wpAny_bind (m := Builtin.Tuple.tupleExact _) (wpAny_newObj_type (wpAny_bind (wpAny_pure (wpAny_pure ⟨_, rfl, wpAny_pure h⟩))) htake)
    | exact wpAny_bind (wpAny_bind (m := Builtin.Tuple.tupleExact _) (wpAny_newObj_type (wpAny_pure (wpAny_pure ⟨_, rfl, wpAny_pure h⟩)) htake))
    | exact wpAny_bind (wpAny_bind (m := Builtin.Tuple.tupleExact _) (wpAny_newObj_type (wpAny_pure ⟨_, rfl, wpAny_pure h⟩) htake))
end
end HT
namespace L2
open PySem PySem.Spec PyProof.Rows
noncomputable abbrev TO := St → Hp → (Option Int → Hp → Prop) → Prop
noncomputable def PO (X : Cx) (e : Option Expr) (t : TO) : Prop :=
  ∀ (pins : List (Addr × Obj)) (s : Shared) (σ : St) (H : Hp) (Q : Option Int → Hp → Prop), Inv X pins σ H s → t σ H Q →
    wpAny (model X.prog X.w) X.A (evalPart e X.env) (fun u s' => ∃ o H', Inv X pins σ H' s' ∧ IsPart u o ∧ Q o H') X.xe s
noncomputable def tNoPart : TO := fun _ H Q => Q none H
noncomputable def tPart (t : TE) : TO := fun σ H Q => t σ H fun x H1 => ∃ i, x = .int i ∧ Q (some i) H1
theorem intsAre_of {ns : List Int} : ∀ {us : List Value}, Vals (ns.map V.int) us → IntsAre us ns := by
  induction ns with
  | nil => intro us r; rw [List.map_nil] at r; cases r; exact .nil
  | cons n ns ih =>
    intro us r
    rw [List.map_cons] at r
    cases r with
    | cons r1 r2 =>
      obtain ⟨t, e⟩ := r1
      subst e
      exact .cons n t (ih r2)
section
variable {X : Cx} {e : Expr} {te : TE} {lo hi : Option Expr} {tl th : TO} {pos p2 : Pos}
theorem po_none : PO X none tNoPart := by
  intro pins s σ H Q I h
  rw [evalPart_none]
  exact wpAny_pure ⟨none, H, I, .none, h⟩
theorem po_some (h : PE X e te) : PO X (some e) (tPart te) := by
  intro pins s σ H Q I hw
  rw [evalPart_some]
  refine thn (h pins s σ H _ I hw) fun u s1 hzz => ?_
  obtain ⟨x, H1, I1, r1, q1⟩ := hzz
  obtain ⟨i, rfl, q⟩ := q1
  obtain ⟨t, rfl⟩ := r1
  exact ⟨some i, H1, I1, .int i t, q⟩
noncomputable def SlR (X : Cx) (r : V → Option Int → Option Int → Hp → VK → Prop) : Prop :=
  ∀ (pins : List (Addr × Obj)) (s : Shared) (σ : St) (H : Hp) (x : V) (v vl vu : Value) (lo hi : Option Int) (sl : Addr) (Q : VK), Inv X pins σ H s → RelV x v → s.heap.IsSliceOf sl vl vu .none → IsPart vl lo → IsPart vu hi → r x lo hi H Q →
    ∃ T id, typeLookup (.type T) "__getitem__" = pure (some (.builtin id)) ∧ s.TypeIs v T ∧ wpAny (model X.prog X.w) X.A (getItem v (.ref sl)) (EP X pins σ Q) X.xe s
theorem SlR.or {r r' : V → Option Int → Option Int → Hp → VK → Prop} (h : SlR X r) (h' : SlR X r') : SlR X (fun x lo hi H Q => r x lo hi H Q ∨ r' x lo hi H Q) := by
  intro pins s σ H x v vl vu lo hi sl Q I rx hs pl pu q
  rcases q with q | q
  · exact h pins s σ H x v vl vu lo hi sl Q I rx hs pl pu q
  · exact h' pins s σ H x v vl vu lo hi sl Q I rx hs pl pu q
noncomputable def tSl (r : V → Option Int → Option Int → Hp → VK → Prop) (te : TE) (tl th : TO) : TE := fun σ H Q => te σ H fun x H1 => tl σ H1 fun l H2 => th σ H2 fun u H3 => r x l u H3 Q
theorem pe_slice {r : V → Option Int → Option Int → Hp → VK → Prop} (hr : SlR X r) (he : PE X e te) (hl : PO X lo tl) (hu : PO X hi th) : PE X (.Subscript e (.Slice lo hi none p2) pos) (tSl r te tl th) := by
  intro pins s σ H Q I h
  refine Subscript_ (thn (he pins s σ H _ I h) fun v s1 hzz => ?_)
  obtain ⟨x, H1, I1, r1, q1⟩ := hzz
  refine wpAny_Slice (thn (hl pins s1 σ H1 _ I1 q1) fun vl s2 ⟨l, H2, I2, pl, q2⟩ => thn (hu pins s2 σ H2 _ I2 q2) fun vu s3 hzz => ?_)
  obtain ⟨u, H3, I3, pu, q3⟩ := hzz
  rw [evalPart_none]
  refine wpAny_pure ?_
  have I4 : Inv X pins σ H3 { s3 with heap := s3.heap.push { cls := .type "slice", data := .fields #[vl, vu, .none] } } := I3.kept (t' := s3.toks) fun b ob q => Heap.get?_push_of_some _ q
  obtain ⟨T, id, hT, ht, hg⟩ := hr pins { s3 with heap := s3.heap.push { cls := .type "slice", data := .fields #[vl, vu, .none] } } σ H3 x v vl vu l u s3.heap.objs.size Q I4 r1 (Heap.IsSliceOf.new ..) pl pu q3
  show wpAny (model X.prog X.w) X.A (subscriptTail e (.Slice lo hi none p2) v (.ref s3.heap.objs.size)) (EP X pins σ Q) X.xe { s3 with heap := s3.heap.push { cls := .type "slice", data := .fields #[vl, vu, .none] } }
  exact tail_any (ops := [.ref s3.heap.objs.size, v]) ht hT hg (by with_unfolding_all rfl)
noncomputable def cutV (xs : List V) (lo hi : Option Int) : List V := (xs.drop (HT.sIx xs.length 0 lo)).take (HT.sIx xs.length xs.length hi - HT.sIx xs.length 0 lo)
theorem cutV_length (xs : List V) (lo hi : Option Int) : (cutV xs lo hi).length ≤ xs.length := by
  unfold cutV
  rw [List.length_take, List.length_drop]
  omega
noncomputable def rSlT (K : PySem.W.Frag) : V → Option Int → Option Int → Hp → VK → Prop := fun x lo hi H Q => ∃ a xs, x = .ref a ∧ SqT K H a xs ∧
  ¬ (HT.sIx xs.length 0 lo = 0 ∧ HT.sIx xs.length xs.length hi = xs.length) ∧ ∀ p, H p = none → Q (.ref p) (upd H p (.tup (cutV xs lo hi)))
theorem sl_tup : SlR X (rSlT X.K) := by
  intro pins s σ H x v vl vu lo hi sl Q I rx hs pl pu h
  obtain ⟨a, xs, rfl, hx, hw, q⟩ := h
  cases rx
  obtain ⟨its, r, ht, hz⟩ := I.tuple hx
  have hlen : its.toArray.size = xs.length := by rw [List.size_toArray]; exact r.length.symm
  refine ⟨"tuple", _, PyProof.Rows.slot_tuple_getitem.lookup, ht.typeIs, ?_⟩
  refine HT.getItem_tuple_cut ht hs pl pu (by rw [hlen]; exact hw) ?_ (by rw [hlen]; exact hz)
  rw [hlen]
  refine ⟨.ref s.heap.objs.size, _, I.laid (t' := s.toks) (o := .tup (cutV xs lo hi)) (fun b ob q => Heap.get?_push_of_some _ q) (Nat.le_refl _) ?_, rfl, q _ (I.hok.fresh (Nat.le_refl _))⟩
  exact ⟨Nat.le_trans (cutV_length xs lo hi) hz, _, (r.drop (HT.sIx xs.length 0 lo)).take (HT.sIx xs.length xs.length hi - HT.sIx xs.length 0 lo), IsTup.new _ _⟩
noncomputable def rCatT (K : PySem.W.Frag) : R2 := fun x y H Q => ∃ a b xs ys, x = .ref a ∧ y = .ref b ∧ SqT K H a xs ∧ SqT K H b ys ∧ xs ≠ [] ∧ xs.length + ys.length ≤ sizeLine ∧
  (ys = [] → Q (.ref a) H) ∧ (ys ≠ [] → ∀ p, H p = none → Q (.ref p) (upd H p (.tup (xs ++ ys))))
theorem Vals.nil_iff {xs : List V} {us : List Value} (r : Vals xs us) : us = [] ↔ xs = [] := by
  cases r with
  | nil => simp
  | cons _ _ => simp
theorem op_catT : OpR X (binaryOp .Add) (rCatT X.K) := by
  intro pins s σ H x y v u Q I rx ry h
  obtain ⟨a, b, xs, ys, rfl, rfl, ha, hb, hx, hz, q1, q2⟩ := h
  cases rx
  cases ry
  obtain ⟨its, r1, p1, _⟩ := I.tuple ha
  obtain ⟨its2, r2, p2, _⟩ := I.tuple hb
  refine HT.cat_tup p1 p2 (fun z => hx (r1.nil_iff.mp z)) (fun z => ⟨.ref a, H, I, rfl, q1 (r2.nil_iff.mp z)⟩) (fun z => ?_) (by rw [← r1.length, ← r2.length]; exact hz)
  refine ⟨.ref s.heap.objs.size, _, I.laid (t' := s.toks) (o := .tup (xs ++ ys)) (fun b ob q => Heap.get?_push_of_some _ q) (Nat.le_refl _) ?_, rfl, q2 (fun w => z (r2.nil_iff.mpr w)) _ (I.hok.fresh (Nat.le_refl _))⟩
  exact ⟨by rw [List.length_append]; exact hz, _, r1.append r2, IsTup.new _ _⟩
end
end L2
namespace L2
open PySem PySem.Spec PyProof.Rows
noncomputable def ixN (n : Nat) (i : Int) : Option Nat := if 0 ≤ i then (if i < n then some i.toNat else none) else if -(n : Int) ≤ i then some (i + n).toNat else none
noncomputable def atI {α : Type} (xs : List α) (i : Int) : Option α := (ixN xs.length i).bind fun j => xs[j]?
theorem ixN_seq {n : Nat} {i : Int} {j : Nat} (h : ixN n i = some j) : seqIndex? i n = some j ∧ j < n ∧ -(n : Int) ≤ i ∧ i < n := by
  unfold ixN at h
  by_cases h0 : 0 ≤ i
  · rw [if_pos h0] at h
    by_cases h1 : i < n
    · rw [if_pos h1] at h
      have e : i.toNat = j := Option.some.inj h
      exact ⟨by rw [seqIndex_of h0 h1, e], by omega, by omega, h1⟩
    · rw [if_neg h1] at h; cases h
  · rw [if_neg h0] at h
    by_cases h1 : -(n : Int) ≤ i
    · rw [if_pos h1] at h
      have e : (i + n).toNat = j := Option.some.inj h
      exact ⟨by rw [seqIndex_neg (by omega) h1, e], by omega, h1, by omega⟩
    · rw [if_neg h1] at h; cases h
theorem atI_get {α : Type} {xs : List α} {i : Int} {v : α} (h : atI xs i = some v) : ∃ j, seqIndex? i xs.length = some j ∧ xs[j]? = some v ∧ j < xs.length ∧ -(xs.length : Int) ≤ i ∧ i < xs.length := by
  unfold atI at h
  cases e : ixN xs.length i with
  | none => rw [e] at h; cases h
  | some j =>
    rw [e] at h
    obtain ⟨h1, h2, h3, h4⟩ := ixN_seq e
    exact ⟨j, h1, h, h2, h3, h4⟩
noncomputable def PlainIx (b : Expr) : Prop := ∀ o i, subscripted b false o i = operate [o, i] (getItem o i)
noncomputable def IxR (X : Cx) (r : R2) : Prop :=
  ∀ (value slice : Expr) (pins : List (Addr × Obj)) (s : Shared) (σ : St) (H : Hp) (x y : V) (v u : Value) (Q : VK), Inv X pins σ H s → RelV x v → RelV y u → r x y H Q →
    subscripted slice false v u = operate [v, u] (getItem v u) → wpAny (model X.prog X.w) X.A (subscriptTail value slice v u) (EP X pins σ Q) X.xe s
noncomputable def MtR (X : Cx) (id : String) (r : V → List V → Hp → VK → Prop) : Prop :=
  ∀ (pins : List (Addr × Obj)) (s : Shared) (σ : St) (H : Hp) (x : V) (xs : List V) (v : Value) (us : List Value) (Q : VK), Inv X pins σ H s → RelV x v → Vals xs us → r x xs H Q →
    wpAny (model X.prog X.w) X.A (call (.builtin id) (v :: us)) (EP X pins σ Q) X.xe s
section
variable {X : Cx} {a b : Expr} {ta tb : TE} {pos : Pos}
theorem IxR.or {r r' : R2} (h : IxR X r) (h' : IxR X r') : IxR X (fun x y H Q => r x y H Q ∨ r' x y H Q) := by
  intro value slice pins s σ H x y v u Q I rx ry q hs
  rcases q with q | q
  · exact h value slice pins s σ H x y v u Q I rx ry q hs
  · exact h' value slice pins s σ H x y v u Q I rx ry q hs
theorem pe_ix {r : R2} (hr : IxR X r) (ha : PE X a ta) (hb : PE X b tb) (hs : PlainIx b) : PE X (.Subscript a b pos) (tOp r ta tb) := by
  intro pins s σ H Q I h
  exact Subscript_ (binT ha hb I h fun v u s2 x y H2 I2 rx ry q => hr a b pins s2 σ H2 x y v u Q I2 rx ry q (hs _ _))
noncomputable def rIxL (K : PySem.W.Frag) : R2 := fun x y H Q => ∃ p xs i v, x = .ref p ∧ y = .int i ∧ SqL K H p xs ∧ atI xs i = some v ∧ Q v H
noncomputable def rIxT (K : PySem.W.Frag) : R2 := fun x y H Q => ∃ p xs i v, x = .ref p ∧ y = .int i ∧ SqT K H p xs ∧ atI xs i = some v ∧ Q v H
noncomputable def rIxS : R2 := fun x y H Q => ∃ z i c, x = .str z ∧ y = .int i ∧ z.length ≤ sizeLine ∧ atI z.cps.toList i = some c ∧ Q (.str ⟨#[c]⟩) H
theorem ix_list : IxR X (rIxL X.K) := by
  intro value slice pins s σ H x y v u Q I rx ry h hs
  obtain ⟨p, xs, i, z, rfl, rfl, hq, he, q⟩ := h
  cases rx
  obtain ⟨t, rfl⟩ := ry
  obtain ⟨its, r, pl, hz⟩ := I.list hq
  obtain ⟨j, h1, h2, h3, h4, h5⟩ := atI_get he
  obtain ⟨w, ew, rw'⟩ := r.get h2
  have hl := r.length
  have hn := line63
  have fin : EP X pins σ Q w s := ⟨z, H, I, rw', q⟩
  by_cases h0 : 0 ≤ i
  · have hj : i.toNat = j := by
      rw [seqIndex_of h0 h5] at h1
      exact Option.some.inj h1
    exact item_listR pl.isList h0 (by omega) (by rw [hj]; simpa using ew) fin hs
  · have hj : (i + (its.toArray.size : Int)).toNat = j := by
      rw [seqIndex_neg (by omega) h4] at h1
      rw [List.size_toArray, ← hl]
      exact Option.some.inj h1
    exact subscriptTail_builtinR (x := w) pl.isList.typeIs slot_list_getitem.lookup
      (wpAny_getItem_list_neg (Q := fun r s' => r = w ∧ EP X pins σ Q r s') pl.isList (by omega) (by rw [List.size_toArray] <;> omega) (by omega) (by rw [hj]; simpa using ew) ⟨rfl, fin⟩) hs
theorem ix_tup : IxR X (rIxT X.K) := by
  intro value slice pins s σ H x y v u Q I rx ry h hs
  obtain ⟨p, xs, i, z, rfl, rfl, hq, he, q⟩ := h
  cases rx
  obtain ⟨t, rfl⟩ := ry
  obtain ⟨its, r, pl, hz⟩ := I.tuple hq
  obtain ⟨j, h1, h2, h3, h4, h5⟩ := atI_get he
  obtain ⟨w, ew, rw'⟩ := r.get h2
  have hl := r.length
  have hn := line63
  have fin : EP X pins σ Q w s := ⟨z, H, I, rw', q⟩
  exact subscriptTail_builtinR (x := w) pl.typeIs slot_tuple_getitem.lookup
    (getItem_tuple (j := j) (Q := fun r s' => r = w ∧ EP X pins σ Q r s') pl (by omega) (by omega) (by rw [List.size_toArray, ← hl]; exact h1) (by simpa using ew) ⟨rfl, fin⟩) hs
theorem ix_str : IxR X rIxS := by
  intro value slice pins s σ H x y v u Q I rx ry h hs
  obtain ⟨z, i, c, rfl, rfl, hz, he, q⟩ := h
  obtain ⟨t, rfl⟩ := rx
  obtain ⟨t', rfl⟩ := ry
  obtain ⟨j, h1, h2, h3, h4, h5⟩ := atI_get he
  have hl : z.cps.toList.length = z.length := by simp [Str.length]
  rw [hl] at h1 h4 h5
  have hn := line63
  exact tail_any (typeIs_str s z t) slot_str_getitem.lookup (getItem_str (c := c) (by
    have e1 : decide (i < -(2 ^ 63 : Int)) = false := decide_eq_false (by omega)
    have e2 : decide (i ≥ 2 ^ 63) = false := decide_eq_false (by omega)
    rw [e1, e2, Bool.or_false]) (by rw [h1]; simpa using h2) ⟨.str ⟨#[c]⟩, H, I.tok _, ⟨_, rfl⟩, q⟩) hs
noncomputable def rIx (K : PySem.W.Frag) : R2 := fun x y H Q => rIxL K x y H Q ∨ rIxT K x y H Q ∨ rIxS x y H Q
theorem ix_seq : IxR X (rIx X.K) := ix_list.or (ix_tup.or ix_str)
theorem mapSeq_set (its : List Value) (n j : Nat) (u : Value) : Obj.mapSeq (·.setIfInBounds j u) { cls := .type "list", data := .seq its.toArray n } = { cls := .type "list", data := .seq (its.set j u).toArray n } := by
  simp [Obj.mapSeq]
theorem Inv.lst {pins : List (Addr × Obj)} {σ : St} {H : Hp} {s : Shared} {p : Addr} {xs : List V} (I : Inv X pins σ H s) (h : H p = some (.lst xs)) :
    ∃ (its : List Value) (n : Nat), Vals xs its ∧ s.heap.get? p = some { cls := .type "list", data := .seq its.toArray n } ∧ xs.length ≤ sizeLine := by
  obtain ⟨z, its, n, r, e⟩ := I.hok p _ h
  exact ⟨its, n, r, e, z⟩
theorem Inv.lstUpd {pins : List (Addr × Obj)} {σ : St} {H : Hp} {s : Shared} {p : Addr} {xs ys : List V} {its its' : List Value} {n n' : Nat} {f : Obj → Obj} (I : Inv X pins σ H s) (h : H p = some (.lst xs))
    (ho : s.heap.get? p = some { cls := .type "list", data := .seq its.toArray n }) (hf : f { cls := .type "list", data := .seq its.toArray n } = { cls := .type "list", data := .seq its'.toArray n' }) (r : Vals ys its') (hz : ys.length ≤ sizeLine) (t : Nat) :
    Inv X pins σ (upd H p (.lst ys)) { s with heap := s.heap.update p f, toks := t } := by
  have e : (s.heap.update p f).get? p = some { cls := .type "list", data := .seq its'.toArray n' } := by
    rw [Heap.get?_update_self f ho (by rw [hf] <;> rfl), hf]
  refine I.write (x := p) (e := p) (by rw [h]; trivial) (.inl rfl) (fun b u hb q => (Heap.get?_update_other _ _ (Ne.symm hb)).trans q) ⟨_, e⟩ ?_
  exact ⟨hz, its', n', r, e⟩
noncomputable def rSetL : V → V → V → Hp → (Hp → Prop) → Prop := fun o i v H Q => ∃ p xs k j, o = .ref p ∧ i = .int k ∧ H p = some (.lst xs) ∧ ixN xs.length k = some j ∧ Q (upd H p (.lst (xs.set j v)))
theorem set_list : PSet X rSetL := by
  intro pins s σ H o i v ov iv u Q I ro ri rv h
  obtain ⟨p, xs, k, j, rfl, rfl, hp, hj, q⟩ := h
  cases ro
  obtain ⟨t, rfl⟩ := ri
  obtain ⟨its, n, r, ho, hz⟩ := I.lst hp
  obtain ⟨h1, h2, h3, h4⟩ := ixN_seq hj
  have hl := r.length
  have hn := line63
  have I' : Inv X pins σ (upd H p (.lst (xs.set j v))) { s with heap := s.heap.update p (Obj.mapSeq (·.setIfInBounds j u)) } :=
    I.lstUpd hp ho (mapSeq_set its n j u) (r.set rv j) (by rw [List.length_set]; exact hz) s.toks
  by_cases h0 : 0 ≤ k
  · have hk : k.toNat = j := by
      rw [seqIndex_of h0 h4] at h1
      exact Option.some.inj h1
    exact PySem.W.ki_setAt ho h0 (by omega) (by rw [List.size_toArray, ← hl]; exact h4) (by rw [hk]; exact ⟨_, I', q⟩)
  · have hk : (k + (its.toArray.size : Int)).toNat = j := by
      rw [seqIndex_neg (by omega) h3] at h1
      rw [List.size_toArray, ← hl]
      exact Option.some.inj h1
    exact PySem.W.ki_setBack ho (by omega) (by rw [List.size_toArray, ← hl]; exact h3) (by omega) (by rw [hk]; exact ⟨_, I', q⟩)
theorem slice_bounds (lo hi : Option Int) (n : Nat) : (sliceBounds lo hi none n).1 = ((HT.sIx n 0 lo : Nat) : Int) ∧ (sliceBounds lo hi none n).2.1 = ((HT.sIx n n hi : Nat) : Int) ∧ (sliceBounds lo hi none n).2.2 = 1 := by
  refine ⟨?_, ?_, rfl⟩
  · cases lo with
    | none => simp [sliceBounds, HT.sIx]
    | some i =>
      simp only [sliceBounds, HT.sIx, Option.getD_none, show (1 : Int) > 0 by decide, if_true]
      by_cases h : i < 0
      · simp only [h, if_true] <;> omega
      · simp only [h, if_false] <;> omega
  · cases hi with
    | none => simp [sliceBounds, HT.sIx]
    | some i =>
      simp only [sliceBounds, HT.sIx, Option.getD_none, show (1 : Int) > 0 by decide, if_true]
      by_cases h : i < 0
      · simp only [h, if_true] <;> omega
      · simp only [h, if_false] <;> omega
theorem slicePick_cut (its : List Value) (lo hi : Option Int) : slicePick its.toArray lo hi none = ((its.drop (HT.sIx its.length 0 lo)).take (HT.sIx its.length its.length hi - HT.sIx its.length 0 lo)).toArray := by
  obtain ⟨h1, h2, h3⟩ := slice_bounds lo hi its.toArray.size
  unfold slicePick
  rw [h1, h2, h3]
  simp only [sliceRange_one, pick_run, List.size_toArray] <;> rfl
noncomputable def rSlL (K : PySem.W.Frag) : V → Option Int → Option Int → Hp → VK → Prop := fun x lo hi H Q => ∃ a xs, x = .ref a ∧ SqL K H a xs ∧ ∀ p, H p = none → Q (.ref p) (upd H p (.lst (cutV xs lo hi)))
theorem sl_list : SlR X (rSlL X.K) := by
  intro pins s σ H x v vl vu lo hi sl Q I rx hs pl pu h
  obtain ⟨a, xs, rfl, hx, q⟩ := h
  cases rx
  obtain ⟨its, r, ht, hz⟩ := I.list hx
  have hlen := r.length
  refine ⟨"list", _, slot_list_getitem.lookup, ht.isList.typeIs, ?_⟩
  refine wpAny_getItem_list_slice ht.isList hs pl pu .none (by simp) ?_ (by rw [List.size_toArray] <;> omega)
  rw [slicePick_cut, ← hlen]
  refine ⟨.ref s.heap.objs.size, _, I.laid (t' := s.toks) (o := .lst (cutV xs lo hi)) (fun b ob q => Heap.get?_push_of_some _ q) (Nat.le_refl _) ?_, rfl, q _ (I.hok.fresh (Nat.le_refl _))⟩
  exact ⟨Nat.le_trans (cutV_length xs lo hi) hz, _, 0, (r.drop (HT.sIx xs.length 0 lo)).take (HT.sIx xs.length xs.length hi - HT.sIx xs.length 0 lo), Heap.get?_push_size _ rfl⟩
noncomputable def flatV : V → Bool
  | .non => true
  | .bl _ => true
  | .int _ => true
  | .str _ => true
  | _ => false
noncomputable def eqV : V → V → Bool
  | .non, .non => true
  | .bl a, .bl b => a == b
  | .bl a, .int b => (if a then 1 else 0) == b
  | .int a, .bl b => a == (if b then 1 else 0)
  | .int a, .int b => a == b
  | .str a, .str b => a == b
  | _, _ => false
theorem eqAt_V {A : Around} {s : Shared} {y x : V} {u v : Value} (ry : RelV y u) (rx : RelV x v) (fy : flatV y = true) (fx : flatV x = true) : SeqAt.EqAt A s u v (eqV y x) := by
  cases y with
  | non =>
    cases ry
    cases x with
    | non => cases rx; exact SeqAt.EqAt.same _
    | bl b => cases rx; exact SeqAt.EqAt.none_bool b
    | int b => obtain ⟨t, rfl⟩ := rx; exact SeqAt.EqAt.none_int b t
    | str b => obtain ⟨t, rfl⟩ := rx; exact SeqAt.EqAt.none_str b t
    | _ => exact absurd (show false = true from fx) Bool.false_ne_true
  | bl a =>
    cases ry
    cases x with
    | non => cases rx; exact SeqAt.EqAt.bool_none a
    | bl b => cases rx; exact SeqAt.EqAt.bool_bool a b
    | int b => obtain ⟨t, rfl⟩ := rx; exact SeqAt.EqAt.bool_int a b t
    | str b => obtain ⟨t, rfl⟩ := rx; exact SeqAt.EqAt.bool_str a b t
    | _ => exact absurd (show false = true from fx) Bool.false_ne_true
  | int a =>
    obtain ⟨t', rfl⟩ := ry
    cases x with
    | non => cases rx; exact SeqAt.EqAt.int_none a t'
    | bl b => cases rx; exact SeqAt.EqAt.int_bool a t' b
    | int b => obtain ⟨t, rfl⟩ := rx; exact SeqAt.EqAt.int_int a t' b t
    | str b => obtain ⟨t, rfl⟩ := rx; exact SeqAt.EqAt.int_str a t' b t
    | _ => exact absurd (show false = true from fx) Bool.false_ne_true
  | str a =>
    obtain ⟨t', rfl⟩ := ry
    cases x with
    | non => cases rx; exact SeqAt.EqAt.str_none a t'
    | bl b => cases rx; exact SeqAt.EqAt.str_bool a t' b
    | int b => obtain ⟨t, rfl⟩ := rx; exact SeqAt.EqAt.str_int a t' b t
    | str b => obtain ⟨t, rfl⟩ := rx; exact SeqAt.EqAt.str_str a t' b t
    | _ => exact absurd (show false = true from fx) Bool.false_ne_true
  | _ => exact absurd (show false = true from fy) Bool.false_ne_true
noncomputable def eqU (x : V) (u : Value) : Bool := match u with
  | .none => eqV .non x
  | .bool b => eqV (.bl b) x
  | .int i _ => eqV (.int i) x
  | .str z _ => eqV (.str z) x
  | _ => false
theorem eqU_of {x y : V} {u : Value} (r : RelV y u) (f : flatV y = true) : eqU x u = eqV y x := by
  cases y with
  | non => cases r; rfl
  | bl b => cases r; rfl
  | int i => obtain ⟨t, rfl⟩ := r; rfl
  | str z => obtain ⟨t, rfl⟩ := r; rfl
  | _ => exact absurd (show false = true from f) Bool.false_ne_true
theorem any_eqU {x : V} : ∀ {xs : List V} {us : List Value}, Vals xs us → xs.all flatV = true → us.any (eqU x) = xs.any fun y => eqV y x
  | _, _, .nil, _ => rfl
  | y :: xs, u :: us, .cons r t, f => by
    rw [List.all_cons, Bool.and_eq_true] at f
    rw [List.any_cons, List.any_cons, eqU_of r f.1, any_eqU t f.2]
theorem mem_eqAt {A : Around} {s : Shared} {x : V} {v : Value} (rx : RelV x v) (fx : flatV x = true) : ∀ {xs : List V} {us : List Value}, Vals xs us → xs.all flatV = true → ∀ u ∈ us, SeqAt.EqAt A s u v (eqU x u)
  | _, _, .nil, _ => fun u hu => by cases hu
  | y :: xs, u :: us, .cons r t, f => fun u' hu => by
    rw [List.all_cons, Bool.and_eq_true] at f
    rcases List.mem_cons.mp hu with rfl | hu
    · rw [eqU_of r f.1]; exact eqAt_V r rx f.1 fx
    · exact mem_eqAt rx fx t f.2 u' hu
noncomputable def inV (x : V) (xs : List V) : Bool := xs.any fun y => eqV y x
noncomputable def rIn (K : PySem.W.Frag) (neg : Bool) : R2 := fun x y H Q => ∃ p xs, y = .ref p ∧ (SqL K H p xs ∨ SqT K H p xs) ∧ flatV x = true ∧ xs.all flatV = true ∧ Q (.bl (if neg then !inV x xs else inV x xs)) H
theorem op_notIn_seq : OpR X (compareOp .NotIn) (rIn X.K true) := by
  intro pins s σ H x y v u Q I rx ry h
  obtain ⟨p, xs, rfl, hq, fx, fs, q⟩ := h
  cases ry
  rcases hq with hq | hq
  · obtain ⟨its, r, pl, hz⟩ := I.list hq
    refine SeqAt.notIn_listAt (eqU x) pl.isList (fun w hw => mem_eqAt rx fx r fs w (by simpa using hw)) ⟨.bl _, H, I, rfl, ?_⟩
    rw [show its.toArray.any (eqU x) = its.any (eqU x) by simp, any_eqU r fs]
    exact q
  · obtain ⟨its, r, pl, hz⟩ := I.tuple hq
    refine SeqAt.notIn_tupleAt (eqU x) pl (fun w hw => mem_eqAt rx fx r fs w (by simpa using hw)) ⟨.bl _, H, I, rfl, ?_⟩
    rw [show its.toArray.any (eqU x) = its.any (eqU x) by simp, any_eqU r fs]
    exact q
theorem call_len_seq : CallR X (.builtin "len") (fun xs H Q => ∃ p ys, xs = [.ref p] ∧ (SqL X.K H p ys ∨ SqT X.K H p ys) ∧ Q (.int ys.length) H) := by
  intro pins s σ H xs us Q I r h
  obtain ⟨p, ys, rfl, hq, q⟩ := h
  obtain ⟨u, rfl, rx⟩ := vals1 r
  cases rx
  have hn := line63
  rcases hq with hq | hq
  · obtain ⟨its, r', pl, hz⟩ := I.list hq
    have hlen := r'.length
    exact Calls.call_len_list pl.isList (by simp only [List.size_toArray] <;> omega) ⟨.int ys.length, H, I.tok _, ⟨s.toks + 1, by rw [List.size_toArray, hlen]⟩, q⟩
  · obtain ⟨its, r', pl, hz⟩ := I.tuple hq
    have hlen := r'.length
    exact len_tuple pl (by simp only [List.size_toArray] <;> omega) ⟨.int ys.length, H, I.tok _, ⟨s.toks + 1, by rw [List.size_toArray, hlen]⟩, q⟩
theorem call_len_str : CallR X (.builtin "len") (fun xs H Q => ∃ z, xs = [.str z] ∧ z.length ≤ sizeLine ∧ Q (.int z.length) H) := by
  intro pins s σ H xs us Q I r h
  obtain ⟨z, rfl, hz, q⟩ := h
  obtain ⟨u, rfl, t, rfl⟩ := vals1 r
  have hn := line63
  exact len_str (by omega) ⟨.int z.length, H, I.tok _, ⟨_, rfl⟩, q⟩
theorem CallR.or {f : Value} {r r' : List V → Hp → VK → Prop} (h : CallR X f r) (h' : CallR X f r') : CallR X f (fun xs H Q => r xs H Q ∨ r' xs H Q) := by
  intro pins s σ H xs us Q I rs q
  rcases q with q | q
  · exact h pins s σ H xs us Q I rs q
  · exact h' pins s σ H xs us Q I rs q
theorem call_list_of : CallR X (.type "list") (fun xs H Q => ∃ p ys, xs = [.ref p] ∧ (SqL X.K H p ys ∨ SqT X.K H p ys) ∧ ∀ l, H l = none → Q (.ref l) (upd H l (.lst ys))) := by
  intro pins s σ H xs us Q I r h
  obtain ⟨p, ys, rfl, hq, q⟩ := h
  obtain ⟨u, rfl, rx⟩ := vals1 r
  cases rx
  have fin : ∀ (its : List Value), Vals ys its → ys.length ≤ sizeLine → ∀ (h' : Heap) (c' : Nat), (∀ b o', s.heap.get? b = some o' → h'.get? b = some o') →
      h'.get? s.heap.objs.size = some { cls := .type "list", dict := none, data := .seq its.toArray c', slots := #[] } → EP X pins σ Q (.ref s.heap.objs.size) { s with heap := h' } := fun its r' hz h' c' kp e =>
    ⟨.ref s.heap.objs.size, _, I.laid (t' := s.toks) kp (Nat.le_refl _) (show ObjOk X.prog X.w _ h' _ (.lst ys) from ⟨hz, its, c', r', e⟩), rfl, q _ (I.hok.fresh (Nat.le_refl _))⟩
  rcases hq with hq | hq
  · obtain ⟨its, r', pl, hz⟩ := I.list hq
    have hlen := r'.length
    obtain ⟨o, ho, hc, n, hd⟩ := pl.isList
    exact call_list_seq p (.inl rfl) ho hc hd (fun h' c' kp e => fin its r' hz h' c' kp e) (by simp only [List.size_toArray] <;> omega)
  · obtain ⟨its, r', pl, hz⟩ := I.tuple hq
    have hlen := r'.length
    obtain ⟨o, ho, hc, n, hd⟩ := pl
    exact call_list_seq p (.inr rfl) ho hc hd (fun h' c' kp e => fin its r' hz h' c' kp e) (by simp only [List.size_toArray] <;> omega)
noncomputable def tyV (K : PySem.W.Frag) (T : String) (x : V) (H : Hp) : Prop := match x with
  | .str _ => T = "str"
  | .int _ => T = "int"
  | .ref p => (T = "list" ∧ ∃ xs, SqL K H p xs) ∨ (T = "tuple" ∧ ∃ o, K.lookup p = some o ∧ o.cls = .type "tuple" ∧ o.dict = none) ∨
      (T = "dict" ∧ ((∃ kvs, H p = some (.dK kvs)) ∨ ∃ kvs, H p = some (.dT kvs))) ∨ (T = "set" ∧ ∃ S n, H p = some (.set S n))
  | _ => False
theorem tyV_is {pins : List (Addr × Obj)} {σ : St} {H : Hp} {s : Shared} {T : String} {x : V} {v : Value} (I : Inv X pins σ H s) (r : RelV x v) (ty : tyV X.K T x H) :
    s.TypeIs v T ∧ ∀ a, v = .ref a → ∃ ob, s.heap.get? a = some ob ∧ ob.dict = none := by
  cases x with
  | str z =>
    obtain ⟨t, rfl⟩ := r
    cases (show T = "str" from ty)
    exact ⟨typeIs_str s z t, fun _ e => nomatch e⟩
  | int i =>
    obtain ⟨t, rfl⟩ := r
    cases (show T = "int" from ty)
    exact ⟨typeIs_int s i t, fun _ e => nomatch e⟩
  | ref p =>
    cases r
    rcases ty with ⟨rfl, xs, hq⟩ | ⟨rfl, o, hk, hc, hd⟩ | ⟨rfl, hk⟩ | ⟨rfl, S, n, hk⟩
    · obtain ⟨its, _, pl, _⟩ := I.list hq
      refine ⟨pl.isList.typeIs, fun a e => ?_⟩
      cases e
      obtain ⟨o, n, e, c, hd, _⟩ := pl
      exact ⟨o, e, hd⟩
    · refine ⟨⟨o, I.kIn p o hk, hc⟩, fun a e => ?_⟩
      cases e
      exact ⟨o, I.kIn _ o hk, hd⟩
    · have z : ∃ o, s.heap.get? p = some o ∧ o.ExactDict := by
        rcases hk with ⟨kvs, hk⟩ | ⟨kvs, hk⟩
        · obtain ⟨_, _, _, _, o, _, _, e, ex, _⟩ := I.hok p _ hk
          exact ⟨o, e, ex⟩
        · obtain ⟨_, _, _, _, o, _, _, e, ex, _⟩ := I.hok p _ hk
          exact ⟨o, e, ex⟩
      obtain ⟨o, e, ex⟩ := z
      refine ⟨⟨o, e, ex.1⟩, fun a e2 => ?_⟩
      cases e2
      exact ⟨o, e, ex.2.1⟩
    · obtain ⟨o, _, _, _, e, ex, _⟩ := I.hok p _ hk
      refine ⟨⟨o, e, ex.1⟩, fun a e2 => ?_⟩
      cases e2
      exact ⟨o, e, ex.2.1⟩
  | _ => exact False.elim ty
noncomputable def tBM0 (K : PySem.W.Frag) (T : String) (r : V → List V → Hp → VK → Prop) (to : TE) : TE := fun σ H Q => to σ H fun x H1 => tyV K T x H1 ∧ r x [] H1 Q
noncomputable def tBM (K : PySem.W.Frag) (T : String) (r : V → List V → Hp → VK → Prop) (to : TE) (t : TA) : TE := fun σ H Q => to σ H fun x H1 => tyV K T x H1 ∧ t σ H1 fun xs H2 => r x xs H2 Q
variable {o e : Expr} {es : List Expr} {to : TE} {t : TA} {name : Str} {apos cpos : Pos} {T id : String} {r : V → List V → Hp → VK → Prop}
theorem pe_bm0 (pa : PlainAttrs T) (slot : Slot T name id) (hty : typeOf (.builtin id) = pure (.type "method_descriptor")) (hm : MtR X id r) (ho : PE X o to)
    (hbase : autoParam (attributeBase o name X.env (eval o X.env) = eval o X.env) zau2._auto_1) (hline : autoParam ((apos.endLine == cpos.line) = true) zau2._auto_1) : PE X (.Call (.Attribute o name apos) [] [] cpos) (tBM0 X.K T r to) := by
  intro pins s σ H Q I h
  refine wpAny_Call_method0_late hbase hline (thn (ho pins s σ H _ I h) fun v s1 hzz => ?_)
  obtain ⟨x, H1, I1, r1, ty, q1⟩ := hzz
  obtain ⟨h1, h2⟩ := tyV_is I1 r1 ty
  exact ⟨T, id, pa, slot, hty, h1, h2, Calls.callWith_builtin rfl (PySem.evalArgs_none (hm pins s1 σ H1 x [] v [] Q I1 r1 .nil q1))⟩
theorem pe_bm (pa : PlainAttrs T) (slot : Slot T name id) (hty : typeOf (.builtin id) = pure (.type "method_descriptor")) (hm : MtR X id r) (ho : PE X o to) (ha : PA X (e :: es) t)
    (hbase : autoParam (attributeBase o name X.env (eval o X.env) = eval o X.env) zau2._auto_1)
    (hfew : ((backTo cpos (starEach (e :: es) X.env)).all (fun x => !x.1) && (backToKw cpos (keywordEach [] X.env)).all (fun x => x.1.isSome)
      && decide ((e :: es).length + ([] : List Keyword).length + (if ([] : List Keyword).isEmpty then 0 else 1) < 30)) = true := by rfl)
    (hline : autoParam ((apos.endLine == cpos.line) = true) zau2._auto_1) (hs : autoParam (starEach (e :: es) X.env = (false, eval e X.env) :: starEach es X.env) zau2._auto_1) (hplain : autoParam ((backTo cpos (starEach es X.env)).any (·.1) = false) zau2._auto_1) :
    PE X (.Call (.Attribute o name apos) (e :: es) [] cpos) (tBM X.K T r to t) := by
  intro pins s σ H Q I h
  refine wpAny_Call_method_late hbase hfew hline rfl (thn (ho pins s σ H _ I h) fun v s1 hzz => ?_)
  obtain ⟨x, H1, I1, r1, ty, q1⟩ := hzz
  obtain ⟨h1, h2⟩ := tyV_is I1 r1 ty
  refine ⟨T, id, pa, slot, hty, h1, h2, ?_⟩
  have hA := ha cpos pins s1 σ H1 _ I1 q1
  rw [hs] at hA ⊢
  refine Calls.callWith_builtin (by show (false || (backTo cpos (starEach es X.env)).any (·.1)) = false; rw [hplain] <;> rfl) (Calls.evalArgs_plain ?_)
  exact thn hA fun us s2 ⟨vs, H2, I2, r2, q2⟩ => hm pins s2 σ H2 x vs v us Q I2 r1 r2 q2
end
end L2
namespace L2
open PySem PySem.Spec PyProof.Rows
noncomputable def MtM (X : Cx) (id : String) (r : V → List V → Hp → VK → Prop) : Prop :=
  ∀ (pins : List (Addr × Obj)) (s : Shared) (σ : St) (H : Hp) (x : V) (xs : List V) (v : Value) (us : List Value) (Q : VK), Inv X pins σ H s → RelV x v → Vals xs us → r x xs H Q →
    wpAny (model X.prog X.w) X.A (call (.builtin id) (v :: us)) (EP X pins σ Q) X.xe s
theorem Vals.one : ∀ {x : V} {us : List Value}, Vals [x] us → ∃ u, us = [u] ∧ RelV x u
  | _, _, .cons r .nil => ⟨_, rfl, r⟩
theorem Vals.two : ∀ {x y : V} {us : List Value}, Vals [x, y] us → ∃ u v, us = [u, v] ∧ RelV x u ∧ RelV y v
  | _, _, _, .cons r (.cons q .nil) => ⟨_, _, rfl, r, q⟩
theorem Vals.zero : ∀ {us : List Value}, Vals [] us → us = []
  | _, .nil => rfl
theorem Vals.rep {xs : List V} {us : List Value} (h : Vals xs us) : ∀ k : Nat, Vals (List.replicate k xs).flatten (List.replicate k us).flatten
  | 0 => .nil
  | k + 1 => by
    rw [List.replicate_succ, List.replicate_succ, List.flatten_cons, List.flatten_cons]
    exact Vals.append h (Vals.rep h k)
theorem foldl_rep (its : List Value) : ∀ (k : Nat) (acc : List Value),
    List.foldl (fun x1 x2 => x1 ++ x2) acc.toArray (List.replicate k its.toArray) = (acc ++ (List.replicate k its).flatten).toArray
  | 0, acc => by simp
  | k + 1, acc => by
    have e : acc.toArray ++ its.toArray = (acc ++ its).toArray := by simp
    have e2 : (acc ++ its) ++ (List.replicate k its).flatten = acc ++ (List.replicate (k + 1) its).flatten := by
      rw [List.replicate_succ, List.flatten_cons, List.append_assoc]
    rw [← e2, ← foldl_rep its k (acc ++ its), ← e, List.replicate_succ, List.foldl_cons]
section
variable {X : Cx} {pins : List (Addr × Obj)} {σ : St} {H : Hp} {s : Shared} {l b : Addr} {xs ys zs : List V}
theorem Inv.lset {its its' : List Value} {n : Nat} {f : Array Value → Array Value} {t' : Nat} (I : Inv X pins σ H s) (hH : H l = some (.lst xs))
    (e : s.heap.get? l = some { cls := .type "list", data := .seq its.toArray n }) (hf : f its.toArray = its'.toArray) (hv : Vals ys its') (hz : ys.length ≤ sizeLine) :
    Inv X pins σ (upd H l (.lst ys)) { s with heap := s.heap.update l (Obj.mapSeq f), toks := t' } := by
  have q := PySem.IsL.update e f
  rw [hf] at q
  refine I.write (x := l) (e := l) (by rw [hH]; exact trivial) (.inl rfl) (fun b' u hb hu => (Heap.get?_update_other s.heap (Obj.mapSeq f) (Ne.symm hb)).trans hu) ⟨_, q⟩ ?_
  exact ⟨hz, its', _, hv, q⟩
theorem Inv.lnew {its : List Value} {t' : Nat} (I : Inv X pins σ H s) (hv : Vals ys its) (hz : ys.length ≤ sizeLine) :
    Inv X pins σ (upd H s.heap.objs.size (.lst ys)) { s with heap := s.heap.push { cls := .type "list", data := .seq its.toArray }, toks := t' } :=
  I.laid (fun _ _ q => Heap.get?_push_of_some _ q) (Nat.le_refl _) ⟨hz, its, 0, hv, Heap.get?_push_size _ rfl⟩
theorem Inv.fresh (I : Inv X pins σ H s) : H s.heap.objs.size = none := I.hok.fresh (Nat.le_refl _)
theorem Inv.lstM (I : Inv X pins σ H s) (hH : H l = some (.lst xs)) : xs.length ≤ sizeLine ∧ ∃ (its : List Value) (n : Nat), Vals xs its ∧ xs.length = its.length ∧ s.heap.get? l = some { cls := .type "list", data := .seq its.toArray n } := by
  obtain ⟨z, its, n, r, e⟩ := I.hok l _ hH
  exact ⟨z, its, n, r, r.length, e⟩
end
section
variable {X : Cx}
noncomputable def rAppend : V → List V → Hp → VK → Prop := fun x vs H Q => ∃ l xs y, x = .ref l ∧ vs = [y] ∧ H l = some (.lst xs) ∧ xs.length < sizeLine ∧ Q .non (upd H l (.lst (xs ++ [y])))
theorem mt_append : MtM X "list.append" rAppend := by
  intro pins s σ H x vs v us Q I rx rv h
  obtain ⟨l, xs, y, rfl, rfl, hH, hz, q⟩ := h
  cases rx
  obtain ⟨u, rfl, ru⟩ := rv.one
  obtain ⟨z, its, n, r, hl, e⟩ := I.lstM hH
  refine call_meets F.slot_list_append ⟨_, e, rfl⟩ F.entry_list_append (F.args_list_append_2 _ _) (PySem.list_append l its.toArray n u (by rw [List.size_toArray]; omega)) ⟨e, ?_⟩
  refine ⟨.non, _, I.lset (its' := its ++ [u]) hH e (by simp) (r.append (.cons ru .nil)) ?_, rfl, q⟩
  rw [List.length_append, List.length_singleton]
  omega
noncomputable def rClear : V → List V → Hp → VK → Prop := fun x vs H Q => ∃ l xs, x = .ref l ∧ vs = [] ∧ H l = some (.lst xs) ∧ Q .non (upd H l (.lst []))
theorem mt_clear : MtM X "list.clear" rClear := by
  intro pins s σ H x vs v us Q I rx rv h
  obtain ⟨l, xs, rfl, rfl, hH, q⟩ := h
  cases rx
  have hus := rv.zero
  subst hus
  obtain ⟨z, its, n, r, hl, e⟩ := I.lstM hH
  refine call_meets F.slot_list_clear ⟨_, e, rfl⟩ F.entry_list_clear (F.args_list_clear_1 _) (AutoSeq1.list_clear_list_0 l its.toArray n (by rw [List.size_toArray]; omega)) ⟨e, ?_⟩
  exact ⟨.non, _, I.lset (its' := []) (ys := []) hH e rfl .nil (Nat.zero_le _), rfl, q⟩
theorem len_rep {α : Type} (xs : List α) (k : Nat) : (List.replicate k xs).flatten.length = k * xs.length := by
  induction k with
  | zero => simp
  | succ k ih => rw [List.replicate_succ, List.flatten_cons, List.length_append, ih, Nat.succ_mul, Nat.add_comm]
end
section
variable {prog : Program} {w : World} {A : Around} {E : Value → Shared → Prop} {s : Shared}
end
section
variable {X : Cx}
end
end L2
namespace Att
open PySem PySem.W PySem.Calls PyProof.Rows
theorem ints_of_wellAll {P : Params} {h : Heap} : ∀ (ns : List Int) (vs : List Value), WellAll P h vs (ns.map WData.int) → IntsAre vs ns := by
  intro ns
  induction ns with
  | nil =>
    intro vs w
    rw [List.map_nil] at w
    cases w
    exact .nil
  | cons n ns ih =>
    intro vs w
    rw [List.map_cons] at w
    cases w with
    | cons a b =>
      cases a
      exact .cons _ _ (ih _ b)
theorem script_of {l : OpenLaw} {n : Nat} (hn : l.most = some n) {P : Params} {h : Heap} {args : List WData} {vals : List Value}
    (hpre : l.row.toRowW.claim.pre args = true) (hwl : WellAll P h vals args) :
    ∃ a vs ns, vals = [Value.ref a] ∧ args = [WData.list (ns.map WData.int)] ∧ h.get? a = some { cls := .type "list", data := .seq vs.toArray } ∧ IntsAre vs ns ∧ ns.length ≤ n := by
  have hsh : WShape.hasAll [] args [.list .int] = true := (pre_splitW hpre).1
  have hc : l.pre.holds [] { args := args } = true := (pre_splitW hpre).2
  obtain ⟨d, r, rfl, h1, h2⟩ := hasAllW_cons hsh
  obtain rfl := hasAllW_nil h2
  obtain ⟨xs, rfl, h3⟩ := hasW_list h1
  obtain ⟨ns, rfl⟩ := items_int h3
  have hlen : ns.length ≤ n := by
    unfold OpenLaw.pre at hc
    have h4 : (WTm.not (.lt (.lit (.int (n : Int))) (.len (.arg 0)))).holds [] { args := [.list (ns.map .int)] } = true := by
      have h4 := (holds_andW hc).1
      rw [hn] at h4
      exact h4
    have h5 := condW_of h4 (w_not (w_lt w_lit (w_len_list (w_arg rfl))))
    rw [List.length_map] at h5
    refine Nat.le_of_not_lt fun q => ?_
    have q' : (n : Int) < ((ns.length : Nat) : Int) := by omega
    first
      | (rw [decide_eq_true q'] at h5; exact absurd h5 (by decide))
      | (simp at h5; omega)
  cases hwl with
  | cons w1 w2 =>
    cases w2
    cases w1 with
    | list ho hall => exact ⟨_, _, ns, rfl, rfl, ho, ints_of_wellAll ns _ hall, hlen⟩
theorem post_true (l : OpenLaw) (args : List WData) : l.row.toRowW.claim.post args (.bool true) args = true :=
  postW_of (r := l.row.toRowW) (X := (true == true))
    (show WShape.has [] (.bool true) .bool = true by first | rfl | decide | simp [WShape.has, WShape.arms, WShape.armsAll])
    (show (WTm.eq .res (.lit (.bool true))).value [] { args := args, res := some (.bool true), after := args } = some (.bool (true == true)) from w_eq_bool (w_res rfl) w_lit) rfl
theorem attach_call {l : OpenLaw} {n : Nat} {q : Program} {loose : List Str} {XP : (Str → Option Value) → Heap → Prop} {YP : World → Heap → Prop} {d : DefRec}
    (hn : l.most = some n) (hdf : d.params.defaults = [])
    (call : ∀ (w : World) (s₀ s₁ : Shared) (mg mb : Str → Option Value) (fa : Addr) (o : Obj) (pm cd doc : Value) (a : Addr) (vs : List Value) (ns : List Int),
      Ground q loose [] XP w s₀ mg mb s₁.heap → YP w s₁.heap →
      s₁.heap.get? fa = some o → o.data = .func (docDef d.name d.params d.body d.scope pm cd doc) → s₁.heap.CodeRec cd d.name → mg d.name = some (.ref fa) →
      s₁.heap.get? a = some { cls := .type "list", data := .seq vs.toArray } → IntsAre vs ns → ns.length ≤ n → s₁.gens = #[] →
      codeAny (model l.prog w) callerA (.call (.ref fa) ⟨[.ref a], []⟩) (fun r s' => r = .ok (.ret (.bool true)) ∧ OldK s₁.heap s'.heap ∧ s'.os = s₁.os ∧ AllBare s'.gens) s₁) :
    WalkO q loose XP YP l.row.toRowW d [] (fun f vs => PySem.call f vs) := by
  intro w s₀ s₁ mg mb G Y fa o pm cd doc dV kV ho hd hcd hD hmg hg args vals as hpre hlay hrd hwl hlo
  obtain rfl : dV = .none := Dflts.none hD hdf
  obtain rfl : kV = .none := Dflts.noKw hD
  obtain ⟨a, vs, ns, rfl, rfl, hobj, hints, hlen⟩ := script_of hn hpre hwl
  refine enter_call (codeAny_mono (call w s₀ s₁ mg mb fa o pm cd doc a vs ns G Y ho (fd_plain hd) hcd hmg hobj hints hlen hg) fun r s' hq => ?_)
  obtain ⟨rfl, h2, h3, h4⟩ := hq
  exact ⟨.inl ⟨.bool true, .bool true, [], rfl, fun _ => rfl, .bool true, post_true l _, fun _ => ⟨List.Pairwise.nil, fun _ hm => (nomatch hm)⟩⟩, h2, h3, h4⟩
section
variable {prog : Program} {w : World} {A : Around} {E : Value → Shared → Prop} {s : Shared} {K : Frag}
noncomputable def noObjs (h : Heap) : Heap := { h with objs := #[] }
theorem noObjs_get (h : Heap) (b : Addr) : (noObjs h).get? b = none := by
  cases e : (noObjs h).get? b with
  | none => rfl
  | some o => exact absurd (Heap.lt_size e) (Nat.not_lt_zero _)
noncomputable def ledger (h : Heap) (L d : Addr) : List (Addr × Obj) := (List.range h.objs.size).filterMap fun a => if a = L ∨ a = d then none else (h.get? a).map fun o => (a, o)
theorem mem_ledger {h : Heap} {L d a : Addr} {o : Obj} : (a, o) ∈ ledger h L d ↔ a ≠ L ∧ a ≠ d ∧ h.get? a = some o := by
  unfold ledger
  rw [List.mem_filterMap]
  constructor
  · rintro ⟨b, _, e⟩
    split at e
    · cases e
    · rename_i hb
      obtain ⟨o', ho, e'⟩ := Option.map_eq_some_iff.mp e
      cases e'
      exact ⟨fun q => hb (.inl q), fun q => hb (.inr q), ho⟩
  · rintro ⟨n1, n2, ho⟩
    refine ⟨a, List.mem_range.mpr (Heap.lt_size ho), ?_⟩
    rw [if_neg (show ¬ (a = L ∨ a = d) from fun q => q.elim n1 n2), ho] <;> rfl
end
end Att
namespace L2
open PySem PySem.Spec PyProof.Rows
theorem vals_ints : ∀ {vs : List Value} {ns : List Int}, IntsAre vs ns → Vals (ns.map V.int) vs
  | _, _, .nil => .nil
  | _, _, .cons n t h => .cons ⟨t, rfl⟩ (vals_ints h)
end L2
namespace L2
open PySem PySem.Spec PyProof.Rows
end L2
namespace L2
open PySem PySem.Spec PyProof.Rows
noncomputable def defArgs (s : Stmt) : Arguments := match s with
  | .FunctionDef _ a _ _ _ _ _ _ _ _ => a
  | _ => { posonlyargs := [], args := [], vararg := none, kwonlyargs := [], kw_defaults := [], kwarg := none, defaults := [] }
noncomputable def defBody (s : Stmt) : List Stmt := match s with
  | .FunctionDef _ _ b _ _ _ _ _ _ _ => b
  | _ => []
noncomputable def defScope (s : Stmt) : Scope := match s with
  | .FunctionDef _ _ _ _ _ _ sc _ _ _ => sc
  | _ => { kind := .function, names := [], isGenerator := false, isCoroutine := false }
noncomputable abbrev CX0 : CXT := fun _ _ _ _ _ _ => False
noncomputable abbrev E0 : XK := fun _ _ _ => False
structure Fun (K : PySem.W.Frag) (x qual : Str) (st : Stmt) (f : Addr) (fd : FuncData) : Prop where
  ex : ∃ (oc : Value) (od : Option Addr) (kV doc pm : Value) (an : Option Addr) (cdv ct : Value) (osl : Array (Option Value)),
    fd = PySem.W.fnOf x qual (defArgs st) (defBody st) (defScope st) .none kV doc pm an cdv ct ∧ K.lookup f = some ⟨oc, od, .func fd, osl⟩ ∧ PySem.W.codeIn K cdv qual = true
  kp : PySem.W.keepIn K (.ref f) = true
section
variable {P : Program} {w : World} {K : PySem.W.Frag} {mg : Str → Option Value} {base : Heap}
theorem Fun.ok {x qual : Str} {st : Stmt} {f : Addr} {fd : FuncData} {N ps : List Str} {k : Nat} {sp : Sp} (F : Fun K x qual st f fd) (S : FnScope N ps (defScope st)) (len : ∀ vs H Q E, sp vs H Q E → vs.length = ps.length)
    (hbody : ∀ (cdv : Value) (A : Around) (outer : List Env) (s : Shared) (H : Hp) (vs : List V) (Q : VK) (E : XK), Room k (A.deeper (envOfC qual (defScope st) s.heap.objs.size f cdv)) → sp vs H Q E →
      ∃ t, PSs (cxOf CX0 P w K mg base N qual (defScope st) f cdv A outer s H E).nox (defBody st) t ∧ t { nx := fun _ H' => Q .non H', rt := Q } (start N vs) H) : FnOk P w K mg base CX0 (k + 1) f fd ps sp := by
  obtain ⟨oc, od, kV, doc, pm, an, cdv, ct, osl, rfl, lk, hcd⟩ := F.ex
  refine fn_of lk hcd S len fun A outer s H vs Q E hr hsp => ?_
  obtain ⟨t, h, q⟩ := hbody cdv A outer s H vs Q E hr hsp
  exact ⟨t, h.nox, q⟩
theorem Fun.binds {x qual : Str} {st : Stmt} {f : Addr} {fd : FuncData} {ps : List Str} (F : Fun K x qual st f fd)
    (h : ∀ (kV doc pm : Value) (an : Option Addr) (cdv ct : Value) (us : List Value), us.length = ps.length → bindArgs (PySem.W.fnOf x qual (defArgs st) (defBody st) (defScope st) .none kV doc pm an cdv ct) ⟨us, []⟩ = pure (ps.zip us)) : Binds K fd ps [] := by
  obtain ⟨oc, od, kV, doc, pm, an, cdv, ct, osl, rfl, lk, hcd⟩ := F.ex
  exact .all (h kV doc pm an cdv ct)
theorem fun_mk {x qual : Str} {st : Stmt} {f : Addr} {oc : Value} {od an : Option Addr} {osl : Array (Option Value)} {kV doc pm cdv ct : Value} (l : K.lookup f = some ⟨oc, od, .func (PySem.W.fnOf x qual (defArgs st) (defBody st) (defScope st) .none kV doc pm an cdv ct), osl⟩)
    (c : PySem.W.codeIn K cdv qual = true) (k : PySem.W.keepIn K (.ref f) = true) : Fun K x qual st f (PySem.W.fnOf x qual (defArgs st) (defBody st) (defScope st) .none kV doc pm an cdv ct) := ⟨⟨oc, od, kV, doc, pm, an, cdv, ct, osl, rfl, l, c⟩, k⟩
end
section
variable {X : Cx}
end
theorem iteF {A B : Prop} (h : B) : if false = true then A else B := by
  rw [if_neg Bool.false_ne_true]
  exact h
theorem iteT {A B : Prop} (h : A) : if true = true then A else B := by
  rw [if_pos rfl]
  exact h
noncomputable def Same (H H' : Hp) : Prop := ∀ b o, H b = some o → H' b = some o
theorem Same.refl (H : Hp) : Same H H := fun _ _ h => h
theorem Same.trans {H H1 H2 : Hp} (a : Same H H1) (b : Same H1 H2) : Same H H2 := fun c o h => b c o (a c o h)
end L2
set_option maxHeartbeats 4000000
namespace L2
open PySem PySem.Spec PyProof.Rows
theorem ffk : (NameKind.free == NameKind.free) = true := by decide
noncomputable def clOf (cells : List (Str × Addr)) : List (Str × NameKind) → List (Str × Addr) → List (Str × Addr)
  | [], acc => acc
  | (n, k) :: r, acc => clOf cells r (if k == .free then (n, (cells.lookup n).getD 0) :: acc else acc)
theorem clo_eq {env : Env} : ∀ (ns : List (Str × NameKind)) (acc : List (Str × Addr)), (∀ p ∈ ns, p.2 = .free → ∃ c, env.cells.lookup p.1 = some c) →
    (forIn ns acc fun p cs => (if p.2 == NameKind.free then (do let a ← cellOf env p.1; pure (ForInStep.yield ((p.1, a) :: cs))) else pure (ForInStep.yield cs) : Sem (ForInStep (List (Str × Addr))))) = pure (clOf env.cells ns acc)
  | [], acc, _ => by rw [List.forIn_nil]; rfl
  | (n, k) :: r, acc, h => by
    rw [List.forIn_cons]
    by_cases hk : k = .free
    · subst hk
      obtain ⟨c, hc⟩ := h (n, .free) List.mem_cons_self rfl
      have e1 : cellOf env n = pure c := by unfold cellOf; rw [hc]
      show (do let a ← cellOf env n; pure (ForInStep.yield ((n, a) :: acc)) : Sem _) >>= _ = _
      rw [e1]
      show (forIn r ((n, c) :: acc) _ : Sem _) = _
      rw [clo_eq r _ fun p hp => h p (List.mem_cons_of_mem _ hp)]
      show _ = pure (clOf env.cells r (if NameKind.free == NameKind.free then _ else _))
      have hc' : env.cells.lookup n = some c := hc
      rw [if_pos ffk, hc']
      rfl
    · have e2 : (k == NameKind.free) = false := by simpa using hk
      show (if (k == NameKind.free) = true then _ else _ : Sem _) >>= _ = _
      rw [if_neg (by rw [e2]; decide)]
      show (forIn r acc _ : Sem _) = _
      rw [clo_eq r _ fun p hp => h p (List.mem_cons_of_mem _ hp)]
      show _ = pure (clOf env.cells r (if (k == NameKind.free) = true then _ else _))
      rw [if_neg (by rw [e2]; decide)]
theorem closure_eq {scope : Scope} {env : Env} (h : ∀ p ∈ scope.names, p.2 = .free → ∃ c, env.cells.lookup p.1 = some c) : closureFor scope env = pure (clOf env.cells scope.names []) := by
  unfold closureFor
  have e := clo_eq (env := env) scope.names [] h
  show (forIn scope.names ([] : List (Str × Addr)) _ >>= fun r => pure r : Sem _) = _
  have e' : (forIn scope.names ([] : List (Str × Addr)) fun (p : Str × NameKind) (cs : List (Str × Addr)) => (if p.2 == NameKind.free then (do let a ← cellOf env p.1; pure (ForInStep.yield ((p.1, a) :: cs))) else pure (ForInStep.yield cs) : Sem (ForInStep (List (Str × Addr))))) >>= (fun r => (pure r : Sem _)) = pure (clOf env.cells scope.names []) := by rw [e]; rfl
  exact e'
theorem clOf_mem {cells : List (Str × Addr)} {x : Str} {c : Addr} : ∀ (ns : List (Str × NameKind)) (acc : List (Str × Addr)), (clOf cells ns acc).lookup x = some c → acc.lookup x = some c ∨ ((x, NameKind.free) ∈ ns ∧ c = (cells.lookup x).getD 0)
  | [], acc, h => .inl h
  | (n, k) :: r, acc, h => by
    rcases clOf_mem r _ h with e | ⟨e1, e2⟩
    · by_cases hk : k = .free
      · subst hk
        rw [if_pos ffk, List.lookup_cons] at e
        cases hx : x == n with
        | true =>
          rw [hx] at e
          have : x = n := by simpa using hx
          subst this
          exact .inr ⟨List.mem_cons_self, (Option.some.inj e).symm⟩
        | false => rw [hx] at e; exact .inl e
      · rw [if_neg (by simpa using hk)] at e
        exact .inl e
    · exact .inr ⟨List.mem_cons_of_mem _ e1, e2⟩
theorem clOf_acc {cells : List (Str × Addr)} {x : Str} : ∀ (ns : List (Str × NameKind)) (acc : List (Str × Addr)), acc.lookup x = some ((cells.lookup x).getD 0) → (clOf cells ns acc).lookup x = some ((cells.lookup x).getD 0)
  | [], acc, h => h
  | (n, k) :: r, acc, h => by
    refine clOf_acc r _ ?_
    by_cases hk : k = .free
    · subst hk
      rw [if_pos ffk, List.lookup_cons]
      cases hx : x == n with
      | true =>
        have : x = n := by simpa using hx
        subst this
        rfl
      | false => exact h
    · rw [if_neg (by simpa using hk)]; exact h
theorem clOf_has {cells : List (Str × Addr)} {x : Str} : ∀ (ns : List (Str × NameKind)) (acc : List (Str × Addr)), (x, NameKind.free) ∈ ns → (clOf cells ns acc).lookup x = some ((cells.lookup x).getD 0)
  | [], acc, h => by cases h
  | (n, k) :: r, acc, h => by
    rcases List.mem_cons.mp h with e | e
    · cases e
      refine clOf_acc r _ ?_
      rw [if_pos ffk, List.lookup_cons]
      simp
    · exact clOf_has r _ e
noncomputable def compCx (X : Cx) (scope : Scope) (N : List Str) (C : Addr) (s0 : Shared) (H0 : Hp) (ex : List Addr) : Cx where
  prog := X.prog
  w := X.w
  K := X.K
  mg := X.mg
  base := X.base
  A := X.A
  N := N
  s₀ := s0
  H₀ := H0
  env := compEnvC scope (clOf X.env.cells scope.names []) C X.env
  outer := X.stack
  stack := X.stack
  ex := ex
  fn := fun _ => false
  calm := X.calm
  pn := []
  xe := fun _ _ => False
noncomputable def capsOk (N : List Str) (out : List (Str × NameKind)) (inn : List (Str × NameKind)) (caps : List (Str × Nat)) : Bool :=
  inn.all (fun p => p.2 != .cell) && inn.all (fun p => p.2 != .local || inn.lookup p.1 == some .local) &&
  inn.all (fun p => p.2 != .free || (out.lookup p.1 == some .cell || out.lookup p.1 == some .free)) &&
  caps.all (fun p => N[p.2]? == some p.1 && inn.lookup p.1 == some .free)
structure CapsOk (X : Cx) (scope : Scope) (caps : List (Str × Nat)) : Prop where
  kind : scope.kind = .function
  nocell : ∀ x ∈ scope.names, x.2 ≠ .cell
  loc : ∀ x ∈ scope.names, x.2 = .local → scope.names.lookup x.1 = some .local
  fre : ∀ p ∈ scope.names, p.2 = .free → X.env.kindOf p.1 = some .cell ∨ X.env.kindOf p.1 = some .free
  cap : ∀ p ∈ caps, X.N[p.2]? = some p.1 ∧ scope.names.lookup p.1 = some .free
theorem caps_of {X : Cx} {scope osc : Scope} {N : List Str} {caps : List (Str × Nat)} (hN : X.N = N) (ho : X.env.scope = osc) (hk : scope.kind = .function) (h : capsOk N osc.names scope.names caps = true) : CapsOk X scope caps := by
  unfold capsOk at h
  simp only [Bool.and_eq_true, List.all_eq_true] at h
  obtain ⟨⟨⟨h1, h2⟩, h3⟩, h4⟩ := h
  refine ⟨hk, fun x hx => by simpa using h1 x hx, fun x hx hl => ?_, fun p hp hf => ?_, fun p hp => ?_⟩
  · have := h2 x hx
    rw [hl] at this
    simpa using this
  · have := h3 p hp
    rw [hf] at this
    show X.env.scope.names.lookup p.1 = _ ∨ X.env.scope.names.lookup p.1 = _
    rw [ho]
    simpa using this
  · have := h4 p hp
    rw [hN]
    simpa using this
noncomputable def innerSt (own : Nat) (caps : List (Str × Nat)) (σ : St) : St := List.replicate own none ++ caps.map fun p => (σ[p.2]?).join
noncomputable def tComp (own : Nat) (caps : List (Str × Nat)) (wi : TI) (g : TG) (tc : TT) (te : TE) : TE := fun σ H Q => wi σ H fun J H1 => ∀ D, H1 D = none →
  ∃ W : Nat → Nat → St → Hp → Prop, (∃ m, W 0 m (innerSt own caps σ) (upd H1 D (.lst []))) ∧ ∀ i m σ' H', W i m σ' H' →
    (J.stop i H' ∧ Q (.ref D) H') ∨ (J.go i H' ∧ ∃ N : St → Hp → Prop, (∀ σ2 H2, N σ2 H2 → ∃ m', m' < m ∧ W (i + 1) m' σ2 H2) ∧
      ∀ x H2, J.yld i H' x H2 → g x σ' H2 fun σ3 H3 => tc σ3 H3 fun b H4 => if b = true then te σ3 H4 fun v H5 => ∃ ys, H5 D = some (.lst ys) ∧ ys.length < sizeLine ∧ N σ3 (upd H5 D (.lst (ys ++ [v]))) else N σ3 H4)
theorem relabel_kind {scope : Scope} {env : Env} {x : Str} {k : NameKind} : ∀ {ns : List (Str × NameKind)}, (ns.map fun (n, k) => if (k == NameKind.free && env.scope.kind == .function && env.kindOf n == some .cell) then (n, NameKind.cell) else (n, k)).lookup x = some k →
    ∃ k', ns.lookup x = some k' ∧ (k = k' ∨ (k' = .free ∧ k = .cell))
  | [], h => by simp at h
  | (n, k0) :: r, h => by
    rw [List.map_cons] at h
    by_cases hc : (k0 == NameKind.free && env.scope.kind == .function && env.kindOf n == some .cell) = true
    · simp only [if_pos hc, List.lookup_cons] at h
      cases hx : x == n with
      | true =>
        rw [hx] at h
        refine ⟨k0, by simp [List.lookup_cons, hx], .inr ⟨?_, (Option.some.inj h).symm⟩⟩
        simp only [Bool.and_eq_true] at hc
        simpa using hc.1.1
      | false =>
        rw [hx] at h
        obtain ⟨k', e, q⟩ := relabel_kind (scope := scope) h
        exact ⟨k', by simp only [List.lookup_cons, hx]; exact e, q⟩
    · simp only [if_neg hc, List.lookup_cons] at h
      cases hx : x == n with
      | true =>
        rw [hx] at h
        exact ⟨k0, by simp [List.lookup_cons, hx], .inl (Option.some.inj h).symm⟩
      | false =>
        rw [hx] at h
        obtain ⟨k', e, q⟩ := relabel_kind (scope := scope) h
        exact ⟨k', by simp only [List.lookup_cons, hx]; exact e, q⟩
theorem relabel_free {env : Env} {x : Str} : ∀ {ns : List (Str × NameKind)}, ns.lookup x = some .free →
    (ns.map fun (n, k) => if (k == NameKind.free && env.scope.kind == .function && env.kindOf n == some .cell) then (n, NameKind.cell) else (n, k)).lookup x = some .cell ∨
    (ns.map fun (n, k) => if (k == NameKind.free && env.scope.kind == .function && env.kindOf n == some .cell) then (n, NameKind.cell) else (n, k)).lookup x = some .free
  | [], h => by simp at h
  | (n, k0) :: r, h => by
    rw [List.map_cons]
    simp only [List.lookup_cons] at h
    by_cases hc : (k0 == NameKind.free && env.scope.kind == .function && env.kindOf n == some .cell) = true
    · simp only [if_pos hc, List.lookup_cons]
      cases hx : x == n with
      | true => exact .inl rfl
      | false => rw [hx] at h; exact relabel_free h
    · simp only [if_neg hc, List.lookup_cons]
      cases hx : x == n with
      | true => rw [hx] at h; exact .inr h
      | false => rw [hx] at h; exact relabel_free h
theorem inner_get {own : Nat} {caps : List (Str × Nat)} {σ : St} {i : Nat} {v : V} (h : (innerSt own caps σ)[i]? = some (some v)) : ∃ p, caps[i - own]? = some p ∧ own ≤ i ∧ σ[p.2]? = some (some v) := by
  unfold innerSt at h
  by_cases hi : i < own
  · rw [List.getElem?_append_left (by simpa using hi), List.getElem?_replicate, if_pos hi] at h
    cases h
  · rw [List.getElem?_append_right (by simpa using hi), List.length_replicate, List.getElem?_map] at h
    cases e : caps[i - own]? with
    | none => rw [e] at h; cases h
    | some p =>
      rw [e] at h
      refine ⟨p, rfl, by omega, ?_⟩
      have h' : (σ[p.2]?).join = some v := Option.some.inj h
      cases q : σ[p.2]? with
      | none => rw [q] at h'; cases h'
      | some o => rw [q] at h'; exact congrArg some h'
section
variable {X : Cx} {pins : List (Addr × Obj)} {σ : St} {H : Hp} {s : Shared}
theorem inv_comp {scope : Scope} {own : List Str} {caps : List (Str × Nat)} {h' : Heap} {t' : Nat} {fp : List Addr} (I : Inv X pins σ H s) (ck : CapsOk X scope caps)
    (hf : ∀ b ∈ fp, FpOk X pins H b) (hb : ∀ b ∈ fp, b < s.heap.objs.size) (ns : h'.Ns s.heap.objs.size fun x => ([] : List (Str × Value)).reverse.lookup x)
    (sb : Heap.SameBut s.heap.objs.size (s.heap.push { cls := .type "dict", data := .dict #[] }) h') :
    Inv (compCx X scope (own ++ caps.map (·.1)) s.heap.objs.size s H fp) [] (innerSt own.length caps σ) H { s with heap := h', toks := t' } := by
  have up : ∀ b o, s.heap.get? b = some o → h'.get? b = some o := fun b o e => sb.extBut b o (Nat.ne_of_lt (Heap.lt_size e)) (Heap.get?_push_of_some _ e)
  have stk : ∀ b ∈ fp, b ∉ frs X.stack := fun b hb' z => by
    obtain ⟨_, f1, f2, _⟩ := hf b hb'
    rcases List.mem_cons.mp (I.stkSub b z) with q | q
    · exact f1 q
    · exact f2 q
  have clc : ∀ x c, (clOf X.env.cells scope.names []).lookup x = some c → X.env.cells.lookup x = some c := fun x c h => by
    rcases clOf_mem _ _ h with e | ⟨e1, e2⟩
    · cases e
    · obtain ⟨c', hc'⟩ := I.ok.has x (ck.fre _ e1 rfl)
      rw [hc'] at e2 ⊢
      exact congrArg some e2.symm
  have cell : ∀ x c, (clOf X.env.cells scope.names []).lookup x = some c → ∃ v, s.heap.IsCell c v := fun x c h => I.cell x c (clc x c h)
  have okk : (compCx X scope (own ++ caps.map (·.1)) s.heap.objs.size s H fp).Ok := by
    refine ⟨I.ok.mod, ck.kind, I.ok.glob, I.ok.blt, Nat.le_refl _, fun x y c h1 h2 => I.ok.inj x y c (clc x c h1) (clc y c h2), fun x hx => ?_, fun x c hfn => ?_, I.ok.hd, I.ok.frames, .inl rfl, fun b z => ⟨?_, fun x c h => ?_⟩, I.bs,
      Nat.le_trans I.ok.bsz I.sz, fun b o e z => ?_, stk, I.stack, I.stkFree⟩
    · have hx' : ∃ k, (scope.names.map fun (n, k) => if (k == NameKind.free && X.env.scope.kind == .function && X.env.kindOf n == some .cell) then (n, NameKind.cell) else (n, k)).lookup x = some k ∧ (k = .cell ∨ k = .free) := by
        rcases hx with q | q
        · exact ⟨_, q, .inl rfl⟩
        · exact ⟨_, q, .inr rfl⟩
      obtain ⟨k, q, hk⟩ := hx'
      obtain ⟨k', e, r⟩ := relabel_kind (scope := scope) q
      have m := PySem.mem_of_lookup e
      have hfree : k' = .free := by
        rcases r with r | r
        · rcases hk with hk | hk
          · exact absurd (r.symm.trans hk) (ck.nocell _ m)
          · exact r.symm.trans hk
        · exact r.1
      subst hfree
      exact ⟨_, clOf_has _ _ m⟩
    · cases hfn
    · exact Nat.ne_of_lt (hb b z)
    · exact (hf b z).2.2.2.2.1 x c (clc x c h)
    · rcases (hf b z).2.2.2.1 with q | q
      · exact I.ok.noex b o e q
      · exact absurd (Nat.lt_of_lt_of_le (Heap.lt_size e) (Nat.le_trans I.ok.bsz q)) (Nat.lt_irrefl _)
  refine ⟨okk, rfl, I.bare, Un.kept up, ⟨_, ns, fun i x v h1 h2 h3 => ?_⟩, fun x c h => ?_, I.hok.fresh (Nat.le_refl _), fun x c h => I.freeC x c (clc x c h), fun p hp => absurd (show p ∈ ([] : List (Addr × Obj)) from hp) (by simp), I.hok.kept up, ?_⟩
  · obtain ⟨p, hp, hi, hv⟩ := inner_get h2
    have hx : p.1 = x := by
      have h1' : (own ++ caps.map (·.1))[i]? = some x := h1
      rw [List.getElem?_append_right hi, List.getElem?_map, hp] at h1'
      exact Option.some.inj h1'
    subst hx
    obtain ⟨cN, cf⟩ := ck.cap p (List.mem_of_getElem? hp)
    have mem := PySem.mem_of_lookup cf
    obtain ⟨m, hn, hl⟩ := I.loc
    have kf := ck.fre _ mem rfl
    obtain ⟨u, r, l⟩ := hl p.2 p.1 v cN hv (by rcases kf with q | q; exact .inr (.inl q); exact .inr (.inr q))
    refine ⟨u, r, .inr ?_⟩
    rcases l with ⟨k, _⟩ | ⟨k, c, e, z⟩
    · rcases kf with q | q <;> (rw [q] at k; cases k)
    · refine ⟨relabel_free cf, c, ?_, z.keeps up⟩
      show (clOf X.env.cells scope.names []).lookup p.1 = some c
      rw [clOf_has _ _ mem, e]
      rfl
  · obtain ⟨v, z⟩ := cell x c h
    exact ⟨v, z.keeps up⟩
  · show (innerSt own.length caps σ).length = (own ++ caps.map (·.1)).length
    simp [innerSt]
end
end L2
namespace L2
open PySem PySem.Spec PyProof.Rows
noncomputable abbrev NoX : Value → Shared → Prop := fun _ _ => False
theorem noX_mono {α : Type} {M : Model} {A : Around} {t : Sem α} {Q : α → Shared → Prop} {E : Value → Shared → Prop} {s : Shared} (h : wpAny M A t Q NoX s) : wpAny M A t Q E s := wpAny_mono h (fun _ _ q => q) fun _ _ q => q.elim
noncomputable abbrev testsOf (ifs : List Expr) (env : Env) : Sem Bool := forIn ifs true fun c r => if r = true then do let ok ← isTrue c env (eval c env); pure (ForInStep.yield ok) else pure (ForInStep.yield r)
section
variable {prog : Program} {w : World} {A : Around} {R : Result → Shared → Prop} {s : Shared}
theorem compLoop_any {elt target iter : Expr} {ifs : List Expr} {scope : Scope} {pos : Pos} {it acc : Value} {env : Env} (J : Nat → Shared → Prop)
    (turn : ∀ n s, J n s → wpAny (model prog w) A (pyNext it) (fun r s1 => match r with
      | none => R (.ok .next) s1
      | some v => wpAny (model prog w) A (letOwnedTupleGo target it v) (fun _ s2 => wpAny (model prog w) A (assign target env v) (fun _ s3 => wpAny (model prog w) A (testsOf ifs env) (fun ok s4 =>
          if ok = true then wpAny (model prog w) A (eval elt env) (fun x s5 => wpAny (model prog w) A (call (.builtin "list.append") [acc, x]) (fun _ s6 => ∃ m, m < n ∧ J m s6) NoX s5) NoX s4
          else ∃ m, m < n ∧ J m s4) NoX s3) NoX s2) NoX s1) NoX s)
    (n : Nat) (h : J n s) : codeAny (model prog w) A (.compLoop (.ListComp elt [⟨target, iter, ifs, 0⟩] scope pos) 0 it acc env) R s := by
  refine codeAny_loop rfl J (fun n s hJ => ?_) n h
  show wpAny _ A ((compTurn (.ListComp elt [⟨target, iter, ifs, 0⟩] scope pos) 0 it acc env).onRaise (fun x => do noteFrame x env; theTreesLotGoes x)) _ _ s
  refine wpAny_noted (noX_mono ?_)
  rw [compTurn_list]
  refine wpAny_bind (wpAny_standAt (wpAny_bind (thn (turn n s hJ) fun r s1 h1 => ?_)))
  cases r with
  | none => exact wpAny_pure h1
  | some v =>
    refine wpAny_bind (thn h1 fun _ s2 h2 => wpAny_bind (thn h2 fun _ s3 h3 => wpAny_bind (thn h3 fun ok s4 h4 => ?_)))
    cases ok with
    | false =>
      rw [if_neg (by decide)] at h4
      first
        | exact wpAny_pure ⟨rfl, h4⟩
        | exact wpAny_bind (wpAny_pure (wpAny_pure ⟨rfl, h4⟩))
    | true =>
      rw [if_pos rfl] at h4
      first
        | exact wpAny_bind (wpAny_bind (thn h4 fun x s5 h5 => wpAny_bind (thn h5 fun _ s6 h6 => wpAny_pure (wpAny_pure ⟨rfl, h6⟩))))
        | exact wpAny_bind (thn h4 fun x s5 h5 => wpAny_bind (thn h5 fun _ s6 h6 => wpAny_pure ⟨rfl, h6⟩))
end
section
variable {X : Cx}
noncomputable def PC0 (X : Cx) (ifs : List Expr) (t : TT) : Prop :=
  ∀ (pins : List (Addr × Obj)) (s : Shared) (σ : St) (H : Hp) (Q : Bool → Hp → Prop), Inv X pins σ H s → t σ H Q → wpAny (model X.prog X.w) X.A (testsOf ifs X.env) (TP X pins σ Q) X.xe s
noncomputable def tNoTest : TT := fun _ H Q => Q true H
theorem pc_none : PC0 X [] tNoTest := fun pins s σ H Q I h => wpAny_tests_nil ⟨H, I, h⟩
theorem hok_but {P : Program} {w : World} {H : Hp} {h h' : Heap} {C : Addr} (ok : HOk P w H h) (hC : H C = none) (sb : Heap.SameBut C h h') : HOk P w H h' := fun b ob e => by
  refine (ok b ob e).stay (fun c u hc q => (sb.2 c ?_).trans q) (fun _ q => q) fun _ _ q => q
  rintro rfl
  rcases hc with rfl | hc
  · rw [hC] at e; cases e
  · rw [hC] at hc; cases hc
theorem un_but {fs ex : List Addr} {H H' : Hp} {h h1 h2 : Heap} {C : Addr} (u : Un fs ex H H' h h1) (hC : h.objs.size ≤ C) (sb : Heap.SameBut C h1 h2) : Un fs ex H H' h h2 := by
  have ne : ∀ b o, h.get? b = some o → b ≠ C := fun b o e => Nat.ne_of_lt (Nat.lt_of_lt_of_le (Heap.lt_size e) hC)
  refine ⟨fun b o e n a c => (sb.2 b (ne b o e)).trans (u.keep b o e n a c), fun b o e n a c => ?_, u.free, fun b o e c => ?_, u.tups, u.frzs, u.tbls⟩
  · obtain ⟨sl, q⟩ := u.slot b o e n a c
    exact ⟨sl, (sb.2 b (ne b o e)).trans q⟩
  · obtain ⟨o', q⟩ := u.there b o e c
    exact ⟨o', (sb.2 b (ne b o e)).trans q⟩
inductive CpInv (X : Cx) (tn : Nat → Heap → Prop) (fp : List Addr) (W : Nat → Nat → St → Hp → Prop) (n : Nat) (s : Shared) : Prop
  | mk (i : Nat) (σ : St) (H : Hp) (hI : Inv X [] σ H s) (ht : tn i s.heap) (hf : ∀ b ∈ fp, H b = none) (hw : W i n σ H)
theorem pe_comp {elt tg iter : Expr} {ifs : List Expr} {scope : Scope} {pos : Pos} {own : List Str} {caps : List (Str × Nat)} {wi : TI} {g : TG} {tc : TT} {te : TE} (hc : X.calm = true) (ck : CapsOk X scope caps)
    (hi : PI X tg iter wi) (hg : ∀ C s0 H0 ex, PG (compCx X scope (own ++ caps.map (·.1)) C s0 H0 ex) tg g) (ht : ∀ C s0 H0 ex, PC0 (compCx X scope (own ++ caps.map (·.1)) C s0 H0 ex) ifs tc)
    (he : ∀ C s0 H0 ex, PE (compCx X scope (own ++ caps.map (·.1)) C s0 H0 ex) elt te) (hs : autoParam (∀ x, foldedSetIterable iter X.env x = pure x) zau4._auto_1) :
    PE X (.ListComp elt [⟨tg, iter, ifs, 0⟩] scope pos) (tComp own.length caps wi g tc te) := by
  intro pins s σ H Q I h
  have hcl : closureFor scope X.env = pure (clOf X.env.cells scope.names []) := closure_eq fun p hp hf => I.ok.has p.1 (ck.fre p hp hf)
  rw [eval_ListComp]
  refine wpAny_comprehension_free (use := none) rfl hs hcl ck.kind ck.loc (thn (hi pins s σ H _ I h) fun v s1 h1 => thn h1 fun itv s2 h2 => ?_)
  obtain ⟨it, fp, tn, J, H2, e, I2, T, st2, f2, hw⟩ := h2
  subst e
  obtain ⟨W, ⟨m0, w0⟩, turn⟩ := hw s2.heap.objs.size (I2.hok.fresh (Nat.le_refl _))
  refine wpAny_newObj_type ?_
  have hD := I2.hok.fresh (Nat.le_refl s2.heap.objs.size)
  have I3 : Inv X pins σ (upd H2 s2.heap.objs.size (.lst [])) { s2 with heap := s2.heap.push { cls := .type "list", data := .seq ([] : List Value).toArray } } :=
    I2.laid (t' := s2.toks) (fun b u e => Heap.get?_push_of_some _ e) (Nat.le_refl _) ⟨Nat.zero_le _, [], 0, .nil, Heap.get?_push_size _ rfl⟩
  have hlt : ∀ b ∈ fp, b < s2.heap.objs.size := fun b hb => by obtain ⟨o, e, _⟩ := T.obj _ _ st2 b hb; exact Heap.lt_size e
  have f3 : ∀ b ∈ fp, FpOk X pins (upd H2 s2.heap.objs.size (.lst [])) b := fun b hb => ⟨by rw [upd_ne (Nat.ne_of_lt (hlt b hb))]; exact (f2 b hb).1, (f2 b hb).2⟩
  have hlt3 : ∀ b ∈ fp, b < (s2.heap.push { cls := .type "list", data := .seq ([] : List Value).toArray }).objs.size := fun b hb => by rw [Heap.size_push]; exact Nat.lt_succ_of_lt (hlt b hb)
  refine wpAny_newFunctionEnv ck.nocell (by intro y hy; simp at hy) (fun h' hns hsb => ?_) ck.kind
  generalize hS3 : ({ s2 with heap := s2.heap.push { cls := .type "list", data := .seq ([] : List Value).toArray } } : Shared) = S3 at I3 hns hsb ⊢
  have hlt3' : ∀ b ∈ fp, b < S3.heap.objs.size := by rw [← hS3]; exact hlt3
  have I4 := inv_comp (own := own) (t' := S3.toks + ([] : List (Str × Value)).length) I3 ck f3 hlt3' hns hsb
  have st4 : tn 0 h' := T.keep _ _ _ st2 fun b hb o e => hsb.extBut b o (Nat.ne_of_lt (hlt3' b hb)) (Heap.get?_push_of_some _ (by rw [← hS3]; exact Heap.get?_push_of_some _ e))
  have hsz : s2.heap.objs.size < S3.heap.objs.size := by rw [← hS3]; show _ < (Heap.push _ _).objs.size; rw [Heap.size_push]; exact Nat.lt_succ_self _
  generalize hCC : S3.heap.objs.size = C at I4 hsb hns hsz
  have loop : codeAny (model X.prog X.w) X.A (.compLoop (.ListComp elt [⟨tg, iter, ifs, 0⟩] scope pos) 0 (.ref it) (.ref s2.heap.objs.size) (compEnvC scope (clOf X.env.cells scope.names []) C X.env))
      (compPost (model X.prog X.w) X.A X.xe none (EP X pins σ Q) (.ref s2.heap.objs.size) C) { S3 with heap := h', toks := S3.toks + ([] : List (Str × Value)).length } := by
    have xf : ∀ {H' : Hp}, (∀ b ∈ fp, H' b = none) → ∀ b ∈ fp, FpOk (compCx X scope (own ++ caps.map (·.1)) C S3 (upd H2 s2.heap.objs.size (.lst [])) fp) [] H' b := fun hn b hb => by
      refine ⟨hn b hb, ?_, ?_, .inl hb, fun x c e => (I4.ok.exf b hb).2 x c e, fun p hp => absurd (show p ∈ ([] : List (Addr × Obj)) from hp) (by simp)⟩
      · exact (I4.ok.exf b hb).1
      · exact I4.ok.exfs b hb
    refine compLoop_any (CpInv (compCx X scope (own ++ caps.map (·.1)) C S3 (upd H2 s2.heap.objs.size (.lst [])) fp) tn fp W) ?_ m0
      ⟨0, _, _, I4, st4, fun b hb => (f3 b hb).1, w0⟩
    rintro n s5 ⟨i, σ5, H5, I5, st5, fr5, w5⟩
    rcases turn i n σ5 H5 w5 with ⟨stop, qn⟩ | ⟨go, N, hN, step⟩
    · refine thn (T.done (compCx X scope (own ++ caps.map (·.1)) C S3 (upd H2 s2.heap.objs.size (.lst [])) fp) rfl rfl rfl hc i [] s5 σ5 H5 NoX I5 (xf fr5) st5 stop) fun r s6 hzz => ?_
      obtain ⟨hr, I6⟩ := hzz
      subst hr
      obtain ⟨m6, n6, _⟩ := id I6.loc
      refine ⟨m6, n6, fun h7 sb7 => ⟨.ref s2.heap.objs.size, H5, ?_, rfl, qn⟩⟩
      have C3 : S3.heap.objs.size ≤ C := Nat.le_of_eq hCC
      refine I3.call' (s' := { s6 with heap := h7 }) (ch := fp) I6.os (un_but I6.base C3 sb7) (hok_but I6.hok I6.free sb7) I6.bare fun b hb => ?_
      obtain ⟨_, q1, _, q3, q4, q5⟩ := f3 b hb
      exact ⟨q3, q1, q4, q5⟩
    · refine thn (T.item (compCx X scope (own ++ caps.map (·.1)) C S3 (upd H2 s2.heap.objs.size (.lst [])) fp) rfl rfl rfl hc i [] s5 σ5 H5 NoX I5 (xf fr5) st5 go) fun r s6 hzz => ?_
      obtain ⟨u, hr, h6⟩ := hzz
      subst hr
      refine thn h6 fun _ s7 hzz => ?_
      obtain ⟨x, H7, I7, r7, y7, st7, fr7⟩ := hzz
      have I7' := I7.pinned (xf fr7) (T.obj _ _ st7)
      refine thn (hg _ _ _ _ _ s7 σ5 H7 x u _ I7' r7 (step x H7 y7)) fun _ s8 hzz => ?_
      obtain ⟨σ8, H8, I8, q8⟩ := hzz
      refine thn (ht _ _ _ _ _ s8 σ8 H8 _ I8 q8) fun ok s9 hzz => ?_
      obtain ⟨H9, I9, q9⟩ := hzz
      have again : ∀ {s' : Shared} {σ' : St} {H' : Hp}, Inv (compCx X scope (own ++ caps.map (·.1)) C S3 (upd H2 s2.heap.objs.size (.lst [])) fp) ([] ++ pinsAt fp s7.heap) σ' H' s' → N σ' H' → ∃ m, m < n ∧ CpInv (compCx X scope (own ++ caps.map (·.1)) C S3 (upd H2 s2.heap.objs.size (.lst [])) fp) tn fp W m s' := fun {s' σ' H'} Ia na => by
        obtain ⟨m', hm, wa⟩ := hN σ' H' na
        refine ⟨m', hm, i + 1, σ', H', Ia.unpinned, T.keep _ _ _ st7 fun b hb o e => (Ia.pin (b, o) (List.mem_append_right _ (List.mem_append_right _ (mem_pinsAt hb e)))).1, fun b hb => ?_, wa⟩
        obtain ⟨o, e, d⟩ := T.obj _ _ st7 b hb
        exact (Ia.pin (b, o) (List.mem_append_right _ (List.mem_append_right _ (mem_pinsAt hb e)))).2.1
      cases ok with
      | false =>
        rw [if_neg (by decide)] at q9 ⊢
        exact again I9 q9
      | true =>
        rw [if_pos rfl] at q9 ⊢
        refine thn (he _ _ _ _ _ s9 σ8 H9 _ I9 q9) fun y s10 hzz => ?_
        obtain ⟨vy, H10, I10, r10, ys, hys, hlen, q10⟩ := hzz
        refine thn (mt_append _ s10 σ8 H10 (.ref s2.heap.objs.size) [vy] (.ref s2.heap.objs.size) [y] (fun _ H' => N σ8 H') I10 rfl (.cons r10 .nil) ⟨_, ys, vy, rfl, rfl, hys, hlen, q10⟩) fun _ s11 hzz => ?_
        obtain ⟨_, H11, I11, _, q11⟩ := hzz
        exact again I11 q11
  exact codeAny_compStart_list loop (T.self _ 0 _ _ _ st4 loop)
end
end L2
namespace L2
open PySem PySem.Spec PyProof.Rows
noncomputable def SrcOn (k : Bool) (h : Heap) (l : Addr) (xs : Array Value) : Prop := if k = true then h.IsTuple l xs else h.IsList l xs
section
variable {prog : Program} {w : World} {A : Around} {E : Value → Shared → Prop} {s : Shared}
structure ZFar (z TI TO i1 i2 : Addr) : Prop where
  a1 : TI ≠ z
  a2 : TO ≠ z
  a3 : i1 ≠ z
  a4 : i2 ≠ z
  a5 : TI ≠ TO
  a6 : TI ≠ i1
  a7 : TI ≠ i2
  a8 : TO ≠ i1
  a9 : TO ≠ i2
  a10 : i1 ≠ i2
end
end L2
namespace L2
open PySem PySem.Spec PyProof.Rows
section
variable {X : Cx} {pins : List (Addr × Obj)} {σ : St} {H : Hp} {s : Shared}
theorem Inv.spun0 {fp : List Addr} {h' : Heap} {t' : Nat} (I : Inv X pins σ H s) (hf : ∀ b ∈ fp, FpOk X pins H b) (k : ∀ b o, b ∉ fp → s.heap.get? b = some o → h'.get? b = some o) : Inv X pins σ H { s with heap := h', toks := t' } := by
  have nf : ∀ b u, H b = some u → b ∉ fp := fun b u e z => by rw [(hf b z).1] at e; cases e
  refine I.step (g' := s.gens) (d' := s.drawn) (ch := fp) (fun b hb => ?_) (fun b o _ _ hc e _ => k b o hc e) (fun b o _ _ hc e _ => ⟨o.slots, k b o hc e⟩) (fun b o _ e n => n)
    (fun b o hc e => ⟨o, k b o hc e⟩) (fun b xs e => e) (fun b o u e => e) (fun b ps e => ⟨#[], by rw [e]; simp⟩) (fun m hm => ?_) (fun b u e => ?_) I.bare
  · obtain ⟨_, f1, _, f3, f4, f5⟩ := hf b hb
    exact ⟨f3, f1, f4, f5⟩
  · obtain ⟨o, es, ep, ho, r⟩ := hm
    exact ⟨o, es, ep, k _ o (fun z => (hf _ z).2.1 rfl) ho, r⟩
  · refine (I.hok b u e).stay (fun c v hc q => k c v ?_ q) (fun c q => q) fun c xs q => q
    rcases hc with z | z
    · rw [z]; exact nf b u e
    · exact nf c _ z
noncomputable def SqV (k : Bool) (K : PySem.W.Frag) (H : Hp) (l : Addr) (xs : List V) : Prop := if k = true then SqT K H l xs else SqL K H l xs
theorem Inv.src {k : Bool} {l : Addr} {xs : List V} (I : Inv X pins σ H s) (h : SqV k X.K H l xs) : ∃ its : List Value, Vals xs its ∧ SrcOn k s.heap l its.toArray ∧ xs.length ≤ sizeLine := by
  cases k with
  | true =>
    obtain ⟨its, r, p, z⟩ := I.tuple (h : SqT X.K H l xs)
    exact ⟨its, r, p, z⟩
  | false =>
    obtain ⟨its, r, p, z⟩ := I.list (h : SqL X.K H l xs)
    exact ⟨its, r, p.isList, z⟩
end
section
variable {X : Cx}
end
section
variable {X : Cx}
end
end L2
namespace DL
open PySem PySem.Spec L2
inductive D where
  | non | bl (b : Bool) | int (i : Int) | str (x : Str) | ty (n : String) | obj (i : Nat) | tup (xs : List D) | lst (xs : List D)
structure XD where
  cls : Str
  fs : List (Str × D)
noncomputable abbrev M (α : Type) := Option (Except XD α)
noncomputable def M.b {α β : Type} (m : M α) (f : α → M β) : M β := match m with
  | none => none
  | some (.error x) => some (.error x)
  | some (.ok a) => f a
noncomputable def M.p {α : Type} (a : α) : M α := some (.ok a)
noncomputable def M.o {α : Type} : Option α → M α
  | none => none
  | some a => some (.ok a)
inductive M.BInv {α β : Type} (m : M α) (f : α → M β) (r : Except XD β) : Prop
  | ok (a : α) (h1 : m = some (.ok a)) (h2 : f a = some r)
  | err (x : XD) (h1 : m = some (.error x)) (h2 : r = .error x)
theorem M.b_inv {α β : Type} {m : M α} {f : α → M β} {r : Except XD β} (h : m.b f = some r) : M.BInv m f r := by
  cases m with
  | none => cases h
  | some e =>
    cases e with
    | error x => exact .err x rfl (Option.some.inj h).symm
    | ok a => exact .ok a rfl h
theorem M.o_inv {α : Type} {m : Option α} {r : Except XD α} (h : M.o m = some r) : ∃ a, m = some a ∧ r = .ok a := by
  cases m with
  | none => cases h
  | some a => exact ⟨a, rfl, (Option.some.inj h).symm⟩
@[simp] theorem M.b_ok {α β : Type} (a : α) (f : α → M β) : M.b (some (.ok a)) f = f a := rfl
@[simp] theorem M.b_p {α β : Type} (a : α) (f : α → M β) : M.b (M.p a) f = f a := rfl
@[simp] theorem M.b_err {α β : Type} (x : XD) (f : α → M β) : M.b (some (.error x)) f = some (.error x) := rfl
@[simp] theorem M.o_some {α : Type} (a : α) : M.o (some a) = M.p a := rfl
noncomputable abbrev Rho := Nat → Option Addr
mutual
noncomputable def Rep (ρ : Rho) (K : PySem.W.Frag) (H : Hp) : D → V → Prop
  | .non, v => v = .non
  | .bl b, v => v = .bl b
  | .int i, v => v = .int i
  | .str x, v => v = .str x
  | .ty n, v => v = .ty n
  | .obj i, v => ∃ a, ρ i = some a ∧ v = .ref a
  | .tup ds, v => ∃ a xs, v = .ref a ∧ SqT K H a xs ∧ Reps ρ K H ds xs
  | .lst ds, v => ∃ a xs, v = .ref a ∧ SqL K H a xs ∧ Reps ρ K H ds xs
noncomputable def Reps (ρ : Rho) (K : PySem.W.Frag) (H : Hp) : List D → List V → Prop
  | [], xs => xs = []
  | d :: ds, xs => ∃ v vs, xs = v :: vs ∧ Rep ρ K H d v ∧ Reps ρ K H ds vs
end
variable {ρ : Rho} {K : PySem.W.Frag} {H H' : Hp}
theorem same_rd {a : Addr} {u : HO} (e : Same H H') (h : Rd H a u) : Rd H' a u := by
  rcases h with h | ⟨o, h⟩
  · exact .inl (e a _ h)
  · exact .inr ⟨o, e a _ h⟩
theorem same_l {a : Addr} {xs : List V} (e : Same H H') (h : SqL K H a xs) : SqL K H' a xs := h.imp (same_rd e) id
theorem same_t {a : Addr} {xs : List V} (e : Same H H') (h : SqT K H a xs) : SqT K H' a xs := h.imp (same_rd e) id
mutual
theorem Rep.mono (e : Same H H') : ∀ {d : D} {v : V}, Rep ρ K H d v → Rep ρ K H' d v
  | .non, _, h => by unfold Rep at h ⊢; exact h
  | .bl _, _, h => by unfold Rep at h ⊢; exact h
  | .int _, _, h => by unfold Rep at h ⊢; exact h
  | .str _, _, h => by unfold Rep at h ⊢; exact h
  | .ty _, _, h => by unfold Rep at h ⊢; exact h
  | .obj _, _, h => by unfold Rep at h ⊢; exact h
  | .tup _, _, h => by
    unfold Rep at h ⊢
    obtain ⟨a, xs, q1, q2, q3⟩ := h
    exact ⟨a, xs, q1, same_t e q2, Reps.mono e q3⟩
  | .lst _, _, h => by
    unfold Rep at h ⊢
    obtain ⟨a, xs, q1, q2, q3⟩ := h
    exact ⟨a, xs, q1, same_l e q2, Reps.mono e q3⟩
theorem Reps.mono (e : Same H H') : ∀ {ds : List D} {vs : List V}, Reps ρ K H ds vs → Reps ρ K H' ds vs
  | [], _, h => by unfold Reps at h ⊢; exact h
  | _ :: _, _, h => by
    unfold Reps at h ⊢
    obtain ⟨v, vs, q1, q2, q3⟩ := h
    exact ⟨v, vs, q1, Rep.mono e q2, Reps.mono e q3⟩
end
theorem reps_nil {vs : List V} : Reps ρ K H [] vs ↔ vs = [] := by unfold Reps; exact Iff.rfl
theorem reps_cons {d : D} {ds : List D} {vs : List V} : Reps ρ K H (d :: ds) vs ↔ ∃ v r, vs = v :: r ∧ Rep ρ K H d v ∧ Reps ρ K H ds r := by
  conv => lhs; unfold Reps
theorem Reps.cons {d : D} {ds : List D} {v : V} {vs : List V} (h : Rep ρ K H d v) (t : Reps ρ K H ds vs) : Reps ρ K H (d :: ds) (v :: vs) := reps_cons.mpr ⟨v, vs, rfl, h, t⟩
theorem Reps.nil : Reps ρ K H [] [] := reps_nil.mpr rfl
theorem Reps.length : ∀ {ds : List D} {vs : List V}, Reps ρ K H ds vs → vs.length = ds.length
  | [], _, h => by rw [reps_nil.mp h]; rfl
  | _ :: _, _, h => by
    obtain ⟨v, r, rfl, _, t⟩ := reps_cons.mp h
    simp [Reps.length t]
theorem Reps.get : ∀ {ds : List D} {vs : List V} {i : Nat} {d : D}, Reps ρ K H ds vs → ds[i]? = some d → ∃ v, vs[i]? = some v ∧ Rep ρ K H d v
  | [], _, _, _, _, e => by simp at e
  | _ :: _, _, 0, _, h, e => by
    obtain ⟨v, r, rfl, q, _⟩ := reps_cons.mp h
    simp at e; subst e
    exact ⟨v, rfl, q⟩
  | _ :: _, _, i + 1, _, h, e => by
    obtain ⟨v, r, rfl, _, t⟩ := reps_cons.mp h
    obtain ⟨u, q1, q2⟩ := Reps.get (i := i) t (by simpa using e)
    exact ⟨u, by simpa using q1, q2⟩
theorem Reps.append : ∀ {ds es : List D} {vs us : List V}, Reps ρ K H ds vs → Reps ρ K H es us → Reps ρ K H (ds ++ es) (vs ++ us)
  | [], _, _, _, h, k => by rw [reps_nil.mp h]; exact k
  | _ :: _, _, _, _, h, k => by
    obtain ⟨v, r, rfl, q, t⟩ := reps_cons.mp h
    exact Reps.cons q (Reps.append t k)
theorem rep_int {i : Int} {v : V} : Rep ρ K H (.int i) v ↔ v = .int i := by unfold Rep; exact Iff.rfl
theorem rep_str {x : Str} {v : V} : Rep ρ K H (.str x) v ↔ v = .str x := by unfold Rep; exact Iff.rfl
theorem rep_ty {n : String} {v : V} : Rep ρ K H (.ty n) v ↔ v = .ty n := by unfold Rep; exact Iff.rfl
theorem rep_obj {i : Nat} {v : V} : Rep ρ K H (.obj i) v ↔ ∃ a, ρ i = some a ∧ v = .ref a := by unfold Rep; exact Iff.rfl
theorem rep_bl {b : Bool} {v : V} : Rep ρ K H (.bl b) v ↔ v = .bl b := by unfold Rep; exact Iff.rfl
theorem rep_non {v : V} : Rep ρ K H .non v ↔ v = .non := by unfold Rep; exact Iff.rfl
theorem rep_tup {ds : List D} {v : V} : Rep ρ K H (.tup ds) v ↔ ∃ a xs, v = .ref a ∧ SqT K H a xs ∧ Reps ρ K H ds xs := by conv => lhs; unfold Rep
theorem rep_lst {ds : List D} {v : V} : Rep ρ K H (.lst ds) v ↔ ∃ a xs, v = .ref a ∧ SqL K H a xs ∧ Reps ρ K H ds xs := by conv => lhs; unfold Rep
theorem reps_ints : ∀ {ns : List Int} {vs : List V}, Reps ρ K H (ns.map .int) vs ↔ vs = ns.map V.int
  | [], vs => reps_nil
  | n :: ns, vs => by
    rw [List.map_cons, reps_cons]
    constructor
    · rintro ⟨v, r, rfl, h1, h2⟩
      rw [rep_int.mp h1, reps_ints.mp h2]; rfl
    · rintro rfl
      exact ⟨_, _, rfl, rep_int.mpr rfl, reps_ints.mpr rfl⟩
noncomputable def hid (H : Hp) (G : Addr → Bool) : Hp := fun b => if G b = true then none else H b
theorem hid_some {G : Addr → Bool} {b : Addr} {o : HO} : hid H G b = some o ↔ G b = false ∧ H b = some o := by
  unfold hid
  cases e : G b <;> simp
theorem same_hid {G : Addr → Bool} (e : Same H H') : Same (hid H G) (hid H' G) := fun b o h => by
  obtain ⟨q1, q2⟩ := hid_some.mp h
  exact hid_some.mpr ⟨q1, e b o q2⟩
theorem hid_le {G G' : Addr → Bool} (h : ∀ b, G' b = true → G b = true) : Same (hid H G) (hid H G') := fun b o q => by
  obtain ⟨q1, q2⟩ := hid_some.mp q
  refine hid_some.mpr ⟨?_, q2⟩
  cases e : G' b with
  | false => rfl
  | true => rw [h b e] at q1; cases q1
theorem same_un {G : Addr → Bool} : Same (hid H G) H := fun b o q => (hid_some.mp q).2
theorem hid_upd {G : Addr → Bool} {a : Addr} {o : HO} (h : G a = true) : hid (upd H a o) G = hid H G := by
  funext b
  unfold hid upd
  by_cases e : b = a
  · subst e; rw [if_pos h, if_pos h]
  · rw [if_neg e]
theorem same_upd {p : Addr} {o : HO} (h : H p = none) : Same H (upd H p o) := fun b u e => by rw [upd_ne (ne_of_none e h)]; exact e
theorem same_upd0 {H₀ : Hp} {p : Addr} {o : HO} (e : Same H₀ H) (h : H₀ p = none) : Same H₀ (upd H p o) := fun b u q => by rw [upd_ne (ne_of_none q h)]; exact e b u q
noncomputable abbrev DSt := List (Option D)
noncomputable def refOf : Option (Option V) → Option Addr
  | some (some (.ref a)) => some a
  | _ => none
theorem refOf_some {o : Option (Option V)} {a : Addr} : refOf o = some a ↔ o = some (some (.ref a)) := by
  constructor
  · intro h
    unfold refOf at h
    split at h
    · cases h; rfl
    · cases h
  · rintro rfl; rfl
noncomputable def ownA (σ : St) : List Nat → List Addr
  | [] => []
  | i :: O => (refOf σ[i]?).toList ++ ownA σ O
theorem mem_ownA {σ : St} {O : List Nat} {a : Addr} : a ∈ ownA σ O ↔ ∃ i ∈ O, σ[i]? = some (some (.ref a)) := by
  induction O with
  | nil => simp [ownA]
  | cons j O ih =>
    unfold ownA
    rw [List.mem_append, ih, Option.mem_toList, refOf_some]
    constructor
    · rintro (h | ⟨i, hi, h⟩)
      · exact ⟨j, List.mem_cons_self, h⟩
      · exact ⟨i, List.mem_cons_of_mem _ hi, h⟩
    · rintro ⟨i, hi, h⟩
      rcases List.mem_cons.mp hi with rfl | hi
      · exact .inl h
      · exact .inr ⟨i, hi, h⟩
noncomputable def fob (F : Addr → Bool) (σ : St) (O : List Nat) : Addr → Bool := fun b => F b || (ownA σ O).contains b
theorem fob_t {F : Addr → Bool} {σ : St} {O : List Nat} {b : Addr} : fob F σ O b = true ↔ F b = true ∨ ∃ i ∈ O, σ[i]? = some (some (.ref b)) := by
  unfold fob
  rw [Bool.or_eq_true, List.contains_iff_mem, mem_ownA]
theorem fob_nil {F : Addr → Bool} {σ : St} : fob F σ [] = F := by
  funext b; unfold fob ownA; simp
structure RS (ρ : Rho) (K : PySem.W.Frag) (H₀ H : Hp) (F : Addr → Bool) (O : List Nat) (σ : St) (δ : DSt) : Prop where
  len : σ.length = δ.length
  same : Same H₀ H
  fin : ∀ b, F b = true → H b ≠ none
  val : ∀ (i : Nat) d, δ[i]? = some (some d) → i ∉ O → ∃ v, σ[i]? = some (some v) ∧ Rep ρ K (hid H (fob F σ O)) d v
  own : ∀ i ∈ O, ∃ (a : Addr) (xs : List V) (ds : List D), δ[i]? = some (some (.lst ds)) ∧ σ[i]? = some (some (.ref a)) ∧ H a = some (.lst xs) ∧ (H₀ a = none ∧ F a = false) ∧ Reps ρ K (hid H (fob F σ O)) ds xs
  nd : ∀ i ∈ O, ∀ j ∈ O, ∀ a, σ[i]? = some (some (.ref a)) → σ[j]? = some (some (.ref a)) → i = j
section
variable {H₀ : Hp} {F : Addr → Bool} {O : List Nat} {σ : St} {δ : DSt}
theorem same_nn {b : Addr} (e : Same H H') (h : H b ≠ none) : H' b ≠ none := fun z => by
  cases q : H b with
  | none => exact h q
  | some o => rw [e b o q] at z; cases z
theorem upd_nn {b p : Addr} {o : HO} (h : H b ≠ none) : upd H p o b ≠ none := by
  by_cases e : b = p
  · subst e; rw [upd_same]; exact fun z => nomatch z
  · rw [upd_ne e]; exact h
theorem RS.mono (R : RS ρ K H₀ H F O σ δ) (e : Same H H') : RS ρ K H₀ H' F O σ δ :=
  ⟨R.len, R.same.trans e, fun b hb => same_nn e (R.fin b hb), fun i d h ho => let ⟨v, q1, q2⟩ := R.val i d h ho; ⟨v, q1, q2.mono (same_hid e)⟩,
    fun i hi => let ⟨a, xs, ds, q1, q2, q3, q4, q5⟩ := R.own i hi; ⟨a, xs, ds, q1, q2, e a _ q3, q4, q5.mono (same_hid e)⟩, R.nd⟩
theorem RS.fresh (R : RS ρ K H₀ H F O σ δ) {p : Addr} (h : H p = none) : fob F σ O p = false := by
  cases e : fob F σ O p with
  | false => rfl
  | true =>
    rcases fob_t.mp e with q | ⟨i, hi, q⟩
    · exact absurd h (R.fin p q)
    · obtain ⟨a, xs, ds, _, q2, q3, _⟩ := R.own i hi
      rw [q] at q2; cases q2
      rw [q3] at h; cases h
theorem RS.fresh0 (R : RS ρ K H₀ H F O σ δ) {p : Addr} (h : H p = none) : H₀ p = none := by
  cases e0 : H₀ p with
  | none => rfl
  | some o => rw [R.same p o e0] at h; cases h
theorem RS.thaw {O' : List Nat} (R : RS ρ K H₀ H F O σ δ) (h : ∀ i ∈ O', i ∈ O) : RS ρ K H₀ H F O' σ δ := by
  have le : ∀ b, fob F σ O' b = true → fob F σ O b = true := fun b q => by
    rcases fob_t.mp q with q | ⟨i, hi, q⟩
    · exact fob_t.mpr (.inl q)
    · exact fob_t.mpr (.inr ⟨i, h i hi, q⟩)
  refine ⟨R.len, R.same, R.fin, fun i d hd ho => ?_, fun i hi => ?_, fun i hi j hj => R.nd i (h i hi) j (h j hj)⟩
  · by_cases hO : i ∈ O
    · obtain ⟨a, xs, ds, q1, q2, q3, q4, q5⟩ := R.own i hO
      rw [q1] at hd; cases hd
      refine ⟨_, q2, rep_lst.mpr ⟨a, xs, rfl, SqL.of (hid_some.mpr ⟨?_, q3⟩), q5.mono (hid_le le)⟩⟩
      cases e : fob F σ O' a with
      | false => rfl
      | true =>
        rcases fob_t.mp e with z | ⟨j, hj, z⟩
        · rw [q4.2] at z; cases z
        · exact absurd (R.nd i hO j (h j hj) a q2 z ▸ hj) ho
    · obtain ⟨v, q1, q2⟩ := R.val i d hd hO
      exact ⟨v, q1, q2.mono (hid_le le)⟩
  · obtain ⟨a, xs, ds, q1, q2, q3, q4, q5⟩ := R.own i (h i hi)
    exact ⟨a, xs, ds, q1, q2, q3, q4, q5.mono (hid_le le)⟩
theorem ownA_set {i : Nat} {v : V} (h : i ∉ O) : fob F (σ.set i (some v)) O = fob F σ O := by
  have : ownA (σ.set i (some v)) O = ownA σ O := by
    induction O with
    | nil => rfl
    | cons j O ih =>
      unfold ownA
      rw [List.getElem?_set_ne (by rintro rfl; exact h List.mem_cons_self), ih fun z => h (List.mem_cons_of_mem _ z)]
  unfold fob
  rw [this]
theorem RS.set (R : RS ρ K H₀ H F O σ δ) {i : Nat} {d : D} {v : V} (ho : i ∉ O) (hr : Rep ρ K (hid H (fob F σ O)) d v) : RS ρ K H₀ H F O (σ.set i (some v)) (δ.set i (some d)) := by
  have ne : ∀ j ∈ O, j ≠ i := fun j hj e => ho (e ▸ hj)
  refine ⟨by simp [R.len], R.same, R.fin, fun j e hd hj => ?_, fun j hj => ?_, fun j hj k hk a e1 e2 => ?_⟩
  · rw [ownA_set ho]
    by_cases hji : j = i
    · subst hji
      have hl : j < δ.length := by
        by_cases q : j < δ.length
        · exact q
        · rw [List.getElem?_eq_none (by simpa using q)] at hd; cases hd
      rw [List.getElem?_set_self hl] at hd
      cases hd
      exact ⟨v, List.getElem?_set_self (by rw [R.len]; exact hl), hr⟩
    · rw [List.getElem?_set_ne (Ne.symm hji)] at hd ⊢
      exact R.val j e hd hj
  · rw [ownA_set ho, List.getElem?_set_ne (Ne.symm (ne j hj)), List.getElem?_set_ne (Ne.symm (ne j hj))]
    exact R.own j hj
  · rw [List.getElem?_set_ne (Ne.symm (ne j hj))] at e1
    rw [List.getElem?_set_ne (Ne.symm (ne k hk))] at e2
    exact R.nd j hj k hk a e1 e2
theorem RS.take (R : RS ρ K H₀ H F O σ δ) {i : Nat} {ds : List D} {p : Addr} {xs : List V} {H1 : Hp} (ho : i ∉ O) (hi : i < δ.length) (e : Same H H1) (hp : H1 p = none) (hr : Reps ρ K (hid H1 (fob F σ O)) ds xs) :
    RS ρ K H₀ (upd H1 p (.lst xs)) F (i :: O) (σ.set i (some (.ref p))) (δ.set i (some (.lst ds))) := by
  have R1 := R.mono e
  have p0 := R1.fresh0 hp
  have pf := R1.fresh hp
  have ne : ∀ j ∈ O, j ≠ i := fun j hj e => ho (e ▸ hj)
  have lσ : i < σ.length := by rw [R.len]; exact hi
  have gp : ∀ b, fob F (σ.set i (some (.ref p))) (i :: O) b = true ↔ b = p ∨ fob F σ O b = true := fun b => by
    rw [fob_t, fob_t]
    constructor
    · rintro (q | ⟨j, hj, q⟩)
      · exact .inr (.inl q)
      · rcases List.mem_cons.mp hj with rfl | hj
        · rw [List.getElem?_set_self lσ] at q; cases q; exact .inl rfl
        · rw [List.getElem?_set_ne (Ne.symm (ne j hj))] at q
          exact .inr (.inr ⟨j, hj, q⟩)
    · rintro (rfl | q | ⟨j, hj, q⟩)
      · exact .inr ⟨i, List.mem_cons_self, List.getElem?_set_self lσ⟩
      · exact .inl q
      · exact .inr ⟨j, List.mem_cons_of_mem _ hj, by rw [List.getElem?_set_ne (Ne.symm (ne j hj))]; exact q⟩
  have eqH : hid (upd H1 p (.lst xs)) (fob F (σ.set i (some (.ref p))) (i :: O)) = hid H1 (fob F σ O) := by
    funext b
    by_cases hb : b = p
    · subst hb
      unfold hid
      rw [if_pos ((gp b).mpr (.inl rfl)), hp]
      split <;> rfl
    · unfold hid
      rw [upd_ne hb]
      cases q : fob F σ O b with
      | true => rw [if_pos ((gp b).mpr (.inr q)), if_pos rfl]
      | false =>
        rw [if_neg (by rw [gp]; rintro (z | z); exact hb z; rw [q] at z; cases z), if_neg (by decide)]
  refine ⟨by simp [R.len], same_upd0 R1.same p0, fun b hb => upd_nn (R1.fin b hb), fun j d hd hj => ?_, fun j hj => ?_, fun j hj k hk a e1 e2 => ?_⟩
  · have hji : j ≠ i := fun z => hj (z ▸ List.mem_cons_self)
    rw [eqH]
    rw [List.getElem?_set_ne (Ne.symm hji)] at hd ⊢
    exact R1.val j d hd fun z => hj (List.mem_cons_of_mem _ z)
  · rw [eqH]
    rcases List.mem_cons.mp hj with rfl | hj
    · exact ⟨p, xs, ds, List.getElem?_set_self hi, List.getElem?_set_self lσ, upd_same, ⟨p0, by cases z : F p with | false => rfl | true => rw [fob_t.mpr (.inl z)] at pf; cases pf⟩, hr⟩
    · obtain ⟨a, ys, es, q1, q2, q3, q4, q5⟩ := R1.own j hj
      refine ⟨a, ys, es, by rw [List.getElem?_set_ne (Ne.symm (ne j hj))]; exact q1, by rw [List.getElem?_set_ne (Ne.symm (ne j hj))]; exact q2, ?_, q4, q5⟩
      rw [upd_ne (ne_of_none q3 hp)]; exact q3
  · have np : ∀ j ∈ O, ∀ a, σ[j]? = some (some (.ref a)) → a ≠ p := fun j hj a q z => by
      obtain ⟨a', ys, es, q1, q2, q3, q4, q5⟩ := R1.own j hj
      rw [q] at q2; cases q2
      rw [z, hp] at q3; cases q3
    rcases List.mem_cons.mp hj with rfl | hj
    · rw [List.getElem?_set_self lσ] at e1
      cases e1
      rcases List.mem_cons.mp hk with rfl | hk
      · rfl
      · rw [List.getElem?_set_ne (Ne.symm (ne k hk))] at e2
        exact absurd rfl (np k hk p e2)
    · rw [List.getElem?_set_ne (Ne.symm (ne j hj))] at e1
      rcases List.mem_cons.mp hk with hke | hk
      · subst hke
        rw [List.getElem?_set_self lσ] at e2
        cases e2
        exact absurd rfl (np j (by assumption) p e1)
      · rw [List.getElem?_set_ne (Ne.symm (ne k hk))] at e2
        exact R.nd j hj k hk a e1 e2
theorem RS.write (R : RS ρ K H₀ H F O σ δ) {i : Nat} {a : Addr} {ds : List D} {xs : List V} (hi : i ∈ O) (ha : σ[i]? = some (some (.ref a))) (hr : Reps ρ K (hid H (fob F σ O)) ds xs) :
    RS ρ K H₀ (upd H a (.lst xs)) F O σ (δ.set i (some (.lst ds))) := by
  obtain ⟨a', ys, es, q1, q2, q3, q4, q5⟩ := R.own i hi
  rw [ha] at q2; cases q2
  have hl : i < δ.length := (List.getElem?_eq_some_iff.mp q1).1
  have hh : hid (upd H a (.lst xs)) (fob F σ O) = hid H (fob F σ O) := hid_upd (fob_t.mpr (.inr ⟨i, hi, ha⟩))
  refine ⟨by simp [R.len], same_upd0 R.same q4.1, fun b hb => upd_nn (R.fin b hb), fun j d hd hj => ?_, fun j hj => ?_, R.nd⟩
  · have hji : j ≠ i := fun z => hj (z ▸ hi)
    rw [hh]
    rw [List.getElem?_set_ne (Ne.symm hji)] at hd
    exact R.val j d hd hj
  · rw [hh]
    by_cases hji : j = i
    · subst hji
      exact ⟨a, xs, ds, List.getElem?_set_self hl, ha, upd_same, q4, hr⟩
    · obtain ⟨b, zs, fs, p1, p2, p3, p4, p5⟩ := R.own j hj
      refine ⟨b, zs, fs, by rw [List.getElem?_set_ne (Ne.symm hji)]; exact p1, p2, ?_, p4, p5⟩
      rw [upd_ne (show b ≠ a from fun z => hji (R.nd j hj i hi b p2 (by rw [z]; exact ha)))]
      exact p3
end
end DL
namespace DL
open PySem PySem.Spec L2
noncomputable def XRep (K : PySem.W.Frag) (H : Hp) (x : XD) (c : Value) (dx : Option Addr) : Prop := False
noncomputable def okX (K : PySem.W.Frag) (H₀ : Hp) (E : XK) (x : XD) : Prop := ∀ c dx H', Same H₀ H' → XRep K H' x c dx → E c dx H'
inductive tD (K : PySem.W.Frag) (O : List Nat) (E : XK) (f : DSt → M D) (σ : St) (H : Hp) (Q : VK) : Prop
  | mk (ρ : Rho) (H₀ : Hp) (F : Addr → Bool) (δ : DSt) (r : Except XD D) (R : RS ρ K H₀ H F O σ δ) (hf : f δ = some r) (k : match (generalizing := false) r with
    | .ok d => ∀ v H', Same H H' → Rep ρ K (hid H' (fob F σ O)) d v → Q v H'
    | .error x => okX K H₀ E x)
noncomputable def DE (X : Cx) (O : List Nat) (E : XK) (e : Expr) (f : DSt → M D) : Prop := PE X e (tD X.K O E f)
inductive tB (K : PySem.W.Frag) (O : List Nat) (E : XK) (f : DSt → M Bool) (σ : St) (H : Hp) (Q : Bool → Hp → Prop) : Prop
  | mk (ρ : Rho) (H₀ : Hp) (F : Addr → Bool) (δ : DSt) (r : Except XD Bool) (R : RS ρ K H₀ H F O σ δ) (hf : f δ = some r) (k : match (generalizing := false) r with
    | .ok b => ∀ H', Same H H' → Q b H'
    | .error x => okX K H₀ E x)
noncomputable def DT (X : Cx) (O : List Nat) (E : XK) (e : Expr) (f : DSt → M Bool) : Prop := PT X e (tB X.K O E f)
inductive tL (K : PySem.W.Frag) (O : List Nat) (E : XK) (f : DSt → M (List D)) (σ : St) (H : Hp) (Q : List V → Hp → Prop) : Prop
  | mk (ρ : Rho) (H₀ : Hp) (F : Addr → Bool) (δ : DSt) (r : Except XD (List D)) (R : RS ρ K H₀ H F O σ δ) (hf : f δ = some r) (k : match (generalizing := false) r with
    | .ok ds => ∀ vs H', Same H H' → Reps ρ K (hid H' (fob F σ O)) ds vs → Q vs H'
    | .error x => okX K H₀ E x)
noncomputable def DA (X : Cx) (O : List Nat) (E : XK) (es : List Expr) (f : DSt → M (List D)) : Prop := PA X es (tL X.K O E f)
noncomputable def fVar (i : Nat) : DSt → M D := fun δ => M.o (δ[i]?).join
noncomputable def fC (d : D) : DSt → M D := fun _ => M.p d
noncomputable def f2 (g : D → D → Option D) (fa fb : DSt → M D) : DSt → M D := fun δ => (fa δ).b fun x => (fb δ).b fun y => M.o (g x y)
noncomputable def f1 (g : D → Option D) (fa : DSt → M D) : DSt → M D := fun δ => (fa δ).b fun x => M.o (g x)
noncomputable def t2 (g : D → D → Option D) (fa fb : DSt → M D) : DSt → M Bool := fun δ => (fa δ).b fun x => (fb δ).b fun y => match g x y with
  | some (.bl b) => M.p b
  | _ => none
noncomputable def fNil : DSt → M (List D) := fun _ => M.p []
noncomputable def fCons (f : DSt → M D) (g : DSt → M (List D)) : DSt → M (List D) := fun δ => (f δ).b fun x => (g δ).b fun xs => M.p (x :: xs)
noncomputable def fL (k : List D → Option D) (g : DSt → M (List D)) : DSt → M D := fun δ => (g δ).b fun xs => M.o (k xs)
section
variable {ρ : Rho} {X : Cx} {O : List Nat} {E : XK} {a b c e : Expr} {es : List Expr} {fa fb fc : DSt → M D} {fl : DSt → M (List D)} {pos : Pos}
theorem join_some {δ : DSt} {i : Nat} {d : D} (h : (δ[i]?).join = some d) : δ[i]? = some (some d) := by
  cases e : δ[i]? with
  | none => rw [e] at h; cases h
  | some o => rw [e] at h; exact congrArg some h
theorem de_var (i : Nat) {x : Str} (ho : autoParam (O.contains i = false) zau2._auto_1) (hN : autoParam (X.N[i]? = some x) zau2._auto_1) (hv : autoParam (Vis X.env.scope x) zau5._auto_1)
    (hd : autoParam ((x == ("__debug__" : Str)) = false) zau1._auto_1) (hcd : autoParam ((x == ("__classdict__" : Str)) = false) zau1._auto_1) : DE X O E (.Name x pos) (fVar i) := by
  rintro pins s σ H Q I ⟨ρ, H₀, F, δ, r, R, hf, h⟩
  obtain ⟨d, e, rfl⟩ := M.o_inv hf
  have ho' : i ∉ O := fun z => by rw [List.contains_iff_mem.mpr z] at ho; cases ho
  obtain ⟨v, q1, q2⟩ := R.val i d (join_some e) ho'
  exact pe_var hN hv hd hcd pins s σ H Q I ⟨v, q1, h v H (Same.refl H) q2⟩
theorem de_lit {t : TE} {d : D} {v : V} (h : PE X e (tC v)) (hr : ∀ ρ H, Rep ρ X.K H d v) : DE X O E e (fC d) := by
  rintro pins s σ H Q I ⟨ρ, H₀, F, δ, r, R, hf, k⟩
  cases hf
  exact h pins s σ H Q I (k v H (Same.refl H) (hr _ _))
theorem de_int {i : Int} {j} : DE X O E (.Constant (.int i) j pos) (fC (.int i)) := de_lit (t := tC (.int i)) pe_int fun _ _ => rep_int.mpr rfl
theorem de_bl {k : Bool} {j} : DE X O E (.Constant (.bool k) j pos) (fC (.bl k)) := de_lit (t := tC (.bl k)) pe_bl fun _ _ => rep_bl.mpr rfl
noncomputable def OpD (K : PySem.W.Frag) (g : D → D → Option D) (r : R2) : Prop := ∀ x y d, g x y = some d → ∀ (ρ : Rho) (H : Hp) (G : Addr → Bool) u v (Q : VK), (∀ p, H p = none → G p = false) → Rep ρ K (hid H G) x u → Rep ρ K (hid H G) y v →
  (∀ w H', Same H H' → Rep ρ K (hid H' G) d w → Q w H') → r u v H Q
noncomputable def UnD (K : PySem.W.Frag) (g : D → Option D) (r : V → Hp → VK → Prop) : Prop := ∀ x d, g x = some d → ∀ (ρ : Rho) (H : Hp) (G : Addr → Bool) u (Q : VK), (∀ p, H p = none → G p = false) → Rep ρ K (hid H G) x u →
  (∀ w H', Same H H' → Rep ρ K (hid H' G) d w → Q w H') → r u H Q
noncomputable def CaD (K : PySem.W.Frag) (g : List D → Option D) (r : List V → Hp → VK → Prop) : Prop := ∀ xs d, g xs = some d → ∀ (ρ : Rho) (H : Hp) (G : Addr → Bool) us (Q : VK), (∀ p, H p = none → G p = false) → Reps ρ K (hid H G) xs us →
  (∀ w H', Same H H' → Rep ρ K (hid H' G) d w → Q w H') → r us H Q
theorem bin_in {g : D → D → Option D} {r : R2} {σ : St} {H : Hp} {Q : VK} (hg : OpD X.K g r) (h : tD X.K O E (f2 g fa fb) σ H Q) : tOp r (tD X.K O E fa) (tD X.K O E fb) σ H Q := by
  obtain ⟨ρ, H₀, F, δ, rr, R, hf, h⟩ := h
  rcases M.b_inv hf with ⟨x, e1, hf⟩ | ⟨x, e1, rfl⟩
  · refine ⟨ρ, H₀, F, δ, .ok x, R, e1, fun u H1 s1 r1 => ?_⟩
    rcases M.b_inv hf with ⟨y, e2, hf⟩ | ⟨y, e2, rfl⟩
    · refine ⟨ρ, H₀, F, δ, .ok y, R.mono s1, e2, fun v H2 s2 r2 => ?_⟩
      obtain ⟨d, hd, rfl⟩ := M.o_inv hf
      exact hg x y d hd ρ H2 _ u v Q (fun p hp => (R.mono (s1.trans s2)).fresh hp) (r1.mono (same_hid s2)) r2 fun w H3 s3 r3 => h w H3 (s1.trans (s2.trans s3)) r3
    · exact ⟨ρ, H₀, F, δ, .error y, R.mono s1, e2, h⟩
  · exact ⟨ρ, H₀, F, δ, .error x, R, e1, h⟩
theorem de_op {op : Operator} {g : D → D → Option D} {r : R2} (ho : OpR X (binaryOp op) r) (hg : OpD X.K g r) (ha : DE X O E a fa) (hb : DE X O E b fb) : DE X O E (.BinOp a op b pos) (f2 g fa fb) :=
  fun pins s σ H Q I h => pe_op ho ha hb pins s σ H Q I (bin_in hg h)
theorem de_ix {g : D → D → Option D} {r : R2} (ho : IxR X r) (hg : OpD X.K g r) (ha : DE X O E a fa) (hb : DE X O E b fb) (hs : autoParam (PlainIx b) zau6._auto_1) : DE X O E (.Subscript a b pos) (f2 g fa fb) :=
  fun pins s σ H Q I h => pe_ix ho ha hb hs pins s σ H Q I (bin_in hg h)
theorem de_cmp {op : CmpOp} {g : D → D → Option D} {r : R2} (ho : OpR X (compareOp op) r) (hg : OpD X.K g r) (ha : DE X O E a fa) (hb : DE X O E b fb) (hm : behindInMarks op b = false) : DE X O E (.Compare a [op] [b] pos) (f2 g fa fb) :=
  fun pins s σ H Q I h => pe_cmpR ho ha hb hm pins s σ H Q I (bin_in hg h)
theorem dt_cmp {op : CmpOp} {g : D → D → Option D} {r : R2} (ho : OpR X (compareOp op) r) (hg : OpD X.K g r) (ha : DE X O E a fa) (hb : DE X O E b fb) (hm : behindInMarks op b = false) : DT X O E (.Compare a [op] [b] pos) (t2 g fa fb) := by
  rintro pins s σ H Q I ⟨ρ, H₀, F, δ, rr, R, hf, h⟩
  refine pt_cmpR ho ha hb hm pins s σ H Q I (bin_in (r := r) hg ?_)
  have key : ∃ r' : Except XD D, f2 g fa fb δ = some r' ∧ (match r', rr with | .ok d, .ok b => d = .bl b | .error x, .error y => x = y | _, _ => False) := by
    rcases M.b_inv hf with ⟨x, e1, hf⟩ | ⟨x, e1, rfl⟩
    · rcases M.b_inv hf with ⟨y, e2, hf⟩ | ⟨y, e2, rfl⟩
      · unfold f2
        rw [e1, M.b_ok, e2, M.b_ok]
        cases e3 : g x y with
        | none => rw [e3] at hf; cases hf
        | some d =>
          rw [e3] at hf
          cases d with
          | bl k => cases hf; exact ⟨_, rfl, rfl⟩
          | _ => cases hf
      · exact ⟨.error y, by unfold f2; rw [e1, M.b_ok, e2]; rfl, rfl⟩
    · exact ⟨.error x, by unfold f2; rw [e1]; rfl, rfl⟩
  obtain ⟨r', e, q⟩ := key
  refine ⟨ρ, H₀, F, δ, r', R, e, ?_⟩
  cases r' with
  | error x => cases rr with
    | error y => cases q; exact h
    | ok _ => exact q.elim
  | ok d => cases rr with
    | error y => exact q.elim
    | ok k =>
      cases q
      exact fun v H' s' rv => ⟨k, rep_bl.mp rv, h H' s'⟩
theorem un_in {g : D → Option D} {r : V → Hp → VK → Prop} {σ : St} {H : Hp} {Q : VK} (hg : UnD X.K g r) (h : tD X.K O E (f1 g fa) σ H Q) : tUn r (tD X.K O E fa) σ H Q := by
  obtain ⟨ρ, H₀, F, δ, rr, R, hf, h⟩ := h
  rcases M.b_inv hf with ⟨x, e1, hf⟩ | ⟨x, e1, rfl⟩
  · refine ⟨ρ, H₀, F, δ, .ok x, R, e1, fun u H1 s1 r1 => ?_⟩
    obtain ⟨d, hd, rfl⟩ := M.o_inv hf
    exact hg x d hd ρ H1 _ u Q (fun p hp => (R.mono s1).fresh hp) r1 fun w H3 s3 r3 => h w H3 (s1.trans s3) r3
  · exact ⟨ρ, H₀, F, δ, .error x, R, e1, h⟩
theorem de_un {op : UnaryOp} {g : D → Option D} {r : V → Hp → VK → Prop} (ho : UnR X (unaryOp op) r) (hg : UnD X.K g r) (ha : DE X O E a fa) : DE X O E (.UnaryOp op a pos) (f1 g fa) :=
  fun pins s σ H Q I h => pe_un ho ha pins s σ H Q I (un_in hg h)
theorem da_nil : DA X O E [] fNil := by
  rintro p pins s σ H Q I ⟨ρ, H₀, F, δ, r, R, hf, h⟩
  cases hf
  exact pa_nil p pins s σ H Q I (h [] H (Same.refl H) Reps.nil)
theorem da_cons (ha : DE X O E e fa) (hr : DA X O E es fl) (hs : autoParam (starEach (e :: es) X.env = (false, eval e X.env) :: starEach es X.env) zau2._auto_1) : DA X O E (e :: es) (fCons fa fl) := by
  rintro p pins s σ H Q I ⟨ρ, H₀, F, δ, r, R, hf, h⟩
  refine pa_cons ha hr hs p pins s σ H Q I ?_
  rcases M.b_inv hf with ⟨x, e1, hf⟩ | ⟨x, e1, rfl⟩
  · refine ⟨ρ, H₀, F, δ, .ok x, R, e1, fun u H1 s1 r1 => ?_⟩
    rcases M.b_inv hf with ⟨xs, e2, hf⟩ | ⟨y, e2, rfl⟩
    · cases hf
      exact ⟨ρ, H₀, F, δ, .ok xs, R.mono s1, e2, fun vs H2 s2 r2 => h (u :: vs) H2 (s1.trans s2) (Reps.cons (r1.mono (same_hid s2)) r2)⟩
    · exact ⟨ρ, H₀, F, δ, .error y, R.mono s1, e2, h⟩
  · exact ⟨ρ, H₀, F, δ, .error x, R, e1, h⟩
theorem list_in {k : List D → Option D} {r : List V → Hp → VK → Prop} {σ : St} {H : Hp} {Q : VK} (hg : CaD X.K k r) (h : tD X.K O E (fL k fl) σ H Q) : tCB r (tL X.K O E fl) σ H Q := by
  obtain ⟨ρ, H₀, F, δ, rr, R, hf, h⟩ := h
  rcases M.b_inv hf with ⟨x, e1, hf⟩ | ⟨x, e1, rfl⟩
  · refine ⟨ρ, H₀, F, δ, .ok x, R, e1, fun u H1 s1 r1 => ?_⟩
    obtain ⟨d, hd, rfl⟩ := M.o_inv hf
    exact hg x d hd ρ H1 _ u Q (fun p hp => (R.mono s1).fresh hp) r1 fun w H3 s3 r3 => h w H3 (s1.trans s3) r3
  · exact ⟨ρ, H₀, F, δ, .error x, R, e1, h⟩
theorem de_callB {k : List D → Option D} {r : List V → Hp → VK → Prop} {x : Str} {id : String} {p : Pos} (hc : CallR X (.builtin id) r) (hg : CaD X.K k r) (hG : Gl X x) (hm : X.mg x = none) (hv : bootBuiltins x = some (.builtin id)) (ha : DA X O E (e :: es) fl)
    (hn : autoParam (x ≠ "__name__") zau1._auto_1) (hdb : autoParam ((x == ("__debug__" : Str)) = false) zau1._auto_1) (he : autoParam (starEach (e :: es) X.env = (false, eval e X.env) :: starEach es X.env) zau2._auto_1) (hpl : autoParam ((backTo pos (starEach es X.env)).any (·.1) = false) zau2._auto_1) :
    DE X O E (.Call (.Name x p) (e :: es) [] pos) (fL k fl) := fun pins s σ H Q I h => pe_callB hc hG hm hv ha hn hdb he hpl pins s σ H Q I (list_in hg h)
theorem de_callTy {k : List D → Option D} {r : List V → Hp → VK → Prop} {x : Str} {T : String} {p : Pos} (hc : CallR X (.type T) r) (hg : CaD X.K k r) (hG : Gl X x) (hm : X.mg x = none) (hv : bootBuiltins x = some (.type T)) (ha : DA X O E (e :: es) fl)
    (hn : autoParam (x ≠ "__name__") zau1._auto_1) (hdb : autoParam ((x == ("__debug__" : Str)) = false) zau1._auto_1) (he : autoParam (starEach (e :: es) X.env = (false, eval e X.env) :: starEach es X.env) zau2._auto_1) (hpl : autoParam ((backTo pos (starEach es X.env)).any (·.1) = false) zau2._auto_1) :
    DE X O E (.Call (.Name x p) (e :: es) [] pos) (fL k fl) := fun pins s σ H Q I h => pe_callTy hc hG hm hv ha hn hdb he hpl pins s σ H Q I (list_in hg h)
noncomputable def gTupD (xs : List D) : Option D := if xs.length ≤ sizeLine then some (.tup xs) else none
noncomputable def gLstD (xs : List D) : Option D := if xs.length ≤ sizeLine then some (.lst xs) else none
theorem rep_new_tup {ρ : Rho} {K : PySem.W.Frag} {H : Hp} {G : Addr → Bool} {p : Addr} {vs : List V} {ds : List D} (hp : H p = none) (hG : G p = false) (h : Reps ρ K (hid H G) ds vs) : Rep ρ K (hid (upd H p (.tup vs)) G) (.tup ds) (.ref p) :=
  rep_tup.mpr ⟨p, vs, rfl, SqT.of (hid_some.mpr ⟨hG, upd_same⟩), h.mono (same_hid (same_upd hp))⟩
theorem rep_new_lst {ρ : Rho} {K : PySem.W.Frag} {H : Hp} {G : Addr → Bool} {p : Addr} {vs : List V} {ds : List D} (hp : H p = none) (hG : G p = false) (h : Reps ρ K (hid H G) ds vs) : Rep ρ K (hid (upd H p (.lst vs)) G) (.lst ds) (.ref p) :=
  rep_lst.mpr ⟨p, vs, rfl, SqL.of (hid_some.mpr ⟨hG, upd_same⟩), h.mono (same_hid (same_upd hp))⟩
theorem de_tup {x1} (h : DA X O E es fl) : DE X O E (.Tuple es x1 pos) (fL gTupD fl) := by
  rintro pins s σ H Q I ⟨ρ, H₀, F, δ, rr, R, hf, k⟩
  refine pe_tup h pins s σ H Q I ?_
  rcases M.b_inv hf with ⟨x, e1, hf⟩ | ⟨x, e1, rfl⟩
  · refine ⟨ρ, H₀, F, δ, .ok x, R, e1, fun u H1 s1 r1 => ?_⟩
    obtain ⟨d, hd, rfl⟩ := M.o_inv hf
    unfold gTupD at hd
    split at hd
    · rename_i hz
      cases hd
      exact ⟨by rw [r1.length]; exact hz, fun p hp => k _ _ (s1.trans (same_upd hp)) (rep_new_tup hp ((R.mono s1).fresh hp) r1)⟩
    · cases hd
  · exact ⟨ρ, H₀, F, δ, .error x, R, e1, k⟩
theorem de_lst (h : DA X O E es fl) : DE X O E (.List es pos) (fL gLstD fl) := by
  rintro pins s σ H Q I ⟨ρ, H₀, F, δ, rr, R, hf, k⟩
  refine pe_lst h pins s σ H Q I ?_
  rcases M.b_inv hf with ⟨x, e1, hf⟩ | ⟨x, e1, rfl⟩
  · refine ⟨ρ, H₀, F, δ, .ok x, R, e1, fun u H1 s1 r1 => ?_⟩
    obtain ⟨d, hd, rfl⟩ := M.o_inv hf
    unfold gLstD at hd
    split at hd
    · rename_i hz
      cases hd
      exact ⟨by rw [r1.length]; exact hz, fun p hp => k _ _ (s1.trans (same_upd hp)) (rep_new_lst hp ((R.mono s1).fresh hp) r1)⟩
    · cases hd
  · exact ⟨ρ, H₀, F, δ, .error x, R, e1, k⟩
noncomputable def fAnd (fa fb : DSt → M D) : DSt → M D := fun δ => (fa δ).b fun x => match x with
  | .bl true => fb δ
  | .bl false => M.p (.bl false)
  | _ => none
noncomputable def fOr (fa fb : DSt → M D) : DSt → M D := fun δ => (fa δ).b fun x => match x with
  | .bl true => M.p (.bl true)
  | .bl false => fb δ
  | _ => none
noncomputable def gNot : D → Option D
  | .bl b => some (.bl !b)
  | _ => none
noncomputable def tAnd (ta tb : DSt → M Bool) : DSt → M Bool := fun δ => (ta δ).b fun x => if x = true then tb δ else M.p false
noncomputable def tOr (ta tb : DSt → M Bool) : DSt → M Bool := fun δ => (ta δ).b fun x => if x = true then M.p true else tb δ
noncomputable def tNot (ta : DSt → M Bool) : DSt → M Bool := fun δ => (ta δ).b fun x => M.p !x
noncomputable def fIf (tc : DSt → M Bool) (fa fb : DSt → M D) : DSt → M D := fun δ => (tc δ).b fun x => if x = true then fa δ else fb δ
variable {rest : List Expr} {ta tb' tc : DSt → M Bool}
theorem de_one {op} (h : DE X O E a fa) : DE X O E (.BoolOp op [a] pos) fa := fun pins s σ H Q I hw => pe_one h pins s σ H Q I hw
theorem de_and (ha : DE X O E a fa) (hb : DE X O E (.BoolOp .And (b :: rest) pos) fb) : DE X O E (.BoolOp .And (a :: b :: rest) pos) (fAnd fa fb) := by
  rintro pins s σ H Q I ⟨ρ, H₀, F, δ, rr, R, hf, k⟩
  refine pe_and ha hb pins s σ H Q I ?_
  rcases M.b_inv hf with ⟨x, e1, hf⟩ | ⟨x, e1, rfl⟩
  · refine ⟨ρ, H₀, F, δ, .ok x, R, e1, fun u H1 s1 r1 => ?_⟩
    cases x with
    | bl z =>
      refine ⟨z, rep_bl.mp r1, ?_⟩
      cases z with
      | true =>
        refine iteT ⟨ρ, H₀, F, δ, rr, R.mono s1, hf, ?_⟩
        cases rr with
        | ok d => exact fun v H' s' r' => k v H' (s1.trans s') r'
        | error y => exact k
      | false =>
        refine iteF ?_
        cases hf
        exact k _ H1 s1 (rep_bl.mpr rfl)
    | _ => cases hf
  · exact ⟨ρ, H₀, F, δ, .error x, R, e1, k⟩
theorem de_not (ha : DE X O E a fa) : DE X O E (.UnaryOp .Not a pos) (f1 gNot fa) := by
  rintro pins s σ H Q I ⟨ρ, H₀, F, δ, rr, R, hf, k⟩
  refine pe_not ha pins s σ H Q I ?_
  rcases M.b_inv hf with ⟨x, e1, hf⟩ | ⟨x, e1, rfl⟩
  · refine ⟨ρ, H₀, F, δ, .ok x, R, e1, fun u H1 s1 r1 => ?_⟩
    cases x with
    | bl z => cases hf; exact ⟨z, rep_bl.mp r1, k _ H1 s1 (rep_bl.mpr rfl)⟩
    | _ => cases hf
  · exact ⟨ρ, H₀, F, δ, .error x, R, e1, k⟩
noncomputable def DW (X : Cx) (O : List Nat) (E : XK) (e : Expr) (f : DSt → M Bool) : Prop := PW X e (tB X.K O E f)
theorem DW.dt {f : DSt → M Bool} (h : DW X O E e f) : DT X O E e f := PW.pt h
theorem dw_and1 (ha : DT X O E a ta) : DW X O E (.BoolOp .And [a] pos) ta := pw_and1 ha
theorem dw_or1 (ha : DT X O E a ta) : DW X O E (.BoolOp .Or [a] pos) ta := pw_or1 ha
theorem dw_and (ha : DT X O E a ta) (hb : DW X O E (.BoolOp .And (b :: rest) pos) tb') : DW X O E (.BoolOp .And (a :: b :: rest) pos) (tAnd ta tb') := by
  rintro wh pins s σ H Q I ⟨ρ, H₀, F, δ, rr, R, hf, k⟩
  refine pw_and ha hb wh pins s σ H Q I ?_
  rcases M.b_inv hf with ⟨x, e1, hf⟩ | ⟨x, e1, rfl⟩
  · refine ⟨ρ, H₀, F, δ, .ok x, R, e1, fun H1 s1 => ?_⟩
    cases x with
    | true =>
      refine iteT ⟨ρ, H₀, F, δ, rr, R.mono s1, hf, ?_⟩
      cases rr with
      | ok d => exact fun H' s' => k H' (s1.trans s')
      | error y => exact k
    | false => cases hf; exact iteF (k H1 s1)
  · exact ⟨ρ, H₀, F, δ, .error x, R, e1, k⟩
theorem dw_or (ha : DT X O E a ta) (hb : DW X O E (.BoolOp .Or (b :: rest) pos) tb') : DW X O E (.BoolOp .Or (a :: b :: rest) pos) (tOr ta tb') := by
  rintro wh pins s σ H Q I ⟨ρ, H₀, F, δ, rr, R, hf, k⟩
  refine pw_or ha hb wh pins s σ H Q I ?_
  rcases M.b_inv hf with ⟨x, e1, hf⟩ | ⟨x, e1, rfl⟩
  · refine ⟨ρ, H₀, F, δ, .ok x, R, e1, fun H1 s1 => ?_⟩
    cases x with
    | true => cases hf; exact iteT (k H1 s1)
    | false =>
      refine iteF ⟨ρ, H₀, F, δ, rr, R.mono s1, hf, ?_⟩
      cases rr with
      | ok d => exact fun H' s' => k H' (s1.trans s')
      | error y => exact k
  · exact ⟨ρ, H₀, F, δ, .error x, R, e1, k⟩
theorem dt_not (ha : DT X O E a ta) : DT X O E (.UnaryOp .Not a pos) (tNot ta) := by
  rintro pins s σ H Q I ⟨ρ, H₀, F, δ, rr, R, hf, k⟩
  refine pt_not ha pins s σ H Q I ?_
  rcases M.b_inv hf with ⟨x, e1, hf⟩ | ⟨x, e1, rfl⟩
  · cases hf
    exact ⟨ρ, H₀, F, δ, .ok x, R, e1, fun H1 s1 => k H1 s1⟩
  · exact ⟨ρ, H₀, F, δ, .error x, R, e1, k⟩
noncomputable def truD : D → Option Bool
  | .non => some false
  | .bl b => some b
  | .int i => some (i != 0)
  | .str x => if x.length ≤ sizeLine then some ((x.length : Int) != 0) else none
  | .tup xs => some !xs.isEmpty
  | .lst xs => some !xs.isEmpty
  | _ => none
noncomputable def tTru (fa : DSt → M D) : DSt → M Bool := fun δ => (fa δ).b fun x => M.o (truD x)
theorem isE {ρ : Rho} {K : PySem.W.Frag} {H : Hp} {ds : List D} {xs : List V} (h : Reps ρ K H ds xs) : xs.isEmpty = ds.isEmpty := by
  cases ds with
  | nil => rw [reps_nil.mp h]; rfl
  | cons d ds => obtain ⟨v, r, rfl, _⟩ := reps_cons.mp h; rfl
theorem dt_val (ha : DE X O E a fa) (he : autoParam (∀ whole, isTrue a X.env whole = (do let v ← whole; standAt a.pos; holding [v] (truthy v))) zau7._auto_1) : DT X O E a (tTru fa) := by
  rintro pins s σ H Q I ⟨ρ, H₀, F, δ, rr, R, hf, k⟩
  refine pt_truth ha he pins s σ H Q I ?_
  rcases M.b_inv hf with ⟨x, e1, hf⟩ | ⟨x, e1, rfl⟩
  · refine ⟨ρ, H₀, F, δ, .ok x, R, e1, fun u H1 s1 r1 => ?_⟩
    obtain ⟨z, hz, rfl⟩ := M.o_inv hf
    refine ⟨z, ?_, k H1 s1⟩
    cases x with
    | non => cases hz; rw [rep_non.mp r1]; rfl
    | bl y => cases hz; rw [rep_bl.mp r1]; rfl
    | int i => cases hz; rw [rep_int.mp r1]; rfl
    | str y =>
      by_cases hl : y.length ≤ sizeLine
      · have e : truD (.str y) = some ((y.length : Int) != 0) := if_pos hl
        rw [e] at hz; cases hz
        rw [rep_str.mp r1]; exact ⟨hl, rfl⟩
      · have e : truD (.str y) = none := if_neg hl
        rw [e] at hz; cases hz
    | tup ds =>
      cases hz
      obtain ⟨q, xs, rfl, q2, q3⟩ := rep_tup.mp r1
      exact .inr (.inl ⟨xs, same_t same_un q2, by rw [isE q3]⟩)
    | lst ds =>
      cases hz
      obtain ⟨q, xs, rfl, q2, q3⟩ := rep_lst.mp r1
      exact .inl ⟨xs, same_l same_un q2, by rw [isE q3]⟩
    | ty n => cases hz
    | obj n => cases hz
  · exact ⟨ρ, H₀, F, δ, .error x, R, e1, k⟩
end
end DL
namespace DL
open PySem PySem.Spec L2
inductive Out where
  | nx (δ : DSt) | rt (d : D) | bk (δ : DSt) | ct (δ : DSt)
noncomputable def Ok (ρ : Rho) (K : PySem.W.Frag) (O' B : List Nat) (E : XK) (H₀ : Hp) (F : Addr → Bool) (Hv : Hp) (Dn : Ends) : Except XD Out → Prop
  | .ok (.nx δ') => ∀ σ' H', Same Hv (hid H' (fob F σ' O')) → RS ρ K H₀ H' F O' σ' δ' → Dn.nx σ' H'
  | .ok (.rt d) => ∀ v H', Same H₀ H' → Rep ρ K (hid H' F) d v → Dn.rt v H'
  | .ok (.bk δ') => ∀ σ' H', Same Hv (hid H' (fob F σ' B)) → RS ρ K H₀ H' F B σ' δ' → Dn.bk σ' H'
  | .ok (.ct δ') => ∀ σ' H', Same Hv (hid H' (fob F σ' B)) → RS ρ K H₀ H' F B σ' δ' → Dn.ct σ' H'
  | .error x => okX K H₀ E x
inductive sD (K : PySem.W.Frag) (O O' B : List Nat) (E : XK) (g : DSt → M Out) (Dn : Ends) (σ : St) (H : Hp) : Prop
  | mk (ρ : Rho) (H₀ : Hp) (F : Addr → Bool) (δ : DSt) (r : Except XD Out) (R : RS ρ K H₀ H F O σ δ) (hf : g δ = some r) (k : Ok ρ K O' B E H₀ F (hid H (fob F σ O)) Dn r)
noncomputable def DS (X : Cx) (O O' B : List Nat) (E : XK) (st : Stmt) (g : DSt → M Out) : Prop := PS X st (sD X.K O O' B E g)
noncomputable def DSs (X : Cx) (O O' B : List Nat) (E : XK) (st : List Stmt) (g : DSt → M Out) : Prop := PSs X st (sD X.K O O' B E g)
theorem Ok.back {ρ : Rho} {K : PySem.W.Frag} {O' B : List Nat} {E : XK} {H₀ : Hp} {F : Addr → Bool} {Hv Hv' : Hp} {Dn : Ends} {r : Except XD Out} (e : Same Hv Hv') (h : Ok ρ K O' B E H₀ F Hv Dn r) : Ok ρ K O' B E H₀ F Hv' Dn r := by
  cases r with
  | error x => exact h
  | ok o =>
    cases o with
    | nx δ' => exact fun σ' H' f => h σ' H' (e.trans f)
    | bk δ' => exact fun σ' H' f => h σ' H' (e.trans f)
    | ct δ' => exact fun σ' H' f => h σ' H' (e.trans f)
    | rt d => exact h
noncomputable def gNx : DSt → M Out := fun δ => M.p (.nx δ)
noncomputable def gSeq (g1 g2 : DSt → M Out) : DSt → M Out := fun δ => (g1 δ).b fun o => match o with
  | .nx δ' => g2 δ'
  | o => M.p o
noncomputable def gSet (i : Nat) (f : DSt → M D) : DSt → M Out := fun δ => (f δ).b fun d => M.p (.nx (δ.set i (some d)))
noncomputable def gRet (f : DSt → M D) : DSt → M Out := fun δ => (f δ).b fun d => M.p (.rt d)
noncomputable def gDrop (f : DSt → M D) : DSt → M Out := fun δ => (f δ).b fun _ => M.p (.nx δ)
noncomputable def gIf (t : DSt → M Bool) (g1 g2 : DSt → M Out) : DSt → M Out := fun δ => (t δ).b fun b => if b = true then g1 δ else g2 δ
noncomputable def gBrk : DSt → M Out := fun δ => M.p (.bk δ)
noncomputable def gCnt : DSt → M Out := fun δ => M.p (.ct δ)
noncomputable def gApp (i : Nat) (f : DSt → M D) : DSt → M Out := fun δ => (f δ).b fun d => match (δ[i]?).join with
  | some (.lst ds) => if ds.length < sizeLine then M.p (.nx (δ.set i (some (.lst (ds ++ [d]))))) else none
  | _ => none
noncomputable def forD (g : DSt → M Out) (tg : D → DSt → Option DSt) : List D → DSt → M Out
  | [], δ => M.p (.nx δ)
  | d :: ds, δ => match tg d δ with
    | none => none
    | some δ1 => (g δ1).b fun o => match o with
      | .nx δ' => forD g tg ds δ'
      | .ct δ' => forD g tg ds δ'
      | .bk δ' => M.p (.nx δ')
      | .rt v => M.p (.rt v)
noncomputable def gFor (fi : DSt → M (List D)) (tg : D → DSt → Option DSt) (g : DSt → M Out) : DSt → M Out := fun δ => (fi δ).b fun ds => forD g tg ds δ
section
variable {ρ : Rho} {X : Cx} {O O' O'' B : List Nat} {E : XK} {a b c e : Expr} {es : List Expr} {fa fb fc : DSt → M D} {fl : DSt → M (List D)} {pos : Pos} {st : Stmt} {rest : List Stmt} {g g1 g2 : DSt → M Out} {tc : DSt → M Bool}
theorem dss_nil : DSs X O O B E [] gNx := by
  rintro pins s σ H Dn I ⟨ρ, H₀, F, δ, r, R, hf, h⟩
  cases hf
  exact pss_nil pins s σ H Dn I (h σ H (Same.refl _) R)
theorem dss_cons (h1 : DS X O O' B E st g1) (h2 : DSs X O' O'' B E rest g2) : DSs X O O'' B E (st :: rest) (gSeq g1 g2) := by
  rintro pins s σ H Dn I ⟨ρ, H₀, F, δ, r, R, hf, h⟩
  refine pss_cons h1 h2 pins s σ H Dn I ?_
  rcases M.b_inv hf with ⟨o, e1, hf⟩ | ⟨x, e1, rfl⟩
  · refine ⟨ρ, H₀, F, δ, .ok o, R, e1, ?_⟩
    cases o with
    | nx δ' => exact fun σ' H' f R' => ⟨ρ, H₀, F, δ', r, R', hf, h.back f⟩
    | rt d => cases hf; exact h
    | bk δ' => cases hf; exact h
    | ct δ' => cases hf; exact h
  · exact ⟨ρ, H₀, F, δ, .error x, R, e1, h⟩
theorem dss_one (h1 : DS X O O' B E st g) : DSs X O O' B E [st] g := fun pins s σ H Dn I h => pss_one h1 pins s σ H Dn I h
theorem dss_pre {sts : List Stmt} (hO : ∀ i ∈ O', i ∈ O) (h : DSs X O' O'' B E sts g) : DSs X O O'' B E sts g := by
  rintro pins s σ H Dn I ⟨ρ, H₀, F, δ, r, R, hf, k⟩
  refine h pins s σ H Dn I ⟨ρ, H₀, F, δ, r, R.thaw hO, hf, k.back (hid_le fun b q => ?_)⟩
  rcases fob_t.mp q with q | ⟨i, hi, q⟩
  · exact fob_t.mpr (.inl q)
  · exact fob_t.mpr (.inr ⟨i, hO i hi, q⟩)
theorem le_own {F : Addr → Bool} {σ : St} {O O' : List Nat} (hO : ∀ i ∈ O', i ∈ O) : ∀ b, fob F σ O' b = true → fob F σ O b = true := fun b q => by
  rcases fob_t.mp q with q | ⟨i, hi, q⟩
  · exact fob_t.mpr (.inl q)
  · exact fob_t.mpr (.inr ⟨i, hO i hi, q⟩)
theorem same_fob {F : Addr → Bool} {σ : St} {H H' : Hp} {i : Nat} {v : V} (ho : i ∉ O) (s1 : Same H H') : Same (hid H (fob F σ O)) (hid H' (fob F (σ.set i (some v)) O)) := by
  rw [ownA_set ho]; exact same_hid s1
theorem ds_set {i : Nat} {x : Str} {pos' : Pos} (hN : X.N.Nodup) (he : DE X O E e fa) (ho : autoParam (O.contains i = false) zau2._auto_1) (hi : autoParam (X.N[i]? = some x) zau2._auto_1) (hx : autoParam (Loc X.env.scope x) zau8._auto_1) (hs : autoParam (swapsWith e (some (.Name x pos')) pos.line X.env = pure false) zau2._auto_1)
    (hf : autoParam (X.fn x = true ∨ X.env.scope.names.lookup x = some .local) zau0._auto_1) : DS X O O B E (.Assign [.Name x pos'] e pos) (gSet i fa) := by
  rintro pins s σ H Dn I ⟨ρ, H₀, F, δ, r, R, hg, k⟩
  have ho' : i ∉ O := fun z => by rw [List.contains_iff_mem.mpr z] at ho; cases ho
  refine ps_set hN hi hx he hs hf pins s σ H Dn I ?_
  rcases M.b_inv hg with ⟨d, e1, hg⟩ | ⟨y, e1, rfl⟩
  · cases hg
    exact ⟨ρ, H₀, F, δ, .ok d, R, e1, fun v H' s' r' => k _ H' (same_fob ho' s') ((R.mono s').set ho' r')⟩
  · exact ⟨ρ, H₀, F, δ, .error y, R, e1, k⟩
theorem ds_own {i : Nat} {x : Str} {pos' pos2 : Pos} (hN : X.N.Nodup) (h : DA X O E es fl) (ho : autoParam (O.contains i = false) zau2._auto_1) (hi : autoParam (X.N[i]? = some x) zau2._auto_1) (hx : autoParam (Loc X.env.scope x) zau8._auto_1) (hs : autoParam (swapsWith (.List es pos2) (some (.Name x pos')) pos.line X.env = pure false) zau2._auto_1)
    (hf : autoParam (X.fn x = true ∨ X.env.scope.names.lookup x = some .local) zau0._auto_1) : DS X O (i :: O) B E (.Assign [.Name x pos'] (.List es pos2) pos) (gSet i (fL gLstD fl)) := by
  rintro pins s σ H Dn I ⟨ρ, H₀, F, δ, r, R, hg, k⟩
  have ho' : i ∉ O := fun z => by rw [List.contains_iff_mem.mpr z] at ho; cases ho
  have hl : i < δ.length := by rw [← R.len, I.len]; exact (List.getElem?_eq_some_iff.mp hi).1
  refine ps_set hN hi hx (pe_lst h) hs hf pins s σ H Dn I ?_
  rcases M.b_inv hg with ⟨d, e1, hg⟩ | ⟨y, e1, rfl⟩
  · cases hg
    rcases M.b_inv e1 with ⟨ds, e1, hd⟩ | ⟨y, e1, z⟩
    · refine ⟨ρ, H₀, F, δ, .ok ds, R, e1, fun vs H1 s1 r1 => ?_⟩
      obtain ⟨d', hd', z⟩ := M.o_inv hd
      cases z
      unfold gLstD at hd'
      split at hd'
      · rename_i hz
        cases hd'
        refine ⟨by rw [r1.length]; exact hz, fun p hp => ?_⟩
        refine k _ _ ?_ (R.take ho' hl s1 hp r1)
        have pf := (R.mono s1).fresh hp
        have lσ : i < σ.length := by rw [R.len]; exact hl
        intro b o q
        obtain ⟨q1, q2⟩ := hid_some.mp q
        have q3 := s1 b o q2
        have hb : b ≠ p := ne_of_none q3 hp
        refine hid_some.mpr ⟨?_, by rw [upd_ne hb]; exact q3⟩
        cases z : fob F (σ.set i (some (.ref p))) (i :: O) b with
        | false => rfl
        | true =>
          rcases fob_t.mp z with z | ⟨j, hj, z⟩
          · rw [fob_t.mpr (.inl z)] at q1; cases q1
          · rcases List.mem_cons.mp hj with rfl | hj
            · rw [List.getElem?_set_self lσ] at z
              cases z
              exact absurd rfl hb
            · rw [List.getElem?_set_ne (by rintro rfl; exact ho' hj)] at z
              rw [fob_t.mpr (.inr ⟨j, hj, z⟩)] at q1; cases q1
      · cases hd'
    · cases z
  · rcases M.b_inv e1 with ⟨ds, e1, hd⟩ | ⟨y', e1, z⟩
    · obtain ⟨_, _, z⟩ := M.o_inv hd
      cases z
    · cases z
      exact ⟨ρ, H₀, F, δ, .error _, R, e1, k⟩
theorem ds_ret (he : DE X O E e fa) : DS X O O' B E (.Return (some e) pos) (gRet fa) := by
  rintro pins s σ H Dn I ⟨ρ, H₀, F, δ, r, R, hg, k⟩
  refine ps_ret he pins s σ H Dn I ?_
  rcases M.b_inv hg with ⟨d, e1, hg⟩ | ⟨y, e1, rfl⟩
  · cases hg
    exact ⟨ρ, H₀, F, δ, .ok d, R, e1, fun v H' s' r' => k v H' (R.same.trans s') (r'.mono (hid_le fun b q => fob_t.mpr (.inl q)))⟩
  · exact ⟨ρ, H₀, F, δ, .error y, R, e1, k⟩
theorem ds_if {s1 s2 : List Stmt} (hc : DT X O E c tc) (h1 : DSs X O O' B E s1 g1) (h2 : DSs X O O' B E s2 g2) : DS X O O' B E (.If c s1 s2 pos) (gIf tc g1 g2) := by
  rintro pins s σ H Dn I ⟨ρ, H₀, F, δ, r, R, hg, k⟩
  refine ps_if hc h1 h2 pins s σ H Dn I ?_
  rcases M.b_inv hg with ⟨z, e1, hg⟩ | ⟨y, e1, rfl⟩
  · refine ⟨ρ, H₀, F, δ, .ok z, R, e1, fun H1 s1 => ?_⟩
    cases z with
    | true => exact iteT ⟨ρ, H₀, F, δ, r, R.mono s1, hg, k.back (same_hid s1)⟩
    | false => exact iteF ⟨ρ, H₀, F, δ, r, R.mono s1, hg, k.back (same_hid s1)⟩
  · exact ⟨ρ, H₀, F, δ, .error y, R, e1, k⟩
theorem ds_app {i : Nat} {x : Str} {p1 p2 p3 : Pos} (ho : O.contains i = true) (he : DE X O E e fa) (hi : autoParam (X.N[i]? = some x) zau2._auto_1) (hv : autoParam (Vis X.env.scope x) zau5._auto_1)
    (hd : autoParam ((x == ("__debug__" : Str)) = false) zau1._auto_1) (hcd : autoParam ((x == ("__classdict__" : Str)) = false) zau1._auto_1) (hbase : autoParam (attributeBase (.Name x p1) "append" X.env (eval (.Name x p1) X.env) = eval (.Name x p1) X.env) zau2._auto_1)
    (hfew : ((backTo p3 (starEach [e] X.env)).all (fun x => !x.1) && (backToKw p3 (keywordEach [] X.env)).all (fun x => x.1.isSome)
      && decide ([e].length + ([] : List Keyword).length + (if ([] : List Keyword).isEmpty then 0 else 1) < 30)) = true := by rfl)
    (hline : autoParam ((p2.endLine == p3.line) = true) zau2._auto_1) (hs : autoParam (starEach [e] X.env = [(false, eval e X.env)]) zau2._auto_1) (hsw : autoParam (swapsWith (.Call (.Attribute (.Name x p1) "append" p2) [e] [] p3) none pos.line X.env = pure false) zau2._auto_1) :
    DS X O O B E (.Expr (.Call (.Attribute (.Name x p1) "append" p2) [e] [] p3) pos) (gApp i fa) := by
  rintro pins s σ H Dn I ⟨ρ, H₀, F, δ, r, R, hg, k⟩
  have ho' : i ∈ O := List.contains_iff_mem.mp ho
  obtain ⟨l, xs0, ds0, q1, q2, q3, q4, q5⟩ := R.own i ho'
  refine ps_expr (pe_bm PySem.F.plainAttrs_list PySem.F.slot_list_append PySem.F.type_list_append mt_append (pe_var hi hv hd hcd) (pa_cons he pa_nil hs) hbase hfew hline hs rfl) hsw pins s σ H Dn I ?_
  refine ⟨.ref l, q2, .inl ⟨rfl, _, SqL.of q3⟩, ?_⟩
  rcases M.b_inv hg with ⟨d, e1, hg⟩ | ⟨y, e1, rfl⟩
  · refine ⟨ρ, H₀, F, δ, .ok d, R, e1, fun v H1 s1 r1 => ?_⟩
    have hj : (δ[i]?).join = some (.lst ds0) := by rw [q1]; rfl
    rw [hj] at hg
    dsimp only at hg
    split at hg
    · rename_i hz
      cases hg
      have R1 := R.mono s1
      obtain ⟨l', xs, ds, p1, p2, p3, p4, p5⟩ := R1.own i ho'
      rw [q2] at p2; cases p2
      rw [q1] at p1; cases p1
      refine ⟨l, xs, v, rfl, rfl, p3, by rw [p5.length]; exact hz, ?_⟩
      refine k σ _ ?_ (R1.write ho' q2 (p5.append (Reps.cons r1 Reps.nil)))
      rw [hid_upd (fob_t.mpr (.inr ⟨i, ho', q2⟩))]
      exact same_hid s1
    · cases hg
  · exact ⟨ρ, H₀, F, δ, .error y, R, e1, k⟩
inductive tG (K : PySem.W.Frag) (O : List Nat) (h : D → DSt → Option DSt) (v : V) (σ : St) (H : Hp) (Q : St → Hp → Prop) : Prop
  | mk (ρ : Rho) (H₀ : Hp) (F : Addr → Bool) (δ : DSt) (d : D) (δ' : DSt) (R : RS ρ K H₀ H F O σ δ) (hr : Rep ρ K (hid H (fob F σ O)) d v) (hf : h d δ = some δ') (k : ∀ σ', fob F σ' O = fob F σ O → RS ρ K H₀ H F O σ' δ' → Q σ' H)
noncomputable def DG (X : Cx) (O : List Nat) (tg : Expr) (h : D → DSt → Option DSt) : Prop := PG X tg (tG X.K O h)
noncomputable def gName (i : Nat) : D → DSt → Option DSt := fun d δ => some (δ.set i (some d))
noncomputable def gTup2 (i j : Nat) : D → DSt → Option DSt := fun d δ => match d with
  | .tup [x, y] => some ((δ.set i (some x)).set j (some y))
  | _ => none
theorem dg_name {i : Nat} {x : Str} (hN : X.N.Nodup) (ho : autoParam (O.contains i = false) zau2._auto_1) (hi : autoParam (X.N[i]? = some x) zau2._auto_1) (hx : autoParam (Loc X.env.scope x) zau8._auto_1)
    (hf : autoParam (X.fn x = true ∨ X.env.scope.names.lookup x = some .local) zau0._auto_1) : DG X O (.Name x pos) (gName i) := by
  rintro pins s σ H v u Q I r ⟨ρ, H₀, F, δ, d, δ', R, rd, e, k⟩
  have ho' : i ∉ O := fun z => by rw [List.contains_iff_mem.mpr z] at ho; cases ho
  cases e
  exact pg_name hN hi hx hf pins s σ H v u Q I r (k _ (ownA_set ho') (R.set ho' rd))
noncomputable def ItD (ρ : Rho) (K : PySem.W.Frag) (J : It) (ds : List D) (Hv : Hp) : Prop := ∀ (H' : Hp) (G' : Addr → Bool) (i : Nat), Same Hv (hid H' G') → (∀ p, H' p = none → G' p = false) →
  (i < ds.length → J.go i H' ∧ ∀ x H2, J.yld i H' x H2 → Same H' H2 ∧ ∃ d, ds[i]? = some d ∧ Rep ρ K (hid H2 G') d x) ∧ (i = ds.length → J.stop i H')
inductive tI (K : PySem.W.Frag) (O : List Nat) (E : XK) (f : DSt → M (List D)) (σ : St) (H : Hp) (Q : It → Hp → Prop) : Prop
  | mk (ρ : Rho) (H₀ : Hp) (F : Addr → Bool) (δ : DSt) (r : Except XD (List D)) (R : RS ρ K H₀ H F O σ δ) (hf : f δ = some r) (k : match (generalizing := false) r with
    | .ok ds => ∀ J H', Same H H' → ItD ρ K J ds (hid H' (fob F σ O)) → Q J H'
    | .error x => okX K H₀ E x)
noncomputable def DI (X : Cx) (O : List Nat) (E : XK) (tg iter : Expr) (f : DSt → M (List D)) : Prop := PI X tg iter (tI X.K O E f)
theorem ds_for {tg iter : Expr} {body : List Stmt} {fi : DSt → M (List D)} {h : D → DSt → Option DSt} (hp : PassesOwn (model X.prog X.w) X.A X.env X.xe) (hc : X.calm = true) (hi : DI X O E tg iter fi) (hg : DG X O tg h) (hb : DSs X O O O E body g)
    (hs : autoParam (∀ x, foldedSetIterable iter X.env x = pure x) zau4._auto_1) : DS X O O B E (.For tg iter body [] pos) (gFor fi h g) := by
  rintro pins s σ H Dn I ⟨ρ, H₀, F, δ, r, R, hgf, k⟩
  refine ps_for hp hc hi hg hb hs pins s σ H Dn I ?_
  rcases M.b_inv hgf with ⟨ds, e1, hgf⟩ | ⟨y, e1, rfl⟩
  · refine ⟨ρ, H₀, F, δ, .ok ds, R, e1, fun J H1 s1 it => ?_⟩
    refine ⟨fun i m σ' H' => m = ds.length - i ∧ i ≤ ds.length ∧ ∃ δ', RS ρ X.K H₀ H' F O σ' δ' ∧ Same (hid H1 (fob F σ O)) (hid H' (fob F σ' O)) ∧ forD g h (ds.drop i) δ' = some r, ⟨ds.length, by simp, Nat.zero_le _, δ, R.mono s1, Same.refl _, hgf⟩, ?_⟩
    rintro i m σ' H' ⟨rfl, hil, δ', R', f', hr⟩
    obtain ⟨j1, j2⟩ := it H' (fob F σ' O) i f' (fun p hp => R'.fresh hp)
    by_cases hlt : i < ds.length
    · obtain ⟨go, yld⟩ := j1 hlt
      refine .inr ⟨go, fun σ2 H2 => ∃ δ2, RS ρ X.K H₀ H2 F O σ2 δ2 ∧ Same (hid H1 (fob F σ O)) (hid H2 (fob F σ2 O)) ∧ forD g h (ds.drop (i + 1)) δ2 = some r, fun σ2 H2 ⟨δ2, a1, a2, a3⟩ => ⟨ds.length - (i + 1), by omega, rfl, hlt, δ2, a1, a2, a3⟩, fun x H2 y => ?_⟩
      obtain ⟨s2, d, hd, rd⟩ := yld x H2 y
      have hdr : ds.drop i = d :: ds.drop (i + 1) := by
        rw [List.drop_eq_getElem_cons hlt]
        have : ds[i] = d := by rw [List.getElem?_eq_getElem hlt] at hd; exact Option.some.inj hd
        rw [this]
      rw [hdr] at hr
      unfold forD at hr
      cases e2 : h d δ' with
      | none => rw [e2] at hr; cases hr
      | some δ1 =>
        rw [e2] at hr
        dsimp only at hr
        have f2 : Same (hid H1 (fob F σ O)) (hid H2 (fob F σ' O)) := f'.trans (same_hid s2)
        refine ⟨ρ, H₀, F, δ', d, δ1, R'.mono s2, rd, e2, fun σ3 ef R3 => ?_⟩
        rcases M.b_inv hr with ⟨o, e3, hr⟩ | ⟨y, e3, rfl⟩
        · refine ⟨ρ, H₀, F, δ1, .ok o, R3, e3, ?_⟩
          rw [ef]
          cases o with
          | nx δ4 => exact fun σ4 H4 f4 R4 => ⟨δ4, R4, f2.trans f4, hr⟩
          | ct δ4 => exact fun σ4 H4 f4 R4 => ⟨δ4, R4, f2.trans f4, hr⟩
          | bk δ4 => cases hr; exact fun σ4 H4 f4 R4 => k σ4 H4 ((same_hid s1).trans (f2.trans f4)) R4
          | rt v => cases hr; exact k
        · exact ⟨ρ, H₀, F, δ1, .error y, R3, e3, k⟩
    · have ei : i = ds.length := by omega
      subst ei
      rw [List.drop_length] at hr
      cases hr
      exact .inl ⟨j2 rfl, k σ' H' ((same_hid s1).trans f') R'⟩
  · exact ⟨ρ, H₀, F, δ, .error y, R, e1, k⟩
end
end DL
namespace L2
open PySem PySem.Spec PyProof.Rows
noncomputable def iSeq (K : PySem.W.Frag) (tl : TE) : TI := fun σ H R => tl σ H fun x H1 => (∃ a, x = .ref a ∧ (∃ xs, SqL K H1 a xs) ∧ R (Itl K a) H1) ∨ (∃ a, x = .ref a ∧ (∃ xs, SqT K H1 a xs) ∧ R (Itt K a) H1)
theorem pi_seq {X : Cx} {tg l : Expr} {tl : TE} (hl : PE X l tl) : PI X tg l (iSeq X.K tl) := by
  intro pins s σ H R I h
  refine thn (hl pins s σ H _ I h) fun v s1 hzz => ?_
  obtain ⟨x, H1, I1, r1, q1⟩ := hzz
  have fp1 : ∀ b ∈ [s1.heap.objs.size], FpOk X pins H1 b := fun b hb => by
    have e : b = s1.heap.objs.size := by simpa using hb
    subst e
    exact I1.fpOk (Nat.le_refl _) (I1.hok.fresh (Nat.le_refl _))
  rcases q1 with ⟨a, e, ⟨xs, hq⟩, q⟩ | ⟨a, e, ⟨xs, hq⟩, q⟩
  · subst e
    cases r1
    obtain ⟨its, rv, p, hz⟩ := I1.list hq
    exact wpAny_pyIter_list p.isList ⟨s1.heap.objs.size, [s1.heap.objs.size], _, _, H1, rfl, I1.kept (t' := s1.toks) fun b o e => Heap.get?_push_of_some _ e, turn_list a _, ⟨_, Heap.get?_push_size _ rfl, rfl, rfl⟩, fp1, q⟩
  · subst e
    cases r1
    obtain ⟨its, rv, p, hz⟩ := I1.tuple hq
    exact wpAny_pyIter_tuple (show s1.heap.IsTuple a its.toArray from p) ⟨s1.heap.objs.size, [s1.heap.objs.size], _, _, H1, rfl, I1.kept (t' := s1.toks) fun b o e => Heap.get?_push_of_some _ e, turn_tuple a _, ⟨_, Heap.get?_push_size _ rfl, rfl, rfl⟩, fp1, q⟩
noncomputable def Itv (val : Nat → V) (n : Nat) : It := ⟨fun i _ => i < n, fun i H x H' => H' = H ∧ x = val i, fun i _ => i = n⟩
noncomputable def plainIter (nm : String) : Bool := !["enumerate", "zip", "dict_itemiterator", "dict_reverseitemiterator", "odict_iterator", "itertools.zip_longest", "itertools.pairwise"].contains nm
theorem turn_walk {P : Program} {w : World} {K : PySem.W.Frag} {tg : Expr} (it : Addr) (val : Nat → V) (n : Nat) (Stn : Nat → Heap → Prop) (W : ∀ A : Around, A.handled = none → Walks P w A it [it] [it] n (fun i v => RelV (val i) v) Stn)
    (ob : ∀ i h, Stn i h → ∃ o nm vs, h.get? it = some o ∧ o.cls = .type nm ∧ o.data = .fields vs ∧ plainIter nm = true)
    (sf : ∀ (A : Around) (i : Nat) (s : Shared) (Q : Value → Shared → Prop) (E : Value → Shared → Prop), Stn i s.heap → Q (.ref it) s → wpAny (model P w) A (pyIter (.ref it)) Q E s) : Turn P w K tg (Itv val n) [it] it Stn where
  mem := by simp
  obj := fun i h st b hb => by
    have e : b = it := by simpa using hb
    subst e
    obtain ⟨o, nm, vs, q1, _, q3, _⟩ := ob i h st
    exact ⟨o, q1, fun v z => by rw [q3] at z; cases z⟩
  keep := fun i h h' st k => (W { handled := none, frames := some [] } rfl).frame i h h' st k
  item := by
    intro X hP hw hK hc i pins s σ H E I hf st hg
    subst hP hw hK
    refine (W X.A (I.ok.hd hc)).item i s _ _ hg st fun v h' tk hv st' kk => ⟨v, rfl, ?_⟩
    obtain ⟨o, nm, vs, q1, q2, q3, q4⟩ := ob _ _ st'
    have I1 : Inv X pins σ H { s with heap := h', toks := tk } := I.spun0 hf kk
    exact go_of (s := { s with heap := h', toks := tk }) q1 q2 q3 (by unfold plainIter at q4; simpa using q4) ⟨val i, H, I1, hv, ⟨rfl, rfl⟩, st', fun b hb => (hf b hb).1⟩
  done := by
    intro X hP hw hK hc i pins s σ H E I hf st hg
    subst hP hw hK
    have hg' : i = n := hg
    subst hg'
    exact (W X.A (I.ok.hd hc)).done s _ _ st fun h' tk kk => ⟨rfl, I.spun0 hf kk⟩
  self := fun A i s Q E st h => sf A i s Q E st h
section
variable {X : Cx} {tg : Expr}
theorem range_any {pins : List (Addr × Obj)} {σ : St} {H : Hp} {s : Shared} {R : It → Hp → Prop} {E : Value → Shared → Prop} {lo hi st : Int} {t u v : Tok} {tk : Nat} (I : Inv X pins σ H s) (hst : st = 1)
    (q : R (Itv (fun i => .int (lo + (i : Nat) * st)) (Builtin.Range.rangeSize lo hi st).toNat) H) : wpAny (model X.prog X.w) X.A (pyIter (.ref s.heap.objs.size)) (PIE X pins σ tg R) E { s with heap := s.heap.push { cls := .type "range", data := .fields #[.int lo t, .int hi u, .int st v] }, toks := tk } := by
  have I1 : Inv X pins σ H { s with heap := s.heap.push { cls := .type "range", data := .fields #[.int lo t, .int hi u, .int st v] }, toks := tk } := I.kept fun b o e => Heap.get?_push_of_some _ e
  subst hst
  have hn : 0 ≤ Builtin.Range.rangeSize lo hi 1 := by rw [rangeSize_one]; split <;> omega
  generalize hN : (Builtin.Range.rangeSize lo hi 1).toNat = N at q
  have hN' : Builtin.Range.rangeSize lo hi 1 = (N : Int) := by omega
  have fpk : ∀ b ∈ [(s.heap.push { cls := .type "range", data := .fields #[.int lo t, .int hi u, .int 1 v] }).objs.size], FpOk X pins H b := fun b hb => by
    have e : b = (s.heap.push { cls := .type "range", data := .fields #[.int lo t, .int hi u, .int 1 v] }).objs.size := by simpa using hb
    subst e
    exact I1.fpOk (Nat.le_refl _) (I1.hok.fresh (Nat.le_refl _))
  by_cases hsm : Builtin.Range.small lo hi 1 = true
  · refine wpAny_pyIter_range (IsRange.new ..) hsm ?_
    refine ⟨_, [_], _, _, H, rfl, I1.kept (t' := tk) fun b o e => Heap.get?_push_of_some _ e, turn_walk _ _ N _ (fun A hA => Walks.range hA _ lo 1 N) (fun i h e => ⟨_, _, _, e, rfl, rfl, rfl⟩) (fun A i s Q E e h => wpAny_pyIter_rangeiter e h), ?_, fpk, q⟩
    show IsRangeIter _ _ (lo + ((0 : Nat) : Int) * 1) ((N : Int) - ((0 : Nat) : Int)) 1
    rw [← hN']
    have e1 : lo + ((0 : Nat) : Int) * 1 = lo := by simp
    have e2 : Builtin.Range.rangeSize lo hi 1 - ((0 : Nat) : Int) = Builtin.Range.rangeSize lo hi 1 := by simp
    rw [e1, e2]
    exact Heap.get?_push_size _ rfl
  · refine wpAny_pyIter_longrange (IsRange.new ..) (by simpa using hsm) ?_
    refine ⟨_, [_], _, _, H, rfl, I1.kept (t' := tk) fun b o e => Heap.get?_push_of_some _ e, turn_walk _ _ N _ (fun A hA => Walks.longrange hA _ lo 1 N) (fun i h e => ⟨_, _, _, e, rfl, rfl, rfl⟩) (fun A i s Q E e h => wpAny_pyIter_longiter e h), ?_, fpk, q⟩
    show IsLongIter _ _ (lo + ((0 : Nat) : Int) * 1) ((N : Int) - ((0 : Nat) : Int)) 1
    rw [← hN']
    have e1 : lo + ((0 : Nat) : Int) * 1 = lo := by simp
    have e2 : Builtin.Range.rangeSize lo hi 1 - ((0 : Nat) : Int) = Builtin.Range.rangeSize lo hi 1 := by simp
    rw [e1, e2]
    exact Heap.get?_push_size _ rfl
noncomputable def iRgA (ta : TA) : TI := fun σ H R => ta σ H fun vs H1 => (∃ j : Int, vs = [.int j] ∧ R (Itv (fun i => .int (0 + (i : Nat) * 1)) (Builtin.Range.rangeSize 0 j 1).toNat) H1) ∨
  (∃ i j : Int, vs = [.int i, .int j] ∧ R (Itv (fun n => .int (i + (n : Nat) * 1)) (Builtin.Range.rangeSize i j 1).toNat) H1)
theorem pi_range {a : Expr} {es : List Expr} {ta : TA} {p pos : Pos} (hg : Gl X "range") (hm : X.mg "range" = none) (ha : PA X (a :: es) ta) (hs : autoParam (starEach (a :: es) X.env = (false, eval a X.env) :: starEach es X.env) zau2._auto_1) (hp : autoParam ((backTo pos (starEach es X.env)).any (·.1) = false) zau2._auto_1) :
    PI X tg (.Call (.Name "range" p) (a :: es) [] pos) (iRgA ta) := by
  intro pins s σ H R I h
  refine Call_ (ld_blt I hg hm boot_range (PyProof.Rows.callWith_type1 (thn (ha pos pins s σ H _ I h) fun us s1 hzz => ?_) hs hp))
  obtain ⟨vs, H1, I1, r1, q1⟩ := hzz
  rcases q1 with ⟨j, e, q⟩ | ⟨i, j, e, q⟩
  · subst e
    obtain ⟨u, rfl, t, rfl⟩ := r1.one
    exact call_range_1 (range_any I1 rfl q)
  · subst e
    obtain ⟨u, v, rfl, ⟨t, rfl⟩, ⟨t', rfl⟩⟩ := r1.two
    exact call_range_2 (range_any I1 rfl q)
end
end L2
namespace DL
open PySem PySem.Spec L2
noncomputable def seqD : D → Option (List D)
  | .lst ds => some ds
  | .tup ds => some ds
  | _ => none
noncomputable def iSeqD (f : DSt → M D) : DSt → M (List D) := fun δ => (f δ).b fun d => M.o (seqD d)
noncomputable def rangeD (lo : Int) (n : Nat) : List D := (List.range n).map fun i => .int (lo + (i : Nat))
noncomputable def rangeArgs : List D → Option (List D)
  | [.int j] => some (rangeD 0 j.toNat)
  | [.int i, .int j] => some (rangeD i (j - i).toNat)
  | _ => none
noncomputable def zipD : List D → List D → List D
  | x :: xs, y :: ys => .tup [x, y] :: zipD xs ys
  | _, _ => []
noncomputable def zipArgs : List D → Option (List D)
  | [x, y] => match seqD x, seqD y with
    | some xs, some ys => some (zipD xs ys)
    | _, _ => none
  | _ => none
noncomputable def enumD : Int → List D → List D
  | _, [] => []
  | k, d :: ds => .tup [.int k, d] :: enumD (k + 1) ds
noncomputable def enumArgs : List D → Option (List D)
  | [.lst xs] => some (enumD 0 xs)
  | _ => none
noncomputable def iArgs (k : List D → Option (List D)) (f : DSt → M (List D)) : DSt → M (List D) := fun δ => (f δ).b fun ds => M.o (k ds)
section
variable {ρ : Rho} {X : Cx} {O : List Nat} {E : XK} {a b tg iter e elt : Expr} {es : List Expr} {fa : DSt → M D} {fl : DSt → M (List D)} {pos p : Pos}
theorem sqv_t {K : PySem.W.Frag} {H : Hp} {l : Addr} {xs : List V} : SqV true K H l xs ↔ SqT K H l xs := Iff.rfl
theorem sqv_l {K : PySem.W.Frag} {H : Hp} {l : Addr} {xs : List V} : SqV false K H l xs ↔ SqL K H l xs := Iff.rfl
theorem same_v {k : Bool} {K : PySem.W.Frag} {H H' : Hp} {l : Addr} {xs : List V} (e : Same H H') (h : SqV k K H l xs) : SqV k K H' l xs := by
  cases k with
  | true => exact same_t (H := H) e h
  | false => exact same_l (H := H) e h
theorem itl_ok {ρ : Rho} {K : PySem.W.Frag} {ds : List D} {Hv : Hp} {l : Addr} {xs : List V} (h : SqL K Hv l xs) (hr : Reps ρ K Hv ds xs) : ItD ρ K (Itl K l) ds Hv := by
  intro H' G' i f hG
  have h' : SqL K H' l xs := same_l (f.trans same_un) h
  refine ⟨fun hi => ?_, fun hi => ⟨xs, h', by rw [hr.length, hi]; exact Nat.le_refl _⟩⟩
  obtain ⟨v, hv, rv⟩ := hr.get (List.getElem?_eq_getElem hi)
  refine ⟨⟨xs, v, h', hv⟩, fun x H2 y => ?_⟩
  obtain ⟨rfl, y⟩ := y
  refine ⟨Same.refl _, _, List.getElem?_eq_getElem hi, ?_⟩
  have := y xs h'
  rw [hv] at this; cases this
  exact rv.mono f
theorem itt_ok {ρ : Rho} {K : PySem.W.Frag} {ds : List D} {Hv : Hp} {l : Addr} {xs : List V} (h : SqT K Hv l xs) (hr : Reps ρ K Hv ds xs) : ItD ρ K (Itt K l) ds Hv := by
  intro H' G' i f hG
  have h' : SqT K H' l xs := same_t (f.trans same_un) h
  refine ⟨fun hi => ?_, fun hi => ⟨xs, h', by rw [hr.length, hi]; exact Nat.le_refl _⟩⟩
  obtain ⟨v, hv, rv⟩ := hr.get (List.getElem?_eq_getElem hi)
  refine ⟨⟨xs, v, h', hv⟩, fun x H2 y => ?_⟩
  obtain ⟨rfl, y⟩ := y
  refine ⟨Same.refl _, _, List.getElem?_eq_getElem hi, ?_⟩
  have := y xs h'
  rw [hv] at this; cases this
  exact rv.mono f
theorem itv_ok {ρ : Rho} {K : PySem.W.Frag} {Hv : Hp} {val : Nat → V} {ds : List D} {n : Nat} (hl : ds.length = n) (hv : ∀ i d, ds[i]? = some d → ∀ H, Rep ρ K H d (val i)) : ItD ρ K (Itv val n) ds Hv := by
  intro H' G' i f hG
  subst hl
  refine ⟨fun hi => ⟨hi, fun x H2 y => ?_⟩, fun hi => hi⟩
  obtain ⟨rfl, rfl⟩ := y
  exact ⟨Same.refl _, _, List.getElem?_eq_getElem hi, hv i _ (List.getElem?_eq_getElem hi) _⟩
theorem di_seq (h : DE X O E iter fa) : DI X O E tg iter (iSeqD fa) := by
  rintro pins s σ H R I ⟨ρ, H₀, F, δ, r, RS0, hf, k⟩
  refine pi_seq h pins s σ H R I ?_
  rcases M.b_inv hf with ⟨d, e1, hf⟩ | ⟨y, e1, rfl⟩
  · refine ⟨ρ, H₀, F, δ, .ok d, RS0, e1, fun v H1 s1 r1 => ?_⟩
    obtain ⟨ds, hd, rfl⟩ := M.o_inv hf
    cases d with
    | lst es =>
      cases hd
      obtain ⟨q, xs, rfl, q2, q3⟩ := rep_lst.mp r1
      exact .inl ⟨q, rfl, ⟨xs, same_l same_un q2⟩, k _ H1 s1 (itl_ok q2 q3)⟩
    | tup es =>
      cases hd
      obtain ⟨q, xs, rfl, q2, q3⟩ := rep_tup.mp r1
      exact .inr ⟨q, rfl, ⟨xs, same_t same_un q2⟩, k _ H1 s1 (itt_ok q2 q3)⟩
    | _ => cases hd
  · exact ⟨ρ, H₀, F, δ, .error y, RS0, e1, k⟩
theorem range_len (lo hi : Int) : (Builtin.Range.rangeSize lo hi 1).toNat = (hi - lo).toNat := by
  rw [rangeSize_one]; split <;> omega
theorem di_range (hg : Gl X "range") (hm : X.mg "range" = none) (ha : DA X O E (a :: es) fl) (hs : autoParam (starEach (a :: es) X.env = (false, eval a X.env) :: starEach es X.env) zau2._auto_1) (hp : autoParam ((backTo pos (starEach es X.env)).any (·.1) = false) zau2._auto_1) :
    DI X O E tg (.Call (.Name "range" p) (a :: es) [] pos) (iArgs rangeArgs fl) := by
  rintro pins s σ H R I ⟨ρ, H₀, F, δ, r, RS0, hf, k⟩
  refine pi_range hg hm ha hs hp pins s σ H R I ?_
  rcases M.b_inv hf with ⟨d, e1, hf⟩ | ⟨y, e1, rfl⟩
  · refine ⟨ρ, H₀, F, δ, .ok d, RS0, e1, fun vs H1 s1 r1 => ?_⟩
    obtain ⟨ds, hd, rfl⟩ := M.o_inv hf
    unfold rangeArgs at hd
    split at hd
    · rename_i j
      cases hd
      obtain ⟨v, r', rfl, q1, q2⟩ := reps_cons.mp r1
      cases reps_nil.mp q2
      cases rep_int.mp q1
      refine .inl ⟨j, rfl, k _ H1 s1 ?_⟩
      refine itv_ok (by unfold rangeD; rw [range_len]; simp) fun i d hd H => ?_
      unfold rangeD at hd
      rw [List.getElem?_map] at hd
      cases q : (List.range j.toNat)[i]? with
      | none => rw [q] at hd; cases hd
      | some m =>
        rw [q] at hd
        have : m = i := by
          have := (List.getElem?_eq_some_iff.mp q).2
          simpa using this.symm
        subst this
        cases hd
        exact rep_int.mpr (by rw [Int.mul_one])
    · rename_i i0 j
      cases hd
      obtain ⟨v, r', rfl, q1, q2⟩ := reps_cons.mp r1
      obtain ⟨v2, r2, rfl, q3, q4⟩ := reps_cons.mp q2
      cases reps_nil.mp q4
      cases rep_int.mp q1
      cases rep_int.mp q3
      refine .inr ⟨i0, j, rfl, k _ H1 s1 ?_⟩
      refine itv_ok (by unfold rangeD; rw [range_len]; simp) fun i d hd H => ?_
      unfold rangeD at hd
      rw [List.getElem?_map] at hd
      cases q : (List.range (j - i0).toNat)[i]? with
      | none => rw [q] at hd; cases hd
      | some m =>
        rw [q] at hd
        have : m = i := by
          have := (List.getElem?_eq_some_iff.mp q).2
          simpa using this.symm
        subst this
        cases hd
        exact rep_int.mpr (by rw [Int.mul_one])
    · cases hd
  · exact ⟨ρ, H₀, F, δ, .error y, RS0, e1, k⟩
theorem seq_sq {ρ : Rho} {K : PySem.W.Frag} {H : Hp} {d : D} {ds : List D} {v : V} (hd : seqD d = some ds) (h : Rep ρ K H d v) : ∃ k l xs, v = .ref l ∧ SqV k K H l xs ∧ Reps ρ K H ds xs := by
  cases d with
  | lst es => cases hd; obtain ⟨q, xs, rfl, q2, q3⟩ := rep_lst.mp h; exact ⟨false, q, xs, rfl, q2, q3⟩
  | tup es => cases hd; obtain ⟨q, xs, rfl, q2, q3⟩ := rep_tup.mp h; exact ⟨true, q, xs, rfl, q2, q3⟩
  | _ => cases hd
noncomputable def compD (h : D → DSt → Option DSt) (tc : DSt → M Bool) (fe : DSt → M D) : List D → DSt → Option (List D)
  | [], _ => some []
  | d :: ds, δ => match h d δ with
    | none => none
    | some δ1 => match tc δ1 with
      | some (.ok true) => (match fe δ1 with
        | some (.ok y) => (compD h tc fe ds δ1).map (y :: ·)
        | _ => none)
      | some (.ok false) => compD h tc fe ds δ1
      | _ => none
noncomputable def innerD (own : Nat) (caps : List (Str × Nat)) (δ : DSt) : DSt := List.replicate own none ++ caps.map fun p => (δ[p.2]?).join
noncomputable def fComp (own : Nat) (caps : List (Str × Nat)) (fi : DSt → M (List D)) (h : D → DSt → Option DSt) (tc : DSt → M Bool) (fe : DSt → M D) : DSt → M D := fun δ => (fi δ).b fun ds => M.o ((compD h tc fe ds (innerD own caps δ)).bind gLstD)
noncomputable def tYes : DSt → M Bool := fun _ => M.p true
noncomputable def DC (X : Cx) (O : List Nat) (E : XK) (ifs : List Expr) (f : DSt → M Bool) : Prop := PC0 X ifs (tB X.K O E f)
theorem dc_none : DC X O E [] tYes := by
  rintro pins s σ H Q I ⟨ρ, H₀, F, δ, r, R, hf, h⟩
  cases hf
  exact pc_none pins s σ H Q I (h H (Same.refl H))
theorem innerD_get {own : Nat} {caps : List (Str × Nat)} {δ : DSt} {i : Nat} {d : D} (h : (innerD own caps δ)[i]? = some (some d)) : ∃ p, caps[i - own]? = some p ∧ own ≤ i ∧ δ[p.2]? = some (some d) := by
  unfold innerD at h
  by_cases hi : i < own
  · rw [List.getElem?_append_left (by simpa using hi), List.getElem?_replicate, if_pos hi] at h
    cases h
  · rw [List.getElem?_append_right (by simpa using hi), List.length_replicate, List.getElem?_map] at h
    cases e : caps[i - own]? with
    | none => rw [e] at h; cases h
    | some p =>
      rw [e] at h
      exact ⟨p, rfl, by omega, join_some (Option.some.inj h)⟩
theorem inner_set {own : Nat} {caps : List (Str × Nat)} {σ : St} {i : Nat} {p : Str × Nat} {v : V} (h : caps[i - own]? = some p) (hi : own ≤ i) (hv : σ[p.2]? = some (some v)) : (innerSt own caps σ)[i]? = some (some v) := by
  unfold innerSt
  rw [List.getElem?_append_right (by simpa using hi), List.length_replicate, List.getElem?_map, h]
  show some ((σ[p.2]?).join) = _
  rw [hv]; rfl
noncomputable def capsFree (O : List Nat) (caps : List (Str × Nat)) : Bool := caps.all fun p => !O.contains p.2
inductive CInv (ρ : Rho) (K : PySem.W.Frag) (H1 : Hp) (F : Addr → Bool) (Dd : Addr) (tot : List D) (cd : DSt → Option (List D)) (σ : St) (H : Hp) : Prop
  | mk (δ : DSt) (done : List D) (zs : List V) (rest : List D) (hR : RS ρ K H1 H F [] σ δ) (hD : H Dd = some (.lst zs)) (hz : Reps ρ K (hid H F) done zs) (hr : cd δ = some rest) (ht : done ++ rest = tot)
theorem de_comp {ifs : List Expr} {scope : Scope} {own : List Str} {caps : List (Str × Nat)} {fi : DSt → M (List D)} {h : D → DSt → Option DSt} {tc : DSt → M Bool} {fe : DSt → M D} (hc : X.calm = true) (ck : CapsOk X scope caps) (hi : DI X O E tg iter fi)
    (hg : ∀ C s0 H0 ex, DG (compCx X scope (own ++ caps.map (·.1)) C s0 H0 ex) [] tg h) (ht : ∀ C s0 H0 ex, DC (compCx X scope (own ++ caps.map (·.1)) C s0 H0 ex) [] E0 ifs tc)
    (he : ∀ C s0 H0 ex, DE (compCx X scope (own ++ caps.map (·.1)) C s0 H0 ex) [] E0 elt fe) (hcf : autoParam (capsFree O caps = true) zau2._auto_1) (hs : autoParam (∀ x, foldedSetIterable iter X.env x = pure x) zau4._auto_1) :
    DE X O E (.ListComp elt [⟨tg, iter, ifs, 0⟩] scope pos) (fComp own.length caps fi h tc fe) := by
  rintro pins s σ H Q I ⟨ρ, H₀, F, δ, r, R, hf, k⟩
  refine pe_comp (own := own) (g := tG X.K [] h) (tc := tB X.K [] E0 tc) (te := tD X.K [] E0 fe) hc ck hi hg ht he hs pins s σ H Q I ?_
  rcases M.b_inv hf with ⟨ds, e1, hf⟩ | ⟨y, e1, rfl⟩
  · refine ⟨ρ, H₀, F, δ, .ok ds, R, e1, fun J H1 s1 it Dd hD => ?_⟩
    obtain ⟨dd, hd, rfl⟩ := M.o_inv hf
    cases hcd : compD h tc fe ds (innerD own.length caps δ) with
    | none => rw [hcd] at hd; cases hd
    | some tot =>
      rw [hcd] at hd
      have hd' : gLstD tot = some dd := hd
      unfold gLstD at hd'
      split at hd'
      · rename_i hz
        cases hd'
        have R1 := R.mono s1
        have pf := R1.fresh hD
        let F' : Addr → Bool := fun b => fob F σ O b || b == Dd
        have F't : ∀ b, F' b = true ↔ fob F σ O b = true ∨ b = Dd := fun b => by show (_ || _) = true ↔ _; rw [Bool.or_eq_true, beq_iff_eq]
        have vis : ∀ {H2 : Hp}, Same H1 H2 → Same (hid H1 (fob F σ O)) (hid H2 F') := fun {H2} e b o q => by
          obtain ⟨q1, q2⟩ := hid_some.mp q
          refine hid_some.mpr ⟨?_, e b o q2⟩
          cases z : F' b with
          | false => rfl
          | true =>
            rcases (F't b).mp z with z | z
            · rw [q1] at z; cases z
            · rw [z, hD] at q2; cases q2
        have R0 : RS ρ X.K H1 (upd H1 Dd (.lst [])) F' [] (innerSt own.length caps σ) (innerD own.length caps δ) := by
          refine ⟨by simp [innerSt, innerD], same_upd hD, fun b hb => ?_, fun i d hd _ => ?_, fun i hi => absurd hi (by simp), fun i hi => absurd hi (by simp)⟩
          · rcases (F't b).mp hb with z | z
            · refine upd_nn fun q => ?_
              rw [R1.fresh q] at z; cases z
            · rw [z, upd_same]; exact fun q => nomatch q
          · obtain ⟨p, p1, p2, p3⟩ := innerD_get hd
            have hO : p.2 ∉ O := fun z => by
              have := List.all_eq_true.mp hcf p (List.mem_of_getElem? p1)
              rw [List.contains_iff_mem.mpr z] at this; cases this
            obtain ⟨v, q1, q2⟩ := R1.val p.2 d p3 hO
            exact ⟨v, inner_set p1 p2 q1, by rw [fob_nil]; exact q2.mono (vis (same_upd hD))⟩
        refine ⟨fun i m σ' H' => m = ds.length - i ∧ i ≤ ds.length ∧ CInv ρ X.K H1 F' Dd tot (compD h tc fe (ds.drop i)) σ' H',
          ⟨ds.length, by simp, Nat.zero_le _, _, [], [], tot, R0, upd_same, Reps.nil, hcd, rfl⟩, ?_⟩
        rintro i m σ' H' ⟨rfl, hil, δ', done, zs, rest, R', hDd, rz, hr, htot⟩
        have fv : Same (hid H1 (fob F σ O)) (hid H' (fob F' σ' [])) := by rw [fob_nil]; exact vis R'.same
        obtain ⟨j1, j2⟩ := it H' (fob F' σ' []) i fv fun p hp => R'.fresh hp
        by_cases hlt : i < ds.length
        · obtain ⟨go, yld⟩ := j1 hlt
          refine .inr ⟨go, CInv ρ X.K H1 F' Dd tot (compD h tc fe (ds.drop (i + 1))),
            fun σ2 H2 q => ⟨ds.length - (i + 1), by omega, rfl, hlt, q⟩, fun x H2 y => ?_⟩
          obtain ⟨s2, d, hd, rd⟩ := yld x H2 y
          have hdr : ds.drop i = d :: ds.drop (i + 1) := by
            rw [List.drop_eq_getElem_cons hlt]
            have : ds[i] = d := by rw [List.getElem?_eq_getElem hlt] at hd; exact Option.some.inj hd
            rw [this]
          rw [hdr] at hr
          unfold compD at hr
          cases e2 : h d δ' with
          | none => rw [e2] at hr; cases hr
          | some δ1 =>
            rw [e2] at hr
            dsimp only at hr
            refine ⟨ρ, H1, F', δ', d, δ1, R'.mono s2, rd, e2, fun σ3 ef R3 => ?_⟩
            have keepD : ∀ {H5 : Hp}, Same H2 H5 → H5 Dd = some (.lst zs) ∧ Reps ρ X.K (hid H5 F') done zs := fun {H5} e => ⟨e _ _ (s2 _ _ hDd), rz.mono (same_hid (s2.trans e))⟩
            split at hr
            · rename_i e3
              refine ⟨ρ, H1, F', δ1, .ok true, R3, e3, fun H4 s4 => iteT ?_⟩
              split at hr
              · rename_i yv e4
                refine ⟨ρ, H1, F', δ1, .ok yv, R3.mono s4, e4, fun v H5 s5 r5 => ?_⟩
                rw [fob_nil] at r5
                obtain ⟨k1, k2⟩ := keepD (s4.trans s5)
                cases e5 : compD h tc fe (ds.drop (i + 1)) δ1 with
                | none => rw [e5] at hr; cases hr
                | some rest' =>
                  rw [e5] at hr
                  have hr' : yv :: rest' = rest := Option.some.inj hr
                  have hFD : F' Dd = true := (F't Dd).mpr (.inr rfl)
                  have hh : hid (upd H5 Dd (.lst (zs ++ [v]))) F' = hid H5 F' := hid_upd hFD
                  refine ⟨zs, k1, ?_, δ1, done ++ [yv], zs ++ [v], rest', ?_, upd_same, ?_, e5, by rw [List.append_assoc, ← htot, ← hr']; rfl⟩
                  · have l1 := k2.length
                    have l2 := congrArg List.length htot
                    rw [List.length_append, ← hr', List.length_cons] at l2
                    omega
                  · have R5 := R3.mono (s4.trans s5)
                    refine ⟨R5.len, same_upd0 R5.same hD, fun b hb => upd_nn (R5.fin b hb), fun j d' hj hO => ?_, fun j hj => absurd hj (by simp), fun j hj => absurd hj (by simp)⟩
                    obtain ⟨v', w1, w2⟩ := R5.val j d' hj hO
                    refine ⟨v', w1, ?_⟩
                    rw [fob_nil] at w2 ⊢
                    rw [hh]; exact w2
                  · rw [hh]
                    exact k2.append (Reps.cons r5 Reps.nil)
              · cases hr
            · rename_i e3
              refine ⟨ρ, H1, F', δ1, .ok false, R3, e3, fun H4 s4 => iteF ?_⟩
              obtain ⟨k1, k2⟩ := keepD s4
              exact ⟨δ1, done, zs, rest, R3.mono s4, k1, k2, hr, htot⟩
            · cases hr
        · have ei : i = ds.length := by omega
          subst ei
          rw [List.drop_length] at hr
          cases hr
          rw [List.append_nil] at htot
          subst htot
          refine .inl ⟨j2 rfl, k _ H' (s1.trans R'.same) ?_⟩
          exact rep_lst.mpr ⟨Dd, zs, rfl, SqL.of (hid_some.mpr ⟨pf, hDd⟩), rz.mono (hid_le fun b q => (F't b).mpr (.inl q))⟩
      · cases hd'
  · exact ⟨ρ, H₀, F, δ, .error y, R, e1, k⟩
end
end DL
namespace DL
open PySem PySem.Spec L2
mutual
noncomputable def okD : D → Bool
  | .ty _ => false
  | .obj _ => false
  | .tup ds => okDs ds
  | .lst ds => okDs ds
  | _ => true
noncomputable def okDs : List D → Bool
  | [] => true
  | d :: ds => okD d && okDs ds
end
mutual
noncomputable def depD : D → Nat
  | .tup ds => depDs ds + 1
  | .lst ds => depDs ds + 1
  | _ => 0
noncomputable def depDs : List D → Nat
  | [] => 0
  | d :: ds => max (depD d) (depDs ds)
end
mutual
noncomputable def eqB : D → D → Bool
  | .non, .non => true
  | .bl a, .bl b => a == b
  | .bl a, .int b => (if a then 1 else 0) == b
  | .int a, .bl b => a == (if b then 1 else 0)
  | .int a, .int b => a == b
  | .str a, .str b => a == b
  | .tup a, .tup b => eqBs a b
  | .lst a, .lst b => eqBs a b
  | _, _ => false
noncomputable def eqBs : List D → List D → Bool
  | [], [] => true
  | a :: as, b :: bs => eqB a b && eqBs as bs
  | _, _ => false
end
mutual
theorem eqB_refl : ∀ d : D, okD d = true → eqB d d = true
  | .non, _ => by unfold eqB; rfl
  | .bl _, _ => by unfold eqB; simp
  | .int _, _ => by unfold eqB; simp
  | .str _, _ => by unfold eqB; simp
  | .ty _, h => by unfold okD at h; cases h
  | .obj _, h => by unfold okD at h; cases h
  | .tup ds, h => by unfold okD at h; unfold eqB; exact eqBs_refl ds h
  | .lst ds, h => by unfold okD at h; unfold eqB; exact eqBs_refl ds h
theorem eqBs_refl : ∀ ds : List D, okDs ds = true → eqBs ds ds = true
  | [], _ => by unfold eqBs; rfl
  | d :: ds, h => by
    unfold okDs at h
    rw [Bool.and_eq_true] at h
    unfold eqBs
    rw [eqB_refl d h.1, eqBs_refl ds h.2]; rfl
end
theorem eqBs_len : ∀ {as bs : List D}, eqBs as bs = true → as.length = bs.length
  | [], [], _ => rfl
  | [], _ :: _, h => by unfold eqBs at h; cases h
  | _ :: _, [], h => by unfold eqBs at h; cases h
  | a :: as, b :: bs, h => by
    unfold eqBs at h
    rw [Bool.and_eq_true] at h
    simp [eqBs_len h.2]
theorem eqBs_all : ∀ {as bs : List D}, as.length = bs.length → ∀ (k : Nat → Bool), (∀ j a b, as[j]? = some a → bs[j]? = some b → k j = eqB a b) → (List.range as.length).all k = eqBs as bs
  | [], [], _, k, _ => by unfold eqBs; rfl
  | [], _ :: _, h, _, _ => by simp at h
  | _ :: _, [], h, _, _ => by simp at h
  | a :: as, b :: bs, h, k, hk => by
    unfold eqBs
    rw [List.length_cons, List.range_succ_eq_map, List.all_cons, List.all_map, hk 0 a b rfl rfl]
    congr 1
    exact eqBs_all (by simpa using h) (k ∘ Nat.succ) fun j x y e1 e2 => hk (j + 1) x y (by simpa using e1) (by simpa using e2)
theorem okDs_get : ∀ {ds : List D} {i : Nat} {d : D}, okDs ds = true → ds[i]? = some d → okD d = true
  | [], _, _, _, e => by simp at e
  | d :: ds, 0, x, h, e => by unfold okDs at h; rw [Bool.and_eq_true] at h; simp at e; subst e; exact h.1
  | d :: ds, i + 1, x, h, e => by unfold okDs at h; rw [Bool.and_eq_true] at h; exact okDs_get h.2 (by simpa using e)
theorem depDs_get : ∀ {ds : List D} {i : Nat} {d : D}, ds[i]? = some d → depD d ≤ depDs ds
  | [], _, _, e => by simp at e
  | d :: ds, 0, x, e => by simp at e; subst e; unfold depDs; omega
  | d :: ds, i + 1, x, e => by have := depDs_get (ds := ds) (i := i) (d := x) (by simpa using e); unfold depDs; omega
section
variable {ρ : Rho} {X : Cx} {pins : List (Addr × Obj)} {σ : St} {H : Hp} {s : Shared}
theorem lt_ne {l : Addr} {xs ys : List V} (I : Inv X pins σ H s) (h1 : SqT X.K H l xs) (h2 : SqL X.K H l ys) : False := by
  obtain ⟨i1, _, p1, _⟩ := I.tuple h1
  obtain ⟨i2, _, p2, _⟩ := I.list h2
  exact SeqAt.ne_of_list_tuple p2.isList p1 rfl
mutual
theorem rep_inj (I : Inv X pins σ H s) : ∀ {d e : D} {v : V}, okD d = true → okD e = true → Rep ρ X.K H d v → Rep ρ X.K H e v → d = e
  | .non, e, v, _, oe, h, k => by
    cases rep_non.mp h
    cases e with
    | non => rfl
    | bl _ => exact nomatch rep_bl.mp k
    | int _ => exact nomatch rep_int.mp k
    | str _ => exact nomatch rep_str.mp k
    | ty _ => unfold okD at oe; cases oe
    | obj _ => unfold okD at oe; cases oe
    | tup _ => obtain ⟨_, _, z, _⟩ := rep_tup.mp k; cases z
    | lst _ => obtain ⟨_, _, z, _⟩ := rep_lst.mp k; cases z
  | .bl b, e, v, _, oe, h, k => by
    cases rep_bl.mp h
    cases e with
    | non => exact nomatch rep_non.mp k
    | bl _ => cases rep_bl.mp k; rfl
    | int _ => exact nomatch rep_int.mp k
    | str _ => exact nomatch rep_str.mp k
    | ty _ => unfold okD at oe; cases oe
    | obj _ => unfold okD at oe; cases oe
    | tup _ => obtain ⟨_, _, z, _⟩ := rep_tup.mp k; cases z
    | lst _ => obtain ⟨_, _, z, _⟩ := rep_lst.mp k; cases z
  | .int b, e, v, _, oe, h, k => by
    cases rep_int.mp h
    cases e with
    | non => exact nomatch rep_non.mp k
    | bl _ => exact nomatch rep_bl.mp k
    | int _ => cases rep_int.mp k; rfl
    | str _ => exact nomatch rep_str.mp k
    | ty _ => unfold okD at oe; cases oe
    | obj _ => unfold okD at oe; cases oe
    | tup _ => obtain ⟨_, _, z, _⟩ := rep_tup.mp k; cases z
    | lst _ => obtain ⟨_, _, z, _⟩ := rep_lst.mp k; cases z
  | .str b, e, v, _, oe, h, k => by
    cases rep_str.mp h
    cases e with
    | non => exact nomatch rep_non.mp k
    | bl _ => exact nomatch rep_bl.mp k
    | int _ => exact nomatch rep_int.mp k
    | str _ => cases rep_str.mp k; rfl
    | ty _ => unfold okD at oe; cases oe
    | obj _ => unfold okD at oe; cases oe
    | tup _ => obtain ⟨_, _, z, _⟩ := rep_tup.mp k; cases z
    | lst _ => obtain ⟨_, _, z, _⟩ := rep_lst.mp k; cases z
  | .ty _, _, _, od, _, _, _ => by unfold okD at od; cases od
  | .obj _, _, _, od, _, _, _ => by unfold okD at od; cases od
  | .tup ds, e, v, od, oe, h, k => by
    obtain ⟨a, xs, rfl, q1, q2⟩ := rep_tup.mp h
    cases e with
    | non => exact nomatch rep_non.mp k
    | bl _ => exact nomatch rep_bl.mp k
    | int _ => exact nomatch rep_int.mp k
    | str _ => exact nomatch rep_str.mp k
    | ty _ => unfold okD at oe; cases oe
    | obj _ => unfold okD at oe; cases oe
    | tup es =>
      obtain ⟨b, ys, z, p1, p2⟩ := rep_tup.mp k
      cases z
      rw [I.tuple_inj q1 p1] at q2
      unfold okD at od oe
      rw [reps_inj I od oe q2 p2]
    | lst es =>
      obtain ⟨b, ys, z, p1, p2⟩ := rep_lst.mp k
      cases z
      exact (lt_ne I q1 p1).elim
  | .lst ds, e, v, od, oe, h, k => by
    obtain ⟨a, xs, rfl, q1, q2⟩ := rep_lst.mp h
    cases e with
    | non => exact nomatch rep_non.mp k
    | bl _ => exact nomatch rep_bl.mp k
    | int _ => exact nomatch rep_int.mp k
    | str _ => exact nomatch rep_str.mp k
    | ty _ => unfold okD at oe; cases oe
    | obj _ => unfold okD at oe; cases oe
    | tup es =>
      obtain ⟨b, ys, z, p1, p2⟩ := rep_tup.mp k
      cases z
      exact (lt_ne I p1 q1).elim
    | lst es =>
      obtain ⟨b, ys, z, p1, p2⟩ := rep_lst.mp k
      cases z
      rw [I.list_inj q1 p1] at q2
      unfold okD at od oe
      rw [reps_inj I od oe q2 p2]
theorem reps_inj (I : Inv X pins σ H s) : ∀ {ds es : List D} {vs : List V}, okDs ds = true → okDs es = true → Reps ρ X.K H ds vs → Reps ρ X.K H es vs → ds = es
  | [], [], _, _, _, _, _ => rfl
  | [], _ :: _, _, _, _, h, k => by cases reps_nil.mp h; obtain ⟨_, _, z, _⟩ := reps_cons.mp k; cases z
  | _ :: _, [], _, _, _, h, k => by cases reps_nil.mp k; obtain ⟨_, _, z, _⟩ := reps_cons.mp h; cases z
  | d :: ds, e :: es, vs, od, oe, h, k => by
    obtain ⟨v, r, rfl, h1, h2⟩ := reps_cons.mp h
    obtain ⟨v', r', z, k1, k2⟩ := reps_cons.mp k
    cases z
    unfold okDs at od oe
    rw [Bool.and_eq_true] at od oe
    rw [rep_inj I od.1 oe.1 h1 k1, reps_inj I od.2 oe.2 h2 k2]
end
theorem eq_deep (I : Inv X pins σ H s) : ∀ (n : Nat) (A : Around) (d e : D) (v u : V) (a b : Value), depD d ≤ n → A.units + n + 1 < cLine → okD d = true → okD e = true → Rep ρ X.K H d v → Rep ρ X.K H e u → RelV v a → RelV u b →
    SeqAt.RcAt A s a b (eqB d e) ∧ SeqAt.EqAt A s a b (eqB d e) := by
  intro n
  induction n with
  | zero =>
    intro A d e v u a b hd hu od oe rd re ra rb
    have hu' : A.units < cLine := by omega
    have seqT : ∀ {es : List D}, Rep ρ X.K H (.tup es) u → ∃ l its, b = .ref l ∧ s.heap.IsTuple l its := fun h => by
      obtain ⟨l, xs, rfl, q1, _⟩ := rep_tup.mp h
      obtain ⟨its, _, p, _⟩ := I.tuple q1
      exact ⟨l, _, rb, p⟩
    have seqL : ∀ {es : List D}, Rep ρ X.K H (.lst es) u → ∃ l its, b = .ref l ∧ s.heap.IsList l its := fun h => by
      obtain ⟨l, xs, rfl, q1, _⟩ := rep_lst.mp h
      obtain ⟨its, _, p, _⟩ := I.list q1
      exact ⟨l, _, rb, p.isList⟩
    cases d with
    | ty _ => unfold okD at od; cases od
    | obj _ => unfold okD at od; cases od
    | tup _ => unfold depD at hd; omega
    | lst _ => unfold depD at hd; omega
    | non =>
      cases rep_non.mp rd; cases ra
      cases e with
      | ty _ => unfold okD at oe; cases oe
      | obj _ => unfold okD at oe; cases oe
      | non => cases rep_non.mp re; cases rb; exact ⟨SeqAt.RcAt.none_none, SeqAt.EqAt.same _⟩
      | bl y => cases rep_bl.mp re; cases rb; exact ⟨SeqAt.RcAt.none_bool _, SeqAt.EqAt.none_bool _⟩
      | int y => cases rep_int.mp re; obtain ⟨t, rfl⟩ := rb; exact ⟨SeqAt.RcAt.none_int _ _, SeqAt.EqAt.none_int _ _⟩
      | str y => cases rep_str.mp re; obtain ⟨t, rfl⟩ := rb; exact ⟨SeqAt.RcAt.none_str _ _, SeqAt.EqAt.none_str _ _⟩
      | tup es => obtain ⟨l, its, rfl, p⟩ := seqT re; exact ⟨SeqAt.RcAt.none_tuple p hu', SeqAt.EqAt.none_tuple p hu'⟩
      | lst es => obtain ⟨l, its, rfl, p⟩ := seqL re; exact ⟨SeqAt.RcAt.none_list p hu', SeqAt.EqAt.none_list p hu'⟩
    | bl x =>
      cases rep_bl.mp rd; cases ra
      cases e with
      | ty _ => unfold okD at oe; cases oe
      | obj _ => unfold okD at oe; cases oe
      | non => cases rep_non.mp re; cases rb; exact ⟨SeqAt.RcAt.bool_none _, SeqAt.EqAt.bool_none _⟩
      | bl y => cases rep_bl.mp re; cases rb; exact ⟨SeqAt.RcAt.bool_bool _ _, SeqAt.EqAt.bool_bool _ _⟩
      | int y => cases rep_int.mp re; obtain ⟨t, rfl⟩ := rb; exact ⟨SeqAt.RcAt.bool_int _ _ _, SeqAt.EqAt.bool_int _ _ _⟩
      | str y => cases rep_str.mp re; obtain ⟨t, rfl⟩ := rb; exact ⟨SeqAt.RcAt.bool_str _ _ _, SeqAt.EqAt.bool_str _ _ _⟩
      | tup es => obtain ⟨l, its, rfl, p⟩ := seqT re; exact ⟨SeqAt.RcAt.bool_tuple _ p hu', SeqAt.EqAt.bool_tuple _ p hu'⟩
      | lst es => obtain ⟨l, its, rfl, p⟩ := seqL re; exact ⟨SeqAt.RcAt.bool_list _ p hu', SeqAt.EqAt.bool_list _ p hu'⟩
    | int x =>
      cases rep_int.mp rd; obtain ⟨ta, rfl⟩ := ra
      cases e with
      | ty _ => unfold okD at oe; cases oe
      | obj _ => unfold okD at oe; cases oe
      | non => cases rep_non.mp re; cases rb; exact ⟨SeqAt.RcAt.int_none _ _, SeqAt.EqAt.int_none _ _⟩
      | bl y => cases rep_bl.mp re; cases rb; exact ⟨SeqAt.RcAt.int_bool _ _ _, SeqAt.EqAt.int_bool _ _ _⟩
      | int y => cases rep_int.mp re; obtain ⟨t, rfl⟩ := rb; exact ⟨SeqAt.RcAt.int_int _ _ _ _, SeqAt.EqAt.int_int _ _ _ _⟩
      | str y => cases rep_str.mp re; obtain ⟨t, rfl⟩ := rb; exact ⟨SeqAt.RcAt.int_str _ _ _ _, SeqAt.EqAt.int_str _ _ _ _⟩
      | tup es => obtain ⟨l, its, rfl, p⟩ := seqT re; exact ⟨SeqAt.RcAt.int_tuple _ _ p hu', SeqAt.EqAt.int_tuple _ _ p hu'⟩
      | lst es => obtain ⟨l, its, rfl, p⟩ := seqL re; exact ⟨SeqAt.RcAt.int_list _ _ p hu', SeqAt.EqAt.int_list _ _ p hu'⟩
    | str x =>
      cases rep_str.mp rd; obtain ⟨ta, rfl⟩ := ra
      cases e with
      | ty _ => unfold okD at oe; cases oe
      | obj _ => unfold okD at oe; cases oe
      | non => cases rep_non.mp re; cases rb; exact ⟨SeqAt.RcAt.str_none _ _, SeqAt.EqAt.str_none _ _⟩
      | bl y => cases rep_bl.mp re; cases rb; exact ⟨SeqAt.RcAt.str_bool _ _ _, SeqAt.EqAt.str_bool _ _ _⟩
      | int y => cases rep_int.mp re; obtain ⟨t, rfl⟩ := rb; exact ⟨SeqAt.RcAt.str_int _ _ _ _, SeqAt.EqAt.str_int _ _ _ _⟩
      | str y => cases rep_str.mp re; obtain ⟨t, rfl⟩ := rb; exact ⟨SeqAt.RcAt.str_str _ _ _ _, SeqAt.EqAt.str_str _ _ _ _⟩
      | tup es => obtain ⟨l, its, rfl, p⟩ := seqT re; exact ⟨SeqAt.RcAt.str_tuple _ _ p hu', SeqAt.EqAt.str_tuple _ _ p hu'⟩
      | lst es => obtain ⟨l, its, rfl, p⟩ := seqL re; exact ⟨SeqAt.RcAt.str_list _ _ p hu', SeqAt.EqAt.str_list _ _ p hu'⟩
  | succ n ih =>
    intro A d e v u a b hd hu od oe rd re ra rb
    have hu' : A.units < cLine := by omega
    have hin : A.in1.units + n + 1 < cLine := by show A.units + 1 + n + 1 < cLine; omega
    by_cases small : depD d ≤ n
    · exact ih A d e v u a b small (by omega) od oe rd re ra rb
    · -- the two are refs: the same, or apart
      have both : ∀ {l m : Addr}, v = .ref l → u = .ref m → a = .ref l → b = .ref m → SeqAt.RcAt A s a b (eqB d e) → SeqAt.RcAt A s a b (eqB d e) ∧ SeqAt.EqAt A s a b (eqB d e) := fun {l m} ev eu ea eb r => by
        refine ⟨r, ?_⟩
        subst ev eu ea eb
        by_cases z : l = m
        · subst z
          have : d = e := rep_inj I od oe rd re
          subst this
          rw [eqB_refl d od]
          exact SeqAt.EqAt.same _
        · exact SeqAt.EqAt.of_refs z r
      cases d with
      | ty _ => unfold okD at od; cases od
      | obj _ => unfold okD at od; cases od
      | non => unfold depD at small; omega
      | bl _ => unfold depD at small; omega
      | int _ => unfold depD at small; omega
      | str _ => unfold depD at small; omega
      | tup ds =>
        obtain ⟨l, xs, rfl, q1, q2⟩ := rep_tup.mp rd
        cases ra
        obtain ⟨ix, rx, px, _⟩ := I.tuple q1
        have px' : s.heap.IsTuple l ix.toArray := px
        unfold okD at od
        unfold depD at hd
        cases e with
        | ty _ => unfold okD at oe; cases oe
        | obj _ => unfold okD at oe; cases oe
        | non => cases rep_non.mp re; cases rb; exact ⟨SeqAt.RcAt.tuple_none px' hu', SeqAt.EqAt.tuple_none px' hu'⟩
        | bl y => cases rep_bl.mp re; cases rb; exact ⟨SeqAt.RcAt.tuple_bool _ px' hu', SeqAt.EqAt.tuple_bool _ px' hu'⟩
        | int y => cases rep_int.mp re; obtain ⟨t, rfl⟩ := rb; exact ⟨SeqAt.RcAt.tuple_int _ _ px' hu', SeqAt.EqAt.tuple_int _ _ px' hu'⟩
        | str y => cases rep_str.mp re; obtain ⟨t, rfl⟩ := rb; exact ⟨SeqAt.RcAt.tuple_str _ _ px' hu', SeqAt.EqAt.tuple_str _ _ px' hu'⟩
        | lst es =>
          obtain ⟨m, ys, rfl, p1, p2⟩ := rep_lst.mp re
          cases rb
          obtain ⟨iy, ry, py, _⟩ := I.list p1
          unfold eqB
          exact ⟨SeqAt.RcAt.tuple_list px' py.isList hu', SeqAt.EqAt.tuple_list px' py.isList hu'⟩
        | tup es =>
          obtain ⟨m, ys, rfl, p1, p2⟩ := rep_tup.mp re
          cases rb
          obtain ⟨iy, ry, py, _⟩ := I.tuple p1
          unfold okD at oe
          refine both rfl rfl rfl rfl ?_
          have lx := rx.length
          have ly := ry.length
          have mx := q2.length
          have my := p2.length
          have R := SeqAt.RcAt.tuples (e := fun j => match ds[j]?, es[j]? with | some x, some y => eqB x y | _, _ => false) px' (show s.heap.IsTuple m iy.toArray from py) hu' fun j h1 h2 => by
            have h1' : j < ix.length := by simpa using h1
            have h2' : j < iy.length := by simpa using h2
            have hj1 : j < ds.length := by omega
            have hj2 : j < es.length := by omega
            obtain ⟨v1, e1, r1⟩ := q2.get (List.getElem?_eq_getElem hj1)
            obtain ⟨v2, e2, r2⟩ := p2.get (List.getElem?_eq_getElem hj2)
            obtain ⟨u1, f1, s1⟩ := rx.get e1
            obtain ⟨u2, f2, s2⟩ := ry.get e2
            have g1 : ix.toArray[j] = u1 := by rw [List.getElem?_eq_getElem h1'] at f1; simpa using Option.some.inj f1
            have g2 : iy.toArray[j] = u2 := by rw [List.getElem?_eq_getElem h2'] at f2; simpa using Option.some.inj f2
            rw [g1, g2, List.getElem?_eq_getElem hj1, List.getElem?_eq_getElem hj2]
            have dd := depDs_get (List.getElem?_eq_getElem hj1)
            exact (ih A.in1 _ _ v1 v2 u1 u2 (by omega) hin (okDs_get od (List.getElem?_eq_getElem hj1)) (okDs_get oe (List.getElem?_eq_getElem hj2)) r1 r2 s1 s2).2
          unfold eqB
          have fin : ((List.range (min ix.toArray.size iy.toArray.size)).all (fun j => match ds[j]?, es[j]? with | some x, some y => eqB x y | _, _ => false) && ix.toArray.size == iy.toArray.size) = eqBs ds es := by
            simp only [List.size_toArray]
            by_cases hl : ds.length = es.length
            · have e1 : min ix.length iy.length = ds.length := by omega
              have e2 : (ix.length == iy.length) = true := by simp; omega
              rw [e1, e2, Bool.and_true]
              exact eqBs_all hl _ fun j x y z1 z2 => by rw [z1, z2]
            · have e2 : (ix.length == iy.length) = false := by simp; omega
              rw [e2, Bool.and_false]
              cases z : eqBs ds es with
              | false => rfl
              | true => exact absurd (eqBs_len z) hl
          rw [fin] at R
          exact R
      | lst ds =>
        obtain ⟨l, xs, rfl, q1, q2⟩ := rep_lst.mp rd
        cases ra
        obtain ⟨ix, rx, px, _⟩ := I.list q1
        have px' : s.heap.IsList l ix.toArray := px.isList
        unfold okD at od
        unfold depD at hd
        cases e with
        | ty _ => unfold okD at oe; cases oe
        | obj _ => unfold okD at oe; cases oe
        | non => cases rep_non.mp re; cases rb; exact ⟨SeqAt.RcAt.list_none px' hu', SeqAt.EqAt.list_none px' hu'⟩
        | bl y => cases rep_bl.mp re; cases rb; exact ⟨SeqAt.RcAt.list_bool _ px' hu', SeqAt.EqAt.list_bool _ px' hu'⟩
        | int y => cases rep_int.mp re; obtain ⟨t, rfl⟩ := rb; exact ⟨SeqAt.RcAt.list_int _ _ px' hu', SeqAt.EqAt.list_int _ _ px' hu'⟩
        | str y => cases rep_str.mp re; obtain ⟨t, rfl⟩ := rb; exact ⟨SeqAt.RcAt.list_str _ _ px' hu', SeqAt.EqAt.list_str _ _ px' hu'⟩
        | tup es =>
          obtain ⟨m, ys, rfl, p1, p2⟩ := rep_tup.mp re
          cases rb
          obtain ⟨iy, ry, py, _⟩ := I.tuple p1
          unfold eqB
          exact ⟨SeqAt.RcAt.list_tuple px' py hu', SeqAt.EqAt.list_tuple px' py hu'⟩
        | lst es =>
          obtain ⟨m, ys, rfl, p1, p2⟩ := rep_lst.mp re
          cases rb
          obtain ⟨iy, ry, py, _⟩ := I.list p1
          unfold okD at oe
          refine both rfl rfl rfl rfl ?_
          have lx := rx.length
          have ly := ry.length
          have mx := q2.length
          have my := p2.length
          unfold eqB
          by_cases hl : ds.length = es.length
          · have hsz : ix.toArray.size = iy.toArray.size := by simp only [List.size_toArray]; omega
            have R := SeqAt.RcAt.lists (e := fun j => match ds[j]?, es[j]? with | some x, some y => eqB x y | _, _ => false) px' py.isList hsz hu' fun j h1 h2 => by
              have h1' : j < ix.length := by simpa using h1
              have h2' : j < iy.length := by simpa using h2
              have hj1 : j < ds.length := by omega
              have hj2 : j < es.length := by omega
              obtain ⟨v1, e1, r1⟩ := q2.get (List.getElem?_eq_getElem hj1)
              obtain ⟨v2, e2, r2⟩ := p2.get (List.getElem?_eq_getElem hj2)
              obtain ⟨u1, f1, s1⟩ := rx.get e1
              obtain ⟨u2, f2, s2⟩ := ry.get e2
              have g1 : ix.toArray[j] = u1 := by rw [List.getElem?_eq_getElem h1'] at f1; simpa using Option.some.inj f1
              have g2 : iy.toArray[j] = u2 := by rw [List.getElem?_eq_getElem h2'] at f2; simpa using Option.some.inj f2
              rw [g1, g2, List.getElem?_eq_getElem hj1, List.getElem?_eq_getElem hj2]
              have dd := depDs_get (List.getElem?_eq_getElem hj1)
              exact (ih A.in1 _ _ v1 v2 u1 u2 (by omega) hin (okDs_get od (List.getElem?_eq_getElem hj1)) (okDs_get oe (List.getElem?_eq_getElem hj2)) r1 r2 s1 s2).2
            have e1 : ix.toArray.size = ds.length := by simp only [List.size_toArray]; omega
            rw [e1, eqBs_all hl _ fun j x y z1 z2 => by rw [z1, z2]] at R
            exact R
          · have R := SeqAt.RcAt.lists_lengths (s := s) (A := A) px' py.isList (by simp only [List.size_toArray]; simp; omega) hu'
            cases z : eqBs ds es with
            | false => exact R
            | true => exact absurd (eqBs_len z) hl
end
end DL
namespace DL
open PySem PySem.Spec L2
noncomputable def BIGN : Nat := Classical.choose (⟨2 ^ 100000, rfl⟩ : ∃ n : Nat, n = 2 ^ 100000)
theorem BIGN_eq : BIGN = 2 ^ 100000 := Classical.choose_spec (⟨2 ^ 100000, rfl⟩ : ∃ n : Nat, n = 2 ^ 100000)
noncomputable def BIG : Int := (BIGN : Int)
noncomputable def DIVN : Nat := Classical.choose (⟨2 ^ 9000, rfl⟩ : ∃ n : Nat, n = 2 ^ 9000)
theorem DIVN_eq : DIVN = 2 ^ 9000 := Classical.choose_spec (⟨2 ^ 9000, rfl⟩ : ∃ n : Nat, n = 2 ^ 9000)
noncomputable def DIVB : Int := (DIVN : Int)
noncomputable def inBig (i : Int) : Bool := decide (-BIG < i) && decide (i < BIG)
noncomputable def gAdd : D → D → Option D
  | .int i, .int j => some (.int (i + j))
  | .str x, .str y => if x.length + y.length ≤ sizeLine then some (.str (x ++ y)) else none
  | _, _ => none
noncomputable def gSub : D → D → Option D
  | .int i, .int j => some (.int (i - j))
  | _, _ => none
noncomputable def gMul : D → D → Option D
  | .int i, .int j => if (inBig i && inBig j) = true then some (.int (i * j)) else none
  | .str x, .int n => if x.length ≤ 4096 ∧ -4096 ≤ n ∧ n ≤ 4096 then some (.str (Txt.mul x n)) else none
  | _, _ => none
noncomputable def gMod : D → D → Option D
  | .int i, .int j => if 0 < j then some (.int (i % j)) else none
  | _, _ => none
noncomputable def gFdiv : D → D → Option D
  | .int i, .int j => if 0 < j ∧ j < DIVB then some (.int (i / j)) else none
  | _, _ => none
noncomputable def gPow : D → D → Option D
  | .int i, .int j => if 0 ≤ j ∧ j ≤ 1000 ∧ -(2 ^ 60) < i ∧ i < 2 ^ 60 then some (.int (i ^ j.toNat)) else none
  | _, _ => none
noncomputable def gCmp (p : Int → Int → Bool) (q : Str → Str → Bool) : D → D → Option D
  | .int i, .int j => some (.bl (p i j))
  | .str x, .str y => some (.bl (q x y))
  | _, _ => none
noncomputable def gLt := gCmp (fun i j => decide (i < j)) (fun x y => decide (x.cps.toList < y.cps.toList))
noncomputable def gLe := gCmp (fun i j => decide (i ≤ j)) (fun x y => !decide (y.cps.toList < x.cps.toList))
noncomputable def gGt := gCmp (fun i j => decide (j < i)) (fun x y => decide (y.cps.toList < x.cps.toList))
noncomputable def gGe := gCmp (fun i j => decide (j ≤ i)) (fun x y => !decide (x.cps.toList < y.cps.toList))
noncomputable def gEq : D → D → Option D := fun x y => if (okD x && okD y && decide (depD x ≤ 20)) = true then some (.bl (eqB x y)) else none
noncomputable def gNe : D → D → Option D := fun x y => if (okD x && okD y && decide (depD x ≤ 20)) = true then some (.bl !(eqB x y)) else none
noncomputable def gNeg : D → Option D
  | .int i => some (.int (-i))
  | _ => none
noncomputable def gIx : D → D → Option D
  | .lst ds, .int i => atI ds i
  | .tup ds, .int i => atI ds i
  | .str z, .int i => if z.length ≤ sizeLine then (atI z.cps.toList i).map fun c => .str ⟨#[c]⟩ else none
  | _, _ => none
theorem big_bits {i : Int} (h : inBig i = true) : Builtin.Int.intBits i ≤ 100001 := by
  unfold inBig at h
  rw [Bool.and_eq_true, decide_eq_true_eq, decide_eq_true_eq] at h
  unfold Builtin.Int.intBits
  split
  · omega
  · have hn : i.natAbs ≠ 0 := by
      intro z
      have : i = 0 := by omega
      subst this
      simp at *
    have hlt : i.natAbs < BIGN := by
      unfold BIG at h
      omega
    rw [BIGN_eq] at hlt
    have := (Nat.log2_lt (k := 100000) hn).mpr hlt
    omega
theorem big_mul {i j : Int} (h1 : inBig i = true) (h2 : inBig j = true) : IntMulOk i j := by
  have b1 := big_bits h1
  have b2 := big_bits h2
  unfold IntMulOk
  have : Builtin.Int.intTooBig ((Builtin.Int.intBits i : Int) + (Builtin.Int.intBits j : Int)) = false := by
    unfold Builtin.Int.intTooBig bitsLine
    simp
    omega
  intro h
  rw [Bool.and_eq_true] at h
  have h2 := h.2
  first
    | (rw [this] at h2; cases h2)
    | (push_cast at h2; rw [this] at h2; cases h2)
section
variable {X : Cx}
theorem op_addD : OpR X (binaryOp .Add) (fun x y H Q => rI0 (fun i j => .int (i + j)) x y H Q ∨ ∃ i j, x = .str i ∧ y = .str j ∧ i.length + j.length ≤ sizeLine ∧ Q (.str (i ++ j)) H) := op_add.or op_add_str
theorem opd_sub : OpD X.K gSub (rI0 fun i j => .int (i - j)) := by
  intro x y d hd ρ H G u v Q hG ru rv k
  unfold gSub at hd
  split at hd
  · cases hd; exact ⟨_, _, rep_int.mp ru, rep_int.mp rv, k _ H (Same.refl H) (rep_int.mpr rfl)⟩
  · cases hd
theorem op_mulD : OpR X (binaryOp .Mult) (fun x y H Q => rI (fun i j => (inBig i && inBig j) = true) (fun i j => .int (i * j)) x y H Q ∨ ∃ z n, x = .str z ∧ y = .int n ∧ (z.length ≤ 4096 ∧ -4096 ≤ n ∧ n ≤ 4096) ∧ Q (.str (Txt.mul z n)) H) := by
  refine OpR.or (opI fun i j t u s E Q hc q => PyProof.Rows.mul_int q (by rw [Bool.and_eq_true] at hc; exact big_mul hc.1 hc.2)) ?_
  intro pins s σ H x y v u Q I rx ry h
  obtain ⟨z, n, rfl, rfl, ⟨h1, h2, h3⟩, q⟩ := h
  obtain ⟨t, rfl⟩ := rx
  obtain ⟨t', rfl⟩ := ry
  refine SB.mul (PyProof.Rows.mulOk_of 4096 4096 h1 h3 (by omega) (by decide) (by decide)) fun t' k => ⟨.str (Txt.mul z n), H, I.tok _, ⟨_, rfl⟩, q⟩
theorem opd_mul : OpD X.K gMul (fun x y H Q => rI (fun i j => (inBig i && inBig j) = true) (fun i j => .int (i * j)) x y H Q ∨ ∃ z n, x = .str z ∧ y = .int n ∧ (z.length ≤ 4096 ∧ -4096 ≤ n ∧ n ≤ 4096) ∧ Q (.str (Txt.mul z n)) H) := by
  intro x y d hd ρ H G u v Q hG ru rv k
  unfold gMul at hd
  split at hd
  · split at hd
    · rename_i hz
      cases hd; exact .inl ⟨_, _, rep_int.mp ru, rep_int.mp rv, hz, k _ H (Same.refl H) (rep_int.mpr rfl)⟩
    · cases hd
  · split at hd
    · rename_i hz
      cases hd; exact .inr ⟨_, _, rep_str.mp ru, rep_int.mp rv, hz, k _ H (Same.refl H) (rep_str.mpr rfl)⟩
    · cases hd
  · cases hd
theorem opd_mod : OpD X.K gMod (rI (fun _ j => 0 < j) fun i j => .int (i % j)) := by
  intro x y d hd ρ H G u v Q hG ru rv k
  unfold gMod at hd
  split at hd
  · split at hd
    · rename_i hz
      cases hd; exact ⟨_, _, rep_int.mp ru, rep_int.mp rv, hz, k _ H (Same.refl H) (rep_int.mpr rfl)⟩
    · cases hd
  · cases hd
theorem op_fdivD : OpR X (binaryOp .FloorDiv) (rI (fun _ j => 0 < j ∧ j < DIVB) fun i j => .int (i / j)) := opI fun i j t u s E Q hc q => by
  have e : i.fdiv j = i / j := Int.fdiv_eq_ediv_of_nonneg i (Int.le_of_lt hc.1)
  refine PyProof.Rows.floordiv_int (by omega) (by rw [e]; exact q) (.inl (PyProof.noPylong_of_log2 ?_))
  have hn : j.natAbs ≠ 0 := by omega
  have hlt : j.natAbs < DIVN := by
    have := hc.2
    unfold DIVB at this
    omega
  rw [DIVN_eq] at hlt
  exact (Nat.log2_lt (k := 9000) hn).mpr hlt
theorem opd_fdiv : OpD X.K gFdiv (rI (fun _ j => 0 < j ∧ j < DIVB) fun i j => .int (i / j)) := by
  intro x y d hd ρ H G u v Q hG ru rv k
  unfold gFdiv at hd
  split at hd
  · split at hd
    · rename_i hz
      cases hd; exact ⟨_, _, rep_int.mp ru, rep_int.mp rv, hz, k _ H (Same.refl H) (rep_int.mpr rfl)⟩
    · cases hd
  · cases hd
theorem opd_pow : OpD X.K gPow (rI CPow fun i j => .int (i ^ j.toNat)) := by
  intro x y d hd ρ H G u v Q hG ru rv k
  unfold gPow at hd
  split at hd
  · split at hd
    · rename_i hz
      cases hd; exact ⟨_, _, rep_int.mp ru, rep_int.mp rv, ⟨hz.1, by omega, by omega⟩, k _ H (Same.refl H) (rep_int.mpr rfl)⟩
    · cases hd
  · cases hd
theorem opd_cmp {p : Int → Int → Bool} {q : Str → Str → Bool} : OpD X.K (gCmp p q) (fun x y H Q => rI0 (fun i j => .bl (p i j)) x y H Q ∨ ∃ i j, x = .str i ∧ y = .str j ∧ Q (.bl (q i j)) H) := by
  intro x y d hd ρ H G u v Q hG ru rv k
  unfold gCmp at hd
  split at hd
  · cases hd; exact .inl ⟨_, _, rep_int.mp ru, rep_int.mp rv, k _ H (Same.refl H) (rep_bl.mpr rfl)⟩
  · cases hd; exact .inr ⟨_, _, rep_str.mp ru, rep_str.mp rv, k _ H (Same.refl H) (rep_bl.mpr rfl)⟩
  · cases hd
theorem op_strs {op : CmpOp} {q : Str → Str → Bool} (h : ∀ {prog : Program} {w : World} {A : Around} {E : Value → Shared → Prop} {s : Shared} {Q : Value → Shared → Prop} (x y : Str) (t u : Tok), Q (.bool (q x y)) s → wpAny (model prog w) A (compareOp op (.str x t) (.str y u)) Q E s) :
    OpR X (compareOp op) (fun x y H Q => ∃ i j, x = .str i ∧ y = .str j ∧ Q (.bl (q i j)) H) := by
  intro pins s σ H x y v u Q I rx ry k
  obtain ⟨i, j, rfl, rfl, k⟩ := k
  obtain ⟨t, rfl⟩ := rx
  obtain ⟨t', rfl⟩ := ry
  exact h i j t t' ⟨.bl (q i j), H, I, rfl, k⟩
theorem op_ltD : OpR X (compareOp .Lt) (fun x y H Q => rI0 (fun i j => .bl (decide (i < j))) x y H Q ∨ ∃ i j, x = .str i ∧ y = .str j ∧ Q (.bl (decide (i.cps.toList < j.cps.toList))) H) := op_lt.or op_lt_str
theorem op_geD : OpR X (compareOp .GtE) (fun x y H Q => rI0 (fun i j => .bl (decide (j ≤ i))) x y H Q ∨ ∃ i j, x = .str i ∧ y = .str j ∧ Q (.bl (!decide (i.cps.toList < j.cps.toList))) H) := op_ge.or (op_strs fun x y t u h => P.ge_str h)
noncomputable def rEqD (K : PySem.W.Frag) (neg : Bool) : R2 := fun u v H Q => ∃ ρ x y, okD x = true ∧ okD y = true ∧ depD x ≤ 20 ∧ Rep ρ K H x u ∧ Rep ρ K H y v ∧ Q (.bl (if neg then !eqB x y else eqB x y)) H
theorem op_eqD (hu : X.A.units + 30 < cLine) : OpR X (compareOp .Eq) (rEqD X.K false) := by
  intro pins s σ H x y v u Q I rx ry h
  obtain ⟨ρ, d, e, o1, o2, hd, r1, r2, q⟩ := h
  exact (eq_deep I 20 X.A d e x y v u hd (by omega) o1 o2 r1 r2 rx ry).1 _ _ _ _ ⟨.bl (eqB d e), H, I, rfl, q⟩
theorem opd_eq : OpD X.K gEq (rEqD X.K false) := by
  intro x y d hd ρ H G u v Q hG ru rv k
  unfold gEq at hd
  split at hd
  · rename_i h
    rw [Bool.and_eq_true, Bool.and_eq_true, decide_eq_true_eq] at h
    cases hd
    exact ⟨ρ, x, y, h.1.1, h.1.2, h.2, ru.mono same_un, rv.mono same_un, k _ H (Same.refl H) (rep_bl.mpr rfl)⟩
  · cases hd
theorem opd_ne : OpD X.K gNe (rEqD X.K true) := by
  intro x y d hd ρ H G u v Q hG ru rv k
  unfold gNe at hd
  split at hd
  · rename_i h
    rw [Bool.and_eq_true, Bool.and_eq_true, decide_eq_true_eq] at h
    cases hd
    exact ⟨ρ, x, y, h.1.1, h.1.2, h.2, ru.mono same_un, rv.mono same_un, k _ H (Same.refl H) (rep_bl.mpr rfl)⟩
  · cases hd
theorem ne_tuples {ρ : Rho} {pins : List (Addr × Obj)} {σ : St} {H : Hp} {s : Shared} (I : Inv X pins σ H s) (A : Around) {ds es : List D} {v u : V} {a b : Value} (hd : depD (.tup ds) ≤ 20) (hu : A.units + 24 < cLine) (od : okD (.tup ds) = true) (oe : okD (.tup es) = true)
    (rd : Rep ρ X.K H (.tup ds) v) (re : Rep ρ X.K H (.tup es) u) (ra : RelV v a) (rb : RelV u b) : SeqAt.RcNeAt A s a b (!eqB (.tup ds) (.tup es)) := by
  have hu' : A.units < cLine := by omega
  obtain ⟨l, xs, rfl, q1, q2⟩ := rep_tup.mp rd
  obtain ⟨m, ys, rfl, p1, p2⟩ := rep_tup.mp re
  cases ra
  cases rb
  obtain ⟨ix, rx, px, _⟩ := I.tuple q1
  obtain ⟨iy, ry, py, _⟩ := I.tuple p1
  unfold okD at od oe
  unfold depD at hd
  have lx := rx.length
  have ly := ry.length
  have mx := q2.length
  have my := p2.length
  have R := SeqAt.RcNeAt.tuples (A := A) (e := fun j => match ds[j]?, es[j]? with | some x, some y => eqB x y | _, _ => false) (show s.heap.IsTuple l ix.toArray from px) (show s.heap.IsTuple m iy.toArray from py) hu' fun j h1 h2 => by
    have h1' : j < ix.length := by simpa using h1
    have h2' : j < iy.length := by simpa using h2
    have hj1 : j < ds.length := by omega
    have hj2 : j < es.length := by omega
    obtain ⟨v1, e1, r1⟩ := q2.get (List.getElem?_eq_getElem hj1)
    obtain ⟨v2, e2, r2⟩ := p2.get (List.getElem?_eq_getElem hj2)
    obtain ⟨u1, f1, s1⟩ := rx.get e1
    obtain ⟨u2, f2, s2⟩ := ry.get e2
    have g1 : ix.toArray[j] = u1 := by rw [List.getElem?_eq_getElem h1'] at f1; simpa using Option.some.inj f1
    have g2 : iy.toArray[j] = u2 := by rw [List.getElem?_eq_getElem h2'] at f2; simpa using Option.some.inj f2
    rw [g1, g2, List.getElem?_eq_getElem hj1, List.getElem?_eq_getElem hj2]
    have dd := depDs_get (List.getElem?_eq_getElem hj1)
    exact (eq_deep I 20 A.in1 _ _ v1 v2 u1 u2 (by omega) (by show A.units + 1 + 20 + 1 < cLine; omega) (okDs_get od (List.getElem?_eq_getElem hj1)) (okDs_get oe (List.getElem?_eq_getElem hj2)) r1 r2 s1 s2).2
  unfold eqB
  have fin : ((List.range (min ix.toArray.size iy.toArray.size)).all (fun j => match ds[j]?, es[j]? with | some x, some y => eqB x y | _, _ => false) && ix.toArray.size == iy.toArray.size) = eqBs ds es := by
    simp only [List.size_toArray]
    by_cases hl : ds.length = es.length
    · have e1 : min ix.length iy.length = ds.length := by omega
      have e2 : (ix.length == iy.length) = true := by simp; omega
      rw [e1, e2, Bool.and_true]
      exact eqBs_all hl _ fun j x y z1 z2 => by rw [z1, z2]
    · have e2 : (ix.length == iy.length) = false := by simp; omega
      rw [e2, Bool.and_false]
      cases z : eqBs ds es with
      | false => rfl
      | true => exact absurd (eqBs_len z) hl
  rw [fin] at R
  exact R
theorem ne_lists {ρ : Rho} {pins : List (Addr × Obj)} {σ : St} {H : Hp} {s : Shared} (I : Inv X pins σ H s) (A : Around) {ds es : List D} {v u : V} {a b : Value} (hd : depD (.lst ds) ≤ 20) (hu : A.units + 24 < cLine) (od : okD (.lst ds) = true) (oe : okD (.lst es) = true)
    (rd : Rep ρ X.K H (.lst ds) v) (re : Rep ρ X.K H (.lst es) u) (ra : RelV v a) (rb : RelV u b) : SeqAt.RcNeAt A s a b (!eqB (.lst ds) (.lst es)) := by
  have hu' : A.units < cLine := by omega
  obtain ⟨l, xs, rfl, q1, q2⟩ := rep_lst.mp rd
  obtain ⟨m, ys, rfl, p1, p2⟩ := rep_lst.mp re
  cases ra
  cases rb
  obtain ⟨ix, rx, px, _⟩ := I.list q1
  obtain ⟨iy, ry, py, _⟩ := I.list p1
  unfold okD at od oe
  unfold depD at hd
  have lx := rx.length
  have ly := ry.length
  have mx := q2.length
  have my := p2.length
  unfold eqB
  by_cases hl : ds.length = es.length
  · have hsz : ix.toArray.size = iy.toArray.size := by simp only [List.size_toArray]; omega
    have R := SeqAt.RcNeAt.lists (A := A) (e := fun j => match ds[j]?, es[j]? with | some x, some y => eqB x y | _, _ => false) px.isList py.isList hsz hu' fun j h1 h2 => by
      have h1' : j < ix.length := by simpa using h1
      have h2' : j < iy.length := by simpa using h2
      have hj1 : j < ds.length := by omega
      have hj2 : j < es.length := by omega
      obtain ⟨v1, e1, r1⟩ := q2.get (List.getElem?_eq_getElem hj1)
      obtain ⟨v2, e2, r2⟩ := p2.get (List.getElem?_eq_getElem hj2)
      obtain ⟨u1, f1, s1⟩ := rx.get e1
      obtain ⟨u2, f2, s2⟩ := ry.get e2
      have g1 : ix.toArray[j] = u1 := by rw [List.getElem?_eq_getElem h1'] at f1; simpa using Option.some.inj f1
      have g2 : iy.toArray[j] = u2 := by rw [List.getElem?_eq_getElem h2'] at f2; simpa using Option.some.inj f2
      rw [g1, g2, List.getElem?_eq_getElem hj1, List.getElem?_eq_getElem hj2]
      have dd := depDs_get (List.getElem?_eq_getElem hj1)
      exact (eq_deep I 20 A.in1 _ _ v1 v2 u1 u2 (by omega) (by show A.units + 1 + 20 + 1 < cLine; omega) (okDs_get od (List.getElem?_eq_getElem hj1)) (okDs_get oe (List.getElem?_eq_getElem hj2)) r1 r2 s1 s2).2
    have e1 : ix.toArray.size = ds.length := by simp only [List.size_toArray]; omega
    rw [e1, eqBs_all hl _ fun j x y z1 z2 => by rw [z1, z2]] at R
    exact R
  · have R := SeqAt.RcNeAt.lists_lengths (s := s) (A := A) px.isList py.isList (by simp only [List.size_toArray]; simp; omega) hu'
    cases z : eqBs ds es with
    | false => exact R
    | true => exact absurd (eqBs_len z) hl
theorem ne_top {ρ : Rho} {pins : List (Addr × Obj)} {σ : St} {H : Hp} {s : Shared} (I : Inv X pins σ H s) (A : Around) (d e : D) (v u : V) (a b : Value) (hd : depD d ≤ 20) (hu : A.units + 24 < cLine) (od : okD d = true) (oe : okD e = true) (rd : Rep ρ X.K H d v) (re : Rep ρ X.K H e u) (ra : RelV v a) (rb : RelV u b) :
    SeqAt.RcNeAt A s a b (!eqB d e) := by
  have hu' : A.units < cLine := by omega
  have seqT : ∀ {es : List D} {w : V} {c : Value}, Rep ρ X.K H (.tup es) w → RelV w c → ∃ l its, c = .ref l ∧ s.heap.IsTuple l its := fun h rc => by
    obtain ⟨l, xs, rfl, q1, _⟩ := rep_tup.mp h
    obtain ⟨its, _, p, _⟩ := I.tuple q1
    exact ⟨l, _, rc, p⟩
  have seqL : ∀ {es : List D} {w : V} {c : Value}, Rep ρ X.K H (.lst es) w → RelV w c → ∃ l its, c = .ref l ∧ s.heap.IsList l its := fun h rc => by
    obtain ⟨l, xs, rfl, q1, _⟩ := rep_lst.mp h
    obtain ⟨its, _, p, _⟩ := I.list q1
    exact ⟨l, _, rc, p.isList⟩
  cases d with
  | ty _ => unfold okD at od; cases od
  | obj _ => unfold okD at od; cases od
  | non =>
    cases e with
    | ty _ => unfold okD at oe; cases oe
    | obj _ => unfold okD at oe; cases oe
    | non => cases rep_non.mp rd; cases ra; cases rep_non.mp re; cases rb; unfold eqB; exact SeqAt.RcNeAt.none_none
    | bl y => cases rep_non.mp rd; cases ra; cases rep_bl.mp re; cases rb; unfold eqB; exact SeqAt.RcNeAt.none_bool _
    | int y => cases rep_non.mp rd; cases ra; cases rep_int.mp re; obtain ⟨t2, rfl⟩ := rb; unfold eqB; exact SeqAt.RcNeAt.none_int _ _
    | str y => cases rep_non.mp rd; cases ra; cases rep_str.mp re; obtain ⟨t2, rfl⟩ := rb; unfold eqB; exact SeqAt.RcNeAt.none_str _ _
    | tup y => cases rep_non.mp rd; cases ra; obtain ⟨l2, i2, rfl, p2⟩ := seqT re rb; unfold eqB; exact SeqAt.RcNeAt.none_tuple p2 hu'
    | lst y => cases rep_non.mp rd; cases ra; obtain ⟨l2, i2, rfl, p2⟩ := seqL re rb; unfold eqB; exact SeqAt.RcNeAt.none_list p2 hu'
  | bl x =>
    cases e with
    | ty _ => unfold okD at oe; cases oe
    | obj _ => unfold okD at oe; cases oe
    | non => cases rep_bl.mp rd; cases ra; cases rep_non.mp re; cases rb; unfold eqB; exact SeqAt.RcNeAt.bool_none _
    | bl y => cases rep_bl.mp rd; cases ra; cases rep_bl.mp re; cases rb; unfold eqB; exact SeqAt.RcNeAt.bool_bool _ _
    | int y => cases rep_bl.mp rd; cases ra; cases rep_int.mp re; obtain ⟨t2, rfl⟩ := rb; unfold eqB; exact SeqAt.RcNeAt.bool_int _ _ _
    | str y => cases rep_bl.mp rd; cases ra; cases rep_str.mp re; obtain ⟨t2, rfl⟩ := rb; unfold eqB; exact SeqAt.RcNeAt.bool_str _ _ _
    | tup y => cases rep_bl.mp rd; cases ra; obtain ⟨l2, i2, rfl, p2⟩ := seqT re rb; unfold eqB; exact SeqAt.RcNeAt.bool_tuple _ p2 hu'
    | lst y => cases rep_bl.mp rd; cases ra; obtain ⟨l2, i2, rfl, p2⟩ := seqL re rb; unfold eqB; exact SeqAt.RcNeAt.bool_list _ p2 hu'
  | int x =>
    cases e with
    | ty _ => unfold okD at oe; cases oe
    | obj _ => unfold okD at oe; cases oe
    | non => cases rep_int.mp rd; obtain ⟨t1, rfl⟩ := ra; cases rep_non.mp re; cases rb; unfold eqB; exact SeqAt.RcNeAt.int_none _ _
    | bl y => cases rep_int.mp rd; obtain ⟨t1, rfl⟩ := ra; cases rep_bl.mp re; cases rb; unfold eqB; exact SeqAt.RcNeAt.int_bool _ _ _
    | int y => cases rep_int.mp rd; obtain ⟨t1, rfl⟩ := ra; cases rep_int.mp re; obtain ⟨t2, rfl⟩ := rb; unfold eqB; exact SeqAt.RcNeAt.int_int _ _ _ _
    | str y => cases rep_int.mp rd; obtain ⟨t1, rfl⟩ := ra; cases rep_str.mp re; obtain ⟨t2, rfl⟩ := rb; unfold eqB; exact SeqAt.RcNeAt.int_str _ _ _ _
    | tup y => cases rep_int.mp rd; obtain ⟨t1, rfl⟩ := ra; obtain ⟨l2, i2, rfl, p2⟩ := seqT re rb; unfold eqB; exact SeqAt.RcNeAt.int_tuple _ _ p2 hu'
    | lst y => cases rep_int.mp rd; obtain ⟨t1, rfl⟩ := ra; obtain ⟨l2, i2, rfl, p2⟩ := seqL re rb; unfold eqB; exact SeqAt.RcNeAt.int_list _ _ p2 hu'
  | str x =>
    cases e with
    | ty _ => unfold okD at oe; cases oe
    | obj _ => unfold okD at oe; cases oe
    | non => cases rep_str.mp rd; obtain ⟨t1, rfl⟩ := ra; cases rep_non.mp re; cases rb; unfold eqB; exact SeqAt.RcNeAt.str_none _ _
    | bl y => cases rep_str.mp rd; obtain ⟨t1, rfl⟩ := ra; cases rep_bl.mp re; cases rb; unfold eqB; exact SeqAt.RcNeAt.str_bool _ _ _
    | int y => cases rep_str.mp rd; obtain ⟨t1, rfl⟩ := ra; cases rep_int.mp re; obtain ⟨t2, rfl⟩ := rb; unfold eqB; exact SeqAt.RcNeAt.str_int _ _ _ _
    | str y => cases rep_str.mp rd; obtain ⟨t1, rfl⟩ := ra; cases rep_str.mp re; obtain ⟨t2, rfl⟩ := rb; unfold eqB; exact SeqAt.RcNeAt.str_str _ _ _ _
    | tup y => cases rep_str.mp rd; obtain ⟨t1, rfl⟩ := ra; obtain ⟨l2, i2, rfl, p2⟩ := seqT re rb; unfold eqB; exact SeqAt.RcNeAt.str_tuple _ _ p2 hu'
    | lst y => cases rep_str.mp rd; obtain ⟨t1, rfl⟩ := ra; obtain ⟨l2, i2, rfl, p2⟩ := seqL re rb; unfold eqB; exact SeqAt.RcNeAt.str_list _ _ p2 hu'
  | tup x =>
    cases e with
    | ty _ => unfold okD at oe; cases oe
    | obj _ => unfold okD at oe; cases oe
    | non => obtain ⟨l1, i1, rfl, p1⟩ := seqT rd ra; cases rep_non.mp re; cases rb; unfold eqB; exact SeqAt.RcNeAt.tuple_none p1 hu'
    | bl y => obtain ⟨l1, i1, rfl, p1⟩ := seqT rd ra; cases rep_bl.mp re; cases rb; unfold eqB; exact SeqAt.RcNeAt.tuple_bool _ p1 hu'
    | int y => obtain ⟨l1, i1, rfl, p1⟩ := seqT rd ra; cases rep_int.mp re; obtain ⟨t2, rfl⟩ := rb; unfold eqB; exact SeqAt.RcNeAt.tuple_int _ _ p1 hu'
    | str y => obtain ⟨l1, i1, rfl, p1⟩ := seqT rd ra; cases rep_str.mp re; obtain ⟨t2, rfl⟩ := rb; unfold eqB; exact SeqAt.RcNeAt.tuple_str _ _ p1 hu'
    | tup y => exact ne_tuples I A hd hu od oe rd re ra rb
    | lst y => obtain ⟨l1, i1, rfl, p1⟩ := seqT rd ra; obtain ⟨l2, i2, rfl, p2⟩ := seqL re rb; unfold eqB; exact SeqAt.RcNeAt.tuple_list p1 p2 hu'
  | lst x =>
    cases e with
    | ty _ => unfold okD at oe; cases oe
    | obj _ => unfold okD at oe; cases oe
    | non => obtain ⟨l1, i1, rfl, p1⟩ := seqL rd ra; cases rep_non.mp re; cases rb; unfold eqB; exact SeqAt.RcNeAt.list_none p1 hu'
    | bl y => obtain ⟨l1, i1, rfl, p1⟩ := seqL rd ra; cases rep_bl.mp re; cases rb; unfold eqB; exact SeqAt.RcNeAt.list_bool _ p1 hu'
    | int y => obtain ⟨l1, i1, rfl, p1⟩ := seqL rd ra; cases rep_int.mp re; obtain ⟨t2, rfl⟩ := rb; unfold eqB; exact SeqAt.RcNeAt.list_int _ _ p1 hu'
    | str y => obtain ⟨l1, i1, rfl, p1⟩ := seqL rd ra; cases rep_str.mp re; obtain ⟨t2, rfl⟩ := rb; unfold eqB; exact SeqAt.RcNeAt.list_str _ _ p1 hu'
    | tup y => obtain ⟨l1, i1, rfl, p1⟩ := seqL rd ra; obtain ⟨l2, i2, rfl, p2⟩ := seqT re rb; unfold eqB; exact SeqAt.RcNeAt.list_tuple p1 p2 hu'
    | lst y => exact ne_lists I A hd hu od oe rd re ra rb
theorem op_neD (hu : X.A.units + 30 < cLine) : OpR X (compareOp .NotEq) (rEqD X.K true) := by
  intro pins s σ H x y v u Q I rx ry h
  obtain ⟨ρ, d, e, o1, o2, hd, r1, r2, q⟩ := h
  exact ne_top I X.A d e x y v u hd (by omega) o1 o2 r1 r2 rx ry _ _ _ _ ⟨.bl (!eqB d e), H, I, rfl, q⟩
theorem und_neg : UnD X.K gNeg (rU fun i => .int (-i)) := by
  intro x d hd ρ H G u Q hG ru k
  cases x with
  | int i => cases hd; exact ⟨i, rep_int.mp ru, k _ H (Same.refl H) (rep_int.mpr rfl)⟩
  | _ => cases hd
theorem reps_ix {ρ : Rho} {K : PySem.W.Frag} {H : Hp} {ds : List D} {xs : List V} {i : Int} {d : D} (h : Reps ρ K H ds xs) (e : atI ds i = some d) : ∃ v, atI xs i = some v ∧ Rep ρ K H d v := by
  unfold atI at e ⊢
  rw [h.length]
  cases z : ixN ds.length i with
  | none => rw [z] at e; cases e
  | some j => rw [z] at e; exact h.get e
theorem opd_ix : OpD X.K gIx (rIx X.K) := by
  intro x y d hd ρ H G u v Q hG ru rv k
  unfold gIx at hd
  split at hd
  · obtain ⟨a, xs, rfl, q1, q2⟩ := rep_lst.mp ru
    obtain ⟨w, e, r⟩ := reps_ix q2 hd
    exact .inl ⟨a, xs, _, w, rfl, rep_int.mp rv, same_l same_un q1, e, k w H (Same.refl H) r⟩
  · obtain ⟨a, xs, rfl, q1, q2⟩ := rep_tup.mp ru
    obtain ⟨w, e, r⟩ := reps_ix q2 hd
    exact .inr (.inl ⟨a, xs, _, w, rfl, rep_int.mp rv, same_t same_un q1, e, k w H (Same.refl H) r⟩)
  · split at hd
    · rename_i z i hz
      cases e : atI z.cps.toList i with
      | none => rw [e] at hd; cases hd
      | some c =>
        rw [e] at hd
        cases hd
        exact .inr (.inr ⟨z, i, c, rep_str.mp ru, rep_int.mp rv, hz, e, k _ H (Same.refl H) (rep_str.mpr rfl)⟩)
    · cases hd
  · cases hd
noncomputable def kLen : List D → Option D
  | [.lst ds] => some (.int ds.length)
  | [.tup ds] => some (.int ds.length)
  | [.str z] => if z.length ≤ sizeLine then some (.int z.length) else none
  | _ => none
theorem reps1 {ρ : Rho} {K : PySem.W.Frag} {H : Hp} {d : D} {vs : List V} (h : Reps ρ K H [d] vs) : ∃ v, vs = [v] ∧ Rep ρ K H d v := by
  obtain ⟨v, r, rfl, q1, q2⟩ := reps_cons.mp h
  cases reps_nil.mp q2
  exact ⟨v, rfl, q1⟩
theorem reps2 {ρ : Rho} {K : PySem.W.Frag} {H : Hp} {d e : D} {vs : List V} (h : Reps ρ K H [d, e] vs) : ∃ v u, vs = [v, u] ∧ Rep ρ K H d v ∧ Rep ρ K H e u := by
  obtain ⟨v, r, rfl, q1, q2⟩ := reps_cons.mp h
  obtain ⟨u, rfl, q3⟩ := reps1 q2
  exact ⟨v, u, rfl, q1, q3⟩
theorem call_lenD : CallR X (.builtin "len") (fun xs H Q => (∃ p ys, xs = [.ref p] ∧ (SqL X.K H p ys ∨ SqT X.K H p ys) ∧ Q (.int ys.length) H) ∨ ∃ z, xs = [.str z] ∧ z.length ≤ sizeLine ∧ Q (.int z.length) H) := call_len_seq.or call_len_str
theorem cad_len : CaD X.K kLen (fun xs H Q => (∃ p ys, xs = [.ref p] ∧ (SqL X.K H p ys ∨ SqT X.K H p ys) ∧ Q (.int ys.length) H) ∨ ∃ z, xs = [.str z] ∧ z.length ≤ sizeLine ∧ Q (.int z.length) H) := by
  intro xs d hd ρ H G us Q hG ru k
  unfold kLen at hd
  split at hd
  · cases hd
    obtain ⟨v, rfl, q⟩ := reps1 ru
    obtain ⟨a, ys, rfl, q1, q2⟩ := rep_lst.mp q
    exact .inl ⟨a, ys, rfl, .inl (same_l same_un q1), k _ H (Same.refl H) (rep_int.mpr (by rw [q2.length]))⟩
  · cases hd
    obtain ⟨v, rfl, q⟩ := reps1 ru
    obtain ⟨a, ys, rfl, q1, q2⟩ := rep_tup.mp q
    exact .inl ⟨a, ys, rfl, .inr (same_t same_un q1), k _ H (Same.refl H) (rep_int.mpr (by rw [q2.length]))⟩
  · split at hd
    · rename_i z hz
      cases hd
      obtain ⟨v, rfl, q⟩ := reps1 ru
      cases rep_str.mp q
      exact .inr ⟨z, rfl, hz, k _ H (Same.refl H) (rep_int.mpr rfl)⟩
    · cases hd
  · cases hd
noncomputable def kTuple : List D → Option D
  | [.lst ds] => some (.tup ds)
  | [.tup ds] => some (.tup ds)
  | _ => none
noncomputable def kList : List D → Option D
  | [.lst ds] => some (.lst ds)
  | [.tup ds] => some (.lst ds)
  | _ => none
theorem cad_list : CaD X.K kList (fun xs H Q => ∃ p ys, xs = [.ref p] ∧ (SqL X.K H p ys ∨ SqT X.K H p ys) ∧ ∀ l, H l = none → Q (.ref l) (upd H l (.lst ys))) := by
  intro xs d hd ρ H G us Q hG ru k
  unfold kList at hd
  split at hd
  · cases hd
    obtain ⟨v, rfl, q⟩ := reps1 ru
    obtain ⟨a, ys, rfl, q1, q2⟩ := rep_lst.mp q
    exact ⟨a, ys, rfl, .inl (same_l same_un q1), fun l hl => k _ _ (same_upd hl) (rep_new_lst hl (hG l hl) q2)⟩
  · cases hd
    obtain ⟨v, rfl, q⟩ := reps1 ru
    obtain ⟨a, ys, rfl, q1, q2⟩ := rep_tup.mp q
    exact ⟨a, ys, rfl, .inr (same_t same_un q1), fun l hl => k _ _ (same_upd hl) (rep_new_lst hl (hG l hl) q2)⟩
  · cases hd
noncomputable def kMin : List D → Option D
  | [.int i, .int j] => some (.int (if j < i then j else i))
  | _ => none
noncomputable def kMax : List D → Option D
  | [.int i, .int j] => some (.int (if j > i then j else i))
  | _ => none
theorem cad_max : CaD X.K kMax (fun xs H Q => ∃ i j, xs = [.int i, .int j] ∧ Q (.int (if j > i then j else i)) H) := by
  intro xs d hd ρ H G us Q hG ru k
  unfold kMax at hd
  split at hd
  · cases hd
    obtain ⟨v, u, rfl, q1, q2⟩ := reps2 ru
    cases rep_int.mp q1
    cases rep_int.mp q2
    exact ⟨_, _, rfl, k _ H (Same.refl H) (rep_int.mpr rfl)⟩
  · cases hd
noncomputable def kInt : List D → Option D
  | [.int i] => some (.int i)
  | [.bl k] => some (.int (if k then 1 else 0))
  | _ => none
noncomputable def intsD : List D → Option (List Int)
  | [] => some []
  | .int i :: ds => (intsD ds).map (i :: ·)
  | _ :: _ => none
theorem intsD_eq : ∀ {ds : List D} {ns : List Int}, intsD ds = some ns → ds = ns.map .int
  | [], _, h => by cases h; rfl
  | .int i :: ds, ns, h => by
    unfold intsD at h
    cases e : intsD ds with
    | none => rw [e] at h; cases h
    | some ms => rw [e] at h; cases h; rw [intsD_eq e]; rfl
  | .non :: _, _, h => by cases h
  | .bl _ :: _, _, h => by cases h
  | .str _ :: _, _, h => by cases h
  | .ty _ :: _, _, h => by cases h
  | .obj _ :: _, _, h => by cases h
  | .tup _ :: _, _, h => by cases h
  | .lst _ :: _, _, h => by cases h
theorem intsD_map (ns : List Int) : intsD (ns.map .int) = some ns := by
  induction ns with
  | nil => rfl
  | cons n ns ih => rw [List.map_cons]; unfold intsD; rw [ih]; rfl
noncomputable def kSum : List D → Option D
  | [d] => match seqD d with
    | some ds => (intsD ds).map fun ns => .int ns.sum
    | none => none
  | _ => none
theorem preSum_eq (ns : List Int) : ∀ k, k ≤ ns.length → preSum (fun i => ns.getD i 0) k = (ns.take k).sum := by
  intro k
  induction k with
  | zero => intro _; rfl
  | succ k ih =>
    intro h
    show preSum _ k + ns.getD k 0 = _
    rw [ih (by omega), List.take_succ, List.sum_append]
    congr 1
    rw [List.getD_eq_getElem?_getD, List.getElem?_eq_getElem (by omega)]
    simp
theorem call_sumD (hc : X.calm = true) : CallR X (.builtin "sum") (fun xs H Q => ∃ k p, ∃ ns : List Int, xs = [.ref p] ∧ SqV k X.K H p (ns.map V.int) ∧ Q (.int ns.sum) H) := by
  intro pins s σ H xs us Q I r h
  obtain ⟨k, p, ns, rfl, hq, q⟩ := h
  obtain ⟨u, rfl, rx⟩ := r.one
  cases rx
  obtain ⟨its, rv, src, hz⟩ := I.src hq
  have hl := rv.length
  rw [List.length_map] at hl
  have hh : X.A.in1.handled = none := I.ok.hd hc
  have val : ∀ (i : Nat) v, its.toArray[i]? = some v → ∃ t, v = .int (ns.getD i 0) t := fun i v e => by
    have hi : i < ns.length := by rw [hl]; have := (Array.getElem?_eq_some_iff.mp e).1; simpa using this
    obtain ⟨v', e1, r1⟩ := rv.get (i := i) (x := .int ns[i]) (by rw [List.getElem?_map, List.getElem?_eq_getElem hi]; rfl)
    have : v = v' := by
      have e' : its[i]? = some v := by simpa using e
      rw [e'] at e1; exact Option.some.inj e1
    subst this
    rw [List.getD_eq_getElem?_getD, List.getElem?_eq_getElem hi]
    exact r1
  have fin : ∀ {it : Addr} {s2 : Shared} {h' : Heap} {tk : Nat} {t' : Tok}, s.heap.objs.size = it → (∀ b o, s.heap.get? b = some o → s2.heap.get? b = some o) → s2 = { s with heap := s2.heap } → (∀ b o, b ∉ [it] → s2.heap.get? b = some o → h'.get? b = some o) →
      EP X pins σ Q (.int (preSum (fun i => ns.getD i 0) its.toArray.size) t') { s2 with heap := h', toks := tk } := fun {it s2 h' tk t'} e1 e2 e3 e4 => by
    have ep : preSum (fun i => ns.getD i 0) its.toArray.size = ns.sum := by
      rw [List.size_toArray, ← hl, preSum_eq ns _ (Nat.le_refl _), List.take_length]
    rw [ep, e3]
    refine ⟨.int ns.sum, H, I.kept fun b o e => e4 b o ?_ (e2 b o e), ⟨_, rfl⟩, q⟩
    intro z
    have : b = it := by simpa using z
    rw [this, ← e1] at e
    exact absurd (Heap.lt_size e) (Nat.lt_irrefl _)
  refine call_sum_walkG ?_
  cases k with
  | true =>
    have src' : s.heap.IsTuple p its.toArray := src
    have hp : p < s.heap.objs.size := by obtain ⟨o, e, _⟩ := src'; exact Heap.lt_size e
    refine wpAny_pyIter_tuple src' ?_
    refine ⟨_, _, _, _, _, _, _, rfl, Walks.tuple hh s.heap.objs.size p (Nat.ne_of_lt hp) its.toArray, ⟨⟨_, Heap.get?_push_size _ rfl, rfl, rfl⟩, src'.at fun o e => Heap.get?_push_of_some _ e⟩, fun b hb => ?_, val, fun h' tk t' kp => fin rfl (fun b o e => Heap.get?_push_of_some _ e) rfl kp⟩
    rw [Heap.size_push]
    simp only [List.mem_cons, List.not_mem_nil, or_false] at hb
    rcases hb with rfl | rfl
    · exact Nat.lt_succ_self _
    · exact Nat.lt_succ_of_lt hp
  | false =>
    have src' : s.heap.IsList p its.toArray := src
    have hp : p < s.heap.objs.size := by obtain ⟨o, e, _⟩ := src'; exact Heap.lt_size e
    refine wpAny_pyIter_list src' ?_
    refine ⟨_, _, _, _, _, _, _, rfl, Walks.list hh s.heap.objs.size p (Nat.ne_of_lt hp) its.toArray, ⟨⟨_, Heap.get?_push_size _ rfl, rfl, rfl⟩, src'.at fun o e => Heap.get?_push_of_some _ e⟩, fun b hb => ?_, val, fun h' tk t' kp => fin rfl (fun b o e => Heap.get?_push_of_some _ e) rfl kp⟩
    rw [Heap.size_push]
    simp only [List.mem_cons, List.not_mem_nil, or_false] at hb
    rcases hb with rfl | rfl
    · exact Nat.lt_succ_self _
    · exact Nat.lt_succ_of_lt hp
theorem cad_sum : CaD X.K kSum (fun xs H Q => ∃ k p, ∃ ns : List Int, xs = [.ref p] ∧ SqV k X.K H p (ns.map V.int) ∧ Q (.int ns.sum) H) := by
  intro xs d hd ρ H G us Q hG ru k
  unfold kSum at hd
  split at hd
  · rename_i d0
    split at hd
    · rename_i ds es
      cases e : intsD ds with
      | none => rw [e] at hd; cases hd
      | some ns =>
        rw [e] at hd
        cases hd
        obtain ⟨v, rfl, q⟩ := reps1 ru
        obtain ⟨kk, l, ys, rfl, q1, q2⟩ := seq_sq es q
        rw [intsD_eq e] at q2
        rw [reps_ints.mp q2] at q1
        exact ⟨kk, l, ns, rfl, same_v same_un q1, k _ H (Same.refl H) (rep_int.mpr rfl)⟩
    · cases hd
  · cases hd
noncomputable def isiD (T : String) : D → Option Bool
  | .non => some (T == "NoneType")
  | .bl _ => some (T == "bool" || T == "int")
  | .int _ => some (T == "int")
  | .str _ => some (T == "str")
  | .tup _ => some (T == "tuple")
  | .lst _ => some (T == "list")
  | _ => none
noncomputable def kIsi : List D → Option D
  | [d, .ty T] => if T = "int" ∨ T = "bool" ∨ T = "tuple" ∨ T = "list" ∨ T = "str" then (isiD T d).map .bl else none
  | _ => none
end
end DL
namespace DL
open PySem PySem.Spec L2
section
variable {X : Cx}
noncomputable def rIsi (K : PySem.W.Frag) : List V → Hp → VK → Prop := fun xs H Q => ∃ ρ d v T b, xs = [v, .ty T] ∧ Rep ρ K H d v ∧ kIsi [d, .ty T] = some (.bl b) ∧ Q (.bl b) H
theorem call_isiD : CallR X (.builtin "isinstance") (rIsi X.K) := by
  intro pins s σ H xs us Q I r h
  obtain ⟨ρ, d, v, T, b, rfl, rd, hk, q⟩ := h
  obtain ⟨u, c, rfl, ru, rc⟩ := r.two
  cases rc
  have fin : ∀ tk, EP X pins σ Q (.bool b) { s with toks := tk } := fun tk => ⟨.bl b, H, I.tok _, rfl, q⟩
  have hk2 : (if T = "int" ∨ T = "bool" ∨ T = "tuple" ∨ T = "list" ∨ T = "str" then (isiD T d).map D.bl else none) = some (.bl b) := hk
  clear hk
  by_cases hT : T = "int" ∨ T = "bool" ∨ T = "tuple" ∨ T = "list" ∨ T = "str"
  · rw [if_pos hT] at hk2
    have hk := hk2
    clear hk2
    cases d with
    | ty _ => cases hk
    | obj _ => cases hk
    | non =>
      cases rep_non.mp rd; cases ru
      rcases hT with rfl | rfl | rfl | rfl | rfl <;> (cases hk; exact PySem.W.kia_one PySem.W.kitx_none I.kIn True.intro rfl (fun z => nomatch z) fin)
    | bl x =>
      cases rep_bl.mp rd; cases ru
      rcases hT with rfl | rfl | rfl | rfl | rfl <;> (cases hk; exact PySem.W.kia_one PySem.W.kitx_bool I.kIn True.intro rfl (fun z => nomatch z) fin)
    | int x =>
      cases rep_int.mp rd; obtain ⟨t, rfl⟩ := ru
      rcases hT with rfl | rfl | rfl | rfl | rfl <;> (cases hk; exact PySem.W.kia_one PySem.W.kitx_int I.kIn True.intro rfl (fun z => nomatch z) fin)
    | str x =>
      cases rep_str.mp rd; obtain ⟨t, rfl⟩ := ru
      rcases hT with rfl | rfl | rfl | rfl | rfl <;> (cases hk; exact PySem.W.kia_one PySem.W.kitx_str I.kIn True.intro rfl (fun z => nomatch z) fin)
    | tup x =>
      obtain ⟨a, ys, rfl, q1, q2⟩ := rep_tup.mp rd
      cases ru
      obtain ⟨its, _, ⟨o, e, hc, _⟩, _⟩ := I.tuple q1
      rcases hT with rfl | rfl | rfl | rfl | rfl <;> (cases hk; exact PySem.W.kia_one PySem.W.kitx_tuple I.kIn ⟨o, e, hc⟩ rfl (fun z => nomatch z) fin)
    | lst x =>
      obtain ⟨a, ys, rfl, q1, q2⟩ := rep_lst.mp rd
      cases ru
      obtain ⟨its, _, p, _⟩ := I.list q1
      obtain ⟨o, e, hc, _⟩ := p.isList
      rcases hT with rfl | rfl | rfl | rfl | rfl <;> (cases hk; exact PySem.W.kia_one PySem.W.kitx_list I.kIn ⟨o, e, hc⟩ rfl (fun z => nomatch z) fin)
  · rw [if_neg hT] at hk2; cases hk2
theorem cad_isi : CaD X.K kIsi (rIsi X.K) := by
  intro xs d hd ρ H G us Q hG ru k
  have hd0 := hd
  unfold kIsi at hd
  split at hd
  · rename_i d0 T
    split at hd
    · obtain ⟨v, u, rfl, q1, q2⟩ := reps2 ru
      cases rep_ty.mp q2
      cases e : isiD T d0 with
      | none => rw [e] at hd; cases hd
      | some b =>
        rw [e] at hd
        cases hd
        exact ⟨ρ, d0, v, T, b, rfl, q1.mono same_un, hd0, k _ H (Same.refl H) (rep_bl.mpr rfl)⟩
    · cases hd
  · cases hd
theorem de_bltT {O : List Nat} {E : XK} {x : Str} {T : String} {pos : Pos} (hg : Gl X x) (hm : X.mg x = none) (hv : bootBuiltins x = some (.type T)) (hn : autoParam (x ≠ "__name__") zau1._auto_1) (hd : autoParam ((x == ("__debug__" : Str)) = false) zau1._auto_1) : DE X O E (.Name x pos) (fC (.ty T)) :=
  de_lit (t := tC (.ty T)) (v := .ty T) (pe_bltn (v := .ty T) hg hm hv rfl hn hd) fun _ _ => rep_ty.mpr rfl
end
inductive spD (K : PySem.W.Frag) (n : Nat) (m : List D → M D) (vs : List V) (H : Hp) (Q : VK) (E : XK) : Prop
  | mk (hn : vs.length = n) (ρ : Rho) (ds : List D) (r : Except XD D) (F : Addr → Bool) (hF : ∀ b, F b = true → H b ≠ none) (hr : Reps ρ K (hid H F) ds vs) (hf : m ds = some r) (k : match (generalizing := false) r with
    | .ok d => ∀ v H', Same H H' → Rep ρ K (hid H' F) d v → Q v H'
    | .error x => okX K H E x)
inductive CalX (P : Program) (w : World) (K : PySem.W.Frag) (mg : Str → Option Value) (base : Heap) (k : Nat) (x : Str) (n : Nat) (sp : Sp) : Prop
  | mk (f : Addr) (fd : FuncData) (ps : List Str) (h1 : ps.length = n) (h2 : mg x = some (.ref f)) (h3 : PySem.W.keepIn K (.ref f) = true) (h4 : Binds K fd ps []) (h5 : FnOk P w K mg base CX0 k f fd ps sp)
structure Cal (P : Program) (w : World) (K : PySem.W.Frag) (mg : Str → Option Value) (base : Heap) (k : Nat) (x : Str) (n : Nat) (m : List D → M D) : Prop where
  ex : CalX P w K mg base k x n (spD K n m)
  ar : ∀ ds r, m ds = some r → ds.length = n
noncomputable def FunAt (K : PySem.W.Frag) (mg : Str → Option Value) (x : Str) (st : Stmt) (ps : List Str) : Prop := ∃ f fd, mg x = some (.ref f) ∧ Fun K x x st f fd ∧ Binds K fd ps []
noncomputable def startD (n : Nat) (ds : List D) : DSt := ds.map some ++ List.replicate (n - ds.length) none
noncomputable def outD : Out → M D
  | .rt d => M.p d
  | .nx _ => M.p .non
  | _ => none
noncomputable def mir (n N : Nat) (g : DSt → M Out) : List D → M D := fun ds => if ds.length = n then (g (startD N ds)).b outD else none
theorem startD_get {N : Nat} {ds : List D} {i : Nat} {d : D} (h : (startD N ds)[i]? = some (some d)) : ds[i]? = some d := by
  unfold startD at h
  by_cases hi : i < ds.length
  · rw [List.getElem?_append_left (by simpa using hi), List.getElem?_map] at h
    cases e : ds[i]? with
    | none => rw [e] at h; cases h
    | some a => rw [e] at h; cases h; rfl
  · rw [List.getElem?_append_right (by simpa using hi), List.getElem?_replicate] at h
    split at h <;> cases h
theorem start_set {N : List Str} {vs : List V} {i : Nat} {v : V} (h : vs[i]? = some v) : (L2.start N vs)[i]? = some (some v) := by
  unfold L2.start
  have hi : i < vs.length := (List.getElem?_eq_some_iff.mp h).1
  rw [List.getElem?_append_left (by simpa using hi), List.getElem?_map, h]
  rfl
section
variable {P : Program} {w : World} {K : PySem.W.Frag} {mg : Str → Option Value} {base : Heap}
theorem fn_D {x : Str} {st : Stmt} {N ps : List Str} {k : Nat} {O' : List Nat} {g : DSt → M Out} {f : Addr} {fd : FuncData} (F : Fun K x x st f fd) (S : FnScope N ps (defScope st))
    (hbody : ∀ (f : Addr) (cdv : Value) (A : Around) (outer : List Env) (s : Shared) (H : Hp) (E : XK), Room k (A.deeper (PyProof.Rows.envOfC x (defScope st) s.heap.objs.size f cdv)) →
      DSs (cxOf CX0 P w K mg base N x (defScope st) f cdv A outer s H E).nox [] O' [] E (defBody st) g) : FnOk P w K mg base CX0 (k + 1) f fd ps (spD K ps.length (mir ps.length N.length g)) := by
  refine F.ok S (fun vs H Q E h => h.1) fun cdv A outer s H vs Q E hr h => ?_
  obtain ⟨hl, ρ, ds, r, F', fin, rp, hmr, k0⟩ := h
  refine ⟨_, hbody f cdv A outer s H E hr, ?_⟩
  have hpl : ps.length ≤ N.length := by have := congrArg List.length S.pre; rw [List.length_take] at this; omega
  have hdl : ds.length = ps.length := by rw [← rp.length]; exact hl
  unfold mir at hmr
  rw [if_pos hdl] at hmr
  have R : RS ρ K H H F' [] (L2.start N vs) (startD N.length ds) := by
    refine ⟨?_, Same.refl H, fin, fun i d hd _ => ?_, fun i hi => absurd hi (by simp), fun i hi => absurd hi (by simp)⟩
    · simp [L2.start, startD, rp.length]
    · obtain ⟨v, e, rv⟩ := rp.get (startD_get hd)
      exact ⟨v, start_set e, by rw [fob_nil]; exact rv⟩
  rcases M.b_inv hmr with ⟨o, e1, hmr⟩ | ⟨y, e1, rfl⟩
  · refine ⟨ρ, H, F', _, .ok o, R, e1, ?_⟩
    cases o with
    | rt d => cases hmr; exact fun v H' s' rv => k0 v H' s' rv
    | nx δ => cases hmr; exact fun σ' H' f' R' => k0 .non H' R'.same (rep_non.mpr rfl)
    | bk δ => cases hmr
    | ct δ => cases hmr
  · exact ⟨ρ, H, F', _, .error y, R, e1, k0⟩
theorem cal_of {x : Str} {st : Stmt} {N ps : List Str} {k : Nat} {O' : List Nat} {g : DSt → M Out} (hf : FunAt K mg x st ps) (S : FnScope N ps (defScope st))
    (hbody : ∀ (f : Addr) (cdv : Value) (A : Around) (outer : List Env) (s : Shared) (H : Hp) (E : XK), Room k (A.deeper (PyProof.Rows.envOfC x (defScope st) s.heap.objs.size f cdv)) →
      DSs (cxOf CX0 P w K mg base N x (defScope st) f cdv A outer s H E).nox [] O' [] E (defBody st) g) : Cal P w K mg base (k + 1) x ps.length (mir ps.length N.length g) := by
  obtain ⟨f, fd, hm, F, hb⟩ := hf
  refine ⟨⟨f, fd, ps, rfl, hm, F.kp, hb, fn_D F S hbody⟩, fun ds r h => ?_⟩
  unfold mir at h
  split at h
  · assumption
  · cases h
theorem funAt_mk {h : Heap} {x : Str} {st : Stmt} {ps : List Str} {f : Addr} {oc : Value} {od an : Option Addr} {osl : Array (Option Value)} {kV doc pm cdv ct : Value} (X : K.In h) (G : h.Ns mainGlobals mg)
    (hb : ∀ (kV doc pm : Value) (an : Option Addr) (cdv ct : Value) (us : List Value), us.length = ps.length → bindArgs (PySem.W.fnOf x x (defArgs st) (defBody st) (defScope st) .none kV doc pm an cdv ct) ⟨us, []⟩ = pure (ps.zip us))
    (a : PySem.W.nsIn K mainGlobals x = some (some (.ref f))) (l : K.lookup f = some ⟨oc, od, .func (PySem.W.fnOf x x (defArgs st) (defBody st) (defScope st) .none kV doc pm an cdv ct), osl⟩)
    (c : PySem.W.codeIn K cdv x = true) (k : PySem.W.keepIn K (.ref f) = true) : FunAt K mg x st ps := by
  have F := fun_mk (st := st) l c k
  exact ⟨f, _, PySem.W.mg_of X G a, F, F.binds hb⟩
theorem funAt_law {st : Stmt} {x : Str} {f : Addr} (hf : FunAt K mg "law" st [x]) (hm : mg "law" = some (.ref f))
    (hb : ∀ (kV doc pm : Value) (an : Option Addr) (cdv ct : Value) (s : Shared) (u : Value), BindsTo s (PySem.W.fnOf "law" "law" (defArgs st) (defBody st) (defScope st) .none kV doc pm an cdv ct) ⟨[u], []⟩ [(x, u)]) :
    ∃ fd, Fun K "law" "law" st f fd ∧ ∀ (s : Shared) (u : Value), BindsTo s fd ⟨[u], []⟩ [(x, u)] := by
  obtain ⟨f', fd, hm', F, _⟩ := hf
  rw [hm] at hm'
  cases hm'
  refine ⟨fd, F, fun s u => ?_⟩
  obtain ⟨oc, od, kV, doc, pm, an, cdv, ct, osl, rfl, lk, hcd⟩ := F.ex
  exact hb kV doc pm an cdv ct s u
end
noncomputable def fCall (m : List D → M D) (fl : DSt → M (List D)) : DSt → M D := fun δ => (fl δ).b m
section
variable {X : Cx} {O : List Nat} {E : XK} {e : Expr} {es : List Expr} {fl : DSt → M (List D)} {pos p : Pos} {x : Str} {k n : Nat} {m : List D → M D}
theorem de_call (C : Cal X.prog X.w X.K X.mg X.base k x n m) (hr : Room k X.A) (ha : DA X O E (e :: es) fl) (hg : autoParam (Gl X x) zau2._auto_1) (hdb : autoParam ((x == ("__debug__" : Str)) = false) zau1._auto_1) (he : autoParam (starEach (e :: es) X.env = (false, eval e X.env) :: starEach es X.env) zau2._auto_1)
    (hpl : autoParam ((backTo pos (starEach es X.env)).any (·.1) = false) zau2._auto_1) : DE X O E (.Call (.Name x p) (e :: es) [] pos) (fCall m fl) := by
  obtain ⟨f, fd, ps, hl, hm, hk, hb, F⟩ := C.ex
  rintro pins s σ H Q I ⟨ρ, H₀, G, δ, r, R, hf, h⟩
  refine pe_call F hr hg hm hk hb .nil (fun _ _ _ _ _ _ _ z => z.elim) ha hdb he hpl pins s σ H Q I (E := E) ?_
  rcases M.b_inv hf with ⟨ds, e1, hf⟩ | ⟨y, e1, rfl⟩
  · refine ⟨ρ, H₀, G, δ, .ok ds, R, e1, fun vs H1 s1 r1 => ?_⟩
    show spD X.K n m (vs ++ []) H1 Q E
    rw [List.append_nil]
    refine ⟨by rw [r1.length]; exact C.ar ds r hf, ρ, ds, r, fob G σ O, fun b hb z => ?_, r1, hf, ?_⟩
    · rw [(R.mono s1).fresh z] at hb; cases hb
    · cases r with
      | ok d => exact fun v H' s' rv => h v H' (s1.trans s') rv
      | error y => exact fun c dx H' s' xr => h c dx H' (R.same.trans (s1.trans s')) xr
  · exact ⟨ρ, H₀, G, δ, .error y, R, e1, h⟩
end
end DL
namespace DL
open PySem PySem.Spec L2
theorem hu30 {A : Around} {k : Nat} (hr : Room k A) : A.units + 30 < cLine := Nat.lt_of_le_of_lt (Nat.add_le_add_left (by decide : 30 ≤ 64) _) hr.units
theorem bt_len : bootBuiltins "len" = some (.builtin "len") := by decide +kernel
theorem bt_sum : bootBuiltins "sum" = some (.builtin "sum") := by decide +kernel
theorem bt_max : bootBuiltins "max" = some (.builtin "max") := by decide +kernel
theorem bt_isinstance : bootBuiltins "isinstance" = some (.builtin "isinstance") := by decide +kernel
theorem bt_list : bootBuiltins "list" = some (.type "list") := by decide +kernel
theorem bt_int : bootBuiltins "int" = some (.type "int") := by decide +kernel
theorem bt_bool : bootBuiltins "bool" = some (.type "bool") := by decide +kernel
theorem bt_sorted : bootBuiltins "sorted" = some (.builtin "sorted") := by decide +kernel
end DL
namespace DL
open PySem PySem.Spec L2
noncomputable def gCat : D → D → Option D
  | .int i, .int j => some (.int (i + j))
  | .str x, .str y => if x.length + y.length ≤ sizeLine then some (.str (x ++ y)) else none
  | .lst xs, .lst ys => if xs.length + ys.length ≤ sizeLine then some (.lst (xs ++ ys)) else none
  | .tup xs, .tup ys => if xs.length + ys.length ≤ sizeLine ∧ xs ≠ [] ∧ ys ≠ [] then some (.tup (xs ++ ys)) else none
  | _, _ => none
noncomputable def rCatQ (K : PySem.W.Frag) : R2 := fun x y H Q => ∃ l b xs zs, x = .ref l ∧ y = .ref b ∧ SqL K H l xs ∧ SqL K H b zs ∧ xs.length + zs.length ≤ sizeLine ∧ ∀ p, H p = none → Q (.ref p) (upd H p (.lst (xs ++ zs)))
section
variable {X : Cx} {O O' B : List Nat} {E : XK} {a b c e : Expr} {es : List Expr} {fa fb fc : DSt → M D} {fl : DSt → M (List D)} {pos : Pos}
theorem op_catQ : OpR X (binaryOp .Add) (rCatQ X.K) := by
  intro pins s σ H x y v u Q I rx ry h
  obtain ⟨l, b, xs, zs, rfl, rfl, hH, hB, hz, q⟩ := h
  cases rx
  cases ry
  obtain ⟨its, r, ⟨⟨cls, dd, data, sl⟩, n, ho, hc, _, hd⟩, _⟩ := I.list hH
  obtain ⟨its2, r2, ⟨⟨cls2, dd2, data2, sl2⟩, n2, ho2, hc2, _, hd2⟩, _⟩ := I.list hB
  simp only at hc hd hc2 hd2
  subst hc hd hc2 hd2
  have l1 := r.length
  have l2 := r2.length
  have ea : its.toArray ++ its2.toArray = (its ++ its2).toArray := by simp
  refine concat_meets ⟨_, ho, rfl⟩ ⟨_, ho2, rfl⟩ noFill_list_add seq_list_add PySem.F.slot_list_add PySem.F.entry_list_add (PySem.F.args_list_add_2 _ _) (PyProof.Rows.list_addW l b its.toArray its2.toArray n n2 dd dd2 sl sl2 (by simp only [List.size_toArray]; omega)) ⟨ho, ho2, ?_⟩
  rw [ea]
  exact ⟨.ref _, _, I.lnew (t' := s.toks) (r.append r2) (by rw [List.length_append]; omega), rfl, q _ I.fresh⟩
theorem op_addC : OpR X (binaryOp .Add) (fun x y H Q => (rI0 (fun i j => .int (i + j)) x y H Q ∨ ∃ i j, x = .str i ∧ y = .str j ∧ i.length + j.length ≤ sizeLine ∧ Q (.str (i ++ j)) H) ∨ rCatQ X.K x y H Q ∨ rCatT X.K x y H Q) := op_addD.or (op_catQ.or op_catT)
theorem opd_cat : OpD X.K gCat (fun x y H Q => (rI0 (fun i j => .int (i + j)) x y H Q ∨ ∃ i j, x = .str i ∧ y = .str j ∧ i.length + j.length ≤ sizeLine ∧ Q (.str (i ++ j)) H) ∨ rCatQ X.K x y H Q ∨ rCatT X.K x y H Q) := by
  intro x y d hd ρ H G u v Q hG ru rv k
  unfold gCat at hd
  split at hd
  · cases hd; exact .inl (.inl ⟨_, _, rep_int.mp ru, rep_int.mp rv, k _ H (Same.refl H) (rep_int.mpr rfl)⟩)
  · split at hd
    · rename_i hz
      cases hd; exact .inl (.inr ⟨_, _, rep_str.mp ru, rep_str.mp rv, hz, k _ H (Same.refl H) (rep_str.mpr rfl)⟩)
    · cases hd
  · split at hd
    · rename_i hz
      cases hd
      obtain ⟨l, xs, rfl, q1, q2⟩ := rep_lst.mp ru
      obtain ⟨m, ys, rfl, p1, p2⟩ := rep_lst.mp rv
      exact .inr (.inl ⟨l, m, xs, ys, rfl, rfl, same_l same_un q1, same_l same_un p1, by rw [q2.length, p2.length]; exact hz, fun p hp => k _ _ (same_upd hp) (rep_new_lst hp (hG p hp) (q2.append p2))⟩)
    · cases hd
  · split at hd
    · rename_i hz
      cases hd
      obtain ⟨l, xs, rfl, q1, q2⟩ := rep_tup.mp ru
      obtain ⟨m, ys, rfl, p1, p2⟩ := rep_tup.mp rv
      have n1 : xs ≠ [] := fun z => by have := q2.length; rw [z] at this; exact hz.2.1 (List.length_eq_zero_iff.mp this.symm)
      have n2 : ys ≠ [] := fun z => by have := p2.length; rw [z] at this; exact hz.2.2 (List.length_eq_zero_iff.mp this.symm)
      exact .inr (.inr ⟨l, m, xs, ys, rfl, rfl, same_t same_un q1, same_t same_un p1, n1, by rw [q2.length, p2.length]; exact hz.1, fun z => absurd z n2, fun _ p hp => k _ _ (same_upd hp) (rep_new_tup hp (hG p hp) (q2.append p2))⟩)
    · cases hd
  · cases hd
theorem Reps.rep {ρ : Rho} {K : PySem.W.Frag} {H : Hp} {ds : List D} {vs : List V} (h : Reps ρ K H ds vs) : ∀ k : Nat, Reps ρ K H (List.replicate k ds).flatten (List.replicate k vs).flatten
  | 0 => Reps.nil
  | k + 1 => by rw [List.replicate_succ, List.flatten_cons, List.replicate_succ, List.flatten_cons]; exact h.append (Reps.rep h k)
inductive tOD (K : PySem.W.Frag) (O : List Nat) (E : XK) (f : DSt → M (Option Int)) (σ : St) (H : Hp) (Q : Option Int → Hp → Prop) : Prop
  | mk (ρ : Rho) (H₀ : Hp) (F : Addr → Bool) (δ : DSt) (r : Except XD (Option Int)) (R : RS ρ K H₀ H F O σ δ) (hf : f δ = some r) (k : match (generalizing := false) r with
    | .ok o => ∀ H', Same H H' → Q o H'
    | .error x => okX K H₀ E x)
noncomputable def DO (X : Cx) (O : List Nat) (E : XK) (e : Option Expr) (f : DSt → M (Option Int)) : Prop := PO X e (tOD X.K O E f)
noncomputable def oNone : DSt → M (Option Int) := fun _ => M.p none
noncomputable def intD : D → Option (Option Int)
  | .int i => some (some i)
  | _ => none
noncomputable def oSome (f : DSt → M D) : DSt → M (Option Int) := fun δ => (f δ).b fun d => M.o (intD d)
theorem do_none : DO X O E none oNone := by
  rintro pins s σ H Q I ⟨ρ, H₀, F, δ, r, R, hf, k⟩
  cases hf
  exact po_none pins s σ H Q I (k H (Same.refl H))
theorem do_some (h : DE X O E e fa) : DO X O E (some e) (oSome fa) := by
  rintro pins s σ H Q I ⟨ρ, H₀, F, δ, r, R, hf, k⟩
  refine po_some h pins s σ H Q I ?_
  rcases M.b_inv hf with ⟨x, e1, hf⟩ | ⟨x, e1, rfl⟩
  · refine ⟨ρ, H₀, F, δ, .ok x, R, e1, fun v H1 s1 r1 => ?_⟩
    obtain ⟨o, ho, rfl⟩ := M.o_inv hf
    cases x with
    | int i => cases ho; exact ⟨i, rep_int.mp r1, k H1 s1⟩
    | _ => cases ho
  · exact ⟨ρ, H₀, F, δ, .error x, R, e1, k⟩
noncomputable def cutL {α : Type} (xs : List α) (lo hi : Option Int) : List α := (xs.drop (HT.sIx xs.length 0 lo)).take (HT.sIx xs.length xs.length hi - HT.sIx xs.length 0 lo)
noncomputable def cutD : D → Option Int → Option Int → Option D
  | .lst ds, lo, hi => some (.lst (cutL ds lo hi))
  | .tup ds, lo, hi => if HT.sIx ds.length 0 lo = 0 ∧ HT.sIx ds.length ds.length hi = ds.length then none else some (.tup (cutL ds lo hi))
  | .str x, lo, hi => if x.length ≤ sizeLine then some (.str (Txt.slice x lo hi)) else none
  | _, _, _ => none
noncomputable def rSlS : V → Option Int → Option Int → Hp → VK → Prop := fun x lo hi H Q => ∃ z, x = .str z ∧ z.length ≤ sizeLine ∧ Q (.str (Txt.slice z lo hi)) H
theorem sl_str : SlR X rSlS := by
  intro pins s σ H x v vl vu lo hi sl Q I rx hs pl pu h
  obtain ⟨z, rfl, hz, q⟩ := h
  obtain ⟨t, rfl⟩ := rx
  have fin : ∀ {l u : Option (Int × Tok)}, l.map (·.1) = lo → u.map (·.1) = hi → s.heap.IsSlice sl l u none → wpAny (model X.prog X.w) X.A (getItem (.str z t) (.ref sl)) (EP X pins σ Q) X.xe s := fun {l u} e1 e2 h => by
    refine wpAny_getItem_str_slice (l := l) (u := u) (st := none) h rfl ?_
    have hw : ∀ t' k, EP X pins σ Q (.str (Txt.slice z lo hi) t') { s with toks := k } := fun t' k => ⟨.str (Txt.slice z lo hi), H, I.tok _, ⟨_, rfl⟩, q⟩
    rw [← e1, ← e2] at hw
    exact post_val_or_str ⟨Nat.le_trans (Txt.slice_le z _ _) hz, hw⟩
  obtain ⟨os, ho, hc, hd⟩ := hs
  refine ⟨"str", _, PySem.F.slot_str_getitem.lookup, typeIs_str _ _ _, ?_⟩
  cases pl with
  | none => cases pu with
    | none => exact fin (l := none) (u := none) rfl rfl ⟨os, ho, hc, hd⟩
    | int j tj => exact fin (l := none) (u := some (j, tj)) rfl rfl ⟨os, ho, hc, hd⟩
  | int i ti => cases pu with
    | none => exact fin (l := some (i, ti)) (u := none) rfl rfl ⟨os, ho, hc, hd⟩
    | int j tj => exact fin (l := some (i, ti)) (u := some (j, tj)) rfl rfl ⟨os, ho, hc, hd⟩
theorem Reps.take {ρ : Rho} {K : PySem.W.Frag} {H : Hp} : ∀ {ds : List D} {vs : List V} (n : Nat), Reps ρ K H ds vs → Reps ρ K H (ds.take n) (vs.take n)
  | _, _, 0, _ => by simp; exact Reps.nil
  | [], _, n + 1, h => by rw [reps_nil.mp h]; exact Reps.nil
  | d :: ds, _, n + 1, h => by
    obtain ⟨v, r, rfl, q, t⟩ := reps_cons.mp h
    exact Reps.cons q (Reps.take n t)
theorem Reps.drop {ρ : Rho} {K : PySem.W.Frag} {H : Hp} : ∀ {ds : List D} {vs : List V} (n : Nat), Reps ρ K H ds vs → Reps ρ K H (ds.drop n) (vs.drop n)
  | _, _, 0, h => h
  | [], _, n + 1, h => by rw [reps_nil.mp h]; exact Reps.nil
  | d :: ds, _, n + 1, h => by
    obtain ⟨v, r, rfl, q, t⟩ := reps_cons.mp h
    exact Reps.drop n t
theorem Reps.cut {ρ : Rho} {K : PySem.W.Frag} {H : Hp} {ds : List D} {vs : List V} (h : Reps ρ K H ds vs) (lo hi : Option Int) : Reps ρ K H (cutL ds lo hi) (cutV vs lo hi) := by
  unfold cutL cutV
  rw [h.length]
  exact (h.drop _).take _
noncomputable def fSl (fa : DSt → M D) (fl fh : DSt → M (Option Int)) : DSt → M D := fun δ => (fa δ).b fun x => (fl δ).b fun lo => (fh δ).b fun hi => M.o (cutD x lo hi)
theorem de_slice {lo hi : Option Expr} {fl fh : DSt → M (Option Int)} {p2 : Pos} (ha : DE X O E e fa) (hl : DO X O E lo fl) (hh : DO X O E hi fh) : DE X O E (.Subscript e (.Slice lo hi none p2) pos) (fSl fa fl fh) := by
  rintro pins s σ H Q I ⟨ρ, H₀, F, δ, r, R, hf, k⟩
  refine pe_slice (sl_list.or (sl_tup.or sl_str)) ha hl hh pins s σ H Q I ?_
  rcases M.b_inv hf with ⟨x, e1, hf⟩ | ⟨x, e1, rfl⟩
  · refine ⟨ρ, H₀, F, δ, .ok x, R, e1, fun v H1 s1 r1 => ?_⟩
    rcases M.b_inv hf with ⟨l, e2, hf⟩ | ⟨y, e2, rfl⟩
    · refine ⟨ρ, H₀, F, δ, .ok l, R.mono s1, e2, fun H2 s2 => ?_⟩
      rcases M.b_inv hf with ⟨h, e3, hf⟩ | ⟨y, e3, rfl⟩
      · refine ⟨ρ, H₀, F, δ, .ok h, R.mono (s1.trans s2), e3, fun H3 s3 => ?_⟩
        obtain ⟨d, hd, rfl⟩ := M.o_inv hf
        have r3 := r1.mono (same_hid (s2.trans s3))
        have R3 := R.mono (s1.trans (s2.trans s3))
        have sm := s1.trans (s2.trans s3)
        cases x with
        | lst ds =>
          cases hd
          obtain ⟨q, xs, rfl, q2, q3⟩ := rep_lst.mp r3
          exact .inl ⟨q, xs, rfl, same_l same_un q2, fun p hp => k _ _ (sm.trans (same_upd hp)) (rep_new_lst hp (R3.fresh hp) (q3.cut l h))⟩
        | tup ds =>
          have hd' : (if HT.sIx ds.length 0 l = 0 ∧ HT.sIx ds.length ds.length h = ds.length then none else some (D.tup (cutL ds l h))) = some d := hd
          split at hd'
          · cases hd'
          · rename_i hn
            cases hd'
            obtain ⟨q, xs, rfl, q2, q3⟩ := rep_tup.mp r3
            exact .inr (.inl ⟨q, xs, rfl, same_t same_un q2, by rw [q3.length]; exact hn, fun p hp => k _ _ (sm.trans (same_upd hp)) (rep_new_tup hp (R3.fresh hp) (q3.cut l h))⟩)
        | str z =>
          have hd' : (if z.length ≤ sizeLine then some (D.str (Txt.slice z l h)) else none) = some d := hd
          split at hd'
          · rename_i hz
            cases hd'
            exact .inr (.inr ⟨z, rep_str.mp r3, hz, k _ _ sm (rep_str.mpr rfl)⟩)
          · cases hd'
        | _ => cases hd
      · exact ⟨ρ, H₀, F, δ, .error y, R.mono (s1.trans s2), e3, k⟩
    · exact ⟨ρ, H₀, F, δ, .error y, R.mono s1, e2, k⟩
  · exact ⟨ρ, H₀, F, δ, .error x, R, e1, k⟩
noncomputable def flatD : D → Bool
  | .non => true
  | .bl _ => true
  | .int _ => true
  | .str _ => true
  | _ => false
noncomputable def inD (x : D) (ds : List D) : Bool := ds.any fun y => eqB y x
noncomputable def gNotIn : D → D → Option D := fun x y => match seqD y with
  | some ds => if (flatD x && ds.all flatD) = true then some (.bl !(inD x ds)) else none
  | none => none
theorem flat_rep {ρ : Rho} {K : PySem.W.Frag} {H : Hp} {d : D} {v : V} (h : flatD d = true) (r : Rep ρ K H d v) : flatV v = true := by
  cases d with
  | non => cases rep_non.mp r; rfl
  | bl _ => cases rep_bl.mp r; rfl
  | int _ => cases rep_int.mp r; rfl
  | str _ => cases rep_str.mp r; rfl
  | _ => cases h
theorem eqV_rep {ρ : Rho} {K : PySem.W.Frag} {H : Hp} {d e : D} {v u : V} (h : flatD d = true) (h2 : flatD e = true) (r : Rep ρ K H d v) (r2 : Rep ρ K H e u) : eqV v u = eqB d e := by
  cases d with
  | non => cases rep_non.mp r; (cases e with
    | non => cases rep_non.mp r2; unfold eqB; rfl
    | bl _ => cases rep_bl.mp r2; unfold eqB; rfl
    | int _ => cases rep_int.mp r2; unfold eqB; rfl
    | str _ => cases rep_str.mp r2; unfold eqB; rfl
    | _ => cases h2)
  | bl _ => cases rep_bl.mp r; (cases e with
    | non => cases rep_non.mp r2; unfold eqB; rfl
    | bl _ => cases rep_bl.mp r2; unfold eqB; rfl
    | int _ => cases rep_int.mp r2; unfold eqB; rfl
    | str _ => cases rep_str.mp r2; unfold eqB; rfl
    | _ => cases h2)
  | int _ => cases rep_int.mp r; (cases e with
    | non => cases rep_non.mp r2; unfold eqB; rfl
    | bl _ => cases rep_bl.mp r2; unfold eqB; rfl
    | int _ => cases rep_int.mp r2; unfold eqB; rfl
    | str _ => cases rep_str.mp r2; unfold eqB; rfl
    | _ => cases h2)
  | str _ => cases rep_str.mp r; (cases e with
    | non => cases rep_non.mp r2; unfold eqB; rfl
    | bl _ => cases rep_bl.mp r2; unfold eqB; rfl
    | int _ => cases rep_int.mp r2; unfold eqB; rfl
    | str _ => cases rep_str.mp r2; unfold eqB; rfl
    | _ => cases h2)
  | _ => cases h
theorem in_rep {ρ : Rho} {K : PySem.W.Frag} {H : Hp} {x : D} {v : V} (hx : flatD x = true) (rx : Rep ρ K H x v) : ∀ {ds : List D} {vs : List V}, ds.all flatD = true → Reps ρ K H ds vs → vs.all flatV = true ∧ inV v vs = inD x ds
  | [], _, _, h => by rw [reps_nil.mp h]; exact ⟨rfl, rfl⟩
  | d :: ds, _, ha, h => by
    obtain ⟨u, r, rfl, q, t⟩ := reps_cons.mp h
    rw [List.all_cons, Bool.and_eq_true] at ha
    obtain ⟨i1, i2⟩ := in_rep hx rx ha.2 t
    refine ⟨by rw [List.all_cons, flat_rep ha.1 q, i1]; rfl, ?_⟩
    unfold inV inD at i2 ⊢
    rw [List.any_cons, List.any_cons, eqV_rep ha.1 hx q rx, i2]
theorem opd_notin : OpD X.K gNotIn (rIn X.K true) := by
  intro x y d hd ρ H G u v Q hG ru rv k
  unfold gNotIn at hd
  split at hd
  · rename_i ds hs
    split at hd
    · rename_i hz
      cases hd
      rw [Bool.and_eq_true] at hz
      obtain ⟨kk, l, xs, rfl, q1, q2⟩ := seq_sq hs rv
      obtain ⟨i1, i2⟩ := in_rep hz.1 ru hz.2 q2
      refine ⟨l, xs, rfl, ?_, flat_rep hz.1 ru, i1, k _ H (Same.refl H) (rep_bl.mpr (by rw [i2]; rfl))⟩
      cases kk with
      | true => exact .inr (same_t same_un (sqv_t.mp q1))
      | false => exact .inl (same_l same_un (sqv_l.mp q1))
    · cases hd
  · cases hd
noncomputable def scalD : D → Bool
  | .non => true
  | .bl _ => true
  | .int _ => true
  | .str _ => true
  | .ty _ => true
  | .obj _ => true
  | _ => false
noncomputable def fScal (f : DSt → M D) : DSt → M D := fun δ => (f δ).b fun d => if scalD d = true then M.p d else none
theorem scal_rep {ρ : Rho} {K : PySem.W.Frag} {H H' : Hp} {d : D} {v : V} (h : scalD d = true) (r : Rep ρ K H d v) : Rep ρ K H' d v := by
  cases d with
  | non => exact rep_non.mpr (rep_non.mp r)
  | bl _ => exact rep_bl.mpr (rep_bl.mp r)
  | int _ => exact rep_int.mpr (rep_int.mp r)
  | str _ => exact rep_str.mpr (rep_str.mp r)
  | ty _ => exact rep_ty.mpr (rep_ty.mp r)
  | obj _ => exact rep_obj.mpr (rep_obj.mp r)
  | _ => cases h
theorem dt_thaw {t : DSt → M Bool} (hO : ∀ i ∈ O', i ∈ O) (h : DT X O' E e t) : DT X O E e t := by
  rintro pins s σ H Q I ⟨ρ, H₀, F, δ, r, R, hf, k⟩
  refine h pins s σ H Q I ⟨ρ, H₀, F, δ, r, R.thaw hO, hf, ?_⟩
  cases r with
  | ok d => exact k
  | error x => exact k
theorem de_thaw (hO : ∀ i ∈ O', i ∈ O) (h : DE X O' E e fa) : DE X O E e (fScal fa) := by
  rintro pins s σ H Q I ⟨ρ, H₀, F, δ, r, R, hf, k⟩
  rcases M.b_inv hf with ⟨x, e1, hf⟩ | ⟨x, e1, rfl⟩
  · refine h pins s σ H Q I ⟨ρ, H₀, F, δ, .ok x, R.thaw hO, e1, fun v H' s' rv => ?_⟩
    split at hf
    · rename_i hs
      cases hf
      exact k v H' s' (scal_rep hs rv)
    · cases hf
  · exact h pins s σ H Q I ⟨ρ, H₀, F, δ, .error x, R.thaw hO, e1, k⟩
noncomputable def gAug (i : Nat) (g : D → D → Option D) (f : DSt → M D) : DSt → M Out := fun δ => (M.o (δ[i]?).join).b fun x => (f δ).b fun y => (M.o (g x y)).b fun d => M.p (.nx (δ.set i (some d)))
end
end DL
namespace DL
open PySem PySem.Spec L2
theorem Reps.set {ρ : Rho} {K : PySem.W.Frag} {H : Hp} {d : D} {v : V} (hr : Rep ρ K H d v) : ∀ {ds : List D} {vs : List V} (j : Nat), Reps ρ K H ds vs → Reps ρ K H (ds.set j d) (vs.set j v)
  | [], _, j, h => by rw [reps_nil.mp h]; exact Reps.nil
  | e :: ds, _, 0, h => by
    obtain ⟨u, r, rfl, q, t⟩ := reps_cons.mp h
    exact Reps.cons hr t
  | e :: ds, _, j + 1, h => by
    obtain ⟨u, r, rfl, q, t⟩ := reps_cons.mp h
    exact Reps.cons q (Reps.set hr j t)
section
variable {X : Cx} {O O' B : List Nat} {E : XK} {a b c e o : Expr} {es : List Expr} {fa fb fc fo fe : DSt → M D} {fl : DSt → M (List D)} {pos : Pos}
noncomputable def gSetIx (i : Nat) (fi fv : DSt → M D) : DSt → M Out := fun δ => (fv δ).b fun d => (fi δ).b fun k => match (δ[i]?).join, k with
  | some (.lst ds), .int k => match ixN ds.length k with
    | some j => M.p (.nx (δ.set i (some (.lst (ds.set j d)))))
    | none => none
  | _, _ => none
theorem ds_setix {i : Nat} {x : Str} {ix : Expr} {p1 p2 : Pos} (ho : O.contains i = true) (hix : DE X O E ix fb) (he : DE X O E e fa) (hi : autoParam (X.N[i]? = some x) zau2._auto_1) (hv : autoParam (Vis X.env.scope x) zau5._auto_1)
    (hd : autoParam ((x == ("__debug__" : Str)) = false) zau1._auto_1) (hcd : autoParam ((x == ("__classdict__" : Str)) = false) zau1._auto_1)
    (ha : ∀ v, assign (.Subscript (.Name x p1) ix p2) X.env v = (do
      let ov ← holding [v] (eval (.Name x p1) X.env)
      let iv ← holding [v, ov] (eval ix X.env)
      standAt p2
      holding [v, ov, iv] (setItem ov iv v)
      release [v, ov, iv] []) := by intro _; rfl)
    (hs : autoParam (swapsWithSole [.Subscript (.Name x p1) ix p2] e pos.line X.env = pure false) zau2._auto_1) (hw : autoParam (swappedStores [.Subscript (.Name x p1) ix p2] e X.env = pure none) zau2._auto_1)
    (h1 : autoParam ((assignEach [.Subscript (.Name x p1) ix p2] X.env).map (·.2) = [assign (.Subscript (.Name x p1) ix p2) X.env]) zau2._auto_1) : DS X O O B E (.Assign [.Subscript (.Name x p1) ix p2] e pos) (gSetIx i fb fa) := by
  rintro pins s σ H Dn I ⟨ρ, H₀, F, δ, r, R, hg, k⟩
  have ho' : i ∈ O := List.contains_iff_mem.mp ho
  refine ps_asg he (pg_sub (pe_var hi hv hd hcd) hix set_list ha) hs hw h1 pins s σ H Dn I ?_
  rcases M.b_inv hg with ⟨d, e1, hg⟩ | ⟨y, e1, rfl⟩
  · refine ⟨ρ, H₀, F, δ, .ok d, R, e1, fun v H1 s1 r1 => ?_⟩
    obtain ⟨l, xs0, ds0, q1, q2, q3, q4, q5⟩ := (R.mono s1).own i ho'
    refine ⟨.ref l, q2, ?_⟩
    rcases M.b_inv hg with ⟨kk, e2, hg⟩ | ⟨y, e2, rfl⟩
    · refine ⟨ρ, H₀, F, δ, .ok kk, R.mono s1, e2, fun w H2 s2 r2 => ?_⟩
      have R2 := R.mono (s1.trans s2)
      obtain ⟨l', xs, ds, p1, p2, p3, p4, p5⟩ := R2.own i ho'
      rw [q2] at p2; cases p2
      rw [q1] at p1; cases p1
      have hj : (δ[i]?).join = some (.lst ds0) := by rw [q1]; rfl
      rw [hj] at hg
      cases kk with
      | int n =>
        dsimp only at hg
        cases hjx : ixN ds0.length n with
        | none => rw [hjx] at hg; cases hg
        | some j =>
          rw [hjx] at hg
          cases hg
          refine ⟨l, xs, n, j, rfl, rep_int.mp r2, p3, by rw [p5.length]; exact hjx, ?_⟩
          refine k σ _ ?_ (R2.write ho' q2 (p5.set (r1.mono (same_hid s2)) j))
          rw [hid_upd (fob_t.mpr (.inr ⟨i, ho', q2⟩))]
          exact same_hid (s1.trans s2)
      | _ => cases hg
    · exact ⟨ρ, H₀, F, δ, .error y, R.mono s1, e2, k⟩
  · exact ⟨ρ, H₀, F, δ, .error y, R, e1, k⟩
noncomputable def gAsg (h : D → DSt → Option DSt) (f : DSt → M D) : DSt → M Out := fun δ => (f δ).b fun d => match h d δ with
  | some δ' => M.p (.nx δ')
  | none => none
noncomputable def gTup3 (i j l : Nat) : D → DSt → Option DSt := fun d δ => match d with
  | .tup [x, y, z] => some (((δ.set i (some x)).set j (some y)).set l (some z))
  | _ => none
noncomputable def kIntT : List D → Option D
  | [.int i] => some (.int i)
  | [.bl k] => some (.int (if k then 1 else 0))
  | [.str x] => if x.length ≤ 640 then (PySem.intText? x).map .int else none
  | _ => none
end
end DL
namespace L2
open PySem PySem.Spec PyProof.Rows
section
variable {X : Cx} {tg : Expr}
end
end L2
namespace DL
open PySem PySem.Spec L2
section
variable {X : Cx} {O : List Nat} {E : XK} {a b tg iter e o : Expr} {es : List Expr} {fa fo fe : DSt → M D} {fl : DSt → M (List D)} {pos p : Pos}
end
end DL
namespace L2
open PySem PySem.Spec PyProof.Rows
theorem noFill_tuple_mul : fillsNumberSlot (.type "tuple") "mul" = pure false :=
  PySem.fillsNumberSlot_seq (id := "tuple.__mul__") (r := some (.builtin "tuple.__rmul__")) PySem.F.slot_tuple_mul.lookup (by decide +kernel) PySem.F.slot_tuple_rmul.lookup (by decide +kernel)
theorem repeat_tuple : seqRepeat? (.type "tuple") = pure (some (.builtin "tuple.__mul__")) := by
  unfold seqRepeat?
  rw [PySem.seqSlot_of (T := "tuple") (name := "__mul__") (id := "tuple.__mul__") PySem.F.slot_tuple_mul.lookup (by decide +kernel), PySem.seqSlot_of (T := "tuple") (name := "__rmul__") (id := "tuple.__rmul__") PySem.F.slot_tuple_rmul.lookup (by decide +kernel)]
  rfl
theorem rmul_int_tuple (a : Int) (t : Tok) (l : Addr) (items : Array Value) (n : Nat) (dd : Option Addr) (sl : Array (Option Value)) :
    Meets (Builtin.«int.__rmul__» ⟨[.int a t, .ref l], []⟩) (fun _ R s => s.heap.get? l = some { cls := .type "tuple", dict := dd, data := .seq items n, slots := sl } ∧ R (.ok (.ret Value.notImplemented)) s) :=
  .of_wp fun prog w A R s h => by obtain ⟨hp, g, d, tk, os⟩ := s; obtain ⟨hl, h⟩ := h; wp_walk; exact ⟨_, rfl, h⟩
theorem tuple_mul1 (l : Addr) (items : Array Value) (n : Nat) (u : Tok) (dd : Option Addr) (sl : Array (Option Value)) (hne : items.isEmpty = false) :
    Meets (Builtin.«tuple.__mul__» ⟨[.ref l, .int 1 u], []⟩) (fun _ R s => s.heap.get? l = some { cls := .type "tuple", dict := dd, data := .seq items n, slots := sl } ∧ R (.ok (.ret (.ref l))) s) :=
  .of_wp fun prog w A R s h => by
    obtain ⟨hp, g, d, tk, os⟩ := s; obtain ⟨hl, h⟩ := h
    have f1 := AutoSeq1.idx_int
    wp_walk
    exact ⟨_, rfl, h⟩
theorem tuple_mulN (l : Addr) (items : Array Value) (n : Nat) (k : Int) (u : Tok) (dd : Option Addr) (sl : Array (Option Value)) (hne : items.isEmpty = false) (h2 : 2 ≤ k) (h3 : k ≤ 1000) (hsz : items.size * k.toNat ≤ 100000) :
    Meets (Builtin.«tuple.__mul__» ⟨[.ref l, .int k u], []⟩) (fun _ R s => s.heap.get? l = some { cls := .type "tuple", dict := dd, data := .seq items n, slots := sl } ∧ R (.ok (.ret (.ref s.heap.objs.size))) { s with heap := s.heap.push { cls := .type "tuple", data := .seq (List.foldl (fun x1 x2 => x1 ++ x2) #[] (List.replicate k.toNat items)) } }) :=
  .of_wp fun prog w A R s h => by
    obtain ⟨hp, g, d, tk, os⟩ := s; obtain ⟨hl, h⟩ := h
    have f1 := AutoSeq1.idx_int
    have c1 : (decide (k < -(2 ^ 63)) || decide (k ≥ 2 ^ 63)) = false := by simp; omega
    have c2 : (items.isEmpty || k == 1) = false := by rw [hne]; simp; omega
    have c3 : (decide (k ≤ 0) || items.isEmpty) = false := by rw [hne]; simp; omega
    obtain ⟨m, rfl⟩ := Int.eq_ofNat_of_zero_le (show 0 ≤ k by omega)
    have hs : (items.size : Int) * (m : Int) = ((items.size * m : Nat) : Int) := by push_cast; rfl
    have hsz' : items.size * m ≤ 100000 := by simpa using hsz
    have c4 : ¬ ((items.size : Int) * (m : Int) > (2 ^ 63 - 1) / 8) := by rw [hs]; omega
    have c5 : Builtin.Tuple.tupleTooMany ((items.size : Int) * (m : Int)) = false := by
      rw [hs]
      unfold Builtin.Tuple.tupleTooMany
      simp [sizeLine]
      omega
    wp_walk
    refine wpAny_ite_false (decide_eq_false (by rw [c1]; decide)) ?_
    wp_walk
    refine wpAny_ite_false (decide_eq_false (by rw [c2]; decide)) ?_
    wp_walk
    refine wpAny_ite_false (decide_eq_false (by rw [c3]; decide)) ?_
    try dsimp only
    refine wpAny_ite_false (decide_eq_false c4) ?_
    try dsimp only
    refine wpAny_ite_false (decide_eq_false (by rw [c5]; decide)) ?_
    try dsimp only
    refine wpAny_bind ?_
    unfold Builtin.Tuple.tupleExact
    refine wpAny_newObj_type ?_ ?_
    · exact wpAny_pure ⟨_, rfl, h⟩
    · show (List.foldl (fun x1 x2 => x1 ++ x2) #[] (List.replicate ((m : Nat) : Int).toNat items)).size ≤ sizeLine
      rw [AutoListH.size_joined]
      have : 100000 ≤ sizeLine := by decide
      rw [Nat.mul_comm] at hsz'
      simp
      omega
end L2
namespace DL
open PySem PySem.Spec L2
noncomputable def rTRep (K : PySem.W.Frag) : R2 := fun x y H Q => ∃ l k xs, x = .ref l ∧ y = .int k ∧ SqT K H l xs ∧ xs ≠ [] ∧ 1 ≤ k ∧ k ≤ 1000 ∧ xs.length * k.toNat ≤ 100000 ∧ (k = 1 → Q (.ref l) H) ∧ (k ≠ 1 → ∀ p, H p = none → Q (.ref p) (upd H p (.tup (List.replicate k.toNat xs).flatten)))
section
variable {X : Cx} {O O' B : List Nat} {E : XK} {a b c e : Expr} {es : List Expr} {fa fb fc : DSt → M D} {fl : DSt → M (List D)} {pos : Pos}
theorem op_trep : OpR X (binaryOp .Mult) (rTRep X.K) := by
  intro pins s σ H x y v u Q I rx ry h
  obtain ⟨l, k, xs, rfl, rfl, hH, hne, h1, h2, hz, q1, q2⟩ := h
  cases rx
  obtain ⟨t, rfl⟩ := ry
  obtain ⟨its, r, ⟨⟨cls, dd, data, sl⟩, e, hc, n, hd⟩, _⟩ := I.tuple hH
  simp only at hc hd
  subst hc hd
  have l1 := r.length
  have hne' : its.toArray.isEmpty = false := by
    cases its with
    | nil => exact absurd (List.length_eq_zero_iff.mp l1) hne
    | cons _ _ => rfl
  have hlen : its.toArray.size * k.toNat ≤ 100000 := by rw [List.size_toArray, ← l1]; exact hz
  have hnew : List.foldl (fun x1 x2 => x1 ++ x2) #[] (List.replicate k.toNat its.toArray) = (List.replicate k.toNat its).flatten.toArray := by
    have := foldl_rep its k.toNat []
    rw [List.nil_append] at this
    exact this
  refine wpAny_binaryOp_repeat_ref (T := "tuple") (U := "int") (by decide) ⟨_, e, rfl⟩ (fun s' => typeIs_int s' k t) noFill_tuple_mul F.fills_int_mul F.slot_int_rmul repeat_tuple F.slot_int_index.lookup
    (call_meets F.slot_int_rmul (typeIs_int s k t) F.entry_int_rmul (F.args_int_rmul_2 _ _) (rmul_int_tuple k t l its.toArray n dd sl)
      ⟨e, rfl, ⟨_, e, rfl⟩, ?_⟩)
  by_cases hk : k = 1
  · subst hk
    exact call_meets F.slot_tuple_mul ⟨_, e, rfl⟩ F.entry_tuple_mul (F.args_tuple_mul_2 _ _) (tuple_mul1 l its.toArray n t dd sl hne') ⟨e, .ref l, H, I, rfl, q1 rfl⟩
  · refine call_meets F.slot_tuple_mul ⟨_, e, rfl⟩ F.entry_tuple_mul (F.args_tuple_mul_2 _ _) (tuple_mulN l its.toArray n k t dd sl hne' (by omega) h2 hlen) ⟨e, ?_⟩
    rw [hnew]
    refine ⟨.ref s.heap.objs.size, _, I.laid (t' := s.toks) (o := .tup (List.replicate k.toNat xs).flatten) (fun b ob q => Heap.get?_push_of_some _ q) (Nat.le_refl _) ?_, rfl, q2 hk _ (I.hok.fresh (Nat.le_refl _))⟩
    refine ⟨?_, _, r.rep k.toNat, PyProof.Rows.IsTup.new _ _⟩
    rw [len_rep, Nat.mul_comm]
    have : 100000 ≤ sizeLine := by decide
    omega
noncomputable def gMulT : D → D → Option D
  | .tup xs, .int k => if xs ≠ [] ∧ 1 ≤ k ∧ k ≤ 1000 ∧ xs.length * k.toNat ≤ 100000 then some (.tup (List.replicate k.toNat xs).flatten) else none
  | x, y => gMul x y
noncomputable def rMulT (K : PySem.W.Frag) : R2 := fun x y H Q => (rI (fun i j => (inBig i && inBig j) = true) (fun i j => .int (i * j)) x y H Q ∨ ∃ z n, x = .str z ∧ y = .int n ∧ (z.length ≤ 4096 ∧ -4096 ≤ n ∧ n ≤ 4096) ∧ Q (.str (Txt.mul z n)) H) ∨ rTRep K x y H Q
theorem op_mulT : OpR X (binaryOp .Mult) (rMulT X.K) := op_mulD.or op_trep
theorem opd_mulT : OpD X.K gMulT (rMulT X.K) := by
  intro x y d hd ρ H G u v Q hG ru rv k
  unfold gMulT at hd
  split at hd
  · split at hd
    · rename_i hz
      cases hd
      obtain ⟨l, xs, rfl, q1, q2⟩ := rep_tup.mp ru
      have n1 : xs ≠ [] := fun z => by have := q2.length; rw [z] at this; exact hz.1 (List.length_eq_zero_iff.mp this.symm)
      refine .inr ⟨l, _, xs, rfl, rep_int.mp rv, same_t same_un q1, n1, hz.2.1, hz.2.2.1, by rw [q2.length]; exact hz.2.2.2, fun e => ?_, fun _ p hp => k _ _ (same_upd hp) (rep_new_tup hp (hG p hp) (q2.rep _))⟩
      subst e
      refine k _ H (Same.refl H) ?_
      simpa using ru
    · cases hd
  · exact .inl (opd_mul (X := X) x y d hd ρ H G u v Q hG ru rv k)
end
end DL
namespace DL
open PySem PySem.Spec L2
inductive SO where
  | ins (c : Str) (fs : List (Str × D)) | lst (ds : List D) | tab (x : Str) (l c : Nat) (q : Str)
noncomputable abbrev Sto := List SO
noncomputable abbrev MS (α : Type) := Sto → Option (Except XD α × Sto)
noncomputable def MS.b {α β : Type} (m : MS α) (f : α → MS β) : MS β := fun Ω => match m Ω with
  | none => none
  | some (.error x, Ω') => some (.error x, Ω')
  | some (.ok a, Ω') => f a Ω'
noncomputable def MS.p {α : Type} (a : α) : MS α := fun Ω => some (.ok a, Ω)
noncomputable def MS.l {α : Type} (m : M α) : MS α := fun Ω => m.map fun r => (r, Ω)
noncomputable def MS.o {α : Type} (m : Option α) : MS α := fun Ω => m.map fun r => (.ok r, Ω)
inductive MS.BInv {α β : Type} (m : MS α) (f : α → MS β) (Ω Ω' : Sto) (r : Except XD β) : Prop
  | ok (a : α) (Ω1 : Sto) (h1 : m Ω = some (.ok a, Ω1)) (h2 : f a Ω1 = some (r, Ω'))
  | err (x : XD) (h1 : m Ω = some (.error x, Ω')) (h2 : r = .error x)
theorem MS.b_inv {α β : Type} {m : MS α} {f : α → MS β} {Ω Ω' : Sto} {r : Except XD β} (h : m.b f Ω = some (r, Ω')) : MS.BInv m f Ω Ω' r := by
  unfold MS.b at h
  cases e : m Ω with
  | none => rw [e] at h; cases h
  | some p =>
    rw [e] at h
    obtain ⟨q, Ω1⟩ := p
    cases q with
    | error x => cases h; exact .err x e rfl
    | ok a => exact .ok a Ω1 e h
theorem MS.l_inv {α : Type} {m : M α} {Ω Ω' : Sto} {r : Except XD α} (h : MS.l m Ω = some (r, Ω')) : m = some r ∧ Ω' = Ω := by
  unfold MS.l at h
  cases e : m with
  | none => rw [e] at h; cases h
  | some p => rw [e] at h; cases h; exact ⟨rfl, rfl⟩
theorem MS.o_inv {α : Type} {m : Option α} {Ω Ω' : Sto} {r : Except XD α} (h : MS.o m Ω = some (r, Ω')) : ∃ a, m = some a ∧ r = .ok a ∧ Ω' = Ω := by
  unfold MS.o at h
  cases e : m with
  | none => rw [e] at h; cases h
  | some p => rw [e] at h; cases h; exact ⟨p, rfl, rfl, rfl⟩
@[simp] theorem MS.b_p {α β : Type} (a : α) (f : α → MS β) : (MS.p a).b f = f a := rfl
noncomputable def RLe (ρ ρ' : Rho) : Prop := ∀ i a, ρ i = some a → ρ' i = some a
theorem RLe.refl (ρ : Rho) : RLe ρ ρ := fun _ _ h => h
theorem RLe.trans {ρ ρ' ρ'' : Rho} (a : RLe ρ ρ') (b : RLe ρ' ρ'') : RLe ρ ρ'' := fun i x h => b i x (a i x h)
section
variable {ρ ρ' : Rho} {K : PySem.W.Frag} {H H' : Hp}
mutual
theorem Rep.rho (e : RLe ρ ρ') : ∀ {d : D} {v : V}, Rep ρ K H d v → Rep ρ' K H d v
  | .non, _, h => by unfold Rep at h ⊢; exact h
  | .bl _, _, h => by unfold Rep at h ⊢; exact h
  | .int _, _, h => by unfold Rep at h ⊢; exact h
  | .str _, _, h => by unfold Rep at h ⊢; exact h
  | .ty _, _, h => by unfold Rep at h ⊢; exact h
  | .obj _, _, h => by
    unfold Rep at h ⊢
    obtain ⟨a, q1, q2⟩ := h
    exact ⟨a, e _ _ q1, q2⟩
  | .tup _, _, h => by
    unfold Rep at h ⊢
    obtain ⟨a, xs, q1, q2, q3⟩ := h
    exact ⟨a, xs, q1, q2, Reps.rho e q3⟩
  | .lst _, _, h => by
    unfold Rep at h ⊢
    obtain ⟨a, xs, q1, q2, q3⟩ := h
    exact ⟨a, xs, q1, q2, Reps.rho e q3⟩
theorem Reps.rho (e : RLe ρ ρ') : ∀ {ds : List D} {vs : List V}, Reps ρ K H ds vs → Reps ρ' K H ds vs
  | [], _, h => by unfold Reps at h ⊢; exact h
  | _ :: _, _, h => by
    unfold Reps at h ⊢
    obtain ⟨v, vs, q1, q2, q3⟩ := h
    exact ⟨v, vs, q1, Rep.rho e q2, Reps.rho e q3⟩
end
noncomputable def putD (f : Str) (d : D) : List (Str × D) → List (Str × D)
  | [] => [(f, d)]
  | (g, x) :: r => if g = f then (g, d) :: r else (g, x) :: putD f d r
noncomputable def Flds (ρ : Rho) (K : PySem.W.Frag) (H : Hp) : List (Str × D) → List (Str × V) → Prop
  | [], vs => vs = []
  | (f, d) :: fs, vs => ∃ v r, vs = (f, v) :: r ∧ Rep ρ K H d v ∧ Flds ρ K H fs r
theorem Flds.mono (e : RLe ρ ρ') (s : Same H H') : ∀ {fs : List (Str × D)} {vs : List (Str × V)}, Flds ρ K H fs vs → Flds ρ' K H' fs vs
  | [], _, h => h
  | (f, d) :: fs, _, ⟨v, r, q1, q2, q3⟩ => ⟨v, r, q1, (q2.rho e).mono s, Flds.mono e s q3⟩
end
inductive InsOk (ρ : Rho) (S : Addr → Bool) (K : PySem.W.Frag) (mg : Str → Option Value) (H Hv : Hp) (a : Addr) (c : Str) (fs : List (Str × D)) : Prop
  | mk (C dx : Addr) (vfs : List (Str × V)) (h1 : mg c = some (.ref C)) (h2 : H a = some (.ins C dx vfs)) (h3 : H dx = some (.own a)) (h4 : S dx = true) (h5 : Flds ρ K Hv fs vfs)
inductive TabOf (K : PySem.W.Frag) (mg : Str → Option Value) (x : Str) (a : Addr) : Prop
  | mk (f c bm : Addr) (oc : Value) (od : Option Addr) (fd : FuncData) (osl : Array (Option Value)) (ob : Obj) (h1 : mg x = some (.ref f)) (h2 : K.lookup f = some ⟨oc, od, .func fd, osl⟩) (h3 : fd.code = .ref c) (h4 : PySem.W.codeHdIn K c a = true)
      (h5 : mg "__builtins__" = some (.ref bm)) (h6 : bm ≠ builtinsNs) (h7 : K.lookup bm = some ob) (h8 : ob.cls = .type "module") (h9 : ob.dict = some builtinsNs) (h10 : ob.data = .plain)
inductive TabG (Hv : Hp) (l c : Nat) (q : Str) (ps : Array Value) : Prop
  | nil (h : ps = #[])
  | one (c' : Addr) (o : Obj) (vs : Array Value) (t : Tok) (h : ps = #[rawInt l, rawInt c, .ref c']) (h1 : Hv c' = some (.frz o (.own 0))) (h2 : o.data = .fields vs) (h3 : vs[1]? = some (.str q t))
theorem TabG.mono {Hv Hv' : Hp} {l c : Nat} {q : Str} {ps : Array Value} (s : Same Hv Hv') : TabG Hv l c q ps → TabG Hv' l c q ps
  | .nil h => .nil h
  | .one c' o vs t h h1 h2 h3 => .one c' o vs t h (s _ _ h1) h2 h3
inductive TabOk (K : PySem.W.Frag) (mg : Str → Option Value) (H Hv : Hp) (a : Addr) (x : Str) (l c : Nat) (q : Str) : Prop
  | mk (ps : Array Value) (h1 : H a = some (.tbl ps)) (h2 : TabOf K mg x a) (h3 : TabG Hv l c q ps)
noncomputable def SOk (ρ : Rho) (S : Addr → Bool) (K : PySem.W.Frag) (mg : Str → Option Value) (H Hv : Hp) (a : Addr) : SO → Prop
  | .ins c fs => InsOk ρ S K mg H Hv a c fs
  | .lst ds => ∃ xs, H a = some (.lst xs) ∧ Reps ρ K Hv ds xs
  | .tab x l c q => TabOk K mg H Hv a x l c q
inductive AtOk (ρ : Rho) (S : Addr → Bool) (K : PySem.W.Frag) (mg : Str → Option Value) (H Hv : Hp) (i : Nat) (so : SO) : Prop
  | mk (a : Addr) (h1 : ρ i = some a) (h2 : S a = true) (h3 : SOk ρ S K mg H Hv a so)
structure StoOk (ρ : Rho) (S : Addr → Bool) (K : PySem.W.Frag) (mg : Str → Option Value) (H Hv : Hp) (Ω : Sto) : Prop where
  ats : ∀ (i : Nat) so, Ω[i]? = some so → AtOk ρ S K mg H Hv i so
  inj : ∀ i j a, ρ i = some a → ρ j = some a → i = j
  top : ∀ i, Ω.length ≤ i → ρ i = none
  fin : ∀ b, S b = true → H b ≠ none
noncomputable abbrev nof : Addr → Bool := fun _ => false
noncomputable def un (F S : Addr → Bool) : Addr → Bool := fun b => F b || S b
theorem un_t {F S : Addr → Bool} {b : Addr} : un F S b = true ↔ F b = true ∨ S b = true := by unfold un; rw [Bool.or_eq_true]
theorem un_f {F S : Addr → Bool} {b : Addr} : un F S b = false ↔ F b = false ∧ S b = false := by unfold un; rw [Bool.or_eq_false_iff]
section
variable {ρ ρ' : Rho} {S S' : Addr → Bool} {K : PySem.W.Frag} {mg : Str → Option Value} {H H' Hv Hv' : Hp} {Ω Ω' : Sto}
theorem SOk.mono {a : Addr} {so : SO} (hs : S a = true) (e : ∀ b, S b = true → H' b = H b) (v : Same Hv Hv') (h : SOk ρ S K mg H Hv a so) : SOk ρ S K mg H' Hv' a so := by
  cases so with
  | ins c fs =>
    obtain ⟨C, dx, vfs, q1, q2, q3, q4, q5⟩ := h
    exact ⟨C, dx, vfs, q1, by rw [e a hs]; exact q2, by rw [e dx q4]; exact q3, q4, q5.mono (RLe.refl _) v⟩
  | lst ds =>
    obtain ⟨xs, q1, q2⟩ := h
    exact ⟨xs, by rw [e a hs]; exact q1, q2.mono v⟩
  | tab x l c q =>
    obtain ⟨ps, q1, q2, q3⟩ := h
    exact ⟨ps, by rw [e a hs]; exact q1, q2, q3.mono v⟩
theorem StoOk.mono (h : StoOk ρ S K mg H Hv Ω) (e : ∀ b, S b = true → H' b = H b) (v : Same Hv Hv') : StoOk ρ S K mg H' Hv' Ω :=
  ⟨fun i so hi => let ⟨a, q1, q2, q3⟩ := h.ats i so hi; ⟨a, q1, q2, q3.mono q2 e v⟩, h.inj, h.top, fun b hb => by rw [e b hb]; exact h.fin b hb⟩
end
structure RM (ρ₀ : Rho) (S₀ : Addr → Bool) (H₀ : Hp) (F : Addr → Bool) (K : PySem.W.Frag) (mg : Str → Option Value) (O : List Nat) (ρ : Rho) (S : Addr → Bool) (H : Hp) (σ : St) (δ : DSt) (Ω : Sto) : Prop where
  rs : RS ρ K (hid H (fob nof σ O)) H (un F S) O σ δ
  rho : RLe ρ₀ ρ
  same : ∀ b o, S₀ b = false → H₀ b = some o → H b = some o
  old : ∀ b, S₀ b = true → S b = true
  new : ∀ b, S b = true → S₀ b = true ∨ H₀ b = none
  own0 : ∀ i ∈ O, ∀ a, σ[i]? = some (some (.ref a)) → H₀ a = none
  ff : ∀ b, F b = true → S b = false
  sto : StoOk ρ S K mg H (hid H (fob (un F S) σ O)) Ω
section
variable {ρ₀ ρ : Rho} {S₀ S F : Addr → Bool} {H₀ H1 H H' : Hp} {K : PySem.W.Frag} {mg : Str → Option Value} {O O' : List Nat} {σ σ' : St} {δ δ' : DSt} {Ω : Sto}
theorem RS.rebase (R : RS ρ K H1 H F O σ δ) : RS ρ K (hid H (fob nof σ O)) H F O σ δ :=
  ⟨R.len, same_un, R.fin, R.val, fun i hi => by
    obtain ⟨a, xs, ds, q1, q2, q3, q4, q5⟩ := R.own i hi
    refine ⟨a, xs, ds, q1, q2, q3, ⟨?_, q4.2⟩, q5⟩
    unfold hid
    rw [if_pos (fob_t.mpr (.inr ⟨i, hi, q2⟩))], R.nd⟩
theorem RM.at_store (R : RM ρ₀ S₀ H₀ F K mg O ρ S H σ δ Ω) (e : Same H H') : ∀ b, S b = true → H' b = H b := fun b hb => by
  cases q : H b with
  | none => exact absurd q (R.sto.fin b hb)
  | some o => exact e b o q
theorem RM.mono (R : RM ρ₀ S₀ H₀ F K mg O ρ S H σ δ Ω) (e : Same H H') : RM ρ₀ S₀ H₀ F K mg O ρ S H' σ δ Ω :=
  ⟨(R.rs.mono e).rebase, R.rho, fun b o h1 h2 => e b o (R.same b o h1 h2), R.old, R.new, R.own0, R.ff, R.sto.mono (R.at_store e) (same_hid e)⟩
theorem RM.thaw (R : RM ρ₀ S₀ H₀ F K mg O ρ S H σ δ Ω) (h : ∀ i ∈ O', i ∈ O) : RM ρ₀ S₀ H₀ F K mg O' ρ S H σ δ Ω :=
  ⟨(R.rs.thaw h).rebase, R.rho, R.same, R.old, R.new, fun i hi => R.own0 i (h i hi), R.ff, R.sto.mono (fun _ _ => rfl) (hid_le (le_own h))⟩
theorem RM.fresh (R : RM ρ₀ S₀ H₀ F K mg O ρ S H σ δ Ω) {p : Addr} (h : H p = none) : fob (un F S) σ O p = false := R.rs.fresh h
theorem RM.fresh0 (R : RM ρ₀ S₀ H₀ F K mg O ρ S H σ δ Ω) {p : Addr} (h : H p = none) : H₀ p = none ∨ S₀ p = true := by
  cases e : S₀ p with
  | true => exact .inr rfl
  | false =>
    cases e0 : H₀ p with
    | none => exact .inl rfl
    | some o => rw [R.same p o e e0] at h; cases h
theorem RM.noS (R : RM ρ₀ S₀ H₀ F K mg O ρ S H σ δ Ω) {p : Addr} (h : H p = none) : S p = false := by
  cases e : S p with
  | false => rfl
  | true => exact absurd h (R.sto.fin p e)
theorem RM.fresh00 (R : RM ρ₀ S₀ H₀ F K mg O ρ S H σ δ Ω) {p : Addr} (h : H p = none) : H₀ p = none := by
  rcases R.fresh0 h with q | q
  · exact q
  · have := R.noS h
    rw [R.old p q] at this; cases this
theorem RM.set (R : RM ρ₀ S₀ H₀ F K mg O ρ S H σ δ Ω) {i : Nat} {d : D} {v : V} (ho : i ∉ O) (hr : Rep ρ K (hid H (fob (un F S) σ O)) d v) : RM ρ₀ S₀ H₀ F K mg O ρ S H (σ.set i (some v)) (δ.set i (some d)) Ω := by
  refine ⟨(R.rs.set ho hr).rebase, R.rho, R.same, R.old, R.new, fun j hj a q => ?_, R.ff, by rw [ownA_set ho]; exact R.sto⟩
  rw [List.getElem?_set_ne (by rintro rfl; exact ho hj)] at q
  exact R.own0 j hj a q
theorem RM.take (R : RM ρ₀ S₀ H₀ F K mg O ρ S H σ δ Ω) {i : Nat} {ds : List D} {p : Addr} {xs : List V} (ho : i ∉ O) (hi : i < δ.length) (hp : H p = none) (hr : Reps ρ K (hid H (fob (un F S) σ O)) ds xs) :
    RM ρ₀ S₀ H₀ F K mg (i :: O) ρ S (upd H p (.lst xs)) (σ.set i (some (.ref p))) (δ.set i (some (.lst ds))) Ω ∧ Same (hid H (fob (un F S) σ O)) (hid (upd H p (.lst xs)) (fob (un F S) (σ.set i (some (.ref p))) (i :: O))) := by
  have lσ : i < σ.length := by rw [R.rs.len]; exact hi
  have pf := R.fresh hp
  have vs : Same (hid H (fob (un F S) σ O)) (hid (upd H p (.lst xs)) (fob (un F S) (σ.set i (some (.ref p))) (i :: O))) := by
    intro b o q
    obtain ⟨q1, q2⟩ := hid_some.mp q
    have hb : b ≠ p := ne_of_none q2 hp
    refine hid_some.mpr ⟨?_, by rw [upd_ne hb]; exact q2⟩
    cases z : fob (un F S) (σ.set i (some (.ref p))) (i :: O) b with
    | false => rfl
    | true =>
      rcases fob_t.mp z with z | ⟨j, hj, z⟩
      · rw [fob_t.mpr (.inl z)] at q1; cases q1
      · rcases List.mem_cons.mp hj with rfl | hj
        · rw [List.getElem?_set_self lσ] at z
          cases z
          exact absurd rfl hb
        · rw [List.getElem?_set_ne (by rintro rfl; exact ho hj)] at z
          rw [fob_t.mpr (.inr ⟨j, hj, z⟩)] at q1; cases q1
  refine ⟨⟨(R.rs.take ho hi (Same.refl H) hp hr).rebase, R.rho, fun b o h1 h2 => ?_, R.old, R.new, fun j hj a q => ?_, R.ff, R.sto.mono (fun b hb => ?_) vs⟩, vs⟩
  · have h3 := R.same b o h1 h2
    rw [upd_ne (ne_of_none h3 hp)]; exact h3
  · rcases List.mem_cons.mp hj with rfl | hj
    · rw [List.getElem?_set_self lσ] at q
      cases q
      exact R.fresh00 hp
    · rw [List.getElem?_set_ne (by rintro rfl; exact ho hj)] at q
      exact R.own0 j hj a q
  · rw [upd_ne]
    rintro rfl
    rw [R.noS hp] at hb; cases hb
end
end DL
namespace DL
open PySem PySem.Spec L2
inductive tE (K : PySem.W.Frag) (mg : Str → Option Value) (O : List Nat) (f : DSt → MS D) (σ : St) (H : Hp) (Q : VK) : Prop
  | mk (ρ₀ : Rho) (S₀ : Addr → Bool) (H₀ : Hp) (F : Addr → Bool) (ρ : Rho) (S : Addr → Bool) (δ : DSt) (Ω : Sto) (R : RM ρ₀ S₀ H₀ F K mg O ρ S H σ δ Ω) (r : Except XD D) (Ω' : Sto) (hf : f δ Ω = some (r, Ω')) (k : match (generalizing := false) r with
    | .ok d => ∀ v ρ' S' H', RM ρ₀ S₀ H₀ F K mg O ρ' S' H' σ δ Ω' → RLe ρ ρ' → Same (hid H (fob (un F S) σ O)) (hid H' (fob (un F S') σ O)) → Rep ρ' K (hid H' (fob (un F S') σ O)) d v → Q v H'
    | .error _ => True)
noncomputable def ME (X : Cx) (O : List Nat) (e : Expr) (f : DSt → MS D) : Prop := PE X e (tE X.K X.mg O f)
inductive tEB (K : PySem.W.Frag) (mg : Str → Option Value) (O : List Nat) (f : DSt → MS Bool) (σ : St) (H : Hp) (Q : Bool → Hp → Prop) : Prop
  | mk (ρ₀ : Rho) (S₀ : Addr → Bool) (H₀ : Hp) (F : Addr → Bool) (ρ : Rho) (S : Addr → Bool) (δ : DSt) (Ω : Sto) (R : RM ρ₀ S₀ H₀ F K mg O ρ S H σ δ Ω) (r : Except XD Bool) (Ω' : Sto) (hf : f δ Ω = some (r, Ω')) (k : match (generalizing := false) r with
    | .ok d => ∀ ρ' S' H', RM ρ₀ S₀ H₀ F K mg O ρ' S' H' σ δ Ω' → RLe ρ ρ' → Same (hid H (fob (un F S) σ O)) (hid H' (fob (un F S') σ O)) → Q d H'
    | .error _ => True)
inductive tEL (K : PySem.W.Frag) (mg : Str → Option Value) (O : List Nat) (f : DSt → MS (List D)) (σ : St) (H : Hp) (Q : List V → Hp → Prop) : Prop
  | mk (ρ₀ : Rho) (S₀ : Addr → Bool) (H₀ : Hp) (F : Addr → Bool) (ρ : Rho) (S : Addr → Bool) (δ : DSt) (Ω : Sto) (R : RM ρ₀ S₀ H₀ F K mg O ρ S H σ δ Ω) (r : Except XD (List D)) (Ω' : Sto) (hf : f δ Ω = some (r, Ω')) (k : match (generalizing := false) r with
    | .ok ds => ∀ vs ρ' S' H', RM ρ₀ S₀ H₀ F K mg O ρ' S' H' σ δ Ω' → RLe ρ ρ' → Same (hid H (fob (un F S) σ O)) (hid H' (fob (un F S') σ O)) → Reps ρ' K (hid H' (fob (un F S') σ O)) ds vs → Q vs H'
    | .error _ => True)
noncomputable def MA (X : Cx) (O : List Nat) (es : List Expr) (f : DSt → MS (List D)) : Prop := PA X es (tEL X.K X.mg O f)
noncomputable def lF {α : Type} (f : DSt → M α) : DSt → MS α := fun δ => MS.l (f δ)
noncomputable def mCons (f : DSt → MS D) (g : DSt → MS (List D)) : DSt → MS (List D) := fun δ => (f δ).b fun x => (g δ).b fun xs => MS.p (x :: xs)
noncomputable def m2 (g : D → D → Option D) (fa fb : DSt → MS D) : DSt → MS D := fun δ => (fa δ).b fun x => (fb δ).b fun y => MS.o (g x y)
noncomputable def m1 (g : D → Option D) (fa : DSt → MS D) : DSt → MS D := fun δ => (fa δ).b fun x => MS.o (g x)
noncomputable def mL (k : List D → Option D) (g : DSt → MS (List D)) : DSt → MS D := fun δ => (g δ).b fun xs => MS.o (k xs)
noncomputable def mTru (fa : DSt → MS D) : DSt → MS Bool := fun δ => (fa δ).b fun x => MS.o (truD x)
noncomputable def mNot (ta : DSt → MS Bool) : DSt → MS Bool := fun δ => (ta δ).b fun x => MS.p !x
noncomputable def getO (cs : List Str) (f : Str) : D → MS D := fun x Ω => match x with
  | .obj i => match Ω[i]? with
    | some (.ins c fs) => if cs.contains c then (fs.lookup f).map fun d => (.ok d, Ω) else none
    | _ => none
  | _ => none
noncomputable def mGet (cs : List Str) (f : Str) (fa : DSt → MS D) : DSt → MS D := fun δ => (fa δ).b fun x => getO cs f x
section
variable {X : Cx} {O : List Nat} {a b c e : Expr} {es : List Expr} {fa fb fc : DSt → MS D} {fl : DSt → MS (List D)} {pos : Pos} {ta tb tc : DSt → MS Bool}
theorem me_pure {f : DSt → M D} (h : DE X O E0 e f) : ME X O e (lF f) := by
  rintro pins s σ H Q I ⟨ρ₀, S₀, H₀, F, ρ, S, δ, Ω, R, r, Ω', hf, k⟩
  obtain ⟨hg, rfl⟩ := MS.l_inv hf
  refine h pins s σ H Q I ⟨ρ, _, un F S, δ, r, R.rs, hg, ?_⟩
  cases r with
  | ok d => exact fun v H' s' rv => k v ρ S H' (R.mono s') (RLe.refl _) (same_hid s') rv
  | error x => exact fun c dx H' _ z => z.elim
theorem ma_pure {f : DSt → M (List D)} (h : DA X O E0 es f) : MA X O es (lF f) := by
  rintro p pins s σ H Q I ⟨ρ₀, S₀, H₀, F, ρ, S, δ, Ω, R, r, Ω', hf, k⟩
  obtain ⟨hg, rfl⟩ := MS.l_inv hf
  refine h p pins s σ H Q I ⟨ρ, _, un F S, δ, r, R.rs, hg, ?_⟩
  cases r with
  | ok d => exact fun v H' s' rv => k v ρ S H' (R.mono s') (RLe.refl _) (same_hid s') rv
  | error x => exact fun c dx H' _ z => z.elim
theorem mbin_in {g : D → D → Option D} {r : R2} {σ : St} {H : Hp} {Q : VK} (hg : OpD X.K g r) (h : tE X.K X.mg O (m2 g fa fb) σ H Q) : tOp r (tE X.K X.mg O fa) (tE X.K X.mg O fb) σ H Q := by
  obtain ⟨ρ₀, S₀, H₀, F, ρ, S, δ, Ω, R, r, Ω', hf, k⟩ := h
  rcases MS.b_inv hf with ⟨x, Ω1, e1, hf⟩ | ⟨x, e1, rfl⟩
  · refine ⟨ρ₀, S₀, H₀, F, ρ, S, δ, Ω, R, .ok x, Ω1, e1, fun u ρ1 S1 H1 R1 l1 v1 r1 => ?_⟩
    rcases MS.b_inv hf with ⟨y, Ω2, e2, hf⟩ | ⟨y, e2, rfl⟩
    · refine ⟨ρ₀, S₀, H₀, F, ρ1, S1, δ, Ω1, R1, .ok y, Ω2, e2, fun w ρ2 S2 H2 R2 l2 v2 r2 => ?_⟩
      obtain ⟨d, hd, rfl, rfl⟩ := MS.o_inv hf
      exact hg x y d hd ρ2 H2 _ u w Q (fun p hp => R2.fresh hp) ((r1.rho l2).mono v2) r2 fun z H3 s3 r3 => k z ρ2 S2 H3 (R2.mono s3) (l1.trans l2) (v1.trans (v2.trans (same_hid s3))) r3
    · exact ⟨ρ₀, S₀, H₀, F, ρ1, S1, δ, Ω1, R1, .error y, _, e2, trivial⟩
  · exact ⟨ρ₀, S₀, H₀, F, ρ, S, δ, Ω, R, .error x, _, e1, trivial⟩
theorem me_cmp {op : CmpOp} {g : D → D → Option D} {r : R2} (ho : OpR X (compareOp op) r) (hg : OpD X.K g r) (ha : ME X O a fa) (hb : ME X O b fb) (hm : behindInMarks op b = false) : ME X O (.Compare a [op] [b] pos) (m2 g fa fb) :=
  fun pins s σ H Q I h => pe_cmpR ho ha hb hm pins s σ H Q I (mbin_in hg h)
end
end DL
namespace DL
open PySem PySem.Spec L2
structure RT (ρ₀ : Rho) (S₀ : Addr → Bool) (H₀ : Hp) (F : Addr → Bool) (K : PySem.W.Frag) (mg : Str → Option Value) (ρ : Rho) (S : Addr → Bool) (H : Hp) (Ω : Sto) : Prop where
  rho : RLe ρ₀ ρ
  same : ∀ b o, S₀ b = false → H₀ b = some o → H b = some o
  old : ∀ b, S₀ b = true → S b = true
  new : ∀ b, S b = true → S₀ b = true ∨ H₀ b = none
  ff : ∀ b, F b = true → S b = false
  sto : StoOk ρ S K mg H (hid H (un F S)) Ω
section
variable {ρ₀ ρ ρ' : Rho} {S₀ S S' F : Addr → Bool} {H₀ H H' : Hp} {K : PySem.W.Frag} {mg : Str → Option Value} {O O' B : List Nat} {σ σ' : St} {δ δ' : DSt} {Ω Ω' : Sto}
theorem le_fob {σ : St} {O : List Nat} {F : Addr → Bool} : ∀ b, F b = true → fob F σ O b = true := fun b h => fob_t.mpr (.inl h)
theorem RM.rt (R : RM ρ₀ S₀ H₀ F K mg O ρ S H σ δ Ω) : RT ρ₀ S₀ H₀ F K mg ρ S H Ω :=
  ⟨R.rho, R.same, R.old, R.new, R.ff, R.sto.mono (fun _ _ => rfl) (hid_le le_fob)⟩
theorem RM.base_some (R : RM ρ₀ S₀ H₀ F K mg O ρ S H σ δ Ω) {b : Addr} {o : HO} (h : H b = some o) (hn : ¬ ∃ i ∈ O, σ[i]? = some (some (.ref b))) : hid H (fob nof σ O) b = some o :=
  hid_some.mpr ⟨by cases e : fob nof σ O b with
    | false => rfl
    | true => rcases fob_t.mp e with q | q; cases q; exact absurd q hn, h⟩
theorem RM.base_S (R : RM ρ₀ S₀ H₀ F K mg O ρ S H σ δ Ω) {b : Addr} (hb : S b = true) : ¬ ∃ i ∈ O, σ[i]? = some (some (.ref b)) := by
  rintro ⟨i, hi, q⟩
  obtain ⟨a, xs, ds, q1, q2, q3, q4, q5⟩ := R.rs.own i hi
  rw [q] at q2; cases q2
  rw [(un_f.mp q4.2).2] at hb; cases hb
theorem RM.base_0 (R : RM ρ₀ S₀ H₀ F K mg O ρ S H σ δ Ω) {b : Addr} {o : HO} (hb : H₀ b = some o) : ¬ ∃ i ∈ O, σ[i]? = some (some (.ref b)) := by
  rintro ⟨i, hi, q⟩
  rw [R.own0 i hi b q] at hb; cases hb
theorem RM.next (R : RM ρ₀ S₀ H₀ F K mg O ρ S H σ δ Ω) (R' : RS ρ K (hid H (fob nof σ O)) H' (un F S) O' σ' δ') (v : Same (hid H (fob (un F S) σ O)) (hid H' (fob (un F S) σ' O'))) : RM ρ₀ S₀ H₀ F K mg O' ρ S H' σ' δ' Ω := by
  refine ⟨R'.rebase, R.rho, fun b o h1 h2 => R'.same b o (R.base_some (R.same b o h1 h2) (R.base_0 h2)), R.old, R.new, fun i hi a q => ?_, R.ff, R.sto.mono (fun b hb => ?_) v⟩
  · obtain ⟨a', xs, ds, q1, q2, q3, q4, q5⟩ := R'.own i hi
    rw [q] at q2; cases q2
    have h0 := q4.1
    cases e : H a with
    | none => exact R.fresh00 e
    | some o =>
      by_cases hn : ∃ i ∈ O, σ[i]? = some (some (.ref a))
      · obtain ⟨j, hj, z⟩ := hn
        exact R.own0 j hj a z
      · rw [R.base_some e hn] at h0; cases h0
  · cases e : H b with
    | none => exact absurd e (R.sto.fin b hb)
    | some o => exact R'.same b o (R.base_some e (R.base_S hb))
theorem RM.left (R : RM ρ₀ S₀ H₀ F K mg O ρ S H σ δ Ω) (s : Same (hid H (fob nof σ O)) H') : RT ρ₀ S₀ H₀ F K mg ρ S H' Ω := by
  refine ⟨R.rho, fun b o h1 h2 => s b o (R.base_some (R.same b o h1 h2) (R.base_0 h2)), R.old, R.new, R.ff, R.sto.mono (fun b hb => ?_) fun b o q => ?_⟩
  · cases e : H b with
    | none => exact absurd e (R.sto.fin b hb)
    | some o => exact s b o (R.base_some e (R.base_S hb))
  · obtain ⟨q1, q2⟩ := hid_some.mp q
    refine hid_some.mpr ⟨?_, s b o (R.base_some q2 fun hn => ?_)⟩
    · cases e : un F S b with
      | false => rfl
      | true => rw [le_fob b e] at q1; cases q1
    · rw [fob_t.mpr (.inr hn)] at q1; cases q1
end
noncomputable def OkE (K : PySem.W.Frag) (mg : Str → Option Value) (O' B : List Nat) (ρ₀ : Rho) (S₀ : Addr → Bool) (H₀ : Hp) (F : Addr → Bool) (ρ : Rho) (Hv : Hp) (Dn : Ends) : Except XD Out → Sto → Prop
  | .ok (.nx δ'), Ω' => ∀ ρ' S' σ' H', RM ρ₀ S₀ H₀ F K mg O' ρ' S' H' σ' δ' Ω' → RLe ρ ρ' → Same Hv (hid H' (fob (un F S') σ' O')) → Dn.nx σ' H'
  | .ok (.rt d), Ω' => ∀ v ρ' S' H', RT ρ₀ S₀ H₀ F K mg ρ' S' H' Ω' → Rep ρ' K (hid H' (un F S')) d v → Dn.rt v H'
  | .ok (.bk δ'), Ω' => ∀ ρ' S' σ' H', RM ρ₀ S₀ H₀ F K mg B ρ' S' H' σ' δ' Ω' → RLe ρ ρ' → Same Hv (hid H' (fob (un F S') σ' B)) → Dn.bk σ' H'
  | .ok (.ct δ'), Ω' => ∀ ρ' S' σ' H', RM ρ₀ S₀ H₀ F K mg B ρ' S' H' σ' δ' Ω' → RLe ρ ρ' → Same Hv (hid H' (fob (un F S') σ' B)) → Dn.ct σ' H'
  | .error _, _ => True
theorem OkE.back {K : PySem.W.Frag} {mg : Str → Option Value} {O' B : List Nat} {ρ₀ ρ ρ' : Rho} {S₀ : Addr → Bool} {H₀ : Hp} {F : Addr → Bool} {Hv Hv' : Hp} {Dn : Ends} {r : Except XD Out} {Ω' : Sto} (l : RLe ρ ρ') (e : Same Hv Hv') (h : OkE K mg O' B ρ₀ S₀ H₀ F ρ Hv Dn r Ω') :
    OkE K mg O' B ρ₀ S₀ H₀ F ρ' Hv' Dn r Ω' := by
  cases r with
  | error x => trivial
  | ok o =>
    cases o with
    | nx δ' => exact fun ρ1 S1 σ1 H1 R l1 v1 => h ρ1 S1 σ1 H1 R (l.trans l1) (e.trans v1)
    | bk δ' => exact fun ρ1 S1 σ1 H1 R l1 v1 => h ρ1 S1 σ1 H1 R (l.trans l1) (e.trans v1)
    | ct δ' => exact fun ρ1 S1 σ1 H1 R l1 v1 => h ρ1 S1 σ1 H1 R (l.trans l1) (e.trans v1)
    | rt d => exact h
inductive sE (K : PySem.W.Frag) (mg : Str → Option Value) (O O' B : List Nat) (g : DSt → MS Out) (Dn : Ends) (σ : St) (H : Hp) : Prop
  | mk (ρ₀ : Rho) (S₀ : Addr → Bool) (H₀ : Hp) (F : Addr → Bool) (ρ : Rho) (S : Addr → Bool) (δ : DSt) (Ω : Sto) (R : RM ρ₀ S₀ H₀ F K mg O ρ S H σ δ Ω) (r : Except XD Out) (Ω' : Sto) (hf : g δ Ω = some (r, Ω')) (k : OkE K mg O' B ρ₀ S₀ H₀ F ρ (hid H (fob (un F S) σ O)) Dn r Ω')
noncomputable def MSt (X : Cx) (O O' B : List Nat) (st : Stmt) (g : DSt → MS Out) : Prop := PS X st (sE X.K X.mg O O' B g)
noncomputable def MSs (X : Cx) (O O' B : List Nat) (st : List Stmt) (g : DSt → MS Out) : Prop := PSs X st (sE X.K X.mg O O' B g)
noncomputable def eNx : DSt → MS Out := fun δ => MS.p (.nx δ)
noncomputable def eSeq (g1 g2 : DSt → MS Out) : DSt → MS Out := fun δ => (g1 δ).b fun o => match o with
  | .nx δ' => g2 δ'
  | o => MS.p o
noncomputable def eSet (i : Nat) (f : DSt → MS D) : DSt → MS Out := fun δ => (f δ).b fun d => MS.p (.nx (δ.set i (some d)))
noncomputable def eRet (f : DSt → MS D) : DSt → MS Out := fun δ => (f δ).b fun d => MS.p (.rt d)
noncomputable def eDrop (f : DSt → MS D) : DSt → MS Out := fun δ => (f δ).b fun _ => MS.p (.nx δ)
noncomputable def eIf (t : DSt → MS Bool) (g1 g2 : DSt → MS Out) : DSt → MS Out := fun δ => (t δ).b fun b => if b = true then g1 δ else g2 δ
noncomputable def putO (cs : List Str) (f : Str) (x d : D) : MS Unit := fun Ω => match x with
  | .obj i => match Ω[i]? with
    | some (.ins c fs) => if (cs.contains c && decide (fs.length < 1000)) = true then some (.ok (), Ω.set i (.ins c (putD f d fs))) else none
    | _ => none
  | _ => none
noncomputable def ePut (cs : List Str) (f : Str) (fo fv : DSt → MS D) : DSt → MS Out := fun δ => (fv δ).b fun d => (fo δ).b fun x => (putO cs f x d).b fun _ => MS.p (.nx δ)
noncomputable def forE (g : DSt → MS Out) (tg : D → DSt → Option DSt) : List D → DSt → MS Out
  | [], δ => MS.p (.nx δ)
  | d :: ds, δ => match tg d δ with
    | none => fun _ => none
    | some δ1 => (g δ1).b fun o => match o with
      | .nx δ' => forE g tg ds δ'
      | .ct δ' => forE g tg ds δ'
      | .bk δ' => MS.p (.nx δ')
      | .rt v => MS.p (.rt v)
noncomputable def eFor (fi : DSt → MS (List D)) (tg : D → DSt → Option DSt) (g : DSt → MS Out) : DSt → MS Out := fun δ => (fi δ).b fun ds => forE g tg ds δ
section
variable {X : Cx} {O O' O'' B : List Nat} {a b c e : Expr} {es : List Expr} {fa fb : DSt → MS D} {fl : DSt → MS (List D)} {pos : Pos} {st : Stmt} {rest : List Stmt} {g g1 g2 : DSt → MS Out} {tc : DSt → MS Bool}
theorem ms_pure {h : DSt → M Out} (hd : DS X O O' B E0 st h) : MSt X O O' B st (lF h) := by
  rintro pins s σ H Dn I ⟨ρ₀, S₀, H₀, F, ρ, S, δ, Ω, R, r, Ω', hf, k⟩
  obtain ⟨hg, rfl⟩ := MS.l_inv hf
  refine hd pins s σ H Dn I ⟨ρ, _, un F S, δ, r, R.rs, hg, ?_⟩
  cases r with
  | error x => exact fun c dx H' _ z => z.elim
  | ok o =>
    cases o with
    | nx δ' => exact fun σ' H' v R' => k ρ S σ' H' (R.next R' v) (RLe.refl _) v
    | bk δ' => exact fun σ' H' v R' => k ρ S σ' H' (R.next R' v) (RLe.refl _) v
    | ct δ' => exact fun σ' H' v R' => k ρ S σ' H' (R.next R' v) (RLe.refl _) v
    | rt d => exact fun v H' s' rv => k v ρ S H' (R.left s') rv
theorem mss_cons (h1 : MSt X O O' B st g1) (h2 : MSs X O' O'' B rest g2) : MSs X O O'' B (st :: rest) (eSeq g1 g2) := by
  rintro pins s σ H Dn I ⟨ρ₀, S₀, H₀, F, ρ, S, δ, Ω, R, r, Ω', hf, k⟩
  refine pss_cons h1 h2 pins s σ H Dn I ?_
  rcases MS.b_inv hf with ⟨o, Ω1, e1, hf⟩ | ⟨x, e1, rfl⟩
  · refine ⟨ρ₀, S₀, H₀, F, ρ, S, δ, Ω, R, .ok o, Ω1, e1, ?_⟩
    cases o with
    | nx δ' => exact fun ρ1 S1 σ1 H1 R1 l1 v1 => ⟨ρ₀, S₀, H₀, F, ρ1, S1, δ', Ω1, R1, r, Ω', hf, k.back l1 v1⟩
    | rt d => cases hf; exact k
    | bk δ' => cases hf; exact k
    | ct δ' => cases hf; exact k
  · exact ⟨ρ₀, S₀, H₀, F, ρ, S, δ, Ω, R, .error x, _, e1, trivial⟩
theorem mss_one (h1 : MSt X O O' B st g) : MSs X O O' B [st] g := fun pins s σ H Dn I h => pss_one h1 pins s σ H Dn I h
theorem mss_pre {sts : List Stmt} (hO : ∀ i ∈ O', i ∈ O) (h : MSs X O' O'' B sts g) : MSs X O O'' B sts g := by
  rintro pins s σ H Dn I ⟨ρ₀, S₀, H₀, F, ρ, S, δ, Ω, R, r, Ω', hf, k⟩
  exact h pins s σ H Dn I ⟨ρ₀, S₀, H₀, F, ρ, S, δ, Ω, R.thaw hO, r, Ω', hf, k.back (RLe.refl _) (hid_le (le_own hO))⟩
theorem ms_set {i : Nat} {x : Str} {pos' : Pos} (hN : X.N.Nodup) (he : ME X O e fa) (ho : autoParam (O.contains i = false) zau2._auto_1) (hi : autoParam (X.N[i]? = some x) zau2._auto_1) (hx : autoParam (Loc X.env.scope x) zau8._auto_1) (hs : autoParam (swapsWith e (some (.Name x pos')) pos.line X.env = pure false) zau2._auto_1)
    (hf : autoParam (X.fn x = true ∨ X.env.scope.names.lookup x = some .local) zau0._auto_1) : MSt X O O B (.Assign [.Name x pos'] e pos) (eSet i fa) := by
  rintro pins s σ H Dn I ⟨ρ₀, S₀, H₀, F, ρ, S, δ, Ω, R, r, Ω', hg, k⟩
  have ho' : i ∉ O := fun z => by rw [List.contains_iff_mem.mpr z] at ho; cases ho
  refine ps_set hN hi hx he hs hf pins s σ H Dn I ?_
  rcases MS.b_inv hg with ⟨d, Ω1, e1, hg⟩ | ⟨x, e1, rfl⟩
  · cases hg
    exact ⟨ρ₀, S₀, H₀, F, ρ, S, δ, Ω, R, .ok d, _, e1, fun v ρ1 S1 H1 R1 l1 v1 r1 => k ρ1 S1 _ H1 (R1.set ho' r1) l1 (by rw [ownA_set ho']; exact v1)⟩
  · exact ⟨ρ₀, S₀, H₀, F, ρ, S, δ, Ω, R, .error x, _, e1, trivial⟩
theorem ms_ret (he : ME X O e fa) : MSt X O O' B (.Return (some e) pos) (eRet fa) := by
  rintro pins s σ H Dn I ⟨ρ₀, S₀, H₀, F, ρ, S, δ, Ω, R, r, Ω', hg, k⟩
  refine ps_ret he pins s σ H Dn I ?_
  rcases MS.b_inv hg with ⟨d, Ω1, e1, hg⟩ | ⟨x, e1, rfl⟩
  · cases hg
    exact ⟨ρ₀, S₀, H₀, F, ρ, S, δ, Ω, R, .ok d, _, e1, fun v ρ1 S1 H1 R1 l1 v1 r1 => k v ρ1 S1 H1 R1.rt (r1.mono (hid_le le_fob))⟩
  · exact ⟨ρ₀, S₀, H₀, F, ρ, S, δ, Ω, R, .error x, _, e1, trivial⟩
end
end DL
namespace DL
open PySem PySem.Spec L2
section
variable {ρ₀ ρ ρ' : Rho} {S₀ S S' F : Addr → Bool} {H₀ H H1 H' : Hp} {K : PySem.W.Frag} {mg : Str → Option Value} {O O' B : List Nat} {σ σ' : St} {δ δ' : DSt} {Ω Ω' : Sto}
theorem RS.updF {a : Addr} {o : HO} (R : RS ρ K H1 H F O σ δ) (h : F a = true) : RS ρ K (hid (upd H a o) (fob nof σ O)) (upd H a o) F O σ δ := by
  have hh : hid (upd H a o) (fob F σ O) = hid H (fob F σ O) := hid_upd (le_fob a h)
  refine ⟨R.len, same_un, fun b hb => upd_nn (R.fin b hb), fun i d hd hi => by rw [hh]; exact R.val i d hd hi, fun i hi => ?_, R.nd⟩
  obtain ⟨l, xs, ds, q1, q2, q3, q4, q5⟩ := R.own i hi
  have hl : l ≠ a := by rintro rfl; rw [q4.2] at h; cases h
  refine ⟨l, xs, ds, q1, q2, by rw [upd_ne hl]; exact q3, ⟨?_, q4.2⟩, by rw [hh]; exact q5⟩
  unfold hid
  rw [if_pos (fob_t.mpr (.inr ⟨i, hi, q2⟩))]
theorem un_fob : un (fob F σ O) S = fob (un F S) σ O := by
  funext b
  unfold un fob
  simp only
  cases F b <;> cases S b <;> cases (ownA σ O).contains b <;> rfl
theorem RM.call (R : RM ρ₀ S₀ H₀ F K mg O ρ S H σ δ Ω) (l : RLe ρ ρ') (sm : ∀ b o, S b = false → H b = some o → H' b = some o) (old : ∀ b, S b = true → S' b = true) (new : ∀ b, S' b = true → S b = true ∨ H b = none)
    (ff : ∀ b, fob F σ O b = true → S' b = false) (sto : StoOk ρ' S' K mg H' (hid H' (un (fob F σ O) S')) Ω') :
    RM ρ₀ S₀ H₀ F K mg O ρ' S' H' σ δ Ω' ∧ Same (hid H (fob (un F S) σ O)) (hid H' (fob (un F S') σ O)) := by
  have keepS : ∀ b o, S b = false → H b = some o → S' b = false := fun b o h1 h2 => by
    cases e : S' b with
    | false => rfl
    | true =>
      rcases new b e with q | q
      · rw [q] at h1; cases h1
      · rw [q] at h2; cases h2
  have vis : Same (hid H (fob (un F S) σ O)) (hid H' (fob (un F S') σ O)) := fun b o q => by
    obtain ⟨q1, q2⟩ := hid_some.mp q
    have hu : un F S b = false := by
      cases e : un F S b with
      | false => rfl
      | true => rw [le_fob b e] at q1; cases q1
    obtain ⟨h1, h2⟩ := un_f.mp hu
    refine hid_some.mpr ⟨?_, sm b o h2 q2⟩
    cases e : fob (un F S') σ O b with
    | false => rfl
    | true =>
      rcases fob_t.mp e with z | z
      · rcases un_t.mp z with z | z
        · rw [h1] at z; cases z
        · rw [keepS b o h2 q2] at z; cases z
      · rw [fob_t.mpr (.inr z)] at q1; cases q1
  have rs : RS ρ' K (hid H' (fob nof σ O)) H' (un F S') O σ δ := by
    refine ⟨R.rs.len, same_un, fun b hb => ?_, fun i d hd hi => ?_, fun i hi => ?_, R.rs.nd⟩
    · rcases un_t.mp hb with q | q
      · have h1 := R.rs.fin b (un_t.mpr (.inl q))
        intro z
        cases e : H b with
        | none => exact h1 e
        | some o => rw [sm b o (R.ff b q) e] at z; cases z
      · exact sto.fin b q
    · obtain ⟨v, q1, q2⟩ := R.rs.val i d hd hi
      exact ⟨v, q1, (q2.rho l).mono vis⟩
    · obtain ⟨a, xs, ds, q1, q2, q3, q4, q5⟩ := R.rs.own i hi
      have hS := (un_f.mp q4.2).2
      refine ⟨a, xs, ds, q1, q2, sm a _ hS q3, ⟨?_, un_f.mpr ⟨(un_f.mp q4.2).1, keepS a _ hS q3⟩⟩, (q5.rho l).mono vis⟩
      unfold hid
      rw [if_pos (fob_t.mpr (.inr ⟨i, hi, q2⟩))]
  refine ⟨⟨rs, R.rho.trans l, fun b o h1 h2 => ?_, fun b hb => old b (R.old b hb), fun b hb => ?_, R.own0, fun b hb => ff b (fob_t.mpr (.inl hb)), by rw [un_fob] at sto; exact sto⟩, vis⟩
  · have h3 := R.same b o h1 h2
    refine sm b o ?_ h3
    cases e : S b with
    | false => rfl
    | true =>
      rcases R.new b e with q | q
      · rw [q] at h1; cases h1
      · rw [q] at h2; cases h2
  · rcases new b hb with q | q
    · exact R.new b q
    · exact .inr (R.fresh00 q)
end
inductive spE (K : PySem.W.Frag) (mg : Str → Option Value) (n : Nat) (m : List D → MS D) (vs : List V) (H : Hp) (Q : VK) (E : XK) : Prop
  | mk (hn : vs.length = n) (ρ : Rho) (S F : Addr → Bool) (ds : List D) (Ω : Sto) (hF : ∀ b, F b = true → H b ≠ none) (hS : ∀ b, F b = true → S b = false) (hr : Reps ρ K (hid H (un F S)) ds vs) (hs : StoOk ρ S K mg H (hid H (un F S)) Ω) (r : Except XD D) (Ω' : Sto) (hf : m ds Ω = some (r, Ω')) (k : match (generalizing := false) r with
    | .ok d => ∀ v ρ' S' H', RLe ρ ρ' → (∀ b o, S b = false → H b = some o → H' b = some o) → (∀ b, S b = true → S' b = true) → (∀ b, S' b = true → S b = true ∨ H b = none) → (∀ b, F b = true → S' b = false) → StoOk ρ' S' K mg H' (hid H' (un F S')) Ω' → Rep ρ' K (hid H' (un F S')) d v → Q v H'
    | .error _ => True)
inductive MetX (P : Program) (w : World) (K : PySem.W.Frag) (mg : Str → Option Value) (base : Heap) (k : Nat) (c x : Str) (n : Nat) (sp : Sp) : Prop
  | mk (C f : Addr) (fd : FuncData) (ps : List Str) (h1 : ps.length = n) (h2 : mg c = some (.ref C)) (h3 : Cls K C) (h4 : Meth K C x f) (h5 : Binds K fd ps []) (h6 : FnOk P w K mg base CX0 k f fd ps sp)
inductive IniX (P : Program) (w : World) (K : PySem.W.Frag) (mg : Str → Option Value) (base : Heap) (k : Nat) (c : Str) (n : Nat) (sp : Sp) : Prop
  | mk (C f : Addr) (fd : FuncData) (ps : List Str) (h1 : ps.length = n) (h2 : mg c = some (.ref C)) (h3 : Mk K C f) (h4 : Binds K fd ps []) (h5 : FnOk P w K mg base CX0 k f fd ps sp)
structure CalE (P : Program) (w : World) (K : PySem.W.Frag) (mg : Str → Option Value) (base : Heap) (k : Nat) (x : Str) (n : Nat) (m : List D → MS D) : Prop where
  ex : CalX P w K mg base k x n (spE K mg n m)
  ar : ∀ ds Ω r, m ds Ω = some r → ds.length = n
structure MetE (P : Program) (w : World) (K : PySem.W.Frag) (mg : Str → Option Value) (base : Heap) (k : Nat) (c x : Str) (n : Nat) (m : List D → MS D) : Prop where
  ex : MetX P w K mg base k c x n (spE K mg n m)
  ar : ∀ ds Ω r, m ds Ω = some r → ds.length = n
structure IniE (P : Program) (w : World) (K : PySem.W.Frag) (mg : Str → Option Value) (base : Heap) (k : Nat) (c : Str) (n : Nat) (m : List D → MS D) : Prop where
  ex : IniX P w K mg base k c n (spE K mg n m)
  ar : ∀ ds Ω r, m ds Ω = some r → ds.length = n
noncomputable def outE : Out → MS D
  | .rt d => MS.p d
  | .nx _ => MS.p .non
  | _ => fun _ => none
noncomputable def mirE (n N : Nat) (g : DSt → MS Out) : List D → MS D := fun ds => if ds.length = n then (g (startD N ds)).b outE else fun _ => none
theorem mirE_ar {n N : Nat} {g : DSt → MS Out} : ∀ ds Ω r, mirE n N g ds Ω = some r → ds.length = n := fun ds Ω r h => by
  unfold mirE at h
  split at h
  · assumption
  · cases h
section
variable {P : Program} {w : World} {K : PySem.W.Frag} {mg : Str → Option Value} {base : Heap}
theorem fn_E {x q : Str} {st : Stmt} {N ps : List Str} {k : Nat} {O' : List Nat} {g : DSt → MS Out} {f : Addr} {fd : FuncData} (F : Fun K x q st f fd) (Sc : FnScope N ps (defScope st))
    (hbody : ∀ (f : Addr) (cdv : Value) (A : Around) (outer : List Env) (s : Shared) (H : Hp) (E : XK), Room k (A.deeper (PyProof.Rows.envOfC q (defScope st) s.heap.objs.size f cdv)) →
      MSs (cxOf CX0 P w K mg base N q (defScope st) f cdv A outer s H E).nox [] O' [] (defBody st) g) : FnOk P w K mg base CX0 (k + 1) f fd ps (spE K mg ps.length (mirE ps.length N.length g)) := by
  refine F.ok Sc (fun vs H Q E h => h.1) fun cdv A outer s H vs Q E hr h => ?_
  obtain ⟨hl, ρ, S, F', ds, Ω, fin, ff, rp, sto, r, Ω', hmr, k0⟩ := h
  refine ⟨_, hbody f cdv A outer s H E hr, ?_⟩
  have hpl : ps.length ≤ N.length := by have := congrArg List.length Sc.pre; rw [List.length_take] at this; omega
  have hdl : ds.length = ps.length := by rw [← rp.length]; exact hl
  unfold mirE at hmr
  rw [if_pos hdl] at hmr
  have R : RM ρ S H F' K mg [] ρ S H (L2.start N vs) (startD N.length ds) Ω := by
    refine ⟨⟨?_, same_un, fun b hb => ?_, fun i d hd _ => ?_, fun i hi => absurd hi (by simp), fun i hi => absurd hi (by simp)⟩, RLe.refl _, fun b o _ h => h, fun b h => h, fun b h => .inl h, fun i hi => absurd hi (by simp), ff, by rw [fob_nil]; exact sto⟩
    · simp [L2.start, startD, rp.length]
    · rcases un_t.mp hb with z | z
      · exact fin b z
      · exact sto.fin b z
    · obtain ⟨v, e, rv⟩ := rp.get (startD_get hd)
      exact ⟨v, start_set e, by rw [fob_nil]; exact rv⟩
  rcases MS.b_inv hmr with ⟨o, Ω1, e1, hmr⟩ | ⟨y, e1, rfl⟩
  · refine ⟨ρ, S, H, F', ρ, S, _, Ω, R, .ok o, Ω1, e1, ?_⟩
    cases o with
    | rt d =>
      cases hmr
      exact fun v ρ' S' H' T rv => k0 v ρ' S' H' T.rho T.same T.old T.new T.ff T.sto rv
    | nx δ =>
      cases hmr
      exact fun ρ' S' σ' H' R' _ _ => k0 .non ρ' S' H' R'.rt.rho R'.rt.same R'.rt.old R'.rt.new R'.rt.ff R'.rt.sto (rep_non.mpr rfl)
    | bk δ => cases hmr
    | ct δ => cases hmr
  · exact ⟨ρ, S, H, F', ρ, S, _, Ω, R, .error y, _, e1, trivial⟩
structure MetAt (K : PySem.W.Frag) (mg : Str → Option Value) (c x q : Str) (st : Stmt) (ps : List Str) : Prop where
  ex : ∃ C f fd, mg c = some (.ref C) ∧ Cls K C ∧ Meth K C x f ∧ Fun K x q st f fd ∧ Binds K fd ps []
structure IniAt (K : PySem.W.Frag) (mg : Str → Option Value) (c q : Str) (st : Stmt) (ps : List Str) : Prop where
  ex : ∃ C f fd, mg c = some (.ref C) ∧ Mk K C f ∧ Fun K "__init__" q st f fd ∧ Binds K fd ps []
end
end DL
namespace DL
open PySem PySem.Spec L2
noncomputable def mCall (m : List D → MS D) (fl : DSt → MS (List D)) : DSt → MS D := fun δ => (fl δ).b m
noncomputable def mCallP (m : List D → M D) (fl : DSt → MS (List D)) : DSt → MS D := fun δ => (fl δ).b fun ds => MS.l (m ds)
noncomputable def methO (c x : Str) (m : List D → MS D) (i : Nat) (fl : DSt → MS (List D)) (δ : DSt) : MS D := fun Ω => match Ω[i]? with
  | some (.ins c' fs) => if c' = c ∧ fs.lookup x = none then ((fl δ).b fun ds => m (.obj i :: ds)) Ω else none
  | _ => none
noncomputable def mMeth (c x : Str) (m : List D → MS D) (fo : DSt → MS D) (fl : DSt → MS (List D)) : DSt → MS D := fun δ => (fo δ).b fun o => match o with
  | .obj i => methO c x m i fl δ
  | _ => fun _ => none
noncomputable def makeO (c : Str) (m : List D → MS D) (ds : List D) : MS D := fun Ω => ((m (.obj Ω.length :: ds)).b fun d => match d with
  | .non => MS.p (.obj Ω.length)
  | _ => fun _ => none) (Ω ++ [.ins c []])
noncomputable def mMake (c : Str) (m : List D → MS D) (fl : DSt → MS (List D)) : DSt → MS D := fun δ => (fl δ).b fun ds => makeO c m ds
section
variable {X : Cx} {O : List Nat} {a b o e : Expr} {es : List Expr} {fa fb fo : DSt → MS D} {fl : DSt → MS (List D)} {pos p apos : Pos} {x c : Str} {k n : Nat}
variable {ρ₀ ρ : Rho} {S₀ S F : Addr → Bool} {H₀ H : Hp} {σ : St} {δ : DSt} {Ω Ω' : Sto}
theorem spE_in {m : List D → MS D} {ds : List D} {vs : List V} {r : Except XD D} {Q : VK} {E : XK} (R : RM ρ₀ S₀ H₀ F X.K X.mg O ρ S H σ δ Ω) (hl : ds.length = n) (hr : Reps ρ X.K (hid H (fob (un F S) σ O)) ds vs) (hm : m ds Ω = some (r, Ω'))
    (k : match (generalizing := false) r with
      | .ok d => ∀ v ρ' S' H', RM ρ₀ S₀ H₀ F X.K X.mg O ρ' S' H' σ δ Ω' → RLe ρ ρ' → Same (hid H (fob (un F S) σ O)) (hid H' (fob (un F S') σ O)) → Rep ρ' X.K (hid H' (fob (un F S') σ O)) d v → Q v H'
      | .error _ => True) : spE X.K X.mg n m vs H Q E := by
  refine ⟨by rw [hr.length]; exact hl, ρ, S, fob F σ O, ds, Ω, fun b hb => ?_, fun b hb => ?_, by rw [un_fob]; exact hr, by rw [un_fob]; exact R.sto, r, Ω', hm, ?_⟩
  · intro z
    have := R.fresh z
    rw [← un_fob, un_t.mpr (.inl hb)] at this; cases this
  · rcases fob_t.mp hb with z | z
    · exact R.ff b z
    · cases e : S b with
      | false => rfl
      | true => exact absurd z (R.base_S e)
  · cases r with
    | error x => trivial
    | ok d =>
      intro v ρ' S' H' l sm old new ff sto rv
      obtain ⟨t1, t2⟩ := R.call l sm old new ff sto
      rw [un_fob] at rv
      exact k v ρ' S' H' t1 l t2 rv
theorem me_call {m : List D → MS D} (C : CalE X.prog X.w X.K X.mg X.base k x n m) (hr : Room k X.A) (ha : MA X O (e :: es) fl) (hg : autoParam (Gl X x) zau2._auto_1) (hdb : autoParam ((x == ("__debug__" : Str)) = false) zau1._auto_1) (he : autoParam (starEach (e :: es) X.env = (false, eval e X.env) :: starEach es X.env) zau2._auto_1)
    (hpl : autoParam ((backTo pos (starEach es X.env)).any (·.1) = false) zau2._auto_1) : ME X O (.Call (.Name x p) (e :: es) [] pos) (mCall m fl) := by
  obtain ⟨f, fd, ps, hl, hm, hk, hb, G⟩ := C.ex
  rintro pins s σ H Q I ⟨ρ₀, S₀, H₀, F, ρ, S, δ, Ω, R, r, Ω', hf, k⟩
  refine pe_call G hr hg hm hk hb .nil (fun _ _ _ _ _ _ _ z => z.elim) ha hdb he hpl pins s σ H Q I (E := E0) ?_
  rcases MS.b_inv hf with ⟨ds, Ω1, e1, hf⟩ | ⟨y, e1, rfl⟩
  · refine ⟨ρ₀, S₀, H₀, F, ρ, S, δ, Ω, R, .ok ds, Ω1, e1, fun vs ρ1 S1 H1 R1 l1 v1 r1 => ?_⟩
    show spE X.K X.mg n m (vs ++ []) H1 Q E0
    rw [List.append_nil]
    refine spE_in R1 (C.ar ds Ω1 _ hf) r1 hf ?_
    cases r with
    | error y => trivial
    | ok d => exact fun v ρ2 S2 H2 R2 l2 v2 r2 => k v ρ2 S2 H2 R2 (l1.trans l2) (v1.trans v2) r2
  · exact ⟨ρ₀, S₀, H₀, F, ρ, S, δ, Ω, R, .error y, _, e1, trivial⟩
end
inductive tEI (K : PySem.W.Frag) (mg : Str → Option Value) (O : List Nat) (f : DSt → MS (List D)) (σ : St) (H : Hp) (Rk : It → Hp → Prop) : Prop
  | mk (ρ₀ : Rho) (S₀ : Addr → Bool) (H₀ : Hp) (F : Addr → Bool) (ρ : Rho) (S : Addr → Bool) (δ : DSt) (Ω : Sto) (R : RM ρ₀ S₀ H₀ F K mg O ρ S H σ δ Ω) (r : Except XD (List D)) (Ω' : Sto) (hf : f δ Ω = some (r, Ω')) (k : match (generalizing := false) r with
    | .ok ds => ∀ J ρ' S' H', RM ρ₀ S₀ H₀ F K mg O ρ' S' H' σ δ Ω' → RLe ρ ρ' → Same (hid H (fob (un F S) σ O)) (hid H' (fob (un F S') σ O)) → ItD ρ' K J ds (hid H' (fob (un F S') σ O)) → Rk J H'
    | .error _ => True)
section
variable {X : Cx} {O O' B : List Nat} {a b c e o iter tg : Expr} {es : List Expr} {fa fb fo fv : DSt → MS D} {fi : DSt → MS (List D)} {pos : Pos} {st : Stmt} {g : DSt → MS Out} {tc : DSt → MS Bool} {f : Str} {cs : List Str}
end
end DL
namespace DL
open PySem PySem.Spec L2
structure ClsAt (K : PySem.W.Frag) (mg : Str → Option Value) (c : Str) (fs : List Str) : Prop where
  ok : ∀ C, mg c = some (.ref C) → Cls K C ∧ ∀ f ∈ fs, NoAttr K C f
section
variable {K : PySem.W.Frag} {mg : Str → Option Value} {h : Heap} {c x q : Str} {st : Stmt} {ps : List Str} {C f : Addr} {oc : Value} {od an : Option Addr} {osl : Array (Option Value)} {kV doc pm cdv ct : Value}
end
noncomputable def mB (f : DSt → MS D) : DSt → MS Bool := fun δ => (f δ).b fun d => match d with
  | .bl k => MS.p k
  | _ => fun _ => none
section
variable {X : Cx} {O : List Nat} {a b : Expr} {fa fb : DSt → MS D} {pos : Pos}
end
end DL
namespace DL
open PySem PySem.Spec L2
section
variable {δ : DSt} {fa fb fc : DSt → M D} {fl : DSt → M (List D)} {g : D → D → Option D} {u : D → Option D} {k : List D → Option D} {ta tb : DSt → M Bool} {g1 g2 : DSt → M Out} {m : List D → M D} {ki : List D → Option (List D)} {fi : DSt → M (List D)} {tg : D → DSt → Option DSt}
@[simp] theorem e_var (i : Nat) : fVar i δ = M.o (δ[i]?).join := rfl
@[simp] theorem e_C (d : D) : fC d δ = M.p d := rfl
@[simp] theorem e_2 : f2 g fa fb δ = (fa δ).b fun x => (fb δ).b fun y => M.o (g x y) := rfl
@[simp] theorem e_1 : f1 u fa δ = (fa δ).b fun x => M.o (u x) := rfl
noncomputable def asB : Option D → M Bool
  | some (.bl b) => M.p b
  | _ => none
@[simp] theorem asB_bl (b : Bool) : asB (some (.bl b)) = M.p b := rfl
@[simp] theorem e_t2 : t2 g fa fb δ = (fa δ).b fun x => (fb δ).b fun y => asB (g x y) := rfl
@[simp] theorem e_nil : fNil δ = M.p [] := rfl
@[simp] theorem e_cons : fCons fa fl δ = (fa δ).b fun x => (fl δ).b fun xs => M.p (x :: xs) := rfl
@[simp] theorem e_L : fL k fl δ = (fl δ).b fun xs => M.o (k xs) := rfl
@[simp] theorem e_call : fCall m fl δ = (fl δ).b m := rfl
@[simp] theorem e_not : gNot (.bl b) = some (.bl !b) := rfl
@[simp] theorem e_tnot : tNot ta δ = (ta δ).b fun x => M.p !x := rfl
@[simp] theorem e_tand : tAnd ta tb δ = (ta δ).b fun x => if x = true then tb δ else M.p false := rfl
@[simp] theorem e_tor : tOr ta tb δ = (ta δ).b fun x => if x = true then M.p true else tb δ := rfl
@[simp] theorem e_if : fIf ta fa fb δ = (ta δ).b fun x => if x = true then fa δ else fb δ := rfl
noncomputable def andB (b : D) (r : M D) : M D := match b with
  | .bl true => r
  | .bl false => M.p (.bl false)
  | _ => none
noncomputable def orB (b : D) (r : M D) : M D := match b with
  | .bl true => M.p (.bl true)
  | .bl false => r
  | _ => none
@[simp] theorem andB_t (r : M D) : andB (.bl true) r = r := rfl
@[simp] theorem andB_f (r : M D) : andB (.bl false) r = M.p (.bl false) := rfl
@[simp] theorem orB_t (r : M D) : orB (.bl true) r = M.p (.bl true) := rfl
@[simp] theorem orB_f (r : M D) : orB (.bl false) r = r := rfl
@[simp] theorem e_and : fAnd fa fb δ = (fa δ).b fun x => andB x (fb δ) := rfl
@[simp] theorem e_or : fOr fa fb δ = (fa δ).b fun x => orB x (fb δ) := rfl
@[simp] theorem e_tru : tTru fa δ = (fa δ).b fun x => M.o (truD x) := rfl
@[simp] theorem tru_bl (b : Bool) : truD (.bl b) = some b := rfl
@[simp] theorem tru_non : truD .non = some false := rfl
@[simp] theorem e_nx : gNx δ = M.p (.nx δ) := rfl
noncomputable def seqO (g2 : DSt → M Out) : Out → M Out
  | .nx δ' => g2 δ'
  | o => M.p o
@[simp] theorem seqO_nx (δ' : DSt) : seqO g2 (.nx δ') = g2 δ' := rfl
@[simp] theorem seqO_rt (d : D) : seqO g2 (.rt d) = M.p (.rt d) := rfl
@[simp] theorem seqO_bk (δ' : DSt) : seqO g2 (.bk δ') = M.p (.bk δ') := rfl
@[simp] theorem seqO_ct (δ' : DSt) : seqO g2 (.ct δ') = M.p (.ct δ') := rfl
@[simp] theorem e_seq : gSeq g1 g2 δ = (g1 δ).b (seqO g2) := by
  show (g1 δ).b _ = _
  congr 1
@[simp] theorem e_set (i : Nat) : gSet i fa δ = (fa δ).b fun d => M.p (.nx (δ.set i (some d))) := rfl
@[simp] theorem e_ret : gRet fa δ = (fa δ).b fun d => M.p (.rt d) := rfl
@[simp] theorem e_drop : gDrop fa δ = (fa δ).b fun _ => M.p (.nx δ) := rfl
@[simp] theorem e_gif : gIf ta g1 g2 δ = (ta δ).b fun b => if b = true then g1 δ else g2 δ := rfl
@[simp] theorem e_brk : gBrk δ = M.p (.bk δ) := rfl
@[simp] theorem e_cnt : gCnt δ = M.p (.ct δ) := rfl
noncomputable def appO (i : Nat) (δ : DSt) (d : D) : Option D → M Out
  | some (.lst ds) => if ds.length < sizeLine then M.p (.nx (δ.set i (some (.lst (ds ++ [d]))))) else none
  | _ => none
theorem appO_lst {i : Nat} {δ : DSt} {d : D} {ds : List D} (h : ds.length < sizeLine) : appO i δ d (some (.lst ds)) = M.p (.nx (δ.set i (some (.lst (ds ++ [d]))))) := if_pos h
@[simp] theorem e_app (i : Nat) : gApp i fa δ = (fa δ).b fun d => appO i δ d (δ[i]?).join := rfl
@[simp] theorem e_for : gFor fi tg g1 δ = (fi δ).b fun ds => forD g1 tg ds δ := rfl
@[simp] theorem e_iargs : iArgs ki fl δ = (fl δ).b fun ds => M.o (ki ds) := rfl
@[simp] theorem e_iseq : iSeqD fa δ = (fa δ).b fun d => M.o (seqD d) := rfl
@[simp] theorem e_yes : tYes δ = M.p true := rfl
@[simp] theorem e_out_rt (d : D) : outD (.rt d) = M.p d := rfl
@[simp] theorem e_out_nx (δ : DSt) : outD (.nx δ) = M.p .non := rfl
theorem e_mir1 (N : Nat) (x0 : D) : mir 1 N g1 [x0] = (g1 (some x0 :: List.replicate (N - 1) none)).b outD := rfl
theorem e_mir2 (N : Nat) (x0 x1 : D) : mir 2 N g1 [x0, x1] = (g1 (some x0 :: some x1 :: List.replicate (N - 2) none)).b outD := rfl
theorem e_mir3 (N : Nat) (x0 x1 x2 : D) : mir 3 N g1 [x0, x1, x2] = (g1 (some x0 :: some x1 :: some x2 :: List.replicate (N - 3) none)).b outD := rfl
@[simp] theorem b_none {α β : Type} (f : α → M β) : M.b none f = none := rfl
@[simp] theorem b_assoc {α β γ : Type} (m : M α) (f : α → M β) (h : β → M γ) : (m.b f).b h = m.b fun a => (f a).b h := by
  cases m with
  | none => rfl
  | some e => cases e <;> rfl
@[simp] theorem e_comp {own : Nat} {caps : List (Str × Nat)} {tc : DSt → M Bool} : fComp own caps fi tg tc fa δ = (fi δ).b fun ds => M.o ((compD tg tc fa ds (innerD own caps δ)).bind gLstD) := rfl
end
@[simp] theorem lt_int (i j : Int) : gLt (.int i) (.int j) = some (.bl (decide (i < j))) := rfl
@[simp] theorem le_int (i j : Int) : gLe (.int i) (.int j) = some (.bl (decide (i ≤ j))) := rfl
@[simp] theorem gt_int (i j : Int) : gGt (.int i) (.int j) = some (.bl (decide (j < i))) := rfl
@[simp] theorem ge_int (i j : Int) : gGe (.int i) (.int j) = some (.bl (decide (j ≤ i))) := rfl
@[simp] theorem add_int (i j : Int) : gAdd (.int i) (.int j) = some (.int (i + j)) := rfl
@[simp] theorem sub_int (i j : Int) : gSub (.int i) (.int j) = some (.int (i - j)) := rfl
@[simp] theorem neg_int (i : Int) : gNeg (.int i) = some (.int (-i)) := rfl
theorem mod_int {i j : Int} (h : 0 < j) : gMod (.int i) (.int j) = some (.int (i % j)) := if_pos h
noncomputable def Bt (k : Nat) (i : Int) : Prop := i.natAbs < 2 ^ k
theorem Bt.mono {a b : Nat} {i : Int} (h : Bt a i) (hab : a ≤ b) : Bt b i := Nat.lt_of_lt_of_le h (Nat.pow_le_pow_right (by decide) hab)
theorem Bt.mul {a b : Nat} {i j : Int} (h : Bt a i) (k : Bt b j) : Bt (a + b) (i * j) := by
  unfold Bt at *
  rw [Int.natAbs_mul, Nat.pow_add]
  exact Nat.mul_lt_mul'' h k
theorem Bt.add {a : Nat} {i j : Int} (h : Bt a i) (k : Bt a j) : Bt (a + 1) (i + j) := by
  unfold Bt at *
  rw [Nat.pow_succ]
  omega
theorem Bt.big {k : Nat} {i : Int} (h : Bt k i) (hk : k ≤ 100000) : inBig i = true := by
  have h' := Nat.lt_of_lt_of_le h (Nat.pow_le_pow_right (by decide : 2 > 0) hk)
  rw [← BIGN_eq] at h'
  unfold inBig BIG
  rw [Bool.and_eq_true, decide_eq_true_eq, decide_eq_true_eq]
  omega
theorem mul_bt {a b : Nat} {i j : Int} (h : Bt a i) (k : Bt b j) (ha : autoParam (a ≤ 100000) zau1._auto_1) (hb : autoParam (b ≤ 100000) zau1._auto_1) : gMul (.int i) (.int j) = some (.int (i * j)) := by
  have : (inBig i && inBig j) = true := by rw [h.big ha, k.big hb]; rfl
  exact if_pos this
theorem fdiv_int {i j : Int} (h : 0 < j) (h2 : j < 2 ^ 200) : gFdiv (.int i) (.int j) = some (.int (i / j)) := by
  refine if_pos ⟨h, ?_⟩
  unfold DIVB
  have : (2 ^ 200 : Nat) ≤ 2 ^ 9000 := Nat.pow_le_pow_right (by decide) (by decide)
  rw [← DIVN_eq] at this
  omega
theorem pow_int {i : Int} {j : Int} (h : 0 ≤ j ∧ j ≤ 1000 ∧ -(2 ^ 60) < i ∧ i < 2 ^ 60) : gPow (.int i) (.int j) = some (.int (i ^ j.toNat)) := if_pos h
theorem atI_get {α : Type} {xs : List α} {j : Nat} {v : α} (h : xs[j]? = some v) : atI xs (j : Int) = some v := by
  have hj := (List.getElem?_eq_some_iff.mp h).1
  unfold atI ixN
  rw [if_pos (by omega), if_pos (by omega)]
  simpa using h
@[simp] theorem ix_t (ds : List D) (i : Int) : gIx (.tup ds) (.int i) = atI ds i := rfl
@[simp] theorem ix_l (ds : List D) (i : Int) : gIx (.lst ds) (.int i) = atI ds i := rfl
@[simp] theorem at0 {α : Type} (x : α) (xs : List α) : atI (x :: xs) 0 = some x := by
  have := atI_get (xs := x :: xs) (j := 0) (v := x) rfl
  simpa using this
@[simp] theorem at1 {α : Type} (x y : α) (xs : List α) : atI (x :: y :: xs) 1 = some y := by
  have := atI_get (xs := x :: y :: xs) (j := 1) (v := y) rfl
  simpa using this
@[simp] theorem at2 {α : Type} (x y z : α) (xs : List α) : atI (x :: y :: z :: xs) 2 = some z := by
  have := atI_get (xs := x :: y :: z :: xs) (j := 2) (v := z) rfl
  simpa using this
@[simp] theorem at3 {α : Type} (x y z w : α) (xs : List α) : atI (x :: y :: z :: w :: xs) 3 = some w := by
  have := atI_get (xs := x :: y :: z :: w :: xs) (j := 3) (v := w) rfl
  simpa using this
@[simp] theorem len_l (ds : List D) : kLen [.lst ds] = some (.int ds.length) := rfl
@[simp] theorem len_t (ds : List D) : kLen [.tup ds] = some (.int ds.length) := rfl
@[simp] theorem tuple_l (ds : List D) : kTuple [.lst ds] = some (.tup ds) := rfl
@[simp] theorem list_l (ds : List D) : kList [.lst ds] = some (.lst ds) := rfl
@[simp] theorem range1 (j : Int) : rangeArgs [.int j] = some (rangeD 0 j.toNat) := rfl
@[simp] theorem range2 (i j : Int) : rangeArgs [.int i, .int j] = some (rangeD i (j - i).toNat) := rfl
@[simp] theorem enum_l (xs : List D) : enumArgs [.lst xs] = some (enumD 0 xs) := rfl
@[simp] theorem seq_l (ds : List D) : seqD (.lst ds) = some ds := rfl
@[simp] theorem seq_t (ds : List D) : seqD (.tup ds) = some ds := rfl
@[simp] theorem kmin (i j : Int) : kMin [.int i, .int j] = some (.int (if j < i then j else i)) := rfl
@[simp] theorem kint_bl (b : Bool) : kInt [.bl b] = some (.int (if b then 1 else 0)) := rfl
@[simp] theorem tupD2 (x y : D) : gTupD [x, y] = some (.tup [x, y]) := rfl
@[simp] theorem tupD3 (x y z : D) : gTupD [x, y, z] = some (.tup [x, y, z]) := rfl
@[simp] theorem tupD4 (x y z w : D) : gTupD [x, y, z, w] = some (.tup [x, y, z, w]) := rfl
@[simp] theorem lstD0 : gLstD [] = some (.lst []) := rfl
@[simp] theorem lstD1 (x : D) : gLstD [x] = some (.lst [x]) := rfl
@[simp] theorem lstD2 (x y : D) : gLstD [x, y] = some (.lst [x, y]) := rfl
@[simp] theorem lstD3 (x y z : D) : gLstD [x, y, z] = some (.lst [x, y, z]) := rfl
theorem lstD_of {ds : List D} (h : ds.length ≤ sizeLine) : gLstD ds = some (.lst ds) := if_pos h
@[simp] theorem eq_int (i j : Int) : gEq (.int i) (.int j) = some (.bl (i == j)) := rfl
@[simp] theorem ne_int (i j : Int) : gNe (.int i) (.int j) = some (.bl !(i == j)) := rfl
@[simp] theorem eq_bl (i j : Bool) : gEq (.bl i) (.bl j) = some (.bl (i == j)) := rfl
theorem eq_same {d : D} (h1 : okD d = true) (h2 : depD d ≤ 20) : gEq d d = some (.bl true) := by
  unfold gEq
  rw [if_pos (by rw [h1, decide_eq_true h2]; rfl), eqB_refl d h1]
theorem sum_ints (ns : List Int) : kSum [.lst (ns.map .int)] = some (.int ns.sum) := by
  show (match seqD (.lst (ns.map D.int)) with | some ds => (intsD ds).map fun (ns : List Int) => D.int ns.sum | none => none) = _
  rw [seq_l]
  dsimp only
  rw [intsD_map]
  rfl
@[simp] theorem isi_int_int (i : Int) : kIsi [.int i, .ty "int"] = some (.bl true) := rfl
@[simp] theorem isi_int_bool (i : Int) : kIsi [.int i, .ty "bool"] = some (.bl false) := rfl
@[simp] theorem isi_bl_bool (i : Bool) : kIsi [.bl i, .ty "bool"] = some (.bl true) := rfl
@[simp] theorem isi_tup_tuple (i : List D) : kIsi [.tup i, .ty "tuple"] = some (.bl true) := rfl
theorem zipD_eq : ∀ (xs ys : List D), zipD xs ys = (xs.zip ys).map fun p => .tup [p.1, p.2]
  | [], _ => by simp [zipD]
  | _ :: _, [] => by simp [zipD]
  | x :: xs, y :: ys => by simp [zipD, zipD_eq xs ys]
theorem for_inv {g : DSt → M Out} {tg : D → DSt → Option DSt} (I : List D → DSt → Prop) (h : ∀ d ds δ, I (d :: ds) δ → ∃ δ1, tg d δ = some δ1 ∧ ∃ δ2, (g δ1 = some (.ok (.nx δ2)) ∨ g δ1 = some (.ok (.ct δ2))) ∧ I ds δ2) :
    ∀ (ds : List D) (δ : DSt), I ds δ → ∃ δ', forD g tg ds δ = some (.ok (.nx δ')) ∧ I [] δ'
  | [], δ, hi => ⟨δ, rfl, hi⟩
  | d :: ds, δ, hi => by
    obtain ⟨δ1, e1, δ2, e2, i2⟩ := h d ds δ hi
    obtain ⟨δ', e3, i3⟩ := for_inv I h ds δ2 i2
    refine ⟨δ', ?_, i3⟩
    unfold forD
    rw [e1]
    dsimp only
    rcases e2 with e2 | e2 <;> (rw [e2]; exact e3)
@[simp] theorem gname_ap (i : Nat) (d : D) (δ : DSt) : gName i d δ = some (δ.set i (some d)) := rfl
@[simp] theorem gtup2_ap (i j : Nat) (x y : D) (δ : DSt) : gTup2 i j (.tup [x, y]) δ = some ((δ.set i (some x)).set j (some y)) := rfl
noncomputable def getI : M D → Int
  | some (.ok (.int i)) => i
  | _ => 0
theorem getI_of {m : M D} {i : Int} (h : m = some (.ok (.int i))) : m = some (.ok (.int (getI m))) := by rw [h]; rfl
end DL
namespace DL
open PySem PySem.Spec L2
theorem for_nth {g : DSt → M Out} {tg : D → DSt → Option DSt} (ds : List D) (I : Nat → DSt → Prop)
    (h : ∀ (j : Nat) (hj : j < ds.length) (δ : DSt), I j δ → ∃ δ1, tg ds[j] δ = some δ1 ∧ ∃ δ2, (g δ1 = some (.ok (.nx δ2)) ∨ g δ1 = some (.ok (.ct δ2))) ∧ I (j + 1) δ2) (δ : DSt) (h0 : I 0 δ) :
    ∃ δ', forD g tg ds δ = some (.ok (.nx δ')) ∧ I ds.length δ' := by
  obtain ⟨δ', e, j, hd, hj, hi⟩ := for_inv (g := g) (tg := tg) (fun rem δ => ∃ j, rem = ds.drop j ∧ j ≤ ds.length ∧ I j δ) (fun d rem δ ⟨j, hr, hj, hi⟩ => by
    have hlt : j < ds.length := by
      by_cases q : j < ds.length
      · exact q
      · rw [List.drop_eq_nil_of_le (by omega)] at hr; cases hr
    rw [List.drop_eq_getElem_cons hlt] at hr
    obtain ⟨rfl, rfl⟩ := List.cons.inj hr
    obtain ⟨δ1, e1, δ2, e2, i2⟩ := h j hlt δ hi
    exact ⟨δ1, e1, δ2, e2, j + 1, rfl, hlt, i2⟩) ds δ ⟨0, rfl, Nat.zero_le _, h0⟩
  refine ⟨δ', e, ?_⟩
  have : j = ds.length := by
    have := congrArg List.length hd
    simp at this
    omega
  rw [← this]; exact hi
@[simp] theorem rangeD_len (lo : Int) (n : Nat) : (rangeD lo n).length = n := by simp [rangeD]
@[simp] theorem rangeD_get (lo : Int) (n j : Nat) (h : j < (rangeD lo n).length) : (rangeD lo n)[j] = .int (lo + j) := by simp [rangeD]
end DL
namespace DL
open PySem PySem.Spec L2
section
variable {δ : DSt} {fa fb fc : DSt → M D} {fl : DSt → M (List D)} {g : D → D → Option D} {k : List D → Option D} {ta : DSt → M Bool}
@[simp] theorem e_aug (i : Nat) : gAug i g fa δ = (M.o (δ[i]?).join).b fun x => (fa δ).b fun y => (M.o (g x y)).b fun d => M.p (.nx (δ.set i (some d))) := rfl
@[simp] theorem cat_int (i j : Int) : gCat (.int i) (.int j) = some (.int (i + j)) := rfl
theorem mulT_bt {a b : Nat} {i j : Int} (h : Bt a i) (k : Bt b j) (ha : autoParam (a ≤ 100000) zau1._auto_1) (hb : autoParam (b ≤ 100000) zau1._auto_1) : gMulT (.int i) (.int j) = some (.int (i * j)) := mul_bt h k ha hb
@[simp] theorem e_asg (h : D → DSt → Option DSt) : gAsg h fa δ = (fa δ).b fun d => match h d δ with
  | some δ' => M.p (.nx δ')
  | none => none := rfl
@[simp] theorem e_tup3 (i j l : Nat) (x y z : D) : gTup3 i j l (.tup [x, y, z]) δ = some (((δ.set i (some x)).set j (some y)).set l (some z)) := rfl
@[simp] theorem intT_bl (b : Bool) : kIntT [.bl b] = some (.int (if b then 1 else 0)) := rfl
theorem comp_map1 {c : DSt} {fe : DSt → M D} {α : Type} {K : α → D} {F : α → D} (ps : List α) (x : Option D) (h : ∀ p ∈ ps, fe (some (K p) :: c) = some (.ok (F p))) : compD (gName 0) tYes fe (ps.map K) (x :: c) = some (ps.map F) := by
  induction ps generalizing x with
  | nil => rfl
  | cons p ps ih =>
    rw [List.map_cons]
    unfold compD
    have e1 : gName 0 (K p) (x :: c) = some (some (K p) :: c) := rfl
    rw [e1]
    dsimp only [tYes, M.p]
    rw [h p List.mem_cons_self]
    dsimp only
    rw [ih (some (K p)) fun e he => h e (List.mem_cons_of_mem _ he)]
    rfl
theorem zipD_ints (as bs : List Int) : zipD (as.map .int) (bs.map .int) = (as.zip bs).map fun p => .tup [.int p.1, .int p.2] := by
  rw [zipD_eq, List.zip_map, List.map_map]; rfl
end
end DL
namespace DL
open PySem PySem.Spec L2
noncomputable def bindS {α β : Type} (r : Option (Except XD α × Sto)) (f : α → MS β) : Option (Except XD β × Sto) := match r with
  | none => none
  | some (.error x, Ω') => some (.error x, Ω')
  | some (.ok a, Ω') => f a Ω'
section
variable {α β : Type} {Ω Ω' : Sto} {δ : DSt} {fa fb fo : DSt → MS D} {fl : DSt → MS (List D)} {ta : DSt → MS Bool} {g1 g2 : DSt → MS Out} {g : D → D → Option D}
@[simp] theorem s_b (m : MS α) (f : α → MS β) : (m.b f) Ω = bindS (m Ω) f := by
  unfold MS.b bindS
  cases m Ω with
  | none => rfl
  | some p => obtain ⟨q, Ω1⟩ := p; cases q <;> rfl
@[simp] theorem s_bok (a : α) (f : α → MS β) : bindS (some (.ok a, Ω')) f = f a Ω' := rfl
@[simp] theorem s_p (a : α) : MS.p a Ω = some (.ok a, Ω) := rfl
@[simp] theorem s_lp (a : α) : MS.l (M.p a) Ω = some (.ok a, Ω) := rfl
@[simp] theorem s_lok (a : α) : MS.l (some (.ok a) : M α) Ω = some (.ok a, Ω) := rfl
@[simp] theorem s_o (a : α) : MS.o (some a) Ω = some (.ok a, Ω) := rfl
@[simp] theorem s_lF (f : DSt → M α) : lF f δ = MS.l (f δ) := rfl
@[simp] theorem s_get (cs : List Str) (f : Str) : mGet cs f fa δ = (fa δ).b fun x => getO cs f x := rfl
@[simp] theorem s_cons : mCons fa fl δ = (fa δ).b fun x => (fl δ).b fun xs => MS.p (x :: xs) := rfl
@[simp] theorem s_2 : m2 g fa fb δ = (fa δ).b fun x => (fb δ).b fun y => MS.o (g x y) := rfl
@[simp] theorem s_L (k : List D → Option D) : mL k fl δ = (fl δ).b fun xs => MS.o (k xs) := rfl
@[simp] theorem s_callP (m : List D → M D) : mCallP m fl δ = (fl δ).b fun ds => MS.l (m ds) := rfl
@[simp] theorem s_call (m : List D → MS D) : mCall m fl δ = (fl δ).b m := rfl
@[simp] theorem s_set (i : Nat) : eSet i fa δ = (fa δ).b fun d => MS.p (.nx (δ.set i (some d))) := rfl
@[simp] theorem s_ret : eRet fa δ = (fa δ).b fun d => MS.p (.rt d) := rfl
@[simp] theorem s_drop : eDrop fa δ = (fa δ).b fun _ => MS.p (.nx δ) := rfl
@[simp] theorem s_put (cs : List Str) (f : Str) : ePut cs f fo fa δ = (fa δ).b fun d => (fo δ).b fun x => (putO cs f x d).b fun _ => MS.p (.nx δ) := rfl
@[simp] theorem s_if : eIf ta g1 g2 δ = (ta δ).b fun b => if b = true then g1 δ else g2 δ := rfl
@[simp] theorem s_nx : eNx δ = MS.p (.nx δ) := rfl
@[simp] theorem s_not : mNot ta δ = (ta δ).b fun x => MS.p !x := rfl
@[simp] theorem s_tru : mTru fa δ = (fa δ).b fun x => MS.o (truD x) := rfl
noncomputable def asBS : D → MS Bool
  | .bl k => MS.p k
  | _ => fun _ => none
@[simp] theorem asBS_bl (k : Bool) : asBS (.bl k) = MS.p k := rfl
@[simp] theorem s_B : mB fa δ = (fa δ).b asBS := by
  show (fa δ).b _ = _
  congr 1
noncomputable def seqS (g2 : DSt → MS Out) : Out → MS Out
  | .nx δ' => g2 δ'
  | o => MS.p o
@[simp] theorem seqS_nx (δ' : DSt) : seqS g2 (.nx δ') = g2 δ' := rfl
@[simp] theorem seqS_rt (d : D) : seqS g2 (.rt d) = MS.p (.rt d) := rfl
@[simp] theorem s_seq : eSeq g1 g2 δ = (g1 δ).b (seqS g2) := by
  show (g1 δ).b _ = _
  congr 1
@[simp] theorem s_out_rt (d : D) : outE (.rt d) = MS.p d := rfl
@[simp] theorem s_out_nx (δ : DSt) : outE (.nx δ) = MS.p .non := rfl
theorem s_mir1 (N : Nat) (x0 : D) : mirE 1 N g1 [x0] = (g1 (some x0 :: List.replicate (N - 1) none)).b outE := rfl
theorem s_mir2 (N : Nat) (x0 x1 : D) : mirE 2 N g1 [x0, x1] = (g1 (some x0 :: some x1 :: List.replicate (N - 2) none)).b outE := rfl
@[simp] theorem s_meth (c x : Str) (m : List D → MS D) : mMeth c x m fo fl δ = (fo δ).b fun o => match o with
  | .obj i => methO c x m i fl δ
  | _ => fun _ => none := rfl
@[simp] theorem s_make (c : Str) (m : List D → MS D) : mMake c m fl δ = (fl δ).b fun ds => makeO c m ds := rfl
@[simp] theorem s_for (fi : DSt → MS (List D)) (tg : D → DSt → Option DSt) : eFor fi tg g1 δ = (fi δ).b fun ds => forE g1 tg ds δ := rfl
end
end DL
namespace DL
open PySem PySem.Spec L2
section
variable {X : Cx} {O : List Nat} {E : XK} {b : Expr} {fb : DSt → M D} {pos : Pos}
theorem de_ixO (i : Nat) {x : Str} {p : Pos} (ho : O.contains i = true) (hb : DE X O E b fb) (hN : autoParam (X.N[i]? = some x) zau2._auto_1) (hv : autoParam (Vis X.env.scope x) zau5._auto_1)
    (hd : autoParam ((x == ("__debug__" : Str)) = false) zau1._auto_1) (hcd : autoParam ((x == ("__classdict__" : Str)) = false) zau1._auto_1) (hs : autoParam (PlainIx b) zau6._auto_1) : DE X O E (.Subscript (.Name x p) b pos) (f2 gIx (fVar i) fb) := by
  rintro pins s σ H Q I ⟨ρ, H₀, F, δ, r, R, hf, k⟩
  have ho' : i ∈ O := List.contains_iff_mem.mp ho
  obtain ⟨l, xs, ds, q1, q2, q3, q4, q5⟩ := R.own i ho'
  refine pe_ix ix_seq (pe_var hN hv hd hcd) hb hs pins s σ H Q I ⟨.ref l, q2, ?_⟩
  have e0 : fVar i δ = some (.ok (.lst ds)) := by unfold fVar; rw [q1]; rfl
  rcases M.b_inv hf with ⟨x, e1, hf⟩ | ⟨x, e1, rfl⟩
  · rw [e0] at e1
    cases e1
    rcases M.b_inv hf with ⟨y, e2, hf⟩ | ⟨y, e2, rfl⟩
    · refine ⟨ρ, H₀, F, δ, .ok y, R, e2, fun v H2 s2 r2 => ?_⟩
      obtain ⟨d, hd, rfl⟩ := M.o_inv hf
      unfold gIx at hd
      split at hd
      · rename_i z; cases z
        obtain ⟨w, e, r⟩ := reps_ix q5 hd
        exact .inl ⟨l, xs, _, w, rfl, rep_int.mp r2, SqL.of (s2 _ _ q3), e, k w H2 s2 (r.mono (same_hid s2))⟩
      · rename_i z; cases z
      · rename_i z; cases z
      · cases hd
    · exact ⟨ρ, H₀, F, δ, .error y, R, e2, k⟩
  · rw [e0] at e1; cases e1
end
end DL
namespace DL
open PySem PySem.Spec L2
theorem q_inner (own : Nat) (caps : List (Str × Nat)) (δ : DSt) : innerD own caps δ = List.replicate own none ++ caps.map fun p => (δ[p.2]?).join := rfl
theorem zip_tt (xs ys : List D) : zipArgs [.tup xs, .tup ys] = some (zipD xs ys) := rfl
theorem zip_tl (xs ys : List D) : zipArgs [.tup xs, .lst ys] = some (zipD xs ys) := rfl
theorem zip_lt (xs ys : List D) : zipArgs [.lst xs, .tup ys] = some (zipD xs ys) := rfl
theorem zip_ll (xs ys : List D) : zipArgs [.lst xs, .lst ys] = some (zipD xs ys) := rfl
theorem ne_bl (i j : Bool) : gNe (.bl i) (.bl j) = some (.bl !(i == j)) := rfl
theorem okDs_map {α : Type} {f : α → D} : ∀ {xs : List α}, (∀ x ∈ xs, okD (f x) = true) → okDs (xs.map f) = true
  | [], _ => by rw [List.map_nil]; unfold okDs; rfl
  | x :: xs, h => by rw [List.map_cons]; unfold okDs; rw [h x List.mem_cons_self, okDs_map fun y hy => h y (List.mem_cons_of_mem _ hy)]; rfl
theorem depDs_map {α : Type} {f : α → D} {k : Nat} : ∀ {xs : List α}, (∀ x ∈ xs, depD (f x) ≤ k) → depDs (xs.map f) ≤ k
  | [], _ => by rw [List.map_nil]; unfold depDs; omega
  | x :: xs, h => by
    rw [List.map_cons]; unfold depDs
    have h1 := h x List.mem_cons_self
    have h2 := depDs_map (f := f) (k := k) (xs := xs) fun y hy => h y (List.mem_cons_of_mem _ hy)
    omega
theorem w_seq {g1 g2 : DSt → M Out} {δ δ' : DSt} (h : g1 δ = some (.ok (.nx δ'))) : gSeq g1 g2 δ = g2 δ' := by rw [e_seq, h, M.b_ok, seqO_nx]
theorem w_if {t : DSt → M Bool} {g1 g2 : DSt → M Out} {δ : DSt} {b : Bool} (h : t δ = some (.ok b)) : gIf t g1 g2 δ = if b = true then g1 δ else g2 δ := by rw [e_gif, h, M.b_ok]
theorem w_skip {t : DSt → M Bool} {g1 g2 : DSt → M Out} {δ : DSt} (h : t δ = some (.ok false)) : gSeq (gIf t g1 gNx) g2 δ = g2 δ := w_seq (by rw [w_if h, if_neg (by decide)]; rfl)
theorem w_skip1 {t : DSt → M Bool} {g1 : DSt → M Out} {δ : DSt} (h : t δ = some (.ok false)) : gIf t g1 gNx δ = some (.ok (.nx δ)) := by rw [w_if h, if_neg (by decide)]; rfl
theorem w_take {t : DSt → M Bool} {fa : DSt → M D} {g2 : DSt → M Out} {δ : DSt} {d : D} (h : t δ = some (.ok true)) (hd : fa δ = some (.ok d)) : gSeq (gIf t (gRet fa) gNx) g2 δ = some (.ok (.rt d)) := by
  rw [e_seq, w_if h, if_pos rfl, e_ret, hd, M.b_ok]
  rfl
theorem w_ret {fa : DSt → M D} {δ : DSt} {d : D} (hd : fa δ = some (.ok d)) : gRet fa δ = some (.ok (.rt d)) := by rw [e_ret, hd, M.b_ok]; rfl
theorem w_for {fi : DSt → M (List D)} {tg : D → DSt → Option DSt} {g : DSt → M Out} {δ : DSt} {ds : List D} (h : fi δ = some (.ok ds)) : gFor fi tg g δ = forD g tg ds δ := by rw [e_for, h, M.b_ok]
theorem w_app {fa : DSt → M D} {δ : DSt} {d : D} {ds : List D} (i : Nat) (hd : fa δ = some (.ok d)) (hi : δ[i]? = some (some (.lst ds))) (hl : ds.length ≤ 100000) : gApp i fa δ = some (.ok (.nx (δ.set i (some (.lst (ds ++ [d])))))) := by
  rw [e_app, hd, M.b_ok, hi]
  exact appO_lst (by have := sizeLine_eq; omega)
theorem for_cons {g : DSt → M Out} {tg : D → DSt → Option DSt} {d : D} {ds : List D} {δ δ1 δ2 : DSt} (h1 : tg d δ = some δ1) (h2 : g δ1 = some (.ok (.nx δ2))) : forD g tg (d :: ds) δ = forD g tg ds δ2 := by
  conv => lhs; unfold forD
  rw [h1]; dsimp only; rw [h2]; rfl
theorem lst_le {ds : List D} (h : ds.length ≤ 1000) : gLstD ds = some (.lst ds) := lstD_of (Nat.le_trans h (by decide))
noncomputable def stp := And.intro (@if_true.{1}) <| And.intro (@if_false.{1}) <| And.intro (@Bool.false_eq_true) <| And.intro (@e_seq) <| And.intro (@e_set) <| And.intro (@e_2) <| And.intro (@e_1) <| And.intro (@e_t2) <| And.intro (@e_ret) <| And.intro (@e_gif) <| And.intro (@e_for) <| And.intro (@e_iargs) <| And.intro (@e_iseq) <| And.intro (@e_comp) <| And.intro (@e_call) <| And.intro (@e_cons) <| And.intro (@e_var) <| And.intro (@e_nil) <| And.intro (@e_C) <| And.intro (@e_L) <| And.intro (@e_if) <| And.intro (@e_tru) <| And.intro (@e_tand) <| And.intro (@e_tor) <| And.intro (@e_tnot) <| And.intro (@e_not) <| And.intro (@e_nx) <| And.intro (@e_aug) <| And.intro (@e_app) <| And.intro (@e_and) <| And.intro (@e_or) <| And.intro (@M.o_some) <| And.intro (@M.b_p) <| And.intro (@M.b_ok) <| And.intro (@b_assoc) <| And.intro (@seqO_nx) <| And.intro (@seqO_rt) <| And.intro (@e_out_rt) <| And.intro (@ix_t) <| And.intro (@ix_l) <| And.intro (@at0) <| And.intro (@at1) <| And.intro (@at2) <| And.intro (@at3) <| And.intro (@seq_l) <| And.intro (@seq_t) <| And.intro (@tuple_l) <| And.intro (@list_l) <| And.intro (@len_l) <| And.intro (@len_t) <| And.intro (@tupD2) <| And.intro (@tupD3) <| And.intro (@lstD0) <| And.intro (@lstD1) <| And.intro (@lstD2) <| And.intro (@lstD3) <| And.intro (@cat_int) <| And.intro (@sub_int) <| And.intro (@neg_int) <| And.intro (@eq_int) <| And.intro (@ne_int) <| And.intro (@ne_bl) <| And.intro (@lt_int) <| And.intro (@le_int) <| And.intro (@gt_int) <| And.intro (@ge_int) <| And.intro (@asB_bl) <| And.intro (@tru_bl) <| And.intro (@range1) <| And.intro (@range2) <| And.intro (@Int.toNat_natCast) <| And.intro (@zipD_ints) <| And.intro (@q_inner) <| And.intro (@zip_tt) <| And.intro (@zip_tl) <| And.intro (@zip_lt) <| And.intro (@zip_ll) <| And.intro (@isi_int_int) <| And.intro (@isi_int_bool) <| And.intro (@isi_bl_bool) <| And.intro (@intT_bl) <| And.intro (@List.replicate_succ.{0}) <| And.intro (@List.replicate_zero.{0}) <| And.intro (@List.set_cons_succ.{0}) <| And.intro (@List.set_cons_zero.{0}) <| And.intro (@List.getElem?_cons_zero.{0}) <| And.intro (@List.getElem?_cons_succ.{0}) <| And.intro (@Option.join_some.{0}) <| And.intro (@List.map_nil.{0, 0}) <| And.intro (@List.map_cons.{0, 0}) <| And.intro (@List.append_nil.{0}) <| And.intro (@List.cons_append.{0}) <| And.intro (@List.nil_append.{0}) <| And.intro (@Option.bind_some.{0, 0}) <| True.intro
end DL
namespace L2
open PySem PySem.Spec PyProof.Rows
section
variable {prog : Program} {w : World} {A : Around} {E : Value → Shared → Prop} {s : Shared} {I : Addr} {fp wr : List Addr} {G : Array GenState → Array GenState → Prop} {n : Nat} {P : Nat → Value → Prop} {St : Nat → Shared → Prop}
end
end L2
namespace DL
open PySem PySem.Spec L2
section
variable {X : Cx} {O : List Nat} {E : XK} {e o : Expr} {fo fe : DSt → M D} {pos p : Pos}
end
end DL
namespace L2
open PySem PySem.Spec PyProof.Rows
section
variable {X : Cx}
theorem comp_core {elt tg iter : Expr} {ifs : List Expr} {scope : Scope} {pos p0 : Pos} {own : List Str} {caps : List (Str × Nat)} {wi : TI} {g : TG} {tc : TT} {te : TE} {use : Option (Value → Sem Unit)} {QS : Value → Shared → Prop} (hc : X.calm = true) (ck : CapsOk X scope caps)
    (hi : PI X tg iter wi) (hg : ∀ C s0 H0 ex, PG (compCx X scope (own ++ caps.map (·.1)) C s0 H0 ex) tg g) (ht : ∀ C s0 H0 ex, PC0 (compCx X scope (own ++ caps.map (·.1)) C s0 H0 ex) ifs tc)
    (he : ∀ C s0 H0 ex, PE (compCx X scope (own ++ caps.map (·.1)) C s0 H0 ex) elt te) (hs : ∀ x, foldedSetIterable iter X.env x = pure x)
    {pins : List (Addr × Obj)} {s : Shared} {σ : St} {H : Hp} {Q : VK} (I : Inv X pins σ H s) (h : tComp own.length caps wi g tc te σ H Q)
    (fin : ∀ D H5 C s6 r, Inv X pins σ H5 s6 → FpOk X pins H5 C → (∃ m, s6.heap.Ns C m) → Q (.ref D) H5 → compPost (model X.prog X.w) X.A X.xe use QS (.ref D) C (.ok r) s6) :
    wpAny (model X.prog X.w) X.A (comprehension (.ListComp elt [⟨tg, iter, ifs, 0⟩] scope pos) scope X.env p0 (newList []) false (eval iter X.env) use) QS X.xe s := by
  have hcl : closureFor scope X.env = pure (clOf X.env.cells scope.names []) := closure_eq fun p hp hf => I.ok.has p.1 (ck.fre p hp hf)
  refine wpAny_comprehension_free rfl hs hcl ck.kind ck.loc (thn (hi pins s σ H _ I h) fun v s1 h1 => thn h1 fun itv s2 h2 => ?_)
  obtain ⟨it, fp, tn, J, H2, e, I2, T, st2, f2, hw⟩ := h2
  subst e
  obtain ⟨W, ⟨m0, w0⟩, turn⟩ := hw s2.heap.objs.size (I2.hok.fresh (Nat.le_refl _))
  refine wpAny_newObj_type ?_
  have hD := I2.hok.fresh (Nat.le_refl s2.heap.objs.size)
  have I3 : Inv X pins σ (upd H2 s2.heap.objs.size (.lst [])) { s2 with heap := s2.heap.push { cls := .type "list", data := .seq ([] : List Value).toArray } } :=
    I2.laid (t' := s2.toks) (fun b u e => Heap.get?_push_of_some _ e) (Nat.le_refl _) ⟨Nat.zero_le _, [], 0, .nil, Heap.get?_push_size _ rfl⟩
  have hlt : ∀ b ∈ fp, b < s2.heap.objs.size := fun b hb => by obtain ⟨o, e, _⟩ := T.obj _ _ st2 b hb; exact Heap.lt_size e
  have f3 : ∀ b ∈ fp, FpOk X pins (upd H2 s2.heap.objs.size (.lst [])) b := fun b hb => ⟨by rw [upd_ne (Nat.ne_of_lt (hlt b hb))]; exact (f2 b hb).1, (f2 b hb).2⟩
  have hlt3 : ∀ b ∈ fp, b < (s2.heap.push { cls := .type "list", data := .seq ([] : List Value).toArray }).objs.size := fun b hb => by rw [Heap.size_push]; exact Nat.lt_succ_of_lt (hlt b hb)
  refine wpAny_newFunctionEnv ck.nocell (by intro y hy; simp at hy) (fun h' hns hsb => ?_) ck.kind
  generalize hS3 : ({ s2 with heap := s2.heap.push { cls := .type "list", data := .seq ([] : List Value).toArray } } : Shared) = S3 at I3 hns hsb ⊢
  have hlt3' : ∀ b ∈ fp, b < S3.heap.objs.size := by rw [← hS3]; exact hlt3
  have I4 := inv_comp (own := own) (t' := S3.toks + ([] : List (Str × Value)).length) I3 ck f3 hlt3' hns hsb
  have st4 : tn 0 h' := T.keep _ _ _ st2 fun b hb o e => hsb.extBut b o (Nat.ne_of_lt (hlt3' b hb)) (Heap.get?_push_of_some _ (by rw [← hS3]; exact Heap.get?_push_of_some _ e))
  have hsz : s2.heap.objs.size < S3.heap.objs.size := by rw [← hS3]; show _ < (Heap.push _ _).objs.size; rw [Heap.size_push]; exact Nat.lt_succ_self _
  generalize hCC : S3.heap.objs.size = C at I4 hsb hns hsz
  have loop : codeAny (model X.prog X.w) X.A (.compLoop (.ListComp elt [⟨tg, iter, ifs, 0⟩] scope pos) 0 (.ref it) (.ref s2.heap.objs.size) (compEnvC scope (clOf X.env.cells scope.names []) C X.env))
      (compPost (model X.prog X.w) X.A X.xe use QS (.ref s2.heap.objs.size) C) { S3 with heap := h', toks := S3.toks + ([] : List (Str × Value)).length } := by
    have xf : ∀ {H' : Hp}, (∀ b ∈ fp, H' b = none) → ∀ b ∈ fp, FpOk (compCx X scope (own ++ caps.map (·.1)) C S3 (upd H2 s2.heap.objs.size (.lst [])) fp) [] H' b := fun hn b hb => by
      refine ⟨hn b hb, ?_, ?_, .inl hb, fun x c e => (I4.ok.exf b hb).2 x c e, fun p hp => absurd (show p ∈ ([] : List (Addr × Obj)) from hp) (by simp)⟩
      · exact (I4.ok.exf b hb).1
      · exact I4.ok.exfs b hb
    refine compLoop_any (fun n s' => ∃ i σ' H', Inv (compCx X scope (own ++ caps.map (·.1)) C S3 (upd H2 s2.heap.objs.size (.lst [])) fp) [] σ' H' s' ∧ tn i s'.heap ∧ (∀ b ∈ fp, H' b = none) ∧ W i n σ' H') ?_ m0
      ⟨0, _, _, I4, st4, fun b hb => (f3 b hb).1, w0⟩
    rintro n s5 ⟨i, σ5, H5, I5, st5, fr5, w5⟩
    rcases turn i n σ5 H5 w5 with ⟨stop, qn⟩ | ⟨go, N, hN, step⟩
    · refine thn (T.done (compCx X scope (own ++ caps.map (·.1)) C S3 (upd H2 s2.heap.objs.size (.lst [])) fp) rfl rfl rfl hc i [] s5 σ5 H5 NoX I5 (xf fr5) st5 stop) fun r s6 hzz => ?_
      obtain ⟨hr, I6⟩ := hzz
      subst hr
      obtain ⟨m6, n6, _⟩ := id I6.loc
      have C3 : S3.heap.objs.size ≤ C := Nat.le_of_eq hCC
      have I7 : Inv X pins σ H5 s6 := I3.call' (s' := s6) (ch := fp) I6.os (un_but I6.base C3 (Heap.SameBut.refl _ _)) I6.hok I6.bare fun b hb => by
        obtain ⟨_, q1, _, q3, q4, q5⟩ := f3 b hb
        exact ⟨q3, q1, q4, q5⟩
      exact fin _ _ _ _ _ I7 (I3.fpOk C3 I6.free) ⟨m6, n6⟩ qn
    · refine thn (T.item (compCx X scope (own ++ caps.map (·.1)) C S3 (upd H2 s2.heap.objs.size (.lst [])) fp) rfl rfl rfl hc i [] s5 σ5 H5 NoX I5 (xf fr5) st5 go) fun r s6 hzz => ?_
      obtain ⟨u, hr, h6⟩ := hzz
      subst hr
      refine thn h6 fun _ s7 hzz => ?_
      obtain ⟨x, H7, I7, r7, y7, st7, fr7⟩ := hzz
      have I7' := I7.pinned (xf fr7) (T.obj _ _ st7)
      refine thn (hg _ _ _ _ _ s7 σ5 H7 x u _ I7' r7 (step x H7 y7)) fun _ s8 hzz => ?_
      obtain ⟨σ8, H8, I8, q8⟩ := hzz
      refine thn (ht _ _ _ _ _ s8 σ8 H8 _ I8 q8) fun ok s9 hzz => ?_
      obtain ⟨H9, I9, q9⟩ := hzz
      have again : ∀ {s' : Shared} {σ' : St} {H' : Hp}, Inv (compCx X scope (own ++ caps.map (·.1)) C S3 (upd H2 s2.heap.objs.size (.lst [])) fp) ([] ++ pinsAt fp s7.heap) σ' H' s' → N σ' H' → ∃ m, m < n ∧ ∃ i σ' H', Inv (compCx X scope (own ++ caps.map (·.1)) C S3 (upd H2 s2.heap.objs.size (.lst [])) fp) [] σ' H' s' ∧ tn i s'.heap ∧ (∀ b ∈ fp, H' b = none) ∧ W i m σ' H' := fun {s' σ' H'} Ia na => by
        obtain ⟨m', hm, wa⟩ := hN σ' H' na
        refine ⟨m', hm, i + 1, σ', H', Ia.unpinned, T.keep _ _ _ st7 fun b hb o e => (Ia.pin (b, o) (List.mem_append_right _ (List.mem_append_right _ (mem_pinsAt hb e)))).1, fun b hb => ?_, wa⟩
        obtain ⟨o, e, d⟩ := T.obj _ _ st7 b hb
        exact (Ia.pin (b, o) (List.mem_append_right _ (List.mem_append_right _ (mem_pinsAt hb e)))).2.1
      cases ok with
      | false =>
        rw [if_neg (by decide)] at q9 ⊢
        exact again I9 q9
      | true =>
        rw [if_pos rfl] at q9 ⊢
        refine thn (he _ _ _ _ _ s9 σ8 H9 _ I9 q9) fun y s10 hzz => ?_
        obtain ⟨vy, H10, I10, r10, ys, hys, hlen, q10⟩ := hzz
        refine thn (mt_append _ s10 σ8 H10 (.ref s2.heap.objs.size) [vy] (.ref s2.heap.objs.size) [y] (fun _ H' => N σ8 H') I10 rfl (.cons r10 .nil) ⟨_, ys, vy, rfl, rfl, hys, hlen, q10⟩) fun _ s11 hzz => ?_
        obtain ⟨_, H11, I11, _, q11⟩ := hzz
        exact again I11 q11
  exact codeAny_compStart_list loop (T.self _ 0 _ _ _ st4 loop)
theorem ps_setC {elt tg iter : Expr} {ifs : List Expr} {scope : Scope} {pos pos' cpos : Pos} {own : List Str} {caps : List (Str × Nat)} {wi : TI} {g : TG} {tc : TT} {te : TE} {i : Nat} {x : Str} (hc : X.calm = true) (ck : CapsOk X scope caps)
    (hi : PI X tg iter wi) (hg : ∀ C s0 H0 ex, PG (compCx X scope (own ++ caps.map (·.1)) C s0 H0 ex) tg g) (ht : ∀ C s0 H0 ex, PC0 (compCx X scope (own ++ caps.map (·.1)) C s0 H0 ex) ifs tc)
    (he : ∀ C s0 H0 ex, PE (compCx X scope (own ++ caps.map (·.1)) C s0 H0 ex) elt te) (hN : X.N.Nodup) (hix : X.N[i]? = some x) (hx : Loc X.env.scope x) (hsw : swapsWith (.ListComp elt [⟨tg, iter, ifs, 0⟩] scope cpos) (some (.Name x pos')) pos.line X.env = pure true)
    (hf : X.fn x = true ∨ X.env.scope.names.lookup x = some .local) (hs : ∀ x, foldedSetIterable iter X.env x = pure x) :
    PS X (.Assign [.Name x pos'] (.ListComp elt [⟨tg, iter, ifs, 0⟩] scope cpos) pos) (fun Dn σ H => tComp own.length caps wi g tc te σ H fun v H' => Dn.nx (σ.set i (some v)) H') := by
  intro pins s σ H Dn I h; rw [exec_Assign_Name_used _ _ _ _ hsw]; refine wpAny_bind (wpAny_standAt (wpAny_bind ?_))
  show wpAny _ X.A (do let _ ← comprehension (.ListComp elt [⟨tg, iter, ifs, 0⟩] scope cpos) scope X.env _ (newList []) false (eval iter X.env) (some (assign (.Name x pos') X.env))) _ _ s
  refine wpAny_bind (thn (comp_core (use := some (assign (.Name x pos') X.env)) (QS := fun _ s' => SP X pins Dn .next s') hc ck hi hg ht he hs I h ?_) fun _ s' hq => wpAny_pure (wpAny_pure hq))
  intro D H5 C s6 r I6 fc ⟨m6, n6⟩ qn
  obtain ⟨f1, f2, f3, f4, f5, f6⟩ := fc
  show wpAny (model X.prog X.w) X.A (assign (.Name x pos') X.env (.ref D)) (fun _ s'' => ∃ m, s''.heap.Ns C m ∧ ∀ h', Heap.SameBut C s''.heap h' → SP X pins Dn .next { s'' with heap := h' }) X.xe s6
  refine wpAny_assign_Name (store_ok2 I6 hN hix hx (v := .ref D) rfl (fun s7 I7 hzz => ?_) hf)
  obtain ⟨a, sba, ha⟩ := hzz
  have hCa : C ≠ a := by
    rcases ha with ha | ha
    · rw [ha]; exact f2
    · exact fun z => f5 x a ha z.symm
  refine ⟨m6, n6.sameBut sba hCa, fun h8 sb8 => ⟨_, H5, I7.turned (fun b o hb e => (sb8.2 b hb).trans e) f1 f2 f4 f5 f6, qn⟩⟩
end
end L2
namespace DL
open PySem PySem.Spec L2
theorem comp_in {K : PySem.W.Frag} {O : List Nat} {E : XK} {own : Nat} {caps : List (Str × Nat)} {fi : DSt → M (List D)} {h : D → DSt → Option DSt} {tc : DSt → M Bool} {fe : DSt → M D} {σ : St} {H : Hp} {Q : VK} (hcf : capsFree O caps = true)
    (hh : tD K O E (fComp own caps fi h tc fe) σ H Q) : tComp own caps (tI K O E fi) (tG K [] h) (tB K [] E0 tc) (tD K [] E0 fe) σ H Q := by
  obtain ⟨ρ, H₀, F, δ, r, R, hf, k⟩ := hh
  rcases M.b_inv hf with ⟨ds, e1, hf⟩ | ⟨y, e1, rfl⟩
  · refine ⟨ρ, H₀, F, δ, .ok ds, R, e1, fun J H1 s1 it Dd hD => ?_⟩
    obtain ⟨dd, hd, rfl⟩ := M.o_inv hf
    cases hcd : compD h tc fe ds (innerD own caps δ) with
    | none => rw [hcd] at hd; cases hd
    | some tot =>
      rw [hcd] at hd
      have hd' : gLstD tot = some dd := hd
      unfold gLstD at hd'
      split at hd'
      · rename_i hz
        cases hd'
        have R1 := R.mono s1
        have pf := R1.fresh hD
        let F' : Addr → Bool := fun b => fob F σ O b || b == Dd
        have F't : ∀ b, F' b = true ↔ fob F σ O b = true ∨ b = Dd := fun b => by show (_ || _) = true ↔ _; rw [Bool.or_eq_true, beq_iff_eq]
        have vis : ∀ {H2 : Hp}, Same H1 H2 → Same (hid H1 (fob F σ O)) (hid H2 F') := fun {H2} e b o q => by
          obtain ⟨q1, q2⟩ := hid_some.mp q
          refine hid_some.mpr ⟨?_, e b o q2⟩
          cases z : F' b with
          | false => rfl
          | true =>
            rcases (F't b).mp z with z | z
            · rw [q1] at z; cases z
            · rw [z, hD] at q2; cases q2
        have R0 : RS ρ K H1 (upd H1 Dd (.lst [])) F' [] (innerSt own caps σ) (innerD own caps δ) := by
          refine ⟨by simp [innerSt, innerD], same_upd hD, fun b hb => ?_, fun i d hd _ => ?_, fun i hi => absurd hi (by simp), fun i hi => absurd hi (by simp)⟩
          · rcases (F't b).mp hb with z | z
            · refine upd_nn fun q => ?_
              rw [R1.fresh q] at z; cases z
            · rw [z, upd_same]; exact fun q => nomatch q
          · obtain ⟨p, p1, p2, p3⟩ := innerD_get hd
            have hO : p.2 ∉ O := fun z => by
              have := List.all_eq_true.mp hcf p (List.mem_of_getElem? p1)
              rw [List.contains_iff_mem.mpr z] at this; cases this
            obtain ⟨v, q1, q2⟩ := R1.val p.2 d p3 hO
            exact ⟨v, inner_set p1 p2 q1, by rw [fob_nil]; exact q2.mono (vis (same_upd hD))⟩
        refine ⟨fun i m σ' H' => m = ds.length - i ∧ i ≤ ds.length ∧ ∃ δ' done zs rest, RS ρ K H1 H' F' [] σ' δ' ∧ H' Dd = some (.lst zs) ∧ Reps ρ K (hid H' F') done zs ∧ compD h tc fe (ds.drop i) δ' = some rest ∧ done ++ rest = tot,
          ⟨ds.length, by simp, Nat.zero_le _, _, [], [], tot, R0, upd_same, Reps.nil, hcd, rfl⟩, ?_⟩
        rintro i m σ' H' ⟨rfl, hil, δ', done, zs, rest, R', hDd, rz, hr, htot⟩
        have fv : Same (hid H1 (fob F σ O)) (hid H' (fob F' σ' [])) := by rw [fob_nil]; exact vis R'.same
        obtain ⟨j1, j2⟩ := it H' (fob F' σ' []) i fv fun p hp => R'.fresh hp
        by_cases hlt : i < ds.length
        · obtain ⟨go, yld⟩ := j1 hlt
          refine .inr ⟨go, fun σ2 H2 => ∃ δ2 done zs rest, RS ρ K H1 H2 F' [] σ2 δ2 ∧ H2 Dd = some (.lst zs) ∧ Reps ρ K (hid H2 F') done zs ∧ compD h tc fe (ds.drop (i + 1)) δ2 = some rest ∧ done ++ rest = tot,
            fun σ2 H2 q => ⟨ds.length - (i + 1), by omega, rfl, hlt, q⟩, fun x H2 y => ?_⟩
          obtain ⟨s2, d, hd, rd⟩ := yld x H2 y
          have hdr : ds.drop i = d :: ds.drop (i + 1) := by
            rw [List.drop_eq_getElem_cons hlt]
            have : ds[i] = d := by rw [List.getElem?_eq_getElem hlt] at hd; exact Option.some.inj hd
            rw [this]
          rw [hdr] at hr
          unfold compD at hr
          cases e2 : h d δ' with
          | none => rw [e2] at hr; cases hr
          | some δ1 =>
            rw [e2] at hr
            dsimp only at hr
            refine ⟨ρ, H1, F', δ', d, δ1, R'.mono s2, rd, e2, fun σ3 ef R3 => ?_⟩
            have keepD : ∀ {H5 : Hp}, Same H2 H5 → H5 Dd = some (.lst zs) ∧ Reps ρ K (hid H5 F') done zs := fun {H5} e => ⟨e _ _ (s2 _ _ hDd), rz.mono (same_hid (s2.trans e))⟩
            split at hr
            · rename_i e3
              refine ⟨ρ, H1, F', δ1, .ok true, R3, e3, fun H4 s4 => iteT ?_⟩
              split at hr
              · rename_i yv e4
                refine ⟨ρ, H1, F', δ1, .ok yv, R3.mono s4, e4, fun v H5 s5 r5 => ?_⟩
                rw [fob_nil] at r5
                obtain ⟨k1, k2⟩ := keepD (s4.trans s5)
                cases e5 : compD h tc fe (ds.drop (i + 1)) δ1 with
                | none => rw [e5] at hr; cases hr
                | some rest' =>
                  rw [e5] at hr
                  have hr' : yv :: rest' = rest := Option.some.inj hr
                  have hFD : F' Dd = true := (F't Dd).mpr (.inr rfl)
                  have hh : hid (upd H5 Dd (.lst (zs ++ [v]))) F' = hid H5 F' := hid_upd hFD
                  refine ⟨zs, k1, ?_, δ1, done ++ [yv], zs ++ [v], rest', ?_, upd_same, ?_, e5, by rw [List.append_assoc, ← htot, ← hr']; rfl⟩
                  · have l1 := k2.length
                    have l2 := congrArg List.length htot
                    rw [List.length_append, ← hr', List.length_cons] at l2
                    omega
                  · have R5 := R3.mono (s4.trans s5)
                    refine ⟨R5.len, same_upd0 R5.same hD, fun b hb => upd_nn (R5.fin b hb), fun j d' hj hO => ?_, fun j hj => absurd hj (by simp), fun j hj => absurd hj (by simp)⟩
                    obtain ⟨v', w1, w2⟩ := R5.val j d' hj hO
                    refine ⟨v', w1, ?_⟩
                    rw [fob_nil] at w2 ⊢
                    rw [hh]; exact w2
                  · rw [hh]
                    exact k2.append (Reps.cons r5 Reps.nil)
              · cases hr
            · rename_i e3
              refine ⟨ρ, H1, F', δ1, .ok false, R3, e3, fun H4 s4 => iteF ?_⟩
              obtain ⟨k1, k2⟩ := keepD s4
              exact ⟨δ1, done, zs, rest, R3.mono s4, k1, k2, hr, htot⟩
            · cases hr
        · have ei : i = ds.length := by omega
          subst ei
          rw [List.drop_length] at hr
          cases hr
          rw [List.append_nil] at htot
          subst htot
          refine .inl ⟨j2 rfl, k _ H' (s1.trans R'.same) ?_⟩
          exact rep_lst.mpr ⟨Dd, zs, rfl, SqL.of (hid_some.mpr ⟨pf, hDd⟩), rz.mono (hid_le fun b q => (F't b).mpr (.inl q))⟩
      · cases hd'
  · exact ⟨ρ, H₀, F, δ, .error y, R, e1, k⟩
section
variable {X : Cx} {O B : List Nat} {E : XK} {elt tg iter : Expr} {pos : Pos}
theorem ds_setC {i : Nat} {x : Str} {pos' cpos : Pos} {ifs : List Expr} {scope : Scope} {own : List Str} {caps : List (Str × Nat)} {fi : DSt → M (List D)} {h : D → DSt → Option DSt} {tc : DSt → M Bool} {fe : DSt → M D} (hN : X.N.Nodup) (hc : X.calm = true) (ck : CapsOk X scope caps) (hi : DI X O E tg iter fi)
    (hg : ∀ C s0 H0 ex, DG (compCx X scope (own ++ caps.map (·.1)) C s0 H0 ex) [] tg h) (ht : ∀ C s0 H0 ex, DC (compCx X scope (own ++ caps.map (·.1)) C s0 H0 ex) [] E0 ifs tc)
    (he : ∀ C s0 H0 ex, DE (compCx X scope (own ++ caps.map (·.1)) C s0 H0 ex) [] E0 elt fe) (ho : autoParam (O.contains i = false) zau2._auto_1) (hix : autoParam (X.N[i]? = some x) zau2._auto_1) (hx : autoParam (Loc X.env.scope x) zau8._auto_1)
    (hsw : autoParam (swapsWith (.ListComp elt [⟨tg, iter, ifs, 0⟩] scope cpos) (some (.Name x pos')) pos.line X.env = pure true) zau2._auto_1)
    (hf : autoParam (X.fn x = true ∨ X.env.scope.names.lookup x = some .local) zau0._auto_1) (hcf : autoParam (capsFree O caps = true) zau2._auto_1) (hs : autoParam (∀ x, foldedSetIterable iter X.env x = pure x) zau4._auto_1) :
    DS X O O B E (.Assign [.Name x pos'] (.ListComp elt [⟨tg, iter, ifs, 0⟩] scope cpos) pos) (gSet i (fComp own.length caps fi h tc fe)) := by
  rintro pins s σ H Dn I ⟨ρ, H₀, F, δ, r, R, hg', k⟩
  have ho' : i ∉ O := fun z => by rw [List.contains_iff_mem.mpr z] at ho; cases ho
  refine ps_setC (own := own) (g := tG X.K [] h) (tc := tB X.K [] E0 tc) (te := tD X.K [] E0 fe) hc ck hi hg ht he hN hix hx hsw hf hs pins s σ H Dn I (comp_in hcf ?_)
  rcases M.b_inv hg' with ⟨d, e1, hg'⟩ | ⟨y, e1, rfl⟩
  · cases hg'
    exact ⟨ρ, H₀, F, δ, .ok d, R, e1, fun v H' s' r' => k _ H' (same_fob ho' s') ((R.mono s').set ho' r')⟩
  · exact ⟨ρ, H₀, F, δ, .error y, R, e1, k⟩
end
end DL
namespace DL
open PySem PySem.Spec L2 PyProof.Rows
section
variable {X : Cx}
noncomputable def kMin1 : List D → Option D
  | [.lst [.int i, .int j]] => some (.int (if j < i then j else i))
  | _ => none
@[simp] theorem kmin1 (i j : Int) : kMin1 [.lst [.int i, .int j]] = some (.int (if j < i then j else i)) := rfl
end
end DL
namespace DL
open PySem PySem.Spec L2
section
variable {ρ₀ ρ ρ' : Rho} {S₀ S S' F : Addr → Bool} {H₀ H H1 H' : Hp} {K : PySem.W.Frag} {mg : Str → Option Value} {O O' B : List Nat} {σ σ' : St} {δ δ' : DSt} {Ω Ω' : Sto}
end
section
variable {X : Cx} {O B : List Nat} {a b e o : Expr} {es : List Expr} {fa fb fo : DSt → MS D} {fl : DSt → MS (List D)} {pos : Pos}
inductive AtLI (x y : D) (Ω Ω' : Sto) (r : Except XD D) : Prop
  | mk (i : Nat) (j : Int) (ds : List D) (d : D) (hx : x = .obj i) (hy : y = .int j) (hi : Ω[i]? = some (.lst ds)) (ha : L2.atI ds j = some d) (hr : r = .ok d) (ho : Ω' = Ω)
inductive ChkI (x : D) (Ω Ω' : Sto) (r : Except XD D) : Prop
  | mk (i : Nat) (ds : List D) (hx : x = .obj i) (hi : Ω[i]? = some (.lst ds)) (hr : r = .ok x) (ho : Ω' = Ω)
inductive PutI (g : List D → Option (List D)) (x : D) (Ω Ω' : Sto) (r : Except XD D) : Prop
  | mk (i : Nat) (ds es : List D) (hx : x = .obj i) (hi : Ω[i]? = some (.lst ds)) (hg : g ds = some es) (hr : r = .ok .non) (ho : Ω' = Ω.set i (.lst es))
noncomputable def rGtL (K : PySem.W.Frag) : V → V → Hp → VK → Prop := fun x y H Q => ∃ p xs i v, x = .ref p ∧ y = .int i ∧ 0 ≤ i ∧ SqL K H p xs ∧ xs[i.toNat]? = some v ∧ Q v H
theorem get_listN : PGet X (rGtL X.K) := by
  intro pins s σ H o i ov iv Q I ro ri h
  obtain ⟨p, xs, j, v, rfl, rfl, h0, hq, he, q⟩ := h
  cases ro
  obtain ⟨t, rfl⟩ := ri
  obtain ⟨its, r, pl, hz⟩ := I.list hq
  obtain ⟨w, ew, rw'⟩ := r.get he
  have hlt : j.toNat < its.length := (List.getElem?_eq_some_iff.mp ew).1
  have hl := r.length
  have hn : sizeLine = 16777216 := sizeLine_eq
  exact wpAny_getItem_list pl.isList h0 (by omega) (by simpa using ew) ⟨v, H, I, rw', q⟩
end
end DL
namespace DL
open PySem PySem.Spec L2
noncomputable def forL (k : Nat → D → D) (g : DSt → MS Out) (h : D → DSt → Option DSt) (n : Nat) : Nat → Nat → DSt → MS Out
  | 0, _, _ => fun _ => none
  | f + 1, i, δ => fun Ω => match Ω[n]? with
    | some (.lst ds) => match ds[i]? with
      | none => some (.ok (.nx δ), Ω)
      | some d => match h (k i d) δ with
        | none => none
        | some δ1 => ((g δ1).b fun o => match o with
          | .nx δ2 => forL k g h n f (i + 1) δ2
          | .ct δ2 => forL k g h n f (i + 1) δ2
          | .bk δ2 => MS.p (.nx δ2)
          | .rt v => MS.p (.rt v)) Ω
    | _ => none
inductive ForLI (k : Nat → D → D) (g : DSt → MS Out) (h : D → DSt → Option DSt) (n f i : Nat) (δ : DSt) (Ω Ω' : Sto) (r : Except XD Out) : Prop
  | stop (ds : List D) (hn : Ω[n]? = some (.lst ds)) (hi : ds[i]? = none) (hr : r = .ok (.nx δ)) (ho : Ω' = Ω)
  | turn (ds : List D) (d : D) (δ1 : DSt) (hn : Ω[n]? = some (.lst ds)) (hi : ds[i]? = some d) (hh : h (k i d) δ = some δ1) (hg : ((g δ1).b fun o => match o with
          | .nx δ2 => forL k g h n f (i + 1) δ2
          | .ct δ2 => forL k g h n f (i + 1) δ2
          | .bk δ2 => MS.p (.nx δ2)
          | .rt v => MS.p (.rt v)) Ω = some (r, Ω'))
inductive FLInv (X : Cx) (O : List Nat) (ρ₀ : Rho) (S₀ : Addr → Bool) (H₀ : Hp) (F : Addr → Bool) (ρ1 : Rho) (H1 : Hp) (m : DSt → MS Out) (r : Except XD Out) (Ω' : Sto) (σ : St) (H : Hp) : Prop
  | mk (ρ : Rho) (S : Addr → Bool) (δ : DSt) (Ω : Sto) (hR : RM ρ₀ S₀ H₀ F X.K X.mg O ρ S H σ δ Ω) (hl : RLe ρ1 ρ) (hs : Same H1 (hid H (fob (un F S) σ O))) (hf : m δ Ω = some (r, Ω'))
section
variable {X : Cx} {O B : List Nat} {a iter tg : Expr} {fo : DSt → MS D} {g : DSt → MS Out} {pos : Pos}
variable {fl : DSt → MS (List D)}
end
end DL
namespace DL
open PySem PySem.Spec L2
noncomputable def joinT (done : List D) : Except XD (List D) → Except XD (List D)
  | .ok rest => .ok (done ++ rest)
  | .error y => .error y
inductive CEI (X : Cx) (ρ1 : Rho) (S1 : Addr → Bool) (H1 Hv : Hp) (G : Addr → Bool) (Dd : Addr) (T : Except XD (List D)) (Ωe : Sto) (cd : DSt → MS (List D)) (i : Nat) (σ : St) (H : Hp) : Prop
  | mk (ρ : Rho) (S : Addr → Bool) (δ : DSt) (Ω : Sto) (done : List D) (zs : List V) (rr : Except XD (List D)) (hR : RM ρ S H G X.K X.mg [] ρ S H σ δ Ω) (hD : H Dd = some (.lst zs)) (hz : Reps ρ X.K (hid H (un G S)) done zs) (hlen : zs.length = i)
    (hc : cd δ Ω = some (rr, Ωe)) (hT : T = joinT done rr) (hv : Same Hv (hid H (un G S))) (hl : RLe ρ1 ρ) (hsm : ∀ b o, S1 b = false → H1 b = some o → H b = some o) (hold : ∀ b, S1 b = true → S b = true) (hnew : ∀ b, S b = true → S1 b = true ∨ H1 b = none)
section
variable {ρ₀ ρ : Rho} {S₀ S F : Addr → Bool} {H₀ H : Hp} {K : PySem.W.Frag} {mg : Str → Option Value} {O : List Nat} {σ : St} {δ : DSt} {Ω : Sto}
end
section
variable {X : Cx} {O : List Nat} {elt iter tg : Expr} {fe : DSt → MS D} {fi : DSt → MS (List D)} {pos : Pos}
end
end DL
namespace L2
open PySem PySem.Spec PyProof.Rows
section
variable {prog : Program} {w : World} {A : Around} {E : Value → Shared → Prop} {s : Shared}
inductive RgEnd (s : Shared) (n : Nat) (q : Result) (s' : Shared) : Prop
  | mk (h' : Heap) (tk : Nat) (acc : Array Value) (c : Nat) (e1 : q = .ok (.ret (.ref s.heap.objs.size))) (e2 : s' = { s with heap := h', toks := tk }) (k : ∀ b o, s.heap.get? b = some o → h'.get? b = some o)
      (at' : h'.get? s.heap.objs.size = some { cls := .type "list", dict := none, data := .seq acc c, slots := #[] }) (got : ItemsOf (fun i v => ∃ t, v = Value.int ((0 : Int) + i * 1) t) acc n)
theorem rg_collect {r : Addr} {t u v : Tok} {n : Nat} {Q : List Value → Shared → Prop} (hh : A.handled = none) (hr : IsRange s.heap r 0 n 1 t u v) (hn : n ≤ 2 ^ 24)
    (fin : ∀ (h' : Heap) (tk : Nat) (acc : Array Value), (∀ b o, s.heap.get? b = some o → h'.get? b = some o) → ItemsOf (fun i v => ∃ t, v = Value.int ((0 : Int) + i * 1) t) acc n → Q acc.toList { s with heap := h', toks := tk }) :
    wpAny (model prog w) A (collect (.ref r)) Q E s := by
  have sm : Builtin.Range.small 0 (n : Int) 1 = true := small_one (by omega) (by omega) (by omega) (by omega)
  have sz : Builtin.Range.rangeSize 0 (n : Int) 1 = n := by rw [rangeSize_one]; split <;> omega
  unfold collect; refine wpAny_bind (wpAny_runValue (codeAny_builtin F.entry_proto_collect ?_))
  rw [Around.under_plainId F.plain_proto_collect _]; show wpAny _ A.in1 (newList [] >>= fun q => again (.builtin "list.__iadd__" ⟨[q, .ref r], []⟩)) _ _ s
  refine wpAny_bind (wpAny_newObj_type (wpAny_pure ⟨plainId_quiet F.plain_list_iadd _, codeAny_builtin F.entry_list_iadd ?_⟩))
  rw [Around.under_plainId F.plain_list_iadd _]; show wpAny _ A.in1 (Builtin.List.listExtendWith (.ref s.heap.objs.size) (.ref r) (.ref s.heap.objs.size)) _ _ _
  have key := wpAny_extend_range (prog := prog) (w := w) (A := A) (s := { s with heap := s.heap.push { cls := .type "list", data := .seq ([] : List Value).toArray } }) (R := RgEnd s n) hh (Heap.get?_push_of_some _ hr) sm sz hn s.heap.objs.size (.ref s.heap.objs.size) 0 (Heap.get?_push_size _ rfl)
    fun h' tk acc c k a g => ⟨h', tk, acc, c, rfl, rfl, fun b o e => k b o (Nat.ne_of_lt (Heap.lt_size e)) (Heap.get?_push_of_some _ e), a, g⟩
  refine wpAny_mono key (fun f s' x => ?_) fun e s' x => ?_
  · cases f with
    | done f =>
      obtain ⟨h', tk, acc, c, e, rfl, k, a, g⟩ := x
      cases e
      show wpAny _ A (load s.heap.objs.size >>= _) _ _ _
      exact wpAny_bind (wpAny_load a (wpAny_pure (fin h' tk acc k g)))
    | again c1 =>
      refine ⟨x.1, codeAny_mono x.2 fun q s2 y => ?_⟩
      obtain ⟨h', tk, acc, c, rfl, rfl, k, a, g⟩ := y
      show wpAny _ A (load s.heap.objs.size >>= _) _ _ _
      exact wpAny_bind (wpAny_load a (wpAny_pure (fin h' tk acc k g)))
  · obtain ⟨_, _, _, _, e', _⟩ := x
    cases e'
noncomputable def lamArgs (pa : Pos) : Arguments := { posonlyargs := [], args := [{ arg := "house", annotation := none, pos := pa }], vararg := none, kwonlyargs := [], kw_defaults := [], kwarg := none, defaults := [] }
noncomputable def lamScope : Scope := { kind := .function, names := [("house", .local), ("rests", .free)], isGenerator := false, isCoroutine := false, more := [] }
noncomputable def lamBody (p1 p2 p3 p4 : Pos) : Expr := .UnaryOp .USub (.Subscript (.Name "rests" p1) (.Name "house" p2) p3) p4
theorem lam_key {f cc R c' : Addr} {q : Str} {pm ctv : Value} {p1 p2 p3 p4 pa : Pos} {its : List Value} {i : Nat} {u t : Tok} {r : Int} {Q : Value → Shared → Prop} (hroom : A.depth < recursionLimit)
    (ho : s.heap.get? f = some (PySem.W.kla_obj "<lambda>" q (lamArgs pa) (lamBody p1 p2 p3 p4) lamScope [("rests", cc)] pm c' ctv)) (hc : s.heap.CodeRec (.ref c') q) (lim : s.heap.NoLimit) (hcell : s.heap.IsCell cc (some (.ref R)))
    (hl : s.heap.IsList R its.toArray) (hi : its[i]? = some (.int r t)) (hz : its.length ≤ sizeLine)
    (fin : ∀ (h' : Heap) (tk : Nat) (t' : Tok), (∀ b o, s.heap.get? b = some o → h'.get? b = some o) → Q (.int (-r) t') { s with heap := h', toks := tk }) : wpAny (model prog w) A (call (.ref f) [.int i u]) Q E s := by
  refine wpAny_call (PySem.W.kla_callFunE hroom ho rfl rfl rfl rfl hc ?_)
  have hb : bindArgs (PySem.W.kla_fn "<lambda>" q (lamArgs pa) (lamBody p1 p2 p3 p4) lamScope [("rests", cc)] pm (.ref c') ctv) ⟨[Value.int i u], []⟩ = (pure [("house", Value.int i u)] : Sem (List (Str × Value))) := rfl
  rw [hb]
  refine wpAny_pure (wpAny_newFunctionEnv (show ∀ x ∈ lamScope.names, x.2 ≠ .cell by decide) (fun x hx => by rw [List.mem_singleton.mp hx]; rfl) (fun h' hns hsb => ?_) rfl)
  have k : ∀ b o, s.heap.get? b = some o → h'.get? b = some o := fun b o e => hsb.extBut b o (Nat.ne_of_lt (Heap.lt_size e)) (Heap.get?_push_of_some _ e)
  refine ⟨lim.keeps k, PySem.W.kla_codeExpr ?_⟩
  obtain ⟨oc, ho', hd⟩ := hcell
  have lt : i < its.length := (List.getElem?_eq_some_iff.mp hi).1
  have sl : sizeLine = 16777216 := sizeLine_eq
  refine UnaryOp_ (Subscript_ ?_)
  refine wpAny_Name (wpAny_loadName_free rfl rfl rfl ⟨oc, k _ _ ho', hd⟩ ?_ (by decide)) (by decide)
  refine wpAny_Name (wpAny_loadName_local rfl rfl hns rfl ?_) (by decide)
  obtain ⟨ol, hol, hcl, hdl⟩ := hl
  have il : h'.IsList R its.toArray := ⟨ol, k _ _ hol, hcl, hdl⟩
  refine item_listR il (by omega) (by omega) (x := .int r t) (by simpa using hi) ?_ rfl
  exact neg_int (fin h' _ _ k)
end
end L2
namespace L2
open PySem PySem.Spec PyProof.Rows
open Att
noncomputable def kasRun {α : Type} (c : Nat → Nat → Bool) : PySem.W.KasT α → α
  | .ret a => a
  | .ask i j k => kasRun c (k (c i j))
noncomputable def kasIn {α : Type} (n : Nat) : PySem.W.KasT α → Bool
  | .ret _ => true
  | .ask i j k => decide (i < n) && decide (j < n) && kasIn n (k true) && kasIn n (k false)
theorem kas_run {α : Type} {n : Nat} {cmp : Nat → Nat → (Bool → Shared → Prop) → Shared → Prop} {c : Nat → Nat → Bool} (h : ∀ i j C s, i < n → j < n → C (c i j) s → cmp i j C s) :
    ∀ (t : PySem.W.KasT α) (G : α → Shared → Prop) (s : Shared), kasIn n t = true → G (kasRun c t) s → t.kasWp cmp G s
  | .ret a, G, s, _, g => g
  | .ask i j k, G, s, hi, g => by
    unfold kasIn at hi
    simp only [Bool.and_eq_true, decide_eq_true_eq] at hi
    obtain ⟨⟨⟨h1, h2⟩, h3⟩, h4⟩ := hi
    refine h i j _ s h1 h2 (kas_run h (k (c i j)) G s ?_ g)
    cases c i j with
    | true => exact h3
    | false => exact h4
noncomputable def rgOrd (keys : List Int) (n : Nat) : List Nat := (kasRun (fun i j => decide (keys.getD i 0 < keys.getD j 0)) (PySem.W.kas_sort n)).toList
section
variable {prog : Program} {w : World} {A : Around} {E : Value → Shared → Prop} {s : Shared} {L : Addr} {m : Str → Option Value} {h h1 h2 g : Heap}
structure Lk (L : Addr) (m : Str → Option Value) (h h' : Heap) : Prop where
  k : ∀ b o, b ≠ L → h.get? b = some o → h'.get? b = some o
  ns : h'.Ns L m
theorem frN (n : h.Ns L m) : Fr (noObjs g) L h m := ⟨n, fun b o e => (by rw [noObjs_get] at e; cases e), Nat.zero_le _⟩
theorem newsN {d : Addr} {od : Obj} (hne : d ≠ L) (ho : h.get? d = some od) : News (noObjs g) L h ((d, od) :: ledger h L d) := by
  rintro ⟨a, o⟩ hp
  rcases List.mem_cons.mp hp with e | hp
  · cases e
    exact ⟨ho, hne, noObjs_get _ _⟩
  · obtain ⟨n1, n2, e⟩ := mem_ledger.mp hp
    exact ⟨e, n1, noObjs_get _ _⟩
theorem updN {d : Addr} {o : Obj} : PySem.W.UpdF d o ((d, o) :: ledger h L d) (fun o' => (d, o') :: ledger h L d) := .head fun ⟨_, _⟩ hp => (mem_ledger.mp hp).2.1
theorem ofN {d : Addr} {od : Obj} (N : News (noObjs g) L h1 ((d, od) :: ledger h L d)) : h1.get? d = some od ∧ ∀ b o, b ≠ L → b ≠ d → h.get? b = some o → h1.get? b = some o :=
  ⟨(N _ (.head _)).1, fun b o n1 n2 e => (N (b, o) (.tail _ (mem_ledger.mpr ⟨n1, n2, e⟩))).1⟩
noncomputable def KeyOk (prog : Program) (w : World) (A : Around) (s : Shared) (L : Addr) (m : Str → Option Value) (f : Value) (keys : List Int) : Prop :=
  ∀ (i : Nat) (k : Int) (u : Tok) (h1 : Heap) (tk : Nat) (Q : Value → Shared → Prop), keys[i]? = some k → Lk L m s.heap h1 →
    (∀ (h' : Heap) (tk' : Nat) (t : Tok), (∀ b o, h1.get? b = some o → h'.get? b = some o) → Q (.int k t) { s with heap := h', toks := tk' }) →
    wpAny (model prog w) A (call f [.int i u]) Q (fun _ _ => False) { s with heap := h1, toks := tk }
theorem ints_snoc {ks : List Value} {ns : List Int} {k : Int} {t : Tok} (h : IntsAre ks ns) : IntsAre (ks ++ [.int k t]) (ns ++ [k]) := by
  induction h with
  | nil => exact .cons k t .nil
  | cons n u _ ih => exact .cons n u ih
theorem rg_keys {f : Value} {kS D : Addr} {e1 : Nat} {keys : List Int} {Fin : List Value → Nat → Shared → Prop} (hk : KeyOk prog w A s L m f keys) (hkL : kS ≠ L) (hDL : D ≠ L) (hDk : D ≠ kS) (old : ∀ o, s.heap.get? kS ≠ some o)
    (fin : ∀ (ks : List Value) (e : Nat) (h1 : Heap) (tk : Nat), Lk L m s.heap h1 → h1.get? kS = some (seqObj "list" ks.toArray e) → h1.get? D = some (seqObj "list" #[] e1) → IntsAre ks keys → Fin ks e { s with heap := h1, toks := tk }) :
    ∀ (r : List Value) (j : Nat) (ks : List Value) (e : Nat) (h1 : Heap) (tk : Nat), j + r.length = keys.length → (∀ (i : Nat) v, r[i]? = some v → ∃ t, v = Value.int ((j + i : Nat) : Int) t) → Lk L m s.heap h1 →
      h1.get? kS = some (seqObj "list" ks.toArray e) → h1.get? D = some (seqObj "list" #[] e1) → IntsAre ks (keys.take j) → PySem.W.KatKeys prog w A (noObjs s.heap) L m kS f Fin r ks e { s with heap := h1, toks := tk }
  | [], j, ks, e, h1, tk, hj, _, lk, a1, a2, hi => by
    refine PySem.W.KatKeys.nil (fin ks e h1 tk lk a1 a2 ?_)
    rw [List.take_of_length_le (by simp only [List.length_nil] at hj; omega)] at hi
    exact hi
  | v :: r, j, ks, e, h1, tk, hj, hr, lk, a1, a2, hi => by
    rw [List.length_cons] at hj
    have hlt : j < keys.length := by omega
    obtain ⟨t, rfl⟩ := hr 0 v rfl
    refine PySem.W.KatKeys.cons (hk j keys[j] t h1 tk _ (List.getElem?_eq_getElem hlt) lk fun h2 tk2 t2 k2 => ?_)
    have lk2 : Lk L m h1 h2 := ⟨fun b o _ e => k2 b o e, lk.ns.keeps k2⟩
    refine PySem.W.KatBack.intro (frN lk2.ns) (newsN hkL (k2 _ _ a1)) updN fun h3 c F3 N3 => ?_
    obtain ⟨b1, b2⟩ := ofN N3
    have lk3 : Lk L m s.heap h3 := ⟨fun b o n q => b2 b o n (fun z => old o (z ▸ q)) (k2 b o (lk.k b o n q)), F3.ns⟩
    refine rg_keys hk hkL hDL hDk old fin r (j + 1) _ c h3 tk2 (by omega) (fun i v q => ?_) lk3 b1 (b2 D _ hDL hDk (k2 _ _ a2)) ?_
    · obtain ⟨t', e'⟩ := hr (i + 1) v (by simpa using q)
      exact ⟨t', by rw [e']; congr 1; omega⟩
    · have e' : keys.take (j + 1) = keys.take j ++ [keys[j]] := by rw [List.take_succ, List.getElem?_eq_getElem hlt]; rfl
      rw [e']
      exact ints_snoc hi
theorem ints_get {ks : List Value} {ns : List Int} (h : IntsAre ks ns) (i : Nat) (hi : i < ns.length) : ∃ t, ks.getD i Value.none = Value.int (ns.getD i 0) t := by
  induction h generalizing i with
  | nil => cases hi
  | cons n u _ ih =>
    cases i with
    | zero => exact ⟨u, rfl⟩
    | succ i =>
      obtain ⟨t, e⟩ := ih i (by simpa using hi)
      exact ⟨t, by simpa using e⟩
noncomputable def natV (i : Nat) : V := .int (Int.ofNat i)
theorem vals_ord {vs : List Value} {n : Nat} (hv : ∀ i, i < n → ∃ t, vs.getD i Value.none = Value.int (i : Int) t) : ∀ (p : List Nat), (∀ i ∈ p, i < n) → Vals (p.map natV) (p.map fun i => vs.getD i Value.none)
  | [], _ => .nil
  | i :: p, h => .cons (show RelV (.int (Int.ofNat i)) _ from hv i (h i (.head _))) (vals_ord hv p fun j hj => h j (.tail _ hj))
theorem rg_sorted {ro f : Addr} {t u v : Tok} {n : Nat} {keys : List Int} {Q : Value → Shared → Prop} (hh : A.handled = none) (hr : IsRange s.heap ro 0 n 1 t u v) (h2 : 2 ≤ n) (h64 : n < 64) (hl : keys.length = n) (hin : kasIn n (PySem.W.kas_sort n) = true)
    (hp : ∀ i ∈ rgOrd keys n, i < n) (hL : s.heap.Ns L m) (hk : KeyOk prog w A.in1.in1 s L m (.ref f) keys)
    (fin : ∀ (D : Addr) (h' : Heap) (tk c : Nat) (vs : List Value), Lk L m s.heap h' → s.heap.get? D = none → h'.get? D = some (seqObj "list" vs.toArray c) → Vals ((rgOrd keys n).map natV) vs → Q (.ref D) { s with heap := h', toks := tk }) :
    wpAny (model prog w) A (call (.builtin "sorted") [.ref ro] [("key", .ref f)]) Q E s := by
  refine call_function_entry_kw kind_sorted plain_sorted entry_sorted (ksk_s1 _ _) ?_
  unfold Builtin.«sorted»
  refine wpAny_bind (m := checkCount "sorted" 1 1 _) (wpAny_pure (wpAny_bind (rg_collect (A := A.in1) hh hr (by omega) fun h1 tk1 acc k1 got => ?_)))
  have hsz : acc.toList.length = n := by rw [Array.length_toList]; exact got.1
  refine wpAny_bind (wpAny_newList ?_ (by rw [hsz, sizeLine_eq]; omega))
  have at1 : (h1.push (seqObj "list" acc.toList.toArray 0)).get? h1.objs.size = some (seqObj "list" acc.toList.toArray 0) := Heap.get?_push_size _ rfl
  have lk1 : Lk L m s.heap (h1.push (seqObj "list" acc.toList.toArray 0)) := ⟨fun b o _ e => Heap.get?_push_of_some _ (k1 b o e), (hL.keeps k1).push _⟩
  have hDL : h1.objs.size ≠ L := Nat.ne_of_gt (hL.keeps k1).lt
  have szD : s.heap.get? h1.objs.size = none := by
    cases q : s.heap.get? h1.objs.size with
    | none => rfl
    | some o => exact absurd (Heap.lt_size (k1 _ _ q)) (Nat.lt_irrefl _)
  refine wpAny_bind (wpAny_holding (wpAny_call_entry_kw slot_list_sort ⟨_, at1, rfl⟩ entry_list_sort ?body (ksk_l1 _ _)))
  show wpAny (model prog w) A.in1.in1 (Builtin.«list.sort» ⟨[.ref h1.objs.size], [("key", .ref f)]⟩) _ _ _
  rw [ksk_t1]
  refine PySem.W.kat_keyed (s := { s with heap := h1.push (seqObj "list" acc.toList.toArray 0), toks := tk1 }) (h₀ := noObjs s.heap) (news := ledger (h1.push (seqObj "list" acc.toList.toArray 0)) L h1.objs.size) (vs := acc.toList) (L := L) (m := m)
    (frN lk1.ns) (fun p hp => newsN (g := s.heap) hDL at1 p (.tail _ hp)) at1 hDL (noObjs_get _ _) (fun ⟨a, o⟩ hp => (mem_ledger.mp hp).2.1) (by omega) (by omega) fun kS e1 h' F' N' l0 l1 => ?_
  have aK := (N' _ (.head _)).1
  have aD := (N' _ (.tail _ (.head _))).1
  have kp : ∀ b o, b ≠ L → b ≠ h1.objs.size → (h1.push (seqObj "list" acc.toList.toArray 0)).get? b = some o → h'.get? b = some o := fun b o n1 n2 e => (N' (b, o) (.tail _ (.tail _ (mem_ledger.mpr ⟨n1, n2, e⟩)))).1
  have lk : Lk L m s.heap h' := ⟨fun b o n e => kp b o n (fun z => by rw [z, szD] at e; cases e) (lk1.k b o n e), F'.ns⟩
  have oldK : ∀ o, s.heap.get? kS ≠ some o := fun o e => by
    have q := lk1.k kS o (N' _ (.head _)).2.1 e
    have := l1 (kS, o) (mem_ledger.mpr ⟨(N' _ (.head _)).2.1, Nat.ne_of_gt l0, q⟩)
    exact absurd this (Nat.lt_irrefl _)
  have hv : ∀ (i : Nat) v, acc.toList[i]? = some v → ∃ t, v = Value.int ((0 + i : Nat) : Int) t := fun i v e => by
    obtain ⟨t, e'⟩ := got.2 i v (by rw [← Array.getElem?_toList]; exact e)
    exact ⟨t, by rw [e']; congr 1; omega⟩
  refine rg_keys hk (N' _ (.head _)).2.1 hDL (Nat.ne_of_lt l0) oldK (fun ks e h2 tk2 lk2 c1 c2 hi => ?_) acc.toList 0 [] 0 h' tk1 (by omega) hv lk aK aD .nil
  have hks : ks.length = n := by rw [← hl]; exact hi.length
  rw [ksk_kind (keys := ks.toArray) (kz := keys) (by simpa using hi) (by simpa using (by omega : 2 ≤ ks.length))]
  refine wpAny_pure ?_
  rw [hsz]
  refine kas_run (n := n) (c := fun i j => decide (keys.getD i 0 < keys.getD j 0)) (fun i j C s' hi' hj' q => ?_) (PySem.W.kas_sort n) _ _ hin ?_
  · obtain ⟨t1, e1'⟩ := ints_get hi i (by omega)
    obtain ⟨t2, e2'⟩ := ints_get hi j (by omega)
    show wpAny _ _ (keyLt' oneType' (ks.getD i Value.none) (ks.getD j Value.none)) C _ s'
    rw [e1', e2']
    exact PySem.W.kat_lt_int q
  · refine PySem.W.KatFin.intro (frN lk2.ns) (newsN (N' _ (.head _)).2.1 c1) updN fun h3 c3 F3 N3 => ?_
    obtain ⟨b1, b2⟩ := ofN N3
    have lk3 : Lk L m s.heap h3 := ⟨fun b o n q => b2 b o n (fun z => oldK o (z ▸ q)) (lk2.k b o n q), F3.ns⟩
    refine PySem.W.KasFin.intro (frN lk3.ns) (newsN hDL (b2 _ _ hDL (Nat.ne_of_lt l0) c2)) updN fun h4 c4 F4 N4 => ?_
    obtain ⟨d1, d2⟩ := ofN N4
    have lk4 : Lk L m s.heap h4 := ⟨fun b o n q => d2 b o n (fun z => by rw [z, szD] at q; cases q) (lk3.k b o n q), F4.ns⟩
    refine ⟨_, rfl, wpAny_pure ⟨_, rfl, fin _ h4 tk2 c4 _ lk4 szD d1 (vals_ord (fun i hi' => ?_) _ hp)⟩⟩
    show ∃ t, acc.toList.getD i Value.none = _
    have : i < acc.toList.length := by omega
    obtain ⟨t, e⟩ := hv i _ (List.getElem?_eq_getElem this)
    refine ⟨t, ?_⟩
    rw [List.getD_eq_getElem?_getD, List.getElem?_eq_getElem this, Option.getD_some, e, Nat.zero_add]
end
end L2
namespace L2
open PySem PySem.Spec PyProof.Rows
section
variable {P : Program} {w : World} {H : Hp} {h : Heap} {a : Addr} {o : HO}
theorem ObjOk.here (x : ObjOk P w H h a o) : ∃ ob, h.get? a = some ob := by
  cases o with
  | lst xs => obtain ⟨_, _, _, _, e⟩ := x; exact ⟨_, e⟩
  | tup xs => obtain ⟨_, _, _, o, e, _⟩ := x; exact ⟨_, e⟩
  | dK kvs => obtain ⟨_, _, _, _, o, _, _, e, _⟩ := x; exact ⟨_, e⟩
  | dT kvs => obtain ⟨_, _, _, _, o, _, _, e, _⟩ := x; exact ⟨_, e⟩
  | set S n => obtain ⟨o, _, _, _, e, _⟩ := x; exact ⟨_, e⟩
  | ins C dx fs => obtain ⟨_, _, _, e, _⟩ := x; exact ⟨_, e⟩
  | own y => exact x
  | xd fs => obtain ⟨_, ⟨_, _, _, e, _⟩, _⟩ := x; exact ⟨_, e⟩
  | rng lo hi => obtain ⟨_, _, _, e⟩ := x; exact ⟨_, e⟩
  | frz ob u => obtain ⟨e, _⟩ := x; exact ⟨_, e⟩
  | tbl ps => exact ⟨_, x⟩
  | met f y => exact ⟨_, x⟩
  | ext φ => exact x.2.1
end
section
variable {X : Cx} {pins : List (Addr × Obj)} {σ : St} {H : Hp} {s : Shared} {h' : Heap} {m : Str → Option Value}
theorem Inv.tabbed {T c' : Addr} {ps more : Array Value} {oc : Obj} {t' : Nat} (I : Inv X pins σ H s) (hT : H T = some (.tbl ps)) (hc : s.heap.objs.size ≤ c') (k : ∀ b o, b ≠ T → s.heap.get? b = some o → h'.get? b = some o)
    (eT : h'.get? T = some { cls := .none, data := .fields (ps ++ more) }) (eC : h'.get? c' = some oc) : Inv X pins σ (upd (upd H c' (.frz oc (.own 0))) T (.tbl (ps ++ more))) { s with heap := h', toks := t' } := by
  have hn : H c' = none := I.hok.fresh hc
  have nT : ∀ b, H b = none → b ≠ T := fun b e z => by rw [z, hT] at e; cases e
  have nC : ∀ b o, s.heap.get? b = some o → b ≠ c' := fun b o e => Nat.ne_of_lt (Nat.lt_of_lt_of_le (Heap.lt_size e) hc)
  have nC' : ∀ b u, H b = some u → b ≠ c' := fun b u e z => by rw [z, hn] at e; cases e
  refine I.un ⟨fun b o e n _ _ => k b o (nT b n) e, fun b o e n _ _ => ⟨o.slots, k b o (nT b n) e⟩, fun b o e n _ => ?_, fun b o e _ => ?_, fun b xs e => ?_, fun b o u e => ?_, fun b qs e => ?_⟩ fun b u e => ?_
  · rw [upd_ne (nT b n), upd_ne (nC b o e)]; exact n
  · by_cases z : b = T
    · rw [z]; exact ⟨_, eT⟩
    · exact ⟨o, k b o z e⟩
  · rw [upd_ne (ne_of e hT (fun z => nomatch z)), upd_ne (nC' b _ e)]; exact e
  · rw [upd_ne (ne_of e hT (fun z => nomatch z)), upd_ne (nC' b _ e)]; exact e
  · by_cases z : b = T
    · subst z
      rw [hT] at e
      cases e
      exact ⟨more, upd_same⟩
    · exact ⟨#[], by rw [upd_ne z, upd_ne (nC' b _ e), e]; simp⟩
  · by_cases z : b = T
    · subst z
      rw [upd_same] at e
      cases e
      exact eT
    · rw [upd_ne z] at e
      by_cases z2 : b = c'
      · subst z2
        rw [upd_same] at e
        cases e
        exact ⟨eC, oc, eC⟩
      · rw [upd_ne z2] at e
        refine (I.hok b u e).stay (fun c v hc' q => k c v ?_ q) (fun c q => ?_) fun c xs q => ?_
        · rcases hc' with r | r
          · rw [r]; exact z
          · exact ne_of r hT (fun z => nomatch z)
        · rw [upd_ne (ne_of q hT (fun z => nomatch z)), upd_ne (nC' c _ q)]; exact q
        · rw [upd_ne (ne_of q hT (fun z => nomatch z)), upd_ne (nC' c _ q)]; exact q
theorem Inv.laidL {D : Addr} {xs : List V} {vs : List Value} {c t' : Nat} (I : Inv X pins σ H s) (lk : Lk X.env.locals m s.heap h') (hm : s.heap.Ns X.env.locals m) (hD : s.heap.get? D = none) (eD : h'.get? D = some (seqObj "list" vs.toArray c)) (r : Vals xs vs)
    (hz : xs.length ≤ sizeLine) : Inv X pins σ (upd H D (.lst xs)) { s with heap := h', toks := t' } := by
  have hn : H D = none := by
    cases e : H D with
    | none => rfl
    | some u => obtain ⟨o, q⟩ := (I.hok D u e).here; rw [hD] at q; cases q
  have nD : ∀ b o, s.heap.get? b = some o → b ≠ D := fun b o e z => by rw [z, hD] at e; cases e
  have nD' : ∀ b u, H b = some u → b ≠ D := fun b u e z => by rw [z, hn] at e; cases e
  have nL : ∀ b u, H b = some u → b ≠ X.env.locals := fun b u e z => by rw [z, I.free] at e; cases e
  refine I.step (g' := s.gens) (d' := s.drawn) (ch := []) (fun _ z => nomatch z) (fun b o n _ _ e _ => lk.k b o n e) (fun b o n _ _ e _ => ⟨o.slots, lk.k b o n e⟩) (fun b o _ e n => by rw [upd_ne (nD b o e)]; exact n) (fun b o _ e => ?_)
    (fun b ys e => by rw [upd_ne (nD' b _ e)]; exact e) (fun b o u e => by rw [upd_ne (nD' b _ e)]; exact e) (fun b ps e => ⟨#[], by rw [upd_ne (nD' b _ e), e]; simp⟩) (fun m' hm' => ?_) (fun b u e => ?_) I.bare
  · by_cases z : b = X.env.locals
    · obtain ⟨o', _, _, q, _⟩ := lk.ns
      rw [z]; exact ⟨o', q⟩
    · exact ⟨o, lk.k b o z e⟩
  · rw [hm'.eq_nsMap, ← hm.eq_nsMap]; exact lk.ns
  · by_cases z : b = D
    · subst z
      rw [upd_same] at e
      cases e
      exact ⟨hz, vs, c, r, eD⟩
    · rw [upd_ne z] at e
      refine (I.hok b u e).stay (fun c v hc' q => lk.k c v ?_ q) (fun c q => by rw [upd_ne (nD' c _ q)]; exact q) fun c xs q => by rw [upd_ne (nD' c _ q)]; exact q
      rcases hc' with r | r
      · rw [r]; exact nL b u e
      · exact nL c _ r
end
end L2
namespace DL
open PySem PySem.Spec L2
section
variable {ρ₀ ρ ρ' : Rho} {S₀ S S' F : Addr → Bool} {H₀ H H1 H' : Hp} {K : PySem.W.Frag} {mg : Str → Option Value} {O O' B : List Nat} {σ σ' : St} {δ δ' : DSt} {Ω Ω' : Sto}
theorem RM.putT (R : RM ρ₀ S₀ H₀ F K mg O ρ S H σ δ Ω) {i : Nat} {a : Addr} {x q : Str} {l c : Nat} {ps ps' : Array Value} (hi : Ω[i]? = some (.tab x l c q)) (ha : ρ i = some a) (hS : S a = true) (hH : H a = some (.tbl ps)) (ht : TabOf K mg x a) (g : TabG (hid H (fob (un F S) σ O)) l c q ps') :
    RM ρ₀ S₀ H₀ F K mg O ρ S (upd H a (.tbl ps')) σ δ Ω ∧ hid (upd H a (.tbl ps')) (fob (un F S) σ O) = hid H (fob (un F S) σ O) := by
  have hF : un F S a = true := un_t.mpr (.inr hS)
  have hh : hid (upd H a (.tbl ps')) (fob (un F S) σ O) = hid H (fob (un F S) σ O) := hid_upd (le_fob a hF)
  refine ⟨⟨R.rs.updF hF, R.rho, fun b o h1 h2 => ?_, R.old, R.new, R.own0, R.ff, ?_⟩, hh⟩
  · have hb : b ≠ a := by
      rintro rfl
      rcases R.new b hS with q | q
      · rw [q] at h1; cases h1
      · rw [q] at h2; cases h2
    rw [upd_ne hb]; exact R.same b o h1 h2
  · rw [hh]
    refine ⟨fun j so hj => ?_, R.sto.inj, R.sto.top, fun b hb => upd_nn (R.sto.fin b hb)⟩
    by_cases hji : j = i
    · subst hji
      rw [hi] at hj
      cases hj
      exact ⟨a, ha, hS, ps', upd_same, ht, g⟩
    · obtain ⟨a', q1, q2, q3⟩ := R.sto.ats j so hj
      have ne : a' ≠ a := by
        rintro rfl
        exact hji (R.sto.inj j i a' q1 ha)
      refine ⟨a', q1, q2, ?_⟩
      cases so with
      | ins c' fs' =>
        obtain ⟨C', dx', vfs', p1, p2, p3, p4, p5⟩ := q3
        have nd : dx' ≠ a := ne_of p3 hH (fun z => nomatch z)
        exact ⟨C', dx', vfs', p1, by rw [upd_ne ne]; exact p2, by rw [upd_ne nd]; exact p3, p4, p5⟩
      | lst ds0 =>
        obtain ⟨xs0, p1, p2⟩ := q3
        exact ⟨xs0, by rw [upd_ne ne]; exact p1, p2⟩
      | tab _ _ _ _ =>
        obtain ⟨ps, p1, p2, p3⟩ := q3
        exact ⟨ps, by rw [upd_ne ne]; exact p1, p2, p3⟩
end
inductive CdOf (K : PySem.W.Frag) (mg : Str → Option Value) (x : Str) (cdv : Value) : Prop
  | mk (f : Addr) (oc : Value) (od : Option Addr) (fd : FuncData) (osl : Array (Option Value)) (h1 : mg x = some (.ref f)) (h2 : K.lookup f = some ⟨oc, od, .func fd, osl⟩) (h3 : fd.code = cdv)
noncomputable def ordD (n : Int) (rs : List D) : Option (List D) := match intsD rs with
  | some ks => if 2 ≤ n ∧ n < 64 ∧ (ks.length : Int) = n ∧ kasIn n.toNat (PySem.W.kas_sort n.toNat) = true ∧ (rgOrd (ks.map fun k => -k) n.toNat).all (fun i => decide (i < n.toNat)) = true ∧ (rgOrd (ks.map fun k => -k) n.toNat).length ≤ 64 then
      some ((rgOrd (ks.map fun k => -k) n.toNat).map fun i => .int (Int.ofNat i)) else none
  | none => none
noncomputable def sortK (x : Str) (l c : Nat) (q : Str) (ir : Nat) (δ : DSt) : List D → MS D := fun ds (Ω : Sto) => match ds, (δ[ir]? : Option (Option D)), (Ω[0]? : Option SO) with
  | [.int n], some (some (.lst rs)), some (.tab x' l' c' q') => if x' = x ∧ l' = l ∧ c' = c ∧ q' = q then (ordD n rs).map fun es => (.ok (.lst es), Ω) else none
  | _, _, _ => none
noncomputable def mSortK (x : Str) (l c : Nat) (q : Str) (ir : Nat) (fl : DSt → MS (List D)) : DSt → MS D := fun δ => (fl δ).b (sortK x l c q ir δ)
inductive SortI (x : Str) (l c : Nat) (q : Str) (ir : Nat) (δ : DSt) (ds : List D) (Ω Ω' : Sto) (r : Except XD D) : Prop
  | mk (n : Int) (rs es : List D) (h1 : ds = [.int n]) (h2 : δ[ir]? = some (some (.lst rs))) (h3 : Ω[0]? = some (.tab x l c q)) (h4 : ordD n rs = some es) (h5 : r = .ok (.lst es)) (h6 : Ω' = Ω)
theorem sortK_inv {x : Str} {l c : Nat} {q : Str} {ir : Nat} {δ : DSt} {ds : List D} {Ω Ω' : Sto} {r : Except XD D} (h : sortK x l c q ir δ ds Ω = some (r, Ω')) : SortI x l c q ir δ ds Ω Ω' r := by
  unfold sortK at h
  split at h
  · rename_i n rs x' l' c' q' e1 e2
    by_cases hc : x' = x ∧ l' = l ∧ c' = c ∧ q' = q
    · rw [if_pos hc] at h
      obtain ⟨rfl, rfl, rfl, rfl⟩ := hc
      cases ho : ordD n rs with
      | none => rw [ho] at h; cases h
      | some es => rw [ho] at h; cases h; exact ⟨n, rs, es, rfl, e1, e2, ho, rfl, rfl⟩
    · rw [if_neg hc] at h; cases h
  · cases h
inductive OrdI (n : Int) (rs es : List D) : Prop
  | mk (N : Nat) (ks : List Int) (h1 : n = N) (h2 : rs = ks.map .int) (h3 : 2 ≤ N) (h4 : N < 64) (h5 : ks.length = N) (h6 : kasIn N (PySem.W.kas_sort N) = true) (h7 : ∀ i ∈ rgOrd (ks.map fun k => -k) N, i < N) (h8 : (rgOrd (ks.map fun k => -k) N).length ≤ 64) (h9 : es = (rgOrd (ks.map fun k => -k) N).map fun i => .int (Int.ofNat i))
theorem ordD_inv {n : Int} {rs es : List D} (h : ordD n rs = some es) : OrdI n rs es := by
  unfold ordD at h
  cases hi : intsD rs with
  | none => rw [hi] at h; cases h
  | some ks =>
    rw [hi] at h
    dsimp only at h
    split at h
    · rename_i hc
      obtain ⟨a1, a2, a3, a4, a5, a6⟩ := hc
      cases h
      exact ⟨n.toNat, ks, by omega, intsD_eq hi, by omega, by omega, by omega, a4, fun i hm => by simpa using List.all_eq_true.mp a5 i hm, a6, rfl⟩
    · cases h
theorem reps_nat {ρ : Rho} {K : PySem.W.Frag} {H : Hp} : ∀ (p : List Nat), Reps ρ K H (p.map fun i => D.int (Int.ofNat i)) (p.map natV)
  | [] => Reps.nil
  | i :: p => Reps.cons (rep_int.mpr rfl) (reps_nat p)
end DL
namespace DL
open PySem PySem.Spec PyProof.Rows L2
section
variable {X : Cx} {O : List Nat}
theorem ne_frame {h : Heap} {L b : Addr} {m : Str → Option Value} {o : Obj} (n : h.Ns L m) (e : h.get? b = some o) (d : ∀ es ep, o.data ≠ .dict es ep) : b ≠ L := fun z => by
  obtain ⟨o', es, ep, e', d', _⟩ := n
  rw [z, e'] at e
  cases e
  exact d es ep d'
theorem sortK_run {ρ₀ ρ : Rho} {S₀ S F : Addr → Bool} {H₀ H : Hp} {σ : L2.St} {δ : DSt} {Ω : Sto} {pins : List (Addr × Obj)} {s : Shared} {Q : VK} {k ir N : Nat} {q : Str} {f cc c' ro : Addr} {pm ctv : Value} {pa p1 p2 p3 p4 : Pos} {t u v : Tok} {ks : List Int}
    (hr : Room k X.A) (hN : X.N[ir]? = some ("rests" : Str)) (hv : Vis X.env.scope "rests") (hkd : X.env.kindOf "rests" = some .cell) (hcc : X.env.cells.lookup ("rests" : Str) = some cc) (ho : ir ∉ O)
    (I : Inv X pins σ H s) (R : RM ρ₀ S₀ H₀ F X.K X.mg O ρ S H σ δ Ω) (hf : s.heap.get? f = some (PySem.W.kla_obj "<lambda>" q (lamArgs pa) (lamBody p1 p2 p3 p4) lamScope [("rests", cc)] pm c' ctv)) (hcd : s.heap.CodeRec (.ref c') q)
    (hro : IsRange s.heap ro 0 N 1 t u v) (hδ : δ[ir]? = some (some (.lst (ks.map .int)))) (h3 : 2 ≤ N) (h4 : N < 64) (h5 : ks.length = N) (h6 : kasIn N (PySem.W.kas_sort N) = true) (h7 : ∀ i ∈ rgOrd (ks.map fun k => -k) N, i < N) (h8 : (rgOrd (ks.map fun k => -k) N).length ≤ 64)
    (kk : ∀ v H', RM ρ₀ S₀ H₀ F X.K X.mg O ρ S H' σ δ Ω → Same (hid H (fob (un F S) σ O)) (hid H' (fob (un F S) σ O)) → Rep ρ X.K (hid H' (fob (un F S) σ O)) (.lst ((rgOrd (ks.map fun k => -k) N).map fun i => .int (Int.ofNat i))) v → Q v H') :
    wpAny (model X.prog X.w) X.A (call (.builtin "sorted") [.ref ro] [("key", .ref f)]) (EP X pins σ Q) X.xe s := by
  obtain ⟨m, hm, hloc⟩ := id I.loc
  obtain ⟨va, hσ, rv⟩ := R.rs.val ir _ hδ ho
  obtain ⟨Ra, ys, rfl, hq, ry⟩ := rep_lst.mp rv
  have ey := reps_ints.mp ry
  subst ey
  obtain ⟨uu, ru, look⟩ := hloc ir "rests" _ hN hσ hv
  have eu : uu = Value.ref Ra := ru
  subst eu
  obtain ⟨c2, hc2, icell⟩ : ∃ c, X.env.cells.lookup ("rests" : Str) = some c ∧ s.heap.IsCell c (some (.ref Ra)) := by
    rcases look with ⟨z, _⟩ | ⟨_, z⟩
    · rw [hkd] at z; cases z
    · exact z
  rw [hcc] at hc2
  cases hc2
  obtain ⟨its, vi, pl, hz⟩ := I.list (same_l same_un hq)
  have il := pl.isList
  refine rg_sorted (L := X.env.locals) (m := m) hr.hd hro h3 h4 (by rw [List.length_map]; exact h5) h6 h7 hm (fun i kv u' h1 tk Q' hk lk fin => ?_) fun D h' tk c vs lk hD eD vals => ?_
  · rw [List.getElem?_map] at hk
    cases e : ks[i]? with
    | none => rw [e] at hk; cases hk
    | some kr =>
      rw [e] at hk
      cases hk
      obtain ⟨w1, e1, ⟨t1, rfl⟩⟩ := vi.get (i := i) (x := .int kr) (by rw [List.getElem?_map, e]; rfl)
      obtain ⟨ocd, o2, vs2, t2, hc1, hc2, hc3, hc4⟩ := hcd
      obtain ⟨oce, hce, hcd2⟩ := icell
      obtain ⟨ol, hol, hol2, n2, hol3⟩ := il
      refine lam_key (its := its) (r := kr) (t := t1) (R := Ra) (cc := cc) (by have := hr.dp; show X.A.depth < _; omega) (lk.k _ _ (ne_frame hm hf (fun _ _ z => nomatch z)) hf) ⟨ocd, o2, vs2, t2, hc1, lk.k _ _ (ne_frame hm hc2 (fun _ _ z => by rw [hc3] at z; cases z)) hc2, hc3, hc4⟩ ?_
        ⟨oce, lk.k _ _ (ne_frame hm hce (fun _ _ z => by rw [hcd2] at z; cases z)) hce, hcd2⟩ ⟨ol, lk.k _ _ (ne_frame hm hol (fun _ _ z => by rw [hol3] at z; cases z)) hol, hol2, n2, hol3⟩ e1 (by rw [← vi.length]; exact hz) fin
      exact I.ok.mod.nolimit.keeps fun b o e => lk.k b o (Nat.ne_of_lt (Nat.lt_of_lt_of_le (Heap.lt_size e) (Nat.le_trans I.ok.bsz I.ok.above))) (I.bk b o e)
  · have hn : H D = none := by
      cases e : H D with
      | none => rfl
      | some z => obtain ⟨o, q⟩ := (I.hok D z e).here; rw [hD] at q; cases q
    refine ⟨.ref D, _, I.laidL lk hm hD eD vals (by rw [List.length_map]; exact Nat.le_trans h8 (by decide)), rfl, kk _ _ (R.mono (same_upd hn)) (same_hid (same_upd hn)) (rep_new_lst hn (R.fresh hn) (reps_nat _))⟩
theorem me_sortK {x q : Str} {k ir l c : Nat} {a : Expr} {fl : DSt → MS (List D)} {p p' pos pos' kp lp pa p1 p2 p3 p4 : Pos} {cc : Addr} (C : CdOf X.K X.mg x X.env.code) (hr : Room k X.A) (hgS : Gl X "sorted") (hmS : X.mg "sorted" = none) (hgR : Gl X "range") (hmR : X.mg "range" = none)
    (ha : MA X O [a] fl) (ho : ir ∉ O) (hN : autoParam (X.N[ir]? = some ("rests" : Str)) zau2._auto_1) (hv : autoParam (Vis X.env.scope "rests") zau9._auto_1) (hkd : autoParam (X.env.kindOf "rests" = some .cell) zau2._auto_1) (hcc : autoParam (X.env.cells.lookup ("rests" : Str) = some cc) zau2._auto_1)
    (hcl : autoParam (closureFor lamScope X.env = (pure [(("rests" : Str), cc)] : Sem (List (Str × Addr)))) zau2._auto_1) (hq : autoParam (X.env.qual ++ "<lambda>" = q) zau2._auto_1) (hl : autoParam (lp.line = l) zau2._auto_1) (hcol : autoParam (lp.col = c) zau2._auto_1) (hs : autoParam (starEach [a] X.env = [(false, eval a X.env)]) zau2._auto_1)
    (hs2 : autoParam (∀ e : Expr, starEach [.Call (.Name "range" p') [a] [] pos'] X.env = [(false, eval (.Call (.Name "range" p') [a] [] pos') X.env)]) zau4._auto_1) :
    ME X O (.Call (.Name "sorted" p) [.Call (.Name "range" p') [a] [] pos'] [⟨some "key", .Lambda (lamArgs pa) (lamBody p1 p2 p3 p4) lamScope lp, kp⟩] pos) (mSortK x l c q ir fl) := by
  rintro pins s σ H Q I ⟨ρ₀, S₀, H₀, F, ρ, S, δ, Ω, R, r, Ω', hf, kk⟩
  subst hl hcol hq
  refine wpAny_Call_Name_kw (ld_blt I hgS hmS PyProof.Rows.boot_sorted ?_)
  refine PyProof.Rows.callWith_kw (PyProof.Rows.args_cons ?_)
  refine Call_ (ld_blt I hgR hmR boot_range ?_)
  rcases MS.b_inv hf with ⟨ds, Ω1, e1, hf1⟩ | ⟨y, e1, rfl⟩
  · obtain ⟨n, rs, es, rfl, hδ, hΩ, hord, rfl, rfl⟩ := sortK_inv hf1
    obtain ⟨N, ks, rfl, rfl, h3, h4, h5, h6, h7, h8, rfl⟩ := ordD_inv hord
    refine PyProof.Rows.callWith_type1 (thn (ha pos' pins s σ H (fun vs H1 => ∃ ρ1 S1, RM ρ₀ S₀ H₀ F X.K X.mg O ρ1 S1 H1 σ δ Ω' ∧ RLe ρ ρ1 ∧ Same (hid H (fob (un F S) σ O)) (hid H1 (fob (un F S1) σ O)) ∧ vs = [.int N]) I ⟨ρ₀, S₀, H₀, F, ρ, S, δ, Ω, R, .ok _, Ω', e1, fun vs ρ1 S1 H1 R1 l1 v1 r1 => ?_⟩) fun us s1 ⟨vs, H1, I1, r1, q1⟩ => ?_) hs rfl
    · refine ⟨ρ1, S1, R1, l1, v1, ?_⟩
      obtain ⟨z, rfl, rz⟩ := reps1 r1
      rw [rep_int.mp rz]
    · obtain ⟨ρ1, S1, R1, l1, v1, rfl⟩ := q1
      obtain ⟨uz, rfl, ⟨tz, rfl⟩⟩ := r1.one
      refine call_range_1 ?_
      refine PyProof.Rows.args_nil ?_
      refine PyProof.Rows.kws_cons (PySem.W.kla_eval rfl ?_)
      obtain ⟨s2, hs2⟩ : ∃ s2 : Shared, s2 = { s1 with heap := s1.heap.push { cls := .type "range", data := .fields #[.int 0 s1.toks, .int (N : Int) tz, .int 1 (s1.toks + 1)] }, toks := s1.toks + 1 + 1 } := ⟨_, rfl⟩
      rw [← hs2]
      have I2 : Inv X pins σ H1 s2 := by rw [hs2]; exact I1.kept fun b o e => Heap.get?_push_of_some _ e
      have hro : IsRange s2.heap s1.heap.objs.size 0 N 1 s1.toks tz (s1.toks + 1) := by rw [hs2]; exact IsRange.new ..
      clear hs2
      generalize s1.heap.objs.size = ro at hro ⊢
      obtain ⟨aT, q1, q2, ps, q3, ⟨f0, c0, bm, oc0, od0, fd0, osl0, ob, b1, b2, b3, b4, b5, b6, b7, b8, b9, b10⟩, tg⟩ := R1.sto.ats 0 _ hΩ
      have tOf : TabOf X.K X.mg x aT := ⟨f0, c0, bm, oc0, od0, fd0, osl0, ob, b1, b2, b3, b4, b5, b6, b7, b8, b9, b10⟩
      obtain ⟨f9, oc9, od9, fd9, osl9, g1, g2, g3⟩ := C
      have ec : X.env.code = .ref c0 := by
        rw [b1] at g1
        cases g1
        rw [b2] at g2
        cases g2
        rw [← g3, b3]
      have eP : s2.heap.get? aT = some { cls := .none, data := .fields ps } := I2.hok aT _ q3
      have hgl : s2.heap.Ns mainGlobals X.mg := I2.mod.glob.keeps I2.bk
      have nbase : ∀ b o, X.base.get? b = some o → b ≠ aT := fun b o e z => by
        have := (I2.bs b o e).2
        rw [z, q3] at this; cases this
      have ngl : mainGlobals ≠ aT := by
        obtain ⟨o, _, _, e, _⟩ := I2.mod.glob
        exact nbase _ o e
      have ebm : X.base.get? bm = some ob := I2.mod.kin bm ob b7
      have hB : s2.heap.BuiltinsAt X.mg aT := ⟨bm, ob, b5, b6, ne_frame hgl (I2.bk _ _ ebm) (fun _ _ z => by rw [b10] at z; cases z), nbase _ _ ebm, I2.bk _ _ ebm, b8, b9, b10⟩
      have hCd : PySem.W.CodeHd s2.heap c0 aT := PySem.W.codeHd_of_K I2.kIn b4
      rcases tg with rfl | ⟨c', o', vs', t', rfl, w1, w2, w3⟩
      · refine PySem.W.kla_makeFunction hcl I.ok.glob hgl ec hCd eP trivial rfl ngl hB fun c' ctv h' tk hx hge hlt hrec hT => ?_
        refine PyProof.Rows.kws_nil ?_
        obtain ⟨c1, oc, vs1, t1, ez, eoc, ed, ev⟩ := hrec
        cases ez
        have hn : H1 c' = none := I2.hok.fresh hge
        have I3 := I2.tabbed (t' := tk) (oc := oc) (c' := c') q3 hge (fun b o hb e => Heap.get?_push_of_some (PySem.W.kla_obj "<lambda>" (X.env.qual ++ "<lambda>") (lamArgs pa) (lamBody p1 p2 p3 p4) lamScope [("rests", cc)] ((X.mg "__name__").getD .none) c' ctv) (hx b o hb e)) (Heap.get?_push_of_some _ hT) (Heap.get?_push_of_some _ eoc)
        have R2 := R1.mono (same_upd (o := .frz oc (.own 0)) hn)
        have hc3 : hid (upd H1 c' (.frz oc (.own 0))) (fob (un F S1) σ O) c' = some (.frz oc (.own 0)) := hid_some.mpr ⟨R1.fresh hn, upd_same⟩
        obtain ⟨R3, eh⟩ := R2.putT hΩ q1 q2 (by rw [upd_ne (ne_of_none q3 hn)]; exact q3) tOf (TabG.one c' oc vs1 t1 (ps := #[] ++ #[rawInt lp.line, rawInt lp.col, .ref c']) rfl hc3 ed ev)
        refine sortK_run hr hN hv hkd hcc ho I3 R3 (Heap.get?_push_size _ rfl) ⟨c', oc, vs1, t1, rfl, Heap.get?_push_of_some _ eoc, ed, ev⟩ (Heap.get?_push_of_some _ (hx _ _ ?_ hro)) hδ h3 h4 h5 h6 h7 h8 fun v H' R' sm rv => kk v ρ1 S1 H' R' l1 (v1.trans ?_) rv
        · intro z
          have hro' : s2.heap.get? ro = some _ := hro
          rw [z, eP] at hro'
          cases hro'
        · rw [eh] at sm
          exact (same_hid (same_upd hn)).trans sm
      · have hc3 := hid_some.mp w1
        obtain ⟨e3, _⟩ := I2.hok c' _ hc3.2
        refine PySem.W.kla_makeFunctionHit (cv := .ref c') hcl I.ok.glob hgl ec hCd eP trivial (by simp [codeAmong, rawInt]) hB fun ctv h' tk hx hge => ?_
        refine PyProof.Rows.kws_nil ?_
        have I3 : Inv X pins σ H1 { s2 with heap := h'.push (PySem.W.kla_obj "<lambda>" (X.env.qual ++ "<lambda>") (lamArgs pa) (lamBody p1 p2 p3 p4) lamScope [("rests", cc)] ((X.mg "__name__").getD .none) c' ctv), toks := tk } := I2.kept fun b o e => Heap.get?_push_of_some _ (hx b o e)
        exact sortK_run hr hN hv hkd hcc ho I3 R1 (Heap.get?_push_size _ rfl) ⟨c', o', vs', t', rfl, Heap.get?_push_of_some _ (hx _ _ e3), w2, w3⟩ (Heap.get?_push_of_some _ (hx _ _ hro)) hδ h3 h4 h5 h6 h7 h8 fun v H' R' sm rv => kk v ρ1 S1 H' R' l1 (v1.trans sm) rv
  · exact PyProof.Rows.callWith_type1 (thn (ha pos' pins s σ H (fun _ _ => False) I ⟨ρ₀, S₀, H₀, F, ρ, S, δ, Ω, R, .error y, _, e1, trivial⟩) fun us s1 ⟨vs, H1, I1, r1, q1⟩ => q1.elim) hs rfl
end
end DL
namespace DL
open PySem PySem.Spec PyProof.Rows L2
section
variable {P : Program} {w : World} {K : PySem.W.Frag} {mg : Str → Option Value} {base : Heap}
theorem fun_okC {x qual : Str} {st : Stmt} {f : Addr} {fd : FuncData} {N ps : List Str} {k : Nat} {sp : Sp} (F : Fun K x qual st f fd) (Sc : FnScope N ps (defScope st)) (len : ∀ vs H Q E, sp vs H Q E → vs.length = ps.length)
    (hbody : ∀ (A : Around) (outer : List Env) (s : Shared) (H : Hp) (vs : List V) (Q : VK) (E : XK), Room k (A.deeper (envOfC qual (defScope st) s.heap.objs.size f fd.code)) → sp vs H Q E →
      ∃ t, PSs (cxOf CX0 P w K mg base N qual (defScope st) f fd.code A outer s H E).nox (defBody st) t ∧ t { nx := fun _ H' => Q .non H', rt := Q } (L2.start N vs) H) : FnOk P w K mg base CX0 (k + 1) f fd ps sp := by
  obtain ⟨oc, od, kV, doc, pm, an, cdv, ct, osl, rfl, lk, hcd⟩ := F.ex
  refine fn_of lk hcd Sc len fun A outer s H vs Q E hr h => ?_
  obtain ⟨t, h1, h2⟩ := hbody A outer s H vs Q E hr h
  exact ⟨t, h1.nox, h2⟩
theorem calE_ofC {x : Str} {st : Stmt} {N ps : List Str} {k : Nat} {O' : List Nat} {g : DSt → MS Out} (hf : FunAt K mg x st ps) (Sc : FnScope N ps (defScope st))
    (hbody : ∀ (f : Addr) (cdv : Value) (A : Around) (outer : List Env) (s : Shared) (H : Hp) (E : XK), CdOf K mg x cdv → Room k (A.deeper (envOfC x (defScope st) s.heap.objs.size f cdv)) →
      MSs (cxOf CX0 P w K mg base N x (defScope st) f cdv A outer s H E).nox [] O' [] (defBody st) g) : CalE P w K mg base (k + 1) x ps.length (mirE ps.length N.length g) := by
  obtain ⟨f, fd, hm, FF, hb⟩ := hf
  have cd : CdOf K mg x fd.code := by
    obtain ⟨oc, od, kV, doc, pm, an, cdv, ct, osl, rfl, lk, hcd⟩ := FF.ex
    exact ⟨f, oc, od, _, osl, hm, lk, rfl⟩
  refine ⟨⟨f, fd, ps, rfl, hm, FF.kp, hb, ?_⟩, mirE_ar⟩
  refine fun_okC FF Sc (fun vs H Q E h => h.1) fun A outer s H vs Q E hr h => ?_
  obtain ⟨hl, ρ, S, F', ds, Ω, fin, ff, rp, sto, r, Ω', hmr, k0⟩ := h
  refine ⟨_, hbody f fd.code A outer s H E cd hr, ?_⟩
  have hpl : ps.length ≤ N.length := by have := congrArg List.length Sc.pre; rw [List.length_take] at this; omega
  have hdl : ds.length = ps.length := by rw [← rp.length]; exact hl
  unfold mirE at hmr
  rw [if_pos hdl] at hmr
  have R : RM ρ S H F' K mg [] ρ S H (L2.start N vs) (startD N.length ds) Ω := by
    refine ⟨⟨?_, same_un, fun b hb => ?_, fun i d hd _ => ?_, fun i hi => absurd hi (by simp), fun i hi => absurd hi (by simp)⟩, RLe.refl _, fun b o _ h => h, fun b h => h, fun b h => .inl h, fun i hi => absurd hi (by simp), ff, by rw [fob_nil]; exact sto⟩
    · simp [L2.start, startD, rp.length]
    · rcases un_t.mp hb with z | z
      · exact fin b z
      · exact sto.fin b z
    · obtain ⟨v, e, rv⟩ := rp.get (startD_get hd)
      exact ⟨v, start_set e, by rw [fob_nil]; exact rv⟩
  rcases MS.b_inv hmr with ⟨o, Ω1, e1, hmr⟩ | ⟨y, e1, rfl⟩
  · refine ⟨ρ, S, H, F', ρ, S, _, Ω, R, .ok o, Ω1, e1, ?_⟩
    cases o with
    | rt d =>
      cases hmr
      exact fun v ρ' S' H' T rv => k0 v ρ' S' H' T.rho T.same T.old T.new T.ff T.sto rv
    | nx δ =>
      cases hmr
      exact fun ρ' S' σ' H' R' _ _ => k0 .non ρ' S' H' R'.rt.rho R'.rt.same R'.rt.old R'.rt.new R'.rt.ff R'.rt.sto (rep_non.mpr rfl)
    | bk δ => cases hmr
    | ct δ => cases hmr
  · exact ⟨ρ, S, H, F', ρ, S, _, Ω, R, .error y, _, e1, trivial⟩
theorem law_spT {m : List D → MS D} {H : Hp} {a T : Addr} {ns : List Int} {x q : Str} {l c : Nat} {Ω' : Sto} (hT : H T = some (.tbl #[])) (ht : TabOf K mg x T) (hS : SqL K H a (ns.map V.int)) (h : m [.lst (ns.map .int)] [.tab x l c q] = some (.ok (.bl true), Ω')) :
    spE K mg 1 m [.ref a] H (fun v _ => v = .bl true) fun _ _ _ => False := by
  refine ⟨rfl, fun i => if i = 0 then some T else none, fun b => decide (b = T), fun _ => false, [.lst (ns.map .int)], [.tab x l c q], (fun b hb => by cases hb), (fun b hb => by cases hb), Reps.cons (rep_lst.mpr ⟨a, _, rfl, ?_, reps_ints.mpr rfl⟩) Reps.nil,
    ⟨fun i so hi => ?_, fun i j a h1 h2 => ?_, fun i hi => ?_, fun b hb => ?_⟩, _, _, h, fun v ρ' S' H' _ _ _ _ _ _ r => rep_bl.mp r⟩
  · have vis : ∀ o, H a = some o → o ≠ .tbl #[] → hid H (un (fun _ => false) fun b => decide (b = T)) a = some o := fun o e n => by
      refine hid_some.mpr ⟨un_f.mpr ⟨rfl, decide_eq_false ?_⟩, e⟩
      rintro rfl
      rw [hT] at e
      cases e
      exact n rfl
    rcases hS with (z | ⟨o, z⟩) | z
    · exact .inl (.inl (vis _ z (fun z => nomatch z)))
    · exact .inl (.inr ⟨o, vis _ z (fun z => nomatch z)⟩)
    · exact .inr z
  · cases i with
    | zero => cases hi; exact ⟨T, rfl, decide_eq_true rfl, #[], hT, ht, .nil rfl⟩
    | succ i => cases hi
  · by_cases e1 : i = 0
    · by_cases e2 : j = 0
      · rw [e1, e2]
      · rw [if_neg e2] at h2; cases h2
    · rw [if_neg e1] at h1; cases h1
  · rw [if_neg]
    intro z
    rw [z] at hi
    exact absurd hi (by simp)
  · rw [of_decide_eq_true hb, hT]; simp
end
noncomputable def dropT (T : Addr) (K : PySem.W.Frag) : PySem.W.Frag := K.filter fun p => !(p.1 == T)
section
variable {K : PySem.W.Frag} {T a : Addr}
theorem dropT_ne (h : a ≠ T) : (dropT T K).lookup a = K.lookup a := by
  unfold dropT
  induction K with
  | nil => rfl
  | cons p K ih =>
    obtain ⟨b, o⟩ := p
    by_cases hb : b = T
    · rw [List.filter_cons_of_neg (by simp [hb]), ih, List.lookup_cons, beq_eq_false_iff_ne.mpr (by rw [hb]; exact h)]
    · rw [List.filter_cons_of_pos (by simp [hb]), List.lookup_cons, List.lookup_cons, ih]
theorem dropT_eq : (dropT T K).lookup T = none := by
  unfold dropT
  induction K with
  | nil => rfl
  | cons p K ih =>
    obtain ⟨b, o⟩ := p
    by_cases hb : b = T
    · rw [List.filter_cons_of_neg (by simp [hb]), ih]
    · rw [List.filter_cons_of_pos (by simp [hb]), List.lookup_cons, beq_eq_false_iff_ne.mpr (fun z => hb z.symm), ih]
theorem dropT_of {o : Obj} (h : (dropT T K).lookup a = some o) : a ≠ T ∧ K.lookup a = some o := by
  by_cases e : a = T
  · subst e; rw [dropT_eq] at h; cases h
  · exact ⟨e, by rw [← dropT_ne e]; exact h⟩
variable (hT : K.lookup T = some ⟨.none, none, .fields #[], #[]⟩)
include hT
theorem dt_ns {n : Addr} {x : Str} {r : Option Value} (h : PySem.W.nsIn K n x = some r) : PySem.W.nsIn (dropT T K) n x = some r := by
  unfold PySem.W.nsIn at h ⊢
  rw [dropT_ne]
  · exact h
  · rintro rfl
    rw [hT] at h
    cases h
theorem dt_fn {f : Addr} {oc : Value} {od : Option Addr} {fd : FuncData} {osl : Array (Option Value)} (h : K.lookup f = some ⟨oc, od, .func fd, osl⟩) : (dropT T K).lookup f = some ⟨oc, od, .func fd, osl⟩ := by
  rw [dropT_ne]
  · exact h
  · rintro rfl
    rw [hT] at h
    cases h
theorem dt_code {cd : Value} {x : Str} (h : PySem.W.codeIn K cd x = true) : PySem.W.codeIn (dropT T K) cd x = true := by
  unfold PySem.W.codeIn at h ⊢
  cases cd with
  | ref c =>
    dsimp only at h ⊢
    rw [dropT_ne]
    · exact h
    · rintro rfl
      rw [hT] at h
      cases h
  | _ => cases h
theorem dt_keep {f : Addr} {oc : Value} {od : Option Addr} {fd : FuncData} {osl : Array (Option Value)} (h : K.lookup f = some ⟨oc, od, .func fd, osl⟩) : PySem.W.keepIn (dropT T K) (.ref f) = true := by
  unfold PySem.W.keepIn
  dsimp only
  rw [dt_fn hT h]
theorem dt_hd {c P : Addr} (h : PySem.W.codeHdIn K c P = true) : PySem.W.codeHdIn (dropT T K) c P = true := by
  unfold PySem.W.codeHdIn at h ⊢
  rw [dropT_ne]
  · exact h
  · rintro rfl
    rw [hT] at h
    cases h
theorem dt_mod {bm d : Addr} {sl : Array (Option Value)} (h : K.lookup bm = some ⟨.type "module", some d, .plain, sl⟩) : (dropT T K).lookup bm = some ⟨.type "module", some d, .plain, sl⟩ := by
  rw [dropT_ne]
  · exact h
  · rintro rfl
    rw [hT] at h
    cases h
end
end DL
namespace DL
open PySem PySem.Spec PyProof.Rows L2
theorem law_callT {P : Program} {w : World} {K : PySem.W.Frag} {mg mb : Str → Option Value} {k : Nat} {fa a T : Addr} {fd : FuncData} {x : Str} {sp : Sp} {s₁ : Shared} {vs : List Value} {ns : List Int}
    (KX : K.In s₁.heap) (hKT : K.lookup T = none) (hT : s₁.heap.get? T = some { cls := .none, data := .fields #[] }) (hct : isCodeTable s₁.heap T) (hns : s₁.heap.Ns mainGlobals mg) (hb : s₁.heap.Ns builtinsNs mb) (hbb : ∀ x : Str, x ≠ "__name__" → mb x = bootBuiltins x) (hlim : s₁.heap.NoLimit) (hg : s₁.gens = #[])
    (ha : s₁.heap.get? a = some { cls := .type "list", data := .seq vs.toArray }) (hi : IntsAre vs ns) (hl : ns.length ≤ sizeLine) (hr : Room k callerA)
    (F : ∀ base : Heap, K.In base → base.Ns mainGlobals mg → FnOk P w K mg base CX0 k fa fd [x] sp) (hbind : ∀ (s : Shared) (u : Value), BindsTo s fd ⟨[u], []⟩ [(x, u)])
    (hsp : ∀ H : Hp, H T = some (.tbl #[]) → SqL K H a (ns.map V.int) → sp [.ref a] H (fun v _ => v = .bl true) fun _ _ _ => False) :
    codeAny (model P w) callerA (.call (.ref fa) ⟨[.ref a], []⟩) (fun r s' => r = .ok (.ret (.bool true)) ∧ OldK s₁.heap s'.heap ∧ s'.os = s₁.os ∧ AllBare s'.gens) s₁ := by
  have rv := vals_ints hi
  have lenV := hi.length
  have naT : a ≠ T := fun z => by rw [z, hT] at ha; cases ha
  have core : ∀ H : Hp, H T = some (.tbl #[]) → SqL K H a (ns.map V.int) → HOk P w H s₁.heap → (∀ b, H b ≠ none → b = T ∨ (b = a ∧ K.lookup a = none ∧ ∃ o u, H a = some (.frz o u))) →
      codeAny (model P w) callerA (.call (.ref fa) ⟨[.ref a], []⟩) (fun r s' => r = .ok (.ret (.bool true)) ∧ OldK s₁.heap s'.heap ∧ s'.os = s₁.os ∧ AllBare s'.gens) s₁ := by
    intro H hHT hS hok hA
    have noD : ∀ {b : Addr} {o : Obj} {es : Array DictEntry} {ep : Nat}, s₁.heap.get? b = some o → o.data = .dict es ep → H b = none := fun {b o es ep} e d => by
      cases q : H b with
      | none => rfl
      | some u =>
        rcases hA b (by rw [q]; simp) with z | ⟨z, _⟩
        · subst z
          rw [hT] at e; cases e; cases d
        · subst z
          rw [ha] at e; cases e; cases d
    have nsK : ∀ {b : Addr} {m : Str → Option Value}, s₁.heap.Ns b m → (hidT s₁.heap H).Ns b m := fun {b m} ⟨o, es, ep, e, d, r⟩ => ⟨o, es, ep, hidT_get e (noD e d), d, r⟩
    have hKb : K.In (hidT s₁.heap H) := fun b o e => hidT_get (KX b o e) (by
      cases q : H b with
      | none => rfl
      | some u =>
        rcases hA b (by rw [q]; simp) with z | ⟨z, z2, _⟩
        · subst z; rw [hKT] at e; cases e
        · subst z; rw [z2] at e; cases e)
    have hM : Mod K mg (hidT s₁.heap H) := ⟨hKb, nsK hns, ⟨mb, nsK hb, hbb⟩, let ⟨mc, h1, h2⟩ := hlim; ⟨mc, nsK h1, h2⟩⟩
    have e0 : Env0 P w K mg (hidT s₁.heap H) callerA [] s₁ H := ⟨rfl, hM, fun b o e => of_hidT e, Nat.le_of_eq (hidT_size _ _), trivial, fun b hb => absurd (show b ∈ ([] : List Addr) from hb) (by simp), hok, .of_eq hg⟩
    refine codeAny_mono ((F _ hKb (nsK hns)).run callerA [] s₁ H ⟨[.ref a], []⟩ [.ref a] [.ref a] _ _ hr e0 (hbind s₁ (.ref a)) (.cons rfl .nil) (hsp H hHT hS)) fun r s' h => ?_
    cases r with
    | error e => exact False.elim h
    | ok fl =>
      cases fl with
      | next => exact False.elim h
      | brk => exact False.elim h
      | cont => exact False.elim h
      | ret u =>
        obtain ⟨v, H', os, bare, un, hok', r', q⟩ := h
        have q' : v = .bl true := q
        subst q'
        obtain rfl : u = Value.bool true := r'
        have keep : ∀ b o, b ≠ T → s₁.heap.get? b = some o → s'.heap.get? b = some o := fun b o n e => by
          cases q : H b with
          | none => exact un.keep b o e q (by intro z; exact absurd (show b ∈ ([] : List Addr) from z) (by simp)) (by simp)
          | some u =>
            rcases hA b (by rw [q]; simp) with z | ⟨z, _, ob, u', z3⟩
            · exact absurd z n
            · subst z
              obtain ⟨e1, _⟩ := hok b _ z3
              obtain ⟨e2, _⟩ := hok' b _ (un.frzs b ob u' z3)
              rw [e] at e1; cases e1
              exact e2
        obtain ⟨more, eT⟩ := un.tbls T #[] hHT
        have eT' : s'.heap.get? T = some { cls := .none, data := .fields (#[] ++ more) } := hok' T _ eT
        refine ⟨rfl, ⟨fun b o e => ?_, fun b o e => ?_⟩, os, bare⟩
        · by_cases z : b = T
          · subst z
            rw [hT] at e
            cases e
            exact .inr (.inl ⟨hct, rfl, #[], more, rfl, eT'⟩)
          · exact .inl (keep b o z e)
        · by_cases z : b = T
          · subst z; exact ⟨_, eT'⟩
          · exact ⟨o, keep b o z e⟩
  cases hk : K.lookup a with
  | some o =>
    have e := KX a o hk
    rw [ha] at e
    cases e
    refine core (fun b => if b = T then some (.tbl #[]) else none) (if_pos rfl) (.inr ⟨_, vs.toArray, _, hk, rfl, rfl, rfl, by rw [List.size_toArray, lenV]; exact hl, by simpa using rv⟩) (fun b u z => ?_) fun b z => ?_
    · by_cases hbT : b = T
      · have z' := (if_pos hbT).symm.trans z
        cases z'
        subst hbT
        exact hT
      · have z' := (if_neg hbT).symm.trans z
        cases z'
    · by_cases hbT : b = T
      · exact .inl hbT
      · exact absurd (if_neg hbT) z
  | none =>
    have eA : (fun b => if b = T then some (HO.tbl #[]) else if b = a then some (.frz { cls := .type "list", data := .seq vs.toArray } (.lst (ns.map V.int))) else none) a = some (.frz { cls := .type "list", data := .seq vs.toArray } (.lst (ns.map V.int))) := by
      show (if a = T then _ else _) = _
      rw [if_neg naT, if_pos rfl]
    refine core (fun b => if b = T then some (HO.tbl #[]) else if b = a then some (.frz { cls := .type "list", data := .seq vs.toArray } (.lst (ns.map V.int))) else none) (if_pos rfl) (.inl (.inr ⟨_, eA⟩)) (fun b u z => ?_) fun b z => ?_
    · by_cases hbT : b = T
      · have z' := (if_pos hbT).symm.trans z
        cases z'
        subst hbT
        exact hT
      · have z' := (if_neg hbT).symm.trans z
        by_cases hba : b = a
        · rw [if_pos hba] at z'
          cases z'
          subst hba
          exact ⟨ha, by rw [List.length_map]; exact hl, vs, _, rv, ha⟩
        · rw [if_neg hba] at z'; cases z'
    · by_cases hbT : b = T
      · exact .inl hbT
      · by_cases hba : b = a
        · exact .inr ⟨hba, hk, _, _, eA⟩
        · exact absurd (by show (if b = T then _ else _) = _; rw [if_neg hbT, if_neg hba]) z
inductive LawT (P : Program) (w : World) (K : PySem.W.Frag) (mg : Str → Option Value) (n k : Nat) (x : Str) (fa : Addr) : Prop
  | mk (T c : Addr) (fd : FuncData) (sp : Sp) (h1 : K.lookup T = some ⟨.none, none, .fields #[], #[]⟩) (h2 : PySem.W.codeHdIn K c T = true) (h3 : ∀ (s : Shared) (u : Value), BindsTo s fd ⟨[u], []⟩ [(x, u)])
      (h4 : ∀ base : Heap, (dropT T K).In base → base.Ns mainGlobals mg → FnOk P w (dropT T K) mg base CX0 k fa fd [x] sp)
      (h5 : ∀ (H : Hp) (a : Addr) (ns : List Int), ns.length ≤ n → H T = some (.tbl #[]) → SqL (dropT T K) H a (ns.map V.int) → sp [.ref a] H (fun v _ => v = .bl true) fun _ _ _ => False)
theorem walk_ofT {l : PySem.W.OpenLaw} {n k : Nat} {q : Program} {loose : List Str} {XP : (Str → Option Value) → Heap → Prop} {YP : World → Heap → Prop} {d : DefRec} {K : Params → PySem.W.Frag} {x : Str}
    (hn : l.most = some n) (hn2 : n ≤ sizeLine) (hdf : d.params.defaults = []) (hr : Room k callerA) (hY : ∀ (w : World) (h : Heap), YP w h → (K w.params).In h)
    (F : ∀ (w : World) (mg : Str → Option Value) (fa : Addr) (h : Heap), (K w.params).In h → h.Ns mainGlobals mg → mg d.name = some (.ref fa) → LawT l.prog w (K w.params) mg n k x fa) :
    PySem.W.WalkO q loose XP YP l.row.toRowW d [] (fun f vs => PySem.call f vs) := by
  refine Att.attach_call hn hdf fun w s₀ s₁ mg mb fa o pm cd doc a vs ns G Y ho hd hcd hmg hobj hints hlen hg => ?_
  have KX := hY w _ Y
  obtain ⟨T, c, fd, sp, h1, h2, h3, h4, h5⟩ := F w mg fa _ KX G.T.g hmg
  have hct : isCodeTable s₁.heap T := by
    obtain ⟨o, vs, _, _, _, _, _, _, _, e1, e2, e3, e4, _⟩ := PySem.W.codeHd_of_K KX h2
    exact ⟨c, o, vs, e1, e2, e3, e4⟩
  exact law_callT (fun b o e => KX b o (dropT_of e).2) dropT_eq (KX T _ h1) hct G.T.g G.T.b G.T.builtins G.T.nolimit hg hobj hints (Nat.le_trans hlen hn2) hr h4 h3 fun H e1 e2 => h5 H a ns hlen e1 e2
end DL
namespace DL
open PySem PySem.Spec PyProof.Rows L2
theorem comp_inO {ρ : Rho} {K : PySem.W.Frag} {O : List Nat} {E : XK} {own : Nat} {caps : List (Str × Nat)} {fi : DSt → M (List D)} {h : D → DSt → Option DSt} {tc : DSt → M Bool} {fe : DSt → M D} {σ : L2.St} {H₀ H : Hp} {F : Addr → Bool} {δ : DSt} {Q : VK} {d : D} (hcf : capsFree O caps = true)
    (R : RS ρ K H₀ H F O σ δ) (hf : fComp own caps fi h tc fe δ = some (.ok d))
    (k : ∀ tot, d = .lst tot → ∀ (Dd : Addr) zs H1 H', Same H H1 → H1 Dd = none → Same H1 H' → H' Dd = some (.lst zs) → Reps ρ K (hid H' fun b => fob F σ O b || b == Dd) tot zs → Q (.ref Dd) H') : tComp own caps (tI K O E fi) (tG K [] h) (tB K [] E0 tc) (tD K [] E0 fe) σ H Q := by
  rcases M.b_inv hf with ⟨ds, e1, hf⟩ | ⟨y, e1, z⟩
  · refine ⟨ρ, H₀, F, δ, .ok ds, R, e1, fun J H1 s1 it Dd hD => ?_⟩
    obtain ⟨dd, hd, ee⟩ := M.o_inv hf
    cases ee
    cases hcd : compD h tc fe ds (innerD own caps δ) with
    | none => rw [hcd] at hd; cases hd
    | some tot =>
      rw [hcd] at hd
      have hd' : gLstD tot = some d := hd
      unfold gLstD at hd'
      split at hd'
      · rename_i hz
        cases hd'
        have R1 := R.mono s1
        have pf := R1.fresh hD
        let F' : Addr → Bool := fun b => fob F σ O b || b == Dd
        have F't : ∀ b, F' b = true ↔ fob F σ O b = true ∨ b = Dd := fun b => by show (_ || _) = true ↔ _; rw [Bool.or_eq_true, beq_iff_eq]
        have vis : ∀ {H2 : Hp}, Same H1 H2 → Same (hid H1 (fob F σ O)) (hid H2 F') := fun {H2} e b o q => by
          obtain ⟨q1, q2⟩ := hid_some.mp q
          refine hid_some.mpr ⟨?_, e b o q2⟩
          cases z : F' b with
          | false => rfl
          | true =>
            rcases (F't b).mp z with z | z
            · rw [q1] at z; cases z
            · rw [z, hD] at q2; cases q2
        have R0 : RS ρ K H1 (upd H1 Dd (.lst [])) F' [] (innerSt own caps σ) (innerD own caps δ) := by
          refine ⟨by simp [innerSt, innerD], same_upd hD, fun b hb => ?_, fun i d hd _ => ?_, fun i hi => absurd hi (by simp), fun i hi => absurd hi (by simp)⟩
          · rcases (F't b).mp hb with z | z
            · refine upd_nn fun q => ?_
              rw [R1.fresh q] at z; cases z
            · rw [z, upd_same]; exact fun q => nomatch q
          · obtain ⟨p, p1, p2, p3⟩ := innerD_get hd
            have hO : p.2 ∉ O := fun z => by
              have := List.all_eq_true.mp hcf p (List.mem_of_getElem? p1)
              rw [List.contains_iff_mem.mpr z] at this; cases this
            obtain ⟨v, q1, q2⟩ := R1.val p.2 d p3 hO
            exact ⟨v, inner_set p1 p2 q1, by rw [fob_nil]; exact q2.mono (vis (same_upd hD))⟩
        refine ⟨fun i m σ' H' => m = ds.length - i ∧ i ≤ ds.length ∧ ∃ δ' done zs rest, RS ρ K H1 H' F' [] σ' δ' ∧ H' Dd = some (.lst zs) ∧ Reps ρ K (hid H' F') done zs ∧ compD h tc fe (ds.drop i) δ' = some rest ∧ done ++ rest = tot,
          ⟨ds.length, by simp, Nat.zero_le _, _, [], [], tot, R0, upd_same, Reps.nil, hcd, rfl⟩, ?_⟩
        rintro i m σ' H' ⟨rfl, hil, δ', done, zs, rest, R', hDd, rz, hr, htot⟩
        have fv : Same (hid H1 (fob F σ O)) (hid H' (fob F' σ' [])) := by rw [fob_nil]; exact vis R'.same
        obtain ⟨j1, j2⟩ := it H' (fob F' σ' []) i fv fun p hp => R'.fresh hp
        by_cases hlt : i < ds.length
        · obtain ⟨go, yld⟩ := j1 hlt
          refine .inr ⟨go, fun σ2 H2 => ∃ δ2 done zs rest, RS ρ K H1 H2 F' [] σ2 δ2 ∧ H2 Dd = some (.lst zs) ∧ Reps ρ K (hid H2 F') done zs ∧ compD h tc fe (ds.drop (i + 1)) δ2 = some rest ∧ done ++ rest = tot,
            fun σ2 H2 q => ⟨ds.length - (i + 1), by omega, rfl, hlt, q⟩, fun x H2 y => ?_⟩
          obtain ⟨s2, d, hd, rd⟩ := yld x H2 y
          have hdr : ds.drop i = d :: ds.drop (i + 1) := by
            rw [List.drop_eq_getElem_cons hlt]
            have : ds[i] = d := by rw [List.getElem?_eq_getElem hlt] at hd; exact Option.some.inj hd
            rw [this]
          rw [hdr] at hr
          unfold compD at hr
          cases e2 : h d δ' with
          | none => rw [e2] at hr; cases hr
          | some δ1 =>
            rw [e2] at hr
            dsimp only at hr
            refine ⟨ρ, H1, F', δ', d, δ1, R'.mono s2, rd, e2, fun σ3 ef R3 => ?_⟩
            have keepD : ∀ {H5 : Hp}, Same H2 H5 → H5 Dd = some (.lst zs) ∧ Reps ρ K (hid H5 F') done zs := fun {H5} e => ⟨e _ _ (s2 _ _ hDd), rz.mono (same_hid (s2.trans e))⟩
            split at hr
            · rename_i e3
              refine ⟨ρ, H1, F', δ1, .ok true, R3, e3, fun H4 s4 => iteT ?_⟩
              split at hr
              · rename_i yv e4
                refine ⟨ρ, H1, F', δ1, .ok yv, R3.mono s4, e4, fun v H5 s5 r5 => ?_⟩
                rw [fob_nil] at r5
                obtain ⟨k1, k2⟩ := keepD (s4.trans s5)
                cases e5 : compD h tc fe (ds.drop (i + 1)) δ1 with
                | none => rw [e5] at hr; cases hr
                | some rest' =>
                  rw [e5] at hr
                  have hr' : yv :: rest' = rest := Option.some.inj hr
                  have hFD : F' Dd = true := (F't Dd).mpr (.inr rfl)
                  have hh : hid (upd H5 Dd (.lst (zs ++ [v]))) F' = hid H5 F' := hid_upd hFD
                  refine ⟨zs, k1, ?_, δ1, done ++ [yv], zs ++ [v], rest', ?_, upd_same, ?_, e5, by rw [List.append_assoc, ← htot, ← hr']; rfl⟩
                  · have l1 := k2.length
                    have l2 := congrArg List.length htot
                    rw [List.length_append, ← hr', List.length_cons] at l2
                    omega
                  · have R5 := R3.mono (s4.trans s5)
                    refine ⟨R5.len, same_upd0 R5.same hD, fun b hb => upd_nn (R5.fin b hb), fun j d' hj hO => ?_, fun j hj => absurd hj (by simp), fun j hj => absurd hj (by simp)⟩
                    obtain ⟨v', w1, w2⟩ := R5.val j d' hj hO
                    refine ⟨v', w1, ?_⟩
                    rw [fob_nil] at w2 ⊢
                    rw [hh]; exact w2
                  · rw [hh]
                    exact k2.append (Reps.cons r5 Reps.nil)
              · cases hr
            · rename_i e3
              refine ⟨ρ, H1, F', δ1, .ok false, R3, e3, fun H4 s4 => iteF ?_⟩
              obtain ⟨k1, k2⟩ := keepD s4
              exact ⟨δ1, done, zs, rest, R3.mono s4, k1, k2, hr, htot⟩
            · cases hr
        · have ei : i = ds.length := by omega
          subst ei
          rw [List.drop_length] at hr
          cases hr
          rw [List.append_nil] at htot
          subst htot
          exact .inl ⟨j2 rfl, k _ rfl Dd zs H1 H' s1 hD R'.same hDd rz⟩
      · cases hd'
  · cases z
section
variable {X : Cx} {O B : List Nat} {E : XK} {elt tg iter e : Expr} {pos : Pos} {fa fb : DSt → M D}
theorem ds_ownC {i : Nat} {x : Str} {pos' cpos : Pos} {ifs : List Expr} {scope : Scope} {own : List Str} {caps : List (Str × Nat)} {fi : DSt → M (List D)} {h : D → DSt → Option DSt} {tc : DSt → M Bool} {fe : DSt → M D} (hN : X.N.Nodup) (hc : X.calm = true) (ck : CapsOk X scope caps) (hi : DI X O E tg iter fi)
    (hg : ∀ C s0 H0 ex, DG (compCx X scope (own ++ caps.map (·.1)) C s0 H0 ex) [] tg h) (ht : ∀ C s0 H0 ex, DC (compCx X scope (own ++ caps.map (·.1)) C s0 H0 ex) [] E0 ifs tc)
    (he : ∀ C s0 H0 ex, DE (compCx X scope (own ++ caps.map (·.1)) C s0 H0 ex) [] E0 elt fe) (ho : autoParam (O.contains i = false) zau2._auto_1) (hix : autoParam (X.N[i]? = some x) zau2._auto_1) (hx : autoParam (Loc X.env.scope x) zau8._auto_1)
    (hsw : autoParam (swapsWith (.ListComp elt [⟨tg, iter, ifs, 0⟩] scope cpos) (some (.Name x pos')) pos.line X.env = pure true) zau2._auto_1)
    (hf : autoParam (X.fn x = true ∨ X.env.scope.names.lookup x = some .local) zau0._auto_1) (hcf : autoParam (capsFree O caps = true) zau2._auto_1) (hs : autoParam (∀ x, foldedSetIterable iter X.env x = pure x) zau4._auto_1) :
    DS X O (i :: O) B E (.Assign [.Name x pos'] (.ListComp elt [⟨tg, iter, ifs, 0⟩] scope cpos) pos) (gSet i (fComp own.length caps fi h tc fe)) := by
  rintro pins s σ H Dn I ⟨ρ, H₀, F, δ, r, R, hg', k⟩
  have ho' : i ∉ O := fun z => by rw [List.contains_iff_mem.mpr z] at ho; cases ho
  have hl : i < δ.length := by rw [← R.len, I.len]; exact (List.getElem?_eq_some_iff.mp hix).1
  refine ps_setC (own := own) (g := tG X.K [] h) (tc := tB X.K [] E0 tc) (te := tD X.K [] E0 fe) hc ck hi hg ht he hN hix hx hsw hf hs pins s σ H Dn I ?_
  rcases M.b_inv hg' with ⟨d, e1, hg'⟩ | ⟨y, e1, rfl⟩
  · cases hg'
    refine comp_inO hcf R e1 fun tot ht Dd zs H1 H' s1 hD s2 hDd rz => ?_
    subst ht
    let H3 : Hp := fun b => if b = Dd then none else H' b
    have h3 : H3 Dd = none := if_pos rfl
    have n3 : ∀ b, b ≠ Dd → H3 b = H' b := fun b hb => if_neg hb
    have e3 : upd H3 Dd (.lst zs) = H' := by
      funext b
      by_cases hb : b = Dd
      · subst hb; rw [upd_same, hDd]
      · rw [upd_ne hb, n3 b hb]
    have s3 : Same H H3 := fun b o q => by
      have q1 := s1 b o q
      rw [n3 b (ne_of_none q1 hD)]
      exact s2 b o q1
    have eh : hid H3 (fob F σ O) = hid H' (fun b => fob F σ O b || b == Dd) := by
      funext b
      unfold hid
      by_cases hb : b = Dd
      · subst hb
        rw [h3]
        simp
      · rw [n3 b hb]
        have : (b == Dd) = false := by simpa using hb
        simp only [this, Bool.or_false]
    have T := R.take (i := i) (ds := tot) (xs := zs) ho' hl s3 h3 (by rw [eh]; exact rz)
    rw [e3] at T
    refine k _ _ ?_ T
    have pf := (R.mono s3).fresh h3
    have lσ : i < σ.length := by rw [R.len]; exact hl
    intro b o q
    obtain ⟨q1, q2⟩ := hid_some.mp q
    have q3 := s3 b o q2
    have hb : b ≠ Dd := ne_of_none q3 h3
    refine hid_some.mpr ⟨?_, by rw [← n3 b hb]; exact q3⟩
    cases z : fob F (σ.set i (some (.ref Dd))) (i :: O) b with
    | false => rfl
    | true =>
      rcases fob_t.mp z with z | ⟨j, hj, z⟩
      · rw [fob_t.mpr (.inl z)] at q1; cases q1
      · rcases List.mem_cons.mp hj with rfl | hj
        · rw [List.getElem?_set_self lσ] at z
          cases z
          exact absurd rfl hb
        · rw [List.getElem?_set_ne (by rintro rfl; exact ho' hj)] at z
          rw [fob_t.mpr (.inr ⟨j, hj, z⟩)] at q1; cases q1
  · exact comp_in hcf ⟨ρ, H₀, F, δ, .error y, R, e1, k⟩
noncomputable def gAugIx (i : Nat) (fi fv : DSt → M D) : DSt → M Out := fun δ => (fi δ).b fun k => match (δ[i]?).join, k with
  | some (.lst ds), .int k => if 0 ≤ k then match ds[k.toNat]? with
      | some (.int c) => (fv δ).b fun d => match d with
        | .int d => M.p (.nx (δ.set i (some (.lst (ds.set k.toNat (.int (c + d)))))))
        | _ => none
      | _ => none
    else none
  | _, _ => none
theorem ds_augix {i : Nat} {x : Str} {ix : Expr} {p1 p2 : Pos} (ho : O.contains i = true) (hix : DE X O E ix fb) (he : DE X O E e fa) (hi : autoParam (X.N[i]? = some x) zau2._auto_1) (hv : autoParam (Vis X.env.scope x) zau5._auto_1)
    (hd : autoParam ((x == ("__debug__" : Str)) = false) zau1._auto_1) (hcd : autoParam ((x == ("__classdict__" : Str)) = false) zau1._auto_1)
    (ha : autoParam (∀ ov iv new, augStore ix ov iv new = (do holding [new, ov, iv] (setItem ov iv new); release [new, ov, iv] []; pure .next)) zau3._auto_1) : DS X O O B E (.AugAssign (.Subscript (.Name x p1) ix p2) .Add e pos) (gAugIx i fb fa) := by
  rintro pins s σ H Dn I ⟨ρ, H₀, F, δ, r, R, hg, k⟩
  have ho' : i ∈ O := List.contains_iff_mem.mp ho
  refine ps_augS (pe_var hi hv hd hcd) hix get_listN he ip_add set_list ha pins s σ H Dn I ?_
  obtain ⟨l, xs0, ds0, q1, q2, q3, q4, q5⟩ := R.own i ho'
  have hj : (δ[i]?).join = some (.lst ds0) := by rw [q1]; rfl
  refine ⟨.ref l, q2, ?_⟩
  rcases M.b_inv hg with ⟨kk, e1, hg⟩ | ⟨y, e1, rfl⟩
  · refine ⟨ρ, H₀, F, δ, .ok kk, R, e1, fun w H1 s1 r1 => ?_⟩
    rw [hj] at hg
    cases kk with
    | int n =>
      dsimp only at hg
      by_cases h0 : 0 ≤ n
      · rw [if_pos h0] at hg
        cases hc : ds0[n.toNat]? with
        | none => rw [hc] at hg; cases hg
        | some cc =>
          rw [hc] at hg
          cases cc with
          | int c =>
            dsimp only at hg
            have R1 := R.mono s1
            obtain ⟨l1, xs1, ds1, a1, a2, a3, a4, a5⟩ := R1.own i ho'
            rw [q2] at a2; cases a2
            rw [q1] at a1; cases a1
            obtain ⟨v, hv, rv⟩ := a5.get hc
            refine ⟨l, xs1, n, v, rfl, rep_int.mp r1, h0, SqL.of a3, hv, ?_⟩
            rcases M.b_inv hg with ⟨d, e2, hg⟩ | ⟨y, e2, rfl⟩
            · refine ⟨ρ, H₀, F, δ, .ok d, R1, e2, fun u H2 s2 r2 => ?_⟩
              cases d with
              | int dd =>
                cases hg
                have R2 := R.mono (s1.trans s2)
                obtain ⟨l2, xs, ds, b1, b2, b3, b4, b5⟩ := R2.own i ho'
                rw [q2] at b2; cases b2
                rw [q1] at b1; cases b1
                have hlt : n.toNat < ds0.length := (List.getElem?_eq_some_iff.mp hc).1
                refine ⟨c, dd, rep_int.mp rv, rep_int.mp r2, l, xs, n, n.toNat, rfl, rep_int.mp r1, b3, ?_, ?_⟩
                · have hb := b5.length
                  unfold ixN
                  rw [if_pos h0, if_pos (by omega)]
                · refine k σ _ ?_ (R2.write ho' q2 (b5.set (rep_int.mpr rfl) n.toNat))
                  rw [hid_upd (fob_t.mpr (.inr ⟨i, ho', q2⟩))]
                  exact same_hid (s1.trans s2)
              | _ => cases hg
            · exact ⟨ρ, H₀, F, δ, .error y, R1, e2, k⟩
          | _ => cases hg
      · rw [if_neg h0] at hg; cases hg
    | _ => cases hg
  · exact ⟨ρ, H₀, F, δ, .error y, R, e1, k⟩
noncomputable def sortI (ns : List Int) : List Int := ns.mergeSort fun a b => decide (a ≤ b)
theorem sortI_perm (ns : List Int) : (sortI ns).Perm ns := List.mergeSort_perm _ _
theorem sortI_pw (ns : List Int) : (sortI ns).Pairwise (· ≤ ·) := by
  have := List.pairwise_mergeSort (le := fun a b : Int => decide (a ≤ b)) (by simp only [decide_eq_true_eq]; intro a b c; omega) (by intro a b; rw [Bool.or_eq_true, decide_eq_true_eq, decide_eq_true_eq]; omega) ns
  exact this.imp fun h => by simpa using h
theorem sortI_eq {ms ns : List Int} (h : ms.Perm ns) (p : ms.Pairwise (· ≤ ·)) : ms = sortI ns :=
  List.Perm.eq_of_pairwise (fun a b _ _ h1 h2 => Int.le_antisymm h1 h2) p (sortI_pw ns) (h.trans (sortI_perm ns).symm)
theorem call_sortedI : CallR X (.builtin "sorted") (fun xs H Q => ∃ p, ∃ ns : List Int, xs = [.ref p] ∧ SqL X.K H p (ns.map V.int) ∧ ns.length < 64 ∧ ∀ l, H l = none → Q (.ref l) (upd H l (.lst ((sortI ns).map V.int)))) := by
  intro pins s σ H xs us Q I r h
  obtain ⟨p, ns, rfl, hq, hl, q⟩ := h
  obtain ⟨u, rfl, rx⟩ := vals1 r
  cases rx
  obtain ⟨its, r', pl, hz⟩ := I.list hq
  have hlen := r'.length
  rw [List.length_map] at hlen
  refine sorted_ints pl.isList (intsAre_of r') (by omega) fun out ns' hi hp hs => ?_
  have hn := sortI_eq hp hs
  subst hn
  obtain ⟨e, he⟩ := sortedAll_at s.heap its out
  have z : (sortI ns).length ≤ sizeLine := by rw [(sortI_perm ns).length_eq]; have : sizeLine = 16777216 := sizeLine_eq; omega
  refine ⟨.ref (s.heap.objs.size + 1), _, I.laid (t' := s.toks) (o := .lst ((sortI ns).map V.int)) (fun b o' q' => sortedAll_old q') (Nat.le_succ _) ⟨by rw [List.length_map]; exact z, out.toList, e, vals_ints hi, ?_⟩, rfl, q _ (I.hok.fresh (Nat.le_succ _))⟩
  simpa [seqObj] using he
noncomputable def kSorted : List D → Option D
  | [.lst ds] => match intsD ds with
    | some ns => if ns.length < 64 then some (.lst ((sortI ns).map .int)) else none
    | none => none
  | _ => none
theorem cad_sorted : CaD X.K kSorted (fun xs H Q => ∃ p, ∃ ns : List Int, xs = [.ref p] ∧ SqL X.K H p (ns.map V.int) ∧ ns.length < 64 ∧ ∀ l, H l = none → Q (.ref l) (upd H l (.lst ((sortI ns).map V.int)))) := by
  intro xs d hd ρ H G us Q hG ru k
  unfold kSorted at hd
  split at hd
  · rename_i ds
    cases e : intsD ds with
    | none => rw [e] at hd; cases hd
    | some ns =>
      rw [e] at hd
      dsimp only at hd
      split at hd
      · rename_i hl
        cases hd
        obtain ⟨v, rfl, q⟩ := reps1 ru
        obtain ⟨a, ys, rfl, q1, q2⟩ := rep_lst.mp q
        rw [intsD_eq e] at q2
        rw [reps_ints.mp q2] at q1
        exact ⟨a, ns, rfl, same_l same_un q1, hl, fun l hl => k _ _ (same_upd hl) (rep_new_lst hl (hG l hl) (reps_ints.mpr rfl))⟩
      · cases hd
  · cases hd
theorem pick_rev (its : List Value) : slicePick its.toArray none none (some (-1)) = its.reverse.toArray := by
  unfold slicePick
  have e : sliceBounds none none (some (-1)) its.toArray.size = ((its.length : Int) - 1, -1, -1) := by
    simp [sliceBounds]
  rw [e]
  dsimp only
  rw [PySem.W.krv_sliceRange]
  congr 1
  rw [List.filterMap_map]
  have hp : ∀ n, n ≤ its.length → List.filterMap ((fun x => its.toArray[x]?) ∘ fun k => its.length - 1 - k) (List.range n) = its.reverse.take n := by
    intro n
    induction n with
    | zero => intro _; rfl
    | succ n ih =>
      intro hn
      rw [List.range_succ, List.filterMap_append, ih (by omega), List.take_add_one, List.getElem?_reverse (by omega)]
      have hx : its.length - 1 - n < its.length := by omega
      congr 1
      show List.filterMap _ [n] = _
      rw [List.filterMap_cons, List.filterMap_nil]
      have hc : ((fun x => its.toArray[x]?) ∘ fun k => its.length - 1 - k) n = some its[its.length - 1 - n] := by
        show its.toArray[its.length - 1 - n]? = _
        rw [List.getElem?_toArray, List.getElem?_eq_getElem hx]
      rw [hc, List.getElem?_eq_getElem hx]
      rfl
  rw [List.size_toArray] at *
  rw [hp _ (Nat.le_refl _), List.take_of_length_le (by rw [List.length_reverse]; exact Nat.le_refl _)]
noncomputable def gRev : D → Option D
  | .lst ds => some (.lst ds.reverse)
  | _ => none
theorem Reps.rev {ρ : Rho} {K : PySem.W.Frag} {H : Hp} : ∀ {ds : List D} {vs : List V}, Reps ρ K H ds vs → Reps ρ K H ds.reverse vs.reverse
  | [], _, h => by rw [reps_nil.mp h]; exact Reps.nil
  | e :: ds, _, h => by
    obtain ⟨u, r, rfl, q, t⟩ := reps_cons.mp h
    rw [List.reverse_cons, List.reverse_cons]
    exact (Reps.rev t).append (Reps.cons q Reps.nil)
theorem vals_rev : ∀ {xs : List V} {us : List Value}, Vals xs us → Vals xs.reverse us.reverse
  | _, _, .nil => .nil
  | _, _, .cons r t => by
    rw [List.reverse_cons, List.reverse_cons]
    exact (vals_rev t).append (.cons r .nil)
theorem de_rev {k3 : Nat} {p2 p3 p4 : Pos} (ha : DE X O E e fa) : DE X O E (.Subscript e (.Slice none none (some (.UnaryOp .USub (.Constant (.int 1) k3 p4) p3)) p2) pos) (f1 gRev fa) := by
  rintro pins s σ H Q I ⟨ρ, H₀, F, δ, r, R, hf, k⟩
  refine Subscript_ (thn (ha pins s σ H (fun v H1 => ∃ a xs, v = .ref a ∧ SqL X.K H1 a xs ∧ ∀ p, H1 p = none → Q (.ref p) (upd H1 p (.lst xs.reverse))) I ?_) fun v s1 ⟨x, H1, I1, r1, a, xs, ex, hx, q⟩ => ?_)
  · rcases M.b_inv hf with ⟨x, e1, hf⟩ | ⟨x, e1, rfl⟩
    · refine ⟨ρ, H₀, F, δ, .ok x, R, e1, fun v H1 s1 r1 => ?_⟩
      obtain ⟨d, hd, rfl⟩ := M.o_inv hf
      cases x with
      | lst ds =>
        cases hd
        obtain ⟨a, xs, rfl, q2, q3⟩ := rep_lst.mp r1
        exact ⟨a, xs, rfl, same_l same_un q2, fun p hp => k _ _ (s1.trans (same_upd hp)) (rep_new_lst hp ((R.mono s1).fresh hp) q3.rev)⟩
      | _ => cases hd
    · exact ⟨ρ, H₀, F, δ, .error x, R, e1, k⟩
  · subst ex
    cases r1
    refine wpAny_Slice ?_
    rw [evalPart_none]
    refine wpAny_pure (wpAny_pure ?_)
    rw [evalPart_some]
    refine thn (pe_un un_neg pe_int pins s1 σ H1 (fun z H2 => z = .int (-1) ∧ H2 = H1) I1 ⟨1, rfl, rfl, rfl⟩) fun vk s3 hzz => ?_
    obtain ⟨z, H2, I3, rz, e1, e2⟩ := hzz
    subst e1; subst e2
    obtain ⟨tz, rfl⟩ := rz
    have I4 : Inv X pins σ H2 { s3 with heap := s3.heap.push { cls := .type "slice", data := .fields #[.none, .none, .int (-1) tz] } } := I3.kept (t' := s3.toks) fun b ob q => Heap.get?_push_of_some _ q
    obtain ⟨its, r, ht, hz⟩ := I4.list hx
    have hlen := r.length
    refine tail_any (ops := [.ref a, .ref s3.heap.objs.size]) ht.isList.typeIs slot_list_getitem.lookup ?_ (by with_unfolding_all rfl)
    refine wpAny_getItem_list_slice ht.isList (Heap.IsSliceOf.new ..) .none .none (.int _ tz) (by decide) ?_ (by rw [List.size_toArray] <;> omega)
    rw [pick_rev]
    refine ⟨.ref _, _, I4.laid (t' := s3.toks) (o := .lst xs.reverse) (fun b ob q => Heap.get?_push_of_some _ q) (Nat.le_refl _) ?_, rfl, q _ (I4.hok.fresh (Nat.le_refl _))⟩
    exact ⟨by rw [List.length_reverse]; exact hz, _, 0, vals_rev r, Heap.get?_push_size _ rfl⟩
end
end DL
namespace L2
open PySem PySem.Spec PyProof.Rows
theorem execs_app (env : Env) (c : List Stmt) : ∀ b : List Stmt, execs (b ++ c) env = (execs b env >>= fun f => match f with | .next => execs c env | f => pure f)
  | [] => by
    rw [List.nil_append, show execs [] env = pure .next from execs_nil env, pure_bind]
  | st :: b => by
    rw [List.cons_append, execs_cons, execs_cons, bind_assoc]
    congr 1
    funext f
    cases f with
    | next => exact execs_app env c b
    | _ => rw [pure_bind]
theorem pss_app {X : Cx} {b : List Stmt} {st : Stmt} {t u : TS} (h1 : PSs X b t) (h2 : PS X st u) : PSs X (b ++ [st]) (tSeq t u) := by
  intro pins s σ H D I h
  rw [execs_app]
  refine wpAny_bind (thn (h1 pins s σ H { D with nx := u D } I h) fun f s1 q => ?_)
  cases f with
  | next =>
    obtain ⟨σ', H', I', q⟩ := q
    exact pss_one h2 pins s1 σ' H' D I' q
  | ret v => exact wpAny_pure q
  | brk => exact wpAny_pure q
  | cont => exact wpAny_pure q
end L2
namespace DL
open PySem PySem.Spec PyProof.Rows L2
noncomputable def orA (G : Addr → Bool) (l : Addr) : Addr → Bool := fun b => G b || b == l
theorem orA_t {G : Addr → Bool} {l b : Addr} : orA G l b = true ↔ G b = true ∨ b = l := by unfold orA; rw [Bool.or_eq_true, beq_iff_eq]
inductive spF (K : PySem.W.Frag) (mg : Str → Option Value) (n : Nat) (m : List D → MS D) (vs : List V) (H : Hp) (Q : VK) (E : XK) : Prop
  | mk (hn : vs.length = n) (ρ : Rho) (S F : Addr → Bool) (ds : List D) (Ω : Sto) (hF : ∀ b, F b = true → H b ≠ none) (hS : ∀ b, F b = true → S b = false) (hr : Reps ρ K (hid H (un F S)) ds vs) (hs : StoOk ρ S K mg H (hid H (un F S)) Ω) (es : List D) (Ω' : Sto) (hf : m ds Ω = some (.ok (.lst es), Ω'))
      (k : ∀ (l : Addr) zs ρ' S' H', RLe ρ ρ' → (∀ b o, S b = false → H b = some o → H' b = some o) → (∀ b, S b = true → S' b = true) → (∀ b, S' b = true → S b = true ∨ H b = none) → (∀ b, F b = true → S' b = false) → StoOk ρ' S' K mg H' (hid H' (orA (un F S') l)) Ω' →
        H l = none → H' l = some (.lst zs) → S' l = false → Reps ρ' K (hid H' (orA (un F S') l)) es zs → Q (.ref l) H')
structure CalF (P : Program) (w : World) (K : PySem.W.Frag) (mg : Str → Option Value) (base : Heap) (k : Nat) (x : Str) (n : Nat) (m : List D → MS D) : Prop where
  ex : CalX P w K mg base k x n (spF K mg n m)
  ar : ∀ ds Ω r, m ds Ω = some r → ds.length = n
  ls : ∀ ds Ω r Ω', m ds Ω = some (r, Ω') → ∃ es, r = .ok (.lst es)
noncomputable def pickF (i : Nat) : Option (Except XD Out × Sto) → Option (Except XD D × Sto)
  | some (.ok (.nx δ'), Ω') => match δ'[i]? with
    | some (some (.lst es)) => some (.ok (.lst es), Ω')
    | _ => none
  | _ => none
noncomputable def mirF (n N i : Nat) (g : DSt → MS Out) : List D → MS D := fun ds => if ds.length = n then fun Ω => pickF i (g (startD N ds) Ω) else fun _ => none
theorem mirF_ar {n N i : Nat} {g : DSt → MS Out} : ∀ ds Ω r, mirF n N i g ds Ω = some r → ds.length = n := fun ds Ω r h => by
  unfold mirF at h
  split at h
  · assumption
  · cases h
theorem mirF_ls {n N i : Nat} {g : DSt → MS Out} : ∀ ds Ω r Ω', mirF n N i g ds Ω = some (r, Ω') → ∃ es, r = .ok (.lst es) := fun ds Ω r Ω' h => by
  unfold mirF at h
  split at h
  · dsimp only at h
    unfold pickF at h
    split at h
    · split at h
      · rename_i es _
        cases h
        exact ⟨es, rfl⟩
      · cases h
    · cases h
  · cases h
inductive PickF (i : Nat) (q : Option (Except XD Out × Sto)) (es : List D) (Ω' : Sto) : Prop
  | mk (δ' : DSt) (h1 : q = some (.ok (.nx δ'), Ω')) (h2 : δ'[i]? = some (some (.lst es)))
theorem pickF_inv {i : Nat} {q : Option (Except XD Out × Sto)} {es : List D} {Ω' : Sto} (h : pickF i q = some (.ok (.lst es), Ω')) : PickF i q es Ω' := by
  unfold pickF at h
  split at h
  · rename_i δ' Ω1
    split at h
    · rename_i es' e
      cases h
      exact ⟨δ', rfl, e⟩
    · cases h
  · cases h
section
variable {P : Program} {w : World} {K : PySem.W.Frag} {mg : Str → Option Value} {base : Heap}
theorem calF_ofC {x y : Str} {st : Stmt} {N ps : List Str} {k i : Nat} {g : DSt → MS Out} {b : List Stmt} {p1 p2 : Pos} (hf : FunAt K mg x st ps) (Sc : FnScope N ps (defScope st)) (hB : defBody st = b ++ [.Return (some (.Name y p1)) p2]) (hy : N[i]? = some y) (hv : Vis (defScope st) y) (hd : (y == ("__debug__" : Str)) = false) (hcd : (y == ("__classdict__" : Str)) = false)
    (hbody : ∀ (f : Addr) (cdv : Value) (A : Around) (outer : List Env) (s : Shared) (H : Hp) (E : XK), CdOf K mg x cdv → Room k (A.deeper (envOfC x (defScope st) s.heap.objs.size f cdv)) →
      MSs (cxOf CX0 P w K mg base N x (defScope st) f cdv A outer s H E).nox [] [i] [] b g) : CalF P w K mg base (k + 1) x ps.length (mirF ps.length N.length i g) := by
  obtain ⟨f, fd, hm, FF, hb⟩ := hf
  have cd : CdOf K mg x fd.code := by
    obtain ⟨oc, od, kV, doc, pm, an, cdv, ct, osl, rfl, lk, hcd⟩ := FF.ex
    exact ⟨f, oc, od, _, osl, hm, lk, rfl⟩
  refine ⟨⟨f, fd, ps, rfl, hm, FF.kp, hb, ?_⟩, mirF_ar, mirF_ls⟩
  refine fun_okC FF Sc (fun vs H Q E h => h.1) fun A outer s H vs Q E hr h => ?_
  obtain ⟨hl, ρ, S, F', ds, Ω, fin, ff, rp, sto, es, Ω', hmr, k0⟩ := h
  rw [hB]
  refine ⟨_, pss_app (hbody f fd.code A outer s H E cd hr) (ps_ret (pe_var (i := i) (x := y) hy hv hd hcd)), ?_⟩
  have hdl : ds.length = ps.length := by rw [← rp.length]; exact hl
  unfold mirF at hmr
  rw [if_pos hdl] at hmr
  have R : RM ρ S H F' K mg [] ρ S H (L2.start N vs) (startD N.length ds) Ω := by
    refine ⟨⟨?_, same_un, fun b hb => ?_, fun i d hd _ => ?_, fun i hi => absurd hi (by simp), fun i hi => absurd hi (by simp)⟩, RLe.refl _, fun b o _ h => h, fun b h => h, fun b h => .inl h, fun i hi => absurd hi (by simp), ff, by rw [fob_nil]; exact sto⟩
    · simp [L2.start, startD, rp.length]
    · rcases un_t.mp hb with z | z
      · exact fin b z
      · exact sto.fin b z
    · obtain ⟨v, e, rv⟩ := rp.get (startD_get hd)
      exact ⟨v, start_set e, by rw [fob_nil]; exact rv⟩
  obtain ⟨δ', e1, e2⟩ := pickF_inv hmr
  refine ⟨ρ, S, H, F', ρ, S, _, Ω, R, .ok (.nx δ'), Ω', e1, fun ρ' S' σ' H' R' _ _ => ?_⟩
  obtain ⟨a, xs, ds', q1, q2, q3, q4, q5⟩ := R'.rs.own i List.mem_cons_self
  rw [e2] at q1
  cases q1
  have eo : fob (un F' S') σ' [i] = orA (un F' S') a := by
    funext c
    rw [Bool.eq_iff_iff, fob_t, orA_t]
    constructor
    · rintro (z | ⟨j, hj, z⟩)
      · exact .inl z
      · cases List.mem_singleton.mp hj
        rw [q2] at z; cases z; exact .inr rfl
    · rintro (z | rfl)
      · exact .inl z
      · exact .inr ⟨i, List.mem_cons_self, q2⟩
  refine ⟨.ref a, q2, ?_⟩
  have st' := R'.sto
  rw [eo] at st' q5
  exact k0 a xs ρ' S' H' R'.rho R'.same R'.old R'.new R'.ff st' (R'.own0 i List.mem_cons_self a q2) q3 (un_f.mp q4.2).2 q5
end
section
variable {X : Cx} {O B : List Nat} {e : Expr} {es : List Expr} {fl : DSt → MS (List D)} {pos : Pos} {k n : Nat}
theorem ms_ownF {i : Nat} {x f : Str} {m : List D → MS D} {pos' pos2 p : Pos} (hN : X.N.Nodup) (C : CalF X.prog X.w X.K X.mg X.base k f n m) (hr : Room k X.A) (ha : MA X O (e :: es) fl) (ho : autoParam (O.contains i = false) zau2._auto_1) (hi : autoParam (X.N[i]? = some x) zau2._auto_1) (hx : autoParam (Loc X.env.scope x) zau8._auto_1)
    (hs : autoParam (swapsWith (.Call (.Name f p) (e :: es) [] pos2) (some (.Name x pos')) pos.line X.env = pure false) zau2._auto_1) (hf : autoParam (X.fn x = true ∨ X.env.scope.names.lookup x = some .local) zau0._auto_1)
    (hg : autoParam (Gl X f) zau2._auto_1) (hdb : autoParam ((f == ("__debug__" : Str)) = false) zau1._auto_1) (he : autoParam (starEach (e :: es) X.env = (false, eval e X.env) :: starEach es X.env) zau2._auto_1) (hpl : autoParam ((backTo pos2 (starEach es X.env)).any (·.1) = false) zau2._auto_1) :
    MSt X O (i :: O) B (.Assign [.Name x pos'] (.Call (.Name f p) (e :: es) [] pos2) pos) (eSet i (mCall m fl)) := by
  obtain ⟨fa, fd, ps, hl, hm, hk, hb, G⟩ := C.ex
  rintro pins s σ H Dn I ⟨ρ₀, S₀, H₀, F, ρ, S, δ, Ω, R, r, Ω', hgg, kk⟩
  have ho' : i ∉ O := fun z => by rw [List.contains_iff_mem.mpr z] at ho; cases ho
  have hlt : i < δ.length := by rw [← R.rs.len, I.len]; exact (List.getElem?_eq_some_iff.mp hi).1
  refine ps_set hN hi hx (pe_call (E := E0) G hr hg hm hk hb .nil (fun _ _ _ _ _ _ _ z => z.elim) ha hdb he hpl) hs hf pins s σ H Dn I ?_
  rcases MS.b_inv hgg with ⟨d, Ω1, e1, hgg⟩ | ⟨y, e1, rfl⟩
  · cases hgg
    rcases MS.b_inv e1 with ⟨ds, Ω2, e1, hd⟩ | ⟨y, e1, z⟩
    · refine ⟨ρ₀, S₀, H₀, F, ρ, S, δ, Ω, R, .ok ds, Ω2, e1, fun vs ρ1 S1 H1 R1 l1 v1 r1 => ?_⟩
      show spF X.K X.mg n m (vs ++ []) H1 _ E0
      rw [List.append_nil]
      obtain ⟨es', ee⟩ := C.ls ds Ω2 _ _ hd
      cases ee
      refine ⟨by rw [r1.length]; exact C.ar ds Ω2 _ hd, ρ1, S1, fob F σ O, ds, Ω2, fun b hb => ?_, fun b hb => ?_, by rw [un_fob]; exact r1, by rw [un_fob]; exact R1.sto, es', Ω', hd, ?_⟩
      · intro z
        have := R1.fresh z
        rw [← un_fob, un_t.mpr (.inl hb)] at this; cases this
      · rcases fob_t.mp hb with z | z
        · exact R1.ff b z
        · cases e : S1 b with
          | false => rfl
          | true => exact absurd z (R1.base_S e)
      · intro l zs ρ2 S2 H2 l2 sm old new ff sto hl0 hl2 hSl rz
        let H3 : Hp := fun b => if b = l then none else H2 b
        have h3 : H3 l = none := if_pos rfl
        have n3 : ∀ b, b ≠ l → H3 b = H2 b := fun b hb => if_neg hb
        have e3 : upd H3 l (.lst zs) = H2 := by
          funext b
          by_cases hb : b = l
          · subst hb; rw [upd_same, hl2]
          · rw [upd_ne hb, n3 b hb]
        have eh : ∀ G : Addr → Bool, hid H2 (orA G l) = hid H3 G := fun G => by
          funext b
          unfold hid
          by_cases hb : b = l
          · subst hb
            rw [h3, if_pos (orA_t.mpr (.inr rfl))]
            split <;> rfl
          · have : orA G l b = G b := by
              unfold orA
              rw [show (b == l) = false by simpa using hb, Bool.or_false]
            rw [this, n3 b hb]
        rw [eh] at sto rz
        obtain ⟨t1, t2⟩ := R1.call (H' := H3) l2 (fun b o q1 q2 => by rw [n3 b (ne_of_none q2 hl0)]; exact sm b o q1 q2) old new ff (sto.mono (fun b hb => n3 b (by rintro rfl; rw [hSl] at hb; cases hb)) (Same.refl _))
        rw [un_fob] at rz
        obtain ⟨w1, w2⟩ := t1.take ho' hlt h3 rz
        rw [e3] at w1 w2
        exact kk ρ2 S2 _ _ w1 (l1.trans l2) (v1.trans (t2.trans w2))
    · cases z
  · rcases MS.b_inv e1 with ⟨ds, Ω2, e1, hd⟩ | ⟨y', e1, z⟩
    · obtain ⟨es', ee⟩ := C.ls ds Ω2 _ _ hd
      cases ee
    · cases z
      exact ⟨ρ₀, S₀, H₀, F, ρ, S, δ, Ω, R, .error _, _, e1, trivial⟩
end
end DL
namespace L2
open PySem PySem.Spec PyProof.Rows
open Att
theorem kas_runS {α : Type} {n : Nat} {cmp : Nat → Nat → (Bool → Shared → Prop) → Shared → Prop} {c : Nat → Nat → Bool} {s : Shared} (h : ∀ i j C, i < n → j < n → C (c i j) s → cmp i j C s) :
    ∀ (t : PySem.W.KasT α) (G : α → Shared → Prop), kasIn n t = true → G (kasRun c t) s → t.kasWp cmp G s
  | .ret a, G, _, g => g
  | .ask i j k, G, hi, g => by
    unfold kasIn at hi
    simp only [Bool.and_eq_true, decide_eq_true_eq] at hi
    obtain ⟨⟨⟨h1, h2⟩, h3⟩, h4⟩ := hi
    refine h i j _ h1 h2 (kas_runS h (k (c i j)) G ?_ g)
    cases c i j with
    | true => exact h3
    | false => exact h4
section
variable {prog : Program} {w : World} {A : Around} {E : Value → Shared → Prop} {s : Shared} {L : Addr} {m : Str → Option Value}
theorem lex_run {fin : Bool} {Q : Bool → Shared → Prop} (hfin : fin = false) : ∀ {xs ys : List Value} {as bs : List Int} (i : Nat), IntsAre xs as → IntsAre ys bs → as.length = bs.length → Q (HT.lexLt as bs) s → PySem.W.KatLex prog w A true fin Q (xs.zip ys) i s
  | _, _, _, _, i, .nil, .nil, _, q => by
    rw [hfin]; exact PySem.W.kat_nil q
  | _, _, _, _, i, .cons a t h, .cons b u k, hl, q => by
    rw [List.zip_cons_cons]
    refine PySem.W.kat_cons (wpAny_eqBool_int ?_)
    rw [HT.lexLt_cons] at q
    by_cases e : a = b
    · rw [if_pos e] at q
      rw [beq_iff_eq.mpr e]
      exact PySem.W.kat_yes (lex_run hfin (i + 1) h k (Nat.succ.inj hl) q)
    · rw [if_neg e] at q
      rw [show (a == b) = false by simpa using e]
      refine PySem.W.kat_no ?_
      cases i with
      | zero => exact oneLt_int q
      | succ i => exact PySem.W.kat_one _ _ (PyProof.Rows.lt_int q)
  | _, _, _, _, i, .nil, .cons b u k, hl, q => by cases hl
  | _, _, _, _, i, .cons a t h, .nil, hl, q => by cases hl
noncomputable def tpOrd (ts : List (List Int)) (n : Nat) : List Nat := (kasRun (fun i j => HT.lexLt (ts.getD i []) (ts.getD j [])) (PySem.W.kas_sort n)).toList
inductive TpAt (h : Heap) (v : Value) (ns : List Int) : Prop
  | mk (a : Addr) (its : Array Value) (e : v = .ref a) (h1 : IsTup h a its) (h2 : IntsAre its.toList ns)
theorem tups_of {h : Heap} {z : Nat} (hz : 0 < z) : ∀ {vs : List Value} {ts : List (List Int)}, vs.length = ts.length → (∀ (i : Nat) v t, vs[i]? = some v → ts[i]? = some t → TpAt h v t ∧ t.length = z) → ∃ fs, PySem.W.KatTups h vs fs ∧ fs.length = vs.length ∧ ∀ v ∈ fs, ∃ i t, v = Value.int i t
  | [], [], _, _ => ⟨[], PySem.W.KatTups.nil, rfl, fun _ q => by cases q⟩
  | v :: vs, t :: ts, hl, hh => by
    obtain ⟨⟨a, its, rfl, ⟨o, e1, e2, n, e3⟩, h2⟩, hzt⟩ := hh 0 v t rfl rfl
    obtain ⟨fs, q1, q2, q3⟩ := tups_of hz (Nat.succ.inj hl) fun i v t p1 p2 => hh (i + 1) v t (by simpa using p1) (by simpa using p2)
    cases hi : its.toList with
    | nil => rw [hi] at h2; cases h2; exact absurd hzt (by simp; omega)
    | cons f r =>
      rw [hi] at h2
      cases h2 with
      | cons k u h2 =>
        refine ⟨.int k u :: fs, PySem.W.KatTups.cons e1 e2 e3 ?_ q1, by rw [List.length_cons, List.length_cons, q2], fun v hv => ?_⟩
        · rw [← Array.getElem?_toList, hi]; rfl
        · rcases List.mem_cons.mp hv with rfl | hv
          · exact ⟨k, u, rfl⟩
          · exact q3 v hv
  | [], _ :: _, hl, _ => by cases hl
  | _ :: _, [], hl, _ => by cases hl
theorem tp_sorted {l : Addr} {vs : List Value} {ts : List (List Int)} {n z : Nat} {Q : Value → Shared → Prop} (hl : s.heap.IsList l vs.toArray) (hn : vs.length = n) (hts : ts.length = n) (h2 : 2 ≤ n) (h64 : n < 64) (hz : 0 < z) (ht : ∀ (i : Nat) v t, vs[i]? = some v → ts[i]? = some t → TpAt s.heap v t ∧ t.length = z)
    (hin : kasIn n (PySem.W.kas_sort n) = true) (hL : s.heap.Ns L m)
    (fin : ∀ (D : Addr) (h' : Heap) (c : Nat), Lk L m s.heap h' → s.heap.get? D = none → h'.get? D = some (seqObj "list" ((tpOrd ts n).map fun i => vs.getD i Value.none).toArray c) → Q (.ref D) { s with heap := h' }) :
    wpAny (model prog w) A (call (.builtin "sorted") [.ref l]) Q E s := by
  obtain ⟨ol, hol, hc, nl, hd⟩ := id hl
  have hlL : l ≠ L := fun z => by
    obtain ⟨o', es, ep, e', d', _⟩ := hL
    rw [z, e'] at hol
    cases hol
    rw [hd] at d'; cases d'
  refine PySem.W.kat_sorted (h₀ := noObjs s.heap) (L := L) (m := m) (news := (l, ol) :: ledger s.heap L l) (frN hL) (newsN hlL hol) hl (by omega) (by omega) fun D e1 h' F' N' lt => ?_
  have aD := (N' _ (.head _)).1
  have nDL : D ≠ L := (N' _ (.head _)).2.1
  have kp : ∀ b o, b ≠ L → s.heap.get? b = some o → h'.get? b = some o := fun b o n1 e => by
    by_cases hb : b = l
    · subst hb
      rw [hol] at e; cases e
      exact (N' _ (.tail _ (.head _))).1
    · exact (N' (b, o) (.tail _ (.tail _ (mem_ledger.mpr ⟨n1, hb, e⟩)))).1
  have szD : s.heap.get? D = none := by
    cases q : s.heap.get? D with
    | none => rfl
    | some o =>
      by_cases hb : D = l
      · exact absurd (lt (l, ol) (.head _)) (by rw [hb]; exact Nat.lt_irrefl _)
      · exact absurd (lt (D, o) (.tail _ (mem_ledger.mpr ⟨nDL, hb, q⟩))) (Nat.lt_irrefl _)
  have ht' : ∀ (i : Nat) v t, vs[i]? = some v → ts[i]? = some t → TpAt h' v t ∧ t.length = z := fun i v t p1 p2 => by
    obtain ⟨⟨a, its, e, ⟨o, q1, q2, k, q3⟩, q4⟩, q5⟩ := ht i v t p1 p2
    refine ⟨⟨a, its, e, ⟨o, kp a o (fun zz => ?_) q1, q2, k, q3⟩, q4⟩, q5⟩
    obtain ⟨o', es, ep, e', d', _⟩ := hL
    rw [zz, e'] at q1
    cases q1
    rw [q3] at d'; cases d'
  obtain ⟨fs, k1, k2, k3⟩ := tups_of hz (by rw [hn, hts]) ht'
  refine PySem.W.kat_kind (T := .type "int") k1 (by rw [k2]; omega) (fun v hv => ?_) rfl ?_
  · obtain ⟨i, t, rfl⟩ := k3 v hv
    exact PySem.W.Looks.of_pure rfl
  · rw [hn]
    refine kas_runS (n := n) (c := fun i j => HT.lexLt (ts.getD i []) (ts.getD j [])) (fun i j C hi hj q => ?_) (PySem.W.kas_sort n) _ hin ?_
    · have g : ∀ i, i < n → TpAt h' (vs.getD i Value.none) (ts.getD i []) ∧ (ts.getD i []).length = z := fun i hi => by
        rw [List.getD_eq_getElem?_getD, List.getD_eq_getElem?_getD, List.getElem?_eq_getElem (by omega), List.getElem?_eq_getElem (by omega)]
        exact ht' i _ _ (List.getElem?_eq_getElem (by omega)) (List.getElem?_eq_getElem (by omega))
      obtain ⟨⟨a, ia, ea, ⟨oa, a1, a2, ka, a3⟩, a4⟩, a5⟩ := g i hi
      obtain ⟨⟨b, ib, eb, ⟨ob, b1, b2, kb, b3⟩, b4⟩, b5⟩ := g j hj
      show wpAny _ _ (keyLt' (tuples' true) (vs.getD i Value.none) (vs.getD j Value.none)) C _ _
      rw [ea, eb]
      have la : ia.size = z := by rw [← a5, ← a4.length, Array.length_toList]
      have lb : ib.size = z := by rw [← b5, ← b4.length, Array.length_toList]
      exact PySem.W.kat_lt a1 a3 b1 b3 (lex_run (by rw [la, lb]; simp) 0 a4 b4 (by rw [a5, b5]) q)
    · refine PySem.W.KasFin.intro (frN F'.ns) (newsN nDL aD) updN fun h4 c4 F4 N4 => ?_
      obtain ⟨d1, d2⟩ := ofN N4
      exact fin D h4 c4 ⟨fun b o n q => d2 b o n (fun z => by rw [z, szD] at q; cases q) (kp b o n q), F4.ns⟩ szD d1
end
end L2
namespace DL
open PySem PySem.Spec PyProof.Rows L2
section
variable {X : Cx} {O B : List Nat} {E : XK} {e : Expr} {pos : Pos} {fa fb : DSt → M D}
noncomputable def gClr (i : Nat) : DSt → M Out := fun δ => match (δ[i]?).join with
  | some (.lst _) => M.p (.nx (δ.set i (some (.lst []))))
  | _ => none
theorem ds_clr {i : Nat} {x : Str} {p1 p2 p3 : Pos} (ho : O.contains i = true) (hi : autoParam (X.N[i]? = some x) zau2._auto_1) (hv : autoParam (Vis X.env.scope x) zau5._auto_1)
    (hd : autoParam ((x == ("__debug__" : Str)) = false) zau1._auto_1) (hcd : autoParam ((x == ("__classdict__" : Str)) = false) zau1._auto_1) (hbase : autoParam (attributeBase (.Name x p1) "clear" X.env (eval (.Name x p1) X.env) = eval (.Name x p1) X.env) zau2._auto_1) (hline : autoParam ((p2.endLine == p3.line) = true) zau2._auto_1)
    (hsw : autoParam (swapsWith (.Call (.Attribute (.Name x p1) "clear" p2) [] [] p3) none pos.line X.env = pure false) zau2._auto_1) :
    DS X O O B E (.Expr (.Call (.Attribute (.Name x p1) "clear" p2) [] [] p3) pos) (gClr i) := by
  rintro pins s σ H Dn I ⟨ρ, H₀, F, δ, r, R, hg, k⟩
  have ho' : i ∈ O := List.contains_iff_mem.mp ho
  obtain ⟨l, xs, ds, q1, q2, q3, q4, q5⟩ := R.own i ho'
  refine ps_expr (pe_bm0 PySem.F.plainAttrs_list PySem.F.slot_list_clear PySem.F.type_list_clear mt_clear (pe_var hi hv hd hcd) hbase hline) hsw pins s σ H Dn I ?_
  refine ⟨.ref l, q2, .inl ⟨rfl, _, SqL.of q3⟩, ?_⟩
  unfold gClr at hg
  have hj : (δ[i]?).join = some (.lst ds) := by rw [q1]; rfl
  rw [hj] at hg
  cases hg
  refine ⟨l, xs, rfl, rfl, q3, ?_⟩
  refine k σ _ ?_ (R.write ho' q2 Reps.nil)
  rw [hid_upd (fob_t.mpr (.inr ⟨i, ho', q2⟩))]
  exact Same.refl _
theorem de_listO (i : Nat) {x : Str} {p p1 : Pos} (ho : O.contains i = true) (hG : Gl X "list") (hm : X.mg "list" = none) (hN : autoParam (X.N[i]? = some x) zau2._auto_1) (hv : autoParam (Vis X.env.scope x) zau5._auto_1)
    (hd : autoParam ((x == ("__debug__" : Str)) = false) zau1._auto_1) (hcd : autoParam ((x == ("__classdict__" : Str)) = false) zau1._auto_1) (hs : autoParam (starEach [.Name x p1] X.env = (false, eval (.Name x p1) X.env) :: starEach [] X.env) zau2._auto_1) (hpl : autoParam ((backTo pos (starEach [] X.env)).any (·.1) = false) zau2._auto_1) :
    DE X O E (.Call (.Name "list" p) [.Name x p1] [] pos) (fVar i) := by
  rintro pins s σ H Q I ⟨ρ, H₀, F, δ, r, R, hf, k⟩
  have ho' : i ∈ O := List.contains_iff_mem.mp ho
  obtain ⟨l, xs, ds, q1, q2, q3, q4, q5⟩ := R.own i ho'
  have e0 : fVar i δ = some (.ok (.lst ds)) := by unfold fVar; rw [q1]; rfl
  rw [e0] at hf
  cases hf
  refine pe_callTy call_list_of hG hm bt_list (pa_cons (pe_var hN hv hd hcd) pa_nil hs) (by decide) (by decide) hs hpl pins s σ H Q I ?_
  refine ⟨.ref l, q2, ?_⟩
  exact ⟨l, xs, rfl, .inl (SqL.of q3), fun p hp => k _ _ (same_upd hp) (rep_new_lst hp (R.fresh hp) q5)⟩
noncomputable def tupI : D → Option (List Int)
  | .tup ds => intsD ds
  | _ => none
noncomputable def tupsD : List D → Option (List (List Int))
  | [] => some []
  | d :: ds => (tupI d).bind fun t => (tupsD ds).map fun ts => t :: ts
inductive TupV (K : PySem.W.Frag) (H : Hp) (v : V) (t : List Int) : Prop
  | mk (a : Addr) (e : v = .ref a) (h : SqT K H a (t.map V.int))
theorem tupI_rep {ρ : Rho} {K : PySem.W.Frag} {H : Hp} {d : D} {v : V} {t : List Int} (h : tupI d = some t) (r : Rep ρ K H d v) : TupV K H v t := by
  cases d with
  | tup ds =>
    have h' : intsD ds = some t := h
    obtain ⟨a, xs, rfl, q1, q2⟩ := rep_tup.mp r
    rw [intsD_eq h'] at q2
    rw [reps_ints.mp q2] at q1
    exact ⟨a, rfl, q1⟩
  | _ => cases h
theorem tupsD_len : ∀ {ds : List D} {ts : List (List Int)}, tupsD ds = some ts → ts.length = ds.length
  | [], ts, h => by cases h; rfl
  | d :: ds, ts, h => by
    unfold tupsD at h
    cases e1 : tupI d with
    | none => rw [e1] at h; cases h
    | some t =>
      cases e2 : tupsD ds with
      | none => rw [e1, e2] at h; cases h
      | some us => rw [e1, e2] at h; cases h; rw [List.length_cons, List.length_cons, tupsD_len e2]
theorem tupsD_rep {ρ : Rho} {K : PySem.W.Frag} {H : Hp} : ∀ {ds : List D} {vs : List V} {ts : List (List Int)}, tupsD ds = some ts → Reps ρ K H ds vs → ∀ (i : Nat) v t, vs[i]? = some v → ts[i]? = some t → TupV K H v t
  | [], vs, ts, h, r, i, v, t, e1, e2 => by cases h; cases e2
  | d :: ds, vs, ts, h, r, i, v, t, e1, e2 => by
    obtain ⟨u, us, rfl, q1, q2⟩ := reps_cons.mp r
    unfold tupsD at h
    cases f1 : tupI d with
    | none => rw [f1] at h; cases h
    | some t0 =>
      cases f2 : tupsD ds with
      | none => rw [f1, f2] at h; cases h
      | some us' =>
        rw [f1, f2] at h
        cases h
        cases i with
        | zero => cases e1; cases e2; exact tupI_rep f1 q1
        | succ i => exact tupsD_rep f2 q2 i v t (by simpa using e1) (by simpa using e2)
noncomputable def okT (ts : List (List Int)) (n : Nat) : Bool := decide (2 ≤ n) && decide (n < 64) && ts.all (fun t => decide (t.length = 3)) && kasIn n (PySem.W.kas_sort n) && (tpOrd ts n).all (fun i => decide (i < n)) && decide ((tpOrd ts n).length ≤ 64)
theorem vals_pick {xs : List V} {its : List Value} (r : Vals xs its) : ∀ (p : List Nat), (∀ i ∈ p, i < xs.length) → Vals (p.map fun i => xs.getD i .non) (p.map fun i => its.getD i Value.none)
  | [], _ => .nil
  | i :: p, h => by
    refine .cons ?_ (vals_pick r p fun j hj => h j (.tail _ hj))
    have hi := h i (.head _)
    obtain ⟨u, e, q⟩ := r.get (List.getElem?_eq_getElem hi)
    show RelV (xs.getD i .non) (its.getD i Value.none)
    rw [List.getD_eq_getElem?_getD, List.getD_eq_getElem?_getD, e, List.getElem?_eq_getElem hi]
    exact q
theorem reps_pick {ρ : Rho} {K : PySem.W.Frag} {H : Hp} {ds : List D} {xs : List V} (r : Reps ρ K H ds xs) : ∀ (p : List Nat), (∀ i ∈ p, i < ds.length) → Reps ρ K H (p.map fun i => ds.getD i .non) (p.map fun i => xs.getD i .non)
  | [], _ => Reps.nil
  | i :: p, h => by
    have hi := h i (.head _)
    obtain ⟨u, e, q⟩ := r.get (List.getElem?_eq_getElem hi)
    rw [List.map_cons, List.map_cons]
    refine Reps.cons ?_ (reps_pick r p fun j hj => h j (.tail _ hj))
    rw [List.getD_eq_getElem?_getD, List.getD_eq_getElem?_getD, e, List.getElem?_eq_getElem hi]
    exact q
noncomputable def rSortT (K : PySem.W.Frag) : List V → Hp → VK → Prop := fun xs H Q => ∃ p ys, ∃ ts : List (List Int), xs = [.ref p] ∧ SqL K H p ys ∧ ts.length = ys.length ∧ (∀ (i : Nat) v t, ys[i]? = some v → ts[i]? = some t → TupV K H v t) ∧ okT ts ys.length = true ∧
  ∀ l, H l = none → Q (.ref l) (upd H l (.lst ((tpOrd ts ys.length).map fun i => ys.getD i .non)))
theorem call_sortT : CallR X (.builtin "sorted") (rSortT X.K) := by
  intro pins s σ H xs us Q I r h
  obtain ⟨p, ys, ts, rfl, hq, hl, ht, hok, q⟩ := h
  obtain ⟨u, rfl, rx⟩ := vals1 r
  cases rx
  obtain ⟨its, r', pl, hz⟩ := I.list hq
  have hlen := r'.length
  obtain ⟨m, hm, _⟩ := id I.loc
  unfold okT at hok
  simp only [Bool.and_eq_true, decide_eq_true_eq, List.all_eq_true] at hok
  obtain ⟨⟨⟨⟨⟨o1, o2⟩, o3⟩, o4⟩, o5⟩, o6⟩ := hok
  refine tp_sorted (L := X.env.locals) (m := m) (ts := ts) (n := ys.length) (z := 3) pl.isList hlen.symm hl o1 o2 (by decide) (fun i v t e1 e2 => ?_) o4 hm fun D h' c lk hD eD => ?_
  · have hi : i < ys.length := by rw [hlen]; exact (List.getElem?_eq_some_iff.mp e1).1
    obtain ⟨u, f1, f2⟩ := r'.get (List.getElem?_eq_getElem hi)
    rw [e1] at f1
    cases f1
    obtain ⟨a, ea, ha⟩ := ht i _ t (List.getElem?_eq_getElem hi) e2
    rw [ea] at f2
    obtain ⟨its2, r2, tp, _⟩ := I.tuple ha
    exact ⟨⟨a, _, f2, tp, intsAre_of r2⟩, o3 t (List.mem_of_getElem? e2)⟩
  · have hn : H D = none := by
      cases e : H D with
      | none => rfl
      | some z => obtain ⟨o, q⟩ := (I.hok D z e).here; rw [hD] at q; cases q
    exact ⟨.ref D, _, I.laidL (t' := s.toks) lk hm hD eD (vals_pick r' _ o5) (by rw [List.length_map]; exact Nat.le_trans o6 (by decide)), rfl, q D hn⟩
noncomputable def kSortT : List D → Option D
  | [.lst ds] => match tupsD ds with
    | some ts => if okT ts ds.length = true then some (.lst ((tpOrd ts ds.length).map fun i => ds.getD i .non)) else none
    | none => none
  | _ => none
theorem cad_sortT : CaD X.K kSortT (rSortT X.K) := by
  intro xs d hd ρ H G us Q hG ru k
  unfold kSortT at hd
  split at hd
  · rename_i ds
    cases e : tupsD ds with
    | none => rw [e] at hd; cases hd
    | some ts =>
      rw [e] at hd
      dsimp only at hd
      split at hd
      · rename_i hok
        cases hd
        obtain ⟨v, rfl, q⟩ := reps1 ru
        obtain ⟨a, ys, rfl, q1, q2⟩ := rep_lst.mp q
        have hl := q2.length
        refine ⟨a, ys, ts, rfl, same_l same_un q1, by rw [tupsD_len e, hl], fun i v t e1 e2 => ?_, by rw [hl]; exact hok, fun l hl' => ?_⟩
        · obtain ⟨a', ea, ha⟩ := tupsD_rep e q2 i v t e1 e2
          exact ⟨a', ea, same_t same_un ha⟩
        · rw [hl]
          refine k _ _ (same_upd hl') (rep_new_lst hl' (hG l hl') (reps_pick q2 _ fun i hi => ?_))
          unfold okT at hok
          simp only [Bool.and_eq_true, decide_eq_true_eq, List.all_eq_true] at hok
          exact hok.1.2 i hi
      · cases hd
  · cases hd
end
noncomputable def mAndV (fa fb : DSt → MS D) : DSt → MS D := fun δ => (fa δ).b fun x => match x with
  | .bl true => fb δ
  | .bl false => MS.p (.bl false)
  | _ => fun _ => none
section
variable {X : Cx} {O : List Nat} {a b : Expr} {rest : List Expr} {pos : Pos} {fa fb : DSt → MS D}
theorem me_one {op} (h : ME X O a fa) : ME X O (.BoolOp op [a] pos) fa := fun pins s σ H Q I hw => pe_one h pins s σ H Q I hw
theorem me_and (ha : ME X O a fa) (hb : ME X O (.BoolOp .And (b :: rest) pos) fb) : ME X O (.BoolOp .And (a :: b :: rest) pos) (mAndV fa fb) := by
  rintro pins s σ H Q I ⟨ρ₀, S₀, H₀, F, ρ, S, δ, Ω, R, r, Ω', hf, k⟩
  refine pe_and ha hb pins s σ H Q I ?_
  rcases MS.b_inv hf with ⟨x, Ω1, e1, hf⟩ | ⟨x, e1, rfl⟩
  · refine ⟨ρ₀, S₀, H₀, F, ρ, S, δ, Ω, R, .ok x, Ω1, e1, fun u ρ1 S1 H1 R1 l1 v1 r1 => ?_⟩
    cases x with
    | bl z =>
      refine ⟨z, rep_bl.mp r1, ?_⟩
      cases z with
      | true =>
        refine iteT ⟨ρ₀, S₀, H₀, F, ρ1, S1, δ, Ω1, R1, r, Ω', hf, ?_⟩
        cases r with
        | ok d => exact fun v ρ2 S2 H2 R2 l2 v2 r2 => k v ρ2 S2 H2 R2 (l1.trans l2) (v1.trans v2) r2
        | error y => trivial
      | false =>
        refine iteF ?_
        cases hf
        exact k _ ρ1 S1 H1 R1 l1 v1 (rep_bl.mpr rfl)
    | _ => cases hf
  · exact ⟨ρ₀, S₀, H₀, F, ρ, S, δ, Ω, R, .error x, _, e1, trivial⟩
end
end DL
namespace MyLaw
open PySem PySem.Spec L2 DL
noncomputable def top (i : Nat) : Stmt := PySem.Challenge.pw_apartbook_k31_dealt.main.body.getD i (.Pass ⟨0, 0, 0, 0⟩)
noncomputable abbrev s_law_mix : Stmt := top 4
noncomputable abbrev s_law_at : Stmt := top 3
noncomputable abbrev s_law_weights : Stmt := top 6
noncomputable abbrev s_law_number : Stmt := top 7
noncomputable abbrev s_dealt : Stmt := top 1
noncomputable abbrev s_law_whole : Stmt := top 5
noncomputable abbrev s_law_right : Stmt := top 8
noncomputable abbrev s_law : Stmt := top 9
structure Txt (K : PySem.W.Frag) (mg : Str → Option Value) : Prop where
  f_law_mix : FunAt K mg "_law_mix" s_law_mix ["_law_number_here", "_law_place"]
  f_law_at : FunAt K mg "_law_at" s_law_at ["_law_script", "_law_k"]
  f_law_weights : FunAt K mg "_law_weights" s_law_weights ["_law_script"]
  f_law_number : FunAt K mg "_law_number" s_law_number ["_law_script", "_law_whole_here"]
  f_dealt : FunAt K mg "dealt" s_dealt ["number", "weights"]
  f_law_whole : FunAt K mg "_law_whole" s_law_whole ["_law_found"]
  f_law_right : FunAt K mg "_law_right" s_law_right ["_law_found", "_law_number_here", "_law_weights_here"]
  f_law : FunAt K mg "law" s_law ["_law_script"]
  b_bool : mg "bool" = none
  b_int : mg "int" = none
  b_isinstance : mg "isinstance" = none
  b_len : mg "len" = none
  b_list : mg "list" = none
  b_max : mg "max" = none
  b_range : mg "range" = none
  b_sorted : mg "sorted" = none
  b_sum : mg "sum" = none
section
variable {P : Program} {w : World} {K : PySem.W.Frag} {mg : Str → Option Value} {base : Heap}
theorem sc_law_mix : FnScope ["_law_number_here", "_law_place", "_law_turn", "_law_part"] ["_law_number_here", "_law_place"] (defScope s_law_mix) := ⟨rfl, rfl, rfl, by decide +kernel, rfl, by decide +kernel, by decide +kernel⟩
noncomputable def b1_law_mix : DSt → M Out := (gSet 0 (f2 gFdiv (fVar 0) (fC (.int 2147483648))))
noncomputable def g_law_mix : DSt → M Out := (gSeq (gIf (t2 gGe (fVar 0) (f2 gPow (fC (.int 10)) (fC (.int 12)))) (gSeq (gSet 0 (f2 gSub (f2 gFdiv (fVar 0) (f2 gPow (fC (.int 10)) (fC (.int 12)))) (fC (.int 1))))
    (gSeq (gFor (iArgs rangeArgs (fCons (f2 gMod (fVar 1) (fC (.int 61))) fNil)) (DL.gName 2) b1_law_mix)
    (gRet (f2 gMod (fVar 0) (fC (.int 2147483648)))))) gNx)
    (gSeq (gSet 3 (f2 gMod (f2 gMulT (f2 gCat (f2 gCat (f2 gMod (fVar 0) (fC (.int 2147483629))) (fVar 1)) (fC (.int 1))) (f2 gCat (f2 gMulT (f2 gMulT (fC (.int 8)) (fVar 1)) (fVar 1)) (fC (.int 48271)))) (fC (.int 2147483647))))
    (gSeq (gSet 3 (f2 gMod (f2 gMulT (fVar 3) (fVar 3)) (fC (.int 2147483587))))
    (gRet (f2 gMod (f2 gMulT (fVar 3) (f2 gCat (fVar 3) (fC (.int 2)))) (fC (.int 2147483579)))))))
noncomputable def m_law_mix : List D → M D := mir 2 4 g_law_mix
theorem body_law_mix (T : Txt K mg) (f : Addr) (cdv : Value) (A : Around) (outer : List Env) (s : Shared) (H : Hp) (E : XK) (hr : Room 1 (A.deeper (PyProof.Rows.envOfC "_law_mix" (defScope s_law_mix) s.heap.objs.size f cdv))) :
    DSs (cxOf CX0 P w K mg base ["_law_number_here", "_law_place", "_law_turn", "_law_part"] "_law_mix" (defScope s_law_mix) f cdv A outer s H E).nox [] [] [] E (defBody s_law_mix) g_law_mix :=
  (dss_cons (ds_if (dt_cmp op_geD opd_cmp (de_var 0) (de_op op_pow opd_pow de_int de_int) (nomark _)) (dss_cons (ds_set (i := 0) sc_law_mix.nd (de_op op_sub opd_sub (de_op op_fdivD opd_fdiv (de_var 0) (de_op op_pow opd_pow de_int de_int)) de_int))
    (dss_cons (ds_for PassesOwn.never rfl (di_range rfl T.b_range (da_cons (de_op op_mod opd_mod (de_var 1) de_int) da_nil)) (dg_name (i := 2) sc_law_mix.nd) (dss_one (ds_set (i := 0) sc_law_mix.nd (de_op op_fdivD opd_fdiv (de_var 0) de_int))))
    (dss_one (ds_ret (de_op op_mod opd_mod (de_var 0) de_int))))) dss_nil)
    (dss_cons (ds_set (i := 3) sc_law_mix.nd (de_op op_mod opd_mod (de_op op_mulT opd_mulT (de_op op_addC opd_cat (de_op op_addC opd_cat (de_op op_mod opd_mod (de_var 0) de_int) (de_var 1)) de_int) (de_op op_addC opd_cat (de_op op_mulT opd_mulT (de_op op_mulT opd_mulT de_int (de_var 1)) (de_var 1)) de_int)) de_int))
    (dss_cons (ds_set (i := 3) sc_law_mix.nd (de_op op_mod opd_mod (de_op op_mulT opd_mulT (de_var 3) (de_var 3)) de_int))
    (dss_one (ds_ret (de_op op_mod opd_mod (de_op op_mulT opd_mulT (de_var 3) (de_op op_addC opd_cat (de_var 3) de_int)) de_int))))))
theorem ok_law_mix (T : Txt K mg) : Cal P w K mg base 2 "_law_mix" 2 m_law_mix := cal_of T.f_law_mix sc_law_mix (body_law_mix T)
theorem sc_law_at : FnScope ["_law_script", "_law_k"] ["_law_script", "_law_k"] (defScope s_law_at) := ⟨rfl, rfl, rfl, by decide +kernel, rfl, by decide +kernel, by decide +kernel⟩
noncomputable def g_law_at : DSt → M Out := (gSeq (gIf (t2 gLt (fVar 1) (fL kLen (fCons (fVar 0) fNil))) (gRet (f2 gIx (fVar 0) (fVar 1))) gNx)
    (gRet (f2 gCat (f2 gMulT (fC (.int 19)) (fVar 1)) (fC (.int 8)))))
noncomputable def m_law_at : List D → M D := mir 2 2 g_law_at
theorem body_law_at (T : Txt K mg) (f : Addr) (cdv : Value) (A : Around) (outer : List Env) (s : Shared) (H : Hp) (E : XK) (hr : Room 1 (A.deeper (PyProof.Rows.envOfC "_law_at" (defScope s_law_at) s.heap.objs.size f cdv))) :
    DSs (cxOf CX0 P w K mg base ["_law_script", "_law_k"] "_law_at" (defScope s_law_at) f cdv A outer s H E).nox [] [] [] E (defBody s_law_at) g_law_at :=
  (dss_cons (ds_if (dt_cmp op_ltD opd_cmp (de_var 1) (de_callB call_lenD cad_len rfl T.b_len bt_len (da_cons (de_var 0) da_nil)) (nomark _)) (dss_one (ds_ret (de_ix ix_seq opd_ix (de_var 0) (de_var 1)))) dss_nil)
    (dss_one (ds_ret (de_op op_addC opd_cat (de_op op_mulT opd_mulT de_int (de_var 1)) de_int))))
theorem ok_law_at (T : Txt K mg) : Cal P w K mg base 2 "_law_at" 2 m_law_at := cal_of T.f_law_at sc_law_at (body_law_at T)
theorem sc_law_weights : FnScope ["_law_script", "_law_weights_here", "_law_k", "_law_number_here", "_law_some"] ["_law_script"] (defScope s_law_weights) := ⟨rfl, rfl, rfl, by decide +kernel, rfl, by decide +kernel, by decide +kernel⟩
noncomputable def b1_law_weights : DSt → M Out := (gSeq (gSet 3 (fCall m_law_mix (fCons (fCall m_law_at (fCons (fVar 0) (fCons (f2 gCat (fC (.int 1)) (fVar 2)) fNil))) (fCons (f2 gCat (fC (.int 2)) (fVar 2)) fNil))))
    (gSeq (gSet 4 (fL gLstD (fCons (fC (.int 0)) (fCons (fC (.int 1)) (fCons (fC (.int 2)) (fCons (fC (.int 3)) (fCons (f2 gMod (f2 gFdiv (fVar 3) (fC (.int 8))) (fC (.int 100))) (fCons (f2 gMod (fCall m_law_at (fCons (fVar 0) (fCons (f2 gCat (fC (.int 1)) (fVar 2)) fNil))) (f2 gPow (fC (.int 10)) (fC (.int 30)))) (fCons (fC (.int 1)) (fCons (fC (.int 2)) fNil))))))))))
    (gApp 1 (f2 gIx (fVar 4) (f2 gMod (fVar 3) (fC (.int 8)))))))
noncomputable def g_law_weights : DSt → M Out := (gSeq (gSet 1 (fL gLstD fNil))
    (gSeq (gFor (iArgs rangeArgs (fCons (f2 gCat (fC (.int 2)) (f2 gMod (fCall m_law_mix (fCons (fCall m_law_at (fCons (fVar 0) (fCons (fC (.int 0)) fNil))) (fCons (fC (.int 1)) fNil))) (fC (.int 3)))) fNil)) (DL.gName 2) b1_law_weights)
    (gSeq (gIf (t2 gEq (fScal (fL kSum (fCons (fVar 1) fNil))) (fC (.int 0))) (gSetIx 1 (f2 gMod (fCall m_law_mix (fCons (fCall m_law_at (fCons (fVar 0) (fCons (fC (.int 0)) fNil))) (fCons (fC (.int 7)) fNil))) (fScal (fL kLen (fCons (fVar 1) fNil)))) (fC (.int 1))) gNx)
    (gRet (fVar 1)))))
noncomputable def m_law_weights : List D → M D := mir 1 5 g_law_weights
theorem body_law_weights (T : Txt K mg) (f : Addr) (cdv : Value) (A : Around) (outer : List Env) (s : Shared) (H : Hp) (E : XK) (hr : Room 2 (A.deeper (PyProof.Rows.envOfC "_law_weights" (defScope s_law_weights) s.heap.objs.size f cdv))) :
    DSs (cxOf CX0 P w K mg base ["_law_script", "_law_weights_here", "_law_k", "_law_number_here", "_law_some"] "_law_weights" (defScope s_law_weights) f cdv A outer s H E).nox [] [] [] E (defBody s_law_weights) g_law_weights :=
  (dss_cons (ds_own (i := 1) sc_law_weights.nd da_nil)
    (dss_cons (ds_for PassesOwn.never rfl (di_range rfl T.b_range (da_cons (de_op op_addC opd_cat de_int (de_op op_mod opd_mod (de_call (ok_law_mix T) (hr.mono (by decide)) (da_cons (de_call (ok_law_at T) (hr.mono (by decide)) (da_cons (de_var 0) (da_cons de_int da_nil))) (da_cons de_int da_nil))) de_int)) da_nil)) (dg_name (i := 2) sc_law_weights.nd) (dss_cons (ds_set (i := 3) sc_law_weights.nd (de_call (ok_law_mix T) (hr.mono (by decide)) (da_cons (de_call (ok_law_at T) (hr.mono (by decide)) (da_cons (de_var 0) (da_cons (de_op op_addC opd_cat de_int (de_var 2)) da_nil))) (da_cons (de_op op_addC opd_cat de_int (de_var 2)) da_nil))))
    (dss_cons (ds_set (i := 4) sc_law_weights.nd (de_lst (da_cons de_int (da_cons de_int (da_cons de_int (da_cons de_int (da_cons (de_op op_mod opd_mod (de_op op_fdivD opd_fdiv (de_var 3) de_int) de_int) (da_cons (de_op op_mod opd_mod (de_call (ok_law_at T) (hr.mono (by decide)) (da_cons (de_var 0) (da_cons (de_op op_addC opd_cat de_int (de_var 2)) da_nil))) (de_op op_pow opd_pow de_int de_int)) (da_cons de_int (da_cons de_int da_nil))))))))))
    (dss_one (ds_app (i := 1) rfl (de_ix ix_seq opd_ix (de_var 4) (de_op op_mod opd_mod (de_var 3) de_int)))))))
    (dss_cons (ds_if (dt_cmp (op_eqD (hu30 hr)) opd_eq (de_thaw (O' := []) (by decide) (de_callB (call_sumD rfl) cad_sum rfl T.b_sum bt_sum (da_cons (de_var 1) da_nil))) de_int (nomark _)) (dss_one (ds_setix (i := 1) rfl (de_op op_mod opd_mod (de_call (ok_law_mix T) (hr.mono (by decide)) (da_cons (de_call (ok_law_at T) (hr.mono (by decide)) (da_cons (de_var 0) (da_cons de_int da_nil))) (da_cons de_int da_nil))) (de_thaw (O' := []) (by decide) (de_callB call_lenD cad_len rfl T.b_len bt_len (da_cons (de_var 1) da_nil)))) de_int)) dss_nil)
    (dss_pre (O' := []) (by decide) (dss_one (ds_ret (de_var 1)))))))
theorem ok_law_weights (T : Txt K mg) : Cal P w K mg base 3 "_law_weights" 1 m_law_weights := cal_of T.f_law_weights sc_law_weights (body_law_weights T)
theorem sc_law_number : FnScope ["_law_script", "_law_whole_here", "_law_cell", "_law_number_here"] ["_law_script", "_law_whole_here"] (defScope s_law_number) := ⟨rfl, rfl, rfl, by decide +kernel, rfl, by decide +kernel, by decide +kernel⟩
noncomputable def g_law_number : DSt → M Out := (gSeq (gSet 2 (fCall m_law_at (fCons (fVar 0) (fCons (fC (.int 6)) fNil))))
    (gSeq (gSet 3 (fCall m_law_mix (fCons (fVar 2) (fCons (fC (.int 8)) fNil))))
    (gSeq (gIf (t2 gEq (f2 gMod (fVar 3) (fC (.int 4))) (fC (.int 0))) (gRet (f2 gMod (fVar 2) (f2 gPow (fC (.int 10)) (fC (.int 30))))) gNx)
    (gSeq (gIf (DL.tAnd (t2 gEq (f2 gMod (fVar 3) (fC (.int 4))) (fC (.int 1))) (t2 gLt (fVar 1) (f2 gPow (fC (.int 10)) (fC (.int 27))))) (gRet (fL kMax (fCons (fC (.int 0)) (fCons (f2 gSub (f2 gCat (f2 gMulT (fVar 1) (f2 gMod (f2 gFdiv (fVar 3) (fC (.int 16))) (fC (.int 90)))) (f2 gMod (f2 gFdiv (fVar 3) (fC (.int 4))) (fC (.int 3)))) (fC (.int 1))) fNil)))) gNx)
    (gRet (f2 gMod (f2 gFdiv (fVar 3) (fC (.int 4))) (fC (.int 100))))))))
noncomputable def m_law_number : List D → M D := mir 2 4 g_law_number
theorem body_law_number (T : Txt K mg) (f : Addr) (cdv : Value) (A : Around) (outer : List Env) (s : Shared) (H : Hp) (E : XK) (hr : Room 2 (A.deeper (PyProof.Rows.envOfC "_law_number" (defScope s_law_number) s.heap.objs.size f cdv))) :
    DSs (cxOf CX0 P w K mg base ["_law_script", "_law_whole_here", "_law_cell", "_law_number_here"] "_law_number" (defScope s_law_number) f cdv A outer s H E).nox [] [] [] E (defBody s_law_number) g_law_number :=
  (dss_cons (ds_set (i := 2) sc_law_number.nd (de_call (ok_law_at T) (hr.mono (by decide)) (da_cons (de_var 0) (da_cons de_int da_nil))))
    (dss_cons (ds_set (i := 3) sc_law_number.nd (de_call (ok_law_mix T) (hr.mono (by decide)) (da_cons (de_var 2) (da_cons de_int da_nil))))
    (dss_cons (ds_if (dt_cmp (op_eqD (hu30 hr)) opd_eq (de_op op_mod opd_mod (de_var 3) de_int) de_int (nomark _)) (dss_one (ds_ret (de_op op_mod opd_mod (de_var 2) (de_op op_pow opd_pow de_int de_int)))) dss_nil)
    (dss_cons (ds_if (DW.dt (dw_and (dt_cmp (op_eqD (hu30 hr)) opd_eq (de_op op_mod opd_mod (de_var 3) de_int) de_int (nomark _)) (dw_and1 (dt_cmp op_ltD opd_cmp (de_var 1) (de_op op_pow opd_pow de_int de_int) (nomark _))))) (dss_one (ds_ret (de_callB (call_max2 rfl) cad_max rfl T.b_max bt_max (da_cons de_int (da_cons (de_op op_sub opd_sub (de_op op_addC opd_cat (de_op op_mulT opd_mulT (de_var 1) (de_op op_mod opd_mod (de_op op_fdivD opd_fdiv (de_var 3) de_int) de_int)) (de_op op_mod opd_mod (de_op op_fdivD opd_fdiv (de_var 3) de_int) de_int)) de_int) da_nil))))) dss_nil)
    (dss_one (ds_ret (de_op op_mod opd_mod (de_op op_fdivD opd_fdiv (de_var 3) de_int) de_int)))))))
theorem ok_law_number (T : Txt K mg) : Cal P w K mg base 3 "_law_number" 2 m_law_number := cal_of T.f_law_number sc_law_number (body_law_number T)
theorem sc_dealt : FnScope ["number", "weights", "total", "shares", "rests", "by_rest", "house"] ["number", "weights"] (defScope s_dealt) := ⟨rfl, rfl, rfl, by decide +kernel, rfl, by decide +kernel, by decide +kernel⟩
noncomputable def c1_dealt : DSt → M D := (f2 gFdiv (f2 gMulT (fVar 1) (fVar 0)) (fVar 2))
noncomputable def c2_dealt : DSt → M D := (f2 gMod (f2 gMulT (fVar 1) (fVar 0)) (fVar 2))
noncomputable def b3_dealt : DSt → M Out := (gAugIx 3 (fVar 6) (fC (.int 1)))
noncomputable def c4_dealt : DSt → M D := (f2 gFdiv (f2 gMulT (fVar 1) (fVar 0)) (fVar 2))
noncomputable def c5_dealt : DSt → M D := (f2 gMod (f2 gMulT (fVar 1) (fVar 0)) (fVar 2))
noncomputable def b6_dealt : DSt → M Out := (gAugIx 3 (fVar 6) (fC (.int 1)))
noncomputable def g_dealt : DSt → MS Out := (eSeq (lF (gSet 2 (fL kSum (fCons (fVar 1) fNil))))
    (eSeq (lF (gSet 3 (fComp 1 [("number", 0), ("total", 2)] (iSeqD (fVar 1)) (DL.gName 0) tYes c1_dealt)))
    (eSeq (lF (gSet 4 (fComp 1 [("number", 0), ("total", 2)] (iSeqD (fVar 1)) (DL.gName 0) tYes c2_dealt)))
    (eSeq (eSet 5 (mSortK "dealt" 6 46 "dealt.<locals>.<lambda>" 4 (lF (fCons (fL kLen (fCons (fVar 1) fNil)) fNil))))
    (eSeq (lF (gFor (iSeqD (fSl (fVar 5) oNone (oSome (f2 gSub (fVar 0) (fScal (fL kSum (fCons (fVar 3) fNil))))))) (DL.gName 6) b3_dealt))
    (lF (gRet (fVar 3))))))))
noncomputable def m_dealt : List D → MS D := mirE 2 7 g_dealt
theorem body_dealt (T : Txt K mg) (f : Addr) (cdv : Value) (A : Around) (outer : List Env) (s : Shared) (H : Hp) (E : XK) (C : CdOf K mg "dealt" cdv) (hr : Room 1 (A.deeper (PyProof.Rows.envOfC "dealt" (defScope s_dealt) s.heap.objs.size f cdv))) :
    MSs (cxOf CX0 P w K mg base ["number", "weights", "total", "shares", "rests", "by_rest", "house"] "dealt" (defScope s_dealt) f cdv A outer s H E).nox [] [] [] (defBody s_dealt) g_dealt :=
  (mss_cons (ms_pure (ds_set (i := 2) sc_dealt.nd (de_callB (call_sumD rfl) cad_sum rfl T.b_sum bt_sum (da_cons (de_var 1) da_nil))))
    (mss_cons (ms_pure (ds_ownC (i := 3) sc_dealt.nd (own := ["weight"]) (caps := [("number", 0), ("total", 2)]) rfl (caps_of (N := ["number", "weights", "total", "shares", "rests", "by_rest", "house"]) (osc := defScope s_dealt) rfl rfl rfl (by decide +kernel)) (di_seq (de_var 1)) (fun _ _ _ _ => (dg_name (i := 0) (show (["weight", "number", "total"] : List Str).Nodup from by decide +kernel))) (fun _ _ _ _ => dc_none) (fun _ _ _ _ => (de_op op_fdivD opd_fdiv (de_op op_mulT opd_mulT (de_var 1) (de_var 0)) (de_var 2)))))
    (mss_cons (ms_pure (ds_set (i := 4) sc_dealt.nd (de_comp (own := ["weight"]) (caps := [("number", 0), ("total", 2)]) rfl (caps_of (N := ["number", "weights", "total", "shares", "rests", "by_rest", "house"]) (osc := defScope s_dealt) rfl rfl rfl (by decide +kernel)) (di_seq (de_var 1)) (fun _ _ _ _ => (dg_name (i := 0) (show (["weight", "number", "total"] : List Str).Nodup from by decide +kernel))) (fun _ _ _ _ => dc_none) (fun _ _ _ _ => (de_op op_mod opd_mod (de_op op_mulT opd_mulT (de_var 1) (de_var 0)) (de_var 2))))))
    (mss_cons (ms_set (i := 5) sc_dealt.nd (me_sortK (ir := 4) C hr rfl T.b_sorted rfl T.b_range (ma_pure (da_cons (de_callB call_lenD cad_len rfl T.b_len bt_len (da_cons (de_var 1) da_nil)) da_nil)) (by decide)))
    (mss_cons (ms_pure (ds_for PassesOwn.never rfl (di_seq (de_slice (de_var 5) do_none (do_some (de_op op_sub opd_sub (de_var 0) (de_thaw (O' := []) (by decide) (de_callB (call_sumD rfl) cad_sum rfl T.b_sum bt_sum (da_cons (de_var 3) da_nil))))))) (dg_name (i := 6) sc_dealt.nd) (dss_one (ds_augix (i := 3) rfl (de_var 6) de_int))))
    (mss_pre (O' := []) (by decide) (mss_one (ms_pure (ds_ret (de_var 3))))))))))
theorem ok_dealt (T : Txt K mg) : CalE P w K mg base 2 "dealt" 2 m_dealt := calE_ofC T.f_dealt sc_dealt (body_dealt T)
noncomputable def gF_dealt : DSt → MS Out := (eSeq (lF (gSet 2 (fL kSum (fCons (fVar 1) fNil))))
    (eSeq (lF (gSet 3 (fComp 1 [("number", 0), ("total", 2)] (iSeqD (fVar 1)) (DL.gName 0) tYes c4_dealt)))
    (eSeq (lF (gSet 4 (fComp 1 [("number", 0), ("total", 2)] (iSeqD (fVar 1)) (DL.gName 0) tYes c5_dealt)))
    (eSeq (eSet 5 (mSortK "dealt" 6 46 "dealt.<locals>.<lambda>" 4 (lF (fCons (fL kLen (fCons (fVar 1) fNil)) fNil))))
    (lF (gFor (iSeqD (fSl (fVar 5) oNone (oSome (f2 gSub (fVar 0) (fScal (fL kSum (fCons (fVar 3) fNil))))))) (DL.gName 6) b6_dealt))))))
noncomputable def mF_dealt : List D → MS D := mirF 2 7 3 gF_dealt
theorem bodyF_dealt (T : Txt K mg) (f : Addr) (cdv : Value) (A : Around) (outer : List Env) (s : Shared) (H : Hp) (E : XK) (C : CdOf K mg "dealt" cdv) (hr : Room 1 (A.deeper (PyProof.Rows.envOfC "dealt" (defScope s_dealt) s.heap.objs.size f cdv))) :
    MSs (cxOf CX0 P w K mg base ["number", "weights", "total", "shares", "rests", "by_rest", "house"] "dealt" (defScope s_dealt) f cdv A outer s H E).nox [] [3] [] (defBody s_dealt).dropLast gF_dealt :=
  (mss_cons (ms_pure (ds_set (i := 2) sc_dealt.nd (de_callB (call_sumD rfl) cad_sum rfl T.b_sum bt_sum (da_cons (de_var 1) da_nil))))
    (mss_cons (ms_pure (ds_ownC (i := 3) sc_dealt.nd (own := ["weight"]) (caps := [("number", 0), ("total", 2)]) rfl (caps_of (N := ["number", "weights", "total", "shares", "rests", "by_rest", "house"]) (osc := defScope s_dealt) rfl rfl rfl (by decide +kernel)) (di_seq (de_var 1)) (fun _ _ _ _ => (dg_name (i := 0) (show (["weight", "number", "total"] : List Str).Nodup from by decide +kernel))) (fun _ _ _ _ => dc_none) (fun _ _ _ _ => (de_op op_fdivD opd_fdiv (de_op op_mulT opd_mulT (de_var 1) (de_var 0)) (de_var 2)))))
    (mss_cons (ms_pure (ds_set (i := 4) sc_dealt.nd (de_comp (own := ["weight"]) (caps := [("number", 0), ("total", 2)]) rfl (caps_of (N := ["number", "weights", "total", "shares", "rests", "by_rest", "house"]) (osc := defScope s_dealt) rfl rfl rfl (by decide +kernel)) (di_seq (de_var 1)) (fun _ _ _ _ => (dg_name (i := 0) (show (["weight", "number", "total"] : List Str).Nodup from by decide +kernel))) (fun _ _ _ _ => dc_none) (fun _ _ _ _ => (de_op op_mod opd_mod (de_op op_mulT opd_mulT (de_var 1) (de_var 0)) (de_var 2))))))
    (mss_cons (ms_set (i := 5) sc_dealt.nd (me_sortK (ir := 4) C hr rfl T.b_sorted rfl T.b_range (ma_pure (da_cons (de_callB call_lenD cad_len rfl T.b_len bt_len (da_cons (de_var 1) da_nil)) da_nil)) (by decide)))
    (mss_one (ms_pure (ds_for PassesOwn.never rfl (di_seq (de_slice (de_var 5) do_none (do_some (de_op op_sub opd_sub (de_var 0) (de_thaw (O' := []) (by decide) (de_callB (call_sumD rfl) cad_sum rfl T.b_sum bt_sum (da_cons (de_var 3) da_nil))))))) (dg_name (i := 6) sc_dealt.nd) (dss_one (ds_augix (i := 3) rfl (de_var 6) de_int)))))))))
theorem okF_dealt (T : Txt K mg) : CalF P w K mg base 2 "dealt" 2 mF_dealt := calF_ofC (i := 3) T.f_dealt sc_dealt (b := (defBody s_dealt).dropLast) rfl rfl (by first | exact Or.inl rfl | exact Or.inr (Or.inl rfl) | exact Or.inr (Or.inr rfl)) (by decide) (by decide) (bodyF_dealt T)
theorem sc_law_whole : FnScope ["_law_found"] ["_law_found"] (defScope s_law_whole) := ⟨rfl, rfl, rfl, by decide +kernel, rfl, by decide +kernel, by decide +kernel⟩
noncomputable def g_law_whole : DSt → M Out := (gRet (fAnd (fL kIsi (fCons (fVar 0) (fCons (fC (.ty "int")) fNil))) (f1 gNot (fL kIsi (fCons (fVar 0) (fCons (fC (.ty "bool")) fNil))))))
noncomputable def m_law_whole : List D → M D := mir 1 1 g_law_whole
theorem body_law_whole (T : Txt K mg) (f : Addr) (cdv : Value) (A : Around) (outer : List Env) (s : Shared) (H : Hp) (E : XK) (hr : Room 1 (A.deeper (PyProof.Rows.envOfC "_law_whole" (defScope s_law_whole) s.heap.objs.size f cdv))) :
    DSs (cxOf CX0 P w K mg base ["_law_found"] "_law_whole" (defScope s_law_whole) f cdv A outer s H E).nox [] [] [] E (defBody s_law_whole) g_law_whole :=
  (dss_one (ds_ret (de_and (de_callB call_isiD cad_isi rfl T.b_isinstance bt_isinstance (da_cons (de_var 0) (da_cons (de_bltT rfl T.b_int bt_int) da_nil))) (de_one (de_not (de_callB call_isiD cad_isi rfl T.b_isinstance bt_isinstance (da_cons (de_var 0) (da_cons (de_bltT rfl T.b_bool bt_bool) da_nil))))))))
theorem ok_law_whole (T : Txt K mg) : Cal P w K mg base 2 "_law_whole" 1 m_law_whole := cal_of T.f_law_whole sc_law_whole (body_law_whole T)
theorem sc_law_right : FnScope ["_law_found", "_law_number_here", "_law_weights_here", "_law_whole_here", "_law_k", "_law_order", "_law_rest", "_law_more"] ["_law_found", "_law_number_here", "_law_weights_here"] (defScope s_law_right) := ⟨rfl, rfl, rfl, by decide +kernel, rfl, by decide +kernel, by decide +kernel⟩
noncomputable def b1_law_right : DSt → M Out := (gIf (DL.tOr (DL.tNot (tTru (fCall m_law_whole (fCons (f2 gIx (fVar 0) (fVar 4)) fNil)))) (t2 gNotIn (f2 gSub (f2 gIx (fVar 0) (fVar 4)) (f2 gFdiv (f2 gMulT (fVar 1) (f2 gIx (fVar 2) (fVar 4))) (fVar 3))) (fL gTupD (fCons (fC (.int 0)) (fCons (fC (.int 1)) fNil))))) (gRet (fC (.bl false))) gNx)
noncomputable def b2_law_right : DSt → M Out := (gSeq (gSet 6 (f2 gMod (f2 gMulT (fVar 1) (f2 gIx (fVar 2) (fVar 4))) (fVar 3)))
    (gSeq (gApp 5 (fL gTupD (fCons (f2 gSub (fC (.int 0)) (fVar 6)) (fCons (fVar 4) (fCons (f2 gSub (f2 gIx (fVar 0) (fVar 4)) (f2 gFdiv (f2 gMulT (fVar 1) (f2 gIx (fVar 2) (fVar 4))) (fVar 3))) fNil)))))
    (gIf (DL.tAnd (t2 gEq (fVar 6) (fC (.int 0))) (t2 gEq (f2 gIx (f2 gIx (fVar 5) (f1 gNeg (fC (.int 1)))) (fC (.int 2))) (fC (.int 1)))) (gRet (fC (.bl false))) gNx)))
noncomputable def c3_law_right : DSt → M D := (f2 gIx (fVar 0) (fC (.int 2)))
noncomputable def g_law_right : DSt → M Out := (gSeq (gIf (DL.tOr (DL.tNot (tTru (fL kIsi (fCons (fVar 0) (fCons (fC (.ty "list")) fNil))))) (DL.tOr (t2 gNe (fL kLen (fCons (fVar 0) fNil)) (fL kLen (fCons (fVar 2) fNil))) (t2 gNe (fL kSum (fCons (fVar 0) fNil)) (fVar 1)))) (gRet (fC (.bl false))) gNx)
    (gSeq (gSet 3 (fL kSum (fCons (fVar 2) fNil)))
    (gSeq (gFor (iArgs rangeArgs (fCons (fL kLen (fCons (fVar 0) fNil)) fNil)) (DL.gName 4) b1_law_right)
    (gSeq (gSet 5 (fL gLstD fNil))
    (gSeq (gFor (iArgs rangeArgs (fCons (fL kLen (fCons (fVar 0) fNil)) fNil)) (DL.gName 4) b2_law_right)
    (gSeq (gSet 7 (fComp 1 [] (iSeqD (fL kSortT (fCons (fVar 5) fNil))) (DL.gName 0) tYes c3_law_right))
    (gRet (f2 gEq (fVar 7) (f1 gRev (fL kSorted (fCons (fVar 7) fNil)))))))))))
noncomputable def m_law_right : List D → M D := mir 3 8 g_law_right
theorem body_law_right (T : Txt K mg) (f : Addr) (cdv : Value) (A : Around) (outer : List Env) (s : Shared) (H : Hp) (E : XK) (hr : Room 2 (A.deeper (PyProof.Rows.envOfC "_law_right" (defScope s_law_right) s.heap.objs.size f cdv))) :
    DSs (cxOf CX0 P w K mg base ["_law_found", "_law_number_here", "_law_weights_here", "_law_whole_here", "_law_k", "_law_order", "_law_rest", "_law_more"] "_law_right" (defScope s_law_right) f cdv A outer s H E).nox [] [] [] E (defBody s_law_right) g_law_right :=
  (dss_cons (ds_if (DW.dt (dw_or (dt_not (dt_val (de_callB call_isiD cad_isi rfl T.b_isinstance bt_isinstance (da_cons (de_var 0) (da_cons (de_bltT rfl T.b_list bt_list) da_nil))))) (dw_or (dt_cmp (op_neD (hu30 hr)) opd_ne (de_callB call_lenD cad_len rfl T.b_len bt_len (da_cons (de_var 0) da_nil)) (de_callB call_lenD cad_len rfl T.b_len bt_len (da_cons (de_var 2) da_nil)) (nomark _)) (dw_or1 (dt_cmp (op_neD (hu30 hr)) opd_ne (de_callB (call_sumD rfl) cad_sum rfl T.b_sum bt_sum (da_cons (de_var 0) da_nil)) (de_var 1) (nomark _)))))) (dss_one (ds_ret de_bl)) dss_nil)
    (dss_cons (ds_set (i := 3) sc_law_right.nd (de_callB (call_sumD rfl) cad_sum rfl T.b_sum bt_sum (da_cons (de_var 2) da_nil)))
    (dss_cons (ds_for PassesOwn.never rfl (di_range rfl T.b_range (da_cons (de_callB call_lenD cad_len rfl T.b_len bt_len (da_cons (de_var 0) da_nil)) da_nil)) (dg_name (i := 4) sc_law_right.nd) (dss_one (ds_if (DW.dt (dw_or (dt_not (dt_val (de_call (ok_law_whole T) (hr.mono (by decide)) (da_cons (de_ix ix_seq opd_ix (de_var 0) (de_var 4)) da_nil)))) (dw_or1 (dt_cmp op_notIn_seq opd_notin (de_op op_sub opd_sub (de_ix ix_seq opd_ix (de_var 0) (de_var 4)) (de_op op_fdivD opd_fdiv (de_op op_mulT opd_mulT (de_var 1) (de_ix ix_seq opd_ix (de_var 2) (de_var 4))) (de_var 3))) (de_tup (da_cons de_int (da_cons de_int da_nil))) rfl)))) (dss_one (ds_ret de_bl)) dss_nil)))
    (dss_cons (ds_own (i := 5) sc_law_right.nd da_nil)
    (dss_cons (ds_for PassesOwn.never rfl (di_range rfl T.b_range (da_cons (de_callB call_lenD cad_len rfl T.b_len bt_len (da_cons (de_var 0) da_nil)) da_nil)) (dg_name (i := 4) sc_law_right.nd) (dss_cons (ds_set (i := 6) sc_law_right.nd (de_op op_mod opd_mod (de_op op_mulT opd_mulT (de_var 1) (de_ix ix_seq opd_ix (de_var 2) (de_var 4))) (de_var 3)))
    (dss_cons (ds_app (i := 5) rfl (de_tup (da_cons (de_op op_sub opd_sub de_int (de_var 6)) (da_cons (de_var 4) (da_cons (de_op op_sub opd_sub (de_ix ix_seq opd_ix (de_var 0) (de_var 4)) (de_op op_fdivD opd_fdiv (de_op op_mulT opd_mulT (de_var 1) (de_ix ix_seq opd_ix (de_var 2) (de_var 4))) (de_var 3))) da_nil)))))
    (dss_one (ds_if (DW.dt (dw_and (dt_cmp (op_eqD (hu30 hr)) opd_eq (de_var 6) de_int (nomark _)) (dw_and1 (dt_cmp (op_eqD (hu30 hr)) opd_eq (de_ix ix_seq opd_ix (de_ixO 5 rfl (de_un un_neg und_neg de_int)) de_int) de_int (nomark _))))) (dss_one (ds_ret de_bl)) dss_nil)))))
    (dss_pre (O' := []) (by decide) (dss_cons (ds_setC (i := 7) sc_law_right.nd (own := ["_law_one"]) (caps := []) rfl (caps_of (N := ["_law_found", "_law_number_here", "_law_weights_here", "_law_whole_here", "_law_k", "_law_order", "_law_rest", "_law_more"]) (osc := defScope s_law_right) rfl rfl rfl (by decide +kernel)) (di_seq (de_callB call_sortT cad_sortT rfl T.b_sorted bt_sorted (da_cons (de_var 5) da_nil))) (fun _ _ _ _ => (dg_name (i := 0) (show (["_law_one"] : List Str).Nodup from by decide +kernel))) (fun _ _ _ _ => dc_none) (fun _ _ _ _ => (de_ix ix_seq opd_ix (de_var 0) de_int)))
    (dss_one (ds_ret (de_cmp (op_eqD (hu30 hr)) opd_eq (de_var 7) (de_rev (de_callB call_sortedI cad_sorted rfl T.b_sorted bt_sorted (da_cons (de_var 7) da_nil))) (nomark _)))))))))))
theorem ok_law_right (T : Txt K mg) : Cal P w K mg base 3 "_law_right" 3 m_law_right := cal_of T.f_law_right sc_law_right (body_law_right T)
theorem sc_law : FnScope ["_law_script", "_law_weights_here", "_law_number_here", "_law_handed", "_law_found", "_law_kept"] ["_law_script"] (defScope s_law) := ⟨rfl, rfl, rfl, by decide +kernel, rfl, by decide +kernel, by decide +kernel⟩
noncomputable def g_law : DSt → MS Out := (eSeq (lF (gSet 1 (fCall m_law_weights (fCons (fVar 0) fNil))))
    (eSeq (lF (gSet 2 (fCall m_law_number (fCons (fVar 0) (fCons (fL kSum (fCons (fVar 1) fNil)) fNil)))))
    (eSeq (lF (gSet 3 (fL kList (fCons (fVar 1) fNil))))
    (eSeq (eSet 4 (mCall mF_dealt (lF (fCons (fVar 2) (fCons (fVar 3) fNil)))))
    (eSeq (lF (gIf (DL.tNot (tTru (fCall m_law_right (fCons (fVar 4) (fCons (fVar 2) (fCons (fVar 1) fNil)))))) (gRet (fC (.bl false))) gNx))
    (eSeq (lF (gSet 5 (fVar 4)))
    (eSeq (lF (gClr 4))
    (eRet (mAndV (m2 gEq (mCall m_dealt (lF (fCons (fVar 2) (fCons (fVar 3) fNil)))) (lF (fVar 5))) (lF (f2 gEq (fVar 3) (fVar 1))))))))))))
noncomputable def m_law : List D → MS D := mirE 1 6 g_law
theorem body_law (T : Txt K mg) (f : Addr) (cdv : Value) (A : Around) (outer : List Env) (s : Shared) (H : Hp) (E : XK) (hr : Room 3 (A.deeper (PyProof.Rows.envOfC "law" (defScope s_law) s.heap.objs.size f cdv))) :
    MSs (cxOf CX0 P w K mg base ["_law_script", "_law_weights_here", "_law_number_here", "_law_handed", "_law_found", "_law_kept"] "law" (defScope s_law) f cdv A outer s H E).nox [] [4] [] (defBody s_law) g_law :=
  (mss_cons (ms_pure (ds_set (i := 1) sc_law.nd (de_call (ok_law_weights T) (hr.mono (by decide)) (da_cons (de_var 0) da_nil))))
    (mss_cons (ms_pure (ds_set (i := 2) sc_law.nd (de_call (ok_law_number T) (hr.mono (by decide)) (da_cons (de_var 0) (da_cons (de_callB (call_sumD rfl) cad_sum rfl T.b_sum bt_sum (da_cons (de_var 1) da_nil)) da_nil)))))
    (mss_cons (ms_pure (ds_set (i := 3) sc_law.nd (de_callTy call_list_of cad_list rfl T.b_list bt_list (da_cons (de_var 1) da_nil))))
    (mss_cons (ms_ownF (i := 4) sc_law.nd (okF_dealt T) (hr.mono (by decide)) (ma_pure (da_cons (de_var 2) (da_cons (de_var 3) da_nil))))
    (mss_cons (ms_pure (ds_if (dt_not (dt_thaw (O' := []) (by decide) (dt_val (de_call (ok_law_right T) (hr.mono (by decide)) (da_cons (de_var 4) (da_cons (de_var 2) (da_cons (de_var 1) da_nil))))))) (dss_one (ds_ret de_bl)) dss_nil))
    (mss_cons (ms_pure (ds_set (i := 5) sc_law.nd (de_listO 4 rfl rfl T.b_list)))
    (mss_cons (ms_pure (ds_clr (i := 4) rfl))
    (mss_one (ms_ret (me_and (me_cmp (op_eqD (hu30 hr)) opd_eq (me_call (ok_dealt T) (hr.mono (by decide)) (ma_pure (da_cons (de_var 2) (da_cons (de_var 3) da_nil)))) (me_pure (de_var 5)) (nomark _)) (me_one (me_pure (de_cmp (op_eqD (hu30 hr)) opd_eq (de_var 3) (de_var 1) (nomark _))))))))))))))
end
theorem lcons {us : List Value} {n : Nat} (h : us.length = n + 1) : ∃ a r, us = a :: r ∧ r.length = n := by
  cases us with
  | nil => cases h
  | cons a r => exact ⟨a, r, rfl, Nat.succ.inj h⟩
theorem alls1 {fd : FuncData} {p0 : Str} (h : ∀ a0 : Value, bindArgs fd ⟨[a0], []⟩ = pure ([p0].zip [a0])) (us : List Value) (hl : us.length = ([p0] : List Str).length) : bindArgs fd ⟨us, []⟩ = pure ([p0].zip us) := by
  obtain ⟨a0, r0, rfl, q0⟩ := lcons hl
  cases List.eq_nil_of_length_eq_zero q0
  exact h a0
theorem alls2 {fd : FuncData} {p0 p1 : Str} (h : ∀ a0 a1 : Value, bindArgs fd ⟨[a0, a1], []⟩ = pure ([p0, p1].zip [a0, a1])) (us : List Value) (hl : us.length = ([p0, p1] : List Str).length) : bindArgs fd ⟨us, []⟩ = pure ([p0, p1].zip us) := by
  obtain ⟨a0, r0, rfl, q0⟩ := lcons hl
  obtain ⟨a1, r1, rfl, q1⟩ := lcons q0
  cases List.eq_nil_of_length_eq_zero q1
  exact h a0 a1
theorem alls3 {fd : FuncData} {p0 p1 p2 : Str} (h : ∀ a0 a1 a2 : Value, bindArgs fd ⟨[a0, a1, a2], []⟩ = pure ([p0, p1, p2].zip [a0, a1, a2])) (us : List Value) (hl : us.length = ([p0, p1, p2] : List Str).length) : bindArgs fd ⟨us, []⟩ = pure ([p0, p1, p2].zip us) := by
  obtain ⟨a0, r0, rfl, q0⟩ := lcons hl
  obtain ⟨a1, r1, rfl, q1⟩ := lcons q0
  obtain ⟨a2, r2, rfl, q2⟩ := lcons q1
  cases List.eq_nil_of_length_eq_zero q2
  exact h a0 a1 a2
theorem txt_mk {K : PySem.W.Frag} {h : Heap} {mg : Str → Option Value} (X : K.In h) (G : h.Ns mainGlobals mg) {T c bm : Addr} {sb : Array (Option Value)} (hT : K.lookup T = some ⟨.none, none, .fields #[], #[]⟩) (hd : PySem.W.codeHdIn K c T = true) (hm : PySem.W.nsIn K mainGlobals "__builtins__" = some (some (.ref bm))) (hn : bm ≠ builtinsNs) (ho : K.lookup bm = some ⟨.type "module", some builtinsNs, .plain, sb⟩)
    {f0 : Addr} {oc0 kV0 dc0 pm0 cd0 ct0 : Value} {od0 an0 : Option Addr} {sl0 : Array (Option Value)}
    {f1 : Addr} {oc1 kV1 dc1 pm1 cd1 ct1 : Value} {od1 an1 : Option Addr} {sl1 : Array (Option Value)}
    {f2 : Addr} {oc2 kV2 dc2 pm2 cd2 ct2 : Value} {od2 an2 : Option Addr} {sl2 : Array (Option Value)}
    {f3 : Addr} {oc3 kV3 dc3 pm3 cd3 ct3 : Value} {od3 an3 : Option Addr} {sl3 : Array (Option Value)}
    {f4 : Addr} {oc4 kV4 dc4 pm4 cd4 ct4 : Value} {od4 an4 : Option Addr} {sl4 : Array (Option Value)}
    {f5 : Addr} {oc5 kV5 dc5 pm5 cd5 ct5 : Value} {od5 an5 : Option Addr} {sl5 : Array (Option Value)}
    {f6 : Addr} {oc6 kV6 dc6 pm6 cd6 ct6 : Value} {od6 an6 : Option Addr} {sl6 : Array (Option Value)}
    {f7 : Addr} {oc7 kV7 dc7 pm7 cd7 ct7 : Value} {od7 an7 : Option Addr} {sl7 : Array (Option Value)}
    (a0 : PySem.W.nsIn K mainGlobals "_law_mix" = some (some (.ref f0)))
    (l0 : K.lookup f0 = some ⟨oc0, od0, .func (PySem.W.fnOf "_law_mix" "_law_mix" (defArgs s_law_mix) (defBody s_law_mix) (defScope s_law_mix) .none kV0 dc0 pm0 an0 cd0 ct0), sl0⟩)
    (c0 : PySem.W.codeIn K cd0 "_law_mix" = true)
    (a1 : PySem.W.nsIn K mainGlobals "_law_at" = some (some (.ref f1)))
    (l1 : K.lookup f1 = some ⟨oc1, od1, .func (PySem.W.fnOf "_law_at" "_law_at" (defArgs s_law_at) (defBody s_law_at) (defScope s_law_at) .none kV1 dc1 pm1 an1 cd1 ct1), sl1⟩)
    (c1 : PySem.W.codeIn K cd1 "_law_at" = true)
    (a2 : PySem.W.nsIn K mainGlobals "_law_weights" = some (some (.ref f2)))
    (l2 : K.lookup f2 = some ⟨oc2, od2, .func (PySem.W.fnOf "_law_weights" "_law_weights" (defArgs s_law_weights) (defBody s_law_weights) (defScope s_law_weights) .none kV2 dc2 pm2 an2 cd2 ct2), sl2⟩)
    (c2 : PySem.W.codeIn K cd2 "_law_weights" = true)
    (a3 : PySem.W.nsIn K mainGlobals "_law_number" = some (some (.ref f3)))
    (l3 : K.lookup f3 = some ⟨oc3, od3, .func (PySem.W.fnOf "_law_number" "_law_number" (defArgs s_law_number) (defBody s_law_number) (defScope s_law_number) .none kV3 dc3 pm3 an3 cd3 ct3), sl3⟩)
    (c3 : PySem.W.codeIn K cd3 "_law_number" = true)
    (a4 : PySem.W.nsIn K mainGlobals "dealt" = some (some (.ref f4)))
    (l4 : K.lookup f4 = some ⟨oc4, od4, .func (PySem.W.fnOf "dealt" "dealt" (defArgs s_dealt) (defBody s_dealt) (defScope s_dealt) .none kV4 dc4 pm4 an4 cd4 ct4), sl4⟩)
    (c4 : PySem.W.codeIn K cd4 "dealt" = true)
    (a5 : PySem.W.nsIn K mainGlobals "_law_whole" = some (some (.ref f5)))
    (l5 : K.lookup f5 = some ⟨oc5, od5, .func (PySem.W.fnOf "_law_whole" "_law_whole" (defArgs s_law_whole) (defBody s_law_whole) (defScope s_law_whole) .none kV5 dc5 pm5 an5 cd5 ct5), sl5⟩)
    (c5 : PySem.W.codeIn K cd5 "_law_whole" = true)
    (a6 : PySem.W.nsIn K mainGlobals "_law_right" = some (some (.ref f6)))
    (l6 : K.lookup f6 = some ⟨oc6, od6, .func (PySem.W.fnOf "_law_right" "_law_right" (defArgs s_law_right) (defBody s_law_right) (defScope s_law_right) .none kV6 dc6 pm6 an6 cd6 ct6), sl6⟩)
    (c6 : PySem.W.codeIn K cd6 "_law_right" = true)
    (a7 : PySem.W.nsIn K mainGlobals "law" = some (some (.ref f7)))
    (l7 : K.lookup f7 = some ⟨oc7, od7, .func (PySem.W.fnOf "law" "law" (defArgs s_law) (defBody s_law) (defScope s_law) .none kV7 dc7 pm7 an7 cd7 ct7), sl7⟩)
    (c7 : PySem.W.codeIn K cd7 "law" = true)
    (z0 : PySem.W.nsIn K mainGlobals "bool" = some none)
    (z1 : PySem.W.nsIn K mainGlobals "int" = some none)
    (z2 : PySem.W.nsIn K mainGlobals "isinstance" = some none)
    (z3 : PySem.W.nsIn K mainGlobals "len" = some none)
    (z4 : PySem.W.nsIn K mainGlobals "list" = some none)
    (z5 : PySem.W.nsIn K mainGlobals "max" = some none)
    (z6 : PySem.W.nsIn K mainGlobals "range" = some none)
    (z7 : PySem.W.nsIn K mainGlobals "sorted" = some none)
    (z8 : PySem.W.nsIn K mainGlobals "sum" = some none) (hc : cd4 = .ref c) : Txt (dropT T K) mg ∧ TabOf (dropT T K) mg "dealt" T := by
  have X' : (dropT T K).In h := fun b o e => X b o (dropT_of e).2
  refine ⟨⟨funAt_mk X' G (fun _ _ _ _ _ _ => alls2 (fun _ _ => rfl)) (dt_ns hT a0) (dt_fn hT l0) (dt_code hT c0) (dt_keep hT l0),
   funAt_mk X' G (fun _ _ _ _ _ _ => alls2 (fun _ _ => rfl)) (dt_ns hT a1) (dt_fn hT l1) (dt_code hT c1) (dt_keep hT l1),
   funAt_mk X' G (fun _ _ _ _ _ _ => alls1 (fun _ => rfl)) (dt_ns hT a2) (dt_fn hT l2) (dt_code hT c2) (dt_keep hT l2),
   funAt_mk X' G (fun _ _ _ _ _ _ => alls2 (fun _ _ => rfl)) (dt_ns hT a3) (dt_fn hT l3) (dt_code hT c3) (dt_keep hT l3),
   funAt_mk X' G (fun _ _ _ _ _ _ => alls2 (fun _ _ => rfl)) (dt_ns hT a4) (dt_fn hT l4) (dt_code hT c4) (dt_keep hT l4),
   funAt_mk X' G (fun _ _ _ _ _ _ => alls1 (fun _ => rfl)) (dt_ns hT a5) (dt_fn hT l5) (dt_code hT c5) (dt_keep hT l5),
   funAt_mk X' G (fun _ _ _ _ _ _ => alls3 (fun _ _ _ => rfl)) (dt_ns hT a6) (dt_fn hT l6) (dt_code hT c6) (dt_keep hT l6),
   funAt_mk X' G (fun _ _ _ _ _ _ us hl => match us, hl with | [_], _ => rfl) (dt_ns hT a7) (dt_fn hT l7) (dt_code hT c7) (dt_keep hT l7),
   PySem.W.mg_none_of X' G (dt_ns hT z0),
   PySem.W.mg_none_of X' G (dt_ns hT z1),
   PySem.W.mg_none_of X' G (dt_ns hT z2),
   PySem.W.mg_none_of X' G (dt_ns hT z3),
   PySem.W.mg_none_of X' G (dt_ns hT z4),
   PySem.W.mg_none_of X' G (dt_ns hT z5),
   PySem.W.mg_none_of X' G (dt_ns hT z6),
   PySem.W.mg_none_of X' G (dt_ns hT z7),
   PySem.W.mg_none_of X' G (dt_ns hT z8)⟩, ?_⟩
  exact ⟨f4, c, bm, _, _, _, _, _, PySem.W.mg_of X' G (dt_ns hT a4), dt_fn hT l4, hc, dt_hd hT hd, PySem.W.mg_of X' G (dt_ns hT hm), hn, dt_mod hT ho, rfl, rfl, rfl⟩
theorem walkX_of {q : Program} {loose : List Str} {XP : (Str → Option Value) → Heap → Prop} {K : Params → PySem.W.Frag} {as : List Addr} {n t : Nat} {r : PySem.W.RowW} {d : DefRec} {kwd : List (Str × Expr)} {run : Value → List Value → Sem Value}
    (he : ∀ P, as = (K P).map (·.1)) (h : PySem.W.WalkO q loose XP (fun w h => (K w.params).In h) r d kwd run) : PySem.W.WalkX q loose XP (PySem.W.X.obsZ as) (PySem.W.X.valZ K n t) r d kwd run := by
  intro w s₀ s₁ mg mb G y a o pm cd doc dV kV ho hd hcd hD hmg hg args vals as' L
  refine h w s₀ s₁ mg mb G ?_ a o pm cd doc dV kV ho hd hcd hD hmg hg args vals as'
  have e : (K w.params).In s₀.heap := (PySem.W.X.z_facts he y).2.1
  exact fun b o' q => L.keeps b o' (e b o' q)
inductive Facts (K : PySem.W.Frag) (mg : Str → Option Value) (fa : Addr) : Prop
  | mk (T c : Addr) (h1 : K.lookup T = some ⟨.none, none, .fields #[], #[]⟩) (h2 : PySem.W.codeHdIn K c T = true) (h3 : Txt (dropT T K) mg) (h4 : TabOf (dropT T K) mg "dealt" T) (h5 : mg "law" = some (.ref fa))
theorem walk {l : PySem.W.OpenLaw} {q : Program} {loose : List Str} {XP : (Str → Option Value) → Heap → Prop} {YP : World → Heap → Prop} {d : DefRec} {K : Params → PySem.W.Frag} (hn : l.most = some 63) (hdf : d.params.defaults = [])
    (hY : ∀ (w : World) (h : Heap), YP w h → (K w.params).In h)
    (F : ∀ (w : World) (mg : Str → Option Value) (fa : Addr) (h : Heap), (K w.params).In h → h.Ns mainGlobals mg → mg d.name = some (.ref fa) → Facts (K w.params) mg fa)
    (hm : ∀ ns : List Int, ns.length ≤ 63 → ∃ Ω, m_law [.lst (ns.map .int)] [.tab "dealt" 6 46 "dealt.<locals>.<lambda>"] = some (.ok (.bl true), Ω)) :
    PySem.W.WalkO q loose XP YP l.row.toRowW d [] (fun f vs => PySem.call f vs) :=
  walk_ofT (n := 63) (k := 4) (x := "_law_script") hn (by decide) hdf ⟨rfl, by decide, by decide⟩ hY
    (fun w mg fa h KX G hmg => by
      obtain ⟨T, c, h1, h2, h3, h4, h5⟩ := F w mg fa h KX G hmg
      obtain ⟨fd, FF, hb⟩ := funAt_law h3.f_law h5 (fun _ _ _ _ _ _ _ _ => .of_eq rfl)
      exact ⟨T, c, fd, _, h1, h2, hb, fun base _ _ => fn_E FF sc_law (body_law h3), fun H a ns hl eT hS => by obtain ⟨Ω, e⟩ := hm ns hl; exact law_spT eT h4 hS e⟩)
theorem walkZ {l : PySem.W.OpenLaw} {q : Program} {loose : List Str} {XP : (Str → Option Value) → Heap → Prop} {d : DefRec} {K : Params → PySem.W.Frag} {as : List Addr} {n t : Nat} (he : ∀ P, as = (K P).map (·.1)) (hn : l.most = some 63) (hdf : d.params.defaults = [])
    (F : ∀ (w : World) (mg : Str → Option Value) (fa : Addr) (h : Heap), (K w.params).In h → h.Ns mainGlobals mg → mg d.name = some (.ref fa) → Facts (K w.params) mg fa)
    (hm : ∀ ns : List Int, ns.length ≤ 63 → ∃ Ω, m_law [.lst (ns.map .int)] [.tab "dealt" 6 46 "dealt.<locals>.<lambda>"] = some (.ok (.bl true), Ω)) :
    PySem.W.WalkX q loose XP (PySem.W.X.obsZ as) (PySem.W.X.valZ K n t) l.row.toRowW d [] (fun f vs => PySem.call f vs) :=
  walkX_of he (walk (K := K) hn hdf (fun _ _ y => y) F hm)
theorem hd_mk {K : PySem.W.Frag} {c T : Addr} {odc : Option Addr} {vs : Array Value} {slc : Array (Option Value)} {s2 : Str} {t2 t3 t5 : Tok} {i3 i5 : Int} {b4 : Bool} (lc : K.lookup c = some ⟨.type "code", odc, .fields vs, slc⟩) (e1 : vs[11]? = some (.ref T)) (e2 : vs.getD 18 .none = .str s2 t2) (e3 : vs.getD 7 .none = .int i3 t3) (e4 : vs.getD 9 .none = .bool b4) (e5 : vs.getD 10 .none = .int i5 t5) (e6 : (c != T) = true) : PySem.W.codeHdIn K c T = true := by
  unfold PySem.W.codeHdIn
  rw [lc]
  show ((((((match vs[11]? with | some (Value.ref P) => P == T | _ => false) && match vs.getD 18 Value.none with | Value.str s tok => true | _ => false) && match vs.getD 7 Value.none with | Value.int i tok => true | _ => false) && match vs.getD 9 Value.none with | Value.bool b => true | _ => false) && match vs.getD 10 Value.none with | Value.int i tok => true | _ => false) && c != T) = true
  rw [e1, e2, e3, e4, e5, e6]
  dsimp only
  rw [beq_self_eq_true]
  rfl
theorem facts_mk {K : PySem.W.Frag} {h : Heap} {mg : Str → Option Value} {fa : Addr} (X : K.In h) (G : h.Ns mainGlobals mg) (hf : mg "law" = some (.ref fa)) {T c bm : Addr} {sb : Array (Option Value)} {odc : Option Addr} {vs : Array Value} {slc : Array (Option Value)} {s2 : Str} {t2 t3 t5 : Tok} {i3 i5 : Int} {b4 : Bool}
    {f0 : Addr} {oc0 kV0 dc0 pm0 cd0 ct0 : Value} {od0 an0 : Option Addr} {sl0 : Array (Option Value)}
    {f1 : Addr} {oc1 kV1 dc1 pm1 cd1 ct1 : Value} {od1 an1 : Option Addr} {sl1 : Array (Option Value)}
    {f2 : Addr} {oc2 kV2 dc2 pm2 cd2 ct2 : Value} {od2 an2 : Option Addr} {sl2 : Array (Option Value)}
    {f3 : Addr} {oc3 kV3 dc3 pm3 cd3 ct3 : Value} {od3 an3 : Option Addr} {sl3 : Array (Option Value)}
    {f4 : Addr} {oc4 kV4 dc4 pm4 cd4 ct4 : Value} {od4 an4 : Option Addr} {sl4 : Array (Option Value)}
    {f5 : Addr} {oc5 kV5 dc5 pm5 cd5 ct5 : Value} {od5 an5 : Option Addr} {sl5 : Array (Option Value)}
    {f6 : Addr} {oc6 kV6 dc6 pm6 cd6 ct6 : Value} {od6 an6 : Option Addr} {sl6 : Array (Option Value)}
    {f7 : Addr} {oc7 kV7 dc7 pm7 cd7 ct7 : Value} {od7 an7 : Option Addr} {sl7 : Array (Option Value)}
    (a0 : PySem.W.nsIn K mainGlobals "_law_mix" = some (some (.ref f0)))
    (l0 : K.lookup f0 = some ⟨oc0, od0, .func (PySem.W.fnOf "_law_mix" "_law_mix" (defArgs s_law_mix) (defBody s_law_mix) (defScope s_law_mix) .none kV0 dc0 pm0 an0 cd0 ct0), sl0⟩)
    (c0 : PySem.W.codeIn K cd0 "_law_mix" = true)
    (a1 : PySem.W.nsIn K mainGlobals "_law_at" = some (some (.ref f1)))
    (l1 : K.lookup f1 = some ⟨oc1, od1, .func (PySem.W.fnOf "_law_at" "_law_at" (defArgs s_law_at) (defBody s_law_at) (defScope s_law_at) .none kV1 dc1 pm1 an1 cd1 ct1), sl1⟩)
    (c1 : PySem.W.codeIn K cd1 "_law_at" = true)
    (a2 : PySem.W.nsIn K mainGlobals "_law_weights" = some (some (.ref f2)))
    (l2 : K.lookup f2 = some ⟨oc2, od2, .func (PySem.W.fnOf "_law_weights" "_law_weights" (defArgs s_law_weights) (defBody s_law_weights) (defScope s_law_weights) .none kV2 dc2 pm2 an2 cd2 ct2), sl2⟩)
    (c2 : PySem.W.codeIn K cd2 "_law_weights" = true)
    (a3 : PySem.W.nsIn K mainGlobals "_law_number" = some (some (.ref f3)))
    (l3 : K.lookup f3 = some ⟨oc3, od3, .func (PySem.W.fnOf "_law_number" "_law_number" (defArgs s_law_number) (defBody s_law_number) (defScope s_law_number) .none kV3 dc3 pm3 an3 cd3 ct3), sl3⟩)
    (c3 : PySem.W.codeIn K cd3 "_law_number" = true)
    (a4 : PySem.W.nsIn K mainGlobals "dealt" = some (some (.ref f4)))
    (l4 : K.lookup f4 = some ⟨oc4, od4, .func (PySem.W.fnOf "dealt" "dealt" (defArgs s_dealt) (defBody s_dealt) (defScope s_dealt) .none kV4 dc4 pm4 an4 cd4 ct4), sl4⟩)
    (c4 : PySem.W.codeIn K cd4 "dealt" = true)
    (a5 : PySem.W.nsIn K mainGlobals "_law_whole" = some (some (.ref f5)))
    (l5 : K.lookup f5 = some ⟨oc5, od5, .func (PySem.W.fnOf "_law_whole" "_law_whole" (defArgs s_law_whole) (defBody s_law_whole) (defScope s_law_whole) .none kV5 dc5 pm5 an5 cd5 ct5), sl5⟩)
    (c5 : PySem.W.codeIn K cd5 "_law_whole" = true)
    (a6 : PySem.W.nsIn K mainGlobals "_law_right" = some (some (.ref f6)))
    (l6 : K.lookup f6 = some ⟨oc6, od6, .func (PySem.W.fnOf "_law_right" "_law_right" (defArgs s_law_right) (defBody s_law_right) (defScope s_law_right) .none kV6 dc6 pm6 an6 cd6 ct6), sl6⟩)
    (c6 : PySem.W.codeIn K cd6 "_law_right" = true)
    (a7 : PySem.W.nsIn K mainGlobals "law" = some (some (.ref f7)))
    (l7 : K.lookup f7 = some ⟨oc7, od7, .func (PySem.W.fnOf "law" "law" (defArgs s_law) (defBody s_law) (defScope s_law) .none kV7 dc7 pm7 an7 cd7 ct7), sl7⟩)
    (c7 : PySem.W.codeIn K cd7 "law" = true)
    (z0 : PySem.W.nsIn K mainGlobals "bool" = some none)
    (z1 : PySem.W.nsIn K mainGlobals "int" = some none)
    (z2 : PySem.W.nsIn K mainGlobals "isinstance" = some none)
    (z3 : PySem.W.nsIn K mainGlobals "len" = some none)
    (z4 : PySem.W.nsIn K mainGlobals "list" = some none)
    (z5 : PySem.W.nsIn K mainGlobals "max" = some none)
    (z6 : PySem.W.nsIn K mainGlobals "range" = some none)
    (z7 : PySem.W.nsIn K mainGlobals "sorted" = some none)
    (z8 : PySem.W.nsIn K mainGlobals "sum" = some none)
    (hc : cd4 = .ref c) (lc : K.lookup c = some ⟨.type "code", odc, .fields vs, slc⟩) (e1 : vs[11]? = some (.ref T)) (hT : K.lookup T = some ⟨.none, none, .fields #[], #[]⟩) (e2 : vs.getD 18 .none = .str s2 t2) (e3 : vs.getD 7 .none = .int i3 t3) (e4 : vs.getD 9 .none = .bool b4) (e5 : vs.getD 10 .none = .int i5 t5) (e6 : (c != T) = true) (hm : PySem.W.nsIn K mainGlobals "__builtins__" = some (some (.ref bm))) (ho : K.lookup bm = some ⟨.type "module", some builtinsNs, .plain, sb⟩) (hn : bm ≠ builtinsNs) : Facts K mg fa := by
  have hd := hd_mk lc e1 e2 e3 e4 e5 e6
  obtain ⟨h3, h4⟩ := txt_mk X G hT hd hm hn ho a0 l0 c0 a1 l1 c1 a2 l2 c2 a3 l3 c3 a4 l4 c4 a5 l5 c5 a6 l6 c6 a7 l7 c7 z0 z1 z2 z3 z4 z5 z6 z7 z8 hc
  exact ⟨T, c, hT, hd, h3, h4, hf⟩
end MyLaw
namespace MyLaw
open PySem PySem.Spec L2 DL
noncomputable section
theorem u_seq {g1 g2 : DSt → MS Out} {δ δ' : DSt} {Ω Ω' : Sto} (h : g1 δ Ω = some (.ok (.nx δ'), Ω')) : eSeq g1 g2 δ Ω = g2 δ' Ω' := by rw [s_seq, s_b, h, s_bok, seqS_nx]
theorem u_l {α : Type} {f : DSt → M α} {δ : DSt} {Ω : Sto} {a : α} (h : f δ = some (.ok a)) : lF f δ Ω = some (.ok a, Ω) := by rw [s_lF, h]; rfl
theorem u_set {i : Nat} {fa : DSt → MS D} {δ : DSt} {Ω Ω' : Sto} {d : D} (h : fa δ Ω = some (.ok d, Ω')) : eSet i fa δ Ω = some (.ok (.nx (δ.set i (some d))), Ω') := by rw [s_set, s_b, h, s_bok]; rfl
theorem u_call {m : List D → MS D} {fl : DSt → MS (List D)} {δ : DSt} {Ω : Sto} {ds : List D} (h : fl δ Ω = some (.ok ds, Ω)) : mCall m fl δ Ω = m ds Ω := by rw [s_call, s_b, h, s_bok]
noncomputable def kasAll {α : Type} (p : α → Bool) : PySem.W.KasT α → Bool
  | .ret a => p a
  | .ask _ _ k => kasAll p (k true) && kasAll p (k false)
theorem kasAll_run {α : Type} {p : α → Bool} {c : Nat → Nat → Bool} : ∀ (t : PySem.W.KasT α), kasAll p t = true → p (kasRun c t) = true
  | .ret a, h => h
  | .ask i j k, h => by
    unfold kasAll at h
    rw [Bool.and_eq_true] at h
    unfold kasRun
    cases e : c i j with
    | true => exact kasAll_run (k true) h.1
    | false => exact kasAll_run (k false) h.2
noncomputable def Few (n : Nat) : Prop := n = 2 ∨ n = 3 ∨ n = 4
theorem few_in {n : Nat} (h : Few n) : kasIn n (PySem.W.kas_sort n) = true := by
  rcases h with rfl | rfl | rfl <;> decide +kernel
noncomputable def leafOk (n : Nat) (a : Array Nat) : Bool := decide (a.toList.length = n) && a.toList.all fun i => decide (i < n)
theorem few_leaf {n : Nat} (h : Few n) : kasAll (leafOk n) (PySem.W.kas_sort n) = true := by
  rcases h with rfl | rfl | rfl <;> decide +kernel
theorem ord_ok {n : Nat} (h : Few n) (ks : List Int) : (rgOrd ks n).length = n ∧ ∀ i ∈ rgOrd ks n, i < n := by
  have e := kasAll_run (c := fun i j => decide (ks.getD i 0 < ks.getD j 0)) _ (few_leaf h)
  unfold leafOk at e
  rw [Bool.and_eq_true, decide_eq_true_eq, List.all_eq_true] at e
  exact ⟨e.1, fun i hi => by simpa using e.2 i hi⟩
noncomputable def shr (N : Int) (ws : List Int) : List Int := ws.map fun w => N * w / ws.sum
noncomputable def rst (N : Int) (ws : List Int) : List Int := ws.map fun w => N * w % ws.sum
noncomputable def ordr (N : Int) (ws : List Int) : List Nat := rgOrd ((rst N ws).map fun k => -k) ws.length
noncomputable def bump (xs : List Int) (js : List Nat) : List Int := js.foldl (fun xs j => xs.set j (xs.getD j 0 + 1)) xs
noncomputable def lft (N : Int) (ws : List Int) : Nat := (N - (shr N ws).sum).toNat
noncomputable def deal (N : Int) (ws : List Int) : List Int := bump (shr N ws) ((ordr N ws).take (lft N ws))
theorem bump_len : ∀ (js : List Nat) (xs : List Int), (bump xs js).length = xs.length
  | [], _ => rfl
  | j :: js, xs => by
    show (bump _ js).length = _
    rw [bump_len js, List.length_set]
theorem sum_set : ∀ (xs : List Int) (j : Nat) (v : Int), j < xs.length → (xs.set j v).sum = xs.sum - xs.getD j 0 + v
  | [], j, v, h => absurd h (Nat.not_lt_zero _)
  | x :: xs, 0, v, _ => by simp only [List.set_cons_zero, List.sum_cons, List.getD_cons_zero]; omega
  | x :: xs, j + 1, v, h => by
    simp only [List.set_cons_succ, List.sum_cons, List.getD_cons_succ]
    rw [sum_set xs j v (Nat.lt_of_succ_lt_succ h)]; omega
theorem bump_sum : ∀ (js : List Nat) (xs : List Int), (∀ j ∈ js, j < xs.length) → (bump xs js).sum = xs.sum + js.length
  | [], xs, _ => by simp [bump]
  | j :: js, xs, h => by
    show (bump _ js).sum = _
    rw [bump_sum js _ (fun i hi => by rw [List.length_set]; exact h i (List.mem_cons_of_mem _ hi)), sum_set _ _ _ (h j List.mem_cons_self), List.length_cons]
    omega
theorem shr_sum_aux {N T : Int} (hT : 0 < T) : ∀ ws : List Int, T * (ws.map fun w => N * w / T).sum ≤ N * ws.sum ∧ N * ws.sum + ws.length ≤ T * (ws.map fun w => N * w / T).sum + T * ws.length
  | [] => by simp
  | w :: ws => by
    obtain ⟨h1, h2⟩ := shr_sum_aux (N := N) hT ws
    have e := Int.emod_add_mul_ediv (N * w) T
    have a := Int.emod_nonneg (N * w) (Int.ne_of_gt hT)
    have b := Int.emod_lt_of_pos (N * w) hT
    have ep : T * ((ws.length + 1 : Nat) : Int) = T * (ws.length : Int) + T := by rw [Int.natCast_add, Int.mul_add]; simp
    simp only [List.map_cons, List.sum_cons, List.length_cons, Int.mul_add, ep]
    generalize T * (ws.map fun w => N * w / T).sum = A at *
    generalize N * ws.sum = B at *
    omega
theorem shr_sum {N : Int} {ws : List Int} (hT : 0 < ws.sum) (hw : ws ≠ []) : (shr N ws).sum ≤ N ∧ N < (shr N ws).sum + ws.length := by
  obtain ⟨h1, h2⟩ := shr_sum_aux (N := N) hT ws
  have hl : 0 < ws.length := List.length_pos_iff.mpr hw
  refine ⟨?_, ?_⟩
  · refine Int.le_of_mul_le_mul_left (a := ws.sum) ?_ hT
    rw [Int.mul_comm ws.sum N]; exact h1
  · refine Int.lt_of_mul_lt_mul_left (a := ws.sum) ?_ (Int.le_of_lt hT)
    rw [Int.mul_add, Int.mul_comm ws.sum N]
    show N * ws.sum < ws.sum * (ws.map fun w => N * w / ws.sum).sum + _
    omega
theorem few_ne {ws : List Int} (h : Few ws.length) : ws ≠ [] := by rintro rfl; rcases h with h | h | h <;> cases h
theorem deal_len (N : Int) (ws : List Int) : (deal N ws).length = ws.length := by
  unfold deal
  rw [bump_len]; unfold shr; rw [List.length_map]
theorem deal_sum {N : Int} {ws : List Int} (hf : Few ws.length) (hT : 0 < ws.sum) : (deal N ws).sum = N := by
  obtain ⟨h1, h2⟩ := shr_sum (N := N) hT (few_ne hf)
  obtain ⟨o1, o2⟩ := ord_ok hf ((rst N ws).map fun k => -k)
  unfold deal
  have ls : (shr N ws).length = ws.length := by unfold shr; rw [List.length_map]
  rw [bump_sum _ _ (fun j hj => by rw [ls]; exact o2 j (List.mem_of_mem_take hj)), List.length_take]
  have : (ordr N ws).length = ws.length := o1
  rw [this]
  unfold lft
  omega
end
end MyLaw
namespace MyLaw
open PySem PySem.Spec L2 DL
noncomputable section
theorem sort_back {xs : List Int} (h : xs.reverse.Pairwise (· ≤ ·)) : (sortI xs).reverse = xs := by
  rw [← sortI_eq (List.reverse_perm xs) h, List.reverse_reverse]
end
end MyLaw
namespace MyLaw
open PySem PySem.Spec L2 DL
noncomputable section
theorem few_le {n : Nat} (h : Few n) : 2 ≤ n ∧ n ≤ 4 := by rcases h with h | h | h <;> omega
noncomputable def vecs (m : Nat) : Nat → List (List Nat)
  | 0 => [[]]
  | k + 1 => (List.range m).flatMap fun x => (vecs m k).map fun v => x :: v
theorem mem_vecs {m : Nat} : ∀ {v : List Nat}, (∀ x ∈ v, x < m) → v ∈ vecs m v.length
  | [], _ => List.mem_cons_self
  | x :: v, h => by
    show x :: v ∈ (List.range m).flatMap fun x => (vecs m v.length).map fun v => x :: v
    exact List.mem_flatMap.mpr ⟨x, List.mem_range.mpr (h x List.mem_cons_self), List.mem_map.mpr ⟨v, mem_vecs fun y hy => h y (List.mem_cons_of_mem _ hy), rfl⟩⟩
noncomputable def stB (v : List Nat) : List Nat → Bool
  | [] => true
  | p :: r => r.all (fun q => decide (v.getD p 0 < v.getD q 0) || (v.getD p 0 == v.getD q 0 && decide (p < q))) && stB v r
noncomputable def goodB (n : Nat) (v : List Nat) : Bool := stB v (kasRun (fun i j => decide (v.getD i 0 < v.getD j 0)) (PySem.W.kas_sort n)).toList
theorem few_good {n : Nat} (h : Few n) : (vecs n n).all (goodB n) = true := by
  rcases h with rfl | rfl | rfl <;> decide +kernel
theorem in_run {α : Type} {n : Nat} {c c' : Nat → Nat → Bool} (h : ∀ i j, i < n → j < n → c i j = c' i j) : ∀ t : PySem.W.KasT α, kasIn n t = true → kasRun c t = kasRun c' t
  | .ret _, _ => rfl
  | .ask i j k, hi => by
    unfold kasIn at hi
    simp only [Bool.and_eq_true, decide_eq_true_eq] at hi
    unfold kasRun
    rw [h i j hi.1.1.1 hi.1.1.2]
    cases c' i j with
    | true => exact in_run h (k true) hi.1.2
    | false => exact in_run h (k false) hi.2
noncomputable def rnk (ks : List Int) (n i : Nat) : Nat := (List.range n).countP fun j => decide (ks.getD j 0 < ks.getD i 0)
theorem cnt_le {α : Type} {p q : α → Bool} (h : ∀ x, p x = true → q x = true) : ∀ l : List α, l.countP p ≤ l.countP q
  | [] => Nat.le_refl _
  | x :: l => by
    have ih := cnt_le h l
    rw [List.countP_cons, List.countP_cons]
    cases e : p x with
    | true => rw [h x e]; exact Nat.add_le_add_right ih _
    | false => exact Nat.le_trans ih (Nat.le_add_right _ _)
theorem cnt_lt {α : Type} {p q : α → Bool} (h : ∀ x, p x = true → q x = true) : ∀ {l : List α} {y : α}, y ∈ l → p y = false → q y = true → l.countP p < l.countP q
  | x :: l, y, hy, e1, e2 => by
    rw [List.countP_cons, List.countP_cons]
    rcases List.mem_cons.mp hy with rfl | hy
    · rw [e1, e2]
      have := cnt_le h l
      simp; omega
    · have := cnt_lt h hy e1 e2
      cases e : p x with
      | true => rw [h x e]; exact Nat.add_lt_add_right this _
      | false => exact Nat.lt_of_lt_of_le this (Nat.le_add_right _ _)
theorem rnk_lt {ks : List Int} {n i j : Nat} (hi : i < n) : rnk ks n i < rnk ks n j ↔ ks.getD i 0 < ks.getD j 0 := by
  constructor
  · intro h
    by_cases e : ks.getD i 0 < ks.getD j 0
    · exact e
    · exact absurd h (Nat.not_lt.mpr (cnt_le (fun x hx => decide_eq_true (Int.lt_of_lt_of_le (of_decide_eq_true hx) (Int.not_lt.mp e))) _))
  · intro h
    exact cnt_lt (fun x hx => decide_eq_true (Int.lt_trans (of_decide_eq_true hx) h)) (List.mem_range.mpr hi) (decide_eq_false (Int.lt_irrefl _)) (decide_eq_true h)
theorem rnk_top {ks : List Int} {n i : Nat} (hi : i < n) : rnk ks n i < n := by
  have := cnt_lt (p := fun j => decide (ks.getD j 0 < ks.getD i 0)) (q := fun _ => true) (fun _ _ => rfl) (List.mem_range.mpr hi) (decide_eq_false (Int.lt_irrefl _)) rfl
  rw [List.countP_true, List.length_range] at this
  exact this
theorem st_pw {v : List Nat} : ∀ ps : List Nat, stB v ps = true → ps.Pairwise fun p q => v.getD p 0 < v.getD q 0 ∨ (v.getD p 0 = v.getD q 0 ∧ p < q)
  | [], _ => .nil
  | p :: r, h => by
    unfold stB at h
    rw [Bool.and_eq_true, List.all_eq_true] at h
    refine List.pairwise_cons.mpr ⟨fun q hq => ?_, st_pw r h.2⟩
    have := h.1 q hq
    simp only [Bool.or_eq_true, Bool.and_eq_true, decide_eq_true_eq, beq_iff_eq] at this
    exact this
noncomputable def leafPm (n : Nat) (a : Array Nat) : Bool := a.toList.isPerm (List.range n)
theorem few_pm {n : Nat} (h : Few n) : kasAll (leafPm n) (PySem.W.kas_sort n) = true := by
  rcases h with rfl | rfl | rfl <;> decide +kernel
theorem ord_pm {n : Nat} (h : Few n) (ks : List Int) : (rgOrd ks n).Perm (List.range n) := by
  have e := kasAll_run (c := fun i j => decide (ks.getD i 0 < ks.getD j 0)) _ (few_pm h)
  exact List.isPerm_iff.mp e
theorem ord_nd {n : Nat} (h : Few n) (ks : List Int) : (rgOrd ks n).Nodup := (ord_pm h ks).nodup_iff.mpr List.nodup_range
theorem ord_st {n : Nat} (h : Few n) (ks : List Int) : (rgOrd ks n).Pairwise fun p q => ks.getD p 0 < ks.getD q 0 ∨ (ks.getD p 0 = ks.getD q 0 ∧ p < q) := by
  have hv : ∀ i, i < n → ((List.range n).map (rnk ks n)).getD i 0 = rnk ks n i := fun i hi => by
    rw [List.getD_eq_getElem?_getD, List.getElem?_map, List.getElem?_range hi]; rfl
  have e : rgOrd ks n = (kasRun (fun i j => decide (((List.range n).map (rnk ks n)).getD i 0 < ((List.range n).map (rnk ks n)).getD j 0)) (PySem.W.kas_sort n)).toList := by
    unfold rgOrd
    congr 1
    refine in_run (n := n) (fun i j hi hj => ?_) _ (few_in h)
    rw [hv i hi, hv j hj, decide_eq_decide, rnk_lt hi]
  have hm : (List.range n).map (rnk ks n) ∈ vecs n n := by
    have := mem_vecs (m := n) (v := (List.range n).map (rnk ks n)) (fun x hx => by
      obtain ⟨i, hi, rfl⟩ := List.mem_map.mp hx
      exact rnk_top (List.mem_range.mp hi))
    rw [List.length_map, List.length_range] at this
    exact this
  have g := List.all_eq_true.mp (few_good h) _ hm
  unfold goodB at g
  rw [← e] at g
  have pw := st_pw _ g
  refine pw.imp_of_mem fun {p q} hp hq z => ?_
  have hp' := List.mem_range.mp ((ord_pm h ks).mem_iff.mp hp)
  have hq' := List.mem_range.mp ((ord_pm h ks).mem_iff.mp hq)
  rw [hv p hp', hv q hq'] at z
  rcases z with z | ⟨z1, z2⟩
  · exact .inl ((rnk_lt hp').mp z)
  · refine .inr ⟨?_, z2⟩
    have a : ¬ ks.getD p 0 < ks.getD q 0 := fun y => by have := (rnk_lt (n := n) hp').mpr y; omega
    have b : ¬ ks.getD q 0 < ks.getD p 0 := fun y => by have := (rnk_lt (n := n) hq').mpr y; omega
    omega
theorem tp_same {n : Nat} (h : Few n) {ks : List Int} {ts : List (List Int)} (x : Nat → Int) (ht : ∀ i, i < n → ts.getD i [] = [ks.getD i 0, (i : Int), x i]) : tpOrd ts n = rgOrd ks n := by
  have hn := few_le h
  have hg : ∀ i, i < n → ((List.range n).map fun i => ks.getD i 0 * 8 + (i : Int)).getD i 0 = ks.getD i 0 * 8 + (i : Int) := fun i hi => by
    rw [List.getD_eq_getElem?_getD, List.getElem?_map, List.getElem?_range hi]; rfl
  have e : tpOrd ts n = rgOrd ((List.range n).map fun i => ks.getD i 0 * 8 + (i : Int)) n := by
    unfold tpOrd rgOrd
    congr 1
    refine in_run (n := n) (fun i j hi hj => ?_) _ (few_in h)
    rw [ht i hi, ht j hj, hg i hi, hg j hj, HT.lexLt_cons]
    by_cases e : ks.getD i 0 = ks.getD j 0
    · rw [if_pos e, HT.lexLt_cons, e]
      by_cases e2 : (i : Int) = (j : Int)
      · have e3 : i = j := Int.ofNat.inj e2
        subst e3
        rw [if_pos rfl, HT.lexLt_cons, if_pos rfl]
        show false = _
        simp
      · rw [if_neg e2, decide_eq_decide]; omega
    · rw [if_neg e, decide_eq_decide]; omega
  rw [e]
  have p1 := ord_st h ((List.range n).map fun i => ks.getD i 0 * 8 + (i : Int))
  have p2 := ord_st h ks
  have q1 := ord_pm h ((List.range n).map fun i => ks.getD i 0 * 8 + (i : Int))
  have q2 := ord_pm h ks
  refine List.Perm.eq_of_pairwise (le := fun p q : Nat => ks.getD p 0 < ks.getD q 0 ∨ (ks.getD p 0 = ks.getD q 0 ∧ p < q)) (fun a b _ _ h1 h2 => by omega) (p1.imp_of_mem fun {p q} hp hq z => ?_) p2 (q1.trans q2.symm)
  have hp' := List.mem_range.mp (q1.mem_iff.mp hp)
  have hq' := List.mem_range.mp (q1.mem_iff.mp hq)
  rw [hg p hp', hg q hq'] at z
  omega
theorem bump_get : ∀ (js : List Nat) (xs : List Int) (k : Nat), js.Nodup → k < xs.length → (∀ j ∈ js, j < xs.length) → (bump xs js).getD k 0 = xs.getD k 0 + if k ∈ js then 1 else 0
  | [], xs, k, _, _, _ => by simp [bump]
  | j :: js, xs, k, hn, hk, hj => by
    obtain ⟨n1, n2⟩ := List.nodup_cons.mp hn
    show (bump _ js).getD k 0 = _
    rw [bump_get js _ k n2 (by rw [List.length_set]; exact hk) (fun i hi => by rw [List.length_set]; exact hj i (List.mem_cons_of_mem _ hi))]
    rw [List.getD_eq_getElem?_getD, List.getElem?_set]
    by_cases e : j = k
    · subst e
      rw [if_pos rfl, if_pos hk, if_neg n1, if_pos List.mem_cons_self]
      simp
    · rw [if_neg e, ← List.getD_eq_getElem?_getD]
      by_cases hm : k ∈ js
      · rw [if_pos hm, if_pos (List.mem_cons_of_mem _ hm)]
      · rw [if_neg hm, if_neg (fun z => (List.mem_cons.mp z).elim (fun z => e z.symm) hm)]
noncomputable def one (N : Int) (ws : List Int) (k : Nat) : Int := if k ∈ (ordr N ws).take (lft N ws) then 1 else 0
theorem deal_get {N : Int} {ws : List Int} (hf : Few ws.length) {k : Nat} (hk : k < ws.length) : (deal N ws).getD k 0 = N * ws.getD k 0 / ws.sum + one N ws k := by
  have ls : (shr N ws).length = ws.length := by unfold shr; rw [List.length_map]
  obtain ⟨o1, o2⟩ := ord_ok hf ((rst N ws).map fun k => -k)
  unfold deal
  have hnd : (ordr N ws).Nodup := ord_nd hf _
  rw [bump_get _ _ k (List.Nodup.sublist (List.take_sublist _ _) hnd) (by omega) (fun j hj => by rw [ls]; exact o2 j (List.mem_of_mem_take hj))]
  unfold one
  congr 1
  unfold shr
  rw [List.getD_eq_getElem?_getD, List.getElem?_map, List.getD_eq_getElem?_getD, List.getElem?_eq_getElem hk]
  rfl
theorem sm_le {f : Nat → Int} {T : Int} : ∀ l : List Nat, (∀ x ∈ l, f x ≤ T) → (l.map f).sum ≤ l.length * T
  | [], _ => by simp
  | x :: l, h => by
    have a := h x List.mem_cons_self
    have b := sm_le l fun y hy => h y (List.mem_cons_of_mem _ hy)
    have ep : ((l.length + 1 : Nat) : Int) * T = (l.length : Int) * T + T := by rw [Int.natCast_add, Int.add_mul]; simp
    simp only [List.map_cons, List.sum_cons, List.length_cons, ep]
    omega
theorem sm_zero {f : Nat → Int} : ∀ l : List Nat, (∀ x ∈ l, f x = 0) → (l.map f).sum = 0
  | [], _ => rfl
  | x :: l, h => by
    rw [List.map_cons, List.sum_cons, h x List.mem_cons_self, sm_zero l fun y hy => h y (List.mem_cons_of_mem _ hy)]; rfl
theorem rst_sum_aux {N T : Int} : ∀ ws : List Int, (ws.map fun w => N * w % T).sum = N * ws.sum - T * (ws.map fun w => N * w / T).sum
  | [] => by simp
  | w :: ws => by
    have e := Int.emod_add_mul_ediv (N * w) T
    simp only [List.map_cons, List.sum_cons, Int.mul_add]
    rw [rst_sum_aux ws]
    omega
theorem map_getD (xs : List Int) : (List.range xs.length).map (fun i => xs.getD i 0) = xs := by
  apply List.ext_getElem
  · simp
  · intro i h1 h2
    rw [List.getElem_map, List.getElem_range, List.getD_eq_getElem?_getD, List.getElem?_eq_getElem h2]; rfl
theorem rst_len (N : Int) (ws : List Int) : (rst N ws).length = ws.length := by unfold rst; rw [List.length_map]
theorem rst_get {N : Int} {ws : List Int} {k : Nat} (hk : k < ws.length) : (rst N ws).getD k 0 = N * ws.getD k 0 % ws.sum := by
  unfold rst
  rw [List.getD_eq_getElem?_getD, List.getElem?_map, List.getD_eq_getElem?_getD, List.getElem?_eq_getElem hk]; rfl
theorem neg_get (xs : List Int) (k : Nat) : (xs.map fun r => -r).getD k 0 = -(xs.getD k 0) := by
  rw [List.getD_eq_getElem?_getD, List.getElem?_map, List.getD_eq_getElem?_getD]
  cases xs[k]? <;> simp
theorem perm_sum {xs ys : List Int} (h : xs.Perm ys) : xs.sum = ys.sum := by
  induction h with
  | nil => rfl
  | cons x _ ih => rw [List.sum_cons, List.sum_cons, ih]
  | swap x y l => simp only [List.sum_cons]; omega
  | trans _ _ a b => rw [a, b]
theorem rest_pos {N : Int} {ws : List Int} (hf : Few ws.length) (hT : 0 < ws.sum) {k : Nat} (hk : k ∈ (ordr N ws).take (lft N ws)) : N * ws.getD k 0 % ws.sum ≠ 0 := by
  intro hz
  have pm : (ordr N ws).Perm (List.range ws.length) := ord_pm hf _
  have st : (ordr N ws).Pairwise _ := ord_st hf ((rst N ws).map fun k => -k)
  obtain ⟨h1, h2⟩ := shr_sum (N := N) hT (few_ne hf)
  let f : Nat → Int := fun p => (rst N ws).getD p 0
  have lt_of : ∀ p ∈ ordr N ws, p < ws.length := fun p hp => List.mem_range.mp (pm.mem_iff.mp hp)
  have f0 : ∀ p ∈ ordr N ws, 0 ≤ f p ∧ f p ≤ ws.sum := fun p hp => by
    show 0 ≤ (rst N ws).getD p 0 ∧ (rst N ws).getD p 0 ≤ ws.sum
    rw [rst_get (lt_of p hp)]
    exact ⟨Int.emod_nonneg _ (Int.ne_of_gt hT), Int.le_of_lt (Int.emod_lt_of_pos _ hT)⟩
  have tot : ((ordr N ws).map f).sum = ws.sum * (lft N ws : Int) := by
    have a : ((ordr N ws).map f).sum = ((List.range ws.length).map f).sum := perm_sum (pm.map f)
    have b : (List.range ws.length).map f = rst N ws := by
      have := map_getD (rst N ws)
      rw [rst_len] at this
      exact this
    rw [a, b]
    show (ws.map fun w => N * w % ws.sum).sum = _
    rw [rst_sum_aux]
    show N * ws.sum - ws.sum * (shr N ws).sum = _
    have c : (lft N ws : Int) = N - (shr N ws).sum := by unfold lft; omega
    rw [c, Int.mul_sub, Int.mul_comm ws.sum N]
  obtain ⟨A, B, e⟩ := List.append_of_mem hk
  have hA : A.length + 1 ≤ lft N ws := by
    have := congrArg List.length e
    rw [List.length_take, List.length_append, List.length_cons] at this
    omega
  have eo : ordr N ws = A ++ k :: (B ++ (ordr N ws).drop (lft N ws)) := by
    have := List.take_append_drop (lft N ws) (ordr N ws)
    rw [e, List.append_assoc, List.cons_append] at this
    exact this.symm
  generalize B ++ (ordr N ws).drop (lft N ws) = C at eo
  rw [eo] at st tot f0
  have hkk : f k = 0 := by
    show (rst N ws).getD k 0 = 0
    rw [rst_get (lt_of k (by rw [eo]; exact List.mem_append_right _ List.mem_cons_self)), hz]
  have hC : ∀ q ∈ C, f q = 0 := fun q hq => by
    have z := (List.pairwise_cons.mp (List.pairwise_append.mp st).2.1).1 q hq
    rw [neg_get, neg_get] at z
    have z' : f q ≤ f k := by
      show (rst N ws).getD q 0 ≤ (rst N ws).getD k 0
      omega
    have := (f0 q (List.mem_append_right _ (List.mem_cons_of_mem _ hq))).1
    omega
  have sA := sm_le A fun x hx => (f0 x (List.mem_append_left _ hx)).2
  rw [List.map_append, List.map_cons, List.sum_append, List.sum_cons, hkk, sm_zero C hC] at tot
  have up : (A.length : Int) * ws.sum + ws.sum ≤ ws.sum * (lft N ws : Int) := by
    have : ((A.length + 1 : Nat) : Int) ≤ (lft N ws : Int) := Int.ofNat_le.mpr hA
    have q := Int.mul_le_mul_of_nonneg_left this (Int.le_of_lt hT)
    rw [Int.natCast_add, Int.mul_add, Int.mul_comm ws.sum (A.length : Int)] at q
    simp only [Int.cast_ofNat_Int, Int.mul_one] at q
    exact q
  omega
theorem one_st {N : Int} {ws : List Int} (hf : Few ws.length) : ((ordr N ws).map (one N ws)).reverse.Pairwise (· ≤ ·) := by
  have hnd : (ordr N ws).Nodup := ord_nd hf _
  have e := List.take_append_drop (lft N ws) (ordr N ws)
  have h1 : ∀ p ∈ (ordr N ws).take (lft N ws), one N ws p = 1 := fun p hp => if_pos hp
  have h0 : ∀ p ∈ (ordr N ws).drop (lft N ws), one N ws p = 0 := fun p hp => if_neg fun z => by
    rw [← e] at hnd
    exact (List.nodup_append.mp hnd).2.2 p z p hp rfl
  rw [List.pairwise_reverse, List.pairwise_map]
  conv => arg 2; rw [← e]
  refine List.pairwise_append.mpr ⟨?_, ?_, fun p hp q hq => by rw [h1 p hp, h0 q hq]; decide⟩
  · exact List.pairwise_of_forall_mem_list fun p hp q hq => by rw [h1 p hp, h1 q hq]; decide
  · exact List.pairwise_of_forall_mem_list fun p hp q hq => by rw [h0 p hp, h0 q hq]; decide
end
end MyLaw
namespace MyLaw
open PySem PySem.Spec L2 DL
noncomputable section
noncomputable abbrev il (xs : List Int) : D := .lst (xs.map .int)
noncomputable abbrev tbl : SO := .tab "dealt" 6 46 "dealt.<locals>.<lambda>"
theorem aug_ok {a b c e f : Option D} {xs : List Int} {j : Nat} (hj : j < xs.length) :
    b3_dealt [a, b, c, some (il xs), e, f, some (.int (Int.ofNat j))] = some (.ok (.nx [a, b, c, some (il (xs.set j (xs.getD j 0 + 1))), e, f, some (.int (Int.ofNat j))])) := by
  unfold b3_dealt gAugIx
  simp only [stp]
  have h0 : (0 : Int) ≤ Int.ofNat j := Int.natCast_nonneg j
  rw [if_pos h0]
  have e1 : (xs.map D.int)[(Int.ofNat j).toNat]? = some (.int (xs.getD j 0)) := by
    show (xs.map D.int)[j]? = _
    rw [List.getElem?_map, List.getElem?_eq_getElem hj, List.getD_eq_getElem?_getD, List.getElem?_eq_getElem hj]; rfl
  rw [e1]
  show M.p _ = _
  have e2 : (xs.map D.int).set (Int.ofNat j).toNat (.int (xs.getD j 0 + 1)) = (xs.set j (xs.getD j 0 + 1)).map D.int := by
    show (xs.map D.int).set j _ = _
    rw [List.map_set]
  show (some (Except.ok (Out.nx ([a, b, c, some (.lst ((xs.map D.int).set (Int.ofNat j).toNat (.int (xs.getD j 0 + 1)))), e, f, some (.int (Int.ofNat j))]))) : M Out) = _
  rw [e2]
theorem for_bump {a b c e f : Option D} : ∀ (js : List Nat) (xs : List Int) (h : Option D), (∀ j ∈ js, j < xs.length) →
    ∃ h', forD b3_dealt (DL.gName 6) (js.map fun j => .int (Int.ofNat j)) [a, b, c, some (il xs), e, f, h] = some (.ok (.nx [a, b, c, some (il (bump xs js)), e, f, h']))
  | [], xs, h, _ => ⟨h, rfl⟩
  | j :: js, xs, h, hj => by
    obtain ⟨h', e'⟩ := for_bump (a := a) (b := b) (c := c) (e := e) (f := f) js (xs.set j (xs.getD j 0 + 1)) (some (.int (Int.ofNat j))) (fun i hi => by rw [List.length_set]; exact hj i (List.mem_cons_of_mem _ hi))
    refine ⟨h', ?_⟩
    rw [List.map_cons, for_cons (δ1 := [a, b, c, some (il xs), e, f, some (.int (Int.ofNat j))]) rfl (aug_ok (hj j List.mem_cons_self))]
    exact e'
theorem cut_take {α : Type} (xs : List α) {k : Int} (h : 0 ≤ k) : cutL xs none (some k) = xs.take k.toNat := by
  unfold cutL
  have e : HT.sIx xs.length xs.length (some k) = min k.toNat xs.length := by
    show (if k < 0 then _ else min k.toNat xs.length) = _
    rw [if_neg (by omega)]
  rw [HT.sIx_none, e, Nat.sub_zero, List.drop_zero]
  by_cases hk : k.toNat ≤ xs.length
  · rw [Nat.min_eq_left hk]
  · rw [Nat.min_eq_right (by omega), List.take_length, List.take_of_length_le (by omega)]
theorem ord_dv {N : Int} {ws : List Int} (hf : Few ws.length) : ordD (ws.length : Int) ((rst N ws).map .int) = some ((ordr N ws).map fun i => .int (Int.ofNat i)) := by
  obtain ⟨o1, o2⟩ := ord_ok hf ((rst N ws).map fun k => -k)
  obtain ⟨ff1, ff2⟩ := few_le hf
  unfold ordD
  rw [intsD_map]
  dsimp only
  rw [Int.toNat_natCast, if_pos ⟨by omega, by omega, by unfold rst; rw [List.length_map], few_in hf, List.all_eq_true.mpr fun i hi => decide_eq_true (o2 i hi), by omega⟩]
  rfl
theorem v_dealt {N : Int} {ws : List Int} {Ω : Sto} (hN : Bt 110 N) (hw : ∀ w ∈ ws, Bt 110 w) (hf : Few ws.length) (hT : 0 < ws.sum) (hT3 : ws.sum < 2 ^ 200) (hΩ : Ω[0]? = some tbl) :
    m_dealt [.int N, il ws] Ω = some (.ok (il (deal N ws)), Ω) := by
  obtain ⟨ff1, ff2⟩ := few_le hf
  unfold m_dealt
  rw [s_mir2]
  suffices h : g_dealt [some (.int N), some (il ws), none, none, none, none, none] Ω = some (.ok (.rt (il (deal N ws))), Ω) by
    show (MS.b (g_dealt [some (.int N), some (il ws), none, none, none, none, none]) outE) Ω = _
    rw [s_b, h, s_bok]; rfl
  unfold g_dealt
  rw [u_seq (u_l (show gSet 2 (fL kSum (fCons (fVar 1) fNil)) _ = some (.ok (.nx [some (.int N), some (il ws), some (.int ws.sum), none, none, none, none])) from by
    simp only [stp, sum_ints]; rfl))]
  have c1 : compD (DL.gName 0) tYes c1_dealt (ws.map .int) [none, some (.int N), some (.int ws.sum)] = some ((shr N ws).map .int) := by
    rw [show (shr N ws).map D.int = ws.map fun w => D.int (N * w / ws.sum) by unfold shr; rw [List.map_map]; rfl]
    refine comp_map1 ws none fun w hwm => ?_
    unfold c1_dealt
    simp only [stp, mulT_bt hN (hw w hwm), fdiv_int hT hT3]; rfl
  have c2 : compD (DL.gName 0) tYes c2_dealt (ws.map .int) [none, some (.int N), some (.int ws.sum)] = some ((rst N ws).map .int) := by
    rw [show (rst N ws).map D.int = ws.map fun w => D.int (N * w % ws.sum) by unfold rst; rw [List.map_map]; rfl]
    refine comp_map1 ws none fun w hwm => ?_
    unfold c2_dealt
    simp only [stp, mulT_bt hN (hw w hwm), mod_int hT]; rfl
  have l1 : ((shr N ws).map D.int).length ≤ 1000 := by unfold shr; simp only [List.length_map]; omega
  have l2 : ((rst N ws).map D.int).length ≤ 1000 := by unfold rst; simp only [List.length_map]; omega
  rw [u_seq (u_l (show gSet 3 _ _ = some (.ok (.nx [some (.int N), some (il ws), some (.int ws.sum), some (il (shr N ws)), none, none, none])) from by
    simp only [stp, c1, lst_le l1]; rfl))]
  rw [u_seq (u_l (show gSet 4 _ _ = some (.ok (.nx [some (.int N), some (il ws), some (.int ws.sum), some (il (shr N ws)), some (il (rst N ws)), none, none])) from by
    simp only [stp, c2, lst_le l2]; rfl))]
  have so : mSortK "dealt" 6 46 "dealt.<locals>.<lambda>" 4 (lF (fCons (fL kLen (fCons (fVar 1) fNil)) fNil)) [some (.int N), some (il ws), some (.int ws.sum), some (il (shr N ws)), some (il (rst N ws)), none, none] Ω = some (.ok (.lst ((ordr N ws).map fun i => .int (Int.ofNat i))), Ω) := by
    unfold mSortK
    rw [s_b, u_l (show fCons (fL kLen (fCons (fVar 1) fNil)) fNil _ = some (.ok [.int (ws.length : Int)]) from by simp only [stp, List.length_map]; rfl), s_bok]
    unfold sortK
    rw [hΩ]
    show (if _ then (ordD (ws.length : Int) ((rst N ws).map .int)).map _ else none) = _
    rw [if_pos ⟨rfl, rfl, rfl, rfl⟩, ord_dv hf]
    rfl
  rw [u_seq (show eSet 5 _ _ Ω = some (.ok (.nx [some (.int N), some (il ws), some (.int ws.sum), some (il (shr N ws)), some (il (rst N ws)), some (.lst ((ordr N ws).map fun i => .int (Int.ofNat i))), none]), Ω) from u_set so)]
  obtain ⟨h1, h2⟩ := shr_sum (N := N) hT (few_ne hf)
  obtain ⟨o1, o2⟩ := ord_ok hf ((rst N ws).map fun k => -k)
  have ls : (shr N ws).length = ws.length := by unfold shr; rw [List.length_map]
  obtain ⟨h', lp⟩ := for_bump (a := some (.int N)) (b := some (il ws)) (c := some (.int ws.sum)) (e := some (il (rst N ws))) (f := some (.lst ((ordr N ws).map fun i => .int (Int.ofNat i)))) ((ordr N ws).take (lft N ws)) (shr N ws) none (fun j hj => by rw [ls]; exact o2 j (List.mem_of_mem_take hj))
  have it : iSeqD (fSl (fVar 5) oNone (oSome (f2 gSub (fVar 0) (fScal (fL kSum (fCons (fVar 3) fNil)))))) [some (.int N), some (il ws), some (.int ws.sum), some (il (shr N ws)), some (il (rst N ws)), some (.lst ((ordr N ws).map fun i => .int (Int.ofNat i))), none] = some (.ok (((ordr N ws).take (lft N ws)).map fun j => .int (Int.ofNat j))) := by
    unfold fSl oNone oSome fScal
    simp only [stp, sum_ints, scalD, intD]
    show M.b (M.o (some (D.lst (cutL ((ordr N ws).map fun i => D.int (Int.ofNat i)) none (some (N - (shr N ws).sum)))))) _ = _
    rw [cut_take _ (by omega), ← List.map_take]
    rfl
  rw [u_seq (u_l (show gFor _ _ _ _ = some (.ok (.nx [some (.int N), some (il ws), some (.int ws.sum), some (il (deal N ws)), some (il (rst N ws)), some (.lst ((ordr N ws).map fun i => .int (Int.ofNat i))), h'])) from by
    rw [w_for (show iSeqD _ [some (.int N), some (il ws), some (.int ws.sum), some (il (shr N ws)), some (il (rst N ws)), some (.lst ((ordr N ws).map fun i => .int (Int.ofNat i))), none] = _ from it)]
    exact lp))]
  exact u_l (by simp only [stp]; rfl)
theorem vF_dealt {N : Int} {ws : List Int} {Ω : Sto} (hN : Bt 110 N) (hw : ∀ w ∈ ws, Bt 110 w) (hf : Few ws.length) (hT : 0 < ws.sum) (hT3 : ws.sum < 2 ^ 200) (hΩ : Ω[0]? = some tbl) :
    mF_dealt [.int N, il ws] Ω = some (.ok (il (deal N ws)), Ω) := by
  obtain ⟨ff1, ff2⟩ := few_le hf
  suffices h : ∃ h', gF_dealt [some (.int N), some (il ws), none, none, none, none, none] Ω = some (.ok (.nx [some (.int N), some (il ws), some (.int ws.sum), some (il (deal N ws)), some (il (rst N ws)), some (.lst ((ordr N ws).map fun i => .int (Int.ofNat i))), h']), Ω) by
    obtain ⟨h', h⟩ := h
    show pickF 3 (gF_dealt [some (.int N), some (il ws), none, none, none, none, none] Ω) = _
    rw [h]; rfl
  unfold gF_dealt
  rw [u_seq (u_l (show gSet 2 (fL kSum (fCons (fVar 1) fNil)) _ = some (.ok (.nx [some (.int N), some (il ws), some (.int ws.sum), none, none, none, none])) from by
    simp only [stp, sum_ints]; rfl))]
  have c1 : compD (DL.gName 0) tYes c4_dealt (ws.map .int) [none, some (.int N), some (.int ws.sum)] = some ((shr N ws).map .int) := by
    rw [show (shr N ws).map D.int = ws.map fun w => D.int (N * w / ws.sum) by unfold shr; rw [List.map_map]; rfl]
    refine comp_map1 ws none fun w hwm => ?_
    unfold c4_dealt
    simp only [stp, mulT_bt hN (hw w hwm), fdiv_int hT hT3]; rfl
  have c2 : compD (DL.gName 0) tYes c5_dealt (ws.map .int) [none, some (.int N), some (.int ws.sum)] = some ((rst N ws).map .int) := by
    rw [show (rst N ws).map D.int = ws.map fun w => D.int (N * w % ws.sum) by unfold rst; rw [List.map_map]; rfl]
    refine comp_map1 ws none fun w hwm => ?_
    unfold c5_dealt
    simp only [stp, mulT_bt hN (hw w hwm), mod_int hT]; rfl
  have l1 : ((shr N ws).map D.int).length ≤ 1000 := by unfold shr; simp only [List.length_map]; omega
  have l2 : ((rst N ws).map D.int).length ≤ 1000 := by unfold rst; simp only [List.length_map]; omega
  rw [u_seq (u_l (show gSet 3 _ _ = some (.ok (.nx [some (.int N), some (il ws), some (.int ws.sum), some (il (shr N ws)), none, none, none])) from by
    simp only [stp, c1, lst_le l1]; rfl))]
  rw [u_seq (u_l (show gSet 4 _ _ = some (.ok (.nx [some (.int N), some (il ws), some (.int ws.sum), some (il (shr N ws)), some (il (rst N ws)), none, none])) from by
    simp only [stp, c2, lst_le l2]; rfl))]
  have so : mSortK "dealt" 6 46 "dealt.<locals>.<lambda>" 4 (lF (fCons (fL kLen (fCons (fVar 1) fNil)) fNil)) [some (.int N), some (il ws), some (.int ws.sum), some (il (shr N ws)), some (il (rst N ws)), none, none] Ω = some (.ok (.lst ((ordr N ws).map fun i => .int (Int.ofNat i))), Ω) := by
    unfold mSortK
    rw [s_b, u_l (show fCons (fL kLen (fCons (fVar 1) fNil)) fNil _ = some (.ok [.int (ws.length : Int)]) from by simp only [stp, List.length_map]; rfl), s_bok]
    unfold sortK
    rw [hΩ]
    show (if _ then (ordD (ws.length : Int) ((rst N ws).map .int)).map _ else none) = _
    rw [if_pos ⟨rfl, rfl, rfl, rfl⟩, ord_dv hf]
    rfl
  rw [u_seq (show eSet 5 _ _ Ω = some (.ok (.nx [some (.int N), some (il ws), some (.int ws.sum), some (il (shr N ws)), some (il (rst N ws)), some (.lst ((ordr N ws).map fun i => .int (Int.ofNat i))), none]), Ω) from u_set so)]
  obtain ⟨h1, h2⟩ := shr_sum (N := N) hT (few_ne hf)
  obtain ⟨o1, o2⟩ := ord_ok hf ((rst N ws).map fun k => -k)
  have ls : (shr N ws).length = ws.length := by unfold shr; rw [List.length_map]
  obtain ⟨h', lp⟩ := for_bump (a := some (.int N)) (b := some (il ws)) (c := some (.int ws.sum)) (e := some (il (rst N ws))) (f := some (.lst ((ordr N ws).map fun i => .int (Int.ofNat i)))) ((ordr N ws).take (lft N ws)) (shr N ws) none (fun j hj => by rw [ls]; exact o2 j (List.mem_of_mem_take hj))
  have it : iSeqD (fSl (fVar 5) oNone (oSome (f2 gSub (fVar 0) (fScal (fL kSum (fCons (fVar 3) fNil)))))) [some (.int N), some (il ws), some (.int ws.sum), some (il (shr N ws)), some (il (rst N ws)), some (.lst ((ordr N ws).map fun i => .int (Int.ofNat i))), none] = some (.ok (((ordr N ws).take (lft N ws)).map fun j => .int (Int.ofNat j))) := by
    unfold fSl oNone oSome fScal
    simp only [stp, sum_ints, scalD, intD]
    show M.b (M.o (some (D.lst (cutL ((ordr N ws).map fun i => D.int (Int.ofNat i)) none (some (N - (shr N ws).sum)))))) _ = _
    rw [cut_take _ (by omega), ← List.map_take]
    rfl
  refine ⟨h', u_l ?_⟩
  rw [w_for (show iSeqD _ [some (.int N), some (il ws), some (.int ws.sum), some (il (shr N ws)), some (il (rst N ws)), some (.lst ((ordr N ws).map fun i => .int (Int.ofNat i))), none] = _ from it)]
  exact lp
end
end MyLaw
namespace MyLaw
open PySem PySem.Spec L2 DL
noncomputable section
noncomputable abbrev scr (ns : List Int) : D := .lst (ns.map .int)
theorem v_at (ns : List Int) (k : Int) (h0 : 0 ≤ k) (hk : k ≤ 1000) : ∃ i, m_law_at [scr ns, .int k] = some (.ok (.int i)) := by
  unfold m_law_at
  rw [e_mir2]
  unfold g_law_at
  obtain ⟨k, rfl⟩ := Int.eq_ofNat_of_zero_le h0
  by_cases h : k < ns.length
  · refine ⟨ns[k], ?_⟩
    have h2 : ((k : Int) < (ns.length : Int)) := by omega
    simp [h2, DL.atI_get (xs := ns.map D.int) (j := k) (v := .int ns[k]) (by simp [h]), M.p]
  · refine ⟨19 * (k : Int) + 8, ?_⟩
    have h2 : ¬ ((k : Int) < (ns.length : Int)) := by omega
    have e : gMulT (.int 19) (.int (k : Int)) = some (.int (19 * (k : Int))) := mulT_bt (a := 10) (b := 10) (by unfold Bt; decide) (by unfold Bt; omega)
    simp [h2, e, M.p]
noncomputable def atF (ns : List Int) (k : Int) : Int := getI (m_law_at [scr ns, .int k])
theorem w_at {ns : List Int} {k : Int} (h0 : 0 ≤ k) (hk : k ≤ 1000) : m_law_at [scr ns, .int k] = some (.ok (.int (atF ns k))) := let ⟨_, h⟩ := v_at ns k h0 hk; getI_of h
theorem p1012 : gPow (.int 10) (.int 12) = some (.int 1000000000000) := by rw [pow_int (by decide)]; rfl
theorem bt_of {k m : Nat} {n : Int} (h0 : 0 ≤ n) (h1 : n < (m : Int)) (h2 : m ≤ 2 ^ k) : Bt k n := by
  obtain ⟨j, rfl⟩ := Int.eq_ofNat_of_zero_le h0
  exact Nat.lt_of_lt_of_le (Int.ofNat_lt.mp h1) h2
theorem v_mix (n p : Int) (h0 : 0 ≤ p) (hp : p ≤ 1000) : ∃ r, m_law_mix [.int n, .int p] = some (.ok (.int r)) ∧ 0 ≤ r ∧ r < 2147483648 := by
  unfold m_law_mix
  rw [e_mir2]
  unfold g_law_mix
  by_cases h : 1000000000000 ≤ n
  · obtain ⟨δ', e, i⟩ := for_inv (g := b1_law_mix) (tg := DL.gName 2) (fun _ δ => ∃ a b, δ = [some (.int a), some (.int p), b, none])
      (fun d ds δ ⟨a, b, hd⟩ => by
        subst hd
        refine ⟨_, rfl, [some (.int (a / 2147483648)), some (.int p), some d, none], .inl ?_, _, _, rfl⟩
        simp [b1_law_mix, fdiv_int (i := a) (j := 2147483648) (by decide) (by decide), M.p])
      (rangeD 0 (p % 61).toNat) [some (.int (n / 1000000000000 - 1)), some (.int p), none, none] ⟨_, _, rfl⟩
    obtain ⟨a, b, rfl⟩ := i
    refine ⟨a % 2147483648, ?_, Int.emod_nonneg _ (by decide), Int.emod_lt_of_pos _ (by decide)⟩
    have e' : forD b1_law_mix (DL.gName 2) (rangeD 0 (p % 61).toNat) [some (.int (n / 1000000000000 - 1)), some (.int p), none, none] = M.p (.nx [some (.int a), some (.int p), b, none]) := e
    simp [p1012, h, fdiv_int (i := n) (j := 1000000000000) (by decide) (by decide), mod_int (i := p) (j := 61) (by decide), mod_int (i := a) (j := 2147483648) (by decide), e', List.replicate]
    rfl
  · have h1 := Int.emod_nonneg n (show (2147483629 : Int) ≠ 0 by decide)
    have h2 := Int.emod_lt_of_pos n (show (0 : Int) < 2147483629 by decide)
    have bp : Bt 10 p := bt_of (m := 1001) h0 (Int.lt_add_one_of_le hp) (by decide)
    have a1 : gMulT (.int 8) (.int p) = some (.int (8 * p)) := mulT_bt (a := 4) (b := 10) (by unfold Bt; decide) bp
    have b2 : Bt 14 (8 * p) := Bt.mul (a := 4) (by unfold Bt; decide) bp
    have a2 : gMulT (.int (8 * p)) (.int p) = some (.int (8 * p * p)) := mulT_bt b2 bp
    have b3 : Bt 33 (n % 2147483629 + p + 1) := ((Bt.add (a := 31) (bt_of (m := 2147483629) h1 h2 (by decide)) (bp.mono (by decide))).add (show Bt 32 1 by unfold Bt; decide)).mono (by decide)
    have b4 : Bt 31 (8 * p * p + 48271) := (((b2.mul bp).mono (by decide)).add (show Bt 30 48271 by unfold Bt; decide)).mono (by decide)
    have a3 : gMulT (.int (n % 2147483629 + p + 1)) (.int (8 * p * p + 48271)) = some (.int ((n % 2147483629 + p + 1) * (8 * p * p + 48271))) := mulT_bt b3 b4
    generalize hx : (n % 2147483629 + p + 1) * (8 * p * p + 48271) % 2147483647 = x
    have x1 : 0 ≤ x := by rw [← hx]; exact Int.emod_nonneg _ (by decide)
    have x2 : x < 2147483647 := by rw [← hx]; exact Int.emod_lt_of_pos _ (by decide)
    have bx : Bt 32 x := bt_of (m := 2147483647) x1 x2 (by decide)
    have a4 : gMulT (.int x) (.int x) = some (.int (x * x)) := mulT_bt bx bx
    generalize hy : x * x % 2147483587 = y
    have y1 : 0 ≤ y := by rw [← hy]; exact Int.emod_nonneg _ (by decide)
    have y2 : y < 2147483587 := by rw [← hy]; exact Int.emod_lt_of_pos _ (by decide)
    have by' : Bt 32 y := bt_of (m := 2147483587) y1 y2 (by decide)
    have a5 : gMulT (.int y) (.int (y + 2)) = some (.int (y * (y + 2))) := mulT_bt by' (by'.add (show Bt 32 2 by unfold Bt; decide))
    refine ⟨y * (y + 2) % 2147483579, ?_, Int.emod_nonneg _ (by decide), Int.lt_trans (Int.emod_lt_of_pos (y * (y + 2)) (show (0 : Int) < 2147483579 by decide)) (by decide)⟩
    simp [p1012, h, mod_int (i := n) (j := 2147483629) (by decide), a1, a2, a3, mod_int (i := (n % 2147483629 + p + 1) * (8 * p * p + 48271)) (j := 2147483647) (by decide), hx, a4, mod_int (i := x * x) (j := 2147483587) (by decide), hy, a5, mod_int (i := y * (y + 2)) (j := 2147483579) (by decide), List.replicate]
    rfl
noncomputable def mixF (n p : Int) : Int := getI (m_law_mix [.int n, .int p])
theorem w_mix {n p : Int} (h0 : 0 ≤ p) (hp : p ≤ 1000) : m_law_mix [.int n, .int p] = some (.ok (.int (mixF n p))) := let ⟨_, h, _⟩ := v_mix n p h0 hp; getI_of h
theorem r_mix {n p : Int} (h0 : 0 ≤ p) (hp : p ≤ 1000) : 0 ≤ mixF n p ∧ mixF n p < 2147483648 := by
  obtain ⟨r, h, q⟩ := v_mix n p h0 hp
  unfold mixF
  rw [h]; exact q
theorem p1030 : gPow (.int 10) (.int 30) = some (.int 1000000000000000000000000000000) := by rw [pow_int (by decide)]; rfl
theorem p1027 : gPow (.int 10) (.int 27) = some (.int 1000000000000000000000000000) := by rw [pow_int (by decide)]; rfl
noncomputable abbrev top30 : Int := 1000000000000000000000000000000
structure Wts (ws : List Int) : Prop where
  few : Few ws.length
  rng : ∀ w ∈ ws, 0 ≤ w ∧ w < top30
  pos : 0 < ws.sum
theorem sum_le {B : Int} (hB : 0 ≤ B) : ∀ {ws : List Int}, (∀ w ∈ ws, 0 ≤ w ∧ w ≤ B) → 0 ≤ ws.sum ∧ ws.sum ≤ B * ws.length
  | [], _ => by simp
  | w :: ws, h => by
    obtain ⟨h1, h2⟩ := sum_le hB (fun x hx => h x (List.mem_cons_of_mem _ hx))
    obtain ⟨h3, h4⟩ := h w List.mem_cons_self
    have ep : B * ((ws.length + 1 : Nat) : Int) = B * (ws.length : Int) + B := by rw [Int.natCast_add, Int.mul_add]; simp
    simp only [List.sum_cons, List.length_cons, ep]
    omega
theorem Wts.top {ws : List Int} (W : Wts ws) : ws.sum ≤ top30 * 4 := by
  have h := (sum_le (B := top30) (by decide) (fun w hw => ⟨(W.rng w hw).1, Int.le_of_lt (W.rng w hw).2⟩)).2
  have := few_le W.few
  unfold top30 at *
  omega
theorem pick8 {a b m : Int} (ha : 0 ≤ a ∧ a < top30) (hb : 0 ≤ b ∧ b < top30) (h0 : 0 ≤ m) (h1 : m < 8) : ∃ v : Int, 0 ≤ v ∧ v < top30 ∧ gIx (.lst [.int 0, .int 1, .int 2, .int 3, .int a, .int b, .int 1, .int 2]) (.int m) = some (.int v) := by
  rcases (show m = 0 ∨ m = 1 ∨ m = 2 ∨ m = 3 ∨ m = 4 ∨ m = 5 ∨ m = 6 ∨ m = 7 by omega) with rfl | rfl | rfl | rfl | rfl | rfl | rfl | rfl
  · exact ⟨0, by decide, by decide, DL.atI_get (j := 0) rfl⟩
  · exact ⟨1, by decide, by decide, DL.atI_get (j := 1) rfl⟩
  · exact ⟨2, by decide, by decide, DL.atI_get (j := 2) rfl⟩
  · exact ⟨3, by decide, by decide, DL.atI_get (j := 3) rfl⟩
  · exact ⟨a, ha.1, ha.2, DL.atI_get (j := 4) rfl⟩
  · exact ⟨b, hb.1, hb.2, DL.atI_get (j := 5) rfl⟩
  · exact ⟨1, by decide, by decide, DL.atI_get (j := 6) rfl⟩
  · exact ⟨2, by decide, by decide, DL.atI_get (j := 7) rfl⟩
theorem lst8 (a b c d e f g h : D) : gLstD [a, b, c, d, e, f, g, h] = some (.lst [a, b, c, d, e, f, g, h]) := rfl
theorem wt_step {ns ws : List Int} {j : Nat} {a3 a4 : Option D} (hj : j < 4) (hl : ws.length = j) : ∃ v b3 b4, 0 ≤ v ∧ v < top30 ∧
    b1_law_weights [some (scr ns), some (il ws), some (.int (j : Int)), a3, a4] = some (.ok (.nx [some (scr ns), some (il (ws ++ [v])), some (.int (j : Int)), b3, b4])) := by
  have e1 := w_at (ns := ns) (k := 1 + (j : Int)) (by omega) (by omega)
  have e2 := w_mix (n := atF ns (1 + (j : Int))) (p := 2 + (j : Int)) (by omega) (by omega)
  generalize mixF (atF ns (1 + (j : Int))) (2 + (j : Int)) = nu at e2
  have a0 := Int.emod_nonneg (nu / 8) (show (100 : Int) ≠ 0 by decide)
  have a1 := Int.emod_lt_of_pos (nu / 8) (show (0 : Int) < 100 by decide)
  have b0 := Int.emod_nonneg (atF ns (1 + (j : Int))) (show (top30 : Int) ≠ 0 by decide)
  have b1 := Int.emod_lt_of_pos (atF ns (1 + (j : Int))) (show (0 : Int) < top30 by decide)
  have c0 := Int.emod_nonneg nu (show (8 : Int) ≠ 0 by decide)
  have c1 := Int.emod_lt_of_pos nu (show (0 : Int) < 8 by decide)
  obtain ⟨v, v0, v1, ev⟩ := pick8 ⟨a0, Int.lt_trans a1 (by decide)⟩ ⟨b0, b1⟩ c0 c1
  refine ⟨v, some (.int nu), some (.lst [.int 0, .int 1, .int 2, .int 3, .int (nu / 8 % 100), .int (atF ns (1 + (j : Int)) % top30), .int 1, .int 2]), v0, v1, ?_⟩
  unfold b1_law_weights
  rw [w_seq (show gSet 3 _ _ = some (.ok (.nx [some (scr ns), some (il ws), some (.int (j : Int)), some (.int nu), a4])) from by simp only [stp, e1, e2]; rfl)]
  rw [w_seq (show gSet 4 _ _ = some (.ok (.nx [some (scr ns), some (il ws), some (.int (j : Int)), some (.int nu), some (.lst [.int 0, .int 1, .int 2, .int 3, .int (nu / 8 % 100), .int (atF ns (1 + (j : Int)) % top30), .int 1, .int 2])])) from by
    simp only [stp, e1, fdiv_int (i := nu) (j := 8) (by decide) (by decide), mod_int (i := nu / 8) (j := 100) (by decide), p1030, mod_int (i := atF ns (1 + (j : Int))) (j := top30) (by decide), lst8]; rfl)]
  rw [w_app (d := .int v) (ds := ws.map .int) 1 (by
    simp only [e_2, e_var, e_C, List.getElem?_cons_zero, List.getElem?_cons_succ, Option.join_some, M.o_some, M.b_ok, M.b_p, mod_int (i := nu) (j := 8) (by decide), ev]; rfl) rfl (by rw [List.length_map]; omega)]
  rw [show ws.map D.int ++ [.int v] = (ws ++ [v]).map D.int by rw [List.map_append]; rfl]
  rfl
theorem v_weights (ns : List Int) : ∃ ws, Wts ws ∧ m_law_weights [scr ns] = some (.ok (il ws)) := by
  have e1 := w_at (ns := ns) (k := 0) (by decide) (by decide)
  have e2 := w_mix (n := atF ns 0) (p := 1) (by decide) (by decide)
  have e3 := w_mix (n := atF ns 0) (p := 7) (by decide) (by decide)
  generalize mixF (atF ns 0) 1 = fi at e2
  generalize mixF (atF ns 0) 7 = fj at e3
  have m0 := Int.emod_nonneg fi (show (3 : Int) ≠ 0 by decide)
  have m1 := Int.emod_lt_of_pos fi (show (0 : Int) < 3 by decide)
  obtain ⟨n, hn⟩ := Int.eq_ofNat_of_zero_le (show 0 ≤ 2 + fi % 3 by omega)
  have hf : Few n := by unfold Few; omega
  obtain ⟨ff1, ff2⟩ := few_le hf
  obtain ⟨δ', lp, ws0, a2, a3, a4, rfl, hl0, rng0⟩ := for_nth (g := b1_law_weights) (tg := DL.gName 2) (rangeD 0 n) (fun j δ => ∃ (ws : List Int) (a2 a3 a4 : Option D), δ = [some (scr ns), some (il ws), a2, a3, a4] ∧ ws.length = j ∧ ∀ w ∈ ws, 0 ≤ w ∧ w < top30)
    (fun j hj δ ⟨ws, a2, a3, a4, hd, hl, hr⟩ => by
      subst hd
      rw [rangeD_len] at hj
      obtain ⟨v, b3, b4, v0, v1, e⟩ := wt_step (ns := ns) (ws := ws) (j := j) (a3 := a3) (a4 := a4) (by omega) hl
      refine ⟨[some (scr ns), some (il ws), some (.int (j : Int)), a3, a4], by rw [rangeD_get]; simp, _, .inl e, ws ++ [v], _, _, _, rfl, by rw [List.length_append, hl]; rfl, fun w hw => ?_⟩
      rcases List.mem_append.mp hw with h | h
      · exact hr w h
      · rw [List.mem_singleton.mp h]; exact ⟨v0, v1⟩) [some (scr ns), some (il []), none, none, none] ⟨[], none, none, none, rfl, rfl, fun _ h => by cases h⟩
  rw [rangeD_len] at hl0
  unfold m_law_weights
  rw [e_mir1]
  have st1 : gSet 1 (fL gLstD fNil) [some (scr ns), none, none, none, none] = some (.ok (.nx [some (scr ns), some (il []), none, none, none])) := rfl
  have st2 : gFor (iArgs rangeArgs (fCons (f2 gCat (fC (.int 2)) (f2 gMod (fCall m_law_mix (fCons (fCall m_law_at (fCons (fVar 0) (fCons (fC (.int 0)) fNil))) (fCons (fC (.int 1)) fNil))) (fC (.int 3)))) fNil)) (DL.gName 2) b1_law_weights [some (scr ns), some (il []), none, none, none] = some (.ok (.nx [some (scr ns), some (il ws0), a2, a3, a4])) := by
    rw [w_for (ds := rangeD 0 n) (by simp only [stp, e1, e2, mod_int (i := fi) (j := 3) (by decide), hn, Int.ofNat_eq_natCast]; rfl)]
    exact lp
  have hs := sum_le (B := top30) (by decide) (fun w hw => ⟨(rng0 w hw).1, Int.le_of_lt (rng0 w hw).2⟩)
  have tst : t2 gEq (fScal (fL kSum (fCons (fVar 1) fNil))) (fC (.int 0)) [some (scr ns), some (il ws0), a2, a3, a4] = some (.ok (ws0.sum == 0)) := by
    unfold fScal
    simp only [stp, sum_ints, scalD]; rfl
  by_cases hz : ws0.sum = 0
  · have j0 := Int.emod_nonneg fj (show ((n : Nat) : Int) ≠ 0 by omega)
    have j1 := Int.emod_lt_of_pos fj (show (0 : Int) < ((n : Nat) : Int) by omega)
    obtain ⟨j, hj⟩ := Int.eq_ofNat_of_zero_le j0
    rw [hj] at j1
    have jl : j < ws0.length := by rw [hl0]; exact Int.ofNat_lt.mp j1
    refine ⟨ws0.set j 1, ⟨by rw [List.length_set, hl0]; exact hf, fun w hw => ?_, ?_⟩, ?_⟩
    · rcases List.mem_or_eq_of_mem_set hw with h | h
      · exact rng0 w h
      · subst h; decide
    · rw [sum_set _ _ _ jl, hz]
      have hg : ws0.getD j 0 = ws0[j] := by rw [List.getD_eq_getElem?_getD, List.getElem?_eq_getElem jl]; rfl
      have b : ws0[j] ≤ ws0.sum := by
        have q := sum_set ws0 j 0 jl
        have q2 := (sum_le (ws := ws0.set j 0) (B := top30) (by decide) (fun w hw => by
          rcases List.mem_or_eq_of_mem_set hw with h | h
          · exact ⟨(rng0 w h).1, Int.le_of_lt (rng0 w h).2⟩
          · subst h; decide)).1
        rw [hg] at q
        omega
      rw [hg]; omega
    · show M.b (g_law_weights [some (scr ns), none, none, none, none]) outD = _
      unfold g_law_weights
      rw [w_seq st1, w_seq st2]
      rw [w_seq (show gIf _ _ _ _ = some (.ok (.nx [some (scr ns), some (il (ws0.set j 1)), a2, a3, a4])) from by
        rw [w_if tst, if_pos (by rw [hz]; rfl)]
        unfold gSetIx fScal
        simp only [stp, e1, e3, List.length_map, hl0, scalD, mod_int (i := fj) (j := ((n : Nat) : Int)) (by omega), hj]
        have ix : ixN n (j : Int) = some j := by
          unfold ixN
          rw [if_pos (Int.natCast_nonneg j), if_pos j1]; rfl
        rw [ix]
        dsimp only
        rw [← List.map_set]
        rfl)]
      rfl
  · refine ⟨ws0, ⟨by rw [hl0]; exact hf, rng0, by omega⟩, ?_⟩
    show M.b (g_law_weights [some (scr ns), none, none, none, none]) outD = _
    unfold g_law_weights
    rw [w_seq st1, w_seq st2, w_skip (by rw [tst, show (ws0.sum == 0) = false from by simpa using hz])]
    rfl
theorem v_number {ns : List Int} {T : Int} (h0 : 0 ≤ T) (h1 : T ≤ top30 * 4) : ∃ N : Int, 0 ≤ N ∧ N < top30 ∧ m_law_number [scr ns, .int T] = some (.ok (.int N)) := by
  have e1 := w_at (ns := ns) (k := 6) (by decide) (by decide)
  generalize atF ns 6 = ce at e1
  have e2 := w_mix (n := ce) (p := 8) (by decide) (by decide)
  obtain ⟨d0, d1⟩ := r_mix (n := ce) (p := 8) (by decide) (by decide)
  generalize mixF ce 8 = nu at e2 d0 d1
  unfold m_law_number
  rw [e_mir2]
  have st1 : gSet 2 (fCall m_law_at (fCons (fVar 0) (fCons (fC (.int 6)) fNil))) [some (scr ns), some (.int T), none, none] = some (.ok (.nx [some (scr ns), some (.int T), some (.int ce), none])) := by simp only [stp, e1]; rfl
  have st2 : gSet 3 (fCall m_law_mix (fCons (fVar 2) (fCons (fC (.int 8)) fNil))) [some (scr ns), some (.int T), some (.int ce), none] = some (.ok (.nx [some (scr ns), some (.int T), some (.int ce), some (.int nu)])) := by simp only [stp, e2]; rfl
  have t1 : t2 gEq (f2 gMod (fVar 3) (fC (.int 4))) (fC (.int 0)) [some (scr ns), some (.int T), some (.int ce), some (.int nu)] = some (.ok (nu % 4 == 0)) := by simp only [stp, mod_int (i := nu) (j := 4) (by decide)]; rfl
  have t2' : DL.tAnd (t2 gEq (f2 gMod (fVar 3) (fC (.int 4))) (fC (.int 1))) (t2 gLt (fVar 1) (f2 gPow (fC (.int 10)) (fC (.int 27)))) [some (scr ns), some (.int T), some (.int ce), some (.int nu)] = some (.ok (nu % 4 == 1 && decide (T < 1000000000000000000000000000))) := by
    simp only [e_tand, e_t2, e_2, e_var, e_C, List.getElem?_cons_zero, List.getElem?_cons_succ, Option.join_some, M.o_some, M.b_ok, M.b_p, mod_int (i := nu) (j := 4) (by decide), eq_int, asB_bl, p1027, lt_int]
    cases nu % 4 == 1 <;> rfl
  show ∃ N : Int, 0 ≤ N ∧ N < top30 ∧ M.b (g_law_number [some (scr ns), some (.int T), none, none]) outD = _
  unfold g_law_number
  rw [w_seq st1, w_seq st2]
  by_cases hc : nu % 4 = 0
  · refine ⟨ce % top30, Int.emod_nonneg _ (by decide), Int.emod_lt_of_pos _ (by decide), ?_⟩
    rw [w_take (d := .int (ce % top30)) (by rw [t1, hc]; rfl) (by simp only [stp, p1030, mod_int (i := ce) (j := top30) (by decide)]; rfl)]
    rfl
  · rw [w_skip (by rw [t1, show (nu % 4 == 0) = false from by simpa using hc])]
    by_cases hd : nu % 4 = 1 ∧ T < 1000000000000000000000000000
    · have q0 := Int.emod_nonneg (nu / 16) (show (90 : Int) ≠ 0 by decide)
      have q1 := Int.emod_lt_of_pos (nu / 16) (show (0 : Int) < 90 by decide)
      have r0 := Int.emod_nonneg (nu / 4) (show (3 : Int) ≠ 0 by decide)
      have r1 := Int.emod_lt_of_pos (nu / 4) (show (0 : Int) < 3 by decide)
      have up : T * (nu / 16 % 90) ≤ 1000000000000000000000000000 * 90 := Int.mul_le_mul (Int.le_of_lt hd.2) (Int.le_of_lt q1) q0 (by decide)
      have bT : Bt 110 T := by
        unfold Bt
        have : (2 : Nat) ^ 110 = 1298074214633706907132624082305024 := by decide
        omega
      have mu : gMulT (.int T) (.int (nu / 16 % 90)) = some (.int (T * (nu / 16 % 90))) := mulT_bt (b := 7) bT (by unfold Bt; omega)
      refine ⟨if T * (nu / 16 % 90) + nu / 4 % 3 - 1 > 0 then T * (nu / 16 % 90) + nu / 4 % 3 - 1 else 0, ?_, ?_, ?_⟩
      · split <;> omega
      · split
        · show _ < (1000000000000000000000000000000 : Int); omega
        · decide
      · rw [w_take (d := .int (if T * (nu / 16 % 90) + nu / 4 % 3 - 1 > 0 then T * (nu / 16 % 90) + nu / 4 % 3 - 1 else 0)) (by rw [t2', hd.1, decide_eq_true hd.2]; rfl) (by
          simp only [stp, fdiv_int (i := nu) (j := 16) (by decide) (by decide), mod_int (i := nu / 16) (j := 90) (by decide), mu, fdiv_int (i := nu) (j := 4) (by decide) (by decide), mod_int (i := nu / 4) (j := 3) (by decide)]; rfl)]
        rfl
    · rw [w_skip (by
        rw [t2']
        congr 2
        rw [Bool.and_eq_false_iff]
        by_cases z : nu % 4 = 1
        · exact .inr (decide_eq_false fun y => hd ⟨z, y⟩)
        · exact .inl (by simpa using z))]
      refine ⟨nu / 4 % 100, Int.emod_nonneg _ (by decide), Int.lt_trans (Int.emod_lt_of_pos _ (by decide)) (by decide), ?_⟩
      rw [w_ret (d := .int (nu / 4 % 100)) (by simp only [stp, fdiv_int (i := nu) (j := 4) (by decide) (by decide), mod_int (i := nu / 4) (j := 100) (by decide)]; rfl)]
      rfl
end
end MyLaw
namespace MyLaw
open PySem PySem.Spec L2 DL
noncomputable section
theorem two110 : (2 : Nat) ^ 110 = 1298074214633706907132624082305024 := by decide
theorem bt30 {i : Int} (h0 : 0 ≤ i) (h1 : i < top30) : Bt 110 i := by
  unfold Bt
  rw [two110]
  unfold top30 at h1
  omega
theorem at_neg {α : Type} {xs : List α} {n : Nat} {v : α} (hl : xs.length = n) (hn : 0 < n) (h : xs[n - 1]? = some v) : atI xs (-1) = some v := by
  unfold atI ixN
  rw [if_neg (by decide), if_pos (by omega), hl, Option.bind_some]
  rw [show ((-1 : Int) + (n : Int)).toNat = n - 1 by omega]; exact h
theorem sorted_ints {xs : List Int} (h : xs.length < 64) : kSorted [il xs] = some (il (sortI xs)) := by
  show (match intsD (xs.map D.int) with | some ns => if ns.length < 64 then some (D.lst ((sortI ns).map .int)) else none | none => none) = _
  rw [intsD_map]
  dsimp only
  rw [if_pos h]
theorem eq_ints (xs : List Int) : gEq (il xs) (il xs) = some (.bl true) := by
  refine eq_same ?_ ?_
  · show okDs (xs.map .int) = true
    exact okDs_map fun _ _ => rfl
  · show depDs (xs.map D.int) + 1 ≤ 20
    have := depDs_map (f := D.int) (k := 0) (xs := xs) fun _ _ => Nat.le_refl 0
    omega
theorem ix_il {xs : List Int} {k : Nat} (h : k < xs.length) : gIx (il xs) (.int (k : Int)) = some (.int (xs.getD k 0)) := by
  refine DL.atI_get (xs := xs.map D.int) (j := k) ?_
  rw [List.getElem?_map, List.getElem?_eq_getElem h, List.getD_eq_getElem?_getD, List.getElem?_eq_getElem h]; rfl
theorem whole_ok (i : Int) : m_law_whole [.int i] = some (.ok (.bl true)) := by
  unfold m_law_whole
  rw [e_mir1]
  unfold g_law_whole
  simp only [stp]
  rfl
theorem one_01 (N : Int) (ws : List Int) (k : Nat) : one N ws k = 0 ∨ one N ws k = 1 := by
  unfold one
  split
  · exact .inr rfl
  · exact .inl rfl
theorem notin01 {x : Int} (h : x = 0 ∨ x = 1) : gNotIn (.int x) (.tup [.int 0, .int 1]) = some (.bl false) := by
  rcases h with rfl | rfl <;> rfl
section
variable {N : Int} {ws : List Int} (W : Wts ws) (h0 : 0 ≤ N) (h1 : N < top30)
include W h0 h1
theorem mu_ok {k : Nat} (hk : k < ws.length) : gMulT (.int N) (.int (ws.getD k 0)) = some (.int (N * ws.getD k 0)) := by
  have hm : ws.getD k 0 ∈ ws := by
    rw [List.getD_eq_getElem?_getD, List.getElem?_eq_getElem hk]; exact List.getElem_mem hk
  exact mulT_bt (bt30 h0 h1) (bt30 (W.rng _ hm).1 (W.rng _ hm).2)
theorem T_lt : ws.sum < 2 ^ 200 := by
  have := W.top
  unfold top30 at this
  exact Int.lt_of_le_of_lt this (by decide)
theorem dif_ok {k : Nat} (hk : k < ws.length) : (deal N ws).getD k 0 - N * ws.getD k 0 / ws.sum = one N ws k := by
  rw [deal_get W.few hk]; omega
theorem loop1 (x : Option D) : ∃ y, forD b1_law_right (DL.gName 4) (rangeD 0 ws.length) [some (il (deal N ws)), some (.int N), some (il ws), some (.int ws.sum), x, none, none, none] = some (.ok (.nx [some (il (deal N ws)), some (.int N), some (il ws), some (.int ws.sum), y, none, none, none])) := by
  obtain ⟨δ', e, y, rfl⟩ := for_nth (g := b1_law_right) (tg := DL.gName 4) (rangeD 0 ws.length) (fun _ δ => ∃ y, δ = [some (il (deal N ws)), some (.int N), some (il ws), some (.int ws.sum), y, none, none, none])
    (fun j hj δ ⟨y, hd⟩ => by
      subst hd
      rw [rangeD_len] at hj
      refine ⟨[some (il (deal N ws)), some (.int N), some (il ws), some (.int ws.sum), some (.int (j : Int)), none, none, none], by rw [rangeD_get]; simp, _, .inl ?_, some (.int (j : Int)), rfl⟩
      unfold b1_law_right
      refine w_skip1 ?_
      have i1 := ix_il (xs := deal N ws) (k := j) (by rw [deal_len]; exact hj)
      have i2 := ix_il (xs := ws) (k := j) hj
      have m1 := mu_ok W h0 h1 hj
      have d1 := dif_ok W h0 h1 hj
      have nn := notin01 (one_01 N ws j)
      simp only [e_tor, e_tnot, e_tru, e_call, e_cons, e_nil, e_2, e_t2, e_var, e_C, e_L, List.getElem?_cons_zero, List.getElem?_cons_succ, Option.join_some, M.o_some, M.b_ok, M.b_p, b_assoc, i1, i2, m1, whole_ok, tru_bl, Bool.not_true, Bool.false_eq_true, if_false, fdiv_int (i := N * ws.getD j 0) (j := ws.sum) W.pos (T_lt W h0 h1), sub_int, d1, tupD2, nn, asB_bl]
      rfl) _ ⟨x, rfl⟩
  exact ⟨y, e⟩
noncomputable def tup3 (N : Int) (ws : List Int) (k : Nat) : D := .tup [.int (0 - N * ws.getD k 0 % ws.sum), .int (k : Int), .int (one N ws k)]
theorem loop2 (x r : Option D) : ∃ y s, forD b2_law_right (DL.gName 4) (rangeD 0 ws.length) [some (il (deal N ws)), some (.int N), some (il ws), some (.int ws.sum), x, some (.lst []), r, none] = some (.ok (.nx [some (il (deal N ws)), some (.int N), some (il ws), some (.int ws.sum), y, some (.lst ((List.range ws.length).map (tup3 N ws))), s, none])) := by
  have hn := few_le W.few
  obtain ⟨δ', e, y, s, rfl⟩ := for_nth (g := b2_law_right) (tg := DL.gName 4) (rangeD 0 ws.length) (fun j δ => ∃ y s, δ = [some (il (deal N ws)), some (.int N), some (il ws), some (.int ws.sum), y, some (.lst ((List.range j).map (tup3 N ws))), s, none])
    (fun j hj δ ⟨y, s, hd⟩ => by
      subst hd
      rw [rangeD_len] at hj
      refine ⟨[some (il (deal N ws)), some (.int N), some (il ws), some (.int ws.sum), some (.int (j : Int)), some (.lst ((List.range j).map (tup3 N ws))), s, none], by rw [rangeD_get]; simp, _, .inl ?_, some (.int (j : Int)), some (.int (N * ws.getD j 0 % ws.sum)), rfl⟩
      unfold b2_law_right
      have i1 := ix_il (xs := deal N ws) (k := j) (by rw [deal_len]; exact hj)
      have i2 := ix_il (xs := ws) (k := j) hj
      have m1 := mu_ok W h0 h1 hj
      have d1 := dif_ok W h0 h1 hj
      rw [w_seq (show gSet 6 _ _ = some (.ok (.nx [some (il (deal N ws)), some (.int N), some (il ws), some (.int ws.sum), some (.int (j : Int)), some (.lst ((List.range j).map (tup3 N ws))), some (.int (N * ws.getD j 0 % ws.sum)), none])) from by
        simp only [e_set, e_2, e_var, List.getElem?_cons_zero, List.getElem?_cons_succ, Option.join_some, M.o_some, M.b_ok, M.b_p, b_assoc, i2, m1, mod_int (i := N * ws.getD j 0) (j := ws.sum) W.pos]; rfl)]
      rw [w_seq (w_app (d := tup3 N ws j) (ds := (List.range j).map (tup3 N ws)) 5 (by
        simp only [e_cons, e_nil, e_2, e_var, e_C, e_L, List.getElem?_cons_zero, List.getElem?_cons_succ, Option.join_some, M.o_some, M.b_ok, M.b_p, b_assoc, i1, i2, m1, fdiv_int (i := N * ws.getD j 0) (j := ws.sum) W.pos (T_lt W h0 h1), sub_int, d1, tupD3]; rfl) rfl (by rw [List.length_map, List.length_range]; omega))]
      rw [show (List.range j).map (tup3 N ws) ++ [tup3 N ws j] = (List.range (j + 1)).map (tup3 N ws) by rw [List.range_succ, List.map_append]; rfl]
      refine w_skip1 ?_
      have il2 : gIx (.lst ((List.range (j + 1)).map (tup3 N ws))) (.int (-1)) = some (tup3 N ws j) := at_neg (n := j + 1) (by rw [List.length_map, List.length_range]) (by omega) (by
        rw [List.getElem?_map, show j + 1 - 1 = j from rfl, List.getElem?_range (by omega)]; rfl)
      have i3 : gIx (tup3 N ws j) (.int 2) = some (.int (one N ws j)) := DL.atI_get (j := 2) rfl
      simp only [List.set_cons_succ, List.set_cons_zero, e_tand, e_2, e_1, e_t2, e_var, e_C, List.getElem?_cons_zero, List.getElem?_cons_succ, Option.join_some, M.o_some, M.b_ok, M.b_p, b_assoc, eq_int, asB_bl, neg_int, il2, i3]
      by_cases hz : N * ws.getD j 0 % ws.sum = 0
      · have : one N ws j = 0 := by
          unfold one
          rw [if_neg fun hm => rest_pos W.few W.pos hm hz]
        rw [hz, this]; rfl
      · rw [show (N * ws.getD j 0 % ws.sum == 0) = false from by simpa using hz]; rfl) _ ⟨x, r, rfl⟩
  rw [rangeD_len] at e
  exact ⟨y, s, e⟩
theorem tups_ok : tupsD ((List.range ws.length).map (tup3 N ws)) = some ((List.range ws.length).map fun k => [0 - N * ws.getD k 0 % ws.sum, (k : Int), one N ws k]) := by
  generalize List.range ws.length = l
  induction l with
  | nil => rfl
  | cons k l ih =>
    rw [List.map_cons, List.map_cons]
    show ((tupI (tup3 N ws k)).bind fun t => (tupsD (l.map (tup3 N ws))).map fun ts => t :: ts) = _
    rw [ih]
    rfl
theorem ord_tp : tpOrd ((List.range ws.length).map fun k => [0 - N * ws.getD k 0 % ws.sum, (k : Int), one N ws k]) ws.length = ordr N ws := by
  refine tp_same W.few (one N ws) fun i hi => ?_
  rw [List.getD_eq_getElem?_getD, List.getElem?_map, List.getElem?_range hi, neg_get, rst_get hi]
  show [0 - N * ws.getD i 0 % ws.sum, (i : Int), one N ws i] = _
  rw [Int.zero_sub]
theorem sort_ok : kSortT [.lst ((List.range ws.length).map (tup3 N ws))] = some (.lst ((ordr N ws).map (tup3 N ws))) := by
  have hn := few_le W.few
  obtain ⟨o1, o2⟩ := ord_ok W.few ((rst N ws).map fun k => -k)
  show (match tupsD ((List.range ws.length).map (tup3 N ws)) with | some ts => if okT ts ((List.range ws.length).map (tup3 N ws)).length = true then some (D.lst ((tpOrd ts ((List.range ws.length).map (tup3 N ws)).length).map fun i => ((List.range ws.length).map (tup3 N ws)).getD i .non)) else none | none => none) = _
  rw [tups_ok W h0 h1]
  dsimp only
  rw [List.length_map, List.length_range, ord_tp W h0 h1]
  rw [if_pos]
  · congr 2
    apply List.map_congr_left
    intro i hi
    rw [List.getD_eq_getElem?_getD, List.getElem?_map, List.getElem?_range (o2 i hi)]; rfl
  · unfold okT
    rw [ord_tp W h0 h1]
    simp only [Bool.and_eq_true, decide_eq_true_eq, List.all_eq_true]
    refine ⟨⟨⟨⟨⟨by omega, by omega⟩, fun t ht => ?_⟩, few_in W.few⟩, fun i hi => o2 i hi⟩, ?_⟩
    · obtain ⟨k, _, rfl⟩ := List.mem_map.mp ht
      rfl
    · have : (ordr N ws).length = ws.length := o1
      omega
theorem v_right : m_law_right [il (deal N ws), .int N, il ws] = some (.ok (.bl true)) := by
  have hn := few_le W.few
  obtain ⟨o1, o2⟩ := ord_ok W.few ((rst N ws).map fun k => -k)
  have o1' : (ordr N ws).length = ws.length := o1
  unfold m_law_right
  rw [e_mir3]
  show M.b (g_law_right [some (il (deal N ws)), some (.int N), some (il ws), none, none, none, none, none]) outD = _
  obtain ⟨y1, lp1⟩ := loop1 W h0 h1 none
  obtain ⟨y2, s2, lp2⟩ := loop2 W h0 h1 y1 none
  unfold g_law_right
  rw [w_skip (by
    simp only [e_tor, e_tnot, e_tru, e_cons, e_nil, e_t2, e_var, e_C, e_L, List.getElem?_cons_zero, List.getElem?_cons_succ, Option.join_some, M.o_some, M.b_ok, M.b_p, b_assoc, show kIsi [il (deal N ws), .ty "list"] = some (.bl true) from rfl, tru_bl, Bool.not_true, Bool.false_eq_true, if_false, len_l, List.length_map, deal_len, ne_int, beq_self_eq_true, asB_bl, sum_ints, deal_sum W.few W.pos]
    rfl)]
  rw [w_seq (show gSet 3 _ _ = some (.ok (.nx [some (il (deal N ws)), some (.int N), some (il ws), some (.int ws.sum), none, none, none, none])) from by simp only [stp, sum_ints]; rfl)]
  rw [w_seq (show gFor _ _ _ _ = some (.ok (.nx [some (il (deal N ws)), some (.int N), some (il ws), some (.int ws.sum), y1, none, none, none])) from by
    rw [w_for (ds := rangeD 0 ws.length) (by simp only [stp, List.length_map, deal_len]; rfl)]; exact lp1)]
  rw [w_seq (show gSet 5 _ _ = some (.ok (.nx [some (il (deal N ws)), some (.int N), some (il ws), some (.int ws.sum), y1, some (.lst []), none, none])) from rfl)]
  rw [w_seq (show gFor _ _ _ _ = some (.ok (.nx [some (il (deal N ws)), some (.int N), some (il ws), some (.int ws.sum), y2, some (.lst ((List.range ws.length).map (tup3 N ws))), s2, none])) from by
    rw [w_for (ds := rangeD 0 ws.length) (by simp only [stp, List.length_map, deal_len]; rfl)]; exact lp2)]
  have c3 : compD (DL.gName 0) tYes c3_law_right ((ordr N ws).map (tup3 N ws)) [none] = some (((ordr N ws).map (one N ws)).map .int) := by
    rw [List.map_map]
    refine comp_map1 (ordr N ws) none fun k _ => ?_
    unfold c3_law_right
    simp only [e_2, e_var, e_C, List.getElem?_cons_zero, Option.join_some, M.o_some, M.b_ok, M.b_p, show gIx (tup3 N ws k) (.int 2) = some (.int (one N ws k)) from DL.atI_get (j := 2) rfl]
    rfl
  have l3 : (((ordr N ws).map (one N ws)).map D.int).length ≤ 1000 := by rw [List.length_map, List.length_map]; omega
  rw [w_seq (show gSet 7 _ _ = some (.ok (.nx [some (il (deal N ws)), some (.int N), some (il ws), some (.int ws.sum), y2, some (.lst ((List.range ws.length).map (tup3 N ws))), s2, some (il ((ordr N ws).map (one N ws)))])) from by
    simp only [e_set, e_comp, e_iseq, e_L, e_cons, e_nil, e_var, List.getElem?_cons_zero, List.getElem?_cons_succ, Option.join_some, M.o_some, M.b_ok, M.b_p, b_assoc, sort_ok W h0 h1, seq_l, q_inner, List.map_nil, List.append_nil, List.replicate_succ, List.replicate_zero, c3, Option.bind_some, lst_le l3]; rfl)]
  have hrev : gRev (il (sortI ((ordr N ws).map (one N ws)))) = some (il ((ordr N ws).map (one N ws))) := by
    show some (D.lst ((sortI ((ordr N ws).map (one N ws))).map D.int).reverse) = _
    rw [← List.map_reverse, sort_back (one_st W.few)]
  rw [w_ret (d := .bl true) (by
    simp only [e_2, e_1, e_L, e_cons, e_nil, e_var, List.getElem?_cons_zero, List.getElem?_cons_succ, Option.join_some, M.o_some, M.b_ok, M.b_p, b_assoc, sorted_ints (xs := (ordr N ws).map (one N ws)) (by rw [List.length_map]; omega), hrev, eq_ints]
    rfl)]
  rfl
end
end
end MyLaw
namespace MyLaw
open PySem PySem.Spec L2 DL
noncomputable section
theorem law_true : ∀ ns : List Int, ns.length ≤ 63 → ∃ Ω, m_law [.lst (ns.map .int)] [.tab "dealt" 6 46 "dealt.<locals>.<lambda>"] = some (.ok (.bl true), Ω) := by
  intro ns hl
  refine ⟨[tbl], ?_⟩
  have hΩ : ([tbl] : Sto)[0]? = some tbl := rfl
  unfold m_law
  rw [s_mir1]
  suffices h : g_law [some (scr ns), none, none, none, none, none] [tbl] = some (.ok (.rt (.bl true)), [tbl]) by
    show (MS.b (g_law [some (scr ns), none, none, none, none, none]) outE) [tbl] = _
    rw [s_b, h, s_bok]; rfl
  obtain ⟨ws, W, ew⟩ := v_weights ns
  obtain ⟨N, n0, n1, en⟩ := v_number (ns := ns) (T := ws.sum) (Int.le_of_lt W.pos) W.top
  have T3 := T_lt W n0 n1
  have dF := vF_dealt (N := N) (ws := ws) (Ω := [tbl]) (bt30 n0 n1) (fun w hw => bt30 (W.rng w hw).1 (W.rng w hw).2) W.few W.pos T3 hΩ
  have dE := v_dealt (N := N) (ws := ws) (Ω := [tbl]) (bt30 n0 n1) (fun w hw => bt30 (W.rng w hw).1 (W.rng w hw).2) W.few W.pos T3 hΩ
  have vr := v_right W n0 n1
  unfold g_law
  rw [u_seq (u_l (show gSet 1 _ _ = some (.ok (.nx [some (scr ns), some (il ws), none, none, none, none])) from by simp only [stp, ew]; rfl))]
  rw [u_seq (u_l (show gSet 2 _ _ = some (.ok (.nx [some (scr ns), some (il ws), some (.int N), none, none, none])) from by simp only [stp, sum_ints, en]; rfl))]
  rw [u_seq (u_l (show gSet 3 _ _ = some (.ok (.nx [some (scr ns), some (il ws), some (.int N), some (il ws), none, none])) from by simp only [stp]; rfl))]
  rw [u_seq (show eSet 4 _ _ [tbl] = some (.ok (.nx [some (scr ns), some (il ws), some (.int N), some (il ws), some (il (deal N ws)), none]), [tbl]) from u_set (by
    rw [u_call (u_l (show fCons _ _ _ = some (.ok [.int N, il ws]) from by simp only [stp]; rfl)), dF]))]
  rw [u_seq (u_l (show gIf _ _ _ _ = some (.ok (.nx [some (scr ns), some (il ws), some (.int N), some (il ws), some (il (deal N ws)), none])) from w_skip1 (by
    simp only [stp, vr, Bool.not_true]; rfl)))]
  rw [u_seq (u_l (show gSet 5 _ _ = some (.ok (.nx [some (scr ns), some (il ws), some (.int N), some (il ws), some (il (deal N ws)), some (il (deal N ws))])) from rfl))]
  rw [u_seq (u_l (show gClr 4 _ = some (.ok (.nx [some (scr ns), some (il ws), some (.int N), some (il ws), some (il []), some (il (deal N ws))])) from rfl))]
  rw [s_ret, s_b]
  have ev : mAndV (m2 gEq (mCall m_dealt (lF (fCons (fVar 2) (fCons (fVar 3) fNil)))) (lF (fVar 5))) (lF (f2 gEq (fVar 3) (fVar 1))) [some (scr ns), some (il ws), some (.int N), some (il ws), some (il []), some (il (deal N ws))] [tbl] = some (.ok (.bl true), [tbl]) := by
    unfold mAndV
    rw [s_b, s_2, s_b, u_call (u_l (show fCons _ _ _ = some (.ok [.int N, il ws]) from by simp only [stp]; rfl)), dE, s_bok, s_b, u_l (show fVar 5 _ = some (.ok (il (deal N ws))) from rfl), s_bok, eq_ints, s_o, s_bok]
    dsimp only
    exact u_l (by simp only [stp, eq_ints]; rfl)
  rw [ev, s_bok]
  rfl
end
end MyLaw
set_option maxRecDepth 100000 in
set_option maxHeartbeats 0 in
theorem PySem.Challenge.cw_apartbook_k31_dealt_holds : PySem.Challenge.rw_apartbook_k31_dealt.Holds := by
  w_on; o_law; z_head; (case hw => w_witness2)
  k_fill
  refine MyLaw.walkZ (l := PySem.Challenge.rw_apartbook_k31_dealt) (fun P => rfl) rfl rfl ?F MyLaw.law_true
  case F =>
    intro w mg fa h KX G hmg
    refine' MyLaw.facts_mk KX G hmg ?a0 ?l0 ?c0 ?a1 ?l1 ?c1 ?a2 ?l2 ?c2 ?a3 ?l3 ?c3 ?a4 ?l4 ?c4 ?a5 ?l5 ?c5 ?a6 ?l6 ?c6 ?a7 ?l7 ?c7 ?z0 ?z1 ?z2 ?z3 ?z4 ?z5 ?z6 ?z7 ?z8 ?q_hc ?q_lc ?q_e1 ?q_hT ?q_e2 ?q_e3 ?q_e4 ?q_e5 ?q_e6 ?q_hm ?q_ho ?q_hn
    (case a0 => k_is); (case l0 => k_is); (case c0 => k_is); (case a1 => k_is); (case l1 => k_is); (case c1 => k_is); (case a2 => k_is); (case l2 => k_is)
    (case c2 => k_is); (case a3 => k_is); (case l3 => k_is); (case c3 => k_is); (case a4 => k_is); (case l4 => k_is); (case c4 => k_is); (case a5 => k_is)
    (case l5 => k_is); (case c5 => k_is); (case a6 => k_is); (case l6 => k_is); (case c6 => k_is); (case a7 => k_is); (case l7 => k_is); (case c7 => k_is)
    (case z0 => k_is); (case z1 => k_is); (case z2 => k_is); (case z3 => k_is); (case z4 => k_is); (case z5 => k_is); (case z6 => k_is); (case z7 => k_is)
    (case z8 => k_is)
    (case q_hc => rfl); (case q_lc => k_is); (case q_e1 => rfl); (case q_hT => k_is); (case q_e2 => rfl); (case q_e3 => rfl); (case q_e4 => rfl); (case q_e5 => rfl); (case q_e6 => rfl); (case q_hm => k_is); (case q_ho => k_is); (case q_hn => decide)
