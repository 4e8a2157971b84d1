import PyProof.Rows.All
import Wide.All
import OpenK.AllK
import Wide.FinOn
import Lean
import PyProof.EqAt
import PyProof.EqKinds
import PyProof.TupleCall
import PySem.Challenge.RW_apartbook_k07_refusals_made_by_hand
set_option Elab.async false
set_option linter.all false
set_option maxRecDepth 100000
set_option compiler.extract_closed false
theorem zau0 (h : True := by first | exact .inl rfl | exact .inr rfl | assumption) : True := h
theorem zau1 (h : True := by decide) : True := h
theorem zau2 (h : True := by rfl) : True := h
theorem zau3 (h : True := by intro _; rfl) : True := h
theorem zau4 (h : True := by first | exact Or.inl rfl | exact Or.inr (Or.inl rfl) | exact Or.inr (Or.inr rfl)) : True := h
theorem zau5 (h : True := by exact fun _ _ => rfl) : True := h
theorem zau6 (h : True := by exact fun _ => rfl) : True := h
theorem zau7 (h : True := by first | exact Or.inl rfl | exact Or.inr rfl) : True := h
namespace L2
open PySem PySem.Spec PyProof.Rows
noncomputable abbrev Key := Sum Int Str
noncomputable def keyIs : Key → Value → Bool
  | .inl k, v => Value.isInt k v
  | .inr x, v => Value.isStrOf x v
noncomputable def keyH (w : World) : Key → Int
  | .inl k => hashInt k
  | .inr x => hashStr w x
theorem keyIs_shape : ∀ {k : Key} {v : Value}, keyIs k v = true → (∃ i t, k = Sum.inl i ∧ v = Value.int i t) ∨ (∃ x t, k = Sum.inr x ∧ v = Value.str x t)
  | .inl i, v, h => by
    obtain ⟨t, e⟩ := Value.isInt_shape (k := i) (v := v) h
    exact .inl ⟨i, t, rfl, e⟩
  | .inr x, v, h => by
    obtain ⟨t, e⟩ := Value.isStrOf_shape (x := x) (v := v) h
    exact .inr ⟨x, t, rfl, e⟩
theorem key_ll (a b : Int) : decide ((Sum.inl a : Key) = Sum.inl b) = (a == b) := by
  by_cases e : a = b
  · subst e; simp
  · have h : ¬ (Sum.inl a : Key) = Sum.inl b := fun q => e (Sum.inl.inj q)
    rw [decide_eq_false h]
    exact (beq_eq_false_iff_ne.mpr e).symm
theorem key_rr (a b : Str) : decide ((Sum.inr a : Key) = Sum.inr b) = decide (a = b) := by
  by_cases e : a = b
  · subst e; simp
  · have h : ¬ (Sum.inr a : Key) = Sum.inr b := fun q => e (Sum.inr.inj q)
    rw [decide_eq_false h, decide_eq_false e]
theorem key_lr (a : Int) (b : Str) : decide ((Sum.inl a : Key) = Sum.inr b) = false := decide_eq_false (fun q => nomatch q)
theorem key_rl (a : Str) (b : Int) : decide ((Sum.inr a : Key) = Sum.inl b) = false := decide_eq_false (fun q => nomatch q)
noncomputable def mixKind (prog : Program) (w : World) : PySem.KeyKind prog w Key where
  is := keyIs
  hash := keyH w
  inj := fun v a b ha hb => by
    rcases keyIs_shape ha with ⟨i, t, rfl, rfl⟩ | ⟨x, t, rfl, rfl⟩
    · rcases keyIs_shape hb with ⟨j, u, rfl, e⟩ | ⟨y, u, rfl, e⟩
      · injection e with e1 _; rw [e1]
      · exact nomatch e
    · rcases keyIs_shape hb with ⟨j, u, rfl, e⟩ | ⟨y, u, rfl, e⟩
      · exact nomatch e
      · injection e with e1 _; rw [e1]
  byValue := fun k v h => by
    rcases keyIs_shape h with ⟨i, t, rfl, rfl⟩ | ⟨x, t, rfl, rfl⟩ <;> rfl
  pyHash := fun hv h => by
    rcases keyIs_shape hv with ⟨i, t, rfl, rfl⟩ | ⟨x, t, rfl, rfl⟩
    · exact wpAny_pyHash_int h
    · exact wpAny_pyHash_str h
  eqBool := fun hu hv h => by
    rcases keyIs_shape hu with ⟨i, t, rfl, rfl⟩ | ⟨x, t, rfl, rfl⟩
    · rcases keyIs_shape hv with ⟨j, u, rfl, rfl⟩ | ⟨y, u, rfl, rfl⟩
      · rw [key_ll] at h; exact wpAny_eqBool_int h
      · rw [key_lr] at h; exact SeqAt.EqAt.int_str i t y u _ _ _ _ h
    · rcases keyIs_shape hv with ⟨j, u, rfl, rfl⟩ | ⟨y, u, rfl, rfl⟩
      · rw [key_rl] at h; exact SeqAt.EqAt.str_int x t j u _ _ _ _ h
      · rw [key_rr] at h; exact wpAny_eqBool_str h
  «strs» := fun k x t v h => by
    rcases keyIs_shape h with ⟨i, u, rfl, e⟩ | ⟨y, u, rfl, e⟩
    · exact nomatch e
    · injection e with e1 _
      subst e1
      cases v <;> rfl
end L2
namespace L2
open PySem PySem.Spec PyProof.Rows
inductive V where
  | non | bl (b : Bool) | int (i : Int) | str (x : Str) | byt (b : Array UInt8) | flt (b : UInt64) | ref (a : Addr) | ty (n : String)
  deriving DecidableEq
noncomputable def RelV : V → Value → Prop
  | .non, u => u = Value.none
  | .bl b, u => u = Value.bool b
  | .int i, u => ∃ t, u = Value.int i t
  | .str x, u => ∃ t, u = Value.str x t
  | .byt b, u => ∃ t, u = Value.bytes b t
  | .flt b, u => ∃ t, u = Value.float b t
  | .ref a, u => u = Value.ref a
  | .ty n, u => u = Value.type n
noncomputable abbrev Vals : List V → List Value → Prop := Paired RelV
theorem Vals.length {xs : List V} {us : List Value} (r : Vals xs us) : xs.length = us.length := Paired.length r
theorem Vals.get : ∀ {xs : List V} {us : List Value} {i : Nat} {x : V}, Vals xs us → xs[i]? = some x → ∃ u, us[i]? = some u ∧ RelV x u
  | _, _, _, _, .nil, e => by simp at e
  | _, _, 0, _, .cons r _, e => by simp at e; subst e; exact ⟨_, rfl, r⟩
  | _, _, i + 1, x, .cons _ t, e => by
    obtain ⟨u, h1, h2⟩ := Vals.get (i := i) (x := x) t (by simpa using e)
    exact ⟨u, by simpa using h1, h2⟩
theorem Vals.append : ∀ {xs ys : List V} {us ws : List Value}, Vals xs us → Vals ys ws → Vals (xs ++ ys) (us ++ ws)
  | _, _, _, _, .nil, s => s
  | _, _, _, _, .cons r t, s => .cons r (Vals.append t s)
theorem Vals.take : ∀ {xs : List V} {us : List Value} (n : Nat), Vals xs us → Vals (xs.take n) (us.take n)
  | _, _, 0, _ => .nil
  | _, _, _ + 1, .nil => .nil
  | _, _, n + 1, .cons r t => .cons r (Vals.take n t)
theorem Vals.drop : ∀ {xs : List V} {us : List Value} (n : Nat), Vals xs us → Vals (xs.drop n) (us.drop n)
  | _, _, 0, r => r
  | _, _, _ + 1, .nil => .nil
  | _, _, n + 1, .cons _ t => Vals.drop n t
noncomputable def RelO : Option V → Option Value → Prop
  | some v, some u => RelV v u
  | none, none => True
  | _, _ => False
noncomputable def KV {κ : Type} : List (κ × V) → List (κ × Value) → Prop := Paired fun (p : κ × V) (q : κ × Value) => p.1 = q.1 ∧ RelV p.2 q.2
noncomputable def kV : Key → V
  | .inl i => .int i
  | .inr x => .str x
inductive HO where
    | lst (xs : List V)
    | tup (xs : List V)
    | dK (kvs : List (Key × V)) | dT (kvs : List (List Key × V))
    | set (S : Int → Bool) (n : Nat)
    | ins (C dx : Addr) (fs : List (Str × V))
    | own (x : Addr)
    | xd (fs : List (Str × V))
    | met (f x : Addr)
    | rng (lo hi : Int)
    | frz (o : Obj) (u : HO)
    | tbl (ps : Array Value)
    | ext (φ : Heap → Prop)
noncomputable abbrev Hp := Addr → Option HO
noncomputable def upd (H : Hp) (a : Addr) (o : HO) : Hp := fun b => if b = a then some o else H b
theorem upd_same {H : Hp} {a : Addr} {o : HO} : upd H a o a = some o := by unfold upd; rw [if_pos rfl]
theorem upd_ne {H : Hp} {a b : Addr} {o : HO} (h : b ≠ a) : upd H a o b = H b := by unfold upd; rw [if_neg h]
theorem ne_of {H : Hp} {a b : Addr} {o u : HO} (h : H a = some o) (h' : H b = some u) (d : o ≠ u) : a ≠ b := by
  intro e; subst e; rw [h] at h'; exact d (Option.some.inj h')
theorem ne_of_none {H : Hp} {a b : Addr} {o : HO} (h : H a = some o) (h' : H b = none) : a ≠ b := by
  intro e; subst e; rw [h] at h'; cases h'
section
variable (P : Program) (w : World)
noncomputable def ObjOk (H : Hp) (h : Heap) (a : Addr) : HO → Prop
  | .lst xs => xs.length ≤ sizeLine ∧ ∃ (its : List Value) (n : Nat), Vals xs its ∧ h.get? a = some { cls := .type "list", data := .seq its.toArray n }
  | .tup xs => xs.length ≤ sizeLine ∧ ∃ its : List Value, Vals xs its ∧ IsTup h a its.toArray
  | .dK kvs => kvs.length ≤ sizeLine ∧ (a == sysModules) = false ∧ ∃ vs, KV kvs vs ∧ h.DictOf (mixKind P w) a vs
  | .dT kvs => kvs.length ≤ sizeLine ∧ (a == sysModules) = false ∧ ∃ xs : List (List Key × Addr × Value),
      Paired (fun (p : List Key × V) (q : List Key × Addr × Value) => p.1 = q.1 ∧ H q.2.1 = some (.tup (p.1.map kV)) ∧ RelV p.2 q.2.2) kvs xs ∧
      ∃ o es ep, h.get? a = some o ∧ o.ExactDict ∧ o.data = .dict es ep ∧ es.toList = xs.map (entryOfKey (tupleKind (mixKind P w))) ∧ (xs.map (·.1)).Nodup
  | .set S n => h.SetOf (intKind P w) a S n
  | .ins C dx fs => H dx = some (.own a) ∧ fs.length ≤ 1000 ∧ dx ≠ a ∧ h.get? a = some (PySem.W.instObj C dx) ∧
      ∃ mA, h.Ns1 dx mA ∧ (∀ f, RelO (fs.lookup f) (mA f)) ∧ PySem.Within mA (fs.map (·.1))
  | .own _ => ∃ o, h.get? a = some o
  | .xd fs => ∃ mA, h.Ns1 a mA ∧ ∀ f, RelO (fs.lookup f) (mA f)
  | .rng lo hi => ∃ t u v, h.get? a = some { cls := .type "range", data := .fields #[.int lo t, .int hi u, .int 1 v] }
  | .frz o u => h.get? a = some o ∧ ObjOk H h a u
  | .tbl ps => h.get? a = some { cls := .none, data := .fields ps }
  | .met f x => h.get? a = some (PySem.W.methodObj (.ref f) (.ref x))
  | .ext φ => φ h ∧ (∃ o, h.get? a = some o) ∧ ∀ h1 h2 : Heap, φ h1 → (∀ o, h1.get? a = some o → h2.get? a = some o) → φ h2
noncomputable def HOk (H : Hp) (h : Heap) : Prop := ∀ a o, H a = some o → ObjOk P w H h a o
end
section
variable {P : Program} {w : World} {H H' : Hp} {h h' : Heap} {a : Addr} {o : HO}
theorem ObjOk.lt (x : ObjOk P w H h a o) : a < h.objs.size := by
  cases o with
  | lst xs => obtain ⟨_, _, _, _, e⟩ := x; exact Heap.lt_size e
  | tup xs => obtain ⟨_, _, _, p⟩ := x; exact p.lt
  | dK kvs => obtain ⟨_, _, _, _, o, _, _, e, _⟩ := x; exact Heap.lt_size e
  | dT kvs => obtain ⟨_, _, _, _, o, _, _, e, _⟩ := x; exact Heap.lt_size e
  | set S n => obtain ⟨o, _, _, _, e, _⟩ := x; exact Heap.lt_size e
  | ins C dx fs => obtain ⟨_, _, _, e, _⟩ := x; exact Heap.lt_size e
  | own y => obtain ⟨_, e⟩ := x; exact Heap.lt_size e
  | xd fs => obtain ⟨_, ⟨_, _, _, e, _⟩, _⟩ := x; exact Heap.lt_size e
  | rng lo hi => obtain ⟨_, _, _, e⟩ := x; exact Heap.lt_size e
  | frz ob u => obtain ⟨e, _⟩ := x; exact Heap.lt_size e
  | tbl ps => exact Heap.lt_size (show h.get? a = some _ from x)
  | met f y => exact Heap.lt_size (show h.get? a = some _ from x)
  | ext φ => obtain ⟨_, ⟨_, e⟩, _⟩ := x; exact Heap.lt_size e
theorem Paired.mapP {α β : Type} {F G : α → β → Prop} : ∀ {l₁ : List α} {l₂ : List β}, Paired F l₁ l₂ → (∀ a b, F a b → G a b) → Paired G l₁ l₂
  | _, _, .nil, _ => .nil
  | _, _, .cons r t, f => .cons (f _ _ r) (Paired.mapP t f)
theorem ObjOk.stay (x : ObjOk P w H h a o) (k : ∀ b u, (b = a ∨ H b = some (.own a)) → h.get? b = some u → h'.get? b = some u)
    (ho : ∀ b, H b = some (.own a) → H' b = some (.own a)) (ht : ∀ b xs, H b = some (.tup xs) → H' b = some (.tup xs)) : ObjOk P w H' h' a o := by
  induction o with
  | lst xs => obtain ⟨z, its, n, r, e⟩ := x; exact ⟨z, its, n, r, k _ _ (.inl rfl) e⟩
  | tup xs => obtain ⟨z, its, r, ob, e, c⟩ := x; exact ⟨z, its, r, ob, k _ _ (.inl rfl) e, c⟩
  | dK kvs => obtain ⟨z, y, vs, r, ob, es, ep, e, c⟩ := x; exact ⟨z, y, vs, r, ob, es, ep, k _ _ (.inl rfl) e, c⟩
  | dT kvs =>
    obtain ⟨z, y, xs, r, ob, es, ep, e, c⟩ := x
    exact ⟨z, y, xs, Paired.mapP r fun p q z => ⟨z.1, ht _ _ z.2.1, z.2.2⟩, ob, es, ep, k _ _ (.inl rfl) e, c⟩
  | set S n => obtain ⟨ob, es, ep, t, e, c⟩ := x; exact ⟨ob, es, ep, t, k _ _ (.inl rfl) e, c⟩
  | ins C dx fs =>
    obtain ⟨d, z, ne, e, mA, ⟨od, es, ep, e2, c⟩, r⟩ := x
    exact ⟨ho _ d, z, ne, k _ _ (.inl rfl) e, mA, ⟨od, es, ep, k _ _ (.inr d) e2, c⟩, r⟩
  | own y => obtain ⟨ob, e⟩ := x; exact ⟨ob, k _ _ (.inl rfl) e⟩
  | xd fs => obtain ⟨mA, ⟨od, es, ep, e, c⟩, r⟩ := x; exact ⟨mA, ⟨od, es, ep, k _ _ (.inl rfl) e, c⟩, r⟩
  | rng lo hi => obtain ⟨t, u, v, e⟩ := x; exact ⟨t, u, v, k _ _ (.inl rfl) e⟩
  | frz ob u ih => obtain ⟨e, q⟩ := x; exact ⟨k _ _ (.inl rfl) e, ih q⟩
  | tbl ps =>
    have e : h.get? a = some { cls := .none, data := .fields ps } := x
    show h'.get? a = some { cls := .none, data := .fields ps }
    exact k a _ (.inl rfl) e
  | met f y =>
    have e : h.get? a = some (PySem.W.methodObj (.ref f) (.ref y)) := x
    show h'.get? a = some (PySem.W.methodObj (.ref f) (.ref y))
    exact k a _ (.inl rfl) e
  | ext φ => obtain ⟨p, ⟨o, e⟩, st⟩ := x; exact ⟨st _ _ p fun o q => k _ _ (.inl rfl) q, ⟨o, k _ _ (.inl rfl) e⟩, st⟩
theorem HOk.lt (x : HOk P w H h) (e : H a = some o) : a < h.objs.size := (x a o e).lt
theorem HOk.fresh (x : HOk P w H h) (e : h.objs.size ≤ a) : H a = none := by
  cases q : H a with
  | none => rfl
  | some u => exact absurd (Nat.lt_of_lt_of_le (x.lt q) e) (Nat.lt_irrefl _)
theorem HOk.kept (x : HOk P w H h) (k : ∀ b u, h.get? b = some u → h'.get? b = some u) : HOk P w H h' := fun a o e =>
  (x a o e).stay (fun b u _ q => k b u q) (fun _ q => q) fun _ _ q => q
theorem HOk.laid (x : HOk P w H h) (k : ∀ b u, h.get? b = some u → h'.get? b = some u) (hp : h.objs.size ≤ a) (new : ObjOk P w (upd H a o) h' a o) : HOk P w (upd H a o) h' := fun b u e => by
  have hn := x.fresh hp
  by_cases hb : b = a
  · subst hb; rw [upd_same] at e; cases e; exact new
  · rw [upd_ne hb] at e
    exact (x b u e).stay (fun c v _ q => k c v q) (fun c q => by rw [upd_ne (ne_of_none q hn)]; exact q) fun c xs q => by rw [upd_ne (ne_of_none q hn)]; exact q
end
noncomputable def Rd (H : Hp) (a : Addr) (u : HO) : Prop := H a = some u ∨ ∃ o, H a = some (.frz o u)
theorem Rd.ok {P : Program} {w : World} {H : Hp} {h : Heap} {a : Addr} {u : HO} (r : Rd H a u) (x : HOk P w H h) : ObjOk P w H h a u := by
  rcases r with r | ⟨o, r⟩
  · exact x a u r
  · obtain ⟨_, q⟩ := x a _ r
    exact q
noncomputable def Mut : Option HO → Prop
  | some (.lst _) => True
  | some (.dK _) => True
  | some (.dT _) => True
  | some (.set _ _) => True
  | some (.ins _ _ _) => True
  | some (.ext _) => True
  | _ => False
section
variable {P : Program} {w : World} {H : Hp} {h h' : Heap} {x e : Addr} {o' : HO}
theorem HOk.write (ok : HOk P w H h) (mu : Mut (H x)) (he : e = x ∨ H e = some (.own x)) (k : ∀ b u, b ≠ e → h.get? b = some u → h'.get? b = some u) (heo : ∃ u, h'.get? e = some u)
    (new : ObjOk P w (upd H x o') h' x o') : HOk P w (upd H x o') h' := fun b u q => by
  have nown : ∀ c y, H c = some (.own y) → c ≠ x := fun c y r z => by subst z; rw [r] at mu; exact mu
  have ntup : ∀ c xs, H c = some (.tup xs) → c ≠ x := fun c xs r z => by subst z; rw [r] at mu; exact mu
  by_cases hb : b = x
  · subst hb; rw [upd_same] at q; cases q; exact new
  · rw [upd_ne hb] at q
    by_cases hbe : b = e
    · have q' : H b = some (.own x) := by
        rcases he with z | z
        · exact absurd (hbe.trans z) hb
        · rw [hbe]; exact z
      rw [q] at q'; cases q'
      obtain ⟨v, hv⟩ := heo
      exact ⟨v, by rw [hbe]; exact hv⟩
    · refine (ok b u q).stay (fun c v hc r => k c v ?_ r) (fun c r => by rw [upd_ne (nown c b r)]; exact r) fun c xs r => by rw [upd_ne (ntup c xs r)]; exact r
      rcases hc with rfl | hc
      · exact hbe
      · rintro rfl
        rcases he with z | z
        · exact nown c b hc z
        · rw [hc] at z; cases z; exact hb rfl
end
structure Un (fs ex : List Addr) (H H' : Hp) (h h' : Heap) : Prop where
  keep : ∀ b o, h.get? b = some o → H b = none → b ∉ fs → b ∉ ex → h'.get? b = some o
  slot : ∀ b o, h.get? b = some o → H b = none → b ∈ fs → b ∉ ex → ∃ sl, h'.get? b = some { o with slots := sl }
  free : ∀ b o, h.get? b = some o → H b = none → b ∉ ex → H' b = none
  there : ∀ b o, h.get? b = some o → b ∉ ex → ∃ o', h'.get? b = some o'
  tups : ∀ b xs, H b = some (.tup xs) → H' b = some (.tup xs)
  frzs : ∀ b o u, H b = some (.frz o u) → H' b = some (.frz o u)
  tbls : ∀ b ps, H b = some (.tbl ps) → ∃ more, H' b = some (.tbl (ps ++ more))
section
variable {fs fs' ex ex' : List Addr} {H H1 H2 : Hp} {h h1 h2 h' : Heap} {a x e : Addr} {o : HO}
theorem Un.any (u : Un fs ex H H1 h h1) {b : Addr} {ob : Obj} (q : h.get? b = some ob) (n : H b = none) (hx : b ∉ ex) : ∃ sl, h1.get? b = some { ob with slots := sl } := by
  by_cases hb : b ∈ fs
  · exact u.slot b ob q n hb hx
  · exact ⟨ob.slots, u.keep b ob q n hb hx⟩
theorem Un.kept (k : ∀ b u, h.get? b = some u → h'.get? b = some u) : Un fs ex H H h h' :=
  ⟨fun b ob q _ _ _ => k b ob q, fun b ob q _ _ _ => ⟨ob.slots, k b ob q⟩, fun _ _ _ n _ => n, fun b ob q _ => ⟨ob, k b ob q⟩, fun _ _ q => q, fun _ _ _ q => q, fun _ ps q => ⟨#[], by rw [q]; simp⟩⟩
theorem Un.refl : Un fs ex H H h h := Un.kept fun _ _ q => q
theorem Un.laid (k : ∀ b u, h.get? b = some u → h'.get? b = some u) (hp : h.objs.size ≤ a) (hn : H a = none) : Un fs ex H (upd H a o) h h' where
  keep := fun b u q _ _ _ => k b u q
  slot := fun b u q _ _ _ => ⟨u.slots, k b u q⟩
  free := fun b u q n _ => by rw [upd_ne (Nat.ne_of_lt (Nat.lt_of_lt_of_le (Heap.lt_size q) hp))]; exact n
  there := fun b u q _ => ⟨u, k b u q⟩
  tups := fun b xs q => by rw [upd_ne (ne_of_none q hn)]; exact q
  frzs := fun b u xs q => by rw [upd_ne (ne_of_none q hn)]; exact q
  tbls := fun b ps q => ⟨#[], by rw [upd_ne (ne_of_none q hn), q]; simp⟩
theorem Un.write (mu : Mut (H x)) (he : e = x ∨ H e = some (.own x)) (k : ∀ b u, b ≠ e → h.get? b = some u → h'.get? b = some u) (heo : ∃ u, h'.get? e = some u) : Un fs ex H (upd H x o) h h' := by
  have hx : ∀ b, H b = none → b ≠ x := fun b n z => by subst z; rw [n] at mu; exact mu
  have hb : ∀ b, H b = none → b ≠ e := fun b n z => by
    subst z
    rcases he with r | r
    · exact hx b n r
    · rw [n] at r; cases r
  have hm : ∀ b u, H b = some u → ¬ Mut (some u) → b ≠ x := fun b u q nm z => by subst z; rw [q] at mu; exact nm mu
  refine ⟨fun b u q n _ _ => k b u (hb b n) q, fun b u q n _ _ => ⟨u.slots, k b u (hb b n) q⟩, fun b u q n _ => by rw [upd_ne (hx b n)]; exact n, fun b u q _ => ?_,
    fun b xs q => by rw [upd_ne (hm b _ q fun z => z)]; exact q, fun b u xs q => by rw [upd_ne (hm b _ q fun z => z)]; exact q, fun b ps q => ⟨#[], by rw [upd_ne (hm b _ q fun z => z), q]; simp⟩⟩
  by_cases hbe : b = e
  · subst hbe; exact heo
  · exact ⟨u, k b u hbe q⟩
end
noncomputable def trk (h : Heap) (H : Hp) : List Addr := (List.range h.objs.size).filter fun a => (H a).isSome
noncomputable def hidT (h : Heap) (H : Hp) : Heap := PySem.W.hideAll h (trk h H)
theorem hidT_size (h : Heap) (H : Hp) : (hidT h H).objs.size = h.objs.size := PySem.W.hideAll_size _ _
theorem hidT_get {h : Heap} {H : Hp} {b : Addr} {o : Obj} (e : h.get? b = some o) (n : H b = none) : (hidT h H).get? b = some o :=
  PySem.W.hideAll_get _ e fun hm => by
    have q : (H b).isSome = true := (List.mem_filter.mp hm).2
    rw [n] at q; simp at q
theorem of_hidT {h : Heap} {H : Hp} {b : Addr} {o : Obj} (e : (hidT h H).get? b = some o) : h.get? b = some o ∧ H b = none := by
  have e' : h.get? b = some o := PySem.W.of_hideAll (trk h H) e
  refine ⟨e', ?_⟩
  cases q : H b with
  | none => rfl
  | some x =>
    have hm : b ∈ trk h H := List.mem_filter.mpr ⟨List.mem_range.mpr (Heap.lt_size e'), by simp [q]⟩
    have z : (hidT h H).get? b = none := PySem.W.hideAll_none (trk h H) hm
    rw [z] at e; cases e
noncomputable def allNews (g h : Heap) (L : Addr) : List (Addr × Obj) := (List.range h.objs.size).filterMap fun a => if a = L ∨ (g.get? a).isSome = true then none else (h.get? a).map fun o => (a, o)
noncomputable def rest (g h : Heap) (L d : Addr) : List (Addr × Obj) := (allNews g h L).filter fun p => decide (p.1 ≠ d)
end L2
namespace L2
open PySem PySem.Spec PyProof.Rows
structure Mod (K : PySem.W.Frag) (mg : Str → Option Value) (base : Heap) : Prop where
  kin : K.In base
  glob : base.Ns mainGlobals mg
  blt : ∃ mb, base.Ns builtinsNs mb ∧ ∀ x : Str, x ≠ "__name__" → mb x = bootBuiltins x
  nolimit : base.NoLimit
structure Cx where
  prog : Program
  w : World
  K : PySem.W.Frag
  mg : Str → Option Value
  base : Heap
  A : Around
  N : List Str
  s₀ : Shared
  H₀ : Hp
  env : Env
  outer : List Env
  stack : List Env
  ex : List Addr
  fn : Str → Bool
  calm : Bool
  pn : List (Addr × Obj)
  xe : Value → Shared → Prop
noncomputable def frs (l : List Env) : List Addr := l.filterMap (·.frame)
noncomputable abbrev Cx.fs (X : Cx) : List Addr := frs X.outer
noncomputable def Vis (sc : Scope) (x : Str) : Prop := sc.names.lookup x = some .local ∨ sc.names.lookup x = some .cell ∨ sc.names.lookup x = some .free
noncomputable def Loc (sc : Scope) (x : Str) : Prop := sc.names.lookup x = some .local ∨ sc.names.lookup x = some .cell
noncomputable def Look (env : Env) (h : Heap) (m : Str → Option Value) (x : Str) (u : Value) : Prop :=
  (env.kindOf x = some .local ∧ m x = some u) ∨ ((env.kindOf x = some .cell ∨ env.kindOf x = some .free) ∧ ∃ c, env.cells.lookup x = some c ∧ h.IsCell c (some u))
structure Cx.Ok (X : Cx) : Prop where
  mod : Mod X.K X.mg X.base
  kind : X.env.scope.kind = .function
  glob : X.env.globals = mainGlobals
  blt : X.env.builtins = builtinsNs
  above : X.s₀.heap.objs.size ≤ X.env.locals
  inj : ∀ x y c, X.env.cells.lookup x = some c → X.env.cells.lookup y = some c → x = y
  has : ∀ x, (X.env.kindOf x = some .cell ∨ X.env.kindOf x = some .free) → ∃ c, X.env.cells.lookup x = some c
  cab : ∀ x c, X.fn x = true → X.env.cells.lookup x = some c → X.s₀.heap.objs.size ≤ c
  hd : X.calm = true → X.A.handled = none
  frames : X.A.frames = some X.stack
  stk : X.stack = X.outer ∨ (X.stack = X.env :: X.outer ∧ X.env.frame = some X.env.locals)
  exf : ∀ b ∈ X.ex, b ≠ X.env.locals ∧ ∀ x c, X.env.cells.lookup x = some c → c ≠ b
  bs : ∀ b o, X.base.get? b = some o → X.s₀.heap.get? b = some o ∧ X.H₀ b = none
  bsz : X.base.objs.size ≤ X.s₀.heap.objs.size
  noex : ∀ b o, X.base.get? b = some o → b ∉ X.ex
  exfs : ∀ b ∈ X.ex, b ∉ X.fs
  funs : X.s₀.heap.FunFrames X.base X.outer
  frf : ∀ b ∈ X.fs, X.H₀ b = none
structure Inv (X : Cx) (pins : List (Addr × Obj)) (σ : List (Option V)) (H : Hp) (s : Shared) : Prop where
  ok : X.Ok
  os : s.os = X.s₀.os
  bare : AllBare s.gens
  base : Un X.fs X.ex X.H₀ H X.s₀.heap s.heap
  loc : ∃ m, s.heap.Ns X.env.locals m ∧ ∀ (i : Nat) (x : Str) (v : V), X.N[i]? = some x → σ[i]? = some (some v) → Vis X.env.scope x → ∃ u, RelV v u ∧ Look X.env s.heap m x u
  cell : ∀ x c, X.env.cells.lookup x = some c → ∃ v, s.heap.IsCell c v
  free : H X.env.locals = none
  freeC : ∀ x c, X.env.cells.lookup x = some c → H c = none
  pin : ∀ p ∈ X.pn ++ pins, s.heap.get? p.1 = some p.2 ∧ H p.1 = none ∧ p.1 ≠ X.env.locals ∧ p.1 ∉ X.fs ∧ ∀ v, p.2.data ≠ .cell v
  hok : HOk X.prog X.w H s.heap
  len : σ.length = X.N.length
section
variable {X : Cx} {pins : List (Addr × Obj)} {σ : List (Option V)} {H H' : Hp} {s : Shared} {h' : Heap}
theorem Cx.Ok.nofr (ok : X.Ok) {b : Addr} {o : Obj} (e : X.base.get? b = some o) : b ∉ X.fs := fun hb => by
  have := (ok.funs.mem hb).1
  rw [e] at this; cases this
theorem Inv.bs (I : Inv X pins σ H s) : ∀ b o, X.base.get? b = some o → s.heap.get? b = some o ∧ H b = none := fun b o e =>
  ⟨I.base.keep b o (I.ok.bs b o e).1 (I.ok.bs b o e).2 (I.ok.nofr e) (I.ok.noex b o e), I.base.free b o (I.ok.bs b o e).1 (I.ok.bs b o e).2 (I.ok.noex b o e)⟩
theorem Inv.bk (I : Inv X pins σ H s) : ∀ b o, X.base.get? b = some o → s.heap.get? b = some o := fun b o e => (I.bs b o e).1
theorem Inv.mod (I : Inv X pins σ H s) : Mod X.K X.mg X.base := I.ok.mod
theorem Inv.kIn (I : Inv X pins σ H s) : X.K.In s.heap := I.ok.mod.kin.keeps I.bk
theorem Inv.lt (I : Inv X pins σ H s) : X.env.locals < s.heap.objs.size := let ⟨_, hn, _⟩ := I.loc; hn.lt
theorem Inv.sz (I : Inv X pins σ H s) : X.s₀.heap.objs.size ≤ s.heap.objs.size := Nat.le_trans I.ok.above (Nat.le_of_lt I.lt)
theorem Inv.nofs (I : Inv X pins σ H s) {a : Addr} (h : s.heap.objs.size ≤ a) : a ∉ X.fs := fun hb => by
  obtain ⟨_, o, ho, _⟩ := I.ok.funs.mem hb
  exact absurd (Nat.lt_of_lt_of_le (Heap.lt_size ho) (Nat.le_trans I.sz h)) (Nat.lt_irrefl _)
theorem Inv.cne (I : Inv X pins σ H s) : ∀ x c, X.env.cells.lookup x = some c → c ≠ X.env.locals := fun x c e z => by
  obtain ⟨v, o, ho, hd⟩ := I.cell x c e
  obtain ⟨m, ⟨o', es, ep, ho', hd', _⟩, _⟩ := I.loc
  rw [z, ho'] at ho; cases ho; rw [hd'] at hd; cases hd
theorem Inv.funs (I : Inv X pins σ H s) : s.heap.FunFrames X.base X.outer := by
  have all : ∀ (l : List Env), (∀ b ∈ frs l, b ∈ X.fs) → X.s₀.heap.FunFrames X.base l → s.heap.FunFrames X.base l := by
    intro l
    induction l with
    | nil => intro _ _; trivial
    | cons env r ih =>
      intro hs hl
      obtain ⟨hk, ⟨L, o, hf, hn, ho, hd⟩, hr⟩ := hl
      have hL : L ∈ X.fs := hs L (by unfold frs; rw [List.filterMap_cons, hf]; exact List.mem_cons_self)
      obtain ⟨sl, e⟩ := I.base.slot L o ho (I.ok.frf L hL) hL fun z => I.ok.exfs L z hL
      exact ⟨hk, ⟨L, _, hf, hn, e, hd⟩, ih (fun b hb => hs b (by unfold frs; rw [List.filterMap_cons, hf]; exact List.mem_cons_of_mem _ hb)) hr⟩
  exact all X.outer (fun _ hb => hb) I.ok.funs
theorem Inv.stack (I : Inv X pins σ H s) : s.heap.FunFrames X.base X.stack := by
  rcases I.ok.stk with e | ⟨e, hf⟩
  · rw [e]; exact I.funs
  · rw [e]
    obtain ⟨m, hn, _⟩ := I.loc
    refine .cons (by rw [I.ok.kind]; decide) hf hn ?_ I.funs
    exact Heap.get?_none_of_le (Nat.le_trans I.ok.bsz I.ok.above)
theorem Inv.stkSub (I : Inv X pins σ H s) : ∀ b ∈ frs X.stack, b ∈ X.env.locals :: X.fs := fun b hb => by
  rcases I.ok.stk with e | ⟨e, hf⟩
  · rw [e] at hb; exact List.mem_cons_of_mem _ hb
  · rw [e] at hb
    unfold frs at hb
    rw [List.filterMap_cons, hf] at hb
    exact hb
theorem Inv.stkFree (I : Inv X pins σ H s) : ∀ b ∈ frs X.stack, H b = none := fun b hb => by
  rcases List.mem_cons.mp (I.stkSub b hb) with e | hb
  · rw [e]; exact I.free
  · obtain ⟨_, o, ho, _⟩ := I.ok.funs.mem hb
    exact I.base.free b o ho (I.ok.frf b hb) fun z => I.ok.exfs b z hb
theorem Inv.step {g' : Array GenState} {t' : Nat} {d' : Drawn} {ch : List Addr} (I : Inv X pins σ H s)
    (hch : ∀ b ∈ ch, (b ∈ X.ex ∨ X.s₀.heap.objs.size ≤ b) ∧ b ≠ X.env.locals ∧ (∀ x c, X.env.cells.lookup x = some c → c ≠ b) ∧ ∀ p ∈ X.pn ++ pins, p.1 ≠ b)
    (keep : ∀ b o, b ≠ X.env.locals → b ∉ X.fs → b ∉ ch → s.heap.get? b = some o → H b = none → h'.get? b = some o)
    (slot : ∀ b o, b ≠ X.env.locals → b ∈ X.fs → b ∉ ch → s.heap.get? b = some o → H b = none → ∃ sl, h'.get? b = some { o with slots := sl }) (free : ∀ b o, b ∉ ch → s.heap.get? b = some o → H b = none → H' b = none)
    (there : ∀ b o, b ∉ ch → s.heap.get? b = some o → ∃ o', h'.get? b = some o')
    (tups : ∀ b xs, H b = some (.tup xs) → H' b = some (.tup xs)) (frzs : ∀ b o u, H b = some (.frz o u) → H' b = some (.frz o u)) (tbls : ∀ b ps, H b = some (.tbl ps) → ∃ more, H' b = some (.tbl (ps ++ more)))
    (ns : ∀ m, s.heap.Ns X.env.locals m → h'.Ns X.env.locals m) (hok : HOk X.prog X.w H' h') (hg : AllBare g') :
    Inv X pins σ H' { s with heap := h', gens := g', drawn := d', toks := t' } := by
  have neL : ∀ b o, X.s₀.heap.get? b = some o → b ≠ X.env.locals := fun b o e => Nat.ne_of_lt (Nat.lt_of_lt_of_le (Heap.lt_size e) I.ok.above)
  have neC : ∀ b o, X.s₀.heap.get? b = some o → b ∉ X.ex → b ∉ ch := fun b o e hx hb => by
    rcases (hch b hb).1 with z | z
    · exact hx z
    · exact absurd (Nat.lt_of_lt_of_le (Heap.lt_size e) z) (Nat.lt_irrefl _)
  have cellK : ∀ x c, X.env.cells.lookup x = some c → ∀ v, s.heap.IsCell c v → h'.IsCell c v := fun x c e v ⟨o, ho, hd⟩ => by
    have nch : c ∉ ch := fun z => (hch c z).2.2.1 x c e rfl
    by_cases hc : c ∈ X.fs
    · obtain ⟨sl, q⟩ := slot c o (I.cne x c e) hc nch ho (I.freeC x c e)
      exact ⟨_, q, hd⟩
    · exact ⟨o, keep c o (I.cne x c e) hc nch ho (I.freeC x c e), hd⟩
  refine ⟨I.ok, I.os, hg, ⟨fun b o e n hb hx => ?_, fun b o e n hb hx => ?_, fun b o e n hx => ?_, fun b o e hx => ?_, fun b xs e => tups b xs (I.base.tups b xs e), fun b o xs e => frzs b o xs (I.base.frzs b o xs e), fun b ps e => ?_⟩, ?_, fun x c e => ?_, ?_, fun x c e => ?_, fun p hp => ?_, hok, I.len⟩
  · exact keep b o (neL b o e) hb (neC b o e hx) (I.base.keep b o e n hb hx) (I.base.free b o e n hx)
  · obtain ⟨sl, e1⟩ := I.base.slot b o e n hb hx
    obtain ⟨sl', e2⟩ := slot b _ (neL b o e) hb (neC b o e hx) e1 (I.base.free b o e n hx)
    exact ⟨sl', e2⟩
  · obtain ⟨o', e1⟩ := I.base.there b o e hx
    exact free b o' (neC b o e hx) e1 (I.base.free b o e n hx)
  · obtain ⟨o', e1⟩ := I.base.there b o e hx
    exact there b o' (neC b o e hx) e1
  · obtain ⟨m1, e1⟩ := I.base.tbls b ps e
    obtain ⟨m2, e2⟩ := tbls b _ e1
    exact ⟨m1 ++ m2, by rw [e2, Array.append_assoc]⟩
  · obtain ⟨m, hn, hl⟩ := I.loc
    refine ⟨m, ns m hn, fun i x v e1 e2 e3 => ?_⟩
    obtain ⟨u, r, l⟩ := hl i x v e1 e2 e3
    refine ⟨u, r, ?_⟩
    rcases l with l | ⟨k, c, e, z⟩
    · exact .inl l
    · exact .inr ⟨k, c, e, cellK x c e _ z⟩
  · obtain ⟨v, z⟩ := I.cell x c e
    exact ⟨v, cellK x c e v z⟩
  · obtain ⟨m, ⟨o, _, _, ho, _⟩, _⟩ := I.loc
    exact free _ o (fun z => (hch _ z).2.1 rfl) ho I.free
  · obtain ⟨v, o, ho, hd⟩ := I.cell x c e
    exact free c o (fun z => (hch c z).2.2.1 x c e rfl) ho (I.freeC x c e)
  · obtain ⟨e, n, ne, nf, d⟩ := I.pin p hp
    have nch : p.1 ∉ ch := fun z => (hch p.1 z).2.2.2 p hp rfl
    exact ⟨keep p.1 p.2 ne nf nch e n, free p.1 p.2 nch e n, ne, nf, d⟩
theorem Inv.un {t' : Nat} (I : Inv X pins σ H s) (u : Un X.fs [] H H' s.heap h') (hok : HOk X.prog X.w H' h') : Inv X pins σ H' { s with heap := h', toks := t' } := by
  obtain ⟨m, ⟨o, es, ep, ho, r⟩, _⟩ := id I.loc
  obtain ⟨sl, hL⟩ := u.any ho I.free (by simp)
  exact I.step (g' := s.gens) (d' := s.drawn) (ch := []) (fun _ z => nomatch z) (fun b o _ hb _ e n => u.keep b o e n hb (by simp)) (fun b o _ hb _ e n => u.slot b o e n hb (by simp)) (fun b o _ e n => u.free b o e n (by simp)) (fun b o _ e => u.there b o e (by simp)) u.tups u.frzs u.tbls (fun m' hm => by
    obtain ⟨o', es', ep', ho', r'⟩ := hm
    rw [ho] at ho'; cases ho'
    exact ⟨_, es', ep', hL, r'⟩) hok I.bare
theorem Inv.call {g' : Array GenState} {t' : Nat} {d' : Drawn} {ch : List Addr} (I : Inv X pins σ H s) (u : Un (frs X.stack) ch H H' s.heap h') (hok : HOk X.prog X.w H' h') (hg : AllBare g')
    (hch : ∀ b ∈ ch, (b ∈ X.ex ∨ X.s₀.heap.objs.size ≤ b) ∧ b ≠ X.env.locals ∧ (∀ x c, X.env.cells.lookup x = some c → c ≠ b) ∧ ∀ p ∈ X.pn ++ pins, p.1 ≠ b) :
    Inv X pins σ H' { s with heap := h', gens := g', drawn := d', toks := t' } := by
  obtain ⟨m, ⟨o, es, ep, ho, r⟩, _⟩ := id I.loc
  obtain ⟨sl, hL⟩ := u.any ho I.free fun z => (hch _ z).2.1 rfl
  exact I.step (ch := ch) hch (fun b o hL hb hc e n => u.keep b o e n (fun z => (List.mem_cons.mp (I.stkSub b z)).elim hL hb) hc) (fun b o _ _ hc e n => u.any e n hc) (fun b o hc e n => u.free b o e n hc) (fun b o hc e => u.there b o e hc) u.tups u.frzs u.tbls (fun m' hm => by
    obtain ⟨o', es', ep', ho', r'⟩ := hm
    rw [ho] at ho'; cases ho'
    exact ⟨_, es', ep', hL, r'⟩) hok hg
theorem Inv.turned {t' : Nat} {it : Addr} (I : Inv X pins σ H s) (k : ∀ b o, b ≠ it → s.heap.get? b = some o → h'.get? b = some o) (hn : H it = none) (hL : it ≠ X.env.locals)
    (h1 : it ∈ X.ex ∨ X.s₀.heap.objs.size ≤ it) (h2 : ∀ x c, X.env.cells.lookup x = some c → c ≠ it) (h3 : ∀ p ∈ X.pn ++ pins, p.1 ≠ it) : Inv X pins σ H { s with heap := h', toks := t' } := by
  have nit : ∀ b u, H b = some u → b ≠ it := fun b u e z => by rw [z, hn] at e; cases e
  refine I.step (g' := s.gens) (d' := s.drawn) (ch := [it]) (fun b hb => ?_) (fun b o _ _ hc e _ => k b o (fun z => hc (by simp [z])) e) (fun b o _ _ hc e _ => ⟨o.slots, k b o (fun z => hc (by simp [z])) e⟩) (fun _ _ _ _ n => n)
    (fun b o hc e => ⟨o, k b o (fun z => hc (by simp [z])) e⟩) (fun _ _ e => e) (fun _ _ _ e => e) (fun b ps e => ⟨#[], by rw [e]; simp⟩) (fun m hm => ?_) (fun b u e => ?_) I.bare
  · have e : b = it := by simpa using hb
    subst e
    exact ⟨h1, hL, h2, h3⟩
  · obtain ⟨o, es, ep, ho, r⟩ := hm
    exact ⟨o, es, ep, k _ o (Ne.symm hL) ho, r⟩
  · refine (I.hok b u e).stay (fun c v hc q => k c v ?_ q) (fun _ q => q) fun _ _ q => q
    rcases hc with z | z
    · rw [z]; exact nit b u e
    · exact nit c _ z
theorem Inv.tok (I : Inv X pins σ H s) (t : Nat) : Inv X pins σ H { s with toks := t } := I.un (h' := s.heap) (t' := t) Un.refl I.hok
theorem Inv.kept {t' : Nat} (I : Inv X pins σ H s) (k : ∀ b u, s.heap.get? b = some u → h'.get? b = some u) : Inv X pins σ H { s with heap := h', toks := t' } := I.un (Un.kept k) (I.hok.kept k)
theorem Inv.laid {a : Addr} {o : HO} {t' : Nat} (I : Inv X pins σ H s) (k : ∀ b u, s.heap.get? b = some u → h'.get? b = some u) (hp : s.heap.objs.size ≤ a) (new : ObjOk X.prog X.w (upd H a o) h' a o) :
    Inv X pins σ (upd H a o) { s with heap := h', toks := t' } := I.un (Un.laid k hp (I.hok.fresh hp)) (I.hok.laid k hp new)
theorem Inv.write {x e : Addr} {o : HO} {t' : Nat} (I : Inv X pins σ H s) (mu : Mut (H x)) (he : e = x ∨ H e = some (.own x)) (k : ∀ b u, b ≠ e → s.heap.get? b = some u → h'.get? b = some u) (heo : ∃ u, h'.get? e = some u)
    (new : ObjOk X.prog X.w (upd H x o) h' x o) : Inv X pins σ (upd H x o) { s with heap := h', toks := t' } := I.un (Un.write mu he k heo) (I.hok.write mu he k heo new)
theorem Inv.pins_of {pins' : List (Addr × Obj)} (I : Inv X pins σ H s) (h : ∀ p ∈ pins', s.heap.get? p.1 = some p.2 ∧ H p.1 = none ∧ p.1 ≠ X.env.locals ∧ p.1 ∉ X.fs ∧ ∀ v, p.2.data ≠ .cell v) : Inv X pins' σ H s :=
  ⟨I.ok, I.os, I.bare, I.base, I.loc, I.cell, I.free, I.freeC, fun p hp => (List.mem_append.mp hp).elim (fun z => I.pin p (List.mem_append_left _ z)) (h p), I.hok, I.len⟩
theorem nodup_ix {N : List Str} (hN : N.Nodup) {i j : Nat} {x : Str} (a : N[i]? = some x) (b : N[j]? = some x) : i = j := by
  obtain ⟨h1, e1⟩ := List.getElem?_eq_some_iff.mp a
  obtain ⟨h2, e2⟩ := List.getElem?_eq_some_iff.mp b
  exact (List.getElem_inj hN).mp (e1.trans e2.symm)
theorem store_ok2 {M : Model} {A : Around} {E : Value → Shared → Prop} {i : Nat} {x : Str} {v : V} {u : Value} {Q : Unit → Shared → Prop} (I : Inv X pins σ H s) (hN : X.N.Nodup) (hi : X.N[i]? = some x) (hx : Loc X.env.scope x) (r : RelV v u)
    (h : ∀ s', Inv X pins (σ.set i (some v)) H s' → (∃ a, Heap.SameBut a s.heap s'.heap ∧ (a = X.env.locals ∨ X.env.cells.lookup x = some a)) → Q () s') (hf : autoParam (X.fn x = true ∨ X.env.scope.names.lookup x = some .local) zau0._auto_1) : wpAny M A (storeName X.env x u) Q E s := by
  obtain ⟨m, hn, hl⟩ := id I.loc
  have hcls : (X.env.scope.kind == .class || (X.env.scope.kind == .module && X.env.locals != X.env.globals)) = false := by rw [I.ok.kind]; rfl
  have hiσ : i < σ.length := by rw [I.len]; exact (List.getElem?_eq_some_iff.mp hi).1
  have cne := I.cne
  have tracked : ∀ {a : Addr} {h' : Heap}, (∃ o, s.heap.get? a = some o ∧ H a = none) → Heap.SameBut a s.heap h' → HOk X.prog X.w H h' := fun {a h'} ha hs b ob e => by
    obtain ⟨_, _, hfree⟩ := ha
    refine (I.hok b ob e).stay (fun c w' hc q => (hs.2 c ?_).trans q) (fun _ q => q) fun _ _ q => q
    rintro rfl
    rcases hc with rfl | hc
    · rw [hfree] at e; cases e
    · rw [hfree] at hc; cases hc
  rcases hx with hk | hk
  · refine wpAny_storeName_local hk hn (fun h' hn' hs => ?_) hcls
    obtain ⟨oL, _, _, hoL, _⟩ := id hn
    refine h _ ⟨I.ok, I.os, I.bare, ⟨fun b o e n hb hx => ?_, fun b o e n hb hx => ?_, I.base.free, fun b o e hx => ?_, I.base.tups, I.base.frzs, I.base.tbls⟩, ⟨_, hn', fun j y v' e1 e2 e3 => ?_⟩, fun y c e => ?_, I.free, I.freeC, fun p hp => ?_, tracked ⟨oL, hoL, I.free⟩ hs, by simpa using I.len⟩ ⟨_, hs, .inl rfl⟩
    · exact (hs.2 b (Nat.ne_of_lt (Nat.lt_of_lt_of_le (Heap.lt_size e) I.ok.above))).trans (I.base.keep b o e n hb hx)
    · obtain ⟨sl, e1⟩ := I.base.slot b o e n hb hx
      exact ⟨sl, (hs.2 b (Nat.ne_of_lt (Nat.lt_of_lt_of_le (Heap.lt_size e) I.ok.above))).trans e1⟩
    · obtain ⟨o', e1⟩ := I.base.there b o e hx
      exact ⟨o', (hs.2 b (Nat.ne_of_lt (Nat.lt_of_lt_of_le (Heap.lt_size e) I.ok.above))).trans e1⟩
    · by_cases hj : j = i
      · subst hj
        rw [hi] at e1; cases e1
        rw [List.getElem?_set_self hiσ] at e2
        cases e2
        exact ⟨u, r, .inl ⟨hk, by simp⟩⟩
      · rw [List.getElem?_set_ne (Ne.symm hj)] at e2
        obtain ⟨u', r', q⟩ := hl j y v' e1 e2 e3
        refine ⟨u', r', ?_⟩
        rcases q with ⟨k, e⟩ | ⟨k, c, e, z⟩
        · refine .inl ⟨k, ?_⟩
          have : y ≠ x := fun e => hj (nodup_ix hN e1 (e ▸ hi))
          simp [this, e]
        · exact .inr ⟨k, c, e, z.sameBut hs (cne y c e)⟩
    · obtain ⟨w', z⟩ := I.cell y c e
      exact ⟨w', z.sameBut hs (cne y c e)⟩
    · obtain ⟨e, n, ne, nf, d⟩ := I.pin p hp
      exact ⟨(hs.2 p.1 ne).trans e, n, ne, nf, d⟩
  · have hfn : X.fn x = true := by
      rcases hf with z | z
      · exact z
      · rw [z] at hk; cases hk
    obtain ⟨c, hc⟩ := I.ok.has x (.inl hk)
    obtain ⟨w', z⟩ := I.cell x c hc
    refine wpAny_storeName_cell I.ok.kind hk hc z (fun h' hc' hs => ?_)
    obtain ⟨oc, hoc, hocd⟩ := id z
    refine h { s with heap := h' } ⟨I.ok, I.os, I.bare, ⟨fun b o e n hb hx => ?_, fun b o e n hb hx => ?_, I.base.free, fun b o e hx => ?_, I.base.tups, I.base.frzs, I.base.tbls⟩, ⟨m, hn.sameBut hs (Ne.symm (cne x c hc)), fun j y v' e1 e2 e3 => ?_⟩, fun y c' e => ?_, I.free, I.freeC, fun p hp => ?_, tracked ⟨oc, hoc, I.freeC x c hc⟩ hs, by simpa using I.len⟩ ⟨c, hs, .inr hc⟩
    · exact (hs.2 b (Nat.ne_of_lt (Nat.lt_of_lt_of_le (Heap.lt_size e) (I.ok.cab x c hfn hc)))).trans (I.base.keep b o e n hb hx)
    · obtain ⟨sl, e1⟩ := I.base.slot b o e n hb hx
      exact ⟨sl, (hs.2 b (Nat.ne_of_lt (Nat.lt_of_lt_of_le (Heap.lt_size e) (I.ok.cab x c hfn hc)))).trans e1⟩
    · obtain ⟨o', e1⟩ := I.base.there b o e hx
      exact ⟨o', (hs.2 b (Nat.ne_of_lt (Nat.lt_of_lt_of_le (Heap.lt_size e) (I.ok.cab x c hfn hc)))).trans e1⟩
    · by_cases hj : j = i
      · subst hj
        rw [hi] at e1; cases e1
        rw [List.getElem?_set_self hiσ] at e2
        cases e2
        exact ⟨u, r, .inr ⟨.inl hk, c, hc, hc'⟩⟩
      · rw [List.getElem?_set_ne (Ne.symm hj)] at e2
        obtain ⟨u', r', q⟩ := hl j y v' e1 e2 e3
        refine ⟨u', r', ?_⟩
        rcases q with q | ⟨k, c', e, z'⟩
        · exact .inl q
        · refine .inr ⟨k, c', e, z'.sameBut hs ?_⟩
          rintro rfl
          exact hj (nodup_ix hN e1 (I.ok.inj _ _ _ e hc ▸ hi))
    · by_cases hcc : c' = c
      · subst hcc; exact ⟨_, hc'⟩
      · obtain ⟨w2, z2⟩ := I.cell y c' e
        exact ⟨w2, z2.sameBut hs hcc⟩
    · obtain ⟨e, n, ne, nf, d⟩ := I.pin p hp
      refine ⟨(hs.2 p.1 ?_).trans e, n, ne, nf, d⟩
      intro q
      rw [q, hoc] at e
      have q' : oc = p.2 := Option.some.inj e
      exact d w' (by rw [← q']; exact hocd)
theorem store_ok {M : Model} {A : Around} {E : Value → Shared → Prop} {i : Nat} {x : Str} {v : V} {u : Value} {Q : Unit → Shared → Prop} (I : Inv X pins σ H s) (hN : X.N.Nodup) (hi : X.N[i]? = some x) (hx : Loc X.env.scope x) (r : RelV v u)
    (h : ∀ s', Inv X pins (σ.set i (some v)) H s' → Q () s') (hf : autoParam (X.fn x = true ∨ X.env.scope.names.lookup x = some .local) zau0._auto_1) : wpAny M A (storeName X.env x u) Q E s :=
  store_ok2 I hN hi hx r (fun s' I' _ => h s' I') hf
theorem Inv.call' {s' : Shared} {ch : List Addr} (I : Inv X pins σ H s) (ho : s'.os = s.os) (u : Un (frs X.stack) ch H H' s.heap s'.heap) (hok : HOk X.prog X.w H' s'.heap) (hg : AllBare s'.gens)
    (hch : ∀ b ∈ ch, (b ∈ X.ex ∨ X.s₀.heap.objs.size ≤ b) ∧ b ≠ X.env.locals ∧ (∀ x c, X.env.cells.lookup x = some c → c ≠ b) ∧ ∀ p ∈ X.pn ++ pins, p.1 ≠ b) : Inv X pins σ H' s' := by
  obtain ⟨h', g', d', t', o'⟩ := s'
  have e : o' = s.os := ho
  subst e
  exact I.call (g' := g') (t' := t') (d' := d') u hok hg hch
end
noncomputable abbrev XK := Value → Option Addr → Hp → Prop
noncomputable abbrev St := List (Option V)
noncomputable abbrev VK := V → Hp → Prop
noncomputable abbrev TE := St → Hp → VK → Prop
noncomputable abbrev TT := St → Hp → (Bool → Hp → Prop) → Prop
noncomputable abbrev TA := St → Hp → (List V → Hp → Prop) → Prop
structure Ends where
  nx : St → Hp → Prop
  rt : VK
  bk : St → Hp → Prop := fun _ _ => False
  ct : St → Hp → Prop := fun _ _ => False
noncomputable abbrev TS := Ends → St → Hp → Prop
inductive EP (X : Cx) (pins : List (Addr × Obj)) (σ : St) (Q : VK) (u : Value) (s' : Shared) : Prop
  | mk (v : V) (H' : Hp) (h0 : Inv X pins σ H' s') (h1 : RelV v u) (h2 : Q v H')
inductive TP (X : Cx) (pins : List (Addr × Obj)) (σ : St) (Q : Bool → Hp → Prop) (b : Bool) (s' : Shared) : Prop
  | mk (H' : Hp) (h0 : Inv X pins σ H' s') (h1 : Q b H')
inductive AP (X : Cx) (pins : List (Addr × Obj)) (σ : St) (Q : List V → Hp → Prop) (us : List Value) (s' : Shared) : Prop
  | mk (vs : List V) (H' : Hp) (h0 : Inv X pins σ H' s') (h1 : Vals vs us) (h2 : Q vs H')
noncomputable def SP (X : Cx) (pins : List (Addr × Obj)) (D : Ends) (f : Flow) (s' : Shared) : Prop :=
  match f with
  | .next => ∃ σ' H', Inv X pins σ' H' s' ∧ D.nx σ' H'
  | .brk => ∃ σ' H', Inv X pins σ' H' s' ∧ D.bk σ' H'
  | .cont => ∃ σ' H', Inv X pins σ' H' s' ∧ D.ct σ' H'
  | .ret u => ∃ v σ' H', Inv X pins σ' H' s' ∧ RelV v u ∧ D.rt v H'
noncomputable def PE (X : Cx) (e : Expr) (t : TE) : Prop :=
  ∀ (pins : List (Addr × Obj)) (s : Shared) (σ : St) (H : Hp) (Q : VK), Inv X pins σ H s → t σ H Q → wpAny (model X.prog X.w) X.A (eval e X.env) (EP X pins σ Q) X.xe s
noncomputable def PT (X : Cx) (e : Expr) (t : TT) : Prop :=
  ∀ (pins : List (Addr × Obj)) (s : Shared) (σ : St) (H : Hp) (Q : Bool → Hp → Prop), Inv X pins σ H s → t σ H Q → wpAny (model X.prog X.w) X.A (isTrue e X.env (eval e X.env)) (TP X pins σ Q) X.xe s
noncomputable def PW (X : Cx) (e : Expr) (t : TT) : Prop :=
  ∀ (whole : Sem Value) (pins : List (Addr × Obj)) (s : Shared) (σ : St) (H : Hp) (Q : Bool → Hp → Prop), Inv X pins σ H s → t σ H Q → wpAny (model X.prog X.w) X.A (isTrue e X.env whole) (TP X pins σ Q) X.xe s
theorem PW.pt {X : Cx} {e : Expr} {t : TT} (h : PW X e t) : PT X e t := h _
noncomputable def PA (X : Cx) (es : List Expr) (t : TA) : Prop :=
  ∀ (pos : Pos) (pins : List (Addr × Obj)) (s : Shared) (σ : St) (H : Hp) (Q : List V → Hp → Prop), Inv X pins σ H s → t σ H Q → wpAny (model X.prog X.w) X.A (spliced (backTo pos (starEach es X.env))) (AP X pins σ Q) X.xe s
noncomputable def PS (X : Cx) (st : Stmt) (t : TS) : Prop :=
  ∀ (pins : List (Addr × Obj)) (s : Shared) (σ : St) (H : Hp) (D : Ends), Inv X pins σ H s → t D σ H → wpAny (model X.prog X.w) X.A (exec st X.env) (SP X pins D) X.xe s
noncomputable def PSs (X : Cx) (st : List Stmt) (t : TS) : Prop :=
  ∀ (pins : List (Addr × Obj)) (s : Shared) (σ : St) (H : Hp) (D : Ends), Inv X pins σ H s → t D σ H → wpAny (model X.prog X.w) X.A (execs st X.env) (SP X pins D) X.xe s
theorem thn {α : Type} {t : Sem α} {Q Q' : α → Shared → Prop} {M : Model} {A : Around} {E : Value → Shared → Prop} {s : Shared} (h : wpAny M A t Q E s) (hQ : ∀ a s, Q a s → Q' a s) : wpAny M A t Q' E s := wpAny_mono h hQ fun _ _ x => x
end L2
namespace L2
open PySem PySem.Spec PyProof.Rows
section
variable {X : Cx}
noncomputable def tVar (i : Nat) : TE := fun σ H Q => ∃ v, σ[i]? = some (some v) ∧ Q v H
noncomputable def tC (v : V) : TE := fun _ H Q => Q v H
theorem pe_var {i : Nat} {x : Str} {pos : Pos} (hN : X.N[i]? = some x) (hv : Vis X.env.scope x) (hd : autoParam ((x == ("__debug__" : Str)) = false) zau1._auto_1) (hcd : autoParam ((x == ("__classdict__" : Str)) = false) zau1._auto_1) : PE X (.Name x pos) (tVar i) := by
  intro pins s σ H Q I h
  obtain ⟨v, e, h⟩ := h
  obtain ⟨m, hn, hl⟩ := I.loc
  obtain ⟨u, r, l⟩ := hl i x v hN e hv
  have fin : EP X pins σ Q u s := ⟨v, H, I, r, h⟩
  rcases l with ⟨hk, hm⟩ | ⟨hk, c, hc, hcell⟩
  · exact wpAny_Name (wpAny_loadName_local I.ok.kind hk hn hm fin) hd
  · rcases hk with hk | hk
    · exact wpAny_Name (wpAny_loadName_cell I.ok.kind hk hc hcell fin) hd
    · exact wpAny_Name (wpAny_loadName_free I.ok.kind hk hc hcell fin hcd) hd
theorem pe_int {i j pos} : PE X (.Constant (.int i) j pos) (tC (.int i)) := fun _ _ _ H _ I h => wpAny_Constant_int ⟨.int i, H, I.tok _, ⟨_, rfl⟩, h⟩
theorem pe_bl {b j pos} : PE X (.Constant (.bool b) j pos) (tC (.bl b)) := fun _ _ _ H _ I h => Constant_bool ⟨.bl b, H, I, rfl, h⟩
theorem pe_str {x j pos} : PE X (.Constant (.str x) j pos) (tC (.str x)) := fun _ _ _ H _ I h => Calls.Constant_str ⟨.str x, H, I.tok _, ⟨_, rfl⟩, h⟩
noncomputable def Gl (X : Cx) (x : Str) : Prop := X.env.kindOf x = some .globalImplicit
theorem ld_glob {E : Value → Shared → Prop} {pins : List (Addr × Obj)} {s : Shared} {σ : St} {H : Hp} {x : Str} {u : Value} {pos : Pos} {Q : Value → Shared → Prop} (I : Inv X pins σ H s) (hg : Gl X x) (hm : X.mg x = some u) (h : Q u s)
    (hd : autoParam ((x == ("__debug__" : Str)) = false) zau1._auto_1) : wpAny (model X.prog X.w) X.A (eval (.Name x pos) X.env) Q E s :=
  Calls.Name_function_global I.ok.kind hg (Calls.loadGlobal_global (by rw [I.ok.glob]; exact I.mod.glob.keeps I.bk) hm h) hd
theorem ld_blt {E : Value → Shared → Prop} {pins : List (Addr × Obj)} {s : Shared} {σ : St} {H : Hp} {x : Str} {u : Value} {pos : Pos} {Q : Value → Shared → Prop} (I : Inv X pins σ H s) (hg : Gl X x) (hm : X.mg x = none) (hv : bootBuiltins x = some u) (h : Q u s)
    (hn : autoParam (x ≠ "__name__") zau1._auto_1) (hd : autoParam ((x == ("__debug__" : Str)) = false) zau1._auto_1) : wpAny (model X.prog X.w) X.A (eval (.Name x pos) X.env) Q E s := by
  obtain ⟨mb, h1, h2⟩ := I.mod.blt
  exact Calls.Name_function_global I.ok.kind hg (Calls.loadGlobal_builtin (by rw [I.ok.glob]; exact I.mod.glob.keeps I.bk) hm (by rw [I.ok.blt]; exact h1.keeps I.bk) ((h2 x hn).trans hv) h) hd
theorem pe_glob {x : Str} {v : V} {u : Value} {pos : Pos} (hg : Gl X x) (hm : X.mg x = some u) (r : RelV v u) (hd : autoParam ((x == ("__debug__" : Str)) = false) zau1._auto_1) : PE X (.Name x pos) (tC v) :=
  fun _ _ _ H _ I h => ld_glob I hg hm ⟨v, H, I, r, h⟩ hd
theorem pe_bltn {x : Str} {v : V} {u : Value} {pos : Pos} (hg : Gl X x) (hm : X.mg x = none) (hv : bootBuiltins x = some u) (r : RelV v u) (hn : autoParam (x ≠ "__name__") zau1._auto_1) (hd : autoParam ((x == ("__debug__" : Str)) = false) zau1._auto_1) : PE X (.Name x pos) (tC v) :=
  fun _ _ _ H _ I h => ld_blt I hg hm hv ⟨v, H, I, r, h⟩ hn hd
variable {a b : Expr} {ta tb : TE} {pos : Pos}
noncomputable def tB (t : TE) : TT := fun σ H Q => t σ H fun x H1 => ∃ c, x = .bl c ∧ Q c H1
variable {tA tB' : TT} {rest : List Expr}
noncomputable def tAnd (t u : TT) : TT := fun σ H Q => t σ H fun c H1 => if c = true then u σ H1 Q else Q false H1
noncomputable def tOr (t u : TT) : TT := fun σ H Q => t σ H fun c H1 => if c = true then Q true H1 else u σ H1 Q
noncomputable def tNot (t : TT) : TT := fun σ H Q => t σ H fun c H1 => Q (!c) H1
theorem pw_or1 (ha : PT X a tA) : PW X (.BoolOp .Or [a] pos) tA := by
  intro wh pins s σ H Q I h
  refine isTrue_or (thn (ha pins s σ H Q I h) fun c s1 e => ?_)
  cases c with
  | false => exact isTrue_or_nil e
  | true => exact e
theorem pw_or (ha : PT X a tA) (hb : PW X (.BoolOp .Or (b :: rest) pos) tB') : PW X (.BoolOp .Or (a :: b :: rest) pos) (tOr tA tB') := by
  intro wh pins s σ H Q I h
  refine isTrue_or (thn (ha pins s σ H _ I h) fun c s1 hzz => ?_)
  obtain ⟨H1, I1, q1⟩ := hzz
  cases c with
  | true => exact ⟨H1, I1, q1⟩
  | false => exact hb wh pins s1 σ H1 Q I1 q1
theorem pt_not (ha : PT X a tA) : PT X (.UnaryOp .Not a pos) (tNot tA) := by
  intro pins s σ H Q I h
  exact isTrue_not (thn (ha pins s σ H (fun c H1 => Q (!c) H1) I h) fun c s1 z => z.casesOn fun H1 I1 q1 => ⟨H1, I1, q1⟩)
noncomputable def tAndV (ta tb : TE) : TE := fun σ H Q => ta σ H fun x H1 => ∃ c, x = .bl c ∧ if c = true then tb σ H1 Q else Q (.bl false) H1
noncomputable def tNotV (ta : TE) : TE := fun σ H Q => ta σ H fun x H1 => ∃ c, x = .bl c ∧ Q (.bl (!c)) H1
theorem pe_one {op} {t : TE} (h : PE X a t) : PE X (.BoolOp op [a] pos) t := fun pins s σ H Q I hw => BoolOp_one (h pins s σ H Q I hw)
theorem pe_and (ha : PE X a ta) (hb : PE X (.BoolOp .And (b :: rest) pos) tb) : PE X (.BoolOp .And (a :: b :: rest) pos) (tAndV ta tb) := by
  intro pins s σ H Q I h
  refine BoolOp_and (thn (ha pins s σ H _ I h) fun v s1 hzz => ?_)
  obtain ⟨x, H1, I1, r1, q1⟩ := hzz
  obtain ⟨c, rfl, q1⟩ := q1
  cases r1
  refine wpAny_truthy_bool ?_
  cases c with
  | true => exact hb pins s1 σ H1 Q I1 q1
  | false => exact ⟨.bl false, H1, I1, rfl, q1⟩
theorem pe_not (ha : PE X a ta) : PE X (.UnaryOp .Not a pos) (tNotV ta) := by
  intro pins s σ H Q I h
  refine UnaryOp_ (thn (ha pins s σ H _ I h) fun v s1 hzz => ?_)
  obtain ⟨x, H1, I1, r1, q1⟩ := hzz
  obtain ⟨c, rfl, q1⟩ := q1
  cases r1
  exact not_of (wpAny_truthy_bool ⟨.bl (!c), H1, I1, rfl, q1⟩)
end
end L2
namespace L2
open PySem PySem.Spec PyProof.Rows
noncomputable def SqL (K : PySem.W.Frag) (H : Hp) (a : Addr) (xs : List V) : Prop :=
  Rd H a (.lst xs) ∨
    ∃ (o : Obj) (its : Array Value) (n : Nat), K.lookup a = some o ∧ o.cls = .type "list" ∧ o.dict = none ∧ o.data = .seq its n ∧ its.size ≤ sizeLine ∧ Vals xs its.toList
noncomputable def SqT (K : PySem.W.Frag) (H : Hp) (a : Addr) (xs : List V) : Prop :=
  Rd H a (.tup xs) ∨
    ∃ (o : Obj) (its : Array Value) (n : Nat), K.lookup a = some o ∧ o.cls = .type "tuple" ∧ o.data = .seq its n ∧ its.size ≤ sizeLine ∧ Vals xs its.toList
noncomputable def absV : Value → Option V
  | .none => some .non
  | .bool b => some (.bl b)
  | .int i _ => some (.int i)
  | .str x _ => some (.str x)
  | .bytes b _ => some (.byt b)
  | .float b _ => some (.flt b)
  | .ref a => some (.ref a)
  | .type n => some (.ty n)
  | _ => none
theorem RelV.abs {x : V} {u : Value} (r : RelV x u) : absV u = some x := by
  cases x with
  | non => cases r; rfl
  | bl _ => cases r; rfl
  | int _ => obtain ⟨t, rfl⟩ := r; rfl
  | str _ => obtain ⟨t, rfl⟩ := r; rfl
  | byt _ => obtain ⟨t, rfl⟩ := r; rfl
  | flt _ => obtain ⟨t, rfl⟩ := r; rfl
  | ref _ => cases r; rfl
  | ty _ => cases r; rfl
theorem RelV.inj {x y : V} {u : Value} (r : RelV x u) (q : RelV y u) : x = y := Option.some.inj (r.abs.symm.trans q.abs)
theorem Vals.inj : ∀ {xs ys : List V} {us : List Value}, Vals xs us → Vals ys us → xs = ys
  | _, _, _, .nil, .nil => rfl
  | _, _, _, .cons r t, .cons r' t' => by rw [r.inj r', Vals.inj t t']
section
variable {X : Cx} {pins : List (Addr × Obj)} {σ : St} {H : Hp} {s : Shared} {a : Addr} {xs ys : List V}
theorem SqL.of {K : PySem.W.Frag} (h : H a = some (.lst xs)) : SqL K H a xs := .inl (.inl h)
theorem SqT.of {K : PySem.W.Frag} (h : H a = some (.tup xs)) : SqT K H a xs := .inl (.inl h)
theorem Inv.list (I : Inv X pins σ H s) (h : SqL X.K H a xs) : ∃ its : List Value, Vals xs its ∧ PlainL s.heap a its.toArray ∧ xs.length ≤ sizeLine := by
  rcases h with h | ⟨o, its, n, hk, hc, hd, hs, hz, r⟩
  · obtain ⟨z, its, n, r, e⟩ := h.ok I.hok
    exact ⟨its, r, ⟨_, n, e, rfl, rfl, rfl⟩, z⟩
  · refine ⟨its.toList, r, ⟨o, n, I.kIn a o hk, hc, hd, by simpa using hs⟩, ?_⟩
    have e := r.length
    simp only [Array.length_toList] at e
    omega
theorem Inv.tuple (I : Inv X pins σ H s) (h : SqT X.K H a xs) : ∃ its : List Value, Vals xs its ∧ IsTup s.heap a its.toArray ∧ xs.length ≤ sizeLine := by
  rcases h with h | ⟨o, its, n, hk, hc, hs, hz, r⟩
  · obtain ⟨z, its, r, p⟩ := h.ok I.hok
    exact ⟨its, r, p, z⟩
  · refine ⟨its.toList, r, ⟨o, I.kIn a o hk, hc, n, by simpa using hs⟩, ?_⟩
    have e := r.length
    simp only [Array.length_toList] at e
    omega
theorem Inv.list_inj (I : Inv X pins σ H s) (h : SqL X.K H a xs) (h' : SqL X.K H a ys) : xs = ys := by
  obtain ⟨its, r, ⟨o, n, e, _, _, d⟩, _⟩ := I.list h
  obtain ⟨its', r', ⟨o', n', e', _, _, d'⟩, _⟩ := I.list h'
  rw [e] at e'; cases e'
  rw [d] at d'
  injection d' with d1 _
  have : its = its' := by simpa using congrArg Array.toList d1
  subst this
  exact r.inj r'
theorem Inv.tuple_inj (I : Inv X pins σ H s) (h : SqT X.K H a xs) (h' : SqT X.K H a ys) : xs = ys := by
  obtain ⟨its, r, ⟨o, e, _, n, d⟩, _⟩ := I.tuple h
  obtain ⟨its', r', ⟨o', e', _, n', d'⟩, _⟩ := I.tuple h'
  rw [e] at e'; cases e'
  rw [d] at d'
  injection d' with d1 _
  have : its = its' := by simpa using congrArg Array.toList d1
  subst this
  exact r.inj r'
end
noncomputable abbrev Cx.wish (X : Cx) (E : Value → Shared → Prop) : Cx := { X with xe := E }
noncomputable abbrev Cx.nox (X : Cx) : Cx := X.wish fun _ _ => False
theorem Cx.Ok.wish {X : Cx} (ok : X.Ok) (E : Value → Shared → Prop) : (X.wish E).Ok :=
  ⟨ok.mod, ok.kind, ok.glob, ok.blt, ok.above, ok.inj, ok.has, ok.cab, ok.hd, ok.frames, ok.stk, ok.exf, ok.bs, ok.bsz, ok.noex, ok.exfs, ok.funs, ok.frf⟩
theorem Cx.Ok.unwish {X : Cx} {E : Value → Shared → Prop} (ok : (X.wish E).Ok) : X.Ok :=
  ⟨ok.mod, ok.kind, ok.glob, ok.blt, ok.above, ok.inj, ok.has, ok.cab, ok.hd, ok.frames, ok.stk, ok.exf, ok.bs, ok.bsz, ok.noex, ok.exfs, ok.funs, ok.frf⟩
section
variable {X : Cx} {pins : List (Addr × Obj)} {σ : St} {H : Hp} {s : Shared} {E : Value → Shared → Prop}
theorem Inv.wish (I : Inv X pins σ H s) (E : Value → Shared → Prop) : Inv (X.wish E) pins σ H s := ⟨I.ok.wish E, I.os, I.bare, I.base, I.loc, I.cell, I.free, I.freeC, I.pin, I.hok, I.len⟩
theorem Inv.unwish (I : Inv (X.wish E) pins σ H s) : Inv X pins σ H s := ⟨I.ok.unwish, I.os, I.bare, I.base, I.loc, I.cell, I.free, I.freeC, I.pin, I.hok, I.len⟩
theorem SP.unwish {D : Ends} {f : Flow} {s' : Shared} (h : SP (X.wish E) pins D f s') : SP X pins D f s' := by
  cases f with
  | next => obtain ⟨σ', H', I, q⟩ := h; exact ⟨σ', H', I.unwish, q⟩
  | brk => obtain ⟨σ', H', I, q⟩ := h; exact ⟨σ', H', I.unwish, q⟩
  | cont => obtain ⟨σ', H', I, q⟩ := h; exact ⟨σ', H', I.unwish, q⟩
  | ret u => obtain ⟨v, σ', H', I, r, q⟩ := h; exact ⟨v, σ', H', I.unwish, r, q⟩
theorem PSs.nox {st : List Stmt} {t : TS} (h : PSs X.nox st t) : PSs X st t := fun pins s σ H D I hw =>
  wpAny_mono (h pins s σ H D (I.wish _) hw) (fun _ _ q => q.unwish) fun _ _ z => False.elim z
end
section
variable {X : Cx} {st : Stmt} {rest : List Stmt} {t u : TS} {e : Expr} {te : TE} {pos : Pos}
noncomputable def tNext : TS := fun D σ H => D.nx σ H
noncomputable def tSeq (t u : TS) : TS := fun D σ H => t { D with nx := u D } σ H
theorem pss_nil : PSs X [] tNext := fun _ _ σ H _ I h => wpAny_execs_nil ⟨σ, H, I, h⟩
theorem pss_cons (h1 : PS X st t) (h2 : PSs X rest u) : PSs X (st :: rest) (tSeq t u) := by
  intro pins s σ H D I h
  refine wpAny_execs_cons (thn (h1 pins s σ H { D with nx := u D } I h) fun f s1 q => ?_)
  cases f with
  | next =>
    obtain ⟨σ', H', I', q⟩ := q
    exact h2 pins s1 σ' H' D I' q
  | ret v => exact q
  | brk => exact q
  | cont => exact q
theorem pss_one (h1 : PS X st t) : PSs X [st] t := by
  intro pins s σ H D I h
  refine wpAny_execs_cons (thn (h1 pins s σ H D I h) fun f s1 q => ?_)
  cases f with
  | next => exact wpAny_execs_nil q
  | ret v => exact q
  | brk => exact q
  | cont => exact q
noncomputable def tRet (te : TE) : TS := fun D σ H => te σ H D.rt
theorem ps_ret (he : PE X e te) : PS X (.Return (some e) pos) (tRet te) := by
  intro pins s σ H D I h
  exact wpAny_Return_some (thn (he pins s σ H _ I h) fun v s1 ⟨x, H1, I1, r1, q1⟩ => ⟨x, σ, H1, I1, r1, q1⟩)
noncomputable def tIfS (c : TT) (t u : TS) : TS := fun D σ H => c σ H fun b H1 => if b = true then t D σ H1 else u D σ H1
theorem ps_if {c : Expr} {a b : List Stmt} {tc : TT} (hc : PT X c tc) (ha : PSs X a t) (hb : PSs X b u) : PS X (.If c a b pos) (tIfS tc t u) := by
  intro pins s σ H D I h
  refine wpAny_If (thn (hc pins s σ H _ I h) fun d s1 hzz => ?_)
  obtain ⟨H1, I1, q1⟩ := hzz
  cases d with
  | true => exact ha pins s1 σ H1 D I1 q1
  | false => exact hb pins s1 σ H1 D I1 q1
end
noncomputable abbrev TG := V → St → Hp → (St → Hp → Prop) → Prop
noncomputable def PG (X : Cx) (target : Expr) (t : TG) : Prop :=
  ∀ (pins : List (Addr × Obj)) (s : Shared) (σ : St) (H : Hp) (v : V) (u : Value) (Q : St → Hp → Prop), Inv X pins σ H s → RelV v u → t v σ H Q →
    wpAny (model X.prog X.w) X.A (assign target X.env u) (fun _ s' => ∃ σ' H', Inv X pins σ' H' s' ∧ Q σ' H') X.xe s
noncomputable abbrev TSet := V → V → V → Hp → (Hp → Prop) → Prop
section
variable {X : Cx} {pos : Pos}
noncomputable def gName (i : Nat) : TG := fun v σ H Q => Q (σ.set i (some v)) H
theorem pg_name {i : Nat} {x : Str} (hN : X.N.Nodup) (hi : X.N[i]? = some x) (hx : Loc X.env.scope x) (hf : autoParam (X.fn x = true ∨ X.env.scope.names.lookup x = some .local) zau0._auto_1) : PG X (.Name x pos) (gName i) := by
  intro pins s σ H v u Q I r h
  exact wpAny_assign_Name (store_ok I hN hi hx r (fun s' I' => ⟨_, H, I', h⟩) hf)
noncomputable def gSub (to ti : TE) (t : TSet) : TG := fun v σ H Q => to σ H fun o H1 => ti σ H1 fun i H2 => t o i v H2 fun H3 => Q σ H3
noncomputable def tAsg (te : TE) (g : TG) : TS := fun D σ H => te σ H fun x H1 => g x σ H1 D.nx
theorem ps_set {i : Nat} {x : Str} {e : Expr} {te : TE} {pos' : Pos} (hN : X.N.Nodup) (hi : X.N[i]? = some x) (hx : Loc X.env.scope x) (he : PE X e te) (hs : autoParam (swapsWith e (some (.Name x pos')) pos.line X.env = pure false) zau2._auto_1) (hf : autoParam (X.fn x = true ∨ X.env.scope.names.lookup x = some .local) zau0._auto_1) :
    PS X (.Assign [.Name x pos'] e pos) (tAsg te (gName i)) := by
  intro pins s σ H D I h
  refine wpAny_Assign_Name (thn (he pins s σ H _ I h) fun v s1 hzz => ?_) hs
  obtain ⟨y, H1, I1, r1, q1⟩ := hzz
  exact store_ok I1 hN hi hx r1 (fun s2 I2 => ⟨_, H1, I2, q1⟩) hf
end
section
variable {X : Cx} {pos : Pos}
end
structure It where
  go : Nat → Hp → Prop
  yld : Nat → Hp → V → Hp → Prop
  stop : Nat → Hp → Prop
noncomputable def FpOk (X : Cx) (pins : List (Addr × Obj)) (H : Hp) (b : Addr) : Prop :=
  H b = none ∧ b ≠ X.env.locals ∧ b ∉ X.fs ∧ (b ∈ X.ex ∨ X.s₀.heap.objs.size ≤ b) ∧ (∀ x c, X.env.cells.lookup x = some c → c ≠ b) ∧ ∀ p ∈ X.pn ++ pins, p.1 ≠ b
theorem Inv.fpOk {X : Cx} {pins : List (Addr × Obj)} {σ : St} {H H' : Hp} {s : Shared} {b : Addr} (I : Inv X pins σ H s) (hb : s.heap.objs.size ≤ b) (hn : H' b = none) : FpOk X pins H' b := by
  refine ⟨hn, Nat.ne_of_gt (Nat.lt_of_lt_of_le I.lt hb), I.nofs hb, .inr (Nat.le_trans I.sz hb), fun x c e z => ?_, fun p hp z => ?_⟩
  · obtain ⟨v, q⟩ := I.cell x c e
    exact absurd (Nat.lt_of_lt_of_le q.lt (by rw [z]; exact hb)) (Nat.lt_irrefl _)
  · exact absurd (Nat.lt_of_lt_of_le (Heap.lt_size (I.pin p hp).1) (by rw [z]; exact hb)) (Nat.lt_irrefl _)
structure Turn (P : Program) (w : World) (K : PySem.W.Frag) (tg : Expr) (J : It) (fp : List Addr) (it : Addr) (tn : Nat → Heap → Prop) : Prop where
  mem : it ∈ fp
  obj : ∀ i h, tn i h → ∀ b ∈ fp, ∃ o, h.get? b = some o ∧ ∀ v, o.data ≠ .cell v
  keep : ∀ i h h', tn i h → (∀ b ∈ fp, ∀ o, h.get? b = some o → h'.get? b = some o) → tn i h'
  item : ∀ (X : Cx), X.prog = P → X.w = w → X.K = K → X.calm = true → ∀ (i : Nat) (pins : List (Addr × Obj)) (s : Shared) (σ : St) (H : Hp) (E : Value → Shared → Prop), Inv X pins σ H s → (∀ b ∈ fp, FpOk X pins H b) → tn i s.heap → J.go i H →
    wpAny (model P w) X.A (pyNext (.ref it)) (fun r s1 => ∃ u, r = some u ∧
      wpAny (model P w) X.A (letOwnedTupleGo tg (.ref it) u) (fun _ s2 => ∃ x H', Inv X pins σ H' s2 ∧ RelV x u ∧ J.yld i H x H' ∧ tn (i + 1) s2.heap ∧ ∀ b ∈ fp, H' b = none) E s1) E s
  done : ∀ (X : Cx), X.prog = P → X.w = w → X.K = K → X.calm = true → ∀ (i : Nat) (pins : List (Addr × Obj)) (s : Shared) (σ : St) (H : Hp) (E : Value → Shared → Prop), Inv X pins σ H s → (∀ b ∈ fp, FpOk X pins H b) → tn i s.heap → J.stop i H →
    wpAny (model P w) X.A (pyNext (.ref it)) (fun r s1 => r = none ∧ Inv X pins σ H s1) E s
  self : ∀ (A : Around) (i : Nat) (s : Shared) (Q : Value → Shared → Prop) (E : Value → Shared → Prop), tn i s.heap → Q (.ref it) s → wpAny (model P w) A (pyIter (.ref it)) Q E s
noncomputable abbrev TI := St → Hp → (It → Hp → Prop) → Prop
noncomputable def PIE (X : Cx) (pins : List (Addr × Obj)) (σ : St) (tg : Expr) (R : It → Hp → Prop) (itv : Value) (s2 : Shared) : Prop :=
  ∃ (it : Addr) (fp : List Addr) (tn : Nat → Heap → Prop) (J : It) (H' : Hp), itv = .ref it ∧ Inv X pins σ H' s2 ∧ Turn X.prog X.w X.K tg J fp it tn ∧ tn 0 s2.heap ∧ (∀ b ∈ fp, FpOk X pins H' b) ∧ R J H'
noncomputable def PI (X : Cx) (tg iter : Expr) (wi : TI) : Prop :=
  ∀ (pins : List (Addr × Obj)) (s : Shared) (σ : St) (H : Hp) (R : It → Hp → Prop), Inv X pins σ H s → wi σ H R →
    wpAny (model X.prog X.w) X.A (eval iter X.env) (fun v s1 => wpAny (model X.prog X.w) X.A (pyIter v) (PIE X pins σ tg R) X.xe s1) X.xe s
theorem go_of {M : Model} {A : Around} {E : Value → Shared → Prop} {s : Shared} {tg : Expr} {it : Addr} {u : Value} {o : Obj} {n : String} {vs : Array Value} {Q : Unit → Shared → Prop} (ho : s.heap.get? it = some o) (hc : o.cls = .type n) (hd : o.data = .fields vs)
    (hn : ["enumerate", "zip", "dict_itemiterator", "dict_reverseitemiterator", "odict_iterator", "itertools.zip_longest", "itertools.pairwise"].contains n = false) (hQ : Q () s) : wpAny M A (letOwnedTupleGo tg (.ref it) u) Q E s := by
  unfold letOwnedTupleGo
  cases tg <;> first
    | exact wpAny_pure hQ
    | (cases u <;> first
        | exact wpAny_pure hQ
        | (refine wpAny_bind (wpAny_load ho ?_)
           rw [hc, hd]
           show wpAny M A (if (["enumerate", "zip", "dict_itemiterator", "dict_reverseitemiterator", "odict_iterator", "itertools.zip_longest", "itertools.pairwise"].contains n && vs[0]? == some (rawInt _)) = true then _ else _) Q E s
           rw [if_neg (by intro h; rw [hn, Bool.false_and] at h; cases h)]
           exact wpAny_pure hQ))
noncomputable def Itl (K : PySem.W.Frag) (a : Addr) : It :=
  ⟨fun i H => ∃ xs x, SqL K H a xs ∧ xs[i]? = some x, fun i H x H' => H' = H ∧ ∀ xs, SqL K H a xs → xs[i]? = some x, fun i H => ∃ xs, SqL K H a xs ∧ xs.length ≤ i⟩
noncomputable def Itt (K : PySem.W.Frag) (a : Addr) : It :=
  ⟨fun i H => ∃ xs x, SqT K H a xs ∧ xs[i]? = some x, fun i H x H' => H' = H ∧ ∀ xs, SqT K H a xs → xs[i]? = some x, fun i H => ∃ xs, SqT K H a xs ∧ xs.length ≤ i⟩
theorem turn_list {P : Program} {w : World} {K : PySem.W.Frag} {tg : Expr} (a it : Addr) : Turn P w K tg (Itl K a) [it] it (fun i h => h.IsListIter it a i) where
  mem := by simp
  obj := fun i h st b hb => by
    have e : b = it := by simpa using hb
    subst e
    obtain ⟨o, e, c, d⟩ := st
    exact ⟨o, e, fun v z => by rw [d] at z; cases z⟩
  keep := fun i h h' st k => st.at fun o e => k it (by simp) o e
  item := by
    intro X hP hw hK hc i pins s σ H E I hf st hg
    subst hP hw hK
    obtain ⟨xs, x, hq, hx⟩ := hg
    obtain ⟨its, rv, p, hz⟩ := I.list hq
    obtain ⟨u, hu, ru⟩ := rv.get hx
    obtain ⟨f0, f1, f2, f3, f4, f5⟩ := hf it (by simp)
    refine wpAny_pyNext_list_item st p.isList (x := u) (by simpa using hu) fun h' st' sb => ?_
    have I1 : Inv X pins σ H { s with heap := h' } := I.turned (t' := s.toks) (fun b o hb e => (sb.2 b hb).trans e) f0 f1 f3 f4 f5
    obtain ⟨o, e, c, d⟩ := id st'
    exact ⟨u, rfl, go_of (s := { s with heap := h' }) e c d (by decide) ⟨x, H, I1, ru, ⟨rfl, fun ys hy => by rw [I.list_inj hy hq]; exact hx⟩, st', fun b hb => (hf b hb).1⟩⟩
  done := by
    intro X hP hw hK hc i pins s σ H E I hf st hg
    subst hP hw hK
    obtain ⟨xs, hq, hx⟩ := hg
    obtain ⟨its, rv, p, hz⟩ := I.list hq
    obtain ⟨f0, f1, f2, f3, f4, f5⟩ := hf it (by simp)
    have hl := rv.length
    exact wpAny_pyNext_list_end (I.ok.hd hc) st p.isList (by simp; omega) fun h' eb => ⟨rfl, I.turned (t' := s.toks) (fun b o hb e => eb b o hb e) f0 f1 f3 f4 f5⟩
  self := fun _ _ _ _ _ st h => wpAny_pyIter_listiter st h
theorem turn_tuple {P : Program} {w : World} {K : PySem.W.Frag} {tg : Expr} (a it : Addr) : Turn P w K tg (Itt K a) [it] it (fun i h => h.IsTupleIter it a i) where
  mem := by simp
  obj := fun i h st b hb => by
    have e : b = it := by simpa using hb
    subst e
    obtain ⟨o, e, c, d⟩ := st
    exact ⟨o, e, fun v z => by rw [d] at z; cases z⟩
  keep := fun i h h' st k => st.at fun o e => k it (by simp) o e
  item := by
    intro X hP hw hK hc i pins s σ H E I hf st hg
    subst hP hw hK
    obtain ⟨xs, x, hq, hx⟩ := hg
    obtain ⟨its, rv, p, hz⟩ := I.tuple hq
    obtain ⟨u, hu, ru⟩ := rv.get hx
    obtain ⟨f0, f1, f2, f3, f4, f5⟩ := hf it (by simp)
    refine wpAny_pyNext_tuple_item st (show s.heap.IsTuple a its.toArray from p) (x := u) (by simpa using hu) fun h' st' sb => ?_
    have I1 : Inv X pins σ H { s with heap := h' } := I.turned (t' := s.toks) (fun b o hb e => (sb.2 b hb).trans e) f0 f1 f3 f4 f5
    obtain ⟨o, e, c, d⟩ := id st'
    exact ⟨u, rfl, go_of (s := { s with heap := h' }) e c d (by decide) ⟨x, H, I1, ru, ⟨rfl, fun ys hy => by rw [I.tuple_inj hy hq]; exact hx⟩, st', fun b hb => (hf b hb).1⟩⟩
  done := by
    intro X hP hw hK hc i pins s σ H E I hf st hg
    subst hP hw hK
    obtain ⟨xs, hq, hx⟩ := hg
    obtain ⟨its, rv, p, hz⟩ := I.tuple hq
    obtain ⟨f0, f1, f2, f3, f4, f5⟩ := hf it (by simp)
    have hl := rv.length
    exact wpAny_pyNext_tuple_end (I.ok.hd hc) st (show s.heap.IsTuple a its.toArray from p) (by simp; omega) fun h' eb => ⟨rfl, I.turned (t' := s.toks) (fun b o hb e => eb b o hb e) f0 f1 f3 f4 f5⟩
  self := fun _ _ _ _ _ st h => wpAny_pyIter_tupleiter st h
end L2
namespace L2
open PySem PySem.Spec PyProof.Rows
section
variable {X : Cx} {tg : Expr}
noncomputable def tFor (wi : TI) (g : TG) (tb : TS) : TS := fun D σ H => wi σ H fun J H1 => ∃ W : Nat → Nat → St → Hp → Prop, (∃ m, W 0 m σ H1) ∧ ∀ i m σ H, W i m σ H →
  (J.stop i H ∧ D.nx σ H) ∨ (J.go i H ∧ ∃ N : St → Hp → Prop, (∀ σ' H', N σ' H' → ∃ m', m' < m ∧ W (i + 1) m' σ' H') ∧ ∀ x H', J.yld i H x H' → g x σ H' fun σ2 H2 => tb { D with nx := N, ct := N, bk := D.nx } σ2 H2)
noncomputable def pinsAt (fp : List Addr) (h : Heap) : List (Addr × Obj) := fp.filterMap fun b => (h.get? b).map fun o => (b, o)
theorem mem_pinsAt {fp : List Addr} {h : Heap} {b : Addr} {o : Obj} (hb : b ∈ fp) (e : h.get? b = some o) : (b, o) ∈ pinsAt fp h := List.mem_filterMap.mpr ⟨b, hb, by rw [e]; rfl⟩
theorem of_pinsAt {fp : List Addr} {h : Heap} {p : Addr × Obj} (hp : p ∈ pinsAt fp h) : p.1 ∈ fp ∧ h.get? p.1 = some p.2 := by
  obtain ⟨b, hb, e⟩ := List.mem_filterMap.mp hp
  cases q : h.get? b with
  | none => rw [q] at e; cases e
  | some o =>
    rw [q] at e
    have e' : (b, o) = p := Option.some.inj e
    subst e'
    exact ⟨hb, q⟩
theorem Inv.pinned {pins : List (Addr × Obj)} {σ : St} {H : Hp} {s : Shared} {fp : List Addr} (I : Inv X pins σ H s) (hf : ∀ b ∈ fp, FpOk X pins H b) (ho : ∀ b ∈ fp, ∃ o, s.heap.get? b = some o ∧ ∀ v, o.data ≠ .cell v) : Inv X (pins ++ pinsAt fp s.heap) σ H s :=
  I.pins_of fun p hp => (List.mem_append.mp hp).elim (fun z => I.pin p (List.mem_append_right _ z)) fun z => by
    obtain ⟨hb, e⟩ := of_pinsAt z
    obtain ⟨f0, f1, f2, _⟩ := hf p.1 hb
    obtain ⟨o, e', d⟩ := ho p.1 hb
    rw [e] at e'; cases e'
    exact ⟨e, f0, f1, f2, d⟩
theorem Inv.unpinned {pins pl : List (Addr × Obj)} {σ : St} {H : Hp} {s : Shared} (I : Inv X (pins ++ pl) σ H s) : Inv X pins σ H s := I.pins_of fun p hp => I.pin p (List.mem_append_right _ (List.mem_append_left _ hp))
theorem ps_for {iter : Expr} {body : List Stmt} {wi : TI} {g : TG} {tb : TS} {pos : Pos} (hp : PassesOwn (model X.prog X.w) X.A X.env X.xe) (hc : X.calm = true) (hi : PI X tg iter wi) (hg : PG X tg g) (hb : PSs X body tb)
    (hs : autoParam (∀ x, foldedSetIterable iter X.env x = pure x) zau3._auto_1) : PS X (.For tg iter body [] pos) (tFor wi g tb) := by
  intro pins s σ H D I h
  refine wpAny_For (thn (hi pins s σ H _ I h) fun v s1 h1 => thn h1 fun itv s2 h2 => ?_) hs
  obtain ⟨it, fp, tn, J, H2, e, I2, T, st2, f2, W, ⟨m0, w0⟩, turn⟩ := h2
  subst e
  have stat : ∀ {H' : Hp}, (∀ b ∈ fp, H' b = none) → ∀ b ∈ fp, FpOk X pins H' b := fun hn b hb => ⟨hn b hb, (f2 b hb).2⟩
  refine codeAny_forLoop_any (fun n s' => ∃ i σ' H', Inv X pins σ' H' s' ∧ tn i s'.heap ∧ (∀ b ∈ fp, H' b = none) ∧ W i n σ' H') ?_ m0 ⟨0, σ, H2, I2, st2, fun b hb => (f2 b hb).1, w0⟩
  rintro n s3 ⟨i, σ3, H3, I3, st3, fr3, w3⟩
  rcases turn i n σ3 H3 w3 with ⟨stop, qn⟩ | ⟨go, N, hN, step⟩
  · refine wpAny_passesOwn hp (thn (T.done X rfl rfl rfl hc i pins s3 σ3 H3 X.xe I3 (stat fr3) st3 stop) fun r s4 hzz => ?_)
    obtain ⟨hr, I4⟩ := hzz
    subst hr
    exact wpAny_execs_nil ⟨σ3, H3, I4, qn⟩
  · refine wpAny_passesOwn hp (thn (T.item X rfl rfl rfl hc i pins s3 σ3 H3 X.xe I3 (stat fr3) st3 go) fun r s4 hzz => ?_)
    obtain ⟨u, hr, h4⟩ := hzz
    subst hr
    refine wpAny_passesOwn hp (thn h4 fun _ s5 hzz => ?_)
    obtain ⟨x, H5, I5, r5, y5, st5, fr5⟩ := hzz
    have I5' := I5.pinned (stat fr5) (T.obj _ _ st5)
    refine wpAny_passesOwn hp (thn (hg _ s5 σ3 H5 x u _ I5' r5 (step x H5 y5)) fun _ s6 hzz => ?_)
    obtain ⟨σ6, H6, I6, q6⟩ := hzz
    refine wpAny_passesOwn hp (thn (hb _ s6 σ6 H6 _ I6 q6) fun f s7 q7 => ?_)
    have again : ∀ {σ7 : St} {H7 : Hp}, Inv X (pins ++ pinsAt fp s5.heap) σ7 H7 s7 → N σ7 H7 → ∃ m, m < n ∧ ∃ i σ' H', Inv X pins σ' H' s7 ∧ tn i s7.heap ∧ (∀ b ∈ fp, H' b = none) ∧ W i m σ' H' := fun {σ7 H7} I7 n7 => by
      obtain ⟨m', hm, w7⟩ := hN σ7 H7 n7
      refine ⟨m', hm, i + 1, σ7, H7, I7.unpinned, T.keep _ _ _ st5 fun b hb o e => (I7.pin (b, o) (List.mem_append_right _ (List.mem_append_right _ (mem_pinsAt hb e)))).1, fun b hb => ?_, w7⟩
      obtain ⟨o, e, d⟩ := T.obj _ _ st5 b hb
      exact (I7.pin (b, o) (List.mem_append_right _ (List.mem_append_right _ (mem_pinsAt hb e)))).2.1
    cases f with
    | next => obtain ⟨σ7, H7, I7, n7⟩ := q7; exact again I7 n7
    | cont => obtain ⟨σ7, H7, I7, n7⟩ := q7; exact again I7 n7
    | brk => obtain ⟨σ7, H7, I7, q7⟩ := q7; exact ⟨σ7, H7, I7.unpinned, q7⟩
    | ret v => obtain ⟨x7, σ7, H7, I7, r7, q7⟩ := q7; exact ⟨x7, σ7, H7, I7.unpinned, r7, q7⟩
end
end L2
namespace L2
open PySem PySem.Spec PyProof.Rows
noncomputable abbrev R2 := V → V → Hp → VK → Prop
noncomputable def OpR (X : Cx) (f : Value → Value → Sem Value) (r : R2) : Prop :=
  ∀ (pins : List (Addr × Obj)) (s : Shared) (σ : St) (H : Hp) (x y : V) (v u : Value) (Q : VK), Inv X pins σ H s → RelV x v → RelV y u → r x y H Q →
    wpAny (model X.prog X.w) X.A (f v u) (EP X pins σ Q) X.xe s
noncomputable def UnR (X : Cx) (f : Value → Sem Value) (r : V → Hp → VK → Prop) : Prop :=
  ∀ (pins : List (Addr × Obj)) (s : Shared) (σ : St) (H : Hp) (x : V) (v : Value) (Q : VK), Inv X pins σ H s → RelV x v → r x H Q →
    wpAny (model X.prog X.w) X.A (f v) (EP X pins σ Q) X.xe s
noncomputable def CallR (X : Cx) (f : Value) (r : List V → Hp → VK → Prop) : Prop :=
  ∀ (pins : List (Addr × Obj)) (s : Shared) (σ : St) (H : Hp) (xs : List V) (us : List Value) (Q : VK), Inv X pins σ H s → Vals xs us → r xs H Q →
    wpAny (model X.prog X.w) X.A (call f us) (EP X pins σ Q) X.xe s
noncomputable def TruR (X : Cx) (r : V → Hp → (Bool → Hp → Prop) → Prop) : Prop :=
  ∀ (pins : List (Addr × Obj)) (s : Shared) (σ : St) (H : Hp) (x : V) (v : Value) (Q : Bool → Hp → Prop), Inv X pins σ H s → RelV x v → r x H Q →
    wpAny (model X.prog X.w) X.A (truthy v) (TP X pins σ Q) X.xe s
noncomputable def tOp (r : R2) (ta tb : TE) : TE := fun σ H Q => ta σ H fun x H1 => tb σ H1 fun y H2 => r x y H2 Q
noncomputable def tUn (r : V → Hp → VK → Prop) (ta : TE) : TE := fun σ H Q => ta σ H fun x H1 => r x H1 Q
noncomputable def rI (C : Int → Int → Prop) (g : Int → Int → V) : R2 := fun x y H Q => ∃ i j, x = .int i ∧ y = .int j ∧ C i j ∧ Q (g i j) H
noncomputable def rI0 (g : Int → Int → V) : R2 := fun x y H Q => ∃ i j, x = .int i ∧ y = .int j ∧ Q (g i j) H
noncomputable def rU (g : Int → V) : V → Hp → VK → Prop := fun x H Q => ∃ i, x = .int i ∧ Q (g i) H
section
variable {X : Cx} {a b c : Expr} {ta tb tc : TE} {pos : Pos}
theorem binT (ha : PE X a ta) (hb : PE X b tb) {pins : List (Addr × Obj)} {s : Shared} {σ : St} {H : Hp} {R : V → V → Hp → Prop} (I : Inv X pins σ H s)
    (h : ta σ H fun x H1 => tb σ H1 fun y H2 => R x y H2) {Q : Value → Shared → Prop} {f : Value → Value → Sem Value}
    (hf : ∀ v u s2 x y H2, Inv X pins σ H2 s2 → RelV x v → RelV y u → R x y H2 → wpAny (model X.prog X.w) X.A (f v u) Q X.xe s2) :
    wpAny (model X.prog X.w) X.A (eval a X.env) (fun v s₁ => wpAny (model X.prog X.w) X.A (eval b X.env) (fun u s₂ => wpAny (model X.prog X.w) X.A (f v u) Q X.xe s₂) X.xe s₁) X.xe s := by
  refine thn (ha pins s σ H _ I h) fun v s1 hzz => ?_
  obtain ⟨x, H1, I1, r1, q1⟩ := hzz
  refine thn (hb pins s1 σ H1 _ I1 q1) fun u s2 hzz => ?_
  obtain ⟨y, H2, I2, r2, q2⟩ := hzz
  exact hf v u s2 x y H2 I2 r1 r2 q2
theorem pe_op {op : Operator} {r : R2} (ho : OpR X (binaryOp op) r) (ha : PE X a ta) (hb : PE X b tb) : PE X (.BinOp a op b pos) (tOp r ta tb) := by
  intro pins s σ H Q I h
  exact wpAny_BinOp (binT ha hb I h fun v u s2 x y H2 I2 rx ry q => ho pins s2 σ H2 x y v u Q I2 rx ry q)
theorem pe_un {op : UnaryOp} {r : V → Hp → VK → Prop} (ho : UnR X (unaryOp op) r) (ha : PE X a ta) : PE X (.UnaryOp op a pos) (tUn r ta) := by
  intro pins s σ H Q I h
  exact UnaryOp_ (thn (ha pins s σ H _ I h) fun v s1 ⟨x, H1, I1, r1, q1⟩ => ho pins s1 σ H1 x v Q I1 r1 q1)
theorem opI {f : Value → Value → Sem Value} {C : Int → Int → Prop} {g : Int → Int → Int}
    (rule : ∀ (i j : Int) (t u : Tok) (s : Shared) (Q : Value → Shared → Prop) (E : Value → Shared → Prop), C i j → Q (.int (g i j) s.toks) { s with toks := s.toks + 1 } → wpAny (model X.prog X.w) X.A (f (.int i t) (.int j u)) Q E s) :
    OpR X f (rI C fun i j => .int (g i j)) := by
  intro pins s σ H x y v u Q I rx ry h
  obtain ⟨i, j, rfl, rfl, hc, q⟩ := h
  obtain ⟨t, rfl⟩ := rx
  obtain ⟨t', rfl⟩ := ry
  exact rule i j t t' s _ _ hc ⟨.int (g i j), H, I.tok _, ⟨_, rfl⟩, q⟩
theorem opI0 {f : Value → Value → Sem Value} {g : Int → Int → Int}
    (rule : ∀ (i j : Int) (t u : Tok) (s : Shared) (Q : Value → Shared → Prop) (E : Value → Shared → Prop), Q (.int (g i j) s.toks) { s with toks := s.toks + 1 } → wpAny (model X.prog X.w) X.A (f (.int i t) (.int j u)) Q E s) :
    OpR X f (rI0 fun i j => .int (g i j)) := by
  intro pins s σ H x y v u Q I rx ry h
  obtain ⟨i, j, rfl, rfl, q⟩ := h
  obtain ⟨t, rfl⟩ := rx
  obtain ⟨t', rfl⟩ := ry
  exact rule i j t t' s _ _ ⟨.int (g i j), H, I.tok _, ⟨_, rfl⟩, q⟩
theorem opB0 {f : Value → Value → Sem Value} {g : Int → Int → Bool}
    (rule : ∀ (i j : Int) (t u : Tok) (s : Shared) (Q : Value → Shared → Prop) (E : Value → Shared → Prop), Q (.bool (g i j)) s → wpAny (model X.prog X.w) X.A (f (.int i t) (.int j u)) Q E s) :
    OpR X f (rI0 fun i j => .bl (g i j)) := by
  intro pins s σ H x y v u Q I rx ry h
  obtain ⟨i, j, rfl, rfl, q⟩ := h
  obtain ⟨t, rfl⟩ := rx
  obtain ⟨t', rfl⟩ := ry
  exact rule i j t t' s _ _ ⟨.bl (g i j), H, I, rfl, q⟩
noncomputable def CPow (i j : Int) : Prop := 0 ≤ j ∧ j ≤ 1000000 ∧ i.natAbs < 2 ^ 64
theorem op_add : OpR X (binaryOp .Add) (rI0 fun i j => .int (i + j)) := opI0 fun _ _ _ _ _ _ _ q => add_int q
theorem op_sub : OpR X (binaryOp .Sub) (rI0 fun i j => .int (i - j)) := opI0 fun _ _ _ _ _ _ _ q => sub_int q
theorem op_mod : OpR X (binaryOp .Mod) (rI (fun _ j => 0 < j) fun i j => .int (i % j)) := opI fun i j _ _ _ _ _ hc q => by
  have h1 : (0 : Int) < j := hc
  exact mod_int' (by omega) (by rw [Int.fmod_eq_emod_of_nonneg i (by omega)]; exact q)
theorem op_pow : OpR X (binaryOp .Pow) (rI CPow fun i j => .int (i ^ j.toNat)) := opI fun _ _ _ _ _ _ _ hc q => pow_int_small hc.1 hc.2.1 hc.2.2 q
theorem unI {f : Value → Sem Value} {g : Int → Int}
    (rule : ∀ (i : Int) (t : Tok) (s : Shared) (Q : Value → Shared → Prop) (E : Value → Shared → Prop), Q (.int (g i) s.toks) { s with toks := s.toks + 1 } → wpAny (model X.prog X.w) X.A (f (.int i t)) Q E s) :
    UnR X f (rU fun i => .int (g i)) := by
  intro pins s σ H x v Q I rx h
  obtain ⟨i, rfl, q⟩ := h
  obtain ⟨t, rfl⟩ := rx
  exact rule i t s _ _ ⟨.int (g i), H, I.tok _, ⟨_, rfl⟩, q⟩
theorem un_neg : UnR X (unaryOp .USub) (rU fun i => .int (-i)) := unI fun _ _ _ _ _ q => neg_int q
end
section
variable {X : Cx} {a b c : Expr} {ta tb tc : TE} {pos : Pos}
theorem fin_bl {pins : List (Addr × Obj)} {σ : St} {H : Hp} {s : Shared} {Q : VK} {k k' : Bool} (I : Inv X pins σ H s) (q : Q (.bl k) H) (e : k = k') : EP X pins σ Q (.bool k') s := by
  subst e
  exact ⟨.bl k, H, I, rfl, q⟩
theorem op_lt : OpR X (compareOp .Lt) (rI0 fun i j => .bl (decide (i < j))) := opB0 fun _ _ _ _ _ _ _ q => lt_int q
theorem op_lt_str : OpR X (compareOp .Lt) (fun x y H Q => ∃ i j, x = .str i ∧ y = .str j ∧ Q (.bl (decide (i.cps.toList < j.cps.toList))) H) := by
  intro pins s σ H x y v u Q I rx ry h
  obtain ⟨i, j, rfl, rfl, q⟩ := h
  obtain ⟨t, rfl⟩ := rx
  obtain ⟨t', rfl⟩ := ry
  exact lt_str (fin_bl I q rfl)
theorem OpR.or {f : Value → Value → Sem Value} {r r' : R2} (h : OpR X f r) (h' : OpR X f r') : OpR X f (fun x y H Q => r x y H Q ∨ r' x y H Q) := by
  intro pins s σ H x y v u Q I rx ry q
  rcases q with q | q
  · exact h pins s σ H x y v u Q I rx ry q
  · exact h' pins s σ H x y v u Q I rx ry q
theorem nomark (b : Expr) {op : CmpOp} (h : autoParam (op ≠ .In) zau1._auto_1) (h2 : autoParam (op ≠ .NotIn) zau1._auto_1) : behindInMarks op b = false := by
  have e1 : (op == CmpOp.In) = false := by cases op <;> first | rfl | exact absurd rfl h
  have e2 : (op == CmpOp.NotIn) = false := by cases op <;> first | rfl | exact absurd rfl h2
  cases b <;> simp [behindInMarks, e1, e2]
theorem pe_cmpR {op : CmpOp} {r : R2} (ho : OpR X (compareOp op) r) (ha : PE X a ta) (hb : PE X b tb) (hm : behindInMarks op b = false) : PE X (.Compare a [op] [b] pos) (tOp r ta tb) := by
  intro pins s σ H Q I h
  exact wpAny_Compare1 (binT ha hb I h fun v u s2 x y H2 I2 rx ry q => ho pins s2 σ H2 x y v u Q I2 rx ry q) hm
noncomputable def tTest (t : TE) : TT := fun σ H Q => t σ H fun x H' => ∃ k, x = .bl k ∧ Q k H'
theorem pt_cmpR {op : CmpOp} {r : R2} (ho : OpR X (compareOp op) r) (ha : PE X a ta) (hb : PE X b tb) (hm : behindInMarks op b = false) : PT X (.Compare a [op] [b] pos) (tTest (tOp r ta tb)) := by
  intro pins s σ H Q I h
  refine wpAny_isTrue_Compare1 (thn (ha pins s σ H _ I h) fun v s1 ⟨x, H1, I1, r1, q1⟩ => thn (hb pins s1 σ H1 _ I1 q1) fun u s2 ⟨y, H2, I2, r2, q2⟩ =>
    thn (ho pins s2 σ H2 x y v u _ I2 r1 r2 q2) fun c s3 ⟨z, H3, I3, r3, k, e, q3⟩ => ?_) hm
  subst e
  cases r3
  exact wpAny_truthy_bool ⟨H3, I3, q3⟩
noncomputable def TruV (K : PySem.W.Frag) (x : V) (H : Hp) (k : Bool) : Prop :=
  match x with
  | .non => k = false
  | .bl b => k = b
  | .int i => k = (i != 0)
  | .str y => y.length ≤ sizeLine ∧ k = ((y.length : Int) != 0)
  | .byt y => y.size ≤ sizeLine ∧ k = ((y.size : Int) != 0)
  | .ref p => (∃ xs, SqL K H p xs ∧ k = !xs.isEmpty) ∨ (∃ xs, SqT K H p xs ∧ k = !xs.isEmpty) ∨ ∃ kvs, H p = some (.dK kvs) ∧ k = !kvs.isEmpty
  | _ => False
theorem isEmpty_kv {κ : Type} {kvs : List (κ × V)} {vs : List (κ × Value)} (r : KV kvs vs) : (!vs.isEmpty) = !kvs.isEmpty := by
  cases r <;> rfl
theorem isEmpty_of {xs : List V} {its : List Value} (r : Vals xs its) : (!its.toArray.isEmpty) = !xs.isEmpty := by
  cases r <;> simp
theorem line63 : (sizeLine : Nat) < 2 ^ 63 := by rw [sizeLine_eq]; decide
theorem tru_ok : TruR X (fun x H Q => ∃ k, TruV X.K x H k ∧ Q k H) := by
  intro pins s σ H x v Q I rx h
  obtain ⟨k, e, q⟩ := h
  have hl := line63
  have hs : sizeLine = 16777216 := sizeLine_eq
  cases x with
  | non =>
    cases rx
    have e' : k = false := e
    subst e'
    exact truthy_none ⟨H, I, q⟩
  | bl b =>
    cases rx
    have e' : k = b := e
    subst e'
    exact wpAny_truthy_bool ⟨H, I, q⟩
  | int i =>
    obtain ⟨t, rfl⟩ := rx
    have e' : k = (i != 0) := e
    subst e'
    exact PySem.P.truthy_int ⟨H, I, q⟩
  | str y =>
    obtain ⟨t, rfl⟩ := rx
    obtain ⟨hy, e'⟩ : y.length ≤ sizeLine ∧ k = ((y.length : Int) != 0) := e
    subst e'
    exact PySem.P.truthy_str (by omega) ⟨H, I.tok _, q⟩
  | byt y =>
    obtain ⟨t, rfl⟩ := rx
    obtain ⟨hy, e'⟩ : y.size ≤ sizeLine ∧ k = ((y.size : Int) != 0) := e
    subst e'
    exact PySem.W.truthy_bytes (by omega) ⟨H, I.tok _, q⟩
  | ref p =>
    cases rx
    have e' : (∃ xs, SqL X.K H p xs ∧ k = !xs.isEmpty) ∨ (∃ xs, SqT X.K H p xs ∧ k = !xs.isEmpty) ∨ ∃ kvs, H p = some (.dK kvs) ∧ k = !kvs.isEmpty := e
    rcases e' with ⟨xs, hx, e'⟩ | ⟨xs, hx, e'⟩ | ⟨kvs, hx, e'⟩
    · subst e'
      obtain ⟨its, r, pl, hz⟩ := I.list hx
      have hlen := r.length
      exact wpAny_truthy_list pl.isList (by simp only [List.size_toArray]; omega) ⟨H, I.tok _, by rw [isEmpty_of r]; exact q⟩
    · subst e'
      obtain ⟨its, r, pl, hz⟩ := I.tuple hx
      have hlen := r.length
      exact truthy_tuple pl (by simp only [List.size_toArray]; omega) ⟨H, I.tok _, by rw [isEmpty_of r]; exact q⟩
    · subst e'
      obtain ⟨hz, hS, vs, r, m⟩ : kvs.length ≤ sizeLine ∧ (p == sysModules) = false ∧ ∃ vs, KV kvs vs ∧ s.heap.DictOf (mixKind X.prog X.w) p vs := I.hok p _ hx
      have hlen : kvs.length = vs.length := Paired.length r
      exact wpAny_truthy_dict hS m (by omega) ⟨H, I.tok _, by rw [isEmpty_kv r]; exact q⟩
  | _ => exact (show False from e).elim
theorem pt_truth (ha : PE X a ta) (he : ∀ whole, isTrue a X.env whole = (do let v ← whole; standAt a.pos; holding [v] (truthy v))) :
    PT X a (fun σ H Q => ta σ H fun x H' => ∃ k, TruV X.K x H' k ∧ Q k H') := by
  intro pins s σ H Q I h
  exact isTrue_plain (thn (ha pins s σ H _ I h) fun v s1 ⟨x, H1, I1, r1, q1⟩ => tru_ok pins s1 σ H1 x v Q I1 r1 q1) (he _)
theorem op_add_str : OpR X (binaryOp .Add) (fun x y H Q => ∃ i j, x = .str i ∧ y = .str j ∧ i.length + j.length ≤ sizeLine ∧ Q (.str (i ++ j)) H) := by
  intro pins s σ H x y v u Q I rx ry h
  obtain ⟨i, j, rfl, rfl, hz, q⟩ := h
  obtain ⟨t, rfl⟩ := rx
  obtain ⟨t', rfl⟩ := ry
  exact add_str (fun t' tk => ⟨.str (i ++ j), H, I.tok _, ⟨_, rfl⟩, q⟩) hz
theorem vals1 {x : V} {us : List Value} (r : Vals [x] us) : ∃ u, us = [u] ∧ RelV x u := by
  cases r with
  | cons r1 r2 => cases r2; exact ⟨_, rfl, r1⟩
end
end L2
namespace L2
open PySem PySem.Spec PyProof.Rows
structure ObjM (h : Heap) (x dx C : Addr) (mA : Str → Option Value) : Prop where
  obj : h.get? x = some (PySem.W.instObj C dx)
  ns : h.Ns1 dx mA
  ne : dx ≠ x
theorem lookIn_ns {h : Heap} {dx : Addr} {mA : Str → Option Value} (n : h.Ns1 dx mA) : ∃ od, h.get? dx = some od ∧ ∀ name, PySem.W.lookIn name od = some (mA name) := by
  obtain ⟨o, es, ep, ho, hd, hk, _, hm⟩ := n
  refine ⟨o, ho, fun name => ?_⟩
  have e := hm name
  unfold nsFind findBy at e
  rw [← Array.find?_toList] at e
  unfold PySem.W.lookIn
  rw [hd]
  dsimp only
  split
  · rename_i y q
    rw [q] at e
    exact congrArg some e
  · rename_i q
    rw [q] at e
    have a : es.toList.any (·.refKey) = false := by
      rw [List.any_eq_false]
      intro y hy
      obtain ⟨z, t, hkey⟩ := hk y (Array.mem_toList_iff.mp hy)
      simp [DictEntry.refKey, hkey]
    have a' : ¬ es.toList.any (·.refKey) = true := by rw [a]; exact Bool.false_ne_true
    rw [if_neg a']
    exact congrArg some e
section
variable {prog : Program} {w : World} {A : Around} {E : Value → Shared → Prop} {s : Shared} {K : PySem.W.Frag} {x dx C f : Addr} {mA : Str → Option Value} {name : Str} {v : Value}
end
noncomputable def putF (f : Str) (v : V) : List (Str × V) → List (Str × V)
  | [] => [(f, v)]
  | (g, x) :: r => if g = f then (g, v) :: r else (g, x) :: putF f v r
theorem lookup_putF (f g : Str) (v : V) : ∀ fs : List (Str × V), (putF f v fs).lookup g = if g = f then some v else fs.lookup g
  | [] => by
    show List.lookup g [(f, v)] = _
    by_cases h : g = f
    · have hb : (g == f) = true := beq_iff_eq.mpr h
      simp only [List.lookup, hb, if_pos h]
    · have hb : (g == f) = false := beq_eq_false_iff_ne.mpr h
      simp only [List.lookup, hb, if_neg h]
  | (k, x) :: r => by
    have ih := lookup_putF f g v r
    rw [show putF f v ((k, x) :: r) = (if k = f then (k, v) :: r else (k, x) :: putF f v r) from rfl]
    by_cases hk : k = f
    · rw [if_pos hk]
      by_cases h : g = k
      · have hb : (g == k) = true := beq_iff_eq.mpr h
        simp only [List.lookup, hb, if_pos (h.trans hk)]
      · have hb : (g == k) = false := beq_eq_false_iff_ne.mpr h
        simp only [List.lookup, hb, if_neg (fun e : g = f => h (e.trans hk.symm))]
    · rw [if_neg hk]
      by_cases h : g = k
      · have hb : (g == k) = true := beq_iff_eq.mpr h
        simp only [List.lookup, hb, if_neg (fun e : g = f => hk (h.symm.trans e))]
      · have hb : (g == k) = false := beq_eq_false_iff_ne.mpr h
        simp only [List.lookup, hb]
        exact ih
theorem keys_putF (f : Str) (v : V) : ∀ fs : List (Str × V), f ∈ (putF f v fs).map (·.1) ∧ ∀ g, g ∈ fs.map (·.1) → g ∈ (putF f v fs).map (·.1)
  | [] => ⟨by simp [putF], fun g h => by simp at h⟩
  | (k, x) :: r => by
    obtain ⟨i1, i2⟩ := keys_putF f v r
    rw [show putF f v ((k, x) :: r) = (if k = f then (k, v) :: r else (k, x) :: putF f v r) from rfl]
    by_cases hk : k = f
    · rw [if_pos hk]
      subst hk
      exact ⟨by simp, fun g h => by simpa using h⟩
    · rw [if_neg hk]
      refine ⟨?_, fun g h => ?_⟩
      · rw [List.map_cons]
        exact List.mem_cons_of_mem _ i1
      · rw [List.map_cons] at h ⊢
        rcases List.mem_cons.mp h with e | e
        · exact List.mem_cons.mpr (.inl e)
        · exact List.mem_cons_of_mem _ (i2 g e)
theorem length_putF (f : Str) (v : V) : ∀ fs : List (Str × V), (putF f v fs).length ≤ fs.length + 1
  | [] => by simp [putF]
  | (k, x) :: r => by
    have ih := length_putF f v r
    rw [show putF f v ((k, x) :: r) = (if k = f then (k, v) :: r else (k, x) :: putF f v r) from rfl]
    by_cases hk : k = f
    · rw [if_pos hk, List.length_cons, List.length_cons]; omega
    · rw [if_neg hk, List.length_cons, List.length_cons]; omega
theorem RelO.some_of {v : V} {o : Option Value} (r : RelO (some v) o) : ∃ u, o = some u ∧ RelV v u := by
  cases o with
  | none => exact (show False from r).elim
  | some u => exact ⟨u, rfl, r⟩
theorem handed_of {v : V} {u : Value} (r : RelV v u) : PySem.W.handedIn u = true := by
  cases v with
  | non => cases (show u = Value.none from r); rfl
  | bl b => cases (show u = Value.bool b from r); rfl
  | int i => obtain ⟨t, e⟩ := (show ∃ t, u = Value.int i t from r); cases e; rfl
  | str x => obtain ⟨t, e⟩ := (show ∃ t, u = Value.str x t from r); cases e; rfl
  | byt b => obtain ⟨t, e⟩ := (show ∃ t, u = Value.bytes b t from r); cases e; rfl
  | flt b => obtain ⟨t, e⟩ := (show ∃ t, u = Value.float b t from r); cases e; rfl
  | ref a => cases (show u = Value.ref a from r); rfl
  | ty n => cases (show u = Value.type n from r); rfl
section
variable {P : Program} {w : World} {H H' : Hp} {h h' : Heap} {a C dx : Addr} {fs fs' : List (Str × V)}
end
structure Cls (K : PySem.W.Frag) (C : Addr) : Prop where
  pg : PySem.W.plainGet K C Str.empty = true
  hd : PySem.W.hasDictIn K C = true
  po : PySem.W.plainOver K C = true
  sa : PySem.W.findIn K (.ref C) "__setattr__" = some (some (.builtin "object.__setattr__"))
noncomputable def NoAttr (K : PySem.W.Frag) (C : Addr) (f : Str) : Prop := PySem.W.findIn K (.ref C) f = some none
structure Con (K : PySem.W.Frag) (C : Addr) (f : Str) (v : V) (u : Value) : Prop where
  at_ : PySem.W.findIn K (.ref C) f = some (some u)
  rel : RelV v u
  get : PySem.W.specialIn K u "__get__" = some none
  cp : PySem.W.copiedNames.contains f = false
structure Meth (K : PySem.W.Frag) (C : Addr) (m : Str) (f : Addr) : Prop where
  at_ : PySem.W.findIn K (.ref C) m = some (some (.ref f))
  fn : PySem.W.isFn K (.ref f) = true
  kp : PySem.W.keepIn K (.ref f) = true
section
variable {X : Cx} {pins : List (Addr × Obj)} {σ : St} {H : Hp} {s : Shared} {a C dx : Addr} {fs : List (Str × V)} {f : Str} {v : V} {A : Around} {E : Value → Shared → Prop}
theorem attr_of {prog : Program} {w : World} {env : Env} {e : Expr} {f : Str} {pos : Pos} {s : Shared} {Q : Value → Shared → Prop} (hb : attributeBase e f env (eval e env) = eval e env)
    (h : wpAny (model prog w) A (eval e env) (fun o s₁ => wpAny (model prog w) A (getAttr o f true) Q E s₁) E s) : wpAny (model prog w) A (eval (.Attribute e f pos) env) Q E s :=
  Attribute_any_ h (by rw [arm_eval_Attribute, hb])
end
inductive FldP (K : PySem.W.Frag) (f : Str) (Q : VK) (x : V) (H1 : Hp) : Prop
  | mk (a C dx : Addr) (fs : List (Str × V)) (v : V) (h1 : x = .ref a) (h2 : H1 a = some (.ins C dx fs)) (h3 : Cls K C) (h4 : NoAttr K C f) (h5 : fs.lookup f = some v) (h6 : Q v H1)
section
variable {X : Cx} {o e value : Expr} {f : Str} {pos pos' tpos : Pos} {ta tv : TE}
end
section
variable {X : Cx} {pins : List (Addr × Obj)} {σ : St} {H : Hp} {s : Shared} {A : Around} {E : Value → Shared → Prop} {Q : Value → Shared → Prop} {c : Value} {b : Bool}
inductive TyOf (K : PySem.W.Frag) (H : Hp) : V → Value → Prop where
  | non : TyOf K H .non (.type "NoneType")
  | bl (x : Bool) : TyOf K H (.bl x) (.type "bool")
  | int (i : Int) : TyOf K H (.int i) (.type "int")
  | str (x : Str) : TyOf K H (.str x) (.type "str")
  | flt (x : UInt64) : TyOf K H (.flt x) (.type "float")
  | lst {a : Addr} {xs : List V} (e : H a = some (.lst xs)) : TyOf K H (.ref a) (.type "list")
  | frz {a : Addr} {o : Obj} {xs : List V} (e : H a = some (.frz o (.lst xs))) : TyOf K H (.ref a) (.type "list")
  | tup {a : Addr} {xs : List V} (e : H a = some (.tup xs)) : TyOf K H (.ref a) (.type "tuple")
  | dK {a : Addr} {kvs : List (Key × V)} (e : H a = some (.dK kvs)) : TyOf K H (.ref a) (.type "dict")
  | dT {a : Addr} {kvs : List (List Key × V)} (e : H a = some (.dT kvs)) : TyOf K H (.ref a) (.type "dict")
  | ins {a C dx : Addr} {fs : List (Str × V)} (e : H a = some (.ins C dx fs)) (cl : Cls K C) (ha : PySem.W.findIn K (.ref C) "__class__" = some (some (.builtin "object.__class__")))
      (hn : PySem.W.specialIn K (.builtin "object.__class__") "__get__" = some (some (.builtin "getset_descriptor.__get__"))) (htk : PySem.W.takesIn K (.builtin "object.__class__") = some true)
      (hm : PySem.W.mroIn K C (.type "object") = some true) : TyOf K H (.ref a) (.ref C)
end
end L2
namespace L2
open PySem PySem.Spec PyProof.Rows
structure Room (k : Nat) (A : Around) : Prop where
  hd : A.handled = none
  dp : A.depth + 3 * k + 5 < recursionLimit
  un : A.units + 16 * k + 200 < cLine
theorem Room.mono {j k : Nat} {A : Around} (r : Room k A) (h : j ≤ k) : Room j A := ⟨r.hd, by have := r.dp; omega, by have := r.un; omega⟩
theorem Room.deeper {k : Nat} {A : Around} (r : Room (k + 1) A) (env : Env) : Room k (A.deeper env) :=
  ⟨r.hd, by have := r.dp; show A.depth + 1 + 3 * k + 5 < _; omega, by have := r.un; show A.units + 3 + 16 * k + 200 < _; omega⟩
theorem make_depth {A : Around} {C : Addr} {us : List Value} {kw : List (Str × Value)} : (A.under (.builtin "type.__call__" ⟨.ref C :: us, kw⟩)).depth = A.depth + 1 := by
  first | rfl | simp [Around.under, Code.weight, Code.isCreation, Code.isGuard, Code.isCaller, Code.frames, Code.isFrame, guardIds]
theorem make_units {A : Around} {C : Addr} {us : List Value} {kw : List (Str × Value)} : (A.under (.builtin "type.__call__" ⟨.ref C :: us, kw⟩)).units = A.units + 1 := by
  first | rfl | simp [Around.under, Code.cUnits, Code.frames, Code.isFrame]
theorem Room.make {k : Nat} {A : Around} (r : Room (k + 1) A) (C : Addr) (us : List Value) (kw : List (Str × Value)) : Room k (A.under (.builtin "type.__call__" ⟨.ref C :: us, kw⟩)) :=
  ⟨r.hd, by have := r.dp; rw [make_depth]; omega, by have := r.un; rw [make_units]; omega⟩
theorem Room.depth {k : Nat} {A : Around} (r : Room k A) : A.depth < recursionLimit := by have := r.dp; omega
theorem Room.units {k : Nat} {A : Around} (r : Room k A) : A.units + 64 < cLine := by have := r.un; omega
noncomputable def tNil : TA := fun _ H Q => Q [] H
noncomputable def tCons (ta : TE) (tr : TA) : TA := fun σ H Q => ta σ H fun x H1 => tr σ H1 fun xs H2 => Q (x :: xs) H2
section
variable {X : Cx} {e : Expr} {es : List Expr} {te : TE} {t : TA} {pos : Pos}
theorem pa_nil : PA X [] tNil := fun _ _ _ _ H Q I h => Calls.spliced_nil ⟨[], H, I, .nil, h⟩
theorem pa_cons (ha : PE X e te) (hr : PA X es t) (hs : autoParam (starEach (e :: es) X.env = (false, eval e X.env) :: starEach es X.env) zau2._auto_1) : PA X (e :: es) (tCons te t) := by
  intro pos pins s σ H Q I h
  rw [hs]
  show wpAny _ _ (spliced ((false, eval e X.env) :: backTo pos (starEach es X.env))) _ _ s
  refine Calls.spliced_cons (thn (ha pins s σ H _ I h) fun u s1 hzz => ?_)
  obtain ⟨x, H1, I1, r1, q1⟩ := hzz
  exact thn (hr pos pins s1 σ H1 _ I1 q1) fun us s2 ⟨xs, H2, I2, r2, q2⟩ => ⟨x :: xs, H2, I2, .cons r1 r2, q2⟩
noncomputable def tLst (t : TA) : TE := fun σ H Q => t σ H fun xs H1 => xs.length ≤ sizeLine ∧ ∀ p, H1 p = none → Q (.ref p) (upd H1 p (.lst xs))
theorem pe_lst (h : PA X es t) : PE X (.List es pos) (tLst t) := by
  intro pins s σ H Q I hq
  refine wpAny_List_spliced (thn (h pos pins s σ H _ I hq) fun us s1 ⟨xs, H1, I1, r, z, q⟩ => ⟨by rw [← r.length]; exact z, ?_⟩)
  have hf : H1 s1.heap.objs.size = none := I1.hok.fresh (Nat.le_refl _)
  refine ⟨.ref s1.heap.objs.size, upd H1 s1.heap.objs.size (.lst xs), I1.laid (t' := s1.toks) (fun b u e => Heap.get?_push_of_some _ e) (Nat.le_refl _) ?_, rfl, q _ hf⟩
  exact ⟨z, us, 0, r, Heap.get?_push_size _ rfl⟩
end
noncomputable abbrev Sp := List V → Hp → VK → XK → Prop
noncomputable abbrev CXT := List Env → Hp → Shared → XK → Value → Shared → Prop
structure Env0 (P : Program) (w : World) (K : PySem.W.Frag) (mg : Str → Option Value) (base : Heap) (A : Around) (outer : List Env) (s : Shared) (H : Hp) : Prop where
  frames : A.frames = some outer
  mod : Mod K mg base
  bs : ∀ b o, base.get? b = some o → s.heap.get? b = some o ∧ H b = none
  bsz : base.objs.size ≤ s.heap.objs.size
  funs : s.heap.FunFrames base outer
  frf : ∀ b ∈ frs outer, H b = none
  hok : HOk P w H s.heap
  bare : AllBare s.gens
noncomputable def CE (outer : List Env) (P : Program) (w : World) (H : Hp) (s : Shared) (Q : VK) (u : Value) (s' : Shared) : Prop :=
  ∃ v H', s'.os = s.os ∧ AllBare s'.gens ∧ Un (frs outer) [] H H' s.heap s'.heap ∧ HOk P w H' s'.heap ∧ RelV v u ∧ Q v H'
noncomputable def CR (CX : CXT) (outer : List Env) (P : Program) (w : World) (H : Hp) (s : Shared) (Q : VK) (E : XK) (r : Result) (s' : Shared) : Prop :=
  match r with
  | .ok (.ret u) => CE outer P w H s Q u s'
  | .ok _ => False
  | .error e => CX outer H s E e s'
structure FnOk (P : Program) (w : World) (K : PySem.W.Frag) (mg : Str → Option Value) (base : Heap) (CX : CXT) (k : Nat) (f : Addr) (fd : FuncData) (ps : List Str) (sp : Sp) : Prop where
  len : ∀ vs H Q E, sp vs H Q E → vs.length = ps.length
  run : ∀ (A : Around) (outer : List Env) (s : Shared) (H : Hp) (args : Args) (us : List Value) (vs : List V) (Q : VK) (E : XK), Room k A → Env0 P w K mg base A outer s H → BindsTo s fd args (ps.zip us) → Vals vs us → sp vs H Q E →
    codeAny (model P w) A (.call (.ref f) args) (CR CX outer P w H s Q E) s
theorem FnOk.imp {P : Program} {w : World} {K : PySem.W.Frag} {mg : Str → Option Value} {base : Heap} {CX : CXT} {k : Nat} {f : Addr} {fd : FuncData} {ps : List Str} {sp sp' : Sp} (F : FnOk P w K mg base CX k f fd ps sp)
    (h : ∀ vs H Q E, sp' vs H Q E → sp vs H Q E) : FnOk P w K mg base CX k f fd ps sp' :=
  ⟨fun vs H Q E q => F.len vs H Q E (h _ _ _ _ q), fun A outer s H args us vs Q E hr he hb hv hs => F.run A outer s H args us vs Q E hr he hb hv (h _ _ _ _ hs)⟩
theorem Env0.make {P : Program} {w : World} {K : PySem.W.Frag} {mg : Str → Option Value} {base : Heap} {A : Around} {outer : List Env} {s : Shared} {H : Hp} (e : Env0 P w K mg base A outer s H) (C : Addr) (us : List Value) (kw : List (Str × Value)) :
    Env0 P w K mg base (A.under (.builtin "type.__call__" ⟨.ref C :: us, kw⟩)) outer s H := ⟨by first | exact e.frames | (simpa [Around.under, Code.envs, Code.isFrame, pushEnvs] using e.frames), e.mod, e.bs, e.bsz, e.funs, e.frf, e.hok, e.bare⟩
section
variable {X : Cx} {pins : List (Addr × Obj)} {σ : St} {H : Hp} {s s' : Shared}
theorem Inv.env0 (I : Inv X pins σ H s) : Env0 X.prog X.w X.K X.mg X.base X.A X.stack s H :=
  ⟨I.ok.frames, I.ok.mod, I.bs, Nat.le_trans I.ok.bsz I.sz, I.stack, I.stkFree, I.hok, I.bare⟩
theorem Inv.after {Q : VK} {u : Value} (I : Inv X pins σ H s) (h : CE X.stack X.prog X.w H s Q u s') : EP X pins σ Q u s' := by
  obtain ⟨v, H', os, bare, un, hok, r, q⟩ := h
  obtain ⟨hh, g, d, t, os'⟩ := s'
  obtain rfl : os' = s.os := os
  exact ⟨v, H', I.call (h' := hh) (g' := g) (d' := d) (t' := t) (ch := []) un hok bare (fun b z => absurd z (by simp)), r, q⟩
end
noncomputable def tCall (sp : Sp) (dvs : List V) (E : XK) (t : TA) : TE := fun σ H Q => t σ H fun vs H1 => sp (vs ++ dvs) H1 Q E
noncomputable def Binds (K : PySem.W.Frag) (fd : FuncData) (ps : List Str) (ds : List Value) : Prop :=
  ∀ (s : Shared) (us : List Value), K.In s.heap → (us ++ ds).length = ps.length → BindsTo s fd ⟨us, []⟩ (ps.zip (us ++ ds))
theorem Binds.all {K : PySem.W.Frag} {fd : FuncData} {ps : List Str} (h : ∀ us : List Value, us.length = ps.length → bindArgs fd ⟨us, []⟩ = pure (ps.zip us)) : Binds K fd ps [] := fun s us _ hl => by
  rw [List.append_nil] at hl ⊢
  exact .of_eq (h us hl)
noncomputable def Passes (CX : CXT) (X : Cx) (E : XK) : Prop := ∀ (pins : List (Addr × Obj)) (σ : St) (H : Hp) (s : Shared) (e : Value) (s' : Shared), Inv X pins σ H s → CX X.stack H s E e s' → X.xe e s'
section
variable {X : Cx} {CX : CXT} {k : Nat} {f C : Addr} {fd : FuncData} {ps : List Str} {sp : Sp} {dvs : List V} {ds : List Value} {E : XK} {x m : Str} {p pos apos : Pos} {e o : Expr} {es : List Expr} {ta : TE} {t : TA}
theorem run_fn {pins : List (Addr × Obj)} {σ : St} {H : Hp} {s : Shared} {Q : VK} {us : List Value} {vs : List V} (F : FnOk X.prog X.w X.K X.mg X.base CX k f fd ps sp) (hr : Room k X.A) (hb : Binds X.K fd ps ds) (hd : Vals dvs ds) (hx : Passes CX X E)
    (I : Inv X pins σ H s) (r : Vals vs us) (h : sp (vs ++ dvs) H Q E) : wpAny (model X.prog X.w) X.A (call (.ref f) us) (EP X pins σ Q) X.xe s := by
  have r2 : Vals (vs ++ dvs) (us ++ ds) := r.append hd
  have hl : (us ++ ds).length = ps.length := by rw [← r2.length]; exact F.len _ _ _ _ h
  refine wpAny_call (codeAny_mono (F.run X.A X.stack s H ⟨us, []⟩ (us ++ ds) (vs ++ dvs) Q E hr I.env0 (hb s us I.kIn hl) r2 h) fun r s' hq => ?_)
  cases r with
  | error e => exact hx pins σ H s e s' I hq
  | ok fl =>
    cases fl with
    | ret u => exact I.after hq
    | next => exact False.elim hq
    | brk => exact False.elim hq
    | cont => exact False.elim hq
theorem pe_call (F : FnOk X.prog X.w X.K X.mg X.base CX k f fd ps sp) (hr : Room k X.A) (hg : Gl X x) (hm : X.mg x = some (.ref f)) (hk : PySem.W.keepIn X.K (.ref f) = true) (hb : Binds X.K fd ps ds) (hd : Vals dvs ds) (hx : Passes CX X E)
    (ha : PA X (e :: es) t) (hdb : autoParam ((x == ("__debug__" : Str)) = false) zau1._auto_1) (he : autoParam (starEach (e :: es) X.env = (false, eval e X.env) :: starEach es X.env) zau2._auto_1) (hpl : autoParam ((backTo pos (starEach es X.env)).any (·.1) = false) zau2._auto_1) :
    PE X (.Call (.Name x p) (e :: es) [] pos) (tCall sp dvs E t) := by
  intro pins s σ H Q I h
  refine wpAny_Call_Name_kw (ld_glob I hg hm ?_ hdb)
  refine PySem.W.callWith_K (h₀ := X.base) I.ok.mod.kin hk (thn (ha pos pins s σ H _ I h) fun us s1 ⟨vs, H1, I1, r, q⟩ => ⟨I1.kIn, ?_⟩) he hpl
  exact run_fn F hr hb hd hx I1 r q
structure Mk (K : PySem.W.Frag) (C f : Addr) : Prop where
  makes : PySem.W.makesIn K C = true
  init : PySem.W.findIn K (.ref C) "__init__" = some (some (.ref f))
  fn : PySem.W.isFn K (.ref f) = true
  kp : PySem.W.keepIn K (.ref C) = true
end
section
variable {X : Cx} {CX : CXT} {k : Nat} {f C : Addr} {fd : FuncData} {ps ks : List Str} {sp : Sp} {E : XK} {x m : Str} {p pos apos kpos : Pos} {e o : Expr} {es : List Expr} {kws : List Keyword} {te ta : TE} {t tk : TA} {nm : Option Str}
structure KBinds (K : PySem.W.Frag) (fd : FuncData) (ps ks : List Str) (g : List Value → List Value → List Value) (gV : List V → List V → List V) : Prop where
  to : ∀ (s : Shared) (us ws : List Value), K.In s.heap → (g us ws).length = ps.length → BindsTo s fd ⟨us, ks.zip ws⟩ (ps.zip (g us ws))
  rel : ∀ {vs : List V} {us : List Value} {zs : List V} {ws : List Value}, Vals vs us → Vals zs ws → Vals (gV vs zs) (g us ws)
variable {g : List Value → List Value → List Value} {gV : List V → List V → List V}
end
structure FnScope (N P : List Str) (sc : Scope) : Prop where
  kind : sc.kind = .function
  co : sc.isCoroutine = false
  gen : sc.isGenerator = false
  nd : N.Nodup
  pre : N.take P.length = P
  par : ∀ x ∈ P, sc.names.lookup x = some .local ∨ sc.names.lookup x = some .cell
  nofree : ∀ y ∈ sc.names, y.2 ≠ .free
theorem bindL_out {kindOf : Str → Option NameKind} {x : Str} : ∀ {binds : List (Str × Value)} {m : Str → Option Value}, (∀ v, (x, v) ∉ binds) → bindL kindOf binds m x = m x
  | [], _, _ => rfl
  | (n, v) :: r, m, h => by
    unfold bindL
    rw [bindL_out fun w hw => h w (List.mem_cons_of_mem _ hw)]
    split
    · have : x ≠ n := by rintro rfl; exact h v List.mem_cons_self
      simp [this]
    · rfl
theorem bindC_out {kindOf : Str → Option NameKind} {x : Str} : ∀ {binds : List (Str × Value)} {m : Str → Option Value}, (∀ v, (x, v) ∉ binds) → bindC kindOf binds m x = m x
  | [], _, _ => rfl
  | (n, v) :: r, m, h => by
    unfold bindC
    rw [bindC_out fun w hw => h w (List.mem_cons_of_mem _ hw)]
    split
    · rfl
    · have : x ≠ n := by rintro rfl; exact h v List.mem_cons_self
      simp [this]
theorem bindL_get {kindOf : Str → Option NameKind} {x : Str} {v : Value} : ∀ {P : List Str} {vs : List Value} {i : Nat} {m : Str → Option Value}, P.Nodup → P[i]? = some x → vs[i]? = some v → kindOf x = some .local →
    bindL kindOf (P.zip vs) m x = some v
  | [], _, _, _, _, h, _, _ => by simp at h
  | _ :: _, [], _, _, _, _, h, _ => by simp at h
  | p :: P, w :: vs, 0, m, nd, h1, h2, hk => by
    simp at h1 h2; subst h1; subst h2
    show bindL kindOf ((p, w) :: P.zip vs) m p = _
    unfold bindL
    rw [bindL_out fun v hv => (List.nodup_cons.mp nd).1 (List.of_mem_zip hv).1, if_pos hk]
    simp
  | p :: P, w :: vs, i + 1, m, nd, h1, h2, hk => by
    show bindL kindOf ((p, w) :: P.zip vs) m x = _
    unfold bindL
    exact bindL_get (i := i) (List.nodup_cons.mp nd).2 (by simpa using h1) (by simpa using h2) hk
theorem bindC_get {kindOf : Str → Option NameKind} {x : Str} {v : Value} : ∀ {P : List Str} {vs : List Value} {i : Nat} {m : Str → Option Value}, P.Nodup → P[i]? = some x → vs[i]? = some v → kindOf x ≠ some .local →
    bindC kindOf (P.zip vs) m x = some v
  | [], _, _, _, _, h, _, _ => by simp at h
  | _ :: _, [], _, _, _, _, h, _ => by simp at h
  | p :: P, w :: vs, 0, m, nd, h1, h2, hk => by
    simp at h1 h2; subst h1; subst h2
    show bindC kindOf ((p, w) :: P.zip vs) m p = _
    unfold bindC
    rw [bindC_out fun v hv => (List.nodup_cons.mp nd).1 (List.of_mem_zip hv).1, if_neg hk]
    simp
  | p :: P, w :: vs, i + 1, m, nd, h1, h2, hk => by
    show bindC kindOf ((p, w) :: P.zip vs) m x = _
    unfold bindC
    exact bindC_get (i := i) (List.nodup_cons.mp nd).2 (by simpa using h1) (by simpa using h2) hk
noncomputable def start (N : List Str) (vs : List V) : St := vs.map some ++ List.replicate (N.length - vs.length) none
noncomputable def cxOf (CX : CXT) (P : Program) (w : World) (K : PySem.W.Frag) (mg : Str → Option Value) (base : Heap) (N : List Str) (qual : Str) (scope : Scope) (f : Addr) (cd : Value) (A : Around) (outer : List Env) (s : Shared) (H : Hp) (E : XK) : Cx where
  prog := P
  w := w
  K := K
  mg := mg
  base := base
  A := A.deeper (envOfC qual scope s.heap.objs.size f cd)
  N := N
  s₀ := s
  H₀ := H
  env := envOfC qual scope s.heap.objs.size f cd
  outer := outer
  stack := envOfC qual scope s.heap.objs.size f cd :: outer
  ex := []
  calm := true
  fn := fun _ => true
  pn := []
  xe := fun e s' => wpAny (model P w) (A.deeper (envOfC qual scope s.heap.objs.size f cd)) (leaving (envOfC qual scope s.heap.objs.size f cd) e) (fun _ s'' => CX outer H s E e s'') (fun e' s'' => CX outer H s E e' s'') s'
theorem cell_has {sc : Scope} {n : Nat} {x : Str} (h : sc.names.lookup x = some .cell) : ∃ c, (cellsFrom n sc.names []).lookup x = some c := by
  have q := PySem.W.cellsFrom_some sc.names n [] (.inl h)
  exact Option.isSome_iff_exists.mp q
theorem inv_start {CX : CXT} {P : Program} {w : World} {K : PySem.W.Frag} {mg : Str → Option Value} {base : Heap} {N ps : List Str} {qual : Str} {scope : Scope} {f : Addr} {cd : Value} {A : Around} {outer : List Env} {s s1 : Shared} {H : Hp} {E : XK} {us : List Value} {vs : List V}
    (S : FnScope N ps scope) (hd : A.handled = none) (e0 : Env0 P w K mg base A outer s H) (hl : vs.length = ps.length) (r : Vals vs us)
    (x : InCallC s s.heap.objs.size (bindL (envOfC qual scope s.heap.objs.size f cd).kindOf (ps.zip us) fun _ => none) (cellsFrom (s.heap.objs.size + 1) scope.names []) (bindC (envOfC qual scope s.heap.objs.size f cd).kindOf (ps.zip us) fun _ => none) s1) :
    Inv (cxOf CX P w K mg base N qual scope f cd A outer s H E) [] (start N vs) H s1 := by
  have hpl : ps.length ≤ N.length := by have := congrArg List.length S.pre; rw [List.length_take] at this; omega
  obtain ⟨h1, tk, rfl, hk⟩ := x.done
  have noA : ∀ b : Addr, b ∉ (cxOf CX P w K mg base N qual scope f cd A outer s H E).ex := fun b z => absurd (show b ∈ ([] : List Addr) from z) (by simp)
  refine ⟨⟨e0.mod, S.kind, rfl, rfl, Nat.le_refl _, fun y z c h1 h2 => ?_, fun y hy => ?_, fun y c _ h => ?_, fun _ => hd, Around.frames_deeper e0.frames, .inr ⟨rfl, rfl⟩, fun b z => absurd z (noA b), e0.bs, e0.bsz, fun b _ _ => noA b, fun b z => absurd z (noA b), e0.funs, e0.frf⟩,
    rfl, e0.bare, Un.kept hk, ⟨_, x.toInCall.ns, fun i y v h1 h2 h3 => ?_⟩, fun y c h => ⟨_, x.cell y c h⟩, e0.hok.fresh (Nat.le_refl _), fun y c h => ?_, fun p hp => absurd (show p ∈ ([] : List (Addr × Obj)) from hp) (by simp), e0.hok.kept hk, ?_⟩
  · exact name_of_addr x.apart (PySem.mem_of_lookup h1) (PySem.mem_of_lookup h2)
  · have hy : scope.names.lookup y = some .cell ∨ scope.names.lookup y = some .free := hy
    rcases hy with hy | hy
    · exact cell_has hy
    · exact absurd rfl (S.nofree _ (PySem.mem_of_lookup hy))
  · exact Nat.le_of_lt (x.above y c (PySem.mem_of_lookup h))
  · have hi : i < vs.length := by
      unfold start at h2
      by_cases hi : i < vs.length
      · exact hi
      · rw [List.getElem?_append_right (by simpa using hi)] at h2
        rw [List.getElem?_replicate] at h2
        split at h2 <;> cases h2
    have ha : vs[i]? = some v := by
      unfold start at h2
      rw [List.getElem?_append_left (by simpa using hi), List.getElem?_map] at h2
      cases e : vs[i]? with
      | none => rw [e] at h2; cases h2
      | some a => rw [e] at h2; cases h2; rfl
    obtain ⟨u, hu, rv⟩ := r.get ha
    have hp : ps[i]? = some y := by
      rw [← S.pre, List.getElem?_take_of_lt (by omega)]; exact h1
    have ndP : ps.Nodup := by rw [← S.pre]; exact S.nd.sublist (List.take_sublist _ _)
    refine ⟨u, rv, ?_⟩
    rcases S.par y (List.mem_of_getElem? hp) with k | k
    · exact .inl ⟨k, bindL_get ndP hp hu k⟩
    · obtain ⟨c, e⟩ := cell_has (n := s.heap.objs.size + 1) k
      refine .inr ⟨.inl k, c, e, ?_⟩
      have q := x.cell y c e
      rw [bindC_get ndP hp hu (by show scope.names.lookup y ≠ _; rw [k]; decide)] at q
      exact q
  · exact e0.hok.fresh (Nat.le_of_lt (x.above y c (PySem.mem_of_lookup h)))
  · unfold start
    show _ = N.length
    rw [List.length_append, List.length_map, List.length_replicate]
    omega
theorem fn_of {CX : CXT} {P : Program} {w : World} {K : PySem.W.Frag} {mg : Str → Option Value} {base : Heap} {k : Nat} {f : Addr} {name qual : Str} {params : Arguments} {body : List Stmt} {scope : Scope} {dV kV doc pm cdv ct oc : Value} {an od : Option Addr}
    {osl : Array (Option Value)} {N ps : List Str} {sp : Sp} (lk : K.lookup f = some ⟨oc, od, .func (PySem.W.fnOf name qual params body scope dV kV doc pm an cdv ct), osl⟩) (hcd : PySem.W.codeIn K cdv qual = true) (S : FnScope N ps scope)
    (len : ∀ vs H Q E, sp vs H Q E → vs.length = ps.length)
    (hbody : ∀ (A : Around) (outer : List Env) (s : Shared) (H : Hp) (vs : List V) (Q : VK) (E : XK), Room k (A.deeper (envOfC qual scope s.heap.objs.size f cdv)) → sp vs H Q E →
      ∃ t, PSs (cxOf CX P w K mg base N qual scope f cdv A outer s H E) body t ∧ t { nx := fun _ H' => Q .non H', rt := Q } (start N vs) H) :
    FnOk P w K mg base CX (k + 1) f (PySem.W.fnOf name qual params body scope dV kV doc pm an cdv ct) ps sp := by
  refine ⟨len, fun A outer s H args us vs Q E hr e0 hb r hsp => ?_⟩
  have hl := len _ _ _ _ hsp
  have KX : K.In s.heap := e0.mod.kin.keeps fun b o e => (e0.bs b o e).1
  have lim : s.heap.NoLimit := e0.mod.nolimit.keeps fun b o e => (e0.bs b o e).1
  have hkind : ∀ y ∈ ps.zip us, scope.names.lookup y.1 = some .local ∨ (scope.names.lookup y.1 = some .cell ∧ ((cellsFrom (s.heap.objs.size + 1) scope.names []).lookup y.1).isSome = true) := fun ⟨n, v⟩ hy => by
    rcases S.par n (List.of_mem_zip hy).1 with q | q
    · exact .inl q
    · exact .inr ⟨q, PySem.W.cellsFrom_some _ _ _ (.inl q)⟩
  refine codeAny_call_function hr.depth (KX _ _ lk) rfl S.co S.gen rfl (PySem.W.codeRec_of KX hcd) (hb _ _ _ _ ?_)
  refine wpAny_newFunctionEnv_cells S.kind hkind fun env he s1 x => ?_
  subst he
  refine ⟨lim.keeps x.toInCall.keep, codeAny_func ?_⟩
  obtain ⟨t, ht, hq⟩ := hbody A outer s H vs Q E (hr.deeper _) hsp
  have I : Inv (cxOf CX P w K mg base N qual scope f cdv A outer s H E) [] (start N vs) H s1 := inv_start S hr.hd e0 hl r x
  refine wpAny_mono (ht [] s1 (start N vs) H _ I hq) (fun fl s' hs => ?_) fun e s' hs => hs
  have fin : ∀ {σ' : St} {H' : Hp} {v : V} {u : Value}, Inv (cxOf CX P w K mg base N qual scope f cdv A outer s H E) [] σ' H' s' → RelV v u → Q v H' → CE outer P w H s Q u s' :=
    fun {σ' H' v u} J rv q => ⟨v, H', J.os, J.bare, J.base, J.hok, rv, q⟩
  cases fl with
  | ret u =>
    obtain ⟨v, σ', H', J, rv, q⟩ := hs
    exact fin J rv q
  | next =>
    obtain ⟨σ', H', J, q⟩ := hs
    exact fin (v := V.non) (u := Value.none) J rfl q
  | brk =>
    obtain ⟨_, _, _, q⟩ := hs
    exact False.elim q
  | cont =>
    obtain ⟨_, _, _, q⟩ := hs
    exact False.elim q
end L2
namespace L2
open PySem PySem.Spec PyProof.Rows
section
variable {X : Cx} {x : Str} {p pos : Pos} {e : Expr} {es : List Expr} {t : TA} {id T : String} {r : List V → Hp → VK → Prop}
noncomputable def tCB (r : List V → Hp → VK → Prop) (t : TA) : TE := fun σ H Q => t σ H fun vs H1 => r vs H1 Q
theorem pe_callB (hc : CallR X (.builtin id) r) (hg : Gl X x) (hm : X.mg x = none) (hv : bootBuiltins x = some (.builtin id)) (ha : PA X (e :: es) t) (hn : autoParam (x ≠ "__name__") zau1._auto_1) (hdb : autoParam ((x == ("__debug__" : Str)) = false) zau1._auto_1)
    (he : autoParam (starEach (e :: es) X.env = (false, eval e X.env) :: starEach es X.env) zau2._auto_1) (hpl : autoParam ((backTo pos (starEach es X.env)).any (·.1) = false) zau2._auto_1) : PE X (.Call (.Name x p) (e :: es) [] pos) (tCB r t) := by
  intro pins s σ H Q I h
  refine wpAny_Call_Name_kw (ld_blt I hg hm hv ?_ hn hdb)
  exact PyProof.Rows.callWith_builtin1 (thn (ha pos pins s σ H _ I h) fun us s1 ⟨vs, H1, I1, r1, q1⟩ => hc pins s1 σ H1 vs us Q I1 r1 q1) he hpl
end
end L2
namespace HT
open PySem PyProof.Rows
section
open PySem.SeqAt
open PySem.AutoSeq1 (wpAny_loadPart')
open PySem.MeetsSeq PySem.MeetsSeq2 PySem.MeetsSeq3
end
section
variable {prog : Program} {w : World} {A : Around} {E : Value → Shared → Prop} {s : Shared}
theorem cat_tup {t b : Addr} {vs ws : List Value} {Q : Value → Shared → Prop} (ht : IsTup s.heap t vs.toArray) (hb : IsTup s.heap b ws.toArray) (hv : vs ≠ [])
    (h1 : ws = [] → Q (.ref t) s) (h2 : ws ≠ [] → Q (.ref s.heap.objs.size) { s with heap := s.heap.push { cls := .type "tuple", data := .seq (vs ++ ws).toArray } })
    (hsz : vs.length + ws.length ≤ sizeLine) : wpAny (model prog w) A (binaryOp .Add (.ref t) (.ref b)) Q E s := by
  obtain ⟨⟨cls, dd, data, sl⟩, ho, hc, n, hd⟩ := id ht
  obtain ⟨⟨cls2, dd2, data2, sl2⟩, ho2, hc2, n2, hd2⟩ := id hb
  simp only at hc hd hc2 hd2
  subst hc hd hc2 hd2
  have e : vs.toArray ++ ws.toArray = (vs ++ ws).toArray := by simp
  by_cases hw : ws = []
  · exact concat_meets ⟨_, ho, rfl⟩ ⟨_, ho2, rfl⟩ noFill_tuple_add seq_tuple_add PySem.F.slot_tuple_add PySem.F.entry_tuple_add (PySem.F.args_tuple_add_2 _ _)
      (tuple_addW1 t b vs.toArray ws.toArray n n2 dd dd2 sl sl2 (by simpa using hv) (by simp [hw])) ⟨ho, ho2, h1 hw⟩
  · refine concat_meets ⟨_, ho, rfl⟩ ⟨_, ho2, rfl⟩ noFill_tuple_add seq_tuple_add PySem.F.slot_tuple_add PySem.F.entry_tuple_add (PySem.F.args_tuple_add_2 _ _)
      (tuple_addW2 t b vs.toArray ws.toArray n n2 dd dd2 sl sl2 (by simpa using hv) (by simpa using hw) (by rw [List.size_toArray, List.size_toArray]; exact hsz)) ⟨ho, ho2, ?_⟩
    rw [e]
    exact h2 hw
noncomputable def sIx (n d : Nat) : Option Int → Nat
  | none => d
  | some v => if v < 0 then (v + (n : Int)).toNat else min v.toNat n
theorem sIx_le (n d : Nat) (hd : d ≤ n) (o : Option Int) : sIx n d o ≤ n := by
  cases o with
  | none => exact hd
  | some v =>
    show (if v < 0 then (v + (n : Int)).toNat else min v.toNat n) ≤ n
    by_cases hv : v < 0
    · rw [if_pos hv]; omega
    · rw [if_neg hv]; exact Nat.min_le_right _ _
theorem clip_eq (v : Int) (n d : Nat) : (if v < 0 then max (v + (n : Int)) 0 else min v (n : Int)) = ((sIx n d (some v) : Nat) : Int) := by
  show (if v < 0 then max (v + (n : Int)) 0 else min v (n : Int)) = (((if v < 0 then (v + (n : Int)).toNat else min v.toNat n) : Nat) : Int)
  by_cases hv : v < 0
  · simp only [if_pos hv]; omega
  · simp only [if_neg hv]; omega
theorem adjust_gen (lo hi : Option Int) (n : Nat) : Builtin.Slice.sliceAdjust lo hi 1 (n : Int) = (((sIx n 0 lo : Nat) : Int), ((sIx n n hi : Nat) : Int)) := by
  have h1 : ¬ ((1 : Int) < 0) := by omega
  unfold Builtin.Slice.sliceAdjust
  simp only [h1, if_false]
  refine Prod.ext ?_ ?_
  · cases lo with
    | none => rfl
    | some v => exact clip_eq v n 0
  · cases hi with
    | none => rfl
    | some v => exact clip_eq v n n
theorem places_gen (i j : Nat) : Builtin.Slice.slicePlaces (i : Int) (j : Int) 1 = j - i := by
  unfold Builtin.Slice.slicePlaces
  have h1 : (1 : Int) > 0 := by omega
  simp only [h1, if_true, Int.ediv_one]
  split <;> omega
theorem slicePart_ {v : Value} {o : Option Int} {Q : Option Int → Shared → Prop} (p : IsPart v o) (h : Q o s) : wpAny (model prog w) A (Builtin.Slice.slicePartIndex v) Q E s := by
  cases p with
  | none => exact slicePart_none h
  | int i t => exact slicePart_int h
theorem sliceApplied_gen {sl : Addr} {vl vu : Value} {lo hi : Option Int} {n : Nat} {Q : Int × Int × Nat → Shared → Prop} (hs : s.heap.IsSliceOf sl vl vu .none) (pl : IsPart vl lo) (pu : IsPart vu hi)
    (h : Q (((sIx n 0 lo : Nat) : Int), 1, sIx n n hi - sIx n 0 lo) s) : wpAny (model prog w) A (Builtin.Slice.sliceApplied (.ref sl) (pure (n : Int))) Q E s := by
  obtain ⟨os, hos, hcs, hds⟩ := id hs
  unfold Builtin.Slice.sliceApplied Builtin.Slice.sliceFields
  refine wpAny_bind (wpAny_bind (wpAny_field hos hds (x := vl) rfl (wpAny_bind (wpAny_field hos hds (x := vu) rfl (wpAny_bind (wpAny_field hos hds (x := .none) rfl (wpAny_pure ?_)))))))
  refine wpAny_bind (slicePart_none ?_)
  show wpAny _ _ (if ((1 : Int) == 0) = true then _ else _) _ _ s
  rw [if_neg (by decide)]
  refine wpAny_bind (slicePart_ pl (wpAny_bind (slicePart_ pu (wpAny_bind (wpAny_pure ?_)))))
  show wpAny _ _ (match Builtin.Slice.sliceAdjust lo hi 1 (n : Int) with | (lo, hi) => pure (lo, (1 : Int), Builtin.Slice.slicePlaces lo hi 1)) _ _ s
  rw [adjust_gen lo hi n]
  show wpAny _ _ (pure (((sIx n 0 lo : Nat) : Int), (1 : Int), Builtin.Slice.slicePlaces ((sIx n 0 lo : Nat) : Int) ((sIx n n hi : Nat) : Int) 1)) _ _ s
  rw [places_gen]
  exact wpAny_pure h
theorem pick_gen (xs : Array Value) (i k : Nat) : ((List.range k).filterMap fun (m : Nat) => xs[((i : Int) + (m : Int) * 1).toNat]?).toArray = ((xs.toList.drop i).take k).toArray := by
  have e : (fun (m : Nat) => xs[((i : Int) + (m : Int) * 1).toNat]?) = fun m => xs[i + m]? := by
    funext m
    have : ((i : Int) + (m : Int) * 1).toNat = i + m := by omega
    rw [this]
  rw [e]
  have := pick_run xs i k
  rw [List.filterMap_map] at this
  have e2 : ((fun x => xs[x]?) ∘ fun x => i + x) = fun m => xs[i + m]? := rfl
  rw [e2] at this
  rw [this]
theorem getItem_tuple_cut {t sl : Addr} {items : Array Value} {vl vu : Value} {lo hi : Option Int} {Q : Value → Shared → Prop} (ht : IsTup s.heap t items) (hs : s.heap.IsSliceOf sl vl vu .none) (pl : IsPart vl lo) (pu : IsPart vu hi)
    (hw : ¬ (sIx items.size 0 lo = 0 ∧ sIx items.size items.size hi = items.size))
    (h : Q (.ref s.heap.objs.size) { s with heap := s.heap.push { cls := .type "tuple", data := .seq ((items.toList.drop (sIx items.size 0 lo)).take (sIx items.size items.size hi - sIx items.size 0 lo)).toArray } })
    (hsz : items.size ≤ sizeLine) : wpAny (model prog w) A (getItem (.ref t) (.ref sl)) Q E s := by
  have htake : sizeOk (.seq ((items.toList.drop (sIx items.size 0 lo)).take (sIx items.size items.size hi - sIx items.size 0 lo)).toArray) := by
    show ((items.toList.drop (sIx items.size 0 lo)).take (sIx items.size items.size hi - sIx items.size 0 lo)).toArray.size ≤ sizeLine
    rw [List.size_toArray, List.length_take, List.length_drop, Array.length_toList]
    omega
  have hj : sIx items.size items.size hi ≤ items.size := sIx_le _ _ (Nat.le_refl _) hi
  obtain ⟨os, hos, hcs, hds⟩ := id hs
  have hTs : s.TypeIs (.ref sl) "slice" := ⟨os, hos, hcs⟩
  unfold getItem
  try with_reducible refine wpAny_holding ?_
  first | refine wpAny_bind (wpAny_pure ?_) | skip
  refine wpAny_bind (wpAny_sequenceKey ht.typeIs (by decide) ?_)
  refine wpAny_bind (wpAny_callSpecial?_slot (name := Str.ofString "__getitem__") ht.typeIs PyProof.Rows.slot_tuple_getitem
    (wpAny_call_entry PyProof.Rows.slot_tuple_getitem ht.typeIs entry_tuple_getitem ?_ (args_tuple_getitem _ _)))
  show wpAny _ _ (Builtin.Tuple.tupleItemsOf (.ref t) >>= _) _ _ s
  refine wpAny_bind (tupleItemsOf_ ht ?_)
  refine wpAny_bind (wpAny_typeOf hTs ?_)
  rw [if_pos (by decide)]
  refine wpAny_bind (sliceApplied_gen hs pl pu ?_)
  have hno : ¬ ((((sIx items.size 0 lo : Nat) : Int) == 0 && (1 : Int) == 1 && (sIx items.size items.size hi - sIx items.size 0 lo) == items.size) = true) := by
    intro q
    rw [Bool.and_eq_true, Bool.and_eq_true] at q
    have q1 : ((sIx items.size 0 lo : Nat) : Int) = 0 := eq_of_beq q.1.1
    have q2 : sIx items.size items.size hi - sIx items.size 0 lo = items.size := eq_of_beq q.2
    exact hw ⟨by omega, by omega⟩
  show wpAny _ _ (if (((sIx items.size 0 lo : Nat) : Int) == 0 && (1 : Int) == 1 && (sIx items.size items.size hi - sIx items.size 0 lo) == items.size) = true then _ else _) _ _ s
  rw [if_neg hno, pick_gen]
  first
    | exact wpAny_bind (m := Builtin.Tuple.tupleExact _) (wpAny_newObj_type (wpAny_pure ⟨_, rfl, wpAny_pure h⟩) htake)
    | exact wpAny_bind (m := Builtin.Tuple.tupleExact _) (wpAny_newObj_type (wpAny_bind (wpAny_pure (wpAny_pure ⟨_, rfl, wpAny_pure h⟩))) htake)
    | exact wpAny_bind (wpAny_bind (m := Builtin.Tuple.tupleExact _) (wpAny_newObj_type (wpAny_pure (wpAny_pure ⟨_, rfl, wpAny_pure h⟩)) htake))
    | exact wpAny_bind (wpAny_bind (m := Builtin.Tuple.tupleExact _) (wpAny_newObj_type (wpAny_pure ⟨_, rfl, wpAny_pure h⟩) htake))
end
end HT
namespace L2
open PySem PySem.Spec PyProof.Rows
noncomputable abbrev TO := St → Hp → (Option Int → Hp → Prop) → Prop
noncomputable def PO (X : Cx) (e : Option Expr) (t : TO) : Prop :=
  ∀ (pins : List (Addr × Obj)) (s : Shared) (σ : St) (H : Hp) (Q : Option Int → Hp → Prop), Inv X pins σ H s → t σ H Q →
    wpAny (model X.prog X.w) X.A (evalPart e X.env) (fun u s' => ∃ o H', Inv X pins σ H' s' ∧ IsPart u o ∧ Q o H') X.xe s
noncomputable def tNoPart : TO := fun _ H Q => Q none H
noncomputable def tPart (t : TE) : TO := fun σ H Q => t σ H fun x H1 => ∃ i, x = .int i ∧ Q (some i) H1
section
variable {X : Cx} {e : Expr} {te : TE} {lo hi : Option Expr} {tl th : TO} {pos p2 : Pos}
theorem po_none : PO X none tNoPart := by
  intro pins s σ H Q I h
  rw [evalPart_none]
  exact wpAny_pure ⟨none, H, I, .none, h⟩
theorem po_some (h : PE X e te) : PO X (some e) (tPart te) := by
  intro pins s σ H Q I hw
  rw [evalPart_some]
  refine thn (h pins s σ H _ I hw) fun u s1 hzz => ?_
  obtain ⟨x, H1, I1, r1, q1⟩ := hzz
  obtain ⟨i, rfl, q⟩ := q1
  obtain ⟨t, rfl⟩ := r1
  exact ⟨some i, H1, I1, .int i t, q⟩
noncomputable def SlR (X : Cx) (r : V → Option Int → Option Int → Hp → VK → Prop) : Prop :=
  ∀ (pins : List (Addr × Obj)) (s : Shared) (σ : St) (H : Hp) (x : V) (v vl vu : Value) (lo hi : Option Int) (sl : Addr) (Q : VK), Inv X pins σ H s → RelV x v → s.heap.IsSliceOf sl vl vu .none → IsPart vl lo → IsPart vu hi → r x lo hi H Q →
    ∃ T id, typeLookup (.type T) "__getitem__" = pure (some (.builtin id)) ∧ s.TypeIs v T ∧ wpAny (model X.prog X.w) X.A (getItem v (.ref sl)) (EP X pins σ Q) X.xe s
theorem SlR.or {r r' : V → Option Int → Option Int → Hp → VK → Prop} (h : SlR X r) (h' : SlR X r') : SlR X (fun x lo hi H Q => r x lo hi H Q ∨ r' x lo hi H Q) := by
  intro pins s σ H x v vl vu lo hi sl Q I rx hs pl pu q
  rcases q with q | q
  · exact h pins s σ H x v vl vu lo hi sl Q I rx hs pl pu q
  · exact h' pins s σ H x v vl vu lo hi sl Q I rx hs pl pu q
noncomputable def tSl (r : V → Option Int → Option Int → Hp → VK → Prop) (te : TE) (tl th : TO) : TE := fun σ H Q => te σ H fun x H1 => tl σ H1 fun l H2 => th σ H2 fun u H3 => r x l u H3 Q
theorem pe_slice {r : V → Option Int → Option Int → Hp → VK → Prop} (hr : SlR X r) (he : PE X e te) (hl : PO X lo tl) (hu : PO X hi th) : PE X (.Subscript e (.Slice lo hi none p2) pos) (tSl r te tl th) := by
  intro pins s σ H Q I h
  refine Subscript_ (thn (he pins s σ H _ I h) fun v s1 hzz => ?_)
  obtain ⟨x, H1, I1, r1, q1⟩ := hzz
  refine wpAny_Slice (thn (hl pins s1 σ H1 _ I1 q1) fun vl s2 ⟨l, H2, I2, pl, q2⟩ => thn (hu pins s2 σ H2 _ I2 q2) fun vu s3 hzz => ?_)
  obtain ⟨u, H3, I3, pu, q3⟩ := hzz
  rw [evalPart_none]
  refine wpAny_pure ?_
  have I4 : Inv X pins σ H3 { s3 with heap := s3.heap.push { cls := .type "slice", data := .fields #[vl, vu, .none] } } := I3.kept (t' := s3.toks) fun b ob q => Heap.get?_push_of_some _ q
  obtain ⟨T, id, hT, ht, hg⟩ := hr pins { s3 with heap := s3.heap.push { cls := .type "slice", data := .fields #[vl, vu, .none] } } σ H3 x v vl vu l u s3.heap.objs.size Q I4 r1 (Heap.IsSliceOf.new ..) pl pu q3
  show wpAny (model X.prog X.w) X.A (subscriptTail e (.Slice lo hi none p2) v (.ref s3.heap.objs.size)) (EP X pins σ Q) X.xe { s3 with heap := s3.heap.push { cls := .type "slice", data := .fields #[vl, vu, .none] } }
  exact tail_any (ops := [.ref s3.heap.objs.size, v]) ht hT hg (by with_unfolding_all rfl)
noncomputable def cutV (xs : List V) (lo hi : Option Int) : List V := (xs.drop (HT.sIx xs.length 0 lo)).take (HT.sIx xs.length xs.length hi - HT.sIx xs.length 0 lo)
theorem cutV_length (xs : List V) (lo hi : Option Int) : (cutV xs lo hi).length ≤ xs.length := by
  unfold cutV
  rw [List.length_take, List.length_drop]
  omega
noncomputable def rSlT (K : PySem.W.Frag) : V → Option Int → Option Int → Hp → VK → Prop := fun x lo hi H Q => ∃ a xs, x = .ref a ∧ SqT K H a xs ∧
  ¬ (HT.sIx xs.length 0 lo = 0 ∧ HT.sIx xs.length xs.length hi = xs.length) ∧ ∀ p, H p = none → Q (.ref p) (upd H p (.tup (cutV xs lo hi)))
theorem sl_tup : SlR X (rSlT X.K) := by
  intro pins s σ H x v vl vu lo hi sl Q I rx hs pl pu h
  obtain ⟨a, xs, rfl, hx, hw, q⟩ := h
  cases rx
  obtain ⟨its, r, ht, hz⟩ := I.tuple hx
  have hlen : its.toArray.size = xs.length := by rw [List.size_toArray]; exact r.length.symm
  refine ⟨"tuple", _, PyProof.Rows.slot_tuple_getitem.lookup, ht.typeIs, ?_⟩
  refine HT.getItem_tuple_cut ht hs pl pu (by rw [hlen]; exact hw) ?_ (by rw [hlen]; exact hz)
  rw [hlen]
  refine ⟨.ref s.heap.objs.size, _, I.laid (t' := s.toks) (o := .tup (cutV xs lo hi)) (fun b ob q => Heap.get?_push_of_some _ q) (Nat.le_refl _) ?_, rfl, q _ (I.hok.fresh (Nat.le_refl _))⟩
  exact ⟨Nat.le_trans (cutV_length xs lo hi) hz, _, (r.drop (HT.sIx xs.length 0 lo)).take (HT.sIx xs.length xs.length hi - HT.sIx xs.length 0 lo), IsTup.new _ _⟩
noncomputable def rCatT (K : PySem.W.Frag) : R2 := fun x y H Q => ∃ a b xs ys, x = .ref a ∧ y = .ref b ∧ SqT K H a xs ∧ SqT K H b ys ∧ xs ≠ [] ∧ xs.length + ys.length ≤ sizeLine ∧
  (ys = [] → Q (.ref a) H) ∧ (ys ≠ [] → ∀ p, H p = none → Q (.ref p) (upd H p (.tup (xs ++ ys))))
theorem Vals.nil_iff {xs : List V} {us : List Value} (r : Vals xs us) : us = [] ↔ xs = [] := by
  cases r with
  | nil => simp
  | cons _ _ => simp
theorem op_catT : OpR X (binaryOp .Add) (rCatT X.K) := by
  intro pins s σ H x y v u Q I rx ry h
  obtain ⟨a, b, xs, ys, rfl, rfl, ha, hb, hx, hz, q1, q2⟩ := h
  cases rx
  cases ry
  obtain ⟨its, r1, p1, _⟩ := I.tuple ha
  obtain ⟨its2, r2, p2, _⟩ := I.tuple hb
  refine HT.cat_tup p1 p2 (fun z => hx (r1.nil_iff.mp z)) (fun z => ⟨.ref a, H, I, rfl, q1 (r2.nil_iff.mp z)⟩) (fun z => ?_) (by rw [← r1.length, ← r2.length]; exact hz)
  refine ⟨.ref s.heap.objs.size, _, I.laid (t' := s.toks) (o := .tup (xs ++ ys)) (fun b ob q => Heap.get?_push_of_some _ q) (Nat.le_refl _) ?_, rfl, q2 (fun w => z (r2.nil_iff.mpr w)) _ (I.hok.fresh (Nat.le_refl _))⟩
  exact ⟨by rw [List.length_append]; exact hz, _, r1.append r2, IsTup.new _ _⟩
end
end L2
namespace L2
open PySem PySem.Spec PyProof.Rows
noncomputable def ixN (n : Nat) (i : Int) : Option Nat := if 0 ≤ i then (if i < n then some i.toNat else none) else if -(n : Int) ≤ i then some (i + n).toNat else none
noncomputable def atI {α : Type} (xs : List α) (i : Int) : Option α := (ixN xs.length i).bind fun j => xs[j]?
theorem ixN_seq {n : Nat} {i : Int} {j : Nat} (h : ixN n i = some j) : seqIndex? i n = some j ∧ j < n ∧ -(n : Int) ≤ i ∧ i < n := by
  unfold ixN at h
  by_cases h0 : 0 ≤ i
  · rw [if_pos h0] at h
    by_cases h1 : i < n
    · rw [if_pos h1] at h
      have e : i.toNat = j := Option.some.inj h
      exact ⟨by rw [seqIndex_of h0 h1, e], by omega, by omega, h1⟩
    · rw [if_neg h1] at h; cases h
  · rw [if_neg h0] at h
    by_cases h1 : -(n : Int) ≤ i
    · rw [if_pos h1] at h
      have e : (i + n).toNat = j := Option.some.inj h
      exact ⟨by rw [seqIndex_neg (by omega) h1, e], by omega, h1, by omega⟩
    · rw [if_neg h1] at h; cases h
theorem atI_get {α : Type} {xs : List α} {i : Int} {v : α} (h : atI xs i = some v) : ∃ j, seqIndex? i xs.length = some j ∧ xs[j]? = some v ∧ j < xs.length ∧ -(xs.length : Int) ≤ i ∧ i < xs.length := by
  unfold atI at h
  cases e : ixN xs.length i with
  | none => rw [e] at h; cases h
  | some j =>
    rw [e] at h
    obtain ⟨h1, h2, h3, h4⟩ := ixN_seq e
    exact ⟨j, h1, h, h2, h3, h4⟩
noncomputable def PlainIx (b : Expr) : Prop := ∀ o i, subscripted b false o i = operate [o, i] (getItem o i)
noncomputable def IxR (X : Cx) (r : R2) : Prop :=
  ∀ (value slice : Expr) (pins : List (Addr × Obj)) (s : Shared) (σ : St) (H : Hp) (x y : V) (v u : Value) (Q : VK), Inv X pins σ H s → RelV x v → RelV y u → r x y H Q →
    subscripted slice false v u = operate [v, u] (getItem v u) → wpAny (model X.prog X.w) X.A (subscriptTail value slice v u) (EP X pins σ Q) X.xe s
section
variable {X : Cx} {a b : Expr} {ta tb : TE} {pos : Pos}
theorem IxR.or {r r' : R2} (h : IxR X r) (h' : IxR X r') : IxR X (fun x y H Q => r x y H Q ∨ r' x y H Q) := by
  intro value slice pins s σ H x y v u Q I rx ry q hs
  rcases q with q | q
  · exact h value slice pins s σ H x y v u Q I rx ry q hs
  · exact h' value slice pins s σ H x y v u Q I rx ry q hs
theorem pe_ix {r : R2} (hr : IxR X r) (ha : PE X a ta) (hb : PE X b tb) (hs : PlainIx b) : PE X (.Subscript a b pos) (tOp r ta tb) := by
  intro pins s σ H Q I h
  exact Subscript_ (binT ha hb I h fun v u s2 x y H2 I2 rx ry q => hr a b pins s2 σ H2 x y v u Q I2 rx ry q (hs _ _))
noncomputable def rIxL (K : PySem.W.Frag) : R2 := fun x y H Q => ∃ p xs i v, x = .ref p ∧ y = .int i ∧ SqL K H p xs ∧ atI xs i = some v ∧ Q v H
noncomputable def rIxT (K : PySem.W.Frag) : R2 := fun x y H Q => ∃ p xs i v, x = .ref p ∧ y = .int i ∧ SqT K H p xs ∧ atI xs i = some v ∧ Q v H
noncomputable def rIxS : R2 := fun x y H Q => ∃ z i c, x = .str z ∧ y = .int i ∧ z.length ≤ sizeLine ∧ atI z.cps.toList i = some c ∧ Q (.str ⟨#[c]⟩) H
theorem ix_list : IxR X (rIxL X.K) := by
  intro value slice pins s σ H x y v u Q I rx ry h hs
  obtain ⟨p, xs, i, z, rfl, rfl, hq, he, q⟩ := h
  cases rx
  obtain ⟨t, rfl⟩ := ry
  obtain ⟨its, r, pl, hz⟩ := I.list hq
  obtain ⟨j, h1, h2, h3, h4, h5⟩ := atI_get he
  obtain ⟨w, ew, rw'⟩ := r.get h2
  have hl := r.length
  have hn := line63
  have fin : EP X pins σ Q w s := ⟨z, H, I, rw', q⟩
  by_cases h0 : 0 ≤ i
  · have hj : i.toNat = j := by
      rw [seqIndex_of h0 h5] at h1
      exact Option.some.inj h1
    exact item_listR pl.isList h0 (by omega) (by rw [hj]; simpa using ew) fin hs
  · have hj : (i + (its.toArray.size : Int)).toNat = j := by
      rw [seqIndex_neg (by omega) h4] at h1
      rw [List.size_toArray, ← hl]
      exact Option.some.inj h1
    exact subscriptTail_builtinR (x := w) pl.isList.typeIs slot_list_getitem.lookup
      (wpAny_getItem_list_neg (Q := fun r s' => r = w ∧ EP X pins σ Q r s') pl.isList (by omega) (by rw [List.size_toArray] <;> omega) (by omega) (by rw [hj]; simpa using ew) ⟨rfl, fin⟩) hs
theorem ix_tup : IxR X (rIxT X.K) := by
  intro value slice pins s σ H x y v u Q I rx ry h hs
  obtain ⟨p, xs, i, z, rfl, rfl, hq, he, q⟩ := h
  cases rx
  obtain ⟨t, rfl⟩ := ry
  obtain ⟨its, r, pl, hz⟩ := I.tuple hq
  obtain ⟨j, h1, h2, h3, h4, h5⟩ := atI_get he
  obtain ⟨w, ew, rw'⟩ := r.get h2
  have hl := r.length
  have hn := line63
  have fin : EP X pins σ Q w s := ⟨z, H, I, rw', q⟩
  exact subscriptTail_builtinR (x := w) pl.typeIs slot_tuple_getitem.lookup
    (getItem_tuple (j := j) (Q := fun r s' => r = w ∧ EP X pins σ Q r s') pl (by omega) (by omega) (by rw [List.size_toArray, ← hl]; exact h1) (by simpa using ew) ⟨rfl, fin⟩) hs
theorem ix_str : IxR X rIxS := by
  intro value slice pins s σ H x y v u Q I rx ry h hs
  obtain ⟨z, i, c, rfl, rfl, hz, he, q⟩ := h
  obtain ⟨t, rfl⟩ := rx
  obtain ⟨t', rfl⟩ := ry
  obtain ⟨j, h1, h2, h3, h4, h5⟩ := atI_get he
  have hl : z.cps.toList.length = z.length := by simp [Str.length]
  rw [hl] at h1 h4 h5
  have hn := line63
  exact tail_any (typeIs_str s z t) slot_str_getitem.lookup (getItem_str (c := c) (by
    have e1 : decide (i < -(2 ^ 63 : Int)) = false := decide_eq_false (by omega)
    have e2 : decide (i ≥ 2 ^ 63) = false := decide_eq_false (by omega)
    rw [e1, e2, Bool.or_false]) (by rw [h1]; simpa using h2) ⟨.str ⟨#[c]⟩, H, I.tok _, ⟨_, rfl⟩, q⟩) hs
noncomputable def rIx (K : PySem.W.Frag) : R2 := fun x y H Q => rIxL K x y H Q ∨ rIxT K x y H Q ∨ rIxS x y H Q
theorem ix_seq : IxR X (rIx X.K) := ix_list.or (ix_tup.or ix_str)
theorem slice_bounds (lo hi : Option Int) (n : Nat) : (sliceBounds lo hi none n).1 = ((HT.sIx n 0 lo : Nat) : Int) ∧ (sliceBounds lo hi none n).2.1 = ((HT.sIx n n hi : Nat) : Int) ∧ (sliceBounds lo hi none n).2.2 = 1 := by
  refine ⟨?_, ?_, rfl⟩
  · cases lo with
    | none => simp [sliceBounds, HT.sIx]
    | some i =>
      simp only [sliceBounds, HT.sIx, Option.getD_none, show (1 : Int) > 0 by decide, if_true]
      by_cases h : i < 0
      · simp only [h, if_true] <;> omega
      · simp only [h, if_false] <;> omega
  · cases hi with
    | none => simp [sliceBounds, HT.sIx]
    | some i =>
      simp only [sliceBounds, HT.sIx, Option.getD_none, show (1 : Int) > 0 by decide, if_true]
      by_cases h : i < 0
      · simp only [h, if_true] <;> omega
      · simp only [h, if_false] <;> omega
theorem slicePick_cut (its : List Value) (lo hi : Option Int) : slicePick its.toArray lo hi none = ((its.drop (HT.sIx its.length 0 lo)).take (HT.sIx its.length its.length hi - HT.sIx its.length 0 lo)).toArray := by
  obtain ⟨h1, h2, h3⟩ := slice_bounds lo hi its.toArray.size
  unfold slicePick
  rw [h1, h2, h3]
  simp only [sliceRange_one, pick_run, List.size_toArray] <;> rfl
noncomputable def rSlL (K : PySem.W.Frag) : V → Option Int → Option Int → Hp → VK → Prop := fun x lo hi H Q => ∃ a xs, x = .ref a ∧ SqL K H a xs ∧ ∀ p, H p = none → Q (.ref p) (upd H p (.lst (cutV xs lo hi)))
theorem sl_list : SlR X (rSlL X.K) := by
  intro pins s σ H x v vl vu lo hi sl Q I rx hs pl pu h
  obtain ⟨a, xs, rfl, hx, q⟩ := h
  cases rx
  obtain ⟨its, r, ht, hz⟩ := I.list hx
  have hlen := r.length
  refine ⟨"list", _, slot_list_getitem.lookup, ht.isList.typeIs, ?_⟩
  refine wpAny_getItem_list_slice ht.isList hs pl pu .none (by simp) ?_ (by rw [List.size_toArray] <;> omega)
  rw [slicePick_cut, ← hlen]
  refine ⟨.ref s.heap.objs.size, _, I.laid (t' := s.toks) (o := .lst (cutV xs lo hi)) (fun b ob q => Heap.get?_push_of_some _ q) (Nat.le_refl _) ?_, rfl, q _ (I.hok.fresh (Nat.le_refl _))⟩
  exact ⟨Nat.le_trans (cutV_length xs lo hi) hz, _, 0, (r.drop (HT.sIx xs.length 0 lo)).take (HT.sIx xs.length xs.length hi - HT.sIx xs.length 0 lo), Heap.get?_push_size _ rfl⟩
theorem call_len_seq : CallR X (.builtin "len") (fun xs H Q => ∃ p ys, xs = [.ref p] ∧ (SqL X.K H p ys ∨ SqT X.K H p ys) ∧ Q (.int ys.length) H) := by
  intro pins s σ H xs us Q I r h
  obtain ⟨p, ys, rfl, hq, q⟩ := h
  obtain ⟨u, rfl, rx⟩ := vals1 r
  cases rx
  have hn := line63
  rcases hq with hq | hq
  · obtain ⟨its, r', pl, hz⟩ := I.list hq
    have hlen := r'.length
    exact Calls.call_len_list pl.isList (by simp only [List.size_toArray] <;> omega) ⟨.int ys.length, H, I.tok _, ⟨s.toks + 1, by rw [List.size_toArray, hlen]⟩, q⟩
  · obtain ⟨its, r', pl, hz⟩ := I.tuple hq
    have hlen := r'.length
    exact len_tuple pl (by simp only [List.size_toArray] <;> omega) ⟨.int ys.length, H, I.tok _, ⟨s.toks + 1, by rw [List.size_toArray, hlen]⟩, q⟩
theorem call_len_str : CallR X (.builtin "len") (fun xs H Q => ∃ z, xs = [.str z] ∧ z.length ≤ sizeLine ∧ Q (.int z.length) H) := by
  intro pins s σ H xs us Q I r h
  obtain ⟨z, rfl, hz, q⟩ := h
  obtain ⟨u, rfl, t, rfl⟩ := vals1 r
  have hn := line63
  exact len_str (by omega) ⟨.int z.length, H, I.tok _, ⟨_, rfl⟩, q⟩
theorem CallR.or {f : Value} {r r' : List V → Hp → VK → Prop} (h : CallR X f r) (h' : CallR X f r') : CallR X f (fun xs H Q => r xs H Q ∨ r' xs H Q) := by
  intro pins s σ H xs us Q I rs q
  rcases q with q | q
  · exact h pins s σ H xs us Q I rs q
  · exact h' pins s σ H xs us Q I rs q
variable {o e : Expr} {es : List Expr} {to : TE} {t : TA} {name : Str} {apos cpos : Pos} {T id : String} {r : V → List V → Hp → VK → Prop}
end
end L2
namespace L2
open PySem PySem.Spec PyProof.Rows
noncomputable def MtM (X : Cx) (id : String) (r : V → List V → Hp → VK → Prop) : Prop :=
  ∀ (pins : List (Addr × Obj)) (s : Shared) (σ : St) (H : Hp) (x : V) (xs : List V) (v : Value) (us : List Value) (Q : VK), Inv X pins σ H s → RelV x v → Vals xs us → r x xs H Q →
    wpAny (model X.prog X.w) X.A (call (.builtin id) (v :: us)) (EP X pins σ Q) X.xe s
theorem Vals.one : ∀ {x : V} {us : List Value}, Vals [x] us → ∃ u, us = [u] ∧ RelV x u
  | _, _, .cons r .nil => ⟨_, rfl, r⟩
theorem Vals.two : ∀ {x y : V} {us : List Value}, Vals [x, y] us → ∃ u v, us = [u, v] ∧ RelV x u ∧ RelV y v
  | _, _, _, .cons r (.cons q .nil) => ⟨_, _, rfl, r, q⟩
theorem Vals.rep {xs : List V} {us : List Value} (h : Vals xs us) : ∀ k : Nat, Vals (List.replicate k xs).flatten (List.replicate k us).flatten
  | 0 => .nil
  | k + 1 => by
    rw [List.replicate_succ, List.replicate_succ, List.flatten_cons, List.flatten_cons]
    exact Vals.append h (Vals.rep h k)
theorem foldl_rep (its : List Value) : ∀ (k : Nat) (acc : List Value),
    List.foldl (fun x1 x2 => x1 ++ x2) acc.toArray (List.replicate k its.toArray) = (acc ++ (List.replicate k its).flatten).toArray
  | 0, acc => by simp
  | k + 1, acc => by
    have e : acc.toArray ++ its.toArray = (acc ++ its).toArray := by simp
    have e2 : (acc ++ its) ++ (List.replicate k its).flatten = acc ++ (List.replicate (k + 1) its).flatten := by
      rw [List.replicate_succ, List.flatten_cons, List.append_assoc]
    rw [← e2, ← foldl_rep its k (acc ++ its), ← e, List.replicate_succ, List.foldl_cons]
section
variable {X : Cx} {pins : List (Addr × Obj)} {σ : St} {H : Hp} {s : Shared} {l b : Addr} {xs ys zs : List V}
theorem Inv.lset {its its' : List Value} {n : Nat} {f : Array Value → Array Value} {t' : Nat} (I : Inv X pins σ H s) (hH : H l = some (.lst xs))
    (e : s.heap.get? l = some { cls := .type "list", data := .seq its.toArray n }) (hf : f its.toArray = its'.toArray) (hv : Vals ys its') (hz : ys.length ≤ sizeLine) :
    Inv X pins σ (upd H l (.lst ys)) { s with heap := s.heap.update l (Obj.mapSeq f), toks := t' } := by
  have q := PySem.IsL.update e f
  rw [hf] at q
  refine I.write (x := l) (e := l) (by rw [hH]; exact trivial) (.inl rfl) (fun b' u hb hu => (Heap.get?_update_other s.heap (Obj.mapSeq f) (Ne.symm hb)).trans hu) ⟨_, q⟩ ?_
  exact ⟨hz, its', _, hv, q⟩
theorem Inv.lnew {its : List Value} {t' : Nat} (I : Inv X pins σ H s) (hv : Vals ys its) (hz : ys.length ≤ sizeLine) :
    Inv X pins σ (upd H s.heap.objs.size (.lst ys)) { s with heap := s.heap.push { cls := .type "list", data := .seq its.toArray }, toks := t' } :=
  I.laid (fun _ _ q => Heap.get?_push_of_some _ q) (Nat.le_refl _) ⟨hz, its, 0, hv, Heap.get?_push_size _ rfl⟩
theorem Inv.fresh (I : Inv X pins σ H s) : H s.heap.objs.size = none := I.hok.fresh (Nat.le_refl _)
theorem Inv.lstM (I : Inv X pins σ H s) (hH : H l = some (.lst xs)) : xs.length ≤ sizeLine ∧ ∃ (its : List Value) (n : Nat), Vals xs its ∧ xs.length = its.length ∧ s.heap.get? l = some { cls := .type "list", data := .seq its.toArray n } := by
  obtain ⟨z, its, n, r, e⟩ := I.hok l _ hH
  exact ⟨z, its, n, r, r.length, e⟩
end
section
variable {X : Cx}
noncomputable def rAppend : V → List V → Hp → VK → Prop := fun x vs H Q => ∃ l xs y, x = .ref l ∧ vs = [y] ∧ H l = some (.lst xs) ∧ xs.length < sizeLine ∧ Q .non (upd H l (.lst (xs ++ [y])))
theorem mt_append : MtM X "list.append" rAppend := by
  intro pins s σ H x vs v us Q I rx rv h
  obtain ⟨l, xs, y, rfl, rfl, hH, hz, q⟩ := h
  cases rx
  obtain ⟨u, rfl, ru⟩ := rv.one
  obtain ⟨z, its, n, r, hl, e⟩ := I.lstM hH
  refine call_meets F.slot_list_append ⟨_, e, rfl⟩ F.entry_list_append (F.args_list_append_2 _ _) (PySem.list_append l its.toArray n u (by rw [List.size_toArray]; omega)) ⟨e, ?_⟩
  refine ⟨.non, _, I.lset (its' := its ++ [u]) hH e (by simp) (r.append (.cons ru .nil)) ?_, rfl, q⟩
  rw [List.length_append, List.length_singleton]
  omega
theorem len_rep {α : Type} (xs : List α) (k : Nat) : (List.replicate k xs).flatten.length = k * xs.length := by
  induction k with
  | zero => simp
  | succ k ih => rw [List.replicate_succ, List.flatten_cons, List.length_append, ih, Nat.succ_mul, Nat.add_comm]
end
section
variable {prog : Program} {w : World} {A : Around} {E : Value → Shared → Prop} {s : Shared}
end
section
variable {X : Cx}
end
end L2
namespace Att
open PySem PySem.W PySem.Calls PyProof.Rows
theorem ints_of_wellAll {P : Params} {h : Heap} : ∀ (ns : List Int) (vs : List Value), WellAll P h vs (ns.map WData.int) → IntsAre vs ns := by
  intro ns
  induction ns with
  | nil =>
    intro vs w
    rw [List.map_nil] at w
    cases w
    exact .nil
  | cons n ns ih =>
    intro vs w
    rw [List.map_cons] at w
    cases w with
    | cons a b =>
      cases a
      exact .cons _ _ (ih _ b)
theorem script_of {l : OpenLaw} {n : Nat} (hn : l.most = some n) {P : Params} {h : Heap} {args : List WData} {vals : List Value}
    (hpre : l.row.toRowW.claim.pre args = true) (hwl : WellAll P h vals args) :
    ∃ a vs ns, vals = [Value.ref a] ∧ args = [WData.list (ns.map WData.int)] ∧ h.get? a = some { cls := .type "list", data := .seq vs.toArray } ∧ IntsAre vs ns ∧ ns.length ≤ n := by
  have hsh : WShape.hasAll [] args [.list .int] = true := (pre_splitW hpre).1
  have hc : l.pre.holds [] { args := args } = true := (pre_splitW hpre).2
  obtain ⟨d, r, rfl, h1, h2⟩ := hasAllW_cons hsh
  obtain rfl := hasAllW_nil h2
  obtain ⟨xs, rfl, h3⟩ := hasW_list h1
  obtain ⟨ns, rfl⟩ := items_int h3
  have hlen : ns.length ≤ n := by
    unfold OpenLaw.pre at hc
    have h4 : (WTm.not (.lt (.lit (.int (n : Int))) (.len (.arg 0)))).holds [] { args := [.list (ns.map .int)] } = true := by
      have h4 := (holds_andW hc).1
      rw [hn] at h4
      exact h4
    have h5 := condW_of h4 (w_not (w_lt w_lit (w_len_list (w_arg rfl))))
    rw [List.length_map] at h5
    refine Nat.le_of_not_lt fun q => ?_
    have q' : (n : Int) < ((ns.length : Nat) : Int) := by omega
    first
      | (rw [decide_eq_true q'] at h5; exact absurd h5 (by decide))
      | (simp at h5; omega)
  cases hwl with
  | cons w1 w2 =>
    cases w2
    cases w1 with
    | list ho hall => exact ⟨_, _, ns, rfl, rfl, ho, ints_of_wellAll ns _ hall, hlen⟩
theorem post_true (l : OpenLaw) (args : List WData) : l.row.toRowW.claim.post args (.bool true) args = true :=
  postW_of (r := l.row.toRowW) (X := (true == true))
    (show WShape.has [] (.bool true) .bool = true by first | rfl | decide | simp [WShape.has, WShape.arms, WShape.armsAll])
    (show (WTm.eq .res (.lit (.bool true))).value [] { args := args, res := some (.bool true), after := args } = some (.bool (true == true)) from w_eq_bool (w_res rfl) w_lit) rfl
theorem attach_call {l : OpenLaw} {n : Nat} {q : Program} {loose : List Str} {XP : (Str → Option Value) → Heap → Prop} {YP : World → Heap → Prop} {d : DefRec}
    (hn : l.most = some n) (hdf : d.params.defaults = [])
    (call : ∀ (w : World) (s₀ s₁ : Shared) (mg mb : Str → Option Value) (fa : Addr) (o : Obj) (pm cd doc : Value) (a : Addr) (vs : List Value) (ns : List Int),
      Ground q loose [] XP w s₀ mg mb s₁.heap → YP w s₁.heap →
      s₁.heap.get? fa = some o → o.data = .func (docDef d.name d.params d.body d.scope pm cd doc) → s₁.heap.CodeRec cd d.name → mg d.name = some (.ref fa) →
      s₁.heap.get? a = some { cls := .type "list", data := .seq vs.toArray } → IntsAre vs ns → ns.length ≤ n → s₁.gens = #[] →
      codeAny (model l.prog w) callerA (.call (.ref fa) ⟨[.ref a], []⟩) (fun r s' => r = .ok (.ret (.bool true)) ∧ OldK s₁.heap s'.heap ∧ s'.os = s₁.os ∧ AllBare s'.gens) s₁) :
    WalkO q loose XP YP l.row.toRowW d [] (fun f vs => PySem.call f vs) := by
  intro w s₀ s₁ mg mb G Y fa o pm cd doc dV kV ho hd hcd hD hmg hg args vals as hpre hlay hrd hwl hlo
  obtain rfl : dV = .none := Dflts.none hD hdf
  obtain rfl : kV = .none := Dflts.noKw hD
  obtain ⟨a, vs, ns, rfl, rfl, hobj, hints, hlen⟩ := script_of hn hpre hwl
  refine enter_call (codeAny_mono (call w s₀ s₁ mg mb fa o pm cd doc a vs ns G Y ho (fd_plain hd) hcd hmg hobj hints hlen hg) fun r s' hq => ?_)
  obtain ⟨rfl, h2, h3, h4⟩ := hq
  exact ⟨.inl ⟨.bool true, .bool true, [], rfl, fun _ => rfl, .bool true, post_true l _, fun _ => ⟨List.Pairwise.nil, fun _ hm => (nomatch hm)⟩⟩, h2, h3, h4⟩
section
variable {prog : Program} {w : World} {A : Around} {E : Value → Shared → Prop} {s : Shared} {K : Frag}
end
end Att
namespace L2
open PySem PySem.Spec PyProof.Rows
theorem vals_ints : ∀ {vs : List Value} {ns : List Int}, IntsAre vs ns → Vals (ns.map V.int) vs
  | _, _, .nil => .nil
  | _, _, .cons n t h => .cons ⟨t, rfl⟩ (vals_ints h)
noncomputable def Only (H : Hp) : Prop := ∀ b, H b = none ∨ ∃ o xs, H b = some (.frz o (.lst xs))
theorem law_call {P : Program} {w : World} {K : PySem.W.Frag} {mg mb : Str → Option Value} {CX : CXT} {k : Nat} {fa a : Addr} {fd : FuncData} {x : Str} {sp : Sp} {s₁ : Shared} {vs : List Value} {ns : List Int}
    (KX : K.In s₁.heap) (hns : s₁.heap.Ns mainGlobals mg) (hb : s₁.heap.Ns builtinsNs mb) (hbb : ∀ x : Str, x ≠ "__name__" → mb x = bootBuiltins x) (hlim : s₁.heap.NoLimit) (hg : s₁.gens = #[])
    (ha : s₁.heap.get? a = some { cls := .type "list", data := .seq vs.toArray }) (hi : IntsAre vs ns) (hl : ns.length ≤ sizeLine) (hr : Room k callerA)
    (F : ∀ base : Heap, K.In base → base.Ns mainGlobals mg → FnOk P w K mg base CX k fa fd [x] sp) (hbind : ∀ (s : Shared) (u : Value), BindsTo s fd ⟨[u], []⟩ [(x, u)])
    (hsp : ∀ H : Hp, Only H → SqL K H a (ns.map V.int) → sp [.ref a] H (fun v _ => v = .bl true) fun _ _ _ => False)
    (hCX : ∀ H e s', CX [] H s₁ (fun _ _ _ => False) e s' → False) :
    codeAny (model P w) callerA (.call (.ref fa) ⟨[.ref a], []⟩) (fun r s' => r = .ok (.ret (.bool true)) ∧ OldK s₁.heap s'.heap ∧ s'.os = s₁.os ∧ AllBare s'.gens) s₁ := by
  have rv := vals_ints hi
  have lenV := hi.length
  have core : ∀ H : Hp, Only H → SqL K H a (ns.map V.int) → HOk P w H s₁.heap → (∀ b, H b ≠ none → b = a) → (H a ≠ none → K.lookup a = none) →
      codeAny (model P w) callerA (.call (.ref fa) ⟨[.ref a], []⟩) (fun r s' => r = .ok (.ret (.bool true)) ∧ OldK s₁.heap s'.heap ∧ s'.os = s₁.os ∧ AllBare s'.gens) s₁ := by
    intro H hO hS hok hA hK
    have base_of : ∀ {b : Addr} {o : Obj}, s₁.heap.get? b = some o → H b = none → (hidT s₁.heap H).get? b = some o := fun e n => hidT_get e n
    have noA : ∀ {b : Addr} {o : Obj} {es : Array DictEntry} {ep : Nat}, s₁.heap.get? b = some o → o.data = .dict es ep → H b = none := fun {b o es ep} e d => by
      cases q : H b with
      | none => rfl
      | some u =>
        have e' : b = a := hA b (by rw [q]; simp)
        subst e'
        rw [ha] at e; cases e
        have d' : Data.seq vs.toArray _ = Data.dict es ep := d
        cases d'
    have nsK : ∀ {b : Addr} {m : Str → Option Value}, s₁.heap.Ns b m → (hidT s₁.heap H).Ns b m := fun {b m} ⟨o, es, ep, e, d, r⟩ => ⟨o, es, ep, base_of e (noA e d), d, r⟩
    have hKb : K.In (hidT s₁.heap H) := fun b o e => base_of (KX b o e) (by
      cases q : H b with
      | none => rfl
      | some u =>
        have e' : b = a := hA b (by rw [q]; simp)
        subst e'
        rw [hK (by rw [q]; simp)] at e; cases e)
    have hM : Mod K mg (hidT s₁.heap H) := ⟨hKb, nsK hns, ⟨mb, nsK hb, hbb⟩, let ⟨mc, h1, h2⟩ := hlim; ⟨mc, nsK h1, h2⟩⟩
    have e0 : Env0 P w K mg (hidT s₁.heap H) callerA [] s₁ H := ⟨rfl, hM, fun b o e => of_hidT e, Nat.le_of_eq (hidT_size _ _), trivial, fun b hb => absurd (show b ∈ ([] : List Addr) from hb) (by simp), hok, .of_eq hg⟩
    refine codeAny_mono ((F _ hKb (nsK hns)).run callerA [] s₁ H ⟨[.ref a], []⟩ [.ref a] [.ref a] _ _ hr e0 (hbind s₁ (.ref a)) (.cons rfl .nil) (hsp H hO hS)) fun r s' h => ?_
    cases r with
    | error e => exact (hCX H e s' h).elim
    | ok fl =>
      cases fl with
      | next => exact False.elim h
      | brk => exact False.elim h
      | cont => exact False.elim h
      | ret u =>
        obtain ⟨v, H', os, bare, un, hok', r', q⟩ := h
        have q' : v = .bl true := q
        subst q'
        obtain rfl : u = Value.bool true := r'
        refine ⟨rfl, OldK.of_keep fun b o e => ?_, os, bare⟩
        cases q : H b with
        | none => exact un.keep b o e q (by intro z; exact absurd (show b ∈ ([] : List Addr) from z) (by simp)) (by simp)
        | some u =>
          rcases hO b with z | ⟨ob, xs, z⟩
          · rw [q] at z; cases z
          · have z2 := un.frzs b ob _ z
            obtain ⟨e1, _⟩ := hok b _ z
            obtain ⟨e2, _⟩ := hok' b _ z2
            rw [e] at e1; cases e1
            exact e2
  cases hk : K.lookup a with
  | some o =>
    have e := KX a o hk
    rw [ha] at e
    cases e
    refine core (fun _ => none) (fun _ => .inl rfl) (.inr ⟨_, vs.toArray, _, hk, rfl, rfl, rfl, by rw [List.size_toArray, lenV]; exact hl, by simpa using rv⟩) (fun b u z => by have z' : (none : Option HO) = some u := z; cases z') (fun b z => absurd rfl z) fun z => absurd rfl z
  | none =>
    refine core (fun b => if b = a then some (.frz { cls := .type "list", data := .seq vs.toArray } (.lst (ns.map V.int))) else none) (fun b => ?_) (.inl (.inr ⟨{ cls := .type "list", data := .seq vs.toArray }, if_pos rfl⟩)) (fun b u z => ?_) (fun b z => ?_) fun _ => hk
    · by_cases hb : b = a
      · exact .inr ⟨_, _, if_pos hb⟩
      · exact .inl (if_neg hb)
    · by_cases hb : b = a
      · have z' := (if_pos hb).symm.trans z
        cases z'
        subst hb
        exact ⟨ha, by rw [List.length_map]; exact hl, vs, _, rv, ha⟩
      · have z' := (if_neg hb).symm.trans z
        cases z'
    · by_cases hb : b = a
      · exact hb
      · exact absurd (if_neg hb) z
end L2
namespace L2
open PySem PySem.Spec PyProof.Rows
theorem walk_of {l : PySem.W.OpenLaw} {n k : Nat} {q : Program} {loose : List Str} {XP : (Str → Option Value) → Heap → Prop} {YP : World → Heap → Prop} {d : DefRec} {K : Params → PySem.W.Frag} {CX : World → CXT} {sp : World → Sp} {x : Str}
    (hn : l.most = some n) (hn2 : n ≤ sizeLine) (hdf : d.params.defaults = []) (hr : Room k callerA)
    (hY : ∀ (w : World) (h : Heap), YP w h → (K w.params).In h)
    (F : ∀ (w : World) (mg : Str → Option Value) (fa : Addr) (h : Heap), (K w.params).In h → h.Ns mainGlobals mg → mg d.name = some (.ref fa) →
      ∃ fd : FuncData, (∀ (s : Shared) (u : Value), BindsTo s fd ⟨[u], []⟩ [(x, u)]) ∧
        ∀ base : Heap, (K w.params).In base → base.Ns mainGlobals mg → FnOk l.prog w (K w.params) mg base (CX w) k fa fd [x] (sp w))
    (hsp : ∀ (w : World) (H : Hp) (a : Addr) (ns : List Int), ns.length ≤ n → Only H → SqL (K w.params) H a (ns.map V.int) → sp w [.ref a] H (fun v _ => v = .bl true) fun _ _ _ => False)
    (hCX : ∀ (w : World) (H : Hp) (s : Shared) (e : Value) (s' : Shared), CX w [] H s (fun _ _ _ => False) e s' → False) :
    PySem.W.WalkO q loose XP YP l.row.toRowW d [] (fun f vs => PySem.call f vs) := by
  refine Att.attach_call hn hdf fun w s₀ s₁ mg mb fa o pm cd doc a vs ns G Y ho hd hcd hmg hobj hints hlen hg => ?_
  have KX := hY w _ Y
  obtain ⟨fd, hb, hF⟩ := F w mg fa _ KX G.T.g hmg
  exact law_call KX G.T.g G.T.b G.T.builtins G.T.nolimit hg hobj hints (Nat.le_trans hlen hn2) hr hF hb (fun H hO hS => hsp w H a ns hlen hO hS) fun H e s' => hCX w H s₁ e s'
end L2
namespace L2
open PySem PySem.Spec PyProof.Rows
noncomputable def defArgs (s : Stmt) : Arguments := match s with
  | .FunctionDef _ a _ _ _ _ _ _ _ _ => a
  | _ => { posonlyargs := [], args := [], vararg := none, kwonlyargs := [], kw_defaults := [], kwarg := none, defaults := [] }
noncomputable def defBody (s : Stmt) : List Stmt := match s with
  | .FunctionDef _ _ b _ _ _ _ _ _ _ => b
  | _ => []
noncomputable def defScope (s : Stmt) : Scope := match s with
  | .FunctionDef _ _ _ _ _ _ sc _ _ _ => sc
  | _ => { kind := .function, names := [], isGenerator := false, isCoroutine := false }
noncomputable abbrev CX0 : CXT := fun _ _ _ _ _ _ => False
noncomputable abbrev E0 : XK := fun _ _ _ => False
structure Fun (K : PySem.W.Frag) (x qual : Str) (st : Stmt) (f : Addr) (fd : FuncData) : Prop where
  ex : ∃ (oc : Value) (od : Option Addr) (kV doc pm : Value) (an : Option Addr) (cdv ct : Value) (osl : Array (Option Value)),
    fd = PySem.W.fnOf x qual (defArgs st) (defBody st) (defScope st) .none kV doc pm an cdv ct ∧ K.lookup f = some ⟨oc, od, .func fd, osl⟩ ∧ PySem.W.codeIn K cdv qual = true
  kp : PySem.W.keepIn K (.ref f) = true
section
variable {P : Program} {w : World} {K : PySem.W.Frag} {mg : Str → Option Value} {base : Heap}
theorem Fun.ok {x qual : Str} {st : Stmt} {f : Addr} {fd : FuncData} {N ps : List Str} {k : Nat} {sp : Sp} (F : Fun K x qual st f fd) (S : FnScope N ps (defScope st)) (len : ∀ vs H Q E, sp vs H Q E → vs.length = ps.length)
    (hbody : ∀ (cdv : Value) (A : Around) (outer : List Env) (s : Shared) (H : Hp) (vs : List V) (Q : VK) (E : XK), Room k (A.deeper (envOfC qual (defScope st) s.heap.objs.size f cdv)) → sp vs H Q E →
      ∃ t, PSs (cxOf CX0 P w K mg base N qual (defScope st) f cdv A outer s H E).nox (defBody st) t ∧ t { nx := fun _ H' => Q .non H', rt := Q } (start N vs) H) : FnOk P w K mg base CX0 (k + 1) f fd ps sp := by
  obtain ⟨oc, od, kV, doc, pm, an, cdv, ct, osl, rfl, lk, hcd⟩ := F.ex
  refine fn_of lk hcd S len fun A outer s H vs Q E hr hsp => ?_
  obtain ⟨t, h, q⟩ := hbody cdv A outer s H vs Q E hr hsp
  exact ⟨t, h.nox, q⟩
theorem Fun.binds {x qual : Str} {st : Stmt} {f : Addr} {fd : FuncData} {ps : List Str} (F : Fun K x qual st f fd)
    (h : ∀ (kV doc pm : Value) (an : Option Addr) (cdv ct : Value) (us : List Value), us.length = ps.length → bindArgs (PySem.W.fnOf x qual (defArgs st) (defBody st) (defScope st) .none kV doc pm an cdv ct) ⟨us, []⟩ = pure (ps.zip us)) : Binds K fd ps [] := by
  obtain ⟨oc, od, kV, doc, pm, an, cdv, ct, osl, rfl, lk, hcd⟩ := F.ex
  exact .all (h kV doc pm an cdv ct)
theorem fun_mk {x qual : Str} {st : Stmt} {f : Addr} {oc : Value} {od an : Option Addr} {osl : Array (Option Value)} {kV doc pm cdv ct : Value} (l : K.lookup f = some ⟨oc, od, .func (PySem.W.fnOf x qual (defArgs st) (defBody st) (defScope st) .none kV doc pm an cdv ct), osl⟩)
    (c : PySem.W.codeIn K cdv qual = true) (k : PySem.W.keepIn K (.ref f) = true) : Fun K x qual st f (PySem.W.fnOf x qual (defArgs st) (defBody st) (defScope st) .none kV doc pm an cdv ct) := ⟨⟨oc, od, kV, doc, pm, an, cdv, ct, osl, rfl, l, c⟩, k⟩
end
section
variable {X : Cx}
end
theorem iteF {A B : Prop} (h : B) : if false = true then A else B := by
  rw [if_neg Bool.false_ne_true]
  exact h
theorem iteT {A B : Prop} (h : A) : if true = true then A else B := by
  rw [if_pos rfl]
  exact h
noncomputable def Same (H H' : Hp) : Prop := ∀ b o, H b = some o → H' b = some o
theorem Same.refl (H : Hp) : Same H H := fun _ _ h => h
theorem Same.trans {H H1 H2 : Hp} (a : Same H H1) (b : Same H1 H2) : Same H H2 := fun c o h => b c o (a c o h)
end L2
set_option maxHeartbeats 4000000
namespace L2
open PySem PySem.Spec PyProof.Rows
theorem ffk : (NameKind.free == NameKind.free) = true := by decide
noncomputable def clOf (cells : List (Str × Addr)) : List (Str × NameKind) → List (Str × Addr) → List (Str × Addr)
  | [], acc => acc
  | (n, k) :: r, acc => clOf cells r (if k == .free then (n, (cells.lookup n).getD 0) :: acc else acc)
theorem clo_eq {env : Env} : ∀ (ns : List (Str × NameKind)) (acc : List (Str × Addr)), (∀ p ∈ ns, p.2 = .free → ∃ c, env.cells.lookup p.1 = some c) →
    (forIn ns acc fun p cs => (if p.2 == NameKind.free then (do let a ← cellOf env p.1; pure (ForInStep.yield ((p.1, a) :: cs))) else pure (ForInStep.yield cs) : Sem (ForInStep (List (Str × Addr))))) = pure (clOf env.cells ns acc)
  | [], acc, _ => by rw [List.forIn_nil]; rfl
  | (n, k) :: r, acc, h => by
    rw [List.forIn_cons]
    by_cases hk : k = .free
    · subst hk
      obtain ⟨c, hc⟩ := h (n, .free) List.mem_cons_self rfl
      have e1 : cellOf env n = pure c := by unfold cellOf; rw [hc]
      show (do let a ← cellOf env n; pure (ForInStep.yield ((n, a) :: acc)) : Sem _) >>= _ = _
      rw [e1]
      show (forIn r ((n, c) :: acc) _ : Sem _) = _
      rw [clo_eq r _ fun p hp => h p (List.mem_cons_of_mem _ hp)]
      show _ = pure (clOf env.cells r (if NameKind.free == NameKind.free then _ else _))
      have hc' : env.cells.lookup n = some c := hc
      rw [if_pos ffk, hc']
      rfl
    · have e2 : (k == NameKind.free) = false := by simpa using hk
      show (if (k == NameKind.free) = true then _ else _ : Sem _) >>= _ = _
      rw [if_neg (by rw [e2]; decide)]
      show (forIn r acc _ : Sem _) = _
      rw [clo_eq r _ fun p hp => h p (List.mem_cons_of_mem _ hp)]
      show _ = pure (clOf env.cells r (if (k == NameKind.free) = true then _ else _))
      rw [if_neg (by rw [e2]; decide)]
theorem closure_eq {scope : Scope} {env : Env} (h : ∀ p ∈ scope.names, p.2 = .free → ∃ c, env.cells.lookup p.1 = some c) : closureFor scope env = pure (clOf env.cells scope.names []) := by
  unfold closureFor
  have e := clo_eq (env := env) scope.names [] h
  show (forIn scope.names ([] : List (Str × Addr)) _ >>= fun r => pure r : Sem _) = _
  have e' : (forIn scope.names ([] : List (Str × Addr)) fun (p : Str × NameKind) (cs : List (Str × Addr)) => (if p.2 == NameKind.free then (do let a ← cellOf env p.1; pure (ForInStep.yield ((p.1, a) :: cs))) else pure (ForInStep.yield cs) : Sem (ForInStep (List (Str × Addr))))) >>= (fun r => (pure r : Sem _)) = pure (clOf env.cells scope.names []) := by rw [e]; rfl
  exact e'
theorem clOf_mem {cells : List (Str × Addr)} {x : Str} {c : Addr} : ∀ (ns : List (Str × NameKind)) (acc : List (Str × Addr)), (clOf cells ns acc).lookup x = some c → acc.lookup x = some c ∨ ((x, NameKind.free) ∈ ns ∧ c = (cells.lookup x).getD 0)
  | [], acc, h => .inl h
  | (n, k) :: r, acc, h => by
    rcases clOf_mem r _ h with e | ⟨e1, e2⟩
    · by_cases hk : k = .free
      · subst hk
        rw [if_pos ffk, List.lookup_cons] at e
        cases hx : x == n with
        | true =>
          rw [hx] at e
          have : x = n := by simpa using hx
          subst this
          exact .inr ⟨List.mem_cons_self, (Option.some.inj e).symm⟩
        | false => rw [hx] at e; exact .inl e
      · rw [if_neg (by simpa using hk)] at e
        exact .inl e
    · exact .inr ⟨List.mem_cons_of_mem _ e1, e2⟩
theorem clOf_acc {cells : List (Str × Addr)} {x : Str} : ∀ (ns : List (Str × NameKind)) (acc : List (Str × Addr)), acc.lookup x = some ((cells.lookup x).getD 0) → (clOf cells ns acc).lookup x = some ((cells.lookup x).getD 0)
  | [], acc, h => h
  | (n, k) :: r, acc, h => by
    refine clOf_acc r _ ?_
    by_cases hk : k = .free
    · subst hk
      rw [if_pos ffk, List.lookup_cons]
      cases hx : x == n with
      | true =>
        have : x = n := by simpa using hx
        subst this
        rfl
      | false => exact h
    · rw [if_neg (by simpa using hk)]; exact h
theorem clOf_has {cells : List (Str × Addr)} {x : Str} : ∀ (ns : List (Str × NameKind)) (acc : List (Str × Addr)), (x, NameKind.free) ∈ ns → (clOf cells ns acc).lookup x = some ((cells.lookup x).getD 0)
  | [], acc, h => by cases h
  | (n, k) :: r, acc, h => by
    rcases List.mem_cons.mp h with e | e
    · cases e
      refine clOf_acc r _ ?_
      rw [if_pos ffk, List.lookup_cons]
      simp
    · exact clOf_has r _ e
noncomputable def compCx (X : Cx) (scope : Scope) (N : List Str) (C : Addr) (s0 : Shared) (H0 : Hp) (ex : List Addr) : Cx where
  prog := X.prog
  w := X.w
  K := X.K
  mg := X.mg
  base := X.base
  A := X.A
  N := N
  s₀ := s0
  H₀ := H0
  env := compEnvC scope (clOf X.env.cells scope.names []) C X.env
  outer := X.stack
  stack := X.stack
  ex := ex
  fn := fun _ => false
  calm := X.calm
  pn := []
  xe := fun _ _ => False
noncomputable def capsOk (N : List Str) (out : List (Str × NameKind)) (inn : List (Str × NameKind)) (caps : List (Str × Nat)) : Bool :=
  inn.all (fun p => p.2 != .cell) && inn.all (fun p => p.2 != .local || inn.lookup p.1 == some .local) &&
  inn.all (fun p => p.2 != .free || (out.lookup p.1 == some .cell || out.lookup p.1 == some .free)) &&
  caps.all (fun p => N[p.2]? == some p.1 && inn.lookup p.1 == some .free)
structure CapsOk (X : Cx) (scope : Scope) (caps : List (Str × Nat)) : Prop where
  kind : scope.kind = .function
  nocell : ∀ x ∈ scope.names, x.2 ≠ .cell
  loc : ∀ x ∈ scope.names, x.2 = .local → scope.names.lookup x.1 = some .local
  fre : ∀ p ∈ scope.names, p.2 = .free → X.env.kindOf p.1 = some .cell ∨ X.env.kindOf p.1 = some .free
  cap : ∀ p ∈ caps, X.N[p.2]? = some p.1 ∧ scope.names.lookup p.1 = some .free
theorem caps_of {X : Cx} {scope osc : Scope} {N : List Str} {caps : List (Str × Nat)} (hN : X.N = N) (ho : X.env.scope = osc) (hk : scope.kind = .function) (h : capsOk N osc.names scope.names caps = true) : CapsOk X scope caps := by
  unfold capsOk at h
  simp only [Bool.and_eq_true, List.all_eq_true] at h
  obtain ⟨⟨⟨h1, h2⟩, h3⟩, h4⟩ := h
  refine ⟨hk, fun x hx => by simpa using h1 x hx, fun x hx hl => ?_, fun p hp hf => ?_, fun p hp => ?_⟩
  · have := h2 x hx
    rw [hl] at this
    simpa using this
  · have := h3 p hp
    rw [hf] at this
    show X.env.scope.names.lookup p.1 = _ ∨ X.env.scope.names.lookup p.1 = _
    rw [ho]
    simpa using this
  · have := h4 p hp
    rw [hN]
    simpa using this
noncomputable def innerSt (own : Nat) (caps : List (Str × Nat)) (σ : St) : St := List.replicate own none ++ caps.map fun p => (σ[p.2]?).join
noncomputable def tComp (own : Nat) (caps : List (Str × Nat)) (wi : TI) (g : TG) (tc : TT) (te : TE) : TE := fun σ H Q => wi σ H fun J H1 => ∀ D, H1 D = none →
  ∃ W : Nat → Nat → St → Hp → Prop, (∃ m, W 0 m (innerSt own caps σ) (upd H1 D (.lst []))) ∧ ∀ i m σ' H', W i m σ' H' →
    (J.stop i H' ∧ Q (.ref D) H') ∨ (J.go i H' ∧ ∃ N : St → Hp → Prop, (∀ σ2 H2, N σ2 H2 → ∃ m', m' < m ∧ W (i + 1) m' σ2 H2) ∧
      ∀ x H2, J.yld i H' x H2 → g x σ' H2 fun σ3 H3 => tc σ3 H3 fun b H4 => if b = true then te σ3 H4 fun v H5 => ∃ ys, H5 D = some (.lst ys) ∧ ys.length < sizeLine ∧ N σ3 (upd H5 D (.lst (ys ++ [v]))) else N σ3 H4)
theorem relabel_kind {scope : Scope} {env : Env} {x : Str} {k : NameKind} : ∀ {ns : List (Str × NameKind)}, (ns.map fun (n, k) => if (k == NameKind.free && env.scope.kind == .function && env.kindOf n == some .cell) then (n, NameKind.cell) else (n, k)).lookup x = some k →
    ∃ k', ns.lookup x = some k' ∧ (k = k' ∨ (k' = .free ∧ k = .cell))
  | [], h => by simp at h
  | (n, k0) :: r, h => by
    rw [List.map_cons] at h
    by_cases hc : (k0 == NameKind.free && env.scope.kind == .function && env.kindOf n == some .cell) = true
    · simp only [if_pos hc, List.lookup_cons] at h
      cases hx : x == n with
      | true =>
        rw [hx] at h
        refine ⟨k0, by simp [List.lookup_cons, hx], .inr ⟨?_, (Option.some.inj h).symm⟩⟩
        simp only [Bool.and_eq_true] at hc
        simpa using hc.1.1
      | false =>
        rw [hx] at h
        obtain ⟨k', e, q⟩ := relabel_kind (scope := scope) h
        exact ⟨k', by simp only [List.lookup_cons, hx]; exact e, q⟩
    · simp only [if_neg hc, List.lookup_cons] at h
      cases hx : x == n with
      | true =>
        rw [hx] at h
        exact ⟨k0, by simp [List.lookup_cons, hx], .inl (Option.some.inj h).symm⟩
      | false =>
        rw [hx] at h
        obtain ⟨k', e, q⟩ := relabel_kind (scope := scope) h
        exact ⟨k', by simp only [List.lookup_cons, hx]; exact e, q⟩
theorem relabel_free {env : Env} {x : Str} : ∀ {ns : List (Str × NameKind)}, ns.lookup x = some .free →
    (ns.map fun (n, k) => if (k == NameKind.free && env.scope.kind == .function && env.kindOf n == some .cell) then (n, NameKind.cell) else (n, k)).lookup x = some .cell ∨
    (ns.map fun (n, k) => if (k == NameKind.free && env.scope.kind == .function && env.kindOf n == some .cell) then (n, NameKind.cell) else (n, k)).lookup x = some .free
  | [], h => by simp at h
  | (n, k0) :: r, h => by
    rw [List.map_cons]
    simp only [List.lookup_cons] at h
    by_cases hc : (k0 == NameKind.free && env.scope.kind == .function && env.kindOf n == some .cell) = true
    · simp only [if_pos hc, List.lookup_cons]
      cases hx : x == n with
      | true => exact .inl rfl
      | false => rw [hx] at h; exact relabel_free h
    · simp only [if_neg hc, List.lookup_cons]
      cases hx : x == n with
      | true => rw [hx] at h; exact .inr h
      | false => rw [hx] at h; exact relabel_free h
theorem inner_get {own : Nat} {caps : List (Str × Nat)} {σ : St} {i : Nat} {v : V} (h : (innerSt own caps σ)[i]? = some (some v)) : ∃ p, caps[i - own]? = some p ∧ own ≤ i ∧ σ[p.2]? = some (some v) := by
  unfold innerSt at h
  by_cases hi : i < own
  · rw [List.getElem?_append_left (by simpa using hi), List.getElem?_replicate, if_pos hi] at h
    cases h
  · rw [List.getElem?_append_right (by simpa using hi), List.length_replicate, List.getElem?_map] at h
    cases e : caps[i - own]? with
    | none => rw [e] at h; cases h
    | some p =>
      rw [e] at h
      refine ⟨p, rfl, by omega, ?_⟩
      have h' : (σ[p.2]?).join = some v := Option.some.inj h
      cases q : σ[p.2]? with
      | none => rw [q] at h'; cases h'
      | some o => rw [q] at h'; exact congrArg some h'
section
variable {X : Cx} {pins : List (Addr × Obj)} {σ : St} {H : Hp} {s : Shared}
theorem inv_comp {scope : Scope} {own : List Str} {caps : List (Str × Nat)} {h' : Heap} {t' : Nat} {fp : List Addr} (I : Inv X pins σ H s) (ck : CapsOk X scope caps)
    (hf : ∀ b ∈ fp, FpOk X pins H b) (hb : ∀ b ∈ fp, b < s.heap.objs.size) (ns : h'.Ns s.heap.objs.size fun x => ([] : List (Str × Value)).reverse.lookup x)
    (sb : Heap.SameBut s.heap.objs.size (s.heap.push { cls := .type "dict", data := .dict #[] }) h') :
    Inv (compCx X scope (own ++ caps.map (·.1)) s.heap.objs.size s H fp) [] (innerSt own.length caps σ) H { s with heap := h', toks := t' } := by
  have up : ∀ b o, s.heap.get? b = some o → h'.get? b = some o := fun b o e => sb.extBut b o (Nat.ne_of_lt (Heap.lt_size e)) (Heap.get?_push_of_some _ e)
  have stk : ∀ b ∈ fp, b ∉ frs X.stack := fun b hb' z => by
    obtain ⟨_, f1, f2, _⟩ := hf b hb'
    rcases List.mem_cons.mp (I.stkSub b z) with q | q
    · exact f1 q
    · exact f2 q
  have clc : ∀ x c, (clOf X.env.cells scope.names []).lookup x = some c → X.env.cells.lookup x = some c := fun x c h => by
    rcases clOf_mem _ _ h with e | ⟨e1, e2⟩
    · cases e
    · obtain ⟨c', hc'⟩ := I.ok.has x (ck.fre _ e1 rfl)
      rw [hc'] at e2 ⊢
      exact congrArg some e2.symm
  have cell : ∀ x c, (clOf X.env.cells scope.names []).lookup x = some c → ∃ v, s.heap.IsCell c v := fun x c h => I.cell x c (clc x c h)
  have okk : (compCx X scope (own ++ caps.map (·.1)) s.heap.objs.size s H fp).Ok := by
    refine ⟨I.ok.mod, ck.kind, I.ok.glob, I.ok.blt, Nat.le_refl _, fun x y c h1 h2 => I.ok.inj x y c (clc x c h1) (clc y c h2), fun x hx => ?_, fun x c hfn => ?_, I.ok.hd, I.ok.frames, .inl rfl, fun b z => ⟨?_, fun x c h => ?_⟩, I.bs,
      Nat.le_trans I.ok.bsz I.sz, fun b o e z => ?_, stk, I.stack, I.stkFree⟩
    · have hx' : ∃ k, (scope.names.map fun (n, k) => if (k == NameKind.free && X.env.scope.kind == .function && X.env.kindOf n == some .cell) then (n, NameKind.cell) else (n, k)).lookup x = some k ∧ (k = .cell ∨ k = .free) := by
        rcases hx with q | q
        · exact ⟨_, q, .inl rfl⟩
        · exact ⟨_, q, .inr rfl⟩
      obtain ⟨k, q, hk⟩ := hx'
      obtain ⟨k', e, r⟩ := relabel_kind (scope := scope) q
      have m := PySem.mem_of_lookup e
      have hfree : k' = .free := by
        rcases r with r | r
        · rcases hk with hk | hk
          · exact absurd (r.symm.trans hk) (ck.nocell _ m)
          · exact r.symm.trans hk
        · exact r.1
      subst hfree
      exact ⟨_, clOf_has _ _ m⟩
    · cases hfn
    · exact Nat.ne_of_lt (hb b z)
    · exact (hf b z).2.2.2.2.1 x c (clc x c h)
    · rcases (hf b z).2.2.2.1 with q | q
      · exact I.ok.noex b o e q
      · exact absurd (Nat.lt_of_lt_of_le (Heap.lt_size e) (Nat.le_trans I.ok.bsz q)) (Nat.lt_irrefl _)
  refine ⟨okk, rfl, I.bare, Un.kept up, ⟨_, ns, fun i x v h1 h2 h3 => ?_⟩, fun x c h => ?_, I.hok.fresh (Nat.le_refl _), fun x c h => I.freeC x c (clc x c h), fun p hp => absurd (show p ∈ ([] : List (Addr × Obj)) from hp) (by simp), I.hok.kept up, ?_⟩
  · obtain ⟨p, hp, hi, hv⟩ := inner_get h2
    have hx : p.1 = x := by
      have h1' : (own ++ caps.map (·.1))[i]? = some x := h1
      rw [List.getElem?_append_right hi, List.getElem?_map, hp] at h1'
      exact Option.some.inj h1'
    subst hx
    obtain ⟨cN, cf⟩ := ck.cap p (List.mem_of_getElem? hp)
    have mem := PySem.mem_of_lookup cf
    obtain ⟨m, hn, hl⟩ := I.loc
    have kf := ck.fre _ mem rfl
    obtain ⟨u, r, l⟩ := hl p.2 p.1 v cN hv (by rcases kf with q | q; exact .inr (.inl q); exact .inr (.inr q))
    refine ⟨u, r, .inr ?_⟩
    rcases l with ⟨k, _⟩ | ⟨k, c, e, z⟩
    · rcases kf with q | q <;> (rw [q] at k; cases k)
    · refine ⟨relabel_free cf, c, ?_, z.keeps up⟩
      show (clOf X.env.cells scope.names []).lookup p.1 = some c
      rw [clOf_has _ _ mem, e]
      rfl
  · obtain ⟨v, z⟩ := cell x c h
    exact ⟨v, z.keeps up⟩
  · show (innerSt own.length caps σ).length = (own ++ caps.map (·.1)).length
    simp [innerSt]
end
end L2
namespace L2
open PySem PySem.Spec PyProof.Rows
noncomputable abbrev NoX : Value → Shared → Prop := fun _ _ => False
theorem noX_mono {α : Type} {M : Model} {A : Around} {t : Sem α} {Q : α → Shared → Prop} {E : Value → Shared → Prop} {s : Shared} (h : wpAny M A t Q NoX s) : wpAny M A t Q E s := wpAny_mono h (fun _ _ q => q) fun _ _ q => q.elim
noncomputable abbrev testsOf (ifs : List Expr) (env : Env) : Sem Bool := forIn ifs true fun c r => if r = true then do let ok ← isTrue c env (eval c env); pure (ForInStep.yield ok) else pure (ForInStep.yield r)
section
variable {prog : Program} {w : World} {A : Around} {R : Result → Shared → Prop} {s : Shared}
theorem compLoop_any {elt target iter : Expr} {ifs : List Expr} {scope : Scope} {pos : Pos} {it acc : Value} {env : Env} (J : Nat → Shared → Prop)
    (turn : ∀ n s, J n s → wpAny (model prog w) A (pyNext it) (fun r s1 => match r with
      | none => R (.ok .next) s1
      | some v => wpAny (model prog w) A (letOwnedTupleGo target it v) (fun _ s2 => wpAny (model prog w) A (assign target env v) (fun _ s3 => wpAny (model prog w) A (testsOf ifs env) (fun ok s4 =>
          if ok = true then wpAny (model prog w) A (eval elt env) (fun x s5 => wpAny (model prog w) A (call (.builtin "list.append") [acc, x]) (fun _ s6 => ∃ m, m < n ∧ J m s6) NoX s5) NoX s4
          else ∃ m, m < n ∧ J m s4) NoX s3) NoX s2) NoX s1) NoX s)
    (n : Nat) (h : J n s) : codeAny (model prog w) A (.compLoop (.ListComp elt [⟨target, iter, ifs, 0⟩] scope pos) 0 it acc env) R s := by
  refine codeAny_loop rfl J (fun n s hJ => ?_) n h
  show wpAny _ A ((compTurn (.ListComp elt [⟨target, iter, ifs, 0⟩] scope pos) 0 it acc env).onRaise (fun x => do noteFrame x env; theTreesLotGoes x)) _ _ s
  refine wpAny_noted (noX_mono ?_)
  rw [compTurn_list]
  refine wpAny_bind (wpAny_standAt (wpAny_bind (thn (turn n s hJ) fun r s1 h1 => ?_)))
  cases r with
  | none => exact wpAny_pure h1
  | some v =>
    refine wpAny_bind (thn h1 fun _ s2 h2 => wpAny_bind (thn h2 fun _ s3 h3 => wpAny_bind (thn h3 fun ok s4 h4 => ?_)))
    cases ok with
    | false =>
      rw [if_neg (by decide)] at h4
      first
        | exact wpAny_pure ⟨rfl, h4⟩
        | exact wpAny_bind (wpAny_pure (wpAny_pure ⟨rfl, h4⟩))
    | true =>
      rw [if_pos rfl] at h4
      first
        | exact wpAny_bind (wpAny_bind (thn h4 fun x s5 h5 => wpAny_bind (thn h5 fun _ s6 h6 => wpAny_pure (wpAny_pure ⟨rfl, h6⟩))))
        | exact wpAny_bind (thn h4 fun x s5 h5 => wpAny_bind (thn h5 fun _ s6 h6 => wpAny_pure ⟨rfl, h6⟩))
end
section
variable {X : Cx}
noncomputable def PC0 (X : Cx) (ifs : List Expr) (t : TT) : Prop :=
  ∀ (pins : List (Addr × Obj)) (s : Shared) (σ : St) (H : Hp) (Q : Bool → Hp → Prop), Inv X pins σ H s → t σ H Q → wpAny (model X.prog X.w) X.A (testsOf ifs X.env) (TP X pins σ Q) X.xe s
noncomputable def tNoTest : TT := fun _ H Q => Q true H
theorem pc_none : PC0 X [] tNoTest := fun pins s σ H Q I h => wpAny_tests_nil ⟨H, I, h⟩
theorem hok_but {P : Program} {w : World} {H : Hp} {h h' : Heap} {C : Addr} (ok : HOk P w H h) (hC : H C = none) (sb : Heap.SameBut C h h') : HOk P w H h' := fun b ob e => by
  refine (ok b ob e).stay (fun c u hc q => (sb.2 c ?_).trans q) (fun _ q => q) fun _ _ q => q
  rintro rfl
  rcases hc with rfl | hc
  · rw [hC] at e; cases e
  · rw [hC] at hc; cases hc
theorem un_but {fs ex : List Addr} {H H' : Hp} {h h1 h2 : Heap} {C : Addr} (u : Un fs ex H H' h h1) (hC : h.objs.size ≤ C) (sb : Heap.SameBut C h1 h2) : Un fs ex H H' h h2 := by
  have ne : ∀ b o, h.get? b = some o → b ≠ C := fun b o e => Nat.ne_of_lt (Nat.lt_of_lt_of_le (Heap.lt_size e) hC)
  refine ⟨fun b o e n a c => (sb.2 b (ne b o e)).trans (u.keep b o e n a c), fun b o e n a c => ?_, u.free, fun b o e c => ?_, u.tups, u.frzs, u.tbls⟩
  · obtain ⟨sl, q⟩ := u.slot b o e n a c
    exact ⟨sl, (sb.2 b (ne b o e)).trans q⟩
  · obtain ⟨o', q⟩ := u.there b o e c
    exact ⟨o', (sb.2 b (ne b o e)).trans q⟩
inductive CpInv (X : Cx) (tn : Nat → Heap → Prop) (fp : List Addr) (W : Nat → Nat → St → Hp → Prop) (n : Nat) (s : Shared) : Prop
  | mk (i : Nat) (σ : St) (H : Hp) (hI : Inv X [] σ H s) (ht : tn i s.heap) (hf : ∀ b ∈ fp, H b = none) (hw : W i n σ H)
theorem pe_comp {elt tg iter : Expr} {ifs : List Expr} {scope : Scope} {pos : Pos} {own : List Str} {caps : List (Str × Nat)} {wi : TI} {g : TG} {tc : TT} {te : TE} (hc : X.calm = true) (ck : CapsOk X scope caps)
    (hi : PI X tg iter wi) (hg : ∀ C s0 H0 ex, PG (compCx X scope (own ++ caps.map (·.1)) C s0 H0 ex) tg g) (ht : ∀ C s0 H0 ex, PC0 (compCx X scope (own ++ caps.map (·.1)) C s0 H0 ex) ifs tc)
    (he : ∀ C s0 H0 ex, PE (compCx X scope (own ++ caps.map (·.1)) C s0 H0 ex) elt te) (hs : autoParam (∀ x, foldedSetIterable iter X.env x = pure x) zau3._auto_1) :
    PE X (.ListComp elt [⟨tg, iter, ifs, 0⟩] scope pos) (tComp own.length caps wi g tc te) := by
  intro pins s σ H Q I h
  have hcl : closureFor scope X.env = pure (clOf X.env.cells scope.names []) := closure_eq fun p hp hf => I.ok.has p.1 (ck.fre p hp hf)
  rw [eval_ListComp]
  refine wpAny_comprehension_free (use := none) rfl hs hcl ck.kind ck.loc (thn (hi pins s σ H _ I h) fun v s1 h1 => thn h1 fun itv s2 h2 => ?_)
  obtain ⟨it, fp, tn, J, H2, e, I2, T, st2, f2, hw⟩ := h2
  subst e
  obtain ⟨W, ⟨m0, w0⟩, turn⟩ := hw s2.heap.objs.size (I2.hok.fresh (Nat.le_refl _))
  refine wpAny_newObj_type ?_
  have hD := I2.hok.fresh (Nat.le_refl s2.heap.objs.size)
  have I3 : Inv X pins σ (upd H2 s2.heap.objs.size (.lst [])) { s2 with heap := s2.heap.push { cls := .type "list", data := .seq ([] : List Value).toArray } } :=
    I2.laid (t' := s2.toks) (fun b u e => Heap.get?_push_of_some _ e) (Nat.le_refl _) ⟨Nat.zero_le _, [], 0, .nil, Heap.get?_push_size _ rfl⟩
  have hlt : ∀ b ∈ fp, b < s2.heap.objs.size := fun b hb => by obtain ⟨o, e, _⟩ := T.obj _ _ st2 b hb; exact Heap.lt_size e
  have f3 : ∀ b ∈ fp, FpOk X pins (upd H2 s2.heap.objs.size (.lst [])) b := fun b hb => ⟨by rw [upd_ne (Nat.ne_of_lt (hlt b hb))]; exact (f2 b hb).1, (f2 b hb).2⟩
  have hlt3 : ∀ b ∈ fp, b < (s2.heap.push { cls := .type "list", data := .seq ([] : List Value).toArray }).objs.size := fun b hb => by rw [Heap.size_push]; exact Nat.lt_succ_of_lt (hlt b hb)
  refine wpAny_newFunctionEnv ck.nocell (by intro y hy; simp at hy) (fun h' hns hsb => ?_) ck.kind
  generalize hS3 : ({ s2 with heap := s2.heap.push { cls := .type "list", data := .seq ([] : List Value).toArray } } : Shared) = S3 at I3 hns hsb ⊢
  have hlt3' : ∀ b ∈ fp, b < S3.heap.objs.size := by rw [← hS3]; exact hlt3
  have I4 := inv_comp (own := own) (t' := S3.toks + ([] : List (Str × Value)).length) I3 ck f3 hlt3' hns hsb
  have st4 : tn 0 h' := T.keep _ _ _ st2 fun b hb o e => hsb.extBut b o (Nat.ne_of_lt (hlt3' b hb)) (Heap.get?_push_of_some _ (by rw [← hS3]; exact Heap.get?_push_of_some _ e))
  have hsz : s2.heap.objs.size < S3.heap.objs.size := by rw [← hS3]; show _ < (Heap.push _ _).objs.size; rw [Heap.size_push]; exact Nat.lt_succ_self _
  generalize hCC : S3.heap.objs.size = C at I4 hsb hns hsz
  have loop : codeAny (model X.prog X.w) X.A (.compLoop (.ListComp elt [⟨tg, iter, ifs, 0⟩] scope pos) 0 (.ref it) (.ref s2.heap.objs.size) (compEnvC scope (clOf X.env.cells scope.names []) C X.env))
      (compPost (model X.prog X.w) X.A X.xe none (EP X pins σ Q) (.ref s2.heap.objs.size) C) { S3 with heap := h', toks := S3.toks + ([] : List (Str × Value)).length } := by
    have xf : ∀ {H' : Hp}, (∀ b ∈ fp, H' b = none) → ∀ b ∈ fp, FpOk (compCx X scope (own ++ caps.map (·.1)) C S3 (upd H2 s2.heap.objs.size (.lst [])) fp) [] H' b := fun hn b hb => by
      refine ⟨hn b hb, ?_, ?_, .inl hb, fun x c e => (I4.ok.exf b hb).2 x c e, fun p hp => absurd (show p ∈ ([] : List (Addr × Obj)) from hp) (by simp)⟩
      · exact (I4.ok.exf b hb).1
      · exact I4.ok.exfs b hb
    refine compLoop_any (CpInv (compCx X scope (own ++ caps.map (·.1)) C S3 (upd H2 s2.heap.objs.size (.lst [])) fp) tn fp W) ?_ m0
      ⟨0, _, _, I4, st4, fun b hb => (f3 b hb).1, w0⟩
    rintro n s5 ⟨i, σ5, H5, I5, st5, fr5, w5⟩
    rcases turn i n σ5 H5 w5 with ⟨stop, qn⟩ | ⟨go, N, hN, step⟩
    · refine thn (T.done (compCx X scope (own ++ caps.map (·.1)) C S3 (upd H2 s2.heap.objs.size (.lst [])) fp) rfl rfl rfl hc i [] s5 σ5 H5 NoX I5 (xf fr5) st5 stop) fun r s6 hzz => ?_
      obtain ⟨hr, I6⟩ := hzz
      subst hr
      obtain ⟨m6, n6, _⟩ := id I6.loc
      refine ⟨m6, n6, fun h7 sb7 => ⟨.ref s2.heap.objs.size, H5, ?_, rfl, qn⟩⟩
      have C3 : S3.heap.objs.size ≤ C := Nat.le_of_eq hCC
      refine I3.call' (s' := { s6 with heap := h7 }) (ch := fp) I6.os (un_but I6.base C3 sb7) (hok_but I6.hok I6.free sb7) I6.bare fun b hb => ?_
      obtain ⟨_, q1, _, q3, q4, q5⟩ := f3 b hb
      exact ⟨q3, q1, q4, q5⟩
    · refine thn (T.item (compCx X scope (own ++ caps.map (·.1)) C S3 (upd H2 s2.heap.objs.size (.lst [])) fp) rfl rfl rfl hc i [] s5 σ5 H5 NoX I5 (xf fr5) st5 go) fun r s6 hzz => ?_
      obtain ⟨u, hr, h6⟩ := hzz
      subst hr
      refine thn h6 fun _ s7 hzz => ?_
      obtain ⟨x, H7, I7, r7, y7, st7, fr7⟩ := hzz
      have I7' := I7.pinned (xf fr7) (T.obj _ _ st7)
      refine thn (hg _ _ _ _ _ s7 σ5 H7 x u _ I7' r7 (step x H7 y7)) fun _ s8 hzz => ?_
      obtain ⟨σ8, H8, I8, q8⟩ := hzz
      refine thn (ht _ _ _ _ _ s8 σ8 H8 _ I8 q8) fun ok s9 hzz => ?_
      obtain ⟨H9, I9, q9⟩ := hzz
      have again : ∀ {s' : Shared} {σ' : St} {H' : Hp}, Inv (compCx X scope (own ++ caps.map (·.1)) C S3 (upd H2 s2.heap.objs.size (.lst [])) fp) ([] ++ pinsAt fp s7.heap) σ' H' s' → N σ' H' → ∃ m, m < n ∧ CpInv (compCx X scope (own ++ caps.map (·.1)) C S3 (upd H2 s2.heap.objs.size (.lst [])) fp) tn fp W m s' := fun {s' σ' H'} Ia na => by
        obtain ⟨m', hm, wa⟩ := hN σ' H' na
        refine ⟨m', hm, i + 1, σ', H', Ia.unpinned, T.keep _ _ _ st7 fun b hb o e => (Ia.pin (b, o) (List.mem_append_right _ (List.mem_append_right _ (mem_pinsAt hb e)))).1, fun b hb => ?_, wa⟩
        obtain ⟨o, e, d⟩ := T.obj _ _ st7 b hb
        exact (Ia.pin (b, o) (List.mem_append_right _ (List.mem_append_right _ (mem_pinsAt hb e)))).2.1
      cases ok with
      | false =>
        rw [if_neg (by decide)] at q9 ⊢
        exact again I9 q9
      | true =>
        rw [if_pos rfl] at q9 ⊢
        refine thn (he _ _ _ _ _ s9 σ8 H9 _ I9 q9) fun y s10 hzz => ?_
        obtain ⟨vy, H10, I10, r10, ys, hys, hlen, q10⟩ := hzz
        refine thn (mt_append _ s10 σ8 H10 (.ref s2.heap.objs.size) [vy] (.ref s2.heap.objs.size) [y] (fun _ H' => N σ8 H') I10 rfl (.cons r10 .nil) ⟨_, ys, vy, rfl, rfl, hys, hlen, q10⟩) fun _ s11 hzz => ?_
        obtain ⟨_, H11, I11, _, q11⟩ := hzz
        exact again I11 q11
  exact codeAny_compStart_list loop (T.self _ 0 _ _ _ st4 loop)
end
end L2
namespace DL
open PySem PySem.Spec L2
inductive D where
  | non | bl (b : Bool) | int (i : Int) | str (x : Str) | ty (n : String) | obj (i : Nat) | tup (xs : List D) | lst (xs : List D)
structure XD where
  cls : Str
  fs : List (Str × D)
noncomputable abbrev M (α : Type) := Option (Except XD α)
noncomputable def M.b {α β : Type} (m : M α) (f : α → M β) : M β := match m with
  | none => none
  | some (.error x) => some (.error x)
  | some (.ok a) => f a
noncomputable def M.p {α : Type} (a : α) : M α := some (.ok a)
noncomputable def M.o {α : Type} : Option α → M α
  | none => none
  | some a => some (.ok a)
inductive M.BInv {α β : Type} (m : M α) (f : α → M β) (r : Except XD β) : Prop
  | ok (a : α) (h1 : m = some (.ok a)) (h2 : f a = some r)
  | err (x : XD) (h1 : m = some (.error x)) (h2 : r = .error x)
theorem M.b_inv {α β : Type} {m : M α} {f : α → M β} {r : Except XD β} (h : m.b f = some r) : M.BInv m f r := by
  cases m with
  | none => cases h
  | some e =>
    cases e with
    | error x => exact .err x rfl (Option.some.inj h).symm
    | ok a => exact .ok a rfl h
theorem M.o_inv {α : Type} {m : Option α} {r : Except XD α} (h : M.o m = some r) : ∃ a, m = some a ∧ r = .ok a := by
  cases m with
  | none => cases h
  | some a => exact ⟨a, rfl, (Option.some.inj h).symm⟩
@[simp] theorem M.b_ok {α β : Type} (a : α) (f : α → M β) : M.b (some (.ok a)) f = f a := rfl
@[simp] theorem M.b_p {α β : Type} (a : α) (f : α → M β) : M.b (M.p a) f = f a := rfl
@[simp] theorem M.b_err {α β : Type} (x : XD) (f : α → M β) : M.b (some (.error x)) f = some (.error x) := rfl
@[simp] theorem M.o_some {α : Type} (a : α) : M.o (some a) = M.p a := rfl
noncomputable abbrev Rho := Nat → Option Addr
mutual
noncomputable def Rep (ρ : Rho) (K : PySem.W.Frag) (H : Hp) : D → V → Prop
  | .non, v => v = .non
  | .bl b, v => v = .bl b
  | .int i, v => v = .int i
  | .str x, v => v = .str x
  | .ty n, v => v = .ty n
  | .obj i, v => ∃ a, ρ i = some a ∧ v = .ref a
  | .tup ds, v => ∃ a xs, v = .ref a ∧ SqT K H a xs ∧ Reps ρ K H ds xs
  | .lst ds, v => ∃ a xs, v = .ref a ∧ SqL K H a xs ∧ Reps ρ K H ds xs
noncomputable def Reps (ρ : Rho) (K : PySem.W.Frag) (H : Hp) : List D → List V → Prop
  | [], xs => xs = []
  | d :: ds, xs => ∃ v vs, xs = v :: vs ∧ Rep ρ K H d v ∧ Reps ρ K H ds vs
end
variable {ρ : Rho} {K : PySem.W.Frag} {H H' : Hp}
theorem same_rd {a : Addr} {u : HO} (e : Same H H') (h : Rd H a u) : Rd H' a u := by
  rcases h with h | ⟨o, h⟩
  · exact .inl (e a _ h)
  · exact .inr ⟨o, e a _ h⟩
theorem same_l {a : Addr} {xs : List V} (e : Same H H') (h : SqL K H a xs) : SqL K H' a xs := h.imp (same_rd e) id
theorem same_t {a : Addr} {xs : List V} (e : Same H H') (h : SqT K H a xs) : SqT K H' a xs := h.imp (same_rd e) id
mutual
theorem Rep.mono (e : Same H H') : ∀ {d : D} {v : V}, Rep ρ K H d v → Rep ρ K H' d v
  | .non, _, h => by unfold Rep at h ⊢; exact h
  | .bl _, _, h => by unfold Rep at h ⊢; exact h
  | .int _, _, h => by unfold Rep at h ⊢; exact h
  | .str _, _, h => by unfold Rep at h ⊢; exact h
  | .ty _, _, h => by unfold Rep at h ⊢; exact h
  | .obj _, _, h => by unfold Rep at h ⊢; exact h
  | .tup _, _, h => by
    unfold Rep at h ⊢
    obtain ⟨a, xs, q1, q2, q3⟩ := h
    exact ⟨a, xs, q1, same_t e q2, Reps.mono e q3⟩
  | .lst _, _, h => by
    unfold Rep at h ⊢
    obtain ⟨a, xs, q1, q2, q3⟩ := h
    exact ⟨a, xs, q1, same_l e q2, Reps.mono e q3⟩
theorem Reps.mono (e : Same H H') : ∀ {ds : List D} {vs : List V}, Reps ρ K H ds vs → Reps ρ K H' ds vs
  | [], _, h => by unfold Reps at h ⊢; exact h
  | _ :: _, _, h => by
    unfold Reps at h ⊢
    obtain ⟨v, vs, q1, q2, q3⟩ := h
    exact ⟨v, vs, q1, Rep.mono e q2, Reps.mono e q3⟩
end
theorem reps_nil {vs : List V} : Reps ρ K H [] vs ↔ vs = [] := by unfold Reps; exact Iff.rfl
theorem reps_cons {d : D} {ds : List D} {vs : List V} : Reps ρ K H (d :: ds) vs ↔ ∃ v r, vs = v :: r ∧ Rep ρ K H d v ∧ Reps ρ K H ds r := by
  conv => lhs; unfold Reps
theorem Reps.cons {d : D} {ds : List D} {v : V} {vs : List V} (h : Rep ρ K H d v) (t : Reps ρ K H ds vs) : Reps ρ K H (d :: ds) (v :: vs) := reps_cons.mpr ⟨v, vs, rfl, h, t⟩
theorem Reps.nil : Reps ρ K H [] [] := reps_nil.mpr rfl
theorem Reps.length : ∀ {ds : List D} {vs : List V}, Reps ρ K H ds vs → vs.length = ds.length
  | [], _, h => by rw [reps_nil.mp h]; rfl
  | _ :: _, _, h => by
    obtain ⟨v, r, rfl, _, t⟩ := reps_cons.mp h
    simp [Reps.length t]
theorem Reps.get : ∀ {ds : List D} {vs : List V} {i : Nat} {d : D}, Reps ρ K H ds vs → ds[i]? = some d → ∃ v, vs[i]? = some v ∧ Rep ρ K H d v
  | [], _, _, _, _, e => by simp at e
  | _ :: _, _, 0, _, h, e => by
    obtain ⟨v, r, rfl, q, _⟩ := reps_cons.mp h
    simp at e; subst e
    exact ⟨v, rfl, q⟩
  | _ :: _, _, i + 1, _, h, e => by
    obtain ⟨v, r, rfl, _, t⟩ := reps_cons.mp h
    obtain ⟨u, q1, q2⟩ := Reps.get (i := i) t (by simpa using e)
    exact ⟨u, by simpa using q1, q2⟩
theorem Reps.append : ∀ {ds es : List D} {vs us : List V}, Reps ρ K H ds vs → Reps ρ K H es us → Reps ρ K H (ds ++ es) (vs ++ us)
  | [], _, _, _, h, k => by rw [reps_nil.mp h]; exact k
  | _ :: _, _, _, _, h, k => by
    obtain ⟨v, r, rfl, q, t⟩ := reps_cons.mp h
    exact Reps.cons q (Reps.append t k)
theorem rep_int {i : Int} {v : V} : Rep ρ K H (.int i) v ↔ v = .int i := by unfold Rep; exact Iff.rfl
theorem rep_str {x : Str} {v : V} : Rep ρ K H (.str x) v ↔ v = .str x := by unfold Rep; exact Iff.rfl
theorem rep_ty {n : String} {v : V} : Rep ρ K H (.ty n) v ↔ v = .ty n := by unfold Rep; exact Iff.rfl
theorem rep_obj {i : Nat} {v : V} : Rep ρ K H (.obj i) v ↔ ∃ a, ρ i = some a ∧ v = .ref a := by unfold Rep; exact Iff.rfl
theorem rep_bl {b : Bool} {v : V} : Rep ρ K H (.bl b) v ↔ v = .bl b := by unfold Rep; exact Iff.rfl
theorem rep_non {v : V} : Rep ρ K H .non v ↔ v = .non := by unfold Rep; exact Iff.rfl
theorem rep_tup {ds : List D} {v : V} : Rep ρ K H (.tup ds) v ↔ ∃ a xs, v = .ref a ∧ SqT K H a xs ∧ Reps ρ K H ds xs := by conv => lhs; unfold Rep
theorem rep_lst {ds : List D} {v : V} : Rep ρ K H (.lst ds) v ↔ ∃ a xs, v = .ref a ∧ SqL K H a xs ∧ Reps ρ K H ds xs := by conv => lhs; unfold Rep
theorem reps_ints : ∀ {ns : List Int} {vs : List V}, Reps ρ K H (ns.map .int) vs ↔ vs = ns.map V.int
  | [], vs => reps_nil
  | n :: ns, vs => by
    rw [List.map_cons, reps_cons]
    constructor
    · rintro ⟨v, r, rfl, h1, h2⟩
      rw [rep_int.mp h1, reps_ints.mp h2]; rfl
    · rintro rfl
      exact ⟨_, _, rfl, rep_int.mpr rfl, reps_ints.mpr rfl⟩
noncomputable def hid (H : Hp) (G : Addr → Bool) : Hp := fun b => if G b = true then none else H b
theorem hid_some {G : Addr → Bool} {b : Addr} {o : HO} : hid H G b = some o ↔ G b = false ∧ H b = some o := by
  unfold hid
  cases e : G b <;> simp
theorem same_hid {G : Addr → Bool} (e : Same H H') : Same (hid H G) (hid H' G) := fun b o h => by
  obtain ⟨q1, q2⟩ := hid_some.mp h
  exact hid_some.mpr ⟨q1, e b o q2⟩
theorem hid_le {G G' : Addr → Bool} (h : ∀ b, G' b = true → G b = true) : Same (hid H G) (hid H G') := fun b o q => by
  obtain ⟨q1, q2⟩ := hid_some.mp q
  refine hid_some.mpr ⟨?_, q2⟩
  cases e : G' b with
  | false => rfl
  | true => rw [h b e] at q1; cases q1
theorem same_un {G : Addr → Bool} : Same (hid H G) H := fun b o q => (hid_some.mp q).2
theorem hid_upd {G : Addr → Bool} {a : Addr} {o : HO} (h : G a = true) : hid (upd H a o) G = hid H G := by
  funext b
  unfold hid upd
  by_cases e : b = a
  · subst e; rw [if_pos h, if_pos h]
  · rw [if_neg e]
theorem same_upd {p : Addr} {o : HO} (h : H p = none) : Same H (upd H p o) := fun b u e => by rw [upd_ne (ne_of_none e h)]; exact e
theorem same_upd0 {H₀ : Hp} {p : Addr} {o : HO} (e : Same H₀ H) (h : H₀ p = none) : Same H₀ (upd H p o) := fun b u q => by rw [upd_ne (ne_of_none q h)]; exact e b u q
noncomputable abbrev DSt := List (Option D)
noncomputable def refOf : Option (Option V) → Option Addr
  | some (some (.ref a)) => some a
  | _ => none
theorem refOf_some {o : Option (Option V)} {a : Addr} : refOf o = some a ↔ o = some (some (.ref a)) := by
  constructor
  · intro h
    unfold refOf at h
    split at h
    · cases h; rfl
    · cases h
  · rintro rfl; rfl
noncomputable def ownA (σ : St) : List Nat → List Addr
  | [] => []
  | i :: O => (refOf σ[i]?).toList ++ ownA σ O
theorem mem_ownA {σ : St} {O : List Nat} {a : Addr} : a ∈ ownA σ O ↔ ∃ i ∈ O, σ[i]? = some (some (.ref a)) := by
  induction O with
  | nil => simp [ownA]
  | cons j O ih =>
    unfold ownA
    rw [List.mem_append, ih, Option.mem_toList, refOf_some]
    constructor
    · rintro (h | ⟨i, hi, h⟩)
      · exact ⟨j, List.mem_cons_self, h⟩
      · exact ⟨i, List.mem_cons_of_mem _ hi, h⟩
    · rintro ⟨i, hi, h⟩
      rcases List.mem_cons.mp hi with rfl | hi
      · exact .inl h
      · exact .inr ⟨i, hi, h⟩
noncomputable def fob (F : Addr → Bool) (σ : St) (O : List Nat) : Addr → Bool := fun b => F b || (ownA σ O).contains b
theorem fob_t {F : Addr → Bool} {σ : St} {O : List Nat} {b : Addr} : fob F σ O b = true ↔ F b = true ∨ ∃ i ∈ O, σ[i]? = some (some (.ref b)) := by
  unfold fob
  rw [Bool.or_eq_true, List.contains_iff_mem, mem_ownA]
theorem fob_nil {F : Addr → Bool} {σ : St} : fob F σ [] = F := by
  funext b; unfold fob ownA; simp
structure RS (ρ : Rho) (K : PySem.W.Frag) (H₀ H : Hp) (F : Addr → Bool) (O : List Nat) (σ : St) (δ : DSt) : Prop where
  len : σ.length = δ.length
  same : Same H₀ H
  fin : ∀ b, F b = true → H b ≠ none
  val : ∀ (i : Nat) d, δ[i]? = some (some d) → i ∉ O → ∃ v, σ[i]? = some (some v) ∧ Rep ρ K (hid H (fob F σ O)) d v
  own : ∀ i ∈ O, ∃ (a : Addr) (xs : List V) (ds : List D), δ[i]? = some (some (.lst ds)) ∧ σ[i]? = some (some (.ref a)) ∧ H a = some (.lst xs) ∧ (H₀ a = none ∧ F a = false) ∧ Reps ρ K (hid H (fob F σ O)) ds xs
  nd : ∀ i ∈ O, ∀ j ∈ O, ∀ a, σ[i]? = some (some (.ref a)) → σ[j]? = some (some (.ref a)) → i = j
section
variable {H₀ : Hp} {F : Addr → Bool} {O : List Nat} {σ : St} {δ : DSt}
theorem same_nn {b : Addr} (e : Same H H') (h : H b ≠ none) : H' b ≠ none := fun z => by
  cases q : H b with
  | none => exact h q
  | some o => rw [e b o q] at z; cases z
theorem upd_nn {b p : Addr} {o : HO} (h : H b ≠ none) : upd H p o b ≠ none := by
  by_cases e : b = p
  · subst e; rw [upd_same]; exact fun z => nomatch z
  · rw [upd_ne e]; exact h
theorem RS.mono (R : RS ρ K H₀ H F O σ δ) (e : Same H H') : RS ρ K H₀ H' F O σ δ :=
  ⟨R.len, R.same.trans e, fun b hb => same_nn e (R.fin b hb), fun i d h ho => let ⟨v, q1, q2⟩ := R.val i d h ho; ⟨v, q1, q2.mono (same_hid e)⟩,
    fun i hi => let ⟨a, xs, ds, q1, q2, q3, q4, q5⟩ := R.own i hi; ⟨a, xs, ds, q1, q2, e a _ q3, q4, q5.mono (same_hid e)⟩, R.nd⟩
theorem RS.fresh (R : RS ρ K H₀ H F O σ δ) {p : Addr} (h : H p = none) : fob F σ O p = false := by
  cases e : fob F σ O p with
  | false => rfl
  | true =>
    rcases fob_t.mp e with q | ⟨i, hi, q⟩
    · exact absurd h (R.fin p q)
    · obtain ⟨a, xs, ds, _, q2, q3, _⟩ := R.own i hi
      rw [q] at q2; cases q2
      rw [q3] at h; cases h
theorem ownA_set {i : Nat} {v : V} (h : i ∉ O) : fob F (σ.set i (some v)) O = fob F σ O := by
  have : ownA (σ.set i (some v)) O = ownA σ O := by
    induction O with
    | nil => rfl
    | cons j O ih =>
      unfold ownA
      rw [List.getElem?_set_ne (by rintro rfl; exact h List.mem_cons_self), ih fun z => h (List.mem_cons_of_mem _ z)]
  unfold fob
  rw [this]
theorem RS.set (R : RS ρ K H₀ H F O σ δ) {i : Nat} {d : D} {v : V} (ho : i ∉ O) (hr : Rep ρ K (hid H (fob F σ O)) d v) : RS ρ K H₀ H F O (σ.set i (some v)) (δ.set i (some d)) := by
  have ne : ∀ j ∈ O, j ≠ i := fun j hj e => ho (e ▸ hj)
  refine ⟨by simp [R.len], R.same, R.fin, fun j e hd hj => ?_, fun j hj => ?_, fun j hj k hk a e1 e2 => ?_⟩
  · rw [ownA_set ho]
    by_cases hji : j = i
    · subst hji
      have hl : j < δ.length := by
        by_cases q : j < δ.length
        · exact q
        · rw [List.getElem?_eq_none (by simpa using q)] at hd; cases hd
      rw [List.getElem?_set_self hl] at hd
      cases hd
      exact ⟨v, List.getElem?_set_self (by rw [R.len]; exact hl), hr⟩
    · rw [List.getElem?_set_ne (Ne.symm hji)] at hd ⊢
      exact R.val j e hd hj
  · rw [ownA_set ho, List.getElem?_set_ne (Ne.symm (ne j hj)), List.getElem?_set_ne (Ne.symm (ne j hj))]
    exact R.own j hj
  · rw [List.getElem?_set_ne (Ne.symm (ne j hj))] at e1
    rw [List.getElem?_set_ne (Ne.symm (ne k hk))] at e2
    exact R.nd j hj k hk a e1 e2
end
end DL
namespace DL
open PySem PySem.Spec L2
noncomputable def XRep (K : PySem.W.Frag) (H : Hp) (x : XD) (c : Value) (dx : Option Addr) : Prop := False
noncomputable def okX (K : PySem.W.Frag) (H₀ : Hp) (E : XK) (x : XD) : Prop := ∀ c dx H', Same H₀ H' → XRep K H' x c dx → E c dx H'
inductive tD (K : PySem.W.Frag) (O : List Nat) (E : XK) (f : DSt → M D) (σ : St) (H : Hp) (Q : VK) : Prop
  | mk (ρ : Rho) (H₀ : Hp) (F : Addr → Bool) (δ : DSt) (r : Except XD D) (R : RS ρ K H₀ H F O σ δ) (hf : f δ = some r) (k : match (generalizing := false) r with
    | .ok d => ∀ v H', Same H H' → Rep ρ K (hid H' (fob F σ O)) d v → Q v H'
    | .error x => okX K H₀ E x)
noncomputable def DE (X : Cx) (O : List Nat) (E : XK) (e : Expr) (f : DSt → M D) : Prop := PE X e (tD X.K O E f)
inductive tB (K : PySem.W.Frag) (O : List Nat) (E : XK) (f : DSt → M Bool) (σ : St) (H : Hp) (Q : Bool → Hp → Prop) : Prop
  | mk (ρ : Rho) (H₀ : Hp) (F : Addr → Bool) (δ : DSt) (r : Except XD Bool) (R : RS ρ K H₀ H F O σ δ) (hf : f δ = some r) (k : match (generalizing := false) r with
    | .ok b => ∀ H', Same H H' → Q b H'
    | .error x => okX K H₀ E x)
noncomputable def DT (X : Cx) (O : List Nat) (E : XK) (e : Expr) (f : DSt → M Bool) : Prop := PT X e (tB X.K O E f)
inductive tL (K : PySem.W.Frag) (O : List Nat) (E : XK) (f : DSt → M (List D)) (σ : St) (H : Hp) (Q : List V → Hp → Prop) : Prop
  | mk (ρ : Rho) (H₀ : Hp) (F : Addr → Bool) (δ : DSt) (r : Except XD (List D)) (R : RS ρ K H₀ H F O σ δ) (hf : f δ = some r) (k : match (generalizing := false) r with
    | .ok ds => ∀ vs H', Same H H' → Reps ρ K (hid H' (fob F σ O)) ds vs → Q vs H'
    | .error x => okX K H₀ E x)
noncomputable def DA (X : Cx) (O : List Nat) (E : XK) (es : List Expr) (f : DSt → M (List D)) : Prop := PA X es (tL X.K O E f)
noncomputable def fVar (i : Nat) : DSt → M D := fun δ => M.o (δ[i]?).join
noncomputable def fC (d : D) : DSt → M D := fun _ => M.p d
noncomputable def f2 (g : D → D → Option D) (fa fb : DSt → M D) : DSt → M D := fun δ => (fa δ).b fun x => (fb δ).b fun y => M.o (g x y)
noncomputable def f1 (g : D → Option D) (fa : DSt → M D) : DSt → M D := fun δ => (fa δ).b fun x => M.o (g x)
noncomputable def t2 (g : D → D → Option D) (fa fb : DSt → M D) : DSt → M Bool := fun δ => (fa δ).b fun x => (fb δ).b fun y => match g x y with
  | some (.bl b) => M.p b
  | _ => none
noncomputable def fNil : DSt → M (List D) := fun _ => M.p []
noncomputable def fCons (f : DSt → M D) (g : DSt → M (List D)) : DSt → M (List D) := fun δ => (f δ).b fun x => (g δ).b fun xs => M.p (x :: xs)
noncomputable def fL (k : List D → Option D) (g : DSt → M (List D)) : DSt → M D := fun δ => (g δ).b fun xs => M.o (k xs)
section
variable {ρ : Rho} {X : Cx} {O : List Nat} {E : XK} {a b c e : Expr} {es : List Expr} {fa fb fc : DSt → M D} {fl : DSt → M (List D)} {pos : Pos}
theorem join_some {δ : DSt} {i : Nat} {d : D} (h : (δ[i]?).join = some d) : δ[i]? = some (some d) := by
  cases e : δ[i]? with
  | none => rw [e] at h; cases h
  | some o => rw [e] at h; exact congrArg some h
theorem de_var (i : Nat) {x : Str} (ho : autoParam (O.contains i = false) zau2._auto_1) (hN : autoParam (X.N[i]? = some x) zau2._auto_1) (hv : autoParam (Vis X.env.scope x) zau4._auto_1)
    (hd : autoParam ((x == ("__debug__" : Str)) = false) zau1._auto_1) (hcd : autoParam ((x == ("__classdict__" : Str)) = false) zau1._auto_1) : DE X O E (.Name x pos) (fVar i) := by
  rintro pins s σ H Q I ⟨ρ, H₀, F, δ, r, R, hf, h⟩
  obtain ⟨d, e, rfl⟩ := M.o_inv hf
  have ho' : i ∉ O := fun z => by rw [List.contains_iff_mem.mpr z] at ho; cases ho
  obtain ⟨v, q1, q2⟩ := R.val i d (join_some e) ho'
  exact pe_var hN hv hd hcd pins s σ H Q I ⟨v, q1, h v H (Same.refl H) q2⟩
theorem de_lit {t : TE} {d : D} {v : V} (h : PE X e (tC v)) (hr : ∀ ρ H, Rep ρ X.K H d v) : DE X O E e (fC d) := by
  rintro pins s σ H Q I ⟨ρ, H₀, F, δ, r, R, hf, k⟩
  cases hf
  exact h pins s σ H Q I (k v H (Same.refl H) (hr _ _))
theorem de_int {i : Int} {j} : DE X O E (.Constant (.int i) j pos) (fC (.int i)) := de_lit (t := tC (.int i)) pe_int fun _ _ => rep_int.mpr rfl
theorem de_bl {k : Bool} {j} : DE X O E (.Constant (.bool k) j pos) (fC (.bl k)) := de_lit (t := tC (.bl k)) pe_bl fun _ _ => rep_bl.mpr rfl
theorem de_str {x : Str} {j} : DE X O E (.Constant (.str x) j pos) (fC (.str x)) := de_lit (t := tC (.str x)) pe_str fun _ _ => rep_str.mpr rfl
noncomputable def OpD (K : PySem.W.Frag) (g : D → D → Option D) (r : R2) : Prop := ∀ x y d, g x y = some d → ∀ (ρ : Rho) (H : Hp) (G : Addr → Bool) u v (Q : VK), (∀ p, H p = none → G p = false) → Rep ρ K (hid H G) x u → Rep ρ K (hid H G) y v →
  (∀ w H', Same H H' → Rep ρ K (hid H' G) d w → Q w H') → r u v H Q
noncomputable def CaD (K : PySem.W.Frag) (g : List D → Option D) (r : List V → Hp → VK → Prop) : Prop := ∀ xs d, g xs = some d → ∀ (ρ : Rho) (H : Hp) (G : Addr → Bool) us (Q : VK), (∀ p, H p = none → G p = false) → Reps ρ K (hid H G) xs us →
  (∀ w H', Same H H' → Rep ρ K (hid H' G) d w → Q w H') → r us H Q
theorem bin_in {g : D → D → Option D} {r : R2} {σ : St} {H : Hp} {Q : VK} (hg : OpD X.K g r) (h : tD X.K O E (f2 g fa fb) σ H Q) : tOp r (tD X.K O E fa) (tD X.K O E fb) σ H Q := by
  obtain ⟨ρ, H₀, F, δ, rr, R, hf, h⟩ := h
  rcases M.b_inv hf with ⟨x, e1, hf⟩ | ⟨x, e1, rfl⟩
  · refine ⟨ρ, H₀, F, δ, .ok x, R, e1, fun u H1 s1 r1 => ?_⟩
    rcases M.b_inv hf with ⟨y, e2, hf⟩ | ⟨y, e2, rfl⟩
    · refine ⟨ρ, H₀, F, δ, .ok y, R.mono s1, e2, fun v H2 s2 r2 => ?_⟩
      obtain ⟨d, hd, rfl⟩ := M.o_inv hf
      exact hg x y d hd ρ H2 _ u v Q (fun p hp => (R.mono (s1.trans s2)).fresh hp) (r1.mono (same_hid s2)) r2 fun w H3 s3 r3 => h w H3 (s1.trans (s2.trans s3)) r3
    · exact ⟨ρ, H₀, F, δ, .error y, R.mono s1, e2, h⟩
  · exact ⟨ρ, H₀, F, δ, .error x, R, e1, h⟩
theorem de_op {op : Operator} {g : D → D → Option D} {r : R2} (ho : OpR X (binaryOp op) r) (hg : OpD X.K g r) (ha : DE X O E a fa) (hb : DE X O E b fb) : DE X O E (.BinOp a op b pos) (f2 g fa fb) :=
  fun pins s σ H Q I h => pe_op ho ha hb pins s σ H Q I (bin_in hg h)
theorem de_ix {g : D → D → Option D} {r : R2} (ho : IxR X r) (hg : OpD X.K g r) (ha : DE X O E a fa) (hb : DE X O E b fb) (hs : autoParam (PlainIx b) zau5._auto_1) : DE X O E (.Subscript a b pos) (f2 g fa fb) :=
  fun pins s σ H Q I h => pe_ix ho ha hb hs pins s σ H Q I (bin_in hg h)
theorem de_cmp {op : CmpOp} {g : D → D → Option D} {r : R2} (ho : OpR X (compareOp op) r) (hg : OpD X.K g r) (ha : DE X O E a fa) (hb : DE X O E b fb) (hm : behindInMarks op b = false) : DE X O E (.Compare a [op] [b] pos) (f2 g fa fb) :=
  fun pins s σ H Q I h => pe_cmpR ho ha hb hm pins s σ H Q I (bin_in hg h)
theorem dt_cmp {op : CmpOp} {g : D → D → Option D} {r : R2} (ho : OpR X (compareOp op) r) (hg : OpD X.K g r) (ha : DE X O E a fa) (hb : DE X O E b fb) (hm : behindInMarks op b = false) : DT X O E (.Compare a [op] [b] pos) (t2 g fa fb) := by
  rintro pins s σ H Q I ⟨ρ, H₀, F, δ, rr, R, hf, h⟩
  refine pt_cmpR ho ha hb hm pins s σ H Q I (bin_in (r := r) hg ?_)
  have key : ∃ r' : Except XD D, f2 g fa fb δ = some r' ∧ (match r', rr with | .ok d, .ok b => d = .bl b | .error x, .error y => x = y | _, _ => False) := by
    rcases M.b_inv hf with ⟨x, e1, hf⟩ | ⟨x, e1, rfl⟩
    · rcases M.b_inv hf with ⟨y, e2, hf⟩ | ⟨y, e2, rfl⟩
      · unfold f2
        rw [e1, M.b_ok, e2, M.b_ok]
        cases e3 : g x y with
        | none => rw [e3] at hf; cases hf
        | some d =>
          rw [e3] at hf
          cases d with
          | bl k => cases hf; exact ⟨_, rfl, rfl⟩
          | _ => cases hf
      · exact ⟨.error y, by unfold f2; rw [e1, M.b_ok, e2]; rfl, rfl⟩
    · exact ⟨.error x, by unfold f2; rw [e1]; rfl, rfl⟩
  obtain ⟨r', e, q⟩ := key
  refine ⟨ρ, H₀, F, δ, r', R, e, ?_⟩
  cases r' with
  | error x => cases rr with
    | error y => cases q; exact h
    | ok _ => exact q.elim
  | ok d => cases rr with
    | error y => exact q.elim
    | ok k =>
      cases q
      exact fun v H' s' rv => ⟨k, rep_bl.mp rv, h H' s'⟩
theorem da_nil : DA X O E [] fNil := by
  rintro p pins s σ H Q I ⟨ρ, H₀, F, δ, r, R, hf, h⟩
  cases hf
  exact pa_nil p pins s σ H Q I (h [] H (Same.refl H) Reps.nil)
theorem da_cons (ha : DE X O E e fa) (hr : DA X O E es fl) (hs : autoParam (starEach (e :: es) X.env = (false, eval e X.env) :: starEach es X.env) zau2._auto_1) : DA X O E (e :: es) (fCons fa fl) := by
  rintro p pins s σ H Q I ⟨ρ, H₀, F, δ, r, R, hf, h⟩
  refine pa_cons ha hr hs p pins s σ H Q I ?_
  rcases M.b_inv hf with ⟨x, e1, hf⟩ | ⟨x, e1, rfl⟩
  · refine ⟨ρ, H₀, F, δ, .ok x, R, e1, fun u H1 s1 r1 => ?_⟩
    rcases M.b_inv hf with ⟨xs, e2, hf⟩ | ⟨y, e2, rfl⟩
    · cases hf
      exact ⟨ρ, H₀, F, δ, .ok xs, R.mono s1, e2, fun vs H2 s2 r2 => h (u :: vs) H2 (s1.trans s2) (Reps.cons (r1.mono (same_hid s2)) r2)⟩
    · exact ⟨ρ, H₀, F, δ, .error y, R.mono s1, e2, h⟩
  · exact ⟨ρ, H₀, F, δ, .error x, R, e1, h⟩
theorem list_in {k : List D → Option D} {r : List V → Hp → VK → Prop} {σ : St} {H : Hp} {Q : VK} (hg : CaD X.K k r) (h : tD X.K O E (fL k fl) σ H Q) : tCB r (tL X.K O E fl) σ H Q := by
  obtain ⟨ρ, H₀, F, δ, rr, R, hf, h⟩ := h
  rcases M.b_inv hf with ⟨x, e1, hf⟩ | ⟨x, e1, rfl⟩
  · refine ⟨ρ, H₀, F, δ, .ok x, R, e1, fun u H1 s1 r1 => ?_⟩
    obtain ⟨d, hd, rfl⟩ := M.o_inv hf
    exact hg x d hd ρ H1 _ u Q (fun p hp => (R.mono s1).fresh hp) r1 fun w H3 s3 r3 => h w H3 (s1.trans s3) r3
  · exact ⟨ρ, H₀, F, δ, .error x, R, e1, h⟩
theorem de_callB {k : List D → Option D} {r : List V → Hp → VK → Prop} {x : Str} {id : String} {p : Pos} (hc : CallR X (.builtin id) r) (hg : CaD X.K k r) (hG : Gl X x) (hm : X.mg x = none) (hv : bootBuiltins x = some (.builtin id)) (ha : DA X O E (e :: es) fl)
    (hn : autoParam (x ≠ "__name__") zau1._auto_1) (hdb : autoParam ((x == ("__debug__" : Str)) = false) zau1._auto_1) (he : autoParam (starEach (e :: es) X.env = (false, eval e X.env) :: starEach es X.env) zau2._auto_1) (hpl : autoParam ((backTo pos (starEach es X.env)).any (·.1) = false) zau2._auto_1) :
    DE X O E (.Call (.Name x p) (e :: es) [] pos) (fL k fl) := fun pins s σ H Q I h => pe_callB hc hG hm hv ha hn hdb he hpl pins s σ H Q I (list_in hg h)
noncomputable def gTupD (xs : List D) : Option D := if xs.length ≤ sizeLine then some (.tup xs) else none
noncomputable def gLstD (xs : List D) : Option D := if xs.length ≤ sizeLine then some (.lst xs) else none
theorem rep_new_tup {ρ : Rho} {K : PySem.W.Frag} {H : Hp} {G : Addr → Bool} {p : Addr} {vs : List V} {ds : List D} (hp : H p = none) (hG : G p = false) (h : Reps ρ K (hid H G) ds vs) : Rep ρ K (hid (upd H p (.tup vs)) G) (.tup ds) (.ref p) :=
  rep_tup.mpr ⟨p, vs, rfl, SqT.of (hid_some.mpr ⟨hG, upd_same⟩), h.mono (same_hid (same_upd hp))⟩
theorem rep_new_lst {ρ : Rho} {K : PySem.W.Frag} {H : Hp} {G : Addr → Bool} {p : Addr} {vs : List V} {ds : List D} (hp : H p = none) (hG : G p = false) (h : Reps ρ K (hid H G) ds vs) : Rep ρ K (hid (upd H p (.lst vs)) G) (.lst ds) (.ref p) :=
  rep_lst.mpr ⟨p, vs, rfl, SqL.of (hid_some.mpr ⟨hG, upd_same⟩), h.mono (same_hid (same_upd hp))⟩
theorem de_lst (h : DA X O E es fl) : DE X O E (.List es pos) (fL gLstD fl) := by
  rintro pins s σ H Q I ⟨ρ, H₀, F, δ, rr, R, hf, k⟩
  refine pe_lst h pins s σ H Q I ?_
  rcases M.b_inv hf with ⟨x, e1, hf⟩ | ⟨x, e1, rfl⟩
  · refine ⟨ρ, H₀, F, δ, .ok x, R, e1, fun u H1 s1 r1 => ?_⟩
    obtain ⟨d, hd, rfl⟩ := M.o_inv hf
    unfold gLstD at hd
    split at hd
    · rename_i hz
      cases hd
      exact ⟨by rw [r1.length]; exact hz, fun p hp => k _ _ (s1.trans (same_upd hp)) (rep_new_lst hp ((R.mono s1).fresh hp) r1)⟩
    · cases hd
  · exact ⟨ρ, H₀, F, δ, .error x, R, e1, k⟩
noncomputable def fAnd (fa fb : DSt → M D) : DSt → M D := fun δ => (fa δ).b fun x => match x with
  | .bl true => fb δ
  | .bl false => M.p (.bl false)
  | _ => none
noncomputable def fOr (fa fb : DSt → M D) : DSt → M D := fun δ => (fa δ).b fun x => match x with
  | .bl true => M.p (.bl true)
  | .bl false => fb δ
  | _ => none
noncomputable def gNot : D → Option D
  | .bl b => some (.bl !b)
  | _ => none
noncomputable def tAnd (ta tb : DSt → M Bool) : DSt → M Bool := fun δ => (ta δ).b fun x => if x = true then tb δ else M.p false
noncomputable def tOr (ta tb : DSt → M Bool) : DSt → M Bool := fun δ => (ta δ).b fun x => if x = true then M.p true else tb δ
noncomputable def tNot (ta : DSt → M Bool) : DSt → M Bool := fun δ => (ta δ).b fun x => M.p !x
noncomputable def fIf (tc : DSt → M Bool) (fa fb : DSt → M D) : DSt → M D := fun δ => (tc δ).b fun x => if x = true then fa δ else fb δ
variable {rest : List Expr} {ta tb' tc : DSt → M Bool}
theorem de_one {op} (h : DE X O E a fa) : DE X O E (.BoolOp op [a] pos) fa := fun pins s σ H Q I hw => pe_one h pins s σ H Q I hw
theorem de_and (ha : DE X O E a fa) (hb : DE X O E (.BoolOp .And (b :: rest) pos) fb) : DE X O E (.BoolOp .And (a :: b :: rest) pos) (fAnd fa fb) := by
  rintro pins s σ H Q I ⟨ρ, H₀, F, δ, rr, R, hf, k⟩
  refine pe_and ha hb pins s σ H Q I ?_
  rcases M.b_inv hf with ⟨x, e1, hf⟩ | ⟨x, e1, rfl⟩
  · refine ⟨ρ, H₀, F, δ, .ok x, R, e1, fun u H1 s1 r1 => ?_⟩
    cases x with
    | bl z =>
      refine ⟨z, rep_bl.mp r1, ?_⟩
      cases z with
      | true =>
        refine iteT ⟨ρ, H₀, F, δ, rr, R.mono s1, hf, ?_⟩
        cases rr with
        | ok d => exact fun v H' s' r' => k v H' (s1.trans s') r'
        | error y => exact k
      | false =>
        refine iteF ?_
        cases hf
        exact k _ H1 s1 (rep_bl.mpr rfl)
    | _ => cases hf
  · exact ⟨ρ, H₀, F, δ, .error x, R, e1, k⟩
theorem de_not (ha : DE X O E a fa) : DE X O E (.UnaryOp .Not a pos) (f1 gNot fa) := by
  rintro pins s σ H Q I ⟨ρ, H₀, F, δ, rr, R, hf, k⟩
  refine pe_not ha pins s σ H Q I ?_
  rcases M.b_inv hf with ⟨x, e1, hf⟩ | ⟨x, e1, rfl⟩
  · refine ⟨ρ, H₀, F, δ, .ok x, R, e1, fun u H1 s1 r1 => ?_⟩
    cases x with
    | bl z => cases hf; exact ⟨z, rep_bl.mp r1, k _ H1 s1 (rep_bl.mpr rfl)⟩
    | _ => cases hf
  · exact ⟨ρ, H₀, F, δ, .error x, R, e1, k⟩
noncomputable def DW (X : Cx) (O : List Nat) (E : XK) (e : Expr) (f : DSt → M Bool) : Prop := PW X e (tB X.K O E f)
theorem DW.dt {f : DSt → M Bool} (h : DW X O E e f) : DT X O E e f := PW.pt h
theorem dw_or1 (ha : DT X O E a ta) : DW X O E (.BoolOp .Or [a] pos) ta := pw_or1 ha
theorem dw_or (ha : DT X O E a ta) (hb : DW X O E (.BoolOp .Or (b :: rest) pos) tb') : DW X O E (.BoolOp .Or (a :: b :: rest) pos) (tOr ta tb') := by
  rintro wh pins s σ H Q I ⟨ρ, H₀, F, δ, rr, R, hf, k⟩
  refine pw_or ha hb wh pins s σ H Q I ?_
  rcases M.b_inv hf with ⟨x, e1, hf⟩ | ⟨x, e1, rfl⟩
  · refine ⟨ρ, H₀, F, δ, .ok x, R, e1, fun H1 s1 => ?_⟩
    cases x with
    | true => cases hf; exact iteT (k H1 s1)
    | false =>
      refine iteF ⟨ρ, H₀, F, δ, rr, R.mono s1, hf, ?_⟩
      cases rr with
      | ok d => exact fun H' s' => k H' (s1.trans s')
      | error y => exact k
  · exact ⟨ρ, H₀, F, δ, .error x, R, e1, k⟩
theorem dt_not (ha : DT X O E a ta) : DT X O E (.UnaryOp .Not a pos) (tNot ta) := by
  rintro pins s σ H Q I ⟨ρ, H₀, F, δ, rr, R, hf, k⟩
  refine pt_not ha pins s σ H Q I ?_
  rcases M.b_inv hf with ⟨x, e1, hf⟩ | ⟨x, e1, rfl⟩
  · cases hf
    exact ⟨ρ, H₀, F, δ, .ok x, R, e1, fun H1 s1 => k H1 s1⟩
  · exact ⟨ρ, H₀, F, δ, .error x, R, e1, k⟩
noncomputable def truD : D → Option Bool
  | .non => some false
  | .bl b => some b
  | .int i => some (i != 0)
  | .str x => if x.length ≤ sizeLine then some ((x.length : Int) != 0) else none
  | .tup xs => some !xs.isEmpty
  | .lst xs => some !xs.isEmpty
  | _ => none
noncomputable def tTru (fa : DSt → M D) : DSt → M Bool := fun δ => (fa δ).b fun x => M.o (truD x)
theorem isE {ρ : Rho} {K : PySem.W.Frag} {H : Hp} {ds : List D} {xs : List V} (h : Reps ρ K H ds xs) : xs.isEmpty = ds.isEmpty := by
  cases ds with
  | nil => rw [reps_nil.mp h]; rfl
  | cons d ds => obtain ⟨v, r, rfl, _⟩ := reps_cons.mp h; rfl
theorem dt_val (ha : DE X O E a fa) (he : autoParam (∀ whole, isTrue a X.env whole = (do let v ← whole; standAt a.pos; holding [v] (truthy v))) zau6._auto_1) : DT X O E a (tTru fa) := by
  rintro pins s σ H Q I ⟨ρ, H₀, F, δ, rr, R, hf, k⟩
  refine pt_truth ha he pins s σ H Q I ?_
  rcases M.b_inv hf with ⟨x, e1, hf⟩ | ⟨x, e1, rfl⟩
  · refine ⟨ρ, H₀, F, δ, .ok x, R, e1, fun u H1 s1 r1 => ?_⟩
    obtain ⟨z, hz, rfl⟩ := M.o_inv hf
    refine ⟨z, ?_, k H1 s1⟩
    cases x with
    | non => cases hz; rw [rep_non.mp r1]; rfl
    | bl y => cases hz; rw [rep_bl.mp r1]; rfl
    | int i => cases hz; rw [rep_int.mp r1]; rfl
    | str y =>
      by_cases hl : y.length ≤ sizeLine
      · have e : truD (.str y) = some ((y.length : Int) != 0) := if_pos hl
        rw [e] at hz; cases hz
        rw [rep_str.mp r1]; exact ⟨hl, rfl⟩
      · have e : truD (.str y) = none := if_neg hl
        rw [e] at hz; cases hz
    | tup ds =>
      cases hz
      obtain ⟨q, xs, rfl, q2, q3⟩ := rep_tup.mp r1
      exact .inr (.inl ⟨xs, same_t same_un q2, by rw [isE q3]⟩)
    | lst ds =>
      cases hz
      obtain ⟨q, xs, rfl, q2, q3⟩ := rep_lst.mp r1
      exact .inl ⟨xs, same_l same_un q2, by rw [isE q3]⟩
    | ty n => cases hz
    | obj n => cases hz
  · exact ⟨ρ, H₀, F, δ, .error x, R, e1, k⟩
end
end DL
namespace DL
open PySem PySem.Spec L2
inductive Out where
  | nx (δ : DSt) | rt (d : D) | bk (δ : DSt) | ct (δ : DSt)
noncomputable def Ok (ρ : Rho) (K : PySem.W.Frag) (O' B : List Nat) (E : XK) (H₀ : Hp) (F : Addr → Bool) (Hv : Hp) (Dn : Ends) : Except XD Out → Prop
  | .ok (.nx δ') => ∀ σ' H', Same Hv (hid H' (fob F σ' O')) → RS ρ K H₀ H' F O' σ' δ' → Dn.nx σ' H'
  | .ok (.rt d) => ∀ v H', Same H₀ H' → Rep ρ K (hid H' F) d v → Dn.rt v H'
  | .ok (.bk δ') => ∀ σ' H', Same Hv (hid H' (fob F σ' B)) → RS ρ K H₀ H' F B σ' δ' → Dn.bk σ' H'
  | .ok (.ct δ') => ∀ σ' H', Same Hv (hid H' (fob F σ' B)) → RS ρ K H₀ H' F B σ' δ' → Dn.ct σ' H'
  | .error x => okX K H₀ E x
inductive sD (K : PySem.W.Frag) (O O' B : List Nat) (E : XK) (g : DSt → M Out) (Dn : Ends) (σ : St) (H : Hp) : Prop
  | mk (ρ : Rho) (H₀ : Hp) (F : Addr → Bool) (δ : DSt) (r : Except XD Out) (R : RS ρ K H₀ H F O σ δ) (hf : g δ = some r) (k : Ok ρ K O' B E H₀ F (hid H (fob F σ O)) Dn r)
noncomputable def DS (X : Cx) (O O' B : List Nat) (E : XK) (st : Stmt) (g : DSt → M Out) : Prop := PS X st (sD X.K O O' B E g)
noncomputable def DSs (X : Cx) (O O' B : List Nat) (E : XK) (st : List Stmt) (g : DSt → M Out) : Prop := PSs X st (sD X.K O O' B E g)
theorem Ok.back {ρ : Rho} {K : PySem.W.Frag} {O' B : List Nat} {E : XK} {H₀ : Hp} {F : Addr → Bool} {Hv Hv' : Hp} {Dn : Ends} {r : Except XD Out} (e : Same Hv Hv') (h : Ok ρ K O' B E H₀ F Hv Dn r) : Ok ρ K O' B E H₀ F Hv' Dn r := by
  cases r with
  | error x => exact h
  | ok o =>
    cases o with
    | nx δ' => exact fun σ' H' f => h σ' H' (e.trans f)
    | bk δ' => exact fun σ' H' f => h σ' H' (e.trans f)
    | ct δ' => exact fun σ' H' f => h σ' H' (e.trans f)
    | rt d => exact h
noncomputable def gNx : DSt → M Out := fun δ => M.p (.nx δ)
noncomputable def gSeq (g1 g2 : DSt → M Out) : DSt → M Out := fun δ => (g1 δ).b fun o => match o with
  | .nx δ' => g2 δ'
  | o => M.p o
noncomputable def gSet (i : Nat) (f : DSt → M D) : DSt → M Out := fun δ => (f δ).b fun d => M.p (.nx (δ.set i (some d)))
noncomputable def gRet (f : DSt → M D) : DSt → M Out := fun δ => (f δ).b fun d => M.p (.rt d)
noncomputable def gDrop (f : DSt → M D) : DSt → M Out := fun δ => (f δ).b fun _ => M.p (.nx δ)
noncomputable def gIf (t : DSt → M Bool) (g1 g2 : DSt → M Out) : DSt → M Out := fun δ => (t δ).b fun b => if b = true then g1 δ else g2 δ
noncomputable def gBrk : DSt → M Out := fun δ => M.p (.bk δ)
noncomputable def gCnt : DSt → M Out := fun δ => M.p (.ct δ)
noncomputable def gApp (i : Nat) (f : DSt → M D) : DSt → M Out := fun δ => (f δ).b fun d => match (δ[i]?).join with
  | some (.lst ds) => if ds.length < sizeLine then M.p (.nx (δ.set i (some (.lst (ds ++ [d]))))) else none
  | _ => none
noncomputable def forD (g : DSt → M Out) (tg : D → DSt → Option DSt) : List D → DSt → M Out
  | [], δ => M.p (.nx δ)
  | d :: ds, δ => match tg d δ with
    | none => none
    | some δ1 => (g δ1).b fun o => match o with
      | .nx δ' => forD g tg ds δ'
      | .ct δ' => forD g tg ds δ'
      | .bk δ' => M.p (.nx δ')
      | .rt v => M.p (.rt v)
noncomputable def gFor (fi : DSt → M (List D)) (tg : D → DSt → Option DSt) (g : DSt → M Out) : DSt → M Out := fun δ => (fi δ).b fun ds => forD g tg ds δ
section
variable {ρ : Rho} {X : Cx} {O O' O'' B : List Nat} {E : XK} {a b c e : Expr} {es : List Expr} {fa fb fc : DSt → M D} {fl : DSt → M (List D)} {pos : Pos} {st : Stmt} {rest : List Stmt} {g g1 g2 : DSt → M Out} {tc : DSt → M Bool}
theorem dss_nil : DSs X O O B E [] gNx := by
  rintro pins s σ H Dn I ⟨ρ, H₀, F, δ, r, R, hf, h⟩
  cases hf
  exact pss_nil pins s σ H Dn I (h σ H (Same.refl _) R)
theorem dss_cons (h1 : DS X O O' B E st g1) (h2 : DSs X O' O'' B E rest g2) : DSs X O O'' B E (st :: rest) (gSeq g1 g2) := by
  rintro pins s σ H Dn I ⟨ρ, H₀, F, δ, r, R, hf, h⟩
  refine pss_cons h1 h2 pins s σ H Dn I ?_
  rcases M.b_inv hf with ⟨o, e1, hf⟩ | ⟨x, e1, rfl⟩
  · refine ⟨ρ, H₀, F, δ, .ok o, R, e1, ?_⟩
    cases o with
    | nx δ' => exact fun σ' H' f R' => ⟨ρ, H₀, F, δ', r, R', hf, h.back f⟩
    | rt d => cases hf; exact h
    | bk δ' => cases hf; exact h
    | ct δ' => cases hf; exact h
  · exact ⟨ρ, H₀, F, δ, .error x, R, e1, h⟩
theorem dss_one (h1 : DS X O O' B E st g) : DSs X O O' B E [st] g := fun pins s σ H Dn I h => pss_one h1 pins s σ H Dn I h
theorem same_fob {F : Addr → Bool} {σ : St} {H H' : Hp} {i : Nat} {v : V} (ho : i ∉ O) (s1 : Same H H') : Same (hid H (fob F σ O)) (hid H' (fob F (σ.set i (some v)) O)) := by
  rw [ownA_set ho]; exact same_hid s1
theorem ds_set {i : Nat} {x : Str} {pos' : Pos} (hN : X.N.Nodup) (he : DE X O E e fa) (ho : autoParam (O.contains i = false) zau2._auto_1) (hi : autoParam (X.N[i]? = some x) zau2._auto_1) (hx : autoParam (Loc X.env.scope x) zau7._auto_1) (hs : autoParam (swapsWith e (some (.Name x pos')) pos.line X.env = pure false) zau2._auto_1)
    (hf : autoParam (X.fn x = true ∨ X.env.scope.names.lookup x = some .local) zau0._auto_1) : DS X O O B E (.Assign [.Name x pos'] e pos) (gSet i fa) := by
  rintro pins s σ H Dn I ⟨ρ, H₀, F, δ, r, R, hg, k⟩
  have ho' : i ∉ O := fun z => by rw [List.contains_iff_mem.mpr z] at ho; cases ho
  refine ps_set hN hi hx he hs hf pins s σ H Dn I ?_
  rcases M.b_inv hg with ⟨d, e1, hg⟩ | ⟨y, e1, rfl⟩
  · cases hg
    exact ⟨ρ, H₀, F, δ, .ok d, R, e1, fun v H' s' r' => k _ H' (same_fob ho' s') ((R.mono s').set ho' r')⟩
  · exact ⟨ρ, H₀, F, δ, .error y, R, e1, k⟩
theorem ds_ret (he : DE X O E e fa) : DS X O O' B E (.Return (some e) pos) (gRet fa) := by
  rintro pins s σ H Dn I ⟨ρ, H₀, F, δ, r, R, hg, k⟩
  refine ps_ret he pins s σ H Dn I ?_
  rcases M.b_inv hg with ⟨d, e1, hg⟩ | ⟨y, e1, rfl⟩
  · cases hg
    exact ⟨ρ, H₀, F, δ, .ok d, R, e1, fun v H' s' r' => k v H' (R.same.trans s') (r'.mono (hid_le fun b q => fob_t.mpr (.inl q)))⟩
  · exact ⟨ρ, H₀, F, δ, .error y, R, e1, k⟩
theorem ds_if {s1 s2 : List Stmt} (hc : DT X O E c tc) (h1 : DSs X O O' B E s1 g1) (h2 : DSs X O O' B E s2 g2) : DS X O O' B E (.If c s1 s2 pos) (gIf tc g1 g2) := by
  rintro pins s σ H Dn I ⟨ρ, H₀, F, δ, r, R, hg, k⟩
  refine ps_if hc h1 h2 pins s σ H Dn I ?_
  rcases M.b_inv hg with ⟨z, e1, hg⟩ | ⟨y, e1, rfl⟩
  · refine ⟨ρ, H₀, F, δ, .ok z, R, e1, fun H1 s1 => ?_⟩
    cases z with
    | true => exact iteT ⟨ρ, H₀, F, δ, r, R.mono s1, hg, k.back (same_hid s1)⟩
    | false => exact iteF ⟨ρ, H₀, F, δ, r, R.mono s1, hg, k.back (same_hid s1)⟩
  · exact ⟨ρ, H₀, F, δ, .error y, R, e1, k⟩
inductive tG (K : PySem.W.Frag) (O : List Nat) (h : D → DSt → Option DSt) (v : V) (σ : St) (H : Hp) (Q : St → Hp → Prop) : Prop
  | mk (ρ : Rho) (H₀ : Hp) (F : Addr → Bool) (δ : DSt) (d : D) (δ' : DSt) (R : RS ρ K H₀ H F O σ δ) (hr : Rep ρ K (hid H (fob F σ O)) d v) (hf : h d δ = some δ') (k : ∀ σ', fob F σ' O = fob F σ O → RS ρ K H₀ H F O σ' δ' → Q σ' H)
noncomputable def DG (X : Cx) (O : List Nat) (tg : Expr) (h : D → DSt → Option DSt) : Prop := PG X tg (tG X.K O h)
noncomputable def gName (i : Nat) : D → DSt → Option DSt := fun d δ => some (δ.set i (some d))
noncomputable def gTup2 (i j : Nat) : D → DSt → Option DSt := fun d δ => match d with
  | .tup [x, y] => some ((δ.set i (some x)).set j (some y))
  | _ => none
theorem dg_name {i : Nat} {x : Str} (hN : X.N.Nodup) (ho : autoParam (O.contains i = false) zau2._auto_1) (hi : autoParam (X.N[i]? = some x) zau2._auto_1) (hx : autoParam (Loc X.env.scope x) zau7._auto_1)
    (hf : autoParam (X.fn x = true ∨ X.env.scope.names.lookup x = some .local) zau0._auto_1) : DG X O (.Name x pos) (gName i) := by
  rintro pins s σ H v u Q I r ⟨ρ, H₀, F, δ, d, δ', R, rd, e, k⟩
  have ho' : i ∉ O := fun z => by rw [List.contains_iff_mem.mpr z] at ho; cases ho
  cases e
  exact pg_name hN hi hx hf pins s σ H v u Q I r (k _ (ownA_set ho') (R.set ho' rd))
noncomputable def ItD (ρ : Rho) (K : PySem.W.Frag) (J : It) (ds : List D) (Hv : Hp) : Prop := ∀ (H' : Hp) (G' : Addr → Bool) (i : Nat), Same Hv (hid H' G') → (∀ p, H' p = none → G' p = false) →
  (i < ds.length → J.go i H' ∧ ∀ x H2, J.yld i H' x H2 → Same H' H2 ∧ ∃ d, ds[i]? = some d ∧ Rep ρ K (hid H2 G') d x) ∧ (i = ds.length → J.stop i H')
inductive tI (K : PySem.W.Frag) (O : List Nat) (E : XK) (f : DSt → M (List D)) (σ : St) (H : Hp) (Q : It → Hp → Prop) : Prop
  | mk (ρ : Rho) (H₀ : Hp) (F : Addr → Bool) (δ : DSt) (r : Except XD (List D)) (R : RS ρ K H₀ H F O σ δ) (hf : f δ = some r) (k : match (generalizing := false) r with
    | .ok ds => ∀ J H', Same H H' → ItD ρ K J ds (hid H' (fob F σ O)) → Q J H'
    | .error x => okX K H₀ E x)
noncomputable def DI (X : Cx) (O : List Nat) (E : XK) (tg iter : Expr) (f : DSt → M (List D)) : Prop := PI X tg iter (tI X.K O E f)
end
end DL
namespace L2
open PySem PySem.Spec PyProof.Rows
section
variable {prog : Program} {w : World} {A : Around} {E : Value → Shared → Prop} {s : Shared}
structure ZFar (z TI TO i1 i2 : Addr) : Prop where
  a1 : TI ≠ z
  a2 : TO ≠ z
  a3 : i1 ≠ z
  a4 : i2 ≠ z
  a5 : TI ≠ TO
  a6 : TI ≠ i1
  a7 : TI ≠ i2
  a8 : TO ≠ i1
  a9 : TO ≠ i2
  a10 : i1 ≠ i2
end
end L2
namespace L2
open PySem PySem.Spec PyProof.Rows
section
variable {X : Cx} {pins : List (Addr × Obj)} {σ : St} {H : Hp} {s : Shared}
theorem Inv.spun0 {fp : List Addr} {h' : Heap} {t' : Nat} (I : Inv X pins σ H s) (hf : ∀ b ∈ fp, FpOk X pins H b) (k : ∀ b o, b ∉ fp → s.heap.get? b = some o → h'.get? b = some o) : Inv X pins σ H { s with heap := h', toks := t' } := by
  have nf : ∀ b u, H b = some u → b ∉ fp := fun b u e z => by rw [(hf b z).1] at e; cases e
  refine I.step (g' := s.gens) (d' := s.drawn) (ch := fp) (fun b hb => ?_) (fun b o _ _ hc e _ => k b o hc e) (fun b o _ _ hc e _ => ⟨o.slots, k b o hc e⟩) (fun b o _ e n => n)
    (fun b o hc e => ⟨o, k b o hc e⟩) (fun b xs e => e) (fun b o u e => e) (fun b ps e => ⟨#[], by rw [e]; simp⟩) (fun m hm => ?_) (fun b u e => ?_) I.bare
  · obtain ⟨_, f1, _, f3, f4, f5⟩ := hf b hb
    exact ⟨f3, f1, f4, f5⟩
  · obtain ⟨o, es, ep, ho, r⟩ := hm
    exact ⟨o, es, ep, k _ o (fun z => (hf _ z).2.1 rfl) ho, r⟩
  · refine (I.hok b u e).stay (fun c v hc q => k c v ?_ q) (fun c q => q) fun c xs q => q
    rcases hc with z | z
    · rw [z]; exact nf b u e
    · exact nf c _ z
end
section
variable {X : Cx}
end
section
variable {X : Cx}
end
end L2
namespace L2
open PySem PySem.Spec PyProof.Rows
noncomputable def iSeq (K : PySem.W.Frag) (tl : TE) : TI := fun σ H R => tl σ H fun x H1 => (∃ a, x = .ref a ∧ (∃ xs, SqL K H1 a xs) ∧ R (Itl K a) H1) ∨ (∃ a, x = .ref a ∧ (∃ xs, SqT K H1 a xs) ∧ R (Itt K a) H1)
theorem pi_seq {X : Cx} {tg l : Expr} {tl : TE} (hl : PE X l tl) : PI X tg l (iSeq X.K tl) := by
  intro pins s σ H R I h
  refine thn (hl pins s σ H _ I h) fun v s1 hzz => ?_
  obtain ⟨x, H1, I1, r1, q1⟩ := hzz
  have fp1 : ∀ b ∈ [s1.heap.objs.size], FpOk X pins H1 b := fun b hb => by
    have e : b = s1.heap.objs.size := by simpa using hb
    subst e
    exact I1.fpOk (Nat.le_refl _) (I1.hok.fresh (Nat.le_refl _))
  rcases q1 with ⟨a, e, ⟨xs, hq⟩, q⟩ | ⟨a, e, ⟨xs, hq⟩, q⟩
  · subst e
    cases r1
    obtain ⟨its, rv, p, hz⟩ := I1.list hq
    exact wpAny_pyIter_list p.isList ⟨s1.heap.objs.size, [s1.heap.objs.size], _, _, H1, rfl, I1.kept (t' := s1.toks) fun b o e => Heap.get?_push_of_some _ e, turn_list a _, ⟨_, Heap.get?_push_size _ rfl, rfl, rfl⟩, fp1, q⟩
  · subst e
    cases r1
    obtain ⟨its, rv, p, hz⟩ := I1.tuple hq
    exact wpAny_pyIter_tuple (show s1.heap.IsTuple a its.toArray from p) ⟨s1.heap.objs.size, [s1.heap.objs.size], _, _, H1, rfl, I1.kept (t' := s1.toks) fun b o e => Heap.get?_push_of_some _ e, turn_tuple a _, ⟨_, Heap.get?_push_size _ rfl, rfl, rfl⟩, fp1, q⟩
noncomputable def Itv (val : Nat → V) (n : Nat) : It := ⟨fun i _ => i < n, fun i H x H' => H' = H ∧ x = val i, fun i _ => i = n⟩
noncomputable def plainIter (nm : String) : Bool := !["enumerate", "zip", "dict_itemiterator", "dict_reverseitemiterator", "odict_iterator", "itertools.zip_longest", "itertools.pairwise"].contains nm
theorem turn_walk {P : Program} {w : World} {K : PySem.W.Frag} {tg : Expr} (it : Addr) (val : Nat → V) (n : Nat) (Stn : Nat → Heap → Prop) (W : ∀ A : Around, A.handled = none → Walks P w A it [it] [it] n (fun i v => RelV (val i) v) Stn)
    (ob : ∀ i h, Stn i h → ∃ o nm vs, h.get? it = some o ∧ o.cls = .type nm ∧ o.data = .fields vs ∧ plainIter nm = true)
    (sf : ∀ (A : Around) (i : Nat) (s : Shared) (Q : Value → Shared → Prop) (E : Value → Shared → Prop), Stn i s.heap → Q (.ref it) s → wpAny (model P w) A (pyIter (.ref it)) Q E s) : Turn P w K tg (Itv val n) [it] it Stn where
  mem := by simp
  obj := fun i h st b hb => by
    have e : b = it := by simpa using hb
    subst e
    obtain ⟨o, nm, vs, q1, _, q3, _⟩ := ob i h st
    exact ⟨o, q1, fun v z => by rw [q3] at z; cases z⟩
  keep := fun i h h' st k => (W { handled := none, frames := some [] } rfl).frame i h h' st k
  item := by
    intro X hP hw hK hc i pins s σ H E I hf st hg
    subst hP hw hK
    refine (W X.A (I.ok.hd hc)).item i s _ _ hg st fun v h' tk hv st' kk => ⟨v, rfl, ?_⟩
    obtain ⟨o, nm, vs, q1, q2, q3, q4⟩ := ob _ _ st'
    have I1 : Inv X pins σ H { s with heap := h', toks := tk } := I.spun0 hf kk
    exact go_of (s := { s with heap := h', toks := tk }) q1 q2 q3 (by unfold plainIter at q4; simpa using q4) ⟨val i, H, I1, hv, ⟨rfl, rfl⟩, st', fun b hb => (hf b hb).1⟩
  done := by
    intro X hP hw hK hc i pins s σ H E I hf st hg
    subst hP hw hK
    have hg' : i = n := hg
    subst hg'
    exact (W X.A (I.ok.hd hc)).done s _ _ st fun h' tk kk => ⟨rfl, I.spun0 hf kk⟩
  self := fun A i s Q E st h => sf A i s Q E st h
section
variable {X : Cx} {tg : Expr}
theorem range_any {pins : List (Addr × Obj)} {σ : St} {H : Hp} {s : Shared} {R : It → Hp → Prop} {E : Value → Shared → Prop} {lo hi st : Int} {t u v : Tok} {tk : Nat} (I : Inv X pins σ H s) (hst : st = 1)
    (q : R (Itv (fun i => .int (lo + (i : Nat) * st)) (Builtin.Range.rangeSize lo hi st).toNat) H) : wpAny (model X.prog X.w) X.A (pyIter (.ref s.heap.objs.size)) (PIE X pins σ tg R) E { s with heap := s.heap.push { cls := .type "range", data := .fields #[.int lo t, .int hi u, .int st v] }, toks := tk } := by
  have I1 : Inv X pins σ H { s with heap := s.heap.push { cls := .type "range", data := .fields #[.int lo t, .int hi u, .int st v] }, toks := tk } := I.kept fun b o e => Heap.get?_push_of_some _ e
  subst hst
  have hn : 0 ≤ Builtin.Range.rangeSize lo hi 1 := by rw [rangeSize_one]; split <;> omega
  generalize hN : (Builtin.Range.rangeSize lo hi 1).toNat = N at q
  have hN' : Builtin.Range.rangeSize lo hi 1 = (N : Int) := by omega
  have fpk : ∀ b ∈ [(s.heap.push { cls := .type "range", data := .fields #[.int lo t, .int hi u, .int 1 v] }).objs.size], FpOk X pins H b := fun b hb => by
    have e : b = (s.heap.push { cls := .type "range", data := .fields #[.int lo t, .int hi u, .int 1 v] }).objs.size := by simpa using hb
    subst e
    exact I1.fpOk (Nat.le_refl _) (I1.hok.fresh (Nat.le_refl _))
  by_cases hsm : Builtin.Range.small lo hi 1 = true
  · refine wpAny_pyIter_range (IsRange.new ..) hsm ?_
    refine ⟨_, [_], _, _, H, rfl, I1.kept (t' := tk) fun b o e => Heap.get?_push_of_some _ e, turn_walk _ _ N _ (fun A hA => Walks.range hA _ lo 1 N) (fun i h e => ⟨_, _, _, e, rfl, rfl, rfl⟩) (fun A i s Q E e h => wpAny_pyIter_rangeiter e h), ?_, fpk, q⟩
    show IsRangeIter _ _ (lo + ((0 : Nat) : Int) * 1) ((N : Int) - ((0 : Nat) : Int)) 1
    rw [← hN']
    have e1 : lo + ((0 : Nat) : Int) * 1 = lo := by simp
    have e2 : Builtin.Range.rangeSize lo hi 1 - ((0 : Nat) : Int) = Builtin.Range.rangeSize lo hi 1 := by simp
    rw [e1, e2]
    exact Heap.get?_push_size _ rfl
  · refine wpAny_pyIter_longrange (IsRange.new ..) (by simpa using hsm) ?_
    refine ⟨_, [_], _, _, H, rfl, I1.kept (t' := tk) fun b o e => Heap.get?_push_of_some _ e, turn_walk _ _ N _ (fun A hA => Walks.longrange hA _ lo 1 N) (fun i h e => ⟨_, _, _, e, rfl, rfl, rfl⟩) (fun A i s Q E e h => wpAny_pyIter_longiter e h), ?_, fpk, q⟩
    show IsLongIter _ _ (lo + ((0 : Nat) : Int) * 1) ((N : Int) - ((0 : Nat) : Int)) 1
    rw [← hN']
    have e1 : lo + ((0 : Nat) : Int) * 1 = lo := by simp
    have e2 : Builtin.Range.rangeSize lo hi 1 - ((0 : Nat) : Int) = Builtin.Range.rangeSize lo hi 1 := by simp
    rw [e1, e2]
    exact Heap.get?_push_size _ rfl
noncomputable def iRgA (ta : TA) : TI := fun σ H R => ta σ H fun vs H1 => (∃ j : Int, vs = [.int j] ∧ R (Itv (fun i => .int (0 + (i : Nat) * 1)) (Builtin.Range.rangeSize 0 j 1).toNat) H1) ∨
  (∃ i j : Int, vs = [.int i, .int j] ∧ R (Itv (fun n => .int (i + (n : Nat) * 1)) (Builtin.Range.rangeSize i j 1).toNat) H1)
theorem pi_range {a : Expr} {es : List Expr} {ta : TA} {p pos : Pos} (hg : Gl X "range") (hm : X.mg "range" = none) (ha : PA X (a :: es) ta) (hs : autoParam (starEach (a :: es) X.env = (false, eval a X.env) :: starEach es X.env) zau2._auto_1) (hp : autoParam ((backTo pos (starEach es X.env)).any (·.1) = false) zau2._auto_1) :
    PI X tg (.Call (.Name "range" p) (a :: es) [] pos) (iRgA ta) := by
  intro pins s σ H R I h
  refine Call_ (ld_blt I hg hm boot_range (PyProof.Rows.callWith_type1 (thn (ha pos pins s σ H _ I h) fun us s1 hzz => ?_) hs hp))
  obtain ⟨vs, H1, I1, r1, q1⟩ := hzz
  rcases q1 with ⟨j, e, q⟩ | ⟨i, j, e, q⟩
  · subst e
    obtain ⟨u, rfl, t, rfl⟩ := r1.one
    exact call_range_1 (range_any I1 rfl q)
  · subst e
    obtain ⟨u, v, rfl, ⟨t, rfl⟩, ⟨t', rfl⟩⟩ := r1.two
    exact call_range_2 (range_any I1 rfl q)
end
end L2
namespace DL
open PySem PySem.Spec L2
noncomputable def seqD : D → Option (List D)
  | .lst ds => some ds
  | .tup ds => some ds
  | _ => none
noncomputable def iSeqD (f : DSt → M D) : DSt → M (List D) := fun δ => (f δ).b fun d => M.o (seqD d)
noncomputable def rangeD (lo : Int) (n : Nat) : List D := (List.range n).map fun i => .int (lo + (i : Nat))
noncomputable def rangeArgs : List D → Option (List D)
  | [.int j] => some (rangeD 0 j.toNat)
  | [.int i, .int j] => some (rangeD i (j - i).toNat)
  | _ => none
noncomputable def enumD : Int → List D → List D
  | _, [] => []
  | k, d :: ds => .tup [.int k, d] :: enumD (k + 1) ds
noncomputable def enumArgs : List D → Option (List D)
  | [.lst xs] => some (enumD 0 xs)
  | _ => none
noncomputable def iArgs (k : List D → Option (List D)) (f : DSt → M (List D)) : DSt → M (List D) := fun δ => (f δ).b fun ds => M.o (k ds)
section
variable {ρ : Rho} {X : Cx} {O : List Nat} {E : XK} {a b tg iter e elt : Expr} {es : List Expr} {fa : DSt → M D} {fl : DSt → M (List D)} {pos p : Pos}
theorem itl_ok {ρ : Rho} {K : PySem.W.Frag} {ds : List D} {Hv : Hp} {l : Addr} {xs : List V} (h : SqL K Hv l xs) (hr : Reps ρ K Hv ds xs) : ItD ρ K (Itl K l) ds Hv := by
  intro H' G' i f hG
  have h' : SqL K H' l xs := same_l (f.trans same_un) h
  refine ⟨fun hi => ?_, fun hi => ⟨xs, h', by rw [hr.length, hi]; exact Nat.le_refl _⟩⟩
  obtain ⟨v, hv, rv⟩ := hr.get (List.getElem?_eq_getElem hi)
  refine ⟨⟨xs, v, h', hv⟩, fun x H2 y => ?_⟩
  obtain ⟨rfl, y⟩ := y
  refine ⟨Same.refl _, _, List.getElem?_eq_getElem hi, ?_⟩
  have := y xs h'
  rw [hv] at this; cases this
  exact rv.mono f
theorem itt_ok {ρ : Rho} {K : PySem.W.Frag} {ds : List D} {Hv : Hp} {l : Addr} {xs : List V} (h : SqT K Hv l xs) (hr : Reps ρ K Hv ds xs) : ItD ρ K (Itt K l) ds Hv := by
  intro H' G' i f hG
  have h' : SqT K H' l xs := same_t (f.trans same_un) h
  refine ⟨fun hi => ?_, fun hi => ⟨xs, h', by rw [hr.length, hi]; exact Nat.le_refl _⟩⟩
  obtain ⟨v, hv, rv⟩ := hr.get (List.getElem?_eq_getElem hi)
  refine ⟨⟨xs, v, h', hv⟩, fun x H2 y => ?_⟩
  obtain ⟨rfl, y⟩ := y
  refine ⟨Same.refl _, _, List.getElem?_eq_getElem hi, ?_⟩
  have := y xs h'
  rw [hv] at this; cases this
  exact rv.mono f
theorem itv_ok {ρ : Rho} {K : PySem.W.Frag} {Hv : Hp} {val : Nat → V} {ds : List D} {n : Nat} (hl : ds.length = n) (hv : ∀ i d, ds[i]? = some d → ∀ H, Rep ρ K H d (val i)) : ItD ρ K (Itv val n) ds Hv := by
  intro H' G' i f hG
  subst hl
  refine ⟨fun hi => ⟨hi, fun x H2 y => ?_⟩, fun hi => hi⟩
  obtain ⟨rfl, rfl⟩ := y
  exact ⟨Same.refl _, _, List.getElem?_eq_getElem hi, hv i _ (List.getElem?_eq_getElem hi) _⟩
theorem di_seq (h : DE X O E iter fa) : DI X O E tg iter (iSeqD fa) := by
  rintro pins s σ H R I ⟨ρ, H₀, F, δ, r, RS0, hf, k⟩
  refine pi_seq h pins s σ H R I ?_
  rcases M.b_inv hf with ⟨d, e1, hf⟩ | ⟨y, e1, rfl⟩
  · refine ⟨ρ, H₀, F, δ, .ok d, RS0, e1, fun v H1 s1 r1 => ?_⟩
    obtain ⟨ds, hd, rfl⟩ := M.o_inv hf
    cases d with
    | lst es =>
      cases hd
      obtain ⟨q, xs, rfl, q2, q3⟩ := rep_lst.mp r1
      exact .inl ⟨q, rfl, ⟨xs, same_l same_un q2⟩, k _ H1 s1 (itl_ok q2 q3)⟩
    | tup es =>
      cases hd
      obtain ⟨q, xs, rfl, q2, q3⟩ := rep_tup.mp r1
      exact .inr ⟨q, rfl, ⟨xs, same_t same_un q2⟩, k _ H1 s1 (itt_ok q2 q3)⟩
    | _ => cases hd
  · exact ⟨ρ, H₀, F, δ, .error y, RS0, e1, k⟩
theorem range_len (lo hi : Int) : (Builtin.Range.rangeSize lo hi 1).toNat = (hi - lo).toNat := by
  rw [rangeSize_one]; split <;> omega
theorem di_range (hg : Gl X "range") (hm : X.mg "range" = none) (ha : DA X O E (a :: es) fl) (hs : autoParam (starEach (a :: es) X.env = (false, eval a X.env) :: starEach es X.env) zau2._auto_1) (hp : autoParam ((backTo pos (starEach es X.env)).any (·.1) = false) zau2._auto_1) :
    DI X O E tg (.Call (.Name "range" p) (a :: es) [] pos) (iArgs rangeArgs fl) := by
  rintro pins s σ H R I ⟨ρ, H₀, F, δ, r, RS0, hf, k⟩
  refine pi_range hg hm ha hs hp pins s σ H R I ?_
  rcases M.b_inv hf with ⟨d, e1, hf⟩ | ⟨y, e1, rfl⟩
  · refine ⟨ρ, H₀, F, δ, .ok d, RS0, e1, fun vs H1 s1 r1 => ?_⟩
    obtain ⟨ds, hd, rfl⟩ := M.o_inv hf
    unfold rangeArgs at hd
    split at hd
    · rename_i j
      cases hd
      obtain ⟨v, r', rfl, q1, q2⟩ := reps_cons.mp r1
      cases reps_nil.mp q2
      cases rep_int.mp q1
      refine .inl ⟨j, rfl, k _ H1 s1 ?_⟩
      refine itv_ok (by unfold rangeD; rw [range_len]; simp) fun i d hd H => ?_
      unfold rangeD at hd
      rw [List.getElem?_map] at hd
      cases q : (List.range j.toNat)[i]? with
      | none => rw [q] at hd; cases hd
      | some m =>
        rw [q] at hd
        have : m = i := by
          have := (List.getElem?_eq_some_iff.mp q).2
          simpa using this.symm
        subst this
        cases hd
        exact rep_int.mpr (by rw [Int.mul_one])
    · rename_i i0 j
      cases hd
      obtain ⟨v, r', rfl, q1, q2⟩ := reps_cons.mp r1
      obtain ⟨v2, r2, rfl, q3, q4⟩ := reps_cons.mp q2
      cases reps_nil.mp q4
      cases rep_int.mp q1
      cases rep_int.mp q3
      refine .inr ⟨i0, j, rfl, k _ H1 s1 ?_⟩
      refine itv_ok (by unfold rangeD; rw [range_len]; simp) fun i d hd H => ?_
      unfold rangeD at hd
      rw [List.getElem?_map] at hd
      cases q : (List.range (j - i0).toNat)[i]? with
      | none => rw [q] at hd; cases hd
      | some m =>
        rw [q] at hd
        have : m = i := by
          have := (List.getElem?_eq_some_iff.mp q).2
          simpa using this.symm
        subst this
        cases hd
        exact rep_int.mpr (by rw [Int.mul_one])
    · cases hd
  · exact ⟨ρ, H₀, F, δ, .error y, RS0, e1, k⟩
noncomputable def compD (h : D → DSt → Option DSt) (tc : DSt → M Bool) (fe : DSt → M D) : List D → DSt → Option (List D)
  | [], _ => some []
  | d :: ds, δ => match h d δ with
    | none => none
    | some δ1 => match tc δ1 with
      | some (.ok true) => (match fe δ1 with
        | some (.ok y) => (compD h tc fe ds δ1).map (y :: ·)
        | _ => none)
      | some (.ok false) => compD h tc fe ds δ1
      | _ => none
noncomputable def innerD (own : Nat) (caps : List (Str × Nat)) (δ : DSt) : DSt := List.replicate own none ++ caps.map fun p => (δ[p.2]?).join
noncomputable def fComp (own : Nat) (caps : List (Str × Nat)) (fi : DSt → M (List D)) (h : D → DSt → Option DSt) (tc : DSt → M Bool) (fe : DSt → M D) : DSt → M D := fun δ => (fi δ).b fun ds => M.o ((compD h tc fe ds (innerD own caps δ)).bind gLstD)
noncomputable def tYes : DSt → M Bool := fun _ => M.p true
noncomputable def DC (X : Cx) (O : List Nat) (E : XK) (ifs : List Expr) (f : DSt → M Bool) : Prop := PC0 X ifs (tB X.K O E f)
theorem dc_none : DC X O E [] tYes := by
  rintro pins s σ H Q I ⟨ρ, H₀, F, δ, r, R, hf, h⟩
  cases hf
  exact pc_none pins s σ H Q I (h H (Same.refl H))
theorem innerD_get {own : Nat} {caps : List (Str × Nat)} {δ : DSt} {i : Nat} {d : D} (h : (innerD own caps δ)[i]? = some (some d)) : ∃ p, caps[i - own]? = some p ∧ own ≤ i ∧ δ[p.2]? = some (some d) := by
  unfold innerD at h
  by_cases hi : i < own
  · rw [List.getElem?_append_left (by simpa using hi), List.getElem?_replicate, if_pos hi] at h
    cases h
  · rw [List.getElem?_append_right (by simpa using hi), List.length_replicate, List.getElem?_map] at h
    cases e : caps[i - own]? with
    | none => rw [e] at h; cases h
    | some p =>
      rw [e] at h
      exact ⟨p, rfl, by omega, join_some (Option.some.inj h)⟩
theorem inner_set {own : Nat} {caps : List (Str × Nat)} {σ : St} {i : Nat} {p : Str × Nat} {v : V} (h : caps[i - own]? = some p) (hi : own ≤ i) (hv : σ[p.2]? = some (some v)) : (innerSt own caps σ)[i]? = some (some v) := by
  unfold innerSt
  rw [List.getElem?_append_right (by simpa using hi), List.length_replicate, List.getElem?_map, h]
  show some ((σ[p.2]?).join) = _
  rw [hv]; rfl
noncomputable def capsFree (O : List Nat) (caps : List (Str × Nat)) : Bool := caps.all fun p => !O.contains p.2
inductive CInv (ρ : Rho) (K : PySem.W.Frag) (H1 : Hp) (F : Addr → Bool) (Dd : Addr) (tot : List D) (cd : DSt → Option (List D)) (σ : St) (H : Hp) : Prop
  | mk (δ : DSt) (done : List D) (zs : List V) (rest : List D) (hR : RS ρ K H1 H F [] σ δ) (hD : H Dd = some (.lst zs)) (hz : Reps ρ K (hid H F) done zs) (hr : cd δ = some rest) (ht : done ++ rest = tot)
theorem de_comp {ifs : List Expr} {scope : Scope} {own : List Str} {caps : List (Str × Nat)} {fi : DSt → M (List D)} {h : D → DSt → Option DSt} {tc : DSt → M Bool} {fe : DSt → M D} (hc : X.calm = true) (ck : CapsOk X scope caps) (hi : DI X O E tg iter fi)
    (hg : ∀ C s0 H0 ex, DG (compCx X scope (own ++ caps.map (·.1)) C s0 H0 ex) [] tg h) (ht : ∀ C s0 H0 ex, DC (compCx X scope (own ++ caps.map (·.1)) C s0 H0 ex) [] E0 ifs tc)
    (he : ∀ C s0 H0 ex, DE (compCx X scope (own ++ caps.map (·.1)) C s0 H0 ex) [] E0 elt fe) (hcf : autoParam (capsFree O caps = true) zau2._auto_1) (hs : autoParam (∀ x, foldedSetIterable iter X.env x = pure x) zau3._auto_1) :
    DE X O E (.ListComp elt [⟨tg, iter, ifs, 0⟩] scope pos) (fComp own.length caps fi h tc fe) := by
  rintro pins s σ H Q I ⟨ρ, H₀, F, δ, r, R, hf, k⟩
  refine pe_comp (own := own) (g := tG X.K [] h) (tc := tB X.K [] E0 tc) (te := tD X.K [] E0 fe) hc ck hi hg ht he hs pins s σ H Q I ?_
  rcases M.b_inv hf with ⟨ds, e1, hf⟩ | ⟨y, e1, rfl⟩
  · refine ⟨ρ, H₀, F, δ, .ok ds, R, e1, fun J H1 s1 it Dd hD => ?_⟩
    obtain ⟨dd, hd, rfl⟩ := M.o_inv hf
    cases hcd : compD h tc fe ds (innerD own.length caps δ) with
    | none => rw [hcd] at hd; cases hd
    | some tot =>
      rw [hcd] at hd
      have hd' : gLstD tot = some dd := hd
      unfold gLstD at hd'
      split at hd'
      · rename_i hz
        cases hd'
        have R1 := R.mono s1
        have pf := R1.fresh hD
        let F' : Addr → Bool := fun b => fob F σ O b || b == Dd
        have F't : ∀ b, F' b = true ↔ fob F σ O b = true ∨ b = Dd := fun b => by show (_ || _) = true ↔ _; rw [Bool.or_eq_true, beq_iff_eq]
        have vis : ∀ {H2 : Hp}, Same H1 H2 → Same (hid H1 (fob F σ O)) (hid H2 F') := fun {H2} e b o q => by
          obtain ⟨q1, q2⟩ := hid_some.mp q
          refine hid_some.mpr ⟨?_, e b o q2⟩
          cases z : F' b with
          | false => rfl
          | true =>
            rcases (F't b).mp z with z | z
            · rw [q1] at z; cases z
            · rw [z, hD] at q2; cases q2
        have R0 : RS ρ X.K H1 (upd H1 Dd (.lst [])) F' [] (innerSt own.length caps σ) (innerD own.length caps δ) := by
          refine ⟨by simp [innerSt, innerD], same_upd hD, fun b hb => ?_, fun i d hd _ => ?_, fun i hi => absurd hi (by simp), fun i hi => absurd hi (by simp)⟩
          · rcases (F't b).mp hb with z | z
            · refine upd_nn fun q => ?_
              rw [R1.fresh q] at z; cases z
            · rw [z, upd_same]; exact fun q => nomatch q
          · obtain ⟨p, p1, p2, p3⟩ := innerD_get hd
            have hO : p.2 ∉ O := fun z => by
              have := List.all_eq_true.mp hcf p (List.mem_of_getElem? p1)
              rw [List.contains_iff_mem.mpr z] at this; cases this
            obtain ⟨v, q1, q2⟩ := R1.val p.2 d p3 hO
            exact ⟨v, inner_set p1 p2 q1, by rw [fob_nil]; exact q2.mono (vis (same_upd hD))⟩
        refine ⟨fun i m σ' H' => m = ds.length - i ∧ i ≤ ds.length ∧ CInv ρ X.K H1 F' Dd tot (compD h tc fe (ds.drop i)) σ' H',
          ⟨ds.length, by simp, Nat.zero_le _, _, [], [], tot, R0, upd_same, Reps.nil, hcd, rfl⟩, ?_⟩
        rintro i m σ' H' ⟨rfl, hil, δ', done, zs, rest, R', hDd, rz, hr, htot⟩
        have fv : Same (hid H1 (fob F σ O)) (hid H' (fob F' σ' [])) := by rw [fob_nil]; exact vis R'.same
        obtain ⟨j1, j2⟩ := it H' (fob F' σ' []) i fv fun p hp => R'.fresh hp
        by_cases hlt : i < ds.length
        · obtain ⟨go, yld⟩ := j1 hlt
          refine .inr ⟨go, CInv ρ X.K H1 F' Dd tot (compD h tc fe (ds.drop (i + 1))),
            fun σ2 H2 q => ⟨ds.length - (i + 1), by omega, rfl, hlt, q⟩, fun x H2 y => ?_⟩
          obtain ⟨s2, d, hd, rd⟩ := yld x H2 y
          have hdr : ds.drop i = d :: ds.drop (i + 1) := by
            rw [List.drop_eq_getElem_cons hlt]
            have : ds[i] = d := by rw [List.getElem?_eq_getElem hlt] at hd; exact Option.some.inj hd
            rw [this]
          rw [hdr] at hr
          unfold compD at hr
          cases e2 : h d δ' with
          | none => rw [e2] at hr; cases hr
          | some δ1 =>
            rw [e2] at hr
            dsimp only at hr
            refine ⟨ρ, H1, F', δ', d, δ1, R'.mono s2, rd, e2, fun σ3 ef R3 => ?_⟩
            have keepD : ∀ {H5 : Hp}, Same H2 H5 → H5 Dd = some (.lst zs) ∧ Reps ρ X.K (hid H5 F') done zs := fun {H5} e => ⟨e _ _ (s2 _ _ hDd), rz.mono (same_hid (s2.trans e))⟩
            split at hr
            · rename_i e3
              refine ⟨ρ, H1, F', δ1, .ok true, R3, e3, fun H4 s4 => iteT ?_⟩
              split at hr
              · rename_i yv e4
                refine ⟨ρ, H1, F', δ1, .ok yv, R3.mono s4, e4, fun v H5 s5 r5 => ?_⟩
                rw [fob_nil] at r5
                obtain ⟨k1, k2⟩ := keepD (s4.trans s5)
                cases e5 : compD h tc fe (ds.drop (i + 1)) δ1 with
                | none => rw [e5] at hr; cases hr
                | some rest' =>
                  rw [e5] at hr
                  have hr' : yv :: rest' = rest := Option.some.inj hr
                  have hFD : F' Dd = true := (F't Dd).mpr (.inr rfl)
                  have hh : hid (upd H5 Dd (.lst (zs ++ [v]))) F' = hid H5 F' := hid_upd hFD
                  refine ⟨zs, k1, ?_, δ1, done ++ [yv], zs ++ [v], rest', ?_, upd_same, ?_, e5, by rw [List.append_assoc, ← htot, ← hr']; rfl⟩
                  · have l1 := k2.length
                    have l2 := congrArg List.length htot
                    rw [List.length_append, ← hr', List.length_cons] at l2
                    omega
                  · have R5 := R3.mono (s4.trans s5)
                    refine ⟨R5.len, same_upd0 R5.same hD, fun b hb => upd_nn (R5.fin b hb), fun j d' hj hO => ?_, fun j hj => absurd hj (by simp), fun j hj => absurd hj (by simp)⟩
                    obtain ⟨v', w1, w2⟩ := R5.val j d' hj hO
                    refine ⟨v', w1, ?_⟩
                    rw [fob_nil] at w2 ⊢
                    rw [hh]; exact w2
                  · rw [hh]
                    exact k2.append (Reps.cons r5 Reps.nil)
              · cases hr
            · rename_i e3
              refine ⟨ρ, H1, F', δ1, .ok false, R3, e3, fun H4 s4 => iteF ?_⟩
              obtain ⟨k1, k2⟩ := keepD s4
              exact ⟨δ1, done, zs, rest, R3.mono s4, k1, k2, hr, htot⟩
            · cases hr
        · have ei : i = ds.length := by omega
          subst ei
          rw [List.drop_length] at hr
          cases hr
          rw [List.append_nil] at htot
          subst htot
          refine .inl ⟨j2 rfl, k _ H' (s1.trans R'.same) ?_⟩
          exact rep_lst.mpr ⟨Dd, zs, rfl, SqL.of (hid_some.mpr ⟨pf, hDd⟩), rz.mono (hid_le fun b q => (F't b).mpr (.inl q))⟩
      · cases hd'
  · exact ⟨ρ, H₀, F, δ, .error y, R, e1, k⟩
end
end DL
namespace DL
open PySem PySem.Spec L2
mutual
noncomputable def okD : D → Bool
  | .ty _ => false
  | .obj _ => false
  | .tup ds => okDs ds
  | .lst ds => okDs ds
  | _ => true
noncomputable def okDs : List D → Bool
  | [] => true
  | d :: ds => okD d && okDs ds
end
mutual
noncomputable def depD : D → Nat
  | .tup ds => depDs ds + 1
  | .lst ds => depDs ds + 1
  | _ => 0
noncomputable def depDs : List D → Nat
  | [] => 0
  | d :: ds => max (depD d) (depDs ds)
end
mutual
noncomputable def eqB : D → D → Bool
  | .non, .non => true
  | .bl a, .bl b => a == b
  | .bl a, .int b => (if a then 1 else 0) == b
  | .int a, .bl b => a == (if b then 1 else 0)
  | .int a, .int b => a == b
  | .str a, .str b => a == b
  | .tup a, .tup b => eqBs a b
  | .lst a, .lst b => eqBs a b
  | _, _ => false
noncomputable def eqBs : List D → List D → Bool
  | [], [] => true
  | a :: as, b :: bs => eqB a b && eqBs as bs
  | _, _ => false
end
mutual
theorem eqB_refl : ∀ d : D, okD d = true → eqB d d = true
  | .non, _ => by unfold eqB; rfl
  | .bl _, _ => by unfold eqB; simp
  | .int _, _ => by unfold eqB; simp
  | .str _, _ => by unfold eqB; simp
  | .ty _, h => by unfold okD at h; cases h
  | .obj _, h => by unfold okD at h; cases h
  | .tup ds, h => by unfold okD at h; unfold eqB; exact eqBs_refl ds h
  | .lst ds, h => by unfold okD at h; unfold eqB; exact eqBs_refl ds h
theorem eqBs_refl : ∀ ds : List D, okDs ds = true → eqBs ds ds = true
  | [], _ => by unfold eqBs; rfl
  | d :: ds, h => by
    unfold okDs at h
    rw [Bool.and_eq_true] at h
    unfold eqBs
    rw [eqB_refl d h.1, eqBs_refl ds h.2]; rfl
end
theorem eqBs_len : ∀ {as bs : List D}, eqBs as bs = true → as.length = bs.length
  | [], [], _ => rfl
  | [], _ :: _, h => by unfold eqBs at h; cases h
  | _ :: _, [], h => by unfold eqBs at h; cases h
  | a :: as, b :: bs, h => by
    unfold eqBs at h
    rw [Bool.and_eq_true] at h
    simp [eqBs_len h.2]
theorem eqBs_all : ∀ {as bs : List D}, as.length = bs.length → ∀ (k : Nat → Bool), (∀ j a b, as[j]? = some a → bs[j]? = some b → k j = eqB a b) → (List.range as.length).all k = eqBs as bs
  | [], [], _, k, _ => by unfold eqBs; rfl
  | [], _ :: _, h, _, _ => by simp at h
  | _ :: _, [], h, _, _ => by simp at h
  | a :: as, b :: bs, h, k, hk => by
    unfold eqBs
    rw [List.length_cons, List.range_succ_eq_map, List.all_cons, List.all_map, hk 0 a b rfl rfl]
    congr 1
    exact eqBs_all (by simpa using h) (k ∘ Nat.succ) fun j x y e1 e2 => hk (j + 1) x y (by simpa using e1) (by simpa using e2)
theorem okDs_get : ∀ {ds : List D} {i : Nat} {d : D}, okDs ds = true → ds[i]? = some d → okD d = true
  | [], _, _, _, e => by simp at e
  | d :: ds, 0, x, h, e => by unfold okDs at h; rw [Bool.and_eq_true] at h; simp at e; subst e; exact h.1
  | d :: ds, i + 1, x, h, e => by unfold okDs at h; rw [Bool.and_eq_true] at h; exact okDs_get h.2 (by simpa using e)
theorem depDs_get : ∀ {ds : List D} {i : Nat} {d : D}, ds[i]? = some d → depD d ≤ depDs ds
  | [], _, _, e => by simp at e
  | d :: ds, 0, x, e => by simp at e; subst e; unfold depDs; omega
  | d :: ds, i + 1, x, e => by have := depDs_get (ds := ds) (i := i) (d := x) (by simpa using e); unfold depDs; omega
section
variable {ρ : Rho} {X : Cx} {pins : List (Addr × Obj)} {σ : St} {H : Hp} {s : Shared}
theorem lt_ne {l : Addr} {xs ys : List V} (I : Inv X pins σ H s) (h1 : SqT X.K H l xs) (h2 : SqL X.K H l ys) : False := by
  obtain ⟨i1, _, p1, _⟩ := I.tuple h1
  obtain ⟨i2, _, p2, _⟩ := I.list h2
  exact SeqAt.ne_of_list_tuple p2.isList p1 rfl
mutual
theorem rep_inj (I : Inv X pins σ H s) : ∀ {d e : D} {v : V}, okD d = true → okD e = true → Rep ρ X.K H d v → Rep ρ X.K H e v → d = e
  | .non, e, v, _, oe, h, k => by
    cases rep_non.mp h
    cases e with
    | non => rfl
    | bl _ => exact nomatch rep_bl.mp k
    | int _ => exact nomatch rep_int.mp k
    | str _ => exact nomatch rep_str.mp k
    | ty _ => unfold okD at oe; cases oe
    | obj _ => unfold okD at oe; cases oe
    | tup _ => obtain ⟨_, _, z, _⟩ := rep_tup.mp k; cases z
    | lst _ => obtain ⟨_, _, z, _⟩ := rep_lst.mp k; cases z
  | .bl b, e, v, _, oe, h, k => by
    cases rep_bl.mp h
    cases e with
    | non => exact nomatch rep_non.mp k
    | bl _ => cases rep_bl.mp k; rfl
    | int _ => exact nomatch rep_int.mp k
    | str _ => exact nomatch rep_str.mp k
    | ty _ => unfold okD at oe; cases oe
    | obj _ => unfold okD at oe; cases oe
    | tup _ => obtain ⟨_, _, z, _⟩ := rep_tup.mp k; cases z
    | lst _ => obtain ⟨_, _, z, _⟩ := rep_lst.mp k; cases z
  | .int b, e, v, _, oe, h, k => by
    cases rep_int.mp h
    cases e with
    | non => exact nomatch rep_non.mp k
    | bl _ => exact nomatch rep_bl.mp k
    | int _ => cases rep_int.mp k; rfl
    | str _ => exact nomatch rep_str.mp k
    | ty _ => unfold okD at oe; cases oe
    | obj _ => unfold okD at oe; cases oe
    | tup _ => obtain ⟨_, _, z, _⟩ := rep_tup.mp k; cases z
    | lst _ => obtain ⟨_, _, z, _⟩ := rep_lst.mp k; cases z
  | .str b, e, v, _, oe, h, k => by
    cases rep_str.mp h
    cases e with
    | non => exact nomatch rep_non.mp k
    | bl _ => exact nomatch rep_bl.mp k
    | int _ => exact nomatch rep_int.mp k
    | str _ => cases rep_str.mp k; rfl
    | ty _ => unfold okD at oe; cases oe
    | obj _ => unfold okD at oe; cases oe
    | tup _ => obtain ⟨_, _, z, _⟩ := rep_tup.mp k; cases z
    | lst _ => obtain ⟨_, _, z, _⟩ := rep_lst.mp k; cases z
  | .ty _, _, _, od, _, _, _ => by unfold okD at od; cases od
  | .obj _, _, _, od, _, _, _ => by unfold okD at od; cases od
  | .tup ds, e, v, od, oe, h, k => by
    obtain ⟨a, xs, rfl, q1, q2⟩ := rep_tup.mp h
    cases e with
    | non => exact nomatch rep_non.mp k
    | bl _ => exact nomatch rep_bl.mp k
    | int _ => exact nomatch rep_int.mp k
    | str _ => exact nomatch rep_str.mp k
    | ty _ => unfold okD at oe; cases oe
    | obj _ => unfold okD at oe; cases oe
    | tup es =>
      obtain ⟨b, ys, z, p1, p2⟩ := rep_tup.mp k
      cases z
      rw [I.tuple_inj q1 p1] at q2
      unfold okD at od oe
      rw [reps_inj I od oe q2 p2]
    | lst es =>
      obtain ⟨b, ys, z, p1, p2⟩ := rep_lst.mp k
      cases z
      exact (lt_ne I q1 p1).elim
  | .lst ds, e, v, od, oe, h, k => by
    obtain ⟨a, xs, rfl, q1, q2⟩ := rep_lst.mp h
    cases e with
    | non => exact nomatch rep_non.mp k
    | bl _ => exact nomatch rep_bl.mp k
    | int _ => exact nomatch rep_int.mp k
    | str _ => exact nomatch rep_str.mp k
    | ty _ => unfold okD at oe; cases oe
    | obj _ => unfold okD at oe; cases oe
    | tup es =>
      obtain ⟨b, ys, z, p1, p2⟩ := rep_tup.mp k
      cases z
      exact (lt_ne I p1 q1).elim
    | lst es =>
      obtain ⟨b, ys, z, p1, p2⟩ := rep_lst.mp k
      cases z
      rw [I.list_inj q1 p1] at q2
      unfold okD at od oe
      rw [reps_inj I od oe q2 p2]
theorem reps_inj (I : Inv X pins σ H s) : ∀ {ds es : List D} {vs : List V}, okDs ds = true → okDs es = true → Reps ρ X.K H ds vs → Reps ρ X.K H es vs → ds = es
  | [], [], _, _, _, _, _ => rfl
  | [], _ :: _, _, _, _, h, k => by cases reps_nil.mp h; obtain ⟨_, _, z, _⟩ := reps_cons.mp k; cases z
  | _ :: _, [], _, _, _, h, k => by cases reps_nil.mp k; obtain ⟨_, _, z, _⟩ := reps_cons.mp h; cases z
  | d :: ds, e :: es, vs, od, oe, h, k => by
    obtain ⟨v, r, rfl, h1, h2⟩ := reps_cons.mp h
    obtain ⟨v', r', z, k1, k2⟩ := reps_cons.mp k
    cases z
    unfold okDs at od oe
    rw [Bool.and_eq_true] at od oe
    rw [rep_inj I od.1 oe.1 h1 k1, reps_inj I od.2 oe.2 h2 k2]
end
theorem eq_deep (I : Inv X pins σ H s) : ∀ (n : Nat) (A : Around) (d e : D) (v u : V) (a b : Value), depD d ≤ n → A.units + n + 1 < cLine → okD d = true → okD e = true → Rep ρ X.K H d v → Rep ρ X.K H e u → RelV v a → RelV u b →
    SeqAt.RcAt A s a b (eqB d e) ∧ SeqAt.EqAt A s a b (eqB d e) := by
  intro n
  induction n with
  | zero =>
    intro A d e v u a b hd hu od oe rd re ra rb
    have hu' : A.units < cLine := by omega
    have seqT : ∀ {es : List D}, Rep ρ X.K H (.tup es) u → ∃ l its, b = .ref l ∧ s.heap.IsTuple l its := fun h => by
      obtain ⟨l, xs, rfl, q1, _⟩ := rep_tup.mp h
      obtain ⟨its, _, p, _⟩ := I.tuple q1
      exact ⟨l, _, rb, p⟩
    have seqL : ∀ {es : List D}, Rep ρ X.K H (.lst es) u → ∃ l its, b = .ref l ∧ s.heap.IsList l its := fun h => by
      obtain ⟨l, xs, rfl, q1, _⟩ := rep_lst.mp h
      obtain ⟨its, _, p, _⟩ := I.list q1
      exact ⟨l, _, rb, p.isList⟩
    cases d with
    | ty _ => unfold okD at od; cases od
    | obj _ => unfold okD at od; cases od
    | tup _ => unfold depD at hd; omega
    | lst _ => unfold depD at hd; omega
    | non =>
      cases rep_non.mp rd; cases ra
      cases e with
      | ty _ => unfold okD at oe; cases oe
      | obj _ => unfold okD at oe; cases oe
      | non => cases rep_non.mp re; cases rb; exact ⟨SeqAt.RcAt.none_none, SeqAt.EqAt.same _⟩
      | bl y => cases rep_bl.mp re; cases rb; exact ⟨SeqAt.RcAt.none_bool _, SeqAt.EqAt.none_bool _⟩
      | int y => cases rep_int.mp re; obtain ⟨t, rfl⟩ := rb; exact ⟨SeqAt.RcAt.none_int _ _, SeqAt.EqAt.none_int _ _⟩
      | str y => cases rep_str.mp re; obtain ⟨t, rfl⟩ := rb; exact ⟨SeqAt.RcAt.none_str _ _, SeqAt.EqAt.none_str _ _⟩
      | tup es => obtain ⟨l, its, rfl, p⟩ := seqT re; exact ⟨SeqAt.RcAt.none_tuple p hu', SeqAt.EqAt.none_tuple p hu'⟩
      | lst es => obtain ⟨l, its, rfl, p⟩ := seqL re; exact ⟨SeqAt.RcAt.none_list p hu', SeqAt.EqAt.none_list p hu'⟩
    | bl x =>
      cases rep_bl.mp rd; cases ra
      cases e with
      | ty _ => unfold okD at oe; cases oe
      | obj _ => unfold okD at oe; cases oe
      | non => cases rep_non.mp re; cases rb; exact ⟨SeqAt.RcAt.bool_none _, SeqAt.EqAt.bool_none _⟩
      | bl y => cases rep_bl.mp re; cases rb; exact ⟨SeqAt.RcAt.bool_bool _ _, SeqAt.EqAt.bool_bool _ _⟩
      | int y => cases rep_int.mp re; obtain ⟨t, rfl⟩ := rb; exact ⟨SeqAt.RcAt.bool_int _ _ _, SeqAt.EqAt.bool_int _ _ _⟩
      | str y => cases rep_str.mp re; obtain ⟨t, rfl⟩ := rb; exact ⟨SeqAt.RcAt.bool_str _ _ _, SeqAt.EqAt.bool_str _ _ _⟩
      | tup es => obtain ⟨l, its, rfl, p⟩ := seqT re; exact ⟨SeqAt.RcAt.bool_tuple _ p hu', SeqAt.EqAt.bool_tuple _ p hu'⟩
      | lst es => obtain ⟨l, its, rfl, p⟩ := seqL re; exact ⟨SeqAt.RcAt.bool_list _ p hu', SeqAt.EqAt.bool_list _ p hu'⟩
    | int x =>
      cases rep_int.mp rd; obtain ⟨ta, rfl⟩ := ra
      cases e with
      | ty _ => unfold okD at oe; cases oe
      | obj _ => unfold okD at oe; cases oe
      | non => cases rep_non.mp re; cases rb; exact ⟨SeqAt.RcAt.int_none _ _, SeqAt.EqAt.int_none _ _⟩
      | bl y => cases rep_bl.mp re; cases rb; exact ⟨SeqAt.RcAt.int_bool _ _ _, SeqAt.EqAt.int_bool _ _ _⟩
      | int y => cases rep_int.mp re; obtain ⟨t, rfl⟩ := rb; exact ⟨SeqAt.RcAt.int_int _ _ _ _, SeqAt.EqAt.int_int _ _ _ _⟩
      | str y => cases rep_str.mp re; obtain ⟨t, rfl⟩ := rb; exact ⟨SeqAt.RcAt.int_str _ _ _ _, SeqAt.EqAt.int_str _ _ _ _⟩
      | tup es => obtain ⟨l, its, rfl, p⟩ := seqT re; exact ⟨SeqAt.RcAt.int_tuple _ _ p hu', SeqAt.EqAt.int_tuple _ _ p hu'⟩
      | lst es => obtain ⟨l, its, rfl, p⟩ := seqL re; exact ⟨SeqAt.RcAt.int_list _ _ p hu', SeqAt.EqAt.int_list _ _ p hu'⟩
    | str x =>
      cases rep_str.mp rd; obtain ⟨ta, rfl⟩ := ra
      cases e with
      | ty _ => unfold okD at oe; cases oe
      | obj _ => unfold okD at oe; cases oe
      | non => cases rep_non.mp re; cases rb; exact ⟨SeqAt.RcAt.str_none _ _, SeqAt.EqAt.str_none _ _⟩
      | bl y => cases rep_bl.mp re; cases rb; exact ⟨SeqAt.RcAt.str_bool _ _ _, SeqAt.EqAt.str_bool _ _ _⟩
      | int y => cases rep_int.mp re; obtain ⟨t, rfl⟩ := rb; exact ⟨SeqAt.RcAt.str_int _ _ _ _, SeqAt.EqAt.str_int _ _ _ _⟩
      | str y => cases rep_str.mp re; obtain ⟨t, rfl⟩ := rb; exact ⟨SeqAt.RcAt.str_str _ _ _ _, SeqAt.EqAt.str_str _ _ _ _⟩
      | tup es => obtain ⟨l, its, rfl, p⟩ := seqT re; exact ⟨SeqAt.RcAt.str_tuple _ _ p hu', SeqAt.EqAt.str_tuple _ _ p hu'⟩
      | lst es => obtain ⟨l, its, rfl, p⟩ := seqL re; exact ⟨SeqAt.RcAt.str_list _ _ p hu', SeqAt.EqAt.str_list _ _ p hu'⟩
  | succ n ih =>
    intro A d e v u a b hd hu od oe rd re ra rb
    have hu' : A.units < cLine := by omega
    have hin : A.in1.units + n + 1 < cLine := by show A.units + 1 + n + 1 < cLine; omega
    by_cases small : depD d ≤ n
    · exact ih A d e v u a b small (by omega) od oe rd re ra rb
    · -- the two are refs: the same, or apart
      have both : ∀ {l m : Addr}, v = .ref l → u = .ref m → a = .ref l → b = .ref m → SeqAt.RcAt A s a b (eqB d e) → SeqAt.RcAt A s a b (eqB d e) ∧ SeqAt.EqAt A s a b (eqB d e) := fun {l m} ev eu ea eb r => by
        refine ⟨r, ?_⟩
        subst ev eu ea eb
        by_cases z : l = m
        · subst z
          have : d = e := rep_inj I od oe rd re
          subst this
          rw [eqB_refl d od]
          exact SeqAt.EqAt.same _
        · exact SeqAt.EqAt.of_refs z r
      cases d with
      | ty _ => unfold okD at od; cases od
      | obj _ => unfold okD at od; cases od
      | non => unfold depD at small; omega
      | bl _ => unfold depD at small; omega
      | int _ => unfold depD at small; omega
      | str _ => unfold depD at small; omega
      | tup ds =>
        obtain ⟨l, xs, rfl, q1, q2⟩ := rep_tup.mp rd
        cases ra
        obtain ⟨ix, rx, px, _⟩ := I.tuple q1
        have px' : s.heap.IsTuple l ix.toArray := px
        unfold okD at od
        unfold depD at hd
        cases e with
        | ty _ => unfold okD at oe; cases oe
        | obj _ => unfold okD at oe; cases oe
        | non => cases rep_non.mp re; cases rb; exact ⟨SeqAt.RcAt.tuple_none px' hu', SeqAt.EqAt.tuple_none px' hu'⟩
        | bl y => cases rep_bl.mp re; cases rb; exact ⟨SeqAt.RcAt.tuple_bool _ px' hu', SeqAt.EqAt.tuple_bool _ px' hu'⟩
        | int y => cases rep_int.mp re; obtain ⟨t, rfl⟩ := rb; exact ⟨SeqAt.RcAt.tuple_int _ _ px' hu', SeqAt.EqAt.tuple_int _ _ px' hu'⟩
        | str y => cases rep_str.mp re; obtain ⟨t, rfl⟩ := rb; exact ⟨SeqAt.RcAt.tuple_str _ _ px' hu', SeqAt.EqAt.tuple_str _ _ px' hu'⟩
        | lst es =>
          obtain ⟨m, ys, rfl, p1, p2⟩ := rep_lst.mp re
          cases rb
          obtain ⟨iy, ry, py, _⟩ := I.list p1
          unfold eqB
          exact ⟨SeqAt.RcAt.tuple_list px' py.isList hu', SeqAt.EqAt.tuple_list px' py.isList hu'⟩
        | tup es =>
          obtain ⟨m, ys, rfl, p1, p2⟩ := rep_tup.mp re
          cases rb
          obtain ⟨iy, ry, py, _⟩ := I.tuple p1
          unfold okD at oe
          refine both rfl rfl rfl rfl ?_
          have lx := rx.length
          have ly := ry.length
          have mx := q2.length
          have my := p2.length
          have R := SeqAt.RcAt.tuples (e := fun j => match ds[j]?, es[j]? with | some x, some y => eqB x y | _, _ => false) px' (show s.heap.IsTuple m iy.toArray from py) hu' fun j h1 h2 => by
            have h1' : j < ix.length := by simpa using h1
            have h2' : j < iy.length := by simpa using h2
            have hj1 : j < ds.length := by omega
            have hj2 : j < es.length := by omega
            obtain ⟨v1, e1, r1⟩ := q2.get (List.getElem?_eq_getElem hj1)
            obtain ⟨v2, e2, r2⟩ := p2.get (List.getElem?_eq_getElem hj2)
            obtain ⟨u1, f1, s1⟩ := rx.get e1
            obtain ⟨u2, f2, s2⟩ := ry.get e2
            have g1 : ix.toArray[j] = u1 := by rw [List.getElem?_eq_getElem h1'] at f1; simpa using Option.some.inj f1
            have g2 : iy.toArray[j] = u2 := by rw [List.getElem?_eq_getElem h2'] at f2; simpa using Option.some.inj f2
            rw [g1, g2, List.getElem?_eq_getElem hj1, List.getElem?_eq_getElem hj2]
            have dd := depDs_get (List.getElem?_eq_getElem hj1)
            exact (ih A.in1 _ _ v1 v2 u1 u2 (by omega) hin (okDs_get od (List.getElem?_eq_getElem hj1)) (okDs_get oe (List.getElem?_eq_getElem hj2)) r1 r2 s1 s2).2
          unfold eqB
          have fin : ((List.range (min ix.toArray.size iy.toArray.size)).all (fun j => match ds[j]?, es[j]? with | some x, some y => eqB x y | _, _ => false) && ix.toArray.size == iy.toArray.size) = eqBs ds es := by
            simp only [List.size_toArray]
            by_cases hl : ds.length = es.length
            · have e1 : min ix.length iy.length = ds.length := by omega
              have e2 : (ix.length == iy.length) = true := by simp; omega
              rw [e1, e2, Bool.and_true]
              exact eqBs_all hl _ fun j x y z1 z2 => by rw [z1, z2]
            · have e2 : (ix.length == iy.length) = false := by simp; omega
              rw [e2, Bool.and_false]
              cases z : eqBs ds es with
              | false => rfl
              | true => exact absurd (eqBs_len z) hl
          rw [fin] at R
          exact R
      | lst ds =>
        obtain ⟨l, xs, rfl, q1, q2⟩ := rep_lst.mp rd
        cases ra
        obtain ⟨ix, rx, px, _⟩ := I.list q1
        have px' : s.heap.IsList l ix.toArray := px.isList
        unfold okD at od
        unfold depD at hd
        cases e with
        | ty _ => unfold okD at oe; cases oe
        | obj _ => unfold okD at oe; cases oe
        | non => cases rep_non.mp re; cases rb; exact ⟨SeqAt.RcAt.list_none px' hu', SeqAt.EqAt.list_none px' hu'⟩
        | bl y => cases rep_bl.mp re; cases rb; exact ⟨SeqAt.RcAt.list_bool _ px' hu', SeqAt.EqAt.list_bool _ px' hu'⟩
        | int y => cases rep_int.mp re; obtain ⟨t, rfl⟩ := rb; exact ⟨SeqAt.RcAt.list_int _ _ px' hu', SeqAt.EqAt.list_int _ _ px' hu'⟩
        | str y => cases rep_str.mp re; obtain ⟨t, rfl⟩ := rb; exact ⟨SeqAt.RcAt.list_str _ _ px' hu', SeqAt.EqAt.list_str _ _ px' hu'⟩
        | tup es =>
          obtain ⟨m, ys, rfl, p1, p2⟩ := rep_tup.mp re
          cases rb
          obtain ⟨iy, ry, py, _⟩ := I.tuple p1
          unfold eqB
          exact ⟨SeqAt.RcAt.list_tuple px' py hu', SeqAt.EqAt.list_tuple px' py hu'⟩
        | lst es =>
          obtain ⟨m, ys, rfl, p1, p2⟩ := rep_lst.mp re
          cases rb
          obtain ⟨iy, ry, py, _⟩ := I.list p1
          unfold okD at oe
          refine both rfl rfl rfl rfl ?_
          have lx := rx.length
          have ly := ry.length
          have mx := q2.length
          have my := p2.length
          unfold eqB
          by_cases hl : ds.length = es.length
          · have hsz : ix.toArray.size = iy.toArray.size := by simp only [List.size_toArray]; omega
            have R := SeqAt.RcAt.lists (e := fun j => match ds[j]?, es[j]? with | some x, some y => eqB x y | _, _ => false) px' py.isList hsz hu' fun j h1 h2 => by
              have h1' : j < ix.length := by simpa using h1
              have h2' : j < iy.length := by simpa using h2
              have hj1 : j < ds.length := by omega
              have hj2 : j < es.length := by omega
              obtain ⟨v1, e1, r1⟩ := q2.get (List.getElem?_eq_getElem hj1)
              obtain ⟨v2, e2, r2⟩ := p2.get (List.getElem?_eq_getElem hj2)
              obtain ⟨u1, f1, s1⟩ := rx.get e1
              obtain ⟨u2, f2, s2⟩ := ry.get e2
              have g1 : ix.toArray[j] = u1 := by rw [List.getElem?_eq_getElem h1'] at f1; simpa using Option.some.inj f1
              have g2 : iy.toArray[j] = u2 := by rw [List.getElem?_eq_getElem h2'] at f2; simpa using Option.some.inj f2
              rw [g1, g2, List.getElem?_eq_getElem hj1, List.getElem?_eq_getElem hj2]
              have dd := depDs_get (List.getElem?_eq_getElem hj1)
              exact (ih A.in1 _ _ v1 v2 u1 u2 (by omega) hin (okDs_get od (List.getElem?_eq_getElem hj1)) (okDs_get oe (List.getElem?_eq_getElem hj2)) r1 r2 s1 s2).2
            have e1 : ix.toArray.size = ds.length := by simp only [List.size_toArray]; omega
            rw [e1, eqBs_all hl _ fun j x y z1 z2 => by rw [z1, z2]] at R
            exact R
          · have R := SeqAt.RcAt.lists_lengths (s := s) (A := A) px' py.isList (by simp only [List.size_toArray]; simp; omega) hu'
            cases z : eqBs ds es with
            | false => exact R
            | true => exact absurd (eqBs_len z) hl
end
end DL
namespace DL
open PySem PySem.Spec L2
noncomputable def BIGN : Nat := Classical.choose (⟨2 ^ 100000, rfl⟩ : ∃ n : Nat, n = 2 ^ 100000)
theorem BIGN_eq : BIGN = 2 ^ 100000 := Classical.choose_spec (⟨2 ^ 100000, rfl⟩ : ∃ n : Nat, n = 2 ^ 100000)
noncomputable def BIG : Int := (BIGN : Int)
noncomputable def inBig (i : Int) : Bool := decide (-BIG < i) && decide (i < BIG)
noncomputable def gAdd : D → D → Option D
  | .int i, .int j => some (.int (i + j))
  | .str x, .str y => if x.length + y.length ≤ sizeLine then some (.str (x ++ y)) else none
  | _, _ => none
noncomputable def gSub : D → D → Option D
  | .int i, .int j => some (.int (i - j))
  | _, _ => none
noncomputable def gMul : D → D → Option D
  | .int i, .int j => if (inBig i && inBig j) = true then some (.int (i * j)) else none
  | .str x, .int n => if x.length ≤ 4096 ∧ -4096 ≤ n ∧ n ≤ 4096 then some (.str (Txt.mul x n)) else none
  | _, _ => none
noncomputable def gMod : D → D → Option D
  | .int i, .int j => if 0 < j then some (.int (i % j)) else none
  | _, _ => none
noncomputable def gPow : D → D → Option D
  | .int i, .int j => if 0 ≤ j ∧ j ≤ 1000 ∧ -(2 ^ 60) < i ∧ i < 2 ^ 60 then some (.int (i ^ j.toNat)) else none
  | _, _ => none
noncomputable def gCmp (p : Int → Int → Bool) (q : Str → Str → Bool) : D → D → Option D
  | .int i, .int j => some (.bl (p i j))
  | .str x, .str y => some (.bl (q x y))
  | _, _ => none
noncomputable def gLt := gCmp (fun i j => decide (i < j)) (fun x y => decide (x.cps.toList < y.cps.toList))
noncomputable def gLe := gCmp (fun i j => decide (i ≤ j)) (fun x y => !decide (y.cps.toList < x.cps.toList))
noncomputable def gGt := gCmp (fun i j => decide (j < i)) (fun x y => decide (y.cps.toList < x.cps.toList))
noncomputable def gGe := gCmp (fun i j => decide (j ≤ i)) (fun x y => !decide (x.cps.toList < y.cps.toList))
noncomputable def gEq : D → D → Option D := fun x y => if (okD x && okD y && decide (depD x ≤ 20)) = true then some (.bl (eqB x y)) else none
noncomputable def gNe : D → D → Option D := fun x y => if (okD x && okD y && decide (depD x ≤ 20)) = true then some (.bl !(eqB x y)) else none
noncomputable def gNeg : D → Option D
  | .int i => some (.int (-i))
  | _ => none
noncomputable def gIx : D → D → Option D
  | .lst ds, .int i => atI ds i
  | .tup ds, .int i => atI ds i
  | .str z, .int i => if z.length ≤ sizeLine then (atI z.cps.toList i).map fun c => .str ⟨#[c]⟩ else none
  | _, _ => none
theorem big_bits {i : Int} (h : inBig i = true) : Builtin.Int.intBits i ≤ 100001 := by
  unfold inBig at h
  rw [Bool.and_eq_true, decide_eq_true_eq, decide_eq_true_eq] at h
  unfold Builtin.Int.intBits
  split
  · omega
  · have hn : i.natAbs ≠ 0 := by
      intro z
      have : i = 0 := by omega
      subst this
      simp at *
    have hlt : i.natAbs < BIGN := by
      unfold BIG at h
      omega
    rw [BIGN_eq] at hlt
    have := (Nat.log2_lt (k := 100000) hn).mpr hlt
    omega
theorem big_mul {i j : Int} (h1 : inBig i = true) (h2 : inBig j = true) : IntMulOk i j := by
  have b1 := big_bits h1
  have b2 := big_bits h2
  unfold IntMulOk
  have : Builtin.Int.intTooBig ((Builtin.Int.intBits i : Int) + (Builtin.Int.intBits j : Int)) = false := by
    unfold Builtin.Int.intTooBig bitsLine
    simp
    omega
  intro h
  rw [Bool.and_eq_true] at h
  have h2 := h.2
  first
    | (rw [this] at h2; cases h2)
    | (push_cast at h2; rw [this] at h2; cases h2)
section
variable {X : Cx}
theorem op_addD : OpR X (binaryOp .Add) (fun x y H Q => rI0 (fun i j => .int (i + j)) x y H Q ∨ ∃ i j, x = .str i ∧ y = .str j ∧ i.length + j.length ≤ sizeLine ∧ Q (.str (i ++ j)) H) := op_add.or op_add_str
theorem opd_sub : OpD X.K gSub (rI0 fun i j => .int (i - j)) := by
  intro x y d hd ρ H G u v Q hG ru rv k
  unfold gSub at hd
  split at hd
  · cases hd; exact ⟨_, _, rep_int.mp ru, rep_int.mp rv, k _ H (Same.refl H) (rep_int.mpr rfl)⟩
  · cases hd
theorem op_mulD : OpR X (binaryOp .Mult) (fun x y H Q => rI (fun i j => (inBig i && inBig j) = true) (fun i j => .int (i * j)) x y H Q ∨ ∃ z n, x = .str z ∧ y = .int n ∧ (z.length ≤ 4096 ∧ -4096 ≤ n ∧ n ≤ 4096) ∧ Q (.str (Txt.mul z n)) H) := by
  refine OpR.or (opI fun i j t u s E Q hc q => PyProof.Rows.mul_int q (by rw [Bool.and_eq_true] at hc; exact big_mul hc.1 hc.2)) ?_
  intro pins s σ H x y v u Q I rx ry h
  obtain ⟨z, n, rfl, rfl, ⟨h1, h2, h3⟩, q⟩ := h
  obtain ⟨t, rfl⟩ := rx
  obtain ⟨t', rfl⟩ := ry
  refine SB.mul (PyProof.Rows.mulOk_of 4096 4096 h1 h3 (by omega) (by decide) (by decide)) fun t' k => ⟨.str (Txt.mul z n), H, I.tok _, ⟨_, rfl⟩, q⟩
theorem opd_mul : OpD X.K gMul (fun x y H Q => rI (fun i j => (inBig i && inBig j) = true) (fun i j => .int (i * j)) x y H Q ∨ ∃ z n, x = .str z ∧ y = .int n ∧ (z.length ≤ 4096 ∧ -4096 ≤ n ∧ n ≤ 4096) ∧ Q (.str (Txt.mul z n)) H) := by
  intro x y d hd ρ H G u v Q hG ru rv k
  unfold gMul at hd
  split at hd
  · split at hd
    · rename_i hz
      cases hd; exact .inl ⟨_, _, rep_int.mp ru, rep_int.mp rv, hz, k _ H (Same.refl H) (rep_int.mpr rfl)⟩
    · cases hd
  · split at hd
    · rename_i hz
      cases hd; exact .inr ⟨_, _, rep_str.mp ru, rep_int.mp rv, hz, k _ H (Same.refl H) (rep_str.mpr rfl)⟩
    · cases hd
  · cases hd
theorem opd_mod : OpD X.K gMod (rI (fun _ j => 0 < j) fun i j => .int (i % j)) := by
  intro x y d hd ρ H G u v Q hG ru rv k
  unfold gMod at hd
  split at hd
  · split at hd
    · rename_i hz
      cases hd; exact ⟨_, _, rep_int.mp ru, rep_int.mp rv, hz, k _ H (Same.refl H) (rep_int.mpr rfl)⟩
    · cases hd
  · cases hd
theorem opd_pow : OpD X.K gPow (rI CPow fun i j => .int (i ^ j.toNat)) := by
  intro x y d hd ρ H G u v Q hG ru rv k
  unfold gPow at hd
  split at hd
  · split at hd
    · rename_i hz
      cases hd; exact ⟨_, _, rep_int.mp ru, rep_int.mp rv, ⟨hz.1, by omega, by omega⟩, k _ H (Same.refl H) (rep_int.mpr rfl)⟩
    · cases hd
  · cases hd
theorem opd_cmp {p : Int → Int → Bool} {q : Str → Str → Bool} : OpD X.K (gCmp p q) (fun x y H Q => rI0 (fun i j => .bl (p i j)) x y H Q ∨ ∃ i j, x = .str i ∧ y = .str j ∧ Q (.bl (q i j)) H) := by
  intro x y d hd ρ H G u v Q hG ru rv k
  unfold gCmp at hd
  split at hd
  · cases hd; exact .inl ⟨_, _, rep_int.mp ru, rep_int.mp rv, k _ H (Same.refl H) (rep_bl.mpr rfl)⟩
  · cases hd; exact .inr ⟨_, _, rep_str.mp ru, rep_str.mp rv, k _ H (Same.refl H) (rep_bl.mpr rfl)⟩
  · cases hd
theorem op_ltD : OpR X (compareOp .Lt) (fun x y H Q => rI0 (fun i j => .bl (decide (i < j))) x y H Q ∨ ∃ i j, x = .str i ∧ y = .str j ∧ Q (.bl (decide (i.cps.toList < j.cps.toList))) H) := op_lt.or op_lt_str
noncomputable def rEqD (K : PySem.W.Frag) (neg : Bool) : R2 := fun u v H Q => ∃ ρ x y, okD x = true ∧ okD y = true ∧ depD x ≤ 20 ∧ Rep ρ K H x u ∧ Rep ρ K H y v ∧ Q (.bl (if neg then !eqB x y else eqB x y)) H
theorem op_eqD (hu : X.A.units + 30 < cLine) : OpR X (compareOp .Eq) (rEqD X.K false) := by
  intro pins s σ H x y v u Q I rx ry h
  obtain ⟨ρ, d, e, o1, o2, hd, r1, r2, q⟩ := h
  exact (eq_deep I 20 X.A d e x y v u hd (by omega) o1 o2 r1 r2 rx ry).1 _ _ _ _ ⟨.bl (eqB d e), H, I, rfl, q⟩
theorem opd_eq : OpD X.K gEq (rEqD X.K false) := by
  intro x y d hd ρ H G u v Q hG ru rv k
  unfold gEq at hd
  split at hd
  · rename_i h
    rw [Bool.and_eq_true, Bool.and_eq_true, decide_eq_true_eq] at h
    cases hd
    exact ⟨ρ, x, y, h.1.1, h.1.2, h.2, ru.mono same_un, rv.mono same_un, k _ H (Same.refl H) (rep_bl.mpr rfl)⟩
  · cases hd
theorem opd_ne : OpD X.K gNe (rEqD X.K true) := by
  intro x y d hd ρ H G u v Q hG ru rv k
  unfold gNe at hd
  split at hd
  · rename_i h
    rw [Bool.and_eq_true, Bool.and_eq_true, decide_eq_true_eq] at h
    cases hd
    exact ⟨ρ, x, y, h.1.1, h.1.2, h.2, ru.mono same_un, rv.mono same_un, k _ H (Same.refl H) (rep_bl.mpr rfl)⟩
  · cases hd
theorem ne_tuples {ρ : Rho} {pins : List (Addr × Obj)} {σ : St} {H : Hp} {s : Shared} (I : Inv X pins σ H s) (A : Around) {ds es : List D} {v u : V} {a b : Value} (hd : depD (.tup ds) ≤ 20) (hu : A.units + 24 < cLine) (od : okD (.tup ds) = true) (oe : okD (.tup es) = true)
    (rd : Rep ρ X.K H (.tup ds) v) (re : Rep ρ X.K H (.tup es) u) (ra : RelV v a) (rb : RelV u b) : SeqAt.RcNeAt A s a b (!eqB (.tup ds) (.tup es)) := by
  have hu' : A.units < cLine := by omega
  obtain ⟨l, xs, rfl, q1, q2⟩ := rep_tup.mp rd
  obtain ⟨m, ys, rfl, p1, p2⟩ := rep_tup.mp re
  cases ra
  cases rb
  obtain ⟨ix, rx, px, _⟩ := I.tuple q1
  obtain ⟨iy, ry, py, _⟩ := I.tuple p1
  unfold okD at od oe
  unfold depD at hd
  have lx := rx.length
  have ly := ry.length
  have mx := q2.length
  have my := p2.length
  have R := SeqAt.RcNeAt.tuples (A := A) (e := fun j => match ds[j]?, es[j]? with | some x, some y => eqB x y | _, _ => false) (show s.heap.IsTuple l ix.toArray from px) (show s.heap.IsTuple m iy.toArray from py) hu' fun j h1 h2 => by
    have h1' : j < ix.length := by simpa using h1
    have h2' : j < iy.length := by simpa using h2
    have hj1 : j < ds.length := by omega
    have hj2 : j < es.length := by omega
    obtain ⟨v1, e1, r1⟩ := q2.get (List.getElem?_eq_getElem hj1)
    obtain ⟨v2, e2, r2⟩ := p2.get (List.getElem?_eq_getElem hj2)
    obtain ⟨u1, f1, s1⟩ := rx.get e1
    obtain ⟨u2, f2, s2⟩ := ry.get e2
    have g1 : ix.toArray[j] = u1 := by rw [List.getElem?_eq_getElem h1'] at f1; simpa using Option.some.inj f1
    have g2 : iy.toArray[j] = u2 := by rw [List.getElem?_eq_getElem h2'] at f2; simpa using Option.some.inj f2
    rw [g1, g2, List.getElem?_eq_getElem hj1, List.getElem?_eq_getElem hj2]
    have dd := depDs_get (List.getElem?_eq_getElem hj1)
    exact (eq_deep I 20 A.in1 _ _ v1 v2 u1 u2 (by omega) (by show A.units + 1 + 20 + 1 < cLine; omega) (okDs_get od (List.getElem?_eq_getElem hj1)) (okDs_get oe (List.getElem?_eq_getElem hj2)) r1 r2 s1 s2).2
  unfold eqB
  have fin : ((List.range (min ix.toArray.size iy.toArray.size)).all (fun j => match ds[j]?, es[j]? with | some x, some y => eqB x y | _, _ => false) && ix.toArray.size == iy.toArray.size) = eqBs ds es := by
    simp only [List.size_toArray]
    by_cases hl : ds.length = es.length
    · have e1 : min ix.length iy.length = ds.length := by omega
      have e2 : (ix.length == iy.length) = true := by simp; omega
      rw [e1, e2, Bool.and_true]
      exact eqBs_all hl _ fun j x y z1 z2 => by rw [z1, z2]
    · have e2 : (ix.length == iy.length) = false := by simp; omega
      rw [e2, Bool.and_false]
      cases z : eqBs ds es with
      | false => rfl
      | true => exact absurd (eqBs_len z) hl
  rw [fin] at R
  exact R
theorem ne_lists {ρ : Rho} {pins : List (Addr × Obj)} {σ : St} {H : Hp} {s : Shared} (I : Inv X pins σ H s) (A : Around) {ds es : List D} {v u : V} {a b : Value} (hd : depD (.lst ds) ≤ 20) (hu : A.units + 24 < cLine) (od : okD (.lst ds) = true) (oe : okD (.lst es) = true)
    (rd : Rep ρ X.K H (.lst ds) v) (re : Rep ρ X.K H (.lst es) u) (ra : RelV v a) (rb : RelV u b) : SeqAt.RcNeAt A s a b (!eqB (.lst ds) (.lst es)) := by
  have hu' : A.units < cLine := by omega
  obtain ⟨l, xs, rfl, q1, q2⟩ := rep_lst.mp rd
  obtain ⟨m, ys, rfl, p1, p2⟩ := rep_lst.mp re
  cases ra
  cases rb
  obtain ⟨ix, rx, px, _⟩ := I.list q1
  obtain ⟨iy, ry, py, _⟩ := I.list p1
  unfold okD at od oe
  unfold depD at hd
  have lx := rx.length
  have ly := ry.length
  have mx := q2.length
  have my := p2.length
  unfold eqB
  by_cases hl : ds.length = es.length
  · have hsz : ix.toArray.size = iy.toArray.size := by simp only [List.size_toArray]; omega
    have R := SeqAt.RcNeAt.lists (A := A) (e := fun j => match ds[j]?, es[j]? with | some x, some y => eqB x y | _, _ => false) px.isList py.isList hsz hu' fun j h1 h2 => by
      have h1' : j < ix.length := by simpa using h1
      have h2' : j < iy.length := by simpa using h2
      have hj1 : j < ds.length := by omega
      have hj2 : j < es.length := by omega
      obtain ⟨v1, e1, r1⟩ := q2.get (List.getElem?_eq_getElem hj1)
      obtain ⟨v2, e2, r2⟩ := p2.get (List.getElem?_eq_getElem hj2)
      obtain ⟨u1, f1, s1⟩ := rx.get e1
      obtain ⟨u2, f2, s2⟩ := ry.get e2
      have g1 : ix.toArray[j] = u1 := by rw [List.getElem?_eq_getElem h1'] at f1; simpa using Option.some.inj f1
      have g2 : iy.toArray[j] = u2 := by rw [List.getElem?_eq_getElem h2'] at f2; simpa using Option.some.inj f2
      rw [g1, g2, List.getElem?_eq_getElem hj1, List.getElem?_eq_getElem hj2]
      have dd := depDs_get (List.getElem?_eq_getElem hj1)
      exact (eq_deep I 20 A.in1 _ _ v1 v2 u1 u2 (by omega) (by show A.units + 1 + 20 + 1 < cLine; omega) (okDs_get od (List.getElem?_eq_getElem hj1)) (okDs_get oe (List.getElem?_eq_getElem hj2)) r1 r2 s1 s2).2
    have e1 : ix.toArray.size = ds.length := by simp only [List.size_toArray]; omega
    rw [e1, eqBs_all hl _ fun j x y z1 z2 => by rw [z1, z2]] at R
    exact R
  · have R := SeqAt.RcNeAt.lists_lengths (s := s) (A := A) px.isList py.isList (by simp only [List.size_toArray]; simp; omega) hu'
    cases z : eqBs ds es with
    | false => exact R
    | true => exact absurd (eqBs_len z) hl
theorem ne_top {ρ : Rho} {pins : List (Addr × Obj)} {σ : St} {H : Hp} {s : Shared} (I : Inv X pins σ H s) (A : Around) (d e : D) (v u : V) (a b : Value) (hd : depD d ≤ 20) (hu : A.units + 24 < cLine) (od : okD d = true) (oe : okD e = true) (rd : Rep ρ X.K H d v) (re : Rep ρ X.K H e u) (ra : RelV v a) (rb : RelV u b) :
    SeqAt.RcNeAt A s a b (!eqB d e) := by
  have hu' : A.units < cLine := by omega
  have seqT : ∀ {es : List D} {w : V} {c : Value}, Rep ρ X.K H (.tup es) w → RelV w c → ∃ l its, c = .ref l ∧ s.heap.IsTuple l its := fun h rc => by
    obtain ⟨l, xs, rfl, q1, _⟩ := rep_tup.mp h
    obtain ⟨its, _, p, _⟩ := I.tuple q1
    exact ⟨l, _, rc, p⟩
  have seqL : ∀ {es : List D} {w : V} {c : Value}, Rep ρ X.K H (.lst es) w → RelV w c → ∃ l its, c = .ref l ∧ s.heap.IsList l its := fun h rc => by
    obtain ⟨l, xs, rfl, q1, _⟩ := rep_lst.mp h
    obtain ⟨its, _, p, _⟩ := I.list q1
    exact ⟨l, _, rc, p.isList⟩
  cases d with
  | ty _ => unfold okD at od; cases od
  | obj _ => unfold okD at od; cases od
  | non =>
    cases e with
    | ty _ => unfold okD at oe; cases oe
    | obj _ => unfold okD at oe; cases oe
    | non => cases rep_non.mp rd; cases ra; cases rep_non.mp re; cases rb; unfold eqB; exact SeqAt.RcNeAt.none_none
    | bl y => cases rep_non.mp rd; cases ra; cases rep_bl.mp re; cases rb; unfold eqB; exact SeqAt.RcNeAt.none_bool _
    | int y => cases rep_non.mp rd; cases ra; cases rep_int.mp re; obtain ⟨t2, rfl⟩ := rb; unfold eqB; exact SeqAt.RcNeAt.none_int _ _
    | str y => cases rep_non.mp rd; cases ra; cases rep_str.mp re; obtain ⟨t2, rfl⟩ := rb; unfold eqB; exact SeqAt.RcNeAt.none_str _ _
    | tup y => cases rep_non.mp rd; cases ra; obtain ⟨l2, i2, rfl, p2⟩ := seqT re rb; unfold eqB; exact SeqAt.RcNeAt.none_tuple p2 hu'
    | lst y => cases rep_non.mp rd; cases ra; obtain ⟨l2, i2, rfl, p2⟩ := seqL re rb; unfold eqB; exact SeqAt.RcNeAt.none_list p2 hu'
  | bl x =>
    cases e with
    | ty _ => unfold okD at oe; cases oe
    | obj _ => unfold okD at oe; cases oe
    | non => cases rep_bl.mp rd; cases ra; cases rep_non.mp re; cases rb; unfold eqB; exact SeqAt.RcNeAt.bool_none _
    | bl y => cases rep_bl.mp rd; cases ra; cases rep_bl.mp re; cases rb; unfold eqB; exact SeqAt.RcNeAt.bool_bool _ _
    | int y => cases rep_bl.mp rd; cases ra; cases rep_int.mp re; obtain ⟨t2, rfl⟩ := rb; unfold eqB; exact SeqAt.RcNeAt.bool_int _ _ _
    | str y => cases rep_bl.mp rd; cases ra; cases rep_str.mp re; obtain ⟨t2, rfl⟩ := rb; unfold eqB; exact SeqAt.RcNeAt.bool_str _ _ _
    | tup y => cases rep_bl.mp rd; cases ra; obtain ⟨l2, i2, rfl, p2⟩ := seqT re rb; unfold eqB; exact SeqAt.RcNeAt.bool_tuple _ p2 hu'
    | lst y => cases rep_bl.mp rd; cases ra; obtain ⟨l2, i2, rfl, p2⟩ := seqL re rb; unfold eqB; exact SeqAt.RcNeAt.bool_list _ p2 hu'
  | int x =>
    cases e with
    | ty _ => unfold okD at oe; cases oe
    | obj _ => unfold okD at oe; cases oe
    | non => cases rep_int.mp rd; obtain ⟨t1, rfl⟩ := ra; cases rep_non.mp re; cases rb; unfold eqB; exact SeqAt.RcNeAt.int_none _ _
    | bl y => cases rep_int.mp rd; obtain ⟨t1, rfl⟩ := ra; cases rep_bl.mp re; cases rb; unfold eqB; exact SeqAt.RcNeAt.int_bool _ _ _
    | int y => cases rep_int.mp rd; obtain ⟨t1, rfl⟩ := ra; cases rep_int.mp re; obtain ⟨t2, rfl⟩ := rb; unfold eqB; exact SeqAt.RcNeAt.int_int _ _ _ _
    | str y => cases rep_int.mp rd; obtain ⟨t1, rfl⟩ := ra; cases rep_str.mp re; obtain ⟨t2, rfl⟩ := rb; unfold eqB; exact SeqAt.RcNeAt.int_str _ _ _ _
    | tup y => cases rep_int.mp rd; obtain ⟨t1, rfl⟩ := ra; obtain ⟨l2, i2, rfl, p2⟩ := seqT re rb; unfold eqB; exact SeqAt.RcNeAt.int_tuple _ _ p2 hu'
    | lst y => cases rep_int.mp rd; obtain ⟨t1, rfl⟩ := ra; obtain ⟨l2, i2, rfl, p2⟩ := seqL re rb; unfold eqB; exact SeqAt.RcNeAt.int_list _ _ p2 hu'
  | str x =>
    cases e with
    | ty _ => unfold okD at oe; cases oe
    | obj _ => unfold okD at oe; cases oe
    | non => cases rep_str.mp rd; obtain ⟨t1, rfl⟩ := ra; cases rep_non.mp re; cases rb; unfold eqB; exact SeqAt.RcNeAt.str_none _ _
    | bl y => cases rep_str.mp rd; obtain ⟨t1, rfl⟩ := ra; cases rep_bl.mp re; cases rb; unfold eqB; exact SeqAt.RcNeAt.str_bool _ _ _
    | int y => cases rep_str.mp rd; obtain ⟨t1, rfl⟩ := ra; cases rep_int.mp re; obtain ⟨t2, rfl⟩ := rb; unfold eqB; exact SeqAt.RcNeAt.str_int _ _ _ _
    | str y => cases rep_str.mp rd; obtain ⟨t1, rfl⟩ := ra; cases rep_str.mp re; obtain ⟨t2, rfl⟩ := rb; unfold eqB; exact SeqAt.RcNeAt.str_str _ _ _ _
    | tup y => cases rep_str.mp rd; obtain ⟨t1, rfl⟩ := ra; obtain ⟨l2, i2, rfl, p2⟩ := seqT re rb; unfold eqB; exact SeqAt.RcNeAt.str_tuple _ _ p2 hu'
    | lst y => cases rep_str.mp rd; obtain ⟨t1, rfl⟩ := ra; obtain ⟨l2, i2, rfl, p2⟩ := seqL re rb; unfold eqB; exact SeqAt.RcNeAt.str_list _ _ p2 hu'
  | tup x =>
    cases e with
    | ty _ => unfold okD at oe; cases oe
    | obj _ => unfold okD at oe; cases oe
    | non => obtain ⟨l1, i1, rfl, p1⟩ := seqT rd ra; cases rep_non.mp re; cases rb; unfold eqB; exact SeqAt.RcNeAt.tuple_none p1 hu'
    | bl y => obtain ⟨l1, i1, rfl, p1⟩ := seqT rd ra; cases rep_bl.mp re; cases rb; unfold eqB; exact SeqAt.RcNeAt.tuple_bool _ p1 hu'
    | int y => obtain ⟨l1, i1, rfl, p1⟩ := seqT rd ra; cases rep_int.mp re; obtain ⟨t2, rfl⟩ := rb; unfold eqB; exact SeqAt.RcNeAt.tuple_int _ _ p1 hu'
    | str y => obtain ⟨l1, i1, rfl, p1⟩ := seqT rd ra; cases rep_str.mp re; obtain ⟨t2, rfl⟩ := rb; unfold eqB; exact SeqAt.RcNeAt.tuple_str _ _ p1 hu'
    | tup y => exact ne_tuples I A hd hu od oe rd re ra rb
    | lst y => obtain ⟨l1, i1, rfl, p1⟩ := seqT rd ra; obtain ⟨l2, i2, rfl, p2⟩ := seqL re rb; unfold eqB; exact SeqAt.RcNeAt.tuple_list p1 p2 hu'
  | lst x =>
    cases e with
    | ty _ => unfold okD at oe; cases oe
    | obj _ => unfold okD at oe; cases oe
    | non => obtain ⟨l1, i1, rfl, p1⟩ := seqL rd ra; cases rep_non.mp re; cases rb; unfold eqB; exact SeqAt.RcNeAt.list_none p1 hu'
    | bl y => obtain ⟨l1, i1, rfl, p1⟩ := seqL rd ra; cases rep_bl.mp re; cases rb; unfold eqB; exact SeqAt.RcNeAt.list_bool _ p1 hu'
    | int y => obtain ⟨l1, i1, rfl, p1⟩ := seqL rd ra; cases rep_int.mp re; obtain ⟨t2, rfl⟩ := rb; unfold eqB; exact SeqAt.RcNeAt.list_int _ _ p1 hu'
    | str y => obtain ⟨l1, i1, rfl, p1⟩ := seqL rd ra; cases rep_str.mp re; obtain ⟨t2, rfl⟩ := rb; unfold eqB; exact SeqAt.RcNeAt.list_str _ _ p1 hu'
    | tup y => obtain ⟨l1, i1, rfl, p1⟩ := seqL rd ra; obtain ⟨l2, i2, rfl, p2⟩ := seqT re rb; unfold eqB; exact SeqAt.RcNeAt.list_tuple p1 p2 hu'
    | lst y => exact ne_lists I A hd hu od oe rd re ra rb
theorem op_neD (hu : X.A.units + 30 < cLine) : OpR X (compareOp .NotEq) (rEqD X.K true) := by
  intro pins s σ H x y v u Q I rx ry h
  obtain ⟨ρ, d, e, o1, o2, hd, r1, r2, q⟩ := h
  exact ne_top I X.A d e x y v u hd (by omega) o1 o2 r1 r2 rx ry _ _ _ _ ⟨.bl (!eqB d e), H, I, rfl, q⟩
theorem reps_ix {ρ : Rho} {K : PySem.W.Frag} {H : Hp} {ds : List D} {xs : List V} {i : Int} {d : D} (h : Reps ρ K H ds xs) (e : atI ds i = some d) : ∃ v, atI xs i = some v ∧ Rep ρ K H d v := by
  unfold atI at e ⊢
  rw [h.length]
  cases z : ixN ds.length i with
  | none => rw [z] at e; cases e
  | some j => rw [z] at e; exact h.get e
theorem opd_ix : OpD X.K gIx (rIx X.K) := by
  intro x y d hd ρ H G u v Q hG ru rv k
  unfold gIx at hd
  split at hd
  · obtain ⟨a, xs, rfl, q1, q2⟩ := rep_lst.mp ru
    obtain ⟨w, e, r⟩ := reps_ix q2 hd
    exact .inl ⟨a, xs, _, w, rfl, rep_int.mp rv, same_l same_un q1, e, k w H (Same.refl H) r⟩
  · obtain ⟨a, xs, rfl, q1, q2⟩ := rep_tup.mp ru
    obtain ⟨w, e, r⟩ := reps_ix q2 hd
    exact .inr (.inl ⟨a, xs, _, w, rfl, rep_int.mp rv, same_t same_un q1, e, k w H (Same.refl H) r⟩)
  · split at hd
    · rename_i z i hz
      cases e : atI z.cps.toList i with
      | none => rw [e] at hd; cases hd
      | some c =>
        rw [e] at hd
        cases hd
        exact .inr (.inr ⟨z, i, c, rep_str.mp ru, rep_int.mp rv, hz, e, k _ H (Same.refl H) (rep_str.mpr rfl)⟩)
    · cases hd
  · cases hd
noncomputable def kLen : List D → Option D
  | [.lst ds] => some (.int ds.length)
  | [.tup ds] => some (.int ds.length)
  | [.str z] => if z.length ≤ sizeLine then some (.int z.length) else none
  | _ => none
theorem reps1 {ρ : Rho} {K : PySem.W.Frag} {H : Hp} {d : D} {vs : List V} (h : Reps ρ K H [d] vs) : ∃ v, vs = [v] ∧ Rep ρ K H d v := by
  obtain ⟨v, r, rfl, q1, q2⟩ := reps_cons.mp h
  cases reps_nil.mp q2
  exact ⟨v, rfl, q1⟩
theorem reps2 {ρ : Rho} {K : PySem.W.Frag} {H : Hp} {d e : D} {vs : List V} (h : Reps ρ K H [d, e] vs) : ∃ v u, vs = [v, u] ∧ Rep ρ K H d v ∧ Rep ρ K H e u := by
  obtain ⟨v, r, rfl, q1, q2⟩ := reps_cons.mp h
  obtain ⟨u, rfl, q3⟩ := reps1 q2
  exact ⟨v, u, rfl, q1, q3⟩
theorem call_lenD : CallR X (.builtin "len") (fun xs H Q => (∃ p ys, xs = [.ref p] ∧ (SqL X.K H p ys ∨ SqT X.K H p ys) ∧ Q (.int ys.length) H) ∨ ∃ z, xs = [.str z] ∧ z.length ≤ sizeLine ∧ Q (.int z.length) H) := call_len_seq.or call_len_str
theorem cad_len : CaD X.K kLen (fun xs H Q => (∃ p ys, xs = [.ref p] ∧ (SqL X.K H p ys ∨ SqT X.K H p ys) ∧ Q (.int ys.length) H) ∨ ∃ z, xs = [.str z] ∧ z.length ≤ sizeLine ∧ Q (.int z.length) H) := by
  intro xs d hd ρ H G us Q hG ru k
  unfold kLen at hd
  split at hd
  · cases hd
    obtain ⟨v, rfl, q⟩ := reps1 ru
    obtain ⟨a, ys, rfl, q1, q2⟩ := rep_lst.mp q
    exact .inl ⟨a, ys, rfl, .inl (same_l same_un q1), k _ H (Same.refl H) (rep_int.mpr (by rw [q2.length]))⟩
  · cases hd
    obtain ⟨v, rfl, q⟩ := reps1 ru
    obtain ⟨a, ys, rfl, q1, q2⟩ := rep_tup.mp q
    exact .inl ⟨a, ys, rfl, .inr (same_t same_un q1), k _ H (Same.refl H) (rep_int.mpr (by rw [q2.length]))⟩
  · split at hd
    · rename_i z hz
      cases hd
      obtain ⟨v, rfl, q⟩ := reps1 ru
      cases rep_str.mp q
      exact .inr ⟨z, rfl, hz, k _ H (Same.refl H) (rep_int.mpr rfl)⟩
    · cases hd
  · cases hd
noncomputable def kTuple : List D → Option D
  | [.lst ds] => some (.tup ds)
  | [.tup ds] => some (.tup ds)
  | _ => none
noncomputable def kList : List D → Option D
  | [.lst ds] => some (.lst ds)
  | [.tup ds] => some (.lst ds)
  | _ => none
noncomputable def kMin : List D → Option D
  | [.int i, .int j] => some (.int (if j < i then j else i))
  | _ => none
noncomputable def kInt : List D → Option D
  | [.int i] => some (.int i)
  | [.bl k] => some (.int (if k then 1 else 0))
  | _ => none
noncomputable def intsD : List D → Option (List Int)
  | [] => some []
  | .int i :: ds => (intsD ds).map (i :: ·)
  | _ :: _ => none
noncomputable def isiD (T : String) : D → Option Bool
  | .non => some (T == "NoneType")
  | .bl _ => some (T == "bool" || T == "int")
  | .int _ => some (T == "int")
  | .str _ => some (T == "str")
  | .tup _ => some (T == "tuple")
  | .lst _ => some (T == "list")
  | _ => none
noncomputable def kIsi : List D → Option D
  | [d, .ty T] => if T = "int" ∨ T = "bool" ∨ T = "tuple" ∨ T = "list" ∨ T = "str" then (isiD T d).map .bl else none
  | _ => none
end
end DL
namespace DL
open PySem PySem.Spec L2
section
variable {X : Cx}
noncomputable def rIsi (K : PySem.W.Frag) : List V → Hp → VK → Prop := fun xs H Q => ∃ ρ d v T b, xs = [v, .ty T] ∧ Rep ρ K H d v ∧ kIsi [d, .ty T] = some (.bl b) ∧ Q (.bl b) H
theorem call_isiD : CallR X (.builtin "isinstance") (rIsi X.K) := by
  intro pins s σ H xs us Q I r h
  obtain ⟨ρ, d, v, T, b, rfl, rd, hk, q⟩ := h
  obtain ⟨u, c, rfl, ru, rc⟩ := r.two
  cases rc
  have fin : ∀ tk, EP X pins σ Q (.bool b) { s with toks := tk } := fun tk => ⟨.bl b, H, I.tok _, rfl, q⟩
  have hk2 : (if T = "int" ∨ T = "bool" ∨ T = "tuple" ∨ T = "list" ∨ T = "str" then (isiD T d).map D.bl else none) = some (.bl b) := hk
  clear hk
  by_cases hT : T = "int" ∨ T = "bool" ∨ T = "tuple" ∨ T = "list" ∨ T = "str"
  · rw [if_pos hT] at hk2
    have hk := hk2
    clear hk2
    cases d with
    | ty _ => cases hk
    | obj _ => cases hk
    | non =>
      cases rep_non.mp rd; cases ru
      rcases hT with rfl | rfl | rfl | rfl | rfl <;> (cases hk; exact PySem.W.kia_one PySem.W.kitx_none I.kIn True.intro rfl (fun z => nomatch z) fin)
    | bl x =>
      cases rep_bl.mp rd; cases ru
      rcases hT with rfl | rfl | rfl | rfl | rfl <;> (cases hk; exact PySem.W.kia_one PySem.W.kitx_bool I.kIn True.intro rfl (fun z => nomatch z) fin)
    | int x =>
      cases rep_int.mp rd; obtain ⟨t, rfl⟩ := ru
      rcases hT with rfl | rfl | rfl | rfl | rfl <;> (cases hk; exact PySem.W.kia_one PySem.W.kitx_int I.kIn True.intro rfl (fun z => nomatch z) fin)
    | str x =>
      cases rep_str.mp rd; obtain ⟨t, rfl⟩ := ru
      rcases hT with rfl | rfl | rfl | rfl | rfl <;> (cases hk; exact PySem.W.kia_one PySem.W.kitx_str I.kIn True.intro rfl (fun z => nomatch z) fin)
    | tup x =>
      obtain ⟨a, ys, rfl, q1, q2⟩ := rep_tup.mp rd
      cases ru
      obtain ⟨its, _, ⟨o, e, hc, _⟩, _⟩ := I.tuple q1
      rcases hT with rfl | rfl | rfl | rfl | rfl <;> (cases hk; exact PySem.W.kia_one PySem.W.kitx_tuple I.kIn ⟨o, e, hc⟩ rfl (fun z => nomatch z) fin)
    | lst x =>
      obtain ⟨a, ys, rfl, q1, q2⟩ := rep_lst.mp rd
      cases ru
      obtain ⟨its, _, p, _⟩ := I.list q1
      obtain ⟨o, e, hc, _⟩ := p.isList
      rcases hT with rfl | rfl | rfl | rfl | rfl <;> (cases hk; exact PySem.W.kia_one PySem.W.kitx_list I.kIn ⟨o, e, hc⟩ rfl (fun z => nomatch z) fin)
  · rw [if_neg hT] at hk2; cases hk2
theorem cad_isi : CaD X.K kIsi (rIsi X.K) := by
  intro xs d hd ρ H G us Q hG ru k
  have hd0 := hd
  unfold kIsi at hd
  split at hd
  · rename_i d0 T
    split at hd
    · obtain ⟨v, u, rfl, q1, q2⟩ := reps2 ru
      cases rep_ty.mp q2
      cases e : isiD T d0 with
      | none => rw [e] at hd; cases hd
      | some b =>
        rw [e] at hd
        cases hd
        exact ⟨ρ, d0, v, T, b, rfl, q1.mono same_un, hd0, k _ H (Same.refl H) (rep_bl.mpr rfl)⟩
    · cases hd
  · cases hd
theorem de_bltT {O : List Nat} {E : XK} {x : Str} {T : String} {pos : Pos} (hg : Gl X x) (hm : X.mg x = none) (hv : bootBuiltins x = some (.type T)) (hn : autoParam (x ≠ "__name__") zau1._auto_1) (hd : autoParam ((x == ("__debug__" : Str)) = false) zau1._auto_1) : DE X O E (.Name x pos) (fC (.ty T)) :=
  de_lit (t := tC (.ty T)) (v := .ty T) (pe_bltn (v := .ty T) hg hm hv rfl hn hd) fun _ _ => rep_ty.mpr rfl
end
inductive spD (K : PySem.W.Frag) (n : Nat) (m : List D → M D) (vs : List V) (H : Hp) (Q : VK) (E : XK) : Prop
  | mk (hn : vs.length = n) (ρ : Rho) (ds : List D) (r : Except XD D) (F : Addr → Bool) (hF : ∀ b, F b = true → H b ≠ none) (hr : Reps ρ K (hid H F) ds vs) (hf : m ds = some r) (k : match (generalizing := false) r with
    | .ok d => ∀ v H', Same H H' → Rep ρ K (hid H' F) d v → Q v H'
    | .error x => okX K H E x)
inductive CalX (P : Program) (w : World) (K : PySem.W.Frag) (mg : Str → Option Value) (base : Heap) (k : Nat) (x : Str) (n : Nat) (sp : Sp) : Prop
  | mk (f : Addr) (fd : FuncData) (ps : List Str) (h1 : ps.length = n) (h2 : mg x = some (.ref f)) (h3 : PySem.W.keepIn K (.ref f) = true) (h4 : Binds K fd ps []) (h5 : FnOk P w K mg base CX0 k f fd ps sp)
structure Cal (P : Program) (w : World) (K : PySem.W.Frag) (mg : Str → Option Value) (base : Heap) (k : Nat) (x : Str) (n : Nat) (m : List D → M D) : Prop where
  ex : CalX P w K mg base k x n (spD K n m)
  ar : ∀ ds r, m ds = some r → ds.length = n
noncomputable def FunAt (K : PySem.W.Frag) (mg : Str → Option Value) (x : Str) (st : Stmt) (ps : List Str) : Prop := ∃ f fd, mg x = some (.ref f) ∧ Fun K x x st f fd ∧ Binds K fd ps []
noncomputable def startD (n : Nat) (ds : List D) : DSt := ds.map some ++ List.replicate (n - ds.length) none
noncomputable def outD : Out → M D
  | .rt d => M.p d
  | .nx _ => M.p .non
  | _ => none
noncomputable def mir (n N : Nat) (g : DSt → M Out) : List D → M D := fun ds => if ds.length = n then (g (startD N ds)).b outD else none
theorem startD_get {N : Nat} {ds : List D} {i : Nat} {d : D} (h : (startD N ds)[i]? = some (some d)) : ds[i]? = some d := by
  unfold startD at h
  by_cases hi : i < ds.length
  · rw [List.getElem?_append_left (by simpa using hi), List.getElem?_map] at h
    cases e : ds[i]? with
    | none => rw [e] at h; cases h
    | some a => rw [e] at h; cases h; rfl
  · rw [List.getElem?_append_right (by simpa using hi), List.getElem?_replicate] at h
    split at h <;> cases h
theorem start_set {N : List Str} {vs : List V} {i : Nat} {v : V} (h : vs[i]? = some v) : (L2.start N vs)[i]? = some (some v) := by
  unfold L2.start
  have hi : i < vs.length := (List.getElem?_eq_some_iff.mp h).1
  rw [List.getElem?_append_left (by simpa using hi), List.getElem?_map, h]
  rfl
section
variable {P : Program} {w : World} {K : PySem.W.Frag} {mg : Str → Option Value} {base : Heap}
theorem fn_D {x : Str} {st : Stmt} {N ps : List Str} {k : Nat} {O' : List Nat} {g : DSt → M Out} {f : Addr} {fd : FuncData} (F : Fun K x x st f fd) (S : FnScope N ps (defScope st))
    (hbody : ∀ (f : Addr) (cdv : Value) (A : Around) (outer : List Env) (s : Shared) (H : Hp) (E : XK), Room k (A.deeper (PyProof.Rows.envOfC x (defScope st) s.heap.objs.size f cdv)) →
      DSs (cxOf CX0 P w K mg base N x (defScope st) f cdv A outer s H E).nox [] O' [] E (defBody st) g) : FnOk P w K mg base CX0 (k + 1) f fd ps (spD K ps.length (mir ps.length N.length g)) := by
  refine F.ok S (fun vs H Q E h => h.1) fun cdv A outer s H vs Q E hr h => ?_
  obtain ⟨hl, ρ, ds, r, F', fin, rp, hmr, k0⟩ := h
  refine ⟨_, hbody f cdv A outer s H E hr, ?_⟩
  have hpl : ps.length ≤ N.length := by have := congrArg List.length S.pre; rw [List.length_take] at this; omega
  have hdl : ds.length = ps.length := by rw [← rp.length]; exact hl
  unfold mir at hmr
  rw [if_pos hdl] at hmr
  have R : RS ρ K H H F' [] (L2.start N vs) (startD N.length ds) := by
    refine ⟨?_, Same.refl H, fin, fun i d hd _ => ?_, fun i hi => absurd hi (by simp), fun i hi => absurd hi (by simp)⟩
    · simp [L2.start, startD, rp.length]
    · obtain ⟨v, e, rv⟩ := rp.get (startD_get hd)
      exact ⟨v, start_set e, by rw [fob_nil]; exact rv⟩
  rcases M.b_inv hmr with ⟨o, e1, hmr⟩ | ⟨y, e1, rfl⟩
  · refine ⟨ρ, H, F', _, .ok o, R, e1, ?_⟩
    cases o with
    | rt d => cases hmr; exact fun v H' s' rv => k0 v H' s' rv
    | nx δ => cases hmr; exact fun σ' H' f' R' => k0 .non H' R'.same (rep_non.mpr rfl)
    | bk δ => cases hmr
    | ct δ => cases hmr
  · exact ⟨ρ, H, F', _, .error y, R, e1, k0⟩
theorem cal_of {x : Str} {st : Stmt} {N ps : List Str} {k : Nat} {O' : List Nat} {g : DSt → M Out} (hf : FunAt K mg x st ps) (S : FnScope N ps (defScope st))
    (hbody : ∀ (f : Addr) (cdv : Value) (A : Around) (outer : List Env) (s : Shared) (H : Hp) (E : XK), Room k (A.deeper (PyProof.Rows.envOfC x (defScope st) s.heap.objs.size f cdv)) →
      DSs (cxOf CX0 P w K mg base N x (defScope st) f cdv A outer s H E).nox [] O' [] E (defBody st) g) : Cal P w K mg base (k + 1) x ps.length (mir ps.length N.length g) := by
  obtain ⟨f, fd, hm, F, hb⟩ := hf
  refine ⟨⟨f, fd, ps, rfl, hm, F.kp, hb, fn_D F S hbody⟩, fun ds r h => ?_⟩
  unfold mir at h
  split at h
  · assumption
  · cases h
theorem funAt_mk {h : Heap} {x : Str} {st : Stmt} {ps : List Str} {f : Addr} {oc : Value} {od an : Option Addr} {osl : Array (Option Value)} {kV doc pm cdv ct : Value} (X : K.In h) (G : h.Ns mainGlobals mg)
    (hb : ∀ (kV doc pm : Value) (an : Option Addr) (cdv ct : Value) (us : List Value), us.length = ps.length → bindArgs (PySem.W.fnOf x x (defArgs st) (defBody st) (defScope st) .none kV doc pm an cdv ct) ⟨us, []⟩ = pure (ps.zip us))
    (a : PySem.W.nsIn K mainGlobals x = some (some (.ref f))) (l : K.lookup f = some ⟨oc, od, .func (PySem.W.fnOf x x (defArgs st) (defBody st) (defScope st) .none kV doc pm an cdv ct), osl⟩)
    (c : PySem.W.codeIn K cdv x = true) (k : PySem.W.keepIn K (.ref f) = true) : FunAt K mg x st ps := by
  have F := fun_mk (st := st) l c k
  exact ⟨f, _, PySem.W.mg_of X G a, F, F.binds hb⟩
theorem funAt_law {st : Stmt} {x : Str} {f : Addr} (hf : FunAt K mg "law" st [x]) (hm : mg "law" = some (.ref f))
    (hb : ∀ (kV doc pm : Value) (an : Option Addr) (cdv ct : Value) (s : Shared) (u : Value), BindsTo s (PySem.W.fnOf "law" "law" (defArgs st) (defBody st) (defScope st) .none kV doc pm an cdv ct) ⟨[u], []⟩ [(x, u)]) :
    ∃ fd, Fun K "law" "law" st f fd ∧ ∀ (s : Shared) (u : Value), BindsTo s fd ⟨[u], []⟩ [(x, u)] := by
  obtain ⟨f', fd, hm', F, _⟩ := hf
  rw [hm] at hm'
  cases hm'
  refine ⟨fd, F, fun s u => ?_⟩
  obtain ⟨oc, od, kV, doc, pm, an, cdv, ct, osl, rfl, lk, hcd⟩ := F.ex
  exact hb kV doc pm an cdv ct s u
end
noncomputable def fCall (m : List D → M D) (fl : DSt → M (List D)) : DSt → M D := fun δ => (fl δ).b m
section
variable {X : Cx} {O : List Nat} {E : XK} {e : Expr} {es : List Expr} {fl : DSt → M (List D)} {pos p : Pos} {x : Str} {k n : Nat} {m : List D → M D}
theorem de_call (C : Cal X.prog X.w X.K X.mg X.base k x n m) (hr : Room k X.A) (ha : DA X O E (e :: es) fl) (hg : autoParam (Gl X x) zau2._auto_1) (hdb : autoParam ((x == ("__debug__" : Str)) = false) zau1._auto_1) (he : autoParam (starEach (e :: es) X.env = (false, eval e X.env) :: starEach es X.env) zau2._auto_1)
    (hpl : autoParam ((backTo pos (starEach es X.env)).any (·.1) = false) zau2._auto_1) : DE X O E (.Call (.Name x p) (e :: es) [] pos) (fCall m fl) := by
  obtain ⟨f, fd, ps, hl, hm, hk, hb, F⟩ := C.ex
  rintro pins s σ H Q I ⟨ρ, H₀, G, δ, r, R, hf, h⟩
  refine pe_call F hr hg hm hk hb .nil (fun _ _ _ _ _ _ _ z => z.elim) ha hdb he hpl pins s σ H Q I (E := E) ?_
  rcases M.b_inv hf with ⟨ds, e1, hf⟩ | ⟨y, e1, rfl⟩
  · refine ⟨ρ, H₀, G, δ, .ok ds, R, e1, fun vs H1 s1 r1 => ?_⟩
    show spD X.K n m (vs ++ []) H1 Q E
    rw [List.append_nil]
    refine ⟨by rw [r1.length]; exact C.ar ds r hf, ρ, ds, r, fob G σ O, fun b hb z => ?_, r1, hf, ?_⟩
    · rw [(R.mono s1).fresh z] at hb; cases hb
    · cases r with
      | ok d => exact fun v H' s' rv => h v H' (s1.trans s') rv
      | error y => exact fun c dx H' s' xr => h c dx H' (R.same.trans (s1.trans s')) xr
  · exact ⟨ρ, H₀, G, δ, .error y, R, e1, h⟩
end
end DL
namespace DL
open PySem PySem.Spec L2
theorem hu30 {A : Around} {k : Nat} (hr : Room k A) : A.units + 30 < cLine := Nat.lt_of_le_of_lt (Nat.add_le_add_left (by decide : 30 ≤ 64) _) hr.units
theorem bt_len : bootBuiltins "len" = some (.builtin "len") := by decide +kernel
theorem bt_isinstance : bootBuiltins "isinstance" = some (.builtin "isinstance") := by decide +kernel
theorem bt_int : bootBuiltins "int" = some (.type "int") := by decide +kernel
theorem bt_bool : bootBuiltins "bool" = some (.type "bool") := by decide +kernel
end DL
namespace DL
open PySem PySem.Spec L2
noncomputable def gCat : D → D → Option D
  | .int i, .int j => some (.int (i + j))
  | .str x, .str y => if x.length + y.length ≤ sizeLine then some (.str (x ++ y)) else none
  | .lst xs, .lst ys => if xs.length + ys.length ≤ sizeLine then some (.lst (xs ++ ys)) else none
  | .tup xs, .tup ys => if xs.length + ys.length ≤ sizeLine ∧ xs ≠ [] ∧ ys ≠ [] then some (.tup (xs ++ ys)) else none
  | _, _ => none
noncomputable def rCatQ (K : PySem.W.Frag) : R2 := fun x y H Q => ∃ l b xs zs, x = .ref l ∧ y = .ref b ∧ SqL K H l xs ∧ SqL K H b zs ∧ xs.length + zs.length ≤ sizeLine ∧ ∀ p, H p = none → Q (.ref p) (upd H p (.lst (xs ++ zs)))
section
variable {X : Cx} {O O' B : List Nat} {E : XK} {a b c e : Expr} {es : List Expr} {fa fb fc : DSt → M D} {fl : DSt → M (List D)} {pos : Pos}
theorem op_catQ : OpR X (binaryOp .Add) (rCatQ X.K) := by
  intro pins s σ H x y v u Q I rx ry h
  obtain ⟨l, b, xs, zs, rfl, rfl, hH, hB, hz, q⟩ := h
  cases rx
  cases ry
  obtain ⟨its, r, ⟨⟨cls, dd, data, sl⟩, n, ho, hc, _, hd⟩, _⟩ := I.list hH
  obtain ⟨its2, r2, ⟨⟨cls2, dd2, data2, sl2⟩, n2, ho2, hc2, _, hd2⟩, _⟩ := I.list hB
  simp only at hc hd hc2 hd2
  subst hc hd hc2 hd2
  have l1 := r.length
  have l2 := r2.length
  have ea : its.toArray ++ its2.toArray = (its ++ its2).toArray := by simp
  refine concat_meets ⟨_, ho, rfl⟩ ⟨_, ho2, rfl⟩ noFill_list_add seq_list_add PySem.F.slot_list_add PySem.F.entry_list_add (PySem.F.args_list_add_2 _ _) (PyProof.Rows.list_addW l b its.toArray its2.toArray n n2 dd dd2 sl sl2 (by simp only [List.size_toArray]; omega)) ⟨ho, ho2, ?_⟩
  rw [ea]
  exact ⟨.ref _, _, I.lnew (t' := s.toks) (r.append r2) (by rw [List.length_append]; omega), rfl, q _ I.fresh⟩
theorem op_addC : OpR X (binaryOp .Add) (fun x y H Q => (rI0 (fun i j => .int (i + j)) x y H Q ∨ ∃ i j, x = .str i ∧ y = .str j ∧ i.length + j.length ≤ sizeLine ∧ Q (.str (i ++ j)) H) ∨ rCatQ X.K x y H Q ∨ rCatT X.K x y H Q) := op_addD.or (op_catQ.or op_catT)
theorem opd_cat : OpD X.K gCat (fun x y H Q => (rI0 (fun i j => .int (i + j)) x y H Q ∨ ∃ i j, x = .str i ∧ y = .str j ∧ i.length + j.length ≤ sizeLine ∧ Q (.str (i ++ j)) H) ∨ rCatQ X.K x y H Q ∨ rCatT X.K x y H Q) := by
  intro x y d hd ρ H G u v Q hG ru rv k
  unfold gCat at hd
  split at hd
  · cases hd; exact .inl (.inl ⟨_, _, rep_int.mp ru, rep_int.mp rv, k _ H (Same.refl H) (rep_int.mpr rfl)⟩)
  · split at hd
    · rename_i hz
      cases hd; exact .inl (.inr ⟨_, _, rep_str.mp ru, rep_str.mp rv, hz, k _ H (Same.refl H) (rep_str.mpr rfl)⟩)
    · cases hd
  · split at hd
    · rename_i hz
      cases hd
      obtain ⟨l, xs, rfl, q1, q2⟩ := rep_lst.mp ru
      obtain ⟨m, ys, rfl, p1, p2⟩ := rep_lst.mp rv
      exact .inr (.inl ⟨l, m, xs, ys, rfl, rfl, same_l same_un q1, same_l same_un p1, by rw [q2.length, p2.length]; exact hz, fun p hp => k _ _ (same_upd hp) (rep_new_lst hp (hG p hp) (q2.append p2))⟩)
    · cases hd
  · split at hd
    · rename_i hz
      cases hd
      obtain ⟨l, xs, rfl, q1, q2⟩ := rep_tup.mp ru
      obtain ⟨m, ys, rfl, p1, p2⟩ := rep_tup.mp rv
      have n1 : xs ≠ [] := fun z => by have := q2.length; rw [z] at this; exact hz.2.1 (List.length_eq_zero_iff.mp this.symm)
      have n2 : ys ≠ [] := fun z => by have := p2.length; rw [z] at this; exact hz.2.2 (List.length_eq_zero_iff.mp this.symm)
      exact .inr (.inr ⟨l, m, xs, ys, rfl, rfl, same_t same_un q1, same_t same_un p1, n1, by rw [q2.length, p2.length]; exact hz.1, fun z => absurd z n2, fun _ p hp => k _ _ (same_upd hp) (rep_new_tup hp (hG p hp) (q2.append p2))⟩)
    · cases hd
  · cases hd
theorem Reps.rep {ρ : Rho} {K : PySem.W.Frag} {H : Hp} {ds : List D} {vs : List V} (h : Reps ρ K H ds vs) : ∀ k : Nat, Reps ρ K H (List.replicate k ds).flatten (List.replicate k vs).flatten
  | 0 => Reps.nil
  | k + 1 => by rw [List.replicate_succ, List.flatten_cons, List.replicate_succ, List.flatten_cons]; exact h.append (Reps.rep h k)
inductive tOD (K : PySem.W.Frag) (O : List Nat) (E : XK) (f : DSt → M (Option Int)) (σ : St) (H : Hp) (Q : Option Int → Hp → Prop) : Prop
  | mk (ρ : Rho) (H₀ : Hp) (F : Addr → Bool) (δ : DSt) (r : Except XD (Option Int)) (R : RS ρ K H₀ H F O σ δ) (hf : f δ = some r) (k : match (generalizing := false) r with
    | .ok o => ∀ H', Same H H' → Q o H'
    | .error x => okX K H₀ E x)
noncomputable def DO (X : Cx) (O : List Nat) (E : XK) (e : Option Expr) (f : DSt → M (Option Int)) : Prop := PO X e (tOD X.K O E f)
noncomputable def oNone : DSt → M (Option Int) := fun _ => M.p none
noncomputable def intD : D → Option (Option Int)
  | .int i => some (some i)
  | _ => none
noncomputable def oSome (f : DSt → M D) : DSt → M (Option Int) := fun δ => (f δ).b fun d => M.o (intD d)
theorem do_none : DO X O E none oNone := by
  rintro pins s σ H Q I ⟨ρ, H₀, F, δ, r, R, hf, k⟩
  cases hf
  exact po_none pins s σ H Q I (k H (Same.refl H))
theorem do_some (h : DE X O E e fa) : DO X O E (some e) (oSome fa) := by
  rintro pins s σ H Q I ⟨ρ, H₀, F, δ, r, R, hf, k⟩
  refine po_some h pins s σ H Q I ?_
  rcases M.b_inv hf with ⟨x, e1, hf⟩ | ⟨x, e1, rfl⟩
  · refine ⟨ρ, H₀, F, δ, .ok x, R, e1, fun v H1 s1 r1 => ?_⟩
    obtain ⟨o, ho, rfl⟩ := M.o_inv hf
    cases x with
    | int i => cases ho; exact ⟨i, rep_int.mp r1, k H1 s1⟩
    | _ => cases ho
  · exact ⟨ρ, H₀, F, δ, .error x, R, e1, k⟩
noncomputable def cutL {α : Type} (xs : List α) (lo hi : Option Int) : List α := (xs.drop (HT.sIx xs.length 0 lo)).take (HT.sIx xs.length xs.length hi - HT.sIx xs.length 0 lo)
noncomputable def cutD : D → Option Int → Option Int → Option D
  | .lst ds, lo, hi => some (.lst (cutL ds lo hi))
  | .tup ds, lo, hi => if HT.sIx ds.length 0 lo = 0 ∧ HT.sIx ds.length ds.length hi = ds.length then none else some (.tup (cutL ds lo hi))
  | .str x, lo, hi => if x.length ≤ sizeLine then some (.str (Txt.slice x lo hi)) else none
  | _, _, _ => none
noncomputable def rSlS : V → Option Int → Option Int → Hp → VK → Prop := fun x lo hi H Q => ∃ z, x = .str z ∧ z.length ≤ sizeLine ∧ Q (.str (Txt.slice z lo hi)) H
theorem sl_str : SlR X rSlS := by
  intro pins s σ H x v vl vu lo hi sl Q I rx hs pl pu h
  obtain ⟨z, rfl, hz, q⟩ := h
  obtain ⟨t, rfl⟩ := rx
  have fin : ∀ {l u : Option (Int × Tok)}, l.map (·.1) = lo → u.map (·.1) = hi → s.heap.IsSlice sl l u none → wpAny (model X.prog X.w) X.A (getItem (.str z t) (.ref sl)) (EP X pins σ Q) X.xe s := fun {l u} e1 e2 h => by
    refine wpAny_getItem_str_slice (l := l) (u := u) (st := none) h rfl ?_
    have hw : ∀ t' k, EP X pins σ Q (.str (Txt.slice z lo hi) t') { s with toks := k } := fun t' k => ⟨.str (Txt.slice z lo hi), H, I.tok _, ⟨_, rfl⟩, q⟩
    rw [← e1, ← e2] at hw
    exact post_val_or_str ⟨Nat.le_trans (Txt.slice_le z _ _) hz, hw⟩
  obtain ⟨os, ho, hc, hd⟩ := hs
  refine ⟨"str", _, PySem.F.slot_str_getitem.lookup, typeIs_str _ _ _, ?_⟩
  cases pl with
  | none => cases pu with
    | none => exact fin (l := none) (u := none) rfl rfl ⟨os, ho, hc, hd⟩
    | int j tj => exact fin (l := none) (u := some (j, tj)) rfl rfl ⟨os, ho, hc, hd⟩
  | int i ti => cases pu with
    | none => exact fin (l := some (i, ti)) (u := none) rfl rfl ⟨os, ho, hc, hd⟩
    | int j tj => exact fin (l := some (i, ti)) (u := some (j, tj)) rfl rfl ⟨os, ho, hc, hd⟩
theorem Reps.take {ρ : Rho} {K : PySem.W.Frag} {H : Hp} : ∀ {ds : List D} {vs : List V} (n : Nat), Reps ρ K H ds vs → Reps ρ K H (ds.take n) (vs.take n)
  | _, _, 0, _ => by simp; exact Reps.nil
  | [], _, n + 1, h => by rw [reps_nil.mp h]; exact Reps.nil
  | d :: ds, _, n + 1, h => by
    obtain ⟨v, r, rfl, q, t⟩ := reps_cons.mp h
    exact Reps.cons q (Reps.take n t)
theorem Reps.drop {ρ : Rho} {K : PySem.W.Frag} {H : Hp} : ∀ {ds : List D} {vs : List V} (n : Nat), Reps ρ K H ds vs → Reps ρ K H (ds.drop n) (vs.drop n)
  | _, _, 0, h => h
  | [], _, n + 1, h => by rw [reps_nil.mp h]; exact Reps.nil
  | d :: ds, _, n + 1, h => by
    obtain ⟨v, r, rfl, q, t⟩ := reps_cons.mp h
    exact Reps.drop n t
theorem Reps.cut {ρ : Rho} {K : PySem.W.Frag} {H : Hp} {ds : List D} {vs : List V} (h : Reps ρ K H ds vs) (lo hi : Option Int) : Reps ρ K H (cutL ds lo hi) (cutV vs lo hi) := by
  unfold cutL cutV
  rw [h.length]
  exact (h.drop _).take _
noncomputable def fSl (fa : DSt → M D) (fl fh : DSt → M (Option Int)) : DSt → M D := fun δ => (fa δ).b fun x => (fl δ).b fun lo => (fh δ).b fun hi => M.o (cutD x lo hi)
theorem de_slice {lo hi : Option Expr} {fl fh : DSt → M (Option Int)} {p2 : Pos} (ha : DE X O E e fa) (hl : DO X O E lo fl) (hh : DO X O E hi fh) : DE X O E (.Subscript e (.Slice lo hi none p2) pos) (fSl fa fl fh) := by
  rintro pins s σ H Q I ⟨ρ, H₀, F, δ, r, R, hf, k⟩
  refine pe_slice (sl_list.or (sl_tup.or sl_str)) ha hl hh pins s σ H Q I ?_
  rcases M.b_inv hf with ⟨x, e1, hf⟩ | ⟨x, e1, rfl⟩
  · refine ⟨ρ, H₀, F, δ, .ok x, R, e1, fun v H1 s1 r1 => ?_⟩
    rcases M.b_inv hf with ⟨l, e2, hf⟩ | ⟨y, e2, rfl⟩
    · refine ⟨ρ, H₀, F, δ, .ok l, R.mono s1, e2, fun H2 s2 => ?_⟩
      rcases M.b_inv hf with ⟨h, e3, hf⟩ | ⟨y, e3, rfl⟩
      · refine ⟨ρ, H₀, F, δ, .ok h, R.mono (s1.trans s2), e3, fun H3 s3 => ?_⟩
        obtain ⟨d, hd, rfl⟩ := M.o_inv hf
        have r3 := r1.mono (same_hid (s2.trans s3))
        have R3 := R.mono (s1.trans (s2.trans s3))
        have sm := s1.trans (s2.trans s3)
        cases x with
        | lst ds =>
          cases hd
          obtain ⟨q, xs, rfl, q2, q3⟩ := rep_lst.mp r3
          exact .inl ⟨q, xs, rfl, same_l same_un q2, fun p hp => k _ _ (sm.trans (same_upd hp)) (rep_new_lst hp (R3.fresh hp) (q3.cut l h))⟩
        | tup ds =>
          have hd' : (if HT.sIx ds.length 0 l = 0 ∧ HT.sIx ds.length ds.length h = ds.length then none else some (D.tup (cutL ds l h))) = some d := hd
          split at hd'
          · cases hd'
          · rename_i hn
            cases hd'
            obtain ⟨q, xs, rfl, q2, q3⟩ := rep_tup.mp r3
            exact .inr (.inl ⟨q, xs, rfl, same_t same_un q2, by rw [q3.length]; exact hn, fun p hp => k _ _ (sm.trans (same_upd hp)) (rep_new_tup hp (R3.fresh hp) (q3.cut l h))⟩)
        | str z =>
          have hd' : (if z.length ≤ sizeLine then some (D.str (Txt.slice z l h)) else none) = some d := hd
          split at hd'
          · rename_i hz
            cases hd'
            exact .inr (.inr ⟨z, rep_str.mp r3, hz, k _ _ sm (rep_str.mpr rfl)⟩)
          · cases hd'
        | _ => cases hd
      · exact ⟨ρ, H₀, F, δ, .error y, R.mono (s1.trans s2), e3, k⟩
    · exact ⟨ρ, H₀, F, δ, .error y, R.mono s1, e2, k⟩
  · exact ⟨ρ, H₀, F, δ, .error x, R, e1, k⟩
noncomputable def gAug (i : Nat) (g : D → D → Option D) (f : DSt → M D) : DSt → M Out := fun δ => (M.o (δ[i]?).join).b fun x => (f δ).b fun y => (M.o (g x y)).b fun d => M.p (.nx (δ.set i (some d)))
end
end DL
namespace DL
open PySem PySem.Spec L2
section
variable {X : Cx} {O O' B : List Nat} {E : XK} {a b c e o : Expr} {es : List Expr} {fa fb fc fo fe : DSt → M D} {fl : DSt → M (List D)} {pos : Pos}
noncomputable def gAsg (h : D → DSt → Option DSt) (f : DSt → M D) : DSt → M Out := fun δ => (f δ).b fun d => match h d δ with
  | some δ' => M.p (.nx δ')
  | none => none
noncomputable def gTup3 (i j l : Nat) : D → DSt → Option DSt := fun d δ => match d with
  | .tup [x, y, z] => some (((δ.set i (some x)).set j (some y)).set l (some z))
  | _ => none
noncomputable def kIntT : List D → Option D
  | [.int i] => some (.int i)
  | [.bl k] => some (.int (if k then 1 else 0))
  | [.str x] => if x.length ≤ 640 then (PySem.intText? x).map .int else none
  | _ => none
end
end DL
namespace L2
open PySem PySem.Spec PyProof.Rows
section
variable {X : Cx} {tg : Expr}
end
end L2
namespace DL
open PySem PySem.Spec L2
section
variable {X : Cx} {O : List Nat} {E : XK} {a b tg iter e o : Expr} {es : List Expr} {fa fo fe : DSt → M D} {fl : DSt → M (List D)} {pos p : Pos}
end
end DL
namespace L2
open PySem PySem.Spec PyProof.Rows
theorem noFill_tuple_mul : fillsNumberSlot (.type "tuple") "mul" = pure false :=
  PySem.fillsNumberSlot_seq (id := "tuple.__mul__") (r := some (.builtin "tuple.__rmul__")) PySem.F.slot_tuple_mul.lookup (by decide +kernel) PySem.F.slot_tuple_rmul.lookup (by decide +kernel)
theorem repeat_tuple : seqRepeat? (.type "tuple") = pure (some (.builtin "tuple.__mul__")) := by
  unfold seqRepeat?
  rw [PySem.seqSlot_of (T := "tuple") (name := "__mul__") (id := "tuple.__mul__") PySem.F.slot_tuple_mul.lookup (by decide +kernel), PySem.seqSlot_of (T := "tuple") (name := "__rmul__") (id := "tuple.__rmul__") PySem.F.slot_tuple_rmul.lookup (by decide +kernel)]
  rfl
theorem rmul_int_tuple (a : Int) (t : Tok) (l : Addr) (items : Array Value) (n : Nat) (dd : Option Addr) (sl : Array (Option Value)) :
    Meets (Builtin.«int.__rmul__» ⟨[.int a t, .ref l], []⟩) (fun _ R s => s.heap.get? l = some { cls := .type "tuple", dict := dd, data := .seq items n, slots := sl } ∧ R (.ok (.ret Value.notImplemented)) s) :=
  .of_wp fun prog w A R s h => by obtain ⟨hp, g, d, tk, os⟩ := s; obtain ⟨hl, h⟩ := h; wp_walk; exact ⟨_, rfl, h⟩
theorem tuple_mul1 (l : Addr) (items : Array Value) (n : Nat) (u : Tok) (dd : Option Addr) (sl : Array (Option Value)) (hne : items.isEmpty = false) :
    Meets (Builtin.«tuple.__mul__» ⟨[.ref l, .int 1 u], []⟩) (fun _ R s => s.heap.get? l = some { cls := .type "tuple", dict := dd, data := .seq items n, slots := sl } ∧ R (.ok (.ret (.ref l))) s) :=
  .of_wp fun prog w A R s h => by
    obtain ⟨hp, g, d, tk, os⟩ := s; obtain ⟨hl, h⟩ := h
    have f1 := AutoSeq1.idx_int
    wp_walk
    exact ⟨_, rfl, h⟩
theorem tuple_mulN (l : Addr) (items : Array Value) (n : Nat) (k : Int) (u : Tok) (dd : Option Addr) (sl : Array (Option Value)) (hne : items.isEmpty = false) (h2 : 2 ≤ k) (h3 : k ≤ 1000) (hsz : items.size * k.toNat ≤ 100000) :
    Meets (Builtin.«tuple.__mul__» ⟨[.ref l, .int k u], []⟩) (fun _ R s => s.heap.get? l = some { cls := .type "tuple", dict := dd, data := .seq items n, slots := sl } ∧ R (.ok (.ret (.ref s.heap.objs.size))) { s with heap := s.heap.push { cls := .type "tuple", data := .seq (List.foldl (fun x1 x2 => x1 ++ x2) #[] (List.replicate k.toNat items)) } }) :=
  .of_wp fun prog w A R s h => by
    obtain ⟨hp, g, d, tk, os⟩ := s; obtain ⟨hl, h⟩ := h
    have f1 := AutoSeq1.idx_int
    have c1 : (decide (k < -(2 ^ 63)) || decide (k ≥ 2 ^ 63)) = false := by simp; omega
    have c2 : (items.isEmpty || k == 1) = false := by rw [hne]; simp; omega
    have c3 : (decide (k ≤ 0) || items.isEmpty) = false := by rw [hne]; simp; omega
    obtain ⟨m, rfl⟩ := Int.eq_ofNat_of_zero_le (show 0 ≤ k by omega)
    have hs : (items.size : Int) * (m : Int) = ((items.size * m : Nat) : Int) := by push_cast; rfl
    have hsz' : items.size * m ≤ 100000 := by simpa using hsz
    have c4 : ¬ ((items.size : Int) * (m : Int) > (2 ^ 63 - 1) / 8) := by rw [hs]; omega
    have c5 : Builtin.Tuple.tupleTooMany ((items.size : Int) * (m : Int)) = false := by
      rw [hs]
      unfold Builtin.Tuple.tupleTooMany
      simp [sizeLine]
      omega
    wp_walk
    refine wpAny_ite_false (decide_eq_false (by rw [c1]; decide)) ?_
    wp_walk
    refine wpAny_ite_false (decide_eq_false (by rw [c2]; decide)) ?_
    wp_walk
    refine wpAny_ite_false (decide_eq_false (by rw [c3]; decide)) ?_
    try dsimp only
    refine wpAny_ite_false (decide_eq_false c4) ?_
    try dsimp only
    refine wpAny_ite_false (decide_eq_false (by rw [c5]; decide)) ?_
    try dsimp only
    refine wpAny_bind ?_
    unfold Builtin.Tuple.tupleExact
    refine wpAny_newObj_type ?_ ?_
    · exact wpAny_pure ⟨_, rfl, h⟩
    · show (List.foldl (fun x1 x2 => x1 ++ x2) #[] (List.replicate ((m : Nat) : Int).toNat items)).size ≤ sizeLine
      rw [AutoListH.size_joined]
      have : 100000 ≤ sizeLine := by decide
      rw [Nat.mul_comm] at hsz'
      simp
      omega
end L2
namespace DL
open PySem PySem.Spec L2
noncomputable def rTRep (K : PySem.W.Frag) : R2 := fun x y H Q => ∃ l k xs, x = .ref l ∧ y = .int k ∧ SqT K H l xs ∧ xs ≠ [] ∧ 1 ≤ k ∧ k ≤ 1000 ∧ xs.length * k.toNat ≤ 100000 ∧ (k = 1 → Q (.ref l) H) ∧ (k ≠ 1 → ∀ p, H p = none → Q (.ref p) (upd H p (.tup (List.replicate k.toNat xs).flatten)))
section
variable {X : Cx} {O O' B : List Nat} {E : XK} {a b c e : Expr} {es : List Expr} {fa fb fc : DSt → M D} {fl : DSt → M (List D)} {pos : Pos}
theorem op_trep : OpR X (binaryOp .Mult) (rTRep X.K) := by
  intro pins s σ H x y v u Q I rx ry h
  obtain ⟨l, k, xs, rfl, rfl, hH, hne, h1, h2, hz, q1, q2⟩ := h
  cases rx
  obtain ⟨t, rfl⟩ := ry
  obtain ⟨its, r, ⟨⟨cls, dd, data, sl⟩, e, hc, n, hd⟩, _⟩ := I.tuple hH
  simp only at hc hd
  subst hc hd
  have l1 := r.length
  have hne' : its.toArray.isEmpty = false := by
    cases its with
    | nil => exact absurd (List.length_eq_zero_iff.mp l1) hne
    | cons _ _ => rfl
  have hlen : its.toArray.size * k.toNat ≤ 100000 := by rw [List.size_toArray, ← l1]; exact hz
  have hnew : List.foldl (fun x1 x2 => x1 ++ x2) #[] (List.replicate k.toNat its.toArray) = (List.replicate k.toNat its).flatten.toArray := by
    have := foldl_rep its k.toNat []
    rw [List.nil_append] at this
    exact this
  refine wpAny_binaryOp_repeat_ref (T := "tuple") (U := "int") (by decide) ⟨_, e, rfl⟩ (fun s' => typeIs_int s' k t) noFill_tuple_mul F.fills_int_mul F.slot_int_rmul repeat_tuple F.slot_int_index.lookup
    (call_meets F.slot_int_rmul (typeIs_int s k t) F.entry_int_rmul (F.args_int_rmul_2 _ _) (rmul_int_tuple k t l its.toArray n dd sl)
      ⟨e, rfl, ⟨_, e, rfl⟩, ?_⟩)
  by_cases hk : k = 1
  · subst hk
    exact call_meets F.slot_tuple_mul ⟨_, e, rfl⟩ F.entry_tuple_mul (F.args_tuple_mul_2 _ _) (tuple_mul1 l its.toArray n t dd sl hne') ⟨e, .ref l, H, I, rfl, q1 rfl⟩
  · refine call_meets F.slot_tuple_mul ⟨_, e, rfl⟩ F.entry_tuple_mul (F.args_tuple_mul_2 _ _) (tuple_mulN l its.toArray n k t dd sl hne' (by omega) h2 hlen) ⟨e, ?_⟩
    rw [hnew]
    refine ⟨.ref s.heap.objs.size, _, I.laid (t' := s.toks) (o := .tup (List.replicate k.toNat xs).flatten) (fun b ob q => Heap.get?_push_of_some _ q) (Nat.le_refl _) ?_, rfl, q2 hk _ (I.hok.fresh (Nat.le_refl _))⟩
    refine ⟨?_, _, r.rep k.toNat, PyProof.Rows.IsTup.new _ _⟩
    rw [len_rep, Nat.mul_comm]
    have : 100000 ≤ sizeLine := by decide
    omega
noncomputable def gMulT : D → D → Option D
  | .tup xs, .int k => if xs ≠ [] ∧ 1 ≤ k ∧ k ≤ 1000 ∧ xs.length * k.toNat ≤ 100000 then some (.tup (List.replicate k.toNat xs).flatten) else none
  | x, y => gMul x y
noncomputable def rMulT (K : PySem.W.Frag) : R2 := fun x y H Q => (rI (fun i j => (inBig i && inBig j) = true) (fun i j => .int (i * j)) x y H Q ∨ ∃ z n, x = .str z ∧ y = .int n ∧ (z.length ≤ 4096 ∧ -4096 ≤ n ∧ n ≤ 4096) ∧ Q (.str (Txt.mul z n)) H) ∨ rTRep K x y H Q
theorem op_mulT : OpR X (binaryOp .Mult) (rMulT X.K) := op_mulD.or op_trep
theorem opd_mulT : OpD X.K gMulT (rMulT X.K) := by
  intro x y d hd ρ H G u v Q hG ru rv k
  unfold gMulT at hd
  split at hd
  · split at hd
    · rename_i hz
      cases hd
      obtain ⟨l, xs, rfl, q1, q2⟩ := rep_tup.mp ru
      have n1 : xs ≠ [] := fun z => by have := q2.length; rw [z] at this; exact hz.1 (List.length_eq_zero_iff.mp this.symm)
      refine .inr ⟨l, _, xs, rfl, rep_int.mp rv, same_t same_un q1, n1, hz.2.1, hz.2.2.1, by rw [q2.length]; exact hz.2.2.2, fun e => ?_, fun _ p hp => k _ _ (same_upd hp) (rep_new_tup hp (hG p hp) (q2.rep _))⟩
      subst e
      refine k _ H (Same.refl H) ?_
      simpa using ru
    · cases hd
  · exact .inl (opd_mul (X := X) x y d hd ρ H G u v Q hG ru rv k)
end
end DL
namespace L2
open PySem PySem.Spec PyProof.Rows
noncomputable abbrev xOb (C : Addr) (od : Option Addr) (vs : Array Value) (sl : Array (Option Value)) : Obj := ⟨.ref C, od, .fields vs, sl⟩
noncomputable def XO (a C : Addr) (od : Option Addr) : HO := .ext fun h => ∃ vs sl, h.get? a = some (xOb C od vs sl)
inductive XDv (a : Addr) (fs : List (Str × V)) (h : Heap) : Prop
  | mk (mA : Str → Option Value) (hn : h.Ns1 a mA) (hr : ∀ f, RelO (fs.lookup f) (mA f)) (hw : PySem.Within mA (fs.map (·.1))) (hl : fs.length ≤ 1000)
noncomputable def XDc (a : Addr) (fs : List (Str × V)) : HO := .ext (XDv a fs)
theorem xo_ne {a C : Addr} {od : Option Addr} {xs : List V} : XO a C od ≠ .tup xs := fun z => by unfold XO at z; cases z
theorem xd_ne {a : Addr} {fs : List (Str × V)} {xs : List V} : XDc a fs ≠ .tup xs := fun z => by unfold XDc at z; cases z
end L2
namespace DL
open PySem PySem.Spec L2
inductive SO where
  | ins (c : Str) (fs : List (Str × D)) | lst (ds : List D) | tab (x : Str) (l c : Nat) (q : Str) | dct (kvs : List (List Int × D)) | exc (c : Str) (j : Option Nat) | xd (fs : List (Str × D))
noncomputable abbrev Sto := List SO
noncomputable abbrev MS (α : Type) := Sto → Option (Except XD α × Sto)
noncomputable def MS.b {α β : Type} (m : MS α) (f : α → MS β) : MS β := fun Ω => match m Ω with
  | none => none
  | some (.error x, Ω') => some (.error x, Ω')
  | some (.ok a, Ω') => f a Ω'
noncomputable def MS.p {α : Type} (a : α) : MS α := fun Ω => some (.ok a, Ω)
noncomputable def MS.l {α : Type} (m : M α) : MS α := fun Ω => m.map fun r => (r, Ω)
noncomputable def MS.o {α : Type} (m : Option α) : MS α := fun Ω => m.map fun r => (.ok r, Ω)
inductive MS.BInv {α β : Type} (m : MS α) (f : α → MS β) (Ω Ω' : Sto) (r : Except XD β) : Prop
  | ok (a : α) (Ω1 : Sto) (h1 : m Ω = some (.ok a, Ω1)) (h2 : f a Ω1 = some (r, Ω'))
  | err (x : XD) (h1 : m Ω = some (.error x, Ω')) (h2 : r = .error x)
theorem MS.b_inv {α β : Type} {m : MS α} {f : α → MS β} {Ω Ω' : Sto} {r : Except XD β} (h : m.b f Ω = some (r, Ω')) : MS.BInv m f Ω Ω' r := by
  unfold MS.b at h
  cases e : m Ω with
  | none => rw [e] at h; cases h
  | some p =>
    rw [e] at h
    obtain ⟨q, Ω1⟩ := p
    cases q with
    | error x => cases h; exact .err x e rfl
    | ok a => exact .ok a Ω1 e h
theorem MS.l_inv {α : Type} {m : M α} {Ω Ω' : Sto} {r : Except XD α} (h : MS.l m Ω = some (r, Ω')) : m = some r ∧ Ω' = Ω := by
  unfold MS.l at h
  cases e : m with
  | none => rw [e] at h; cases h
  | some p => rw [e] at h; cases h; exact ⟨rfl, rfl⟩
theorem MS.o_inv {α : Type} {m : Option α} {Ω Ω' : Sto} {r : Except XD α} (h : MS.o m Ω = some (r, Ω')) : ∃ a, m = some a ∧ r = .ok a ∧ Ω' = Ω := by
  unfold MS.o at h
  cases e : m with
  | none => rw [e] at h; cases h
  | some p => rw [e] at h; cases h; exact ⟨p, rfl, rfl, rfl⟩
@[simp] theorem MS.b_p {α β : Type} (a : α) (f : α → MS β) : (MS.p a).b f = f a := rfl
theorem MS.b_ok {α β : Type} {m : MS α} {f : α → MS β} {Ω Ω1 : Sto} {a : α} (h : m Ω = some (.ok a, Ω1)) : m.b f Ω = f a Ω1 := by unfold MS.b; rw [h]
noncomputable def RLe (ρ ρ' : Rho) : Prop := ∀ i a, ρ i = some a → ρ' i = some a
theorem RLe.refl (ρ : Rho) : RLe ρ ρ := fun _ _ h => h
theorem RLe.trans {ρ ρ' ρ'' : Rho} (a : RLe ρ ρ') (b : RLe ρ' ρ'') : RLe ρ ρ'' := fun i x h => b i x (a i x h)
section
variable {ρ ρ' : Rho} {K : PySem.W.Frag} {H H' : Hp}
mutual
theorem Rep.rho (e : RLe ρ ρ') : ∀ {d : D} {v : V}, Rep ρ K H d v → Rep ρ' K H d v
  | .non, _, h => by unfold Rep at h ⊢; exact h
  | .bl _, _, h => by unfold Rep at h ⊢; exact h
  | .int _, _, h => by unfold Rep at h ⊢; exact h
  | .str _, _, h => by unfold Rep at h ⊢; exact h
  | .ty _, _, h => by unfold Rep at h ⊢; exact h
  | .obj _, _, h => by
    unfold Rep at h ⊢
    obtain ⟨a, q1, q2⟩ := h
    exact ⟨a, e _ _ q1, q2⟩
  | .tup _, _, h => by
    unfold Rep at h ⊢
    obtain ⟨a, xs, q1, q2, q3⟩ := h
    exact ⟨a, xs, q1, q2, Reps.rho e q3⟩
  | .lst _, _, h => by
    unfold Rep at h ⊢
    obtain ⟨a, xs, q1, q2, q3⟩ := h
    exact ⟨a, xs, q1, q2, Reps.rho e q3⟩
theorem Reps.rho (e : RLe ρ ρ') : ∀ {ds : List D} {vs : List V}, Reps ρ K H ds vs → Reps ρ' K H ds vs
  | [], _, h => by unfold Reps at h ⊢; exact h
  | _ :: _, _, h => by
    unfold Reps at h ⊢
    obtain ⟨v, vs, q1, q2, q3⟩ := h
    exact ⟨v, vs, q1, Rep.rho e q2, Reps.rho e q3⟩
end
noncomputable def putD (f : Str) (d : D) : List (Str × D) → List (Str × D)
  | [] => [(f, d)]
  | (g, x) :: r => if g = f then (g, d) :: r else (g, x) :: putD f d r
noncomputable def Flds (ρ : Rho) (K : PySem.W.Frag) (H : Hp) : List (Str × D) → List (Str × V) → Prop
  | [], vs => vs = []
  | (f, d) :: fs, vs => ∃ v r, vs = (f, v) :: r ∧ Rep ρ K H d v ∧ Flds ρ K H fs r
theorem Flds.mono (e : RLe ρ ρ') (s : Same H H') : ∀ {fs : List (Str × D)} {vs : List (Str × V)}, Flds ρ K H fs vs → Flds ρ' K H' fs vs
  | [], _, h => h
  | (f, d) :: fs, _, ⟨v, r, q1, q2, q3⟩ => ⟨v, r, q1, (q2.rho e).mono s, Flds.mono e s q3⟩
theorem Flds.length : ∀ {fs : List (Str × D)} {vs : List (Str × V)}, Flds ρ K H fs vs → vs.length = fs.length
  | [], _, h => by cases h; rfl
  | (f, d) :: fs, _, ⟨v, r, q1, q2, q3⟩ => by subst q1; simp [Flds.length q3]
theorem Flds.get : ∀ {fs : List (Str × D)} {vs : List (Str × V)} {f : Str} {d : D}, Flds ρ K H fs vs → fs.lookup f = some d → ∃ v, vs.lookup f = some v ∧ Rep ρ K H d v
  | [], _, _, _, _, e => by cases e
  | (g, x) :: fs, _, f, d, ⟨v, r, q1, q2, q3⟩, e => by
    subst q1
    simp only [List.lookup_cons] at e ⊢
    cases h : f == g with
    | true => rw [h] at e; cases e; exact ⟨v, rfl, q2⟩
    | false => rw [h] at e; exact Flds.get q3 e
theorem Flds.put {f : Str} {d : D} {v : V} (hr : Rep ρ K H d v) : ∀ {fs : List (Str × D)} {vs : List (Str × V)}, Flds ρ K H fs vs → Flds ρ K H (putD f d fs) (putF f v vs)
  | [], _, h => by cases h; exact ⟨v, [], rfl, hr, rfl⟩
  | (g, x) :: fs, _, ⟨u, r, q1, q2, q3⟩ => by
    subst q1
    unfold putD putF
    by_cases h : g = f
    · rw [if_pos h, if_pos h]; exact ⟨v, r, rfl, hr, q3⟩
    · rw [if_neg h, if_neg h]; exact ⟨u, _, rfl, q2, Flds.put hr q3⟩
end
inductive InsOk (ρ : Rho) (S : Addr → Bool) (K : PySem.W.Frag) (mg : Str → Option Value) (H Hv : Hp) (a : Addr) (c : Str) (fs : List (Str × D)) : Prop
  | mk (C dx : Addr) (vfs : List (Str × V)) (h1 : mg c = some (.ref C)) (h2 : H a = some (.ins C dx vfs)) (h3 : H dx = some (.own a)) (h4 : S dx = true) (h5 : Flds ρ K Hv fs vfs)
inductive TabOf (K : PySem.W.Frag) (mg : Str → Option Value) (x : Str) (a : Addr) : Prop
  | mk (f c bm : Addr) (oc : Value) (od : Option Addr) (fd : FuncData) (osl : Array (Option Value)) (ob : Obj) (h1 : mg x = some (.ref f)) (h2 : K.lookup f = some ⟨oc, od, .func fd, osl⟩) (h3 : fd.code = .ref c) (h4 : PySem.W.codeHdIn K c a = true)
      (h5 : mg "__builtins__" = some (.ref bm)) (h6 : bm ≠ builtinsNs) (h7 : K.lookup bm = some ob) (h8 : ob.cls = .type "module") (h9 : ob.dict = some builtinsNs) (h10 : ob.data = .plain)
inductive TabG (Hv : Hp) (l c : Nat) (q : Str) (ps : Array Value) : Prop
  | nil (h : ps = #[])
  | one (c' : Addr) (o : Obj) (vs : Array Value) (t : Tok) (h : ps = #[rawInt l, rawInt c, .ref c']) (h1 : Hv c' = some (.frz o (.own 0))) (h2 : o.data = .fields vs) (h3 : vs[1]? = some (.str q t))
theorem TabG.mono {Hv Hv' : Hp} {l c : Nat} {q : Str} {ps : Array Value} (s : Same Hv Hv') : TabG Hv l c q ps → TabG Hv' l c q ps
  | .nil h => .nil h
  | .one c' o vs t h h1 h2 h3 => .one c' o vs t h (s _ _ h1) h2 h3
inductive TabOk (K : PySem.W.Frag) (mg : Str → Option Value) (H Hv : Hp) (a : Addr) (x : Str) (l c : Nat) (q : Str) : Prop
  | mk (ps : Array Value) (h1 : H a = some (.tbl ps)) (h2 : TabOf K mg x a) (h3 : TabG Hv l c q ps)
inductive ExcOk (ρ : Rho) (mg : Str → Option Value) (H : Hp) (a : Addr) (c : Str) : Option Nat → Prop
  | no (C : Addr) (h1 : mg c = some (.ref C)) (h2 : H a = some (XO a C none)) : ExcOk ρ mg H a c none
  | yes (j : Nat) (C dx : Addr) (h1 : mg c = some (.ref C)) (h2 : ρ j = some dx) (h3 : H a = some (XO a C (some dx))) : ExcOk ρ mg H a c (some j)
theorem ExcOk.mono {ρ ρ' : Rho} {mg : Str → Option Value} {H H' : Hp} {a : Addr} {c : Str} {j : Option Nat} (l : ∀ i b, ρ i = some b → ρ' i = some b) (e : H' a = H a) (h : ExcOk ρ mg H a c j) : ExcOk ρ' mg H' a c j := by
  cases h with
  | no C h1 h2 => exact .no C h1 (by rw [e]; exact h2)
  | yes j C dx h1 h2 h3 => exact .yes j C dx h1 (l _ _ h2) (by rw [e]; exact h3)
noncomputable def SOk (ρ : Rho) (S : Addr → Bool) (K : PySem.W.Frag) (mg : Str → Option Value) (H Hv : Hp) (a : Addr) : SO → Prop
  | .ins c fs => InsOk ρ S K mg H Hv a c fs
  | .lst ds => ∃ xs, H a = some (.lst xs) ∧ Reps ρ K Hv ds xs
  | .tab x l c q => TabOk K mg H Hv a x l c q
  | .exc c j => ExcOk ρ mg H a c j
  | .xd fs => ∃ vfs, H a = some (XDc a vfs) ∧ Flds ρ K Hv fs vfs
  | .dct kvs => ∃ vk : List (List Key × V), H a = some (.dT vk) ∧ vk.map (·.1) = kvs.map (fun p => p.1.map Sum.inl) ∧ Reps ρ K Hv (kvs.map (·.2)) (vk.map (·.2))
inductive AtOk (ρ : Rho) (S : Addr → Bool) (K : PySem.W.Frag) (mg : Str → Option Value) (H Hv : Hp) (i : Nat) (so : SO) : Prop
  | mk (a : Addr) (h1 : ρ i = some a) (h2 : S a = true) (h3 : SOk ρ S K mg H Hv a so)
noncomputable def TV (H Hv : Hp) : Prop := ∀ b xs, H b = some (.tup xs) → Hv b = some (.tup xs)
theorem tv_upd {H Hv : Hp} {a : Addr} {o : HO} (t : TV H Hv) (ho : ∀ xs, o ≠ .tup xs) : TV (upd H a o) Hv := fun b xs q => by
  by_cases hb : b = a
  · subst hb
    rw [upd_same] at q
    cases q
    exact absurd rfl (ho xs)
  · rw [upd_ne hb] at q
    exact t b xs q
theorem tv_le {H Hv Hv' : Hp} (t : TV H Hv) (v : Same Hv Hv') : TV H Hv' := fun b xs q => v b _ (t b xs q)
theorem tv_grow {H H' : Hp} {F : Addr → Bool} (t : TV H (hid H F)) (fr : ∀ b, H b = none → F b = false) (e : Same H H') : TV H' (hid H' F) := fun b xs q => by
  cases z : H b with
  | none => exact hid_some.mpr ⟨fr b z, q⟩
  | some o =>
    have := e b o z
    rw [q] at this
    cases this
    exact same_hid e b _ (t b xs z)
structure StoOk (ρ : Rho) (S : Addr → Bool) (K : PySem.W.Frag) (mg : Str → Option Value) (H Hv : Hp) (Ω : Sto) : Prop where
  ats : ∀ (i : Nat) so, Ω[i]? = some so → AtOk ρ S K mg H Hv i so
  inj : ∀ i j a, ρ i = some a → ρ j = some a → i = j
  top : ∀ i, Ω.length ≤ i → ρ i = none
  fin : ∀ b, S b = true → H b ≠ none
  tv : TV H Hv
noncomputable abbrev nof : Addr → Bool := fun _ => false
noncomputable def un (F S : Addr → Bool) : Addr → Bool := fun b => F b || S b
theorem un_t {F S : Addr → Bool} {b : Addr} : un F S b = true ↔ F b = true ∨ S b = true := by unfold un; rw [Bool.or_eq_true]
theorem un_f {F S : Addr → Bool} {b : Addr} : un F S b = false ↔ F b = false ∧ S b = false := by unfold un; rw [Bool.or_eq_false_iff]
section
variable {ρ ρ' : Rho} {S S' : Addr → Bool} {K : PySem.W.Frag} {mg : Str → Option Value} {H H' Hv Hv' : Hp} {Ω Ω' : Sto}
theorem SOk.mono {a : Addr} {so : SO} (hs : S a = true) (e : ∀ b, S b = true → H' b = H b) (v : Same Hv Hv') (h : SOk ρ S K mg H Hv a so) : SOk ρ S K mg H' Hv' a so := by
  cases so with
  | ins c fs =>
    obtain ⟨C, dx, vfs, q1, q2, q3, q4, q5⟩ := h
    exact ⟨C, dx, vfs, q1, by rw [e a hs]; exact q2, by rw [e dx q4]; exact q3, q4, q5.mono (RLe.refl _) v⟩
  | lst ds =>
    obtain ⟨xs, q1, q2⟩ := h
    exact ⟨xs, by rw [e a hs]; exact q1, q2.mono v⟩
  | tab x l c q =>
    obtain ⟨ps, q1, q2, q3⟩ := h
    exact ⟨ps, by rw [e a hs]; exact q1, q2, q3.mono v⟩
  | dct kvs =>
    obtain ⟨vk, q1, q2, q3⟩ := h
    exact ⟨vk, by rw [e a hs]; exact q1, q2, q3.mono v⟩
  | exc c j => exact ExcOk.mono (fun _ _ z => z) (e a hs) h
  | xd fs =>
    obtain ⟨vfs, q1, q2⟩ := h
    exact ⟨vfs, by rw [e a hs]; exact q1, q2.mono (RLe.refl _) v⟩
theorem StoOk.mono (h : StoOk ρ S K mg H Hv Ω) (e : ∀ b, S b = true → H' b = H b) (v : Same Hv Hv') (t : TV H' Hv') : StoOk ρ S K mg H' Hv' Ω :=
  ⟨fun i so hi => let ⟨a, q1, q2, q3⟩ := h.ats i so hi; ⟨a, q1, q2, q3.mono q2 e v⟩, h.inj, h.top, fun b hb => by rw [e b hb]; exact h.fin b hb, t⟩
end
structure RM (ρ₀ : Rho) (S₀ : Addr → Bool) (H₀ : Hp) (F : Addr → Bool) (K : PySem.W.Frag) (mg : Str → Option Value) (O : List Nat) (ρ : Rho) (S : Addr → Bool) (H : Hp) (σ : St) (δ : DSt) (Ω : Sto) : Prop where
  rs : RS ρ K (hid H (fob nof σ O)) H (un F S) O σ δ
  rho : RLe ρ₀ ρ
  same : ∀ b o, S₀ b = false → H₀ b = some o → H b = some o
  old : ∀ b, S₀ b = true → S b = true
  new : ∀ b, S b = true → S₀ b = true ∨ H₀ b = none
  own0 : ∀ i ∈ O, ∀ a, σ[i]? = some (some (.ref a)) → H₀ a = none
  ff : ∀ b, F b = true → S b = false
  sto : StoOk ρ S K mg H (hid H (fob (un F S) σ O)) Ω
section
variable {ρ₀ ρ : Rho} {S₀ S F : Addr → Bool} {H₀ H1 H H' : Hp} {K : PySem.W.Frag} {mg : Str → Option Value} {O O' : List Nat} {σ σ' : St} {δ δ' : DSt} {Ω : Sto}
theorem RS.rebase (R : RS ρ K H1 H F O σ δ) : RS ρ K (hid H (fob nof σ O)) H F O σ δ :=
  ⟨R.len, same_un, R.fin, R.val, fun i hi => by
    obtain ⟨a, xs, ds, q1, q2, q3, q4, q5⟩ := R.own i hi
    refine ⟨a, xs, ds, q1, q2, q3, ⟨?_, q4.2⟩, q5⟩
    unfold hid
    rw [if_pos (fob_t.mpr (.inr ⟨i, hi, q2⟩))], R.nd⟩
theorem RM.at_store (R : RM ρ₀ S₀ H₀ F K mg O ρ S H σ δ Ω) (e : Same H H') : ∀ b, S b = true → H' b = H b := fun b hb => by
  cases q : H b with
  | none => exact absurd q (R.sto.fin b hb)
  | some o => exact e b o q
theorem RM.mono (R : RM ρ₀ S₀ H₀ F K mg O ρ S H σ δ Ω) (e : Same H H') : RM ρ₀ S₀ H₀ F K mg O ρ S H' σ δ Ω :=
  ⟨(R.rs.mono e).rebase, R.rho, fun b o h1 h2 => e b o (R.same b o h1 h2), R.old, R.new, R.own0, R.ff, R.sto.mono (R.at_store e) (same_hid e) (tv_grow R.sto.tv (fun _ h => R.rs.fresh h) e)⟩
theorem RM.fresh (R : RM ρ₀ S₀ H₀ F K mg O ρ S H σ δ Ω) {p : Addr} (h : H p = none) : fob (un F S) σ O p = false := R.rs.fresh h
theorem RM.fresh0 (R : RM ρ₀ S₀ H₀ F K mg O ρ S H σ δ Ω) {p : Addr} (h : H p = none) : H₀ p = none ∨ S₀ p = true := by
  cases e : S₀ p with
  | true => exact .inr rfl
  | false =>
    cases e0 : H₀ p with
    | none => exact .inl rfl
    | some o => rw [R.same p o e e0] at h; cases h
theorem RM.noS (R : RM ρ₀ S₀ H₀ F K mg O ρ S H σ δ Ω) {p : Addr} (h : H p = none) : S p = false := by
  cases e : S p with
  | false => rfl
  | true => exact absurd h (R.sto.fin p e)
theorem RM.fresh00 (R : RM ρ₀ S₀ H₀ F K mg O ρ S H σ δ Ω) {p : Addr} (h : H p = none) : H₀ p = none := by
  rcases R.fresh0 h with q | q
  · exact q
  · have := R.noS h
    rw [R.old p q] at this; cases this
theorem RM.set (R : RM ρ₀ S₀ H₀ F K mg O ρ S H σ δ Ω) {i : Nat} {d : D} {v : V} (ho : i ∉ O) (hr : Rep ρ K (hid H (fob (un F S) σ O)) d v) : RM ρ₀ S₀ H₀ F K mg O ρ S H (σ.set i (some v)) (δ.set i (some d)) Ω := by
  refine ⟨(R.rs.set ho hr).rebase, R.rho, R.same, R.old, R.new, fun j hj a q => ?_, R.ff, by rw [ownA_set ho]; exact R.sto⟩
  rw [List.getElem?_set_ne (by rintro rfl; exact ho hj)] at q
  exact R.own0 j hj a q
end
end DL
namespace DL
open PySem PySem.Spec L2
inductive tE (K : PySem.W.Frag) (mg : Str → Option Value) (O : List Nat) (f : DSt → MS D) (σ : St) (H : Hp) (Q : VK) : Prop
  | mk (ρ₀ : Rho) (S₀ : Addr → Bool) (H₀ : Hp) (F : Addr → Bool) (ρ : Rho) (S : Addr → Bool) (δ : DSt) (Ω : Sto) (R : RM ρ₀ S₀ H₀ F K mg O ρ S H σ δ Ω) (r : Except XD D) (Ω' : Sto) (hf : f δ Ω = some (r, Ω')) (k : match (generalizing := false) r with
    | .ok d => ∀ v ρ' S' H', RM ρ₀ S₀ H₀ F K mg O ρ' S' H' σ δ Ω' → RLe ρ ρ' → Same (hid H (fob (un F S) σ O)) (hid H' (fob (un F S') σ O)) → Rep ρ' K (hid H' (fob (un F S') σ O)) d v → Q v H'
    | .error _ => True)
noncomputable def ME (X : Cx) (O : List Nat) (e : Expr) (f : DSt → MS D) : Prop := PE X e (tE X.K X.mg O f)
inductive tEB (K : PySem.W.Frag) (mg : Str → Option Value) (O : List Nat) (f : DSt → MS Bool) (σ : St) (H : Hp) (Q : Bool → Hp → Prop) : Prop
  | mk (ρ₀ : Rho) (S₀ : Addr → Bool) (H₀ : Hp) (F : Addr → Bool) (ρ : Rho) (S : Addr → Bool) (δ : DSt) (Ω : Sto) (R : RM ρ₀ S₀ H₀ F K mg O ρ S H σ δ Ω) (r : Except XD Bool) (Ω' : Sto) (hf : f δ Ω = some (r, Ω')) (k : match (generalizing := false) r with
    | .ok d => ∀ ρ' S' H', RM ρ₀ S₀ H₀ F K mg O ρ' S' H' σ δ Ω' → RLe ρ ρ' → Same (hid H (fob (un F S) σ O)) (hid H' (fob (un F S') σ O)) → Q d H'
    | .error _ => True)
noncomputable def MT (X : Cx) (O : List Nat) (e : Expr) (f : DSt → MS Bool) : Prop := PT X e (tEB X.K X.mg O f)
noncomputable def MW (X : Cx) (O : List Nat) (e : Expr) (f : DSt → MS Bool) : Prop := PW X e (tEB X.K X.mg O f)
inductive tEL (K : PySem.W.Frag) (mg : Str → Option Value) (O : List Nat) (f : DSt → MS (List D)) (σ : St) (H : Hp) (Q : List V → Hp → Prop) : Prop
  | mk (ρ₀ : Rho) (S₀ : Addr → Bool) (H₀ : Hp) (F : Addr → Bool) (ρ : Rho) (S : Addr → Bool) (δ : DSt) (Ω : Sto) (R : RM ρ₀ S₀ H₀ F K mg O ρ S H σ δ Ω) (r : Except XD (List D)) (Ω' : Sto) (hf : f δ Ω = some (r, Ω')) (k : match (generalizing := false) r with
    | .ok ds => ∀ vs ρ' S' H', RM ρ₀ S₀ H₀ F K mg O ρ' S' H' σ δ Ω' → RLe ρ ρ' → Same (hid H (fob (un F S) σ O)) (hid H' (fob (un F S') σ O)) → Reps ρ' K (hid H' (fob (un F S') σ O)) ds vs → Q vs H'
    | .error _ => True)
noncomputable def MA (X : Cx) (O : List Nat) (es : List Expr) (f : DSt → MS (List D)) : Prop := PA X es (tEL X.K X.mg O f)
noncomputable def lF {α : Type} (f : DSt → M α) : DSt → MS α := fun δ => MS.l (f δ)
noncomputable def mCons (f : DSt → MS D) (g : DSt → MS (List D)) : DSt → MS (List D) := fun δ => (f δ).b fun x => (g δ).b fun xs => MS.p (x :: xs)
noncomputable def m2 (g : D → D → Option D) (fa fb : DSt → MS D) : DSt → MS D := fun δ => (fa δ).b fun x => (fb δ).b fun y => MS.o (g x y)
noncomputable def m1 (g : D → Option D) (fa : DSt → MS D) : DSt → MS D := fun δ => (fa δ).b fun x => MS.o (g x)
noncomputable def mL (k : List D → Option D) (g : DSt → MS (List D)) : DSt → MS D := fun δ => (g δ).b fun xs => MS.o (k xs)
noncomputable def mTru (fa : DSt → MS D) : DSt → MS Bool := fun δ => (fa δ).b fun x => MS.o (truD x)
noncomputable def mNot (ta : DSt → MS Bool) : DSt → MS Bool := fun δ => (ta δ).b fun x => MS.p !x
noncomputable def mOr (ta tb : DSt → MS Bool) : DSt → MS Bool := fun δ => (ta δ).b fun x => if x = true then MS.p true else tb δ
noncomputable def getO (cs : List Str) (f : Str) : D → MS D := fun x Ω => match x with
  | .obj i => match Ω[i]? with
    | some (.ins c fs) => if cs.contains c then (fs.lookup f).map fun d => (.ok d, Ω) else none
    | _ => none
  | _ => none
noncomputable def mGet (cs : List Str) (f : Str) (fa : DSt → MS D) : DSt → MS D := fun δ => (fa δ).b fun x => getO cs f x
section
variable {X : Cx} {O : List Nat} {a b c e : Expr} {es : List Expr} {fa fb fc : DSt → MS D} {fl : DSt → MS (List D)} {pos : Pos} {ta tb tc : DSt → MS Bool}
theorem me_pure {f : DSt → M D} (h : DE X O E0 e f) : ME X O e (lF f) := by
  rintro pins s σ H Q I ⟨ρ₀, S₀, H₀, F, ρ, S, δ, Ω, R, r, Ω', hf, k⟩
  obtain ⟨hg, rfl⟩ := MS.l_inv hf
  refine h pins s σ H Q I ⟨ρ, _, un F S, δ, r, R.rs, hg, ?_⟩
  cases r with
  | ok d => exact fun v H' s' rv => k v ρ S H' (R.mono s') (RLe.refl _) (same_hid s') rv
  | error x => exact fun c dx H' _ z => z.elim
theorem ma_pure {f : DSt → M (List D)} (h : DA X O E0 es f) : MA X O es (lF f) := by
  rintro p pins s σ H Q I ⟨ρ₀, S₀, H₀, F, ρ, S, δ, Ω, R, r, Ω', hf, k⟩
  obtain ⟨hg, rfl⟩ := MS.l_inv hf
  refine h p pins s σ H Q I ⟨ρ, _, un F S, δ, r, R.rs, hg, ?_⟩
  cases r with
  | ok d => exact fun v H' s' rv => k v ρ S H' (R.mono s') (RLe.refl _) (same_hid s') rv
  | error x => exact fun c dx H' _ z => z.elim
theorem ma_cons (ha : ME X O e fa) (hr : MA X O es fl) (hs : autoParam (starEach (e :: es) X.env = (false, eval e X.env) :: starEach es X.env) zau2._auto_1) : MA X O (e :: es) (mCons fa fl) := by
  rintro p pins s σ H Q I ⟨ρ₀, S₀, H₀, F, ρ, S, δ, Ω, R, r, Ω', hf, k⟩
  refine pa_cons ha hr hs p pins s σ H Q I ?_
  rcases MS.b_inv hf with ⟨x, Ω1, e1, hf⟩ | ⟨x, e1, rfl⟩
  · refine ⟨ρ₀, S₀, H₀, F, ρ, S, δ, Ω, R, .ok x, Ω1, e1, fun u ρ1 S1 H1 R1 l1 v1 r1 => ?_⟩
    rcases MS.b_inv hf with ⟨xs, Ω2, e2, hf⟩ | ⟨y, e2, rfl⟩
    · cases hf
      exact ⟨ρ₀, S₀, H₀, F, ρ1, S1, δ, Ω1, R1, .ok xs, _, e2, fun vs ρ2 S2 H2 R2 l2 v2 r2 => k (u :: vs) ρ2 S2 H2 R2 (l1.trans l2) (v1.trans v2) (Reps.cons ((r1.rho l2).mono v2) r2)⟩
    · exact ⟨ρ₀, S₀, H₀, F, ρ1, S1, δ, Ω1, R1, .error y, _, e2, trivial⟩
  · exact ⟨ρ₀, S₀, H₀, F, ρ, S, δ, Ω, R, .error x, _, e1, trivial⟩
theorem mbin_in {g : D → D → Option D} {r : R2} {σ : St} {H : Hp} {Q : VK} (hg : OpD X.K g r) (h : tE X.K X.mg O (m2 g fa fb) σ H Q) : tOp r (tE X.K X.mg O fa) (tE X.K X.mg O fb) σ H Q := by
  obtain ⟨ρ₀, S₀, H₀, F, ρ, S, δ, Ω, R, r, Ω', hf, k⟩ := h
  rcases MS.b_inv hf with ⟨x, Ω1, e1, hf⟩ | ⟨x, e1, rfl⟩
  · refine ⟨ρ₀, S₀, H₀, F, ρ, S, δ, Ω, R, .ok x, Ω1, e1, fun u ρ1 S1 H1 R1 l1 v1 r1 => ?_⟩
    rcases MS.b_inv hf with ⟨y, Ω2, e2, hf⟩ | ⟨y, e2, rfl⟩
    · refine ⟨ρ₀, S₀, H₀, F, ρ1, S1, δ, Ω1, R1, .ok y, Ω2, e2, fun w ρ2 S2 H2 R2 l2 v2 r2 => ?_⟩
      obtain ⟨d, hd, rfl, rfl⟩ := MS.o_inv hf
      exact hg x y d hd ρ2 H2 _ u w Q (fun p hp => R2.fresh hp) ((r1.rho l2).mono v2) r2 fun z H3 s3 r3 => k z ρ2 S2 H3 (R2.mono s3) (l1.trans l2) (v1.trans (v2.trans (same_hid s3))) r3
    · exact ⟨ρ₀, S₀, H₀, F, ρ1, S1, δ, Ω1, R1, .error y, _, e2, trivial⟩
  · exact ⟨ρ₀, S₀, H₀, F, ρ, S, δ, Ω, R, .error x, _, e1, trivial⟩
theorem me_op {op : Operator} {g : D → D → Option D} {r : R2} (ho : OpR X (binaryOp op) r) (hg : OpD X.K g r) (ha : ME X O a fa) (hb : ME X O b fb) : ME X O (.BinOp a op b pos) (m2 g fa fb) :=
  fun pins s σ H Q I h => pe_op ho ha hb pins s σ H Q I (mbin_in hg h)
theorem me_lst (h : MA X O es fl) : ME X O (.List es pos) (mL gLstD fl) := by
  rintro pins s σ H Q I ⟨ρ₀, S₀, H₀, F, ρ, S, δ, Ω, R, r, Ω', hf, k⟩
  refine pe_lst h pins s σ H Q I ?_
  rcases MS.b_inv hf with ⟨x, Ω1, e1, hf⟩ | ⟨x, e1, rfl⟩
  · refine ⟨ρ₀, S₀, H₀, F, ρ, S, δ, Ω, R, .ok x, Ω1, e1, fun u ρ1 S1 H1 R1 l1 v1 r1 => ?_⟩
    obtain ⟨d, hd, rfl, rfl⟩ := MS.o_inv hf
    unfold gLstD at hd
    split at hd
    · rename_i hz
      cases hd
      exact ⟨by rw [r1.length]; exact hz, fun p hp => k _ ρ1 S1 _ (R1.mono (same_upd hp)) l1 (v1.trans (same_hid (same_upd hp))) (rep_new_lst hp (R1.fresh hp) r1)⟩
    · cases hd
  · exact ⟨ρ₀, S₀, H₀, F, ρ, S, δ, Ω, R, .error x, _, e1, trivial⟩
theorem mt_val (ha : ME X O a fa) (he : autoParam (∀ whole, isTrue a X.env whole = (do let v ← whole; standAt a.pos; holding [v] (truthy v))) zau6._auto_1) : MT X O a (mTru fa) := by
  rintro pins s σ H Q I ⟨ρ₀, S₀, H₀, F, ρ, S, δ, Ω, R, r, Ω', hf, k⟩
  refine pt_truth ha he pins s σ H Q I ?_
  rcases MS.b_inv hf with ⟨x, Ω1, e1, hf⟩ | ⟨x, e1, rfl⟩
  · refine ⟨ρ₀, S₀, H₀, F, ρ, S, δ, Ω, R, .ok x, Ω1, e1, fun u ρ1 S1 H1 R1 l1 v1 r1 => ?_⟩
    obtain ⟨z, hz, rfl, rfl⟩ := MS.o_inv hf
    refine ⟨z, ?_, k ρ1 S1 H1 R1 l1 v1⟩
    cases x with
    | non => cases hz; rw [rep_non.mp r1]; rfl
    | bl y => cases hz; rw [rep_bl.mp r1]; rfl
    | int i => cases hz; rw [rep_int.mp r1]; rfl
    | str y =>
      by_cases hl : y.length ≤ sizeLine
      · have e : truD (.str y) = some ((y.length : Int) != 0) := if_pos hl
        rw [e] at hz; cases hz
        rw [rep_str.mp r1]; exact ⟨hl, rfl⟩
      · have e : truD (.str y) = none := if_neg hl
        rw [e] at hz; cases hz
    | tup ds =>
      cases hz
      obtain ⟨q, xs, rfl, q2, q3⟩ := rep_tup.mp r1
      exact .inr (.inl ⟨xs, same_t same_un q2, by rw [isE q3]⟩)
    | lst ds =>
      cases hz
      obtain ⟨q, xs, rfl, q2, q3⟩ := rep_lst.mp r1
      exact .inl ⟨xs, same_l same_un q2, by rw [isE q3]⟩
    | ty n => cases hz
    | obj n => cases hz
  · exact ⟨ρ₀, S₀, H₀, F, ρ, S, δ, Ω, R, .error x, _, e1, trivial⟩
theorem mt_not (ha : MT X O a ta) : MT X O (.UnaryOp .Not a pos) (mNot ta) := by
  rintro pins s σ H Q I ⟨ρ₀, S₀, H₀, F, ρ, S, δ, Ω, R, r, Ω', hf, k⟩
  refine pt_not ha pins s σ H Q I ?_
  rcases MS.b_inv hf with ⟨x, Ω1, e1, hf⟩ | ⟨x, e1, rfl⟩
  · cases hf
    exact ⟨ρ₀, S₀, H₀, F, ρ, S, δ, Ω, R, .ok x, _, e1, fun ρ1 S1 H1 R1 l1 v1 => k ρ1 S1 H1 R1 l1 v1⟩
  · exact ⟨ρ₀, S₀, H₀, F, ρ, S, δ, Ω, R, .error x, _, e1, trivial⟩
theorem MW.mt {f : DSt → MS Bool} (h : MW X O e f) : MT X O e f := PW.pt h
theorem mw_or1 (ha : MT X O a ta) : MW X O (.BoolOp .Or [a] pos) ta := pw_or1 ha
theorem mw_or {rest : List Expr} (ha : MT X O a ta) (hb : MW X O (.BoolOp .Or (b :: rest) pos) tb) : MW X O (.BoolOp .Or (a :: b :: rest) pos) (mOr ta tb) := by
  rintro wh pins s σ H Q I ⟨ρ₀, S₀, H₀, F, ρ, S, δ, Ω, R, r, Ω', hf, k⟩
  refine pw_or ha hb wh pins s σ H Q I ?_
  rcases MS.b_inv hf with ⟨x, Ω1, e1, hf⟩ | ⟨x, e1, rfl⟩
  · refine ⟨ρ₀, S₀, H₀, F, ρ, S, δ, Ω, R, .ok x, Ω1, e1, fun ρ1 S1 H1 R1 l1 v1 => ?_⟩
    cases x with
    | true => cases hf; exact iteT (k ρ1 S1 H1 R1 l1 v1)
    | false =>
      refine iteF ⟨ρ₀, S₀, H₀, F, ρ1, S1, δ, Ω1, R1, r, Ω', hf, ?_⟩
      cases r with
      | ok d => exact fun ρ2 S2 H2 R2 l2 v2 => k ρ2 S2 H2 R2 (l1.trans l2) (v1.trans v2)
      | error y => trivial
  · exact ⟨ρ₀, S₀, H₀, F, ρ, S, δ, Ω, R, .error x, _, e1, trivial⟩
end
end DL
namespace DL
open PySem PySem.Spec L2
structure RT (ρ₀ : Rho) (S₀ : Addr → Bool) (H₀ : Hp) (F : Addr → Bool) (K : PySem.W.Frag) (mg : Str → Option Value) (ρ : Rho) (S : Addr → Bool) (H : Hp) (Ω : Sto) : Prop where
  rho : RLe ρ₀ ρ
  same : ∀ b o, S₀ b = false → H₀ b = some o → H b = some o
  old : ∀ b, S₀ b = true → S b = true
  new : ∀ b, S b = true → S₀ b = true ∨ H₀ b = none
  ff : ∀ b, F b = true → S b = false
  sto : StoOk ρ S K mg H (hid H (un F S)) Ω
section
variable {ρ₀ ρ ρ' : Rho} {S₀ S S' F : Addr → Bool} {H₀ H H' : Hp} {K : PySem.W.Frag} {mg : Str → Option Value} {O O' B : List Nat} {σ σ' : St} {δ δ' : DSt} {Ω Ω' : Sto}
theorem le_fob {σ : St} {O : List Nat} {F : Addr → Bool} : ∀ b, F b = true → fob F σ O b = true := fun b h => fob_t.mpr (.inl h)
theorem RM.rt (R : RM ρ₀ S₀ H₀ F K mg O ρ S H σ δ Ω) : RT ρ₀ S₀ H₀ F K mg ρ S H Ω :=
  ⟨R.rho, R.same, R.old, R.new, R.ff, R.sto.mono (fun _ _ => rfl) (hid_le le_fob) (tv_le R.sto.tv (hid_le le_fob))⟩
theorem RM.base_some (R : RM ρ₀ S₀ H₀ F K mg O ρ S H σ δ Ω) {b : Addr} {o : HO} (h : H b = some o) (hn : ¬ ∃ i ∈ O, σ[i]? = some (some (.ref b))) : hid H (fob nof σ O) b = some o :=
  hid_some.mpr ⟨by cases e : fob nof σ O b with
    | false => rfl
    | true => rcases fob_t.mp e with q | q; cases q; exact absurd q hn, h⟩
theorem RM.base_S (R : RM ρ₀ S₀ H₀ F K mg O ρ S H σ δ Ω) {b : Addr} (hb : S b = true) : ¬ ∃ i ∈ O, σ[i]? = some (some (.ref b)) := by
  rintro ⟨i, hi, q⟩
  obtain ⟨a, xs, ds, q1, q2, q3, q4, q5⟩ := R.rs.own i hi
  rw [q] at q2; cases q2
  rw [(un_f.mp q4.2).2] at hb; cases hb
theorem RM.base_0 (R : RM ρ₀ S₀ H₀ F K mg O ρ S H σ δ Ω) {b : Addr} {o : HO} (hb : H₀ b = some o) : ¬ ∃ i ∈ O, σ[i]? = some (some (.ref b)) := by
  rintro ⟨i, hi, q⟩
  rw [R.own0 i hi b q] at hb; cases hb
theorem RM.no_tup (R : RM ρ₀ S₀ H₀ F K mg O ρ S H σ δ Ω) (s : Same (hid H (fob nof σ O)) H') {b : Addr} {xs : List V} (hb : un F S b = true) : H' b ≠ some (.tup xs) := fun q => by
  cases e : H b with
  | none => exact R.rs.fin b hb e
  | some o =>
    have := s b o (R.base_some e fun ⟨i, hi, y⟩ => by
      obtain ⟨a, xs, ds, q1, q2, q3, q4, q5⟩ := R.rs.own i hi
      rw [y] at q2; cases q2
      rw [q4.2] at hb; cases hb)
    rw [q] at this
    cases this
    have := (hid_some.mp (R.sto.tv b xs e)).1
    rw [le_fob b hb] at this; cases this
theorem RM.next (R : RM ρ₀ S₀ H₀ F K mg O ρ S H σ δ Ω) (R' : RS ρ K (hid H (fob nof σ O)) H' (un F S) O' σ' δ') (v : Same (hid H (fob (un F S) σ O)) (hid H' (fob (un F S) σ' O'))) : RM ρ₀ S₀ H₀ F K mg O' ρ S H' σ' δ' Ω := by
  refine ⟨R'.rebase, R.rho, fun b o h1 h2 => R'.same b o (R.base_some (R.same b o h1 h2) (R.base_0 h2)), R.old, R.new, fun i hi a q => ?_, R.ff, R.sto.mono (fun b hb => ?_) v fun b xs q => hid_some.mpr ⟨?_, q⟩⟩
  · obtain ⟨a', xs, ds, q1, q2, q3, q4, q5⟩ := R'.own i hi
    rw [q] at q2; cases q2
    have h0 := q4.1
    cases e : H a with
    | none => exact R.fresh00 e
    | some o =>
      by_cases hn : ∃ i ∈ O, σ[i]? = some (some (.ref a))
      · obtain ⟨j, hj, z⟩ := hn
        exact R.own0 j hj a z
      · rw [R.base_some e hn] at h0; cases h0
  · cases e : H b with
    | none => exact absurd e (R.sto.fin b hb)
    | some o => exact R'.same b o (R.base_some e (R.base_S hb))
  · cases z : fob (un F S) σ' O' b with
    | false => rfl
    | true =>
      rcases fob_t.mp z with z | ⟨i, hi, z⟩
      · exact absurd q (R.no_tup R'.same z)
      · obtain ⟨a, xs, ds, q1, q2, q3, q4, q5⟩ := R'.own i hi
        rw [z] at q2; cases q2
        rw [q3] at q; cases q
theorem RM.left (R : RM ρ₀ S₀ H₀ F K mg O ρ S H σ δ Ω) (s : Same (hid H (fob nof σ O)) H') : RT ρ₀ S₀ H₀ F K mg ρ S H' Ω := by
  refine ⟨R.rho, fun b o h1 h2 => s b o (R.base_some (R.same b o h1 h2) (R.base_0 h2)), R.old, R.new, R.ff, R.sto.mono (fun b hb => ?_) (fun b o q => ?_) fun b xs q => hid_some.mpr ⟨?_, q⟩⟩
  · cases e : H b with
    | none => exact absurd e (R.sto.fin b hb)
    | some o => exact s b o (R.base_some e (R.base_S hb))
  · obtain ⟨q1, q2⟩ := hid_some.mp q
    refine hid_some.mpr ⟨?_, s b o (R.base_some q2 fun hn => ?_)⟩
    · cases e : un F S b with
      | false => rfl
      | true => rw [le_fob b e] at q1; cases q1
    · rw [fob_t.mpr (.inr hn)] at q1; cases q1
  · cases z : un F S b with
    | false => rfl
    | true => exact absurd q (R.no_tup s z)
end
noncomputable def OkE (K : PySem.W.Frag) (mg : Str → Option Value) (O' B : List Nat) (ρ₀ : Rho) (S₀ : Addr → Bool) (H₀ : Hp) (F : Addr → Bool) (ρ : Rho) (Hv : Hp) (Dn : Ends) : Except XD Out → Sto → Prop
  | .ok (.nx δ'), Ω' => ∀ ρ' S' σ' H', RM ρ₀ S₀ H₀ F K mg O' ρ' S' H' σ' δ' Ω' → RLe ρ ρ' → Same Hv (hid H' (fob (un F S') σ' O')) → Dn.nx σ' H'
  | .ok (.rt d), Ω' => ∀ v ρ' S' H', RT ρ₀ S₀ H₀ F K mg ρ' S' H' Ω' → Rep ρ' K (hid H' (un F S')) d v → Dn.rt v H'
  | .ok (.bk δ'), Ω' => ∀ ρ' S' σ' H', RM ρ₀ S₀ H₀ F K mg B ρ' S' H' σ' δ' Ω' → RLe ρ ρ' → Same Hv (hid H' (fob (un F S') σ' B)) → Dn.bk σ' H'
  | .ok (.ct δ'), Ω' => ∀ ρ' S' σ' H', RM ρ₀ S₀ H₀ F K mg B ρ' S' H' σ' δ' Ω' → RLe ρ ρ' → Same Hv (hid H' (fob (un F S') σ' B)) → Dn.ct σ' H'
  | .error _, _ => True
theorem OkE.back {K : PySem.W.Frag} {mg : Str → Option Value} {O' B : List Nat} {ρ₀ ρ ρ' : Rho} {S₀ : Addr → Bool} {H₀ : Hp} {F : Addr → Bool} {Hv Hv' : Hp} {Dn : Ends} {r : Except XD Out} {Ω' : Sto} (l : RLe ρ ρ') (e : Same Hv Hv') (h : OkE K mg O' B ρ₀ S₀ H₀ F ρ Hv Dn r Ω') :
    OkE K mg O' B ρ₀ S₀ H₀ F ρ' Hv' Dn r Ω' := by
  cases r with
  | error x => trivial
  | ok o =>
    cases o with
    | nx δ' => exact fun ρ1 S1 σ1 H1 R l1 v1 => h ρ1 S1 σ1 H1 R (l.trans l1) (e.trans v1)
    | bk δ' => exact fun ρ1 S1 σ1 H1 R l1 v1 => h ρ1 S1 σ1 H1 R (l.trans l1) (e.trans v1)
    | ct δ' => exact fun ρ1 S1 σ1 H1 R l1 v1 => h ρ1 S1 σ1 H1 R (l.trans l1) (e.trans v1)
    | rt d => exact h
inductive sE (K : PySem.W.Frag) (mg : Str → Option Value) (O O' B : List Nat) (g : DSt → MS Out) (Dn : Ends) (σ : St) (H : Hp) : Prop
  | mk (ρ₀ : Rho) (S₀ : Addr → Bool) (H₀ : Hp) (F : Addr → Bool) (ρ : Rho) (S : Addr → Bool) (δ : DSt) (Ω : Sto) (R : RM ρ₀ S₀ H₀ F K mg O ρ S H σ δ Ω) (r : Except XD Out) (Ω' : Sto) (hf : g δ Ω = some (r, Ω')) (k : OkE K mg O' B ρ₀ S₀ H₀ F ρ (hid H (fob (un F S) σ O)) Dn r Ω')
noncomputable def MSt (X : Cx) (O O' B : List Nat) (st : Stmt) (g : DSt → MS Out) : Prop := PS X st (sE X.K X.mg O O' B g)
noncomputable def MSs (X : Cx) (O O' B : List Nat) (st : List Stmt) (g : DSt → MS Out) : Prop := PSs X st (sE X.K X.mg O O' B g)
noncomputable def eNx : DSt → MS Out := fun δ => MS.p (.nx δ)
noncomputable def eSeq (g1 g2 : DSt → MS Out) : DSt → MS Out := fun δ => (g1 δ).b fun o => match o with
  | .nx δ' => g2 δ'
  | o => MS.p o
noncomputable def eSet (i : Nat) (f : DSt → MS D) : DSt → MS Out := fun δ => (f δ).b fun d => MS.p (.nx (δ.set i (some d)))
noncomputable def eRet (f : DSt → MS D) : DSt → MS Out := fun δ => (f δ).b fun d => MS.p (.rt d)
noncomputable def eDrop (f : DSt → MS D) : DSt → MS Out := fun δ => (f δ).b fun _ => MS.p (.nx δ)
noncomputable def eIf (t : DSt → MS Bool) (g1 g2 : DSt → MS Out) : DSt → MS Out := fun δ => (t δ).b fun b => if b = true then g1 δ else g2 δ
noncomputable def putO (cs : List Str) (f : Str) (x d : D) : MS Unit := fun Ω => match x with
  | .obj i => match Ω[i]? with
    | some (.ins c fs) => if (cs.contains c && decide (fs.length < 1000)) = true then some (.ok (), Ω.set i (.ins c (putD f d fs))) else none
    | _ => none
  | _ => none
noncomputable def ePut (cs : List Str) (f : Str) (fo fv : DSt → MS D) : DSt → MS Out := fun δ => (fv δ).b fun d => (fo δ).b fun x => (putO cs f x d).b fun _ => MS.p (.nx δ)
noncomputable def forE (g : DSt → MS Out) (tg : D → DSt → Option DSt) : List D → DSt → MS Out
  | [], δ => MS.p (.nx δ)
  | d :: ds, δ => match tg d δ with
    | none => fun _ => none
    | some δ1 => (g δ1).b fun o => match o with
      | .nx δ' => forE g tg ds δ'
      | .ct δ' => forE g tg ds δ'
      | .bk δ' => MS.p (.nx δ')
      | .rt v => MS.p (.rt v)
noncomputable def eFor (fi : DSt → MS (List D)) (tg : D → DSt → Option DSt) (g : DSt → MS Out) : DSt → MS Out := fun δ => (fi δ).b fun ds => forE g tg ds δ
section
variable {X : Cx} {O O' O'' B : List Nat} {a b c e : Expr} {es : List Expr} {fa fb : DSt → MS D} {fl : DSt → MS (List D)} {pos : Pos} {st : Stmt} {rest : List Stmt} {g g1 g2 : DSt → MS Out} {tc : DSt → MS Bool}
theorem ms_pure {h : DSt → M Out} (hd : DS X O O' B E0 st h) : MSt X O O' B st (lF h) := by
  rintro pins s σ H Dn I ⟨ρ₀, S₀, H₀, F, ρ, S, δ, Ω, R, r, Ω', hf, k⟩
  obtain ⟨hg, rfl⟩ := MS.l_inv hf
  refine hd pins s σ H Dn I ⟨ρ, _, un F S, δ, r, R.rs, hg, ?_⟩
  cases r with
  | error x => exact fun c dx H' _ z => z.elim
  | ok o =>
    cases o with
    | nx δ' => exact fun σ' H' v R' => k ρ S σ' H' (R.next R' v) (RLe.refl _) v
    | bk δ' => exact fun σ' H' v R' => k ρ S σ' H' (R.next R' v) (RLe.refl _) v
    | ct δ' => exact fun σ' H' v R' => k ρ S σ' H' (R.next R' v) (RLe.refl _) v
    | rt d => exact fun v H' s' rv => k v ρ S H' (R.left s') rv
theorem mss_nil : MSs X O O B [] eNx := by
  rintro pins s σ H Dn I ⟨ρ₀, S₀, H₀, F, ρ, S, δ, Ω, R, r, Ω', hf, k⟩
  cases hf
  exact pss_nil pins s σ H Dn I (k ρ S σ H R (RLe.refl _) (Same.refl _))
theorem mss_cons (h1 : MSt X O O' B st g1) (h2 : MSs X O' O'' B rest g2) : MSs X O O'' B (st :: rest) (eSeq g1 g2) := by
  rintro pins s σ H Dn I ⟨ρ₀, S₀, H₀, F, ρ, S, δ, Ω, R, r, Ω', hf, k⟩
  refine pss_cons h1 h2 pins s σ H Dn I ?_
  rcases MS.b_inv hf with ⟨o, Ω1, e1, hf⟩ | ⟨x, e1, rfl⟩
  · refine ⟨ρ₀, S₀, H₀, F, ρ, S, δ, Ω, R, .ok o, Ω1, e1, ?_⟩
    cases o with
    | nx δ' => exact fun ρ1 S1 σ1 H1 R1 l1 v1 => ⟨ρ₀, S₀, H₀, F, ρ1, S1, δ', Ω1, R1, r, Ω', hf, k.back l1 v1⟩
    | rt d => cases hf; exact k
    | bk δ' => cases hf; exact k
    | ct δ' => cases hf; exact k
  · exact ⟨ρ₀, S₀, H₀, F, ρ, S, δ, Ω, R, .error x, _, e1, trivial⟩
theorem mss_one (h1 : MSt X O O' B st g) : MSs X O O' B [st] g := fun pins s σ H Dn I h => pss_one h1 pins s σ H Dn I h
theorem ms_set {i : Nat} {x : Str} {pos' : Pos} (hN : X.N.Nodup) (he : ME X O e fa) (ho : autoParam (O.contains i = false) zau2._auto_1) (hi : autoParam (X.N[i]? = some x) zau2._auto_1) (hx : autoParam (Loc X.env.scope x) zau7._auto_1) (hs : autoParam (swapsWith e (some (.Name x pos')) pos.line X.env = pure false) zau2._auto_1)
    (hf : autoParam (X.fn x = true ∨ X.env.scope.names.lookup x = some .local) zau0._auto_1) : MSt X O O B (.Assign [.Name x pos'] e pos) (eSet i fa) := by
  rintro pins s σ H Dn I ⟨ρ₀, S₀, H₀, F, ρ, S, δ, Ω, R, r, Ω', hg, k⟩
  have ho' : i ∉ O := fun z => by rw [List.contains_iff_mem.mpr z] at ho; cases ho
  refine ps_set hN hi hx he hs hf pins s σ H Dn I ?_
  rcases MS.b_inv hg with ⟨d, Ω1, e1, hg⟩ | ⟨x, e1, rfl⟩
  · cases hg
    exact ⟨ρ₀, S₀, H₀, F, ρ, S, δ, Ω, R, .ok d, _, e1, fun v ρ1 S1 H1 R1 l1 v1 r1 => k ρ1 S1 _ H1 (R1.set ho' r1) l1 (by rw [ownA_set ho']; exact v1)⟩
  · exact ⟨ρ₀, S₀, H₀, F, ρ, S, δ, Ω, R, .error x, _, e1, trivial⟩
theorem ms_ret (he : ME X O e fa) : MSt X O O' B (.Return (some e) pos) (eRet fa) := by
  rintro pins s σ H Dn I ⟨ρ₀, S₀, H₀, F, ρ, S, δ, Ω, R, r, Ω', hg, k⟩
  refine ps_ret he pins s σ H Dn I ?_
  rcases MS.b_inv hg with ⟨d, Ω1, e1, hg⟩ | ⟨x, e1, rfl⟩
  · cases hg
    exact ⟨ρ₀, S₀, H₀, F, ρ, S, δ, Ω, R, .ok d, _, e1, fun v ρ1 S1 H1 R1 l1 v1 r1 => k v ρ1 S1 H1 R1.rt (r1.mono (hid_le le_fob))⟩
  · exact ⟨ρ₀, S₀, H₀, F, ρ, S, δ, Ω, R, .error x, _, e1, trivial⟩
theorem ms_if {s1 s2 : List Stmt} (hc : MT X O c tc) (h1 : MSs X O O' B s1 g1) (h2 : MSs X O O' B s2 g2) : MSt X O O' B (.If c s1 s2 pos) (eIf tc g1 g2) := by
  rintro pins s σ H Dn I ⟨ρ₀, S₀, H₀, F, ρ, S, δ, Ω, R, r, Ω', hg, k⟩
  refine ps_if hc h1 h2 pins s σ H Dn I ?_
  rcases MS.b_inv hg with ⟨z, Ω1, e1, hg⟩ | ⟨x, e1, rfl⟩
  · refine ⟨ρ₀, S₀, H₀, F, ρ, S, δ, Ω, R, .ok z, _, e1, fun ρ1 S1 H1 R1 l1 v1 => ?_⟩
    cases z with
    | true => exact iteT ⟨ρ₀, S₀, H₀, F, ρ1, S1, δ, Ω1, R1, r, Ω', hg, k.back l1 v1⟩
    | false => exact iteF ⟨ρ₀, S₀, H₀, F, ρ1, S1, δ, Ω1, R1, r, Ω', hg, k.back l1 v1⟩
  · exact ⟨ρ₀, S₀, H₀, F, ρ, S, δ, Ω, R, .error x, _, e1, trivial⟩
end
end DL
namespace DL
open PySem PySem.Spec L2
section
variable {ρ₀ ρ ρ' : Rho} {S₀ S S' F : Addr → Bool} {H₀ H H1 H' : Hp} {K : PySem.W.Frag} {mg : Str → Option Value} {O O' B : List Nat} {σ σ' : St} {δ δ' : DSt} {Ω Ω' : Sto}
theorem RS.updF {a : Addr} {o : HO} (R : RS ρ K H1 H F O σ δ) (h : F a = true) : RS ρ K (hid (upd H a o) (fob nof σ O)) (upd H a o) F O σ δ := by
  have hh : hid (upd H a o) (fob F σ O) = hid H (fob F σ O) := hid_upd (le_fob a h)
  refine ⟨R.len, same_un, fun b hb => upd_nn (R.fin b hb), fun i d hd hi => by rw [hh]; exact R.val i d hd hi, fun i hi => ?_, R.nd⟩
  obtain ⟨l, xs, ds, q1, q2, q3, q4, q5⟩ := R.own i hi
  have hl : l ≠ a := by rintro rfl; rw [q4.2] at h; cases h
  refine ⟨l, xs, ds, q1, q2, by rw [upd_ne hl]; exact q3, ⟨?_, q4.2⟩, by rw [hh]; exact q5⟩
  unfold hid
  rw [if_pos (fob_t.mpr (.inr ⟨i, hi, q2⟩))]
theorem un_fob : un (fob F σ O) S = fob (un F S) σ O := by
  funext b
  unfold un fob
  simp only
  cases F b <;> cases S b <;> cases (ownA σ O).contains b <;> rfl
theorem RM.call (R : RM ρ₀ S₀ H₀ F K mg O ρ S H σ δ Ω) (l : RLe ρ ρ') (sm : ∀ b o, S b = false → H b = some o → H' b = some o) (old : ∀ b, S b = true → S' b = true) (new : ∀ b, S' b = true → S b = true ∨ H b = none)
    (ff : ∀ b, fob F σ O b = true → S' b = false) (sto : StoOk ρ' S' K mg H' (hid H' (un (fob F σ O) S')) Ω') :
    RM ρ₀ S₀ H₀ F K mg O ρ' S' H' σ δ Ω' ∧ Same (hid H (fob (un F S) σ O)) (hid H' (fob (un F S') σ O)) := by
  have keepS : ∀ b o, S b = false → H b = some o → S' b = false := fun b o h1 h2 => by
    cases e : S' b with
    | false => rfl
    | true =>
      rcases new b e with q | q
      · rw [q] at h1; cases h1
      · rw [q] at h2; cases h2
  have vis : Same (hid H (fob (un F S) σ O)) (hid H' (fob (un F S') σ O)) := fun b o q => by
    obtain ⟨q1, q2⟩ := hid_some.mp q
    have hu : un F S b = false := by
      cases e : un F S b with
      | false => rfl
      | true => rw [le_fob b e] at q1; cases q1
    obtain ⟨h1, h2⟩ := un_f.mp hu
    refine hid_some.mpr ⟨?_, sm b o h2 q2⟩
    cases e : fob (un F S') σ O b with
    | false => rfl
    | true =>
      rcases fob_t.mp e with z | z
      · rcases un_t.mp z with z | z
        · rw [h1] at z; cases z
        · rw [keepS b o h2 q2] at z; cases z
      · rw [fob_t.mpr (.inr z)] at q1; cases q1
  have rs : RS ρ' K (hid H' (fob nof σ O)) H' (un F S') O σ δ := by
    refine ⟨R.rs.len, same_un, fun b hb => ?_, fun i d hd hi => ?_, fun i hi => ?_, R.rs.nd⟩
    · rcases un_t.mp hb with q | q
      · have h1 := R.rs.fin b (un_t.mpr (.inl q))
        intro z
        cases e : H b with
        | none => exact h1 e
        | some o => rw [sm b o (R.ff b q) e] at z; cases z
      · exact sto.fin b q
    · obtain ⟨v, q1, q2⟩ := R.rs.val i d hd hi
      exact ⟨v, q1, (q2.rho l).mono vis⟩
    · obtain ⟨a, xs, ds, q1, q2, q3, q4, q5⟩ := R.rs.own i hi
      have hS := (un_f.mp q4.2).2
      refine ⟨a, xs, ds, q1, q2, sm a _ hS q3, ⟨?_, un_f.mpr ⟨(un_f.mp q4.2).1, keepS a _ hS q3⟩⟩, (q5.rho l).mono vis⟩
      unfold hid
      rw [if_pos (fob_t.mpr (.inr ⟨i, hi, q2⟩))]
  refine ⟨⟨rs, R.rho.trans l, fun b o h1 h2 => ?_, fun b hb => old b (R.old b hb), fun b hb => ?_, R.own0, fun b hb => ff b (fob_t.mpr (.inl hb)), by rw [un_fob] at sto; exact sto⟩, vis⟩
  · have h3 := R.same b o h1 h2
    refine sm b o ?_ h3
    cases e : S b with
    | false => rfl
    | true =>
      rcases R.new b e with q | q
      · rw [q] at h1; cases h1
      · rw [q] at h2; cases h2
  · rcases new b hb with q | q
    · exact R.new b q
    · exact .inr (R.fresh00 q)
noncomputable def addR (ρ : Rho) (n : Nat) (x : Addr) : Rho := fun i => if i = n then some x else ρ i
noncomputable def addS (S : Addr → Bool) (x dx : Addr) : Addr → Bool := fun b => S b || b == x || b == dx
theorem addS_t {S : Addr → Bool} {x dx b : Addr} : addS S x dx b = true ↔ S b = true ∨ b = x ∨ b = dx := by
  unfold addS
  simp only [Bool.or_eq_true, beq_iff_eq, or_assoc]
end
inductive spE (K : PySem.W.Frag) (mg : Str → Option Value) (n : Nat) (m : List D → MS D) (vs : List V) (H : Hp) (Q : VK) (E : XK) : Prop
  | mk (hn : vs.length = n) (ρ : Rho) (S F : Addr → Bool) (ds : List D) (Ω : Sto) (hF : ∀ b, F b = true → H b ≠ none) (hS : ∀ b, F b = true → S b = false) (hr : Reps ρ K (hid H (un F S)) ds vs) (hs : StoOk ρ S K mg H (hid H (un F S)) Ω) (r : Except XD D) (Ω' : Sto) (hf : m ds Ω = some (r, Ω')) (k : match (generalizing := false) r with
    | .ok d => ∀ v ρ' S' H', RLe ρ ρ' → (∀ b o, S b = false → H b = some o → H' b = some o) → (∀ b, S b = true → S' b = true) → (∀ b, S' b = true → S b = true ∨ H b = none) → (∀ b, F b = true → S' b = false) → StoOk ρ' S' K mg H' (hid H' (un F S')) Ω' → Rep ρ' K (hid H' (un F S')) d v → Q v H'
    | .error _ => True)
inductive MetX (P : Program) (w : World) (K : PySem.W.Frag) (mg : Str → Option Value) (base : Heap) (k : Nat) (c x : Str) (n : Nat) (sp : Sp) : Prop
  | mk (C f : Addr) (fd : FuncData) (ps : List Str) (h1 : ps.length = n) (h2 : mg c = some (.ref C)) (h3 : Cls K C) (h4 : Meth K C x f) (h5 : Binds K fd ps []) (h6 : FnOk P w K mg base CX0 k f fd ps sp)
inductive IniX (P : Program) (w : World) (K : PySem.W.Frag) (mg : Str → Option Value) (base : Heap) (k : Nat) (c : Str) (n : Nat) (sp : Sp) : Prop
  | mk (C f : Addr) (fd : FuncData) (ps : List Str) (h1 : ps.length = n) (h2 : mg c = some (.ref C)) (h3 : Mk K C f) (h4 : Binds K fd ps []) (h5 : FnOk P w K mg base CX0 k f fd ps sp)
structure CalE (P : Program) (w : World) (K : PySem.W.Frag) (mg : Str → Option Value) (base : Heap) (k : Nat) (x : Str) (n : Nat) (m : List D → MS D) : Prop where
  ex : CalX P w K mg base k x n (spE K mg n m)
  ar : ∀ ds Ω r, m ds Ω = some r → ds.length = n
structure MetE (P : Program) (w : World) (K : PySem.W.Frag) (mg : Str → Option Value) (base : Heap) (k : Nat) (c x : Str) (n : Nat) (m : List D → MS D) : Prop where
  ex : MetX P w K mg base k c x n (spE K mg n m)
  ar : ∀ ds Ω r, m ds Ω = some r → ds.length = n
structure IniE (P : Program) (w : World) (K : PySem.W.Frag) (mg : Str → Option Value) (base : Heap) (k : Nat) (c : Str) (n : Nat) (m : List D → MS D) : Prop where
  ex : IniX P w K mg base k c n (spE K mg n m)
  ar : ∀ ds Ω r, m ds Ω = some r → ds.length = n
noncomputable def outE : Out → MS D
  | .rt d => MS.p d
  | .nx _ => MS.p .non
  | _ => fun _ => none
noncomputable def mirE (n N : Nat) (g : DSt → MS Out) : List D → MS D := fun ds => if ds.length = n then (g (startD N ds)).b outE else fun _ => none
theorem mirE_ar {n N : Nat} {g : DSt → MS Out} : ∀ ds Ω r, mirE n N g ds Ω = some r → ds.length = n := fun ds Ω r h => by
  unfold mirE at h
  split at h
  · assumption
  · cases h
section
variable {P : Program} {w : World} {K : PySem.W.Frag} {mg : Str → Option Value} {base : Heap}
theorem fn_E {x q : Str} {st : Stmt} {N ps : List Str} {k : Nat} {O' : List Nat} {g : DSt → MS Out} {f : Addr} {fd : FuncData} (F : Fun K x q st f fd) (Sc : FnScope N ps (defScope st))
    (hbody : ∀ (f : Addr) (cdv : Value) (A : Around) (outer : List Env) (s : Shared) (H : Hp) (E : XK), Room k (A.deeper (PyProof.Rows.envOfC q (defScope st) s.heap.objs.size f cdv)) →
      MSs (cxOf CX0 P w K mg base N q (defScope st) f cdv A outer s H E).nox [] O' [] (defBody st) g) : FnOk P w K mg base CX0 (k + 1) f fd ps (spE K mg ps.length (mirE ps.length N.length g)) := by
  refine F.ok Sc (fun vs H Q E h => h.1) fun cdv A outer s H vs Q E hr h => ?_
  obtain ⟨hl, ρ, S, F', ds, Ω, fin, ff, rp, sto, r, Ω', hmr, k0⟩ := h
  refine ⟨_, hbody f cdv A outer s H E hr, ?_⟩
  have hpl : ps.length ≤ N.length := by have := congrArg List.length Sc.pre; rw [List.length_take] at this; omega
  have hdl : ds.length = ps.length := by rw [← rp.length]; exact hl
  unfold mirE at hmr
  rw [if_pos hdl] at hmr
  have R : RM ρ S H F' K mg [] ρ S H (L2.start N vs) (startD N.length ds) Ω := by
    refine ⟨⟨?_, same_un, fun b hb => ?_, fun i d hd _ => ?_, fun i hi => absurd hi (by simp), fun i hi => absurd hi (by simp)⟩, RLe.refl _, fun b o _ h => h, fun b h => h, fun b h => .inl h, fun i hi => absurd hi (by simp), ff, by rw [fob_nil]; exact sto⟩
    · simp [L2.start, startD, rp.length]
    · rcases un_t.mp hb with z | z
      · exact fin b z
      · exact sto.fin b z
    · obtain ⟨v, e, rv⟩ := rp.get (startD_get hd)
      exact ⟨v, start_set e, by rw [fob_nil]; exact rv⟩
  rcases MS.b_inv hmr with ⟨o, Ω1, e1, hmr⟩ | ⟨y, e1, rfl⟩
  · refine ⟨ρ, S, H, F', ρ, S, _, Ω, R, .ok o, Ω1, e1, ?_⟩
    cases o with
    | rt d =>
      cases hmr
      exact fun v ρ' S' H' T rv => k0 v ρ' S' H' T.rho T.same T.old T.new T.ff T.sto rv
    | nx δ =>
      cases hmr
      exact fun ρ' S' σ' H' R' _ _ => k0 .non ρ' S' H' R'.rt.rho R'.rt.same R'.rt.old R'.rt.new R'.rt.ff R'.rt.sto (rep_non.mpr rfl)
    | bk δ => cases hmr
    | ct δ => cases hmr
  · exact ⟨ρ, S, H, F', ρ, S, _, Ω, R, .error y, _, e1, trivial⟩
theorem calE_of {x : Str} {st : Stmt} {N ps : List Str} {k : Nat} {O' : List Nat} {g : DSt → MS Out} (hf : FunAt K mg x st ps) (S : FnScope N ps (defScope st))
    (hbody : ∀ (f : Addr) (cdv : Value) (A : Around) (outer : List Env) (s : Shared) (H : Hp) (E : XK), Room k (A.deeper (PyProof.Rows.envOfC x (defScope st) s.heap.objs.size f cdv)) →
      MSs (cxOf CX0 P w K mg base N x (defScope st) f cdv A outer s H E).nox [] O' [] (defBody st) g) : CalE P w K mg base (k + 1) x ps.length (mirE ps.length N.length g) := by
  obtain ⟨f, fd, hm, F, hb⟩ := hf
  exact ⟨⟨f, fd, ps, rfl, hm, F.kp, hb, fn_E F S hbody⟩, mirE_ar⟩
structure MetAt (K : PySem.W.Frag) (mg : Str → Option Value) (c x q : Str) (st : Stmt) (ps : List Str) : Prop where
  ex : ∃ C f fd, mg c = some (.ref C) ∧ Cls K C ∧ Meth K C x f ∧ Fun K x q st f fd ∧ Binds K fd ps []
structure IniAt (K : PySem.W.Frag) (mg : Str → Option Value) (c q : Str) (st : Stmt) (ps : List Str) : Prop where
  ex : ∃ C f fd, mg c = some (.ref C) ∧ Mk K C f ∧ Fun K "__init__" q st f fd ∧ Binds K fd ps []
theorem law_spE {m : List D → MS D} {H : Hp} {a : Addr} {ns : List Int} {Ω' : Sto} (hS : SqL K H a (ns.map V.int)) (h : m [.lst (ns.map .int)] [] = some (.ok (.bl true), Ω')) : spE K mg 1 m [.ref a] H (fun v _ => v = .bl true) fun _ _ _ => False := by
  refine ⟨rfl, fun _ => none, fun _ => false, fun _ => false, [.lst (ns.map .int)], [], (fun b hb => by cases hb), (fun b hb => by cases hb), Reps.cons (rep_lst.mpr ⟨a, _, rfl, ?_, reps_ints.mpr rfl⟩) Reps.nil, ⟨fun i so hi => by simp at hi, fun i j a h => (nomatch h), fun i _ => rfl, (fun b hb => by cases hb), fun _ _ q => q⟩, _, _, h, fun v ρ' S' H' _ _ _ _ _ _ r => rep_bl.mp r⟩
  have : hid H (un (fun _ => false) fun _ => false) = H := by funext b; rfl
  rw [this]; exact hS
end
end DL
namespace DL
open PySem PySem.Spec L2
noncomputable def mCall (m : List D → MS D) (fl : DSt → MS (List D)) : DSt → MS D := fun δ => (fl δ).b m
noncomputable def mCallP (m : List D → M D) (fl : DSt → MS (List D)) : DSt → MS D := fun δ => (fl δ).b fun ds => MS.l (m ds)
noncomputable def methO (c x : Str) (m : List D → MS D) (i : Nat) (fl : DSt → MS (List D)) (δ : DSt) : MS D := fun Ω => match Ω[i]? with
  | some (.ins c' fs) => if c' = c ∧ fs.lookup x = none then ((fl δ).b fun ds => m (.obj i :: ds)) Ω else none
  | _ => none
noncomputable def mMeth (c x : Str) (m : List D → MS D) (fo : DSt → MS D) (fl : DSt → MS (List D)) : DSt → MS D := fun δ => (fo δ).b fun o => match o with
  | .obj i => methO c x m i fl δ
  | _ => fun _ => none
noncomputable def makeO (c : Str) (m : List D → MS D) (ds : List D) : MS D := fun Ω => ((m (.obj Ω.length :: ds)).b fun d => match d with
  | .non => MS.p (.obj Ω.length)
  | _ => fun _ => none) (Ω ++ [.ins c []])
noncomputable def mMake (c : Str) (m : List D → MS D) (fl : DSt → MS (List D)) : DSt → MS D := fun δ => (fl δ).b fun ds => makeO c m ds
section
variable {X : Cx} {O : List Nat} {a b o e : Expr} {es : List Expr} {fa fb fo : DSt → MS D} {fl : DSt → MS (List D)} {pos p apos : Pos} {x c : Str} {k n : Nat}
variable {ρ₀ ρ : Rho} {S₀ S F : Addr → Bool} {H₀ H : Hp} {σ : St} {δ : DSt} {Ω Ω' : Sto}
theorem spE_in {m : List D → MS D} {ds : List D} {vs : List V} {r : Except XD D} {Q : VK} {E : XK} (R : RM ρ₀ S₀ H₀ F X.K X.mg O ρ S H σ δ Ω) (hl : ds.length = n) (hr : Reps ρ X.K (hid H (fob (un F S) σ O)) ds vs) (hm : m ds Ω = some (r, Ω'))
    (k : match (generalizing := false) r with
      | .ok d => ∀ v ρ' S' H', RM ρ₀ S₀ H₀ F X.K X.mg O ρ' S' H' σ δ Ω' → RLe ρ ρ' → Same (hid H (fob (un F S) σ O)) (hid H' (fob (un F S') σ O)) → Rep ρ' X.K (hid H' (fob (un F S') σ O)) d v → Q v H'
      | .error _ => True) : spE X.K X.mg n m vs H Q E := by
  refine ⟨by rw [hr.length]; exact hl, ρ, S, fob F σ O, ds, Ω, fun b hb => ?_, fun b hb => ?_, by rw [un_fob]; exact hr, by rw [un_fob]; exact R.sto, r, Ω', hm, ?_⟩
  · intro z
    have := R.fresh z
    rw [← un_fob, un_t.mpr (.inl hb)] at this; cases this
  · rcases fob_t.mp hb with z | z
    · exact R.ff b z
    · cases e : S b with
      | false => rfl
      | true => exact absurd z (R.base_S e)
  · cases r with
    | error x => trivial
    | ok d =>
      intro v ρ' S' H' l sm old new ff sto rv
      obtain ⟨t1, t2⟩ := R.call l sm old new ff sto
      rw [un_fob] at rv
      exact k v ρ' S' H' t1 l t2 rv
theorem me_call {m : List D → MS D} (C : CalE X.prog X.w X.K X.mg X.base k x n m) (hr : Room k X.A) (ha : MA X O (e :: es) fl) (hg : autoParam (Gl X x) zau2._auto_1) (hdb : autoParam ((x == ("__debug__" : Str)) = false) zau1._auto_1) (he : autoParam (starEach (e :: es) X.env = (false, eval e X.env) :: starEach es X.env) zau2._auto_1)
    (hpl : autoParam ((backTo pos (starEach es X.env)).any (·.1) = false) zau2._auto_1) : ME X O (.Call (.Name x p) (e :: es) [] pos) (mCall m fl) := by
  obtain ⟨f, fd, ps, hl, hm, hk, hb, G⟩ := C.ex
  rintro pins s σ H Q I ⟨ρ₀, S₀, H₀, F, ρ, S, δ, Ω, R, r, Ω', hf, k⟩
  refine pe_call G hr hg hm hk hb .nil (fun _ _ _ _ _ _ _ z => z.elim) ha hdb he hpl pins s σ H Q I (E := E0) ?_
  rcases MS.b_inv hf with ⟨ds, Ω1, e1, hf⟩ | ⟨y, e1, rfl⟩
  · refine ⟨ρ₀, S₀, H₀, F, ρ, S, δ, Ω, R, .ok ds, Ω1, e1, fun vs ρ1 S1 H1 R1 l1 v1 r1 => ?_⟩
    show spE X.K X.mg n m (vs ++ []) H1 Q E0
    rw [List.append_nil]
    refine spE_in R1 (C.ar ds Ω1 _ hf) r1 hf ?_
    cases r with
    | error y => trivial
    | ok d => exact fun v ρ2 S2 H2 R2 l2 v2 r2 => k v ρ2 S2 H2 R2 (l1.trans l2) (v1.trans v2) r2
  · exact ⟨ρ₀, S₀, H₀, F, ρ, S, δ, Ω, R, .error y, _, e1, trivial⟩
end
inductive tEI (K : PySem.W.Frag) (mg : Str → Option Value) (O : List Nat) (f : DSt → MS (List D)) (σ : St) (H : Hp) (Rk : It → Hp → Prop) : Prop
  | mk (ρ₀ : Rho) (S₀ : Addr → Bool) (H₀ : Hp) (F : Addr → Bool) (ρ : Rho) (S : Addr → Bool) (δ : DSt) (Ω : Sto) (R : RM ρ₀ S₀ H₀ F K mg O ρ S H σ δ Ω) (r : Except XD (List D)) (Ω' : Sto) (hf : f δ Ω = some (r, Ω')) (k : match (generalizing := false) r with
    | .ok ds => ∀ J ρ' S' H', RM ρ₀ S₀ H₀ F K mg O ρ' S' H' σ δ Ω' → RLe ρ ρ' → Same (hid H (fob (un F S) σ O)) (hid H' (fob (un F S') σ O)) → ItD ρ' K J ds (hid H' (fob (un F S') σ O)) → Rk J H'
    | .error _ => True)
noncomputable def MI (X : Cx) (O : List Nat) (tg iter : Expr) (f : DSt → MS (List D)) : Prop := PI X tg iter (tEI X.K X.mg O f)
noncomputable def mSeq (f : DSt → MS D) : DSt → MS (List D) := fun δ => (f δ).b fun d => MS.o (seqD d)
section
variable {X : Cx} {O O' B : List Nat} {a b c e o iter tg : Expr} {es : List Expr} {fa fb fo fv : DSt → MS D} {fi : DSt → MS (List D)} {pos : Pos} {st : Stmt} {g : DSt → MS Out} {tc : DSt → MS Bool} {f : Str} {cs : List Str}
theorem mi_pure {f : DSt → M (List D)} (h : DI X O E0 tg iter f) : MI X O tg iter (lF f) := by
  rintro pins s σ H Q I ⟨ρ₀, S₀, H₀, F, ρ, S, δ, Ω, R, r, Ω', hf, k⟩
  obtain ⟨hg, rfl⟩ := MS.l_inv hf
  refine h pins s σ H Q I ⟨ρ, _, un F S, δ, r, R.rs, hg, ?_⟩
  cases r with
  | ok d => exact fun J H' s' it => k J ρ S H' (R.mono s') (RLe.refl _) (same_hid s') it
  | error x => exact fun c dx H' _ z => z.elim
theorem mi_seq (h : ME X O iter fa) : MI X O tg iter (mSeq fa) := by
  rintro pins s σ H Q I ⟨ρ₀, S₀, H₀, F, ρ, S, δ, Ω, R, r, Ω', hf, k⟩
  refine pi_seq h pins s σ H Q I ?_
  rcases MS.b_inv hf with ⟨d, Ω1, e1, hf⟩ | ⟨x, e1, rfl⟩
  · refine ⟨ρ₀, S₀, H₀, F, ρ, S, δ, Ω, R, .ok d, Ω1, e1, fun v ρ1 S1 H1 R1 l1 v1 r1 => ?_⟩
    obtain ⟨ds, hd, rfl, rfl⟩ := MS.o_inv hf
    cases d with
    | lst es =>
      cases hd
      obtain ⟨q, xs, rfl, q2, q3⟩ := rep_lst.mp r1
      exact .inl ⟨q, rfl, ⟨xs, same_l same_un q2⟩, k _ ρ1 S1 H1 R1 l1 v1 (itl_ok q2 q3)⟩
    | tup es =>
      cases hd
      obtain ⟨q, xs, rfl, q2, q3⟩ := rep_tup.mp r1
      exact .inr ⟨q, rfl, ⟨xs, same_t same_un q2⟩, k _ ρ1 S1 H1 R1 l1 v1 (itt_ok q2 q3)⟩
    | _ => cases hd
  · exact ⟨ρ₀, S₀, H₀, F, ρ, S, δ, Ω, R, .error x, _, e1, trivial⟩
theorem ms_for {body : List Stmt} {h : D → DSt → Option DSt} (hp : PassesOwn (model X.prog X.w) X.A X.env X.xe) (hc : X.calm = true) (hi : MI X O tg iter fi) (hg : DG X O tg h) (hb : MSs X O O O body g)
    (hs : autoParam (∀ x, foldedSetIterable iter X.env x = pure x) zau3._auto_1) : MSt X O O B (.For tg iter body [] pos) (eFor fi h g) := by
  rintro pins s σ H Dn I ⟨ρ₀, S₀, H₀, F, ρ, S, δ, Ω, R, r, Ω', hgf, k⟩
  refine ps_for hp hc hi hg hb hs pins s σ H Dn I ?_
  rcases MS.b_inv hgf with ⟨ds, Ω1, e1, hgf⟩ | ⟨y, e1, rfl⟩
  · refine ⟨ρ₀, S₀, H₀, F, ρ, S, δ, Ω, R, .ok ds, Ω1, e1, fun J ρ1 S1 H1 R1 l1 v1 it => ?_⟩
    refine ⟨fun i m σ' H' => m = ds.length - i ∧ i ≤ ds.length ∧ ∃ ρ' S' δ' Ω2, RM ρ₀ S₀ H₀ F X.K X.mg O ρ' S' H' σ' δ' Ω2 ∧ RLe ρ1 ρ' ∧ Same (hid H1 (fob (un F S1) σ O)) (hid H' (fob (un F S') σ' O)) ∧ forE g h (ds.drop i) δ' Ω2 = some (r, Ω'),
      ⟨ds.length, by simp, Nat.zero_le _, ρ1, S1, δ, Ω1, R1, RLe.refl _, Same.refl _, hgf⟩, ?_⟩
    rintro i m σ' H' ⟨rfl, hil, ρ', S', δ', Ω2, R', l', f', hr⟩
    obtain ⟨j1, j2⟩ := it H' (fob (un F S') σ' O) i f' (fun p hp => R'.fresh hp)
    by_cases hlt : i < ds.length
    · obtain ⟨go, yld⟩ := j1 hlt
      refine .inr ⟨go, fun σ2 H2 => ∃ ρ2 S2 δ2 Ω3, RM ρ₀ S₀ H₀ F X.K X.mg O ρ2 S2 H2 σ2 δ2 Ω3 ∧ RLe ρ1 ρ2 ∧ Same (hid H1 (fob (un F S1) σ O)) (hid H2 (fob (un F S2) σ2 O)) ∧ forE g h (ds.drop (i + 1)) δ2 Ω3 = some (r, Ω'), fun σ2 H2 ⟨ρ2, S2, δ2, Ω3, a1, a2, a3, a4⟩ => ⟨ds.length - (i + 1), by omega, rfl, hlt, ρ2, S2, δ2, Ω3, a1, a2, a3, a4⟩, fun x H2 y => ?_⟩
      obtain ⟨s2, d, hd, rd⟩ := yld x H2 y
      have hdr : ds.drop i = d :: ds.drop (i + 1) := by
        rw [List.drop_eq_getElem_cons hlt]
        have : ds[i] = d := by rw [List.getElem?_eq_getElem hlt] at hd; exact Option.some.inj hd
        rw [this]
      rw [hdr] at hr
      unfold forE at hr
      cases e2 : h d δ' with
      | none => rw [e2] at hr; cases hr
      | some δ1 =>
        rw [e2] at hr
        dsimp only at hr
        have R2 := R'.mono s2
        have f2 : Same (hid H1 (fob (un F S1) σ O)) (hid H2 (fob (un F S') σ' O)) := f'.trans (same_hid s2)
        refine ⟨ρ', _, un F S', δ', d, δ1, R2.rs, rd.rho l', e2, fun σ3 ef R3 => ?_⟩
        have R3' : RM ρ₀ S₀ H₀ F X.K X.mg O ρ' S' H2 σ3 δ1 Ω2 := R2.next R3 (by rw [ef]; exact Same.refl _)
        rcases MS.b_inv hr with ⟨o, Ω3, e3, hr⟩ | ⟨y, e3, rfl⟩
        · refine ⟨ρ₀, S₀, H₀, F, ρ', S', δ1, Ω2, R3', .ok o, Ω3, e3, ?_⟩
          rw [ef]
          cases o with
          | nx δ4 => exact fun ρ4 S4 σ4 H4 R4 l4 v4 => ⟨ρ4, S4, δ4, Ω3, R4, l'.trans l4, f2.trans v4, hr⟩
          | ct δ4 => exact fun ρ4 S4 σ4 H4 R4 l4 v4 => ⟨ρ4, S4, δ4, Ω3, R4, l'.trans l4, f2.trans v4, hr⟩
          | bk δ4 => cases hr; exact fun ρ4 S4 σ4 H4 R4 l4 v4 => k ρ4 S4 σ4 H4 R4 (l1.trans (l'.trans l4)) (v1.trans (f2.trans v4))
          | rt v => cases hr; exact k
        · exact ⟨ρ₀, S₀, H₀, F, ρ', S', δ1, Ω2, R3', .error y, _, e3, trivial⟩
    · have ei : i = ds.length := by omega
      subst ei
      rw [List.drop_length] at hr
      cases hr
      exact .inl ⟨j2 rfl, k ρ' S' σ' H' R' (l1.trans l') (v1.trans f')⟩
  · exact ⟨ρ₀, S₀, H₀, F, ρ, S, δ, Ω, R, .error y, _, e1, trivial⟩
end
end DL
namespace DL
open PySem PySem.Spec L2
noncomputable def clsStmt (st : Stmt) (j : Nat) : Stmt := match st with
  | .ClassDef _ _ _ b _ _ _ _ _ _ _ => b.getD j (.Pass ⟨0, 0, 0, 0⟩)
  | _ => .Pass ⟨0, 0, 0, 0⟩
structure ClsAt (K : PySem.W.Frag) (mg : Str → Option Value) (c : Str) (fs : List Str) : Prop where
  ok : ∀ C, mg c = some (.ref C) → Cls K C ∧ ∀ f ∈ fs, NoAttr K C f
section
variable {K : PySem.W.Frag} {mg : Str → Option Value} {h : Heap} {c x q : Str} {st : Stmt} {ps : List Str} {C f : Addr} {oc : Value} {od an : Option Addr} {osl : Array (Option Value)} {kV doc pm cdv ct : Value}
end
noncomputable def mB (f : DSt → MS D) : DSt → MS Bool := fun δ => (f δ).b fun d => match d with
  | .bl k => MS.p k
  | _ => fun _ => none
section
variable {X : Cx} {O : List Nat} {a b : Expr} {fa fb : DSt → MS D} {pos : Pos}
theorem mt_cmp {op : CmpOp} {g : D → D → Option D} {r : R2} (ho : OpR X (compareOp op) r) (hg : OpD X.K g r) (ha : ME X O a fa) (hb : ME X O b fb) (hm : behindInMarks op b = false) : MT X O (.Compare a [op] [b] pos) (mB (m2 g fa fb)) := by
  rintro pins s σ H Q I ⟨ρ₀, S₀, H₀, F, ρ, S, δ, Ω, R, rr, Ω', hf, k⟩
  refine pt_cmpR ho ha hb hm pins s σ H Q I (mbin_in (r := r) hg ?_)
  rcases MS.b_inv hf with ⟨x, Ω1, e1, hf⟩ | ⟨x, e1, rfl⟩
  · cases x with
    | bl kk => cases hf; exact ⟨ρ₀, S₀, H₀, F, ρ, S, δ, Ω, R, .ok (.bl kk), _, e1, fun v ρ' S' H' R' l sm rv => ⟨kk, rep_bl.mp rv, k ρ' S' H' R' l sm⟩⟩
    | _ => cases hf
  · exact ⟨ρ₀, S₀, H₀, F, ρ, S, δ, Ω, R, .error x, Ω', e1, k⟩
end
noncomputable def spA (K : PySem.W.Frag) (n : Nat) (m : List D → MS D) : Sp := fun vs H Q E => ∀ mg, spE K mg n m vs H Q E
end DL
namespace DL
open PySem PySem.Spec L2
section
variable {δ : DSt} {fa fb fc : DSt → M D} {fl : DSt → M (List D)} {g : D → D → Option D} {u : D → Option D} {k : List D → Option D} {ta tb : DSt → M Bool} {g1 g2 : DSt → M Out} {m : List D → M D} {ki : List D → Option (List D)} {fi : DSt → M (List D)} {tg : D → DSt → Option DSt}
@[simp] theorem e_var (i : Nat) : fVar i δ = M.o (δ[i]?).join := rfl
@[simp] theorem e_C (d : D) : fC d δ = M.p d := rfl
@[simp] theorem e_2 : f2 g fa fb δ = (fa δ).b fun x => (fb δ).b fun y => M.o (g x y) := rfl
@[simp] theorem e_1 : f1 u fa δ = (fa δ).b fun x => M.o (u x) := rfl
noncomputable def asB : Option D → M Bool
  | some (.bl b) => M.p b
  | _ => none
@[simp] theorem asB_bl (b : Bool) : asB (some (.bl b)) = M.p b := rfl
@[simp] theorem e_t2 : t2 g fa fb δ = (fa δ).b fun x => (fb δ).b fun y => asB (g x y) := rfl
@[simp] theorem e_nil : fNil δ = M.p [] := rfl
@[simp] theorem e_cons : fCons fa fl δ = (fa δ).b fun x => (fl δ).b fun xs => M.p (x :: xs) := rfl
@[simp] theorem e_L : fL k fl δ = (fl δ).b fun xs => M.o (k xs) := rfl
@[simp] theorem e_call : fCall m fl δ = (fl δ).b m := rfl
@[simp] theorem e_not : gNot (.bl b) = some (.bl !b) := rfl
@[simp] theorem e_tnot : tNot ta δ = (ta δ).b fun x => M.p !x := rfl
@[simp] theorem e_tand : tAnd ta tb δ = (ta δ).b fun x => if x = true then tb δ else M.p false := rfl
@[simp] theorem e_tor : tOr ta tb δ = (ta δ).b fun x => if x = true then M.p true else tb δ := rfl
@[simp] theorem e_if : fIf ta fa fb δ = (ta δ).b fun x => if x = true then fa δ else fb δ := rfl
noncomputable def andB (b : D) (r : M D) : M D := match b with
  | .bl true => r
  | .bl false => M.p (.bl false)
  | _ => none
noncomputable def orB (b : D) (r : M D) : M D := match b with
  | .bl true => M.p (.bl true)
  | .bl false => r
  | _ => none
@[simp] theorem andB_t (r : M D) : andB (.bl true) r = r := rfl
@[simp] theorem andB_f (r : M D) : andB (.bl false) r = M.p (.bl false) := rfl
@[simp] theorem orB_t (r : M D) : orB (.bl true) r = M.p (.bl true) := rfl
@[simp] theorem orB_f (r : M D) : orB (.bl false) r = r := rfl
@[simp] theorem e_and : fAnd fa fb δ = (fa δ).b fun x => andB x (fb δ) := rfl
@[simp] theorem e_or : fOr fa fb δ = (fa δ).b fun x => orB x (fb δ) := rfl
@[simp] theorem e_tru : tTru fa δ = (fa δ).b fun x => M.o (truD x) := rfl
@[simp] theorem tru_bl (b : Bool) : truD (.bl b) = some b := rfl
@[simp] theorem tru_non : truD .non = some false := rfl
@[simp] theorem e_nx : gNx δ = M.p (.nx δ) := rfl
noncomputable def seqO (g2 : DSt → M Out) : Out → M Out
  | .nx δ' => g2 δ'
  | o => M.p o
@[simp] theorem seqO_nx (δ' : DSt) : seqO g2 (.nx δ') = g2 δ' := rfl
@[simp] theorem seqO_rt (d : D) : seqO g2 (.rt d) = M.p (.rt d) := rfl
@[simp] theorem seqO_bk (δ' : DSt) : seqO g2 (.bk δ') = M.p (.bk δ') := rfl
@[simp] theorem seqO_ct (δ' : DSt) : seqO g2 (.ct δ') = M.p (.ct δ') := rfl
@[simp] theorem e_seq : gSeq g1 g2 δ = (g1 δ).b (seqO g2) := by
  show (g1 δ).b _ = _
  congr 1
@[simp] theorem e_set (i : Nat) : gSet i fa δ = (fa δ).b fun d => M.p (.nx (δ.set i (some d))) := rfl
@[simp] theorem e_ret : gRet fa δ = (fa δ).b fun d => M.p (.rt d) := rfl
@[simp] theorem e_drop : gDrop fa δ = (fa δ).b fun _ => M.p (.nx δ) := rfl
@[simp] theorem e_gif : gIf ta g1 g2 δ = (ta δ).b fun b => if b = true then g1 δ else g2 δ := rfl
@[simp] theorem e_brk : gBrk δ = M.p (.bk δ) := rfl
@[simp] theorem e_cnt : gCnt δ = M.p (.ct δ) := rfl
noncomputable def appO (i : Nat) (δ : DSt) (d : D) : Option D → M Out
  | some (.lst ds) => if ds.length < sizeLine then M.p (.nx (δ.set i (some (.lst (ds ++ [d]))))) else none
  | _ => none
@[simp] theorem e_app (i : Nat) : gApp i fa δ = (fa δ).b fun d => appO i δ d (δ[i]?).join := rfl
@[simp] theorem e_for : gFor fi tg g1 δ = (fi δ).b fun ds => forD g1 tg ds δ := rfl
@[simp] theorem e_iargs : iArgs ki fl δ = (fl δ).b fun ds => M.o (ki ds) := rfl
@[simp] theorem e_iseq : iSeqD fa δ = (fa δ).b fun d => M.o (seqD d) := rfl
@[simp] theorem e_yes : tYes δ = M.p true := rfl
@[simp] theorem e_out_rt (d : D) : outD (.rt d) = M.p d := rfl
@[simp] theorem e_out_nx (δ : DSt) : outD (.nx δ) = M.p .non := rfl
theorem e_mir2 (N : Nat) (x0 x1 : D) : mir 2 N g1 [x0, x1] = (g1 (some x0 :: some x1 :: List.replicate (N - 2) none)).b outD := rfl
@[simp] theorem b_none {α β : Type} (f : α → M β) : M.b none f = none := rfl
@[simp] theorem b_assoc {α β γ : Type} (m : M α) (f : α → M β) (h : β → M γ) : (m.b f).b h = m.b fun a => (f a).b h := by
  cases m with
  | none => rfl
  | some e => cases e <;> rfl
@[simp] theorem e_comp {own : Nat} {caps : List (Str × Nat)} {tc : DSt → M Bool} : fComp own caps fi tg tc fa δ = (fi δ).b fun ds => M.o ((compD tg tc fa ds (innerD own caps δ)).bind gLstD) := rfl
end
@[simp] theorem lt_int (i j : Int) : gLt (.int i) (.int j) = some (.bl (decide (i < j))) := rfl
@[simp] theorem le_int (i j : Int) : gLe (.int i) (.int j) = some (.bl (decide (i ≤ j))) := rfl
@[simp] theorem gt_int (i j : Int) : gGt (.int i) (.int j) = some (.bl (decide (j < i))) := rfl
@[simp] theorem ge_int (i j : Int) : gGe (.int i) (.int j) = some (.bl (decide (j ≤ i))) := rfl
@[simp] theorem add_int (i j : Int) : gAdd (.int i) (.int j) = some (.int (i + j)) := rfl
@[simp] theorem sub_int (i j : Int) : gSub (.int i) (.int j) = some (.int (i - j)) := rfl
@[simp] theorem neg_int (i : Int) : gNeg (.int i) = some (.int (-i)) := rfl
theorem mod_int {i j : Int} (h : 0 < j) : gMod (.int i) (.int j) = some (.int (i % j)) := if_pos h
noncomputable def Bt (k : Nat) (i : Int) : Prop := i.natAbs < 2 ^ k
theorem Bt.big {k : Nat} {i : Int} (h : Bt k i) (hk : k ≤ 100000) : inBig i = true := by
  have h' := Nat.lt_of_lt_of_le h (Nat.pow_le_pow_right (by decide : 2 > 0) hk)
  rw [← BIGN_eq] at h'
  unfold inBig BIG
  rw [Bool.and_eq_true, decide_eq_true_eq, decide_eq_true_eq]
  omega
theorem mul_bt {a b : Nat} {i j : Int} (h : Bt a i) (k : Bt b j) (ha : autoParam (a ≤ 100000) zau1._auto_1) (hb : autoParam (b ≤ 100000) zau1._auto_1) : gMul (.int i) (.int j) = some (.int (i * j)) := by
  have : (inBig i && inBig j) = true := by rw [h.big ha, k.big hb]; rfl
  exact if_pos this
theorem pow_int {i : Int} {j : Int} (h : 0 ≤ j ∧ j ≤ 1000 ∧ -(2 ^ 60) < i ∧ i < 2 ^ 60) : gPow (.int i) (.int j) = some (.int (i ^ j.toNat)) := if_pos h
theorem atI_get {α : Type} {xs : List α} {j : Nat} {v : α} (h : xs[j]? = some v) : atI xs (j : Int) = some v := by
  have hj := (List.getElem?_eq_some_iff.mp h).1
  unfold atI ixN
  rw [if_pos (by omega), if_pos (by omega)]
  simpa using h
@[simp] theorem ix_t (ds : List D) (i : Int) : gIx (.tup ds) (.int i) = atI ds i := rfl
@[simp] theorem ix_l (ds : List D) (i : Int) : gIx (.lst ds) (.int i) = atI ds i := rfl
@[simp] theorem at0 {α : Type} (x : α) (xs : List α) : atI (x :: xs) 0 = some x := by
  have := atI_get (xs := x :: xs) (j := 0) (v := x) rfl
  simpa using this
@[simp] theorem at1 {α : Type} (x y : α) (xs : List α) : atI (x :: y :: xs) 1 = some y := by
  have := atI_get (xs := x :: y :: xs) (j := 1) (v := y) rfl
  simpa using this
@[simp] theorem at2 {α : Type} (x y z : α) (xs : List α) : atI (x :: y :: z :: xs) 2 = some z := by
  have := atI_get (xs := x :: y :: z :: xs) (j := 2) (v := z) rfl
  simpa using this
@[simp] theorem at3 {α : Type} (x y z w : α) (xs : List α) : atI (x :: y :: z :: w :: xs) 3 = some w := by
  have := atI_get (xs := x :: y :: z :: w :: xs) (j := 3) (v := w) rfl
  simpa using this
@[simp] theorem len_l (ds : List D) : kLen [.lst ds] = some (.int ds.length) := rfl
@[simp] theorem len_t (ds : List D) : kLen [.tup ds] = some (.int ds.length) := rfl
@[simp] theorem tuple_l (ds : List D) : kTuple [.lst ds] = some (.tup ds) := rfl
@[simp] theorem list_l (ds : List D) : kList [.lst ds] = some (.lst ds) := rfl
@[simp] theorem range1 (j : Int) : rangeArgs [.int j] = some (rangeD 0 j.toNat) := rfl
@[simp] theorem range2 (i j : Int) : rangeArgs [.int i, .int j] = some (rangeD i (j - i).toNat) := rfl
@[simp] theorem enum_l (xs : List D) : enumArgs [.lst xs] = some (enumD 0 xs) := rfl
@[simp] theorem seq_l (ds : List D) : seqD (.lst ds) = some ds := rfl
@[simp] theorem seq_t (ds : List D) : seqD (.tup ds) = some ds := rfl
@[simp] theorem kmin (i j : Int) : kMin [.int i, .int j] = some (.int (if j < i then j else i)) := rfl
@[simp] theorem kint_bl (b : Bool) : kInt [.bl b] = some (.int (if b then 1 else 0)) := rfl
@[simp] theorem tupD2 (x y : D) : gTupD [x, y] = some (.tup [x, y]) := rfl
@[simp] theorem tupD3 (x y z : D) : gTupD [x, y, z] = some (.tup [x, y, z]) := rfl
@[simp] theorem tupD4 (x y z w : D) : gTupD [x, y, z, w] = some (.tup [x, y, z, w]) := rfl
@[simp] theorem lstD0 : gLstD [] = some (.lst []) := rfl
@[simp] theorem lstD1 (x : D) : gLstD [x] = some (.lst [x]) := rfl
@[simp] theorem lstD2 (x y : D) : gLstD [x, y] = some (.lst [x, y]) := rfl
@[simp] theorem lstD3 (x y z : D) : gLstD [x, y, z] = some (.lst [x, y, z]) := rfl
@[simp] theorem eq_int (i j : Int) : gEq (.int i) (.int j) = some (.bl (i == j)) := rfl
@[simp] theorem ne_int (i j : Int) : gNe (.int i) (.int j) = some (.bl !(i == j)) := rfl
@[simp] theorem eq_bl (i j : Bool) : gEq (.bl i) (.bl j) = some (.bl (i == j)) := rfl
@[simp] theorem isi_int_int (i : Int) : kIsi [.int i, .ty "int"] = some (.bl true) := rfl
@[simp] theorem isi_int_bool (i : Int) : kIsi [.int i, .ty "bool"] = some (.bl false) := rfl
@[simp] theorem isi_bl_bool (i : Bool) : kIsi [.bl i, .ty "bool"] = some (.bl true) := rfl
@[simp] theorem isi_tup_tuple (i : List D) : kIsi [.tup i, .ty "tuple"] = some (.bl true) := rfl
@[simp] theorem gname_ap (i : Nat) (d : D) (δ : DSt) : gName i d δ = some (δ.set i (some d)) := rfl
@[simp] theorem gtup2_ap (i j : Nat) (x y : D) (δ : DSt) : gTup2 i j (.tup [x, y]) δ = some ((δ.set i (some x)).set j (some y)) := rfl
end DL
namespace DL
open PySem PySem.Spec L2
@[simp] theorem rangeD_len (lo : Int) (n : Nat) : (rangeD lo n).length = n := by simp [rangeD]
@[simp] theorem rangeD_get (lo : Int) (n j : Nat) (h : j < (rangeD lo n).length) : (rangeD lo n)[j] = .int (lo + j) := by simp [rangeD]
end DL
namespace DL
open PySem PySem.Spec L2
section
variable {δ : DSt} {fa fb fc : DSt → M D} {fl : DSt → M (List D)} {g : D → D → Option D} {k : List D → Option D} {ta : DSt → M Bool}
@[simp] theorem e_aug (i : Nat) : gAug i g fa δ = (M.o (δ[i]?).join).b fun x => (fa δ).b fun y => (M.o (g x y)).b fun d => M.p (.nx (δ.set i (some d))) := rfl
@[simp] theorem cat_int (i j : Int) : gCat (.int i) (.int j) = some (.int (i + j)) := rfl
theorem mulT_bt {a b : Nat} {i j : Int} (h : Bt a i) (k : Bt b j) (ha : autoParam (a ≤ 100000) zau1._auto_1) (hb : autoParam (b ≤ 100000) zau1._auto_1) : gMulT (.int i) (.int j) = some (.int (i * j)) := mul_bt h k ha hb
@[simp] theorem e_asg (h : D → DSt → Option DSt) : gAsg h fa δ = (fa δ).b fun d => match h d δ with
  | some δ' => M.p (.nx δ')
  | none => none := rfl
@[simp] theorem e_tup3 (i j l : Nat) (x y z : D) : gTup3 i j l (.tup [x, y, z]) δ = some (((δ.set i (some x)).set j (some y)).set l (some z)) := rfl
@[simp] theorem intT_bl (b : Bool) : kIntT [.bl b] = some (.int (if b then 1 else 0)) := rfl
end
end DL
namespace DL
open PySem PySem.Spec L2
noncomputable def bindS {α β : Type} (r : Option (Except XD α × Sto)) (f : α → MS β) : Option (Except XD β × Sto) := match r with
  | none => none
  | some (.error x, Ω') => some (.error x, Ω')
  | some (.ok a, Ω') => f a Ω'
section
variable {α β : Type} {Ω Ω' : Sto} {δ : DSt} {fa fb fo : DSt → MS D} {fl : DSt → MS (List D)} {ta : DSt → MS Bool} {g1 g2 : DSt → MS Out} {g : D → D → Option D}
@[simp] theorem s_b (m : MS α) (f : α → MS β) : (m.b f) Ω = bindS (m Ω) f := by
  unfold MS.b bindS
  cases m Ω with
  | none => rfl
  | some p => obtain ⟨q, Ω1⟩ := p; cases q <;> rfl
@[simp] theorem s_bok (a : α) (f : α → MS β) : bindS (some (.ok a, Ω')) f = f a Ω' := rfl
@[simp] theorem s_p (a : α) : MS.p a Ω = some (.ok a, Ω) := rfl
@[simp] theorem s_lp (a : α) : MS.l (M.p a) Ω = some (.ok a, Ω) := rfl
@[simp] theorem s_lok (a : α) : MS.l (some (.ok a) : M α) Ω = some (.ok a, Ω) := rfl
@[simp] theorem s_o (a : α) : MS.o (some a) Ω = some (.ok a, Ω) := rfl
@[simp] theorem s_lF (f : DSt → M α) : lF f δ = MS.l (f δ) := rfl
@[simp] theorem s_get (cs : List Str) (f : Str) : mGet cs f fa δ = (fa δ).b fun x => getO cs f x := rfl
@[simp] theorem s_cons : mCons fa fl δ = (fa δ).b fun x => (fl δ).b fun xs => MS.p (x :: xs) := rfl
@[simp] theorem s_2 : m2 g fa fb δ = (fa δ).b fun x => (fb δ).b fun y => MS.o (g x y) := rfl
@[simp] theorem s_L (k : List D → Option D) : mL k fl δ = (fl δ).b fun xs => MS.o (k xs) := rfl
@[simp] theorem s_callP (m : List D → M D) : mCallP m fl δ = (fl δ).b fun ds => MS.l (m ds) := rfl
@[simp] theorem s_call (m : List D → MS D) : mCall m fl δ = (fl δ).b m := rfl
@[simp] theorem s_set (i : Nat) : eSet i fa δ = (fa δ).b fun d => MS.p (.nx (δ.set i (some d))) := rfl
@[simp] theorem s_ret : eRet fa δ = (fa δ).b fun d => MS.p (.rt d) := rfl
@[simp] theorem s_drop : eDrop fa δ = (fa δ).b fun _ => MS.p (.nx δ) := rfl
@[simp] theorem s_put (cs : List Str) (f : Str) : ePut cs f fo fa δ = (fa δ).b fun d => (fo δ).b fun x => (putO cs f x d).b fun _ => MS.p (.nx δ) := rfl
@[simp] theorem s_if : eIf ta g1 g2 δ = (ta δ).b fun b => if b = true then g1 δ else g2 δ := rfl
@[simp] theorem s_nx : eNx δ = MS.p (.nx δ) := rfl
@[simp] theorem s_not : mNot ta δ = (ta δ).b fun x => MS.p !x := rfl
@[simp] theorem s_tru : mTru fa δ = (fa δ).b fun x => MS.o (truD x) := rfl
noncomputable def asBS : D → MS Bool
  | .bl k => MS.p k
  | _ => fun _ => none
@[simp] theorem asBS_bl (k : Bool) : asBS (.bl k) = MS.p k := rfl
@[simp] theorem s_B : mB fa δ = (fa δ).b asBS := by
  show (fa δ).b _ = _
  congr 1
noncomputable def seqS (g2 : DSt → MS Out) : Out → MS Out
  | .nx δ' => g2 δ'
  | o => MS.p o
@[simp] theorem seqS_nx (δ' : DSt) : seqS g2 (.nx δ') = g2 δ' := rfl
@[simp] theorem seqS_rt (d : D) : seqS g2 (.rt d) = MS.p (.rt d) := rfl
@[simp] theorem s_seq : eSeq g1 g2 δ = (g1 δ).b (seqS g2) := by
  show (g1 δ).b _ = _
  congr 1
@[simp] theorem s_out_rt (d : D) : outE (.rt d) = MS.p d := rfl
@[simp] theorem s_out_nx (δ : DSt) : outE (.nx δ) = MS.p .non := rfl
@[simp] theorem s_meth (c x : Str) (m : List D → MS D) : mMeth c x m fo fl δ = (fo δ).b fun o => match o with
  | .obj i => methO c x m i fl δ
  | _ => fun _ => none := rfl
@[simp] theorem s_make (c : Str) (m : List D → MS D) : mMake c m fl δ = (fl δ).b fun ds => makeO c m ds := rfl
@[simp] theorem s_for (fi : DSt → MS (List D)) (tg : D → DSt → Option DSt) : eFor fi tg g1 δ = (fi δ).b fun ds => forE g1 tg ds δ := rfl
end
end DL
namespace DL
open PySem PySem.Spec L2
section
variable {X : Cx} {O : List Nat} {E : XK} {b : Expr} {fb : DSt → M D} {pos : Pos}
end
end DL
namespace DL
open PySem PySem.Spec L2
theorem ne_same {d : D} (h1 : okD d = true) (h2 : depD d ≤ 20) : gNe d d = some (.bl false) := by
  unfold gNe
  rw [if_pos (by rw [h1, decide_eq_true h2]; rfl), eqB_refl d h1]
  rfl
theorem w_set {fa : DSt → M D} {δ : DSt} {d : D} (i : Nat) (hd : fa δ = some (.ok d)) : gSet i fa δ = some (.ok (.nx (δ.set i (some d)))) := by rw [e_set, hd, M.b_ok]; rfl
end DL
namespace L2
open PySem PySem.Spec PyProof.Rows
section
variable {prog : Program} {w : World} {A : Around} {E : Value → Shared → Prop} {s : Shared} {I : Addr} {fp wr : List Addr} {G : Array GenState → Array GenState → Prop} {n : Nat} {P : Nat → Value → Prop} {St : Nat → Shared → Prop}
end
end L2
namespace DL
open PySem PySem.Spec L2
section
variable {X : Cx} {O : List Nat} {E : XK} {e o : Expr} {fo fe : DSt → M D} {pos p : Pos}
end
end DL
namespace L2
open PySem PySem.Spec PyProof.Rows
section
variable {X : Cx}
end
end L2
namespace DL
open PySem PySem.Spec L2
section
variable {X : Cx} {O B : List Nat} {E : XK} {elt tg iter : Expr} {pos : Pos}
end
end DL
namespace DL
open PySem PySem.Spec L2 PyProof.Rows
section
variable {X : Cx}
noncomputable def kMin1 : List D → Option D
  | [.lst [.int i, .int j]] => some (.int (if j < i then j else i))
  | _ => none
@[simp] theorem kmin1 (i j : Int) : kMin1 [.lst [.int i, .int j]] = some (.int (if j < i then j else i)) := rfl
end
end DL
namespace DL
open PySem PySem.Spec L2
section
variable {ρ₀ ρ ρ' : Rho} {S₀ S S' F : Addr → Bool} {H₀ H H1 H' : Hp} {K : PySem.W.Frag} {mg : Str → Option Value} {O O' B : List Nat} {σ σ' : St} {δ δ' : DSt} {Ω Ω' : Sto}
theorem SOk.no_tup {ρ : Rho} {S : Addr → Bool} {K : PySem.W.Frag} {mg : Str → Option Value} {H Hv : Hp} {a : Addr} {so : SO} (h : SOk ρ S K mg H Hv a so) (xs : List V) : H a ≠ some (.tup xs) := fun q => by
  cases so with
  | ins c fs =>
    obtain ⟨_, _, _, _, p, _⟩ := h
    rw [q] at p; cases p
  | lst ds =>
    obtain ⟨_, p, _⟩ := h
    rw [q] at p; cases p
  | tab _ _ _ _ =>
    obtain ⟨_, p, _⟩ := h
    rw [q] at p; cases p
  | dct _ =>
    obtain ⟨_, p, _⟩ := h
    rw [q] at p; cases p
  | exc c j =>
    cases h with
    | no C h1 h2 => rw [q] at h2; exact xo_ne (Option.some.inj h2).symm
    | yes j C dx h1 h2 h3 => rw [q] at h3; exact xo_ne (Option.some.inj h3).symm
  | xd fs =>
    obtain ⟨_, p, _⟩ := h
    rw [q] at p; exact xd_ne (Option.some.inj p).symm
theorem RM.putS (R : RM ρ₀ S₀ H₀ F K mg O ρ S H σ δ Ω) {i : Nat} {a : Addr} {so0 so' : SO} {o0 o' : HO} (hi : Ω[i]? = some so0) (ha : ρ i = some a) (hS : S a = true) (hH : H a = some o0) (hno : ∀ y, HO.own y ≠ o0) (hr : SOk ρ S K mg (upd H a o') (hid H (fob (un F S) σ O)) a so') :
    RM ρ₀ S₀ H₀ F K mg O ρ S (upd H a o') σ δ (Ω.set i so') ∧ hid (upd H a o') (fob (un F S) σ O) = hid H (fob (un F S) σ O) := by
  have hF : un F S a = true := un_t.mpr (.inr hS)
  have hh : hid (upd H a o') (fob (un F S) σ O) = hid H (fob (un F S) σ O) := hid_upd (le_fob a hF)
  have il : i < Ω.length := (List.getElem?_eq_some_iff.mp hi).1
  refine ⟨⟨R.rs.updF hF, R.rho, fun b o h1 h2 => ?_, R.old, R.new, R.own0, R.ff, ?_⟩, hh⟩
  · have hb : b ≠ a := by
      rintro rfl
      rcases R.new b hS with q | q
      · rw [q] at h1; cases h1
      · rw [q] at h2; cases h2
    rw [upd_ne hb]; exact R.same b o h1 h2
  · rw [hh]
    refine ⟨fun j so hj => ?_, R.sto.inj, fun j hj => R.sto.top j (by simpa using hj), fun b hb => upd_nn (R.sto.fin b hb), tv_upd R.sto.tv fun xs z => hr.no_tup xs (by rw [upd_same, z])⟩
    by_cases hji : j = i
    · subst hji
      rw [List.getElem?_set_self il] at hj
      cases hj
      exact ⟨a, ha, hS, hr⟩
    · rw [List.getElem?_set_ne (Ne.symm hji)] at hj
      obtain ⟨a', q1, q2, q3⟩ := R.sto.ats j so hj
      have ne : a' ≠ a := by
        rintro rfl
        exact hji (R.sto.inj j i a' q1 ha)
      refine ⟨a', q1, q2, ?_⟩
      cases so with
      | ins c' fs' =>
        obtain ⟨C', dx', vfs', p1, p2, p3, p4, p5⟩ := q3
        have nd : dx' ≠ a := ne_of p3 hH (hno _)
        exact ⟨C', dx', vfs', p1, by rw [upd_ne ne]; exact p2, by rw [upd_ne nd]; exact p3, p4, p5⟩
      | lst ds0 =>
        obtain ⟨xs0, p1, p2⟩ := q3
        exact ⟨xs0, by rw [upd_ne ne]; exact p1, p2⟩
      | tab _ _ _ _ =>
        obtain ⟨ps, p1, p2, p3⟩ := q3
        exact ⟨ps, by rw [upd_ne ne]; exact p1, p2, p3⟩
      | dct _ =>
        obtain ⟨vk, p1, p2, p3⟩ := q3
        exact ⟨vk, by rw [upd_ne ne]; exact p1, p2, p3⟩
      | exc c j => exact ExcOk.mono (fun _ _ z => z) (upd_ne ne) q3
      | xd fs =>
        obtain ⟨vfs, p1, p2⟩ := q3
        exact ⟨vfs, by rw [upd_ne ne]; exact p1, p2⟩
theorem RM.newS (R : RM ρ₀ S₀ H₀ F K mg O ρ S H σ δ Ω) {x : Addr} {nso : SO} {no : HO} (hx : H x = none) (hr : ∀ ρ' S' Hv', RLe ρ ρ' → Same (hid H (fob (un F S) σ O)) Hv' → SOk ρ' S' K mg (upd H x no) Hv' x nso) :
    RM ρ₀ S₀ H₀ F K mg O (addR ρ Ω.length x) (addS S x x) (upd H x no) σ δ (Ω ++ [nso]) ∧ RLe ρ (addR ρ Ω.length x) ∧
      Same (hid H (fob (un F S) σ O)) (hid (upd H x no) (fob (un F (addS S x x)) σ O)) := by
  have top := R.sto.top Ω.length (Nat.le_refl _)
  have l : RLe ρ (addR ρ Ω.length x) := fun i a h => by
    unfold addR
    by_cases e : i = Ω.length
    · subst e; rw [top] at h; cases h
    · rw [if_neg e]; exact h
  have sm : Same H (upd H x no) := same_upd hx
  have old : ∀ b, S b = true → addS S x x b = true := fun b h => addS_t.mpr (.inl h)
  have new : ∀ b, addS S x x b = true → S b = true ∨ H b = none := fun b h => by
    rcases addS_t.mp h with q | rfl | rfl
    · exact .inl q
    · exact .inr hx
    · exact .inr hx
  have ff : ∀ b, fob F σ O b = true → addS S x x b = false := fun b h => by
    have h2 : fob (un F S) σ O b = true := by rw [← un_fob]; exact un_t.mpr (.inl h)
    cases e : addS S x x b with
    | false => rfl
    | true =>
      rcases addS_t.mp e with q | rfl | rfl
      · rcases fob_t.mp h with z | z
        · rw [R.ff b z] at q; cases q
        · exact absurd z (R.base_S q)
      · rw [R.fresh hx] at h2; cases h2
      · rw [R.fresh hx] at h2; cases h2
  have keep : ∀ b, S b = true → (upd H x no) b = H b := R.at_store sm
  have vis0 : Same (hid H (fob (un F S) σ O)) (hid (upd H x no) (un (fob F σ O) (addS S x x))) := fun b o q => by
    obtain ⟨q1, q2⟩ := hid_some.mp q
    refine hid_some.mpr ⟨?_, sm b o q2⟩
    cases e : un (fob F σ O) (addS S x x) b with
    | false => rfl
    | true =>
      rcases un_t.mp e with z | z
      · have h2 : fob (un F S) σ O b = true := by rw [← un_fob]; exact un_t.mpr (.inl z)
        rw [h2] at q1; cases q1
      · rcases new b z with z | z
        · have h2 : fob (un F S) σ O b = true := le_fob b (un_t.mpr (.inr z))
          rw [h2] at q1; cases q1
        · rw [z] at q2; cases q2
  have sto : StoOk (addR ρ Ω.length x) (addS S x x) K mg (upd H x no) (hid (upd H x no) (un (fob F σ O) (addS S x x))) (Ω ++ [nso]) := by
    refine ⟨fun i so hi => ?_, fun i j a h1 h2 => ?_, fun i hi => ?_, fun b hb => ?_, tv_le (tv_upd R.sto.tv fun xs z => (hr ρ S _ (RLe.refl _) (Same.refl _)).no_tup xs (by rw [upd_same, z])) vis0⟩
    · by_cases h : i < Ω.length
      · rw [List.getElem?_append_left h] at hi
        obtain ⟨a, q1, q2, q3⟩ := R.sto.ats i so hi
        refine ⟨a, l i a q1, old a q2, ?_⟩
        cases so with
        | ins c' fs' =>
          obtain ⟨C', dx', vfs', p1, p2, p3, p4, p5⟩ := q3
          exact ⟨C', dx', vfs', p1, by rw [keep a q2]; exact p2, by rw [keep dx' p4]; exact p3, old _ p4, p5.mono l vis0⟩
        | lst ds =>
          obtain ⟨xs, p1, p2⟩ := q3
          exact ⟨xs, by rw [keep a q2]; exact p1, (p2.rho l).mono vis0⟩
        | tab _ _ _ _ =>
          obtain ⟨ps, p1, p2, p3⟩ := q3
          exact ⟨ps, by rw [keep a q2]; exact p1, p2, p3.mono vis0⟩
        | dct _ =>
          obtain ⟨vk, p1, p2, p3⟩ := q3
          exact ⟨vk, by rw [keep a q2]; exact p1, p2, (p3.rho l).mono vis0⟩
        | exc c j => exact ExcOk.mono l (keep a q2) q3
        | xd fs =>
          obtain ⟨vfs, p1, p2⟩ := q3
          exact ⟨vfs, by rw [keep a q2]; exact p1, p2.mono l vis0⟩
      · have e : i = Ω.length := by
          have := (List.getElem?_eq_some_iff.mp hi).1
          simp at this; omega
        subst e
        rw [List.getElem?_append_right (Nat.le_refl _), Nat.sub_self] at hi
        cases hi
        exact ⟨x, by unfold addR; rw [if_pos rfl], addS_t.mpr (.inr (.inl rfl)), hr _ _ _ l vis0⟩
    · have fresh : ∀ i a, i ≠ Ω.length → ρ i = some a → a ≠ x := fun i a hi h z => by
        subst z
        have il : i < Ω.length := by
          by_cases q : i < Ω.length
          · exact q
          · rw [R.sto.top i (by omega)] at h; cases h
        obtain ⟨a', q1, q2, _⟩ := R.sto.ats i _ (List.getElem?_eq_getElem il)
        rw [h] at q1; cases q1
        exact R.sto.fin a q2 hx
      unfold addR at h1 h2
      by_cases e1 : i = Ω.length
      · by_cases e2 : j = Ω.length
        · rw [e1, e2]
        · rw [if_pos e1] at h1; rw [if_neg e2] at h2
          cases h1
          exact absurd rfl (fresh j _ e2 h2)
      · by_cases e2 : j = Ω.length
        · rw [if_neg e1] at h1; rw [if_pos e2] at h2
          cases h2
          exact absurd rfl (fresh i _ e1 h1)
        · rw [if_neg e1] at h1; rw [if_neg e2] at h2
          exact R.sto.inj i j a h1 h2
    · rw [List.length_append, List.length_singleton] at hi
      unfold addR
      rw [if_neg (by omega)]
      exact R.sto.top i (by omega)
    · rcases addS_t.mp hb with q | rfl | rfl
      · rw [keep b q]; exact R.sto.fin b q
      · rw [upd_same]; exact fun z => nomatch z
      · rw [upd_same]; exact fun z => nomatch z
  obtain ⟨t1, t2⟩ := R.call l (fun b o _ h => sm b o h) old new ff sto
  exact ⟨t1, l, t2⟩
end
section
variable {X : Cx} {O B : List Nat} {a b e o : Expr} {es : List Expr} {fa fb fo : DSt → MS D} {fl : DSt → MS (List D)} {pos : Pos}
inductive AtLI (x y : D) (Ω Ω' : Sto) (r : Except XD D) : Prop
  | mk (i : Nat) (j : Int) (ds : List D) (d : D) (hx : x = .obj i) (hy : y = .int j) (hi : Ω[i]? = some (.lst ds)) (ha : L2.atI ds j = some d) (hr : r = .ok d) (ho : Ω' = Ω)
inductive ChkI (x : D) (Ω Ω' : Sto) (r : Except XD D) : Prop
  | mk (i : Nat) (ds : List D) (hx : x = .obj i) (hi : Ω[i]? = some (.lst ds)) (hr : r = .ok x) (ho : Ω' = Ω)
inductive PutI (g : List D → Option (List D)) (x : D) (Ω Ω' : Sto) (r : Except XD D) : Prop
  | mk (i : Nat) (ds es : List D) (hx : x = .obj i) (hi : Ω[i]? = some (.lst ds)) (hg : g ds = some es) (hr : r = .ok .non) (ho : Ω' = Ω.set i (.lst es))
end
end DL
namespace DL
open PySem PySem.Spec L2
noncomputable def forL (k : Nat → D → D) (g : DSt → MS Out) (h : D → DSt → Option DSt) (n : Nat) : Nat → Nat → DSt → MS Out
  | 0, _, _ => fun _ => none
  | f + 1, i, δ => fun Ω => match Ω[n]? with
    | some (.lst ds) => match ds[i]? with
      | none => some (.ok (.nx δ), Ω)
      | some d => match h (k i d) δ with
        | none => none
        | some δ1 => ((g δ1).b fun o => match o with
          | .nx δ2 => forL k g h n f (i + 1) δ2
          | .ct δ2 => forL k g h n f (i + 1) δ2
          | .bk δ2 => MS.p (.nx δ2)
          | .rt v => MS.p (.rt v)) Ω
    | _ => none
inductive ForLI (k : Nat → D → D) (g : DSt → MS Out) (h : D → DSt → Option DSt) (n f i : Nat) (δ : DSt) (Ω Ω' : Sto) (r : Except XD Out) : Prop
  | stop (ds : List D) (hn : Ω[n]? = some (.lst ds)) (hi : ds[i]? = none) (hr : r = .ok (.nx δ)) (ho : Ω' = Ω)
  | turn (ds : List D) (d : D) (δ1 : DSt) (hn : Ω[n]? = some (.lst ds)) (hi : ds[i]? = some d) (hh : h (k i d) δ = some δ1) (hg : ((g δ1).b fun o => match o with
          | .nx δ2 => forL k g h n f (i + 1) δ2
          | .ct δ2 => forL k g h n f (i + 1) δ2
          | .bk δ2 => MS.p (.nx δ2)
          | .rt v => MS.p (.rt v)) Ω = some (r, Ω'))
inductive FLInv (X : Cx) (O : List Nat) (ρ₀ : Rho) (S₀ : Addr → Bool) (H₀ : Hp) (F : Addr → Bool) (ρ1 : Rho) (H1 : Hp) (m : DSt → MS Out) (r : Except XD Out) (Ω' : Sto) (σ : St) (H : Hp) : Prop
  | mk (ρ : Rho) (S : Addr → Bool) (δ : DSt) (Ω : Sto) (hR : RM ρ₀ S₀ H₀ F X.K X.mg O ρ S H σ δ Ω) (hl : RLe ρ1 ρ) (hs : Same H1 (hid H (fob (un F S) σ O))) (hf : m δ Ω = some (r, Ω'))
section
variable {X : Cx} {O B : List Nat} {a iter tg : Expr} {fo : DSt → MS D} {g : DSt → MS Out} {pos : Pos}
variable {fl : DSt → MS (List D)}
end
end DL
namespace DL
open PySem PySem.Spec L2
noncomputable def joinT (done : List D) : Except XD (List D) → Except XD (List D)
  | .ok rest => .ok (done ++ rest)
  | .error y => .error y
inductive CEI (X : Cx) (ρ1 : Rho) (S1 : Addr → Bool) (H1 Hv : Hp) (G : Addr → Bool) (Dd : Addr) (T : Except XD (List D)) (Ωe : Sto) (cd : DSt → MS (List D)) (i : Nat) (σ : St) (H : Hp) : Prop
  | mk (ρ : Rho) (S : Addr → Bool) (δ : DSt) (Ω : Sto) (done : List D) (zs : List V) (rr : Except XD (List D)) (hR : RM ρ S H G X.K X.mg [] ρ S H σ δ Ω) (hD : H Dd = some (.lst zs)) (hz : Reps ρ X.K (hid H (un G S)) done zs) (hlen : zs.length = i)
    (hc : cd δ Ω = some (rr, Ωe)) (hT : T = joinT done rr) (hv : Same Hv (hid H (un G S))) (hl : RLe ρ1 ρ) (hsm : ∀ b o, S1 b = false → H1 b = some o → H b = some o) (hold : ∀ b, S1 b = true → S b = true) (hnew : ∀ b, S b = true → S1 b = true ∨ H1 b = none)
section
variable {ρ₀ ρ : Rho} {S₀ S F : Addr → Bool} {H₀ H : Hp} {K : PySem.W.Frag} {mg : Str → Option Value} {O : List Nat} {σ : St} {δ : DSt} {Ω : Sto}
end
section
variable {X : Cx} {O : List Nat} {elt iter tg : Expr} {fe : DSt → MS D} {fi : DSt → MS (List D)} {pos : Pos}
end
end DL
namespace L2
open PySem PySem.Spec PyProof.Rows
section
variable {prog : Program} {w : World} {A : Around} {E : Value → Shared → Prop} {s : Shared}
inductive RgEnd (s : Shared) (n : Nat) (q : Result) (s' : Shared) : Prop
  | mk (h' : Heap) (tk : Nat) (acc : Array Value) (c : Nat) (e1 : q = .ok (.ret (.ref s.heap.objs.size))) (e2 : s' = { s with heap := h', toks := tk }) (k : ∀ b o, s.heap.get? b = some o → h'.get? b = some o)
      (at' : h'.get? s.heap.objs.size = some { cls := .type "list", dict := none, data := .seq acc c, slots := #[] }) (got : ItemsOf (fun i v => ∃ t, v = Value.int ((0 : Int) + i * 1) t) acc n)
end
end L2
namespace L2
open PySem PySem.Spec PyProof.Rows
open Att
noncomputable def kasRun {α : Type} (c : Nat → Nat → Bool) : PySem.W.KasT α → α
  | .ret a => a
  | .ask i j k => kasRun c (k (c i j))
noncomputable def kasIn {α : Type} (n : Nat) : PySem.W.KasT α → Bool
  | .ret _ => true
  | .ask i j k => decide (i < n) && decide (j < n) && kasIn n (k true) && kasIn n (k false)
noncomputable def rgOrd (keys : List Int) (n : Nat) : List Nat := (kasRun (fun i j => decide (keys.getD i 0 < keys.getD j 0)) (PySem.W.kas_sort n)).toList
section
variable {prog : Program} {w : World} {A : Around} {E : Value → Shared → Prop} {s : Shared} {L : Addr} {m : Str → Option Value} {h h1 h2 g : Heap}
structure Lk (L : Addr) (m : Str → Option Value) (h h' : Heap) : Prop where
  k : ∀ b o, b ≠ L → h.get? b = some o → h'.get? b = some o
  ns : h'.Ns L m
end
end L2
namespace L2
open PySem PySem.Spec PyProof.Rows
section
variable {P : Program} {w : World} {H : Hp} {h : Heap} {a : Addr} {o : HO}
theorem ObjOk.here (x : ObjOk P w H h a o) : ∃ ob, h.get? a = some ob := by
  cases o with
  | lst xs => obtain ⟨_, _, _, _, e⟩ := x; exact ⟨_, e⟩
  | tup xs => obtain ⟨_, _, _, o, e, _⟩ := x; exact ⟨_, e⟩
  | dK kvs => obtain ⟨_, _, _, _, o, _, _, e, _⟩ := x; exact ⟨_, e⟩
  | dT kvs => obtain ⟨_, _, _, _, o, _, _, e, _⟩ := x; exact ⟨_, e⟩
  | set S n => obtain ⟨o, _, _, _, e, _⟩ := x; exact ⟨_, e⟩
  | ins C dx fs => obtain ⟨_, _, _, e, _⟩ := x; exact ⟨_, e⟩
  | own y => exact x
  | xd fs => obtain ⟨_, ⟨_, _, _, e, _⟩, _⟩ := x; exact ⟨_, e⟩
  | rng lo hi => obtain ⟨_, _, _, e⟩ := x; exact ⟨_, e⟩
  | frz ob u => obtain ⟨e, _⟩ := x; exact ⟨_, e⟩
  | tbl ps => exact ⟨_, x⟩
  | met f y => exact ⟨_, x⟩
  | ext φ => exact x.2.1
end
section
variable {X : Cx} {pins : List (Addr × Obj)} {σ : St} {H : Hp} {s : Shared} {h' : Heap} {m : Str → Option Value}
end
end L2
namespace DL
open PySem PySem.Spec L2
section
variable {ρ₀ ρ ρ' : Rho} {S₀ S S' F : Addr → Bool} {H₀ H H1 H' : Hp} {K : PySem.W.Frag} {mg : Str → Option Value} {O O' B : List Nat} {σ σ' : St} {δ δ' : DSt} {Ω Ω' : Sto}
end
inductive CdOf (K : PySem.W.Frag) (mg : Str → Option Value) (x : Str) (cdv : Value) : Prop
  | mk (f : Addr) (oc : Value) (od : Option Addr) (fd : FuncData) (osl : Array (Option Value)) (h1 : mg x = some (.ref f)) (h2 : K.lookup f = some ⟨oc, od, .func fd, osl⟩) (h3 : fd.code = cdv)
noncomputable def ordD (n : Int) (rs : List D) : Option (List D) := match intsD rs with
  | some ks => if 2 ≤ n ∧ n < 64 ∧ (ks.length : Int) = n ∧ kasIn n.toNat (PySem.W.kas_sort n.toNat) = true ∧ (rgOrd (ks.map fun k => -k) n.toNat).all (fun i => decide (i < n.toNat)) = true ∧ (rgOrd (ks.map fun k => -k) n.toNat).length ≤ 64 then
      some ((rgOrd (ks.map fun k => -k) n.toNat).map fun i => .int (Int.ofNat i)) else none
  | none => none
inductive SortI (x : Str) (l c : Nat) (q : Str) (ir : Nat) (δ : DSt) (ds : List D) (Ω Ω' : Sto) (r : Except XD D) : Prop
  | mk (n : Int) (rs es : List D) (h1 : ds = [.int n]) (h2 : δ[ir]? = some (some (.lst rs))) (h3 : Ω[0]? = some (.tab x l c q)) (h4 : ordD n rs = some es) (h5 : r = .ok (.lst es)) (h6 : Ω' = Ω)
inductive OrdI (n : Int) (rs es : List D) : Prop
  | mk (N : Nat) (ks : List Int) (h1 : n = N) (h2 : rs = ks.map .int) (h3 : 2 ≤ N) (h4 : N < 64) (h5 : ks.length = N) (h6 : kasIn N (PySem.W.kas_sort N) = true) (h7 : ∀ i ∈ rgOrd (ks.map fun k => -k) N, i < N) (h8 : (rgOrd (ks.map fun k => -k) N).length ≤ 64) (h9 : es = (rgOrd (ks.map fun k => -k) N).map fun i => .int (Int.ofNat i))
end DL
namespace DL
open PySem PySem.Spec PyProof.Rows L2
section
variable {X : Cx} {O : List Nat}
end
end DL
namespace DL
open PySem PySem.Spec PyProof.Rows L2
section
variable {P : Program} {w : World} {K : PySem.W.Frag} {mg : Str → Option Value} {base : Heap}
end
noncomputable def dropT (T : Addr) (K : PySem.W.Frag) : PySem.W.Frag := K.filter fun p => !(p.1 == T)
section
variable {K : PySem.W.Frag} {T a : Addr}
variable (hT : K.lookup T = some ⟨.none, none, .fields #[], #[]⟩)
include hT
end
end DL
namespace DL
open PySem PySem.Spec PyProof.Rows L2
inductive LawT (P : Program) (w : World) (K : PySem.W.Frag) (mg : Str → Option Value) (n k : Nat) (x : Str) (fa : Addr) : Prop
  | mk (T c : Addr) (fd : FuncData) (sp : Sp) (h1 : K.lookup T = some ⟨.none, none, .fields #[], #[]⟩) (h2 : PySem.W.codeHdIn K c T = true) (h3 : ∀ (s : Shared) (u : Value), BindsTo s fd ⟨[u], []⟩ [(x, u)])
      (h4 : ∀ base : Heap, (dropT T K).In base → base.Ns mainGlobals mg → FnOk P w (dropT T K) mg base CX0 k fa fd [x] sp)
      (h5 : ∀ (H : Hp) (a : Addr) (ns : List Int), ns.length ≤ n → H T = some (.tbl #[]) → SqL (dropT T K) H a (ns.map V.int) → sp [.ref a] H (fun v _ => v = .bl true) fun _ _ _ => False)
end DL
namespace DL
open PySem PySem.Spec PyProof.Rows L2
section
variable {X : Cx} {O B : List Nat} {E : XK} {elt tg iter e : Expr} {pos : Pos} {fa fb : DSt → M D}
end
end DL
namespace L2
open PySem PySem.Spec PyProof.Rows
end L2
namespace DL
open PySem PySem.Spec PyProof.Rows L2
noncomputable def orA (G : Addr → Bool) (l : Addr) : Addr → Bool := fun b => G b || b == l
inductive spF (K : PySem.W.Frag) (mg : Str → Option Value) (n : Nat) (m : List D → MS D) (vs : List V) (H : Hp) (Q : VK) (E : XK) : Prop
  | mk (hn : vs.length = n) (ρ : Rho) (S F : Addr → Bool) (ds : List D) (Ω : Sto) (hF : ∀ b, F b = true → H b ≠ none) (hS : ∀ b, F b = true → S b = false) (hr : Reps ρ K (hid H (un F S)) ds vs) (hs : StoOk ρ S K mg H (hid H (un F S)) Ω) (es : List D) (Ω' : Sto) (hf : m ds Ω = some (.ok (.lst es), Ω'))
      (k : ∀ (l : Addr) zs ρ' S' H', RLe ρ ρ' → (∀ b o, S b = false → H b = some o → H' b = some o) → (∀ b, S b = true → S' b = true) → (∀ b, S' b = true → S b = true ∨ H b = none) → (∀ b, F b = true → S' b = false) → StoOk ρ' S' K mg H' (hid H' (orA (un F S') l)) Ω' →
        H l = none → H' l = some (.lst zs) → S' l = false → Reps ρ' K (hid H' (orA (un F S') l)) es zs → Q (.ref l) H')
structure CalF (P : Program) (w : World) (K : PySem.W.Frag) (mg : Str → Option Value) (base : Heap) (k : Nat) (x : Str) (n : Nat) (m : List D → MS D) : Prop where
  ex : CalX P w K mg base k x n (spF K mg n m)
  ar : ∀ ds Ω r, m ds Ω = some r → ds.length = n
  ls : ∀ ds Ω r Ω', m ds Ω = some (r, Ω') → ∃ es, r = .ok (.lst es)
inductive PickF (i : Nat) (q : Option (Except XD Out × Sto)) (es : List D) (Ω' : Sto) : Prop
  | mk (δ' : DSt) (h1 : q = some (.ok (.nx δ'), Ω')) (h2 : δ'[i]? = some (some (.lst es)))
section
variable {P : Program} {w : World} {K : PySem.W.Frag} {mg : Str → Option Value} {base : Heap}
end
section
variable {X : Cx} {O B : List Nat} {e : Expr} {es : List Expr} {fl : DSt → MS (List D)} {pos : Pos} {k n : Nat}
end
end DL
namespace L2
open PySem PySem.Spec PyProof.Rows
open Att
section
variable {prog : Program} {w : World} {A : Around} {E : Value → Shared → Prop} {s : Shared} {L : Addr} {m : Str → Option Value}
inductive TpAt (h : Heap) (v : Value) (ns : List Int) : Prop
  | mk (a : Addr) (its : Array Value) (e : v = .ref a) (h1 : IsTup h a its) (h2 : IntsAre its.toList ns)
end
end L2
namespace DL
open PySem PySem.Spec PyProof.Rows L2
section
variable {X : Cx} {O B : List Nat} {E : XK} {e : Expr} {pos : Pos} {fa fb : DSt → M D}
inductive TupV (K : PySem.W.Frag) (H : Hp) (v : V) (t : List Int) : Prop
  | mk (a : Addr) (e : v = .ref a) (h : SqT K H a (t.map V.int))
end
noncomputable def mAndV (fa fb : DSt → MS D) : DSt → MS D := fun δ => (fa δ).b fun x => match x with
  | .bl true => fb δ
  | .bl false => MS.p (.bl false)
  | _ => fun _ => none
section
variable {X : Cx} {O : List Nat} {a b : Expr} {rest : List Expr} {pos : Pos} {fa fb : DSt → MS D}
theorem me_one {op} (h : ME X O a fa) : ME X O (.BoolOp op [a] pos) fa := fun pins s σ H Q I hw => pe_one h pins s σ H Q I hw
theorem me_and (ha : ME X O a fa) (hb : ME X O (.BoolOp .And (b :: rest) pos) fb) : ME X O (.BoolOp .And (a :: b :: rest) pos) (mAndV fa fb) := by
  rintro pins s σ H Q I ⟨ρ₀, S₀, H₀, F, ρ, S, δ, Ω, R, r, Ω', hf, k⟩
  refine pe_and ha hb pins s σ H Q I ?_
  rcases MS.b_inv hf with ⟨x, Ω1, e1, hf⟩ | ⟨x, e1, rfl⟩
  · refine ⟨ρ₀, S₀, H₀, F, ρ, S, δ, Ω, R, .ok x, Ω1, e1, fun u ρ1 S1 H1 R1 l1 v1 r1 => ?_⟩
    cases x with
    | bl z =>
      refine ⟨z, rep_bl.mp r1, ?_⟩
      cases z with
      | true =>
        refine iteT ⟨ρ₀, S₀, H₀, F, ρ1, S1, δ, Ω1, R1, r, Ω', hf, ?_⟩
        cases r with
        | ok d => exact fun v ρ2 S2 H2 R2 l2 v2 r2 => k v ρ2 S2 H2 R2 (l1.trans l2) (v1.trans v2) r2
        | error y => trivial
      | false =>
        refine iteF ?_
        cases hf
        exact k _ ρ1 S1 H1 R1 l1 v1 (rep_bl.mpr rfl)
    | _ => cases hf
  · exact ⟨ρ₀, S₀, H₀, F, ρ, S, δ, Ω, R, .error x, _, e1, trivial⟩
end
end DL
namespace L2
open PySem PySem.Spec PyProof.Rows
end L2
namespace L2
open PySem PySem.Spec PyProof.Rows
end L2
namespace L2
open PySem PySem.Spec PyProof.Rows
end L2
namespace L2
open PySem PySem.Spec PyProof.Rows
end L2
namespace L2
open PySem PySem.Spec PyProof.Rows
end L2
namespace L2
open PySem PySem.Spec PyProof.Rows
end L2
namespace L2
open PySem PySem.Spec PyProof.Rows
end L2
namespace L2
open PySem PySem.Spec PyProof.Rows
end L2
namespace L2
open PySem PySem.Spec PyProof.Rows
end L2
namespace L2
open PySem PySem.Spec PyProof.Rows
end L2
namespace L2
open PySem PySem.Spec PyProof.Rows
section
variable {κ : Type} [DecidableEq κ]
end
section
variable {P : Program} {w : World} {H : Hp} {h : Heap} {a : Addr}
end
section
variable {X : Cx} {pins : List (Addr × Obj)} {σ : St} {H : Hp} {s : Shared} {a : Addr} {y v : V} {u r : Value} {o : Option V} {A : Around} {E : Value → Shared → Prop}
end
section
variable {X : Cx} {pins : List (Addr × Obj)} {σ : St} {H : Hp} {s : Shared} {a : Addr} {kvs : List (Key × V)} {k : Key} {u : Value} {A : Around} {E : Value → Shared → Prop}
end
section
variable {X : Cx} {o i e value : Expr} {pos pos' tpos : Pos} {td ty tv : TE}
end
section
variable {X : Cx} {pos : Pos}
end
structure M1 (X : Cx) (o : Expr) (m : Str) (apos : Pos) (e : Expr) (cpos : Pos) : Prop where
  base : attributeBase o m X.env (eval o X.env) = eval o X.env
  few : ((backTo cpos (starEach [e] X.env)).all (fun x => !x.1) && (backToKw cpos (keywordEach [] X.env)).all (fun x => x.1.isSome)
    && decide (([e] : List Expr).length + ([] : List Keyword).length + (if ([] : List Keyword).isEmpty then 0 else 1) < 30)) = true
  line : (apos.endLine == cpos.line) = true
  trees : backTo cpos (starEach [e] X.env) = [(false, eval e X.env)]
structure M2 (X : Cx) (o : Expr) (m : Str) (apos : Pos) (e f : Expr) (cpos : Pos) : Prop where
  base : attributeBase o m X.env (eval o X.env) = eval o X.env
  few : ((backTo cpos (starEach [e, f] X.env)).all (fun x => !x.1) && (backToKw cpos (keywordEach [] X.env)).all (fun x => x.1.isSome)
    && decide (([e, f] : List Expr).length + ([] : List Keyword).length + (if ([] : List Keyword).isEmpty then 0 else 1) < 30)) = true
  line : (apos.endLine == cpos.line) = true
  trees : backTo cpos (starEach [e, f] X.env) = [(false, eval e X.env), (false, eval f X.env)]
section
variable {X : Cx} {pins : List (Addr × Obj)} {σ : St} {H : Hp} {s : Shared} {a : Addr} {y d : V} {u r : Value} {o : Option V} {A : Around} {E : Value → Shared → Prop}
end
section
variable {X : Cx} {o e f : Expr} {apos cpos : Pos} {td ty tx : TE}
end
section
variable {X : Cx} {pins : List (Addr × Obj)} {σ : St} {H : Hp} {s : Shared} {a : Addr} {kvs : List (Key × V)} {A : Around} {E : Value → Shared → Prop}
end
section
variable {X : Cx} {pins : List (Addr × Obj)} {σ : St} {H : Hp} {s : Shared} {a : Addr} {y : V} {u : Value} {A : Around} {E : Value → Shared → Prop}
end
end L2
namespace Att
open PySem PySem.W PySem.Calls PyProof.Rows
end Att
namespace L2
open PySem PySem.Spec PyProof.Rows
end L2
namespace L2
open PySem PySem.Spec PyProof.Rows
end L2
namespace L2
open PySem PySem.Spec PyProof.Rows
section
variable {κ : Type} [DecidableEq κ]
end
end L2
namespace L2
open PySem PySem.Spec PyProof.Rows Builtin Builtin.ObjectAttr
open PySem.W (Frag InstAt Looks findIn mroIn clsIn findObj takerIn tailIn isFn)
noncomputable abbrev bmV : List Value := [.type "ValueError", .type "Exception", .type "BaseException", .type "object"]
noncomputable def xIn (K : Frag) (C : Addr) : Bool := match K.lookup C with
  | some ⟨.type "type", _, .cls cd, sl⟩ => (match cd.mro, sl.toList with
    | .ref C' :: bm, [_, _, _, _, some (.builtin n), _] => C' == C && n == "ValueError.__new__" && !cd.hasDel && cd.hasDict && tailIn K bmV bm
    | _, _ => false)
  | _ => false
inductive XAt (K : Frag) (h : Heap) (C : Addr) : Prop
  | mk (bm : List Value) (N : Addr) (nm q : Str) (bs : List Value) (sn : List Str) (sub : List Value) (ab : Bool) (col : Option Bool) (dd : Option Addr) (k0 k1 k2 k3 k5 : Option Value) (cd : ClassData)
    (hC : h.get? C = some (excClassObj nm q C N bs bm true sn sub ab col dd k0 k1 k2 k3 k5 "ValueError.__new__")) (T : OwnTail h bmV bm) (hk : clsIn K C = some cd) (hm : cd.mro = .ref C :: bm) (hd : cd.hasDict = true) (hN : cd.ns = N)
theorem x_at {K : Frag} {h : Heap} {C : Addr} (X : K.In h) (e : xIn K C = true) : XAt K h C := by
  unfold xIn at e
  split at e
  · rename_i dd cd sl ho
    split at e
    · rename_i C' bm k0 k1 k2 k3 n k5 hm hs
      simp only [Bool.and_eq_true, beq_iff_eq, Bool.not_eq_true'] at e
      obtain ⟨⟨⟨⟨e1, e2⟩, e3⟩, e4⟩, e5⟩ := e
      subst e1 e2
      have hk : clsIn K C' = some cd := by unfold clsIn; rw [ho]
      have hm0 := hm
      have e40 := e4
      obtain ⟨nm, bs, mro, ns, qn, hd, sn, sub, ab, col, del⟩ := cd
      dsimp only at hm e3 e4
      subst hm e3 e4
      have hsl : sl = #[k0, k1, k2, k3, some (.builtin "ValueError.__new__"), k5] := by
        obtain ⟨l⟩ := sl
        simp only at hs
        rw [hs]
      subst hsl
      exact ⟨bm, ns, nm, qn, bs, sn, sub, ab, col, dd, k0, k1, k2, k3, k5, _, X _ _ ho, PySem.W.tail_of_in X e5, hk, hm0, e40, rfl⟩
    · cases e
  · cases e
theorem refuse_tail {h : Heap} {bm : List Value} (self : Value) (T : OwnTail h bmV bm) : refuseLoop self "__setattr__" bm = pure () := by
  induction T with
  | base => exact PySem.F.store_ValueError.passes self
  | own _ _ _ _ ih => rw [refuseLoop_ref]; exact ih
section
variable {prog : Program} {w : World} {A : Around} {E : Value → Shared → Prop} {s : Shared} {K : Frag} {x C f : Addr} {name : Str} {v : Value} {ox : Obj} {od : Option Obj}
theorem x_make {rest : List Value} {Q : Value → Shared → Prop} (X : K.In s.heap) (hx : xIn K C = true) (hi : findIn K (.ref C) "__init__" = some (some (.ref f))) (hf : isFn K (.ref f) = true)
    (hq : ∀ h' e, Heap.MadeExcOf s.heap h' e (.ref C) rest → wpAny (model prog w) (A.under (.builtin "type.__call__" ⟨.ref C :: rest, []⟩)) (call (.ref f) (.ref e :: rest)) (fun r s' => r = .none ∧ Q (.ref e) s') E { s with heap := h' }) (hrest : rest.length ≤ sizeLine) :
    wpAny (model prog w) A (call (.ref C) rest) Q E s := by
  obtain ⟨bm, N, nm, q, bs, sn, sub, ab, col, dd, k0, k1, k2, k3, k5, cd, hC, T, hk, hm, hd, hN⟩ := x_at X hx
  obtain ⟨h, g, d, t, os⟩ := s
  have F := PySem.F.excBase_ValueError
  have f1 := tc_lookup
  have f2 := tc_bind (.ref C)
  have hT : (⟨h, g, d, t, os⟩ : Shared).TypeIs (.ref C) "type" := ⟨_, hC, rfl⟩
  refine wpAny_call (codeAny_of_tree (show wpAny _ _ (callAny (.ref C) _) _ _ _ from ?_))
  repeat (any_goals (first | assumption | with_reducible refine wpAny_loadPart_at hC ?_ | wp_step))
  refine ⟨rfl, codeAny_call_builtin_at (Code.quiet_builtin _ (by decide +kernel)) entry_typeCall (wpAny_check_type_call_sub hC ?_)⟩
  repeat (first | with_reducible refine wpAny_loadPart_at hC ?_ | with_reducible refine wpAny_madeBy_exc hC ?_ | wp_step)
  refine codeAny_call_builtin_code (Code.quiet_builtin _ F.quiet) (wpAny_check_new_subT F T hC (codeAny_exc_new_subT F T hC (show wpAny _ _ _ _ _ _ from ?_) hrest))
  have kp : ∀ b o, h.get? b = some o → ((h.push { cls := .type "tuple", data := .seq rest.toArray }).push { cls := .ref C, data := .fields #[.ref h.objs.size, .none, .none, .none, .bool false, .none] }).get? b = some o := fun b o e => Heap.get?_push_of_some _ (Heap.get?_push_of_some _ e)
  have hC1 := kp _ _ hC
  have X1 : K.In ((h.push { cls := .type "tuple", data := .seq rest.toArray }).push { cls := .ref C, data := .fields #[.ref h.objs.size, .none, .none, .none, .bool false, .none] }) := fun b o e => kp b o (X b o e)
  have hg1 : ((h.push { cls := .type "tuple", data := .seq rest.toArray }).push { cls := .ref C, data := .fields #[.ref h.objs.size, .none, .none, .none, .bool false, .none] }).get? (h.objs.size + 1) = some { cls := .ref C, data := .fields #[.ref h.objs.size, .none, .none, .none, .bool false, .none] } := by heap_get
  have hc1 : (Value.ref C :: bm).contains (.ref C) = true := by simp
  unfold isInstance
  repeat (first | with_reducible refine wpAny_loadPart_at hg1 ?_ | (with_reducible refine wpAny_isSubtype_exc hC1 ?_; rw [hc1]) | wp_step)
  refine wpAny_isSubtype_exc (C := C) hC1 ?_
  rw [hc1]
  repeat wp_step
  repeat (first | with_reducible refine wpAny_loadPart_at hg1 ?_ | wp_step)
  show wpAny _ _ (typeLookup (.ref C) _) _ _ _
  refine (PySem.W.looks_findIn X1 hi).at ?_
  refine wpAny_holding (wpAny_bind ((PySem.W.bind_fn X1 _ (beq_iff_eq.mp hf)).at ?_))
  refine wpAny_bind (wpAny_mono (hq _ (h.objs.size + 1) ⟨kp, Heap.get?_none_of_le (Nat.le_succ _), h.objs.size, hg1, Heap.get?_none_of_le (Nat.le_refl _), Heap.get?_push_of_some _ (Heap.get?_push_at rfl rfl)⟩) (fun r s' hr => ?_) fun _ _ z => z)
  obtain ⟨rfl, hQ⟩ := hr
  wp_walk
  exact hQ
noncomputable def xNoI (K : Frag) (C : Addr) : Bool := (clsIn K C).any fun cd => PySem.W.nsOkIn K cd.ns && PySem.W.nsIn K cd.ns "__init__" == some none
theorem x_make0 {rest : List Value} {Q : Value → Shared → Prop} (X : K.In s.heap) (hx : xIn K C = true) (hi : xNoI K C = true) (hq : ∀ h' e, Heap.MadeExcOf s.heap h' e (.ref C) rest → Q (.ref e) { s with heap := h' }) (hrest : rest.length ≤ sizeLine) :
    wpAny (model prog w) A (call (.ref C) rest) Q E s := by
  obtain ⟨bm, N, nm, q, bs, sn, sub, ab, col, dd, k0, k1, k2, k3, k5, cd, hC, T, hk, hm, hd, hN⟩ := x_at X hx
  obtain ⟨cd', e1, e2⟩ := PySem.W.any_some hi
  rw [hk] at e1
  cases e1
  rw [hN, Bool.and_eq_true, beq_iff_eq] at e2
  obtain ⟨h, g, d, t, os⟩ := s
  exact wpAny_call_exc_subT (hrest := hrest) PySem.F.excBase_ValueError T hC (.of_isNs (PySem.W.isNs_of_in X e2.1)) (PySem.W.nsMap_none_of_in X e2.1 e2.2) hq
theorem x_obj {K : Frag} {C : Addr} {h : Heap} (X : K.In h) (hx : xIn K C = true) {T : String} (hT : bmV.contains (.type T) = true) : mroIn K C (.type T) = some true := by
  obtain ⟨bm, N, nm, q, bs, sn, sub, ab, col, dd, k0, k1, k2, k3, k5, cd, hC, Tl, hk, hm, hd, hN⟩ := x_at X hx
  unfold mroIn
  rw [hk, Option.bind_some, hm, if_neg (fun z => by cases z), List.contains_cons, Tl.hasType hT, Bool.or_true]
theorem x_osa {R : Result → Shared → Prop} {tk : Tok} (X : K.In s.heap) (I : InstAt s.heap x ox C od) (hx : xIn K C = true) (ht : takerIn K C name = some none)
    (h : ∀ b, wpAny (model prog w) A.in1 (storeInOwnDict (.ref x) (.ref C) (.str name tk) name v b) (fun fin s' => match fin with | .done f => R (.ok f) s' | .again c' => c'.quiet = true ∧ codeAny (model prog w) A c' R s') (fun e s' => R (.error e) s') s) :
    codeAny (model prog w) A (.call (.builtin "object.__setattr__") ⟨[.ref x, .str name tk, v], []⟩) R s := by
  have SF := PySem.F.store_object
  have sub : Looks (model prog w) s.heap (isInstance (.ref x) (.type "object")) true := I.type.andThen (PySem.W.looks_mroIn X (x_obj X hx (by decide)))
  obtain ⟨bm, N, nm, q, bs, sn, sub', ab, col, dd, k0, k1, k2, k3, k5, cd, hC, Tl, hk, hm, hd, hN⟩ := x_at X hx
  have hmr : Looks (model prog w) s.heap (mroOf (.ref C)) (.ref C :: bm) := by
    have := (PySem.W.looks_clsIn (M := model prog w) X hk).andThen (f := fun cd => pure cd.mro) (b := cd.mro) .now
    rw [hm] at this
    exact this
  refine codeAny_call_builtin SF.slot.plain SF.entry (@PySem.W.check_slot (model prog w) _ _ s "object.__setattr__" "object" "__setattr__" (.ref x) [.str name tk, v] [] _ SF.kind SF.split sub (SF.args (.ref x) (.str name tk) v) ?_)
  obtain ⟨attr, ha, hr⟩ := Option.bind_eq_some_iff.mp ht
  have L3 : Looks (model prog w) s.heap (storeTaker? attr) none := by
    cases attr with
    | none => exact .now
    | some a =>
      obtain ⟨b, hb, e⟩ := Option.map_eq_some_iff.mp hr
      cases b with
      | false => exact (PySem.W.looks_takesIn X hb).andThen .now
      | true => cases e
  rw [PySem.W.osa_eq, refuse_eq]
  refine wpAny_bind (wpAny_bind (I.type.here (wpAny_bind (hmr.here ?_))))
  rw [refuseLoop_ref, refuse_tail _ Tl]
  exact wpAny_pure (wpAny_bind (I.type.here (wpAny_bind ((PySem.W.looks_findIn X ha).here (wpAny_bind (L3.here (h _)))))))
theorem x_inst0 {h : Heap} {vs : Array Value} {sl : Array (Option Value)} (e : h.get? x = some (xOb C none vs sl)) : InstAt h x (xOb C none vs sl) C none := ⟨e, rfl, rfl, trivial⟩
theorem x_inst1 {h : Heap} {vs : Array Value} {sl : Array (Option Value)} {dx : Addr} {o : Obj} (e : h.get? x = some (xOb C (some dx) vs sl)) (e2 : h.get? dx = some o) : InstAt h x (xOb C (some dx) vs sl) C (some o) := ⟨e, rfl, rfl, e2⟩
theorem x_set0 {vs : Array Value} {sl : Array (Option Value)} {Q : Unit → Shared → Prop} (X : K.In s.heap) (h0 : s.heap.get? x = some (xOb C none vs sl)) (hx : xIn K C = true) (hs : findIn K (.ref C) "__setattr__" = some (some (.builtin "object.__setattr__"))) (ht : takerIn K C name = some none)
    (h : ∀ h' : Heap, h'.get? x = some (xOb C (some s.heap.objs.size) vs sl) → h'.Ns1 s.heap.objs.size (fun y => if y = name then some v else none) → (∀ b ob, b ≠ x → s.heap.get? b = some ob → h'.get? b = some ob) → Q () { s with heap := h', toks := s.toks + 2 }) :
    wpAny (model prog w) A (setAttr (.ref x) name v) Q E s := by
  have I := x_inst0 h0
  refine PySem.W.set_plain X I hs (x_osa (s := { s with toks := s.toks + 1 }) X I hx ht fun b => ?_)
  obtain ⟨bm, N, nm, q, bs, sn, sub', ab, col, dd, k0, k1, k2, k3, k5, cd, hC, Tl, hk, hm, hd, hN⟩ := x_at X hx
  have hxs : x ≠ s.heap.objs.size := Nat.ne_of_lt (Heap.lt_size h0)
  have h1 : (s.heap.push { cls := .type "dict", data := .dict #[] }).get? x = some (xOb C none vs sl) := Heap.get?_push_of_some _ h0
  refine wpAny_bind (wpAny_pure (wpAny_bind (wpAny_bind (wpAny_loadPart h0 (wpAny_bind (Looks.here (s := { s with toks := s.toks + 1 }) (PySem.W.looks_clsIn X hk) ?_))))))
  rw [hd]
  refine (show wpAny (model prog w) A.in1 (alloc { cls := Value.type "dict", data := Data.dict #[] } >>= fun d => update x (fun o => { cls := o.cls, dict := some d, data := o.data, slots := o.slots }) >>= fun _ => (pure (some d) : Sem (Option Addr))) _ _ _ from ?_)
  refine wpAny_bind (wpAny_alloc (wpAny_bind (wpAny_update h1 (wpAny_pure ?_))))
  have g1 : ((s.heap.push { cls := .type "dict", data := .dict #[] }).update x fun o => { cls := o.cls, dict := some s.heap.objs.size, data := o.data, slots := o.slots }).get? s.heap.objs.size = some { cls := .type "dict", data := .dict #[] } := by
    rw [Heap.get?_update_ne _ _ _ _ hxs.symm]; exact Heap.get?_push_size _ rfl
  have g2 : ((s.heap.push { cls := .type "dict", data := .dict #[] }).update x fun o => { cls := o.cls, dict := some s.heap.objs.size, data := o.data, slots := o.slots }).Ns s.heap.objs.size (fun _ => none) :=
    ⟨_, #[], _, g1, rfl, (fun e he => absurd he (by simp)), fun _ => rfl⟩
  show wpAny _ _ (storeInDict s.heap.objs.size (.str name s.toks) name v) _ _ _
  unfold storeInDict newKeyGuard
  refine wpAny_bind (wpAny_pure (wpAny_bind (wpAny_nsSet1 (s := ⟨(s.heap.push { cls := .type "dict", data := .dict #[] }).update x fun o => { cls := o.cls, dict := some s.heap.objs.size, data := o.data, slots := o.slots }, s.gens, s.drawn, s.toks + 1, s.os⟩) (Heap.Ns1.of_empty g2) fun h' hn' hsb => ?_)))
  obtain ⟨oD, esD, epD, hoD, hdD, hcD⟩ := hn'.count (PySem.Within.cons name v PySem.Within.nil)
  refine wpAny_bind (wpAny_lookBehind hoD (by rw [hdD]; exact pastItsLine_dict (Nat.le_trans hcD (by rw [List.length_cons, List.length_nil, sizeLine_eq]; omega))) ?_)
  refine wpAny_pure (h h' ?_ hn' fun b ob nb hb => ?_)
  · refine (hsb.2 x hxs).trans (Heap.get?_update_self _ h1 rfl)
  · exact (hsb.2 b (Nat.ne_of_lt (Heap.lt_size hb))).trans ((Heap.get?_update_ne _ _ _ _ nb).trans (Heap.get?_push_of_some _ hb))
theorem x_set1 {vs : Array Value} {sl : Array (Option Value)} {dx : Addr} {mA : Str → Option Value} {ns : List Str} {Q : Unit → Shared → Prop} (X : K.In s.heap) (h0 : s.heap.get? x = some (xOb C (some dx) vs sl)) (hn : s.heap.Ns1 dx mA) (hx : xIn K C = true)
    (hs : findIn K (.ref C) "__setattr__" = some (some (.builtin "object.__setattr__"))) (ht : takerIn K C name = some none) (hw : PySem.Within mA ns) (hsz : ns.length ≤ sizeLine)
    (h : ∀ h' : Heap, h'.Ns1 dx (fun y => if y = name then some v else mA y) → Heap.SameBut dx s.heap h' → Q () { s with heap := h', toks := s.toks + 2 }) :
    wpAny (model prog w) A (setAttr (.ref x) name v) Q E s := by
  obtain ⟨od, _, _, e1, _⟩ := id hn
  have I := x_inst1 h0 e1
  refine PySem.W.set_plain X I hs (x_osa (s := { s with toks := s.toks + 1 }) X I hx ht fun b => ?_)
  obtain ⟨bm, N, nm, q, bs, sn, sub', ab, col, dd, k0, k1, k2, k3, k5, cd, hC, Tl, hk, hm, hd, hN⟩ := x_at X hx
  refine wpAny_bind (wpAny_pure (wpAny_bind (wpAny_bind (wpAny_loadPart h0 (wpAny_bind (Looks.here (s := { s with toks := s.toks + 1 }) (PySem.W.looks_clsIn X hk) ?_))))))
  rw [hd]
  refine wpAny_pure (a := some dx) (wpAny_bind (wpAny_pure (wpAny_bind (wpAny_nsSet1 (s := { s with toks := s.toks + 1 }) hn fun h' hn2 hs2 => ?_))))
  obtain ⟨oD, esD, epD, hoD, hdD, hcD⟩ := hn2.count (PySem.Within.cons name v hw)
  exact wpAny_bind (wpAny_lookBehind hoD (by rw [hdD]; exact pastItsLine_dict (Nat.le_trans hcD (by rw [List.length_cons]; omega))) (wpAny_pure (h _ hn2 hs2)))
end
end L2
namespace L2
open PySem PySem.Spec PyProof.Rows Builtin Builtin.ObjectAttr
open PySem.W (Frag InstAt Looks findIn mroIn clsIn findObj takerIn specialIn takesIn hasDictIn isFn)
section
variable {prog : Program} {w : World} {A : Around} {E : Value → Shared → Prop} {s : Shared} {K : Frag} {x C f : Addr} {name : Str} {v : Value} {ox : Obj} {od : Option Obj}
theorem kind_bga : builtinKind "BaseException.__getattribute__" = some .slot := by decide +kernel
theorem split_bga : splitId "BaseException.__getattribute__" = some ("BaseException", "__getattribute__") := by decide +kernel
theorem x_ga {R : Result → Shared → Prop} {tk : Tok} (X : K.In s.heap) (I : InstAt s.heap x ox C od) (hx : xIn K C = true)
    (h : wpAny (model prog w) A.in1 (Builtin.«object.__getattribute__» ⟨[.ref x, .str name tk], []⟩) (fun fin s' => match fin with | .done f => R (.ok f) s' | .again c' => c'.quiet = true ∧ codeAny (model prog w) A c' R s') (fun e s' => R (.error e) s') s) :
    codeAny (model prog w) A (.call (.builtin "BaseException.__getattribute__") ⟨[.ref x, .str name tk], []⟩) R s := by
  have sub : Looks (model prog w) s.heap (isInstance (.ref x) (.type "BaseException")) true := I.type.andThen (PySem.W.looks_mroIn X (x_obj X hx (by decide)))
  exact codeAny_call_builtin PySem.F.excAttr_ValueError.ga.plain PySem.F.entry_bexc_ga (@PySem.W.check_slot (model prog w) _ _ s "BaseException.__getattribute__" "BaseException" "__getattribute__" (.ref x) [.str name tk] [] _ kind_bga split_bga sub (PySem.F.args_bexc_ga _ _) h)
theorem x_by {tk : Tok} {fill expr : Bool} {Q : Value → Shared → Prop} (X : K.In s.heap) (I : InstAt s.heap x ox C od) (hx : xIn K C = true) (hga : findIn K (.ref C) "__getattribute__" = some (some (.builtin "BaseException.__getattribute__"))) (hgh : findIn K (.ref C) "__getattr__" = some none)
    (h : wpAny (model prog w) A.in1 (Builtin.«object.__getattribute__» ⟨[.ref x, .str name tk], []⟩) (fun fin s' => match fin with | .done (.ret v) => wpAny (model prog w) A (handedOut v) Q E s' | _ => False) (fun _ _ => False) s) :
    wpAny (model prog w) A (getAttrBy (.ref x) (.str name tk) fill expr) Q E s := by
  have L0 := I.type (M := model prog w)
  have L1 := PySem.W.looks_findIn (M := model prog w) X hga
  have L2 := PySem.W.looks_hook (M := model prog w) (mc := .ref C) (r := none) X hgh
  unfold getAttrBy
  refine wpAny_holding (wpAny_bind (L0.here (wpAny_bind (L1.here ?_))))
  show wpAny _ _ (getAttrByItsOwn (.ref x) (.str name tk) (.ref C) (.builtin "BaseException.__getattribute__") fill expr) _ _ _
  unfold getAttrByItsOwn
  refine wpAny_bind (L2.here (wpAny_bind (wpAny_attempt (wpAny_holding ?_))))
  have e0 : callGetattribute (.ref x) (.str name tk) (.builtin "BaseException.__getattribute__") expr = boundAndCalled (.builtin "BaseException.__getattribute__") (.ref x) (.str name tk) := by cases expr <;> rfl
  rw [e0]
  unfold boundAndCalled
  rw [PySem.F.excAttr_ValueError.ga.bind]
  refine wpAny_bind (wpAny_pure (wpAny_call (x_ga X I hx (wpAny_mono h (fun fin s' z => ?_) fun _ _ z => z.elim))))
  rcases fin with (_ | _ | _ | _) | _ <;> first | exact z | exact z.elim
theorem x_find {tk : Tok} {r : Found} {Q : PySem.Fin → Shared → Prop} (X : K.In s.heap) (I : InstAt s.heap x ox C od) (hf : findObj K C od name = some r)
    (h : wpAny (model prog w) A (match r with | .value v => ret v | .bind g a => bindTo g a (.ref x) (.ref C) | .missing => unsupported "no") Q E s) (hr : r ≠ .missing) :
    wpAny (model prog w) A (Builtin.«object.__getattribute__» ⟨[.ref x, .str name tk], []⟩) Q E s := by
  have L0 := I.type (M := model prog w)
  have L1 := PySem.W.looks_find (M := model prog w) X I hf
  refine wpAny_bind (wpAny_pure (wpAny_bind (wpAny_pure (wpAny_bind (L0.here (wpAny_bind (L1.here ?_)))))))
  cases r with
  | value v => exact h
  | bind g a => exact h
  | missing => exact absurd rfl hr
theorem x_hasD {h : Heap} (X : K.In h) (hx : xIn K C = true) : hasDictIn K C = true := by
  obtain ⟨bm, N, nm, q, bs, sn, sub', ab, col, dd, k0, k1, k2, k3, k5, cd, hC, Tl, hk, hm, hd, hN⟩ := x_at X hx
  unfold hasDictIn
  rw [hk]; exact hd
theorem x_get {vs : Array Value} {sl : Array (Option Value)} {dx : Addr} {mA : Str → Option Value} {expr : Bool} {Q : Value → Shared → Prop} (X : K.In s.heap) (h0 : s.heap.get? x = some (xOb C (some dx) vs sl)) (hn : s.heap.Ns1 dx mA) (hx : xIn K C = true)
    (hga : findIn K (.ref C) "__getattribute__" = some (some (.builtin "BaseException.__getattribute__"))) (hgh : findIn K (.ref C) "__getattr__" = some none) (ha : findIn K (.ref C) name = some none) (hv : mA name = some v) (hh : PySem.W.handedIn v = true)
    (h : Q v { s with toks := s.toks + 1 }) : wpAny (model prog w) A (getAttr (.ref x) name expr) Q E s := by
  obtain ⟨o, ho, hl⟩ := lookIn_ns hn
  have I := x_inst1 h0 ho
  unfold getAttr
  refine wpAny_bind (wpAny_mkText (x_by (s := { s with toks := s.toks + 1 }) X I hx hga hgh (x_find (s := { s with toks := s.toks + 1 }) X I (r := .value v) (PySem.W.findObj_own (x_hasD X hx) ha rfl (by rw [hl, hv])) (wpAny_pure (PySem.W.handed_on hh h)) (fun z => nomatch z))))
theorem x_class {Q : Option Value → Shared → Prop} (X : K.In s.heap) (I : InstAt s.heap x ox C od) (hx : xIn K C = true) (hga : findIn K (.ref C) "__getattribute__" = some (some (.builtin "BaseException.__getattribute__"))) (hgh : findIn K (.ref C) "__getattr__" = some none)
    (ha : findIn K (.ref C) "__class__" = some (some (.builtin "object.__class__"))) (hn : specialIn K (.builtin "object.__class__") "__get__" = some (some (.builtin "getset_descriptor.__get__"))) (htk : takesIn K (.builtin "object.__class__") = some true)
    (h : Q (some (.ref C)) { s with toks := s.toks + 1 }) : wpAny (model prog w) A (getAttr? (.ref x) "__class__") Q E s := by
  obtain ⟨bm, N, nm, q, bs, sn, sub', ab, col, dd, k0, k1, k2, k3, k5, cd, hC, Tl, hk, hm, hd, hN⟩ := x_at X hx
  have hf : findObj K C od "__class__" = some (.bind (.builtin "getset_descriptor.__get__") (.builtin "object.__class__")) := by
    unfold PySem.W.findObj
    rw [hk, Option.bind_some, ha, Option.bind_some]
    dsimp only
    rw [hn, Option.bind_some]
    dsimp only
    rw [htk]; rfl
  unfold getAttr? getAttrBy?
  refine wpAny_bind (wpAny_mkText (wpAny_bind (wpAny_attempt (x_by (s := { s with toks := s.toks + 1 }) X I hx hga hgh (x_find (s := { s with toks := s.toks + 1 }) X I hf (show wpAny _ _ (holding [Value.builtin "object.__class__"] (call (.builtin "getset_descriptor.__get__") [.builtin "object.__class__", .ref x, .ref C]) >>= ret) _ _ _ from ?_) (fun z => nomatch z))))))
  refine wpAny_bind (wpAny_holding (wpAny_call (PySem.W.class_get (s := { s with toks := s.toks + 1 }) X I (x_obj X hx (by decide)) (wpAny_pure (PySem.W.handed_on rfl (wpAny_pure h))))))
theorem kitx_x (hx : xIn K C = true) (hga : findIn K (.ref C) "__getattribute__" = some (some (.builtin "BaseException.__getattribute__"))) (hgh : findIn K (.ref C) "__getattr__" = some none)
    (ha : findIn K (.ref C) "__class__" = some (some (.builtin "object.__class__"))) (hn : specialIn K (.builtin "object.__class__") "__get__" = some (some (.builtin "getset_descriptor.__get__"))) (htk : takesIn K (.builtin "object.__class__") = some true) :
    PySem.W.KitX K (.ref x) (.ref C) (fun h => ∃ ox od, InstAt h x ox C od) where
  ty := fun _ _ _ ⟨_, _, I⟩ => I.type
  it := fun _ _ X _ => by
    obtain ⟨bm, N, nm, q, bs, sn, sub', ab, col, dd, k0, k1, k2, k3, k5, cd, hC, Tl, hk, hm, hd, hN⟩ := x_at X hx
    intro A' Q' E' s' k z
    unfold isType loadHead
    exact wpAny_bind (wpAny_loadPart (k _ _ hC) (wpAny_pure z))
  ne := fun h tp dd its n sl X htp => by
    obtain ⟨bm, N, nm, q, bs, sn, sub', ab, col, dd', k0, k1, k2, k3, k5, cd, hC, Tl, hk, hm, hd, hN⟩ := x_at X hx
    refine Bool.eq_false_iff.mpr fun q => ?_
    rw [← Value.ref.inj (beq_iff_eq.mp q), hC] at htp
    exact absurd (Value.type.inj (congrArg Obj.cls (Option.some.inj htp))) (by decide)
  ca := fun X ⟨_, _, I⟩ z => x_class X I hx hga hgh ha hn htk z
end
end L2
namespace L2
open PySem PySem.Spec PyProof.Rows
open PySem.W (Frag InstAt Looks findIn mroIn clsIn findObj takerIn specialIn takesIn hasDictIn isFn)
structure XCls (K : Frag) (C : Addr) : Prop where
  x : xIn K C = true
  sa : findIn K (.ref C) "__setattr__" = some (some (.builtin "object.__setattr__"))
  ga : findIn K (.ref C) "__getattribute__" = some (some (.builtin "BaseException.__getattribute__"))
  gh : findIn K (.ref C) "__getattr__" = some none
  cl : findIn K (.ref C) "__class__" = some (some (.builtin "object.__class__"))
  kp : PySem.W.keepIn K (.ref C) = true
noncomputable def xCls (K : Frag) (C : Addr) : Bool := xIn K C && findIn K (.ref C) "__setattr__" == some (some (.builtin "object.__setattr__")) && findIn K (.ref C) "__getattribute__" == some (some (.builtin "BaseException.__getattribute__")) && findIn K (.ref C) "__getattr__" == some none && findIn K (.ref C) "__class__" == some (some (.builtin "object.__class__")) && PySem.W.keepIn K (.ref C)
theorem xcls_of {K : Frag} {C : Addr} (h : xCls K C = true) : XCls K C := by
  unfold xCls at h
  simp only [Bool.and_eq_true, beq_iff_eq] at h
  obtain ⟨⟨⟨⟨⟨h1, h2⟩, h3⟩, h4⟩, h5⟩, h6⟩ := h
  exact ⟨h1, h2, h3, h4, h5, h6⟩
section
variable {X : Cx} {pins : List (Addr × Obj)} {σ : St} {H : Hp} {s : Shared} {h' : Heap} {A : Around} {E : Value → Shared → Prop} {a C dx : Addr} {fs : List (Str × V)} {f : Str}
theorem ext_new {P : Program} {w : World} {φ : Heap → Prop} {h : Heap} (e : φ h) (o : ∃ ob, h.get? a = some ob) (k : ∀ h1 h2 : Heap, φ h1 → (∀ ob, h1.get? a = some ob → h2.get? a = some ob) → φ h2) : ObjOk P w H h a (.ext φ) := ⟨e, o, k⟩
theorem xo_new {P : Program} {w : World} {h : Heap} {od : Option Addr} {vs : Array Value} {sl : Array (Option Value)} (e : h.get? a = some (xOb C od vs sl)) : ObjOk P w H h a (XO a C od) := ext_new ⟨vs, sl, e⟩ ⟨_, e⟩ fun _ _ ⟨vs, sl, e⟩ k => ⟨vs, sl, k _ e⟩
theorem xd_new {P : Program} {w : World} {h : Heap} (e : XDv a fs h) : ObjOk P w H h a (XDc a fs) := by
  refine ext_new e ?_ ?_
  · obtain ⟨mA, ⟨o, _, _, q, _⟩, _⟩ := e
    exact ⟨o, q⟩
  · rintro h1 h2 ⟨mA, n, r, w', l⟩ k
    exact ⟨mA, n.at k, r, w', l⟩
theorem xo_at {od : Option Addr} (I : Inv X pins σ H s) (e : H a = some (XO a C od)) : ∃ vs sl, s.heap.get? a = some (xOb C od vs sl) := (show ObjOk X.prog X.w H s.heap a (XO a C od) from I.hok a _ e).1
theorem xd_at (I : Inv X pins σ H s) (e : H dx = some (XDc dx fs)) : XDv dx fs s.heap := (show ObjOk X.prog X.w H s.heap dx (XDc dx fs) from I.hok dx _ e).1
theorem Inv.laidX {o : HO} {t' : Nat} (I : Inv X pins σ H s) (k : ∀ b u, s.heap.get? b = some u → h'.get? b = some u) (hD : s.heap.get? a = none) (new : ObjOk X.prog X.w (upd H a o) h' a o) : Inv X pins σ (upd H a o) { s with heap := h', toks := t' } := by
  have hn : H a = none := by
    cases e : H a with
    | none => rfl
    | some u => obtain ⟨o, q⟩ := (I.hok a u e).here; rw [hD] at q; cases q
  have nD : ∀ b o, s.heap.get? b = some o → b ≠ a := fun b o e z => by rw [z, hD] at e; cases e
  have nD' : ∀ b u, H b = some u → b ≠ a := fun b u e z => by rw [z, hn] at e; cases e
  refine I.un ⟨fun b u q _ _ _ => k b u q, fun b u q _ _ _ => ⟨u.slots, k b u q⟩, fun b u q n _ => by rw [upd_ne (nD b u q)]; exact n, fun b u q _ => ⟨u, k b u q⟩, fun b xs q => by rw [upd_ne (nD' b _ q)]; exact q, fun b u xs q => by rw [upd_ne (nD' b _ q)]; exact q, fun b ps q => ⟨#[], by rw [upd_ne (nD' b _ q), q]; simp⟩⟩ fun b u e => ?_
  by_cases z : b = a
  · subst z
    rw [upd_same] at e
    cases e
    exact new
  · rw [upd_ne z] at e
    exact (I.hok b u e).stay (fun c v _ q => k c v q) (fun c q => by rw [upd_ne (nD' c _ q)]; exact q) fun c xs q => by rw [upd_ne (nD' c _ q)]; exact q
theorem fresh_of {h : Heap} {b : Addr} (I : Inv X pins σ H s) (hD : s.heap.get? b = none) : H b = none := by
  cases e : H b with
  | none => rfl
  | some u => obtain ⟨o, q⟩ := (I.hok b u e).here; rw [hD] at q; cases q
theorem xset0_ok {y : V} {u : Value} {Q : Unit → Shared → Prop} (I : Inv X pins σ H s) (e : H a = some (XO a C none)) (c : XCls X.K C) (ht : takerIn X.K C f = some none) (ry : RelV y u)
    (h : ∀ d s', H d = none → Inv X pins σ (upd (upd H d (XDc d [(f, y)])) a (XO a C (some d))) s' → Q () s') : wpAny (model X.prog X.w) A (setAttr (.ref a) f u) Q E s := by
  obtain ⟨vs, sl, h0⟩ := xo_at I e
  refine x_set0 I.kIn h0 c.x c.sa ht fun h' e1 n1 k1 => ?_
  have hD : s.heap.get? s.heap.objs.size = none := Heap.get?_none_of_le (Nat.le_refl _)
  have hn := fresh_of (h := s.heap) I hD
  have ne : a ≠ s.heap.objs.size := fun z => by rw [z, hD] at h0; cases h0
  have nd : XDv s.heap.objs.size [(f, y)] h' := by
    refine ⟨_, n1, fun g => ?_, fun g hg => ?_, Nat.le_of_ble_eq_true rfl⟩
    · show RelO (List.lookup g [(f, y)]) (if g = f then some u else none)
      by_cases q : g = f
      · subst q
        rw [if_pos rfl, List.lookup_cons, beq_self_eq_true]; exact ry
      · rw [if_neg q, List.lookup_cons, show (g == f) = false by simpa using q]; exact True.intro
    · by_cases q : g = f
      · subst q; exact List.mem_singleton.mpr rfl
      · exact absurd (if_neg q) hg
  refine h s.heap.objs.size _ hn ?_
  have nD : ∀ b o, s.heap.get? b = some o → b ≠ s.heap.objs.size := fun b o q z => by rw [z, hD] at q; cases q
  have nD' : ∀ b u, H b = some u → b ≠ s.heap.objs.size := fun b u q z => by rw [z, hn] at q; cases q
  have na : ∀ b, H b = none → b ≠ a := fun b q z => by rw [z, e] at q; cases q
  have nx : ∀ b u, H b = some u → (∀ φ, u ≠ .ext φ) → b ≠ a := fun b u q hu z => by rw [z, e] at q; cases q; exact hu _ rfl
  refine I.un ⟨fun b u q n _ _ => k1 b u (na b n) q, fun b u q n _ _ => ⟨u.slots, k1 b u (na b n) q⟩, fun b u q n _ => by rw [upd_ne (na b n), upd_ne (nD b u q)]; exact n, fun b u q _ => ?_, fun b xs q => by rw [upd_ne (nx b _ q fun _ z => nomatch z), upd_ne (nD' b _ q)]; exact q,
    fun b u xs q => by rw [upd_ne (nx b _ q fun _ z => nomatch z), upd_ne (nD' b _ q)]; exact q, fun b ps q => ⟨#[], by rw [upd_ne (nx b _ q fun _ z => nomatch z), upd_ne (nD' b _ q), q]; simp⟩⟩ fun b w eb => ?_
  · by_cases z : b = a
    · rw [z]; exact ⟨_, e1⟩
    · exact ⟨u, k1 b u z q⟩
  · by_cases z : b = a
    · subst z
      rw [upd_same] at eb
      cases eb
      exact xo_new e1
    · rw [upd_ne z] at eb
      by_cases z2 : b = s.heap.objs.size
      · subst z2
        rw [upd_same] at eb
        cases eb
        exact xd_new nd
      · rw [upd_ne z2] at eb
        refine (I.hok b w eb).stay (fun c v hc q => k1 c v ?_ q) (fun c q => by rw [upd_ne (nx c _ q fun _ z => nomatch z), upd_ne (nD' c _ q)]; exact q) fun c xs q => by rw [upd_ne (nx c _ q fun _ z => nomatch z), upd_ne (nD' c _ q)]; exact q
        rcases hc with r | r
        · rw [r]; exact z
        · exact nx c _ r fun _ z => nomatch z
theorem xset1_ok {y : V} {u : Value} {Q : Unit → Shared → Prop} (I : Inv X pins σ H s) (e : H a = some (XO a C (some dx))) (ed : H dx = some (XDc dx fs)) (c : XCls X.K C) (ht : takerIn X.K C f = some none) (hl : fs.length < 1000) (ry : RelV y u)
    (h : ∀ s', Inv X pins σ (upd H dx (XDc dx (putF f y fs))) s' → Q () s') : wpAny (model X.prog X.w) A (setAttr (.ref a) f u) Q E s := by
  obtain ⟨vs, sl, h0⟩ := xo_at I e
  obtain ⟨mA, n, r, wi, _⟩ := xd_at I ed
  refine x_set1 I.kIn h0 n c.x c.sa ht wi (by rw [List.length_map, sizeLine_eq]; omega) fun h' n' sb => h _ ?_
  have hd : ∃ o, h'.get? dx = some o := let ⟨o, _, _, e', _⟩ := n'; ⟨o, e'⟩
  refine I.write (x := dx) (e := dx) (by rw [ed]; exact True.intro) (.inl rfl) (fun b q hb z => (sb.2 b hb).trans z) hd (xd_new ⟨_, n', fun g => ?_, fun g hg => ?_, ?_⟩)
  · show RelO ((putF f y fs).lookup g) (if g = f then some u else mA g)
    rw [lookup_putF]
    by_cases q : g = f
    · rw [if_pos q, if_pos q]; exact ry
    · rw [if_neg q, if_neg q]; exact r g
  · by_cases q : g = f
    · rw [q]; exact (keys_putF f y fs).1
    · exact (keys_putF f y fs).2 g (wi g fun z => hg ((if_neg q).trans z))
  · have := length_putF f y fs; omega
theorem xget_ok {v : V} {ex : Bool} {Q : Value → Shared → Prop} (I : Inv X pins σ H s) (e : H a = some (XO a C (some dx))) (ed : H dx = some (XDc dx fs)) (c : XCls X.K C) (ht : findIn X.K (.ref C) f = some none) (l : fs.lookup f = some v)
    (h : ∀ u s', Inv X pins σ H s' → RelV v u → Q u s') : wpAny (model X.prog X.w) A (getAttr (.ref a) f ex) Q E s := by
  obtain ⟨vs, sl, h0⟩ := xo_at I e
  obtain ⟨mA, n, r, wi, _⟩ := xd_at I ed
  obtain ⟨u, hu, ru⟩ := RelO.some_of (v := v) (o := mA f) (by rw [← l]; exact r f)
  exact x_get I.kIn h0 n c.x c.ga c.gh ht hu (handed_of ru) (h u _ (I.tok _) ru)
theorem made_xo {h h' : Heap} {us : List Value} (m : Heap.MadeExcOf h h' a (.ref C) us) : ∃ vs sl, h'.get? a = some (xOb C none vs sl) := by
  obtain ⟨_, _, t, e, _⟩ := m
  exact ⟨_, _, e⟩
end
structure XMk (K : Frag) (C f : Addr) : Prop where
  c : XCls K C
  init : findIn K (.ref C) "__init__" = some (some (.ref f))
  fn : isFn K (.ref f) = true
section
variable {X : Cx} {CX : CXT} {k : Nat} {f C : Addr} {fd : FuncData} {ps : List Str} {sp : Sp} {E : XK} {x m : Str} {p pos apos : Pos} {e o value : Expr} {es : List Expr} {ta tv : TE} {t : TA}
theorem run_makeX {pins : List (Addr × Obj)} {σ : St} {H : Hp} {s : Shared} {Q : VK} {us : List Value} {vs : List V} (M : XMk X.K C f) (F : FnOk X.prog X.w X.K X.mg X.base CX k f fd ps sp) (hr : Room (k + 1) X.A) (hb : Binds X.K fd ps [])
    (hx : Passes CX X E) (I : Inv X pins σ H s) (r : Vals vs us) (hz : vs.length ≤ 1000)
    (h : ∀ a, H a = none → sp (.ref a :: vs) (upd H a (XO a C none)) (fun v H2 => v = .non ∧ Q (.ref a) H2) E) :
    wpAny (model X.prog X.w) X.A (call (.ref C) us) (EP X pins σ Q) X.xe s := by
  refine x_make I.kIn M.c.x M.init M.fn (fun h' a m => ?_) (by rw [← r.length, sizeLine_eq]; omega)
  have hn := fresh_of (h := s.heap) I m.new
  have hq := h a hn
  obtain ⟨w1, w2, w3⟩ := made_xo m
  have I2 : Inv X pins σ (upd H a (XO a C none)) { s with heap := h' } := I.laidX (t' := s.toks) m.keeps m.new (xo_new w3)
  have r2 : Vals (V.ref a :: vs) (Value.ref a :: us) := .cons rfl r
  have hl : (Value.ref a :: us ++ []).length = ps.length := by
    rw [List.append_nil]
    have e := r2.length
    rw [F.len _ _ _ _ hq] at e
    exact e.symm
  refine wpAny_call (codeAny_mono (F.run _ X.stack _ _ ⟨Value.ref a :: us, []⟩ (Value.ref a :: us ++ []) _ _ E (hr.make C us []) (I2.env0.make C us []) (hb _ (Value.ref a :: us) I2.kIn hl) (by rw [List.append_nil]; exact r2) hq) fun r s' hq' => ?_)
  cases r with
  | error e => exact hx pins σ _ _ e s' I2 hq'
  | ok fl =>
    cases fl with
    | ret u =>
      obtain ⟨v, H', I3, rv, ev, q3⟩ := I2.after hq'
      subst ev
      exact ⟨rv, ⟨V.ref a, H', I3, rfl, q3⟩⟩
    | next => exact False.elim hq'
    | brk => exact False.elim hq'
    | cont => exact False.elim hq'
noncomputable def tXMake (C : Addr) (sp : Sp) (E : XK) (t : TA) : TE := fun σ H Q => t σ H fun vs H1 => vs.length ≤ 1000 ∧ ∀ a, H1 a = none → sp (.ref a :: vs) (upd H1 a (XO a C none)) (fun v H2 => v = .non ∧ Q (.ref a) H2) E
theorem pe_xmake (M : XMk X.K C f) (F : FnOk X.prog X.w X.K X.mg X.base CX k f fd ps sp) (hr : Room (k + 1) X.A) (hg : Gl X x) (hm : X.mg x = some (.ref C)) (hb : Binds X.K fd ps []) (hx : Passes CX X E)
    (ha : PA X (e :: es) t) (hdb : autoParam ((x == ("__debug__" : Str)) = false) zau1._auto_1) (he : autoParam (starEach (e :: es) X.env = (false, eval e X.env) :: starEach es X.env) zau2._auto_1) (hpl : autoParam ((backTo pos (starEach es X.env)).any (·.1) = false) zau2._auto_1) :
    PE X (.Call (.Name x p) (e :: es) [] pos) (tXMake C sp E t) := by
  intro pins s σ H Q I h
  refine wpAny_Call_Name_kw (ld_glob I hg hm ?_ hdb)
  exact PySem.W.callWith_K (h₀ := X.base) I.ok.mod.kin M.c.kp (thn (ha pos pins s σ H _ I h) fun us s1 ⟨vs, H1, I1, r, hz, q⟩ => ⟨I1.kIn, run_makeX M F hr hb hx I1 r hz q⟩) he hpl
theorem pe_xnew (c : XCls X.K C) (hi : xNoI X.K C = true) (hg : Gl X x) (hm : X.mg x = some (.ref C)) (hdb : autoParam ((x == ("__debug__" : Str)) = false) zau1._auto_1) :
    PE X (.Call (.Name x p) [] [] pos) (fun σ H Q => ∀ a, H a = none → Q (.ref a) (upd H a (XO a C none))) := by
  intro pins s σ H Q I h
  refine wpAny_Call_Name_kw (ld_glob I hg hm (PySem.W.callWith_K0 I.kIn c.kp (x_make0 I.kIn c.x hi (fun h' a m => ?_) (Nat.zero_le _))) hdb)
  obtain ⟨w1, w2, w3⟩ := made_xo m
  exact ⟨.ref a, _, I.laidX (t' := s.toks) m.keeps m.new (xo_new w3), rfl, h a (fresh_of (h := s.heap) I m.new)⟩
inductive tXFld (K : Frag) (ta : TE) (g : Str) (σ : St) (H : Hp) (Q : VK) : Prop
  | mk (h : ta σ H fun x H1 => ∃ a C dx fs v, x = .ref a ∧ H1 a = some (XO a C (some dx)) ∧ H1 dx = some (XDc dx fs) ∧ XCls K C ∧ findIn K (.ref C) g = some none ∧ fs.lookup g = some v ∧ Q v H1)
theorem pe_xfld {g : Str} (he : PE X e ta) (hb : attributeBase e g X.env (eval e X.env) = eval e X.env) : PE X (.Attribute e g pos) (tXFld X.K ta g) := by
  intro pins s σ H Q I h
  refine attr_of hb (thn (he pins s σ H _ I h.1) fun u s1 hzz => ?_)
  obtain ⟨x, H1, I1, rx, a, C, dx, fs, v, ex, ea, ed, c, n, l, q⟩ := hzz
  subst ex
  cases rx
  exact xget_ok I1 ea ed c n l fun u' s2 I2 ru => ⟨v, H1, I2, ru, q⟩
inductive XPut (K : Frag) (H : Hp) (a : Addr) (g : Str) (y : V) (Q : Hp → Prop) : Prop
  | first (C : Addr) (ea : H a = some (XO a C none)) (c : XCls K C) (ht : takerIn K C g = some none) (q : ∀ d, H d = none → Q (upd (upd H d (XDc d [(g, y)])) a (XO a C (some d))))
  | more (C dx : Addr) (fs : List (Str × V)) (ea : H a = some (XO a C (some dx))) (ed : H dx = some (XDc dx fs)) (c : XCls K C) (ht : takerIn K C g = some none) (l : fs.length < 1000) (q : Q (upd H dx (XDc dx (putF g y fs))))
theorem ps_xfld {g : Str} {pos' : Pos} (ha : PE X o ta) (hv : PE X value tv) (hs : swapsWith value (some (.Attribute o g pos')) pos.line X.env = pure false) :
    PS X (.Assign [.Attribute o g pos'] value pos) (fun D σ H => tv σ H fun y H1 => ta σ H1 fun x H2 => ∃ a, x = .ref a ∧ XPut X.K H2 a g y (D.nx σ)) := by
  intro pins s σ H D I h
  refine plainObj_wpAny_Assign_Attribute (thn (hv pins s σ H _ I h) fun u s1 ⟨y, H1, I1, ry, q⟩ => thn (ha pins s1 σ H1 _ I1 q) fun ov s2 hzz => ?_) hs
  obtain ⟨x, H2, I2, rx, a, ex, q2⟩ := hzz
  subst ex
  cases rx
  cases q2 with
  | first C ea c ht q => exact xset0_ok I2 ea c ht ry fun d s3 hd I3 => ⟨σ, _, I3, q d hd⟩
  | more C dx fs ea ed c ht l q => exact xset1_ok I2 ea ed c ht l ry fun s3 I3 => ⟨σ, _, I3, q⟩
theorem call_isiX (hn : specialIn X.K (.builtin "object.__class__") "__get__" = some (some (.builtin "getset_descriptor.__get__"))) (htk : takesIn X.K (.builtin "object.__class__") = some true) :
    CallR X (.builtin "isinstance") (fun xs H Q => ∃ a C od v c b, xs = [.ref a, v] ∧ H a = some (XO a C od) ∧ XCls X.K C ∧ (∀ dx, od = some dx → ∃ fs, H dx = some (XDc dx fs)) ∧ (∀ u, RelV v u → u = c) ∧ PySem.W.kitOne X.K (.ref C) c = some b ∧ Q (.bl b) H) := by
  intro pins s σ H xs us Q I r h
  obtain ⟨a, C, od, v, c, b, rfl, ea, cl, hd, hv, hk, q⟩ := h
  obtain ⟨u, c', rfl, ru, rc⟩ := r.two
  cases ru
  rw [hv c' rc]
  obtain ⟨vs, sl, h0⟩ := xo_at I ea
  have J : ∃ ox od', InstAt s.heap a ox C od' := by
    cases od with
    | none => exact ⟨_, _, x_inst0 h0⟩
    | some dx =>
      obtain ⟨fs, ed⟩ := hd dx rfl
      obtain ⟨mA, ⟨o, _, _, e, _⟩, _⟩ := xd_at I ed
      exact ⟨_, _, x_inst1 h0 e⟩
  exact PySem.W.kia_one (kitx_x cl.x cl.ga cl.gh cl.cl hn htk) I.kIn J hk (fun z => nomatch z) fun tk => ⟨.bl b, H, I.tok _, rfl, q⟩
end
end L2
namespace DL
open PySem PySem.Spec L2
structure ErrT (K : PySem.W.Frag) (mg : Str → Option Value) (cs fs : List Str) (b : Str) : Prop where
  ats : ∀ c ∈ cs, ∃ C, mg c = some (.ref C)
  atb : ∃ C, mg b = some (.ref C)
  cls : ∀ c ∈ cs, ∀ C, mg c = some (.ref C) → XCls K C
  fld : ∀ c ∈ cs, ∀ C, mg c = some (.ref C) → ∀ f ∈ fs, PySem.W.findIn K (.ref C) f = some none
  pair : ∀ c ∈ cs, ∀ d ∈ cs, ∀ C, mg c = some (.ref C) → ∃ D, mg d = some (.ref D) ∧ PySem.W.kitOne K (.ref C) (.ref D) = some (c == d)
  base : ∀ c ∈ cs, ∀ C, mg c = some (.ref C) → ∃ D, mg b = some (.ref D) ∧ PySem.W.kitOne K (.ref C) (.ref D) = some true
  val : ∀ c ∈ cs, ∀ C, mg c = some (.ref C) → PySem.W.kitOne K (.ref C) (.type "ValueError") = some true
  sp : PySem.W.specialIn K (.builtin "object.__class__") "__get__" = some (some (.builtin "getset_descriptor.__get__"))
  tk : PySem.W.takesIn K (.builtin "object.__class__") = some true
noncomputable def xOne (K : PySem.W.Frag) (es : List (Str × Addr)) (B : Addr) (fs : List Str) (p : Str × Addr) : Bool :=
  xCls K p.2 && fs.all (fun f => PySem.W.findIn K (.ref p.2) f == some none) && PySem.W.kitOne K (.ref p.2) (.ref B) == some true && PySem.W.kitOne K (.ref p.2) (.type "ValueError") == some true && es.all fun q => PySem.W.kitOne K (.ref p.2) (.ref q.2) == some (p.1 == q.1)
noncomputable def xTab (K : PySem.W.Frag) (es : List (Str × Addr)) (B : Addr) (fs : List Str) : Bool :=
  es.all (xOne K es B fs) && PySem.W.specialIn K (.builtin "object.__class__") "__get__" == some (some (.builtin "getset_descriptor.__get__")) && PySem.W.takesIn K (.builtin "object.__class__") == some true
theorem errT_mk {K : PySem.W.Frag} {mg : Str → Option Value} {es : List (Str × Addr)} {B : Addr} {fs : List Str} {b : Str} (hm : ∀ p ∈ es, mg p.1 = some (.ref p.2)) (hb : mg b = some (.ref B)) (h : xTab K es B fs = true) : ErrT K mg (es.map (·.1)) fs b := by
  unfold xTab at h
  rw [Bool.and_eq_true, Bool.and_eq_true, List.all_eq_true, beq_iff_eq, beq_iff_eq] at h
  obtain ⟨⟨h1, h2⟩, h3⟩ := h
  have one : ∀ c ∈ es.map (·.1), ∀ C, mg c = some (.ref C) → xOne K es B fs (c, C) = true := fun c hc C hC => by
    obtain ⟨p, hp, rfl⟩ := List.mem_map.mp hc
    rw [hm p hp] at hC
    cases hC
    exact h1 p hp
  have all : ∀ c ∈ es.map (·.1), ∀ C, mg c = some (.ref C) → (((xCls K C = true ∧ fs.all (fun f => PySem.W.findIn K (.ref C) f == some none) = true) ∧ PySem.W.kitOne K (.ref C) (.ref B) = some true) ∧ PySem.W.kitOne K (.ref C) (.type "ValueError") = some true) ∧ (es.all fun q => PySem.W.kitOne K (.ref C) (.ref q.2) == some (c == q.1)) = true := fun c hc C hC => by
    have := one c hc C hC
    unfold xOne at this
    rw [Bool.and_eq_true, Bool.and_eq_true, Bool.and_eq_true, Bool.and_eq_true, beq_iff_eq, beq_iff_eq] at this
    exact this
  refine ⟨fun c hc => by obtain ⟨p, hp, rfl⟩ := List.mem_map.mp hc; exact ⟨_, hm p hp⟩, ⟨B, hb⟩, fun c hc C hC => xcls_of (all c hc C hC).1.1.1.1, fun c hc C hC f hf => ?_, fun c hc d hd C hC => ?_, fun c hc C hC => ⟨B, hb, (all c hc C hC).1.1.2⟩, fun c hc C hC => (all c hc C hC).1.2, h2, h3⟩
  · exact beq_iff_eq.mp (List.all_eq_true.mp (all c hc C hC).1.1.1.2 f hf)
  · obtain ⟨q, hq, rfl⟩ := List.mem_map.mp hd
    exact ⟨q.2, hm q hq, beq_iff_eq.mp (List.all_eq_true.mp (all c hc C hC).2 q hq)⟩
noncomputable def makeX (c : Str) (m : List D → MS D) (ds : List D) : MS D := fun Ω => ((m (.obj Ω.length :: ds)).b fun d => match d with
  | .non => MS.p (.obj Ω.length)
  | _ => fun _ => none) (Ω ++ [.exc c none])
noncomputable def mMakeX (c : Str) (m : List D → MS D) (fl : DSt → MS (List D)) : DSt → MS D := fun δ => (fl δ).b fun ds => makeX c m ds
noncomputable def mNewX (c : Str) : DSt → MS D := fun _ Ω => some (.ok (.obj Ω.length), Ω ++ [.exc c none])
inductive IniY (P : Program) (w : World) (K : PySem.W.Frag) (mg : Str → Option Value) (base : Heap) (k : Nat) (c : Str) (n : Nat) (sp : Sp) : Prop
  | mk (C f : Addr) (fd : FuncData) (ps : List Str) (h1 : ps.length = n) (h2 : mg c = some (.ref C)) (h3 : XMk K C f) (h4 : Binds K fd ps []) (h5 : FnOk P w K mg base CX0 k f fd ps sp)
structure IniXE (P : Program) (w : World) (K : PySem.W.Frag) (mg : Str → Option Value) (base : Heap) (k : Nat) (c : Str) (n : Nat) (m : List D → MS D) : Prop where
  ex : IniY P w K mg base k c n (spE K mg n m)
  ar : ∀ ds Ω r, m ds Ω = some r → ds.length = n
  sm : n ≤ 1000
structure IniXAt (K : PySem.W.Frag) (mg : Str → Option Value) (c q : Str) (st : Stmt) (ps : List Str) : Prop where
  ex : ∃ C f fd, mg c = some (.ref C) ∧ XMk K C f ∧ Fun K "__init__" q st f fd ∧ Binds K fd ps []
section
variable {P : Program} {w : World} {K : PySem.W.Frag} {mg : Str → Option Value} {base : Heap}
theorem iniXE_of {c q : Str} {st : Stmt} {N ps : List Str} {k : Nat} {O' : List Nat} {g : DSt → MS Out} (hf : IniXAt K mg c q st ps) (S : FnScope N ps (defScope st))
    (hbody : ∀ (f : Addr) (cdv : Value) (A : Around) (outer : List Env) (s : Shared) (H : Hp) (E : XK), Room k (A.deeper (PyProof.Rows.envOfC q (defScope st) s.heap.objs.size f cdv)) →
      MSs (cxOf CX0 P w K mg base N q (defScope st) f cdv A outer s H E).nox [] O' [] (defBody st) g) (hs : ps.length ≤ 1000) : IniXE P w K mg base (k + 1) c ps.length (mirE ps.length N.length g) := by
  obtain ⟨C, f, fd, hm, hM, F, hb⟩ := hf.ex
  exact ⟨⟨C, f, fd, ps, rfl, hm, hM, hb, fn_E F S hbody⟩, mirE_ar, hs⟩
end
section
variable {X : Cx} {O B : List Nat} {a b o e : Expr} {es : List Expr} {fa fb fo fv : DSt → MS D} {fl : DSt → MS (List D)} {pos p apos : Pos} {x c f : Str} {k n : Nat}
variable {ρ₀ ρ : Rho} {S₀ S F : Addr → Bool} {H₀ H : Hp} {σ : St} {δ : DSt} {Ω Ω' : Sto} {cs fs : List Str} {bn d : Str}
theorem RM.newX {Ca x : Addr} (R : RM ρ₀ S₀ H₀ F X.K X.mg O ρ S H σ δ Ω) (hm : X.mg c = some (.ref Ca)) (hx : H x = none) : RM ρ₀ S₀ H₀ F X.K X.mg O (addR ρ Ω.length x) (addS S x x) (upd H x (XO x Ca none)) σ δ (Ω ++ [.exc c none]) ∧ RLe ρ (addR ρ Ω.length x) ∧
      Same (hid H (fob (un F S) σ O)) (hid (upd H x (XO x Ca none)) (fob (un F (addS S x x)) σ O)) :=
  R.newS (nso := .exc c none) hx fun ρ' S' Hv' l v => ExcOk.no Ca hm upd_same
theorem makeX_in {m : List D → MS D} {Ca : Addr} {vs : List V} {ds : List D} {r : Except XD D} {Q : VK} (hm : X.mg c = some (.ref Ca)) (ar : ∀ ds Ω r, m ds Ω = some r → ds.length = n) (R : RM ρ₀ S₀ H₀ F X.K X.mg O ρ S H σ δ Ω) (hr : Reps ρ X.K (hid H (fob (un F S) σ O)) ds vs) (hf : makeX c m ds Ω = some (r, Ω'))
    (k : match (generalizing := false) r with
      | .ok d => ∀ v ρ' S' H', RM ρ₀ S₀ H₀ F X.K X.mg O ρ' S' H' σ δ Ω' → RLe ρ ρ' → Same (hid H (fob (un F S) σ O)) (hid H' (fob (un F S') σ O)) → Rep ρ' X.K (hid H' (fob (un F S') σ O)) d v → Q v H'
      | .error _ => True) : ∀ x, H x = none → spE X.K X.mg n m (.ref x :: vs) (upd H x (XO x Ca none)) (fun v H2 => v = .non ∧ Q (.ref x) H2) E0 := by
  intro x hx
  obtain ⟨t1, t2, t3⟩ := R.newX hm hx
  have hob : Rep (addR ρ Ω.length x) X.K (hid (upd H x (XO x Ca none)) (fob (un F (addS S x x)) σ O)) (.obj Ω.length) (.ref x) := rep_obj.mpr ⟨x, by unfold addR; rw [if_pos rfl], rfl⟩
  unfold makeX at hf
  rcases MS.b_inv hf with ⟨d, Ω1, e1, hf⟩ | ⟨y, e1, rfl⟩
  · refine spE_in t1 (ar _ _ _ e1) (Reps.cons hob ((hr.rho t2).mono t3)) e1 ?_
    intro v ρ2 S2 H2 R2 l2 v2 r2
    cases d with
    | non =>
      cases hf
      exact ⟨rep_non.mp r2, k (.ref x) ρ2 S2 H2 R2 (t2.trans l2) (t3.trans v2) ((hob.rho l2).mono v2)⟩
    | _ => cases hf
  · exact spE_in t1 (ar _ _ _ e1) (Reps.cons hob ((hr.rho t2).mono t3)) e1 trivial
theorem makeX_len {m : List D → MS D} {ds : List D} {r : Except XD D} (ar : ∀ ds Ω r, m ds Ω = some r → ds.length = n) (hf : makeX c m ds Ω = some (r, Ω')) : ds.length + 1 = n := by
  unfold makeX at hf
  rcases MS.b_inv hf with ⟨d, Ω1, e1, hf⟩ | ⟨y, e1, rfl⟩
  · exact ar _ _ _ e1
  · exact ar _ _ _ e1
theorem me_makeX {m : List D → MS D} (C : IniXE X.prog X.w X.K X.mg X.base k c n m) (hr : Room (k + 1) X.A) (ha : MA X O (e :: es) fl) (hg : autoParam (Gl X c) zau2._auto_1) (hdb : autoParam ((c == ("__debug__" : Str)) = false) zau1._auto_1) (he : autoParam (starEach (e :: es) X.env = (false, eval e X.env) :: starEach es X.env) zau2._auto_1)
    (hpl : autoParam ((backTo pos (starEach es X.env)).any (·.1) = false) zau2._auto_1) : ME X O (.Call (.Name c p) (e :: es) [] pos) (mMakeX c m fl) := by
  obtain ⟨Ca, f, fd, ps, hl, hm, hM, hb, G⟩ := C.ex
  rintro pins s σ H Q I ⟨ρ₀, S₀, H₀, F, ρ, S, δ, Ω, R, r, Ω', hf, k⟩
  refine pe_xmake hM G hr hg hm hb (fun _ _ _ _ _ _ _ z => z.elim) ha hdb he hpl pins s σ H Q I (E := E0) ?_
  rcases MS.b_inv hf with ⟨ds, Ω1, e1, hf⟩ | ⟨y, e1, rfl⟩
  · refine ⟨ρ₀, S₀, H₀, F, ρ, S, δ, Ω, R, .ok ds, Ω1, e1, fun vs ρ1 S1 H1 R1 l1 v1 r1 => ?_⟩
    refine ⟨?_, makeX_in hm C.ar R1 r1 hf ?_⟩
    · have h1 := makeX_len C.ar hf
      have h2 := C.sm
      rw [r1.length]
      omega
    · cases r with
      | error y => trivial
      | ok d => exact fun v ρ2 S2 H2 R2 l2 v2 r2 => k v ρ2 S2 H2 R2 (l1.trans l2) (v1.trans v2) r2
  · exact ⟨ρ₀, S₀, H₀, F, ρ, S, δ, Ω, R, .error y, _, e1, trivial⟩
inductive NewAt (K : PySem.W.Frag) (mg : Str → Option Value) (c : Str) : Prop
  | mk (C : Addr) (h1 : mg c = some (.ref C)) (h2 : XCls K C) (h3 : xNoI K C = true)
theorem me_newX (C : NewAt X.K X.mg c) (hg : autoParam (Gl X c) zau2._auto_1) (hdb : autoParam ((c == ("__debug__" : Str)) = false) zau1._auto_1) : ME X O (.Call (.Name c p) [] [] pos) (mNewX c) := by
  obtain ⟨Ca, hm, hc, hi⟩ := C
  rintro pins s σ H Q I ⟨ρ₀, S₀, H₀, F, ρ, S, δ, Ω, R, r, Ω', hf, k⟩
  refine pe_xnew hc hi hg hm hdb pins s σ H Q I fun x hx => ?_
  cases hf
  obtain ⟨t1, t2, t3⟩ := R.newX hm hx
  exact k _ _ _ _ t1 t2 t3 (rep_obj.mpr ⟨x, by unfold addR; rw [if_pos rfl], rfl⟩)
end
end DL
namespace DL
open PySem PySem.Spec PyProof.Rows L2
noncomputable def getX (cs : List Str) (f : Str) : D → MS D := fun x Ω => match x with
  | .obj i => match Ω[i]? with
    | some (.exc c (some j)) => match Ω[j]? with
      | some (.xd fs) => if cs.contains c then (fs.lookup f).map fun d => (.ok d, Ω) else none
      | _ => none
    | _ => none
  | _ => none
noncomputable def mGetX (cs : List Str) (f : Str) (fa : DSt → MS D) : DSt → MS D := fun δ => (fa δ).b fun x => getX cs f x
noncomputable def putX (cs : List Str) (f : Str) (x d : D) : MS Unit := fun Ω => match x with
  | .obj i => match Ω[i]? with
    | some (.exc c none) => if cs.contains c then some (.ok (), (Ω ++ [SO.xd [(f, d)]]).set i (.exc c (some Ω.length))) else none
    | some (.exc c (some j)) => match Ω[j]? with
      | some (.xd fs) => if cs.contains c && decide (fs.length < 1000) then some (.ok (), Ω.set j (.xd (putD f d fs))) else none
      | _ => none
    | _ => none
  | _ => none
noncomputable def ePutX (cs : List Str) (f : Str) (fo fv : DSt → MS D) : DSt → MS Out := fun δ => (fv δ).b fun d => (fo δ).b fun x => (putX cs f x d).b fun _ => MS.p (.nx δ)
noncomputable def isX (cs : List Str) (g : Str → Bool) : D → MS D := fun x Ω => match x with
  | .obj i => match Ω[i]? with
    | some (.exc c none) => if cs.contains c then some (.ok (.bl (g c)), Ω) else none
    | some (.exc c (some j)) => match Ω[j]? with
      | some (.xd fs) => if cs.contains c then some (.ok (.bl (g c)), Ω) else none
      | _ => none
    | _ => none
  | _ => none
noncomputable def mIsX (cs : List Str) (g : Str → Bool) (fa : DSt → MS D) : DSt → MS D := fun δ => (fa δ).b fun x => isX cs g x
section
variable {Ω Ω' : Sto} {cs : List Str} {f : Str} {x d : D}
inductive GetXI (cs : List Str) (f : Str) (x : D) (Ω Ω' : Sto) (r : Except XD D) : Prop
  | mk (i j : Nat) (c : Str) (fs : List (Str × D)) (d : D) (h1 : x = .obj i) (h2 : Ω[i]? = some (.exc c (some j))) (h3 : Ω[j]? = some (.xd fs)) (h4 : c ∈ cs) (h5 : fs.lookup f = some d) (h6 : r = .ok d) (h7 : Ω' = Ω)
theorem getX_inv {r : Except XD D} (h : getX cs f x Ω = some (r, Ω')) : GetXI cs f x Ω Ω' r := by
  unfold getX at h
  split at h
  · rename_i i
    split at h
    · rename_i c j hi
      split at h
      · rename_i fs hj
        split at h
        · rename_i hc
          cases hl : fs.lookup f with
          | none => rw [hl] at h; cases h
          | some d => rw [hl] at h; cases h; exact ⟨i, j, c, fs, d, rfl, hi, hj, List.contains_iff_mem.mp hc, hl, rfl, rfl⟩
        · cases h
      · cases h
    · cases h
  · cases h
inductive PutXI (cs : List Str) (f : Str) (x d : D) (Ω Ω' : Sto) (r : Except XD Unit) : Prop
  | first (i : Nat) (c : Str) (h1 : x = .obj i) (h2 : Ω[i]? = some (.exc c none)) (h4 : c ∈ cs) (h6 : r = .ok ()) (h7 : Ω' = (Ω ++ [SO.xd [(f, d)]]).set i (.exc c (some Ω.length)))
  | more (i j : Nat) (c : Str) (fs : List (Str × D)) (h1 : x = .obj i) (h2 : Ω[i]? = some (.exc c (some j))) (h3 : Ω[j]? = some (.xd fs)) (h4 : c ∈ cs) (h5 : fs.length < 1000) (h6 : r = .ok ()) (h7 : Ω' = Ω.set j (.xd (putD f d fs)))
theorem putX_inv {r : Except XD Unit} (h : putX cs f x d Ω = some (r, Ω')) : PutXI cs f x d Ω Ω' r := by
  unfold putX at h
  split at h
  · rename_i i
    split at h
    · rename_i c hi
      split at h
      · rename_i hc
        cases h; exact .first i c rfl hi (List.contains_iff_mem.mp hc) rfl rfl
      · cases h
    · rename_i c j hi
      split at h
      · rename_i fs hj
        split at h
        · rename_i hc
          rw [Bool.and_eq_true, decide_eq_true_eq] at hc
          cases h; exact .more i j c fs rfl hi hj (List.contains_iff_mem.mp hc.1) hc.2 rfl rfl
        · cases h
      · cases h
    · cases h
  · cases h
inductive IsXI (cs : List Str) (g : Str → Bool) (x : D) (Ω Ω' : Sto) (r : Except XD D) : Prop
  | mk (i : Nat) (c : Str) (oj : Option Nat) (h1 : x = .obj i) (h2 : Ω[i]? = some (.exc c oj)) (h3 : ∀ j, oj = some j → ∃ fs, Ω[j]? = some (.xd fs)) (h4 : c ∈ cs) (h6 : r = .ok (.bl (g c))) (h7 : Ω' = Ω)
theorem isX_inv {g : Str → Bool} {r : Except XD D} (h : isX cs g x Ω = some (r, Ω')) : IsXI cs g x Ω Ω' r := by
  unfold isX at h
  split at h
  · rename_i i
    split at h
    · rename_i c hi
      split at h
      · rename_i hc
        cases h; exact ⟨i, c, none, rfl, hi, (fun j z => nomatch z), List.contains_iff_mem.mp hc, rfl, rfl⟩
      · cases h
    · rename_i c j hi
      split at h
      · rename_i fs hj
        split at h
        · rename_i hc
          cases h; exact ⟨i, c, some j, rfl, hi, fun j' z => by cases z; exact ⟨fs, hj⟩, List.contains_iff_mem.mp hc, rfl, rfl⟩
        · cases h
      · cases h
    · cases h
  · cases h
end
theorem taker_of {K : PySem.W.Frag} {C : Addr} {f : Str} (h : PySem.W.findIn K (.ref C) f = some none) : PySem.W.takerIn K C f = some none := by
  unfold PySem.W.takerIn
  rw [h]
  rfl
theorem xo_own {a C : Addr} {od : Option Addr} : ∀ y, HO.own y ≠ XO a C od := fun y z => by unfold XO at z; cases z
theorem xd_own {a : Addr} {fs : List (Str × V)} : ∀ y, HO.own y ≠ XDc a fs := fun y z => by unfold XDc at z; cases z
section
variable {X : Cx} {O B : List Nat} {a b o e : Expr} {es : List Expr} {fa fb fo fv : DSt → MS D} {fl : DSt → MS (List D)} {pos p p2 apos : Pos} {x c f : Str} {k n : Nat}
variable {ρ₀ ρ : Rho} {S₀ S F : Addr → Bool} {H₀ H : Hp} {σ : L2.St} {δ : DSt} {Ω Ω' : Sto} {cs fs : List Str} {bn d : Str}
theorem me_fldX (T : ErrT X.K X.mg cs fs bn) (hf : fs.contains f = true) (ha : ME X O e fa) (hb : autoParam (attributeBase e f X.env (eval e X.env) = eval e X.env) zau2._auto_1) : ME X O (.Attribute e f pos) (mGetX cs f fa) := by
  rintro pins s σ H Q I ⟨ρ₀, S₀, H₀, F, ρ, S, δ, Ω, R, r, Ω', hg, k⟩
  refine pe_xfld ha hb pins s σ H Q I ⟨?_⟩
  rcases MS.b_inv hg with ⟨x, Ω1, e1, hg⟩ | ⟨x, e1, rfl⟩
  · refine ⟨ρ₀, S₀, H₀, F, ρ, S, δ, Ω, R, .ok x, Ω1, e1, fun u ρ1 S1 H1 R1 l1 v1 r1 => ?_⟩
    obtain ⟨i, j, c, fl, d, rfl, hi, hj, hc, hl, rfl, rfl⟩ := getX_inv hg
    obtain ⟨ad, q1, q2⟩ := rep_obj.mp r1
    obtain ⟨ad', p1, p2, p3⟩ := R1.sto.ats i _ hi
    rw [q1] at p1; cases p1
    obtain ⟨dx, s1, s2, vfs, s3, s4⟩ := R1.sto.ats j _ hj
    cases p3 with
    | yes j C dx' h1 h2 h3 =>
      rw [s1] at h2; cases h2
      obtain ⟨w, w1, w2⟩ := s4.get hl
      exact ⟨ad, C, dx, vfs, w, q2, h3, s3, T.cls c hc C h1, T.fld c hc C h1 f (List.contains_iff_mem.mp hf), w1, k w ρ1 S1 H1 R1 l1 v1 w2⟩
  · exact ⟨ρ₀, S₀, H₀, F, ρ, S, δ, Ω, R, .error x, _, e1, trivial⟩
theorem ms_fldX {pos' : Pos} (T : ErrT X.K X.mg cs fs bn) (hf : fs.contains f = true) (ho : ME X O o fo) (hv : ME X O e fv) (hs : autoParam (swapsWith e (some (.Attribute o f pos')) pos.line X.env = pure false) zau2._auto_1) : MSt X O O B (.Assign [.Attribute o f pos'] e pos) (ePutX cs f fo fv) := by
  rintro pins s σ H Dn I ⟨ρ₀, S₀, H₀, F, ρ, S, δ, Ω, R, r, Ω', hg, k⟩
  refine ps_xfld ho hv hs pins s σ H Dn I ?_
  rcases MS.b_inv hg with ⟨d, Ω1, e1, hg⟩ | ⟨x, e1, rfl⟩
  · refine ⟨ρ₀, S₀, H₀, F, ρ, S, δ, Ω, R, .ok d, Ω1, e1, fun v ρ1 S1 H1 R1 l1 v1 r1 => ?_⟩
    rcases MS.b_inv hg with ⟨x, Ω2, e2, hg⟩ | ⟨x, e2, rfl⟩
    · refine ⟨ρ₀, S₀, H₀, F, ρ1, S1, δ, Ω1, R1, .ok x, Ω2, e2, fun u ρ2 S2 H2 R2 l2 v2 r2 => ?_⟩
      have r1' := (r1.rho l2).mono v2
      rcases MS.b_inv hg with ⟨z, Ω3, e3, hg⟩ | ⟨y, e3, rfl⟩
      · cases hg
        cases putX_inv e3 with
        | first i c h1 h2 h4 h6 h7 =>
          subst h1 h7
          obtain ⟨ad, q1, q2⟩ := rep_obj.mp r2
          obtain ⟨ad', p1, p2, p3⟩ := R2.sto.ats i _ h2
          rw [q1] at p1; cases p1
          cases p3 with
          | no C g1 g2 =>
            refine ⟨ad, q2, .first C g2 (T.cls c h4 C g1) (taker_of (T.fld c h4 C g1 f (List.contains_iff_mem.mp hf))) fun dx hd => ?_⟩
            obtain ⟨t1, t2, t3⟩ := R2.newS (nso := .xd [(f, d)]) (no := XDc dx [(f, v)]) hd fun ρ' S' Hv' l vv => ⟨[(f, v)], upd_same, v, [], rfl, (r1'.rho l).mono vv, rfl⟩
            have il : i < Ω2.length := (List.getElem?_eq_some_iff.mp h2).1
            have hne : ad ≠ dx := fun z => by rw [z, hd] at g2; cases g2
            have q1' := t2 _ _ q1
            obtain ⟨w1, w2⟩ := t1.putS (so' := .exc c (some Ω2.length)) (o' := XO ad C (some dx)) (by rw [List.getElem?_append_left il]; exact h2) q1' (addS_t.mpr (.inl p2)) (by rw [upd_ne hne]; exact g2) xo_own
              (ExcOk.yes _ C dx g1 (by unfold addR; rw [if_pos rfl]) upd_same)
            exact k _ _ σ _ w1 (l1.trans (l2.trans t2)) (by rw [w2]; exact v1.trans (v2.trans t3))
        | more i j c fl h1 h2 h3 h4 h5 h6 h7 =>
          subst h1 h7
          obtain ⟨ad, q1, q2⟩ := rep_obj.mp r2
          obtain ⟨ad', p1, p2, p3⟩ := R2.sto.ats i _ h2
          rw [q1] at p1; cases p1
          obtain ⟨dx, s1, s2, vfs, s3, s4⟩ := R2.sto.ats j _ h3
          cases p3 with
          | yes j C dx' g1 g2 g3 =>
            rw [s1] at g2; cases g2
            refine ⟨ad, q2, .more C dx vfs g3 s3 (T.cls c h4 C g1) (taker_of (T.fld c h4 C g1 f (List.contains_iff_mem.mp hf))) (by rw [s4.length]; exact h5) ?_⟩
            obtain ⟨w1, w2⟩ := R2.putS (so' := .xd (putD f d fl)) (o' := XDc dx (putF f v vfs)) h3 s1 s2 s3 xd_own ⟨_, upd_same, s4.put r1'⟩
            exact k _ _ σ _ w1 (l1.trans l2) (by rw [w2]; exact v1.trans v2)
      · cases putX_inv e3 with
        | first i c h1 h2 h4 h6 h7 => cases h6
        | more i j c fl h1 h2 h3 h4 h5 h6 h7 => cases h6
    · exact ⟨ρ₀, S₀, H₀, F, ρ1, S1, δ, Ω1, R1, .error x, _, e2, trivial⟩
  · exact ⟨ρ₀, S₀, H₀, F, ρ, S, δ, Ω, R, .error x, _, e1, trivial⟩
theorem me_isG {g : Str → Bool} {nm : Expr} {v : V} {u : Value} (T : ErrT X.K X.mg cs fs bn) (hn : PE X nm (tC v)) (hv : ∀ w, RelV v w → w = u) (hk : ∀ c ∈ cs, ∀ C, X.mg c = some (.ref C) → PySem.W.kitOne X.K (.ref C) u = some (g c)) (ha : ME X O e fa) (hG : autoParam (Gl X "isinstance") zau2._auto_1) (hm : X.mg "isinstance" = none)
    (he : autoParam (starEach (e :: [nm]) X.env = (false, eval e X.env) :: starEach [nm] X.env) zau2._auto_1) (he2 : autoParam (starEach [nm] X.env = (false, eval nm X.env) :: starEach [] X.env) zau2._auto_1) (hpl : autoParam ((backTo pos (starEach [nm] X.env)).any (·.1) = false) zau2._auto_1) :
    ME X O (.Call (.Name "isinstance" p) [e, nm] [] pos) (mIsX cs g fa) := by
  rintro pins s σ H Q I ⟨ρ₀, S₀, H₀, F, ρ, S, δ, Ω, R, r, Ω', hg, k⟩
  refine pe_callB (call_isiX T.sp T.tk) hG hm bt_isinstance (pa_cons ha (pa_cons hn pa_nil he2) he) (by decide) (by decide) he hpl pins s σ H Q I ?_
  rcases MS.b_inv hg with ⟨x, Ω1, e1, hg⟩ | ⟨x, e1, rfl⟩
  · refine ⟨ρ₀, S₀, H₀, F, ρ, S, δ, Ω, R, .ok x, Ω1, e1, fun w ρ1 S1 H1 R1 l1 v1 r1 => ?_⟩
    obtain ⟨i, c, oj, rfl, hi, hj, hc, rfl, rfl⟩ := isX_inv hg
    obtain ⟨ad, q1, q2⟩ := rep_obj.mp r1
    obtain ⟨ad', p1, p2, p3⟩ := R1.sto.ats i _ hi
    rw [q1] at p1; cases p1
    subst q2
    cases p3 with
    | no C h1 h2 => exact ⟨ad, C, none, v, u, g c, rfl, h2, T.cls c hc C h1, (fun dx z => nomatch z), hv, hk c hc C h1, k _ ρ1 S1 H1 R1 l1 v1 (rep_bl.mpr rfl)⟩
    | yes j C dx h1 h2 h3 =>
      obtain ⟨fl, hj⟩ := hj j rfl
      obtain ⟨dx', s1, s2, vfs, s3, s4⟩ := R1.sto.ats j _ hj
      rw [h2] at s1; cases s1
      exact ⟨ad, C, some dx, v, u, g c, rfl, h3, T.cls c hc C h1, fun dx' z => by cases z; exact ⟨vfs, s3⟩, hv, hk c hc C h1, k _ ρ1 S1 H1 R1 l1 v1 (rep_bl.mpr rfl)⟩
  · exact ⟨ρ₀, S₀, H₀, F, ρ, S, δ, Ω, R, .error x, _, e1, trivial⟩
theorem me_isO (T : ErrT X.K X.mg cs fs bn) (hd : cs.contains d = true) (hm : X.mg "isinstance" = none) (ha : ME X O e fa) (hg : autoParam (Gl X d) zau2._auto_1) (hdb : autoParam ((d == ("__debug__" : Str)) = false) zau1._auto_1) (hG : autoParam (Gl X "isinstance") zau2._auto_1)
    (he : autoParam (starEach (e :: [.Name d p2]) X.env = (false, eval e X.env) :: starEach [.Name d p2] X.env) zau2._auto_1) : ME X O (.Call (.Name "isinstance" p) [e, .Name d p2] [] pos) (mIsX cs (fun c => c == d) fa) := by
  have hd' := List.contains_iff_mem.mp hd
  obtain ⟨D0, h0⟩ := T.ats d hd'
  refine me_isG (v := .ref D0) (u := .ref D0) T (pe_glob hg h0 rfl hdb) (fun w r => by cases r; rfl) (fun c hc C hC => ?_) ha hG hm he rfl rfl
  obtain ⟨D1, h1, h2⟩ := T.pair c hc d hd' C hC
  rw [h0] at h1; cases h1
  exact h2
theorem me_isB (T : ErrT X.K X.mg cs fs bn) (hm : X.mg "isinstance" = none) (ha : ME X O e fa) (hg : autoParam (Gl X bn) zau2._auto_1) (hdb : autoParam ((bn == ("__debug__" : Str)) = false) zau1._auto_1) (hG : autoParam (Gl X "isinstance") zau2._auto_1)
    (he : autoParam (starEach (e :: [.Name bn p2]) X.env = (false, eval e X.env) :: starEach [.Name bn p2] X.env) zau2._auto_1) : ME X O (.Call (.Name "isinstance" p) [e, .Name bn p2] [] pos) (mIsX cs (fun _ => true) fa) := by
  obtain ⟨D0, h0⟩ := T.atb
  refine me_isG (v := .ref D0) (u := .ref D0) T (pe_glob hg h0 rfl hdb) (fun w r => by cases r; rfl) (fun c hc C hC => ?_) ha hG hm he rfl rfl
  obtain ⟨D1, h1, h2⟩ := T.base c hc C hC
  rw [h0] at h1; cases h1
  exact h2
theorem bt_ValueError : bootBuiltins "ValueError" = some (.type "ValueError") := by decide +kernel
theorem me_isV (T : ErrT X.K X.mg cs fs bn) (hm : X.mg "isinstance" = none) (hvm : X.mg "ValueError" = none) (ha : ME X O e fa) (hg : autoParam (Gl X "ValueError") zau2._auto_1) (hG : autoParam (Gl X "isinstance") zau2._auto_1)
    (he : autoParam (starEach (e :: [.Name "ValueError" p2]) X.env = (false, eval e X.env) :: starEach [.Name "ValueError" p2] X.env) zau2._auto_1) : ME X O (.Call (.Name "isinstance" p) [e, .Name "ValueError" p2] [] pos) (mIsX cs (fun _ => true) fa) :=
  me_isG (v := .ty "ValueError") (u := .type "ValueError") T (pe_bltn hg hvm bt_ValueError rfl) (fun w r => by cases r; rfl) (fun c hc C hC => T.val c hc C hC) ha hG hm he rfl rfl
noncomputable def revS (z : Str) : Str := ⟨((PySem.slicePicked z none none (some (-1, 0))).filterMap (z.cps[·]?)).toArray⟩
noncomputable def gRevS : D → Option D
  | .str z => if (revS z).length ≤ sizeLine then some (.str (revS z)) else none
  | _ => none
theorem de_revS {O : List Nat} {E : XK} {e : Expr} {fa : DSt → M D} {k3 : Nat} {p2 p3 p4 : Pos} (ha : DE X O E e fa) : DE X O E (.Subscript e (.Slice none none (some (.UnaryOp .USub (.Constant (.int 1) k3 p4) p3)) p2) pos) (f1 gRevS fa) := by
  rintro pins s σ H Q I ⟨ρ, H₀, F, δ, r, R, hf, k⟩
  refine Subscript_ (thn (ha pins s σ H (fun v H1 => ∃ z, v = .str z ∧ (revS z).length ≤ sizeLine ∧ Q (.str (revS z)) H1) I ?_) fun v s1 ⟨x, H1, I1, r1, z, ex, hz, q⟩ => ?_)
  · rcases M.b_inv hf with ⟨x, e1, hf⟩ | ⟨x, e1, rfl⟩
    · refine ⟨ρ, H₀, F, δ, .ok x, R, e1, fun v H1 s1 r1 => ?_⟩
      obtain ⟨d, hd, rfl⟩ := M.o_inv hf
      cases x with
      | str z =>
        have hd' : (if (revS z).length ≤ sizeLine then some (D.str (revS z)) else none) = some d := hd
        split at hd'
        · rename_i hz
          cases hd'
          exact ⟨z, rep_str.mp r1, hz, k _ _ s1 (rep_str.mpr rfl)⟩
        · cases hd'
      | _ => cases hd
    · exact ⟨ρ, H₀, F, δ, .error x, R, e1, k⟩
  · subst ex
    obtain ⟨tx, rfl⟩ := r1
    refine wpAny_Slice ?_
    rw [evalPart_none]
    refine wpAny_pure (wpAny_pure ?_)
    rw [evalPart_some]
    refine thn (pe_un un_neg pe_int pins s1 σ H1 (fun z H2 => z = .int (-1) ∧ H2 = H1) I1 ⟨1, rfl, rfl, rfl⟩) fun vk s3 hzz => ?_
    obtain ⟨z', H2, I3, rz, e1, e2⟩ := hzz
    subst e1; subst e2
    obtain ⟨tz, rfl⟩ := rz
    have I4 : Inv X pins σ H2 { s3 with heap := s3.heap.push { cls := .type "slice", data := .fields #[.none, .none, .int (-1) tz] } } := I3.kept (t' := s3.toks) fun b ob q => Heap.get?_push_of_some _ q
    refine tail_any (ops := [.str z tx, .ref s3.heap.objs.size]) (typeIs_str _ z tx) PySem.F.slot_str_getitem.lookup ?_ (by with_unfolding_all rfl)
    refine wpAny_getItem_str_slice (l := none) (u := none) (st := some (-1, tz)) ⟨_, Heap.get?_push_size _ rfl, rfl, rfl⟩ rfl ?_
    unfold sliceMade
    rw [if_neg (by show ¬((((-1 : Int) == 1) && _) = true); exact fun z => nomatch z)]
    exact ⟨hz, .str (revS z), _, I4.tok _, ⟨_, rfl⟩, q⟩
end
theorem iniXAt_mk {K : PySem.W.Frag} {mg : Str → Option Value} {h : Heap} {c q : Str} {st : Stmt} {ps : List Str} {C f : Addr} {oc : Value} {od an : Option Addr} {osl : Array (Option Value)} {kV doc pm cdv ct : Value} (X : K.In h) (G : h.Ns mainGlobals mg)
    (hb : ∀ (kV doc pm : Value) (an : Option Addr) (cdv ct : Value) (us : List Value), us.length = ps.length → bindArgs (PySem.W.fnOf "__init__" q (defArgs st) (defBody st) (defScope st) .none kV doc pm an cdv ct) ⟨us, []⟩ = pure (ps.zip us))
    (a : mg c = some (.ref C)) (xc : XCls K C) (i2 : PySem.W.findIn K (.ref C) "__init__" = some (some (.ref f))) (i3 : PySem.W.isFn K (.ref f) = true)
    (l : K.lookup f = some ⟨oc, od, .func (PySem.W.fnOf "__init__" q (defArgs st) (defBody st) (defScope st) .none kV doc pm an cdv ct), osl⟩)
    (cd : PySem.W.codeIn K cdv q = true) (k : PySem.W.keepIn K (.ref f) = true) : IniXAt K mg c q st ps := by
  have F := fun_mk (st := st) l cd k
  exact ⟨C, f, _, a, ⟨xc, i2, i3⟩, F, F.binds hb⟩
end DL
namespace MyLaw
open PySem PySem.Spec L2 DL
noncomputable def top (i : Nat) : Stmt := PySem.Challenge.pw_apartbook_k07_refusals_made_by_hand.main.body.getD i (.Pass ⟨0, 0, 0, 0⟩)
noncomputable abbrev s_Broken_init__ : Stmt := clsStmt (top 6) 0
noncomputable abbrev s_NoDeed_init__ : Stmt := clsStmt (top 8) 0
noncomputable abbrev s_NoLine_init__ : Stmt := clsStmt (top 7) 0
noncomputable abbrev s_NoName_init__ : Stmt := clsStmt (top 3) 0
noncomputable abbrev s_NoPaper_init__ : Stmt := clsStmt (top 13) 0
noncomputable abbrev s_NoRule_init__ : Stmt := clsStmt (top 9) 0
noncomputable abbrev s_NotPlain_init__ : Stmt := clsStmt (top 4) 0
noncomputable abbrev s_NoText_init__ : Stmt := clsStmt (top 2) 0
noncomputable abbrev s_ShortShare_init__ : Stmt := clsStmt (top 11) 0
noncomputable abbrev s_law_all : Stmt := top 19
noncomputable abbrev s_law_cell_at : Stmt := top 15
noncomputable abbrev s_law_whole : Stmt := top 17
noncomputable abbrev s_law_kept : Stmt := top 20
noncomputable abbrev s_law_kinds : Stmt := top 18
noncomputable abbrev s_law : Stmt := top 21
noncomputable abbrev xcs : List Str := ["Broken", "Folded", "NoBook", "NoDeed", "NoLine", "NoName", "NoPaper", "NoRule", "NoText", "NotPlain", "OutOfRange", "ShortShare"]
noncomputable abbrev xfs : List Str := ["place", "name", "line", "lack"]
structure Txt (K : PySem.W.Frag) (mg : Str → Option Value) : Prop where
  errs : ErrT K mg xcs xfs "BookError"
  n_Folded : NewAt K mg "Folded"
  n_NoBook : NewAt K mg "NoBook"
  n_OutOfRange : NewAt K mg "OutOfRange"
  f_Broken_init__ : IniXAt K mg "Broken" "Broken.__init__" s_Broken_init__ ["self", "name"]
  f_NoDeed_init__ : IniXAt K mg "NoDeed" "NoDeed.__init__" s_NoDeed_init__ ["self", "name"]
  f_NoLine_init__ : IniXAt K mg "NoLine" "NoLine.__init__" s_NoLine_init__ ["self", "line"]
  f_NoName_init__ : IniXAt K mg "NoName" "NoName.__init__" s_NoName_init__ ["self", "name", "place"]
  f_NoPaper_init__ : IniXAt K mg "NoPaper" "NoPaper.__init__" s_NoPaper_init__ ["self", "line"]
  f_NoRule_init__ : IniXAt K mg "NoRule" "NoRule.__init__" s_NoRule_init__ ["self", "name"]
  f_NotPlain_init__ : IniXAt K mg "NotPlain" "NotPlain.__init__" s_NotPlain_init__ ["self", "place"]
  f_NoText_init__ : IniXAt K mg "NoText" "NoText.__init__" s_NoText_init__ ["self", "place"]
  f_ShortShare_init__ : IniXAt K mg "ShortShare" "ShortShare.__init__" s_ShortShare_init__ ["self", "name", "lack"]
  f_law_all : FunAt K mg "_law_all" s_law_all ["_law_name", "_law_number"]
  f_law_cell_at : FunAt K mg "_law_cell_at" s_law_cell_at ["_law_script", "_law_k"]
  f_law_whole : FunAt K mg "_law_whole" s_law_whole ["_law_found"]
  f_law_kept : FunAt K mg "_law_kept" s_law_kept ["_law_found", "_law_name", "_law_number"]
  f_law_kinds : FunAt K mg "_law_kinds" s_law_kinds ["_law_error"]
  f_law : FunAt K mg "law" s_law ["_law_script"]
  b_ValueError : mg "ValueError" = none
  b_bool : mg "bool" = none
  b_int : mg "int" = none
  b_isinstance : mg "isinstance" = none
  b_len : mg "len" = none
  b_range : mg "range" = none
section
variable {P : Program} {w : World} {K : PySem.W.Frag} {mg : Str → Option Value} {base : Heap}
theorem sc_Broken_init__ : FnScope ["self", "name"] ["self", "name"] (defScope s_Broken_init__) := ⟨rfl, rfl, rfl, by decide +kernel, rfl, by decide +kernel, by decide +kernel⟩
noncomputable def g_Broken_init__ : DSt → MS Out := (ePutX xcs "name" (lF (fVar 0)) (lF (fVar 1)))
noncomputable def m_Broken_init__ : List D → MS D := mirE 2 2 g_Broken_init__
theorem body_Broken_init__ (T : Txt K mg) (f : Addr) (cdv : Value) (A : Around) (outer : List Env) (s : Shared) (H : Hp) (E : XK) (hr : Room 1 (A.deeper (PyProof.Rows.envOfC "Broken.__init__" (defScope s_Broken_init__) s.heap.objs.size f cdv))) :
    MSs (cxOf CX0 P w K mg base ["self", "name"] "Broken.__init__" (defScope s_Broken_init__) f cdv A outer s H E).nox [] [] [] (defBody s_Broken_init__) g_Broken_init__ :=
  (mss_one (ms_fldX T.errs rfl (me_pure (de_var 0)) (me_pure (de_var 1))))
theorem ok_Broken_init__ (T : Txt K mg) : IniXE P w K mg base 2 "Broken" 2 m_Broken_init__ := iniXE_of T.f_Broken_init__ sc_Broken_init__ (body_Broken_init__ T) (by decide)
theorem sc_NoDeed_init__ : FnScope ["self", "name"] ["self", "name"] (defScope s_NoDeed_init__) := ⟨rfl, rfl, rfl, by decide +kernel, rfl, by decide +kernel, by decide +kernel⟩
noncomputable def g_NoDeed_init__ : DSt → MS Out := (ePutX xcs "name" (lF (fVar 0)) (lF (fVar 1)))
noncomputable def m_NoDeed_init__ : List D → MS D := mirE 2 2 g_NoDeed_init__
theorem body_NoDeed_init__ (T : Txt K mg) (f : Addr) (cdv : Value) (A : Around) (outer : List Env) (s : Shared) (H : Hp) (E : XK) (hr : Room 1 (A.deeper (PyProof.Rows.envOfC "NoDeed.__init__" (defScope s_NoDeed_init__) s.heap.objs.size f cdv))) :
    MSs (cxOf CX0 P w K mg base ["self", "name"] "NoDeed.__init__" (defScope s_NoDeed_init__) f cdv A outer s H E).nox [] [] [] (defBody s_NoDeed_init__) g_NoDeed_init__ :=
  (mss_one (ms_fldX T.errs rfl (me_pure (de_var 0)) (me_pure (de_var 1))))
theorem ok_NoDeed_init__ (T : Txt K mg) : IniXE P w K mg base 2 "NoDeed" 2 m_NoDeed_init__ := iniXE_of T.f_NoDeed_init__ sc_NoDeed_init__ (body_NoDeed_init__ T) (by decide)
theorem sc_NoLine_init__ : FnScope ["self", "line"] ["self", "line"] (defScope s_NoLine_init__) := ⟨rfl, rfl, rfl, by decide +kernel, rfl, by decide +kernel, by decide +kernel⟩
noncomputable def g_NoLine_init__ : DSt → MS Out := (ePutX xcs "line" (lF (fVar 0)) (lF (fVar 1)))
noncomputable def m_NoLine_init__ : List D → MS D := mirE 2 2 g_NoLine_init__
theorem body_NoLine_init__ (T : Txt K mg) (f : Addr) (cdv : Value) (A : Around) (outer : List Env) (s : Shared) (H : Hp) (E : XK) (hr : Room 1 (A.deeper (PyProof.Rows.envOfC "NoLine.__init__" (defScope s_NoLine_init__) s.heap.objs.size f cdv))) :
    MSs (cxOf CX0 P w K mg base ["self", "line"] "NoLine.__init__" (defScope s_NoLine_init__) f cdv A outer s H E).nox [] [] [] (defBody s_NoLine_init__) g_NoLine_init__ :=
  (mss_one (ms_fldX T.errs rfl (me_pure (de_var 0)) (me_pure (de_var 1))))
theorem ok_NoLine_init__ (T : Txt K mg) : IniXE P w K mg base 2 "NoLine" 2 m_NoLine_init__ := iniXE_of T.f_NoLine_init__ sc_NoLine_init__ (body_NoLine_init__ T) (by decide)
theorem sc_NoName_init__ : FnScope ["self", "name", "place"] ["self", "name", "place"] (defScope s_NoName_init__) := ⟨rfl, rfl, rfl, by decide +kernel, rfl, by decide +kernel, by decide +kernel⟩
noncomputable def g_NoName_init__ : DSt → MS Out := (eSeq (ePutX xcs "name" (lF (fVar 0)) (lF (fVar 1)))
    (ePutX xcs "place" (lF (fVar 0)) (lF (fVar 2))))
noncomputable def m_NoName_init__ : List D → MS D := mirE 3 3 g_NoName_init__
theorem body_NoName_init__ (T : Txt K mg) (f : Addr) (cdv : Value) (A : Around) (outer : List Env) (s : Shared) (H : Hp) (E : XK) (hr : Room 1 (A.deeper (PyProof.Rows.envOfC "NoName.__init__" (defScope s_NoName_init__) s.heap.objs.size f cdv))) :
    MSs (cxOf CX0 P w K mg base ["self", "name", "place"] "NoName.__init__" (defScope s_NoName_init__) f cdv A outer s H E).nox [] [] [] (defBody s_NoName_init__) g_NoName_init__ :=
  (mss_cons (ms_fldX T.errs rfl (me_pure (de_var 0)) (me_pure (de_var 1)))
    (mss_one (ms_fldX T.errs rfl (me_pure (de_var 0)) (me_pure (de_var 2)))))
theorem ok_NoName_init__ (T : Txt K mg) : IniXE P w K mg base 2 "NoName" 3 m_NoName_init__ := iniXE_of T.f_NoName_init__ sc_NoName_init__ (body_NoName_init__ T) (by decide)
theorem sc_NoPaper_init__ : FnScope ["self", "line"] ["self", "line"] (defScope s_NoPaper_init__) := ⟨rfl, rfl, rfl, by decide +kernel, rfl, by decide +kernel, by decide +kernel⟩
noncomputable def g_NoPaper_init__ : DSt → MS Out := (ePutX xcs "line" (lF (fVar 0)) (lF (fVar 1)))
noncomputable def m_NoPaper_init__ : List D → MS D := mirE 2 2 g_NoPaper_init__
theorem body_NoPaper_init__ (T : Txt K mg) (f : Addr) (cdv : Value) (A : Around) (outer : List Env) (s : Shared) (H : Hp) (E : XK) (hr : Room 1 (A.deeper (PyProof.Rows.envOfC "NoPaper.__init__" (defScope s_NoPaper_init__) s.heap.objs.size f cdv))) :
    MSs (cxOf CX0 P w K mg base ["self", "line"] "NoPaper.__init__" (defScope s_NoPaper_init__) f cdv A outer s H E).nox [] [] [] (defBody s_NoPaper_init__) g_NoPaper_init__ :=
  (mss_one (ms_fldX T.errs rfl (me_pure (de_var 0)) (me_pure (de_var 1))))
theorem ok_NoPaper_init__ (T : Txt K mg) : IniXE P w K mg base 2 "NoPaper" 2 m_NoPaper_init__ := iniXE_of T.f_NoPaper_init__ sc_NoPaper_init__ (body_NoPaper_init__ T) (by decide)
theorem sc_NoRule_init__ : FnScope ["self", "name"] ["self", "name"] (defScope s_NoRule_init__) := ⟨rfl, rfl, rfl, by decide +kernel, rfl, by decide +kernel, by decide +kernel⟩
noncomputable def g_NoRule_init__ : DSt → MS Out := (ePutX xcs "name" (lF (fVar 0)) (lF (fVar 1)))
noncomputable def m_NoRule_init__ : List D → MS D := mirE 2 2 g_NoRule_init__
theorem body_NoRule_init__ (T : Txt K mg) (f : Addr) (cdv : Value) (A : Around) (outer : List Env) (s : Shared) (H : Hp) (E : XK) (hr : Room 1 (A.deeper (PyProof.Rows.envOfC "NoRule.__init__" (defScope s_NoRule_init__) s.heap.objs.size f cdv))) :
    MSs (cxOf CX0 P w K mg base ["self", "name"] "NoRule.__init__" (defScope s_NoRule_init__) f cdv A outer s H E).nox [] [] [] (defBody s_NoRule_init__) g_NoRule_init__ :=
  (mss_one (ms_fldX T.errs rfl (me_pure (de_var 0)) (me_pure (de_var 1))))
theorem ok_NoRule_init__ (T : Txt K mg) : IniXE P w K mg base 2 "NoRule" 2 m_NoRule_init__ := iniXE_of T.f_NoRule_init__ sc_NoRule_init__ (body_NoRule_init__ T) (by decide)
theorem sc_NotPlain_init__ : FnScope ["self", "place"] ["self", "place"] (defScope s_NotPlain_init__) := ⟨rfl, rfl, rfl, by decide +kernel, rfl, by decide +kernel, by decide +kernel⟩
noncomputable def g_NotPlain_init__ : DSt → MS Out := (ePutX xcs "place" (lF (fVar 0)) (lF (fVar 1)))
noncomputable def m_NotPlain_init__ : List D → MS D := mirE 2 2 g_NotPlain_init__
theorem body_NotPlain_init__ (T : Txt K mg) (f : Addr) (cdv : Value) (A : Around) (outer : List Env) (s : Shared) (H : Hp) (E : XK) (hr : Room 1 (A.deeper (PyProof.Rows.envOfC "NotPlain.__init__" (defScope s_NotPlain_init__) s.heap.objs.size f cdv))) :
    MSs (cxOf CX0 P w K mg base ["self", "place"] "NotPlain.__init__" (defScope s_NotPlain_init__) f cdv A outer s H E).nox [] [] [] (defBody s_NotPlain_init__) g_NotPlain_init__ :=
  (mss_one (ms_fldX T.errs rfl (me_pure (de_var 0)) (me_pure (de_var 1))))
theorem ok_NotPlain_init__ (T : Txt K mg) : IniXE P w K mg base 2 "NotPlain" 2 m_NotPlain_init__ := iniXE_of T.f_NotPlain_init__ sc_NotPlain_init__ (body_NotPlain_init__ T) (by decide)
theorem sc_NoText_init__ : FnScope ["self", "place"] ["self", "place"] (defScope s_NoText_init__) := ⟨rfl, rfl, rfl, by decide +kernel, rfl, by decide +kernel, by decide +kernel⟩
noncomputable def g_NoText_init__ : DSt → MS Out := (ePutX xcs "place" (lF (fVar 0)) (lF (fVar 1)))
noncomputable def m_NoText_init__ : List D → MS D := mirE 2 2 g_NoText_init__
theorem body_NoText_init__ (T : Txt K mg) (f : Addr) (cdv : Value) (A : Around) (outer : List Env) (s : Shared) (H : Hp) (E : XK) (hr : Room 1 (A.deeper (PyProof.Rows.envOfC "NoText.__init__" (defScope s_NoText_init__) s.heap.objs.size f cdv))) :
    MSs (cxOf CX0 P w K mg base ["self", "place"] "NoText.__init__" (defScope s_NoText_init__) f cdv A outer s H E).nox [] [] [] (defBody s_NoText_init__) g_NoText_init__ :=
  (mss_one (ms_fldX T.errs rfl (me_pure (de_var 0)) (me_pure (de_var 1))))
theorem ok_NoText_init__ (T : Txt K mg) : IniXE P w K mg base 2 "NoText" 2 m_NoText_init__ := iniXE_of T.f_NoText_init__ sc_NoText_init__ (body_NoText_init__ T) (by decide)
theorem sc_ShortShare_init__ : FnScope ["self", "name", "lack"] ["self", "name", "lack"] (defScope s_ShortShare_init__) := ⟨rfl, rfl, rfl, by decide +kernel, rfl, by decide +kernel, by decide +kernel⟩
noncomputable def g_ShortShare_init__ : DSt → MS Out := (eSeq (ePutX xcs "name" (lF (fVar 0)) (lF (fVar 1)))
    (ePutX xcs "lack" (lF (fVar 0)) (lF (fVar 2))))
noncomputable def m_ShortShare_init__ : List D → MS D := mirE 3 3 g_ShortShare_init__
theorem body_ShortShare_init__ (T : Txt K mg) (f : Addr) (cdv : Value) (A : Around) (outer : List Env) (s : Shared) (H : Hp) (E : XK) (hr : Room 1 (A.deeper (PyProof.Rows.envOfC "ShortShare.__init__" (defScope s_ShortShare_init__) s.heap.objs.size f cdv))) :
    MSs (cxOf CX0 P w K mg base ["self", "name", "lack"] "ShortShare.__init__" (defScope s_ShortShare_init__) f cdv A outer s H E).nox [] [] [] (defBody s_ShortShare_init__) g_ShortShare_init__ :=
  (mss_cons (ms_fldX T.errs rfl (me_pure (de_var 0)) (me_pure (de_var 1)))
    (mss_one (ms_fldX T.errs rfl (me_pure (de_var 0)) (me_pure (de_var 2)))))
theorem ok_ShortShare_init__ (T : Txt K mg) : IniXE P w K mg base 2 "ShortShare" 3 m_ShortShare_init__ := iniXE_of T.f_ShortShare_init__ sc_ShortShare_init__ (body_ShortShare_init__ T) (by decide)
theorem sc_law_all : FnScope ["_law_name", "_law_number", "_law_found"] ["_law_name", "_law_number"] (defScope s_law_all) := ⟨rfl, rfl, rfl, by decide +kernel, rfl, by decide +kernel, by decide +kernel⟩
noncomputable def g_law_all : DSt → MS Out := (eSeq (eSet 2 (mL gLstD (mCons (mMakeX "Broken" m_Broken_init__ (lF (fCons (fVar 0) fNil))) (mCons (mNewX "Folded") (mCons (mNewX "NoBook") (mCons (mMakeX "NoDeed" m_NoDeed_init__ (lF (fCons (fVar 0) fNil))) (mCons (mMakeX "NoLine" m_NoLine_init__ (lF (fCons (fVar 1) fNil))) (mCons (mMakeX "NoName" m_NoName_init__ (lF (fCons (fVar 0) (fCons (fVar 1) fNil)))) (mCons (mMakeX "NoPaper" m_NoPaper_init__ (lF (fCons (fVar 1) fNil))) (lF fNil))))))))))
    (eRet (m2 gCat (lF (fVar 2)) (mL gLstD (mCons (mMakeX "NoRule" m_NoRule_init__ (lF (fCons (fVar 0) fNil))) (mCons (mMakeX "NotPlain" m_NotPlain_init__ (lF (fCons (fVar 1) fNil))) (mCons (mMakeX "NoText" m_NoText_init__ (lF (fCons (fVar 1) fNil))) (mCons (mNewX "OutOfRange") (mCons (mMakeX "ShortShare" m_ShortShare_init__ (lF (fCons (fVar 0) (fCons (fVar 1) fNil)))) (lF fNil))))))))))
noncomputable def m_law_all : List D → MS D := mirE 2 3 g_law_all
theorem body_law_all (T : Txt K mg) (f : Addr) (cdv : Value) (A : Around) (outer : List Env) (s : Shared) (H : Hp) (E : XK) (hr : Room 3 (A.deeper (PyProof.Rows.envOfC "_law_all" (defScope s_law_all) s.heap.objs.size f cdv))) :
    MSs (cxOf CX0 P w K mg base ["_law_name", "_law_number", "_law_found"] "_law_all" (defScope s_law_all) f cdv A outer s H E).nox [] [] [] (defBody s_law_all) g_law_all :=
  (mss_cons (ms_set (i := 2) sc_law_all.nd (me_lst (ma_cons (me_makeX (ok_Broken_init__ T) (hr.mono (by decide)) (ma_pure (da_cons (de_var 0) da_nil))) (ma_cons (me_newX T.n_Folded) (ma_cons (me_newX T.n_NoBook) (ma_cons (me_makeX (ok_NoDeed_init__ T) (hr.mono (by decide)) (ma_pure (da_cons (de_var 0) da_nil))) (ma_cons (me_makeX (ok_NoLine_init__ T) (hr.mono (by decide)) (ma_pure (da_cons (de_var 1) da_nil))) (ma_cons (me_makeX (ok_NoName_init__ T) (hr.mono (by decide)) (ma_pure (da_cons (de_var 0) (da_cons (de_var 1) da_nil)))) (ma_cons (me_makeX (ok_NoPaper_init__ T) (hr.mono (by decide)) (ma_pure (da_cons (de_var 1) da_nil))) (ma_pure da_nil))))))))))
    (mss_one (ms_ret (me_op op_addC opd_cat (me_pure (de_var 2)) (me_lst (ma_cons (me_makeX (ok_NoRule_init__ T) (hr.mono (by decide)) (ma_pure (da_cons (de_var 0) da_nil))) (ma_cons (me_makeX (ok_NotPlain_init__ T) (hr.mono (by decide)) (ma_pure (da_cons (de_var 1) da_nil))) (ma_cons (me_makeX (ok_NoText_init__ T) (hr.mono (by decide)) (ma_pure (da_cons (de_var 1) da_nil))) (ma_cons (me_newX T.n_OutOfRange) (ma_cons (me_makeX (ok_ShortShare_init__ T) (hr.mono (by decide)) (ma_pure (da_cons (de_var 0) (da_cons (de_var 1) da_nil)))) (ma_pure da_nil)))))))))))
theorem ok_law_all (T : Txt K mg) : CalE P w K mg base 4 "_law_all" 2 m_law_all := calE_of T.f_law_all sc_law_all (body_law_all T)
theorem sc_law_cell_at : FnScope ["_law_script", "_law_k"] ["_law_script", "_law_k"] (defScope s_law_cell_at) := ⟨rfl, rfl, rfl, by decide +kernel, rfl, by decide +kernel, by decide +kernel⟩
noncomputable def g_law_cell_at : DSt → M Out := (gSeq (gIf (t2 gLt (fVar 1) (fL kLen (fCons (fVar 0) fNil))) (gRet (f2 gIx (fVar 0) (fVar 1))) gNx)
    (gRet (fC (.int 0))))
noncomputable def m_law_cell_at : List D → M D := mir 2 2 g_law_cell_at
theorem body_law_cell_at (T : Txt K mg) (f : Addr) (cdv : Value) (A : Around) (outer : List Env) (s : Shared) (H : Hp) (E : XK) (hr : Room 1 (A.deeper (PyProof.Rows.envOfC "_law_cell_at" (defScope s_law_cell_at) s.heap.objs.size f cdv))) :
    DSs (cxOf CX0 P w K mg base ["_law_script", "_law_k"] "_law_cell_at" (defScope s_law_cell_at) f cdv A outer s H E).nox [] [] [] E (defBody s_law_cell_at) g_law_cell_at :=
  (dss_cons (ds_if (dt_cmp op_ltD opd_cmp (de_var 1) (de_callB call_lenD cad_len rfl T.b_len bt_len (da_cons (de_var 0) da_nil)) (nomark _)) (dss_one (ds_ret (de_ix ix_seq opd_ix (de_var 0) (de_var 1)))) dss_nil)
    (dss_one (ds_ret de_int)))
theorem ok_law_cell_at (T : Txt K mg) : Cal P w K mg base 2 "_law_cell_at" 2 m_law_cell_at := cal_of T.f_law_cell_at sc_law_cell_at (body_law_cell_at T)
theorem sc_law_whole : FnScope ["_law_found"] ["_law_found"] (defScope s_law_whole) := ⟨rfl, rfl, rfl, by decide +kernel, rfl, by decide +kernel, by decide +kernel⟩
noncomputable def g_law_whole : DSt → M Out := (gRet (fAnd (fL kIsi (fCons (fVar 0) (fCons (fC (.ty "int")) fNil))) (f1 gNot (fL kIsi (fCons (fVar 0) (fCons (fC (.ty "bool")) fNil))))))
noncomputable def m_law_whole : List D → M D := mir 1 1 g_law_whole
theorem body_law_whole (T : Txt K mg) (f : Addr) (cdv : Value) (A : Around) (outer : List Env) (s : Shared) (H : Hp) (E : XK) (hr : Room 1 (A.deeper (PyProof.Rows.envOfC "_law_whole" (defScope s_law_whole) s.heap.objs.size f cdv))) :
    DSs (cxOf CX0 P w K mg base ["_law_found"] "_law_whole" (defScope s_law_whole) f cdv A outer s H E).nox [] [] [] E (defBody s_law_whole) g_law_whole :=
  (dss_one (ds_ret (de_and (de_callB call_isiD cad_isi rfl T.b_isinstance bt_isinstance (da_cons (de_var 0) (da_cons (de_bltT rfl T.b_int bt_int) da_nil))) (de_one (de_not (de_callB call_isiD cad_isi rfl T.b_isinstance bt_isinstance (da_cons (de_var 0) (da_cons (de_bltT rfl T.b_bool bt_bool) da_nil))))))))
theorem ok_law_whole (T : Txt K mg) : Cal P w K mg base 2 "_law_whole" 1 m_law_whole := cal_of T.f_law_whole sc_law_whole (body_law_whole T)
theorem sc_law_kept : FnScope ["_law_found", "_law_name", "_law_number", "_law_place", "_law_told"] ["_law_found", "_law_name", "_law_number"] (defScope s_law_kept) := ⟨rfl, rfl, rfl, by decide +kernel, rfl, by decide +kernel, by decide +kernel⟩
noncomputable def b1_law_kept : DSt → MS Out := (eIf (mB (m2 gNe (mGetX xcs "name" (lF (f2 gIx (fVar 0) (fVar 3)))) (lF (fVar 1)))) (lF (gRet (fC (.bl false)))) eNx)
noncomputable def b2_law_kept : DSt → MS Out := (lF (gIf (DL.tOr (DL.tNot (tTru (fCall m_law_whole (fCons (fVar 4) fNil)))) (t2 gNe (fVar 4) (fVar 2))) (gRet (fC (.bl false))) gNx))
noncomputable def g_law_kept : DSt → MS Out := (eSeq (eFor (lF (iSeqD (fL gLstD (fCons (fC (.int 0)) (fCons (fC (.int 3)) (fCons (fC (.int 5)) (fCons (fC (.int 7)) (fCons (fC (.int 11)) fNil)))))))) (DL.gName 3) b1_law_kept)
    (eSeq (eFor (mSeq (mL gLstD (mCons (mGetX xcs "line" (lF (f2 gIx (fVar 0) (fC (.int 4))))) (mCons (mGetX xcs "place" (lF (f2 gIx (fVar 0) (fC (.int 5))))) (mCons (mGetX xcs "line" (lF (f2 gIx (fVar 0) (fC (.int 6))))) (mCons (mGetX xcs "place" (lF (f2 gIx (fVar 0) (fC (.int 8))))) (mCons (mGetX xcs "place" (lF (f2 gIx (fVar 0) (fC (.int 9))))) (mCons (mGetX xcs "lack" (lF (f2 gIx (fVar 0) (fC (.int 11))))) (lF fNil))))))))) (DL.gName 4) b2_law_kept)
    (lF (gRet (fC (.bl true))))))
noncomputable def m_law_kept : List D → MS D := mirE 3 5 g_law_kept
theorem body_law_kept (T : Txt K mg) (f : Addr) (cdv : Value) (A : Around) (outer : List Env) (s : Shared) (H : Hp) (E : XK) (hr : Room 2 (A.deeper (PyProof.Rows.envOfC "_law_kept" (defScope s_law_kept) s.heap.objs.size f cdv))) :
    MSs (cxOf CX0 P w K mg base ["_law_found", "_law_name", "_law_number", "_law_place", "_law_told"] "_law_kept" (defScope s_law_kept) f cdv A outer s H E).nox [] [] [] (defBody s_law_kept) g_law_kept :=
  (mss_cons (ms_for PassesOwn.never rfl (mi_pure (di_seq (de_lst (da_cons de_int (da_cons de_int (da_cons de_int (da_cons de_int (da_cons de_int da_nil)))))))) (dg_name (i := 3) sc_law_kept.nd) (mss_one (ms_if (mt_cmp (op_neD (hu30 hr)) opd_ne (me_fldX T.errs rfl (me_pure (de_ix ix_seq opd_ix (de_var 0) (de_var 3)))) (me_pure (de_var 1)) (nomark _)) (mss_one (ms_pure (ds_ret de_bl))) mss_nil)))
    (mss_cons (ms_for PassesOwn.never rfl (mi_seq (me_lst (ma_cons (me_fldX T.errs rfl (me_pure (de_ix ix_seq opd_ix (de_var 0) de_int))) (ma_cons (me_fldX T.errs rfl (me_pure (de_ix ix_seq opd_ix (de_var 0) de_int))) (ma_cons (me_fldX T.errs rfl (me_pure (de_ix ix_seq opd_ix (de_var 0) de_int))) (ma_cons (me_fldX T.errs rfl (me_pure (de_ix ix_seq opd_ix (de_var 0) de_int))) (ma_cons (me_fldX T.errs rfl (me_pure (de_ix ix_seq opd_ix (de_var 0) de_int))) (ma_cons (me_fldX T.errs rfl (me_pure (de_ix ix_seq opd_ix (de_var 0) de_int))) (ma_pure da_nil))))))))) (dg_name (i := 4) sc_law_kept.nd) (mss_one (ms_pure (ds_if (DW.dt (dw_or (dt_not (dt_val (de_call (ok_law_whole T) (hr.mono (by decide)) (da_cons (de_var 4) da_nil)))) (dw_or1 (dt_cmp (op_neD (hu30 hr)) opd_ne (de_var 4) (de_var 2) (nomark _))))) (dss_one (ds_ret de_bl)) dss_nil))))
    (mss_one (ms_pure (ds_ret de_bl)))))
theorem ok_law_kept (T : Txt K mg) : CalE P w K mg base 3 "_law_kept" 3 m_law_kept := calE_of T.f_law_kept sc_law_kept (body_law_kept T)
theorem sc_law_kinds : FnScope ["_law_error", "_law_kinds_here"] ["_law_error"] (defScope s_law_kinds) := ⟨rfl, rfl, rfl, by decide +kernel, rfl, by decide +kernel, by decide +kernel⟩
noncomputable def g_law_kinds : DSt → MS Out := (eSeq (eSet 1 (mL gLstD (mCons (mIsX xcs (fun c => c == "Broken") (lF (fVar 0))) (mCons (mIsX xcs (fun c => c == "Folded") (lF (fVar 0))) (mCons (mIsX xcs (fun c => c == "NoBook") (lF (fVar 0))) (mCons (mIsX xcs (fun c => c == "NoDeed") (lF (fVar 0))) (lF fNil)))))))
    (eSeq (eSet 1 (m2 gCat (lF (fVar 1)) (mL gLstD (mCons (mIsX xcs (fun c => c == "NoLine") (lF (fVar 0))) (mCons (mIsX xcs (fun c => c == "NoName") (lF (fVar 0))) (mCons (mIsX xcs (fun c => c == "NoPaper") (lF (fVar 0))) (lF fNil)))))))
    (eSeq (eSet 1 (m2 gCat (lF (fVar 1)) (mL gLstD (mCons (mIsX xcs (fun c => c == "NoRule") (lF (fVar 0))) (mCons (mIsX xcs (fun c => c == "NotPlain") (lF (fVar 0))) (mCons (mIsX xcs (fun c => c == "NoText") (lF (fVar 0))) (lF fNil)))))))
    (eRet (m2 gCat (lF (fVar 1)) (mL gLstD (mCons (mIsX xcs (fun c => c == "OutOfRange") (lF (fVar 0))) (mCons (mIsX xcs (fun c => c == "ShortShare") (lF (fVar 0))) (lF fNil)))))))))
noncomputable def m_law_kinds : List D → MS D := mirE 1 2 g_law_kinds
theorem body_law_kinds (T : Txt K mg) (f : Addr) (cdv : Value) (A : Around) (outer : List Env) (s : Shared) (H : Hp) (E : XK) (hr : Room 1 (A.deeper (PyProof.Rows.envOfC "_law_kinds" (defScope s_law_kinds) s.heap.objs.size f cdv))) :
    MSs (cxOf CX0 P w K mg base ["_law_error", "_law_kinds_here"] "_law_kinds" (defScope s_law_kinds) f cdv A outer s H E).nox [] [] [] (defBody s_law_kinds) g_law_kinds :=
  (mss_cons (ms_set (i := 1) sc_law_kinds.nd (me_lst (ma_cons (me_isO (d := "Broken") T.errs rfl T.b_isinstance (me_pure (de_var 0))) (ma_cons (me_isO (d := "Folded") T.errs rfl T.b_isinstance (me_pure (de_var 0))) (ma_cons (me_isO (d := "NoBook") T.errs rfl T.b_isinstance (me_pure (de_var 0))) (ma_cons (me_isO (d := "NoDeed") T.errs rfl T.b_isinstance (me_pure (de_var 0))) (ma_pure da_nil)))))))
    (mss_cons (ms_set (i := 1) sc_law_kinds.nd (me_op op_addC opd_cat (me_pure (de_var 1)) (me_lst (ma_cons (me_isO (d := "NoLine") T.errs rfl T.b_isinstance (me_pure (de_var 0))) (ma_cons (me_isO (d := "NoName") T.errs rfl T.b_isinstance (me_pure (de_var 0))) (ma_cons (me_isO (d := "NoPaper") T.errs rfl T.b_isinstance (me_pure (de_var 0))) (ma_pure da_nil)))))))
    (mss_cons (ms_set (i := 1) sc_law_kinds.nd (me_op op_addC opd_cat (me_pure (de_var 1)) (me_lst (ma_cons (me_isO (d := "NoRule") T.errs rfl T.b_isinstance (me_pure (de_var 0))) (ma_cons (me_isO (d := "NotPlain") T.errs rfl T.b_isinstance (me_pure (de_var 0))) (ma_cons (me_isO (d := "NoText") T.errs rfl T.b_isinstance (me_pure (de_var 0))) (ma_pure da_nil)))))))
    (mss_one (ms_ret (me_op op_addC opd_cat (me_pure (de_var 1)) (me_lst (ma_cons (me_isO (d := "OutOfRange") T.errs rfl T.b_isinstance (me_pure (de_var 0))) (ma_cons (me_isO (d := "ShortShare") T.errs rfl T.b_isinstance (me_pure (de_var 0))) (ma_pure da_nil))))))))))
theorem ok_law_kinds (T : Txt K mg) : CalE P w K mg base 2 "_law_kinds" 1 m_law_kinds := calE_of T.f_law_kinds sc_law_kinds (body_law_kinds T)
theorem sc_law : FnScope ["_law_script", "_law_name", "_law_number", "_law_one", "_law_other", "_law_some", "_law_place"] ["_law_script"] (defScope s_law) := ⟨rfl, rfl, rfl, by decide +kernel, rfl, by decide +kernel, by decide +kernel⟩
noncomputable def c1_law : DSt → M D := (f2 gEq (fVar 1) (fVar 0))
noncomputable def b2_law : DSt → MS Out := (eSeq (eIf (mOr (mNot (mTru (mIsX xcs (fun _ => true) (lF (f2 gIx (fVar 5) (fVar 6)))))) (mNot (mTru (mIsX xcs (fun _ => true) (lF (f2 gIx (fVar 5) (fVar 6))))))) (lF (gRet (fC (.bl false)))) eNx)
    (eIf (mB (m2 gNe (mCall m_law_kinds (lF (fCons (f2 gIx (fVar 5) (fVar 6)) fNil))) (lF (fComp 1 [("_law_place", 6)] (iArgs rangeArgs (fCons (fC (.int 12)) fNil)) (DL.gName 0) tYes c1_law)))) (lF (gRet (fC (.bl false)))) eNx))
noncomputable def b3_law : DSt → MS Out := (eFor (lF (iArgs rangeArgs (fCons (fC (.int 12)) fNil))) (DL.gName 6) b2_law)
noncomputable def g_law : DSt → MS Out := (eSeq (lF (gSet 1 (fSl (fC (.str "abcdefghij")) oNone (oSome (f2 gCat (fC (.int 1)) (f2 gMod (fCall m_law_cell_at (fCons (fVar 0) (fCons (fC (.int 0)) fNil))) (fC (.int 10))))))))
    (eSeq (lF (gSet 2 (f2 gMod (fCall m_law_cell_at (fCons (fVar 0) (fCons (fC (.int 1)) fNil))) (f2 gPow (fC (.int 10)) (fC (.int 30))))))
    (eSeq (eSet 3 (mCall m_law_all (lF (fCons (fVar 1) (fCons (fVar 2) fNil)))))
    (eSeq (eSet 4 (mCall m_law_all (lF (fCons (f1 gRevS (fVar 1)) (fCons (f2 gSub (f2 gCat (fVar 2) (fC (.int 1))) (f2 gMulT (f2 gMod (fVar 2) (fC (.int 2))) (fC (.int 2)))) fNil)))))
    (eSeq (eFor (lF (iSeqD (fL gLstD (fCons (fVar 3) (fCons (fVar 4) fNil))))) (DL.gName 5) b3_law)
    (eRet (mAndV (mCall m_law_kept (lF (fCons (fVar 3) (fCons (fVar 1) (fCons (fVar 2) fNil))))) (mCall m_law_kept (lF (fCons (fVar 4) (fCons (f1 gRevS (fVar 1)) (fCons (f2 gSub (f2 gCat (fVar 2) (fC (.int 1))) (f2 gMulT (f2 gMod (fVar 2) (fC (.int 2))) (fC (.int 2)))) fNil))))))))))))
noncomputable def m_law : List D → MS D := mirE 1 7 g_law
theorem body_law (T : Txt K mg) (f : Addr) (cdv : Value) (A : Around) (outer : List Env) (s : Shared) (H : Hp) (E : XK) (hr : Room 4 (A.deeper (PyProof.Rows.envOfC "law" (defScope s_law) s.heap.objs.size f cdv))) :
    MSs (cxOf CX0 P w K mg base ["_law_script", "_law_name", "_law_number", "_law_one", "_law_other", "_law_some", "_law_place"] "law" (defScope s_law) f cdv A outer s H E).nox [] [] [] (defBody s_law) g_law :=
  (mss_cons (ms_pure (ds_set (i := 1) sc_law.nd (de_slice de_str do_none (do_some (de_op op_addC opd_cat de_int (de_op op_mod opd_mod (de_call (ok_law_cell_at T) (hr.mono (by decide)) (da_cons (de_var 0) (da_cons de_int da_nil))) de_int))))))
    (mss_cons (ms_pure (ds_set (i := 2) sc_law.nd (de_op op_mod opd_mod (de_call (ok_law_cell_at T) (hr.mono (by decide)) (da_cons (de_var 0) (da_cons de_int da_nil))) (de_op op_pow opd_pow de_int de_int))))
    (mss_cons (ms_set (i := 3) sc_law.nd (me_call (ok_law_all T) (hr.mono (by decide)) (ma_pure (da_cons (de_var 1) (da_cons (de_var 2) da_nil)))))
    (mss_cons (ms_set (i := 4) sc_law.nd (me_call (ok_law_all T) (hr.mono (by decide)) (ma_pure (da_cons (de_revS (de_var 1)) (da_cons (de_op op_sub opd_sub (de_op op_addC opd_cat (de_var 2) de_int) (de_op op_mulT opd_mulT (de_op op_mod opd_mod (de_var 2) de_int) de_int)) da_nil)))))
    (mss_cons (ms_for PassesOwn.never rfl (mi_pure (di_seq (de_lst (da_cons (de_var 3) (da_cons (de_var 4) da_nil))))) (dg_name (i := 5) sc_law.nd) (mss_one (ms_for PassesOwn.never rfl (mi_pure (di_range rfl T.b_range (da_cons de_int da_nil))) (dg_name (i := 6) sc_law.nd) (mss_cons (ms_if (MW.mt (mw_or (mt_not (mt_val (me_isB T.errs T.b_isinstance (me_pure (de_ix ix_seq opd_ix (de_var 5) (de_var 6)))))) (mw_or1 (mt_not (mt_val (me_isV T.errs T.b_isinstance T.b_ValueError (me_pure (de_ix ix_seq opd_ix (de_var 5) (de_var 6))))))))) (mss_one (ms_pure (ds_ret de_bl))) mss_nil)
    (mss_one (ms_if (mt_cmp (op_neD (hu30 hr)) opd_ne (me_call (ok_law_kinds T) (hr.mono (by decide)) (ma_pure (da_cons (de_ix ix_seq opd_ix (de_var 5) (de_var 6)) da_nil))) (me_pure (de_comp (own := ["_law_k"]) (caps := [("_law_place", 6)]) rfl (caps_of (N := ["_law_script", "_law_name", "_law_number", "_law_one", "_law_other", "_law_some", "_law_place"]) (osc := defScope s_law) rfl rfl rfl (by decide +kernel)) (di_range rfl T.b_range (da_cons de_int da_nil)) (fun _ _ _ _ => (dg_name (i := 0) (show (["_law_k", "_law_place"] : List Str).Nodup from by decide +kernel))) (fun _ _ _ _ => dc_none) (fun _ _ _ _ => (de_cmp (op_eqD (hu30 hr)) opd_eq (de_var 1) (de_var 0) (nomark _))))) (nomark _)) (mss_one (ms_pure (ds_ret de_bl))) mss_nil))))))
    (mss_one (ms_ret (me_and (me_call (ok_law_kept T) (hr.mono (by decide)) (ma_pure (da_cons (de_var 3) (da_cons (de_var 1) (da_cons (de_var 2) da_nil))))) (me_one (me_call (ok_law_kept T) (hr.mono (by decide)) (ma_pure (da_cons (de_var 4) (da_cons (de_revS (de_var 1)) (da_cons (de_op op_sub opd_sub (de_op op_addC opd_cat (de_var 2) de_int) (de_op op_mulT opd_mulT (de_op op_mod opd_mod (de_var 2) de_int) de_int)) da_nil))))))))))))))
end
theorem lcons {us : List Value} {n : Nat} (h : us.length = n + 1) : ∃ a r, us = a :: r ∧ r.length = n := by
  cases us with
  | nil => cases h
  | cons a r => exact ⟨a, r, rfl, Nat.succ.inj h⟩
theorem alls1 {fd : FuncData} {p0 : Str} (h : ∀ a0 : Value, bindArgs fd ⟨[a0], []⟩ = pure ([p0].zip [a0])) (us : List Value) (hl : us.length = ([p0] : List Str).length) : bindArgs fd ⟨us, []⟩ = pure ([p0].zip us) := by
  obtain ⟨a0, r0, rfl, q0⟩ := lcons hl
  cases List.eq_nil_of_length_eq_zero q0
  exact h a0
theorem alls2 {fd : FuncData} {p0 p1 : Str} (h : ∀ a0 a1 : Value, bindArgs fd ⟨[a0, a1], []⟩ = pure ([p0, p1].zip [a0, a1])) (us : List Value) (hl : us.length = ([p0, p1] : List Str).length) : bindArgs fd ⟨us, []⟩ = pure ([p0, p1].zip us) := by
  obtain ⟨a0, r0, rfl, q0⟩ := lcons hl
  obtain ⟨a1, r1, rfl, q1⟩ := lcons q0
  cases List.eq_nil_of_length_eq_zero q1
  exact h a0 a1
theorem alls3 {fd : FuncData} {p0 p1 p2 : Str} (h : ∀ a0 a1 a2 : Value, bindArgs fd ⟨[a0, a1, a2], []⟩ = pure ([p0, p1, p2].zip [a0, a1, a2])) (us : List Value) (hl : us.length = ([p0, p1, p2] : List Str).length) : bindArgs fd ⟨us, []⟩ = pure ([p0, p1, p2].zip us) := by
  obtain ⟨a0, r0, rfl, q0⟩ := lcons hl
  obtain ⟨a1, r1, rfl, q1⟩ := lcons q0
  obtain ⟨a2, r2, rfl, q2⟩ := lcons q1
  cases List.eq_nil_of_length_eq_zero q2
  exact h a0 a1 a2
theorem txt_mk {K : PySem.W.Frag} {h : Heap} {mg : Str → Option Value} (X : K.In h) (G : h.Ns mainGlobals mg)
    {C_BookError : Addr}
    {C_Broken : Addr}
    {C_Folded : Addr}
    {C_NoBook : Addr}
    {C_NoDeed : Addr}
    {C_NoLine : Addr}
    {C_NoName : Addr}
    {C_NoPaper : Addr}
    {C_NoRule : Addr}
    {C_NoText : Addr}
    {C_NotPlain : Addr}
    {C_OutOfRange : Addr}
    {C_ShortShare : Addr}
    {f0 : Addr} {oc0 kV0 dc0 pm0 cd0 ct0 : Value} {od0 an0 : Option Addr} {sl0 : Array (Option Value)}
    {f1 : Addr} {oc1 kV1 dc1 pm1 cd1 ct1 : Value} {od1 an1 : Option Addr} {sl1 : Array (Option Value)}
    {f2 : Addr} {oc2 kV2 dc2 pm2 cd2 ct2 : Value} {od2 an2 : Option Addr} {sl2 : Array (Option Value)}
    {f3 : Addr} {oc3 kV3 dc3 pm3 cd3 ct3 : Value} {od3 an3 : Option Addr} {sl3 : Array (Option Value)}
    {f4 : Addr} {oc4 kV4 dc4 pm4 cd4 ct4 : Value} {od4 an4 : Option Addr} {sl4 : Array (Option Value)}
    {f5 : Addr} {oc5 kV5 dc5 pm5 cd5 ct5 : Value} {od5 an5 : Option Addr} {sl5 : Array (Option Value)}
    {f6 : Addr} {oc6 kV6 dc6 pm6 cd6 ct6 : Value} {od6 an6 : Option Addr} {sl6 : Array (Option Value)}
    {f7 : Addr} {oc7 kV7 dc7 pm7 cd7 ct7 : Value} {od7 an7 : Option Addr} {sl7 : Array (Option Value)}
    {f8 : Addr} {oc8 kV8 dc8 pm8 cd8 ct8 : Value} {od8 an8 : Option Addr} {sl8 : Array (Option Value)}
    {f9 : Addr} {oc9 kV9 dc9 pm9 cd9 ct9 : Value} {od9 an9 : Option Addr} {sl9 : Array (Option Value)}
    {f10 : Addr} {oc10 kV10 dc10 pm10 cd10 ct10 : Value} {od10 an10 : Option Addr} {sl10 : Array (Option Value)}
    {f11 : Addr} {oc11 kV11 dc11 pm11 cd11 ct11 : Value} {od11 an11 : Option Addr} {sl11 : Array (Option Value)}
    {f12 : Addr} {oc12 kV12 dc12 pm12 cd12 ct12 : Value} {od12 an12 : Option Addr} {sl12 : Array (Option Value)}
    {f13 : Addr} {oc13 kV13 dc13 pm13 cd13 ct13 : Value} {od13 an13 : Option Addr} {sl13 : Array (Option Value)}
    {f14 : Addr} {oc14 kV14 dc14 pm14 cd14 ct14 : Value} {od14 an14 : Option Addr} {sl14 : Array (Option Value)}
    (ca_BookError : PySem.W.nsIn K mainGlobals "BookError" = some (some (.ref C_BookError)))
    (ca_Broken : PySem.W.nsIn K mainGlobals "Broken" = some (some (.ref C_Broken)))
    (ca_Folded : PySem.W.nsIn K mainGlobals "Folded" = some (some (.ref C_Folded)))
    (ca_NoBook : PySem.W.nsIn K mainGlobals "NoBook" = some (some (.ref C_NoBook)))
    (ca_NoDeed : PySem.W.nsIn K mainGlobals "NoDeed" = some (some (.ref C_NoDeed)))
    (ca_NoLine : PySem.W.nsIn K mainGlobals "NoLine" = some (some (.ref C_NoLine)))
    (ca_NoName : PySem.W.nsIn K mainGlobals "NoName" = some (some (.ref C_NoName)))
    (ca_NoPaper : PySem.W.nsIn K mainGlobals "NoPaper" = some (some (.ref C_NoPaper)))
    (ca_NoRule : PySem.W.nsIn K mainGlobals "NoRule" = some (some (.ref C_NoRule)))
    (ca_NoText : PySem.W.nsIn K mainGlobals "NoText" = some (some (.ref C_NoText)))
    (ca_NotPlain : PySem.W.nsIn K mainGlobals "NotPlain" = some (some (.ref C_NotPlain)))
    (ca_OutOfRange : PySem.W.nsIn K mainGlobals "OutOfRange" = some (some (.ref C_OutOfRange)))
    (ca_ShortShare : PySem.W.nsIn K mainGlobals "ShortShare" = some (some (.ref C_ShortShare)))
    (tab : xTab K [("Broken", C_Broken), ("Folded", C_Folded), ("NoBook", C_NoBook), ("NoDeed", C_NoDeed), ("NoLine", C_NoLine), ("NoName", C_NoName), ("NoPaper", C_NoPaper), ("NoRule", C_NoRule), ("NoText", C_NoText), ("NotPlain", C_NotPlain), ("OutOfRange", C_OutOfRange), ("ShortShare", C_ShortShare)] C_BookError xfs = true)
    (ni_Folded : xNoI K C_Folded = true)
    (ni_NoBook : xNoI K C_NoBook = true)
    (ni_OutOfRange : xNoI K C_OutOfRange = true)
    (a0 : PySem.W.findIn K (.ref C_Broken) "__init__" = some (some (.ref f0)))
    (b0 : PySem.W.isFn K (.ref f0) = true)
    (l0 : K.lookup f0 = some ⟨oc0, od0, .func (PySem.W.fnOf "__init__" "Broken.__init__" (defArgs s_Broken_init__) (defBody s_Broken_init__) (defScope s_Broken_init__) .none kV0 dc0 pm0 an0 cd0 ct0), sl0⟩)
    (c0 : PySem.W.codeIn K cd0 "Broken.__init__" = true)
    (k0 : PySem.W.keepIn K (.ref f0) = true)
    (a1 : PySem.W.findIn K (.ref C_NoDeed) "__init__" = some (some (.ref f1)))
    (b1 : PySem.W.isFn K (.ref f1) = true)
    (l1 : K.lookup f1 = some ⟨oc1, od1, .func (PySem.W.fnOf "__init__" "NoDeed.__init__" (defArgs s_NoDeed_init__) (defBody s_NoDeed_init__) (defScope s_NoDeed_init__) .none kV1 dc1 pm1 an1 cd1 ct1), sl1⟩)
    (c1 : PySem.W.codeIn K cd1 "NoDeed.__init__" = true)
    (k1 : PySem.W.keepIn K (.ref f1) = true)
    (a2 : PySem.W.findIn K (.ref C_NoLine) "__init__" = some (some (.ref f2)))
    (b2 : PySem.W.isFn K (.ref f2) = true)
    (l2 : K.lookup f2 = some ⟨oc2, od2, .func (PySem.W.fnOf "__init__" "NoLine.__init__" (defArgs s_NoLine_init__) (defBody s_NoLine_init__) (defScope s_NoLine_init__) .none kV2 dc2 pm2 an2 cd2 ct2), sl2⟩)
    (c2 : PySem.W.codeIn K cd2 "NoLine.__init__" = true)
    (k2 : PySem.W.keepIn K (.ref f2) = true)
    (a3 : PySem.W.findIn K (.ref C_NoName) "__init__" = some (some (.ref f3)))
    (b3 : PySem.W.isFn K (.ref f3) = true)
    (l3 : K.lookup f3 = some ⟨oc3, od3, .func (PySem.W.fnOf "__init__" "NoName.__init__" (defArgs s_NoName_init__) (defBody s_NoName_init__) (defScope s_NoName_init__) .none kV3 dc3 pm3 an3 cd3 ct3), sl3⟩)
    (c3 : PySem.W.codeIn K cd3 "NoName.__init__" = true)
    (k3 : PySem.W.keepIn K (.ref f3) = true)
    (a4 : PySem.W.findIn K (.ref C_NoPaper) "__init__" = some (some (.ref f4)))
    (b4 : PySem.W.isFn K (.ref f4) = true)
    (l4 : K.lookup f4 = some ⟨oc4, od4, .func (PySem.W.fnOf "__init__" "NoPaper.__init__" (defArgs s_NoPaper_init__) (defBody s_NoPaper_init__) (defScope s_NoPaper_init__) .none kV4 dc4 pm4 an4 cd4 ct4), sl4⟩)
    (c4 : PySem.W.codeIn K cd4 "NoPaper.__init__" = true)
    (k4 : PySem.W.keepIn K (.ref f4) = true)
    (a5 : PySem.W.findIn K (.ref C_NoRule) "__init__" = some (some (.ref f5)))
    (b5 : PySem.W.isFn K (.ref f5) = true)
    (l5 : K.lookup f5 = some ⟨oc5, od5, .func (PySem.W.fnOf "__init__" "NoRule.__init__" (defArgs s_NoRule_init__) (defBody s_NoRule_init__) (defScope s_NoRule_init__) .none kV5 dc5 pm5 an5 cd5 ct5), sl5⟩)
    (c5 : PySem.W.codeIn K cd5 "NoRule.__init__" = true)
    (k5 : PySem.W.keepIn K (.ref f5) = true)
    (a6 : PySem.W.findIn K (.ref C_NotPlain) "__init__" = some (some (.ref f6)))
    (b6 : PySem.W.isFn K (.ref f6) = true)
    (l6 : K.lookup f6 = some ⟨oc6, od6, .func (PySem.W.fnOf "__init__" "NotPlain.__init__" (defArgs s_NotPlain_init__) (defBody s_NotPlain_init__) (defScope s_NotPlain_init__) .none kV6 dc6 pm6 an6 cd6 ct6), sl6⟩)
    (c6 : PySem.W.codeIn K cd6 "NotPlain.__init__" = true)
    (k6 : PySem.W.keepIn K (.ref f6) = true)
    (a7 : PySem.W.findIn K (.ref C_NoText) "__init__" = some (some (.ref f7)))
    (b7 : PySem.W.isFn K (.ref f7) = true)
    (l7 : K.lookup f7 = some ⟨oc7, od7, .func (PySem.W.fnOf "__init__" "NoText.__init__" (defArgs s_NoText_init__) (defBody s_NoText_init__) (defScope s_NoText_init__) .none kV7 dc7 pm7 an7 cd7 ct7), sl7⟩)
    (c7 : PySem.W.codeIn K cd7 "NoText.__init__" = true)
    (k7 : PySem.W.keepIn K (.ref f7) = true)
    (a8 : PySem.W.findIn K (.ref C_ShortShare) "__init__" = some (some (.ref f8)))
    (b8 : PySem.W.isFn K (.ref f8) = true)
    (l8 : K.lookup f8 = some ⟨oc8, od8, .func (PySem.W.fnOf "__init__" "ShortShare.__init__" (defArgs s_ShortShare_init__) (defBody s_ShortShare_init__) (defScope s_ShortShare_init__) .none kV8 dc8 pm8 an8 cd8 ct8), sl8⟩)
    (c8 : PySem.W.codeIn K cd8 "ShortShare.__init__" = true)
    (k8 : PySem.W.keepIn K (.ref f8) = true)
    (a9 : PySem.W.nsIn K mainGlobals "_law_all" = some (some (.ref f9)))
    (l9 : K.lookup f9 = some ⟨oc9, od9, .func (PySem.W.fnOf "_law_all" "_law_all" (defArgs s_law_all) (defBody s_law_all) (defScope s_law_all) .none kV9 dc9 pm9 an9 cd9 ct9), sl9⟩)
    (c9 : PySem.W.codeIn K cd9 "_law_all" = true)
    (k9 : PySem.W.keepIn K (.ref f9) = true)
    (a10 : PySem.W.nsIn K mainGlobals "_law_cell_at" = some (some (.ref f10)))
    (l10 : K.lookup f10 = some ⟨oc10, od10, .func (PySem.W.fnOf "_law_cell_at" "_law_cell_at" (defArgs s_law_cell_at) (defBody s_law_cell_at) (defScope s_law_cell_at) .none kV10 dc10 pm10 an10 cd10 ct10), sl10⟩)
    (c10 : PySem.W.codeIn K cd10 "_law_cell_at" = true)
    (k10 : PySem.W.keepIn K (.ref f10) = true)
    (a11 : PySem.W.nsIn K mainGlobals "_law_whole" = some (some (.ref f11)))
    (l11 : K.lookup f11 = some ⟨oc11, od11, .func (PySem.W.fnOf "_law_whole" "_law_whole" (defArgs s_law_whole) (defBody s_law_whole) (defScope s_law_whole) .none kV11 dc11 pm11 an11 cd11 ct11), sl11⟩)
    (c11 : PySem.W.codeIn K cd11 "_law_whole" = true)
    (k11 : PySem.W.keepIn K (.ref f11) = true)
    (a12 : PySem.W.nsIn K mainGlobals "_law_kept" = some (some (.ref f12)))
    (l12 : K.lookup f12 = some ⟨oc12, od12, .func (PySem.W.fnOf "_law_kept" "_law_kept" (defArgs s_law_kept) (defBody s_law_kept) (defScope s_law_kept) .none kV12 dc12 pm12 an12 cd12 ct12), sl12⟩)
    (c12 : PySem.W.codeIn K cd12 "_law_kept" = true)
    (k12 : PySem.W.keepIn K (.ref f12) = true)
    (a13 : PySem.W.nsIn K mainGlobals "_law_kinds" = some (some (.ref f13)))
    (l13 : K.lookup f13 = some ⟨oc13, od13, .func (PySem.W.fnOf "_law_kinds" "_law_kinds" (defArgs s_law_kinds) (defBody s_law_kinds) (defScope s_law_kinds) .none kV13 dc13 pm13 an13 cd13 ct13), sl13⟩)
    (c13 : PySem.W.codeIn K cd13 "_law_kinds" = true)
    (k13 : PySem.W.keepIn K (.ref f13) = true)
    (a14 : PySem.W.nsIn K mainGlobals "law" = some (some (.ref f14)))
    (l14 : K.lookup f14 = some ⟨oc14, od14, .func (PySem.W.fnOf "law" "law" (defArgs s_law) (defBody s_law) (defScope s_law) .none kV14 dc14 pm14 an14 cd14 ct14), sl14⟩)
    (c14 : PySem.W.codeIn K cd14 "law" = true)
    (k14 : PySem.W.keepIn K (.ref f14) = true)
    (z0 : PySem.W.nsIn K mainGlobals "ValueError" = some none)
    (z1 : PySem.W.nsIn K mainGlobals "bool" = some none)
    (z2 : PySem.W.nsIn K mainGlobals "int" = some none)
    (z3 : PySem.W.nsIn K mainGlobals "isinstance" = some none)
    (z4 : PySem.W.nsIn K mainGlobals "len" = some none)
    (z5 : PySem.W.nsIn K mainGlobals "range" = some none) : Txt K mg := by
  have errs : ErrT K mg xcs xfs "BookError" := errT_mk (es := [("Broken", C_Broken), ("Folded", C_Folded), ("NoBook", C_NoBook), ("NoDeed", C_NoDeed), ("NoLine", C_NoLine), ("NoName", C_NoName), ("NoPaper", C_NoPaper), ("NoRule", C_NoRule), ("NoText", C_NoText), ("NotPlain", C_NotPlain), ("OutOfRange", C_OutOfRange), ("ShortShare", C_ShortShare)]) (List.forall_mem_cons.mpr ⟨PySem.W.mg_of X G ca_Broken, (List.forall_mem_cons.mpr ⟨PySem.W.mg_of X G ca_Folded, (List.forall_mem_cons.mpr ⟨PySem.W.mg_of X G ca_NoBook, (List.forall_mem_cons.mpr ⟨PySem.W.mg_of X G ca_NoDeed, (List.forall_mem_cons.mpr ⟨PySem.W.mg_of X G ca_NoLine, (List.forall_mem_cons.mpr ⟨PySem.W.mg_of X G ca_NoName, (List.forall_mem_cons.mpr ⟨PySem.W.mg_of X G ca_NoPaper, (List.forall_mem_cons.mpr ⟨PySem.W.mg_of X G ca_NoRule, (List.forall_mem_cons.mpr ⟨PySem.W.mg_of X G ca_NoText, (List.forall_mem_cons.mpr ⟨PySem.W.mg_of X G ca_NotPlain, (List.forall_mem_cons.mpr ⟨PySem.W.mg_of X G ca_OutOfRange, (List.forall_mem_cons.mpr ⟨PySem.W.mg_of X G ca_ShortShare, (List.forall_mem_nil _)⟩)⟩)⟩)⟩)⟩)⟩)⟩)⟩)⟩)⟩)⟩)⟩) (PySem.W.mg_of X G ca_BookError) tab
  exact ⟨errs,
   ⟨_, PySem.W.mg_of X G ca_Folded, errs.cls "Folded" (List.contains_iff_mem.mp rfl) _ (PySem.W.mg_of X G ca_Folded), ni_Folded⟩,
   ⟨_, PySem.W.mg_of X G ca_NoBook, errs.cls "NoBook" (List.contains_iff_mem.mp rfl) _ (PySem.W.mg_of X G ca_NoBook), ni_NoBook⟩,
   ⟨_, PySem.W.mg_of X G ca_OutOfRange, errs.cls "OutOfRange" (List.contains_iff_mem.mp rfl) _ (PySem.W.mg_of X G ca_OutOfRange), ni_OutOfRange⟩,
   iniXAt_mk X G (fun _ _ _ _ _ _ => alls2 (fun _ _ => rfl)) (PySem.W.mg_of X G ca_Broken) (errs.cls "Broken" (List.contains_iff_mem.mp rfl) _ (PySem.W.mg_of X G ca_Broken)) a0 b0 l0 c0 k0,
   iniXAt_mk X G (fun _ _ _ _ _ _ => alls2 (fun _ _ => rfl)) (PySem.W.mg_of X G ca_NoDeed) (errs.cls "NoDeed" (List.contains_iff_mem.mp rfl) _ (PySem.W.mg_of X G ca_NoDeed)) a1 b1 l1 c1 k1,
   iniXAt_mk X G (fun _ _ _ _ _ _ => alls2 (fun _ _ => rfl)) (PySem.W.mg_of X G ca_NoLine) (errs.cls "NoLine" (List.contains_iff_mem.mp rfl) _ (PySem.W.mg_of X G ca_NoLine)) a2 b2 l2 c2 k2,
   iniXAt_mk X G (fun _ _ _ _ _ _ => alls3 (fun _ _ _ => rfl)) (PySem.W.mg_of X G ca_NoName) (errs.cls "NoName" (List.contains_iff_mem.mp rfl) _ (PySem.W.mg_of X G ca_NoName)) a3 b3 l3 c3 k3,
   iniXAt_mk X G (fun _ _ _ _ _ _ => alls2 (fun _ _ => rfl)) (PySem.W.mg_of X G ca_NoPaper) (errs.cls "NoPaper" (List.contains_iff_mem.mp rfl) _ (PySem.W.mg_of X G ca_NoPaper)) a4 b4 l4 c4 k4,
   iniXAt_mk X G (fun _ _ _ _ _ _ => alls2 (fun _ _ => rfl)) (PySem.W.mg_of X G ca_NoRule) (errs.cls "NoRule" (List.contains_iff_mem.mp rfl) _ (PySem.W.mg_of X G ca_NoRule)) a5 b5 l5 c5 k5,
   iniXAt_mk X G (fun _ _ _ _ _ _ => alls2 (fun _ _ => rfl)) (PySem.W.mg_of X G ca_NotPlain) (errs.cls "NotPlain" (List.contains_iff_mem.mp rfl) _ (PySem.W.mg_of X G ca_NotPlain)) a6 b6 l6 c6 k6,
   iniXAt_mk X G (fun _ _ _ _ _ _ => alls2 (fun _ _ => rfl)) (PySem.W.mg_of X G ca_NoText) (errs.cls "NoText" (List.contains_iff_mem.mp rfl) _ (PySem.W.mg_of X G ca_NoText)) a7 b7 l7 c7 k7,
   iniXAt_mk X G (fun _ _ _ _ _ _ => alls3 (fun _ _ _ => rfl)) (PySem.W.mg_of X G ca_ShortShare) (errs.cls "ShortShare" (List.contains_iff_mem.mp rfl) _ (PySem.W.mg_of X G ca_ShortShare)) a8 b8 l8 c8 k8,
   funAt_mk X G (fun _ _ _ _ _ _ => alls2 (fun _ _ => rfl)) a9 l9 c9 k9,
   funAt_mk X G (fun _ _ _ _ _ _ => alls2 (fun _ _ => rfl)) a10 l10 c10 k10,
   funAt_mk X G (fun _ _ _ _ _ _ => alls1 (fun _ => rfl)) a11 l11 c11 k11,
   funAt_mk X G (fun _ _ _ _ _ _ => alls3 (fun _ _ _ => rfl)) a12 l12 c12 k12,
   funAt_mk X G (fun _ _ _ _ _ _ => alls1 (fun _ => rfl)) a13 l13 c13 k13,
   funAt_mk X G (fun _ _ _ _ _ _ us hl => match us, hl with | [_], _ => rfl) a14 l14 c14 k14,
   PySem.W.mg_none_of X G z0,
   PySem.W.mg_none_of X G z1,
   PySem.W.mg_none_of X G z2,
   PySem.W.mg_none_of X G z3,
   PySem.W.mg_none_of X G z4,
   PySem.W.mg_none_of X G z5⟩
theorem walk {l : PySem.W.OpenLaw} {q : Program} {loose : List Str} {XP : (Str → Option Value) → Heap → Prop} {YP : World → Heap → Prop} {d : DefRec} {K : Params → PySem.W.Frag} (hn : l.most = some 63) (hdf : d.params.defaults = [])
    (hY : ∀ (w : World) (h : Heap), YP w h → (K w.params).In h)
    (F : ∀ (w : World) (mg : Str → Option Value) (fa : Addr) (h : Heap), (K w.params).In h → h.Ns mainGlobals mg → mg d.name = some (.ref fa) → Txt (K w.params) mg ∧ mg "law" = some (.ref fa))
    (hm : ∀ ns : List Int, ns.length ≤ 63 → ∃ Ω, m_law [.lst (ns.map .int)] [] = some (.ok (.bl true), Ω)) :
    PySem.W.WalkO q loose XP YP l.row.toRowW d [] (fun f vs => PySem.call f vs) :=
  L2.walk_of (n := 63) (k := 5) (x := "_law_script") (CX := fun _ => CX0) (sp := fun w => spA (K w.params) 1 m_law) hn (by decide) hdf ⟨rfl, by decide, by decide⟩ hY
    (fun w mg fa h KX G hmg => by
      obtain ⟨T, hf⟩ := F w mg fa h KX G hmg
      obtain ⟨fd, FF, hb⟩ := funAt_law T.f_law hf (fun _ _ _ _ _ _ _ _ => .of_eq rfl)
      exact ⟨fd, hb, fun base _ _ => (fn_E FF sc_law (body_law T)).imp fun vs H Q E z => z mg⟩)
    (fun _ _ a ns hl _ hS => fun mg => let ⟨Ω, e⟩ := hm ns hl; law_spE hS e) fun _ _ _ _ _ z => z
theorem walkX_of {q : Program} {loose : List Str} {XP : (Str → Option Value) → Heap → Prop} {K : Params → PySem.W.Frag} {as : List Addr} {n t : Nat} {r : PySem.W.RowW} {d : DefRec} {kwd : List (Str × Expr)} {run : Value → List Value → Sem Value}
    (he : ∀ P, as = (K P).map (·.1)) (h : PySem.W.WalkO q loose XP (fun w h => (K w.params).In h) r d kwd run) : PySem.W.WalkX q loose XP (PySem.W.X.obsZ as) (PySem.W.X.valZ K n t) r d kwd run := by
  intro w s₀ s₁ mg mb G y a o pm cd doc dV kV ho hd hcd hD hmg hg args vals as' L
  refine h w s₀ s₁ mg mb G ?_ a o pm cd doc dV kV ho hd hcd hD hmg hg args vals as'
  have e : (K w.params).In s₀.heap := (PySem.W.X.z_facts he y).2.1
  exact fun b o' q => L.keeps b o' (e b o' q)
theorem walkZ {l : PySem.W.OpenLaw} {q : Program} {loose : List Str} {XP : (Str → Option Value) → Heap → Prop} {d : DefRec} {K : Params → PySem.W.Frag} {as : List Addr} {n t : Nat} (he : ∀ P, as = (K P).map (·.1)) (hn : l.most = some 63) (hdf : d.params.defaults = [])
    (F : ∀ (w : World) (mg : Str → Option Value) (fa : Addr) (h : Heap), (K w.params).In h → h.Ns mainGlobals mg → mg d.name = some (.ref fa) → Txt (K w.params) mg ∧ mg "law" = some (.ref fa))
    (hm : ∀ ns : List Int, ns.length ≤ 63 → ∃ Ω, m_law [.lst (ns.map .int)] [] = some (.ok (.bl true), Ω)) :
    PySem.W.WalkX q loose XP (PySem.W.X.obsZ as) (PySem.W.X.valZ K n t) l.row.toRowW d [] (fun f vs => PySem.call f vs) :=
  walkX_of he (walk (K := K) hn hdf (fun _ _ y => y) F hm)
end MyLaw
namespace MyLaw
open PySem PySem.Spec L2 DL
noncomputable section
noncomputable def exs (b : Nat) (z n : D) : Sto := [.exc "Broken" (some (b + 1)), .xd [("name", z)], .exc "Folded" none, .exc "NoBook" none, .exc "NoDeed" (some (b + 5)), .xd [("name", z)], .exc "NoLine" (some (b + 7)), .xd [("line", n)],
  .exc "NoName" (some (b + 9)), .xd [("name", z), ("place", n)], .exc "NoPaper" (some (b + 11)), .xd [("line", n)], .exc "NoRule" (some (b + 13)), .xd [("name", z)], .exc "NotPlain" (some (b + 15)), .xd [("place", n)],
  .exc "NoText" (some (b + 17)), .xd [("place", n)], .exc "OutOfRange" none, .exc "ShortShare" (some (b + 20)), .xd [("name", z), ("lack", n)]]
noncomputable def obs (b : Nat) : List D := [.obj b, .obj (b + 2), .obj (b + 3), .obj (b + 4), .obj (b + 6), .obj (b + 8), .obj (b + 10), .obj (b + 12), .obj (b + 14), .obj (b + 16), .obj (b + 18), .obj (b + 19)]
theorem all_1 (z n : D) : m_law_all [z, n] [] = some (.ok (.lst (obs 0)), exs 0 z n) := by kernel_rfl
theorem all_2 (z n z2 n2 : D) : m_law_all [z2, n2] (exs 0 z n) = some (.ok (.lst (obs 21)), exs 0 z n ++ exs 21 z2 n2) := by kernel_rfl
noncomputable abbrev two (z n z2 n2 : D) : Sto := exs 0 z n ++ exs 21 z2 n2
theorem kinds_all (sc y m z n z2 n2 : D) : eFor (lF (iSeqD (fL gLstD (fCons (fVar 3) (fCons (fVar 4) fNil))))) (DL.gName 5) b3_law [some sc, some y, some m, some (.lst (obs 0)), some (.lst (obs 21)), none, none] (two z n z2 n2) =
    some (.ok (.nx [some sc, some y, some m, some (.lst (obs 0)), some (.lst (obs 21)), some (.lst (obs 21)), some (.int 11)]), two z n z2 n2) := by kernel_rfl
theorem ne_str (z : Str) : gNe (.str z) (.str z) = some (.bl false) := ne_same (by unfold okD; rfl) (by unfold depD; omega)
theorem b1_ok {δ : DSt} {Ω : Sto} {z : Str} (h1 : mGetX xcs "name" (lF (f2 gIx (fVar 0) (fVar 3))) δ Ω = some (.ok (.str z), Ω)) (h2 : lF (fVar 1) δ Ω = some (.ok (.str z), Ω)) : b1_law_kept δ Ω = some (.ok (.nx δ), Ω) := by
  have h3 : m2 gNe (mGetX xcs "name" (lF (f2 gIx (fVar 0) (fVar 3)))) (lF (fVar 1)) δ Ω = some (.ok (.bl false), Ω) := by
    unfold m2
    rw [MS.b_ok h1, MS.b_ok h2, ne_str]
    rfl
  unfold b1_law_kept eIf mB
  rw [MS.b_ok (a := false) (Ω1 := Ω) (by rw [MS.b_ok h3]; rfl)]
  rfl
theorem whole_i (n : Int) : m_law_whole [.int n] = some (.ok (.bl true)) := by kernel_rfl
theorem b2_ok (a b d : Option D) (n : Int) (Ω : Sto) : b2_law_kept [a, b, some (.int n), d, some (.int n)] Ω = some (.ok (.nx [a, b, some (.int n), d, some (.int n)]), Ω) := by
  have h : gIf (DL.tOr (DL.tNot (tTru (fCall m_law_whole (fCons (fVar 4) fNil)))) (t2 gNe (fVar 4) (fVar 2))) (gRet (fC (.bl false))) gNx [a, b, some (.int n), d, some (.int n)] = some (.ok (.nx [a, b, some (.int n), d, some (.int n)])) := by
    simp [whole_i]
    rfl
  unfold b2_law_kept lF MS.l
  rw [h]
  rfl
theorem forE_cons {g : DSt → MS Out} {tg : D → DSt → Option DSt} {d : D} {ds : List D} {δ δ1 δ2 : DSt} {Ω Ω1 : Sto} (h1 : tg d δ = some δ1) (h2 : g δ1 Ω = some (.ok (.nx δ2), Ω1)) : forE g tg (d :: ds) δ Ω = forE g tg ds δ2 Ω1 := by
  conv => lhs; unfold forE
  rw [h1]
  dsimp only
  rw [MS.b_ok h2]
theorem eseq {g1 g2 : DSt → MS Out} {δ δ' : DSt} {Ω Ω' : Sto} (h : g1 δ Ω = some (.ok (.nx δ'), Ω')) : eSeq g1 g2 δ Ω = g2 δ' Ω' := by
  unfold eSeq
  rw [MS.b_ok h]
theorem efor {fi : DSt → MS (List D)} {tg : D → DSt → Option DSt} {g : DSt → MS Out} {δ : DSt} {Ω Ω' : Sto} {ds : List D} (h : fi δ Ω = some (.ok ds, Ω')) : eFor fi tg g δ Ω = forE g tg ds δ Ω' := by
  unfold eFor
  rw [MS.b_ok h]
theorem kept_at {b : Nat} {z : Str} {n : Int} {Ω : Sto} (h1 : ∀ k ∈ [0, 3, 5, 7, 11], mGetX xcs "name" (lF (f2 gIx (fVar 0) (fVar 3))) [some (.lst (obs b)), some (.str z), some (.int n), some (.int k), none] Ω = some (.ok (.str z), Ω))
    (h2 : ∀ k, mSeq (mL gLstD (mCons (mGetX xcs "line" (lF (f2 gIx (fVar 0) (fC (.int 4))))) (mCons (mGetX xcs "place" (lF (f2 gIx (fVar 0) (fC (.int 5))))) (mCons (mGetX xcs "line" (lF (f2 gIx (fVar 0) (fC (.int 6))))) (mCons (mGetX xcs "place" (lF (f2 gIx (fVar 0) (fC (.int 8))))) (mCons (mGetX xcs "place" (lF (f2 gIx (fVar 0) (fC (.int 9))))) (mCons (mGetX xcs "lack" (lF (f2 gIx (fVar 0) (fC (.int 11))))) (lF fNil)))))))) [some (.lst (obs b)), some (.str z), some (.int n), k, none] Ω = some (.ok [.int n, .int n, .int n, .int n, .int n, .int n], Ω)) :
    m_law_kept [.lst (obs b), .str z, .int n] Ω = some (.ok (.bl true), Ω) := by
  unfold m_law_kept mirE
  rw [if_pos (show [D.lst (obs b), D.str z, D.int n].length = 3 from rfl)]
  refine (MS.b_ok (a := .rt (.bl true)) (Ω1 := Ω) ?_).trans rfl
  show g_law_kept [some (.lst (obs b)), some (.str z), some (.int n), none, none] Ω = _
  have e1 : ∀ k ∈ [0, 3, 5, 7, 11], b1_law_kept [some (.lst (obs b)), some (.str z), some (.int n), some (.int k), none] Ω = some (.ok (.nx [some (.lst (obs b)), some (.str z), some (.int n), some (.int k), none]), Ω) := fun k hk => b1_ok (h1 k hk) rfl
  unfold g_law_kept
  rw [eseq (δ' := [some (.lst (obs b)), some (.str z), some (.int n), some (.int 11), none]) (Ω' := Ω) ?_]
  · rw [eseq (δ' := [some (.lst (obs b)), some (.str z), some (.int n), some (.int 11), some (.int n)]) (Ω' := Ω) ?_]
    · rfl
    · rw [efor (h2 _), forE_cons rfl (b2_ok _ _ _ _ _), forE_cons rfl (b2_ok _ _ _ _ _), forE_cons rfl (b2_ok _ _ _ _ _), forE_cons rfl (b2_ok _ _ _ _ _), forE_cons rfl (b2_ok _ _ _ _ _), forE_cons rfl (b2_ok _ _ _ _ _)]
      rfl
  · rw [efor (Ω' := Ω) (ds := [.int 0, .int 3, .int 5, .int 7, .int 11]) (by rfl)]
    rw [forE_cons rfl (e1 0 (by decide)), forE_cons rfl (e1 3 (by decide)), forE_cons rfl (e1 5 (by decide)), forE_cons rfl (e1 7 (by decide)), forE_cons rfl (e1 11 (by decide))]
    rfl
theorem mem5 {P : Int → Prop} (h0 : P 0) (h3 : P 3) (h5 : P 5) (h7 : P 7) (h11 : P 11) : ∀ k ∈ [0, 3, 5, 7, 11], P k := fun k hk => by
  simp only [List.mem_cons, List.mem_nil_iff, or_false] at hk
  rcases hk with rfl | rfl | rfl | rfl | rfl <;> assumption
theorem kept_1 (z : Str) (n : Int) (z2 n2 : D) : m_law_kept [.lst (obs 0), .str z, .int n] (two (.str z) (.int n) z2 n2) = some (.ok (.bl true), two (.str z) (.int n) z2 n2) :=
  kept_at (mem5 (by kernel_rfl) (by kernel_rfl) (by kernel_rfl) (by kernel_rfl) (by kernel_rfl)) fun k => by kernel_rfl
theorem kept_2 (z n : D) (z2 : Str) (n2 : Int) : m_law_kept [.lst (obs 21), .str z2, .int n2] (two z n (.str z2) (.int n2)) = some (.ok (.bl true), two z n (.str z2) (.int n2)) :=
  kept_at (mem5 (by kernel_rfl) (by kernel_rfl) (by kernel_rfl) (by kernel_rfl) (by kernel_rfl)) fun k => by kernel_rfl
theorem v_cell (ns : List Int) (k : Int) (h0 : 0 ≤ k) : ∃ i, m_law_cell_at [.lst (ns.map .int), .int k] = some (.ok (.int i)) := by
  unfold m_law_cell_at
  rw [e_mir2]
  unfold g_law_cell_at
  obtain ⟨k, rfl⟩ := Int.eq_ofNat_of_zero_le h0
  by_cases h : k < ns.length
  · refine ⟨ns[k], ?_⟩
    have h2 : ((k : Int) < (ns.length : Int)) := by omega
    simp [h2, DL.atI_get (xs := ns.map D.int) (j := k) (v := .int ns[k]) (by simp [h]), M.p]
  · refine ⟨0, ?_⟩
    have h2 : ¬ ((k : Int) < (ns.length : Int)) := by omega
    simp [h2, M.p]
theorem p1030 : gPow (.int 10) (.int 30) = some (.int 1000000000000000000000000000000) := by rw [pow_int (by decide)]; rfl
noncomputable def nmS (k : Int) : Str := Txt.slice "abcdefghij" none (some (1 + k))
theorem rev_le : ∀ k ∈ [(0 : Int), 1, 2, 3, 4, 5, 6, 7, 8, 9], (revS (nmS k)).length ≤ sizeLine := by decide +kernel
theorem mem10 {c : Int} (h1 : 0 ≤ c) (h2 : c < 10) : c ∈ [(0 : Int), 1, 2, 3, 4, 5, 6, 7, 8, 9] := by
  simp only [List.mem_cons, List.mem_nil_iff, or_false]
  omega
theorem law_true : ∀ ns : List Int, ns.length ≤ 63 → ∃ Ω, m_law [.lst (ns.map .int)] [] = some (.ok (.bl true), Ω) := fun ns _ => by
  obtain ⟨c, hc⟩ := v_cell ns 0 (by decide)
  obtain ⟨d, hd⟩ := v_cell ns 1 (by decide)
  have c1 := Int.emod_nonneg c (show (10 : Int) ≠ 0 by decide)
  have c2 := Int.emod_lt_of_pos c (show (0 : Int) < 10 by decide)
  have hl := rev_le _ (mem10 c1 c2)
  generalize hz : nmS (c % 10) = z at hl
  generalize hn : d % 1000000000000000000000000000000 = n
  have s1 : gSet 1 (fSl (fC (.str "abcdefghij")) oNone (oSome (f2 gCat (fC (.int 1)) (f2 gMod (fCall m_law_cell_at (fCons (fVar 0) (fCons (fC (.int 0)) fNil))) (fC (.int 10)))))) [some (.lst (ns.map .int)), none, none, none, none, none, none] = some (.ok (.nx [some (.lst (ns.map .int)), some (.str z), none, none, none, none, none])) := by
    refine w_set 1 (d := .str z) ?_
    have h1 : f2 gCat (fC (.int 1)) (f2 gMod (fCall m_law_cell_at (fCons (fVar 0) (fCons (fC (.int 0)) fNil))) (fC (.int 10))) [some (.lst (ns.map .int)), none, none, none, none, none, none] = some (.ok (.int (1 + c % 10))) := by
      simp [hc, mod_int (i := c) (j := 10) (by decide)]
      rfl
    have h2 : oSome (f2 gCat (fC (.int 1)) (f2 gMod (fCall m_law_cell_at (fCons (fVar 0) (fCons (fC (.int 0)) fNil))) (fC (.int 10)))) [some (.lst (ns.map .int)), none, none, none, none, none, none] = some (.ok (some (1 + c % 10))) := by
      unfold oSome
      rw [h1]
      rfl
    show M.b (some (.ok (D.str "abcdefghij"))) (fun x => M.b (some (.ok (none : Option Int))) fun lo => M.b (oSome (f2 gCat (fC (.int 1)) (f2 gMod (fCall m_law_cell_at (fCons (fVar 0) (fCons (fC (.int 0)) fNil))) (fC (.int 10)))) [some (.lst (ns.map .int)), none, none, none, none, none, none]) fun hi => M.o (cutD x lo hi)) = _
    rw [M.b_ok, M.b_ok, h2, M.b_ok, ← hz]
    show M.o (if (Str.ofString "abcdefghij").length ≤ sizeLine then some (D.str (Txt.slice "abcdefghij" none (some (1 + c % 10)))) else none) = _
    rw [if_pos (by decide +kernel)]
    rfl
  have s2 : gSet 2 (f2 gMod (fCall m_law_cell_at (fCons (fVar 0) (fCons (fC (.int 1)) fNil))) (f2 gPow (fC (.int 10)) (fC (.int 30)))) [some (.lst (ns.map .int)), some (.str z), none, none, none, none, none] = some (.ok (.nx [some (.lst (ns.map .int)), some (.str z), some (.int n), none, none, none, none])) := by
    simp [hd, p1030, mod_int (i := d) (j := 1000000000000000000000000000000) (by decide), hn]
    rfl
  have m1 := Int.emod_nonneg n (show (2 : Int) ≠ 0 by decide)
  have m2 := Int.emod_lt_of_pos n (show (0 : Int) < 2 by decide)
  have e2 : gMulT (.int (n % 2)) (.int 2) = some (.int (n % 2 * 2)) := mulT_bt (a := 2) (b := 2) (by unfold Bt; omega) (by unfold Bt; decide)
  have hg : ∀ a b c d : Option D, f2 gSub (f2 gCat (fVar 2) (fC (.int 1))) (f2 gMulT (f2 gMod (fVar 2) (fC (.int 2))) (fC (.int 2))) [some (.lst (ns.map .int)), some (.str z), some (.int n), a, b, c, d] = some (.ok (.int (n + 1 - n % 2 * 2))) := fun a b c d => by
    simp [mod_int (i := n) (j := 2) (by decide), e2]
    rfl
  generalize n + 1 - n % 2 * 2 = n2 at hg
  have hr : gRevS (.str z) = some (.str (revS z)) := if_pos hl
  have a2 : ∀ a b c d : Option D, fCons (f1 gRevS (fVar 1)) (fCons (f2 gSub (f2 gCat (fVar 2) (fC (.int 1))) (f2 gMulT (f2 gMod (fVar 2) (fC (.int 2))) (fC (.int 2)))) fNil) [some (.lst (ns.map .int)), some (.str z), some (.int n), a, b, c, d] = some (.ok [.str (revS z), .int n2]) := fun a b c d => by
    rw [e_cons, e_cons, hg a b c d, M.b_ok]
    simp [hr]
    rfl
  have a3 : ∀ a c d : Option D, fCons (fVar 4) (fCons (f1 gRevS (fVar 1)) (fCons (f2 gSub (f2 gCat (fVar 2) (fC (.int 1))) (f2 gMulT (f2 gMod (fVar 2) (fC (.int 2))) (fC (.int 2)))) fNil)) [some (.lst (ns.map .int)), some (.str z), some (.int n), a, some (.lst (obs 21)), c, d] = some (.ok [.lst (obs 21), .str (revS z), .int n2]) := fun a c d => by
    rw [e_cons, a2 a _ c d]
    rfl
  refine ⟨two (.str z) (.int n) (.str (revS z)) (.int n2), ?_⟩
  unfold m_law mirE
  rw [if_pos (show [D.lst (ns.map .int)].length = 1 from rfl)]
  refine (MS.b_ok (a := .rt (.bl true)) (Ω1 := two (.str z) (.int n) (.str (revS z)) (.int n2)) ?_).trans rfl
  show g_law [some (.lst (ns.map .int)), none, none, none, none, none, none] [] = _
  unfold g_law
  rw [eseq (Ω' := []) (by unfold lF MS.l; rw [s1]; rfl), eseq (Ω' := []) (by unfold lF MS.l; rw [s2]; rfl)]
  rw [eseq (δ' := [some (.lst (ns.map .int)), some (.str z), some (.int n), some (.lst (obs 0)), none, none, none]) (Ω' := exs 0 (.str z) (.int n)) (by
    unfold eSet mCall
    rw [MS.b_ok (a := .lst (obs 0)) (Ω1 := exs 0 (.str z) (.int n)) (by rw [MS.b_ok (a := [.str z, .int n]) (Ω1 := []) rfl]; exact all_1 _ _)]
    rfl)]
  rw [eseq (δ' := [some (.lst (ns.map .int)), some (.str z), some (.int n), some (.lst (obs 0)), some (.lst (obs 21)), none, none]) (Ω' := two (.str z) (.int n) (.str (revS z)) (.int n2)) (by
    unfold eSet mCall
    rw [MS.b_ok (a := .lst (obs 21)) (Ω1 := two (.str z) (.int n) (.str (revS z)) (.int n2)) (by rw [MS.b_ok (a := [.str (revS z), .int n2]) (Ω1 := exs 0 (.str z) (.int n)) (by unfold lF MS.l; rw [a2]; rfl)]; exact all_2 _ _ _ _)]
    rfl)]
  rw [eseq (kinds_all _ _ _ _ _ _ _)]
  unfold eRet
  rw [MS.b_ok (a := .bl true) (Ω1 := two (.str z) (.int n) (.str (revS z)) (.int n2)) ?_]
  · rfl
  · unfold mAndV mCall
    rw [MS.b_ok (a := .bl true) (Ω1 := two (.str z) (.int n) (.str (revS z)) (.int n2)) (by rw [MS.b_ok (a := [.lst (obs 0), .str z, .int n]) (Ω1 := two (.str z) (.int n) (.str (revS z)) (.int n2)) rfl]; exact kept_1 _ _ _ _)]
    dsimp only
    rw [MS.b_ok (a := [.lst (obs 21), .str (revS z), .int n2]) (Ω1 := two (.str z) (.int n) (.str (revS z)) (.int n2)) (by unfold lF MS.l; rw [a3]; rfl)]
    exact kept_2 _ _ _ _
end
end MyLaw
set_option maxRecDepth 100000 in
set_option maxHeartbeats 0 in
theorem PySem.Challenge.cw_apartbook_k07_refusals_made_by_hand_holds : PySem.Challenge.rw_apartbook_k07_refusals_made_by_hand.Holds := by
  w_on; o_law; z_head; (case hw => w_witness2)
  k_fill
  refine MyLaw.walkZ (l := PySem.Challenge.rw_apartbook_k07_refusals_made_by_hand) (fun P => rfl) rfl rfl ?F MyLaw.law_true
  case F =>
    intro w mg fa h KX G hmg
    refine' ⟨?T, hmg⟩
    case T =>
      refine' MyLaw.txt_mk KX G ?ca_BookError ?ca_Broken ?ca_Folded ?ca_NoBook ?ca_NoDeed ?ca_NoLine ?ca_NoName ?ca_NoPaper ?ca_NoRule ?ca_NoText ?ca_NotPlain ?ca_OutOfRange ?ca_ShortShare ?tab ?ni_Folded ?ni_NoBook ?ni_OutOfRange ?a0 ?b0 ?l0 ?c0 ?k0 ?a1 ?b1 ?l1 ?c1 ?k1 ?a2 ?b2 ?l2 ?c2 ?k2 ?a3 ?b3 ?l3 ?c3 ?k3 ?a4 ?b4 ?l4 ?c4 ?k4 ?a5 ?b5 ?l5 ?c5 ?k5 ?a6 ?b6 ?l6 ?c6 ?k6 ?a7 ?b7 ?l7 ?c7 ?k7 ?a8 ?b8 ?l8 ?c8 ?k8 ?a9 ?l9 ?c9 ?k9 ?a10 ?l10 ?c10 ?k10 ?a11 ?l11 ?c11 ?k11 ?a12 ?l12 ?c12 ?k12 ?a13 ?l13 ?c13 ?k13 ?a14 ?l14 ?c14 ?k14 ?z0 ?z1 ?z2 ?z3 ?z4 ?z5
      (case ca_BookError => k_is); (case ca_Broken => k_is); (case ca_Folded => k_is); (case ca_NoBook => k_is); (case ca_NoDeed => k_is); (case ca_NoLine => k_is); (case ca_NoName => k_is); (case ca_NoPaper => k_is)
      (case ca_NoRule => k_is); (case ca_NoText => k_is); (case ca_NotPlain => k_is); (case ca_OutOfRange => k_is); (case ca_ShortShare => k_is); (case tab => kernel_rfl); (case ni_Folded => kernel_rfl); (case ni_NoBook => kernel_rfl)
      (case ni_OutOfRange => kernel_rfl); (case a0 => k_is); (case b0 => k_is); (case l0 => k_is); (case c0 => k_is); (case k0 => k_is); (case a1 => k_is); (case b1 => k_is)
      (case l1 => k_is); (case c1 => k_is); (case k1 => k_is); (case a2 => k_is); (case b2 => k_is); (case l2 => k_is); (case c2 => k_is); (case k2 => k_is)
      (case a3 => k_is); (case b3 => k_is); (case l3 => k_is); (case c3 => k_is); (case k3 => k_is); (case a4 => k_is); (case b4 => k_is); (case l4 => k_is)
      (case c4 => k_is); (case k4 => k_is); (case a5 => k_is); (case b5 => k_is); (case l5 => k_is); (case c5 => k_is); (case k5 => k_is); (case a6 => k_is)
      (case b6 => k_is); (case l6 => k_is); (case c6 => k_is); (case k6 => k_is); (case a7 => k_is); (case b7 => k_is); (case l7 => k_is); (case c7 => k_is)
      (case k7 => k_is); (case a8 => k_is); (case b8 => k_is); (case l8 => k_is); (case c8 => k_is); (case k8 => k_is); (case a9 => k_is); (case l9 => k_is)
      (case c9 => k_is); (case k9 => k_is); (case a10 => k_is); (case l10 => k_is); (case c10 => k_is); (case k10 => k_is); (case a11 => k_is); (case l11 => k_is)
      (case c11 => k_is); (case k11 => k_is); (case a12 => k_is); (case l12 => k_is); (case c12 => k_is); (case k12 => k_is); (case a13 => k_is); (case l13 => k_is)
      (case c13 => k_is); (case k13 => k_is); (case a14 => k_is); (case l14 => k_is); (case c14 => k_is); (case k14 => k_is); (case z0 => k_is); (case z1 => k_is)
      (case z2 => k_is); (case z3 => k_is); (case z4 => k_is); (case z5 => k_is)
