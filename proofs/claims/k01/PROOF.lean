import PyProof.Rows.All
import Wide.All
import OpenK.AllK
import Wide.FinOn
import Lean
import PyProof.EqAt
import PyProof.EqKinds
import PyProof.TupleCall
import PySem.Challenge.RW_apartbook_k01_sums_read
set_option Elab.async false
set_option linter.all false
set_option maxRecDepth 100000
set_option compiler.extract_closed false
theorem zau0 (h : True := by first | exact .inl rfl | exact .inr rfl | assumption) : True := h
theorem zau1 (h : True := by decide) : True := h
theorem zau2 (h : True := by rfl) : True := h
theorem zau3 (h : True := by intro _; rfl) : True := h
theorem zau4 (h : True := by with_unfolding_all rfl) : True := h
theorem zau5 (h : True := by first | exact Or.inl rfl | exact Or.inr (Or.inl rfl) | exact Or.inr (Or.inr rfl)) : True := h
theorem zau6 (h : True := by exact fun _ _ => rfl) : True := h
theorem zau7 (h : True := by exact fun _ => rfl) : True := h
theorem zau8 (h : True := by first | exact Or.inl rfl | exact Or.inr rfl) : True := h
namespace L2
open PySem PySem.Spec PyProof.Rows
end L2
namespace L2
open PySem PySem.Spec PyProof.Rows
inductive V where
  | non | bl (b : Bool) | int (i : Int) | str (x : Str) | ref (a : Addr) | ty (n : String)
  deriving DecidableEq
noncomputable def RelV : V → Value → Prop
  | .non, u => u = Value.none
  | .bl b, u => u = Value.bool b
  | .int i, u => ∃ t, u = Value.int i t
  | .str x, u => ∃ t, u = Value.str x t
  | .ref a, u => u = Value.ref a
  | .ty n, u => u = Value.type n
noncomputable abbrev Vals : List V → List Value → Prop := Paired RelV
theorem Vals.length {xs : List V} {us : List Value} (r : Vals xs us) : xs.length = us.length := Paired.length r
theorem Vals.get : ∀ {xs : List V} {us : List Value} {i : Nat} {x : V}, Vals xs us → xs[i]? = some x → ∃ u, us[i]? = some u ∧ RelV x u
  | _, _, _, _, .nil, e => by simp at e
  | _, _, 0, _, .cons r _, e => by simp at e; subst e; exact ⟨_, rfl, r⟩
  | _, _, i + 1, x, .cons _ t, e => by
    obtain ⟨u, h1, h2⟩ := Vals.get (i := i) (x := x) t (by simpa using e)
    exact ⟨u, by simpa using h1, h2⟩
theorem Vals.append : ∀ {xs ys : List V} {us ws : List Value}, Vals xs us → Vals ys ws → Vals (xs ++ ys) (us ++ ws)
  | _, _, _, _, .nil, s => s
  | _, _, _, _, .cons r t, s => .cons r (Vals.append t s)
theorem Vals.take : ∀ {xs : List V} {us : List Value} (n : Nat), Vals xs us → Vals (xs.take n) (us.take n)
  | _, _, 0, _ => .nil
  | _, _, _ + 1, .nil => .nil
  | _, _, n + 1, .cons r t => .cons r (Vals.take n t)
theorem Vals.drop : ∀ {xs : List V} {us : List Value} (n : Nat), Vals xs us → Vals (xs.drop n) (us.drop n)
  | _, _, 0, r => r
  | _, _, _ + 1, .nil => .nil
  | _, _, n + 1, .cons _ t => Vals.drop n t
noncomputable def RelO : Option V → Option Value → Prop
  | some v, some u => RelV v u
  | none, none => True
  | _, _ => False
inductive HO where
    | lst (xs : List V)
    | tup (xs : List V)
    | ins (C dx : Addr) (fs : List (Str × V))
    | own (x : Addr)
    | met (f x : Addr)
    | frz (o : Obj) (u : HO)
noncomputable abbrev Hp := Addr → Option HO
noncomputable def upd (H : Hp) (a : Addr) (o : HO) : Hp := fun b => if b = a then some o else H b
theorem upd_same {H : Hp} {a : Addr} {o : HO} : upd H a o a = some o := by unfold upd; rw [if_pos rfl]
theorem upd_ne {H : Hp} {a b : Addr} {o : HO} (h : b ≠ a) : upd H a o b = H b := by unfold upd; rw [if_neg h]
theorem ne_of {H : Hp} {a b : Addr} {o u : HO} (h : H a = some o) (h' : H b = some u) (d : o ≠ u) : a ≠ b := by
  intro e; subst e; rw [h] at h'; exact d (Option.some.inj h')
theorem ne_of_none {H : Hp} {a b : Addr} {o : HO} (h : H a = some o) (h' : H b = none) : a ≠ b := by
  intro e; subst e; rw [h] at h'; cases h'
section
variable (P : Program) (w : World)
noncomputable def ObjOk (P : Program) (w : World) (H : Hp) (h : Heap) (a : Addr) : HO → Prop
  | .lst xs => xs.length ≤ sizeLine ∧ ∃ (its : List Value) (n : Nat), Vals xs its ∧ h.get? a = some { cls := .type "list", data := .seq its.toArray n }
  | .tup xs => xs.length ≤ sizeLine ∧ ∃ its : List Value, Vals xs its ∧ IsTup h a its.toArray
  | .ins C dx fs => H dx = some (.own a) ∧ fs.length ≤ 1000 ∧ dx ≠ a ∧ h.get? a = some (PySem.W.instObj C dx) ∧
      ∃ mA, h.Ns1 dx mA ∧ (∀ f, RelO (fs.lookup f) (mA f)) ∧ PySem.Within mA (fs.map (·.1))
  | .own _ => ∃ o, h.get? a = some o
  | .frz o u => h.get? a = some o ∧ ObjOk P w H h a u
  | .met f x => h.get? a = some (PySem.W.methodObj (.ref f) (.ref x))
noncomputable def HOk (H : Hp) (h : Heap) : Prop := ∀ a o, H a = some o → ObjOk P w H h a o
end
section
variable {P : Program} {w : World} {H H' : Hp} {h h' : Heap} {a : Addr} {o : HO}
theorem ObjOk.lt (x : ObjOk P w H h a o) : a < h.objs.size := by
  cases o with
  | lst xs => obtain ⟨_, _, _, _, e⟩ := x; exact Heap.lt_size e
  | tup xs => obtain ⟨_, _, _, p⟩ := x; exact p.lt
  | ins C dx fs => obtain ⟨_, _, _, e, _⟩ := x; exact Heap.lt_size e
  | own y => obtain ⟨_, e⟩ := x; exact Heap.lt_size e
  | frz ob u => obtain ⟨e, _⟩ := x; exact Heap.lt_size e
  | met f y => exact Heap.lt_size (show h.get? a = some _ from x)
theorem ObjOk.stay (x : ObjOk P w H h a o) (k : ∀ b u, (b = a ∨ H b = some (.own a)) → h.get? b = some u → h'.get? b = some u)
    (ho : ∀ b, H b = some (.own a) → H' b = some (.own a)) (ht : ∀ b xs, H b = some (.tup xs) → H' b = some (.tup xs)) : ObjOk P w H' h' a o := by
  induction o with
  | lst xs => obtain ⟨z, its, n, r, e⟩ := x; exact ⟨z, its, n, r, k _ _ (.inl rfl) e⟩
  | tup xs => obtain ⟨z, its, r, ob, e, c⟩ := x; exact ⟨z, its, r, ob, k _ _ (.inl rfl) e, c⟩
  | ins C dx fs =>
    obtain ⟨d, z, ne, e, mA, ⟨od, es, ep, e2, c⟩, r⟩ := x
    exact ⟨ho _ d, z, ne, k _ _ (.inl rfl) e, mA, ⟨od, es, ep, k _ _ (.inr d) e2, c⟩, r⟩
  | own y => obtain ⟨ob, e⟩ := x; exact ⟨ob, k _ _ (.inl rfl) e⟩
  | frz ob u ih => obtain ⟨e, q⟩ := x; exact ⟨k _ _ (.inl rfl) e, ih q⟩
  | met f y =>
    have e : h.get? a = some (PySem.W.methodObj (.ref f) (.ref y)) := x
    show h'.get? a = some (PySem.W.methodObj (.ref f) (.ref y))
    exact k a _ (.inl rfl) e
theorem HOk.lt (x : HOk P w H h) (e : H a = some o) : a < h.objs.size := (x a o e).lt
theorem HOk.fresh (x : HOk P w H h) (e : h.objs.size ≤ a) : H a = none := by
  cases q : H a with
  | none => rfl
  | some u => exact absurd (Nat.lt_of_lt_of_le (x.lt q) e) (Nat.lt_irrefl _)
theorem HOk.kept (x : HOk P w H h) (k : ∀ b u, h.get? b = some u → h'.get? b = some u) : HOk P w H h' := fun a o e =>
  (x a o e).stay (fun b u _ q => k b u q) (fun _ q => q) fun _ _ q => q
theorem HOk.laid (x : HOk P w H h) (k : ∀ b u, h.get? b = some u → h'.get? b = some u) (hp : h.objs.size ≤ a) (new : ObjOk P w (upd H a o) h' a o) : HOk P w (upd H a o) h' := fun b u e => by
  have hn := x.fresh hp
  by_cases hb : b = a
  · subst hb; rw [upd_same] at e; cases e; exact new
  · rw [upd_ne hb] at e
    exact (x b u e).stay (fun c v _ q => k c v q) (fun c q => by rw [upd_ne (ne_of_none q hn)]; exact q) fun c xs q => by rw [upd_ne (ne_of_none q hn)]; exact q
end
noncomputable def Rd (H : Hp) (a : Addr) (u : HO) : Prop := H a = some u ∨ ∃ o, H a = some (.frz o u)
theorem Rd.ok {P : Program} {w : World} {H : Hp} {h : Heap} {a : Addr} {u : HO} (r : Rd H a u) (x : HOk P w H h) : ObjOk P w H h a u := by
  rcases r with r | ⟨o, r⟩
  · exact x a u r
  · obtain ⟨_, q⟩ := x a _ r
    exact q
noncomputable def Mut : Option HO → Prop
  | some (.lst _) => True
  | some (.ins _ _ _) => True
  | _ => False
section
variable {P : Program} {w : World} {H : Hp} {h h' : Heap} {x e : Addr} {o' : HO}
theorem HOk.write (ok : HOk P w H h) (mu : Mut (H x)) (he : e = x ∨ H e = some (.own x)) (k : ∀ b u, b ≠ e → h.get? b = some u → h'.get? b = some u) (heo : ∃ u, h'.get? e = some u)
    (new : ObjOk P w (upd H x o') h' x o') : HOk P w (upd H x o') h' := fun b u q => by
  have nown : ∀ c y, H c = some (.own y) → c ≠ x := fun c y r z => by subst z; rw [r] at mu; exact mu
  have ntup : ∀ c xs, H c = some (.tup xs) → c ≠ x := fun c xs r z => by subst z; rw [r] at mu; exact mu
  by_cases hb : b = x
  · subst hb; rw [upd_same] at q; cases q; exact new
  · rw [upd_ne hb] at q
    by_cases hbe : b = e
    · have q' : H b = some (.own x) := by
        rcases he with z | z
        · exact absurd (hbe.trans z) hb
        · rw [hbe]; exact z
      rw [q] at q'; cases q'
      obtain ⟨v, hv⟩ := heo
      exact ⟨v, by rw [hbe]; exact hv⟩
    · refine (ok b u q).stay (fun c v hc r => k c v ?_ r) (fun c r => by rw [upd_ne (nown c b r)]; exact r) fun c xs r => by rw [upd_ne (ntup c xs r)]; exact r
      rcases hc with rfl | hc
      · exact hbe
      · rintro rfl
        rcases he with z | z
        · exact nown c b hc z
        · rw [hc] at z; cases z; exact hb rfl
end
structure Un (fs ex : List Addr) (H H' : Hp) (h h' : Heap) : Prop where
  keep : ∀ b o, h.get? b = some o → H b = none → b ∉ fs → b ∉ ex → h'.get? b = some o
  slot : ∀ b o, h.get? b = some o → H b = none → b ∈ fs → b ∉ ex → ∃ sl, h'.get? b = some { o with slots := sl }
  free : ∀ b o, h.get? b = some o → H b = none → b ∉ ex → H' b = none
  there : ∀ b o, h.get? b = some o → b ∉ ex → ∃ o', h'.get? b = some o'
  tups : ∀ b xs, H b = some (.tup xs) → H' b = some (.tup xs)
  frzs : ∀ b o u, H b = some (.frz o u) → H' b = some (.frz o u)
section
variable {fs fs' ex ex' : List Addr} {H H1 H2 : Hp} {h h1 h2 h' : Heap} {a x e : Addr} {o : HO}
theorem Un.any (u : Un fs ex H H1 h h1) {b : Addr} {ob : Obj} (q : h.get? b = some ob) (n : H b = none) (hx : b ∉ ex) : ∃ sl, h1.get? b = some { ob with slots := sl } := by
  by_cases hb : b ∈ fs
  · exact u.slot b ob q n hb hx
  · exact ⟨ob.slots, u.keep b ob q n hb hx⟩
theorem Un.kept (k : ∀ b u, h.get? b = some u → h'.get? b = some u) : Un fs ex H H h h' :=
  ⟨fun b ob q _ _ _ => k b ob q, fun b ob q _ _ _ => ⟨ob.slots, k b ob q⟩, fun _ _ _ n _ => n, fun b ob q _ => ⟨ob, k b ob q⟩, fun _ _ q => q, fun _ _ _ q => q⟩
theorem Un.refl : Un fs ex H H h h := Un.kept fun _ _ q => q
theorem Un.laid (k : ∀ b u, h.get? b = some u → h'.get? b = some u) (hp : h.objs.size ≤ a) (hn : H a = none) : Un fs ex H (upd H a o) h h' where
  keep := fun b u q _ _ _ => k b u q
  slot := fun b u q _ _ _ => ⟨u.slots, k b u q⟩
  free := fun b u q n _ => by rw [upd_ne (Nat.ne_of_lt (Nat.lt_of_lt_of_le (Heap.lt_size q) hp))]; exact n
  there := fun b u q _ => ⟨u, k b u q⟩
  tups := fun b xs q => by rw [upd_ne (ne_of_none q hn)]; exact q
  frzs := fun b u xs q => by rw [upd_ne (ne_of_none q hn)]; exact q
theorem Un.write (mu : Mut (H x)) (he : e = x ∨ H e = some (.own x)) (k : ∀ b u, b ≠ e → h.get? b = some u → h'.get? b = some u) (heo : ∃ u, h'.get? e = some u) : Un fs ex H (upd H x o) h h' := by
  have hx : ∀ b, H b = none → b ≠ x := fun b n z => by subst z; rw [n] at mu; exact mu
  have hb : ∀ b, H b = none → b ≠ e := fun b n z => by
    subst z
    rcases he with r | r
    · exact hx b n r
    · rw [n] at r; cases r
  have hm : ∀ b u, H b = some u → ¬ Mut (some u) → b ≠ x := fun b u q nm z => by subst z; rw [q] at mu; exact nm mu
  refine ⟨fun b u q n _ _ => k b u (hb b n) q, fun b u q n _ _ => ⟨u.slots, k b u (hb b n) q⟩, fun b u q n _ => by rw [upd_ne (hx b n)]; exact n, fun b u q _ => ?_,
    fun b xs q => by rw [upd_ne (hm b _ q fun z => z)]; exact q, fun b u xs q => by rw [upd_ne (hm b _ q fun z => z)]; exact q⟩
  by_cases hbe : b = e
  · subst hbe; exact heo
  · exact ⟨u, k b u hbe q⟩
end
noncomputable def trk (h : Heap) (H : Hp) : List Addr := (List.range h.objs.size).filter fun a => (H a).isSome
noncomputable def hidT (h : Heap) (H : Hp) : Heap := PySem.W.hideAll h (trk h H)
theorem hidT_size (h : Heap) (H : Hp) : (hidT h H).objs.size = h.objs.size := PySem.W.hideAll_size _ _
theorem hidT_get {h : Heap} {H : Hp} {b : Addr} {o : Obj} (e : h.get? b = some o) (n : H b = none) : (hidT h H).get? b = some o :=
  PySem.W.hideAll_get _ e fun hm => by
    have q : (H b).isSome = true := (List.mem_filter.mp hm).2
    rw [n] at q; simp at q
theorem of_hidT {h : Heap} {H : Hp} {b : Addr} {o : Obj} (e : (hidT h H).get? b = some o) : h.get? b = some o ∧ H b = none := by
  have e' : h.get? b = some o := PySem.W.of_hideAll (trk h H) e
  refine ⟨e', ?_⟩
  cases q : H b with
  | none => rfl
  | some x =>
    have hm : b ∈ trk h H := List.mem_filter.mpr ⟨List.mem_range.mpr (Heap.lt_size e'), by simp [q]⟩
    have z : (hidT h H).get? b = none := PySem.W.hideAll_none (trk h H) hm
    rw [z] at e; cases e
noncomputable def allNews (g h : Heap) (L : Addr) : List (Addr × Obj) := (List.range h.objs.size).filterMap fun a => if a = L ∨ (g.get? a).isSome = true then none else (h.get? a).map fun o => (a, o)
noncomputable def rest (g h : Heap) (L d : Addr) : List (Addr × Obj) := (allNews g h L).filter fun p => decide (p.1 ≠ d)
end L2
namespace L2
open PySem PySem.Spec PyProof.Rows
structure Mod (K : PySem.W.Frag) (mg : Str → Option Value) (base : Heap) : Prop where
  kin : K.In base
  glob : base.Ns mainGlobals mg
  blt : ∃ mb, base.Ns builtinsNs mb ∧ ∀ x : Str, x ≠ "__name__" → mb x = bootBuiltins x
  nolimit : base.NoLimit
structure Cx where
  prog : Program
  w : World
  K : PySem.W.Frag
  mg : Str → Option Value
  base : Heap
  A : Around
  N : List Str
  s₀ : Shared
  H₀ : Hp
  env : Env
  outer : List Env
  stack : List Env
  ex : List Addr
  fn : Str → Bool
  calm : Bool
  pn : List (Addr × Obj)
  xe : Value → Shared → Prop
noncomputable def frs (l : List Env) : List Addr := l.filterMap (·.frame)
noncomputable abbrev Cx.fs (X : Cx) : List Addr := frs X.outer
noncomputable def Vis (sc : Scope) (x : Str) : Prop := sc.names.lookup x = some .local ∨ sc.names.lookup x = some .cell ∨ sc.names.lookup x = some .free
noncomputable def Loc (sc : Scope) (x : Str) : Prop := sc.names.lookup x = some .local ∨ sc.names.lookup x = some .cell
noncomputable def Look (env : Env) (h : Heap) (m : Str → Option Value) (x : Str) (u : Value) : Prop :=
  (env.kindOf x = some .local ∧ m x = some u) ∨ ((env.kindOf x = some .cell ∨ env.kindOf x = some .free) ∧ ∃ c, env.cells.lookup x = some c ∧ h.IsCell c (some u))
structure Cx.Ok (X : Cx) : Prop where
  mod : Mod X.K X.mg X.base
  kind : X.env.scope.kind = .function
  glob : X.env.globals = mainGlobals
  blt : X.env.builtins = builtinsNs
  above : X.s₀.heap.objs.size ≤ X.env.locals
  inj : ∀ x y c, X.env.cells.lookup x = some c → X.env.cells.lookup y = some c → x = y
  has : ∀ x, (X.env.kindOf x = some .cell ∨ X.env.kindOf x = some .free) → ∃ c, X.env.cells.lookup x = some c
  cab : ∀ x c, X.fn x = true → X.env.cells.lookup x = some c → X.s₀.heap.objs.size ≤ c
  hd : X.calm = true → X.A.handled = none
  frames : X.A.frames = some X.stack
  stk : X.stack = X.outer ∨ (X.stack = X.env :: X.outer ∧ X.env.frame = some X.env.locals)
  exf : ∀ b ∈ X.ex, b ≠ X.env.locals ∧ ∀ x c, X.env.cells.lookup x = some c → c ≠ b
  bs : ∀ b o, X.base.get? b = some o → X.s₀.heap.get? b = some o ∧ X.H₀ b = none
  bsz : X.base.objs.size ≤ X.s₀.heap.objs.size
  noex : ∀ b o, X.base.get? b = some o → b ∉ X.ex
  exfs : ∀ b ∈ X.ex, b ∉ X.fs
  funs : X.s₀.heap.FunFrames X.base X.outer
  frf : ∀ b ∈ X.fs, X.H₀ b = none
structure Inv (X : Cx) (pins : List (Addr × Obj)) (σ : List (Option V)) (H : Hp) (s : Shared) : Prop where
  ok : X.Ok
  os : s.os = X.s₀.os
  bare : AllBare s.gens
  base : Un X.fs X.ex X.H₀ H X.s₀.heap s.heap
  loc : ∃ m, s.heap.Ns X.env.locals m ∧ ∀ (i : Nat) (x : Str) (v : V), X.N[i]? = some x → σ[i]? = some (some v) → Vis X.env.scope x → ∃ u, RelV v u ∧ Look X.env s.heap m x u
  cell : ∀ x c, X.env.cells.lookup x = some c → ∃ v, s.heap.IsCell c v
  free : H X.env.locals = none
  freeC : ∀ x c, X.env.cells.lookup x = some c → H c = none
  pin : ∀ p ∈ X.pn ++ pins, s.heap.get? p.1 = some p.2 ∧ H p.1 = none ∧ p.1 ≠ X.env.locals ∧ p.1 ∉ X.fs ∧ ∀ v, p.2.data ≠ .cell v
  hok : HOk X.prog X.w H s.heap
  len : σ.length = X.N.length
section
variable {X : Cx} {pins : List (Addr × Obj)} {σ : List (Option V)} {H H' : Hp} {s : Shared} {h' : Heap}
theorem Cx.Ok.nofr (ok : X.Ok) {b : Addr} {o : Obj} (e : X.base.get? b = some o) : b ∉ X.fs := fun hb => by
  have := (ok.funs.mem hb).1
  rw [e] at this; cases this
theorem Inv.bs (I : Inv X pins σ H s) : ∀ b o, X.base.get? b = some o → s.heap.get? b = some o ∧ H b = none := fun b o e =>
  ⟨I.base.keep b o (I.ok.bs b o e).1 (I.ok.bs b o e).2 (I.ok.nofr e) (I.ok.noex b o e), I.base.free b o (I.ok.bs b o e).1 (I.ok.bs b o e).2 (I.ok.noex b o e)⟩
theorem Inv.bk (I : Inv X pins σ H s) : ∀ b o, X.base.get? b = some o → s.heap.get? b = some o := fun b o e => (I.bs b o e).1
theorem Inv.mod (I : Inv X pins σ H s) : Mod X.K X.mg X.base := I.ok.mod
theorem Inv.kIn (I : Inv X pins σ H s) : X.K.In s.heap := I.ok.mod.kin.keeps I.bk
theorem Inv.lt (I : Inv X pins σ H s) : X.env.locals < s.heap.objs.size := let ⟨_, hn, _⟩ := I.loc; hn.lt
theorem Inv.sz (I : Inv X pins σ H s) : X.s₀.heap.objs.size ≤ s.heap.objs.size := Nat.le_trans I.ok.above (Nat.le_of_lt I.lt)
theorem Inv.nofs (I : Inv X pins σ H s) {a : Addr} (h : s.heap.objs.size ≤ a) : a ∉ X.fs := fun hb => by
  obtain ⟨_, o, ho, _⟩ := I.ok.funs.mem hb
  exact absurd (Nat.lt_of_lt_of_le (Heap.lt_size ho) (Nat.le_trans I.sz h)) (Nat.lt_irrefl _)
theorem Inv.cne (I : Inv X pins σ H s) : ∀ x c, X.env.cells.lookup x = some c → c ≠ X.env.locals := fun x c e z => by
  obtain ⟨v, o, ho, hd⟩ := I.cell x c e
  obtain ⟨m, ⟨o', es, ep, ho', hd', _⟩, _⟩ := I.loc
  rw [z, ho'] at ho; cases ho; rw [hd'] at hd; cases hd
theorem Inv.funs (I : Inv X pins σ H s) : s.heap.FunFrames X.base X.outer := by
  have all : ∀ (l : List Env), (∀ b ∈ frs l, b ∈ X.fs) → X.s₀.heap.FunFrames X.base l → s.heap.FunFrames X.base l := by
    intro l
    induction l with
    | nil => intro _ _; trivial
    | cons env r ih =>
      intro hs hl
      obtain ⟨hk, ⟨L, o, hf, hn, ho, hd⟩, hr⟩ := hl
      have hL : L ∈ X.fs := hs L (by unfold frs; rw [List.filterMap_cons, hf]; exact List.mem_cons_self)
      obtain ⟨sl, e⟩ := I.base.slot L o ho (I.ok.frf L hL) hL fun z => I.ok.exfs L z hL
      exact ⟨hk, ⟨L, _, hf, hn, e, hd⟩, ih (fun b hb => hs b (by unfold frs; rw [List.filterMap_cons, hf]; exact List.mem_cons_of_mem _ hb)) hr⟩
  exact all X.outer (fun _ hb => hb) I.ok.funs
theorem Inv.stack (I : Inv X pins σ H s) : s.heap.FunFrames X.base X.stack := by
  rcases I.ok.stk with e | ⟨e, hf⟩
  · rw [e]; exact I.funs
  · rw [e]
    obtain ⟨m, hn, _⟩ := I.loc
    refine .cons (by rw [I.ok.kind]; decide) hf hn ?_ I.funs
    exact Heap.get?_none_of_le (Nat.le_trans I.ok.bsz I.ok.above)
theorem Inv.stkSub (I : Inv X pins σ H s) : ∀ b ∈ frs X.stack, b ∈ X.env.locals :: X.fs := fun b hb => by
  rcases I.ok.stk with e | ⟨e, hf⟩
  · rw [e] at hb; exact List.mem_cons_of_mem _ hb
  · rw [e] at hb
    unfold frs at hb
    rw [List.filterMap_cons, hf] at hb
    exact hb
theorem Inv.stkFree (I : Inv X pins σ H s) : ∀ b ∈ frs X.stack, H b = none := fun b hb => by
  rcases List.mem_cons.mp (I.stkSub b hb) with e | hb
  · rw [e]; exact I.free
  · obtain ⟨_, o, ho, _⟩ := I.ok.funs.mem hb
    exact I.base.free b o ho (I.ok.frf b hb) fun z => I.ok.exfs b z hb
theorem Inv.step {g' : Array GenState} {t' : Nat} {d' : Drawn} {ch : List Addr} (I : Inv X pins σ H s)
    (hch : ∀ b ∈ ch, (b ∈ X.ex ∨ X.s₀.heap.objs.size ≤ b) ∧ b ≠ X.env.locals ∧ (∀ x c, X.env.cells.lookup x = some c → c ≠ b) ∧ ∀ p ∈ X.pn ++ pins, p.1 ≠ b)
    (keep : ∀ b o, b ≠ X.env.locals → b ∉ X.fs → b ∉ ch → s.heap.get? b = some o → H b = none → h'.get? b = some o)
    (slot : ∀ b o, b ≠ X.env.locals → b ∈ X.fs → b ∉ ch → s.heap.get? b = some o → H b = none → ∃ sl, h'.get? b = some { o with slots := sl }) (free : ∀ b o, b ∉ ch → s.heap.get? b = some o → H b = none → H' b = none)
    (there : ∀ b o, b ∉ ch → s.heap.get? b = some o → ∃ o', h'.get? b = some o')
    (tups : ∀ b xs, H b = some (.tup xs) → H' b = some (.tup xs)) (frzs : ∀ b o u, H b = some (.frz o u) → H' b = some (.frz o u))
    (ns : ∀ m, s.heap.Ns X.env.locals m → h'.Ns X.env.locals m) (hok : HOk X.prog X.w H' h') (hg : AllBare g') :
    Inv X pins σ H' { s with heap := h', gens := g', drawn := d', toks := t' } := by
  have neL : ∀ b o, X.s₀.heap.get? b = some o → b ≠ X.env.locals := fun b o e => Nat.ne_of_lt (Nat.lt_of_lt_of_le (Heap.lt_size e) I.ok.above)
  have neC : ∀ b o, X.s₀.heap.get? b = some o → b ∉ X.ex → b ∉ ch := fun b o e hx hb => by
    rcases (hch b hb).1 with z | z
    · exact hx z
    · exact absurd (Nat.lt_of_lt_of_le (Heap.lt_size e) z) (Nat.lt_irrefl _)
  have cellK : ∀ x c, X.env.cells.lookup x = some c → ∀ v, s.heap.IsCell c v → h'.IsCell c v := fun x c e v ⟨o, ho, hd⟩ => by
    have nch : c ∉ ch := fun z => (hch c z).2.2.1 x c e rfl
    by_cases hc : c ∈ X.fs
    · obtain ⟨sl, q⟩ := slot c o (I.cne x c e) hc nch ho (I.freeC x c e)
      exact ⟨_, q, hd⟩
    · exact ⟨o, keep c o (I.cne x c e) hc nch ho (I.freeC x c e), hd⟩
  refine ⟨I.ok, I.os, hg, ⟨fun b o e n hb hx => ?_, fun b o e n hb hx => ?_, fun b o e n hx => ?_, fun b o e hx => ?_, fun b xs e => tups b xs (I.base.tups b xs e), fun b o xs e => frzs b o xs (I.base.frzs b o xs e)⟩, ?_, fun x c e => ?_, ?_, fun x c e => ?_, fun p hp => ?_, hok, I.len⟩
  · exact keep b o (neL b o e) hb (neC b o e hx) (I.base.keep b o e n hb hx) (I.base.free b o e n hx)
  · obtain ⟨sl, e1⟩ := I.base.slot b o e n hb hx
    obtain ⟨sl', e2⟩ := slot b _ (neL b o e) hb (neC b o e hx) e1 (I.base.free b o e n hx)
    exact ⟨sl', e2⟩
  · obtain ⟨o', e1⟩ := I.base.there b o e hx
    exact free b o' (neC b o e hx) e1 (I.base.free b o e n hx)
  · obtain ⟨o', e1⟩ := I.base.there b o e hx
    exact there b o' (neC b o e hx) e1
  · obtain ⟨m, hn, hl⟩ := I.loc
    refine ⟨m, ns m hn, fun i x v e1 e2 e3 => ?_⟩
    obtain ⟨u, r, l⟩ := hl i x v e1 e2 e3
    refine ⟨u, r, ?_⟩
    rcases l with l | ⟨k, c, e, z⟩
    · exact .inl l
    · exact .inr ⟨k, c, e, cellK x c e _ z⟩
  · obtain ⟨v, z⟩ := I.cell x c e
    exact ⟨v, cellK x c e v z⟩
  · obtain ⟨m, ⟨o, _, _, ho, _⟩, _⟩ := I.loc
    exact free _ o (fun z => (hch _ z).2.1 rfl) ho I.free
  · obtain ⟨v, o, ho, hd⟩ := I.cell x c e
    exact free c o (fun z => (hch c z).2.2.1 x c e rfl) ho (I.freeC x c e)
  · obtain ⟨e, n, ne, nf, d⟩ := I.pin p hp
    have nch : p.1 ∉ ch := fun z => (hch p.1 z).2.2.2 p hp rfl
    exact ⟨keep p.1 p.2 ne nf nch e n, free p.1 p.2 nch e n, ne, nf, d⟩
theorem Inv.un {t' : Nat} (I : Inv X pins σ H s) (u : Un X.fs [] H H' s.heap h') (hok : HOk X.prog X.w H' h') : Inv X pins σ H' { s with heap := h', toks := t' } := by
  obtain ⟨m, ⟨o, es, ep, ho, r⟩, _⟩ := id I.loc
  obtain ⟨sl, hL⟩ := u.any ho I.free (by simp)
  exact I.step (g' := s.gens) (d' := s.drawn) (ch := []) (fun _ z => nomatch z) (fun b o _ hb _ e n => u.keep b o e n hb (by simp)) (fun b o _ hb _ e n => u.slot b o e n hb (by simp)) (fun b o _ e n => u.free b o e n (by simp)) (fun b o _ e => u.there b o e (by simp)) u.tups u.frzs (fun m' hm => by
    obtain ⟨o', es', ep', ho', r'⟩ := hm
    rw [ho] at ho'; cases ho'
    exact ⟨_, es', ep', hL, r'⟩) hok I.bare
theorem Inv.call {g' : Array GenState} {t' : Nat} {d' : Drawn} {ch : List Addr} (I : Inv X pins σ H s) (u : Un (frs X.stack) ch H H' s.heap h') (hok : HOk X.prog X.w H' h') (hg : AllBare g')
    (hch : ∀ b ∈ ch, (b ∈ X.ex ∨ X.s₀.heap.objs.size ≤ b) ∧ b ≠ X.env.locals ∧ (∀ x c, X.env.cells.lookup x = some c → c ≠ b) ∧ ∀ p ∈ X.pn ++ pins, p.1 ≠ b) :
    Inv X pins σ H' { s with heap := h', gens := g', drawn := d', toks := t' } := by
  obtain ⟨m, ⟨o, es, ep, ho, r⟩, _⟩ := id I.loc
  obtain ⟨sl, hL⟩ := u.any ho I.free fun z => (hch _ z).2.1 rfl
  exact I.step (ch := ch) hch (fun b o hL hb hc e n => u.keep b o e n (fun z => (List.mem_cons.mp (I.stkSub b z)).elim hL hb) hc) (fun b o _ _ hc e n => u.any e n hc) (fun b o hc e n => u.free b o e n hc) (fun b o hc e => u.there b o e hc) u.tups u.frzs (fun m' hm => by
    obtain ⟨o', es', ep', ho', r'⟩ := hm
    rw [ho] at ho'; cases ho'
    exact ⟨_, es', ep', hL, r'⟩) hok hg
theorem Inv.turned {t' : Nat} {it : Addr} (I : Inv X pins σ H s) (k : ∀ b o, b ≠ it → s.heap.get? b = some o → h'.get? b = some o) (hn : H it = none) (hL : it ≠ X.env.locals)
    (h1 : it ∈ X.ex ∨ X.s₀.heap.objs.size ≤ it) (h2 : ∀ x c, X.env.cells.lookup x = some c → c ≠ it) (h3 : ∀ p ∈ X.pn ++ pins, p.1 ≠ it) : Inv X pins σ H { s with heap := h', toks := t' } := by
  have nit : ∀ b u, H b = some u → b ≠ it := fun b u e z => by rw [z, hn] at e; cases e
  refine I.step (g' := s.gens) (d' := s.drawn) (ch := [it]) (fun b hb => ?_) (fun b o _ _ hc e _ => k b o (fun z => hc (by simp [z])) e) (fun b o _ _ hc e _ => ⟨o.slots, k b o (fun z => hc (by simp [z])) e⟩) (fun _ _ _ _ n => n)
    (fun b o hc e => ⟨o, k b o (fun z => hc (by simp [z])) e⟩) (fun _ _ e => e) (fun _ _ _ e => e) (fun m hm => ?_) (fun b u e => ?_) I.bare
  · have e : b = it := by simpa using hb
    subst e
    exact ⟨h1, hL, h2, h3⟩
  · obtain ⟨o, es, ep, ho, r⟩ := hm
    exact ⟨o, es, ep, k _ o (Ne.symm hL) ho, r⟩
  · refine (I.hok b u e).stay (fun c v hc q => k c v ?_ q) (fun _ q => q) fun _ _ q => q
    rcases hc with z | z
    · rw [z]; exact nit b u e
    · exact nit c _ z
theorem Inv.tok (I : Inv X pins σ H s) (t : Nat) : Inv X pins σ H { s with toks := t } := I.un (h' := s.heap) (t' := t) Un.refl I.hok
theorem Inv.kept {t' : Nat} (I : Inv X pins σ H s) (k : ∀ b u, s.heap.get? b = some u → h'.get? b = some u) : Inv X pins σ H { s with heap := h', toks := t' } := I.un (Un.kept k) (I.hok.kept k)
theorem Inv.laid {a : Addr} {o : HO} {t' : Nat} (I : Inv X pins σ H s) (k : ∀ b u, s.heap.get? b = some u → h'.get? b = some u) (hp : s.heap.objs.size ≤ a) (new : ObjOk X.prog X.w (upd H a o) h' a o) :
    Inv X pins σ (upd H a o) { s with heap := h', toks := t' } := I.un (Un.laid k hp (I.hok.fresh hp)) (I.hok.laid k hp new)
theorem Inv.write {x e : Addr} {o : HO} {t' : Nat} (I : Inv X pins σ H s) (mu : Mut (H x)) (he : e = x ∨ H e = some (.own x)) (k : ∀ b u, b ≠ e → s.heap.get? b = some u → h'.get? b = some u) (heo : ∃ u, h'.get? e = some u)
    (new : ObjOk X.prog X.w (upd H x o) h' x o) : Inv X pins σ (upd H x o) { s with heap := h', toks := t' } := I.un (Un.write mu he k heo) (I.hok.write mu he k heo new)
theorem Inv.pins_of {pins' : List (Addr × Obj)} (I : Inv X pins σ H s) (h : ∀ p ∈ pins', s.heap.get? p.1 = some p.2 ∧ H p.1 = none ∧ p.1 ≠ X.env.locals ∧ p.1 ∉ X.fs ∧ ∀ v, p.2.data ≠ .cell v) : Inv X pins' σ H s :=
  ⟨I.ok, I.os, I.bare, I.base, I.loc, I.cell, I.free, I.freeC, fun p hp => (List.mem_append.mp hp).elim (fun z => I.pin p (List.mem_append_left _ z)) (h p), I.hok, I.len⟩
theorem nodup_ix {N : List Str} (hN : N.Nodup) {i j : Nat} {x : Str} (a : N[i]? = some x) (b : N[j]? = some x) : i = j := by
  obtain ⟨h1, e1⟩ := List.getElem?_eq_some_iff.mp a
  obtain ⟨h2, e2⟩ := List.getElem?_eq_some_iff.mp b
  exact (List.getElem_inj hN).mp (e1.trans e2.symm)
theorem store_ok2 {M : Model} {A : Around} {E : Value → Shared → Prop} {i : Nat} {x : Str} {v : V} {u : Value} {Q : Unit → Shared → Prop} (I : Inv X pins σ H s) (hN : X.N.Nodup) (hi : X.N[i]? = some x) (hx : Loc X.env.scope x) (r : RelV v u)
    (h : ∀ s', Inv X pins (σ.set i (some v)) H s' → (∃ a, Heap.SameBut a s.heap s'.heap ∧ (a = X.env.locals ∨ X.env.cells.lookup x = some a)) → Q () s') (hf : autoParam (X.fn x = true ∨ X.env.scope.names.lookup x = some .local) zau0._auto_1) : wpAny M A (storeName X.env x u) Q E s := by
  obtain ⟨m, hn, hl⟩ := id I.loc
  have hcls : (X.env.scope.kind == .class || (X.env.scope.kind == .module && X.env.locals != X.env.globals)) = false := by rw [I.ok.kind]; rfl
  have hiσ : i < σ.length := by rw [I.len]; exact (List.getElem?_eq_some_iff.mp hi).1
  have cne := I.cne
  have tracked : ∀ {a : Addr} {h' : Heap}, (∃ o, s.heap.get? a = some o ∧ H a = none) → Heap.SameBut a s.heap h' → HOk X.prog X.w H h' := fun {a h'} ha hs b ob e => by
    obtain ⟨_, _, hfree⟩ := ha
    refine (I.hok b ob e).stay (fun c w' hc q => (hs.2 c ?_).trans q) (fun _ q => q) fun _ _ q => q
    rintro rfl
    rcases hc with rfl | hc
    · rw [hfree] at e; cases e
    · rw [hfree] at hc; cases hc
  rcases hx with hk | hk
  · refine wpAny_storeName_local hk hn (fun h' hn' hs => ?_) hcls
    obtain ⟨oL, _, _, hoL, _⟩ := id hn
    refine h _ ⟨I.ok, I.os, I.bare, ⟨fun b o e n hb hx => ?_, fun b o e n hb hx => ?_, I.base.free, fun b o e hx => ?_, I.base.tups, I.base.frzs⟩, ⟨_, hn', fun j y v' e1 e2 e3 => ?_⟩, fun y c e => ?_, I.free, I.freeC, fun p hp => ?_, tracked ⟨oL, hoL, I.free⟩ hs, by simpa using I.len⟩ ⟨_, hs, .inl rfl⟩
    · exact (hs.2 b (Nat.ne_of_lt (Nat.lt_of_lt_of_le (Heap.lt_size e) I.ok.above))).trans (I.base.keep b o e n hb hx)
    · obtain ⟨sl, e1⟩ := I.base.slot b o e n hb hx
      exact ⟨sl, (hs.2 b (Nat.ne_of_lt (Nat.lt_of_lt_of_le (Heap.lt_size e) I.ok.above))).trans e1⟩
    · obtain ⟨o', e1⟩ := I.base.there b o e hx
      exact ⟨o', (hs.2 b (Nat.ne_of_lt (Nat.lt_of_lt_of_le (Heap.lt_size e) I.ok.above))).trans e1⟩
    · by_cases hj : j = i
      · subst hj
        rw [hi] at e1; cases e1
        rw [List.getElem?_set_self hiσ] at e2
        cases e2
        exact ⟨u, r, .inl ⟨hk, by simp⟩⟩
      · rw [List.getElem?_set_ne (Ne.symm hj)] at e2
        obtain ⟨u', r', q⟩ := hl j y v' e1 e2 e3
        refine ⟨u', r', ?_⟩
        rcases q with ⟨k, e⟩ | ⟨k, c, e, z⟩
        · refine .inl ⟨k, ?_⟩
          have : y ≠ x := fun e => hj (nodup_ix hN e1 (e ▸ hi))
          simp [this, e]
        · exact .inr ⟨k, c, e, z.sameBut hs (cne y c e)⟩
    · obtain ⟨w', z⟩ := I.cell y c e
      exact ⟨w', z.sameBut hs (cne y c e)⟩
    · obtain ⟨e, n, ne, nf, d⟩ := I.pin p hp
      exact ⟨(hs.2 p.1 ne).trans e, n, ne, nf, d⟩
  · have hfn : X.fn x = true := by
      rcases hf with z | z
      · exact z
      · rw [z] at hk; cases hk
    obtain ⟨c, hc⟩ := I.ok.has x (.inl hk)
    obtain ⟨w', z⟩ := I.cell x c hc
    refine wpAny_storeName_cell I.ok.kind hk hc z (fun h' hc' hs => ?_)
    obtain ⟨oc, hoc, hocd⟩ := id z
    refine h { s with heap := h' } ⟨I.ok, I.os, I.bare, ⟨fun b o e n hb hx => ?_, fun b o e n hb hx => ?_, I.base.free, fun b o e hx => ?_, I.base.tups, I.base.frzs⟩, ⟨m, hn.sameBut hs (Ne.symm (cne x c hc)), fun j y v' e1 e2 e3 => ?_⟩, fun y c' e => ?_, I.free, I.freeC, fun p hp => ?_, tracked ⟨oc, hoc, I.freeC x c hc⟩ hs, by simpa using I.len⟩ ⟨c, hs, .inr hc⟩
    · exact (hs.2 b (Nat.ne_of_lt (Nat.lt_of_lt_of_le (Heap.lt_size e) (I.ok.cab x c hfn hc)))).trans (I.base.keep b o e n hb hx)
    · obtain ⟨sl, e1⟩ := I.base.slot b o e n hb hx
      exact ⟨sl, (hs.2 b (Nat.ne_of_lt (Nat.lt_of_lt_of_le (Heap.lt_size e) (I.ok.cab x c hfn hc)))).trans e1⟩
    · obtain ⟨o', e1⟩ := I.base.there b o e hx
      exact ⟨o', (hs.2 b (Nat.ne_of_lt (Nat.lt_of_lt_of_le (Heap.lt_size e) (I.ok.cab x c hfn hc)))).trans e1⟩
    · by_cases hj : j = i
      · subst hj
        rw [hi] at e1; cases e1
        rw [List.getElem?_set_self hiσ] at e2
        cases e2
        exact ⟨u, r, .inr ⟨.inl hk, c, hc, hc'⟩⟩
      · rw [List.getElem?_set_ne (Ne.symm hj)] at e2
        obtain ⟨u', r', q⟩ := hl j y v' e1 e2 e3
        refine ⟨u', r', ?_⟩
        rcases q with q | ⟨k, c', e, z'⟩
        · exact .inl q
        · refine .inr ⟨k, c', e, z'.sameBut hs ?_⟩
          rintro rfl
          exact hj (nodup_ix hN e1 (I.ok.inj _ _ _ e hc ▸ hi))
    · by_cases hcc : c' = c
      · subst hcc; exact ⟨_, hc'⟩
      · obtain ⟨w2, z2⟩ := I.cell y c' e
        exact ⟨w2, z2.sameBut hs hcc⟩
    · obtain ⟨e, n, ne, nf, d⟩ := I.pin p hp
      refine ⟨(hs.2 p.1 ?_).trans e, n, ne, nf, d⟩
      intro q
      rw [q, hoc] at e
      have q' : oc = p.2 := Option.some.inj e
      exact d w' (by rw [← q']; exact hocd)
theorem store_ok {M : Model} {A : Around} {E : Value → Shared → Prop} {i : Nat} {x : Str} {v : V} {u : Value} {Q : Unit → Shared → Prop} (I : Inv X pins σ H s) (hN : X.N.Nodup) (hi : X.N[i]? = some x) (hx : Loc X.env.scope x) (r : RelV v u)
    (h : ∀ s', Inv X pins (σ.set i (some v)) H s' → Q () s') (hf : autoParam (X.fn x = true ∨ X.env.scope.names.lookup x = some .local) zau0._auto_1) : wpAny M A (storeName X.env x u) Q E s :=
  store_ok2 I hN hi hx r (fun s' I' _ => h s' I') hf
theorem Inv.call' {s' : Shared} {ch : List Addr} (I : Inv X pins σ H s) (ho : s'.os = s.os) (u : Un (frs X.stack) ch H H' s.heap s'.heap) (hok : HOk X.prog X.w H' s'.heap) (hg : AllBare s'.gens)
    (hch : ∀ b ∈ ch, (b ∈ X.ex ∨ X.s₀.heap.objs.size ≤ b) ∧ b ≠ X.env.locals ∧ (∀ x c, X.env.cells.lookup x = some c → c ≠ b) ∧ ∀ p ∈ X.pn ++ pins, p.1 ≠ b) : Inv X pins σ H' s' := by
  obtain ⟨h', g', d', t', o'⟩ := s'
  have e : o' = s.os := ho
  subst e
  exact I.call (g' := g') (t' := t') (d' := d') u hok hg hch
end
noncomputable abbrev XK := Value → Option Addr → Hp → Prop
noncomputable abbrev St := List (Option V)
noncomputable abbrev VK := V → Hp → Prop
noncomputable abbrev TE := St → Hp → VK → Prop
noncomputable abbrev TT := St → Hp → (Bool → Hp → Prop) → Prop
noncomputable abbrev TA := St → Hp → (List V → Hp → Prop) → Prop
structure Ends where
  nx : St → Hp → Prop
  rt : VK
  bk : St → Hp → Prop := fun _ _ => False
  ct : St → Hp → Prop := fun _ _ => False
noncomputable abbrev TS := Ends → St → Hp → Prop
inductive EP (X : Cx) (pins : List (Addr × Obj)) (σ : St) (Q : VK) (u : Value) (s' : Shared) : Prop
  | mk (v : V) (H' : Hp) (h0 : Inv X pins σ H' s') (h1 : RelV v u) (h2 : Q v H')
inductive TP (X : Cx) (pins : List (Addr × Obj)) (σ : St) (Q : Bool → Hp → Prop) (b : Bool) (s' : Shared) : Prop
  | mk (H' : Hp) (h0 : Inv X pins σ H' s') (h1 : Q b H')
inductive AP (X : Cx) (pins : List (Addr × Obj)) (σ : St) (Q : List V → Hp → Prop) (us : List Value) (s' : Shared) : Prop
  | mk (vs : List V) (H' : Hp) (h0 : Inv X pins σ H' s') (h1 : Vals vs us) (h2 : Q vs H')
inductive SN (X : Cx) (pins : List (Addr × Obj)) (Q : St → Hp → Prop) (s' : Shared) : Prop
  | mk (σ' : St) (H' : Hp) (hI : Inv X pins σ' H' s') (hq : Q σ' H')
inductive SR (X : Cx) (pins : List (Addr × Obj)) (R : VK) (u : Value) (s' : Shared) : Prop
  | mk (v : V) (σ' : St) (H' : Hp) (hI : Inv X pins σ' H' s') (hr : RelV v u) (hq : R v H')
noncomputable def SP (X : Cx) (pins : List (Addr × Obj)) (D : Ends) (f : Flow) (s' : Shared) : Prop :=
  match f with
  | .next => SN X pins D.nx s'
  | .brk => SN X pins D.bk s'
  | .cont => SN X pins D.ct s'
  | .ret u => SR X pins D.rt u s'
noncomputable def PE (X : Cx) (e : Expr) (t : TE) : Prop :=
  ∀ (pins : List (Addr × Obj)) (s : Shared) (σ : St) (H : Hp) (Q : VK), Inv X pins σ H s → t σ H Q → wpAny (model X.prog X.w) X.A (eval e X.env) (EP X pins σ Q) X.xe s
noncomputable def PT (X : Cx) (e : Expr) (t : TT) : Prop :=
  ∀ (pins : List (Addr × Obj)) (s : Shared) (σ : St) (H : Hp) (Q : Bool → Hp → Prop), Inv X pins σ H s → t σ H Q → wpAny (model X.prog X.w) X.A (isTrue e X.env (eval e X.env)) (TP X pins σ Q) X.xe s
noncomputable def PW (X : Cx) (e : Expr) (t : TT) : Prop :=
  ∀ (whole : Sem Value) (pins : List (Addr × Obj)) (s : Shared) (σ : St) (H : Hp) (Q : Bool → Hp → Prop), Inv X pins σ H s → t σ H Q → wpAny (model X.prog X.w) X.A (isTrue e X.env whole) (TP X pins σ Q) X.xe s
theorem PW.pt {X : Cx} {e : Expr} {t : TT} (h : PW X e t) : PT X e t := h _
noncomputable def PA (X : Cx) (es : List Expr) (t : TA) : Prop :=
  ∀ (pos : Pos) (pins : List (Addr × Obj)) (s : Shared) (σ : St) (H : Hp) (Q : List V → Hp → Prop), Inv X pins σ H s → t σ H Q → wpAny (model X.prog X.w) X.A (spliced (backTo pos (starEach es X.env))) (AP X pins σ Q) X.xe s
noncomputable def PS (X : Cx) (st : Stmt) (t : TS) : Prop :=
  ∀ (pins : List (Addr × Obj)) (s : Shared) (σ : St) (H : Hp) (D : Ends), Inv X pins σ H s → t D σ H → wpAny (model X.prog X.w) X.A (exec st X.env) (SP X pins D) X.xe s
noncomputable def PSs (X : Cx) (st : List Stmt) (t : TS) : Prop :=
  ∀ (pins : List (Addr × Obj)) (s : Shared) (σ : St) (H : Hp) (D : Ends), Inv X pins σ H s → t D σ H → wpAny (model X.prog X.w) X.A (execs st X.env) (SP X pins D) X.xe s
theorem thn {α : Type} {t : Sem α} {Q Q' : α → Shared → Prop} {M : Model} {A : Around} {E : Value → Shared → Prop} {s : Shared} (h : wpAny M A t Q E s) (hQ : ∀ a s, Q a s → Q' a s) : wpAny M A t Q' E s := wpAny_mono h hQ fun _ _ x => x
end L2
namespace L2
open PySem PySem.Spec PyProof.Rows
section
variable {X : Cx}
theorem bin {a b : Expr} {ta tb : TE} (ha : PE X a ta) (hb : PE X b tb) {pins : List (Addr × Obj)} {s : Shared} {σ : St} {H : Hp} {R : V → V → Hp → Prop} (I : Inv X pins σ H s) (h : ta σ H fun x H1 => tb σ H1 fun y H2 => R x y H2)
    {α : Type} {Q : α → Shared → Prop} {f : Value → Value → Sem α}
    (hf : ∀ v u s2 x y H2, Inv X pins σ H2 s2 → RelV x v → RelV y u → R x y H2 → wpAny (model X.prog X.w) X.A (f v u) Q X.xe s2) :
    wpAny (model X.prog X.w) X.A (eval a X.env) (fun v s₁ => wpAny (model X.prog X.w) X.A (eval b X.env) (fun u s₂ => wpAny (model X.prog X.w) X.A (f v u) Q X.xe s₂) X.xe s₁) X.xe s := by
  refine thn (ha pins s σ H _ I h) fun v s1 hzz => ?_
  obtain ⟨x, H1, I1, r1, q1⟩ := hzz
  refine thn (hb pins s1 σ H1 _ I1 q1) fun u s2 hzz => ?_
  obtain ⟨y, H2, I2, r2, q2⟩ := hzz
  exact hf v u s2 x y H2 I2 r1 r2 q2
noncomputable def tVar (i : Nat) : TE := fun σ H Q => ∃ v, σ[i]? = some (some v) ∧ Q v H
noncomputable def tC (v : V) : TE := fun _ H Q => Q v H
theorem pe_var {i : Nat} {x : Str} {pos : Pos} (hN : X.N[i]? = some x) (hv : Vis X.env.scope x) (hd : autoParam ((x == ("__debug__" : Str)) = false) zau1._auto_1) (hcd : autoParam ((x == ("__classdict__" : Str)) = false) zau1._auto_1) : PE X (.Name x pos) (tVar i) := by
  intro pins s σ H Q I h
  obtain ⟨v, e, h⟩ := h
  obtain ⟨m, hn, hl⟩ := I.loc
  obtain ⟨u, r, l⟩ := hl i x v hN e hv
  have fin : EP X pins σ Q u s := ⟨v, H, I, r, h⟩
  rcases l with ⟨hk, hm⟩ | ⟨hk, c, hc, hcell⟩
  · exact wpAny_Name (wpAny_loadName_local I.ok.kind hk hn hm fin) hd
  · rcases hk with hk | hk
    · exact wpAny_Name (wpAny_loadName_cell I.ok.kind hk hc hcell fin) hd
    · exact wpAny_Name (wpAny_loadName_free I.ok.kind hk hc hcell fin hcd) hd
theorem pe_int {i j pos} : PE X (.Constant (.int i) j pos) (tC (.int i)) := fun _ _ _ H _ I h => wpAny_Constant_int ⟨.int i, H, I.tok _, ⟨_, rfl⟩, h⟩
theorem pe_bl {b j pos} : PE X (.Constant (.bool b) j pos) (tC (.bl b)) := fun _ _ _ H _ I h => Constant_bool ⟨.bl b, H, I, rfl, h⟩
theorem pe_non {j pos} : PE X (.Constant .none j pos) (tC .non) := fun _ _ _ H _ I h => Constant_none ⟨.non, H, I, rfl, h⟩
theorem pe_str {x j pos} : PE X (.Constant (.str x) j pos) (tC (.str x)) := fun _ _ _ H _ I h => Calls.Constant_str ⟨.str x, H, I.tok _, ⟨_, rfl⟩, h⟩
noncomputable def Gl (X : Cx) (x : Str) : Prop := X.env.kindOf x = some .globalImplicit
theorem ld_glob {E : Value → Shared → Prop} {pins : List (Addr × Obj)} {s : Shared} {σ : St} {H : Hp} {x : Str} {u : Value} {pos : Pos} {Q : Value → Shared → Prop} (I : Inv X pins σ H s) (hg : Gl X x) (hm : X.mg x = some u) (h : Q u s)
    (hd : autoParam ((x == ("__debug__" : Str)) = false) zau1._auto_1) : wpAny (model X.prog X.w) X.A (eval (.Name x pos) X.env) Q E s :=
  Calls.Name_function_global I.ok.kind hg (Calls.loadGlobal_global (by rw [I.ok.glob]; exact I.mod.glob.keeps I.bk) hm h) hd
theorem ld_blt {E : Value → Shared → Prop} {pins : List (Addr × Obj)} {s : Shared} {σ : St} {H : Hp} {x : Str} {u : Value} {pos : Pos} {Q : Value → Shared → Prop} (I : Inv X pins σ H s) (hg : Gl X x) (hm : X.mg x = none) (hv : bootBuiltins x = some u) (h : Q u s)
    (hn : autoParam (x ≠ "__name__") zau1._auto_1) (hd : autoParam ((x == ("__debug__" : Str)) = false) zau1._auto_1) : wpAny (model X.prog X.w) X.A (eval (.Name x pos) X.env) Q E s := by
  obtain ⟨mb, h1, h2⟩ := I.mod.blt
  exact Calls.Name_function_global I.ok.kind hg (Calls.loadGlobal_builtin (by rw [I.ok.glob]; exact I.mod.glob.keeps I.bk) hm (by rw [I.ok.blt]; exact h1.keeps I.bk) ((h2 x hn).trans hv) h) hd
theorem pe_glob {x : Str} {v : V} {u : Value} {pos : Pos} (hg : Gl X x) (hm : X.mg x = some u) (r : RelV v u) (hd : autoParam ((x == ("__debug__" : Str)) = false) zau1._auto_1) : PE X (.Name x pos) (tC v) :=
  fun _ _ _ H _ I h => ld_glob I hg hm ⟨v, H, I, r, h⟩ hd
theorem pe_bltn {x : Str} {v : V} {u : Value} {pos : Pos} (hg : Gl X x) (hm : X.mg x = none) (hv : bootBuiltins x = some u) (r : RelV v u) (hn : autoParam (x ≠ "__name__") zau1._auto_1) (hd : autoParam ((x == ("__debug__" : Str)) = false) zau1._auto_1) : PE X (.Name x pos) (tC v) :=
  fun _ _ _ H _ I h => ld_blt I hg hm hv ⟨v, H, I, r, h⟩ hn hd
variable {a b : Expr} {ta tb : TE} {pos : Pos}
noncomputable def tB (t : TE) : TT := fun σ H Q => t σ H fun x H1 => ∃ c, x = .bl c ∧ Q c H1
variable {tA tB' : TT} {rest : List Expr}
noncomputable def tAnd (t u : TT) : TT := fun σ H Q => t σ H fun c H1 => if c = true then u σ H1 Q else Q false H1
noncomputable def tOr (t u : TT) : TT := fun σ H Q => t σ H fun c H1 => if c = true then Q true H1 else u σ H1 Q
noncomputable def tNot (t : TT) : TT := fun σ H Q => t σ H fun c H1 => Q (!c) H1
theorem pw_and1 (ha : PT X a tA) : PW X (.BoolOp .And [a] pos) tA := by
  intro wh pins s σ H Q I h
  refine isTrue_and (thn (ha pins s σ H Q I h) fun c s1 e => ?_)
  cases c with
  | true => exact isTrue_and_nil e
  | false => exact e
theorem pw_or1 (ha : PT X a tA) : PW X (.BoolOp .Or [a] pos) tA := by
  intro wh pins s σ H Q I h
  refine isTrue_or (thn (ha pins s σ H Q I h) fun c s1 e => ?_)
  cases c with
  | false => exact isTrue_or_nil e
  | true => exact e
theorem pw_and (ha : PT X a tA) (hb : PW X (.BoolOp .And (b :: rest) pos) tB') : PW X (.BoolOp .And (a :: b :: rest) pos) (tAnd tA tB') := by
  intro wh pins s σ H Q I h
  refine isTrue_and (thn (ha pins s σ H _ I h) fun c s1 hzz => ?_)
  obtain ⟨H1, I1, q1⟩ := hzz
  cases c with
  | true => exact hb wh pins s1 σ H1 Q I1 q1
  | false => exact ⟨H1, I1, q1⟩
theorem pw_or (ha : PT X a tA) (hb : PW X (.BoolOp .Or (b :: rest) pos) tB') : PW X (.BoolOp .Or (a :: b :: rest) pos) (tOr tA tB') := by
  intro wh pins s σ H Q I h
  refine isTrue_or (thn (ha pins s σ H _ I h) fun c s1 hzz => ?_)
  obtain ⟨H1, I1, q1⟩ := hzz
  cases c with
  | true => exact ⟨H1, I1, q1⟩
  | false => exact hb wh pins s1 σ H1 Q I1 q1
theorem pt_not (ha : PT X a tA) : PT X (.UnaryOp .Not a pos) (tNot tA) := by
  intro pins s σ H Q I h
  exact isTrue_not (thn (ha pins s σ H (fun c H1 => Q (!c) H1) I h) fun c s1 z => z.casesOn fun H1 I1 q1 => ⟨H1, I1, q1⟩)
noncomputable def tAndV (ta tb : TE) : TE := fun σ H Q => ta σ H fun x H1 => ∃ c, x = .bl c ∧ if c = true then tb σ H1 Q else Q (.bl false) H1
noncomputable def tOrV (ta tb : TE) : TE := fun σ H Q => ta σ H fun x H1 => ∃ c, x = .bl c ∧ if c = true then Q (.bl true) H1 else tb σ H1 Q
noncomputable def tNotV (ta : TE) : TE := fun σ H Q => ta σ H fun x H1 => ∃ c, x = .bl c ∧ Q (.bl (!c)) H1
theorem pe_one {op} {t : TE} (h : PE X a t) : PE X (.BoolOp op [a] pos) t := fun pins s σ H Q I hw => BoolOp_one (h pins s σ H Q I hw)
theorem pe_and (ha : PE X a ta) (hb : PE X (.BoolOp .And (b :: rest) pos) tb) : PE X (.BoolOp .And (a :: b :: rest) pos) (tAndV ta tb) := by
  intro pins s σ H Q I h
  refine BoolOp_and (thn (ha pins s σ H _ I h) fun v s1 hzz => ?_)
  obtain ⟨x, H1, I1, r1, q1⟩ := hzz
  obtain ⟨c, rfl, q1⟩ := q1
  cases r1
  refine wpAny_truthy_bool ?_
  cases c with
  | true => exact hb pins s1 σ H1 Q I1 q1
  | false => exact ⟨.bl false, H1, I1, rfl, q1⟩
theorem pe_or (ha : PE X a ta) (hb : PE X (.BoolOp .Or (b :: rest) pos) tb) : PE X (.BoolOp .Or (a :: b :: rest) pos) (tOrV ta tb) := by
  intro pins s σ H Q I h
  refine BoolOp_or (thn (ha pins s σ H _ I h) fun v s1 hzz => ?_)
  obtain ⟨x, H1, I1, r1, q1⟩ := hzz
  obtain ⟨c, rfl, q1⟩ := q1
  cases r1
  refine wpAny_truthy_bool ?_
  cases c with
  | false => exact hb pins s1 σ H1 Q I1 q1
  | true => exact ⟨.bl true, H1, I1, rfl, q1⟩
theorem pe_not (ha : PE X a ta) : PE X (.UnaryOp .Not a pos) (tNotV ta) := by
  intro pins s σ H Q I h
  refine UnaryOp_ (thn (ha pins s σ H _ I h) fun v s1 hzz => ?_)
  obtain ⟨x, H1, I1, r1, q1⟩ := hzz
  obtain ⟨c, rfl, q1⟩ := q1
  cases r1
  exact not_of (wpAny_truthy_bool ⟨.bl (!c), H1, I1, rfl, q1⟩)
noncomputable def tIf (t : TT) (ta tb : TE) : TE := fun σ H Q => t σ H fun c H1 => if c = true then ta σ H1 Q else tb σ H1 Q
theorem pe_ifExp {c : Expr} (hc : PT X c tA) (ha : PE X a ta) (hb : PE X b tb) : PE X (.IfExp c a b pos) (tIf tA ta tb) := by
  intro pins s σ H Q I h
  refine wpAny_IfExp (thn (hc pins s σ H _ I h) fun d s1 hzz => ?_)
  obtain ⟨H1, I1, q1⟩ := hzz
  cases d with
  | true => exact ha pins s1 σ H1 Q I1 q1
  | false => exact hb pins s1 σ H1 Q I1 q1
end
end L2
namespace L2
open PySem PySem.Spec PyProof.Rows
noncomputable def SqL (K : PySem.W.Frag) (H : Hp) (a : Addr) (xs : List V) : Prop :=
  Rd H a (.lst xs) ∨
    ∃ (o : Obj) (its : Array Value) (n : Nat), K.lookup a = some o ∧ o.cls = .type "list" ∧ o.dict = none ∧ o.data = .seq its n ∧ its.size ≤ sizeLine ∧ Vals xs its.toList
noncomputable def SqT (K : PySem.W.Frag) (H : Hp) (a : Addr) (xs : List V) : Prop :=
  Rd H a (.tup xs) ∨
    ∃ (o : Obj) (its : Array Value) (n : Nat), K.lookup a = some o ∧ o.cls = .type "tuple" ∧ o.data = .seq its n ∧ its.size ≤ sizeLine ∧ Vals xs its.toList
noncomputable def absV : Value → Option V
  | .none => some .non
  | .bool b => some (.bl b)
  | .int i _ => some (.int i)
  | .str x _ => some (.str x)
  | .ref a => some (.ref a)
  | .type n => some (.ty n)
  | _ => none
theorem RelV.abs {x : V} {u : Value} (r : RelV x u) : absV u = some x := by
  cases x with
  | non => cases r; rfl
  | bl _ => cases r; rfl
  | int _ => obtain ⟨t, rfl⟩ := r; rfl
  | str _ => obtain ⟨t, rfl⟩ := r; rfl
  | ref _ => cases r; rfl
  | ty _ => cases r; rfl
theorem RelV.inj {x y : V} {u : Value} (r : RelV x u) (q : RelV y u) : x = y := Option.some.inj (r.abs.symm.trans q.abs)
theorem Vals.inj : ∀ {xs ys : List V} {us : List Value}, Vals xs us → Vals ys us → xs = ys
  | _, _, _, .nil, .nil => rfl
  | _, _, _, .cons r t, .cons r' t' => by rw [r.inj r', Vals.inj t t']
section
variable {X : Cx} {pins : List (Addr × Obj)} {σ : St} {H : Hp} {s : Shared} {a : Addr} {xs ys : List V}
theorem SqL.of {K : PySem.W.Frag} (h : H a = some (.lst xs)) : SqL K H a xs := .inl (.inl h)
theorem SqT.of {K : PySem.W.Frag} (h : H a = some (.tup xs)) : SqT K H a xs := .inl (.inl h)
theorem Inv.list (I : Inv X pins σ H s) (h : SqL X.K H a xs) : ∃ its : List Value, Vals xs its ∧ PlainL s.heap a its.toArray ∧ xs.length ≤ sizeLine := by
  rcases h with h | ⟨o, its, n, hk, hc, hd, hs, hz, r⟩
  · obtain ⟨z, its, n, r, e⟩ := h.ok I.hok
    exact ⟨its, r, ⟨_, n, e, rfl, rfl, rfl⟩, z⟩
  · refine ⟨its.toList, r, ⟨o, n, I.kIn a o hk, hc, hd, by simpa using hs⟩, ?_⟩
    have e := r.length
    simp only [Array.length_toList] at e
    omega
theorem Inv.tuple (I : Inv X pins σ H s) (h : SqT X.K H a xs) : ∃ its : List Value, Vals xs its ∧ IsTup s.heap a its.toArray ∧ xs.length ≤ sizeLine := by
  rcases h with h | ⟨o, its, n, hk, hc, hs, hz, r⟩
  · obtain ⟨z, its, r, p⟩ := h.ok I.hok
    exact ⟨its, r, p, z⟩
  · refine ⟨its.toList, r, ⟨o, I.kIn a o hk, hc, n, by simpa using hs⟩, ?_⟩
    have e := r.length
    simp only [Array.length_toList] at e
    omega
theorem Inv.list_inj (I : Inv X pins σ H s) (h : SqL X.K H a xs) (h' : SqL X.K H a ys) : xs = ys := by
  obtain ⟨its, r, ⟨o, n, e, _, _, d⟩, _⟩ := I.list h
  obtain ⟨its', r', ⟨o', n', e', _, _, d'⟩, _⟩ := I.list h'
  rw [e] at e'; cases e'
  rw [d] at d'
  injection d' with d1 _
  have : its = its' := by simpa using congrArg Array.toList d1
  subst this
  exact r.inj r'
theorem Inv.tuple_inj (I : Inv X pins σ H s) (h : SqT X.K H a xs) (h' : SqT X.K H a ys) : xs = ys := by
  obtain ⟨its, r, ⟨o, e, _, n, d⟩, _⟩ := I.tuple h
  obtain ⟨its', r', ⟨o', e', _, n', d'⟩, _⟩ := I.tuple h'
  rw [e] at e'; cases e'
  rw [d] at d'
  injection d' with d1 _
  have : its = its' := by simpa using congrArg Array.toList d1
  subst this
  exact r.inj r'
end
noncomputable abbrev Cx.wish (X : Cx) (E : Value → Shared → Prop) : Cx := { X with xe := E }
noncomputable abbrev Cx.nox (X : Cx) : Cx := X.wish fun _ _ => False
theorem Cx.Ok.wish {X : Cx} (ok : X.Ok) (E : Value → Shared → Prop) : (X.wish E).Ok :=
  ⟨ok.mod, ok.kind, ok.glob, ok.blt, ok.above, ok.inj, ok.has, ok.cab, ok.hd, ok.frames, ok.stk, ok.exf, ok.bs, ok.bsz, ok.noex, ok.exfs, ok.funs, ok.frf⟩
theorem Cx.Ok.unwish {X : Cx} {E : Value → Shared → Prop} (ok : (X.wish E).Ok) : X.Ok :=
  ⟨ok.mod, ok.kind, ok.glob, ok.blt, ok.above, ok.inj, ok.has, ok.cab, ok.hd, ok.frames, ok.stk, ok.exf, ok.bs, ok.bsz, ok.noex, ok.exfs, ok.funs, ok.frf⟩
section
variable {X : Cx} {pins : List (Addr × Obj)} {σ : St} {H : Hp} {s : Shared} {E : Value → Shared → Prop}
theorem Inv.wish (I : Inv X pins σ H s) (E : Value → Shared → Prop) : Inv (X.wish E) pins σ H s := ⟨I.ok.wish E, I.os, I.bare, I.base, I.loc, I.cell, I.free, I.freeC, I.pin, I.hok, I.len⟩
theorem Inv.unwish (I : Inv (X.wish E) pins σ H s) : Inv X pins σ H s := ⟨I.ok.unwish, I.os, I.bare, I.base, I.loc, I.cell, I.free, I.freeC, I.pin, I.hok, I.len⟩
theorem SP.unwish {D : Ends} {f : Flow} {s' : Shared} (h : SP (X.wish E) pins D f s') : SP X pins D f s' := by
  cases f with
  | next => obtain ⟨σ', H', I, q⟩ := h; exact ⟨σ', H', I.unwish, q⟩
  | brk => obtain ⟨σ', H', I, q⟩ := h; exact ⟨σ', H', I.unwish, q⟩
  | cont => obtain ⟨σ', H', I, q⟩ := h; exact ⟨σ', H', I.unwish, q⟩
  | ret u => obtain ⟨v, σ', H', I, r, q⟩ := h; exact ⟨v, σ', H', I.unwish, r, q⟩
theorem PSs.nox {st : List Stmt} {t : TS} (h : PSs X.nox st t) : PSs X st t := fun pins s σ H D I hw =>
  wpAny_mono (h pins s σ H D (I.wish _) hw) (fun _ _ q => q.unwish) fun _ _ z => False.elim z
end
section
variable {X : Cx} {st : Stmt} {rest : List Stmt} {t u : TS} {e : Expr} {te : TE} {pos : Pos}
noncomputable def tNext : TS := fun D σ H => D.nx σ H
noncomputable def tSeq (t u : TS) : TS := fun D σ H => t { D with nx := u D } σ H
theorem pss_nil : PSs X [] tNext := fun _ _ σ H _ I h => wpAny_execs_nil ⟨σ, H, I, h⟩
theorem pss_cons (h1 : PS X st t) (h2 : PSs X rest u) : PSs X (st :: rest) (tSeq t u) := by
  intro pins s σ H D I h
  refine wpAny_execs_cons (thn (h1 pins s σ H { D with nx := u D } I h) fun f s1 q => ?_)
  cases f with
  | next =>
    obtain ⟨σ', H', I', q⟩ := q
    exact h2 pins s1 σ' H' D I' q
  | ret v => exact q
  | brk => exact q
  | cont => exact q
theorem pss_one (h1 : PS X st t) : PSs X [st] t := by
  intro pins s σ H D I h
  refine wpAny_execs_cons (thn (h1 pins s σ H D I h) fun f s1 q => ?_)
  cases f with
  | next => exact wpAny_execs_nil q
  | ret v => exact q
  | brk => exact q
  | cont => exact q
theorem Inv.quiet {pins : List (Addr × Obj)} {σ : St} {H : Hp} {s : Shared} (I : Inv X pins σ H s) : interactive X.env = false := by simp [interactive, I.ok.kind]
noncomputable def tDrop (te : TE) : TS := fun D σ H => te σ H fun _ H1 => D.nx σ H1
theorem ps_expr (he : PE X e te) (hs : autoParam (swapsWith e none pos.line X.env = pure false) zau2._auto_1) : PS X (.Expr e pos) (tDrop te) := by
  intro pins s σ H D I h
  exact wpAny_Expr_any (thn (he pins s σ H _ I h) fun v s1 ⟨x, H1, I1, r1, q1⟩ => ⟨σ, H1, I1, q1⟩) I.quiet hs
noncomputable def tRet (te : TE) : TS := fun D σ H => te σ H D.rt
theorem ps_ret (he : PE X e te) : PS X (.Return (some e) pos) (tRet te) := by
  intro pins s σ H D I h
  exact wpAny_Return_some (thn (he pins s σ H _ I h) fun v s1 ⟨x, H1, I1, r1, q1⟩ => ⟨x, σ, H1, I1, r1, q1⟩)
noncomputable def tIfS (c : TT) (t u : TS) : TS := fun D σ H => c σ H fun b H1 => if b = true then t D σ H1 else u D σ H1
theorem ps_if {c : Expr} {a b : List Stmt} {tc : TT} (hc : PT X c tc) (ha : PSs X a t) (hb : PSs X b u) : PS X (.If c a b pos) (tIfS tc t u) := by
  intro pins s σ H D I h
  refine wpAny_If (thn (hc pins s σ H _ I h) fun d s1 hzz => ?_)
  obtain ⟨H1, I1, q1⟩ := hzz
  cases d with
  | true => exact ha pins s1 σ H1 D I1 q1
  | false => exact hb pins s1 σ H1 D I1 q1
end
noncomputable abbrev TG := V → St → Hp → (St → Hp → Prop) → Prop
noncomputable abbrev TGs := List V → St → Hp → (St → Hp → Prop) → Prop
noncomputable def PG (X : Cx) (target : Expr) (t : TG) : Prop :=
  ∀ (pins : List (Addr × Obj)) (s : Shared) (σ : St) (H : Hp) (v : V) (u : Value) (Q : St → Hp → Prop), Inv X pins σ H s → RelV v u → t v σ H Q →
    wpAny (model X.prog X.w) X.A (assign target X.env u) (fun _ s' => SN X pins Q s') X.xe s
noncomputable def PGs (X : Cx) (ts : List Expr) (t : TGs) : Prop :=
  ∀ (pins : List (Addr × Obj)) (s : Shared) (σ : St) (H : Hp) (vs : List V) (us : List Value) (Q : St → Hp → Prop), Inv X pins σ H s → Vals vs us → t vs σ H Q →
    wpAny (model X.prog X.w) X.A (assignInOrder ((assignEach ts X.env).map (·.2)) us) (fun _ s' => SN X pins Q s') X.xe s
noncomputable abbrev TSet := V → V → V → Hp → (Hp → Prop) → Prop
noncomputable abbrev TIp := V → V → Hp → VK → Prop
noncomputable def PIp (X : Cx) (op : Operator) (t : TIp) : Prop :=
  ∀ (pins : List (Addr × Obj)) (s : Shared) (σ : St) (H : Hp) (x y : V) (v u : Value) (Q : VK), Inv X pins σ H s → RelV x v → RelV y u → t x y H Q →
    wpAny (model X.prog X.w) X.A (inplaceOp op v u) (EP X pins σ Q) X.xe s
section
variable {X : Cx} {pos : Pos}
noncomputable def gName (i : Nat) : TG := fun v σ H Q => Q (σ.set i (some v)) H
theorem pg_name {i : Nat} {x : Str} (hN : X.N.Nodup) (hi : X.N[i]? = some x) (hx : Loc X.env.scope x) (hf : autoParam (X.fn x = true ∨ X.env.scope.names.lookup x = some .local) zau0._auto_1) : PG X (.Name x pos) (gName i) := by
  intro pins s σ H v u Q I r h
  exact wpAny_assign_Name (store_ok I hN hi hx r (fun s' I' => ⟨_, H, I', h⟩) hf)
noncomputable def gNil : TGs := fun vs σ H Q => vs = [] ∧ Q σ H
noncomputable def gCons (t : TG) (u : TGs) : TGs := fun vs σ H Q => ∃ v r, vs = v :: r ∧ t v σ H fun σ' H' => u r σ' H' Q
theorem pgs_nil : PGs X [] gNil := by
  intro pins s σ H vs us Q I r h
  obtain ⟨e, h⟩ := h
  subst e
  cases r
  exact assignInOrder_nil ⟨σ, H, I, h⟩
theorem pgs_cons {e : Expr} {es : List Expr} {t : TG} {u : TGs} (h1 : PG X e t) (h2 : PGs X es u)
    (hs : autoParam ((assignEach (e :: es) X.env).map (·.2) = assign e X.env :: (assignEach es X.env).map (·.2)) zau2._auto_1) : PGs X (e :: es) (gCons t u) := by
  intro pins s σ H vs us Q I r h
  obtain ⟨v, vr, e1, h⟩ := h
  subst e1
  cases r with
  | cons r rr =>
    rw [hs]
    refine assignInOrder_cons (thn (h1 pins s σ H _ _ _ I r h) fun _ s1 hzz => ?_)
    obtain ⟨σ1, H1, I1, q1⟩ := hzz
    exact h2 pins s1 σ1 H1 _ _ Q I1 rr q1
noncomputable def gTup (K : PySem.W.Frag) (n : Nat) (t : TGs) : TG := fun v σ H Q => ∃ a xs, v = .ref a ∧ SqT K H a xs ∧ xs.length = n ∧ t xs σ H Q
theorem pg_tup {es : List Expr} {k : Nat} {t : TGs} {n : Nat} (hc : X.calm = true) (h : PGs X es t)
    (hn : autoParam ((assignEach es X.env).length = n) zau2._auto_1) (hst : autoParam ((assignEach es X.env).findIdx? (·.1) = none) zau2._auto_1) : PG X (.Tuple es k pos) (gTup X.K n t) := by
  intro pins s σ H v u Q I r hw
  obtain ⟨a, xs, e1, hq, hl, hw⟩ := hw
  subst e1
  cases r
  obtain ⟨its, rv, ht, hz⟩ := I.tuple hq
  refine assign_Tuple_tuple (I.ok.hd hc) ht (by simp [hn, ← hl, rv.length]) hst fun h' hx => ?_
  have I1 : Inv X pins σ H { s with heap := h' } := I.kept (t' := s.toks) fun b o e => hx b o (Nat.ne_of_lt (Heap.lt_size e)) e
  exact h pins _ σ H xs _ Q I1 (by simpa using rv) hw
noncomputable def gSub (to ti : TE) (t : TSet) : TG := fun v σ H Q => to σ H fun o H1 => ti σ H1 fun i H2 => t o i v H2 fun H3 => Q σ H3
noncomputable def tAsg (te : TE) (g : TG) : TS := fun D σ H => te σ H fun x H1 => g x σ H1 D.nx
theorem ps_asg {tg e : Expr} {te : TE} {g : TG} (he : PE X e te) (hg : PG X tg g) (hs : autoParam (swapsWithSole [tg] e pos.line X.env = pure false) zau2._auto_1) (hw : autoParam (swappedStores [tg] e X.env = pure none) zau2._auto_1)
    (h1 : autoParam ((assignEach [tg] X.env).map (·.2) = [assign tg X.env]) zau2._auto_1) : PS X (.Assign [tg] e pos) (tAsg te g) := by
  intro pins s σ H D I h
  refine wpAny_Assign_stores (thn (he pins s σ H _ I h) fun v s1 hzz => ?_) hs hw
  obtain ⟨x, H1, I1, r1, q1⟩ := hzz
  rw [h1]
  exact thn (hg pins s1 σ H1 x v _ I1 r1 q1) fun _ s2 q => q
theorem ps_set {i : Nat} {x : Str} {e : Expr} {te : TE} {pos' : Pos} (hN : X.N.Nodup) (hi : X.N[i]? = some x) (hx : Loc X.env.scope x) (he : PE X e te) (hs : autoParam (swapsWith e (some (.Name x pos')) pos.line X.env = pure false) zau2._auto_1) (hf : autoParam (X.fn x = true ∨ X.env.scope.names.lookup x = some .local) zau0._auto_1) :
    PS X (.Assign [.Name x pos'] e pos) (tAsg te (gName i)) := by
  intro pins s σ H D I h
  refine wpAny_Assign_Name (thn (he pins s σ H _ I h) fun v s1 hzz => ?_) hs
  obtain ⟨y, H1, I1, r1, q1⟩ := hzz
  exact store_ok I1 hN hi hx r1 (fun s2 I2 => ⟨_, H1, I2, q1⟩) hf
noncomputable def tAug (i : Nat) (te : TE) (ti : TIp) : TS := fun D σ H => ∃ x, σ[i]? = some (some x) ∧ te σ H fun y H1 => ti x y H1 fun z H2 => D.nx (σ.set i (some z)) H2
theorem ps_aug {i : Nat} {x : Str} {e : Expr} {te : TE} {op : Operator} {ti : TIp} {pos' : Pos} (hN : X.N.Nodup) (hi : X.N[i]? = some x) (hx : Loc X.env.scope x) (he : PE X e te) (ho : PIp X op ti) (hf : autoParam (X.fn x = true ∨ X.env.scope.names.lookup x = some .local) zau0._auto_1) :
    PS X (.AugAssign (.Name x pos') op e pos) (tAug i te ti) := by
  intro pins s σ H D I h
  obtain ⟨v, e1, h⟩ := h
  obtain ⟨m, hn, hl⟩ := I.loc
  have vis : Vis X.env.scope x := by rcases hx with k | k; exact .inl k; exact .inr (.inl k)
  obtain ⟨u, r, l⟩ := hl i x v hi e1 vis
  refine wpAny_AugAssign_Name ?_
  have go : wpAny (model X.prog X.w) X.A (eval e X.env) (fun w s₂ => wpAny (model X.prog X.w) X.A (inplaceOp op u w) (fun r s₃ => wpAny (model X.prog X.w) X.A (storeName X.env x r) (fun _ => SP X pins D .next) X.xe s₃) X.xe s₂) X.xe s := by
    refine thn (he pins s σ H _ I h) fun w s1 hzz => ?_
    obtain ⟨y, H1, I1, r1, q1⟩ := hzz
    refine thn (ho pins s1 σ H1 v y u w _ I1 r r1 q1) fun z s2 hzz => ?_
    obtain ⟨zv, H2, I2, r2, q2⟩ := hzz
    exact store_ok I2 hN hi hx r2 (fun s3 I3 => ⟨_, H2, I3, q2⟩) hf
  rcases l with ⟨hk, hm⟩ | ⟨hk, c, hc, hcell⟩
  · exact wpAny_loadName_local I.ok.kind hk hn hm go
  · rcases hk with hk | hk
    · exact wpAny_loadName_cell I.ok.kind hk hc hcell go
    · rcases hx with k | k
      · have : X.env.scope.names.lookup x = some .free := hk
        rw [k] at this; cases this
      · have : X.env.scope.names.lookup x = some .free := hk
        rw [k] at this; cases this
end
section
variable {X : Cx} {pos : Pos}
noncomputable def tWhile (c : TT) (tb : TS) : TS := fun D σ H => ∃ W : Nat → St → Hp → Prop, (∃ m, W m σ H) ∧ ∀ m σ H, W m σ H →
  c σ H fun b H1 => if b = true then ∃ N : St → Hp → Prop, (∀ σ' H', N σ' H' → ∃ m', m' < m ∧ W m' σ' H') ∧ tb { D with nx := N, ct := N, bk := D.nx } σ H1 else D.nx σ H1
theorem ps_while {c : Expr} {body : List Stmt} {tc : TT} {tb : TS} (hp : PassesOwn (model X.prog X.w) X.A X.env X.xe) (hc : PT X c tc) (hb : PSs X body tb) : PS X (.While c body [] pos) (tWhile tc tb) := by
  intro pins s σ H D I h
  obtain ⟨W, ⟨m0, w0⟩, turn⟩ := h
  refine wpAny_While (codeAny_whileLoop (fun n s' => ∃ σ' H', Inv X pins σ' H' s' ∧ W n σ' H') ?_ m0 ⟨σ, H, I, w0⟩)
  rintro n s1 ⟨σ1, H1, I1, w1⟩
  refine wpAny_passesOwn hp (thn (hc pins s1 σ1 H1 _ I1 (turn n σ1 H1 w1)) fun b s2 hzz => ?_)
  obtain ⟨H2, I2, q2⟩ := hzz
  cases b with
  | true =>
    obtain ⟨N, hN, q2⟩ := q2
    rw [if_pos rfl]
    refine wpAny_passesOwn hp (thn (hb pins s2 σ1 H2 _ I2 q2) fun f s3 q3 => ?_)
    cases f with
    | next =>
      obtain ⟨σ3, H3, I3, n3⟩ := q3
      obtain ⟨m', hm, w3⟩ := hN σ3 H3 n3
      exact ⟨m', hm, σ3, H3, I3, w3⟩
    | cont =>
      obtain ⟨σ3, H3, I3, n3⟩ := q3
      obtain ⟨m', hm, w3⟩ := hN σ3 H3 n3
      exact ⟨m', hm, σ3, H3, I3, w3⟩
    | brk => exact q3
    | ret v => exact q3
  | false =>
    rw [if_neg Bool.false_ne_true]
    exact wpAny_execs_nil ⟨σ1, H2, I2, q2⟩
end
structure It where
  go : Nat → Hp → Prop
  yld : Nat → Hp → V → Hp → Prop
  stop : Nat → Hp → Prop
noncomputable def FpOk (X : Cx) (pins : List (Addr × Obj)) (H : Hp) (b : Addr) : Prop :=
  H b = none ∧ b ≠ X.env.locals ∧ b ∉ X.fs ∧ (b ∈ X.ex ∨ X.s₀.heap.objs.size ≤ b) ∧ (∀ x c, X.env.cells.lookup x = some c → c ≠ b) ∧ ∀ p ∈ X.pn ++ pins, p.1 ≠ b
theorem Inv.fpOk {X : Cx} {pins : List (Addr × Obj)} {σ : St} {H H' : Hp} {s : Shared} {b : Addr} (I : Inv X pins σ H s) (hb : s.heap.objs.size ≤ b) (hn : H' b = none) : FpOk X pins H' b := by
  refine ⟨hn, Nat.ne_of_gt (Nat.lt_of_lt_of_le I.lt hb), I.nofs hb, .inr (Nat.le_trans I.sz hb), fun x c e z => ?_, fun p hp z => ?_⟩
  · obtain ⟨v, q⟩ := I.cell x c e
    exact absurd (Nat.lt_of_lt_of_le q.lt (by rw [z]; exact hb)) (Nat.lt_irrefl _)
  · exact absurd (Nat.lt_of_lt_of_le (Heap.lt_size (I.pin p hp).1) (by rw [z]; exact hb)) (Nat.lt_irrefl _)
inductive TIt (X : Cx) (pins : List (Addr × Obj)) (σ : St) (J : It) (fp : List Addr) (tn : Nat → Heap → Prop) (i : Nat) (H : Hp) (u : Value) (s2 : Shared) : Prop
  | mk (x : V) (H' : Hp) (h1 : Inv X pins σ H' s2) (h2 : RelV x u) (h3 : J.yld i H x H') (h4 : tn (i + 1) s2.heap) (h5 : ∀ b ∈ fp, H' b = none)
structure Turn (P : Program) (w : World) (K : PySem.W.Frag) (tg : Expr) (J : It) (fp : List Addr) (it : Addr) (tn : Nat → Heap → Prop) : Prop where
  mem : it ∈ fp
  obj : ∀ i h, tn i h → ∀ b ∈ fp, ∃ o, h.get? b = some o ∧ ∀ v, o.data ≠ .cell v
  keep : ∀ i h h', tn i h → (∀ b ∈ fp, ∀ o, h.get? b = some o → h'.get? b = some o) → tn i h'
  item : ∀ (X : Cx), X.prog = P → X.w = w → X.K = K → X.calm = true → ∀ (i : Nat) (pins : List (Addr × Obj)) (s : Shared) (σ : St) (H : Hp) (E : Value → Shared → Prop), Inv X pins σ H s → (∀ b ∈ fp, FpOk X pins H b) → tn i s.heap → J.go i H →
    wpAny (model P w) X.A (pyNext (.ref it)) (fun r s1 => ∃ u, r = some u ∧
      wpAny (model P w) X.A (letOwnedTupleGo tg (.ref it) u) (fun _ s2 => TIt X pins σ J fp tn i H u s2) E s1) E s
  done : ∀ (X : Cx), X.prog = P → X.w = w → X.K = K → X.calm = true → ∀ (i : Nat) (pins : List (Addr × Obj)) (s : Shared) (σ : St) (H : Hp) (E : Value → Shared → Prop), Inv X pins σ H s → (∀ b ∈ fp, FpOk X pins H b) → tn i s.heap → J.stop i H →
    wpAny (model P w) X.A (pyNext (.ref it)) (fun r s1 => r = none ∧ Inv X pins σ H s1) E s
  self : ∀ (A : Around) (i : Nat) (s : Shared) (Q : Value → Shared → Prop) (E : Value → Shared → Prop), tn i s.heap → Q (.ref it) s → wpAny (model P w) A (pyIter (.ref it)) Q E s
noncomputable abbrev TI := St → Hp → (It → Hp → Prop) → Prop
inductive PIE (X : Cx) (pins : List (Addr × Obj)) (σ : St) (tg : Expr) (R : It → Hp → Prop) (itv : Value) (s2 : Shared) : Prop
  | mk (it : Addr) (fp : List Addr) (tn : Nat → Heap → Prop) (J : It) (H' : Hp) (h1 : itv = .ref it) (h2 : Inv X pins σ H' s2) (h3 : Turn X.prog X.w X.K tg J fp it tn) (h4 : tn 0 s2.heap) (h5 : ∀ b ∈ fp, FpOk X pins H' b) (h6 : R J H')
noncomputable def PI (X : Cx) (tg iter : Expr) (wi : TI) : Prop :=
  ∀ (pins : List (Addr × Obj)) (s : Shared) (σ : St) (H : Hp) (R : It → Hp → Prop), Inv X pins σ H s → wi σ H R →
    wpAny (model X.prog X.w) X.A (eval iter X.env) (fun v s1 => wpAny (model X.prog X.w) X.A (pyIter v) (PIE X pins σ tg R) X.xe s1) X.xe s
theorem go_of {M : Model} {A : Around} {E : Value → Shared → Prop} {s : Shared} {tg : Expr} {it : Addr} {u : Value} {o : Obj} {n : String} {vs : Array Value} {Q : Unit → Shared → Prop} (ho : s.heap.get? it = some o) (hc : o.cls = .type n) (hd : o.data = .fields vs)
    (hn : ["enumerate", "zip", "dict_itemiterator", "dict_reverseitemiterator", "odict_iterator", "itertools.zip_longest", "itertools.pairwise"].contains n = false) (hQ : Q () s) : wpAny M A (letOwnedTupleGo tg (.ref it) u) Q E s := by
  unfold letOwnedTupleGo
  cases tg <;> first
    | exact wpAny_pure hQ
    | (cases u <;> first
        | exact wpAny_pure hQ
        | (refine wpAny_bind (wpAny_load ho ?_)
           rw [hc, hd]
           show wpAny M A (if (["enumerate", "zip", "dict_itemiterator", "dict_reverseitemiterator", "odict_iterator", "itertools.zip_longest", "itertools.pairwise"].contains n && vs[0]? == some (rawInt _)) = true then _ else _) Q E s
           rw [if_neg (by intro h; rw [hn, Bool.false_and] at h; cases h)]
           exact wpAny_pure hQ))
noncomputable def Itl (K : PySem.W.Frag) (a : Addr) : It :=
  ⟨fun i H => ∃ xs x, SqL K H a xs ∧ xs[i]? = some x, fun i H x H' => H' = H ∧ ∀ xs, SqL K H a xs → xs[i]? = some x, fun i H => ∃ xs, SqL K H a xs ∧ xs.length ≤ i⟩
noncomputable def Itt (K : PySem.W.Frag) (a : Addr) : It :=
  ⟨fun i H => ∃ xs x, SqT K H a xs ∧ xs[i]? = some x, fun i H x H' => H' = H ∧ ∀ xs, SqT K H a xs → xs[i]? = some x, fun i H => ∃ xs, SqT K H a xs ∧ xs.length ≤ i⟩
theorem turn_list {P : Program} {w : World} {K : PySem.W.Frag} {tg : Expr} (a it : Addr) : Turn P w K tg (Itl K a) [it] it (fun i h => h.IsListIter it a i) where
  mem := by simp
  obj := fun i h st b hb => by
    have e : b = it := by simpa using hb
    subst e
    obtain ⟨o, e, c, d⟩ := st
    exact ⟨o, e, fun v z => by rw [d] at z; cases z⟩
  keep := fun i h h' st k => st.at fun o e => k it (by simp) o e
  item := by
    intro X hP hw hK hc i pins s σ H E I hf st hg
    subst hP hw hK
    obtain ⟨xs, x, hq, hx⟩ := hg
    obtain ⟨its, rv, p, hz⟩ := I.list hq
    obtain ⟨u, hu, ru⟩ := rv.get hx
    obtain ⟨f0, f1, f2, f3, f4, f5⟩ := hf it (by simp)
    refine wpAny_pyNext_list_item st p.isList (x := u) (by simpa using hu) fun h' st' sb => ?_
    have I1 : Inv X pins σ H { s with heap := h' } := I.turned (t' := s.toks) (fun b o hb e => (sb.2 b hb).trans e) f0 f1 f3 f4 f5
    obtain ⟨o, e, c, d⟩ := id st'
    exact ⟨u, rfl, go_of (s := { s with heap := h' }) e c d (by decide) ⟨x, H, I1, ru, ⟨rfl, fun ys hy => by rw [I.list_inj hy hq]; exact hx⟩, st', fun b hb => (hf b hb).1⟩⟩
  done := by
    intro X hP hw hK hc i pins s σ H E I hf st hg
    subst hP hw hK
    obtain ⟨xs, hq, hx⟩ := hg
    obtain ⟨its, rv, p, hz⟩ := I.list hq
    obtain ⟨f0, f1, f2, f3, f4, f5⟩ := hf it (by simp)
    have hl := rv.length
    exact wpAny_pyNext_list_end (I.ok.hd hc) st p.isList (by simp; omega) fun h' eb => ⟨rfl, I.turned (t' := s.toks) (fun b o hb e => eb b o hb e) f0 f1 f3 f4 f5⟩
  self := fun _ _ _ _ _ st h => wpAny_pyIter_listiter st h
theorem turn_tuple {P : Program} {w : World} {K : PySem.W.Frag} {tg : Expr} (a it : Addr) : Turn P w K tg (Itt K a) [it] it (fun i h => h.IsTupleIter it a i) where
  mem := by simp
  obj := fun i h st b hb => by
    have e : b = it := by simpa using hb
    subst e
    obtain ⟨o, e, c, d⟩ := st
    exact ⟨o, e, fun v z => by rw [d] at z; cases z⟩
  keep := fun i h h' st k => st.at fun o e => k it (by simp) o e
  item := by
    intro X hP hw hK hc i pins s σ H E I hf st hg
    subst hP hw hK
    obtain ⟨xs, x, hq, hx⟩ := hg
    obtain ⟨its, rv, p, hz⟩ := I.tuple hq
    obtain ⟨u, hu, ru⟩ := rv.get hx
    obtain ⟨f0, f1, f2, f3, f4, f5⟩ := hf it (by simp)
    refine wpAny_pyNext_tuple_item st (show s.heap.IsTuple a its.toArray from p) (x := u) (by simpa using hu) fun h' st' sb => ?_
    have I1 : Inv X pins σ H { s with heap := h' } := I.turned (t' := s.toks) (fun b o hb e => (sb.2 b hb).trans e) f0 f1 f3 f4 f5
    obtain ⟨o, e, c, d⟩ := id st'
    exact ⟨u, rfl, go_of (s := { s with heap := h' }) e c d (by decide) ⟨x, H, I1, ru, ⟨rfl, fun ys hy => by rw [I.tuple_inj hy hq]; exact hx⟩, st', fun b hb => (hf b hb).1⟩⟩
  done := by
    intro X hP hw hK hc i pins s σ H E I hf st hg
    subst hP hw hK
    obtain ⟨xs, hq, hx⟩ := hg
    obtain ⟨its, rv, p, hz⟩ := I.tuple hq
    obtain ⟨f0, f1, f2, f3, f4, f5⟩ := hf it (by simp)
    have hl := rv.length
    exact wpAny_pyNext_tuple_end (I.ok.hd hc) st (show s.heap.IsTuple a its.toArray from p) (by simp; omega) fun h' eb => ⟨rfl, I.turned (t' := s.toks) (fun b o hb e => eb b o hb e) f0 f1 f3 f4 f5⟩
  self := fun _ _ _ _ _ st h => wpAny_pyIter_tupleiter st h
end L2
namespace L2
open PySem PySem.Spec PyProof.Rows
section
variable {X : Cx} {tg : Expr}
noncomputable def tFor (wi : TI) (g : TG) (tb : TS) : TS := fun D σ H => wi σ H fun J H1 => ∃ W : Nat → Nat → St → Hp → Prop, (∃ m, W 0 m σ H1) ∧ ∀ i m σ H, W i m σ H →
  (J.stop i H ∧ D.nx σ H) ∨ (J.go i H ∧ ∃ N : St → Hp → Prop, (∀ σ' H', N σ' H' → ∃ m', m' < m ∧ W (i + 1) m' σ' H') ∧ ∀ x H', J.yld i H x H' → g x σ H' fun σ2 H2 => tb { D with nx := N, ct := N, bk := D.nx } σ2 H2)
noncomputable def pinsAt (fp : List Addr) (h : Heap) : List (Addr × Obj) := fp.filterMap fun b => (h.get? b).map fun o => (b, o)
theorem mem_pinsAt {fp : List Addr} {h : Heap} {b : Addr} {o : Obj} (hb : b ∈ fp) (e : h.get? b = some o) : (b, o) ∈ pinsAt fp h := List.mem_filterMap.mpr ⟨b, hb, by rw [e]; rfl⟩
theorem of_pinsAt {fp : List Addr} {h : Heap} {p : Addr × Obj} (hp : p ∈ pinsAt fp h) : p.1 ∈ fp ∧ h.get? p.1 = some p.2 := by
  obtain ⟨b, hb, e⟩ := List.mem_filterMap.mp hp
  cases q : h.get? b with
  | none => rw [q] at e; cases e
  | some o =>
    rw [q] at e
    have e' : (b, o) = p := Option.some.inj e
    subst e'
    exact ⟨hb, q⟩
theorem Inv.pinned {pins : List (Addr × Obj)} {σ : St} {H : Hp} {s : Shared} {fp : List Addr} (I : Inv X pins σ H s) (hf : ∀ b ∈ fp, FpOk X pins H b) (ho : ∀ b ∈ fp, ∃ o, s.heap.get? b = some o ∧ ∀ v, o.data ≠ .cell v) : Inv X (pins ++ pinsAt fp s.heap) σ H s :=
  I.pins_of fun p hp => (List.mem_append.mp hp).elim (fun z => I.pin p (List.mem_append_right _ z)) fun z => by
    obtain ⟨hb, e⟩ := of_pinsAt z
    obtain ⟨f0, f1, f2, _⟩ := hf p.1 hb
    obtain ⟨o, e', d⟩ := ho p.1 hb
    rw [e] at e'; cases e'
    exact ⟨e, f0, f1, f2, d⟩
theorem Inv.unpinned {pins pl : List (Addr × Obj)} {σ : St} {H : Hp} {s : Shared} (I : Inv X (pins ++ pl) σ H s) : Inv X pins σ H s := I.pins_of fun p hp => I.pin p (List.mem_append_right _ (List.mem_append_left _ hp))
theorem ps_for {iter : Expr} {body : List Stmt} {wi : TI} {g : TG} {tb : TS} {pos : Pos} (hp : PassesOwn (model X.prog X.w) X.A X.env X.xe) (hc : X.calm = true) (hi : PI X tg iter wi) (hg : PG X tg g) (hb : PSs X body tb)
    (hs : autoParam (∀ x, foldedSetIterable iter X.env x = pure x) zau3._auto_1) : PS X (.For tg iter body [] pos) (tFor wi g tb) := by
  intro pins s σ H D I h
  refine wpAny_For (thn (hi pins s σ H _ I h) fun v s1 h1 => thn h1 fun itv s2 h2 => ?_) hs
  obtain ⟨it, fp, tn, J, H2, e, I2, T, st2, f2, W, ⟨m0, w0⟩, turn⟩ := h2
  subst e
  have stat : ∀ {H' : Hp}, (∀ b ∈ fp, H' b = none) → ∀ b ∈ fp, FpOk X pins H' b := fun hn b hb => ⟨hn b hb, (f2 b hb).2⟩
  refine codeAny_forLoop_any (fun n s' => ∃ i σ' H', Inv X pins σ' H' s' ∧ tn i s'.heap ∧ (∀ b ∈ fp, H' b = none) ∧ W i n σ' H') ?_ m0 ⟨0, σ, H2, I2, st2, fun b hb => (f2 b hb).1, w0⟩
  rintro n s3 ⟨i, σ3, H3, I3, st3, fr3, w3⟩
  rcases turn i n σ3 H3 w3 with ⟨stop, qn⟩ | ⟨go, N, hN, step⟩
  · refine wpAny_passesOwn hp (thn (T.done X rfl rfl rfl hc i pins s3 σ3 H3 X.xe I3 (stat fr3) st3 stop) fun r s4 hzz => ?_)
    obtain ⟨hr, I4⟩ := hzz
    subst hr
    exact wpAny_execs_nil ⟨σ3, H3, I4, qn⟩
  · refine wpAny_passesOwn hp (thn (T.item X rfl rfl rfl hc i pins s3 σ3 H3 X.xe I3 (stat fr3) st3 go) fun r s4 hzz => ?_)
    obtain ⟨u, hr, h4⟩ := hzz
    subst hr
    refine wpAny_passesOwn hp (thn h4 fun _ s5 hzz => ?_)
    obtain ⟨x, H5, I5, r5, y5, st5, fr5⟩ := hzz
    have I5' := I5.pinned (stat fr5) (T.obj _ _ st5)
    refine wpAny_passesOwn hp (thn (hg _ s5 σ3 H5 x u _ I5' r5 (step x H5 y5)) fun _ s6 hzz => ?_)
    obtain ⟨σ6, H6, I6, q6⟩ := hzz
    refine wpAny_passesOwn hp (thn (hb _ s6 σ6 H6 _ I6 q6) fun f s7 q7 => ?_)
    have again : ∀ {σ7 : St} {H7 : Hp}, Inv X (pins ++ pinsAt fp s5.heap) σ7 H7 s7 → N σ7 H7 → ∃ m, m < n ∧ ∃ i σ' H', Inv X pins σ' H' s7 ∧ tn i s7.heap ∧ (∀ b ∈ fp, H' b = none) ∧ W i m σ' H' := fun {σ7 H7} I7 n7 => by
      obtain ⟨m', hm, w7⟩ := hN σ7 H7 n7
      refine ⟨m', hm, i + 1, σ7, H7, I7.unpinned, T.keep _ _ _ st5 fun b hb o e => (I7.pin (b, o) (List.mem_append_right _ (List.mem_append_right _ (mem_pinsAt hb e)))).1, fun b hb => ?_, w7⟩
      obtain ⟨o, e, d⟩ := T.obj _ _ st5 b hb
      exact (I7.pin (b, o) (List.mem_append_right _ (List.mem_append_right _ (mem_pinsAt hb e)))).2.1
    cases f with
    | next => obtain ⟨σ7, H7, I7, n7⟩ := q7; exact again I7 n7
    | cont => obtain ⟨σ7, H7, I7, n7⟩ := q7; exact again I7 n7
    | brk => obtain ⟨σ7, H7, I7, q7⟩ := q7; exact ⟨σ7, H7, I7.unpinned, q7⟩
    | ret v => obtain ⟨x7, σ7, H7, I7, r7, q7⟩ := q7; exact ⟨x7, σ7, H7, I7.unpinned, r7, q7⟩
end
end L2
namespace L2
open PySem PySem.Spec PyProof.Rows
noncomputable abbrev R2 := V → V → Hp → VK → Prop
noncomputable def OpR (X : Cx) (f : Value → Value → Sem Value) (r : R2) : Prop :=
  ∀ (pins : List (Addr × Obj)) (s : Shared) (σ : St) (H : Hp) (x y : V) (v u : Value) (Q : VK), Inv X pins σ H s → RelV x v → RelV y u → r x y H Q →
    wpAny (model X.prog X.w) X.A (f v u) (EP X pins σ Q) X.xe s
noncomputable def UnR (X : Cx) (f : Value → Sem Value) (r : V → Hp → VK → Prop) : Prop :=
  ∀ (pins : List (Addr × Obj)) (s : Shared) (σ : St) (H : Hp) (x : V) (v : Value) (Q : VK), Inv X pins σ H s → RelV x v → r x H Q →
    wpAny (model X.prog X.w) X.A (f v) (EP X pins σ Q) X.xe s
noncomputable def CallR (X : Cx) (f : Value) (r : List V → Hp → VK → Prop) : Prop :=
  ∀ (pins : List (Addr × Obj)) (s : Shared) (σ : St) (H : Hp) (xs : List V) (us : List Value) (Q : VK), Inv X pins σ H s → Vals xs us → r xs H Q →
    wpAny (model X.prog X.w) X.A (call f us) (EP X pins σ Q) X.xe s
noncomputable def TruR (X : Cx) (r : V → Hp → (Bool → Hp → Prop) → Prop) : Prop :=
  ∀ (pins : List (Addr × Obj)) (s : Shared) (σ : St) (H : Hp) (x : V) (v : Value) (Q : Bool → Hp → Prop), Inv X pins σ H s → RelV x v → r x H Q →
    wpAny (model X.prog X.w) X.A (truthy v) (TP X pins σ Q) X.xe s
noncomputable def tOp (r : R2) (ta tb : TE) : TE := fun σ H Q => ta σ H fun x H1 => tb σ H1 fun y H2 => r x y H2 Q
noncomputable def tUn (r : V → Hp → VK → Prop) (ta : TE) : TE := fun σ H Q => ta σ H fun x H1 => r x H1 Q
noncomputable def rI (C : Int → Int → Prop) (g : Int → Int → V) : R2 := fun x y H Q => ∃ i j, x = .int i ∧ y = .int j ∧ C i j ∧ Q (g i j) H
noncomputable def rI0 (g : Int → Int → V) : R2 := fun x y H Q => ∃ i j, x = .int i ∧ y = .int j ∧ Q (g i j) H
noncomputable def rU (g : Int → V) : V → Hp → VK → Prop := fun x H Q => ∃ i, x = .int i ∧ Q (g i) H
section
variable {X : Cx} {a b c : Expr} {ta tb tc : TE} {pos : Pos}
theorem binT (ha : PE X a ta) (hb : PE X b tb) {pins : List (Addr × Obj)} {s : Shared} {σ : St} {H : Hp} {R : V → V → Hp → Prop} (I : Inv X pins σ H s)
    (h : ta σ H fun x H1 => tb σ H1 fun y H2 => R x y H2) {Q : Value → Shared → Prop} {f : Value → Value → Sem Value}
    (hf : ∀ v u s2 x y H2, Inv X pins σ H2 s2 → RelV x v → RelV y u → R x y H2 → wpAny (model X.prog X.w) X.A (f v u) Q X.xe s2) :
    wpAny (model X.prog X.w) X.A (eval a X.env) (fun v s₁ => wpAny (model X.prog X.w) X.A (eval b X.env) (fun u s₂ => wpAny (model X.prog X.w) X.A (f v u) Q X.xe s₂) X.xe s₁) X.xe s := by
  refine thn (ha pins s σ H _ I h) fun v s1 hzz => ?_
  obtain ⟨x, H1, I1, r1, q1⟩ := hzz
  refine thn (hb pins s1 σ H1 _ I1 q1) fun u s2 hzz => ?_
  obtain ⟨y, H2, I2, r2, q2⟩ := hzz
  exact hf v u s2 x y H2 I2 r1 r2 q2
theorem pe_op {op : Operator} {r : R2} (ho : OpR X (binaryOp op) r) (ha : PE X a ta) (hb : PE X b tb) : PE X (.BinOp a op b pos) (tOp r ta tb) := by
  intro pins s σ H Q I h
  exact wpAny_BinOp (binT ha hb I h fun v u s2 x y H2 I2 rx ry q => ho pins s2 σ H2 x y v u Q I2 rx ry q)
theorem pe_un {op : UnaryOp} {r : V → Hp → VK → Prop} (ho : UnR X (unaryOp op) r) (ha : PE X a ta) : PE X (.UnaryOp op a pos) (tUn r ta) := by
  intro pins s σ H Q I h
  exact UnaryOp_ (thn (ha pins s σ H _ I h) fun v s1 ⟨x, H1, I1, r1, q1⟩ => ho pins s1 σ H1 x v Q I1 r1 q1)
theorem opI {f : Value → Value → Sem Value} {C : Int → Int → Prop} {g : Int → Int → Int}
    (rule : ∀ (i j : Int) (t u : Tok) (s : Shared) (Q : Value → Shared → Prop) (E : Value → Shared → Prop), C i j → Q (.int (g i j) s.toks) { s with toks := s.toks + 1 } → wpAny (model X.prog X.w) X.A (f (.int i t) (.int j u)) Q E s) :
    OpR X f (rI C fun i j => .int (g i j)) := by
  intro pins s σ H x y v u Q I rx ry h
  obtain ⟨i, j, rfl, rfl, hc, q⟩ := h
  obtain ⟨t, rfl⟩ := rx
  obtain ⟨t', rfl⟩ := ry
  exact rule i j t t' s _ _ hc ⟨.int (g i j), H, I.tok _, ⟨_, rfl⟩, q⟩
theorem opI0 {f : Value → Value → Sem Value} {g : Int → Int → Int}
    (rule : ∀ (i j : Int) (t u : Tok) (s : Shared) (Q : Value → Shared → Prop) (E : Value → Shared → Prop), Q (.int (g i j) s.toks) { s with toks := s.toks + 1 } → wpAny (model X.prog X.w) X.A (f (.int i t) (.int j u)) Q E s) :
    OpR X f (rI0 fun i j => .int (g i j)) := by
  intro pins s σ H x y v u Q I rx ry h
  obtain ⟨i, j, rfl, rfl, q⟩ := h
  obtain ⟨t, rfl⟩ := rx
  obtain ⟨t', rfl⟩ := ry
  exact rule i j t t' s _ _ ⟨.int (g i j), H, I.tok _, ⟨_, rfl⟩, q⟩
theorem opB0 {f : Value → Value → Sem Value} {g : Int → Int → Bool}
    (rule : ∀ (i j : Int) (t u : Tok) (s : Shared) (Q : Value → Shared → Prop) (E : Value → Shared → Prop), Q (.bool (g i j)) s → wpAny (model X.prog X.w) X.A (f (.int i t) (.int j u)) Q E s) :
    OpR X f (rI0 fun i j => .bl (g i j)) := by
  intro pins s σ H x y v u Q I rx ry h
  obtain ⟨i, j, rfl, rfl, q⟩ := h
  obtain ⟨t, rfl⟩ := rx
  obtain ⟨t', rfl⟩ := ry
  exact rule i j t t' s _ _ ⟨.bl (g i j), H, I, rfl, q⟩
noncomputable def CPow (i j : Int) : Prop := 0 ≤ j ∧ j ≤ 1000000 ∧ i.natAbs < 2 ^ 64
theorem op_add : OpR X (binaryOp .Add) (rI0 fun i j => .int (i + j)) := opI0 fun _ _ _ _ _ _ _ q => add_int q
theorem op_sub : OpR X (binaryOp .Sub) (rI0 fun i j => .int (i - j)) := opI0 fun _ _ _ _ _ _ _ q => sub_int q
theorem op_mod : OpR X (binaryOp .Mod) (rI (fun _ j => 0 < j) fun i j => .int (i % j)) := opI fun i j _ _ _ _ _ hc q => by
  have h1 : (0 : Int) < j := hc
  exact mod_int' (by omega) (by rw [Int.fmod_eq_emod_of_nonneg i (by omega)]; exact q)
theorem op_pow : OpR X (binaryOp .Pow) (rI CPow fun i j => .int (i ^ j.toNat)) := opI fun _ _ _ _ _ _ _ hc q => pow_int_small hc.1 hc.2.1 hc.2.2 q
theorem iop_add : OpR X (inplaceOp .Add) (rI0 fun i j => .int (i + j)) := opI0 fun _ _ _ _ _ _ _ q => iadd_int q
theorem unI {f : Value → Sem Value} {g : Int → Int}
    (rule : ∀ (i : Int) (t : Tok) (s : Shared) (Q : Value → Shared → Prop) (E : Value → Shared → Prop), Q (.int (g i) s.toks) { s with toks := s.toks + 1 } → wpAny (model X.prog X.w) X.A (f (.int i t)) Q E s) :
    UnR X f (rU fun i => .int (g i)) := by
  intro pins s σ H x v Q I rx h
  obtain ⟨i, rfl, q⟩ := h
  obtain ⟨t, rfl⟩ := rx
  exact rule i t s _ _ ⟨.int (g i), H, I.tok _, ⟨_, rfl⟩, q⟩
theorem un_neg : UnR X (unaryOp .USub) (rU fun i => .int (-i)) := unI fun _ _ _ _ _ q => neg_int q
end
section
variable {X : Cx} {a b c : Expr} {ta tb tc : TE} {pos : Pos}
theorem fin_bl {pins : List (Addr × Obj)} {σ : St} {H : Hp} {s : Shared} {Q : VK} {k k' : Bool} (I : Inv X pins σ H s) (q : Q (.bl k) H) (e : k = k') : EP X pins σ Q (.bool k') s := by
  subst e
  exact ⟨.bl k, H, I, rfl, q⟩
theorem op_lt : OpR X (compareOp .Lt) (rI0 fun i j => .bl (decide (i < j))) := opB0 fun _ _ _ _ _ _ _ q => lt_int q
theorem op_le : OpR X (compareOp .LtE) (rI0 fun i j => .bl (decide (i ≤ j))) := opB0 fun _ _ _ _ _ _ _ q => le_int q
theorem op_gt : OpR X (compareOp .Gt) (rI0 fun i j => .bl (decide (j < i))) := opB0 fun _ _ _ _ _ _ _ q => gt_int q
theorem op_ge : OpR X (compareOp .GtE) (rI0 fun i j => .bl (decide (j ≤ i))) := opB0 fun _ _ _ _ _ _ _ q => ge_int q
theorem op_lt_str : OpR X (compareOp .Lt) (fun x y H Q => ∃ i j, x = .str i ∧ y = .str j ∧ Q (.bl (decide (i.cps.toList < j.cps.toList))) H) := by
  intro pins s σ H x y v u Q I rx ry h
  obtain ⟨i, j, rfl, rfl, q⟩ := h
  obtain ⟨t, rfl⟩ := rx
  obtain ⟨t', rfl⟩ := ry
  exact lt_str (fin_bl I q rfl)
theorem op_isN : OpR X (compareOp .Is) (fun x y H Q => y = .non ∧ Q (.bl (decide (x = .non))) H) := by
  intro pins s σ H x y v u Q I rx ry h
  obtain ⟨rfl, q⟩ := h
  cases ry
  refine is_none_gen (fin_bl I q ?_)
  cases x <;> first
    | (cases rx; rfl)
    | (obtain ⟨t, rfl⟩ := rx; rfl)
theorem OpR.or {f : Value → Value → Sem Value} {r r' : R2} (h : OpR X f r) (h' : OpR X f r') : OpR X f (fun x y H Q => r x y H Q ∨ r' x y H Q) := by
  intro pins s σ H x y v u Q I rx ry q
  rcases q with q | q
  · exact h pins s σ H x y v u Q I rx ry q
  · exact h' pins s σ H x y v u Q I rx ry q
theorem nomark (b : Expr) {op : CmpOp} (h : autoParam (op ≠ .In) zau1._auto_1) (h2 : autoParam (op ≠ .NotIn) zau1._auto_1) : behindInMarks op b = false := by
  have e1 : (op == CmpOp.In) = false := by cases op <;> first | rfl | exact absurd rfl h
  have e2 : (op == CmpOp.NotIn) = false := by cases op <;> first | rfl | exact absurd rfl h2
  cases b <;> simp [behindInMarks, e1, e2]
theorem pe_cmpR {op : CmpOp} {r : R2} (ho : OpR X (compareOp op) r) (ha : PE X a ta) (hb : PE X b tb) (hm : behindInMarks op b = false) : PE X (.Compare a [op] [b] pos) (tOp r ta tb) := by
  intro pins s σ H Q I h
  exact wpAny_Compare1 (binT ha hb I h fun v u s2 x y H2 I2 rx ry q => ho pins s2 σ H2 x y v u Q I2 rx ry q) hm
noncomputable def tTest (t : TE) : TT := fun σ H Q => t σ H fun x H' => ∃ k, x = .bl k ∧ Q k H'
theorem pt_cmpR {op : CmpOp} {r : R2} (ho : OpR X (compareOp op) r) (ha : PE X a ta) (hb : PE X b tb) (hm : behindInMarks op b = false) : PT X (.Compare a [op] [b] pos) (tTest (tOp r ta tb)) := by
  intro pins s σ H Q I h
  refine wpAny_isTrue_Compare1 (thn (ha pins s σ H _ I h) fun v s1 ⟨x, H1, I1, r1, q1⟩ => thn (hb pins s1 σ H1 _ I1 q1) fun u s2 ⟨y, H2, I2, r2, q2⟩ =>
    thn (ho pins s2 σ H2 x y v u _ I2 r1 r2 q2) fun c s3 ⟨z, H3, I3, r3, k, e, q3⟩ => ?_) hm
  subst e
  cases r3
  exact wpAny_truthy_bool ⟨H3, I3, q3⟩
noncomputable def tChain (r r' : R2) (ta tb tc : TE) : TE := fun σ H Q => ta σ H fun x H1 => tb σ H1 fun y H2 => r x y H2 fun z H3 => ∃ k, z = .bl k ∧
  (if k = true then tc σ H3 fun w' H4 => r' y w' H4 Q else Q (.bl false) H3)
theorem pe_chain {op op' : CmpOp} {r r' : R2} (ho : OpR X (compareOp op) r) (ho' : OpR X (compareOp op') r') (ha : PE X a ta) (hb : PE X b tb) (hc : PE X c tc)
    (hm : autoParam (lastMarks [op, op'] [b, c] = false) zau4._auto_1) : PE X (.Compare a [op, op'] [b, c] pos) (tChain r r' ta tb tc) := by
  intro pins s σ H Q I h
  refine Compare_chain (thn (ha pins s σ H _ I h) fun v s1 ⟨x, H1, I1, r1, q1⟩ => chain_link (thn (hb pins s1 σ H1 _ I1 q1) fun u s2 ⟨y, H2, I2, r2, q2⟩ =>
    thn (ho pins s2 σ H2 x y v u _ I2 r1 r2 q2) fun d s3 ⟨z, H3, I3, r3, k, e, q3⟩ => ?_)) hm
  subst e
  cases r3
  refine wpAny_truthy_bool ?_
  cases k with
  | false => exact ite_ff ⟨.bl false, H3, I3, rfl, q3⟩
  | true => exact ite_tt (chain_last (thn (hc pins s3 σ H3 _ I3 q3) fun w' s4 ⟨z', H4, I4, r4, q4⟩ => ho' pins s4 σ H4 y z' u w' Q I4 r2 r4 q4))
noncomputable def TruV (K : PySem.W.Frag) (x : V) (H : Hp) (k : Bool) : Prop :=
  match x with
  | .non => k = false
  | .bl b => k = b
  | .int i => k = (i != 0)
  | .str y => y.length ≤ sizeLine ∧ k = ((y.length : Int) != 0)
  | .ref p => (∃ xs, SqL K H p xs ∧ k = !xs.isEmpty) ∨ (∃ xs, SqT K H p xs ∧ k = !xs.isEmpty)
  | _ => False
theorem isEmpty_of {xs : List V} {its : List Value} (r : Vals xs its) : (!its.toArray.isEmpty) = !xs.isEmpty := by
  cases r <;> simp
theorem line63 : (sizeLine : Nat) < 2 ^ 63 := by rw [sizeLine_eq]; decide
theorem tru_ok : TruR X (fun x H Q => ∃ k, TruV X.K x H k ∧ Q k H) := by
  intro pins s σ H x v Q I rx h
  obtain ⟨k, e, q⟩ := h
  have hl := line63
  have hs : sizeLine = 16777216 := sizeLine_eq
  cases x with
  | non =>
    cases rx
    have e' : k = false := e
    subst e'
    exact truthy_none ⟨H, I, q⟩
  | bl b =>
    cases rx
    have e' : k = b := e
    subst e'
    exact wpAny_truthy_bool ⟨H, I, q⟩
  | int i =>
    obtain ⟨t, rfl⟩ := rx
    have e' : k = (i != 0) := e
    subst e'
    exact PySem.P.truthy_int ⟨H, I, q⟩
  | str y =>
    obtain ⟨t, rfl⟩ := rx
    obtain ⟨hy, e'⟩ : y.length ≤ sizeLine ∧ k = ((y.length : Int) != 0) := e
    subst e'
    exact PySem.P.truthy_str (by omega) ⟨H, I.tok _, q⟩
  | ref p =>
    cases rx
    have e' : (∃ xs, SqL X.K H p xs ∧ k = !xs.isEmpty) ∨ (∃ xs, SqT X.K H p xs ∧ k = !xs.isEmpty) := e
    rcases e' with ⟨xs, hx, e'⟩ | ⟨xs, hx, e'⟩
    · subst e'
      obtain ⟨its, r, pl, hz⟩ := I.list hx
      have hlen := r.length
      exact wpAny_truthy_list pl.isList (by simp only [List.size_toArray]; omega) ⟨H, I.tok _, by rw [isEmpty_of r]; exact q⟩
    · subst e'
      obtain ⟨its, r, pl, hz⟩ := I.tuple hx
      have hlen := r.length
      exact truthy_tuple pl (by simp only [List.size_toArray]; omega) ⟨H, I.tok _, by rw [isEmpty_of r]; exact q⟩
  | _ => exact (show False from e).elim
theorem pt_truth (ha : PE X a ta) (he : ∀ whole, isTrue a X.env whole = (do let v ← whole; standAt a.pos; holding [v] (truthy v))) :
    PT X a (fun σ H Q => ta σ H fun x H' => ∃ k, TruV X.K x H' k ∧ Q k H') := by
  intro pins s σ H Q I h
  exact isTrue_plain (thn (ha pins s σ H _ I h) fun v s1 ⟨x, H1, I1, r1, q1⟩ => tru_ok pins s1 σ H1 x v Q I1 r1 q1) (he _)
theorem op_add_str : OpR X (binaryOp .Add) (fun x y H Q => ∃ i j, x = .str i ∧ y = .str j ∧ i.length + j.length ≤ sizeLine ∧ Q (.str (i ++ j)) H) := by
  intro pins s σ H x y v u Q I rx ry h
  obtain ⟨i, j, rfl, rfl, hz, q⟩ := h
  obtain ⟨t, rfl⟩ := rx
  obtain ⟨t', rfl⟩ := ry
  exact add_str (fun t' tk => ⟨.str (i ++ j), H, I.tok _, ⟨_, rfl⟩, q⟩) hz
theorem iop_add_str : OpR X (inplaceOp .Add) (fun x y H Q => ∃ i j, x = .str i ∧ y = .str j ∧ i.length + j.length ≤ sizeLine ∧ Q (.str (i ++ j)) H) := by
  intro pins s σ H x y v u Q I rx ry h
  obtain ⟨i, j, rfl, rfl, hz, q⟩ := h
  obtain ⟨t, rfl⟩ := rx
  obtain ⟨t', rfl⟩ := ry
  exact iadd_str (fun t' tk => ⟨.str (i ++ j), H, I.tok _, ⟨_, rfl⟩, q⟩) hz
theorem vals2 {x y : V} {us : List Value} (r : Vals [x, y] us) : ∃ u w', us = [u, w'] ∧ RelV x u ∧ RelV y w' := by
  cases r with
  | cons r1 r2 =>
    cases r2 with
    | cons r3 r4 => cases r4; exact ⟨_, _, rfl, r1, r3⟩
theorem vals1 {x : V} {us : List Value} (r : Vals [x] us) : ∃ u, us = [u] ∧ RelV x u := by
  cases r with
  | cons r1 r2 => cases r2; exact ⟨_, rfl, r1⟩
theorem call_int1 : CallR X (.type "int") (fun xs H Q => (∃ i, xs = [.int i] ∧ Q (.int i) H) ∨ ∃ k, xs = [.bl k] ∧ Q (.int (if k then 1 else 0)) H) := by
  intro pins s σ H xs us Q I r h
  rcases h with ⟨i, rfl, q⟩ | ⟨k, rfl, q⟩
  · obtain ⟨u, rfl, t, rfl⟩ := vals1 r
    exact call_int_int ⟨.int i, H, I, ⟨_, rfl⟩, q⟩
  · obtain ⟨u, rfl, r1⟩ := vals1 r
    cases r1
    exact call_int_bool ⟨.int (if k then 1 else 0), H, I.tok _, ⟨_, rfl⟩, q⟩
theorem call_str_int : CallR X (.type "str") (fun xs H Q => ∃ i, xs = [.int i] ∧ i.natAbs.log2 < 1920 ∧ Q (.str (toString i)) H) := by
  intro pins s σ H xs us Q I r h
  obtain ⟨i, rfl, hz, q⟩ := h
  obtain ⟨u, rfl, t, rfl⟩ := vals1 r
  exact PySem.P.str_of_int hz ⟨.str _, H, I.tok _, ⟨_, rfl⟩, q⟩
end
end L2
namespace L2
open PySem PySem.Spec PyProof.Rows
structure ObjM (h : Heap) (x dx C : Addr) (mA : Str → Option Value) : Prop where
  obj : h.get? x = some (PySem.W.instObj C dx)
  ns : h.Ns1 dx mA
  ne : dx ≠ x
theorem lookIn_ns {h : Heap} {dx : Addr} {mA : Str → Option Value} (n : h.Ns1 dx mA) : ∃ od, h.get? dx = some od ∧ ∀ name, PySem.W.lookIn name od = some (mA name) := by
  obtain ⟨o, es, ep, ho, hd, hk, _, hm⟩ := n
  refine ⟨o, ho, fun name => ?_⟩
  have e := hm name
  unfold nsFind findBy at e
  rw [← Array.find?_toList] at e
  unfold PySem.W.lookIn
  rw [hd]
  dsimp only
  split
  · rename_i y q
    rw [q] at e
    exact congrArg some e
  · rename_i q
    rw [q] at e
    have a : es.toList.any (·.refKey) = false := by
      rw [List.any_eq_false]
      intro y hy
      obtain ⟨z, t, hkey⟩ := hk y (Array.mem_toList_iff.mp hy)
      simp [DictEntry.refKey, hkey]
    have a' : ¬ es.toList.any (·.refKey) = true := by rw [a]; exact Bool.false_ne_true
    rw [if_neg a']
    exact congrArg some e
theorem ObjM.look {h : Heap} {x dx C : Addr} {mA : Str → Option Value} (I : ObjM h x dx C mA) : ∃ od, PySem.W.InstAt h x (PySem.W.instObj C dx) C (some od) ∧ ∀ name, PySem.W.lookIn name od = some (mA name) :=
  let ⟨od, ho, hl⟩ := lookIn_ns I.ns
  ⟨od, ⟨I.obj, rfl, rfl, ho⟩, hl⟩
section
variable {prog : Program} {w : World} {A : Around} {E : Value → Shared → Prop} {s : Shared} {K : PySem.W.Frag} {x dx C f : Addr} {mA : Str → Option Value} {name : Str} {v : Value}
theorem get_map {expr : Bool} {Q : Value → Shared → Prop} (X : K.In s.heap) (I : ObjM s.heap x dx C mA) (hg : PySem.W.plainGet K C name = true) (hh : PySem.W.hasDictIn K C = true)
    (ha : PySem.W.findIn K (.ref C) name = some none) (hv : mA name = some v) (hv' : PySem.W.handedIn v = true) (h : Q v { s with toks := s.toks + 1 }) :
    wpAny (model prog w) A (getAttr (.ref x) name expr) Q E s := by
  obtain ⟨od, J, hl⟩ := I.look
  exact PySem.W.get_value X J (PySem.W.plainGet_of hg).1 (PySem.W.findObj_own hh ha rfl (by rw [hl, hv])) hv' h
theorem get_meth {pl : Sem Bool} {Q : Value × List Value → Shared → Prop} (X : K.In s.heap) (I : ObjM s.heap x dx C mA) (hg : PySem.W.plainGet K C name = true)
    (hf : PySem.W.findIn K (.ref C) name = some (some (.ref f))) (ht : PySem.W.isFn K (.ref f) = true) (hv : mA name = none) (h : Q (.ref f, [.ref x]) s) :
    wpAny (model prog w) A (getMethod (.ref x) name pl) Q E s := by
  obtain ⟨od, J, hl⟩ := I.look
  exact PySem.W.method_fn X J (PySem.W.plainGet_of hg).1 (PySem.W.plainGet_of hg).2 hf (beq_iff_eq.mp ht) (by show (PySem.W.lookIn name od).map (·.isSome) = some false; rw [hl, hv]; rfl) h
theorem set_map {ns : List Str} {Q : Unit → Shared → Prop} (X : K.In s.heap) (I : ObjM s.heap x dx C mA)
    (hs : PySem.W.findIn K (.ref C) "__setattr__" = some (some (.builtin "object.__setattr__"))) (hp : PySem.W.plainOver K C = true) (ht : PySem.W.takerIn K C name = some none) (hh : PySem.W.hasDictIn K C = true)
    (hw : PySem.Within mA ns) (hsz : ns.length ≤ sizeLine)
    (h : ∀ h', ObjM h' x dx C (fun y => if y = name then some v else mA y) → Heap.SameBut dx s.heap h' → Q () { s with heap := h', toks := s.toks + 2 }) :
    wpAny (model prog w) A (setAttr (.ref x) name v) Q E s := by
  obtain ⟨od, J, hl⟩ := I.look
  refine PySem.W.set_plain X J hs (PySem.W.osa_open (s := { s with toks := s.toks + 1 }) (r := none) X J hp ht fun b => ?_)
  obtain ⟨cd, hc, hd'⟩ := PySem.W.any_some hh
  have hx : s.heap.get? x = some ⟨.ref C, some dx, .plain, #[]⟩ := I.obj
  refine wpAny_bind (wpAny_pure (wpAny_bind (wpAny_bind (wpAny_loadPart hx (wpAny_bind (PySem.W.Looks.here (s := { s with toks := s.toks + 1 }) (PySem.W.looks_clsIn X hc) ?_))))))
  rw [hd']
  refine wpAny_pure (a := some dx) (wpAny_bind (wpAny_pure (wpAny_bind ?_)))
  refine wpAny_nsSet1 (s := { s with toks := s.toks + 1 }) I.ns fun h' hn2 hs2 => ?_
  obtain ⟨oD, esD, epD, hoD, hdD, hcD⟩ := hn2.count (PySem.Within.cons name v hw)
  refine wpAny_bind (wpAny_lookBehind hoD (by rw [hdD]; exact pastItsLine_dict (Nat.le_trans hcD (by rw [List.length_cons]; omega))) ?_)
  exact wpAny_pure (h _ ⟨(hs2.2 _ (Ne.symm I.ne)).trans I.obj, hn2, I.ne⟩ hs2)
theorem make_map {R : Result → Shared → Prop} {vs : List Value} {kw : List (Str × Value)} (X : K.In s.heap) (hm : PySem.W.makesIn K C = true)
    (hi : PySem.W.findIn K (.ref C) "__init__" = some (some (.ref f))) (hf : PySem.W.typeIn K (.ref f) = some (.type "function"))
    (h : codeAny (model prog w) (A.under (.builtin "type.__call__" ⟨.ref C :: vs, kw⟩)) (.call (.ref f) ⟨.ref (s.heap.objs.size + 1) :: vs, kw⟩) (PySem.W.InitBack (s.heap.objs.size + 1) R)
      { s with heap := (s.heap.push PySem.W.emptyDict).push (PySem.W.instObj C s.heap.objs.size) }) :
    codeAny (model prog w) A (.call (.ref C) ⟨vs, kw⟩) R s := by
  obtain ⟨hh, g, d, t, os⟩ := s
  exact PySem.W.make_core (PySem.W.makes_of X hm) (PySem.W.looks_findIn X hi) (fun self => PySem.W.bind_fn X self hf) (.inl rfl) h
end
noncomputable def putF (f : Str) (v : V) : List (Str × V) → List (Str × V)
  | [] => [(f, v)]
  | (g, x) :: r => if g = f then (g, v) :: r else (g, x) :: putF f v r
theorem lookup_putF (f g : Str) (v : V) : ∀ fs : List (Str × V), (putF f v fs).lookup g = if g = f then some v else fs.lookup g
  | [] => by
    show List.lookup g [(f, v)] = _
    by_cases h : g = f
    · have hb : (g == f) = true := beq_iff_eq.mpr h
      simp only [List.lookup, hb, if_pos h]
    · have hb : (g == f) = false := beq_eq_false_iff_ne.mpr h
      simp only [List.lookup, hb, if_neg h]
  | (k, x) :: r => by
    have ih := lookup_putF f g v r
    rw [show putF f v ((k, x) :: r) = (if k = f then (k, v) :: r else (k, x) :: putF f v r) from rfl]
    by_cases hk : k = f
    · rw [if_pos hk]
      by_cases h : g = k
      · have hb : (g == k) = true := beq_iff_eq.mpr h
        simp only [List.lookup, hb, if_pos (h.trans hk)]
      · have hb : (g == k) = false := beq_eq_false_iff_ne.mpr h
        simp only [List.lookup, hb, if_neg (fun e : g = f => h (e.trans hk.symm))]
    · rw [if_neg hk]
      by_cases h : g = k
      · have hb : (g == k) = true := beq_iff_eq.mpr h
        simp only [List.lookup, hb, if_neg (fun e : g = f => hk (h.symm.trans e))]
      · have hb : (g == k) = false := beq_eq_false_iff_ne.mpr h
        simp only [List.lookup, hb]
        exact ih
theorem keys_putF (f : Str) (v : V) : ∀ fs : List (Str × V), f ∈ (putF f v fs).map (·.1) ∧ ∀ g, g ∈ fs.map (·.1) → g ∈ (putF f v fs).map (·.1)
  | [] => ⟨by simp [putF], fun g h => by simp at h⟩
  | (k, x) :: r => by
    obtain ⟨i1, i2⟩ := keys_putF f v r
    rw [show putF f v ((k, x) :: r) = (if k = f then (k, v) :: r else (k, x) :: putF f v r) from rfl]
    by_cases hk : k = f
    · rw [if_pos hk]
      subst hk
      exact ⟨by simp, fun g h => by simpa using h⟩
    · rw [if_neg hk]
      refine ⟨?_, fun g h => ?_⟩
      · rw [List.map_cons]
        exact List.mem_cons_of_mem _ i1
      · rw [List.map_cons] at h ⊢
        rcases List.mem_cons.mp h with e | e
        · exact List.mem_cons.mpr (.inl e)
        · exact List.mem_cons_of_mem _ (i2 g e)
theorem length_putF (f : Str) (v : V) : ∀ fs : List (Str × V), (putF f v fs).length ≤ fs.length + 1
  | [] => by simp [putF]
  | (k, x) :: r => by
    have ih := length_putF f v r
    rw [show putF f v ((k, x) :: r) = (if k = f then (k, v) :: r else (k, x) :: putF f v r) from rfl]
    by_cases hk : k = f
    · rw [if_pos hk, List.length_cons, List.length_cons]; omega
    · rw [if_neg hk, List.length_cons, List.length_cons]; omega
theorem RelO.some_of {v : V} {o : Option Value} (r : RelO (some v) o) : ∃ u, o = some u ∧ RelV v u := by
  cases o with
  | none => exact (show False from r).elim
  | some u => exact ⟨u, rfl, r⟩
theorem RelO.none_of {o : Option Value} (r : RelO none o) : o = none := by
  cases o with
  | none => rfl
  | some u => exact (show False from r).elim
theorem handed_of {v : V} {u : Value} (r : RelV v u) : PySem.W.handedIn u = true := by
  cases v with
  | non => cases (show u = Value.none from r); rfl
  | bl b => cases (show u = Value.bool b from r); rfl
  | int i => obtain ⟨t, e⟩ := (show ∃ t, u = Value.int i t from r); cases e; rfl
  | str x => obtain ⟨t, e⟩ := (show ∃ t, u = Value.str x t from r); cases e; rfl
  | ref a => cases (show u = Value.ref a from r); rfl
  | ty n => cases (show u = Value.type n from r); rfl
section
variable {P : Program} {w : World} {H H' : Hp} {h h' : Heap} {a C dx : Addr} {fs fs' : List (Str × V)}
theorem ins_get (hok : HOk P w H h) (e : H a = some (.ins C dx fs)) : ∃ mA, ObjM h a dx C mA ∧ (∀ f, RelO (fs.lookup f) (mA f)) ∧ PySem.Within mA (fs.map (·.1)) ∧ fs.length ≤ 1000 ∧ H dx = some (.own a) := by
  obtain ⟨d, z, ne, ob, mA, n, r, q⟩ := (show ObjOk P w H h a (.ins C dx fs) from hok a _ e)
  exact ⟨mA, ⟨ob, n, ne⟩, r, q, z, d⟩
end
structure Cls (K : PySem.W.Frag) (C : Addr) : Prop where
  pg : PySem.W.plainGet K C Str.empty = true
  hd : PySem.W.hasDictIn K C = true
  po : PySem.W.plainOver K C = true
  sa : PySem.W.findIn K (.ref C) "__setattr__" = some (some (.builtin "object.__setattr__"))
theorem Cls.get {K : PySem.W.Frag} {C : Addr} (c : Cls K C) (f : Str) : PySem.W.plainGet K C f = true := c.pg
noncomputable def NoAttr (K : PySem.W.Frag) (C : Addr) (f : Str) : Prop := PySem.W.findIn K (.ref C) f = some none
theorem NoAttr.taker {K : PySem.W.Frag} {C : Addr} {f : Str} (n : NoAttr K C f) : PySem.W.takerIn K C f = some none := by
  unfold PySem.W.takerIn
  rw [show PySem.W.findIn K (.ref C) f = some none from n]
  rfl
structure Con (K : PySem.W.Frag) (C : Addr) (f : Str) (v : V) (u : Value) : Prop where
  at_ : PySem.W.findIn K (.ref C) f = some (some u)
  rel : RelV v u
  get : PySem.W.specialIn K u "__get__" = some none
  cp : PySem.W.copiedNames.contains f = false
structure Meth (K : PySem.W.Frag) (C : Addr) (m : Str) (f : Addr) : Prop where
  at_ : PySem.W.findIn K (.ref C) m = some (some (.ref f))
  fn : PySem.W.isFn K (.ref f) = true
  kp : PySem.W.keepIn K (.ref f) = true
section
variable {X : Cx} {pins : List (Addr × Obj)} {σ : St} {H : Hp} {s : Shared} {a C dx : Addr} {fs : List (Str × V)} {f : Str} {v : V} {A : Around} {E : Value → Shared → Prop}
theorem getattr_ok {b : Bool} {Q : Value → Shared → Prop} (I : Inv X pins σ H s) (e : H a = some (.ins C dx fs)) (c : Cls X.K C) (n : NoAttr X.K C f) (l : fs.lookup f = some v)
    (h : ∀ u s', Inv X pins σ H s' → RelV v u → Q u s') : wpAny (model X.prog X.w) A (getAttr (.ref a) f b) Q E s := by
  obtain ⟨mA, O, r, _, _, _⟩ := ins_get I.hok e
  obtain ⟨u, hu, ru⟩ := RelO.some_of (v := v) (o := mA f) (by rw [← l]; exact r f)
  exact get_map I.kIn O (c.get f) c.hd n hu (handed_of ru) (h u _ (I.tok _) ru)
theorem getmeth_ok {m : Str} {g : Addr} {pl : Sem Bool} {Q : Value × List Value → Shared → Prop} (I : Inv X pins σ H s) (e : H a = some (.ins C dx fs)) (c : Cls X.K C) (k : Meth X.K C m g) (l : fs.lookup m = none)
    (h : Q (.ref g, [.ref a]) s) : wpAny (model X.prog X.w) A (getMethod (.ref a) m pl) Q E s := by
  obtain ⟨mA, O, r, _, _, _⟩ := ins_get I.hok e
  have hn : mA m = none := RelO.none_of (by rw [← l]; exact r m)
  exact get_meth I.kIn O (c.get m) k.at_ k.fn hn h
theorem setattr_ok {y : V} {u : Value} {Q : Unit → Shared → Prop} (I : Inv X pins σ H s) (e : H a = some (.ins C dx fs)) (c : Cls X.K C) (n : NoAttr X.K C f) (hl : fs.length < 1000) (ry : RelV y u)
    (h : ∀ s', Inv X pins σ (upd H a (.ins C dx (putF f y fs))) s' → Q () s') : wpAny (model X.prog X.w) A (setAttr (.ref a) f u) Q E s := by
  obtain ⟨mA, O, r, wi, _, ho⟩ := ins_get I.hok e
  have hz : (fs.map (·.1)).length ≤ sizeLine := by rw [List.length_map, sizeLine_eq]; omega
  refine set_map I.kIn O c.sa c.po n.taker c.hd wi hz fun h' O' sb => h _ ?_
  have hd : ∃ o, h'.get? dx = some o := let ⟨o, _, _, e', _⟩ := O'.ns; ⟨o, e'⟩
  refine I.write (x := a) (e := dx) (by rw [e]; exact True.intro) (.inr ho) (fun b q hb z => (sb.2 b hb).trans z) hd ?_
  refine ⟨by rw [upd_ne O.ne]; exact ho, ?_, O.ne, O'.obj, _, O'.ns, fun g => ?_, fun g hg => ?_⟩
  · have := length_putF f y fs; omega
  · show RelO ((putF f y fs).lookup g) (if g = f then some u else mA g)
    rw [lookup_putF]
    by_cases q : g = f
    · rw [if_pos q, if_pos q]; exact ry
    · rw [if_neg q, if_neg q]; exact r g
  · by_cases q : g = f
    · rw [q]; exact (keys_putF f y fs).1
    · refine (keys_putF f y fs).2 g (wi g fun z => hg ?_)
      show (if g = f then some u else mA g) = none
      rw [if_neg q]; exact z
theorem Inv.made (I : Inv X pins σ H s) : Inv X pins σ (upd (upd H s.heap.objs.size (.own (s.heap.objs.size + 1))) (s.heap.objs.size + 1) (.ins C s.heap.objs.size []))
    { s with heap := (s.heap.push PySem.W.emptyDict).push (PySem.W.instObj C s.heap.objs.size) } := by
  have e1 : (s.heap.push PySem.W.emptyDict).get? s.heap.objs.size = some PySem.W.emptyDict := Heap.get?_push_size s.heap rfl
  have e2 : ((s.heap.push PySem.W.emptyDict).push (PySem.W.instObj C s.heap.objs.size)).get? (s.heap.objs.size + 1) = some (PySem.W.instObj C s.heap.objs.size) := by
    have := Heap.get?_push_size (s.heap.push PySem.W.emptyDict) (o := PySem.W.instObj C s.heap.objs.size) rfl
    rwa [Heap.size_push] at this
  have e3 : (s.heap.push PySem.W.emptyDict).Ns s.heap.objs.size (fun _ => none) := ⟨PySem.W.emptyDict, #[], _, e1, rfl, (fun e he => absurd he (by simp)), fun _ => rfl⟩
  have I1 := I.laid (a := s.heap.objs.size) (o := .own (s.heap.objs.size + 1)) (h' := s.heap.push PySem.W.emptyDict) (t' := s.toks) (fun b u q => Heap.get?_push_of_some _ q) (Nat.le_refl _) ⟨_, e1⟩
  refine I1.laid (a := s.heap.objs.size + 1) (o := .ins C s.heap.objs.size []) (t' := s.toks) (fun b u q => Heap.get?_push_of_some _ q) (Nat.le_of_eq (Heap.size_push _ _)) ?_
  have ne : s.heap.objs.size ≠ s.heap.objs.size + 1 := Nat.ne_of_lt (Nat.lt_succ_self _)
  refine ⟨by rw [upd_ne ne, upd_same], Nat.zero_le _, ne, e2, fun _ => none, (Heap.Ns1.of_empty e3).at fun o q => Heap.get?_push_of_some _ q, fun _ => True.intro, fun y hy => absurd rfl hy⟩
theorem attr_of {prog : Program} {w : World} {env : Env} {e : Expr} {f : Str} {pos : Pos} {s : Shared} {Q : Value → Shared → Prop} (hb : attributeBase e f env (eval e env) = eval e env)
    (h : wpAny (model prog w) A (eval e env) (fun o s₁ => wpAny (model prog w) A (getAttr o f true) Q E s₁) E s) : wpAny (model prog w) A (eval (.Attribute e f pos) env) Q E s :=
  Attribute_any_ h (by rw [arm_eval_Attribute, hb])
end
inductive FldP (K : PySem.W.Frag) (f : Str) (Q : VK) (x : V) (H1 : Hp) : Prop
  | mk (a C dx : Addr) (fs : List (Str × V)) (v : V) (h1 : x = .ref a) (h2 : H1 a = some (.ins C dx fs)) (h3 : Cls K C) (h4 : NoAttr K C f) (h5 : fs.lookup f = some v) (h6 : Q v H1)
noncomputable def tFld (K : PySem.W.Frag) (ta : TE) (f : Str) : TE := fun σ H Q => ta σ H (FldP K f Q)
noncomputable def sFld (K : PySem.W.Frag) (ta tv : TE) (f : Str) : TS := fun D σ H => tv σ H fun y H1 => ta σ H1 fun x H2 => ∃ a C dx fs, x = .ref a ∧ H2 a = some (.ins C dx fs) ∧ Cls K C ∧ NoAttr K C f ∧ fs.length < 1000 ∧
  D.nx σ (upd H2 a (.ins C dx (putF f y fs)))
section
variable {X : Cx} {o e value : Expr} {f : Str} {pos pos' tpos : Pos} {ta tv : TE}
theorem pe_fld (he : PE X e ta) (hb : attributeBase e f X.env (eval e X.env) = eval e X.env) : PE X (.Attribute e f pos) (tFld X.K ta f) := by
  intro pins s σ H Q I h
  refine attr_of hb (thn (he pins s σ H _ I h) fun u s1 hzz => ?_)
  obtain ⟨x, H1, I1, rx, a, C, dx, fs, v, ex, ea, c, n, l, q⟩ := hzz
  subst ex
  obtain rfl : u = Value.ref a := rx
  exact getattr_ok I1 ea c n l fun u' s2 I2 ru => ⟨v, H1, I2, ru, q⟩
theorem ps_fld (ha : PE X o ta) (hv : PE X value tv) (hs : swapsWith value (some (.Attribute o f pos')) pos.line X.env = pure false) : PS X (.Assign [.Attribute o f pos'] value pos) (sFld X.K ta tv f) := by
  intro pins s σ H D I h
  refine plainObj_wpAny_Assign_Attribute (thn (hv pins s σ H _ I h) fun u s1 ⟨y, H1, I1, ry, q⟩ => thn (ha pins s1 σ H1 _ I1 q) fun ov s2 hzz => ?_) hs
  obtain ⟨x, H2, I2, rx, a, C, dx, fs, ex, ea, c, n, l, q2⟩ := hzz
  subst ex
  obtain rfl : ov = Value.ref a := rx
  exact setattr_ok I2 ea c n l ry fun s3 I3 => ⟨σ, _, I3, q2⟩
end
section
variable {X : Cx} {pins : List (Addr × Obj)} {σ : St} {H : Hp} {s : Shared} {A : Around} {E : Value → Shared → Prop} {Q : Value → Shared → Prop} {c : Value} {b : Bool}
end
end L2
namespace L2
open PySem PySem.Spec PyProof.Rows
structure Room (k : Nat) (A : Around) : Prop where
  hd : A.handled = none
  dp : A.depth + 3 * k + 5 < recursionLimit
  un : A.units + 16 * k + 200 < cLine
theorem Room.mono {j k : Nat} {A : Around} (r : Room k A) (h : j ≤ k) : Room j A := ⟨r.hd, by have := r.dp; omega, by have := r.un; omega⟩
theorem Room.deeper {k : Nat} {A : Around} (r : Room (k + 1) A) (env : Env) : Room k (A.deeper env) :=
  ⟨r.hd, by have := r.dp; show A.depth + 1 + 3 * k + 5 < _; omega, by have := r.un; show A.units + 3 + 16 * k + 200 < _; omega⟩
theorem make_depth {A : Around} {C : Addr} {us : List Value} {kw : List (Str × Value)} : (A.under (.builtin "type.__call__" ⟨.ref C :: us, kw⟩)).depth = A.depth + 1 := by
  first | rfl | simp [Around.under, Code.weight, Code.isCreation, Code.isGuard, Code.isCaller, Code.frames, Code.isFrame, guardIds]
theorem make_units {A : Around} {C : Addr} {us : List Value} {kw : List (Str × Value)} : (A.under (.builtin "type.__call__" ⟨.ref C :: us, kw⟩)).units = A.units + 1 := by
  first | rfl | simp [Around.under, Code.cUnits, Code.frames, Code.isFrame]
theorem Room.make {k : Nat} {A : Around} (r : Room (k + 1) A) (C : Addr) (us : List Value) (kw : List (Str × Value)) : Room k (A.under (.builtin "type.__call__" ⟨.ref C :: us, kw⟩)) :=
  ⟨r.hd, by have := r.dp; rw [make_depth]; omega, by have := r.un; rw [make_units]; omega⟩
theorem Room.depth {k : Nat} {A : Around} (r : Room k A) : A.depth < recursionLimit := by have := r.dp; omega
theorem Room.units {k : Nat} {A : Around} (r : Room k A) : A.units + 64 < cLine := by have := r.un; omega
noncomputable def tNil : TA := fun _ H Q => Q [] H
noncomputable def tCons (ta : TE) (tr : TA) : TA := fun σ H Q => ta σ H fun x H1 => tr σ H1 fun xs H2 => Q (x :: xs) H2
section
variable {X : Cx} {e : Expr} {es : List Expr} {te : TE} {t : TA} {pos : Pos}
theorem pa_nil : PA X [] tNil := fun _ _ _ _ H Q I h => Calls.spliced_nil ⟨[], H, I, .nil, h⟩
theorem pa_cons (ha : PE X e te) (hr : PA X es t) (hs : autoParam (starEach (e :: es) X.env = (false, eval e X.env) :: starEach es X.env) zau2._auto_1) : PA X (e :: es) (tCons te t) := by
  intro pos pins s σ H Q I h
  rw [hs]
  show wpAny _ _ (spliced ((false, eval e X.env) :: backTo pos (starEach es X.env))) _ _ s
  refine Calls.spliced_cons (thn (ha pins s σ H _ I h) fun u s1 hzz => ?_)
  obtain ⟨x, H1, I1, r1, q1⟩ := hzz
  exact thn (hr pos pins s1 σ H1 _ I1 q1) fun us s2 ⟨xs, H2, I2, r2, q2⟩ => ⟨x :: xs, H2, I2, .cons r1 r2, q2⟩
noncomputable def tTup (t : TA) : TE := fun σ H Q => t σ H fun xs H1 => xs.length ≤ sizeLine ∧ ∀ p, H1 p = none → Q (.ref p) (upd H1 p (.tup xs))
noncomputable def tLst (t : TA) : TE := fun σ H Q => t σ H fun xs H1 => xs.length ≤ sizeLine ∧ ∀ p, H1 p = none → Q (.ref p) (upd H1 p (.lst xs))
theorem pe_tup {x1} (h : PA X es t) : PE X (.Tuple es x1 pos) (tTup t) := by
  intro pins s σ H Q I hq
  refine wpAny_Tuple_spliced (thn (h pos pins s σ H _ I hq) fun us s1 ⟨xs, H1, I1, r, z, q⟩ => ⟨by rw [← r.length]; exact z, ?_⟩)
  have hf : H1 s1.heap.objs.size = none := I1.hok.fresh (Nat.le_refl _)
  refine ⟨.ref s1.heap.objs.size, upd H1 s1.heap.objs.size (.tup xs), I1.laid (t' := s1.toks) (fun b u e => Heap.get?_push_of_some _ e) (Nat.le_refl _) ?_, rfl, q _ hf⟩
  exact ⟨z, us, r, ⟨_, Heap.get?_push_size _ rfl, rfl, _, rfl⟩⟩
theorem pe_lst (h : PA X es t) : PE X (.List es pos) (tLst t) := by
  intro pins s σ H Q I hq
  refine wpAny_List_spliced (thn (h pos pins s σ H _ I hq) fun us s1 ⟨xs, H1, I1, r, z, q⟩ => ⟨by rw [← r.length]; exact z, ?_⟩)
  have hf : H1 s1.heap.objs.size = none := I1.hok.fresh (Nat.le_refl _)
  refine ⟨.ref s1.heap.objs.size, upd H1 s1.heap.objs.size (.lst xs), I1.laid (t' := s1.toks) (fun b u e => Heap.get?_push_of_some _ e) (Nat.le_refl _) ?_, rfl, q _ hf⟩
  exact ⟨z, us, 0, r, Heap.get?_push_size _ rfl⟩
end
noncomputable abbrev Sp := List V → Hp → VK → XK → Prop
noncomputable abbrev CXT := List Env → Hp → Shared → XK → Value → Shared → Prop
structure Env0 (P : Program) (w : World) (K : PySem.W.Frag) (mg : Str → Option Value) (base : Heap) (A : Around) (outer : List Env) (s : Shared) (H : Hp) : Prop where
  frames : A.frames = some outer
  mod : Mod K mg base
  bs : ∀ b o, base.get? b = some o → s.heap.get? b = some o ∧ H b = none
  bsz : base.objs.size ≤ s.heap.objs.size
  funs : s.heap.FunFrames base outer
  frf : ∀ b ∈ frs outer, H b = none
  hok : HOk P w H s.heap
  bare : AllBare s.gens
noncomputable def CE (outer : List Env) (P : Program) (w : World) (H : Hp) (s : Shared) (Q : VK) (u : Value) (s' : Shared) : Prop :=
  ∃ v H', s'.os = s.os ∧ AllBare s'.gens ∧ Un (frs outer) [] H H' s.heap s'.heap ∧ HOk P w H' s'.heap ∧ RelV v u ∧ Q v H'
noncomputable def CR (CX : CXT) (outer : List Env) (P : Program) (w : World) (H : Hp) (s : Shared) (Q : VK) (E : XK) (r : Result) (s' : Shared) : Prop :=
  match r with
  | .ok (.ret u) => CE outer P w H s Q u s'
  | .ok _ => False
  | .error e => CX outer H s E e s'
structure FnOk (P : Program) (w : World) (K : PySem.W.Frag) (mg : Str → Option Value) (base : Heap) (CX : CXT) (k : Nat) (f : Addr) (fd : FuncData) (ps : List Str) (sp : Sp) : Prop where
  len : ∀ vs H Q E, sp vs H Q E → vs.length = ps.length
  run : ∀ (A : Around) (outer : List Env) (s : Shared) (H : Hp) (args : Args) (us : List Value) (vs : List V) (Q : VK) (E : XK), Room k A → Env0 P w K mg base A outer s H → BindsTo s fd args (ps.zip us) → Vals vs us → sp vs H Q E →
    codeAny (model P w) A (.call (.ref f) args) (CR CX outer P w H s Q E) s
theorem FnOk.imp {P : Program} {w : World} {K : PySem.W.Frag} {mg : Str → Option Value} {base : Heap} {CX : CXT} {k : Nat} {f : Addr} {fd : FuncData} {ps : List Str} {sp sp' : Sp} (F : FnOk P w K mg base CX k f fd ps sp)
    (h : ∀ vs H Q E, sp' vs H Q E → sp vs H Q E) : FnOk P w K mg base CX k f fd ps sp' :=
  ⟨fun vs H Q E q => F.len vs H Q E (h _ _ _ _ q), fun A outer s H args us vs Q E hr he hb hv hs => F.run A outer s H args us vs Q E hr he hb hv (h _ _ _ _ hs)⟩
theorem Env0.make {P : Program} {w : World} {K : PySem.W.Frag} {mg : Str → Option Value} {base : Heap} {A : Around} {outer : List Env} {s : Shared} {H : Hp} (e : Env0 P w K mg base A outer s H) (C : Addr) (us : List Value) (kw : List (Str × Value)) :
    Env0 P w K mg base (A.under (.builtin "type.__call__" ⟨.ref C :: us, kw⟩)) outer s H := ⟨by first | exact e.frames | (simpa [Around.under, Code.envs, Code.isFrame, pushEnvs] using e.frames), e.mod, e.bs, e.bsz, e.funs, e.frf, e.hok, e.bare⟩
section
variable {X : Cx} {pins : List (Addr × Obj)} {σ : St} {H : Hp} {s s' : Shared}
theorem Inv.env0 (I : Inv X pins σ H s) : Env0 X.prog X.w X.K X.mg X.base X.A X.stack s H :=
  ⟨I.ok.frames, I.ok.mod, I.bs, Nat.le_trans I.ok.bsz I.sz, I.stack, I.stkFree, I.hok, I.bare⟩
theorem Inv.after {Q : VK} {u : Value} (I : Inv X pins σ H s) (h : CE X.stack X.prog X.w H s Q u s') : EP X pins σ Q u s' := by
  obtain ⟨v, H', os, bare, un, hok, r, q⟩ := h
  obtain ⟨hh, g, d, t, os'⟩ := s'
  obtain rfl : os' = s.os := os
  exact ⟨v, H', I.call (h' := hh) (g' := g) (d' := d) (t' := t) (ch := []) un hok bare (fun b z => absurd z (by simp)), r, q⟩
end
noncomputable def tCall (sp : Sp) (dvs : List V) (E : XK) (t : TA) : TE := fun σ H Q => t σ H fun vs H1 => sp (vs ++ dvs) H1 Q E
noncomputable def tMeth (C : Addr) (m : Str) (sp : Sp) (dvs : List V) (E : XK) (ta : TE) (t : TA) : TE := fun σ H Q => ta σ H fun x H1 => ∃ a dx fs, x = .ref a ∧ H1 a = some (.ins C dx fs) ∧ fs.lookup m = none ∧
  t σ H1 fun vs H2 => sp (x :: (vs ++ dvs)) H2 Q E
noncomputable def tMake (C : Addr) (sp : Sp) (dvs : List V) (E : XK) (t : TA) : TE := fun σ H Q => t σ H fun vs H1 => ∀ x dx, H1 x = none → H1 dx = none → dx ≠ x →
  sp (.ref x :: (vs ++ dvs)) (upd (upd H1 dx (.own x)) x (.ins C dx [])) (fun v H2 => v = .non ∧ Q (.ref x) H2) E
noncomputable def Binds (K : PySem.W.Frag) (fd : FuncData) (ps : List Str) (ds : List Value) : Prop :=
  ∀ (s : Shared) (us : List Value), K.In s.heap → (us ++ ds).length = ps.length → BindsTo s fd ⟨us, []⟩ (ps.zip (us ++ ds))
theorem Binds.all {K : PySem.W.Frag} {fd : FuncData} {ps : List Str} (h : ∀ us : List Value, us.length = ps.length → bindArgs fd ⟨us, []⟩ = pure (ps.zip us)) : Binds K fd ps [] := fun s us _ hl => by
  rw [List.append_nil] at hl ⊢
  exact .of_eq (h us hl)
noncomputable def Passes (CX : CXT) (X : Cx) (E : XK) : Prop := ∀ (pins : List (Addr × Obj)) (σ : St) (H : Hp) (s : Shared) (e : Value) (s' : Shared), Inv X pins σ H s → CX X.stack H s E e s' → X.xe e s'
section
variable {X : Cx} {CX : CXT} {k : Nat} {f C : Addr} {fd : FuncData} {ps : List Str} {sp : Sp} {dvs : List V} {ds : List Value} {E : XK} {x m : Str} {p pos apos : Pos} {e o : Expr} {es : List Expr} {ta : TE} {t : TA}
theorem run_fn {pins : List (Addr × Obj)} {σ : St} {H : Hp} {s : Shared} {Q : VK} {us : List Value} {vs : List V} (F : FnOk X.prog X.w X.K X.mg X.base CX k f fd ps sp) (hr : Room k X.A) (hb : Binds X.K fd ps ds) (hd : Vals dvs ds) (hx : Passes CX X E)
    (I : Inv X pins σ H s) (r : Vals vs us) (h : sp (vs ++ dvs) H Q E) : wpAny (model X.prog X.w) X.A (call (.ref f) us) (EP X pins σ Q) X.xe s := by
  have r2 : Vals (vs ++ dvs) (us ++ ds) := r.append hd
  have hl : (us ++ ds).length = ps.length := by rw [← r2.length]; exact F.len _ _ _ _ h
  refine wpAny_call (codeAny_mono (F.run X.A X.stack s H ⟨us, []⟩ (us ++ ds) (vs ++ dvs) Q E hr I.env0 (hb s us I.kIn hl) r2 h) fun r s' hq => ?_)
  cases r with
  | error e => exact hx pins σ H s e s' I hq
  | ok fl =>
    cases fl with
    | ret u => exact I.after hq
    | next => exact False.elim hq
    | brk => exact False.elim hq
    | cont => exact False.elim hq
theorem pe_call (F : FnOk X.prog X.w X.K X.mg X.base CX k f fd ps sp) (hr : Room k X.A) (hg : Gl X x) (hm : X.mg x = some (.ref f)) (hk : PySem.W.keepIn X.K (.ref f) = true) (hb : Binds X.K fd ps ds) (hd : Vals dvs ds) (hx : Passes CX X E)
    (ha : PA X (e :: es) t) (hdb : autoParam ((x == ("__debug__" : Str)) = false) zau1._auto_1) (he : autoParam (starEach (e :: es) X.env = (false, eval e X.env) :: starEach es X.env) zau2._auto_1) (hpl : autoParam ((backTo pos (starEach es X.env)).any (·.1) = false) zau2._auto_1) :
    PE X (.Call (.Name x p) (e :: es) [] pos) (tCall sp dvs E t) := by
  intro pins s σ H Q I h
  refine wpAny_Call_Name_kw (ld_glob I hg hm ?_ hdb)
  refine PySem.W.callWith_K (h₀ := X.base) I.ok.mod.kin hk (thn (ha pos pins s σ H _ I h) fun us s1 ⟨vs, H1, I1, r, q⟩ => ⟨I1.kIn, ?_⟩) he hpl
  exact run_fn F hr hb hd hx I1 r q
theorem pe_meth {pl : Sem Bool} (he : PE X o ta) (c : Cls X.K C) (hm : Meth X.K C m f) (F : FnOk X.prog X.w X.K X.mg X.base CX k f fd ps sp) (hr : Room k X.A) (hb : Binds X.K fd ps ds) (hd : Vals dvs ds) (hx : Passes CX X E) (ha : PA X (e :: es) t)
    (hst : autoParam (starEach (e :: es) X.env = (false, eval e X.env) :: starEach es X.env) zau2._auto_1) (hpl : autoParam ((backTo pos (starEach es X.env)).any (·.1) = false) zau2._auto_1)
    (ht : eval (.Call (.Attribute o m apos) (e :: es) [] pos) X.env = (do
      let ov ← eval o X.env
      standAt apos.atName
      let (f, first) ← holding [ov] (getMethod ov m pl)
      callWith pos f first (backTo pos (starEach (e :: es) X.env)) (backToKw pos (keywordEach [] X.env))) := by rfl) :
    PE X (.Call (.Attribute o m apos) (e :: es) [] pos) (tMeth C m sp dvs E ta t) := by
  intro pins s σ H Q I h
  refine PySem.W.methodCall_KW (pl := pl) (thn (he pins s σ H _ I h) fun u s1 hzz => ?_) ht
  obtain ⟨x, H1, I1, rx, a, dx, fs, ex, ea, l, q⟩ := hzz
  subst ex
  obtain rfl : u = Value.ref a := rx
  refine getmeth_ok I1 ea c hm l ?_
  refine PySem.W.callWith_K (first := [.ref a]) (h₀ := X.base) I.ok.mod.kin hm.kp (thn (ha pos pins s1 σ H1 _ I1 q) fun us s2 ⟨vs, H2, I2, r, q2⟩ => ⟨I2.kIn, ?_⟩) hst hpl
  exact run_fn (us := .ref a :: us) (vs := .ref a :: vs) F hr hb hd hx I2 (.cons rfl r) q2
theorem pe_meth0 {pl : Sem Bool} (he : PE X o ta) (c : Cls X.K C) (hm : Meth X.K C m f) (F : FnOk X.prog X.w X.K X.mg X.base CX k f fd ps sp) (hr : Room k X.A) (hb : Binds X.K fd ps ds) (hd : Vals dvs ds) (hx : Passes CX X E)
    (ht : eval (.Call (.Attribute o m apos) [] [] pos) X.env = (do
      let ov ← eval o X.env
      standAt apos.atName
      let (f, first) ← holding [ov] (getMethod ov m pl)
      callWith pos f first (backTo pos (starEach [] X.env)) (backToKw pos (keywordEach [] X.env))) := by rfl) :
    PE X (.Call (.Attribute o m apos) [] [] pos) (tMeth C m sp dvs E ta tNil) := by
  intro pins s σ H Q I h
  refine PySem.W.methodCall_KW (pl := pl) (thn (he pins s σ H _ I h) fun u s1 hzz => ?_) ht
  obtain ⟨x, H1, I1, rx, a, dx, fs, ex, ea, l, q⟩ := hzz
  subst ex
  obtain rfl : u = Value.ref a := rx
  refine getmeth_ok I1 ea c hm l ?_
  exact PySem.W.callWith_K0 (first := [.ref a]) I1.kIn hm.kp (run_fn (us := [.ref a]) (vs := [.ref a]) F hr hb hd hx I1 (.cons rfl .nil) q)
structure Mk (K : PySem.W.Frag) (C f : Addr) : Prop where
  makes : PySem.W.makesIn K C = true
  init : PySem.W.findIn K (.ref C) "__init__" = some (some (.ref f))
  fn : PySem.W.isFn K (.ref f) = true
  kp : PySem.W.keepIn K (.ref C) = true
theorem run_make {pins : List (Addr × Obj)} {σ : St} {H : Hp} {s : Shared} {Q : VK} {us : List Value} {vs : List V} (M : Mk X.K C f) (F : FnOk X.prog X.w X.K X.mg X.base CX k f fd ps sp) (hr : Room (k + 1) X.A) (hb : Binds X.K fd ps ds) (hd : Vals dvs ds)
    (hx : Passes CX X E) (I : Inv X pins σ H s) (r : Vals vs us)
    (h : ∀ x dx, H x = none → H dx = none → dx ≠ x → sp (.ref x :: (vs ++ dvs)) (upd (upd H dx (.own x)) x (.ins C dx [])) (fun v H2 => v = .non ∧ Q (.ref x) H2) E) :
    wpAny (model X.prog X.w) X.A (call (.ref C) us) (EP X pins σ Q) X.xe s := by
  have hq := h (s.heap.objs.size + 1) s.heap.objs.size (I.hok.fresh (Nat.le_succ _)) (I.hok.fresh (Nat.le_refl _)) (Nat.ne_of_lt (Nat.lt_succ_self _))
  have I2 := Inv.made (C := C) I
  have r2 : Vals (V.ref (s.heap.objs.size + 1) :: (vs ++ dvs)) (Value.ref (s.heap.objs.size + 1) :: (us ++ ds)) := .cons rfl (r.append hd)
  have hl : (Value.ref (s.heap.objs.size + 1) :: us ++ ds).length = ps.length := by
    have e := r2.length
    rw [F.len _ _ _ _ hq] at e
    exact e.symm
  refine wpAny_call (make_map (f := f) I.kIn M.makes M.init (beq_iff_eq.mp M.fn) (codeAny_mono (F.run _ X.stack _ _ ⟨Value.ref (s.heap.objs.size + 1) :: us, []⟩ (Value.ref (s.heap.objs.size + 1) :: (us ++ ds)) _ _ E (hr.make C us [])
    (I2.env0.make C us []) (hb _ (Value.ref (s.heap.objs.size + 1) :: us) I2.kIn hl) r2 hq) fun r s' hq' => ?_))
  cases r with
  | error e => exact hx pins σ _ _ e s' I2 hq'
  | ok fl =>
    cases fl with
    | ret u =>
      obtain ⟨v, H', I3, rv, ev, q3⟩ := I2.after hq'
      subst ev
      exact ⟨rv, ⟨V.ref (s.heap.objs.size + 1), H', I3, rfl, q3⟩⟩
    | next => exact False.elim hq'
    | brk => exact False.elim hq'
    | cont => exact False.elim hq'
theorem pe_make (M : Mk X.K C f) (F : FnOk X.prog X.w X.K X.mg X.base CX k f fd ps sp) (hr : Room (k + 1) X.A) (hg : Gl X x) (hm : X.mg x = some (.ref C)) (hb : Binds X.K fd ps ds) (hd : Vals dvs ds) (hx : Passes CX X E)
    (ha : PA X (e :: es) t) (hdb : autoParam ((x == ("__debug__" : Str)) = false) zau1._auto_1) (he : autoParam (starEach (e :: es) X.env = (false, eval e X.env) :: starEach es X.env) zau2._auto_1) (hpl : autoParam ((backTo pos (starEach es X.env)).any (·.1) = false) zau2._auto_1) :
    PE X (.Call (.Name x p) (e :: es) [] pos) (tMake C sp dvs E t) := by
  intro pins s σ H Q I h
  refine wpAny_Call_Name_kw (ld_glob I hg hm ?_ hdb)
  refine PySem.W.callWith_K (h₀ := X.base) I.ok.mod.kin M.kp (thn (ha pos pins s σ H _ I h) fun us s1 ⟨vs, H1, I1, r, q⟩ => ⟨I1.kIn, ?_⟩) he hpl
  exact run_make M F hr hb hd hx I1 r q
end
section
variable {X : Cx} {CX : CXT} {k : Nat} {f C : Addr} {fd : FuncData} {ps ks : List Str} {sp : Sp} {E : XK} {x m : Str} {p pos apos kpos : Pos} {e o : Expr} {es : List Expr} {kws : List Keyword} {te ta : TE} {t tk : TA} {nm : Option Str}
structure KBinds (K : PySem.W.Frag) (fd : FuncData) (ps ks : List Str) (g : List Value → List Value → List Value) (gV : List V → List V → List V) : Prop where
  to : ∀ (s : Shared) (us ws : List Value), K.In s.heap → (g us ws).length = ps.length → BindsTo s fd ⟨us, ks.zip ws⟩ (ps.zip (g us ws))
  rel : ∀ {vs : List V} {us : List Value} {zs : List V} {ws : List Value}, Vals vs us → Vals zs ws → Vals (gV vs zs) (g us ws)
variable {g : List Value → List Value → List Value} {gV : List V → List V → List V}
end
structure FnScope (N P : List Str) (sc : Scope) : Prop where
  kind : sc.kind = .function
  co : sc.isCoroutine = false
  gen : sc.isGenerator = false
  nd : N.Nodup
  pre : N.take P.length = P
  par : ∀ x ∈ P, sc.names.lookup x = some .local ∨ sc.names.lookup x = some .cell
  nofree : ∀ y ∈ sc.names, y.2 ≠ .free
theorem bindL_out {kindOf : Str → Option NameKind} {x : Str} : ∀ {binds : List (Str × Value)} {m : Str → Option Value}, (∀ v, (x, v) ∉ binds) → bindL kindOf binds m x = m x
  | [], _, _ => rfl
  | (n, v) :: r, m, h => by
    unfold bindL
    rw [bindL_out fun w hw => h w (List.mem_cons_of_mem _ hw)]
    split
    · have : x ≠ n := by rintro rfl; exact h v List.mem_cons_self
      simp [this]
    · rfl
theorem bindC_out {kindOf : Str → Option NameKind} {x : Str} : ∀ {binds : List (Str × Value)} {m : Str → Option Value}, (∀ v, (x, v) ∉ binds) → bindC kindOf binds m x = m x
  | [], _, _ => rfl
  | (n, v) :: r, m, h => by
    unfold bindC
    rw [bindC_out fun w hw => h w (List.mem_cons_of_mem _ hw)]
    split
    · rfl
    · have : x ≠ n := by rintro rfl; exact h v List.mem_cons_self
      simp [this]
theorem bindL_get {kindOf : Str → Option NameKind} {x : Str} {v : Value} : ∀ {P : List Str} {vs : List Value} {i : Nat} {m : Str → Option Value}, P.Nodup → P[i]? = some x → vs[i]? = some v → kindOf x = some .local →
    bindL kindOf (P.zip vs) m x = some v
  | [], _, _, _, _, h, _, _ => by simp at h
  | _ :: _, [], _, _, _, _, h, _ => by simp at h
  | p :: P, w :: vs, 0, m, nd, h1, h2, hk => by
    simp at h1 h2; subst h1; subst h2
    show bindL kindOf ((p, w) :: P.zip vs) m p = _
    unfold bindL
    rw [bindL_out fun v hv => (List.nodup_cons.mp nd).1 (List.of_mem_zip hv).1, if_pos hk]
    simp
  | p :: P, w :: vs, i + 1, m, nd, h1, h2, hk => by
    show bindL kindOf ((p, w) :: P.zip vs) m x = _
    unfold bindL
    exact bindL_get (i := i) (List.nodup_cons.mp nd).2 (by simpa using h1) (by simpa using h2) hk
theorem bindC_get {kindOf : Str → Option NameKind} {x : Str} {v : Value} : ∀ {P : List Str} {vs : List Value} {i : Nat} {m : Str → Option Value}, P.Nodup → P[i]? = some x → vs[i]? = some v → kindOf x ≠ some .local →
    bindC kindOf (P.zip vs) m x = some v
  | [], _, _, _, _, h, _, _ => by simp at h
  | _ :: _, [], _, _, _, _, h, _ => by simp at h
  | p :: P, w :: vs, 0, m, nd, h1, h2, hk => by
    simp at h1 h2; subst h1; subst h2
    show bindC kindOf ((p, w) :: P.zip vs) m p = _
    unfold bindC
    rw [bindC_out fun v hv => (List.nodup_cons.mp nd).1 (List.of_mem_zip hv).1, if_neg hk]
    simp
  | p :: P, w :: vs, i + 1, m, nd, h1, h2, hk => by
    show bindC kindOf ((p, w) :: P.zip vs) m x = _
    unfold bindC
    exact bindC_get (i := i) (List.nodup_cons.mp nd).2 (by simpa using h1) (by simpa using h2) hk
noncomputable def start (N : List Str) (vs : List V) : St := vs.map some ++ List.replicate (N.length - vs.length) none
noncomputable def cxOf (CX : CXT) (P : Program) (w : World) (K : PySem.W.Frag) (mg : Str → Option Value) (base : Heap) (N : List Str) (qual : Str) (scope : Scope) (f : Addr) (cd : Value) (A : Around) (outer : List Env) (s : Shared) (H : Hp) (E : XK) : Cx where
  prog := P
  w := w
  K := K
  mg := mg
  base := base
  A := A.deeper (envOfC qual scope s.heap.objs.size f cd)
  N := N
  s₀ := s
  H₀ := H
  env := envOfC qual scope s.heap.objs.size f cd
  outer := outer
  stack := envOfC qual scope s.heap.objs.size f cd :: outer
  ex := []
  calm := true
  fn := fun _ => true
  pn := []
  xe := fun e s' => wpAny (model P w) (A.deeper (envOfC qual scope s.heap.objs.size f cd)) (leaving (envOfC qual scope s.heap.objs.size f cd) e) (fun _ s'' => CX outer H s E e s'') (fun e' s'' => CX outer H s E e' s'') s'
theorem cell_has {sc : Scope} {n : Nat} {x : Str} (h : sc.names.lookup x = some .cell) : ∃ c, (cellsFrom n sc.names []).lookup x = some c := by
  have q := PySem.W.cellsFrom_some sc.names n [] (.inl h)
  exact Option.isSome_iff_exists.mp q
theorem inv_start {CX : CXT} {P : Program} {w : World} {K : PySem.W.Frag} {mg : Str → Option Value} {base : Heap} {N ps : List Str} {qual : Str} {scope : Scope} {f : Addr} {cd : Value} {A : Around} {outer : List Env} {s s1 : Shared} {H : Hp} {E : XK} {us : List Value} {vs : List V}
    (S : FnScope N ps scope) (hd : A.handled = none) (e0 : Env0 P w K mg base A outer s H) (hl : vs.length = ps.length) (r : Vals vs us)
    (x : InCallC s s.heap.objs.size (bindL (envOfC qual scope s.heap.objs.size f cd).kindOf (ps.zip us) fun _ => none) (cellsFrom (s.heap.objs.size + 1) scope.names []) (bindC (envOfC qual scope s.heap.objs.size f cd).kindOf (ps.zip us) fun _ => none) s1) :
    Inv (cxOf CX P w K mg base N qual scope f cd A outer s H E) [] (start N vs) H s1 := by
  have hpl : ps.length ≤ N.length := by have := congrArg List.length S.pre; rw [List.length_take] at this; omega
  obtain ⟨h1, tk, rfl, hk⟩ := x.done
  have noA : ∀ b : Addr, b ∉ (cxOf CX P w K mg base N qual scope f cd A outer s H E).ex := fun b z => absurd (show b ∈ ([] : List Addr) from z) (by simp)
  refine ⟨⟨e0.mod, S.kind, rfl, rfl, Nat.le_refl _, fun y z c h1 h2 => ?_, fun y hy => ?_, fun y c _ h => ?_, fun _ => hd, Around.frames_deeper e0.frames, .inr ⟨rfl, rfl⟩, fun b z => absurd z (noA b), e0.bs, e0.bsz, fun b _ _ => noA b, fun b z => absurd z (noA b), e0.funs, e0.frf⟩,
    rfl, e0.bare, Un.kept hk, ⟨_, x.toInCall.ns, fun i y v h1 h2 h3 => ?_⟩, fun y c h => ⟨_, x.cell y c h⟩, e0.hok.fresh (Nat.le_refl _), fun y c h => ?_, fun p hp => absurd (show p ∈ ([] : List (Addr × Obj)) from hp) (by simp), e0.hok.kept hk, ?_⟩
  · exact name_of_addr x.apart (PySem.mem_of_lookup h1) (PySem.mem_of_lookup h2)
  · have hy : scope.names.lookup y = some .cell ∨ scope.names.lookup y = some .free := hy
    rcases hy with hy | hy
    · exact cell_has hy
    · exact absurd rfl (S.nofree _ (PySem.mem_of_lookup hy))
  · exact Nat.le_of_lt (x.above y c (PySem.mem_of_lookup h))
  · have hi : i < vs.length := by
      unfold start at h2
      by_cases hi : i < vs.length
      · exact hi
      · rw [List.getElem?_append_right (by simpa using hi)] at h2
        rw [List.getElem?_replicate] at h2
        split at h2 <;> cases h2
    have ha : vs[i]? = some v := by
      unfold start at h2
      rw [List.getElem?_append_left (by simpa using hi), List.getElem?_map] at h2
      cases e : vs[i]? with
      | none => rw [e] at h2; cases h2
      | some a => rw [e] at h2; cases h2; rfl
    obtain ⟨u, hu, rv⟩ := r.get ha
    have hp : ps[i]? = some y := by
      rw [← S.pre, List.getElem?_take_of_lt (by omega)]; exact h1
    have ndP : ps.Nodup := by rw [← S.pre]; exact S.nd.sublist (List.take_sublist _ _)
    refine ⟨u, rv, ?_⟩
    rcases S.par y (List.mem_of_getElem? hp) with k | k
    · exact .inl ⟨k, bindL_get ndP hp hu k⟩
    · obtain ⟨c, e⟩ := cell_has (n := s.heap.objs.size + 1) k
      refine .inr ⟨.inl k, c, e, ?_⟩
      have q := x.cell y c e
      rw [bindC_get ndP hp hu (by show scope.names.lookup y ≠ _; rw [k]; decide)] at q
      exact q
  · exact e0.hok.fresh (Nat.le_of_lt (x.above y c (PySem.mem_of_lookup h)))
  · unfold start
    show _ = N.length
    rw [List.length_append, List.length_map, List.length_replicate]
    omega
theorem fn_of {CX : CXT} {P : Program} {w : World} {K : PySem.W.Frag} {mg : Str → Option Value} {base : Heap} {k : Nat} {f : Addr} {name qual : Str} {params : Arguments} {body : List Stmt} {scope : Scope} {dV kV doc pm cdv ct oc : Value} {an od : Option Addr}
    {osl : Array (Option Value)} {N ps : List Str} {sp : Sp} (lk : K.lookup f = some ⟨oc, od, .func (PySem.W.fnOf name qual params body scope dV kV doc pm an cdv ct), osl⟩) (hcd : PySem.W.codeIn K cdv qual = true) (S : FnScope N ps scope)
    (len : ∀ vs H Q E, sp vs H Q E → vs.length = ps.length)
    (hbody : ∀ (A : Around) (outer : List Env) (s : Shared) (H : Hp) (vs : List V) (Q : VK) (E : XK), Room k (A.deeper (envOfC qual scope s.heap.objs.size f cdv)) → sp vs H Q E →
      ∃ t, PSs (cxOf CX P w K mg base N qual scope f cdv A outer s H E) body t ∧ t { nx := fun _ H' => Q .non H', rt := Q } (start N vs) H) :
    FnOk P w K mg base CX (k + 1) f (PySem.W.fnOf name qual params body scope dV kV doc pm an cdv ct) ps sp := by
  refine ⟨len, fun A outer s H args us vs Q E hr e0 hb r hsp => ?_⟩
  have hl := len _ _ _ _ hsp
  have KX : K.In s.heap := e0.mod.kin.keeps fun b o e => (e0.bs b o e).1
  have lim : s.heap.NoLimit := e0.mod.nolimit.keeps fun b o e => (e0.bs b o e).1
  have hkind : ∀ y ∈ ps.zip us, scope.names.lookup y.1 = some .local ∨ (scope.names.lookup y.1 = some .cell ∧ ((cellsFrom (s.heap.objs.size + 1) scope.names []).lookup y.1).isSome = true) := fun ⟨n, v⟩ hy => by
    rcases S.par n (List.of_mem_zip hy).1 with q | q
    · exact .inl q
    · exact .inr ⟨q, PySem.W.cellsFrom_some _ _ _ (.inl q)⟩
  refine codeAny_call_function hr.depth (KX _ _ lk) rfl S.co S.gen rfl (PySem.W.codeRec_of KX hcd) (hb _ _ _ _ ?_)
  refine wpAny_newFunctionEnv_cells S.kind hkind fun env he s1 x => ?_
  subst he
  refine ⟨lim.keeps x.toInCall.keep, codeAny_func ?_⟩
  obtain ⟨t, ht, hq⟩ := hbody A outer s H vs Q E (hr.deeper _) hsp
  have I : Inv (cxOf CX P w K mg base N qual scope f cdv A outer s H E) [] (start N vs) H s1 := inv_start S hr.hd e0 hl r x
  refine wpAny_mono (ht [] s1 (start N vs) H _ I hq) (fun fl s' hs => ?_) fun e s' hs => hs
  have fin : ∀ {σ' : St} {H' : Hp} {v : V} {u : Value}, Inv (cxOf CX P w K mg base N qual scope f cdv A outer s H E) [] σ' H' s' → RelV v u → Q v H' → CE outer P w H s Q u s' :=
    fun {σ' H' v u} J rv q => ⟨v, H', J.os, J.bare, J.base, J.hok, rv, q⟩
  cases fl with
  | ret u =>
    obtain ⟨v, σ', H', J, rv, q⟩ := hs
    exact fin J rv q
  | next =>
    obtain ⟨σ', H', J, q⟩ := hs
    exact fin (v := V.non) (u := Value.none) J rfl q
  | brk =>
    obtain ⟨_, _, _, q⟩ := hs
    exact False.elim q
  | cont =>
    obtain ⟨_, _, _, q⟩ := hs
    exact False.elim q
end L2
namespace L2
open PySem PySem.Spec PyProof.Rows
section
variable {X : Cx} {x : Str} {p pos : Pos} {e : Expr} {es : List Expr} {t : TA} {id T : String} {r : List V → Hp → VK → Prop}
noncomputable def tCB (r : List V → Hp → VK → Prop) (t : TA) : TE := fun σ H Q => t σ H fun vs H1 => r vs H1 Q
theorem pe_callB (hc : CallR X (.builtin id) r) (hg : Gl X x) (hm : X.mg x = none) (hv : bootBuiltins x = some (.builtin id)) (ha : PA X (e :: es) t) (hn : autoParam (x ≠ "__name__") zau1._auto_1) (hdb : autoParam ((x == ("__debug__" : Str)) = false) zau1._auto_1)
    (he : autoParam (starEach (e :: es) X.env = (false, eval e X.env) :: starEach es X.env) zau2._auto_1) (hpl : autoParam ((backTo pos (starEach es X.env)).any (·.1) = false) zau2._auto_1) : PE X (.Call (.Name x p) (e :: es) [] pos) (tCB r t) := by
  intro pins s σ H Q I h
  refine wpAny_Call_Name_kw (ld_blt I hg hm hv ?_ hn hdb)
  exact PyProof.Rows.callWith_builtin1 (thn (ha pos pins s σ H _ I h) fun us s1 ⟨vs, H1, I1, r1, q1⟩ => hc pins s1 σ H1 vs us Q I1 r1 q1) he hpl
theorem pe_callTy (hc : CallR X (.type T) r) (hg : Gl X x) (hm : X.mg x = none) (hv : bootBuiltins x = some (.type T)) (ha : PA X (e :: es) t) (hn : autoParam (x ≠ "__name__") zau1._auto_1) (hdb : autoParam ((x == ("__debug__" : Str)) = false) zau1._auto_1)
    (he : autoParam (starEach (e :: es) X.env = (false, eval e X.env) :: starEach es X.env) zau2._auto_1) (hpl : autoParam ((backTo pos (starEach es X.env)).any (·.1) = false) zau2._auto_1) : PE X (.Call (.Name x p) (e :: es) [] pos) (tCB r t) := by
  intro pins s σ H Q I h
  refine wpAny_Call_Name_kw (ld_blt I hg hm hv ?_ hn hdb)
  exact PyProof.Rows.callWith_type1 (thn (ha pos pins s σ H _ I h) fun us s1 ⟨vs, H1, I1, r1, q1⟩ => hc pins s1 σ H1 vs us Q I1 r1 q1) he hpl
end
end L2
namespace HT
open PySem PyProof.Rows
section
open PySem.SeqAt
open PySem.AutoSeq1 (wpAny_loadPart')
open PySem.MeetsSeq PySem.MeetsSeq2 PySem.MeetsSeq3
end
section
variable {prog : Program} {w : World} {A : Around} {E : Value → Shared → Prop} {s : Shared}
theorem cat_tup {t b : Addr} {vs ws : List Value} {Q : Value → Shared → Prop} (ht : IsTup s.heap t vs.toArray) (hb : IsTup s.heap b ws.toArray) (hv : vs ≠ [])
    (h1 : ws = [] → Q (.ref t) s) (h2 : ws ≠ [] → Q (.ref s.heap.objs.size) { s with heap := s.heap.push { cls := .type "tuple", data := .seq (vs ++ ws).toArray } })
    (hsz : vs.length + ws.length ≤ sizeLine) : wpAny (model prog w) A (binaryOp .Add (.ref t) (.ref b)) Q E s := by
  obtain ⟨⟨cls, dd, data, sl⟩, ho, hc, n, hd⟩ := id ht
  obtain ⟨⟨cls2, dd2, data2, sl2⟩, ho2, hc2, n2, hd2⟩ := id hb
  simp only at hc hd hc2 hd2
  subst hc hd hc2 hd2
  have e : vs.toArray ++ ws.toArray = (vs ++ ws).toArray := by simp
  by_cases hw : ws = []
  · exact concat_meets ⟨_, ho, rfl⟩ ⟨_, ho2, rfl⟩ noFill_tuple_add seq_tuple_add PySem.F.slot_tuple_add PySem.F.entry_tuple_add (PySem.F.args_tuple_add_2 _ _)
      (tuple_addW1 t b vs.toArray ws.toArray n n2 dd dd2 sl sl2 (by simpa using hv) (by simp [hw])) ⟨ho, ho2, h1 hw⟩
  · refine concat_meets ⟨_, ho, rfl⟩ ⟨_, ho2, rfl⟩ noFill_tuple_add seq_tuple_add PySem.F.slot_tuple_add PySem.F.entry_tuple_add (PySem.F.args_tuple_add_2 _ _)
      (tuple_addW2 t b vs.toArray ws.toArray n n2 dd dd2 sl sl2 (by simpa using hv) (by simpa using hw) (by rw [List.size_toArray, List.size_toArray]; exact hsz)) ⟨ho, ho2, ?_⟩
    rw [e]
    exact h2 hw
noncomputable def sIx (n d : Nat) : Option Int → Nat
  | none => d
  | some v => if v < 0 then (v + (n : Int)).toNat else min v.toNat n
theorem sIx_le (n d : Nat) (hd : d ≤ n) (o : Option Int) : sIx n d o ≤ n := by
  cases o with
  | none => exact hd
  | some v =>
    show (if v < 0 then (v + (n : Int)).toNat else min v.toNat n) ≤ n
    by_cases hv : v < 0
    · rw [if_pos hv]; omega
    · rw [if_neg hv]; exact Nat.min_le_right _ _
theorem clip_eq (v : Int) (n d : Nat) : (if v < 0 then max (v + (n : Int)) 0 else min v (n : Int)) = ((sIx n d (some v) : Nat) : Int) := by
  show (if v < 0 then max (v + (n : Int)) 0 else min v (n : Int)) = (((if v < 0 then (v + (n : Int)).toNat else min v.toNat n) : Nat) : Int)
  by_cases hv : v < 0
  · simp only [if_pos hv]; omega
  · simp only [if_neg hv]; omega
theorem adjust_gen (lo hi : Option Int) (n : Nat) : Builtin.Slice.sliceAdjust lo hi 1 (n : Int) = (((sIx n 0 lo : Nat) : Int), ((sIx n n hi : Nat) : Int)) := by
  have h1 : ¬ ((1 : Int) < 0) := by omega
  unfold Builtin.Slice.sliceAdjust
  simp only [h1, if_false]
  refine Prod.ext ?_ ?_
  · cases lo with
    | none => rfl
    | some v => exact clip_eq v n 0
  · cases hi with
    | none => rfl
    | some v => exact clip_eq v n n
theorem places_gen (i j : Nat) : Builtin.Slice.slicePlaces (i : Int) (j : Int) 1 = j - i := by
  unfold Builtin.Slice.slicePlaces
  have h1 : (1 : Int) > 0 := by omega
  simp only [h1, if_true, Int.ediv_one]
  split <;> omega
theorem slicePart_ {v : Value} {o : Option Int} {Q : Option Int → Shared → Prop} (p : IsPart v o) (h : Q o s) : wpAny (model prog w) A (Builtin.Slice.slicePartIndex v) Q E s := by
  cases p with
  | none => exact slicePart_none h
  | int i t => exact slicePart_int h
theorem sliceApplied_gen {sl : Addr} {vl vu : Value} {lo hi : Option Int} {n : Nat} {Q : Int × Int × Nat → Shared → Prop} (hs : s.heap.IsSliceOf sl vl vu .none) (pl : IsPart vl lo) (pu : IsPart vu hi)
    (h : Q (((sIx n 0 lo : Nat) : Int), 1, sIx n n hi - sIx n 0 lo) s) : wpAny (model prog w) A (Builtin.Slice.sliceApplied (.ref sl) (pure (n : Int))) Q E s := by
  obtain ⟨os, hos, hcs, hds⟩ := id hs
  unfold Builtin.Slice.sliceApplied Builtin.Slice.sliceFields
  refine wpAny_bind (wpAny_bind (wpAny_field hos hds (x := vl) rfl (wpAny_bind (wpAny_field hos hds (x := vu) rfl (wpAny_bind (wpAny_field hos hds (x := .none) rfl (wpAny_pure ?_)))))))
  refine wpAny_bind (slicePart_none ?_)
  show wpAny _ _ (if ((1 : Int) == 0) = true then _ else _) _ _ s
  rw [if_neg (by decide)]
  refine wpAny_bind (slicePart_ pl (wpAny_bind (slicePart_ pu (wpAny_bind (wpAny_pure ?_)))))
  show wpAny _ _ (match Builtin.Slice.sliceAdjust lo hi 1 (n : Int) with | (lo, hi) => pure (lo, (1 : Int), Builtin.Slice.slicePlaces lo hi 1)) _ _ s
  rw [adjust_gen lo hi n]
  show wpAny _ _ (pure (((sIx n 0 lo : Nat) : Int), (1 : Int), Builtin.Slice.slicePlaces ((sIx n 0 lo : Nat) : Int) ((sIx n n hi : Nat) : Int) 1)) _ _ s
  rw [places_gen]
  exact wpAny_pure h
theorem pick_gen (xs : Array Value) (i k : Nat) : ((List.range k).filterMap fun (m : Nat) => xs[((i : Int) + (m : Int) * 1).toNat]?).toArray = ((xs.toList.drop i).take k).toArray := by
  have e : (fun (m : Nat) => xs[((i : Int) + (m : Int) * 1).toNat]?) = fun m => xs[i + m]? := by
    funext m
    have : ((i : Int) + (m : Int) * 1).toNat = i + m := by omega
    rw [this]
  rw [e]
  have := pick_run xs i k
  rw [List.filterMap_map] at this
  have e2 : ((fun x => xs[x]?) ∘ fun x => i + x) = fun m => xs[i + m]? := rfl
  rw [e2] at this
  rw [this]
theorem getItem_tuple_cut {t sl : Addr} {items : Array Value} {vl vu : Value} {lo hi : Option Int} {Q : Value → Shared → Prop} (ht : IsTup s.heap t items) (hs : s.heap.IsSliceOf sl vl vu .none) (pl : IsPart vl lo) (pu : IsPart vu hi)
    (hw : ¬ (sIx items.size 0 lo = 0 ∧ sIx items.size items.size hi = items.size))
    (h : Q (.ref s.heap.objs.size) { s with heap := s.heap.push { cls := .type "tuple", data := .seq ((items.toList.drop (sIx items.size 0 lo)).take (sIx items.size items.size hi - sIx items.size 0 lo)).toArray } })
    (hsz : items.size ≤ sizeLine) : wpAny (model prog w) A (getItem (.ref t) (.ref sl)) Q E s := by
  have htake : sizeOk (.seq ((items.toList.drop (sIx items.size 0 lo)).take (sIx items.size items.size hi - sIx items.size 0 lo)).toArray) := by
    show ((items.toList.drop (sIx items.size 0 lo)).take (sIx items.size items.size hi - sIx items.size 0 lo)).toArray.size ≤ sizeLine
    rw [List.size_toArray, List.length_take, List.length_drop, Array.length_toList]
    omega
  have hj : sIx items.size items.size hi ≤ items.size := sIx_le _ _ (Nat.le_refl _) hi
  obtain ⟨os, hos, hcs, hds⟩ := id hs
  have hTs : s.TypeIs (.ref sl) "slice" := ⟨os, hos, hcs⟩
  unfold getItem
  try with_reducible refine wpAny_holding ?_
  first | refine wpAny_bind (wpAny_pure ?_) | skip
  refine wpAny_bind (wpAny_sequenceKey ht.typeIs (by decide) ?_)
  refine wpAny_bind (wpAny_callSpecial?_slot (name := Str.ofString "__getitem__") ht.typeIs PyProof.Rows.slot_tuple_getitem
    (wpAny_call_entry PyProof.Rows.slot_tuple_getitem ht.typeIs entry_tuple_getitem ?_ (args_tuple_getitem _ _)))
  show wpAny _ _ (Builtin.Tuple.tupleItemsOf (.ref t) >>= _) _ _ s
  refine wpAny_bind (tupleItemsOf_ ht ?_)
  refine wpAny_bind (wpAny_typeOf hTs ?_)
  rw [if_pos (by decide)]
  refine wpAny_bind (sliceApplied_gen hs pl pu ?_)
  have hno : ¬ ((((sIx items.size 0 lo : Nat) : Int) == 0 && (1 : Int) == 1 && (sIx items.size items.size hi - sIx items.size 0 lo) == items.size) = true) := by
    intro q
    rw [Bool.and_eq_true, Bool.and_eq_true] at q
    have q1 : ((sIx items.size 0 lo : Nat) : Int) = 0 := eq_of_beq q.1.1
    have q2 : sIx items.size items.size hi - sIx items.size 0 lo = items.size := eq_of_beq q.2
    exact hw ⟨by omega, by omega⟩
  show wpAny _ _ (if (((sIx items.size 0 lo : Nat) : Int) == 0 && (1 : Int) == 1 && (sIx items.size items.size hi - sIx items.size 0 lo) == items.size) = true then _ else _) _ _ s
  rw [if_neg hno, pick_gen]
  first
    | exact wpAny_bind (m := Builtin.Tuple.tupleExact _) (wpAny_newObj_type (wpAny_pure ⟨_, rfl, wpAny_pure h⟩) htake)
    | exact wpAny_bind (m := Builtin.Tuple.tupleExact _) (wpAny_newObj_type (wpAny_bind (wpAny_pure (wpAny_pure ⟨_, rfl, wpAny_pure h⟩))) htake)
    | exact wpAny_bind (wpAny_bind (m := Builtin.Tuple.tupleExact _) (wpAny_newObj_type (wpAny_pure (wpAny_pure ⟨_, rfl, wpAny_pure h⟩)) htake))
    | exact wpAny_bind (wpAny_bind (m := Builtin.Tuple.tupleExact _) (wpAny_newObj_type (wpAny_pure ⟨_, rfl, wpAny_pure h⟩) htake))
end
end HT
namespace L2
open PySem PySem.Spec PyProof.Rows
noncomputable abbrev TO := St → Hp → (Option Int → Hp → Prop) → Prop
noncomputable def PO (X : Cx) (e : Option Expr) (t : TO) : Prop :=
  ∀ (pins : List (Addr × Obj)) (s : Shared) (σ : St) (H : Hp) (Q : Option Int → Hp → Prop), Inv X pins σ H s → t σ H Q →
    wpAny (model X.prog X.w) X.A (evalPart e X.env) (fun u s' => ∃ o H', Inv X pins σ H' s' ∧ IsPart u o ∧ Q o H') X.xe s
noncomputable def tNoPart : TO := fun _ H Q => Q none H
noncomputable def tPart (t : TE) : TO := fun σ H Q => t σ H fun x H1 => ∃ i, x = .int i ∧ Q (some i) H1
section
variable {X : Cx} {e : Expr} {te : TE} {lo hi : Option Expr} {tl th : TO} {pos p2 : Pos}
theorem po_none : PO X none tNoPart := by
  intro pins s σ H Q I h
  rw [evalPart_none]
  exact wpAny_pure ⟨none, H, I, .none, h⟩
theorem po_some (h : PE X e te) : PO X (some e) (tPart te) := by
  intro pins s σ H Q I hw
  rw [evalPart_some]
  refine thn (h pins s σ H _ I hw) fun u s1 hzz => ?_
  obtain ⟨x, H1, I1, r1, q1⟩ := hzz
  obtain ⟨i, rfl, q⟩ := q1
  obtain ⟨t, rfl⟩ := r1
  exact ⟨some i, H1, I1, .int i t, q⟩
noncomputable def SlR (X : Cx) (r : V → Option Int → Option Int → Hp → VK → Prop) : Prop :=
  ∀ (pins : List (Addr × Obj)) (s : Shared) (σ : St) (H : Hp) (x : V) (v vl vu : Value) (lo hi : Option Int) (sl : Addr) (Q : VK), Inv X pins σ H s → RelV x v → s.heap.IsSliceOf sl vl vu .none → IsPart vl lo → IsPart vu hi → r x lo hi H Q →
    ∃ T id, typeLookup (.type T) "__getitem__" = pure (some (.builtin id)) ∧ s.TypeIs v T ∧ wpAny (model X.prog X.w) X.A (getItem v (.ref sl)) (EP X pins σ Q) X.xe s
theorem SlR.or {r r' : V → Option Int → Option Int → Hp → VK → Prop} (h : SlR X r) (h' : SlR X r') : SlR X (fun x lo hi H Q => r x lo hi H Q ∨ r' x lo hi H Q) := by
  intro pins s σ H x v vl vu lo hi sl Q I rx hs pl pu q
  rcases q with q | q
  · exact h pins s σ H x v vl vu lo hi sl Q I rx hs pl pu q
  · exact h' pins s σ H x v vl vu lo hi sl Q I rx hs pl pu q
noncomputable def tSl (r : V → Option Int → Option Int → Hp → VK → Prop) (te : TE) (tl th : TO) : TE := fun σ H Q => te σ H fun x H1 => tl σ H1 fun l H2 => th σ H2 fun u H3 => r x l u H3 Q
theorem pe_slice {r : V → Option Int → Option Int → Hp → VK → Prop} (hr : SlR X r) (he : PE X e te) (hl : PO X lo tl) (hu : PO X hi th) : PE X (.Subscript e (.Slice lo hi none p2) pos) (tSl r te tl th) := by
  intro pins s σ H Q I h
  refine Subscript_ (thn (he pins s σ H _ I h) fun v s1 hzz => ?_)
  obtain ⟨x, H1, I1, r1, q1⟩ := hzz
  refine wpAny_Slice (thn (hl pins s1 σ H1 _ I1 q1) fun vl s2 ⟨l, H2, I2, pl, q2⟩ => thn (hu pins s2 σ H2 _ I2 q2) fun vu s3 hzz => ?_)
  obtain ⟨u, H3, I3, pu, q3⟩ := hzz
  rw [evalPart_none]
  refine wpAny_pure ?_
  have I4 : Inv X pins σ H3 { s3 with heap := s3.heap.push { cls := .type "slice", data := .fields #[vl, vu, .none] } } := I3.kept (t' := s3.toks) fun b ob q => Heap.get?_push_of_some _ q
  obtain ⟨T, id, hT, ht, hg⟩ := hr pins { s3 with heap := s3.heap.push { cls := .type "slice", data := .fields #[vl, vu, .none] } } σ H3 x v vl vu l u s3.heap.objs.size Q I4 r1 (Heap.IsSliceOf.new ..) pl pu q3
  show wpAny (model X.prog X.w) X.A (subscriptTail e (.Slice lo hi none p2) v (.ref s3.heap.objs.size)) (EP X pins σ Q) X.xe { s3 with heap := s3.heap.push { cls := .type "slice", data := .fields #[vl, vu, .none] } }
  exact tail_any (ops := [.ref s3.heap.objs.size, v]) ht hT hg (by with_unfolding_all rfl)
noncomputable def cutV (xs : List V) (lo hi : Option Int) : List V := (xs.drop (HT.sIx xs.length 0 lo)).take (HT.sIx xs.length xs.length hi - HT.sIx xs.length 0 lo)
theorem cutV_length (xs : List V) (lo hi : Option Int) : (cutV xs lo hi).length ≤ xs.length := by
  unfold cutV
  rw [List.length_take, List.length_drop]
  omega
noncomputable def rSlT (K : PySem.W.Frag) : V → Option Int → Option Int → Hp → VK → Prop := fun x lo hi H Q => ∃ a xs, x = .ref a ∧ SqT K H a xs ∧
  ¬ (HT.sIx xs.length 0 lo = 0 ∧ HT.sIx xs.length xs.length hi = xs.length) ∧ ∀ p, H p = none → Q (.ref p) (upd H p (.tup (cutV xs lo hi)))
theorem sl_tup : SlR X (rSlT X.K) := by
  intro pins s σ H x v vl vu lo hi sl Q I rx hs pl pu h
  obtain ⟨a, xs, rfl, hx, hw, q⟩ := h
  cases rx
  obtain ⟨its, r, ht, hz⟩ := I.tuple hx
  have hlen : its.toArray.size = xs.length := by rw [List.size_toArray]; exact r.length.symm
  refine ⟨"tuple", _, PyProof.Rows.slot_tuple_getitem.lookup, ht.typeIs, ?_⟩
  refine HT.getItem_tuple_cut ht hs pl pu (by rw [hlen]; exact hw) ?_ (by rw [hlen]; exact hz)
  rw [hlen]
  refine ⟨.ref s.heap.objs.size, _, I.laid (t' := s.toks) (o := .tup (cutV xs lo hi)) (fun b ob q => Heap.get?_push_of_some _ q) (Nat.le_refl _) ?_, rfl, q _ (I.hok.fresh (Nat.le_refl _))⟩
  exact ⟨Nat.le_trans (cutV_length xs lo hi) hz, _, (r.drop (HT.sIx xs.length 0 lo)).take (HT.sIx xs.length xs.length hi - HT.sIx xs.length 0 lo), IsTup.new _ _⟩
noncomputable def rCatT (K : PySem.W.Frag) : R2 := fun x y H Q => ∃ a b xs ys, x = .ref a ∧ y = .ref b ∧ SqT K H a xs ∧ SqT K H b ys ∧ xs ≠ [] ∧ xs.length + ys.length ≤ sizeLine ∧
  (ys = [] → Q (.ref a) H) ∧ (ys ≠ [] → ∀ p, H p = none → Q (.ref p) (upd H p (.tup (xs ++ ys))))
theorem Vals.nil_iff {xs : List V} {us : List Value} (r : Vals xs us) : us = [] ↔ xs = [] := by
  cases r with
  | nil => simp
  | cons _ _ => simp
theorem op_catT : OpR X (binaryOp .Add) (rCatT X.K) := by
  intro pins s σ H x y v u Q I rx ry h
  obtain ⟨a, b, xs, ys, rfl, rfl, ha, hb, hx, hz, q1, q2⟩ := h
  cases rx
  cases ry
  obtain ⟨its, r1, p1, _⟩ := I.tuple ha
  obtain ⟨its2, r2, p2, _⟩ := I.tuple hb
  refine HT.cat_tup p1 p2 (fun z => hx (r1.nil_iff.mp z)) (fun z => ⟨.ref a, H, I, rfl, q1 (r2.nil_iff.mp z)⟩) (fun z => ?_) (by rw [← r1.length, ← r2.length]; exact hz)
  refine ⟨.ref s.heap.objs.size, _, I.laid (t' := s.toks) (o := .tup (xs ++ ys)) (fun b ob q => Heap.get?_push_of_some _ q) (Nat.le_refl _) ?_, rfl, q2 (fun w => z (r2.nil_iff.mpr w)) _ (I.hok.fresh (Nat.le_refl _))⟩
  exact ⟨by rw [List.length_append]; exact hz, _, r1.append r2, IsTup.new _ _⟩
end
end L2
namespace L2
open PySem PySem.Spec PyProof.Rows
noncomputable def ixN (n : Nat) (i : Int) : Option Nat := if 0 ≤ i then (if i < n then some i.toNat else none) else if -(n : Int) ≤ i then some (i + n).toNat else none
noncomputable def atI {α : Type} (xs : List α) (i : Int) : Option α := (ixN xs.length i).bind fun j => xs[j]?
theorem ixN_seq {n : Nat} {i : Int} {j : Nat} (h : ixN n i = some j) : seqIndex? i n = some j ∧ j < n ∧ -(n : Int) ≤ i ∧ i < n := by
  unfold ixN at h
  by_cases h0 : 0 ≤ i
  · rw [if_pos h0] at h
    by_cases h1 : i < n
    · rw [if_pos h1] at h
      have e : i.toNat = j := Option.some.inj h
      exact ⟨by rw [seqIndex_of h0 h1, e], by omega, by omega, h1⟩
    · rw [if_neg h1] at h; cases h
  · rw [if_neg h0] at h
    by_cases h1 : -(n : Int) ≤ i
    · rw [if_pos h1] at h
      have e : (i + n).toNat = j := Option.some.inj h
      exact ⟨by rw [seqIndex_neg (by omega) h1, e], by omega, h1, by omega⟩
    · rw [if_neg h1] at h; cases h
theorem atI_get {α : Type} {xs : List α} {i : Int} {v : α} (h : atI xs i = some v) : ∃ j, seqIndex? i xs.length = some j ∧ xs[j]? = some v ∧ j < xs.length ∧ -(xs.length : Int) ≤ i ∧ i < xs.length := by
  unfold atI at h
  cases e : ixN xs.length i with
  | none => rw [e] at h; cases h
  | some j =>
    rw [e] at h
    obtain ⟨h1, h2, h3, h4⟩ := ixN_seq e
    exact ⟨j, h1, h, h2, h3, h4⟩
noncomputable def PlainIx (b : Expr) : Prop := ∀ o i, subscripted b false o i = operate [o, i] (getItem o i)
noncomputable def IxR (X : Cx) (r : R2) : Prop :=
  ∀ (value slice : Expr) (pins : List (Addr × Obj)) (s : Shared) (σ : St) (H : Hp) (x y : V) (v u : Value) (Q : VK), Inv X pins σ H s → RelV x v → RelV y u → r x y H Q →
    subscripted slice false v u = operate [v, u] (getItem v u) → wpAny (model X.prog X.w) X.A (subscriptTail value slice v u) (EP X pins σ Q) X.xe s
noncomputable def MtR (X : Cx) (id : String) (r : V → List V → Hp → VK → Prop) : Prop :=
  ∀ (pins : List (Addr × Obj)) (s : Shared) (σ : St) (H : Hp) (x : V) (xs : List V) (v : Value) (us : List Value) (Q : VK), Inv X pins σ H s → RelV x v → Vals xs us → r x xs H Q →
    wpAny (model X.prog X.w) X.A (call (.builtin id) (v :: us)) (EP X pins σ Q) X.xe s
section
variable {X : Cx} {a b : Expr} {ta tb : TE} {pos : Pos}
theorem IxR.or {r r' : R2} (h : IxR X r) (h' : IxR X r') : IxR X (fun x y H Q => r x y H Q ∨ r' x y H Q) := by
  intro value slice pins s σ H x y v u Q I rx ry q hs
  rcases q with q | q
  · exact h value slice pins s σ H x y v u Q I rx ry q hs
  · exact h' value slice pins s σ H x y v u Q I rx ry q hs
theorem pe_ix {r : R2} (hr : IxR X r) (ha : PE X a ta) (hb : PE X b tb) (hs : PlainIx b) : PE X (.Subscript a b pos) (tOp r ta tb) := by
  intro pins s σ H Q I h
  exact Subscript_ (binT ha hb I h fun v u s2 x y H2 I2 rx ry q => hr a b pins s2 σ H2 x y v u Q I2 rx ry q (hs _ _))
noncomputable def rIxL (K : PySem.W.Frag) : R2 := fun x y H Q => ∃ p xs i v, x = .ref p ∧ y = .int i ∧ SqL K H p xs ∧ atI xs i = some v ∧ Q v H
noncomputable def rIxT (K : PySem.W.Frag) : R2 := fun x y H Q => ∃ p xs i v, x = .ref p ∧ y = .int i ∧ SqT K H p xs ∧ atI xs i = some v ∧ Q v H
noncomputable def rIxS : R2 := fun x y H Q => ∃ z i c, x = .str z ∧ y = .int i ∧ z.length ≤ sizeLine ∧ atI z.cps.toList i = some c ∧ Q (.str ⟨#[c]⟩) H
theorem ix_list : IxR X (rIxL X.K) := by
  intro value slice pins s σ H x y v u Q I rx ry h hs
  obtain ⟨p, xs, i, z, rfl, rfl, hq, he, q⟩ := h
  cases rx
  obtain ⟨t, rfl⟩ := ry
  obtain ⟨its, r, pl, hz⟩ := I.list hq
  obtain ⟨j, h1, h2, h3, h4, h5⟩ := atI_get he
  obtain ⟨w, ew, rw'⟩ := r.get h2
  have hl := r.length
  have hn := line63
  have fin : EP X pins σ Q w s := ⟨z, H, I, rw', q⟩
  by_cases h0 : 0 ≤ i
  · have hj : i.toNat = j := by
      rw [seqIndex_of h0 h5] at h1
      exact Option.some.inj h1
    exact item_listR pl.isList h0 (by omega) (by rw [hj]; simpa using ew) fin hs
  · have hj : (i + (its.toArray.size : Int)).toNat = j := by
      rw [seqIndex_neg (by omega) h4] at h1
      rw [List.size_toArray, ← hl]
      exact Option.some.inj h1
    exact subscriptTail_builtinR (x := w) pl.isList.typeIs slot_list_getitem.lookup
      (wpAny_getItem_list_neg (Q := fun r s' => r = w ∧ EP X pins σ Q r s') pl.isList (by omega) (by rw [List.size_toArray] <;> omega) (by omega) (by rw [hj]; simpa using ew) ⟨rfl, fin⟩) hs
theorem ix_tup : IxR X (rIxT X.K) := by
  intro value slice pins s σ H x y v u Q I rx ry h hs
  obtain ⟨p, xs, i, z, rfl, rfl, hq, he, q⟩ := h
  cases rx
  obtain ⟨t, rfl⟩ := ry
  obtain ⟨its, r, pl, hz⟩ := I.tuple hq
  obtain ⟨j, h1, h2, h3, h4, h5⟩ := atI_get he
  obtain ⟨w, ew, rw'⟩ := r.get h2
  have hl := r.length
  have hn := line63
  have fin : EP X pins σ Q w s := ⟨z, H, I, rw', q⟩
  exact subscriptTail_builtinR (x := w) pl.typeIs slot_tuple_getitem.lookup
    (getItem_tuple (j := j) (Q := fun r s' => r = w ∧ EP X pins σ Q r s') pl (by omega) (by omega) (by rw [List.size_toArray, ← hl]; exact h1) (by simpa using ew) ⟨rfl, fin⟩) hs
theorem ix_str : IxR X rIxS := by
  intro value slice pins s σ H x y v u Q I rx ry h hs
  obtain ⟨z, i, c, rfl, rfl, hz, he, q⟩ := h
  obtain ⟨t, rfl⟩ := rx
  obtain ⟨t', rfl⟩ := ry
  obtain ⟨j, h1, h2, h3, h4, h5⟩ := atI_get he
  have hl : z.cps.toList.length = z.length := by simp [Str.length]
  rw [hl] at h1 h4 h5
  have hn := line63
  exact tail_any (typeIs_str s z t) slot_str_getitem.lookup (getItem_str (c := c) (by
    have e1 : decide (i < -(2 ^ 63 : Int)) = false := decide_eq_false (by omega)
    have e2 : decide (i ≥ 2 ^ 63) = false := decide_eq_false (by omega)
    rw [e1, e2, Bool.or_false]) (by rw [h1]; simpa using h2) ⟨.str ⟨#[c]⟩, H, I.tok _, ⟨_, rfl⟩, q⟩) hs
noncomputable def rIx (K : PySem.W.Frag) : R2 := fun x y H Q => rIxL K x y H Q ∨ rIxT K x y H Q ∨ rIxS x y H Q
theorem ix_seq : IxR X (rIx X.K) := ix_list.or (ix_tup.or ix_str)
theorem slice_bounds (lo hi : Option Int) (n : Nat) : (sliceBounds lo hi none n).1 = ((HT.sIx n 0 lo : Nat) : Int) ∧ (sliceBounds lo hi none n).2.1 = ((HT.sIx n n hi : Nat) : Int) ∧ (sliceBounds lo hi none n).2.2 = 1 := by
  refine ⟨?_, ?_, rfl⟩
  · cases lo with
    | none => simp [sliceBounds, HT.sIx]
    | some i =>
      simp only [sliceBounds, HT.sIx, Option.getD_none, show (1 : Int) > 0 by decide, if_true]
      by_cases h : i < 0
      · simp only [h, if_true] <;> omega
      · simp only [h, if_false] <;> omega
  · cases hi with
    | none => simp [sliceBounds, HT.sIx]
    | some i =>
      simp only [sliceBounds, HT.sIx, Option.getD_none, show (1 : Int) > 0 by decide, if_true]
      by_cases h : i < 0
      · simp only [h, if_true] <;> omega
      · simp only [h, if_false] <;> omega
theorem slicePick_cut (its : List Value) (lo hi : Option Int) : slicePick its.toArray lo hi none = ((its.drop (HT.sIx its.length 0 lo)).take (HT.sIx its.length its.length hi - HT.sIx its.length 0 lo)).toArray := by
  obtain ⟨h1, h2, h3⟩ := slice_bounds lo hi its.toArray.size
  unfold slicePick
  rw [h1, h2, h3]
  simp only [sliceRange_one, pick_run, List.size_toArray] <;> rfl
noncomputable def rSlL (K : PySem.W.Frag) : V → Option Int → Option Int → Hp → VK → Prop := fun x lo hi H Q => ∃ a xs, x = .ref a ∧ SqL K H a xs ∧ ∀ p, H p = none → Q (.ref p) (upd H p (.lst (cutV xs lo hi)))
theorem sl_list : SlR X (rSlL X.K) := by
  intro pins s σ H x v vl vu lo hi sl Q I rx hs pl pu h
  obtain ⟨a, xs, rfl, hx, q⟩ := h
  cases rx
  obtain ⟨its, r, ht, hz⟩ := I.list hx
  have hlen := r.length
  refine ⟨"list", _, slot_list_getitem.lookup, ht.isList.typeIs, ?_⟩
  refine wpAny_getItem_list_slice ht.isList hs pl pu .none (by simp) ?_ (by rw [List.size_toArray] <;> omega)
  rw [slicePick_cut, ← hlen]
  refine ⟨.ref s.heap.objs.size, _, I.laid (t' := s.toks) (o := .lst (cutV xs lo hi)) (fun b ob q => Heap.get?_push_of_some _ q) (Nat.le_refl _) ?_, rfl, q _ (I.hok.fresh (Nat.le_refl _))⟩
  exact ⟨Nat.le_trans (cutV_length xs lo hi) hz, _, 0, (r.drop (HT.sIx xs.length 0 lo)).take (HT.sIx xs.length xs.length hi - HT.sIx xs.length 0 lo), Heap.get?_push_size _ rfl⟩
noncomputable def flatV : V → Bool
  | .non => true
  | .bl _ => true
  | .int _ => true
  | .str _ => true
  | _ => false
noncomputable def eqV : V → V → Bool
  | .non, .non => true
  | .bl a, .bl b => a == b
  | .bl a, .int b => (if a then 1 else 0) == b
  | .int a, .bl b => a == (if b then 1 else 0)
  | .int a, .int b => a == b
  | .str a, .str b => a == b
  | _, _ => false
theorem eqAt_V {A : Around} {s : Shared} {y x : V} {u v : Value} (ry : RelV y u) (rx : RelV x v) (fy : flatV y = true) (fx : flatV x = true) : SeqAt.EqAt A s u v (eqV y x) := by
  cases y with
  | non =>
    cases ry
    cases x with
    | non => cases rx; exact SeqAt.EqAt.same _
    | bl b => cases rx; exact SeqAt.EqAt.none_bool b
    | int b => obtain ⟨t, rfl⟩ := rx; exact SeqAt.EqAt.none_int b t
    | str b => obtain ⟨t, rfl⟩ := rx; exact SeqAt.EqAt.none_str b t
    | _ => exact absurd (show false = true from fx) Bool.false_ne_true
  | bl a =>
    cases ry
    cases x with
    | non => cases rx; exact SeqAt.EqAt.bool_none a
    | bl b => cases rx; exact SeqAt.EqAt.bool_bool a b
    | int b => obtain ⟨t, rfl⟩ := rx; exact SeqAt.EqAt.bool_int a b t
    | str b => obtain ⟨t, rfl⟩ := rx; exact SeqAt.EqAt.bool_str a b t
    | _ => exact absurd (show false = true from fx) Bool.false_ne_true
  | int a =>
    obtain ⟨t', rfl⟩ := ry
    cases x with
    | non => cases rx; exact SeqAt.EqAt.int_none a t'
    | bl b => cases rx; exact SeqAt.EqAt.int_bool a t' b
    | int b => obtain ⟨t, rfl⟩ := rx; exact SeqAt.EqAt.int_int a t' b t
    | str b => obtain ⟨t, rfl⟩ := rx; exact SeqAt.EqAt.int_str a t' b t
    | _ => exact absurd (show false = true from fx) Bool.false_ne_true
  | str a =>
    obtain ⟨t', rfl⟩ := ry
    cases x with
    | non => cases rx; exact SeqAt.EqAt.str_none a t'
    | bl b => cases rx; exact SeqAt.EqAt.str_bool a t' b
    | int b => obtain ⟨t, rfl⟩ := rx; exact SeqAt.EqAt.str_int a t' b t
    | str b => obtain ⟨t, rfl⟩ := rx; exact SeqAt.EqAt.str_str a t' b t
    | _ => exact absurd (show false = true from fx) Bool.false_ne_true
  | _ => exact absurd (show false = true from fy) Bool.false_ne_true
noncomputable def eqU (x : V) (u : Value) : Bool := match u with
  | .none => eqV .non x
  | .bool b => eqV (.bl b) x
  | .int i _ => eqV (.int i) x
  | .str z _ => eqV (.str z) x
  | _ => false
theorem eqU_of {x y : V} {u : Value} (r : RelV y u) (f : flatV y = true) : eqU x u = eqV y x := by
  cases y with
  | non => cases r; rfl
  | bl b => cases r; rfl
  | int i => obtain ⟨t, rfl⟩ := r; rfl
  | str z => obtain ⟨t, rfl⟩ := r; rfl
  | _ => exact absurd (show false = true from f) Bool.false_ne_true
theorem any_eqU {x : V} : ∀ {xs : List V} {us : List Value}, Vals xs us → xs.all flatV = true → us.any (eqU x) = xs.any fun y => eqV y x
  | _, _, .nil, _ => rfl
  | y :: xs, u :: us, .cons r t, f => by
    rw [List.all_cons, Bool.and_eq_true] at f
    rw [List.any_cons, List.any_cons, eqU_of r f.1, any_eqU t f.2]
theorem mem_eqAt {A : Around} {s : Shared} {x : V} {v : Value} (rx : RelV x v) (fx : flatV x = true) : ∀ {xs : List V} {us : List Value}, Vals xs us → xs.all flatV = true → ∀ u ∈ us, SeqAt.EqAt A s u v (eqU x u)
  | _, _, .nil, _ => fun u hu => by cases hu
  | y :: xs, u :: us, .cons r t, f => fun u' hu => by
    rw [List.all_cons, Bool.and_eq_true] at f
    rcases List.mem_cons.mp hu with rfl | hu
    · rw [eqU_of r f.1]; exact eqAt_V r rx f.1 fx
    · exact mem_eqAt rx fx t f.2 u' hu
noncomputable def inV (x : V) (xs : List V) : Bool := xs.any fun y => eqV y x
noncomputable def rIn (K : PySem.W.Frag) (neg : Bool) : R2 := fun x y H Q => ∃ p xs, y = .ref p ∧ (SqL K H p xs ∨ SqT K H p xs) ∧ flatV x = true ∧ xs.all flatV = true ∧ Q (.bl (if neg then !inV x xs else inV x xs)) H
theorem op_in_seq : OpR X (compareOp .In) (rIn X.K false) := by
  intro pins s σ H x y v u Q I rx ry h
  obtain ⟨p, xs, rfl, hq, fx, fs, q⟩ := h
  cases ry
  rcases hq with hq | hq
  · obtain ⟨its, r, pl, hz⟩ := I.list hq
    refine SeqAt.in_listAt (eqU x) pl.isList (fun w hw => mem_eqAt rx fx r fs w (by simpa using hw)) ⟨.bl _, H, I, rfl, ?_⟩
    rw [show its.toArray.any (eqU x) = its.any (eqU x) by simp, any_eqU r fs]
    exact q
  · obtain ⟨its, r, pl, hz⟩ := I.tuple hq
    refine SeqAt.in_tupleAt (eqU x) pl (fun w hw => mem_eqAt rx fx r fs w (by simpa using hw)) ⟨.bl _, H, I, rfl, ?_⟩
    rw [show its.toArray.any (eqU x) = its.any (eqU x) by simp, any_eqU r fs]
    exact q
theorem op_notIn_seq : OpR X (compareOp .NotIn) (rIn X.K true) := by
  intro pins s σ H x y v u Q I rx ry h
  obtain ⟨p, xs, rfl, hq, fx, fs, q⟩ := h
  cases ry
  rcases hq with hq | hq
  · obtain ⟨its, r, pl, hz⟩ := I.list hq
    refine SeqAt.notIn_listAt (eqU x) pl.isList (fun w hw => mem_eqAt rx fx r fs w (by simpa using hw)) ⟨.bl _, H, I, rfl, ?_⟩
    rw [show its.toArray.any (eqU x) = its.any (eqU x) by simp, any_eqU r fs]
    exact q
  · obtain ⟨its, r, pl, hz⟩ := I.tuple hq
    refine SeqAt.notIn_tupleAt (eqU x) pl (fun w hw => mem_eqAt rx fx r fs w (by simpa using hw)) ⟨.bl _, H, I, rfl, ?_⟩
    rw [show its.toArray.any (eqU x) = its.any (eqU x) by simp, any_eqU r fs]
    exact q
theorem call_len_seq : CallR X (.builtin "len") (fun xs H Q => ∃ p ys, xs = [.ref p] ∧ (SqL X.K H p ys ∨ SqT X.K H p ys) ∧ Q (.int ys.length) H) := by
  intro pins s σ H xs us Q I r h
  obtain ⟨p, ys, rfl, hq, q⟩ := h
  obtain ⟨u, rfl, rx⟩ := vals1 r
  cases rx
  have hn := line63
  rcases hq with hq | hq
  · obtain ⟨its, r', pl, hz⟩ := I.list hq
    have hlen := r'.length
    exact Calls.call_len_list pl.isList (by simp only [List.size_toArray] <;> omega) ⟨.int ys.length, H, I.tok _, ⟨s.toks + 1, by rw [List.size_toArray, hlen]⟩, q⟩
  · obtain ⟨its, r', pl, hz⟩ := I.tuple hq
    have hlen := r'.length
    exact len_tuple pl (by simp only [List.size_toArray] <;> omega) ⟨.int ys.length, H, I.tok _, ⟨s.toks + 1, by rw [List.size_toArray, hlen]⟩, q⟩
theorem call_len_str : CallR X (.builtin "len") (fun xs H Q => ∃ z, xs = [.str z] ∧ z.length ≤ sizeLine ∧ Q (.int z.length) H) := by
  intro pins s σ H xs us Q I r h
  obtain ⟨z, rfl, hz, q⟩ := h
  obtain ⟨u, rfl, t, rfl⟩ := vals1 r
  have hn := line63
  exact len_str (by omega) ⟨.int z.length, H, I.tok _, ⟨_, rfl⟩, q⟩
theorem CallR.or {f : Value} {r r' : List V → Hp → VK → Prop} (h : CallR X f r) (h' : CallR X f r') : CallR X f (fun xs H Q => r xs H Q ∨ r' xs H Q) := by
  intro pins s σ H xs us Q I rs q
  rcases q with q | q
  · exact h pins s σ H xs us Q I rs q
  · exact h' pins s σ H xs us Q I rs q
theorem call_list_of : CallR X (.type "list") (fun xs H Q => ∃ p ys, xs = [.ref p] ∧ (SqL X.K H p ys ∨ SqT X.K H p ys) ∧ ∀ l, H l = none → Q (.ref l) (upd H l (.lst ys))) := by
  intro pins s σ H xs us Q I r h
  obtain ⟨p, ys, rfl, hq, q⟩ := h
  obtain ⟨u, rfl, rx⟩ := vals1 r
  cases rx
  have fin : ∀ (its : List Value), Vals ys its → ys.length ≤ sizeLine → ∀ (h' : Heap) (c' : Nat), (∀ b o', s.heap.get? b = some o' → h'.get? b = some o') →
      h'.get? s.heap.objs.size = some { cls := .type "list", dict := none, data := .seq its.toArray c', slots := #[] } → EP X pins σ Q (.ref s.heap.objs.size) { s with heap := h' } := fun its r' hz h' c' kp e =>
    ⟨.ref s.heap.objs.size, _, I.laid (t' := s.toks) kp (Nat.le_refl _) (show ObjOk X.prog X.w _ h' _ (.lst ys) from ⟨hz, its, c', r', e⟩), rfl, q _ (I.hok.fresh (Nat.le_refl _))⟩
  rcases hq with hq | hq
  · obtain ⟨its, r', pl, hz⟩ := I.list hq
    have hlen := r'.length
    obtain ⟨o, ho, hc, n, hd⟩ := pl.isList
    exact call_list_seq p (.inl rfl) ho hc hd (fun h' c' kp e => fin its r' hz h' c' kp e) (by simp only [List.size_toArray] <;> omega)
  · obtain ⟨its, r', pl, hz⟩ := I.tuple hq
    have hlen := r'.length
    obtain ⟨o, ho, hc, n, hd⟩ := pl
    exact call_list_seq p (.inr rfl) ho hc hd (fun h' c' kp e => fin its r' hz h' c' kp e) (by simp only [List.size_toArray] <;> omega)
theorem call_tuple_of : CallR X (.type "tuple") (fun xs H Q => ∃ p ys, xs = [.ref p] ∧ ((SqL X.K H p ys ∧ ∀ l, H l = none → Q (.ref l) (upd H l (.tup ys))) ∨ (SqT X.K H p ys ∧ Q (.ref p) H))) := by
  intro pins s σ H xs us Q I r h
  obtain ⟨p, ys, rfl, h⟩ := h
  obtain ⟨u, rfl, rx⟩ := vals1 r
  cases rx
  rcases h with ⟨hq, q⟩ | ⟨hq, q⟩
  · obtain ⟨its, r', pl, hz⟩ := I.list hq
    have hlen := r'.length
    refine call_tuple_list pl.isList (fun h' kp => ?_) (by simp only [List.size_toArray] <;> omega)
    have I1 : Inv X pins σ H { s with heap := h' } := I.kept (t' := s.toks) kp
    have I2 : Inv X pins σ (upd H h'.objs.size (.tup ys)) { s with heap := h'.push { cls := .type "tuple", data := .seq its.toArray } } :=
      I1.laid (t' := s.toks) (fun b o e => Heap.get?_push_of_some _ e) (Nat.le_refl _) (show ObjOk X.prog X.w _ _ _ (.tup ys) from ⟨hz, its, r', IsTup.new _ _⟩)
    exact ⟨.ref h'.objs.size, _, I2, rfl, q _ (I1.hok.fresh (Nat.le_refl _))⟩
  · obtain ⟨its, r', pl, hz⟩ := I.tuple hq
    exact call_tuple_same pl ⟨.ref p, H, I, rfl, q⟩
noncomputable def tyV (K : PySem.W.Frag) (T : String) (x : V) (H : Hp) : Prop := match x with
  | .str _ => T = "str"
  | .int _ => T = "int"
  | .ref p => (T = "list" ∧ ∃ xs, SqL K H p xs) ∨ (T = "tuple" ∧ ∃ o, K.lookup p = some o ∧ o.cls = .type "tuple" ∧ o.dict = none)
  | _ => False
theorem tyV_is {pins : List (Addr × Obj)} {σ : St} {H : Hp} {s : Shared} {T : String} {x : V} {v : Value} (I : Inv X pins σ H s) (r : RelV x v) (ty : tyV X.K T x H) :
    s.TypeIs v T ∧ ∀ a, v = .ref a → ∃ ob, s.heap.get? a = some ob ∧ ob.dict = none := by
  cases x with
  | str z =>
    obtain ⟨t, rfl⟩ := r
    cases (show T = "str" from ty)
    exact ⟨typeIs_str s z t, fun _ e => nomatch e⟩
  | int i =>
    obtain ⟨t, rfl⟩ := r
    cases (show T = "int" from ty)
    exact ⟨typeIs_int s i t, fun _ e => nomatch e⟩
  | ref p =>
    cases r
    rcases ty with ⟨rfl, xs, hq⟩ | ⟨rfl, o, hk, hc, hd⟩
    · obtain ⟨its, _, pl, _⟩ := I.list hq
      refine ⟨pl.isList.typeIs, fun a e => ?_⟩
      cases e
      obtain ⟨o, n, e, c, hd, _⟩ := pl
      exact ⟨o, e, hd⟩
    · refine ⟨⟨o, I.kIn p o hk, hc⟩, fun a e => ?_⟩
      cases e
      exact ⟨o, I.kIn _ o hk, hd⟩
  | _ => exact False.elim ty
noncomputable def tBM0 (K : PySem.W.Frag) (T : String) (r : V → List V → Hp → VK → Prop) (to : TE) : TE := fun σ H Q => to σ H fun x H1 => tyV K T x H1 ∧ r x [] H1 Q
noncomputable def tBM (K : PySem.W.Frag) (T : String) (r : V → List V → Hp → VK → Prop) (to : TE) (t : TA) : TE := fun σ H Q => to σ H fun x H1 => tyV K T x H1 ∧ t σ H1 fun xs H2 => r x xs H2 Q
variable {o e : Expr} {es : List Expr} {to : TE} {t : TA} {name : Str} {apos cpos : Pos} {T id : String} {r : V → List V → Hp → VK → Prop}
theorem pe_bm0 (pa : PlainAttrs T) (slot : Slot T name id) (hty : typeOf (.builtin id) = pure (.type "method_descriptor")) (hm : MtR X id r) (ho : PE X o to)
    (hbase : autoParam (attributeBase o name X.env (eval o X.env) = eval o X.env) zau2._auto_1) (hline : autoParam ((apos.endLine == cpos.line) = true) zau2._auto_1) : PE X (.Call (.Attribute o name apos) [] [] cpos) (tBM0 X.K T r to) := by
  intro pins s σ H Q I h
  refine wpAny_Call_method0_late hbase hline (thn (ho pins s σ H _ I h) fun v s1 hzz => ?_)
  obtain ⟨x, H1, I1, r1, ty, q1⟩ := hzz
  obtain ⟨h1, h2⟩ := tyV_is I1 r1 ty
  exact ⟨T, id, pa, slot, hty, h1, h2, Calls.callWith_builtin rfl (PySem.evalArgs_none (hm pins s1 σ H1 x [] v [] Q I1 r1 .nil q1))⟩
theorem pe_bm (pa : PlainAttrs T) (slot : Slot T name id) (hty : typeOf (.builtin id) = pure (.type "method_descriptor")) (hm : MtR X id r) (ho : PE X o to) (ha : PA X (e :: es) t)
    (hbase : autoParam (attributeBase o name X.env (eval o X.env) = eval o X.env) zau2._auto_1)
    (hfew : ((backTo cpos (starEach (e :: es) X.env)).all (fun x => !x.1) && (backToKw cpos (keywordEach [] X.env)).all (fun x => x.1.isSome)
      && decide ((e :: es).length + ([] : List Keyword).length + (if ([] : List Keyword).isEmpty then 0 else 1) < 30)) = true := by rfl)
    (hline : autoParam ((apos.endLine == cpos.line) = true) zau2._auto_1) (hs : autoParam (starEach (e :: es) X.env = (false, eval e X.env) :: starEach es X.env) zau2._auto_1) (hplain : autoParam ((backTo cpos (starEach es X.env)).any (·.1) = false) zau2._auto_1) :
    PE X (.Call (.Attribute o name apos) (e :: es) [] cpos) (tBM X.K T r to t) := by
  intro pins s σ H Q I h
  refine wpAny_Call_method_late hbase hfew hline rfl (thn (ho pins s σ H _ I h) fun v s1 hzz => ?_)
  obtain ⟨x, H1, I1, r1, ty, q1⟩ := hzz
  obtain ⟨h1, h2⟩ := tyV_is I1 r1 ty
  refine ⟨T, id, pa, slot, hty, h1, h2, ?_⟩
  have hA := ha cpos pins s1 σ H1 _ I1 q1
  rw [hs] at hA ⊢
  refine Calls.callWith_builtin (by show (false || (backTo cpos (starEach es X.env)).any (·.1)) = false; rw [hplain] <;> rfl) (Calls.evalArgs_plain ?_)
  exact thn hA fun us s2 ⟨vs, H2, I2, r2, q2⟩ => hm pins s2 σ H2 x vs v us Q I2 r1 r2 q2
end
end L2
namespace L2
open PySem PySem.Spec PyProof.Rows
noncomputable def MtM (X : Cx) (id : String) (r : V → List V → Hp → VK → Prop) : Prop :=
  ∀ (pins : List (Addr × Obj)) (s : Shared) (σ : St) (H : Hp) (x : V) (xs : List V) (v : Value) (us : List Value) (Q : VK), Inv X pins σ H s → RelV x v → Vals xs us → r x xs H Q →
    wpAny (model X.prog X.w) X.A (call (.builtin id) (v :: us)) (EP X pins σ Q) X.xe s
theorem Vals.one {x : V} {us : List Value} (h : Vals [x] us) : ∃ u, us = [u] ∧ RelV x u := vals1 h
theorem Vals.two {x y : V} {us : List Value} (h : Vals [x, y] us) : ∃ u v, us = [u, v] ∧ RelV x u ∧ RelV y v := vals2 h
theorem Vals.zero : ∀ {us : List Value}, Vals [] us → us = []
  | _, .nil => rfl
theorem Vals.dropLast {xs : List V} {us : List Value} (h : Vals xs us) : Vals xs.dropLast us.dropLast := by
  induction h with
  | nil => exact .nil
  | cons r t ih =>
    cases t with
    | nil => exact .nil
    | cons q t' => exact .cons r ih
theorem Vals.rep {xs : List V} {us : List Value} (h : Vals xs us) : ∀ k : Nat, Vals (List.replicate k xs).flatten (List.replicate k us).flatten
  | 0 => .nil
  | k + 1 => by
    rw [List.replicate_succ, List.replicate_succ, List.flatten_cons, List.flatten_cons]
    exact Vals.append h (Vals.rep h k)
theorem erase_last {α : Type} (l : List α) : l.eraseIdx (l.length - 1) = l.dropLast := by
  induction l with
  | nil => rfl
  | cons a r ih =>
    cases r with
    | nil => rfl
    | cons b r =>
      have e : (a :: b :: r).length - 1 = ((b :: r).length - 1) + 1 := by
        have h1 : (a :: b :: r).length = r.length + 2 := rfl
        have h2 : (b :: r).length = r.length + 1 := rfl
        omega
      rw [e, List.eraseIdx_cons_succ, ih]
      all_goals rfl
theorem foldl_rep (its : List Value) : ∀ (k : Nat) (acc : List Value),
    List.foldl (fun x1 x2 => x1 ++ x2) acc.toArray (List.replicate k its.toArray) = (acc ++ (List.replicate k its).flatten).toArray
  | 0, acc => by simp
  | k + 1, acc => by
    have e : acc.toArray ++ its.toArray = (acc ++ its).toArray := by simp
    have e2 : (acc ++ its) ++ (List.replicate k its).flatten = acc ++ (List.replicate (k + 1) its).flatten := by
      rw [List.replicate_succ, List.flatten_cons, List.append_assoc]
    rw [← e2, ← foldl_rep its k (acc ++ its), ← e, List.replicate_succ, List.foldl_cons]
section
variable {X : Cx} {pins : List (Addr × Obj)} {σ : St} {H : Hp} {s : Shared} {l b : Addr} {xs ys zs : List V}
theorem Inv.lset {its its' : List Value} {n : Nat} {f : Array Value → Array Value} {t' : Nat} (I : Inv X pins σ H s) (hH : H l = some (.lst xs))
    (e : s.heap.get? l = some { cls := .type "list", data := .seq its.toArray n }) (hf : f its.toArray = its'.toArray) (hv : Vals ys its') (hz : ys.length ≤ sizeLine) :
    Inv X pins σ (upd H l (.lst ys)) { s with heap := s.heap.update l (Obj.mapSeq f), toks := t' } := by
  have q := PySem.IsL.update e f
  rw [hf] at q
  refine I.write (x := l) (e := l) (by rw [hH]; exact trivial) (.inl rfl) (fun b' u hb hu => (Heap.get?_update_other s.heap (Obj.mapSeq f) (Ne.symm hb)).trans hu) ⟨_, q⟩ ?_
  exact ⟨hz, its', _, hv, q⟩
theorem Inv.lnew {its : List Value} {t' : Nat} (I : Inv X pins σ H s) (hv : Vals ys its) (hz : ys.length ≤ sizeLine) :
    Inv X pins σ (upd H s.heap.objs.size (.lst ys)) { s with heap := s.heap.push { cls := .type "list", data := .seq its.toArray }, toks := t' } :=
  I.laid (fun _ _ q => Heap.get?_push_of_some _ q) (Nat.le_refl _) ⟨hz, its, 0, hv, Heap.get?_push_size _ rfl⟩
theorem Inv.fresh (I : Inv X pins σ H s) : H s.heap.objs.size = none := I.hok.fresh (Nat.le_refl _)
theorem Inv.lstM (I : Inv X pins σ H s) (hH : H l = some (.lst xs)) : xs.length ≤ sizeLine ∧ ∃ (its : List Value) (n : Nat), Vals xs its ∧ xs.length = its.length ∧ s.heap.get? l = some { cls := .type "list", data := .seq its.toArray n } := by
  obtain ⟨z, its, n, r, e⟩ := I.hok l _ hH
  exact ⟨z, its, n, r, r.length, e⟩
theorem notLongL {n : Nat} (h : n ≤ sizeLine) : Builtin.List.listTooLong n = false := by
  unfold Builtin.List.listTooLong
  exact decide_eq_false (by omega)
end
section
variable {X : Cx}
noncomputable def rAppend : V → List V → Hp → VK → Prop := fun x vs H Q => ∃ l xs y, x = .ref l ∧ vs = [y] ∧ H l = some (.lst xs) ∧ xs.length < sizeLine ∧ Q .non (upd H l (.lst (xs ++ [y])))
theorem mt_append : MtM X "list.append" rAppend := by
  intro pins s σ H x vs v us Q I rx rv h
  obtain ⟨l, xs, y, rfl, rfl, hH, hz, q⟩ := h
  cases rx
  obtain ⟨u, rfl, ru⟩ := rv.one
  obtain ⟨z, its, n, r, hl, e⟩ := I.lstM hH
  refine call_meets F.slot_list_append ⟨_, e, rfl⟩ F.entry_list_append (F.args_list_append_2 _ _) (PySem.list_append l its.toArray n u (by rw [List.size_toArray]; omega)) ⟨e, ?_⟩
  refine ⟨.non, _, I.lset (its' := its ++ [u]) hH e (by simp) (r.append (.cons ru .nil)) ?_, rfl, q⟩
  rw [List.length_append, List.length_singleton]
  omega
noncomputable def rPop : V → List V → Hp → VK → Prop := fun x vs H Q => ∃ l xs y, x = .ref l ∧ vs = [] ∧ H l = some (.lst xs) ∧ xs[xs.length - 1]? = some y ∧ Q y (upd H l (.lst xs.dropLast))
theorem mt_pop : MtM X "list.pop" rPop := by
  intro pins s σ H x vs v us Q I rx rv h
  obtain ⟨l, xs, y, rfl, rfl, hH, hy, q⟩ := h
  cases rx
  have hus := rv.zero
  subst hus
  obtain ⟨z, its, n, r, hl, e⟩ := I.lstM hH
  obtain ⟨u, hu, ru⟩ := r.get hy
  have hy' : its.toArray[its.toArray.size - 1]? = some u := by
    show its.toArray[its.length - 1]? = some u
    rw [← Array.getElem?_toList, ← hl]
    exact hu
  refine call_meets F.slot_list_pop ⟨_, e, rfl⟩ F.entry_list_pop (F.args_list_pop_1 _) (MeetsSeq.list_pop_last l its.toArray n u hy' (by rw [List.size_toArray]; omega)) ⟨e, ?_⟩
  refine ⟨y, _, I.lset (its' := its.dropLast) hH e ?_ r.dropLast ?_, ru, q⟩
  · show its.toArray.eraseIdxIfInBounds (its.toArray.size - 1) = its.dropLast.toArray
    rw [List.size_toArray, List.eraseIdxIfInBounds_toArray, erase_last]
  · rw [List.length_dropLast]
    omega
noncomputable def rRep : R2 := fun x y H Q => ∃ l k xs, x = .ref l ∧ y = .int k ∧ H l = some (.lst xs) ∧ -(2 ^ 63) ≤ k ∧ k < 2 ^ 63 ∧ xs.length * k.toNat ≤ sizeLine ∧
  ∀ p, H p = none → Q (.ref p) (upd H p (.lst (List.replicate k.toNat xs).flatten))
theorem len_rep {α : Type} (xs : List α) (k : Nat) : (List.replicate k xs).flatten.length = k * xs.length := by
  induction k with
  | zero => simp
  | succ k ih => rw [List.replicate_succ, List.flatten_cons, List.length_append, ih, Nat.succ_mul, Nat.add_comm]
theorem op_rep : OpR X (binaryOp .Mult) rRep := by
  intro pins s σ H x y v u Q I rx ry h
  obtain ⟨l, k, xs, rfl, rfl, hH, h1, h2, hz, q⟩ := h
  cases rx
  obtain ⟨t, rfl⟩ := ry
  obtain ⟨z, its, n, r, hl, e⟩ := I.lstM hH
  have hlen : its.toArray.size * k.toNat ≤ sizeLine := by rw [List.size_toArray, ← hl]; exact hz
  have hcap : ¬ its.toArray.size * k.toNat > (2 ^ 63 - 1) / 8 := by
    have : (sizeLine : Nat) ≤ (2 ^ 63 - 1) / 8 := by decide
    omega
  have hfit : ¬ (!Builtin.List.listFitsIndex k) = true := by
    rw [fitsIndex_both h1 h2]
    exact Bool.false_ne_true
  have hlong : ¬ Builtin.List.listTooLong (its.toArray.size * k.toNat) = true := by
    rw [notLongL hlen]
    exact Bool.false_ne_true
  have hnew : List.foldl (fun x1 x2 => x1 ++ x2) #[] (List.replicate (if its.toArray.isEmpty = true then 0 else k.toNat) its.toArray) = (List.replicate k.toNat its).flatten.toArray := by
    have f0 : ∀ m : Nat, List.foldl (fun x1 x2 => x1 ++ x2) #[] (List.replicate m its.toArray) = (List.replicate m its).flatten.toArray := fun m => by
      have := foldl_rep its m []
      rw [List.nil_append] at this
      exact this
    rw [f0]
    cases its with
    | nil => simp
    | cons a r' => rw [if_neg (by simp)]
  refine wpAny_binaryOp_repeat_ref (T := "list") (U := "int") (by decide) ⟨_, e, rfl⟩ (fun s' => typeIs_int s' k t) noFill_list_mul F.fills_int_mul F.slot_int_rmul repeat_list F.slot_int_index.lookup
    (call_meets F.slot_int_rmul (typeIs_int s k t) F.entry_int_rmul (F.args_int_rmul_2 _ _) (int___rmul___int_list k t l its.toArray n)
      ⟨e, rfl, ⟨_, e, rfl⟩, call_meets F.slot_list_mul ⟨_, e, rfl⟩ F.entry_list_mul (F.args_list_mul_2 _ _) (AutoListH.list___mul___list_int_3 l its.toArray n k t hfit hcap hlong) ⟨e, ?_⟩⟩)
  rw [hnew]
  exact ⟨.ref _, _, I.lnew (t' := s.toks) (r.rep k.toNat) (by rw [len_rep, Nat.mul_comm]; exact hz), rfl, q _ I.fresh⟩
end
section
variable {prog : Program} {w : World} {A : Around} {E : Value → Shared → Prop} {s : Shared}
end
section
variable {X : Cx}
end
end L2
namespace Att
open PySem PySem.W PySem.Calls PyProof.Rows
theorem ints_of_wellAll {P : Params} {h : Heap} : ∀ (ns : List Int) (vs : List Value), WellAll P h vs (ns.map WData.int) → IntsAre vs ns := by
  intro ns
  induction ns with
  | nil =>
    intro vs w
    rw [List.map_nil] at w
    cases w
    exact .nil
  | cons n ns ih =>
    intro vs w
    rw [List.map_cons] at w
    cases w with
    | cons a b =>
      cases a
      exact .cons _ _ (ih _ b)
theorem script_of {l : OpenLaw} {n : Nat} (hn : l.most = some n) {P : Params} {h : Heap} {args : List WData} {vals : List Value}
    (hpre : l.row.toRowW.claim.pre args = true) (hwl : WellAll P h vals args) :
    ∃ a vs ns, vals = [Value.ref a] ∧ args = [WData.list (ns.map WData.int)] ∧ h.get? a = some { cls := .type "list", data := .seq vs.toArray } ∧ IntsAre vs ns ∧ ns.length ≤ n := by
  have hsh : WShape.hasAll [] args [.list .int] = true := (pre_splitW hpre).1
  have hc : l.pre.holds [] { args := args } = true := (pre_splitW hpre).2
  obtain ⟨d, r, rfl, h1, h2⟩ := hasAllW_cons hsh
  obtain rfl := hasAllW_nil h2
  obtain ⟨xs, rfl, h3⟩ := hasW_list h1
  obtain ⟨ns, rfl⟩ := items_int h3
  have hlen : ns.length ≤ n := by
    unfold OpenLaw.pre at hc
    have h4 : (WTm.not (.lt (.lit (.int (n : Int))) (.len (.arg 0)))).holds [] { args := [.list (ns.map .int)] } = true := by
      have h4 := (holds_andW hc).1
      rw [hn] at h4
      exact h4
    have h5 := condW_of h4 (w_not (w_lt w_lit (w_len_list (w_arg rfl))))
    rw [List.length_map] at h5
    refine Nat.le_of_not_lt fun q => ?_
    have q' : (n : Int) < ((ns.length : Nat) : Int) := by omega
    first
      | (rw [decide_eq_true q'] at h5; exact absurd h5 (by decide))
      | (simp at h5; omega)
  cases hwl with
  | cons w1 w2 =>
    cases w2
    cases w1 with
    | list ho hall => exact ⟨_, _, ns, rfl, rfl, ho, ints_of_wellAll ns _ hall, hlen⟩
theorem post_true (l : OpenLaw) (args : List WData) : l.row.toRowW.claim.post args (.bool true) args = true :=
  postW_of (r := l.row.toRowW) (X := (true == true))
    (show WShape.has [] (.bool true) .bool = true by first | rfl | decide | simp [WShape.has, WShape.arms, WShape.armsAll])
    (show (WTm.eq .res (.lit (.bool true))).value [] { args := args, res := some (.bool true), after := args } = some (.bool (true == true)) from w_eq_bool (w_res rfl) w_lit) rfl
theorem attach_call {l : OpenLaw} {n : Nat} {q : Program} {loose : List Str} {XP : (Str → Option Value) → Heap → Prop} {YP : World → Heap → Prop} {d : DefRec}
    (hn : l.most = some n) (hdf : d.params.defaults = [])
    (call : ∀ (w : World) (s₀ s₁ : Shared) (mg mb : Str → Option Value) (fa : Addr) (o : Obj) (pm cd doc : Value) (a : Addr) (vs : List Value) (ns : List Int),
      Ground q loose [] XP w s₀ mg mb s₁.heap → YP w s₁.heap →
      s₁.heap.get? fa = some o → o.data = .func (docDef d.name d.params d.body d.scope pm cd doc) → s₁.heap.CodeRec cd d.name → mg d.name = some (.ref fa) →
      s₁.heap.get? a = some { cls := .type "list", data := .seq vs.toArray } → IntsAre vs ns → ns.length ≤ n → s₁.gens = #[] →
      codeAny (model l.prog w) callerA (.call (.ref fa) ⟨[.ref a], []⟩) (fun r s' => r = .ok (.ret (.bool true)) ∧ OldK s₁.heap s'.heap ∧ s'.os = s₁.os ∧ AllBare s'.gens) s₁) :
    WalkO q loose XP YP l.row.toRowW d [] (fun f vs => PySem.call f vs) := by
  intro w s₀ s₁ mg mb G Y fa o pm cd doc dV kV ho hd hcd hD hmg hg args vals as hpre hlay hrd hwl hlo
  obtain rfl : dV = .none := Dflts.none hD hdf
  obtain rfl : kV = .none := Dflts.noKw hD
  obtain ⟨a, vs, ns, rfl, rfl, hobj, hints, hlen⟩ := script_of hn hpre hwl
  refine enter_call (codeAny_mono (call w s₀ s₁ mg mb fa o pm cd doc a vs ns G Y ho (fd_plain hd) hcd hmg hobj hints hlen hg) fun r s' hq => ?_)
  obtain ⟨rfl, h2, h3, h4⟩ := hq
  exact ⟨.inl ⟨.bool true, .bool true, [], rfl, fun _ => rfl, .bool true, post_true l _, fun _ => ⟨List.Pairwise.nil, fun _ hm => (nomatch hm)⟩⟩, h2, h3, h4⟩
section
variable {prog : Program} {w : World} {A : Around} {E : Value → Shared → Prop} {s : Shared} {K : Frag}
end
end Att
namespace L2
open PySem PySem.Spec PyProof.Rows
theorem vals_ints : ∀ {vs : List Value} {ns : List Int}, IntsAre vs ns → Vals (ns.map V.int) vs
  | _, _, .nil => .nil
  | _, _, .cons n t h => .cons ⟨t, rfl⟩ (vals_ints h)
noncomputable def Only (H : Hp) : Prop := ∀ b, H b = none ∨ ∃ o xs, H b = some (.frz o (.lst xs))
theorem law_call {P : Program} {w : World} {K : PySem.W.Frag} {mg mb : Str → Option Value} {CX : CXT} {k : Nat} {fa a : Addr} {fd : FuncData} {x : Str} {sp : Sp} {s₁ : Shared} {vs : List Value} {ns : List Int}
    (KX : K.In s₁.heap) (hns : s₁.heap.Ns mainGlobals mg) (hb : s₁.heap.Ns builtinsNs mb) (hbb : ∀ x : Str, x ≠ "__name__" → mb x = bootBuiltins x) (hlim : s₁.heap.NoLimit) (hg : s₁.gens = #[])
    (ha : s₁.heap.get? a = some { cls := .type "list", data := .seq vs.toArray }) (hi : IntsAre vs ns) (hl : ns.length ≤ sizeLine) (hr : Room k callerA)
    (F : ∀ base : Heap, K.In base → base.Ns mainGlobals mg → FnOk P w K mg base CX k fa fd [x] sp) (hbind : ∀ (s : Shared) (u : Value), BindsTo s fd ⟨[u], []⟩ [(x, u)])
    (hsp : ∀ H : Hp, Only H → SqL K H a (ns.map V.int) → sp [.ref a] H (fun v _ => v = .bl true) fun _ _ _ => False)
    (hCX : ∀ H e s', CX [] H s₁ (fun _ _ _ => False) e s' → False) :
    codeAny (model P w) callerA (.call (.ref fa) ⟨[.ref a], []⟩) (fun r s' => r = .ok (.ret (.bool true)) ∧ OldK s₁.heap s'.heap ∧ s'.os = s₁.os ∧ AllBare s'.gens) s₁ := by
  have rv := vals_ints hi
  have lenV := hi.length
  have core : ∀ H : Hp, Only H → SqL K H a (ns.map V.int) → HOk P w H s₁.heap → (∀ b, H b ≠ none → b = a) → (H a ≠ none → K.lookup a = none) →
      codeAny (model P w) callerA (.call (.ref fa) ⟨[.ref a], []⟩) (fun r s' => r = .ok (.ret (.bool true)) ∧ OldK s₁.heap s'.heap ∧ s'.os = s₁.os ∧ AllBare s'.gens) s₁ := by
    intro H hO hS hok hA hK
    have base_of : ∀ {b : Addr} {o : Obj}, s₁.heap.get? b = some o → H b = none → (hidT s₁.heap H).get? b = some o := fun e n => hidT_get e n
    have noA : ∀ {b : Addr} {o : Obj} {es : Array DictEntry} {ep : Nat}, s₁.heap.get? b = some o → o.data = .dict es ep → H b = none := fun {b o es ep} e d => by
      cases q : H b with
      | none => rfl
      | some u =>
        have e' : b = a := hA b (by rw [q]; simp)
        subst e'
        rw [ha] at e; cases e
        have d' : Data.seq vs.toArray _ = Data.dict es ep := d
        cases d'
    have nsK : ∀ {b : Addr} {m : Str → Option Value}, s₁.heap.Ns b m → (hidT s₁.heap H).Ns b m := fun {b m} ⟨o, es, ep, e, d, r⟩ => ⟨o, es, ep, base_of e (noA e d), d, r⟩
    have hKb : K.In (hidT s₁.heap H) := fun b o e => base_of (KX b o e) (by
      cases q : H b with
      | none => rfl
      | some u =>
        have e' : b = a := hA b (by rw [q]; simp)
        subst e'
        rw [hK (by rw [q]; simp)] at e; cases e)
    have hM : Mod K mg (hidT s₁.heap H) := ⟨hKb, nsK hns, ⟨mb, nsK hb, hbb⟩, let ⟨mc, h1, h2⟩ := hlim; ⟨mc, nsK h1, h2⟩⟩
    have e0 : Env0 P w K mg (hidT s₁.heap H) callerA [] s₁ H := ⟨rfl, hM, fun b o e => of_hidT e, Nat.le_of_eq (hidT_size _ _), trivial, fun b hb => absurd (show b ∈ ([] : List Addr) from hb) (by simp), hok, .of_eq hg⟩
    refine codeAny_mono ((F _ hKb (nsK hns)).run callerA [] s₁ H ⟨[.ref a], []⟩ [.ref a] [.ref a] _ _ hr e0 (hbind s₁ (.ref a)) (.cons rfl .nil) (hsp H hO hS)) fun r s' h => ?_
    cases r with
    | error e => exact (hCX H e s' h).elim
    | ok fl =>
      cases fl with
      | next => exact False.elim h
      | brk => exact False.elim h
      | cont => exact False.elim h
      | ret u =>
        obtain ⟨v, H', os, bare, un, hok', r', q⟩ := h
        have q' : v = .bl true := q
        subst q'
        obtain rfl : u = Value.bool true := r'
        refine ⟨rfl, OldK.of_keep fun b o e => ?_, os, bare⟩
        cases q : H b with
        | none => exact un.keep b o e q (by intro z; exact absurd (show b ∈ ([] : List Addr) from z) (by simp)) (by simp)
        | some u =>
          rcases hO b with z | ⟨ob, xs, z⟩
          · rw [q] at z; cases z
          · have z2 := un.frzs b ob _ z
            obtain ⟨e1, _⟩ := hok b _ z
            obtain ⟨e2, _⟩ := hok' b _ z2
            rw [e] at e1; cases e1
            exact e2
  cases hk : K.lookup a with
  | some o =>
    have e := KX a o hk
    rw [ha] at e
    cases e
    refine core (fun _ => none) (fun _ => .inl rfl) (.inr ⟨_, vs.toArray, _, hk, rfl, rfl, rfl, by rw [List.size_toArray, lenV]; exact hl, by simpa using rv⟩) (fun b u z => by have z' : (none : Option HO) = some u := z; cases z') (fun b z => absurd rfl z) fun z => absurd rfl z
  | none =>
    refine core (fun b => if b = a then some (.frz { cls := .type "list", data := .seq vs.toArray } (.lst (ns.map V.int))) else none) (fun b => ?_) (.inl (.inr ⟨{ cls := .type "list", data := .seq vs.toArray }, if_pos rfl⟩)) (fun b u z => ?_) (fun b z => ?_) fun _ => hk
    · by_cases hb : b = a
      · exact .inr ⟨_, _, if_pos hb⟩
      · exact .inl (if_neg hb)
    · by_cases hb : b = a
      · have z' := (if_pos hb).symm.trans z
        cases z'
        subst hb
        exact ⟨ha, by rw [List.length_map]; exact hl, vs, _, rv, ha⟩
      · have z' := (if_neg hb).symm.trans z
        cases z'
    · by_cases hb : b = a
      · exact hb
      · exact absurd (if_neg hb) z
end L2
namespace L2
open PySem PySem.Spec PyProof.Rows
theorem walk_of {l : PySem.W.OpenLaw} {n k : Nat} {q : Program} {loose : List Str} {XP : (Str → Option Value) → Heap → Prop} {YP : World → Heap → Prop} {d : DefRec} {K : Params → PySem.W.Frag} {CX : World → CXT} {sp : World → Sp} {x : Str}
    (hn : l.most = some n) (hn2 : n ≤ sizeLine) (hdf : d.params.defaults = []) (hr : Room k callerA)
    (hY : ∀ (w : World) (h : Heap), YP w h → (K w.params).In h)
    (F : ∀ (w : World) (mg : Str → Option Value) (fa : Addr) (h : Heap), (K w.params).In h → h.Ns mainGlobals mg → mg d.name = some (.ref fa) →
      ∃ fd : FuncData, (∀ (s : Shared) (u : Value), BindsTo s fd ⟨[u], []⟩ [(x, u)]) ∧
        ∀ base : Heap, (K w.params).In base → base.Ns mainGlobals mg → FnOk l.prog w (K w.params) mg base (CX w) k fa fd [x] (sp w))
    (hsp : ∀ (w : World) (H : Hp) (a : Addr) (ns : List Int), ns.length ≤ n → Only H → SqL (K w.params) H a (ns.map V.int) → sp w [.ref a] H (fun v _ => v = .bl true) fun _ _ _ => False)
    (hCX : ∀ (w : World) (H : Hp) (s : Shared) (e : Value) (s' : Shared), CX w [] H s (fun _ _ _ => False) e s' → False) :
    PySem.W.WalkO q loose XP YP l.row.toRowW d [] (fun f vs => PySem.call f vs) := by
  refine Att.attach_call hn hdf fun w s₀ s₁ mg mb fa o pm cd doc a vs ns G Y ho hd hcd hmg hobj hints hlen hg => ?_
  have KX := hY w _ Y
  obtain ⟨fd, hb, hF⟩ := F w mg fa _ KX G.T.g hmg
  exact law_call KX G.T.g G.T.b G.T.builtins G.T.nolimit hg hobj hints (Nat.le_trans hlen hn2) hr hF hb (fun H hO hS => hsp w H a ns hlen hO hS) fun H e s' => hCX w H s₁ e s'
end L2
namespace L2
open PySem PySem.Spec PyProof.Rows
noncomputable def defArgs (s : Stmt) : Arguments := match s with
  | .FunctionDef _ a _ _ _ _ _ _ _ _ => a
  | _ => { posonlyargs := [], args := [], vararg := none, kwonlyargs := [], kw_defaults := [], kwarg := none, defaults := [] }
noncomputable def defBody (s : Stmt) : List Stmt := match s with
  | .FunctionDef _ _ b _ _ _ _ _ _ _ => b
  | _ => []
noncomputable def defScope (s : Stmt) : Scope := match s with
  | .FunctionDef _ _ _ _ _ _ sc _ _ _ => sc
  | _ => { kind := .function, names := [], isGenerator := false, isCoroutine := false }
noncomputable abbrev CX0 : CXT := fun _ _ _ _ _ _ => False
noncomputable abbrev E0 : XK := fun _ _ _ => False
structure Fun (K : PySem.W.Frag) (x qual : Str) (st : Stmt) (f : Addr) (fd : FuncData) : Prop where
  ex : ∃ (oc : Value) (od : Option Addr) (kV doc pm : Value) (an : Option Addr) (cdv ct : Value) (osl : Array (Option Value)),
    fd = PySem.W.fnOf x qual (defArgs st) (defBody st) (defScope st) .none kV doc pm an cdv ct ∧ K.lookup f = some ⟨oc, od, .func fd, osl⟩ ∧ PySem.W.codeIn K cdv qual = true
  kp : PySem.W.keepIn K (.ref f) = true
section
variable {P : Program} {w : World} {K : PySem.W.Frag} {mg : Str → Option Value} {base : Heap}
theorem Fun.ok {x qual : Str} {st : Stmt} {f : Addr} {fd : FuncData} {N ps : List Str} {k : Nat} {sp : Sp} (F : Fun K x qual st f fd) (S : FnScope N ps (defScope st)) (len : ∀ vs H Q E, sp vs H Q E → vs.length = ps.length)
    (hbody : ∀ (cdv : Value) (A : Around) (outer : List Env) (s : Shared) (H : Hp) (vs : List V) (Q : VK) (E : XK), Room k (A.deeper (envOfC qual (defScope st) s.heap.objs.size f cdv)) → sp vs H Q E →
      ∃ t, PSs (cxOf CX0 P w K mg base N qual (defScope st) f cdv A outer s H E).nox (defBody st) t ∧ t { nx := fun _ H' => Q .non H', rt := Q } (start N vs) H) : FnOk P w K mg base CX0 (k + 1) f fd ps sp := by
  obtain ⟨oc, od, kV, doc, pm, an, cdv, ct, osl, rfl, lk, hcd⟩ := F.ex
  refine fn_of lk hcd S len fun A outer s H vs Q E hr hsp => ?_
  obtain ⟨t, h, q⟩ := hbody cdv A outer s H vs Q E hr hsp
  exact ⟨t, h.nox, q⟩
theorem Fun.binds {x qual : Str} {st : Stmt} {f : Addr} {fd : FuncData} {ps : List Str} (F : Fun K x qual st f fd)
    (h : ∀ (kV doc pm : Value) (an : Option Addr) (cdv ct : Value) (us : List Value), us.length = ps.length → bindArgs (PySem.W.fnOf x qual (defArgs st) (defBody st) (defScope st) .none kV doc pm an cdv ct) ⟨us, []⟩ = pure (ps.zip us)) : Binds K fd ps [] := by
  obtain ⟨oc, od, kV, doc, pm, an, cdv, ct, osl, rfl, lk, hcd⟩ := F.ex
  exact .all (h kV doc pm an cdv ct)
theorem fun_mk {x qual : Str} {st : Stmt} {f : Addr} {oc : Value} {od an : Option Addr} {osl : Array (Option Value)} {kV doc pm cdv ct : Value} (l : K.lookup f = some ⟨oc, od, .func (PySem.W.fnOf x qual (defArgs st) (defBody st) (defScope st) .none kV doc pm an cdv ct), osl⟩)
    (c : PySem.W.codeIn K cdv qual = true) (k : PySem.W.keepIn K (.ref f) = true) : Fun K x qual st f (PySem.W.fnOf x qual (defArgs st) (defBody st) (defScope st) .none kV doc pm an cdv ct) := ⟨⟨oc, od, kV, doc, pm, an, cdv, ct, osl, rfl, l, c⟩, k⟩
end
section
variable {X : Cx}
end
theorem iteF {A B : Prop} (h : B) : if false = true then A else B := by
  rw [if_neg Bool.false_ne_true]
  exact h
theorem iteT {A B : Prop} (h : A) : if true = true then A else B := by
  rw [if_pos rfl]
  exact h
noncomputable def Same (H H' : Hp) : Prop := ∀ b o, H b = some o → H' b = some o
theorem Same.refl (H : Hp) : Same H H := fun _ _ h => h
theorem Same.trans {H H1 H2 : Hp} (a : Same H H1) (b : Same H1 H2) : Same H H2 := fun c o h => b c o (a c o h)
end L2
set_option maxHeartbeats 4000000
namespace L2
open PySem PySem.Spec PyProof.Rows
theorem ffk : (NameKind.free == NameKind.free) = true := by decide
noncomputable def clOf (cells : List (Str × Addr)) : List (Str × NameKind) → List (Str × Addr) → List (Str × Addr)
  | [], acc => acc
  | (n, k) :: r, acc => clOf cells r (if k == .free then (n, (cells.lookup n).getD 0) :: acc else acc)
theorem clo_eq {env : Env} : ∀ (ns : List (Str × NameKind)) (acc : List (Str × Addr)), (∀ p ∈ ns, p.2 = .free → ∃ c, env.cells.lookup p.1 = some c) →
    (forIn ns acc fun p cs => (if p.2 == NameKind.free then (do let a ← cellOf env p.1; pure (ForInStep.yield ((p.1, a) :: cs))) else pure (ForInStep.yield cs) : Sem (ForInStep (List (Str × Addr))))) = pure (clOf env.cells ns acc)
  | [], acc, _ => by rw [List.forIn_nil]; rfl
  | (n, k) :: r, acc, h => by
    rw [List.forIn_cons]
    by_cases hk : k = .free
    · subst hk
      obtain ⟨c, hc⟩ := h (n, .free) List.mem_cons_self rfl
      have e1 : cellOf env n = pure c := by unfold cellOf; rw [hc]
      show (do let a ← cellOf env n; pure (ForInStep.yield ((n, a) :: acc)) : Sem _) >>= _ = _
      rw [e1]
      show (forIn r ((n, c) :: acc) _ : Sem _) = _
      rw [clo_eq r _ fun p hp => h p (List.mem_cons_of_mem _ hp)]
      show _ = pure (clOf env.cells r (if NameKind.free == NameKind.free then _ else _))
      have hc' : env.cells.lookup n = some c := hc
      rw [if_pos ffk, hc']
      rfl
    · have e2 : (k == NameKind.free) = false := by simpa using hk
      show (if (k == NameKind.free) = true then _ else _ : Sem _) >>= _ = _
      rw [if_neg (by rw [e2]; decide)]
      show (forIn r acc _ : Sem _) = _
      rw [clo_eq r _ fun p hp => h p (List.mem_cons_of_mem _ hp)]
      show _ = pure (clOf env.cells r (if (k == NameKind.free) = true then _ else _))
      rw [if_neg (by rw [e2]; decide)]
theorem closure_eq {scope : Scope} {env : Env} (h : ∀ p ∈ scope.names, p.2 = .free → ∃ c, env.cells.lookup p.1 = some c) : closureFor scope env = pure (clOf env.cells scope.names []) := by
  unfold closureFor
  have e := clo_eq (env := env) scope.names [] h
  show (forIn scope.names ([] : List (Str × Addr)) _ >>= fun r => pure r : Sem _) = _
  have e' : (forIn scope.names ([] : List (Str × Addr)) fun (p : Str × NameKind) (cs : List (Str × Addr)) => (if p.2 == NameKind.free then (do let a ← cellOf env p.1; pure (ForInStep.yield ((p.1, a) :: cs))) else pure (ForInStep.yield cs) : Sem (ForInStep (List (Str × Addr))))) >>= (fun r => (pure r : Sem _)) = pure (clOf env.cells scope.names []) := by rw [e]; rfl
  exact e'
theorem clOf_mem {cells : List (Str × Addr)} {x : Str} {c : Addr} : ∀ (ns : List (Str × NameKind)) (acc : List (Str × Addr)), (clOf cells ns acc).lookup x = some c → acc.lookup x = some c ∨ ((x, NameKind.free) ∈ ns ∧ c = (cells.lookup x).getD 0)
  | [], acc, h => .inl h
  | (n, k) :: r, acc, h => by
    rcases clOf_mem r _ h with e | ⟨e1, e2⟩
    · by_cases hk : k = .free
      · subst hk
        rw [if_pos ffk, List.lookup_cons] at e
        cases hx : x == n with
        | true =>
          rw [hx] at e
          have : x = n := by simpa using hx
          subst this
          exact .inr ⟨List.mem_cons_self, (Option.some.inj e).symm⟩
        | false => rw [hx] at e; exact .inl e
      · rw [if_neg (by simpa using hk)] at e
        exact .inl e
    · exact .inr ⟨List.mem_cons_of_mem _ e1, e2⟩
theorem clOf_acc {cells : List (Str × Addr)} {x : Str} : ∀ (ns : List (Str × NameKind)) (acc : List (Str × Addr)), acc.lookup x = some ((cells.lookup x).getD 0) → (clOf cells ns acc).lookup x = some ((cells.lookup x).getD 0)
  | [], acc, h => h
  | (n, k) :: r, acc, h => by
    refine clOf_acc r _ ?_
    by_cases hk : k = .free
    · subst hk
      rw [if_pos ffk, List.lookup_cons]
      cases hx : x == n with
      | true =>
        have : x = n := by simpa using hx
        subst this
        rfl
      | false => exact h
    · rw [if_neg (by simpa using hk)]; exact h
theorem clOf_has {cells : List (Str × Addr)} {x : Str} : ∀ (ns : List (Str × NameKind)) (acc : List (Str × Addr)), (x, NameKind.free) ∈ ns → (clOf cells ns acc).lookup x = some ((cells.lookup x).getD 0)
  | [], acc, h => by cases h
  | (n, k) :: r, acc, h => by
    rcases List.mem_cons.mp h with e | e
    · cases e
      refine clOf_acc r _ ?_
      rw [if_pos ffk, List.lookup_cons]
      simp
    · exact clOf_has r _ e
noncomputable def compCx (X : Cx) (scope : Scope) (N : List Str) (C : Addr) (s0 : Shared) (H0 : Hp) (ex : List Addr) : Cx where
  prog := X.prog
  w := X.w
  K := X.K
  mg := X.mg
  base := X.base
  A := X.A
  N := N
  s₀ := s0
  H₀ := H0
  env := compEnvC scope (clOf X.env.cells scope.names []) C X.env
  outer := X.stack
  stack := X.stack
  ex := ex
  fn := fun _ => false
  calm := X.calm
  pn := []
  xe := fun _ _ => False
noncomputable def capsOk (N : List Str) (out : List (Str × NameKind)) (inn : List (Str × NameKind)) (caps : List (Str × Nat)) : Bool :=
  inn.all (fun p => p.2 != .cell) && inn.all (fun p => p.2 != .local || inn.lookup p.1 == some .local) &&
  inn.all (fun p => p.2 != .free || (out.lookup p.1 == some .cell || out.lookup p.1 == some .free)) &&
  caps.all (fun p => N[p.2]? == some p.1 && inn.lookup p.1 == some .free)
structure CapsOk (X : Cx) (scope : Scope) (caps : List (Str × Nat)) : Prop where
  kind : scope.kind = .function
  nocell : ∀ x ∈ scope.names, x.2 ≠ .cell
  loc : ∀ x ∈ scope.names, x.2 = .local → scope.names.lookup x.1 = some .local
  fre : ∀ p ∈ scope.names, p.2 = .free → X.env.kindOf p.1 = some .cell ∨ X.env.kindOf p.1 = some .free
  cap : ∀ p ∈ caps, X.N[p.2]? = some p.1 ∧ scope.names.lookup p.1 = some .free
theorem caps_of {X : Cx} {scope osc : Scope} {N : List Str} {caps : List (Str × Nat)} (hN : X.N = N) (ho : X.env.scope = osc) (hk : scope.kind = .function) (h : capsOk N osc.names scope.names caps = true) : CapsOk X scope caps := by
  unfold capsOk at h
  simp only [Bool.and_eq_true, List.all_eq_true] at h
  obtain ⟨⟨⟨h1, h2⟩, h3⟩, h4⟩ := h
  refine ⟨hk, fun x hx => by simpa using h1 x hx, fun x hx hl => ?_, fun p hp hf => ?_, fun p hp => ?_⟩
  · have := h2 x hx
    rw [hl] at this
    simpa using this
  · have := h3 p hp
    rw [hf] at this
    show X.env.scope.names.lookup p.1 = _ ∨ X.env.scope.names.lookup p.1 = _
    rw [ho]
    simpa using this
  · have := h4 p hp
    rw [hN]
    simpa using this
noncomputable def innerSt (own : Nat) (caps : List (Str × Nat)) (σ : St) : St := List.replicate own none ++ caps.map fun p => (σ[p.2]?).join
noncomputable def tComp (own : Nat) (caps : List (Str × Nat)) (wi : TI) (g : TG) (tc : TT) (te : TE) : TE := fun σ H Q => wi σ H fun J H1 => ∀ D, H1 D = none →
  ∃ W : Nat → Nat → St → Hp → Prop, (∃ m, W 0 m (innerSt own caps σ) (upd H1 D (.lst []))) ∧ ∀ i m σ' H', W i m σ' H' →
    (J.stop i H' ∧ Q (.ref D) H') ∨ (J.go i H' ∧ ∃ N : St → Hp → Prop, (∀ σ2 H2, N σ2 H2 → ∃ m', m' < m ∧ W (i + 1) m' σ2 H2) ∧
      ∀ x H2, J.yld i H' x H2 → g x σ' H2 fun σ3 H3 => tc σ3 H3 fun b H4 => if b = true then te σ3 H4 fun v H5 => ∃ ys, H5 D = some (.lst ys) ∧ ys.length < sizeLine ∧ N σ3 (upd H5 D (.lst (ys ++ [v]))) else N σ3 H4)
theorem relabel_kind {scope : Scope} {env : Env} {x : Str} {k : NameKind} : ∀ {ns : List (Str × NameKind)}, (ns.map fun (n, k) => if (k == NameKind.free && env.scope.kind == .function && env.kindOf n == some .cell) then (n, NameKind.cell) else (n, k)).lookup x = some k →
    ∃ k', ns.lookup x = some k' ∧ (k = k' ∨ (k' = .free ∧ k = .cell))
  | [], h => by simp at h
  | (n, k0) :: r, h => by
    rw [List.map_cons] at h
    by_cases hc : (k0 == NameKind.free && env.scope.kind == .function && env.kindOf n == some .cell) = true
    · simp only [if_pos hc, List.lookup_cons] at h
      cases hx : x == n with
      | true =>
        rw [hx] at h
        refine ⟨k0, by simp [List.lookup_cons, hx], .inr ⟨?_, (Option.some.inj h).symm⟩⟩
        simp only [Bool.and_eq_true] at hc
        simpa using hc.1.1
      | false =>
        rw [hx] at h
        obtain ⟨k', e, q⟩ := relabel_kind (scope := scope) h
        exact ⟨k', by simp only [List.lookup_cons, hx]; exact e, q⟩
    · simp only [if_neg hc, List.lookup_cons] at h
      cases hx : x == n with
      | true =>
        rw [hx] at h
        exact ⟨k0, by simp [List.lookup_cons, hx], .inl (Option.some.inj h).symm⟩
      | false =>
        rw [hx] at h
        obtain ⟨k', e, q⟩ := relabel_kind (scope := scope) h
        exact ⟨k', by simp only [List.lookup_cons, hx]; exact e, q⟩
theorem relabel_free {env : Env} {x : Str} : ∀ {ns : List (Str × NameKind)}, ns.lookup x = some .free →
    (ns.map fun (n, k) => if (k == NameKind.free && env.scope.kind == .function && env.kindOf n == some .cell) then (n, NameKind.cell) else (n, k)).lookup x = some .cell ∨
    (ns.map fun (n, k) => if (k == NameKind.free && env.scope.kind == .function && env.kindOf n == some .cell) then (n, NameKind.cell) else (n, k)).lookup x = some .free
  | [], h => by simp at h
  | (n, k0) :: r, h => by
    rw [List.map_cons]
    simp only [List.lookup_cons] at h
    by_cases hc : (k0 == NameKind.free && env.scope.kind == .function && env.kindOf n == some .cell) = true
    · simp only [if_pos hc, List.lookup_cons]
      cases hx : x == n with
      | true => exact .inl rfl
      | false => rw [hx] at h; exact relabel_free h
    · simp only [if_neg hc, List.lookup_cons]
      cases hx : x == n with
      | true => rw [hx] at h; exact .inr h
      | false => rw [hx] at h; exact relabel_free h
theorem inner_get {own : Nat} {caps : List (Str × Nat)} {σ : St} {i : Nat} {v : V} (h : (innerSt own caps σ)[i]? = some (some v)) : ∃ p, caps[i - own]? = some p ∧ own ≤ i ∧ σ[p.2]? = some (some v) := by
  unfold innerSt at h
  by_cases hi : i < own
  · rw [List.getElem?_append_left (by simpa using hi), List.getElem?_replicate, if_pos hi] at h
    cases h
  · rw [List.getElem?_append_right (by simpa using hi), List.length_replicate, List.getElem?_map] at h
    cases e : caps[i - own]? with
    | none => rw [e] at h; cases h
    | some p =>
      rw [e] at h
      refine ⟨p, rfl, by omega, ?_⟩
      have h' : (σ[p.2]?).join = some v := Option.some.inj h
      cases q : σ[p.2]? with
      | none => rw [q] at h'; cases h'
      | some o => rw [q] at h'; exact congrArg some h'
section
variable {X : Cx} {pins : List (Addr × Obj)} {σ : St} {H : Hp} {s : Shared}
theorem inv_comp {scope : Scope} {own : List Str} {caps : List (Str × Nat)} {h' : Heap} {t' : Nat} {fp : List Addr} (I : Inv X pins σ H s) (ck : CapsOk X scope caps)
    (hf : ∀ b ∈ fp, FpOk X pins H b) (hb : ∀ b ∈ fp, b < s.heap.objs.size) (ns : h'.Ns s.heap.objs.size fun x => ([] : List (Str × Value)).reverse.lookup x)
    (sb : Heap.SameBut s.heap.objs.size (s.heap.push { cls := .type "dict", data := .dict #[] }) h') :
    Inv (compCx X scope (own ++ caps.map (·.1)) s.heap.objs.size s H fp) [] (innerSt own.length caps σ) H { s with heap := h', toks := t' } := by
  have up : ∀ b o, s.heap.get? b = some o → h'.get? b = some o := fun b o e => sb.extBut b o (Nat.ne_of_lt (Heap.lt_size e)) (Heap.get?_push_of_some _ e)
  have stk : ∀ b ∈ fp, b ∉ frs X.stack := fun b hb' z => by
    obtain ⟨_, f1, f2, _⟩ := hf b hb'
    rcases List.mem_cons.mp (I.stkSub b z) with q | q
    · exact f1 q
    · exact f2 q
  have clc : ∀ x c, (clOf X.env.cells scope.names []).lookup x = some c → X.env.cells.lookup x = some c := fun x c h => by
    rcases clOf_mem _ _ h with e | ⟨e1, e2⟩
    · cases e
    · obtain ⟨c', hc'⟩ := I.ok.has x (ck.fre _ e1 rfl)
      rw [hc'] at e2 ⊢
      exact congrArg some e2.symm
  have cell : ∀ x c, (clOf X.env.cells scope.names []).lookup x = some c → ∃ v, s.heap.IsCell c v := fun x c h => I.cell x c (clc x c h)
  have okk : (compCx X scope (own ++ caps.map (·.1)) s.heap.objs.size s H fp).Ok := by
    refine ⟨I.ok.mod, ck.kind, I.ok.glob, I.ok.blt, Nat.le_refl _, fun x y c h1 h2 => I.ok.inj x y c (clc x c h1) (clc y c h2), fun x hx => ?_, fun x c hfn => ?_, I.ok.hd, I.ok.frames, .inl rfl, fun b z => ⟨?_, fun x c h => ?_⟩, I.bs,
      Nat.le_trans I.ok.bsz I.sz, fun b o e z => ?_, stk, I.stack, I.stkFree⟩
    · have hx' : ∃ k, (scope.names.map fun (n, k) => if (k == NameKind.free && X.env.scope.kind == .function && X.env.kindOf n == some .cell) then (n, NameKind.cell) else (n, k)).lookup x = some k ∧ (k = .cell ∨ k = .free) := by
        rcases hx with q | q
        · exact ⟨_, q, .inl rfl⟩
        · exact ⟨_, q, .inr rfl⟩
      obtain ⟨k, q, hk⟩ := hx'
      obtain ⟨k', e, r⟩ := relabel_kind (scope := scope) q
      have m := PySem.mem_of_lookup e
      have hfree : k' = .free := by
        rcases r with r | r
        · rcases hk with hk | hk
          · exact absurd (r.symm.trans hk) (ck.nocell _ m)
          · exact r.symm.trans hk
        · exact r.1
      subst hfree
      exact ⟨_, clOf_has _ _ m⟩
    · cases hfn
    · exact Nat.ne_of_lt (hb b z)
    · exact (hf b z).2.2.2.2.1 x c (clc x c h)
    · rcases (hf b z).2.2.2.1 with q | q
      · exact I.ok.noex b o e q
      · exact absurd (Nat.lt_of_lt_of_le (Heap.lt_size e) (Nat.le_trans I.ok.bsz q)) (Nat.lt_irrefl _)
  refine ⟨okk, rfl, I.bare, Un.kept up, ⟨_, ns, fun i x v h1 h2 h3 => ?_⟩, fun x c h => ?_, I.hok.fresh (Nat.le_refl _), fun x c h => I.freeC x c (clc x c h), fun p hp => absurd (show p ∈ ([] : List (Addr × Obj)) from hp) (by simp), I.hok.kept up, ?_⟩
  · obtain ⟨p, hp, hi, hv⟩ := inner_get h2
    have hx : p.1 = x := by
      have h1' : (own ++ caps.map (·.1))[i]? = some x := h1
      rw [List.getElem?_append_right hi, List.getElem?_map, hp] at h1'
      exact Option.some.inj h1'
    subst hx
    obtain ⟨cN, cf⟩ := ck.cap p (List.mem_of_getElem? hp)
    have mem := PySem.mem_of_lookup cf
    obtain ⟨m, hn, hl⟩ := I.loc
    have kf := ck.fre _ mem rfl
    obtain ⟨u, r, l⟩ := hl p.2 p.1 v cN hv (by rcases kf with q | q; exact .inr (.inl q); exact .inr (.inr q))
    refine ⟨u, r, .inr ?_⟩
    rcases l with ⟨k, _⟩ | ⟨k, c, e, z⟩
    · rcases kf with q | q <;> (rw [q] at k; cases k)
    · refine ⟨relabel_free cf, c, ?_, z.keeps up⟩
      show (clOf X.env.cells scope.names []).lookup p.1 = some c
      rw [clOf_has _ _ mem, e]
      rfl
  · obtain ⟨v, z⟩ := cell x c h
    exact ⟨v, z.keeps up⟩
  · show (innerSt own.length caps σ).length = (own ++ caps.map (·.1)).length
    simp [innerSt]
end
end L2
namespace L2
open PySem PySem.Spec PyProof.Rows
noncomputable abbrev NoX : Value → Shared → Prop := fun _ _ => False
theorem noX_mono {α : Type} {M : Model} {A : Around} {t : Sem α} {Q : α → Shared → Prop} {E : Value → Shared → Prop} {s : Shared} (h : wpAny M A t Q NoX s) : wpAny M A t Q E s := wpAny_mono h (fun _ _ q => q) fun _ _ q => q.elim
noncomputable abbrev testsOf (ifs : List Expr) (env : Env) : Sem Bool := forIn ifs true fun c r => if r = true then do let ok ← isTrue c env (eval c env); pure (ForInStep.yield ok) else pure (ForInStep.yield r)
section
variable {prog : Program} {w : World} {A : Around} {R : Result → Shared → Prop} {s : Shared}
theorem compLoop_any {elt target iter : Expr} {ifs : List Expr} {scope : Scope} {pos : Pos} {it acc : Value} {env : Env} (J : Nat → Shared → Prop)
    (turn : ∀ n s, J n s → wpAny (model prog w) A (pyNext it) (fun r s1 => match r with
      | none => R (.ok .next) s1
      | some v => wpAny (model prog w) A (letOwnedTupleGo target it v) (fun _ s2 => wpAny (model prog w) A (assign target env v) (fun _ s3 => wpAny (model prog w) A (testsOf ifs env) (fun ok s4 =>
          if ok = true then wpAny (model prog w) A (eval elt env) (fun x s5 => wpAny (model prog w) A (call (.builtin "list.append") [acc, x]) (fun _ s6 => ∃ m, m < n ∧ J m s6) NoX s5) NoX s4
          else ∃ m, m < n ∧ J m s4) NoX s3) NoX s2) NoX s1) NoX s)
    (n : Nat) (h : J n s) : codeAny (model prog w) A (.compLoop (.ListComp elt [⟨target, iter, ifs, 0⟩] scope pos) 0 it acc env) R s := by
  refine codeAny_loop rfl J (fun n s hJ => ?_) n h
  show wpAny _ A ((compTurn (.ListComp elt [⟨target, iter, ifs, 0⟩] scope pos) 0 it acc env).onRaise (fun x => do noteFrame x env; theTreesLotGoes x)) _ _ s
  refine wpAny_noted (noX_mono ?_)
  rw [compTurn_list]
  refine wpAny_bind (wpAny_standAt (wpAny_bind (thn (turn n s hJ) fun r s1 h1 => ?_)))
  cases r with
  | none => exact wpAny_pure h1
  | some v =>
    refine wpAny_bind (thn h1 fun _ s2 h2 => wpAny_bind (thn h2 fun _ s3 h3 => wpAny_bind (thn h3 fun ok s4 h4 => ?_)))
    cases ok with
    | false =>
      rw [if_neg (by decide)] at h4
      first
        | exact wpAny_pure ⟨rfl, h4⟩
        | exact wpAny_bind (wpAny_pure (wpAny_pure ⟨rfl, h4⟩))
    | true =>
      rw [if_pos rfl] at h4
      first
        | exact wpAny_bind (wpAny_bind (thn h4 fun x s5 h5 => wpAny_bind (thn h5 fun _ s6 h6 => wpAny_pure (wpAny_pure ⟨rfl, h6⟩))))
        | exact wpAny_bind (thn h4 fun x s5 h5 => wpAny_bind (thn h5 fun _ s6 h6 => wpAny_pure ⟨rfl, h6⟩))
end
section
variable {X : Cx}
noncomputable def PC0 (X : Cx) (ifs : List Expr) (t : TT) : Prop :=
  ∀ (pins : List (Addr × Obj)) (s : Shared) (σ : St) (H : Hp) (Q : Bool → Hp → Prop), Inv X pins σ H s → t σ H Q → wpAny (model X.prog X.w) X.A (testsOf ifs X.env) (TP X pins σ Q) X.xe s
noncomputable def tNoTest : TT := fun _ H Q => Q true H
theorem pc_none : PC0 X [] tNoTest := fun pins s σ H Q I h => wpAny_tests_nil ⟨H, I, h⟩
theorem pc_one {c : Expr} {t : TT} (h : PT X c t) : PC0 X [c] t := fun pins s σ H Q I hw => wpAny_tests_one (h pins s σ H Q I hw)
theorem hok_but {P : Program} {w : World} {H : Hp} {h h' : Heap} {C : Addr} (ok : HOk P w H h) (hC : H C = none) (sb : Heap.SameBut C h h') : HOk P w H h' := fun b ob e => by
  refine (ok b ob e).stay (fun c u hc q => (sb.2 c ?_).trans q) (fun _ q => q) fun _ _ q => q
  rintro rfl
  rcases hc with rfl | hc
  · rw [hC] at e; cases e
  · rw [hC] at hc; cases hc
theorem un_but {fs ex : List Addr} {H H' : Hp} {h h1 h2 : Heap} {C : Addr} (u : Un fs ex H H' h h1) (hC : h.objs.size ≤ C) (sb : Heap.SameBut C h1 h2) : Un fs ex H H' h h2 := by
  have ne : ∀ b o, h.get? b = some o → b ≠ C := fun b o e => Nat.ne_of_lt (Nat.lt_of_lt_of_le (Heap.lt_size e) hC)
  refine ⟨fun b o e n a c => (sb.2 b (ne b o e)).trans (u.keep b o e n a c), fun b o e n a c => ?_, u.free, fun b o e c => ?_, u.tups, u.frzs⟩
  · obtain ⟨sl, q⟩ := u.slot b o e n a c
    exact ⟨sl, (sb.2 b (ne b o e)).trans q⟩
  · obtain ⟨o', q⟩ := u.there b o e c
    exact ⟨o', (sb.2 b (ne b o e)).trans q⟩
inductive CpInv (X : Cx) (tn : Nat → Heap → Prop) (fp : List Addr) (W : Nat → Nat → St → Hp → Prop) (n : Nat) (s : Shared) : Prop
  | mk (i : Nat) (σ : St) (H : Hp) (hI : Inv X [] σ H s) (ht : tn i s.heap) (hf : ∀ b ∈ fp, H b = none) (hw : W i n σ H)
theorem pe_comp {elt tg iter : Expr} {ifs : List Expr} {scope : Scope} {pos : Pos} {own : List Str} {caps : List (Str × Nat)} {wi : TI} {g : TG} {tc : TT} {te : TE} (hc : X.calm = true) (ck : CapsOk X scope caps)
    (hi : PI X tg iter wi) (hg : ∀ C s0 H0 ex, PG (compCx X scope (own ++ caps.map (·.1)) C s0 H0 ex) tg g) (ht : ∀ C s0 H0 ex, PC0 (compCx X scope (own ++ caps.map (·.1)) C s0 H0 ex) ifs tc)
    (he : ∀ C s0 H0 ex, PE (compCx X scope (own ++ caps.map (·.1)) C s0 H0 ex) elt te) (hs : autoParam (∀ x, foldedSetIterable iter X.env x = pure x) zau3._auto_1) :
    PE X (.ListComp elt [⟨tg, iter, ifs, 0⟩] scope pos) (tComp own.length caps wi g tc te) := by
  intro pins s σ H Q I h
  have hcl : closureFor scope X.env = pure (clOf X.env.cells scope.names []) := closure_eq fun p hp hf => I.ok.has p.1 (ck.fre p hp hf)
  rw [eval_ListComp]
  refine wpAny_comprehension_free (use := none) rfl hs hcl ck.kind ck.loc (thn (hi pins s σ H _ I h) fun v s1 h1 => thn h1 fun itv s2 h2 => ?_)
  obtain ⟨it, fp, tn, J, H2, e, I2, T, st2, f2, hw⟩ := h2
  subst e
  obtain ⟨W, ⟨m0, w0⟩, turn⟩ := hw s2.heap.objs.size (I2.hok.fresh (Nat.le_refl _))
  refine wpAny_newObj_type ?_
  have hD := I2.hok.fresh (Nat.le_refl s2.heap.objs.size)
  have I3 : Inv X pins σ (upd H2 s2.heap.objs.size (.lst [])) { s2 with heap := s2.heap.push { cls := .type "list", data := .seq ([] : List Value).toArray } } :=
    I2.laid (t' := s2.toks) (fun b u e => Heap.get?_push_of_some _ e) (Nat.le_refl _) ⟨Nat.zero_le _, [], 0, .nil, Heap.get?_push_size _ rfl⟩
  have hlt : ∀ b ∈ fp, b < s2.heap.objs.size := fun b hb => by obtain ⟨o, e, _⟩ := T.obj _ _ st2 b hb; exact Heap.lt_size e
  have f3 : ∀ b ∈ fp, FpOk X pins (upd H2 s2.heap.objs.size (.lst [])) b := fun b hb => ⟨by rw [upd_ne (Nat.ne_of_lt (hlt b hb))]; exact (f2 b hb).1, (f2 b hb).2⟩
  have hlt3 : ∀ b ∈ fp, b < (s2.heap.push { cls := .type "list", data := .seq ([] : List Value).toArray }).objs.size := fun b hb => by rw [Heap.size_push]; exact Nat.lt_succ_of_lt (hlt b hb)
  refine wpAny_newFunctionEnv ck.nocell (by intro y hy; simp at hy) (fun h' hns hsb => ?_) ck.kind
  generalize hS3 : ({ s2 with heap := s2.heap.push { cls := .type "list", data := .seq ([] : List Value).toArray } } : Shared) = S3 at I3 hns hsb ⊢
  have hlt3' : ∀ b ∈ fp, b < S3.heap.objs.size := by rw [← hS3]; exact hlt3
  have I4 := inv_comp (own := own) (t' := S3.toks + ([] : List (Str × Value)).length) I3 ck f3 hlt3' hns hsb
  have st4 : tn 0 h' := T.keep _ _ _ st2 fun b hb o e => hsb.extBut b o (Nat.ne_of_lt (hlt3' b hb)) (Heap.get?_push_of_some _ (by rw [← hS3]; exact Heap.get?_push_of_some _ e))
  have hsz : s2.heap.objs.size < S3.heap.objs.size := by rw [← hS3]; show _ < (Heap.push _ _).objs.size; rw [Heap.size_push]; exact Nat.lt_succ_self _
  generalize hCC : S3.heap.objs.size = C at I4 hsb hns hsz
  have loop : codeAny (model X.prog X.w) X.A (.compLoop (.ListComp elt [⟨tg, iter, ifs, 0⟩] scope pos) 0 (.ref it) (.ref s2.heap.objs.size) (compEnvC scope (clOf X.env.cells scope.names []) C X.env))
      (compPost (model X.prog X.w) X.A X.xe none (EP X pins σ Q) (.ref s2.heap.objs.size) C) { S3 with heap := h', toks := S3.toks + ([] : List (Str × Value)).length } := by
    have xf : ∀ {H' : Hp}, (∀ b ∈ fp, H' b = none) → ∀ b ∈ fp, FpOk (compCx X scope (own ++ caps.map (·.1)) C S3 (upd H2 s2.heap.objs.size (.lst [])) fp) [] H' b := fun hn b hb => by
      refine ⟨hn b hb, ?_, ?_, .inl hb, fun x c e => (I4.ok.exf b hb).2 x c e, fun p hp => absurd (show p ∈ ([] : List (Addr × Obj)) from hp) (by simp)⟩
      · exact (I4.ok.exf b hb).1
      · exact I4.ok.exfs b hb
    refine compLoop_any (CpInv (compCx X scope (own ++ caps.map (·.1)) C S3 (upd H2 s2.heap.objs.size (.lst [])) fp) tn fp W) ?_ m0
      ⟨0, _, _, I4, st4, fun b hb => (f3 b hb).1, w0⟩
    rintro n s5 ⟨i, σ5, H5, I5, st5, fr5, w5⟩
    rcases turn i n σ5 H5 w5 with ⟨stop, qn⟩ | ⟨go, N, hN, step⟩
    · refine thn (T.done (compCx X scope (own ++ caps.map (·.1)) C S3 (upd H2 s2.heap.objs.size (.lst [])) fp) rfl rfl rfl hc i [] s5 σ5 H5 NoX I5 (xf fr5) st5 stop) fun r s6 hzz => ?_
      obtain ⟨hr, I6⟩ := hzz
      subst hr
      obtain ⟨m6, n6, _⟩ := id I6.loc
      refine ⟨m6, n6, fun h7 sb7 => ⟨.ref s2.heap.objs.size, H5, ?_, rfl, qn⟩⟩
      have C3 : S3.heap.objs.size ≤ C := Nat.le_of_eq hCC
      refine I3.call' (s' := { s6 with heap := h7 }) (ch := fp) I6.os (un_but I6.base C3 sb7) (hok_but I6.hok I6.free sb7) I6.bare fun b hb => ?_
      obtain ⟨_, q1, _, q3, q4, q5⟩ := f3 b hb
      exact ⟨q3, q1, q4, q5⟩
    · refine thn (T.item (compCx X scope (own ++ caps.map (·.1)) C S3 (upd H2 s2.heap.objs.size (.lst [])) fp) rfl rfl rfl hc i [] s5 σ5 H5 NoX I5 (xf fr5) st5 go) fun r s6 hzz => ?_
      obtain ⟨u, hr, h6⟩ := hzz
      subst hr
      refine thn h6 fun _ s7 hzz => ?_
      obtain ⟨x, H7, I7, r7, y7, st7, fr7⟩ := hzz
      have I7' := I7.pinned (xf fr7) (T.obj _ _ st7)
      refine thn (hg _ _ _ _ _ s7 σ5 H7 x u _ I7' r7 (step x H7 y7)) fun _ s8 hzz => ?_
      obtain ⟨σ8, H8, I8, q8⟩ := hzz
      refine thn (ht _ _ _ _ _ s8 σ8 H8 _ I8 q8) fun ok s9 hzz => ?_
      obtain ⟨H9, I9, q9⟩ := hzz
      have again : ∀ {s' : Shared} {σ' : St} {H' : Hp}, Inv (compCx X scope (own ++ caps.map (·.1)) C S3 (upd H2 s2.heap.objs.size (.lst [])) fp) ([] ++ pinsAt fp s7.heap) σ' H' s' → N σ' H' → ∃ m, m < n ∧ CpInv (compCx X scope (own ++ caps.map (·.1)) C S3 (upd H2 s2.heap.objs.size (.lst [])) fp) tn fp W m s' := fun {s' σ' H'} Ia na => by
        obtain ⟨m', hm, wa⟩ := hN σ' H' na
        refine ⟨m', hm, i + 1, σ', H', Ia.unpinned, T.keep _ _ _ st7 fun b hb o e => (Ia.pin (b, o) (List.mem_append_right _ (List.mem_append_right _ (mem_pinsAt hb e)))).1, fun b hb => ?_, wa⟩
        obtain ⟨o, e, d⟩ := T.obj _ _ st7 b hb
        exact (Ia.pin (b, o) (List.mem_append_right _ (List.mem_append_right _ (mem_pinsAt hb e)))).2.1
      cases ok with
      | false =>
        rw [if_neg (by decide)] at q9 ⊢
        exact again I9 q9
      | true =>
        rw [if_pos rfl] at q9 ⊢
        refine thn (he _ _ _ _ _ s9 σ8 H9 _ I9 q9) fun y s10 hzz => ?_
        obtain ⟨vy, H10, I10, r10, ys, hys, hlen, q10⟩ := hzz
        refine thn (mt_append _ s10 σ8 H10 (.ref s2.heap.objs.size) [vy] (.ref s2.heap.objs.size) [y] (fun _ H' => N σ8 H') I10 rfl (.cons r10 .nil) ⟨_, ys, vy, rfl, rfl, hys, hlen, q10⟩) fun _ s11 hzz => ?_
        obtain ⟨_, H11, I11, _, q11⟩ := hzz
        exact again I11 q11
  exact codeAny_compStart_list loop (T.self _ 0 _ _ _ st4 loop)
end
end L2
namespace L2
open PySem PySem.Spec PyProof.Rows
noncomputable def ItOn (k : Bool) (h : Heap) (it l : Addr) (i : Nat) : Prop := if k = true then h.IsTupleIter it l i else h.IsListIter it l i
noncomputable def SrcOn (k : Bool) (h : Heap) (l : Addr) (xs : Array Value) : Prop := if k = true then h.IsTuple l xs else h.IsList l xs
theorem ItOn.mv {k : Bool} {h h' : Heap} {it l : Addr} {i : Nat} (x : ItOn k h it l i) (e : ∀ o, h.get? it = some o → h'.get? it = some o) : ItOn k h' it l i := by
  cases k with
  | true => exact Heap.IsTupleIter.at (h := h) x e
  | false => exact Heap.IsListIter.at (h := h) x e
theorem SrcOn.mv {k : Bool} {h h' : Heap} {l : Addr} {xs : Array Value} (x : SrcOn k h l xs) (e : ∀ o, h.get? l = some o → h'.get? l = some o) : SrcOn k h' l xs := by
  cases k with
  | true => exact Heap.IsTuple.at (h := h) x e
  | false => exact Heap.IsList.at (h := h) x e
theorem ItOn.ob {k : Bool} {h : Heap} {it l : Addr} {i : Nat} (x : ItOn k h it l i) : ∃ o vs, h.get? it = some o ∧ o.data = .fields vs := by
  cases k with
  | true => obtain ⟨o, e, _, d⟩ := (x : h.IsTupleIter it l i); exact ⟨o, _, e, d⟩
  | false => obtain ⟨o, e, _, d⟩ := (x : h.IsListIter it l i); exact ⟨o, _, e, d⟩
section
variable {prog : Program} {w : World} {A : Around} {E : Value → Shared → Prop} {s : Shared}
theorem nextOf_tup {it l : Addr} {i : Nat} {items : Array Value} {x : Value} {Q : Value → Shared → Prop} (hi : s.heap.IsTupleIter it l i) (hl : s.heap.IsTuple l items) (hx : items[i]? = some x)
    (hQ : ∀ h', h'.IsTupleIter it l (i + 1) → Heap.SameBut it s.heap h' → Q x { s with heap := h' }) : wpAny (model prog w) A (Builtin.SmallTypes.nextOf (.ref it)) Q E s := by
  obtain ⟨ob, eo, oc, od⟩ := id hi
  obtain ⟨tl, el, _, nl, dl⟩ := hl
  unfold Builtin.SmallTypes.nextOf
  refine wpAny_bind (wpAny_callSpecial?_slot (name := Str.ofString "__next__") hi.typeIs F.slot_tuple_iterator_next (wpAny_call_entry F.slot_tuple_iterator_next hi.typeIs F.entry_tuple_iterator_next ?_ (F.args_tuple_iterator_next_1 _)))
  show wpAny _ _ (field (.ref it) 0 >>= _) _ _ s
  refine wpAny_bind (wpAny_field eo od (x := .ref l) rfl ?_)
  show wpAny _ _ (if (Value.ref l == Value.none) = true then _ else _) _ _ s
  rw [if_neg (show ¬ ((Value.ref l == Value.none) = true) from fun q => Bool.false_ne_true q)]
  show wpAny _ _ (field (.ref it) 1 >>= _) _ _ s
  refine wpAny_bind (wpAny_field eo od (x := .int i 0) rfl (show wpAny _ _ (seqItems? (.ref l) >>= _) _ _ s from wpAny_bind (wpAny_seqItems el dl ?_)))
  simp only [Int.toNat_natCast, hx]
  refine wpAny_bind (wpAny_setField eo od (by simp) (wpAny_pure ⟨x, rfl, wpAny_pure (hQ _ ⟨_, Heap.get?_update_self _ eo (Obj.isFreed_of_fields (Obj.data_mapFields od _)), (Obj.cls_mapFields ..).trans oc, ?_⟩ (Heap.SameBut.update ..))⟩))
  rw [Obj.data_mapFields od]; simp [rawInt]
theorem nextOf_tup_end {it l : Addr} {i : Nat} {items : Array Value} {Q : Value → Shared → Prop} (hh : A.handled = none) (hi : s.heap.IsTupleIter it l i) (hl : s.heap.IsTuple l items) (hx : items[i]? = none)
    (hE : ∀ h' e, Heap.ExtBut it s.heap h' → (∃ o, h'.get? e = some o ∧ o.cls = .type "StopIteration") → E (.ref e) { s with heap := h' }) : wpAny (model prog w) A (Builtin.SmallTypes.nextOf (.ref it)) Q E s := by
  obtain ⟨ob, eo, oc, od⟩ := id hi
  obtain ⟨tl, el, _, nl, dl⟩ := hl
  unfold Builtin.SmallTypes.nextOf
  refine wpAny_bind (wpAny_callSpecial?_slot (name := Str.ofString "__next__") hi.typeIs F.slot_tuple_iterator_next (wpAny_call_entry F.slot_tuple_iterator_next hi.typeIs F.entry_tuple_iterator_next ?_ (F.args_tuple_iterator_next_1 _)))
  show wpAny _ _ (field (.ref it) 0 >>= _) _ _ s
  refine wpAny_bind (wpAny_field eo od (x := .ref l) rfl ?_)
  show wpAny _ _ (if (Value.ref l == Value.none) = true then _ else _) _ _ s
  rw [if_neg (show ¬ ((Value.ref l == Value.none) = true) from fun q => Bool.false_ne_true q)]
  show wpAny _ _ (field (.ref it) 1 >>= _) _ _ s
  refine wpAny_bind (wpAny_field eo od (x := .int i 0) rfl (show wpAny _ _ (seqItems? (.ref l) >>= _) _ _ s from wpAny_bind (wpAny_seqItems el dl ?_)))
  simp only [Int.toNat_natCast, hx]
  refine wpAny_bind (wpAny_rule (wpAny_bind (wpAny_setField eo od (by simp) ?_)))
  show wpAny _ _ (newExc (.type "StopIteration") [] >>= _) _ _ _
  refine wpAny_bind ?_
  simp only [newExc, newTuple]
  refine wpAny_bind (wpAny_newObj_type (wpAny_bind (m := firstArgMember _ _) (wpAny_of_eq (a := Value.none) (by first | rfl | (simp only [firstArgMember]; rfl)) (wpAny_newObj_type ?_ (by size_fits)))) (by size_fits))
  simp only [raiseNew]
  refine wpAny_bind (wpAny_handled ?_)
  first | rw [show A.in1.handled = none from hh] | rw [hh]
  exact wpAny_bind (wpAny_pure (wpAny_throw (hE _ _ (((Heap.SameBut.update ..).extBut.push _).push _) ⟨_, Heap.get?_push_size _ rfl, rfl⟩)))
theorem nextOf_on {k : Bool} {it l : Addr} {i : Nat} {items : Array Value} {x : Value} {Q : Value → Shared → Prop} (hi : ItOn k s.heap it l i) (hl : SrcOn k s.heap l items) (hx : items[i]? = some x)
    (hQ : ∀ h', ItOn k h' it l (i + 1) → Heap.SameBut it s.heap h' → Q x { s with heap := h' }) : wpAny (model prog w) A (Builtin.SmallTypes.nextOf (.ref it)) Q E s := by
  cases k with
  | true => exact nextOf_tup hi hl hx hQ
  | false => exact wpAny_nextOf_list_item hi hl hx hQ
theorem nextOf_on_end {k : Bool} {it l : Addr} {i : Nat} {items : Array Value} {Q : Value → Shared → Prop} (hh : A.handled = none) (hi : ItOn k s.heap it l i) (hl : SrcOn k s.heap l items) (hx : items[i]? = none)
    (hE : ∀ h' e, Heap.ExtBut it s.heap h' → (∃ o, h'.get? e = some o ∧ o.cls = .type "StopIteration") → E (.ref e) { s with heap := h' }) : wpAny (model prog w) A (Builtin.SmallTypes.nextOf (.ref it)) Q E s := by
  cases k with
  | true => exact nextOf_tup_end hh hi hl hx hE
  | false => exact wpAny_nextOf_list_end hh hi hl hx hE
theorem iter_on {k : Bool} {l : Addr} {xs : Array Value} {Q : Value → Shared → Prop} (hl : SrcOn k s.heap l xs)
    (h : ∀ o, ItOn k (s.heap.push o) s.heap.objs.size l 0 → Q (.ref s.heap.objs.size) { s with heap := s.heap.push o }) : wpAny (model prog w) A (pyIter (.ref l)) Q E s := by
  cases k with
  | true => exact wpAny_pyIter_tuple hl (h _ ⟨_, Heap.get?_push_size _ rfl, rfl, rfl⟩)
  | false => exact wpAny_pyIter_list hl (h _ ⟨_, Heap.get?_push_size _ rfl, rfl, rfl⟩)
structure ZFar (z TI TO i1 i2 : Addr) : Prop where
  a1 : TI ≠ z
  a2 : TO ≠ z
  a3 : i1 ≠ z
  a4 : i2 ≠ z
  a5 : TI ≠ TO
  a6 : TI ≠ i1
  a7 : TI ≠ i2
  a8 : TO ≠ i1
  a9 : TO ≠ i2
  a10 : i1 ≠ i2
noncomputable def LFar (z TO i1 i2 l : Addr) : Prop := l ≠ z ∧ l ≠ TO ∧ l ≠ i1 ∧ l ≠ i2
theorem zip_item {k1 k2 : Bool} {z TI TO i1 i2 l1 l2 : Addr} {n1 n2 : Nat} {xs ys : Array Value} {x y a b : Value} {Q : Value → Shared → Prop} (D : ZFar z TI TO i1 i2) (d1 : LFar z TO i1 i2 l1) (d2 : LFar z TO i1 i2 l2)
    (hz : IsZip s.heap z TI TO .none) (ht : IsPair s.heap TI (.ref i1) (.ref i2)) (hu : IsPair s.heap TO a b) (j1 : ItOn k1 s.heap i1 l1 n1) (j2 : ItOn k2 s.heap i2 l2 n2) (c1 : SrcOn k1 s.heap l1 xs) (c2 : SrcOn k2 s.heap l2 ys)
    (hx : xs[n1]? = some x) (hy : ys[n2]? = some y)
    (hQ : ∀ h', IsZip h' z TI TO (rawInt s.heap.objs.size) → IsPair h' TO x y → ItOn k1 h' i1 l1 (n1 + 1) → ItOn k2 h' i2 l2 (n2 + 1) → IsPair h' s.heap.objs.size x y →
      (∀ c o, c ≠ z → c ≠ TO → c ≠ i1 → c ≠ i2 → s.heap.get? c = some o → h'.get? c = some o) → Q (.ref s.heap.objs.size) { s with heap := h' }) :
    wpAny (model prog w) A (Builtin.«zip.__next__» ⟨[.ref z], []⟩) (fun fin s' => ∃ v, fin = .done (.ret v) ∧ Q v s') E s := by
  show wpAny _ _ (field (.ref z) 2 >>= _) _ _ _
  refine wpAny_bind (wpAny_field hz rfl (x := .bool false) rfl (show wpAny _ _ (field (.ref z) 3 >>= _) _ _ _ from wpAny_bind (wpAny_field hz rfl (x := .ref TI) rfl (wpAny_bind (wpAny_seqItems ht rfl ?_)))))
  show wpAny _ _ (Builtin.SmallTypes.ownedTupleIsFree (.ref z) >>= _) _ _ _
  refine wpAny_bind ?_
  unfold Builtin.SmallTypes.ownedTupleIsFree
  refine wpAny_bind (wpAny_field hz rfl (x := .none) rfl (wpAny_pure ?_))
  simp only [if_true]
  refine wpAny_bind (wpAny_rule (wpAny_bind (wpAny_field hz rfl (x := .ref TO) rfl (wpAny_bind (wpAny_setField_rec hz (by simp) fun g1 z1 e1 => wpAny_bind ?_)))))
  replace z1 : IsZip g1 z TI TO .ellipsis := z1
  simp only [List.zipIdx_cons, List.zipIdx_nil, List.forIn_cons, List.forIn_nil]
  refine wpAny_bind (wpAny_bind (wpAny_onRaise (show wpAny _ _ (Builtin.SmallTypes.nextOf (.ref i1) >>= _) _ _ _ from ?_)))
  refine wpAny_bind (nextOf_on (j1.mv fun o q => e1.extBut _ _ D.a3 q) (c1.mv fun o q => e1.extBut _ _ d1.1 q) hx fun g2 m1 e2 => wpAny_pure ?_)
  have u2 : IsPair g2 TO a b := e2.extBut _ _ D.a8 (e1.extBut _ _ D.a2 hu)
  refine wpAny_bind (wpAny_seqItems u2 rfl (wpAny_bind (wpAny_updateSeq_pair u2 fun g3 u3 e3 => wpAny_bind (wpAny_letGo (wpAny_pure ?_)))))
  replace u3 : IsPair g3 TO x b := u3
  have up3 : ∀ c o, c ≠ z → c ≠ TO → c ≠ i1 → s.heap.get? c = some o → g3.get? c = some o := fun c o p1 p2 p3 q => e3.extBut _ _ p2 (e2.extBut _ _ p3 (e1.extBut _ _ p1 q))
  refine wpAny_bind (wpAny_bind (wpAny_onRaise (show wpAny _ _ (Builtin.SmallTypes.nextOf (.ref i2) >>= _) _ _ _ from ?_)))
  refine wpAny_bind (nextOf_on (j2.mv fun o q => up3 _ o D.a4 D.a9.symm D.a10.symm q) (c2.mv fun o q => up3 _ o d2.1 d2.2.1 d2.2.2.1 q) hy fun g4 m2 e4 => wpAny_pure ?_)
  have u4 : IsPair g4 TO x b := e4.extBut _ _ D.a9 u3
  refine wpAny_bind (wpAny_seqItems u4 rfl (wpAny_bind (wpAny_updateSeq_pair u4 fun g5 u5 e5 => wpAny_bind (wpAny_letGo (wpAny_pure (wpAny_pure ?_))))))
  replace u5 : IsPair g5 TO x y := u5
  refine wpAny_bind (wpAny_seqItems u5 rfl (wpAny_bind (wpAny_newTuple ?_)))
  have sz : g5.objs.size = s.heap.objs.size := by rw [e5.1, e4.1, e3.1, e2.1, e1.1]
  have z5 : IsZip g5 z TI TO .ellipsis := e5.extBut _ _ D.a2.symm (e4.extBut _ _ D.a4.symm (e3.extBut _ _ D.a2.symm (e2.extBut _ _ D.a3.symm z1)))
  have up5 : ∀ c o, c ≠ z → c ≠ TO → c ≠ i1 → c ≠ i2 → s.heap.get? c = some o → g5.get? c = some o := fun c o p1 p2 p3 p4 q => e5.extBut _ _ p2 (e4.extBut _ _ p4 (up3 c o p1 p2 p3 q))
  have m15 : ItOn k1 g5 i1 l1 (n1 + 1) := m1.mv fun o q => e5.extBut _ _ D.a8.symm (e4.extBut _ _ D.a10 (e3.extBut _ _ D.a8.symm q))
  have m25 : ItOn k2 g5 i2 l2 (n2 + 1) := m2.mv fun o q => e5.extBut _ _ D.a9.symm q
  have zlt : z < g5.objs.size := Heap.lt_size z5
  show wpAny _ _ (Builtin.SmallTypes.ownedTupleHandOut (.ref z) (.ref g5.objs.size) >>= _) _ _ _
  refine wpAny_bind ?_
  unfold Builtin.SmallTypes.ownedTupleHandOut
  have z6 : IsZip (g5.push { cls := .type "tuple", data := .seq #[x, y] }) z TI TO .ellipsis := Heap.get?_push_of_some _ z5
  refine wpAny_bind (wpAny_setField_rec z6 (by simp) fun g7 z7 e7 => ?_)
  replace z7 : IsZip g7 z TI TO (rawInt g5.objs.size) := z7
  refine wpAny_setField_rec z7 (by simp) fun g8 z8 e8 => ?_
  replace z8 : IsZip g8 z TI TO (rawInt g5.objs.size) := z8
  have up8 : ∀ c o, c ≠ z → g5.get? c = some o → g8.get? c = some o := fun c o p1 q => e8.extBut _ _ p1 (e7.extBut _ _ p1 (Heap.get?_push_of_some _ q))
  have t8 : IsPair g8 g5.objs.size x y := e8.extBut _ _ (Nat.ne_of_gt zlt) (e7.extBut _ _ (Nat.ne_of_gt zlt) (Heap.get?_push_size _ rfl))
  rw [sz] at z8 t8
  refine wpAny_pure ⟨_, rfl, ?_⟩
  show Q (.ref g5.objs.size) _
  rw [sz]
  exact hQ g8 z8 (up8 _ _ D.a2 u5) (m15.mv fun o q => up8 _ o D.a3 q) (m25.mv fun o q => up8 _ o D.a4 q) t8 fun c o p1 p2 p3 p4 q => up8 c o p1 (up5 c o p1 p2 p3 p4 q)
theorem zip_end {k1 k2 : Bool} {z TI TO i1 i2 l1 l2 : Addr} {n1 n2 : Nat} {xs ys : Array Value} {a b : Value} {Q : PySem.Fin → Shared → Prop} (hh : A.handled = none) (D : ZFar z TI TO i1 i2) (d1 : LFar z TO i1 i2 l1) (d2 : LFar z TO i1 i2 l2)
    (hz : IsZip s.heap z TI TO .none) (ht : IsPair s.heap TI (.ref i1) (.ref i2)) (hu : IsPair s.heap TO a b) (j1 : ItOn k1 s.heap i1 l1 n1) (j2 : ItOn k2 s.heap i2 l2 n2) (c1 : SrcOn k1 s.heap l1 xs) (c2 : SrcOn k2 s.heap l2 ys)
    (hend : xs[n1]? = none ∨ ys[n2]? = none)
    (hE : ∀ h' e, (∀ c o, c ≠ z → c ≠ TO → c ≠ i1 → c ≠ i2 → s.heap.get? c = some o → h'.get? c = some o) → (∃ o, h'.get? e = some o ∧ o.cls = .type "StopIteration") → E (.ref e) { s with heap := h' }) :
    wpAny (model prog w) A (Builtin.«zip.__next__» ⟨[.ref z], []⟩) Q E s := by
  show wpAny _ _ (field (.ref z) 2 >>= _) _ _ _
  refine wpAny_bind (wpAny_field hz rfl (x := .bool false) rfl (show wpAny _ _ (field (.ref z) 3 >>= _) _ _ _ from wpAny_bind (wpAny_field hz rfl (x := .ref TI) rfl (wpAny_bind (wpAny_seqItems ht rfl ?_)))))
  show wpAny _ _ (Builtin.SmallTypes.ownedTupleIsFree (.ref z) >>= _) _ _ _
  refine wpAny_bind ?_
  unfold Builtin.SmallTypes.ownedTupleIsFree
  refine wpAny_bind (wpAny_field hz rfl (x := .none) rfl (wpAny_pure ?_))
  simp only [if_true]
  refine wpAny_bind (wpAny_rule (wpAny_bind (wpAny_field hz rfl (x := .ref TO) rfl (wpAny_bind (wpAny_setField_rec hz (by simp) fun g1 z1 e1 => wpAny_bind ?_)))))
  replace z1 : IsZip g1 z TI TO .ellipsis := z1
  simp only [List.zipIdx_cons, List.zipIdx_nil, List.forIn_cons, List.forIn_nil]
  refine wpAny_bind (wpAny_bind (wpAny_onRaise (show wpAny _ _ (Builtin.SmallTypes.nextOf (.ref i1) >>= _) _ _ _ from ?_)))
  cases hx : xs[n1]? with
  | none =>
    refine wpAny_bind (nextOf_on_end hh (j1.mv fun o q => e1.extBut _ _ D.a3 q) (c1.mv fun o q => e1.extBut _ _ d1.1 q) hx fun g2 e f2 he => ?_)
    obtain ⟨oe, q1, q2⟩ := he
    have z2 : IsZip g2 z TI TO .ellipsis := f2 _ _ D.a3.symm z1
    have nez : e ≠ z := fun p => by subst p; rw [z2] at q1; cases q1; simp at q2
    exact wpAny_setField_rec z2 (by simp) fun g3 _ e3 => hE g3 e (fun c o p1 _ p3 _ q => e3.extBut _ _ p1 (f2 _ _ p3 (e1.extBut _ _ p1 q))) ⟨oe, e3.extBut _ _ nez q1, q2⟩
  | some x =>
    have hy : ys[n2]? = none := by rcases hend with h | h; rw [hx] at h; cases h; exact h
    refine wpAny_bind (nextOf_on (j1.mv fun o q => e1.extBut _ _ D.a3 q) (c1.mv fun o q => e1.extBut _ _ d1.1 q) hx fun g2 m1 e2 => wpAny_pure ?_)
    have u2 : IsPair g2 TO a b := e2.extBut _ _ D.a8 (e1.extBut _ _ D.a2 hu)
    refine wpAny_bind (wpAny_seqItems u2 rfl (wpAny_bind (wpAny_updateSeq_pair u2 fun g3 u3 e3 => wpAny_bind (wpAny_letGo (wpAny_pure ?_)))))
    have up3 : ∀ c o, c ≠ z → c ≠ TO → c ≠ i1 → s.heap.get? c = some o → g3.get? c = some o := fun c o p1 p2 p3 q => e3.extBut _ _ p2 (e2.extBut _ _ p3 (e1.extBut _ _ p1 q))
    refine wpAny_bind (wpAny_bind (wpAny_onRaise (show wpAny _ _ (Builtin.SmallTypes.nextOf (.ref i2) >>= _) _ _ _ from ?_)))
    refine wpAny_bind (nextOf_on_end hh (j2.mv fun o q => up3 _ o D.a4 D.a9.symm D.a10.symm q) (c2.mv fun o q => up3 _ o d2.1 d2.2.1 d2.2.2.1 q) hy fun g4 e f4 he => ?_)
    obtain ⟨oe, q1, q2⟩ := he
    have z4 : IsZip g4 z TI TO .ellipsis := f4 _ _ D.a4.symm (e3.extBut _ _ D.a2.symm (e2.extBut _ _ D.a3.symm z1))
    have nez : e ≠ z := fun p => by subst p; rw [z4] at q1; cases q1; simp at q2
    exact wpAny_setField_rec z4 (by simp) fun g5 _ e5 => hE g5 e (fun c o p1 p2 p3 p4 q => e5.extBut _ _ p1 (f4 _ _ p4 (up3 c o p1 p2 p3 q))) ⟨oe, e5.extBut _ _ nez q1, q2⟩
theorem next_zip {k1 k2 : Bool} {z TI TO i1 i2 l1 l2 : Addr} {n1 n2 : Nat} {xs ys : Array Value} {x y a b : Value} {Q : Option Value → Shared → Prop} (D : ZFar z TI TO i1 i2) (d1 : LFar z TO i1 i2 l1) (d2 : LFar z TO i1 i2 l2)
    (hz : IsZip s.heap z TI TO .none) (ht : IsPair s.heap TI (.ref i1) (.ref i2)) (hu : IsPair s.heap TO a b) (j1 : ItOn k1 s.heap i1 l1 n1) (j2 : ItOn k2 s.heap i2 l2 n2) (c1 : SrcOn k1 s.heap l1 xs) (c2 : SrcOn k2 s.heap l2 ys)
    (hx : xs[n1]? = some x) (hy : ys[n2]? = some y)
    (hQ : ∀ h', IsZip h' z TI TO (rawInt s.heap.objs.size) → IsPair h' TO x y → ItOn k1 h' i1 l1 (n1 + 1) → ItOn k2 h' i2 l2 (n2 + 1) → IsPair h' s.heap.objs.size x y →
      (∀ c o, c ≠ z → c ≠ TO → c ≠ i1 → c ≠ i2 → s.heap.get? c = some o → h'.get? c = some o) → Q (some (.ref s.heap.objs.size)) { s with heap := h' }) : wpAny (model prog w) A (pyNext (.ref z)) Q E s := by
  have ty : s.TypeIs (.ref z) "zip" := ⟨_, hz, rfl⟩
  unfold pyNext
  exact wpAny_bind (wpAny_attempt (wpAny_callSpecial?_slot (name := Str.ofString "__next__") ty F.slot_zip_next (wpAny_call_entry F.slot_zip_next ty F.entry_zip_next
    (zip_item D d1 d2 hz ht hu j1 j2 c1 c2 hx hy fun h' b1 b2 b3 b4 b5 b6 => wpAny_pure (hQ h' b1 b2 b3 b4 b5 b6)) (F.args_zip_next_1 _))))
theorem next_zip_end {k1 k2 : Bool} {z TI TO i1 i2 l1 l2 : Addr} {n1 n2 : Nat} {xs ys : Array Value} {a b : Value} {Q : Option Value → Shared → Prop} (hh : A.handled = none) (D : ZFar z TI TO i1 i2) (d1 : LFar z TO i1 i2 l1) (d2 : LFar z TO i1 i2 l2)
    (hz : IsZip s.heap z TI TO .none) (ht : IsPair s.heap TI (.ref i1) (.ref i2)) (hu : IsPair s.heap TO a b) (j1 : ItOn k1 s.heap i1 l1 n1) (j2 : ItOn k2 s.heap i2 l2 n2) (c1 : SrcOn k1 s.heap l1 xs) (c2 : SrcOn k2 s.heap l2 ys)
    (hend : xs[n1]? = none ∨ ys[n2]? = none)
    (hQ : ∀ h', (∀ c o, c ≠ z → c ≠ TO → c ≠ i1 → c ≠ i2 → s.heap.get? c = some o → h'.get? c = some o) → Q none { s with heap := h' }) : wpAny (model prog w) A (pyNext (.ref z)) Q E s := by
  have ty : s.TypeIs (.ref z) "zip" := ⟨_, hz, rfl⟩
  unfold pyNext
  refine wpAny_bind (wpAny_attempt (wpAny_callSpecial?_slot (name := Str.ofString "__next__") ty F.slot_zip_next (wpAny_call_entry F.slot_zip_next ty F.entry_zip_next (zip_end hh D d1 d2 hz ht hu j1 j2 c1 c2 hend fun h' e hk he => ?_) (F.args_zip_next_1 _))))
  obtain ⟨o, ho, hc⟩ := he
  exact wpAny_bind (wpAny_isInstance (T := "StopIteration") (b := true) ⟨o, ho, hc⟩ isSubtype_stop (wpAny_pure (hQ _ hk)))
noncomputable abbrev zA (h : Heap) (o1 o2 : Obj) : Heap := (h.push o1).push o2
noncomputable abbrev zB (h : Heap) (o1 o2 : Obj) : Heap := (zA h o1 o2).push { cls := .type "tuple", data := .seq #[.ref h.objs.size, .ref (h.push o1).objs.size] }
noncomputable abbrev zC (h : Heap) (o1 o2 : Obj) : Heap := (zB h o1 o2).push { cls := .type "tuple", data := .seq #[.none, .none] }
noncomputable abbrev zD (h : Heap) (o1 o2 : Obj) : Heap := (zC h o1 o2).push { cls := .type "zip", data := .fields #[.none, .bool false, .bool false, .ref (zA h o1 o2).objs.size, .ref (zB h o1 o2).objs.size] }
theorem meets_zip {k1 k2 : Bool} (l1 l2 : Addr) (xs ys : Array Value) : Meets (Builtin.«zip.__new__» ⟨[.type "zip", .ref l1, .ref l2], []⟩) (fun _ R s => SrcOn k1 s.heap l1 xs ∧ SrcOn k2 s.heap l2 ys ∧
    ∀ o1 o2, ItOn k1 (s.heap.push o1) s.heap.objs.size l1 0 → ItOn k2 (zA s.heap o1 o2) (s.heap.push o1).objs.size l2 0 → R (.ok (.ret (.ref (zC s.heap o1 o2).objs.size))) { s with heap := zD s.heap o1 o2 }) :=
  .of_wp fun prog w A R s h => by
    obtain ⟨hp, g, d, tk, os⟩ := s
    obtain ⟨c1, c2, h⟩ := h
    have hsub := sub_zip
    have q1 : SrcOn k1 (Shared.heap ⟨hp, g, d, tk, os⟩) l1 xs := c1
    wp_walk using iter_on q1
    intro o1 w1
    have q2 : SrcOn k2 (Shared.heap ⟨hp.push o1, g, d, tk, os⟩) l2 ys := SrcOn.mv c2 fun o e => Heap.get?_push_of_some _ e
    wp_walk using iter_on q2
    intro o2 w2
    wp_walk
    exact ⟨_, rfl, h o1 o2 w1 w2⟩
end
end L2
namespace L2
open PySem PySem.Spec PyProof.Rows
section
variable {X : Cx} {pins : List (Addr × Obj)} {σ : St} {H : Hp} {s : Shared}
theorem Inv.spun {fp : List Addr} {h' : Heap} {t' : Nat} {T : Addr} {vs : List V} {its : List Value} (I : Inv X pins σ H s) (hf : ∀ b ∈ fp, FpOk X pins H b) (k : ∀ b o, b ∉ fp → s.heap.get? b = some o → h'.get? b = some o)
    (ko : ∀ b ∈ fp, ∃ o, h'.get? b = some o) (hT : s.heap.get? T = none) (hn : H T = none) (hv : Vals vs its) (hz : vs.length ≤ sizeLine) (ht : IsTup h' T its.toArray) : Inv X pins σ (upd H T (.tup vs)) { s with heap := h', toks := t' } := by
  have nT : ∀ b o, s.heap.get? b = some o → b ≠ T := fun b o e z => by rw [z, hT] at e; cases e
  have nf : ∀ b u, H b = some u → b ∉ fp := fun b u e z => by rw [(hf b z).1] at e; cases e
  refine I.step (g' := s.gens) (d' := s.drawn) (ch := fp) (fun b hb => ?_) (fun b o _ _ hc e _ => k b o hc e) (fun b o _ _ hc e _ => ⟨o.slots, k b o hc e⟩) (fun b o _ e n => by rw [upd_ne (nT b o e)]; exact n)
    (fun b o hc e => ⟨o, k b o hc e⟩) (fun b xs e => by rw [upd_ne (ne_of_none e hn)]; exact e) (fun b o u e => by rw [upd_ne (ne_of_none e hn)]; exact e) (fun m hm => ?_) (fun b u e => ?_) I.bare
  · obtain ⟨_, f1, _, f3, f4, f5⟩ := hf b hb
    exact ⟨f3, f1, f4, f5⟩
  · obtain ⟨o, es, ep, ho, r⟩ := hm
    exact ⟨o, es, ep, k _ o (fun z => (hf _ z).2.1 rfl) ho, r⟩
  · by_cases hb : b = T
    · subst hb
      rw [upd_same] at e; cases e
      exact ⟨hz, its, hv, ht⟩
    · rw [upd_ne hb] at e
      refine (I.hok b u e).stay (fun c v hc q => k c v ?_ q) (fun c q => by rw [upd_ne (ne_of_none q hn)]; exact q) fun c xs q => by rw [upd_ne (ne_of_none q hn)]; exact q
      rcases hc with z | z
      · rw [z]; exact nf b u e
      · exact nf c _ z
theorem Inv.spun0 {fp : List Addr} {h' : Heap} {t' : Nat} (I : Inv X pins σ H s) (hf : ∀ b ∈ fp, FpOk X pins H b) (k : ∀ b o, b ∉ fp → s.heap.get? b = some o → h'.get? b = some o) : Inv X pins σ H { s with heap := h', toks := t' } := by
  have nf : ∀ b u, H b = some u → b ∉ fp := fun b u e z => by rw [(hf b z).1] at e; cases e
  refine I.step (g' := s.gens) (d' := s.drawn) (ch := fp) (fun b hb => ?_) (fun b o _ _ hc e _ => k b o hc e) (fun b o _ _ hc e _ => ⟨o.slots, k b o hc e⟩) (fun b o _ e n => n)
    (fun b o hc e => ⟨o, k b o hc e⟩) (fun b xs e => e) (fun b o u e => e) (fun m hm => ?_) (fun b u e => ?_) I.bare
  · obtain ⟨_, f1, _, f3, f4, f5⟩ := hf b hb
    exact ⟨f3, f1, f4, f5⟩
  · obtain ⟨o, es, ep, ho, r⟩ := hm
    exact ⟨o, es, ep, k _ o (fun z => (hf _ z).2.1 rfl) ho, r⟩
  · refine (I.hok b u e).stay (fun c v hc q => k c v ?_ q) (fun c q => q) fun c xs q => q
    rcases hc with z | z
    · rw [z]; exact nf b u e
    · exact nf c _ z
noncomputable def SqV (k : Bool) (K : PySem.W.Frag) (H : Hp) (l : Addr) (xs : List V) : Prop := if k = true then SqT K H l xs else SqL K H l xs
theorem Inv.src {k : Bool} {l : Addr} {xs : List V} (I : Inv X pins σ H s) (h : SqV k X.K H l xs) : ∃ its : List Value, Vals xs its ∧ SrcOn k s.heap l its.toArray ∧ xs.length ≤ sizeLine := by
  cases k with
  | true =>
    obtain ⟨its, r, p, z⟩ := I.tuple (h : SqT X.K H l xs)
    exact ⟨its, r, p, z⟩
  | false =>
    obtain ⟨its, r, p, z⟩ := I.list (h : SqL X.K H l xs)
    exact ⟨its, r, p.isList, z⟩
theorem Inv.src_inj {k : Bool} {l : Addr} {xs ys : List V} (I : Inv X pins σ H s) (h : SqV k X.K H l xs) (h' : SqV k X.K H l ys) : xs = ys := by
  cases k with
  | true => exact I.tuple_inj (h : SqT X.K H l xs) h'
  | false => exact I.list_inj (h : SqL X.K H l xs) h'
theorem sq_far {k : Bool} {l : Addr} {xs : List V} (I : Inv X pins σ H s) (h : SqV k X.K H l xs) {b : Addr} (f : FpOk X pins H b) : l ≠ b := by
  intro e
  subst e
  obtain ⟨f0, f1, f2, f3, _⟩ := f
  have base : ∀ o, X.K.lookup l = some o → False := fun o q => by
    have hb := I.ok.mod.kin l o q
    rcases f3 with z | z
    · exact I.ok.noex l o hb z
    · exact absurd (Nat.lt_of_lt_of_le (Heap.lt_size hb) (Nat.le_trans I.ok.bsz z)) (Nat.lt_irrefl _)
  cases k with
  | true =>
    rcases (h : SqT X.K H l xs) with q | ⟨o, its, n, q, _⟩
    · rcases q with q | ⟨o, q⟩ <;> (rw [f0] at q; cases q)
    · exact base o q
  | false =>
    rcases (h : SqL X.K H l xs) with q | ⟨o, its, n, q, _⟩
    · rcases q with q | ⟨o, q⟩ <;> (rw [f0] at q; cases q)
    · exact base o q
end
noncomputable def Itz (k1 k2 : Bool) (K : PySem.W.Frag) (l1 l2 : Addr) : It :=
  ⟨fun i H => ∃ xs ys x y, SqV k1 K H l1 xs ∧ SqV k2 K H l2 ys ∧ xs[i]? = some x ∧ ys[i]? = some y,
   fun i H v H' => ∃ T x y, H T = none ∧ v = .ref T ∧ H' = upd H T (.tup [x, y]) ∧ (∀ xs, SqV k1 K H l1 xs → xs[i]? = some x) ∧ (∀ ys, SqV k2 K H l2 ys → ys[i]? = some y),
   fun i H => ∃ xs ys, SqV k1 K H l1 xs ∧ SqV k2 K H l2 ys ∧ (xs.length ≤ i ∨ ys.length ≤ i)⟩
theorem turn_zip {P : Program} {w : World} {K : PySem.W.Frag} {es : List Expr} {kk : Nat} {tp : Pos} (k1 k2 : Bool) (l1 l2 z TI TO i1 i2 : Addr) (D : ZFar z TI TO i1 i2) :
    Turn P w K (.Tuple es kk tp) (Itz k1 k2 K l1 l2) [z, TI, TO, i1, i2] z (fun i h => IsZip h z TI TO .none ∧ IsPair h TI (.ref i1) (.ref i2) ∧ (∃ a b, IsPair h TO a b) ∧ ItOn k1 h i1 l1 i ∧ ItOn k2 h i2 l2 i) where
  mem := by simp
  obj := fun i h st b hb => by
    obtain ⟨q1, q2, ⟨a, b', q3⟩, q4, q5⟩ := st
    simp only [List.mem_cons, List.not_mem_nil, or_false] at hb
    rcases hb with rfl | rfl | rfl | rfl | rfl
    · exact ⟨_, q1, fun v e => nomatch e⟩
    · exact ⟨_, q2, fun v e => nomatch e⟩
    · exact ⟨_, q3, fun v e => nomatch e⟩
    · obtain ⟨o, vs, e, d⟩ := q4.ob; exact ⟨o, e, fun v z => by rw [d] at z; cases z⟩
    · obtain ⟨o, vs, e, d⟩ := q5.ob; exact ⟨o, e, fun v z => by rw [d] at z; cases z⟩
  keep := fun i h h' st k => by
    obtain ⟨q1, q2, ⟨a, b', q3⟩, q4, q5⟩ := st
    exact ⟨k z (by simp) _ q1, k TI (by simp) _ q2, ⟨a, b', k TO (by simp) _ q3⟩, q4.mv fun o e => k i1 (by simp) o e, q5.mv fun o e => k i2 (by simp) o e⟩
  item := by
    intro X hP hw hK hc i pins s σ H E I hf st hg
    subst hP hw hK
    obtain ⟨q1, q2, ⟨a, b', q3⟩, q4, q5⟩ := st
    obtain ⟨xs, ys, x, y, sx, sy, hx, hy⟩ := hg
    obtain ⟨ix, rx, cx, _⟩ := I.src sx
    obtain ⟨iy, ry, cy, _⟩ := I.src sy
    obtain ⟨u, hu, ru⟩ := rx.get hx
    obtain ⟨v, hv, rv⟩ := ry.get hy
    have far : ∀ {k : Bool} {l : Addr} {xs : List V}, SqV k X.K H l xs → LFar z TO i1 i2 l := fun h => ⟨sq_far I h (hf z (by simp)), sq_far I h (hf TO (by simp)), sq_far I h (hf i1 (by simp)), sq_far I h (hf i2 (by simp))⟩
    refine next_zip D (far sx) (far sy) q1 q2 q3 q4 q5 cx cy (x := u) (y := v) (by simpa using hu) (by simpa using hv) fun h' b1 b2 b3 b4 b5 b6 => ⟨_, rfl, ?_⟩
    have keep : ∀ b o, b ∉ [z, TI, TO, i1, i2] → s.heap.get? b = some o → h'.get? b = some o := fun b o hb e => by
      simp only [List.mem_cons, List.not_mem_nil, or_false, not_or] at hb
      exact b6 b o hb.1 hb.2.2.1 hb.2.2.2.1 hb.2.2.2.2 e
    have e2 : IsPair h' TI (.ref i1) (.ref i2) := b6 TI _ D.a1 D.a5 D.a6 D.a7 q2
    have hfr : H s.heap.objs.size = none := I.hok.fresh (Nat.le_refl _)
    have hno : s.heap.get? s.heap.objs.size = none := Heap.get?_none_of_le (Nat.le_refl _)
    have Tz : s.heap.objs.size ≠ z := Nat.ne_of_gt (Heap.lt_size q1)
    refine wpAny_letOwnedTupleGo_zip b1 fun h2 z2 s2 => ?_
    have up2 : ∀ b o, b ≠ z → h'.get? b = some o → h2.get? b = some o := fun b o hb e => s2.extBut _ _ hb e
    have keep2 : ∀ b o, b ∉ [z, TI, TO, i1, i2] → s.heap.get? b = some o → h2.get? b = some o := fun b o hb e => up2 b o (fun q => hb (by simp [q])) (keep b o hb e)
    have tu : IsTup h2 s.heap.objs.size [u, v].toArray := ⟨_, up2 _ _ Tz b5, rfl, 0, rfl⟩
    have I2 : Inv X pins σ (upd H s.heap.objs.size (.tup [x, y])) { s with heap := h2 } := I.spun (t' := s.toks) hf keep2 (fun b hb => by
      simp only [List.mem_cons, List.not_mem_nil, or_false] at hb
      rcases hb with rfl | rfl | rfl | rfl | rfl
      · exact ⟨_, z2⟩
      · exact ⟨_, up2 _ _ D.a1 e2⟩
      · exact ⟨_, up2 _ _ D.a2 b2⟩
      · obtain ⟨o, vs, e, _⟩ := b3.ob; exact ⟨o, up2 _ _ D.a3 e⟩
      · obtain ⟨o, vs, e, _⟩ := b4.ob; exact ⟨o, up2 _ _ D.a4 e⟩) hno hfr (.cons ru (.cons rv .nil)) (by show 2 ≤ sizeLine; decide) tu
    refine ⟨.ref s.heap.objs.size, _, I2, rfl, ⟨_, x, y, hfr, rfl, rfl, fun xs' h => by rw [I.src_inj h sx]; exact hx, fun ys' h => by rw [I.src_inj h sy]; exact hy⟩, ?_, fun b hb => ?_⟩
    · exact ⟨z2, up2 _ _ D.a1 e2, ⟨_, _, up2 _ _ D.a2 b2⟩, b3.mv fun o e => up2 _ o D.a3 e, b4.mv fun o e => up2 _ o D.a4 e⟩
    · have : b ≠ s.heap.objs.size := fun q => by
        subst q
        simp only [List.mem_cons, List.not_mem_nil, or_false] at hb
        rcases hb with q | q | q | q | q
        · exact Tz q
        · exact absurd (Heap.lt_size q2) (by rw [q]; exact Nat.lt_irrefl _)
        · exact absurd (Heap.lt_size q3) (by rw [q]; exact Nat.lt_irrefl _)
        · obtain ⟨o, vs, e, _⟩ := q4.ob; exact absurd (Heap.lt_size e) (by rw [q]; exact Nat.lt_irrefl _)
        · obtain ⟨o, vs, e, _⟩ := q5.ob; exact absurd (Heap.lt_size e) (by rw [q]; exact Nat.lt_irrefl _)
      rw [upd_ne this]
      exact (hf b hb).1
  done := by
    intro X hP hw hK hc i pins s σ H E I hf st hg
    subst hP hw hK
    obtain ⟨q1, q2, ⟨a, b', q3⟩, q4, q5⟩ := st
    obtain ⟨xs, ys, sx, sy, hend⟩ := hg
    obtain ⟨ix, rx, cx, _⟩ := I.src sx
    obtain ⟨iy, ry, cy, _⟩ := I.src sy
    have far : ∀ {k : Bool} {l : Addr} {xs : List V}, SqV k X.K H l xs → LFar z TO i1 i2 l := fun h => ⟨sq_far I h (hf z (by simp)), sq_far I h (hf TO (by simp)), sq_far I h (hf i1 (by simp)), sq_far I h (hf i2 (by simp))⟩
    have lx := rx.length
    have ly := ry.length
    refine next_zip_end (I.ok.hd hc) D (far sx) (far sy) q1 q2 q3 q4 q5 cx cy ?_ fun h' k => ⟨rfl, I.spun0 (t' := s.toks) hf fun b o hb e => ?_⟩
    · rcases hend with h | h
      · exact .inl (by simp; omega)
      · exact .inr (by simp; omega)
    · simp only [List.mem_cons, List.not_mem_nil, or_false, not_or] at hb
      exact k b o hb.1 hb.2.2.1 hb.2.2.2.1 hb.2.2.2.2 e
  self := fun _ _ _ _ _ st h => wpAny_pyIter_zip st.1 h
theorem zfar (n : Nat) : ZFar (n + 4) (n + 2) (n + 3) n (n + 1) := ⟨show (n + 2 : Nat) ≠ n + 4 by omega, show (n + 3 : Nat) ≠ n + 4 by omega, show (n : Nat) ≠ n + 4 by omega, show (n + 1 : Nat) ≠ n + 4 by omega, show (n + 2 : Nat) ≠ n + 3 by omega,
  show (n + 2 : Nat) ≠ n by omega, show (n + 2 : Nat) ≠ n + 1 by omega, show (n + 3 : Nat) ≠ n by omega, show (n + 3 : Nat) ≠ n + 1 by omega, show (n : Nat) ≠ n + 1 by omega⟩
section
variable {X : Cx}
noncomputable def iZip (K : PySem.W.Frag) (ta : TA) : TI := fun σ H R => ta σ H fun vs H1 => ∃ k1 k2 l1 l2 xs ys, vs = [.ref l1, .ref l2] ∧ SqV k1 K H1 l1 xs ∧ SqV k2 K H1 l2 ys ∧ R (Itz k1 k2 K l1 l2) H1
theorem pi_zip {a b : Expr} {ta : TA} {es : List Expr} {kk : Nat} {tp p pos : Pos} (hg : Gl X "zip") (hm : X.mg "zip" = none) (ha : PA X [a, b] ta) (hs : autoParam (starEach [a, b] X.env = [(false, eval a X.env), (false, eval b X.env)]) zau2._auto_1) (hs2 : autoParam (starEach [b] X.env = [(false, eval b X.env)]) zau2._auto_1) :
    PI X (.Tuple es kk tp) (.Call (.Name "zip" p) [a, b] [] pos) (iZip X.K ta) := by
  intro pins s σ H R I h
  refine Call_ (ld_blt I hg hm boot_zip (PyProof.Rows.callWith_type1 (thn (ha pos pins s σ H _ I h) fun us s1 hzz => ?_) (by rw [hs, hs2]) (by rw [hs2]; rfl)))
  obtain ⟨vs, H1, I1, r1, q1⟩ := hzz
  obtain ⟨k1, k2, l1, l2, xs, ys, e, sx, sy, q⟩ := q1
  subst e
  obtain ⟨u1, u2, rfl, e1, e2⟩ := r1.two
  cases e1
  cases e2
  obtain ⟨ix, rx, cx, _⟩ := I1.src sx
  obtain ⟨iy, ry, cy, _⟩ := I1.src sy
  refine callType_new F.called_zip (by decide) (F.typeCall_zip_2 _ _) (F.newCall_zip_2 _ _) (fun obj => F.args_object_init_3 obj _ _) F.entry_zip_new (meets_zip l1 l2 ix.toArray iy.toArray) ⟨cx, cy, fun o1 o2 w1 w2 => ?_⟩
  have n1 : (s1.heap.push o1).objs.size = s1.heap.objs.size + 1 := Heap.size_push ..
  have n2 : (zA s1.heap o1 o2).objs.size = s1.heap.objs.size + 2 := by show (Heap.push _ _).objs.size = _; rw [Heap.size_push, n1]
  have n3 : (zB s1.heap o1 o2).objs.size = s1.heap.objs.size + 3 := by show (Heap.push _ _).objs.size = _; rw [Heap.size_push, n2]
  have n4 : (zC s1.heap o1 o2).objs.size = s1.heap.objs.size + 4 := by show (Heap.push _ _).objs.size = _; rw [Heap.size_push, n3]
  have g5 : (zD s1.heap o1 o2).get? (zC s1.heap o1 o2).objs.size = some _ := Heap.get?_push_size _ rfl
  have g4 : (zD s1.heap o1 o2).get? (zB s1.heap o1 o2).objs.size = some _ := Heap.get?_push_of_some _ (Heap.get?_push_size _ rfl)
  have g3 : (zD s1.heap o1 o2).get? (zA s1.heap o1 o2).objs.size = some _ := Heap.get?_push_of_some _ (Heap.get?_push_of_some _ (Heap.get?_push_size _ rfl))
  have kk2 : ∀ c o, (zA s1.heap o1 o2).get? c = some o → (zD s1.heap o1 o2).get? c = some o := fun c o e => Heap.get?_push_of_some _ (Heap.get?_push_of_some _ (Heap.get?_push_of_some _ e))
  have kk1 : ∀ c o, (s1.heap.push o1).get? c = some o → (zD s1.heap o1 o2).get? c = some o := fun c o e => kk2 c o (Heap.get?_push_of_some _ e)
  have kk0 : ∀ c o, s1.heap.get? c = some o → (zD s1.heap o1 o2).get? c = some o := fun c o e => kk1 c o (Heap.get?_push_of_some _ e)
  rw [n1] at w2 g3
  rw [n2] at g3
  rw [n3] at g4
  rw [n4, n2, n3] at g5
  show _ ∧ _
  rw [n4]
  refine ⟨⟨_, g5, rfl⟩, wpAny_pyIter_zip g5 ?_⟩
  have D : ZFar (s1.heap.objs.size + 4) (s1.heap.objs.size + 2) (s1.heap.objs.size + 3) s1.heap.objs.size (s1.heap.objs.size + 1) := zfar _
  refine ⟨s1.heap.objs.size + 4, [s1.heap.objs.size + 4, s1.heap.objs.size + 2, s1.heap.objs.size + 3, s1.heap.objs.size, s1.heap.objs.size + 1], _, _, H1, rfl, I1.kept (t' := s1.toks) fun c o e => kk0 c o e,
    turn_zip k1 k2 l1 l2 _ _ _ _ _ D, ⟨g5, g3, ⟨_, _, g4⟩, w1.mv fun o e => kk1 _ o e, w2.mv fun o e => kk2 _ o e⟩, fun b hb => ?_, q⟩
  have hb' : s1.heap.objs.size ≤ b := by
    simp only [List.mem_cons, List.not_mem_nil, or_false] at hb
    show (s1.heap.objs.size : Nat) ≤ (b : Nat)
    have hb2 : (b : Nat) = b := rfl
    rcases hb with q | q | q | q | q <;> (rw [q]; first | exact Nat.le_refl _ | exact Nat.le_add_right _ _)
  exact I1.fpOk hb' (I1.hok.fresh hb')
end
section
variable {X : Cx}
end
end L2
namespace DL
open PySem PySem.Spec L2
inductive D where
  | non | bl (b : Bool) | int (i : Int) | str (x : Str) | ty (n : String) | obj (i : Nat) | tup (xs : List D) | lst (xs : List D)
structure XD where
  cls : Str
  fs : List (Str × D)
noncomputable abbrev M (α : Type) := Option (Except XD α)
noncomputable def M.b {α β : Type} (m : M α) (f : α → M β) : M β := match m with
  | none => none
  | some (.error x) => some (.error x)
  | some (.ok a) => f a
noncomputable def M.p {α : Type} (a : α) : M α := some (.ok a)
noncomputable def M.o {α : Type} : Option α → M α
  | none => none
  | some a => some (.ok a)
inductive M.BInv {α β : Type} (m : M α) (f : α → M β) (r : Except XD β) : Prop
  | ok (a : α) (h1 : m = some (.ok a)) (h2 : f a = some r)
  | err (x : XD) (h1 : m = some (.error x)) (h2 : r = .error x)
theorem M.b_inv {α β : Type} {m : M α} {f : α → M β} {r : Except XD β} (h : m.b f = some r) : M.BInv m f r := by
  cases m with
  | none => cases h
  | some e =>
    cases e with
    | error x => exact .err x rfl (Option.some.inj h).symm
    | ok a => exact .ok a rfl h
theorem M.o_inv {α : Type} {m : Option α} {r : Except XD α} (h : M.o m = some r) : ∃ a, m = some a ∧ r = .ok a := by
  cases m with
  | none => cases h
  | some a => exact ⟨a, rfl, (Option.some.inj h).symm⟩
@[simp] theorem M.b_ok {α β : Type} (a : α) (f : α → M β) : M.b (some (.ok a)) f = f a := rfl
@[simp] theorem M.b_p {α β : Type} (a : α) (f : α → M β) : M.b (M.p a) f = f a := rfl
@[simp] theorem M.b_err {α β : Type} (x : XD) (f : α → M β) : M.b (some (.error x)) f = some (.error x) := rfl
@[simp] theorem M.o_some {α : Type} (a : α) : M.o (some a) = M.p a := rfl
noncomputable abbrev Rho := Nat → Option Addr
mutual
noncomputable def Rep (ρ : Rho) (K : PySem.W.Frag) (H : Hp) : D → V → Prop
  | .non, v => v = .non
  | .bl b, v => v = .bl b
  | .int i, v => v = .int i
  | .str x, v => v = .str x
  | .ty n, v => v = .ty n
  | .obj i, v => ∃ a, ρ i = some a ∧ v = .ref a
  | .tup ds, v => ∃ a xs, v = .ref a ∧ SqT K H a xs ∧ Reps ρ K H ds xs
  | .lst ds, v => ∃ a xs, v = .ref a ∧ SqL K H a xs ∧ Reps ρ K H ds xs
noncomputable def Reps (ρ : Rho) (K : PySem.W.Frag) (H : Hp) : List D → List V → Prop
  | [], xs => xs = []
  | d :: ds, xs => ∃ v vs, xs = v :: vs ∧ Rep ρ K H d v ∧ Reps ρ K H ds vs
end
variable {ρ : Rho} {K : PySem.W.Frag} {H H' : Hp}
theorem same_rd {a : Addr} {u : HO} (e : Same H H') (h : Rd H a u) : Rd H' a u := by
  rcases h with h | ⟨o, h⟩
  · exact .inl (e a _ h)
  · exact .inr ⟨o, e a _ h⟩
theorem same_l {a : Addr} {xs : List V} (e : Same H H') (h : SqL K H a xs) : SqL K H' a xs := h.imp (same_rd e) id
theorem same_t {a : Addr} {xs : List V} (e : Same H H') (h : SqT K H a xs) : SqT K H' a xs := h.imp (same_rd e) id
mutual
theorem Rep.mono (e : Same H H') : ∀ {d : D} {v : V}, Rep ρ K H d v → Rep ρ K H' d v
  | .non, _, h => by unfold Rep at h ⊢; exact h
  | .bl _, _, h => by unfold Rep at h ⊢; exact h
  | .int _, _, h => by unfold Rep at h ⊢; exact h
  | .str _, _, h => by unfold Rep at h ⊢; exact h
  | .ty _, _, h => by unfold Rep at h ⊢; exact h
  | .obj _, _, h => by unfold Rep at h ⊢; exact h
  | .tup _, _, h => by
    unfold Rep at h ⊢
    obtain ⟨a, xs, q1, q2, q3⟩ := h
    exact ⟨a, xs, q1, same_t e q2, Reps.mono e q3⟩
  | .lst _, _, h => by
    unfold Rep at h ⊢
    obtain ⟨a, xs, q1, q2, q3⟩ := h
    exact ⟨a, xs, q1, same_l e q2, Reps.mono e q3⟩
theorem Reps.mono (e : Same H H') : ∀ {ds : List D} {vs : List V}, Reps ρ K H ds vs → Reps ρ K H' ds vs
  | [], _, h => by unfold Reps at h ⊢; exact h
  | _ :: _, _, h => by
    unfold Reps at h ⊢
    obtain ⟨v, vs, q1, q2, q3⟩ := h
    exact ⟨v, vs, q1, Rep.mono e q2, Reps.mono e q3⟩
end
theorem reps_nil {vs : List V} : Reps ρ K H [] vs ↔ vs = [] := by unfold Reps; exact Iff.rfl
theorem reps_cons {d : D} {ds : List D} {vs : List V} : Reps ρ K H (d :: ds) vs ↔ ∃ v r, vs = v :: r ∧ Rep ρ K H d v ∧ Reps ρ K H ds r := by
  conv => lhs; unfold Reps
theorem Reps.cons {d : D} {ds : List D} {v : V} {vs : List V} (h : Rep ρ K H d v) (t : Reps ρ K H ds vs) : Reps ρ K H (d :: ds) (v :: vs) := reps_cons.mpr ⟨v, vs, rfl, h, t⟩
theorem Reps.nil : Reps ρ K H [] [] := reps_nil.mpr rfl
theorem Reps.length : ∀ {ds : List D} {vs : List V}, Reps ρ K H ds vs → vs.length = ds.length
  | [], _, h => by rw [reps_nil.mp h]; rfl
  | _ :: _, _, h => by
    obtain ⟨v, r, rfl, _, t⟩ := reps_cons.mp h
    simp [Reps.length t]
theorem Reps.get : ∀ {ds : List D} {vs : List V} {i : Nat} {d : D}, Reps ρ K H ds vs → ds[i]? = some d → ∃ v, vs[i]? = some v ∧ Rep ρ K H d v
  | [], _, _, _, _, e => by simp at e
  | _ :: _, _, 0, _, h, e => by
    obtain ⟨v, r, rfl, q, _⟩ := reps_cons.mp h
    simp at e; subst e
    exact ⟨v, rfl, q⟩
  | _ :: _, _, i + 1, _, h, e => by
    obtain ⟨v, r, rfl, _, t⟩ := reps_cons.mp h
    obtain ⟨u, q1, q2⟩ := Reps.get (i := i) t (by simpa using e)
    exact ⟨u, by simpa using q1, q2⟩
theorem Reps.append : ∀ {ds es : List D} {vs us : List V}, Reps ρ K H ds vs → Reps ρ K H es us → Reps ρ K H (ds ++ es) (vs ++ us)
  | [], _, _, _, h, k => by rw [reps_nil.mp h]; exact k
  | _ :: _, _, _, _, h, k => by
    obtain ⟨v, r, rfl, q, t⟩ := reps_cons.mp h
    exact Reps.cons q (Reps.append t k)
theorem rep_int {i : Int} {v : V} : Rep ρ K H (.int i) v ↔ v = .int i := by unfold Rep; exact Iff.rfl
theorem rep_str {x : Str} {v : V} : Rep ρ K H (.str x) v ↔ v = .str x := by unfold Rep; exact Iff.rfl
theorem rep_ty {n : String} {v : V} : Rep ρ K H (.ty n) v ↔ v = .ty n := by unfold Rep; exact Iff.rfl
theorem rep_obj {i : Nat} {v : V} : Rep ρ K H (.obj i) v ↔ ∃ a, ρ i = some a ∧ v = .ref a := by unfold Rep; exact Iff.rfl
theorem rep_bl {b : Bool} {v : V} : Rep ρ K H (.bl b) v ↔ v = .bl b := by unfold Rep; exact Iff.rfl
theorem rep_non {v : V} : Rep ρ K H .non v ↔ v = .non := by unfold Rep; exact Iff.rfl
theorem rep_tup {ds : List D} {v : V} : Rep ρ K H (.tup ds) v ↔ ∃ a xs, v = .ref a ∧ SqT K H a xs ∧ Reps ρ K H ds xs := by conv => lhs; unfold Rep
theorem rep_lst {ds : List D} {v : V} : Rep ρ K H (.lst ds) v ↔ ∃ a xs, v = .ref a ∧ SqL K H a xs ∧ Reps ρ K H ds xs := by conv => lhs; unfold Rep
theorem reps_ints : ∀ {ns : List Int} {vs : List V}, Reps ρ K H (ns.map .int) vs ↔ vs = ns.map V.int
  | [], vs => reps_nil
  | n :: ns, vs => by
    rw [List.map_cons, reps_cons]
    constructor
    · rintro ⟨v, r, rfl, h1, h2⟩
      rw [rep_int.mp h1, reps_ints.mp h2]; rfl
    · rintro rfl
      exact ⟨_, _, rfl, rep_int.mpr rfl, reps_ints.mpr rfl⟩
noncomputable def hid (H : Hp) (G : Addr → Bool) : Hp := fun b => if G b = true then none else H b
theorem hid_some {G : Addr → Bool} {b : Addr} {o : HO} : hid H G b = some o ↔ G b = false ∧ H b = some o := by
  unfold hid
  cases e : G b <;> simp
theorem same_hid {G : Addr → Bool} (e : Same H H') : Same (hid H G) (hid H' G) := fun b o h => by
  obtain ⟨q1, q2⟩ := hid_some.mp h
  exact hid_some.mpr ⟨q1, e b o q2⟩
theorem hid_le {G G' : Addr → Bool} (h : ∀ b, G' b = true → G b = true) : Same (hid H G) (hid H G') := fun b o q => by
  obtain ⟨q1, q2⟩ := hid_some.mp q
  refine hid_some.mpr ⟨?_, q2⟩
  cases e : G' b with
  | false => rfl
  | true => rw [h b e] at q1; cases q1
theorem same_un {G : Addr → Bool} : Same (hid H G) H := fun b o q => (hid_some.mp q).2
theorem hid_upd {G : Addr → Bool} {a : Addr} {o : HO} (h : G a = true) : hid (upd H a o) G = hid H G := by
  funext b
  unfold hid upd
  by_cases e : b = a
  · subst e; rw [if_pos h, if_pos h]
  · rw [if_neg e]
theorem same_upd {p : Addr} {o : HO} (h : H p = none) : Same H (upd H p o) := fun b u e => by rw [upd_ne (ne_of_none e h)]; exact e
theorem same_upd0 {H₀ : Hp} {p : Addr} {o : HO} (e : Same H₀ H) (h : H₀ p = none) : Same H₀ (upd H p o) := fun b u q => by rw [upd_ne (ne_of_none q h)]; exact e b u q
noncomputable abbrev DSt := List (Option D)
noncomputable def refOf : Option (Option V) → Option Addr
  | some (some (.ref a)) => some a
  | _ => none
theorem refOf_some {o : Option (Option V)} {a : Addr} : refOf o = some a ↔ o = some (some (.ref a)) := by
  constructor
  · intro h
    unfold refOf at h
    split at h
    · cases h; rfl
    · cases h
  · rintro rfl; rfl
noncomputable def ownA (σ : St) : List Nat → List Addr
  | [] => []
  | i :: O => (refOf σ[i]?).toList ++ ownA σ O
theorem mem_ownA {σ : St} {O : List Nat} {a : Addr} : a ∈ ownA σ O ↔ ∃ i ∈ O, σ[i]? = some (some (.ref a)) := by
  induction O with
  | nil => simp [ownA]
  | cons j O ih =>
    unfold ownA
    rw [List.mem_append, ih, Option.mem_toList, refOf_some]
    constructor
    · rintro (h | ⟨i, hi, h⟩)
      · exact ⟨j, List.mem_cons_self, h⟩
      · exact ⟨i, List.mem_cons_of_mem _ hi, h⟩
    · rintro ⟨i, hi, h⟩
      rcases List.mem_cons.mp hi with rfl | hi
      · exact .inl h
      · exact .inr ⟨i, hi, h⟩
noncomputable def fob (F : Addr → Bool) (σ : St) (O : List Nat) : Addr → Bool := fun b => F b || (ownA σ O).contains b
theorem fob_t {F : Addr → Bool} {σ : St} {O : List Nat} {b : Addr} : fob F σ O b = true ↔ F b = true ∨ ∃ i ∈ O, σ[i]? = some (some (.ref b)) := by
  unfold fob
  rw [Bool.or_eq_true, List.contains_iff_mem, mem_ownA]
theorem fob_nil {F : Addr → Bool} {σ : St} : fob F σ [] = F := by
  funext b; unfold fob ownA; simp
structure RS (ρ : Rho) (K : PySem.W.Frag) (H₀ H : Hp) (F : Addr → Bool) (O : List Nat) (σ : St) (δ : DSt) : Prop where
  len : σ.length = δ.length
  same : Same H₀ H
  fin : ∀ b, F b = true → H b ≠ none
  val : ∀ (i : Nat) d, δ[i]? = some (some d) → i ∉ O → ∃ v, σ[i]? = some (some v) ∧ Rep ρ K (hid H (fob F σ O)) d v
  own : ∀ i ∈ O, ∃ (a : Addr) (xs : List V) (ds : List D), δ[i]? = some (some (.lst ds)) ∧ σ[i]? = some (some (.ref a)) ∧ H a = some (.lst xs) ∧ (H₀ a = none ∧ F a = false) ∧ Reps ρ K (hid H (fob F σ O)) ds xs
  nd : ∀ i ∈ O, ∀ j ∈ O, ∀ a, σ[i]? = some (some (.ref a)) → σ[j]? = some (some (.ref a)) → i = j
section
variable {H₀ : Hp} {F : Addr → Bool} {O : List Nat} {σ : St} {δ : DSt}
theorem same_nn {b : Addr} (e : Same H H') (h : H b ≠ none) : H' b ≠ none := fun z => by
  cases q : H b with
  | none => exact h q
  | some o => rw [e b o q] at z; cases z
theorem upd_nn {b p : Addr} {o : HO} (h : H b ≠ none) : upd H p o b ≠ none := by
  by_cases e : b = p
  · subst e; rw [upd_same]; exact fun z => nomatch z
  · rw [upd_ne e]; exact h
theorem RS.mono (R : RS ρ K H₀ H F O σ δ) (e : Same H H') : RS ρ K H₀ H' F O σ δ :=
  ⟨R.len, R.same.trans e, fun b hb => same_nn e (R.fin b hb), fun i d h ho => let ⟨v, q1, q2⟩ := R.val i d h ho; ⟨v, q1, q2.mono (same_hid e)⟩,
    fun i hi => let ⟨a, xs, ds, q1, q2, q3, q4, q5⟩ := R.own i hi; ⟨a, xs, ds, q1, q2, e a _ q3, q4, q5.mono (same_hid e)⟩, R.nd⟩
theorem RS.fresh (R : RS ρ K H₀ H F O σ δ) {p : Addr} (h : H p = none) : fob F σ O p = false := by
  cases e : fob F σ O p with
  | false => rfl
  | true =>
    rcases fob_t.mp e with q | ⟨i, hi, q⟩
    · exact absurd h (R.fin p q)
    · obtain ⟨a, xs, ds, _, q2, q3, _⟩ := R.own i hi
      rw [q] at q2; cases q2
      rw [q3] at h; cases h
theorem RS.fresh0 (R : RS ρ K H₀ H F O σ δ) {p : Addr} (h : H p = none) : H₀ p = none := by
  cases e0 : H₀ p with
  | none => rfl
  | some o => rw [R.same p o e0] at h; cases h
theorem RS.thaw {O' : List Nat} (R : RS ρ K H₀ H F O σ δ) (h : ∀ i ∈ O', i ∈ O) : RS ρ K H₀ H F O' σ δ := by
  have le : ∀ b, fob F σ O' b = true → fob F σ O b = true := fun b q => by
    rcases fob_t.mp q with q | ⟨i, hi, q⟩
    · exact fob_t.mpr (.inl q)
    · exact fob_t.mpr (.inr ⟨i, h i hi, q⟩)
  refine ⟨R.len, R.same, R.fin, fun i d hd ho => ?_, fun i hi => ?_, fun i hi j hj => R.nd i (h i hi) j (h j hj)⟩
  · by_cases hO : i ∈ O
    · obtain ⟨a, xs, ds, q1, q2, q3, q4, q5⟩ := R.own i hO
      rw [q1] at hd; cases hd
      refine ⟨_, q2, rep_lst.mpr ⟨a, xs, rfl, SqL.of (hid_some.mpr ⟨?_, q3⟩), q5.mono (hid_le le)⟩⟩
      cases e : fob F σ O' a with
      | false => rfl
      | true =>
        rcases fob_t.mp e with z | ⟨j, hj, z⟩
        · rw [q4.2] at z; cases z
        · exact absurd (R.nd i hO j (h j hj) a q2 z ▸ hj) ho
    · obtain ⟨v, q1, q2⟩ := R.val i d hd hO
      exact ⟨v, q1, q2.mono (hid_le le)⟩
  · obtain ⟨a, xs, ds, q1, q2, q3, q4, q5⟩ := R.own i (h i hi)
    exact ⟨a, xs, ds, q1, q2, q3, q4, q5.mono (hid_le le)⟩
theorem ownA_set {i : Nat} {v : V} (h : i ∉ O) : fob F (σ.set i (some v)) O = fob F σ O := by
  have : ownA (σ.set i (some v)) O = ownA σ O := by
    induction O with
    | nil => rfl
    | cons j O ih =>
      unfold ownA
      rw [List.getElem?_set_ne (by rintro rfl; exact h List.mem_cons_self), ih fun z => h (List.mem_cons_of_mem _ z)]
  unfold fob
  rw [this]
theorem RS.set (R : RS ρ K H₀ H F O σ δ) {i : Nat} {d : D} {v : V} (ho : i ∉ O) (hr : Rep ρ K (hid H (fob F σ O)) d v) : RS ρ K H₀ H F O (σ.set i (some v)) (δ.set i (some d)) := by
  have ne : ∀ j ∈ O, j ≠ i := fun j hj e => ho (e ▸ hj)
  refine ⟨by simp [R.len], R.same, R.fin, fun j e hd hj => ?_, fun j hj => ?_, fun j hj k hk a e1 e2 => ?_⟩
  · rw [ownA_set ho]
    by_cases hji : j = i
    · subst hji
      have hl : j < δ.length := by
        by_cases q : j < δ.length
        · exact q
        · rw [List.getElem?_eq_none (by simpa using q)] at hd; cases hd
      rw [List.getElem?_set_self hl] at hd
      cases hd
      exact ⟨v, List.getElem?_set_self (by rw [R.len]; exact hl), hr⟩
    · rw [List.getElem?_set_ne (Ne.symm hji)] at hd ⊢
      exact R.val j e hd hj
  · rw [ownA_set ho, List.getElem?_set_ne (Ne.symm (ne j hj)), List.getElem?_set_ne (Ne.symm (ne j hj))]
    exact R.own j hj
  · rw [List.getElem?_set_ne (Ne.symm (ne j hj))] at e1
    rw [List.getElem?_set_ne (Ne.symm (ne k hk))] at e2
    exact R.nd j hj k hk a e1 e2
theorem RS.take (R : RS ρ K H₀ H F O σ δ) {i : Nat} {ds : List D} {p : Addr} {xs : List V} {H1 : Hp} (ho : i ∉ O) (hi : i < δ.length) (e : Same H H1) (hp : H1 p = none) (hr : Reps ρ K (hid H1 (fob F σ O)) ds xs) :
    RS ρ K H₀ (upd H1 p (.lst xs)) F (i :: O) (σ.set i (some (.ref p))) (δ.set i (some (.lst ds))) := by
  have R1 := R.mono e
  have p0 := R1.fresh0 hp
  have pf := R1.fresh hp
  have ne : ∀ j ∈ O, j ≠ i := fun j hj e => ho (e ▸ hj)
  have lσ : i < σ.length := by rw [R.len]; exact hi
  have gp : ∀ b, fob F (σ.set i (some (.ref p))) (i :: O) b = true ↔ b = p ∨ fob F σ O b = true := fun b => by
    rw [fob_t, fob_t]
    constructor
    · rintro (q | ⟨j, hj, q⟩)
      · exact .inr (.inl q)
      · rcases List.mem_cons.mp hj with rfl | hj
        · rw [List.getElem?_set_self lσ] at q; cases q; exact .inl rfl
        · rw [List.getElem?_set_ne (Ne.symm (ne j hj))] at q
          exact .inr (.inr ⟨j, hj, q⟩)
    · rintro (rfl | q | ⟨j, hj, q⟩)
      · exact .inr ⟨i, List.mem_cons_self, List.getElem?_set_self lσ⟩
      · exact .inl q
      · exact .inr ⟨j, List.mem_cons_of_mem _ hj, by rw [List.getElem?_set_ne (Ne.symm (ne j hj))]; exact q⟩
  have eqH : hid (upd H1 p (.lst xs)) (fob F (σ.set i (some (.ref p))) (i :: O)) = hid H1 (fob F σ O) := by
    funext b
    by_cases hb : b = p
    · subst hb
      unfold hid
      rw [if_pos ((gp b).mpr (.inl rfl)), hp]
      split <;> rfl
    · unfold hid
      rw [upd_ne hb]
      cases q : fob F σ O b with
      | true => rw [if_pos ((gp b).mpr (.inr q)), if_pos rfl]
      | false =>
        rw [if_neg (by rw [gp]; rintro (z | z); exact hb z; rw [q] at z; cases z), if_neg (by decide)]
  refine ⟨by simp [R.len], same_upd0 R1.same p0, fun b hb => upd_nn (R1.fin b hb), fun j d hd hj => ?_, fun j hj => ?_, fun j hj k hk a e1 e2 => ?_⟩
  · have hji : j ≠ i := fun z => hj (z ▸ List.mem_cons_self)
    rw [eqH]
    rw [List.getElem?_set_ne (Ne.symm hji)] at hd ⊢
    exact R1.val j d hd fun z => hj (List.mem_cons_of_mem _ z)
  · rw [eqH]
    rcases List.mem_cons.mp hj with rfl | hj
    · exact ⟨p, xs, ds, List.getElem?_set_self hi, List.getElem?_set_self lσ, upd_same, ⟨p0, by cases z : F p with | false => rfl | true => rw [fob_t.mpr (.inl z)] at pf; cases pf⟩, hr⟩
    · obtain ⟨a, ys, es, q1, q2, q3, q4, q5⟩ := R1.own j hj
      refine ⟨a, ys, es, by rw [List.getElem?_set_ne (Ne.symm (ne j hj))]; exact q1, by rw [List.getElem?_set_ne (Ne.symm (ne j hj))]; exact q2, ?_, q4, q5⟩
      rw [upd_ne (ne_of_none q3 hp)]; exact q3
  · have np : ∀ j ∈ O, ∀ a, σ[j]? = some (some (.ref a)) → a ≠ p := fun j hj a q z => by
      obtain ⟨a', ys, es, q1, q2, q3, q4, q5⟩ := R1.own j hj
      rw [q] at q2; cases q2
      rw [z, hp] at q3; cases q3
    rcases List.mem_cons.mp hj with rfl | hj
    · rw [List.getElem?_set_self lσ] at e1
      cases e1
      rcases List.mem_cons.mp hk with rfl | hk
      · rfl
      · rw [List.getElem?_set_ne (Ne.symm (ne k hk))] at e2
        exact absurd rfl (np k hk p e2)
    · rw [List.getElem?_set_ne (Ne.symm (ne j hj))] at e1
      rcases List.mem_cons.mp hk with hke | hk
      · subst hke
        rw [List.getElem?_set_self lσ] at e2
        cases e2
        exact absurd rfl (np j (by assumption) p e1)
      · rw [List.getElem?_set_ne (Ne.symm (ne k hk))] at e2
        exact R.nd j hj k hk a e1 e2
theorem RS.write (R : RS ρ K H₀ H F O σ δ) {i : Nat} {a : Addr} {ds : List D} {xs : List V} (hi : i ∈ O) (ha : σ[i]? = some (some (.ref a))) (hr : Reps ρ K (hid H (fob F σ O)) ds xs) :
    RS ρ K H₀ (upd H a (.lst xs)) F O σ (δ.set i (some (.lst ds))) := by
  obtain ⟨a', ys, es, q1, q2, q3, q4, q5⟩ := R.own i hi
  rw [ha] at q2; cases q2
  have hl : i < δ.length := (List.getElem?_eq_some_iff.mp q1).1
  have hh : hid (upd H a (.lst xs)) (fob F σ O) = hid H (fob F σ O) := hid_upd (fob_t.mpr (.inr ⟨i, hi, ha⟩))
  refine ⟨by simp [R.len], same_upd0 R.same q4.1, fun b hb => upd_nn (R.fin b hb), fun j d hd hj => ?_, fun j hj => ?_, R.nd⟩
  · have hji : j ≠ i := fun z => hj (z ▸ hi)
    rw [hh]
    rw [List.getElem?_set_ne (Ne.symm hji)] at hd
    exact R.val j d hd hj
  · rw [hh]
    by_cases hji : j = i
    · subst hji
      exact ⟨a, xs, ds, List.getElem?_set_self hl, ha, upd_same, q4, hr⟩
    · obtain ⟨b, zs, fs, p1, p2, p3, p4, p5⟩ := R.own j hj
      refine ⟨b, zs, fs, by rw [List.getElem?_set_ne (Ne.symm hji)]; exact p1, p2, ?_, p4, p5⟩
      rw [upd_ne (show b ≠ a from fun z => hji (R.nd j hj i hi b p2 (by rw [z]; exact ha)))]
      exact p3
end
end DL
namespace DL
open PySem PySem.Spec L2
noncomputable def XRep (K : PySem.W.Frag) (H : Hp) (x : XD) (c : Value) (dx : Option Addr) : Prop := False
noncomputable def okX (K : PySem.W.Frag) (H₀ : Hp) (E : XK) (x : XD) : Prop := ∀ c dx H', Same H₀ H' → XRep K H' x c dx → E c dx H'
inductive tD (K : PySem.W.Frag) (O : List Nat) (E : XK) (f : DSt → M D) (σ : St) (H : Hp) (Q : VK) : Prop
  | mk (ρ : Rho) (H₀ : Hp) (F : Addr → Bool) (δ : DSt) (r : Except XD D) (R : RS ρ K H₀ H F O σ δ) (hf : f δ = some r) (k : match (generalizing := false) r with
    | .ok d => ∀ v H', Same H H' → Rep ρ K (hid H' (fob F σ O)) d v → Q v H'
    | .error x => okX K H₀ E x)
noncomputable def DE (X : Cx) (O : List Nat) (E : XK) (e : Expr) (f : DSt → M D) : Prop := PE X e (tD X.K O E f)
inductive tB (K : PySem.W.Frag) (O : List Nat) (E : XK) (f : DSt → M Bool) (σ : St) (H : Hp) (Q : Bool → Hp → Prop) : Prop
  | mk (ρ : Rho) (H₀ : Hp) (F : Addr → Bool) (δ : DSt) (r : Except XD Bool) (R : RS ρ K H₀ H F O σ δ) (hf : f δ = some r) (k : match (generalizing := false) r with
    | .ok b => ∀ H', Same H H' → Q b H'
    | .error x => okX K H₀ E x)
noncomputable def DT (X : Cx) (O : List Nat) (E : XK) (e : Expr) (f : DSt → M Bool) : Prop := PT X e (tB X.K O E f)
inductive tL (K : PySem.W.Frag) (O : List Nat) (E : XK) (f : DSt → M (List D)) (σ : St) (H : Hp) (Q : List V → Hp → Prop) : Prop
  | mk (ρ : Rho) (H₀ : Hp) (F : Addr → Bool) (δ : DSt) (r : Except XD (List D)) (R : RS ρ K H₀ H F O σ δ) (hf : f δ = some r) (k : match (generalizing := false) r with
    | .ok ds => ∀ vs H', Same H H' → Reps ρ K (hid H' (fob F σ O)) ds vs → Q vs H'
    | .error x => okX K H₀ E x)
noncomputable def DA (X : Cx) (O : List Nat) (E : XK) (es : List Expr) (f : DSt → M (List D)) : Prop := PA X es (tL X.K O E f)
noncomputable def fVar (i : Nat) : DSt → M D := fun δ => M.o (δ[i]?).join
noncomputable def fC (d : D) : DSt → M D := fun _ => M.p d
noncomputable def f2 (g : D → D → Option D) (fa fb : DSt → M D) : DSt → M D := fun δ => (fa δ).b fun x => (fb δ).b fun y => M.o (g x y)
noncomputable def f1 (g : D → Option D) (fa : DSt → M D) : DSt → M D := fun δ => (fa δ).b fun x => M.o (g x)
noncomputable def t2 (g : D → D → Option D) (fa fb : DSt → M D) : DSt → M Bool := fun δ => (fa δ).b fun x => (fb δ).b fun y => match g x y with
  | some (.bl b) => M.p b
  | _ => none
noncomputable def fNil : DSt → M (List D) := fun _ => M.p []
noncomputable def fCons (f : DSt → M D) (g : DSt → M (List D)) : DSt → M (List D) := fun δ => (f δ).b fun x => (g δ).b fun xs => M.p (x :: xs)
noncomputable def fL (k : List D → Option D) (g : DSt → M (List D)) : DSt → M D := fun δ => (g δ).b fun xs => M.o (k xs)
section
variable {ρ : Rho} {X : Cx} {O : List Nat} {E : XK} {a b c e : Expr} {es : List Expr} {fa fb fc : DSt → M D} {fl : DSt → M (List D)} {pos : Pos}
theorem join_some {δ : DSt} {i : Nat} {d : D} (h : (δ[i]?).join = some d) : δ[i]? = some (some d) := by
  cases e : δ[i]? with
  | none => rw [e] at h; cases h
  | some o => rw [e] at h; exact congrArg some h
theorem de_var (i : Nat) {x : Str} (ho : autoParam (O.contains i = false) zau2._auto_1) (hN : autoParam (X.N[i]? = some x) zau2._auto_1) (hv : autoParam (Vis X.env.scope x) zau5._auto_1)
    (hd : autoParam ((x == ("__debug__" : Str)) = false) zau1._auto_1) (hcd : autoParam ((x == ("__classdict__" : Str)) = false) zau1._auto_1) : DE X O E (.Name x pos) (fVar i) := by
  rintro pins s σ H Q I ⟨ρ, H₀, F, δ, r, R, hf, h⟩
  obtain ⟨d, e, rfl⟩ := M.o_inv hf
  have ho' : i ∉ O := fun z => by rw [List.contains_iff_mem.mpr z] at ho; cases ho
  obtain ⟨v, q1, q2⟩ := R.val i d (join_some e) ho'
  exact pe_var hN hv hd hcd pins s σ H Q I ⟨v, q1, h v H (Same.refl H) q2⟩
theorem de_lit {t : TE} {d : D} {v : V} (h : PE X e (tC v)) (hr : ∀ ρ H, Rep ρ X.K H d v) : DE X O E e (fC d) := by
  rintro pins s σ H Q I ⟨ρ, H₀, F, δ, r, R, hf, k⟩
  cases hf
  exact h pins s σ H Q I (k v H (Same.refl H) (hr _ _))
theorem de_int {i : Int} {j} : DE X O E (.Constant (.int i) j pos) (fC (.int i)) := de_lit (t := tC (.int i)) pe_int fun _ _ => rep_int.mpr rfl
theorem de_bl {k : Bool} {j} : DE X O E (.Constant (.bool k) j pos) (fC (.bl k)) := de_lit (t := tC (.bl k)) pe_bl fun _ _ => rep_bl.mpr rfl
theorem de_non {j} : DE X O E (.Constant .none j pos) (fC .non) := de_lit (t := tC .non) pe_non fun _ _ => rep_non.mpr rfl
theorem de_str {x : Str} {j} : DE X O E (.Constant (.str x) j pos) (fC (.str x)) := de_lit (t := tC (.str x)) pe_str fun _ _ => rep_str.mpr rfl
noncomputable def OpD (K : PySem.W.Frag) (g : D → D → Option D) (r : R2) : Prop := ∀ x y d, g x y = some d → ∀ (ρ : Rho) (H : Hp) (G : Addr → Bool) u v (Q : VK), (∀ p, H p = none → G p = false) → Rep ρ K (hid H G) x u → Rep ρ K (hid H G) y v →
  (∀ w H', Same H H' → Rep ρ K (hid H' G) d w → Q w H') → r u v H Q
noncomputable def UnD (K : PySem.W.Frag) (g : D → Option D) (r : V → Hp → VK → Prop) : Prop := ∀ x d, g x = some d → ∀ (ρ : Rho) (H : Hp) (G : Addr → Bool) u (Q : VK), (∀ p, H p = none → G p = false) → Rep ρ K (hid H G) x u →
  (∀ w H', Same H H' → Rep ρ K (hid H' G) d w → Q w H') → r u H Q
noncomputable def CaD (K : PySem.W.Frag) (g : List D → Option D) (r : List V → Hp → VK → Prop) : Prop := ∀ xs d, g xs = some d → ∀ (ρ : Rho) (H : Hp) (G : Addr → Bool) us (Q : VK), (∀ p, H p = none → G p = false) → Reps ρ K (hid H G) xs us →
  (∀ w H', Same H H' → Rep ρ K (hid H' G) d w → Q w H') → r us H Q
theorem bin_in {g : D → D → Option D} {r : R2} {σ : St} {H : Hp} {Q : VK} (hg : OpD X.K g r) (h : tD X.K O E (f2 g fa fb) σ H Q) : tOp r (tD X.K O E fa) (tD X.K O E fb) σ H Q := by
  obtain ⟨ρ, H₀, F, δ, rr, R, hf, h⟩ := h
  rcases M.b_inv hf with ⟨x, e1, hf⟩ | ⟨x, e1, rfl⟩
  · refine ⟨ρ, H₀, F, δ, .ok x, R, e1, fun u H1 s1 r1 => ?_⟩
    rcases M.b_inv hf with ⟨y, e2, hf⟩ | ⟨y, e2, rfl⟩
    · refine ⟨ρ, H₀, F, δ, .ok y, R.mono s1, e2, fun v H2 s2 r2 => ?_⟩
      obtain ⟨d, hd, rfl⟩ := M.o_inv hf
      exact hg x y d hd ρ H2 _ u v Q (fun p hp => (R.mono (s1.trans s2)).fresh hp) (r1.mono (same_hid s2)) r2 fun w H3 s3 r3 => h w H3 (s1.trans (s2.trans s3)) r3
    · exact ⟨ρ, H₀, F, δ, .error y, R.mono s1, e2, h⟩
  · exact ⟨ρ, H₀, F, δ, .error x, R, e1, h⟩
theorem de_op {op : Operator} {g : D → D → Option D} {r : R2} (ho : OpR X (binaryOp op) r) (hg : OpD X.K g r) (ha : DE X O E a fa) (hb : DE X O E b fb) : DE X O E (.BinOp a op b pos) (f2 g fa fb) :=
  fun pins s σ H Q I h => pe_op ho ha hb pins s σ H Q I (bin_in hg h)
theorem de_ix {g : D → D → Option D} {r : R2} (ho : IxR X r) (hg : OpD X.K g r) (ha : DE X O E a fa) (hb : DE X O E b fb) (hs : autoParam (PlainIx b) zau6._auto_1) : DE X O E (.Subscript a b pos) (f2 g fa fb) :=
  fun pins s σ H Q I h => pe_ix ho ha hb hs pins s σ H Q I (bin_in hg h)
theorem de_cmp {op : CmpOp} {g : D → D → Option D} {r : R2} (ho : OpR X (compareOp op) r) (hg : OpD X.K g r) (ha : DE X O E a fa) (hb : DE X O E b fb) (hm : behindInMarks op b = false) : DE X O E (.Compare a [op] [b] pos) (f2 g fa fb) :=
  fun pins s σ H Q I h => pe_cmpR ho ha hb hm pins s σ H Q I (bin_in hg h)
theorem dt_cmp {op : CmpOp} {g : D → D → Option D} {r : R2} (ho : OpR X (compareOp op) r) (hg : OpD X.K g r) (ha : DE X O E a fa) (hb : DE X O E b fb) (hm : behindInMarks op b = false) : DT X O E (.Compare a [op] [b] pos) (t2 g fa fb) := by
  rintro pins s σ H Q I ⟨ρ, H₀, F, δ, rr, R, hf, h⟩
  refine pt_cmpR ho ha hb hm pins s σ H Q I (bin_in (r := r) hg ?_)
  have key : ∃ r' : Except XD D, f2 g fa fb δ = some r' ∧ (match r', rr with | .ok d, .ok b => d = .bl b | .error x, .error y => x = y | _, _ => False) := by
    rcases M.b_inv hf with ⟨x, e1, hf⟩ | ⟨x, e1, rfl⟩
    · rcases M.b_inv hf with ⟨y, e2, hf⟩ | ⟨y, e2, rfl⟩
      · unfold f2
        rw [e1, M.b_ok, e2, M.b_ok]
        cases e3 : g x y with
        | none => rw [e3] at hf; cases hf
        | some d =>
          rw [e3] at hf
          cases d with
          | bl k => cases hf; exact ⟨_, rfl, rfl⟩
          | _ => cases hf
      · exact ⟨.error y, by unfold f2; rw [e1, M.b_ok, e2]; rfl, rfl⟩
    · exact ⟨.error x, by unfold f2; rw [e1]; rfl, rfl⟩
  obtain ⟨r', e, q⟩ := key
  refine ⟨ρ, H₀, F, δ, r', R, e, ?_⟩
  cases r' with
  | error x => cases rr with
    | error y => cases q; exact h
    | ok _ => exact q.elim
  | ok d => cases rr with
    | error y => exact q.elim
    | ok k =>
      cases q
      exact fun v H' s' rv => ⟨k, rep_bl.mp rv, h H' s'⟩
theorem un_in {g : D → Option D} {r : V → Hp → VK → Prop} {σ : St} {H : Hp} {Q : VK} (hg : UnD X.K g r) (h : tD X.K O E (f1 g fa) σ H Q) : tUn r (tD X.K O E fa) σ H Q := by
  obtain ⟨ρ, H₀, F, δ, rr, R, hf, h⟩ := h
  rcases M.b_inv hf with ⟨x, e1, hf⟩ | ⟨x, e1, rfl⟩
  · refine ⟨ρ, H₀, F, δ, .ok x, R, e1, fun u H1 s1 r1 => ?_⟩
    obtain ⟨d, hd, rfl⟩ := M.o_inv hf
    exact hg x d hd ρ H1 _ u Q (fun p hp => (R.mono s1).fresh hp) r1 fun w H3 s3 r3 => h w H3 (s1.trans s3) r3
  · exact ⟨ρ, H₀, F, δ, .error x, R, e1, h⟩
theorem de_un {op : UnaryOp} {g : D → Option D} {r : V → Hp → VK → Prop} (ho : UnR X (unaryOp op) r) (hg : UnD X.K g r) (ha : DE X O E a fa) : DE X O E (.UnaryOp op a pos) (f1 g fa) :=
  fun pins s σ H Q I h => pe_un ho ha pins s σ H Q I (un_in hg h)
theorem da_nil : DA X O E [] fNil := by
  rintro p pins s σ H Q I ⟨ρ, H₀, F, δ, r, R, hf, h⟩
  cases hf
  exact pa_nil p pins s σ H Q I (h [] H (Same.refl H) Reps.nil)
theorem da_cons (ha : DE X O E e fa) (hr : DA X O E es fl) (hs : autoParam (starEach (e :: es) X.env = (false, eval e X.env) :: starEach es X.env) zau2._auto_1) : DA X O E (e :: es) (fCons fa fl) := by
  rintro p pins s σ H Q I ⟨ρ, H₀, F, δ, r, R, hf, h⟩
  refine pa_cons ha hr hs p pins s σ H Q I ?_
  rcases M.b_inv hf with ⟨x, e1, hf⟩ | ⟨x, e1, rfl⟩
  · refine ⟨ρ, H₀, F, δ, .ok x, R, e1, fun u H1 s1 r1 => ?_⟩
    rcases M.b_inv hf with ⟨xs, e2, hf⟩ | ⟨y, e2, rfl⟩
    · cases hf
      exact ⟨ρ, H₀, F, δ, .ok xs, R.mono s1, e2, fun vs H2 s2 r2 => h (u :: vs) H2 (s1.trans s2) (Reps.cons (r1.mono (same_hid s2)) r2)⟩
    · exact ⟨ρ, H₀, F, δ, .error y, R.mono s1, e2, h⟩
  · exact ⟨ρ, H₀, F, δ, .error x, R, e1, h⟩
theorem list_in {k : List D → Option D} {r : List V → Hp → VK → Prop} {σ : St} {H : Hp} {Q : VK} (hg : CaD X.K k r) (h : tD X.K O E (fL k fl) σ H Q) : tCB r (tL X.K O E fl) σ H Q := by
  obtain ⟨ρ, H₀, F, δ, rr, R, hf, h⟩ := h
  rcases M.b_inv hf with ⟨x, e1, hf⟩ | ⟨x, e1, rfl⟩
  · refine ⟨ρ, H₀, F, δ, .ok x, R, e1, fun u H1 s1 r1 => ?_⟩
    obtain ⟨d, hd, rfl⟩ := M.o_inv hf
    exact hg x d hd ρ H1 _ u Q (fun p hp => (R.mono s1).fresh hp) r1 fun w H3 s3 r3 => h w H3 (s1.trans s3) r3
  · exact ⟨ρ, H₀, F, δ, .error x, R, e1, h⟩
theorem de_callB {k : List D → Option D} {r : List V → Hp → VK → Prop} {x : Str} {id : String} {p : Pos} (hc : CallR X (.builtin id) r) (hg : CaD X.K k r) (hG : Gl X x) (hm : X.mg x = none) (hv : bootBuiltins x = some (.builtin id)) (ha : DA X O E (e :: es) fl)
    (hn : autoParam (x ≠ "__name__") zau1._auto_1) (hdb : autoParam ((x == ("__debug__" : Str)) = false) zau1._auto_1) (he : autoParam (starEach (e :: es) X.env = (false, eval e X.env) :: starEach es X.env) zau2._auto_1) (hpl : autoParam ((backTo pos (starEach es X.env)).any (·.1) = false) zau2._auto_1) :
    DE X O E (.Call (.Name x p) (e :: es) [] pos) (fL k fl) := fun pins s σ H Q I h => pe_callB hc hG hm hv ha hn hdb he hpl pins s σ H Q I (list_in hg h)
theorem de_callTy {k : List D → Option D} {r : List V → Hp → VK → Prop} {x : Str} {T : String} {p : Pos} (hc : CallR X (.type T) r) (hg : CaD X.K k r) (hG : Gl X x) (hm : X.mg x = none) (hv : bootBuiltins x = some (.type T)) (ha : DA X O E (e :: es) fl)
    (hn : autoParam (x ≠ "__name__") zau1._auto_1) (hdb : autoParam ((x == ("__debug__" : Str)) = false) zau1._auto_1) (he : autoParam (starEach (e :: es) X.env = (false, eval e X.env) :: starEach es X.env) zau2._auto_1) (hpl : autoParam ((backTo pos (starEach es X.env)).any (·.1) = false) zau2._auto_1) :
    DE X O E (.Call (.Name x p) (e :: es) [] pos) (fL k fl) := fun pins s σ H Q I h => pe_callTy hc hG hm hv ha hn hdb he hpl pins s σ H Q I (list_in hg h)
noncomputable def gTupD (xs : List D) : Option D := if xs.length ≤ sizeLine then some (.tup xs) else none
noncomputable def gLstD (xs : List D) : Option D := if xs.length ≤ sizeLine then some (.lst xs) else none
theorem rep_new_tup {ρ : Rho} {K : PySem.W.Frag} {H : Hp} {G : Addr → Bool} {p : Addr} {vs : List V} {ds : List D} (hp : H p = none) (hG : G p = false) (h : Reps ρ K (hid H G) ds vs) : Rep ρ K (hid (upd H p (.tup vs)) G) (.tup ds) (.ref p) :=
  rep_tup.mpr ⟨p, vs, rfl, SqT.of (hid_some.mpr ⟨hG, upd_same⟩), h.mono (same_hid (same_upd hp))⟩
theorem rep_new_lst {ρ : Rho} {K : PySem.W.Frag} {H : Hp} {G : Addr → Bool} {p : Addr} {vs : List V} {ds : List D} (hp : H p = none) (hG : G p = false) (h : Reps ρ K (hid H G) ds vs) : Rep ρ K (hid (upd H p (.lst vs)) G) (.lst ds) (.ref p) :=
  rep_lst.mpr ⟨p, vs, rfl, SqL.of (hid_some.mpr ⟨hG, upd_same⟩), h.mono (same_hid (same_upd hp))⟩
theorem de_tup {x1} (h : DA X O E es fl) : DE X O E (.Tuple es x1 pos) (fL gTupD fl) := by
  rintro pins s σ H Q I ⟨ρ, H₀, F, δ, rr, R, hf, k⟩
  refine pe_tup h pins s σ H Q I ?_
  rcases M.b_inv hf with ⟨x, e1, hf⟩ | ⟨x, e1, rfl⟩
  · refine ⟨ρ, H₀, F, δ, .ok x, R, e1, fun u H1 s1 r1 => ?_⟩
    obtain ⟨d, hd, rfl⟩ := M.o_inv hf
    unfold gTupD at hd
    split at hd
    · rename_i hz
      cases hd
      exact ⟨by rw [r1.length]; exact hz, fun p hp => k _ _ (s1.trans (same_upd hp)) (rep_new_tup hp ((R.mono s1).fresh hp) r1)⟩
    · cases hd
  · exact ⟨ρ, H₀, F, δ, .error x, R, e1, k⟩
theorem de_lst (h : DA X O E es fl) : DE X O E (.List es pos) (fL gLstD fl) := by
  rintro pins s σ H Q I ⟨ρ, H₀, F, δ, rr, R, hf, k⟩
  refine pe_lst h pins s σ H Q I ?_
  rcases M.b_inv hf with ⟨x, e1, hf⟩ | ⟨x, e1, rfl⟩
  · refine ⟨ρ, H₀, F, δ, .ok x, R, e1, fun u H1 s1 r1 => ?_⟩
    obtain ⟨d, hd, rfl⟩ := M.o_inv hf
    unfold gLstD at hd
    split at hd
    · rename_i hz
      cases hd
      exact ⟨by rw [r1.length]; exact hz, fun p hp => k _ _ (s1.trans (same_upd hp)) (rep_new_lst hp ((R.mono s1).fresh hp) r1)⟩
    · cases hd
  · exact ⟨ρ, H₀, F, δ, .error x, R, e1, k⟩
noncomputable def fAnd (fa fb : DSt → M D) : DSt → M D := fun δ => (fa δ).b fun x => match x with
  | .bl true => fb δ
  | .bl false => M.p (.bl false)
  | _ => none
noncomputable def fOr (fa fb : DSt → M D) : DSt → M D := fun δ => (fa δ).b fun x => match x with
  | .bl true => M.p (.bl true)
  | .bl false => fb δ
  | _ => none
noncomputable def gNot : D → Option D
  | .bl b => some (.bl !b)
  | _ => none
noncomputable def tAnd (ta tb : DSt → M Bool) : DSt → M Bool := fun δ => (ta δ).b fun x => if x = true then tb δ else M.p false
noncomputable def tOr (ta tb : DSt → M Bool) : DSt → M Bool := fun δ => (ta δ).b fun x => if x = true then M.p true else tb δ
noncomputable def tNot (ta : DSt → M Bool) : DSt → M Bool := fun δ => (ta δ).b fun x => M.p !x
noncomputable def fIf (tc : DSt → M Bool) (fa fb : DSt → M D) : DSt → M D := fun δ => (tc δ).b fun x => if x = true then fa δ else fb δ
variable {rest : List Expr} {ta tb' tc : DSt → M Bool}
theorem de_one {op} (h : DE X O E a fa) : DE X O E (.BoolOp op [a] pos) fa := fun pins s σ H Q I hw => pe_one h pins s σ H Q I hw
theorem de_and (ha : DE X O E a fa) (hb : DE X O E (.BoolOp .And (b :: rest) pos) fb) : DE X O E (.BoolOp .And (a :: b :: rest) pos) (fAnd fa fb) := by
  rintro pins s σ H Q I ⟨ρ, H₀, F, δ, rr, R, hf, k⟩
  refine pe_and ha hb pins s σ H Q I ?_
  rcases M.b_inv hf with ⟨x, e1, hf⟩ | ⟨x, e1, rfl⟩
  · refine ⟨ρ, H₀, F, δ, .ok x, R, e1, fun u H1 s1 r1 => ?_⟩
    cases x with
    | bl z =>
      refine ⟨z, rep_bl.mp r1, ?_⟩
      cases z with
      | true =>
        refine iteT ⟨ρ, H₀, F, δ, rr, R.mono s1, hf, ?_⟩
        cases rr with
        | ok d => exact fun v H' s' r' => k v H' (s1.trans s') r'
        | error y => exact k
      | false =>
        refine iteF ?_
        cases hf
        exact k _ H1 s1 (rep_bl.mpr rfl)
    | _ => cases hf
  · exact ⟨ρ, H₀, F, δ, .error x, R, e1, k⟩
theorem de_or (ha : DE X O E a fa) (hb : DE X O E (.BoolOp .Or (b :: rest) pos) fb) : DE X O E (.BoolOp .Or (a :: b :: rest) pos) (fOr fa fb) := by
  rintro pins s σ H Q I ⟨ρ, H₀, F, δ, rr, R, hf, k⟩
  refine pe_or ha hb pins s σ H Q I ?_
  rcases M.b_inv hf with ⟨x, e1, hf⟩ | ⟨x, e1, rfl⟩
  · refine ⟨ρ, H₀, F, δ, .ok x, R, e1, fun u H1 s1 r1 => ?_⟩
    cases x with
    | bl z =>
      refine ⟨z, rep_bl.mp r1, ?_⟩
      cases z with
      | true =>
        refine iteT ?_
        cases hf
        exact k _ H1 s1 (rep_bl.mpr rfl)
      | false =>
        refine iteF ⟨ρ, H₀, F, δ, rr, R.mono s1, hf, ?_⟩
        cases rr with
        | ok d => exact fun v H' s' r' => k v H' (s1.trans s') r'
        | error y => exact k
    | _ => cases hf
  · exact ⟨ρ, H₀, F, δ, .error x, R, e1, k⟩
theorem de_not (ha : DE X O E a fa) : DE X O E (.UnaryOp .Not a pos) (f1 gNot fa) := by
  rintro pins s σ H Q I ⟨ρ, H₀, F, δ, rr, R, hf, k⟩
  refine pe_not ha pins s σ H Q I ?_
  rcases M.b_inv hf with ⟨x, e1, hf⟩ | ⟨x, e1, rfl⟩
  · refine ⟨ρ, H₀, F, δ, .ok x, R, e1, fun u H1 s1 r1 => ?_⟩
    cases x with
    | bl z => cases hf; exact ⟨z, rep_bl.mp r1, k _ H1 s1 (rep_bl.mpr rfl)⟩
    | _ => cases hf
  · exact ⟨ρ, H₀, F, δ, .error x, R, e1, k⟩
noncomputable def DW (X : Cx) (O : List Nat) (E : XK) (e : Expr) (f : DSt → M Bool) : Prop := PW X e (tB X.K O E f)
theorem DW.dt {f : DSt → M Bool} (h : DW X O E e f) : DT X O E e f := PW.pt h
theorem dw_and1 (ha : DT X O E a ta) : DW X O E (.BoolOp .And [a] pos) ta := pw_and1 ha
theorem dw_or1 (ha : DT X O E a ta) : DW X O E (.BoolOp .Or [a] pos) ta := pw_or1 ha
theorem dw_and (ha : DT X O E a ta) (hb : DW X O E (.BoolOp .And (b :: rest) pos) tb') : DW X O E (.BoolOp .And (a :: b :: rest) pos) (tAnd ta tb') := by
  rintro wh pins s σ H Q I ⟨ρ, H₀, F, δ, rr, R, hf, k⟩
  refine pw_and ha hb wh pins s σ H Q I ?_
  rcases M.b_inv hf with ⟨x, e1, hf⟩ | ⟨x, e1, rfl⟩
  · refine ⟨ρ, H₀, F, δ, .ok x, R, e1, fun H1 s1 => ?_⟩
    cases x with
    | true =>
      refine iteT ⟨ρ, H₀, F, δ, rr, R.mono s1, hf, ?_⟩
      cases rr with
      | ok d => exact fun H' s' => k H' (s1.trans s')
      | error y => exact k
    | false => cases hf; exact iteF (k H1 s1)
  · exact ⟨ρ, H₀, F, δ, .error x, R, e1, k⟩
theorem dw_or (ha : DT X O E a ta) (hb : DW X O E (.BoolOp .Or (b :: rest) pos) tb') : DW X O E (.BoolOp .Or (a :: b :: rest) pos) (tOr ta tb') := by
  rintro wh pins s σ H Q I ⟨ρ, H₀, F, δ, rr, R, hf, k⟩
  refine pw_or ha hb wh pins s σ H Q I ?_
  rcases M.b_inv hf with ⟨x, e1, hf⟩ | ⟨x, e1, rfl⟩
  · refine ⟨ρ, H₀, F, δ, .ok x, R, e1, fun H1 s1 => ?_⟩
    cases x with
    | true => cases hf; exact iteT (k H1 s1)
    | false =>
      refine iteF ⟨ρ, H₀, F, δ, rr, R.mono s1, hf, ?_⟩
      cases rr with
      | ok d => exact fun H' s' => k H' (s1.trans s')
      | error y => exact k
  · exact ⟨ρ, H₀, F, δ, .error x, R, e1, k⟩
theorem dt_not (ha : DT X O E a ta) : DT X O E (.UnaryOp .Not a pos) (tNot ta) := by
  rintro pins s σ H Q I ⟨ρ, H₀, F, δ, rr, R, hf, k⟩
  refine pt_not ha pins s σ H Q I ?_
  rcases M.b_inv hf with ⟨x, e1, hf⟩ | ⟨x, e1, rfl⟩
  · cases hf
    exact ⟨ρ, H₀, F, δ, .ok x, R, e1, fun H1 s1 => k H1 s1⟩
  · exact ⟨ρ, H₀, F, δ, .error x, R, e1, k⟩
noncomputable def truD : D → Option Bool
  | .non => some false
  | .bl b => some b
  | .int i => some (i != 0)
  | .str x => if x.length ≤ sizeLine then some ((x.length : Int) != 0) else none
  | .tup xs => some !xs.isEmpty
  | .lst xs => some !xs.isEmpty
  | _ => none
noncomputable def tTru (fa : DSt → M D) : DSt → M Bool := fun δ => (fa δ).b fun x => M.o (truD x)
theorem isE {ρ : Rho} {K : PySem.W.Frag} {H : Hp} {ds : List D} {xs : List V} (h : Reps ρ K H ds xs) : xs.isEmpty = ds.isEmpty := by
  cases ds with
  | nil => rw [reps_nil.mp h]; rfl
  | cons d ds => obtain ⟨v, r, rfl, _⟩ := reps_cons.mp h; rfl
theorem dt_val (ha : DE X O E a fa) (he : autoParam (∀ whole, isTrue a X.env whole = (do let v ← whole; standAt a.pos; holding [v] (truthy v))) zau7._auto_1) : DT X O E a (tTru fa) := by
  rintro pins s σ H Q I ⟨ρ, H₀, F, δ, rr, R, hf, k⟩
  refine pt_truth ha he pins s σ H Q I ?_
  rcases M.b_inv hf with ⟨x, e1, hf⟩ | ⟨x, e1, rfl⟩
  · refine ⟨ρ, H₀, F, δ, .ok x, R, e1, fun u H1 s1 r1 => ?_⟩
    obtain ⟨z, hz, rfl⟩ := M.o_inv hf
    refine ⟨z, ?_, k H1 s1⟩
    cases x with
    | non => cases hz; rw [rep_non.mp r1]; rfl
    | bl y => cases hz; rw [rep_bl.mp r1]; rfl
    | int i => cases hz; rw [rep_int.mp r1]; rfl
    | str y =>
      by_cases hl : y.length ≤ sizeLine
      · have e : truD (.str y) = some ((y.length : Int) != 0) := if_pos hl
        rw [e] at hz; cases hz
        rw [rep_str.mp r1]; exact ⟨hl, rfl⟩
      · have e : truD (.str y) = none := if_neg hl
        rw [e] at hz; cases hz
    | tup ds =>
      cases hz
      obtain ⟨q, xs, rfl, q2, q3⟩ := rep_tup.mp r1
      exact .inr ⟨xs, same_t same_un q2, by rw [isE q3]⟩
    | lst ds =>
      cases hz
      obtain ⟨q, xs, rfl, q2, q3⟩ := rep_lst.mp r1
      exact .inl ⟨xs, same_l same_un q2, by rw [isE q3]⟩
    | ty n => cases hz
    | obj n => cases hz
  · exact ⟨ρ, H₀, F, δ, .error x, R, e1, k⟩
theorem de_ifx (hc : DT X O E c tc) (ha : DE X O E a fa) (hb : DE X O E b fb) : DE X O E (.IfExp c a b pos) (fIf tc fa fb) := by
  rintro pins s σ H Q I ⟨ρ, H₀, F, δ, rr, R, hf, k⟩
  refine pe_ifExp hc ha hb pins s σ H Q I ?_
  rcases M.b_inv hf with ⟨x, e1, hf⟩ | ⟨x, e1, rfl⟩
  · refine ⟨ρ, H₀, F, δ, .ok x, R, e1, fun H1 s1 => ?_⟩
    cases x with
    | true =>
      refine iteT ⟨ρ, H₀, F, δ, rr, R.mono s1, hf, ?_⟩
      cases rr with
      | ok d => exact fun v H' s' r' => k v H' (s1.trans s') r'
      | error y => exact k
    | false =>
      refine iteF ⟨ρ, H₀, F, δ, rr, R.mono s1, hf, ?_⟩
      cases rr with
      | ok d => exact fun v H' s' r' => k v H' (s1.trans s') r'
      | error y => exact k
  · exact ⟨ρ, H₀, F, δ, .error x, R, e1, k⟩
noncomputable def fChain (g g' : D → D → Option D) (fa fb fc : DSt → M D) : DSt → M D := fun δ => (fa δ).b fun x => (fb δ).b fun y => match g x y with
  | some (.bl true) => (fc δ).b fun z => M.o (g' y z)
  | some (.bl false) => M.p (.bl false)
  | _ => none
theorem de_chain {op op' : CmpOp} {g g' : D → D → Option D} {r r' : R2} (ho : OpR X (compareOp op) r) (hg : OpD X.K g r) (ho' : OpR X (compareOp op') r') (hg' : OpD X.K g' r') (ha : DE X O E a fa) (hb : DE X O E b fb) (hc : DE X O E c fc)
    (hm : autoParam (lastMarks [op, op'] [b, c] = false) zau4._auto_1) : DE X O E (.Compare a [op, op'] [b, c] pos) (fChain g g' fa fb fc) := by
  rintro pins s σ H Q I ⟨ρ, H₀, F, δ, rr, R, hf, k⟩
  refine pe_chain ho ho' ha hb hc hm pins s σ H Q I ?_
  rcases M.b_inv hf with ⟨x, e1, hf⟩ | ⟨x, e1, rfl⟩
  · refine ⟨ρ, H₀, F, δ, .ok x, R, e1, fun u H1 s1 r1 => ?_⟩
    rcases M.b_inv hf with ⟨y, e2, hf⟩ | ⟨y, e2, rfl⟩
    · refine ⟨ρ, H₀, F, δ, .ok y, R.mono s1, e2, fun v H2 s2 r2 => ?_⟩
      cases e3 : g x y with
      | none => rw [e3] at hf; cases hf
      | some d =>
        rw [e3] at hf
        cases d with
        | bl z =>
          refine hg x y _ e3 ρ H2 _ u v _ (fun p hp => (R.mono (s1.trans s2)).fresh hp) (r1.mono (same_hid s2)) r2 fun w H3 s3 r3 => ⟨z, rep_bl.mp r3, ?_⟩
          cases z with
          | true =>
            refine iteT ?_
            rcases M.b_inv hf with ⟨z, e4, hf⟩ | ⟨z, e4, rfl⟩
            · refine ⟨ρ, H₀, F, δ, .ok z, R.mono (s1.trans (s2.trans s3)), e4, fun t H4 s4 r4 => ?_⟩
              obtain ⟨d, hd, rfl⟩ := M.o_inv hf
              exact hg' y z d hd ρ H4 _ v t Q (fun p hp => (R.mono (s1.trans (s2.trans (s3.trans s4)))).fresh hp) (r2.mono (same_hid (s3.trans s4))) r4 fun w H5 s5 r5 => k w H5 (s1.trans (s2.trans (s3.trans (s4.trans s5)))) r5
            · exact ⟨ρ, H₀, F, δ, .error z, R.mono (s1.trans (s2.trans s3)), e4, k⟩
          | false =>
            refine iteF ?_
            cases hf
            exact k _ H3 (s1.trans (s2.trans s3)) (rep_bl.mpr rfl)
        | _ => cases hf
    · exact ⟨ρ, H₀, F, δ, .error y, R.mono s1, e2, k⟩
  · exact ⟨ρ, H₀, F, δ, .error x, R, e1, k⟩
end
end DL
namespace DL
open PySem PySem.Spec L2
inductive Out where
  | nx (δ : DSt) | rt (d : D) | bk (δ : DSt) | ct (δ : DSt)
noncomputable def Ok (ρ : Rho) (K : PySem.W.Frag) (O' B : List Nat) (E : XK) (H₀ : Hp) (F : Addr → Bool) (Hv : Hp) (Dn : Ends) : Except XD Out → Prop
  | .ok (.nx δ') => ∀ σ' H', Same Hv (hid H' (fob F σ' O')) → RS ρ K H₀ H' F O' σ' δ' → Dn.nx σ' H'
  | .ok (.rt d) => ∀ v H', Same H₀ H' → Rep ρ K (hid H' F) d v → Dn.rt v H'
  | .ok (.bk δ') => ∀ σ' H', Same Hv (hid H' (fob F σ' B)) → RS ρ K H₀ H' F B σ' δ' → Dn.bk σ' H'
  | .ok (.ct δ') => ∀ σ' H', Same Hv (hid H' (fob F σ' B)) → RS ρ K H₀ H' F B σ' δ' → Dn.ct σ' H'
  | .error x => okX K H₀ E x
inductive sD (K : PySem.W.Frag) (O O' B : List Nat) (E : XK) (g : DSt → M Out) (Dn : Ends) (σ : St) (H : Hp) : Prop
  | mk (ρ : Rho) (H₀ : Hp) (F : Addr → Bool) (δ : DSt) (r : Except XD Out) (R : RS ρ K H₀ H F O σ δ) (hf : g δ = some r) (k : Ok ρ K O' B E H₀ F (hid H (fob F σ O)) Dn r)
noncomputable def DS (X : Cx) (O O' B : List Nat) (E : XK) (st : Stmt) (g : DSt → M Out) : Prop := PS X st (sD X.K O O' B E g)
noncomputable def DSs (X : Cx) (O O' B : List Nat) (E : XK) (st : List Stmt) (g : DSt → M Out) : Prop := PSs X st (sD X.K O O' B E g)
theorem Ok.back {ρ : Rho} {K : PySem.W.Frag} {O' B : List Nat} {E : XK} {H₀ : Hp} {F : Addr → Bool} {Hv Hv' : Hp} {Dn : Ends} {r : Except XD Out} (e : Same Hv Hv') (h : Ok ρ K O' B E H₀ F Hv Dn r) : Ok ρ K O' B E H₀ F Hv' Dn r := by
  cases r with
  | error x => exact h
  | ok o =>
    cases o with
    | nx δ' => exact fun σ' H' f => h σ' H' (e.trans f)
    | bk δ' => exact fun σ' H' f => h σ' H' (e.trans f)
    | ct δ' => exact fun σ' H' f => h σ' H' (e.trans f)
    | rt d => exact h
noncomputable def gNx : DSt → M Out := fun δ => M.p (.nx δ)
noncomputable def gSeq (g1 g2 : DSt → M Out) : DSt → M Out := fun δ => (g1 δ).b fun o => match o with
  | .nx δ' => g2 δ'
  | o => M.p o
noncomputable def gSet (i : Nat) (f : DSt → M D) : DSt → M Out := fun δ => (f δ).b fun d => M.p (.nx (δ.set i (some d)))
noncomputable def gRet (f : DSt → M D) : DSt → M Out := fun δ => (f δ).b fun d => M.p (.rt d)
noncomputable def gDrop (f : DSt → M D) : DSt → M Out := fun δ => (f δ).b fun _ => M.p (.nx δ)
noncomputable def gIf (t : DSt → M Bool) (g1 g2 : DSt → M Out) : DSt → M Out := fun δ => (t δ).b fun b => if b = true then g1 δ else g2 δ
noncomputable def gBrk : DSt → M Out := fun δ => M.p (.bk δ)
noncomputable def gCnt : DSt → M Out := fun δ => M.p (.ct δ)
noncomputable def gNever : DSt → M Out := fun _ => none
noncomputable def gApp (i : Nat) (f : DSt → M D) : DSt → M Out := fun δ => (f δ).b fun d => match (δ[i]?).join with
  | some (.lst ds) => if ds.length < sizeLine then M.p (.nx (δ.set i (some (.lst (ds ++ [d]))))) else none
  | _ => none
noncomputable def forD (g : DSt → M Out) (tg : D → DSt → Option DSt) : List D → DSt → M Out
  | [], δ => M.p (.nx δ)
  | d :: ds, δ => match tg d δ with
    | none => none
    | some δ1 => (g δ1).b fun o => match o with
      | .nx δ' => forD g tg ds δ'
      | .ct δ' => forD g tg ds δ'
      | .bk δ' => M.p (.nx δ')
      | .rt v => M.p (.rt v)
noncomputable def gFor (fi : DSt → M (List D)) (tg : D → DSt → Option DSt) (g : DSt → M Out) : DSt → M Out := fun δ => (fi δ).b fun ds => forD g tg ds δ
noncomputable def whileD (t : DSt → M Bool) (g : DSt → M Out) : Nat → DSt → M Out
  | 0, _ => none
  | n + 1, δ => (t δ).b fun b => if b = true then (g δ).b fun o => match o with
      | .nx δ' => whileD t g n δ'
      | .ct δ' => whileD t g n δ'
      | .bk δ' => M.p (.nx δ')
      | .rt v => M.p (.rt v)
    else M.p (.nx δ)
section
variable {ρ : Rho} {X : Cx} {O O' O'' B : List Nat} {E : XK} {a b c e : Expr} {es : List Expr} {fa fb fc : DSt → M D} {fl : DSt → M (List D)} {pos : Pos} {st : Stmt} {rest : List Stmt} {g g1 g2 : DSt → M Out} {tc : DSt → M Bool}
theorem dss_nil : DSs X O O B E [] gNx := by
  rintro pins s σ H Dn I ⟨ρ, H₀, F, δ, r, R, hf, h⟩
  cases hf
  exact pss_nil pins s σ H Dn I (h σ H (Same.refl _) R)
theorem dss_cons (h1 : DS X O O' B E st g1) (h2 : DSs X O' O'' B E rest g2) : DSs X O O'' B E (st :: rest) (gSeq g1 g2) := by
  rintro pins s σ H Dn I ⟨ρ, H₀, F, δ, r, R, hf, h⟩
  refine pss_cons h1 h2 pins s σ H Dn I ?_
  rcases M.b_inv hf with ⟨o, e1, hf⟩ | ⟨x, e1, rfl⟩
  · refine ⟨ρ, H₀, F, δ, .ok o, R, e1, ?_⟩
    cases o with
    | nx δ' => exact fun σ' H' f R' => ⟨ρ, H₀, F, δ', r, R', hf, h.back f⟩
    | rt d => cases hf; exact h
    | bk δ' => cases hf; exact h
    | ct δ' => cases hf; exact h
  · exact ⟨ρ, H₀, F, δ, .error x, R, e1, h⟩
theorem dss_one (h1 : DS X O O' B E st g) : DSs X O O' B E [st] g := fun pins s σ H Dn I h => pss_one h1 pins s σ H Dn I h
theorem dss_pre {sts : List Stmt} (hO : ∀ i ∈ O', i ∈ O) (h : DSs X O' O'' B E sts g) : DSs X O O'' B E sts g := by
  rintro pins s σ H Dn I ⟨ρ, H₀, F, δ, r, R, hf, k⟩
  refine h pins s σ H Dn I ⟨ρ, H₀, F, δ, r, R.thaw hO, hf, k.back (hid_le fun b q => ?_)⟩
  rcases fob_t.mp q with q | ⟨i, hi, q⟩
  · exact fob_t.mpr (.inl q)
  · exact fob_t.mpr (.inr ⟨i, hO i hi, q⟩)
theorem le_own {F : Addr → Bool} {σ : St} {O O' : List Nat} (hO : ∀ i ∈ O', i ∈ O) : ∀ b, fob F σ O' b = true → fob F σ O b = true := fun b q => by
  rcases fob_t.mp q with q | ⟨i, hi, q⟩
  · exact fob_t.mpr (.inl q)
  · exact fob_t.mpr (.inr ⟨i, hO i hi, q⟩)
theorem same_fob {F : Addr → Bool} {σ : St} {H H' : Hp} {i : Nat} {v : V} (ho : i ∉ O) (s1 : Same H H') : Same (hid H (fob F σ O)) (hid H' (fob F (σ.set i (some v)) O)) := by
  rw [ownA_set ho]; exact same_hid s1
theorem ds_set {i : Nat} {x : Str} {pos' : Pos} (hN : X.N.Nodup) (he : DE X O E e fa) (ho : autoParam (O.contains i = false) zau2._auto_1) (hi : autoParam (X.N[i]? = some x) zau2._auto_1) (hx : autoParam (Loc X.env.scope x) zau8._auto_1) (hs : autoParam (swapsWith e (some (.Name x pos')) pos.line X.env = pure false) zau2._auto_1)
    (hf : autoParam (X.fn x = true ∨ X.env.scope.names.lookup x = some .local) zau0._auto_1) : DS X O O B E (.Assign [.Name x pos'] e pos) (gSet i fa) := by
  rintro pins s σ H Dn I ⟨ρ, H₀, F, δ, r, R, hg, k⟩
  have ho' : i ∉ O := fun z => by rw [List.contains_iff_mem.mpr z] at ho; cases ho
  refine ps_set hN hi hx he hs hf pins s σ H Dn I ?_
  rcases M.b_inv hg with ⟨d, e1, hg⟩ | ⟨y, e1, rfl⟩
  · cases hg
    exact ⟨ρ, H₀, F, δ, .ok d, R, e1, fun v H' s' r' => k _ H' (same_fob ho' s') ((R.mono s').set ho' r')⟩
  · exact ⟨ρ, H₀, F, δ, .error y, R, e1, k⟩
theorem ds_own {i : Nat} {x : Str} {pos' pos2 : Pos} (hN : X.N.Nodup) (h : DA X O E es fl) (ho : autoParam (O.contains i = false) zau2._auto_1) (hi : autoParam (X.N[i]? = some x) zau2._auto_1) (hx : autoParam (Loc X.env.scope x) zau8._auto_1) (hs : autoParam (swapsWith (.List es pos2) (some (.Name x pos')) pos.line X.env = pure false) zau2._auto_1)
    (hf : autoParam (X.fn x = true ∨ X.env.scope.names.lookup x = some .local) zau0._auto_1) : DS X O (i :: O) B E (.Assign [.Name x pos'] (.List es pos2) pos) (gSet i (fL gLstD fl)) := by
  rintro pins s σ H Dn I ⟨ρ, H₀, F, δ, r, R, hg, k⟩
  have ho' : i ∉ O := fun z => by rw [List.contains_iff_mem.mpr z] at ho; cases ho
  have hl : i < δ.length := by rw [← R.len, I.len]; exact (List.getElem?_eq_some_iff.mp hi).1
  refine ps_set hN hi hx (pe_lst h) hs hf pins s σ H Dn I ?_
  rcases M.b_inv hg with ⟨d, e1, hg⟩ | ⟨y, e1, rfl⟩
  · cases hg
    rcases M.b_inv e1 with ⟨ds, e1, hd⟩ | ⟨y, e1, z⟩
    · refine ⟨ρ, H₀, F, δ, .ok ds, R, e1, fun vs H1 s1 r1 => ?_⟩
      obtain ⟨d', hd', z⟩ := M.o_inv hd
      cases z
      unfold gLstD at hd'
      split at hd'
      · rename_i hz
        cases hd'
        refine ⟨by rw [r1.length]; exact hz, fun p hp => ?_⟩
        refine k _ _ ?_ (R.take ho' hl s1 hp r1)
        have pf := (R.mono s1).fresh hp
        have lσ : i < σ.length := by rw [R.len]; exact hl
        intro b o q
        obtain ⟨q1, q2⟩ := hid_some.mp q
        have q3 := s1 b o q2
        have hb : b ≠ p := ne_of_none q3 hp
        refine hid_some.mpr ⟨?_, by rw [upd_ne hb]; exact q3⟩
        cases z : fob F (σ.set i (some (.ref p))) (i :: O) b with
        | false => rfl
        | true =>
          rcases fob_t.mp z with z | ⟨j, hj, z⟩
          · rw [fob_t.mpr (.inl z)] at q1; cases q1
          · rcases List.mem_cons.mp hj with rfl | hj
            · rw [List.getElem?_set_self lσ] at z
              cases z
              exact absurd rfl hb
            · rw [List.getElem?_set_ne (by rintro rfl; exact ho' hj)] at z
              rw [fob_t.mpr (.inr ⟨j, hj, z⟩)] at q1; cases q1
      · cases hd'
    · cases z
  · rcases M.b_inv e1 with ⟨ds, e1, hd⟩ | ⟨y', e1, z⟩
    · obtain ⟨_, _, z⟩ := M.o_inv hd
      cases z
    · cases z
      exact ⟨ρ, H₀, F, δ, .error _, R, e1, k⟩
theorem ds_ret (he : DE X O E e fa) : DS X O O' B E (.Return (some e) pos) (gRet fa) := by
  rintro pins s σ H Dn I ⟨ρ, H₀, F, δ, r, R, hg, k⟩
  refine ps_ret he pins s σ H Dn I ?_
  rcases M.b_inv hg with ⟨d, e1, hg⟩ | ⟨y, e1, rfl⟩
  · cases hg
    exact ⟨ρ, H₀, F, δ, .ok d, R, e1, fun v H' s' r' => k v H' (R.same.trans s') (r'.mono (hid_le fun b q => fob_t.mpr (.inl q)))⟩
  · exact ⟨ρ, H₀, F, δ, .error y, R, e1, k⟩
theorem ds_if {s1 s2 : List Stmt} (hc : DT X O E c tc) (h1 : DSs X O O' B E s1 g1) (h2 : DSs X O O' B E s2 g2) : DS X O O' B E (.If c s1 s2 pos) (gIf tc g1 g2) := by
  rintro pins s σ H Dn I ⟨ρ, H₀, F, δ, r, R, hg, k⟩
  refine ps_if hc h1 h2 pins s σ H Dn I ?_
  rcases M.b_inv hg with ⟨z, e1, hg⟩ | ⟨y, e1, rfl⟩
  · refine ⟨ρ, H₀, F, δ, .ok z, R, e1, fun H1 s1 => ?_⟩
    cases z with
    | true => exact iteT ⟨ρ, H₀, F, δ, r, R.mono s1, hg, k.back (same_hid s1)⟩
    | false => exact iteF ⟨ρ, H₀, F, δ, r, R.mono s1, hg, k.back (same_hid s1)⟩
  · exact ⟨ρ, H₀, F, δ, .error y, R, e1, k⟩
theorem ds_never : DS X O O' B E st gNever := by
  rintro pins s σ H Dn I ⟨ρ, H₀, F, δ, r, R, hf, h⟩
  cases hf
theorem ds_app {i : Nat} {x : Str} {p1 p2 p3 : Pos} (ho : O.contains i = true) (he : DE X O E e fa) (hi : autoParam (X.N[i]? = some x) zau2._auto_1) (hv : autoParam (Vis X.env.scope x) zau5._auto_1)
    (hd : autoParam ((x == ("__debug__" : Str)) = false) zau1._auto_1) (hcd : autoParam ((x == ("__classdict__" : Str)) = false) zau1._auto_1) (hbase : autoParam (attributeBase (.Name x p1) "append" X.env (eval (.Name x p1) X.env) = eval (.Name x p1) X.env) zau2._auto_1)
    (hfew : ((backTo p3 (starEach [e] X.env)).all (fun x => !x.1) && (backToKw p3 (keywordEach [] X.env)).all (fun x => x.1.isSome)
      && decide ([e].length + ([] : List Keyword).length + (if ([] : List Keyword).isEmpty then 0 else 1) < 30)) = true := by rfl)
    (hline : autoParam ((p2.endLine == p3.line) = true) zau2._auto_1) (hs : autoParam (starEach [e] X.env = [(false, eval e X.env)]) zau2._auto_1) (hsw : autoParam (swapsWith (.Call (.Attribute (.Name x p1) "append" p2) [e] [] p3) none pos.line X.env = pure false) zau2._auto_1) :
    DS X O O B E (.Expr (.Call (.Attribute (.Name x p1) "append" p2) [e] [] p3) pos) (gApp i fa) := by
  rintro pins s σ H Dn I ⟨ρ, H₀, F, δ, r, R, hg, k⟩
  have ho' : i ∈ O := List.contains_iff_mem.mp ho
  obtain ⟨l, xs0, ds0, q1, q2, q3, q4, q5⟩ := R.own i ho'
  refine ps_expr (pe_bm PySem.F.plainAttrs_list PySem.F.slot_list_append PySem.F.type_list_append mt_append (pe_var hi hv hd hcd) (pa_cons he pa_nil hs) hbase hfew hline hs rfl) hsw pins s σ H Dn I ?_
  refine ⟨.ref l, q2, .inl ⟨rfl, _, SqL.of q3⟩, ?_⟩
  rcases M.b_inv hg with ⟨d, e1, hg⟩ | ⟨y, e1, rfl⟩
  · refine ⟨ρ, H₀, F, δ, .ok d, R, e1, fun v H1 s1 r1 => ?_⟩
    have hj : (δ[i]?).join = some (.lst ds0) := by rw [q1]; rfl
    rw [hj] at hg
    dsimp only at hg
    split at hg
    · rename_i hz
      cases hg
      have R1 := R.mono s1
      obtain ⟨l', xs, ds, p1, p2, p3, p4, p5⟩ := R1.own i ho'
      rw [q2] at p2; cases p2
      rw [q1] at p1; cases p1
      refine ⟨l, xs, v, rfl, rfl, p3, by rw [p5.length]; exact hz, ?_⟩
      refine k σ _ ?_ (R1.write ho' q2 (p5.append (Reps.cons r1 Reps.nil)))
      rw [hid_upd (fob_t.mpr (.inr ⟨i, ho', q2⟩))]
      exact same_hid s1
    · cases hg
  · exact ⟨ρ, H₀, F, δ, .error y, R, e1, k⟩
inductive tG (K : PySem.W.Frag) (O : List Nat) (h : D → DSt → Option DSt) (v : V) (σ : St) (H : Hp) (Q : St → Hp → Prop) : Prop
  | mk (ρ : Rho) (H₀ : Hp) (F : Addr → Bool) (δ : DSt) (d : D) (δ' : DSt) (R : RS ρ K H₀ H F O σ δ) (hr : Rep ρ K (hid H (fob F σ O)) d v) (hf : h d δ = some δ') (k : ∀ σ', fob F σ' O = fob F σ O → RS ρ K H₀ H F O σ' δ' → Q σ' H)
noncomputable def DG (X : Cx) (O : List Nat) (tg : Expr) (h : D → DSt → Option DSt) : Prop := PG X tg (tG X.K O h)
noncomputable def gName (i : Nat) : D → DSt → Option DSt := fun d δ => some (δ.set i (some d))
noncomputable def gTup2 (i j : Nat) : D → DSt → Option DSt := fun d δ => match d with
  | .tup [x, y] => some ((δ.set i (some x)).set j (some y))
  | _ => none
theorem dg_name {i : Nat} {x : Str} (hN : X.N.Nodup) (ho : autoParam (O.contains i = false) zau2._auto_1) (hi : autoParam (X.N[i]? = some x) zau2._auto_1) (hx : autoParam (Loc X.env.scope x) zau8._auto_1)
    (hf : autoParam (X.fn x = true ∨ X.env.scope.names.lookup x = some .local) zau0._auto_1) : DG X O (.Name x pos) (gName i) := by
  rintro pins s σ H v u Q I r ⟨ρ, H₀, F, δ, d, δ', R, rd, e, k⟩
  have ho' : i ∉ O := fun z => by rw [List.contains_iff_mem.mpr z] at ho; cases ho
  cases e
  exact pg_name hN hi hx hf pins s σ H v u Q I r (k _ (ownA_set ho') (R.set ho' rd))
theorem dg_tup2 {i j : Nat} {x y : Str} {px py : Pos} {kk : Nat} (hc : X.calm = true) (hN : X.N.Nodup) (ho : autoParam (O.contains i = false) zau2._auto_1) (ho2 : autoParam (O.contains j = false) zau2._auto_1) (hi : autoParam (X.N[i]? = some x) zau2._auto_1) (hj : autoParam (X.N[j]? = some y) zau2._auto_1)
    (hx : autoParam (Loc X.env.scope x) zau8._auto_1) (hy : autoParam (Loc X.env.scope y) zau8._auto_1)
    (hf : autoParam (X.fn x = true ∨ X.env.scope.names.lookup x = some .local) zau0._auto_1) (hf2 : autoParam (X.fn y = true ∨ X.env.scope.names.lookup y = some .local) zau0._auto_1) :
    DG X O (.Tuple [.Name x px, .Name y py] kk pos) (gTup2 i j) := by
  rintro pins s σ H v u Q I r ⟨ρ, H₀, F, δ, d, δ', R, rd, e, k⟩
  have ho' : i ∉ O := fun z => by rw [List.contains_iff_mem.mpr z] at ho; cases ho
  have ho2' : j ∉ O := fun z => by rw [List.contains_iff_mem.mpr z] at ho2; cases ho2
  unfold gTup2 at e
  split at e
  · rename_i d1 d2
    cases e
    obtain ⟨p, xs, rfl, q2, q3⟩ := rep_tup.mp rd
    obtain ⟨v1, xs1, rfl, r1, q3⟩ := reps_cons.mp q3
    obtain ⟨v2, xs2, rfl, r2, q3⟩ := reps_cons.mp q3
    cases reps_nil.mp q3
    refine pg_tup hc (pgs_cons (pg_name hN hi hx hf) (pgs_cons (pg_name hN hj hy hf2) pgs_nil)) rfl rfl pins s σ H _ u Q I r ?_
    refine ⟨p, _, rfl, same_t same_un q2, rfl, v1, _, rfl, v2, _, rfl, rfl, ?_⟩
    have e2 : fob F ((σ.set i (some v1)).set j (some v2)) O = fob F σ O := (ownA_set ho2').trans (ownA_set ho')
    refine k _ e2 ?_
    have R1 := R.set ho' r1
    exact R1.set ho2' (by rw [ownA_set ho']; exact r2)
  · cases e
noncomputable def ItD (ρ : Rho) (K : PySem.W.Frag) (J : It) (ds : List D) (Hv : Hp) : Prop := ∀ (H' : Hp) (G' : Addr → Bool) (i : Nat), Same Hv (hid H' G') → (∀ p, H' p = none → G' p = false) →
  (i < ds.length → J.go i H' ∧ ∀ x H2, J.yld i H' x H2 → Same H' H2 ∧ ∃ d, ds[i]? = some d ∧ Rep ρ K (hid H2 G') d x) ∧ (i = ds.length → J.stop i H')
inductive tI (K : PySem.W.Frag) (O : List Nat) (E : XK) (f : DSt → M (List D)) (σ : St) (H : Hp) (Q : It → Hp → Prop) : Prop
  | mk (ρ : Rho) (H₀ : Hp) (F : Addr → Bool) (δ : DSt) (r : Except XD (List D)) (R : RS ρ K H₀ H F O σ δ) (hf : f δ = some r) (k : match (generalizing := false) r with
    | .ok ds => ∀ J H', Same H H' → ItD ρ K J ds (hid H' (fob F σ O)) → Q J H'
    | .error x => okX K H₀ E x)
noncomputable def DI (X : Cx) (O : List Nat) (E : XK) (tg iter : Expr) (f : DSt → M (List D)) : Prop := PI X tg iter (tI X.K O E f)
theorem ds_for {tg iter : Expr} {body : List Stmt} {fi : DSt → M (List D)} {h : D → DSt → Option DSt} (hp : PassesOwn (model X.prog X.w) X.A X.env X.xe) (hc : X.calm = true) (hi : DI X O E tg iter fi) (hg : DG X O tg h) (hb : DSs X O O O E body g)
    (hs : autoParam (∀ x, foldedSetIterable iter X.env x = pure x) zau3._auto_1) : DS X O O B E (.For tg iter body [] pos) (gFor fi h g) := by
  rintro pins s σ H Dn I ⟨ρ, H₀, F, δ, r, R, hgf, k⟩
  refine ps_for hp hc hi hg hb hs pins s σ H Dn I ?_
  rcases M.b_inv hgf with ⟨ds, e1, hgf⟩ | ⟨y, e1, rfl⟩
  · refine ⟨ρ, H₀, F, δ, .ok ds, R, e1, fun J H1 s1 it => ?_⟩
    refine ⟨fun i m σ' H' => m = ds.length - i ∧ i ≤ ds.length ∧ ∃ δ', RS ρ X.K H₀ H' F O σ' δ' ∧ Same (hid H1 (fob F σ O)) (hid H' (fob F σ' O)) ∧ forD g h (ds.drop i) δ' = some r, ⟨ds.length, by simp, Nat.zero_le _, δ, R.mono s1, Same.refl _, hgf⟩, ?_⟩
    rintro i m σ' H' ⟨rfl, hil, δ', R', f', hr⟩
    obtain ⟨j1, j2⟩ := it H' (fob F σ' O) i f' (fun p hp => R'.fresh hp)
    by_cases hlt : i < ds.length
    · obtain ⟨go, yld⟩ := j1 hlt
      refine .inr ⟨go, fun σ2 H2 => ∃ δ2, RS ρ X.K H₀ H2 F O σ2 δ2 ∧ Same (hid H1 (fob F σ O)) (hid H2 (fob F σ2 O)) ∧ forD g h (ds.drop (i + 1)) δ2 = some r, fun σ2 H2 ⟨δ2, a1, a2, a3⟩ => ⟨ds.length - (i + 1), by omega, rfl, hlt, δ2, a1, a2, a3⟩, fun x H2 y => ?_⟩
      obtain ⟨s2, d, hd, rd⟩ := yld x H2 y
      have hdr : ds.drop i = d :: ds.drop (i + 1) := by
        rw [List.drop_eq_getElem_cons hlt]
        have : ds[i] = d := by rw [List.getElem?_eq_getElem hlt] at hd; exact Option.some.inj hd
        rw [this]
      rw [hdr] at hr
      unfold forD at hr
      cases e2 : h d δ' with
      | none => rw [e2] at hr; cases hr
      | some δ1 =>
        rw [e2] at hr
        dsimp only at hr
        have f2 : Same (hid H1 (fob F σ O)) (hid H2 (fob F σ' O)) := f'.trans (same_hid s2)
        refine ⟨ρ, H₀, F, δ', d, δ1, R'.mono s2, rd, e2, fun σ3 ef R3 => ?_⟩
        rcases M.b_inv hr with ⟨o, e3, hr⟩ | ⟨y, e3, rfl⟩
        · refine ⟨ρ, H₀, F, δ1, .ok o, R3, e3, ?_⟩
          rw [ef]
          cases o with
          | nx δ4 => exact fun σ4 H4 f4 R4 => ⟨δ4, R4, f2.trans f4, hr⟩
          | ct δ4 => exact fun σ4 H4 f4 R4 => ⟨δ4, R4, f2.trans f4, hr⟩
          | bk δ4 => cases hr; exact fun σ4 H4 f4 R4 => k σ4 H4 ((same_hid s1).trans (f2.trans f4)) R4
          | rt v => cases hr; exact k
        · exact ⟨ρ, H₀, F, δ1, .error y, R3, e3, k⟩
    · have ei : i = ds.length := by omega
      subst ei
      rw [List.drop_length] at hr
      cases hr
      exact .inl ⟨j2 rfl, k σ' H' ((same_hid s1).trans f') R'⟩
  · exact ⟨ρ, H₀, F, δ, .error y, R, e1, k⟩
theorem ds_while {c : Expr} {body : List Stmt} {fuel : Nat} (hp : PassesOwn (model X.prog X.w) X.A X.env X.xe) (hc : DT X O E c tc) (hb : DSs X O O O E body g) : DS X O O B E (.While c body [] pos) (whileD tc g fuel) := by
  rintro pins s σ H Dn I ⟨ρ, H₀, F, δ, r, R, hg, k⟩
  refine ps_while hp hc hb pins s σ H Dn I ?_
  refine ⟨fun m σ' H' => ∃ δ', RS ρ X.K H₀ H' F O σ' δ' ∧ Same (hid H (fob F σ O)) (hid H' (fob F σ' O)) ∧ whileD tc g m δ' = some r, ⟨fuel, δ, R, Same.refl _, hg⟩, ?_⟩
  rintro m σ' H' ⟨δ', R', f', hr⟩
  cases m with
  | zero => cases hr
  | succ m =>
    unfold whileD at hr
    rcases M.b_inv hr with ⟨z, e1, hr⟩ | ⟨y, e1, rfl⟩
    · refine ⟨ρ, H₀, F, δ', .ok z, R', e1, fun H1 s1 => ?_⟩
      have f1 : Same (hid H (fob F σ O)) (hid H1 (fob F σ' O)) := f'.trans (same_hid s1)
      cases z with
      | true =>
        rw [if_pos rfl] at hr
        refine iteT ⟨fun σ2 H2 => ∃ δ2, RS ρ X.K H₀ H2 F O σ2 δ2 ∧ Same (hid H (fob F σ O)) (hid H2 (fob F σ2 O)) ∧ whileD tc g m δ2 = some r, fun σ2 H2 ⟨δ2, a1, a2, a3⟩ => ⟨m, Nat.lt_succ_self _, δ2, a1, a2, a3⟩, ?_⟩
        rcases M.b_inv hr with ⟨o, e3, hr⟩ | ⟨y, e3, rfl⟩
        · refine ⟨ρ, H₀, F, δ', .ok o, R'.mono s1, e3, ?_⟩
          cases o with
          | nx δ4 => exact fun σ4 H4 f4 R4 => ⟨δ4, R4, f1.trans f4, hr⟩
          | ct δ4 => exact fun σ4 H4 f4 R4 => ⟨δ4, R4, f1.trans f4, hr⟩
          | bk δ4 => cases hr; exact fun σ4 H4 f4 R4 => k σ4 H4 (f1.trans f4) R4
          | rt v => cases hr; exact k
        · exact ⟨ρ, H₀, F, δ', .error y, R'.mono s1, e3, k⟩
      | false =>
        rw [if_neg (by decide)] at hr
        cases hr
        exact iteF (k σ' H1 f1 (R'.mono s1))
    · exact ⟨ρ, H₀, F, δ', .error y, R', e1, k⟩
end
end DL
namespace L2
open PySem PySem.Spec PyProof.Rows
noncomputable def iSeq (K : PySem.W.Frag) (tl : TE) : TI := fun σ H R => tl σ H fun x H1 => (∃ a, x = .ref a ∧ (∃ xs, SqL K H1 a xs) ∧ R (Itl K a) H1) ∨ (∃ a, x = .ref a ∧ (∃ xs, SqT K H1 a xs) ∧ R (Itt K a) H1)
theorem pi_seq {X : Cx} {tg l : Expr} {tl : TE} (hl : PE X l tl) : PI X tg l (iSeq X.K tl) := by
  intro pins s σ H R I h
  refine thn (hl pins s σ H _ I h) fun v s1 hzz => ?_
  obtain ⟨x, H1, I1, r1, q1⟩ := hzz
  have fp1 : ∀ b ∈ [s1.heap.objs.size], FpOk X pins H1 b := fun b hb => by
    have e : b = s1.heap.objs.size := by simpa using hb
    subst e
    exact I1.fpOk (Nat.le_refl _) (I1.hok.fresh (Nat.le_refl _))
  rcases q1 with ⟨a, e, ⟨xs, hq⟩, q⟩ | ⟨a, e, ⟨xs, hq⟩, q⟩
  · subst e
    cases r1
    obtain ⟨its, rv, p, hz⟩ := I1.list hq
    exact wpAny_pyIter_list p.isList ⟨s1.heap.objs.size, [s1.heap.objs.size], _, _, H1, rfl, I1.kept (t' := s1.toks) fun b o e => Heap.get?_push_of_some _ e, turn_list a _, ⟨_, Heap.get?_push_size _ rfl, rfl, rfl⟩, fp1, q⟩
  · subst e
    cases r1
    obtain ⟨its, rv, p, hz⟩ := I1.tuple hq
    exact wpAny_pyIter_tuple (show s1.heap.IsTuple a its.toArray from p) ⟨s1.heap.objs.size, [s1.heap.objs.size], _, _, H1, rfl, I1.kept (t' := s1.toks) fun b o e => Heap.get?_push_of_some _ e, turn_tuple a _, ⟨_, Heap.get?_push_size _ rfl, rfl, rfl⟩, fp1, q⟩
noncomputable def Itv (val : Nat → V) (n : Nat) : It := ⟨fun i _ => i < n, fun i H x H' => H' = H ∧ x = val i, fun i _ => i = n⟩
noncomputable def plainIter (nm : String) : Bool := !["enumerate", "zip", "dict_itemiterator", "dict_reverseitemiterator", "odict_iterator", "itertools.zip_longest", "itertools.pairwise"].contains nm
theorem turn_walk {P : Program} {w : World} {K : PySem.W.Frag} {tg : Expr} (it : Addr) (val : Nat → V) (n : Nat) (Stn : Nat → Heap → Prop) (W : ∀ A : Around, A.handled = none → Walks P w A it [it] [it] n (fun i v => RelV (val i) v) Stn)
    (ob : ∀ i h, Stn i h → ∃ o nm vs, h.get? it = some o ∧ o.cls = .type nm ∧ o.data = .fields vs ∧ plainIter nm = true)
    (sf : ∀ (A : Around) (i : Nat) (s : Shared) (Q : Value → Shared → Prop) (E : Value → Shared → Prop), Stn i s.heap → Q (.ref it) s → wpAny (model P w) A (pyIter (.ref it)) Q E s) : Turn P w K tg (Itv val n) [it] it Stn where
  mem := by simp
  obj := fun i h st b hb => by
    have e : b = it := by simpa using hb
    subst e
    obtain ⟨o, nm, vs, q1, _, q3, _⟩ := ob i h st
    exact ⟨o, q1, fun v z => by rw [q3] at z; cases z⟩
  keep := fun i h h' st k => (W { handled := none, frames := some [] } rfl).frame i h h' st k
  item := by
    intro X hP hw hK hc i pins s σ H E I hf st hg
    subst hP hw hK
    refine (W X.A (I.ok.hd hc)).item i s _ _ hg st fun v h' tk hv st' kk => ⟨v, rfl, ?_⟩
    obtain ⟨o, nm, vs, q1, q2, q3, q4⟩ := ob _ _ st'
    have I1 : Inv X pins σ H { s with heap := h', toks := tk } := I.spun0 hf kk
    exact go_of (s := { s with heap := h', toks := tk }) q1 q2 q3 (by unfold plainIter at q4; simpa using q4) ⟨val i, H, I1, hv, ⟨rfl, rfl⟩, st', fun b hb => (hf b hb).1⟩
  done := by
    intro X hP hw hK hc i pins s σ H E I hf st hg
    subst hP hw hK
    have hg' : i = n := hg
    subst hg'
    exact (W X.A (I.ok.hd hc)).done s _ _ st fun h' tk kk => ⟨rfl, I.spun0 hf kk⟩
  self := fun A i s Q E st h => sf A i s Q E st h
section
variable {X : Cx} {tg : Expr}
theorem range_any {pins : List (Addr × Obj)} {σ : St} {H : Hp} {s : Shared} {R : It → Hp → Prop} {E : Value → Shared → Prop} {lo hi st : Int} {t u v : Tok} {tk : Nat} (I : Inv X pins σ H s) (hst : st = 1)
    (q : R (Itv (fun i => .int (lo + (i : Nat) * st)) (Builtin.Range.rangeSize lo hi st).toNat) H) : wpAny (model X.prog X.w) X.A (pyIter (.ref s.heap.objs.size)) (PIE X pins σ tg R) E { s with heap := s.heap.push { cls := .type "range", data := .fields #[.int lo t, .int hi u, .int st v] }, toks := tk } := by
  have I1 : Inv X pins σ H { s with heap := s.heap.push { cls := .type "range", data := .fields #[.int lo t, .int hi u, .int st v] }, toks := tk } := I.kept fun b o e => Heap.get?_push_of_some _ e
  subst hst
  have hn : 0 ≤ Builtin.Range.rangeSize lo hi 1 := by rw [rangeSize_one]; split <;> omega
  generalize hN : (Builtin.Range.rangeSize lo hi 1).toNat = N at q
  have hN' : Builtin.Range.rangeSize lo hi 1 = (N : Int) := by omega
  have fpk : ∀ b ∈ [(s.heap.push { cls := .type "range", data := .fields #[.int lo t, .int hi u, .int 1 v] }).objs.size], FpOk X pins H b := fun b hb => by
    have e : b = (s.heap.push { cls := .type "range", data := .fields #[.int lo t, .int hi u, .int 1 v] }).objs.size := by simpa using hb
    subst e
    exact I1.fpOk (Nat.le_refl _) (I1.hok.fresh (Nat.le_refl _))
  by_cases hsm : Builtin.Range.small lo hi 1 = true
  · refine wpAny_pyIter_range (IsRange.new ..) hsm ?_
    refine ⟨_, [_], _, _, H, rfl, I1.kept (t' := tk) fun b o e => Heap.get?_push_of_some _ e, turn_walk _ _ N _ (fun A hA => Walks.range hA _ lo 1 N) (fun i h e => ⟨_, _, _, e, rfl, rfl, rfl⟩) (fun A i s Q E e h => wpAny_pyIter_rangeiter e h), ?_, fpk, q⟩
    show IsRangeIter _ _ (lo + ((0 : Nat) : Int) * 1) ((N : Int) - ((0 : Nat) : Int)) 1
    rw [← hN']
    have e1 : lo + ((0 : Nat) : Int) * 1 = lo := by simp
    have e2 : Builtin.Range.rangeSize lo hi 1 - ((0 : Nat) : Int) = Builtin.Range.rangeSize lo hi 1 := by simp
    rw [e1, e2]
    exact Heap.get?_push_size _ rfl
  · refine wpAny_pyIter_longrange (IsRange.new ..) (by simpa using hsm) ?_
    refine ⟨_, [_], _, _, H, rfl, I1.kept (t' := tk) fun b o e => Heap.get?_push_of_some _ e, turn_walk _ _ N _ (fun A hA => Walks.longrange hA _ lo 1 N) (fun i h e => ⟨_, _, _, e, rfl, rfl, rfl⟩) (fun A i s Q E e h => wpAny_pyIter_longiter e h), ?_, fpk, q⟩
    show IsLongIter _ _ (lo + ((0 : Nat) : Int) * 1) ((N : Int) - ((0 : Nat) : Int)) 1
    rw [← hN']
    have e1 : lo + ((0 : Nat) : Int) * 1 = lo := by simp
    have e2 : Builtin.Range.rangeSize lo hi 1 - ((0 : Nat) : Int) = Builtin.Range.rangeSize lo hi 1 := by simp
    rw [e1, e2]
    exact Heap.get?_push_size _ rfl
noncomputable def iRgA (ta : TA) : TI := fun σ H R => ta σ H fun vs H1 => (∃ j : Int, vs = [.int j] ∧ R (Itv (fun i => .int (0 + (i : Nat) * 1)) (Builtin.Range.rangeSize 0 j 1).toNat) H1) ∨
  (∃ i j : Int, vs = [.int i, .int j] ∧ R (Itv (fun n => .int (i + (n : Nat) * 1)) (Builtin.Range.rangeSize i j 1).toNat) H1)
theorem pi_range {a : Expr} {es : List Expr} {ta : TA} {p pos : Pos} (hg : Gl X "range") (hm : X.mg "range" = none) (ha : PA X (a :: es) ta) (hs : autoParam (starEach (a :: es) X.env = (false, eval a X.env) :: starEach es X.env) zau2._auto_1) (hp : autoParam ((backTo pos (starEach es X.env)).any (·.1) = false) zau2._auto_1) :
    PI X tg (.Call (.Name "range" p) (a :: es) [] pos) (iRgA ta) := by
  intro pins s σ H R I h
  refine Call_ (ld_blt I hg hm boot_range (PyProof.Rows.callWith_type1 (thn (ha pos pins s σ H _ I h) fun us s1 hzz => ?_) hs hp))
  obtain ⟨vs, H1, I1, r1, q1⟩ := hzz
  rcases q1 with ⟨j, e, q⟩ | ⟨i, j, e, q⟩
  · subst e
    obtain ⟨u, rfl, t, rfl⟩ := r1.one
    exact call_range_1 (range_any I1 rfl q)
  · subst e
    obtain ⟨u, v, rfl, ⟨t, rfl⟩, ⟨t', rfl⟩⟩ := r1.two
    exact call_range_2 (range_any I1 rfl q)
end
end L2
namespace DL
open PySem PySem.Spec L2
noncomputable def seqD : D → Option (List D)
  | .lst ds => some ds
  | .tup ds => some ds
  | _ => none
noncomputable def iSeqD (f : DSt → M D) : DSt → M (List D) := fun δ => (f δ).b fun d => M.o (seqD d)
noncomputable def rangeD (lo : Int) (n : Nat) : List D := (List.range n).map fun i => .int (lo + (i : Nat))
noncomputable def rangeArgs : List D → Option (List D)
  | [.int j] => some (rangeD 0 j.toNat)
  | [.int i, .int j] => some (rangeD i (j - i).toNat)
  | _ => none
noncomputable def zipD : List D → List D → List D
  | x :: xs, y :: ys => .tup [x, y] :: zipD xs ys
  | _, _ => []
noncomputable def zipArgs : List D → Option (List D)
  | [x, y] => match seqD x, seqD y with
    | some xs, some ys => some (zipD xs ys)
    | _, _ => none
  | _ => none
noncomputable def enumD : Int → List D → List D
  | _, [] => []
  | k, d :: ds => .tup [.int k, d] :: enumD (k + 1) ds
noncomputable def enumArgs : List D → Option (List D)
  | [.lst xs] => some (enumD 0 xs)
  | _ => none
noncomputable def iArgs (k : List D → Option (List D)) (f : DSt → M (List D)) : DSt → M (List D) := fun δ => (f δ).b fun ds => M.o (k ds)
theorem zipD_get : ∀ {xs ys : List D} {i : Nat} {d : D}, (zipD xs ys)[i]? = some d → ∃ x y, xs[i]? = some x ∧ ys[i]? = some y ∧ d = .tup [x, y]
  | [], _, _, _, h => by simp [zipD] at h
  | _ :: _, [], _, _, h => by simp [zipD] at h
  | x :: xs, y :: ys, 0, d, h => by simp [zipD] at h; exact ⟨x, y, rfl, rfl, h.symm⟩
  | x :: xs, y :: ys, i + 1, d, h => by
    obtain ⟨a, b, q1, q2, q3⟩ := zipD_get (xs := xs) (ys := ys) (i := i) (d := d) (by simpa [zipD] using h)
    exact ⟨a, b, by simpa using q1, by simpa using q2, q3⟩
theorem zipD_len : ∀ (xs ys : List D), (zipD xs ys).length = min xs.length ys.length
  | [], _ => by simp [zipD]
  | _ :: _, [] => by simp [zipD]
  | x :: xs, y :: ys => by simp [zipD, zipD_len xs ys]
section
variable {ρ : Rho} {X : Cx} {O : List Nat} {E : XK} {a b tg iter e elt : Expr} {es : List Expr} {fa : DSt → M D} {fl : DSt → M (List D)} {pos p : Pos}
theorem sqv_t {K : PySem.W.Frag} {H : Hp} {l : Addr} {xs : List V} : SqV true K H l xs ↔ SqT K H l xs := Iff.rfl
theorem sqv_l {K : PySem.W.Frag} {H : Hp} {l : Addr} {xs : List V} : SqV false K H l xs ↔ SqL K H l xs := Iff.rfl
theorem same_v {k : Bool} {K : PySem.W.Frag} {H H' : Hp} {l : Addr} {xs : List V} (e : Same H H') (h : SqV k K H l xs) : SqV k K H' l xs := by
  cases k with
  | true => exact same_t (H := H) e h
  | false => exact same_l (H := H) e h
theorem itl_ok {ρ : Rho} {K : PySem.W.Frag} {ds : List D} {Hv : Hp} {l : Addr} {xs : List V} (h : SqL K Hv l xs) (hr : Reps ρ K Hv ds xs) : ItD ρ K (Itl K l) ds Hv := by
  intro H' G' i f hG
  have h' : SqL K H' l xs := same_l (f.trans same_un) h
  refine ⟨fun hi => ?_, fun hi => ⟨xs, h', by rw [hr.length, hi]; exact Nat.le_refl _⟩⟩
  obtain ⟨v, hv, rv⟩ := hr.get (List.getElem?_eq_getElem hi)
  refine ⟨⟨xs, v, h', hv⟩, fun x H2 y => ?_⟩
  obtain ⟨rfl, y⟩ := y
  refine ⟨Same.refl _, _, List.getElem?_eq_getElem hi, ?_⟩
  have := y xs h'
  rw [hv] at this; cases this
  exact rv.mono f
theorem itt_ok {ρ : Rho} {K : PySem.W.Frag} {ds : List D} {Hv : Hp} {l : Addr} {xs : List V} (h : SqT K Hv l xs) (hr : Reps ρ K Hv ds xs) : ItD ρ K (Itt K l) ds Hv := by
  intro H' G' i f hG
  have h' : SqT K H' l xs := same_t (f.trans same_un) h
  refine ⟨fun hi => ?_, fun hi => ⟨xs, h', by rw [hr.length, hi]; exact Nat.le_refl _⟩⟩
  obtain ⟨v, hv, rv⟩ := hr.get (List.getElem?_eq_getElem hi)
  refine ⟨⟨xs, v, h', hv⟩, fun x H2 y => ?_⟩
  obtain ⟨rfl, y⟩ := y
  refine ⟨Same.refl _, _, List.getElem?_eq_getElem hi, ?_⟩
  have := y xs h'
  rw [hv] at this; cases this
  exact rv.mono f
theorem itv_ok {ρ : Rho} {K : PySem.W.Frag} {Hv : Hp} {val : Nat → V} {ds : List D} {n : Nat} (hl : ds.length = n) (hv : ∀ i d, ds[i]? = some d → ∀ H, Rep ρ K H d (val i)) : ItD ρ K (Itv val n) ds Hv := by
  intro H' G' i f hG
  subst hl
  refine ⟨fun hi => ⟨hi, fun x H2 y => ?_⟩, fun hi => hi⟩
  obtain ⟨rfl, rfl⟩ := y
  exact ⟨Same.refl _, _, List.getElem?_eq_getElem hi, hv i _ (List.getElem?_eq_getElem hi) _⟩
theorem itz_ok {ρ : Rho} {K : PySem.W.Frag} {k1 k2 : Bool} {ds es : List D} {Hv : Hp} {l1 l2 : Addr} {xs ys : List V} (h1 : SqV k1 K Hv l1 xs) (r1 : Reps ρ K Hv ds xs) (h2 : SqV k2 K Hv l2 ys) (r2 : Reps ρ K Hv es ys) : ItD ρ K (Itz k1 k2 K l1 l2) (zipD ds es) Hv := by
  intro H' G' i f hG
  have h1' : SqV k1 K H' l1 xs := same_v (f.trans same_un) h1
  have h2' : SqV k2 K H' l2 ys := same_v (f.trans same_un) h2
  refine ⟨fun hi => ?_, fun hi => ⟨xs, ys, h1', h2', ?_⟩⟩
  · obtain ⟨d1, d2, q1, q2, q3⟩ := zipD_get (List.getElem?_eq_getElem hi)
    obtain ⟨v, hv, rv⟩ := r1.get q1
    obtain ⟨u, hu, ru⟩ := r2.get q2
    refine ⟨⟨xs, ys, v, u, h1', h2', hv, hu⟩, fun x H2 y => ?_⟩
    obtain ⟨T, x1, x2, hT, rfl, rfl, y1, y2⟩ := y
    have e1 := y1 xs h1'
    have e2 := y2 ys h2'
    rw [hv] at e1; cases e1
    rw [hu] at e2; cases e2
    refine ⟨same_upd hT, _, List.getElem?_eq_getElem hi, ?_⟩
    rw [q3]
    exact rep_new_tup hT (hG T hT) (Reps.cons (rv.mono f) (Reps.cons (ru.mono f) Reps.nil))
  · rw [zipD_len] at hi
    rw [r1.length, r2.length]
    omega
theorem di_seq (h : DE X O E iter fa) : DI X O E tg iter (iSeqD fa) := by
  rintro pins s σ H R I ⟨ρ, H₀, F, δ, r, RS0, hf, k⟩
  refine pi_seq h pins s σ H R I ?_
  rcases M.b_inv hf with ⟨d, e1, hf⟩ | ⟨y, e1, rfl⟩
  · refine ⟨ρ, H₀, F, δ, .ok d, RS0, e1, fun v H1 s1 r1 => ?_⟩
    obtain ⟨ds, hd, rfl⟩ := M.o_inv hf
    cases d with
    | lst es =>
      cases hd
      obtain ⟨q, xs, rfl, q2, q3⟩ := rep_lst.mp r1
      exact .inl ⟨q, rfl, ⟨xs, same_l same_un q2⟩, k _ H1 s1 (itl_ok q2 q3)⟩
    | tup es =>
      cases hd
      obtain ⟨q, xs, rfl, q2, q3⟩ := rep_tup.mp r1
      exact .inr ⟨q, rfl, ⟨xs, same_t same_un q2⟩, k _ H1 s1 (itt_ok q2 q3)⟩
    | _ => cases hd
  · exact ⟨ρ, H₀, F, δ, .error y, RS0, e1, k⟩
theorem range_len (lo hi : Int) : (Builtin.Range.rangeSize lo hi 1).toNat = (hi - lo).toNat := by
  rw [rangeSize_one]; split <;> omega
theorem di_range (hg : Gl X "range") (hm : X.mg "range" = none) (ha : DA X O E (a :: es) fl) (hs : autoParam (starEach (a :: es) X.env = (false, eval a X.env) :: starEach es X.env) zau2._auto_1) (hp : autoParam ((backTo pos (starEach es X.env)).any (·.1) = false) zau2._auto_1) :
    DI X O E tg (.Call (.Name "range" p) (a :: es) [] pos) (iArgs rangeArgs fl) := by
  rintro pins s σ H R I ⟨ρ, H₀, F, δ, r, RS0, hf, k⟩
  refine pi_range hg hm ha hs hp pins s σ H R I ?_
  rcases M.b_inv hf with ⟨d, e1, hf⟩ | ⟨y, e1, rfl⟩
  · refine ⟨ρ, H₀, F, δ, .ok d, RS0, e1, fun vs H1 s1 r1 => ?_⟩
    obtain ⟨ds, hd, rfl⟩ := M.o_inv hf
    unfold rangeArgs at hd
    split at hd
    · rename_i j
      cases hd
      obtain ⟨v, r', rfl, q1, q2⟩ := reps_cons.mp r1
      cases reps_nil.mp q2
      cases rep_int.mp q1
      refine .inl ⟨j, rfl, k _ H1 s1 ?_⟩
      refine itv_ok (by unfold rangeD; rw [range_len]; simp) fun i d hd H => ?_
      unfold rangeD at hd
      rw [List.getElem?_map] at hd
      cases q : (List.range j.toNat)[i]? with
      | none => rw [q] at hd; cases hd
      | some m =>
        rw [q] at hd
        have : m = i := by
          have := (List.getElem?_eq_some_iff.mp q).2
          simpa using this.symm
        subst this
        cases hd
        exact rep_int.mpr (by rw [Int.mul_one])
    · rename_i i0 j
      cases hd
      obtain ⟨v, r', rfl, q1, q2⟩ := reps_cons.mp r1
      obtain ⟨v2, r2, rfl, q3, q4⟩ := reps_cons.mp q2
      cases reps_nil.mp q4
      cases rep_int.mp q1
      cases rep_int.mp q3
      refine .inr ⟨i0, j, rfl, k _ H1 s1 ?_⟩
      refine itv_ok (by unfold rangeD; rw [range_len]; simp) fun i d hd H => ?_
      unfold rangeD at hd
      rw [List.getElem?_map] at hd
      cases q : (List.range (j - i0).toNat)[i]? with
      | none => rw [q] at hd; cases hd
      | some m =>
        rw [q] at hd
        have : m = i := by
          have := (List.getElem?_eq_some_iff.mp q).2
          simpa using this.symm
        subst this
        cases hd
        exact rep_int.mpr (by rw [Int.mul_one])
    · cases hd
  · exact ⟨ρ, H₀, F, δ, .error y, RS0, e1, k⟩
theorem seq_sq {ρ : Rho} {K : PySem.W.Frag} {H : Hp} {d : D} {ds : List D} {v : V} (hd : seqD d = some ds) (h : Rep ρ K H d v) : ∃ k l xs, v = .ref l ∧ SqV k K H l xs ∧ Reps ρ K H ds xs := by
  cases d with
  | lst es => cases hd; obtain ⟨q, xs, rfl, q2, q3⟩ := rep_lst.mp h; exact ⟨false, q, xs, rfl, q2, q3⟩
  | tup es => cases hd; obtain ⟨q, xs, rfl, q2, q3⟩ := rep_tup.mp h; exact ⟨true, q, xs, rfl, q2, q3⟩
  | _ => cases hd
theorem di_zip {ts : List Expr} {kk : Nat} {tp : Pos} (hg : Gl X "zip") (hm : X.mg "zip" = none) (ha : DA X O E [a, b] fl) (hs : autoParam (starEach [a, b] X.env = [(false, eval a X.env), (false, eval b X.env)]) zau2._auto_1) (hs2 : autoParam (starEach [b] X.env = [(false, eval b X.env)]) zau2._auto_1) :
    DI X O E (.Tuple ts kk tp) (.Call (.Name "zip" p) [a, b] [] pos) (iArgs zipArgs fl) := by
  rintro pins s σ H R I ⟨ρ, H₀, F, δ, r, RS0, hf, k⟩
  refine pi_zip hg hm ha hs hs2 pins s σ H R I ?_
  rcases M.b_inv hf with ⟨d, e1, hf⟩ | ⟨y, e1, rfl⟩
  · refine ⟨ρ, H₀, F, δ, .ok d, RS0, e1, fun vs H1 s1 r1 => ?_⟩
    obtain ⟨ds, hd, rfl⟩ := M.o_inv hf
    unfold zipArgs at hd
    split at hd
    · rename_i x y
      split at hd
      · rename_i xs ys ex ey
        cases hd
        obtain ⟨v, r', rfl, q1, q2⟩ := reps_cons.mp r1
        obtain ⟨v2, r2, rfl, q3, q4⟩ := reps_cons.mp q2
        cases reps_nil.mp q4
        obtain ⟨k1, l1, us, rfl, z1, z2⟩ := seq_sq ex q1
        obtain ⟨k2, l2, ws, rfl, z3, z4⟩ := seq_sq ey q3
        exact ⟨k1, k2, l1, l2, us, ws, rfl, same_v same_un z1, same_v same_un z3, k _ H1 s1 (itz_ok z1 z2 z3 z4)⟩
      · cases hd
    · cases hd
  · exact ⟨ρ, H₀, F, δ, .error y, RS0, e1, k⟩
noncomputable def compD (h : D → DSt → Option DSt) (tc : DSt → M Bool) (fe : DSt → M D) : List D → DSt → Option (List D)
  | [], _ => some []
  | d :: ds, δ => match h d δ with
    | none => none
    | some δ1 => match tc δ1 with
      | some (.ok true) => (match fe δ1 with
        | some (.ok y) => (compD h tc fe ds δ1).map (y :: ·)
        | _ => none)
      | some (.ok false) => compD h tc fe ds δ1
      | _ => none
noncomputable def innerD (own : Nat) (caps : List (Str × Nat)) (δ : DSt) : DSt := List.replicate own none ++ caps.map fun p => (δ[p.2]?).join
noncomputable def fComp (own : Nat) (caps : List (Str × Nat)) (fi : DSt → M (List D)) (h : D → DSt → Option DSt) (tc : DSt → M Bool) (fe : DSt → M D) : DSt → M D := fun δ => (fi δ).b fun ds => M.o ((compD h tc fe ds (innerD own caps δ)).bind gLstD)
noncomputable def tYes : DSt → M Bool := fun _ => M.p true
noncomputable def DC (X : Cx) (O : List Nat) (E : XK) (ifs : List Expr) (f : DSt → M Bool) : Prop := PC0 X ifs (tB X.K O E f)
theorem dc_none : DC X O E [] tYes := by
  rintro pins s σ H Q I ⟨ρ, H₀, F, δ, r, R, hf, h⟩
  cases hf
  exact pc_none pins s σ H Q I (h H (Same.refl H))
theorem dc_one {f : DSt → M Bool} (h : DT X O E a f) : DC X O E [a] f := pc_one h
theorem innerD_get {own : Nat} {caps : List (Str × Nat)} {δ : DSt} {i : Nat} {d : D} (h : (innerD own caps δ)[i]? = some (some d)) : ∃ p, caps[i - own]? = some p ∧ own ≤ i ∧ δ[p.2]? = some (some d) := by
  unfold innerD at h
  by_cases hi : i < own
  · rw [List.getElem?_append_left (by simpa using hi), List.getElem?_replicate, if_pos hi] at h
    cases h
  · rw [List.getElem?_append_right (by simpa using hi), List.length_replicate, List.getElem?_map] at h
    cases e : caps[i - own]? with
    | none => rw [e] at h; cases h
    | some p =>
      rw [e] at h
      exact ⟨p, rfl, by omega, join_some (Option.some.inj h)⟩
theorem inner_set {own : Nat} {caps : List (Str × Nat)} {σ : St} {i : Nat} {p : Str × Nat} {v : V} (h : caps[i - own]? = some p) (hi : own ≤ i) (hv : σ[p.2]? = some (some v)) : (innerSt own caps σ)[i]? = some (some v) := by
  unfold innerSt
  rw [List.getElem?_append_right (by simpa using hi), List.length_replicate, List.getElem?_map, h]
  show some ((σ[p.2]?).join) = _
  rw [hv]; rfl
noncomputable def capsFree (O : List Nat) (caps : List (Str × Nat)) : Bool := caps.all fun p => !O.contains p.2
inductive CInv (ρ : Rho) (K : PySem.W.Frag) (H1 : Hp) (F : Addr → Bool) (Dd : Addr) (tot : List D) (cd : DSt → Option (List D)) (σ : St) (H : Hp) : Prop
  | mk (δ : DSt) (done : List D) (zs : List V) (rest : List D) (hR : RS ρ K H1 H F [] σ δ) (hD : H Dd = some (.lst zs)) (hz : Reps ρ K (hid H F) done zs) (hr : cd δ = some rest) (ht : done ++ rest = tot)
theorem de_comp {ifs : List Expr} {scope : Scope} {own : List Str} {caps : List (Str × Nat)} {fi : DSt → M (List D)} {h : D → DSt → Option DSt} {tc : DSt → M Bool} {fe : DSt → M D} (hc : X.calm = true) (ck : CapsOk X scope caps) (hi : DI X O E tg iter fi)
    (hg : ∀ C s0 H0 ex, DG (compCx X scope (own ++ caps.map (·.1)) C s0 H0 ex) [] tg h) (ht : ∀ C s0 H0 ex, DC (compCx X scope (own ++ caps.map (·.1)) C s0 H0 ex) [] E0 ifs tc)
    (he : ∀ C s0 H0 ex, DE (compCx X scope (own ++ caps.map (·.1)) C s0 H0 ex) [] E0 elt fe) (hcf : autoParam (capsFree O caps = true) zau2._auto_1) (hs : autoParam (∀ x, foldedSetIterable iter X.env x = pure x) zau3._auto_1) :
    DE X O E (.ListComp elt [⟨tg, iter, ifs, 0⟩] scope pos) (fComp own.length caps fi h tc fe) := by
  rintro pins s σ H Q I ⟨ρ, H₀, F, δ, r, R, hf, k⟩
  refine pe_comp (own := own) (g := tG X.K [] h) (tc := tB X.K [] E0 tc) (te := tD X.K [] E0 fe) hc ck hi hg ht he hs pins s σ H Q I ?_
  rcases M.b_inv hf with ⟨ds, e1, hf⟩ | ⟨y, e1, rfl⟩
  · refine ⟨ρ, H₀, F, δ, .ok ds, R, e1, fun J H1 s1 it Dd hD => ?_⟩
    obtain ⟨dd, hd, rfl⟩ := M.o_inv hf
    cases hcd : compD h tc fe ds (innerD own.length caps δ) with
    | none => rw [hcd] at hd; cases hd
    | some tot =>
      rw [hcd] at hd
      have hd' : gLstD tot = some dd := hd
      unfold gLstD at hd'
      split at hd'
      · rename_i hz
        cases hd'
        have R1 := R.mono s1
        have pf := R1.fresh hD
        let F' : Addr → Bool := fun b => fob F σ O b || b == Dd
        have F't : ∀ b, F' b = true ↔ fob F σ O b = true ∨ b = Dd := fun b => by show (_ || _) = true ↔ _; rw [Bool.or_eq_true, beq_iff_eq]
        have vis : ∀ {H2 : Hp}, Same H1 H2 → Same (hid H1 (fob F σ O)) (hid H2 F') := fun {H2} e b o q => by
          obtain ⟨q1, q2⟩ := hid_some.mp q
          refine hid_some.mpr ⟨?_, e b o q2⟩
          cases z : F' b with
          | false => rfl
          | true =>
            rcases (F't b).mp z with z | z
            · rw [q1] at z; cases z
            · rw [z, hD] at q2; cases q2
        have R0 : RS ρ X.K H1 (upd H1 Dd (.lst [])) F' [] (innerSt own.length caps σ) (innerD own.length caps δ) := by
          refine ⟨by simp [innerSt, innerD], same_upd hD, fun b hb => ?_, fun i d hd _ => ?_, fun i hi => absurd hi (by simp), fun i hi => absurd hi (by simp)⟩
          · rcases (F't b).mp hb with z | z
            · refine upd_nn fun q => ?_
              rw [R1.fresh q] at z; cases z
            · rw [z, upd_same]; exact fun q => nomatch q
          · obtain ⟨p, p1, p2, p3⟩ := innerD_get hd
            have hO : p.2 ∉ O := fun z => by
              have := List.all_eq_true.mp hcf p (List.mem_of_getElem? p1)
              rw [List.contains_iff_mem.mpr z] at this; cases this
            obtain ⟨v, q1, q2⟩ := R1.val p.2 d p3 hO
            exact ⟨v, inner_set p1 p2 q1, by rw [fob_nil]; exact q2.mono (vis (same_upd hD))⟩
        refine ⟨fun i m σ' H' => m = ds.length - i ∧ i ≤ ds.length ∧ CInv ρ X.K H1 F' Dd tot (compD h tc fe (ds.drop i)) σ' H',
          ⟨ds.length, by simp, Nat.zero_le _, _, [], [], tot, R0, upd_same, Reps.nil, hcd, rfl⟩, ?_⟩
        rintro i m σ' H' ⟨rfl, hil, δ', done, zs, rest, R', hDd, rz, hr, htot⟩
        have fv : Same (hid H1 (fob F σ O)) (hid H' (fob F' σ' [])) := by rw [fob_nil]; exact vis R'.same
        obtain ⟨j1, j2⟩ := it H' (fob F' σ' []) i fv fun p hp => R'.fresh hp
        by_cases hlt : i < ds.length
        · obtain ⟨go, yld⟩ := j1 hlt
          refine .inr ⟨go, CInv ρ X.K H1 F' Dd tot (compD h tc fe (ds.drop (i + 1))),
            fun σ2 H2 q => ⟨ds.length - (i + 1), by omega, rfl, hlt, q⟩, fun x H2 y => ?_⟩
          obtain ⟨s2, d, hd, rd⟩ := yld x H2 y
          have hdr : ds.drop i = d :: ds.drop (i + 1) := by
            rw [List.drop_eq_getElem_cons hlt]
            have : ds[i] = d := by rw [List.getElem?_eq_getElem hlt] at hd; exact Option.some.inj hd
            rw [this]
          rw [hdr] at hr
          unfold compD at hr
          cases e2 : h d δ' with
          | none => rw [e2] at hr; cases hr
          | some δ1 =>
            rw [e2] at hr
            dsimp only at hr
            refine ⟨ρ, H1, F', δ', d, δ1, R'.mono s2, rd, e2, fun σ3 ef R3 => ?_⟩
            have keepD : ∀ {H5 : Hp}, Same H2 H5 → H5 Dd = some (.lst zs) ∧ Reps ρ X.K (hid H5 F') done zs := fun {H5} e => ⟨e _ _ (s2 _ _ hDd), rz.mono (same_hid (s2.trans e))⟩
            split at hr
            · rename_i e3
              refine ⟨ρ, H1, F', δ1, .ok true, R3, e3, fun H4 s4 => iteT ?_⟩
              split at hr
              · rename_i yv e4
                refine ⟨ρ, H1, F', δ1, .ok yv, R3.mono s4, e4, fun v H5 s5 r5 => ?_⟩
                rw [fob_nil] at r5
                obtain ⟨k1, k2⟩ := keepD (s4.trans s5)
                cases e5 : compD h tc fe (ds.drop (i + 1)) δ1 with
                | none => rw [e5] at hr; cases hr
                | some rest' =>
                  rw [e5] at hr
                  have hr' : yv :: rest' = rest := Option.some.inj hr
                  have hFD : F' Dd = true := (F't Dd).mpr (.inr rfl)
                  have hh : hid (upd H5 Dd (.lst (zs ++ [v]))) F' = hid H5 F' := hid_upd hFD
                  refine ⟨zs, k1, ?_, δ1, done ++ [yv], zs ++ [v], rest', ?_, upd_same, ?_, e5, by rw [List.append_assoc, ← htot, ← hr']; rfl⟩
                  · have l1 := k2.length
                    have l2 := congrArg List.length htot
                    rw [List.length_append, ← hr', List.length_cons] at l2
                    omega
                  · have R5 := R3.mono (s4.trans s5)
                    refine ⟨R5.len, same_upd0 R5.same hD, fun b hb => upd_nn (R5.fin b hb), fun j d' hj hO => ?_, fun j hj => absurd hj (by simp), fun j hj => absurd hj (by simp)⟩
                    obtain ⟨v', w1, w2⟩ := R5.val j d' hj hO
                    refine ⟨v', w1, ?_⟩
                    rw [fob_nil] at w2 ⊢
                    rw [hh]; exact w2
                  · rw [hh]
                    exact k2.append (Reps.cons r5 Reps.nil)
              · cases hr
            · rename_i e3
              refine ⟨ρ, H1, F', δ1, .ok false, R3, e3, fun H4 s4 => iteF ?_⟩
              obtain ⟨k1, k2⟩ := keepD s4
              exact ⟨δ1, done, zs, rest, R3.mono s4, k1, k2, hr, htot⟩
            · cases hr
        · have ei : i = ds.length := by omega
          subst ei
          rw [List.drop_length] at hr
          cases hr
          rw [List.append_nil] at htot
          subst htot
          refine .inl ⟨j2 rfl, k _ H' (s1.trans R'.same) ?_⟩
          exact rep_lst.mpr ⟨Dd, zs, rfl, SqL.of (hid_some.mpr ⟨pf, hDd⟩), rz.mono (hid_le fun b q => (F't b).mpr (.inl q))⟩
      · cases hd'
  · exact ⟨ρ, H₀, F, δ, .error y, R, e1, k⟩
end
end DL
namespace DL
open PySem PySem.Spec L2
mutual
noncomputable def okD : D → Bool
  | .non => false
  | .bl _ => false
  | .ty _ => false
  | .obj _ => false
  | .tup ds => okDs ds
  | .lst ds => okDs ds
  | _ => true
noncomputable def okDs : List D → Bool
  | [] => true
  | d :: ds => okD d && okDs ds
end
mutual
noncomputable def depD : D → Nat
  | .tup ds => depDs ds + 1
  | .lst ds => depDs ds + 1
  | _ => 0
noncomputable def depDs : List D → Nat
  | [] => 0
  | d :: ds => max (depD d) (depDs ds)
end
mutual
noncomputable def eqB : D → D → Bool
  | .non, .non => true
  | .bl a, .bl b => a == b
  | .bl a, .int b => (if a then 1 else 0) == b
  | .int a, .bl b => a == (if b then 1 else 0)
  | .int a, .int b => a == b
  | .str a, .str b => a == b
  | .tup a, .tup b => eqBs a b
  | .lst a, .lst b => eqBs a b
  | _, _ => false
noncomputable def eqBs : List D → List D → Bool
  | [], [] => true
  | a :: as, b :: bs => eqB a b && eqBs as bs
  | _, _ => false
end
mutual
theorem eqB_refl : ∀ d : D, okD d = true → eqB d d = true
  | .non, _ => by unfold eqB; rfl
  | .bl _, _ => by unfold eqB; simp
  | .int _, _ => by unfold eqB; simp
  | .str _, _ => by unfold eqB; simp
  | .ty _, h => by unfold okD at h; cases h
  | .obj _, h => by unfold okD at h; cases h
  | .tup ds, h => by unfold okD at h; unfold eqB; exact eqBs_refl ds h
  | .lst ds, h => by unfold okD at h; unfold eqB; exact eqBs_refl ds h
theorem eqBs_refl : ∀ ds : List D, okDs ds = true → eqBs ds ds = true
  | [], _ => by unfold eqBs; rfl
  | d :: ds, h => by
    unfold okDs at h
    rw [Bool.and_eq_true] at h
    unfold eqBs
    rw [eqB_refl d h.1, eqBs_refl ds h.2]; rfl
end
theorem eqBs_len : ∀ {as bs : List D}, eqBs as bs = true → as.length = bs.length
  | [], [], _ => rfl
  | [], _ :: _, h => by unfold eqBs at h; cases h
  | _ :: _, [], h => by unfold eqBs at h; cases h
  | a :: as, b :: bs, h => by
    unfold eqBs at h
    rw [Bool.and_eq_true] at h
    simp [eqBs_len h.2]
theorem eqBs_all : ∀ {as bs : List D}, as.length = bs.length → ∀ (k : Nat → Bool), (∀ j a b, as[j]? = some a → bs[j]? = some b → k j = eqB a b) → (List.range as.length).all k = eqBs as bs
  | [], [], _, k, _ => by unfold eqBs; rfl
  | [], _ :: _, h, _, _ => by simp at h
  | _ :: _, [], h, _, _ => by simp at h
  | a :: as, b :: bs, h, k, hk => by
    unfold eqBs
    rw [List.length_cons, List.range_succ_eq_map, List.all_cons, List.all_map, hk 0 a b rfl rfl]
    congr 1
    exact eqBs_all (by simpa using h) (k ∘ Nat.succ) fun j x y e1 e2 => hk (j + 1) x y (by simpa using e1) (by simpa using e2)
theorem okDs_get : ∀ {ds : List D} {i : Nat} {d : D}, okDs ds = true → ds[i]? = some d → okD d = true
  | [], _, _, _, e => by simp at e
  | d :: ds, 0, x, h, e => by unfold okDs at h; rw [Bool.and_eq_true] at h; simp at e; subst e; exact h.1
  | d :: ds, i + 1, x, h, e => by unfold okDs at h; rw [Bool.and_eq_true] at h; exact okDs_get h.2 (by simpa using e)
theorem depDs_get : ∀ {ds : List D} {i : Nat} {d : D}, ds[i]? = some d → depD d ≤ depDs ds
  | [], _, _, e => by simp at e
  | d :: ds, 0, x, e => by simp at e; subst e; unfold depDs; omega
  | d :: ds, i + 1, x, e => by have := depDs_get (ds := ds) (i := i) (d := x) (by simpa using e); unfold depDs; omega
section
variable {ρ : Rho} {X : Cx} {pins : List (Addr × Obj)} {σ : St} {H : Hp} {s : Shared}
theorem lt_ne {l : Addr} {xs ys : List V} (I : Inv X pins σ H s) (h1 : SqT X.K H l xs) (h2 : SqL X.K H l ys) : False := by
  obtain ⟨i1, _, p1, _⟩ := I.tuple h1
  obtain ⟨i2, _, p2, _⟩ := I.list h2
  exact SeqAt.ne_of_list_tuple p2.isList p1 rfl
mutual
theorem rep_inj (I : Inv X pins σ H s) : ∀ {d e : D} {v : V}, okD d = true → okD e = true → Rep ρ X.K H d v → Rep ρ X.K H e v → d = e
  | .non, e, v, _, oe, h, k => by
    cases rep_non.mp h
    cases e with
    | non => rfl
    | bl _ => exact nomatch rep_bl.mp k
    | int _ => exact nomatch rep_int.mp k
    | str _ => exact nomatch rep_str.mp k
    | ty _ => unfold okD at oe; cases oe
    | obj _ => unfold okD at oe; cases oe
    | tup _ => obtain ⟨_, _, z, _⟩ := rep_tup.mp k; cases z
    | lst _ => obtain ⟨_, _, z, _⟩ := rep_lst.mp k; cases z
  | .bl b, e, v, _, oe, h, k => by
    cases rep_bl.mp h
    cases e with
    | non => exact nomatch rep_non.mp k
    | bl _ => cases rep_bl.mp k; rfl
    | int _ => exact nomatch rep_int.mp k
    | str _ => exact nomatch rep_str.mp k
    | ty _ => unfold okD at oe; cases oe
    | obj _ => unfold okD at oe; cases oe
    | tup _ => obtain ⟨_, _, z, _⟩ := rep_tup.mp k; cases z
    | lst _ => obtain ⟨_, _, z, _⟩ := rep_lst.mp k; cases z
  | .int b, e, v, _, oe, h, k => by
    cases rep_int.mp h
    cases e with
    | non => exact nomatch rep_non.mp k
    | bl _ => exact nomatch rep_bl.mp k
    | int _ => cases rep_int.mp k; rfl
    | str _ => exact nomatch rep_str.mp k
    | ty _ => unfold okD at oe; cases oe
    | obj _ => unfold okD at oe; cases oe
    | tup _ => obtain ⟨_, _, z, _⟩ := rep_tup.mp k; cases z
    | lst _ => obtain ⟨_, _, z, _⟩ := rep_lst.mp k; cases z
  | .str b, e, v, _, oe, h, k => by
    cases rep_str.mp h
    cases e with
    | non => exact nomatch rep_non.mp k
    | bl _ => exact nomatch rep_bl.mp k
    | int _ => exact nomatch rep_int.mp k
    | str _ => cases rep_str.mp k; rfl
    | ty _ => unfold okD at oe; cases oe
    | obj _ => unfold okD at oe; cases oe
    | tup _ => obtain ⟨_, _, z, _⟩ := rep_tup.mp k; cases z
    | lst _ => obtain ⟨_, _, z, _⟩ := rep_lst.mp k; cases z
  | .ty _, _, _, od, _, _, _ => by unfold okD at od; cases od
  | .obj _, _, _, od, _, _, _ => by unfold okD at od; cases od
  | .tup ds, e, v, od, oe, h, k => by
    obtain ⟨a, xs, rfl, q1, q2⟩ := rep_tup.mp h
    cases e with
    | non => exact nomatch rep_non.mp k
    | bl _ => exact nomatch rep_bl.mp k
    | int _ => exact nomatch rep_int.mp k
    | str _ => exact nomatch rep_str.mp k
    | ty _ => unfold okD at oe; cases oe
    | obj _ => unfold okD at oe; cases oe
    | tup es =>
      obtain ⟨b, ys, z, p1, p2⟩ := rep_tup.mp k
      cases z
      rw [I.tuple_inj q1 p1] at q2
      unfold okD at od oe
      rw [reps_inj I od oe q2 p2]
    | lst es =>
      obtain ⟨b, ys, z, p1, p2⟩ := rep_lst.mp k
      cases z
      exact (lt_ne I q1 p1).elim
  | .lst ds, e, v, od, oe, h, k => by
    obtain ⟨a, xs, rfl, q1, q2⟩ := rep_lst.mp h
    cases e with
    | non => exact nomatch rep_non.mp k
    | bl _ => exact nomatch rep_bl.mp k
    | int _ => exact nomatch rep_int.mp k
    | str _ => exact nomatch rep_str.mp k
    | ty _ => unfold okD at oe; cases oe
    | obj _ => unfold okD at oe; cases oe
    | tup es =>
      obtain ⟨b, ys, z, p1, p2⟩ := rep_tup.mp k
      cases z
      exact (lt_ne I p1 q1).elim
    | lst es =>
      obtain ⟨b, ys, z, p1, p2⟩ := rep_lst.mp k
      cases z
      rw [I.list_inj q1 p1] at q2
      unfold okD at od oe
      rw [reps_inj I od oe q2 p2]
theorem reps_inj (I : Inv X pins σ H s) : ∀ {ds es : List D} {vs : List V}, okDs ds = true → okDs es = true → Reps ρ X.K H ds vs → Reps ρ X.K H es vs → ds = es
  | [], [], _, _, _, _, _ => rfl
  | [], _ :: _, _, _, _, h, k => by cases reps_nil.mp h; obtain ⟨_, _, z, _⟩ := reps_cons.mp k; cases z
  | _ :: _, [], _, _, _, h, k => by cases reps_nil.mp k; obtain ⟨_, _, z, _⟩ := reps_cons.mp h; cases z
  | d :: ds, e :: es, vs, od, oe, h, k => by
    obtain ⟨v, r, rfl, h1, h2⟩ := reps_cons.mp h
    obtain ⟨v', r', z, k1, k2⟩ := reps_cons.mp k
    cases z
    unfold okDs at od oe
    rw [Bool.and_eq_true] at od oe
    rw [rep_inj I od.1 oe.1 h1 k1, reps_inj I od.2 oe.2 h2 k2]
end
theorem eq_deep (I : Inv X pins σ H s) : ∀ (n : Nat) (A : Around) (d e : D) (v u : V) (a b : Value), depD d ≤ n → A.units + n + 1 < cLine → okD d = true → okD e = true → Rep ρ X.K H d v → Rep ρ X.K H e u → RelV v a → RelV u b →
    SeqAt.RcAt A s a b (eqB d e) ∧ SeqAt.EqAt A s a b (eqB d e) := by
  intro n
  induction n with
  | zero =>
    intro A d e v u a b hd hu od oe rd re ra rb
    have hu' : A.units < cLine := by omega
    have seqT : ∀ {es : List D}, Rep ρ X.K H (.tup es) u → ∃ l its, b = .ref l ∧ s.heap.IsTuple l its := fun h => by
      obtain ⟨l, xs, rfl, q1, _⟩ := rep_tup.mp h
      obtain ⟨its, _, p, _⟩ := I.tuple q1
      exact ⟨l, _, rb, p⟩
    have seqL : ∀ {es : List D}, Rep ρ X.K H (.lst es) u → ∃ l its, b = .ref l ∧ s.heap.IsList l its := fun h => by
      obtain ⟨l, xs, rfl, q1, _⟩ := rep_lst.mp h
      obtain ⟨its, _, p, _⟩ := I.list q1
      exact ⟨l, _, rb, p.isList⟩
    cases d with
    | ty _ => unfold okD at od; cases od
    | obj _ => unfold okD at od; cases od
    | tup _ => unfold depD at hd; omega
    | lst _ => unfold depD at hd; omega
    | non => unfold okD at od; cases od
    | bl x => unfold okD at od; cases od
    | int x =>
      cases rep_int.mp rd; obtain ⟨ta, rfl⟩ := ra
      cases e with
      | ty _ => unfold okD at oe; cases oe
      | obj _ => unfold okD at oe; cases oe
      | non => unfold okD at oe; cases oe
      | bl y => unfold okD at oe; cases oe
      | int y => cases rep_int.mp re; obtain ⟨t, rfl⟩ := rb; exact ⟨SeqAt.RcAt.int_int _ _ _ _, SeqAt.EqAt.int_int _ _ _ _⟩
      | str y => cases rep_str.mp re; obtain ⟨t, rfl⟩ := rb; exact ⟨SeqAt.RcAt.int_str _ _ _ _, SeqAt.EqAt.int_str _ _ _ _⟩
      | tup es => obtain ⟨l, its, rfl, p⟩ := seqT re; exact ⟨SeqAt.RcAt.int_tuple _ _ p hu', SeqAt.EqAt.int_tuple _ _ p hu'⟩
      | lst es => obtain ⟨l, its, rfl, p⟩ := seqL re; exact ⟨SeqAt.RcAt.int_list _ _ p hu', SeqAt.EqAt.int_list _ _ p hu'⟩
    | str x =>
      cases rep_str.mp rd; obtain ⟨ta, rfl⟩ := ra
      cases e with
      | ty _ => unfold okD at oe; cases oe
      | obj _ => unfold okD at oe; cases oe
      | non => unfold okD at oe; cases oe
      | bl y => unfold okD at oe; cases oe
      | int y => cases rep_int.mp re; obtain ⟨t, rfl⟩ := rb; exact ⟨SeqAt.RcAt.str_int _ _ _ _, SeqAt.EqAt.str_int _ _ _ _⟩
      | str y => cases rep_str.mp re; obtain ⟨t, rfl⟩ := rb; exact ⟨SeqAt.RcAt.str_str _ _ _ _, SeqAt.EqAt.str_str _ _ _ _⟩
      | tup es => obtain ⟨l, its, rfl, p⟩ := seqT re; exact ⟨SeqAt.RcAt.str_tuple _ _ p hu', SeqAt.EqAt.str_tuple _ _ p hu'⟩
      | lst es => obtain ⟨l, its, rfl, p⟩ := seqL re; exact ⟨SeqAt.RcAt.str_list _ _ p hu', SeqAt.EqAt.str_list _ _ p hu'⟩
  | succ n ih =>
    intro A d e v u a b hd hu od oe rd re ra rb
    have hu' : A.units < cLine := by omega
    have hin : A.in1.units + n + 1 < cLine := by show A.units + 1 + n + 1 < cLine; omega
    by_cases small : depD d ≤ n
    · exact ih A d e v u a b small (by omega) od oe rd re ra rb
    · -- the two are refs: the same, or apart
      have both : ∀ {l m : Addr}, v = .ref l → u = .ref m → a = .ref l → b = .ref m → SeqAt.RcAt A s a b (eqB d e) → SeqAt.RcAt A s a b (eqB d e) ∧ SeqAt.EqAt A s a b (eqB d e) := fun {l m} ev eu ea eb r => by
        refine ⟨r, ?_⟩
        subst ev eu ea eb
        by_cases z : l = m
        · subst z
          have : d = e := rep_inj I od oe rd re
          subst this
          rw [eqB_refl d od]
          exact SeqAt.EqAt.same _
        · exact SeqAt.EqAt.of_refs z r
      cases d with
      | ty _ => unfold okD at od; cases od
      | obj _ => unfold okD at od; cases od
      | non => unfold depD at small; omega
      | bl _ => unfold depD at small; omega
      | int _ => unfold depD at small; omega
      | str _ => unfold depD at small; omega
      | tup ds =>
        obtain ⟨l, xs, rfl, q1, q2⟩ := rep_tup.mp rd
        cases ra
        obtain ⟨ix, rx, px, _⟩ := I.tuple q1
        have px' : s.heap.IsTuple l ix.toArray := px
        unfold okD at od
        unfold depD at hd
        cases e with
        | ty _ => unfold okD at oe; cases oe
        | obj _ => unfold okD at oe; cases oe
        | non => unfold okD at oe; cases oe
        | bl y => unfold okD at oe; cases oe
        | int y => cases rep_int.mp re; obtain ⟨t, rfl⟩ := rb; exact ⟨SeqAt.RcAt.tuple_int _ _ px' hu', SeqAt.EqAt.tuple_int _ _ px' hu'⟩
        | str y => cases rep_str.mp re; obtain ⟨t, rfl⟩ := rb; exact ⟨SeqAt.RcAt.tuple_str _ _ px' hu', SeqAt.EqAt.tuple_str _ _ px' hu'⟩
        | lst es =>
          obtain ⟨m, ys, rfl, p1, p2⟩ := rep_lst.mp re
          cases rb
          obtain ⟨iy, ry, py, _⟩ := I.list p1
          unfold eqB
          exact ⟨SeqAt.RcAt.tuple_list px' py.isList hu', SeqAt.EqAt.tuple_list px' py.isList hu'⟩
        | tup es =>
          obtain ⟨m, ys, rfl, p1, p2⟩ := rep_tup.mp re
          cases rb
          obtain ⟨iy, ry, py, _⟩ := I.tuple p1
          unfold okD at oe
          refine both rfl rfl rfl rfl ?_
          have lx := rx.length
          have ly := ry.length
          have mx := q2.length
          have my := p2.length
          have R := SeqAt.RcAt.tuples (e := fun j => match ds[j]?, es[j]? with | some x, some y => eqB x y | _, _ => false) px' (show s.heap.IsTuple m iy.toArray from py) hu' fun j h1 h2 => by
            have h1' : j < ix.length := by simpa using h1
            have h2' : j < iy.length := by simpa using h2
            have hj1 : j < ds.length := by omega
            have hj2 : j < es.length := by omega
            obtain ⟨v1, e1, r1⟩ := q2.get (List.getElem?_eq_getElem hj1)
            obtain ⟨v2, e2, r2⟩ := p2.get (List.getElem?_eq_getElem hj2)
            obtain ⟨u1, f1, s1⟩ := rx.get e1
            obtain ⟨u2, f2, s2⟩ := ry.get e2
            have g1 : ix.toArray[j] = u1 := by rw [List.getElem?_eq_getElem h1'] at f1; simpa using Option.some.inj f1
            have g2 : iy.toArray[j] = u2 := by rw [List.getElem?_eq_getElem h2'] at f2; simpa using Option.some.inj f2
            rw [g1, g2, List.getElem?_eq_getElem hj1, List.getElem?_eq_getElem hj2]
            have dd := depDs_get (List.getElem?_eq_getElem hj1)
            exact (ih A.in1 _ _ v1 v2 u1 u2 (by omega) hin (okDs_get od (List.getElem?_eq_getElem hj1)) (okDs_get oe (List.getElem?_eq_getElem hj2)) r1 r2 s1 s2).2
          unfold eqB
          have fin : ((List.range (min ix.toArray.size iy.toArray.size)).all (fun j => match ds[j]?, es[j]? with | some x, some y => eqB x y | _, _ => false) && ix.toArray.size == iy.toArray.size) = eqBs ds es := by
            simp only [List.size_toArray]
            by_cases hl : ds.length = es.length
            · have e1 : min ix.length iy.length = ds.length := by omega
              have e2 : (ix.length == iy.length) = true := by simp; omega
              rw [e1, e2, Bool.and_true]
              exact eqBs_all hl _ fun j x y z1 z2 => by rw [z1, z2]
            · have e2 : (ix.length == iy.length) = false := by simp; omega
              rw [e2, Bool.and_false]
              cases z : eqBs ds es with
              | false => rfl
              | true => exact absurd (eqBs_len z) hl
          rw [fin] at R
          exact R
      | lst ds =>
        obtain ⟨l, xs, rfl, q1, q2⟩ := rep_lst.mp rd
        cases ra
        obtain ⟨ix, rx, px, _⟩ := I.list q1
        have px' : s.heap.IsList l ix.toArray := px.isList
        unfold okD at od
        unfold depD at hd
        cases e with
        | ty _ => unfold okD at oe; cases oe
        | obj _ => unfold okD at oe; cases oe
        | non => unfold okD at oe; cases oe
        | bl y => unfold okD at oe; cases oe
        | int y => cases rep_int.mp re; obtain ⟨t, rfl⟩ := rb; exact ⟨SeqAt.RcAt.list_int _ _ px' hu', SeqAt.EqAt.list_int _ _ px' hu'⟩
        | str y => cases rep_str.mp re; obtain ⟨t, rfl⟩ := rb; exact ⟨SeqAt.RcAt.list_str _ _ px' hu', SeqAt.EqAt.list_str _ _ px' hu'⟩
        | tup es =>
          obtain ⟨m, ys, rfl, p1, p2⟩ := rep_tup.mp re
          cases rb
          obtain ⟨iy, ry, py, _⟩ := I.tuple p1
          unfold eqB
          exact ⟨SeqAt.RcAt.list_tuple px' py hu', SeqAt.EqAt.list_tuple px' py hu'⟩
        | lst es =>
          obtain ⟨m, ys, rfl, p1, p2⟩ := rep_lst.mp re
          cases rb
          obtain ⟨iy, ry, py, _⟩ := I.list p1
          unfold okD at oe
          refine both rfl rfl rfl rfl ?_
          have lx := rx.length
          have ly := ry.length
          have mx := q2.length
          have my := p2.length
          unfold eqB
          by_cases hl : ds.length = es.length
          · have hsz : ix.toArray.size = iy.toArray.size := by simp only [List.size_toArray]; omega
            have R := SeqAt.RcAt.lists (e := fun j => match ds[j]?, es[j]? with | some x, some y => eqB x y | _, _ => false) px' py.isList hsz hu' fun j h1 h2 => by
              have h1' : j < ix.length := by simpa using h1
              have h2' : j < iy.length := by simpa using h2
              have hj1 : j < ds.length := by omega
              have hj2 : j < es.length := by omega
              obtain ⟨v1, e1, r1⟩ := q2.get (List.getElem?_eq_getElem hj1)
              obtain ⟨v2, e2, r2⟩ := p2.get (List.getElem?_eq_getElem hj2)
              obtain ⟨u1, f1, s1⟩ := rx.get e1
              obtain ⟨u2, f2, s2⟩ := ry.get e2
              have g1 : ix.toArray[j] = u1 := by rw [List.getElem?_eq_getElem h1'] at f1; simpa using Option.some.inj f1
              have g2 : iy.toArray[j] = u2 := by rw [List.getElem?_eq_getElem h2'] at f2; simpa using Option.some.inj f2
              rw [g1, g2, List.getElem?_eq_getElem hj1, List.getElem?_eq_getElem hj2]
              have dd := depDs_get (List.getElem?_eq_getElem hj1)
              exact (ih A.in1 _ _ v1 v2 u1 u2 (by omega) hin (okDs_get od (List.getElem?_eq_getElem hj1)) (okDs_get oe (List.getElem?_eq_getElem hj2)) r1 r2 s1 s2).2
            have e1 : ix.toArray.size = ds.length := by simp only [List.size_toArray]; omega
            rw [e1, eqBs_all hl _ fun j x y z1 z2 => by rw [z1, z2]] at R
            exact R
          · have R := SeqAt.RcAt.lists_lengths (s := s) (A := A) px' py.isList (by simp only [List.size_toArray]; simp; omega) hu'
            cases z : eqBs ds es with
            | false => exact R
            | true => exact absurd (eqBs_len z) hl
end
end DL
namespace DL
open PySem PySem.Spec L2
noncomputable def BIGN : Nat := Classical.choose (⟨2 ^ 100000, rfl⟩ : ∃ n : Nat, n = 2 ^ 100000)
theorem BIGN_eq : BIGN = 2 ^ 100000 := Classical.choose_spec (⟨2 ^ 100000, rfl⟩ : ∃ n : Nat, n = 2 ^ 100000)
noncomputable def BIG : Int := (BIGN : Int)
noncomputable def DIVN : Nat := Classical.choose (⟨2 ^ 9000, rfl⟩ : ∃ n : Nat, n = 2 ^ 9000)
theorem DIVN_eq : DIVN = 2 ^ 9000 := Classical.choose_spec (⟨2 ^ 9000, rfl⟩ : ∃ n : Nat, n = 2 ^ 9000)
noncomputable def DIVB : Int := (DIVN : Int)
noncomputable def inBig (i : Int) : Bool := decide (-BIG < i) && decide (i < BIG)
noncomputable def gAdd : D → D → Option D
  | .int i, .int j => some (.int (i + j))
  | .str x, .str y => if x.length + y.length ≤ sizeLine then some (.str (x ++ y)) else none
  | _, _ => none
noncomputable def gSub : D → D → Option D
  | .int i, .int j => some (.int (i - j))
  | _, _ => none
noncomputable def gMul : D → D → Option D
  | .int i, .int j => if (inBig i && inBig j) = true then some (.int (i * j)) else none
  | .str x, .int n => if x.length ≤ 4096 ∧ -4096 ≤ n ∧ n ≤ 4096 then some (.str (Txt.mul x n)) else none
  | _, _ => none
noncomputable def gMod : D → D → Option D
  | .int i, .int j => if 0 < j then some (.int (i % j)) else none
  | _, _ => none
noncomputable def gFdiv : D → D → Option D
  | .int i, .int j => if 0 < j ∧ j < DIVB then some (.int (i / j)) else none
  | _, _ => none
noncomputable def gPow : D → D → Option D
  | .int i, .int j => if 0 ≤ j ∧ j ≤ 1000 ∧ -(2 ^ 60) < i ∧ i < 2 ^ 60 then some (.int (i ^ j.toNat)) else none
  | _, _ => none
noncomputable def gCmp (p : Int → Int → Bool) (q : Str → Str → Bool) : D → D → Option D
  | .int i, .int j => some (.bl (p i j))
  | .str x, .str y => some (.bl (q x y))
  | _, _ => none
noncomputable def gLt := gCmp (fun i j => decide (i < j)) (fun x y => decide (x.cps.toList < y.cps.toList))
noncomputable def gLe := gCmp (fun i j => decide (i ≤ j)) (fun x y => !decide (y.cps.toList < x.cps.toList))
noncomputable def gGt := gCmp (fun i j => decide (j < i)) (fun x y => decide (y.cps.toList < x.cps.toList))
noncomputable def gGe := gCmp (fun i j => decide (j ≤ i)) (fun x y => !decide (x.cps.toList < y.cps.toList))
noncomputable def gEq : D → D → Option D := fun x y => if (okD x && okD y && decide (depD x ≤ 20)) = true then some (.bl (eqB x y)) else none
noncomputable def gNe : D → D → Option D := fun x y => if (okD x && okD y && decide (depD x ≤ 20)) = true then some (.bl !(eqB x y)) else none
noncomputable def isNonD : D → Bool
  | .non => true
  | _ => false
noncomputable def gIs : D → D → Option D
  | x, .non => some (.bl (isNonD x))
  | _, _ => none
noncomputable def gNeg : D → Option D
  | .int i => some (.int (-i))
  | _ => none
noncomputable def gIx : D → D → Option D
  | .lst ds, .int i => atI ds i
  | .tup ds, .int i => atI ds i
  | .str z, .int i => if z.length ≤ sizeLine then (atI z.cps.toList i).map fun c => .str ⟨#[c]⟩ else none
  | _, _ => none
theorem big_bits {i : Int} (h : inBig i = true) : Builtin.Int.intBits i ≤ 100001 := by
  unfold inBig at h
  rw [Bool.and_eq_true, decide_eq_true_eq, decide_eq_true_eq] at h
  unfold Builtin.Int.intBits
  split
  · omega
  · have hn : i.natAbs ≠ 0 := by
      intro z
      have : i = 0 := by omega
      subst this
      simp at *
    have hlt : i.natAbs < BIGN := by
      unfold BIG at h
      omega
    rw [BIGN_eq] at hlt
    have := (Nat.log2_lt (k := 100000) hn).mpr hlt
    omega
theorem big_mul {i j : Int} (h1 : inBig i = true) (h2 : inBig j = true) : IntMulOk i j := by
  have b1 := big_bits h1
  have b2 := big_bits h2
  unfold IntMulOk
  have : Builtin.Int.intTooBig ((Builtin.Int.intBits i : Int) + (Builtin.Int.intBits j : Int)) = false := by
    unfold Builtin.Int.intTooBig bitsLine
    simp
    omega
  intro h
  rw [Bool.and_eq_true] at h
  have h2 := h.2
  first
    | (rw [this] at h2; cases h2)
    | (push_cast at h2; rw [this] at h2; cases h2)
section
variable {X : Cx}
theorem opd_add : OpD X.K gAdd (fun x y H Q => rI0 (fun i j => .int (i + j)) x y H Q ∨ ∃ i j, x = .str i ∧ y = .str j ∧ i.length + j.length ≤ sizeLine ∧ Q (.str (i ++ j)) H) := by
  intro x y d hd ρ H G u v Q hG ru rv k
  unfold gAdd at hd
  split at hd
  · cases hd; exact .inl ⟨_, _, rep_int.mp ru, rep_int.mp rv, k _ H (Same.refl H) (rep_int.mpr rfl)⟩
  · split at hd
    · rename_i hz
      cases hd; exact .inr ⟨_, _, rep_str.mp ru, rep_str.mp rv, hz, k _ H (Same.refl H) (rep_str.mpr rfl)⟩
    · cases hd
  · cases hd
theorem op_addD : OpR X (binaryOp .Add) (fun x y H Q => rI0 (fun i j => .int (i + j)) x y H Q ∨ ∃ i j, x = .str i ∧ y = .str j ∧ i.length + j.length ≤ sizeLine ∧ Q (.str (i ++ j)) H) := op_add.or op_add_str
theorem opd_sub : OpD X.K gSub (rI0 fun i j => .int (i - j)) := by
  intro x y d hd ρ H G u v Q hG ru rv k
  unfold gSub at hd
  split at hd
  · cases hd; exact ⟨_, _, rep_int.mp ru, rep_int.mp rv, k _ H (Same.refl H) (rep_int.mpr rfl)⟩
  · cases hd
theorem op_mulD : OpR X (binaryOp .Mult) (fun x y H Q => rI (fun i j => (inBig i && inBig j) = true) (fun i j => .int (i * j)) x y H Q ∨ ∃ z n, x = .str z ∧ y = .int n ∧ (z.length ≤ 4096 ∧ -4096 ≤ n ∧ n ≤ 4096) ∧ Q (.str (Txt.mul z n)) H) := by
  refine OpR.or (opI fun i j t u s E Q hc q => PyProof.Rows.mul_int q (by rw [Bool.and_eq_true] at hc; exact big_mul hc.1 hc.2)) ?_
  intro pins s σ H x y v u Q I rx ry h
  obtain ⟨z, n, rfl, rfl, ⟨h1, h2, h3⟩, q⟩ := h
  obtain ⟨t, rfl⟩ := rx
  obtain ⟨t', rfl⟩ := ry
  refine SB.mul (PyProof.Rows.mulOk_of 4096 4096 h1 h3 (by omega) (by decide) (by decide)) fun t' k => ⟨.str (Txt.mul z n), H, I.tok _, ⟨_, rfl⟩, q⟩
theorem opd_mul : OpD X.K gMul (fun x y H Q => rI (fun i j => (inBig i && inBig j) = true) (fun i j => .int (i * j)) x y H Q ∨ ∃ z n, x = .str z ∧ y = .int n ∧ (z.length ≤ 4096 ∧ -4096 ≤ n ∧ n ≤ 4096) ∧ Q (.str (Txt.mul z n)) H) := by
  intro x y d hd ρ H G u v Q hG ru rv k
  unfold gMul at hd
  split at hd
  · split at hd
    · rename_i hz
      cases hd; exact .inl ⟨_, _, rep_int.mp ru, rep_int.mp rv, hz, k _ H (Same.refl H) (rep_int.mpr rfl)⟩
    · cases hd
  · split at hd
    · rename_i hz
      cases hd; exact .inr ⟨_, _, rep_str.mp ru, rep_int.mp rv, hz, k _ H (Same.refl H) (rep_str.mpr rfl)⟩
    · cases hd
  · cases hd
theorem opd_mod : OpD X.K gMod (rI (fun _ j => 0 < j) fun i j => .int (i % j)) := by
  intro x y d hd ρ H G u v Q hG ru rv k
  unfold gMod at hd
  split at hd
  · split at hd
    · rename_i hz
      cases hd; exact ⟨_, _, rep_int.mp ru, rep_int.mp rv, hz, k _ H (Same.refl H) (rep_int.mpr rfl)⟩
    · cases hd
  · cases hd
theorem op_fdivD : OpR X (binaryOp .FloorDiv) (rI (fun _ j => 0 < j ∧ j < DIVB) fun i j => .int (i / j)) := opI fun i j t u s E Q hc q => by
  have e : i.fdiv j = i / j := Int.fdiv_eq_ediv_of_nonneg i (Int.le_of_lt hc.1)
  refine PyProof.Rows.floordiv_int (by omega) (by rw [e]; exact q) (.inl (PyProof.noPylong_of_log2 ?_))
  have hn : j.natAbs ≠ 0 := by omega
  have hlt : j.natAbs < DIVN := by
    have := hc.2
    unfold DIVB at this
    omega
  rw [DIVN_eq] at hlt
  exact (Nat.log2_lt (k := 9000) hn).mpr hlt
theorem opd_fdiv : OpD X.K gFdiv (rI (fun _ j => 0 < j ∧ j < DIVB) fun i j => .int (i / j)) := by
  intro x y d hd ρ H G u v Q hG ru rv k
  unfold gFdiv at hd
  split at hd
  · split at hd
    · rename_i hz
      cases hd; exact ⟨_, _, rep_int.mp ru, rep_int.mp rv, hz, k _ H (Same.refl H) (rep_int.mpr rfl)⟩
    · cases hd
  · cases hd
theorem opd_pow : OpD X.K gPow (rI CPow fun i j => .int (i ^ j.toNat)) := by
  intro x y d hd ρ H G u v Q hG ru rv k
  unfold gPow at hd
  split at hd
  · split at hd
    · rename_i hz
      cases hd; exact ⟨_, _, rep_int.mp ru, rep_int.mp rv, ⟨hz.1, by omega, by omega⟩, k _ H (Same.refl H) (rep_int.mpr rfl)⟩
    · cases hd
  · cases hd
theorem opd_cmp {p : Int → Int → Bool} {q : Str → Str → Bool} : OpD X.K (gCmp p q) (fun x y H Q => rI0 (fun i j => .bl (p i j)) x y H Q ∨ ∃ i j, x = .str i ∧ y = .str j ∧ Q (.bl (q i j)) H) := by
  intro x y d hd ρ H G u v Q hG ru rv k
  unfold gCmp at hd
  split at hd
  · cases hd; exact .inl ⟨_, _, rep_int.mp ru, rep_int.mp rv, k _ H (Same.refl H) (rep_bl.mpr rfl)⟩
  · cases hd; exact .inr ⟨_, _, rep_str.mp ru, rep_str.mp rv, k _ H (Same.refl H) (rep_bl.mpr rfl)⟩
  · cases hd
theorem op_strs {op : CmpOp} {q : Str → Str → Bool} (h : ∀ {prog : Program} {w : World} {A : Around} {E : Value → Shared → Prop} {s : Shared} {Q : Value → Shared → Prop} (x y : Str) (t u : Tok), Q (.bool (q x y)) s → wpAny (model prog w) A (compareOp op (.str x t) (.str y u)) Q E s) :
    OpR X (compareOp op) (fun x y H Q => ∃ i j, x = .str i ∧ y = .str j ∧ Q (.bl (q i j)) H) := by
  intro pins s σ H x y v u Q I rx ry k
  obtain ⟨i, j, rfl, rfl, k⟩ := k
  obtain ⟨t, rfl⟩ := rx
  obtain ⟨t', rfl⟩ := ry
  exact h i j t t' ⟨.bl (q i j), H, I, rfl, k⟩
theorem op_ltD : OpR X (compareOp .Lt) (fun x y H Q => rI0 (fun i j => .bl (decide (i < j))) x y H Q ∨ ∃ i j, x = .str i ∧ y = .str j ∧ Q (.bl (decide (i.cps.toList < j.cps.toList))) H) := op_lt.or op_lt_str
theorem op_leD : OpR X (compareOp .LtE) (fun x y H Q => rI0 (fun i j => .bl (decide (i ≤ j))) x y H Q ∨ ∃ i j, x = .str i ∧ y = .str j ∧ Q (.bl (!decide (j.cps.toList < i.cps.toList))) H) := op_le.or (op_strs fun x y t u h => P.le_str h)
theorem op_gtD : OpR X (compareOp .Gt) (fun x y H Q => rI0 (fun i j => .bl (decide (j < i))) x y H Q ∨ ∃ i j, x = .str i ∧ y = .str j ∧ Q (.bl (decide (j.cps.toList < i.cps.toList))) H) := op_gt.or (op_strs fun x y t u h => P.gt_str h)
theorem op_geD : OpR X (compareOp .GtE) (fun x y H Q => rI0 (fun i j => .bl (decide (j ≤ i))) x y H Q ∨ ∃ i j, x = .str i ∧ y = .str j ∧ Q (.bl (!decide (i.cps.toList < j.cps.toList))) H) := op_ge.or (op_strs fun x y t u h => P.ge_str h)
noncomputable def rEqD (K : PySem.W.Frag) (neg : Bool) : R2 := fun u v H Q => ∃ ρ x y, okD x = true ∧ okD y = true ∧ depD x ≤ 20 ∧ Rep ρ K H x u ∧ Rep ρ K H y v ∧ Q (.bl (if neg then !eqB x y else eqB x y)) H
theorem op_eqD (hu : X.A.units + 30 < cLine) : OpR X (compareOp .Eq) (rEqD X.K false) := by
  intro pins s σ H x y v u Q I rx ry h
  obtain ⟨ρ, d, e, o1, o2, hd, r1, r2, q⟩ := h
  exact (eq_deep I 20 X.A d e x y v u hd (by omega) o1 o2 r1 r2 rx ry).1 _ _ _ _ ⟨.bl (eqB d e), H, I, rfl, q⟩
theorem opd_eq : OpD X.K gEq (rEqD X.K false) := by
  intro x y d hd ρ H G u v Q hG ru rv k
  unfold gEq at hd
  split at hd
  · rename_i h
    rw [Bool.and_eq_true, Bool.and_eq_true, decide_eq_true_eq] at h
    cases hd
    exact ⟨ρ, x, y, h.1.1, h.1.2, h.2, ru.mono same_un, rv.mono same_un, k _ H (Same.refl H) (rep_bl.mpr rfl)⟩
  · cases hd
theorem opd_ne : OpD X.K gNe (rEqD X.K true) := by
  intro x y d hd ρ H G u v Q hG ru rv k
  unfold gNe at hd
  split at hd
  · rename_i h
    rw [Bool.and_eq_true, Bool.and_eq_true, decide_eq_true_eq] at h
    cases hd
    exact ⟨ρ, x, y, h.1.1, h.1.2, h.2, ru.mono same_un, rv.mono same_un, k _ H (Same.refl H) (rep_bl.mpr rfl)⟩
  · cases hd
theorem ne_tuples {ρ : Rho} {pins : List (Addr × Obj)} {σ : St} {H : Hp} {s : Shared} (I : Inv X pins σ H s) (A : Around) {ds es : List D} {v u : V} {a b : Value} (hd : depD (.tup ds) ≤ 20) (hu : A.units + 24 < cLine) (od : okD (.tup ds) = true) (oe : okD (.tup es) = true)
    (rd : Rep ρ X.K H (.tup ds) v) (re : Rep ρ X.K H (.tup es) u) (ra : RelV v a) (rb : RelV u b) : SeqAt.RcNeAt A s a b (!eqB (.tup ds) (.tup es)) := by
  have hu' : A.units < cLine := by omega
  obtain ⟨l, xs, rfl, q1, q2⟩ := rep_tup.mp rd
  obtain ⟨m, ys, rfl, p1, p2⟩ := rep_tup.mp re
  cases ra
  cases rb
  obtain ⟨ix, rx, px, _⟩ := I.tuple q1
  obtain ⟨iy, ry, py, _⟩ := I.tuple p1
  unfold okD at od oe
  unfold depD at hd
  have lx := rx.length
  have ly := ry.length
  have mx := q2.length
  have my := p2.length
  have R := SeqAt.RcNeAt.tuples (A := A) (e := fun j => match ds[j]?, es[j]? with | some x, some y => eqB x y | _, _ => false) (show s.heap.IsTuple l ix.toArray from px) (show s.heap.IsTuple m iy.toArray from py) hu' fun j h1 h2 => by
    have h1' : j < ix.length := by simpa using h1
    have h2' : j < iy.length := by simpa using h2
    have hj1 : j < ds.length := by omega
    have hj2 : j < es.length := by omega
    obtain ⟨v1, e1, r1⟩ := q2.get (List.getElem?_eq_getElem hj1)
    obtain ⟨v2, e2, r2⟩ := p2.get (List.getElem?_eq_getElem hj2)
    obtain ⟨u1, f1, s1⟩ := rx.get e1
    obtain ⟨u2, f2, s2⟩ := ry.get e2
    have g1 : ix.toArray[j] = u1 := by rw [List.getElem?_eq_getElem h1'] at f1; simpa using Option.some.inj f1
    have g2 : iy.toArray[j] = u2 := by rw [List.getElem?_eq_getElem h2'] at f2; simpa using Option.some.inj f2
    rw [g1, g2, List.getElem?_eq_getElem hj1, List.getElem?_eq_getElem hj2]
    have dd := depDs_get (List.getElem?_eq_getElem hj1)
    exact (eq_deep I 20 A.in1 _ _ v1 v2 u1 u2 (by omega) (by show A.units + 1 + 20 + 1 < cLine; omega) (okDs_get od (List.getElem?_eq_getElem hj1)) (okDs_get oe (List.getElem?_eq_getElem hj2)) r1 r2 s1 s2).2
  unfold eqB
  have fin : ((List.range (min ix.toArray.size iy.toArray.size)).all (fun j => match ds[j]?, es[j]? with | some x, some y => eqB x y | _, _ => false) && ix.toArray.size == iy.toArray.size) = eqBs ds es := by
    simp only [List.size_toArray]
    by_cases hl : ds.length = es.length
    · have e1 : min ix.length iy.length = ds.length := by omega
      have e2 : (ix.length == iy.length) = true := by simp; omega
      rw [e1, e2, Bool.and_true]
      exact eqBs_all hl _ fun j x y z1 z2 => by rw [z1, z2]
    · have e2 : (ix.length == iy.length) = false := by simp; omega
      rw [e2, Bool.and_false]
      cases z : eqBs ds es with
      | false => rfl
      | true => exact absurd (eqBs_len z) hl
  rw [fin] at R
  exact R
theorem ne_lists {ρ : Rho} {pins : List (Addr × Obj)} {σ : St} {H : Hp} {s : Shared} (I : Inv X pins σ H s) (A : Around) {ds es : List D} {v u : V} {a b : Value} (hd : depD (.lst ds) ≤ 20) (hu : A.units + 24 < cLine) (od : okD (.lst ds) = true) (oe : okD (.lst es) = true)
    (rd : Rep ρ X.K H (.lst ds) v) (re : Rep ρ X.K H (.lst es) u) (ra : RelV v a) (rb : RelV u b) : SeqAt.RcNeAt A s a b (!eqB (.lst ds) (.lst es)) := by
  have hu' : A.units < cLine := by omega
  obtain ⟨l, xs, rfl, q1, q2⟩ := rep_lst.mp rd
  obtain ⟨m, ys, rfl, p1, p2⟩ := rep_lst.mp re
  cases ra
  cases rb
  obtain ⟨ix, rx, px, _⟩ := I.list q1
  obtain ⟨iy, ry, py, _⟩ := I.list p1
  unfold okD at od oe
  unfold depD at hd
  have lx := rx.length
  have ly := ry.length
  have mx := q2.length
  have my := p2.length
  unfold eqB
  by_cases hl : ds.length = es.length
  · have hsz : ix.toArray.size = iy.toArray.size := by simp only [List.size_toArray]; omega
    have R := SeqAt.RcNeAt.lists (A := A) (e := fun j => match ds[j]?, es[j]? with | some x, some y => eqB x y | _, _ => false) px.isList py.isList hsz hu' fun j h1 h2 => by
      have h1' : j < ix.length := by simpa using h1
      have h2' : j < iy.length := by simpa using h2
      have hj1 : j < ds.length := by omega
      have hj2 : j < es.length := by omega
      obtain ⟨v1, e1, r1⟩ := q2.get (List.getElem?_eq_getElem hj1)
      obtain ⟨v2, e2, r2⟩ := p2.get (List.getElem?_eq_getElem hj2)
      obtain ⟨u1, f1, s1⟩ := rx.get e1
      obtain ⟨u2, f2, s2⟩ := ry.get e2
      have g1 : ix.toArray[j] = u1 := by rw [List.getElem?_eq_getElem h1'] at f1; simpa using Option.some.inj f1
      have g2 : iy.toArray[j] = u2 := by rw [List.getElem?_eq_getElem h2'] at f2; simpa using Option.some.inj f2
      rw [g1, g2, List.getElem?_eq_getElem hj1, List.getElem?_eq_getElem hj2]
      have dd := depDs_get (List.getElem?_eq_getElem hj1)
      exact (eq_deep I 20 A.in1 _ _ v1 v2 u1 u2 (by omega) (by show A.units + 1 + 20 + 1 < cLine; omega) (okDs_get od (List.getElem?_eq_getElem hj1)) (okDs_get oe (List.getElem?_eq_getElem hj2)) r1 r2 s1 s2).2
    have e1 : ix.toArray.size = ds.length := by simp only [List.size_toArray]; omega
    rw [e1, eqBs_all hl _ fun j x y z1 z2 => by rw [z1, z2]] at R
    exact R
  · have R := SeqAt.RcNeAt.lists_lengths (s := s) (A := A) px.isList py.isList (by simp only [List.size_toArray]; simp; omega) hu'
    cases z : eqBs ds es with
    | false => exact R
    | true => exact absurd (eqBs_len z) hl
theorem ne_top {ρ : Rho} {pins : List (Addr × Obj)} {σ : St} {H : Hp} {s : Shared} (I : Inv X pins σ H s) (A : Around) (d e : D) (v u : V) (a b : Value) (hd : depD d ≤ 20) (hu : A.units + 24 < cLine) (od : okD d = true) (oe : okD e = true) (rd : Rep ρ X.K H d v) (re : Rep ρ X.K H e u) (ra : RelV v a) (rb : RelV u b) :
    SeqAt.RcNeAt A s a b (!eqB d e) := by
  have hu' : A.units < cLine := by omega
  have seqT : ∀ {es : List D} {w : V} {c : Value}, Rep ρ X.K H (.tup es) w → RelV w c → ∃ l its, c = .ref l ∧ s.heap.IsTuple l its := fun h rc => by
    obtain ⟨l, xs, rfl, q1, _⟩ := rep_tup.mp h
    obtain ⟨its, _, p, _⟩ := I.tuple q1
    exact ⟨l, _, rc, p⟩
  have seqL : ∀ {es : List D} {w : V} {c : Value}, Rep ρ X.K H (.lst es) w → RelV w c → ∃ l its, c = .ref l ∧ s.heap.IsList l its := fun h rc => by
    obtain ⟨l, xs, rfl, q1, _⟩ := rep_lst.mp h
    obtain ⟨its, _, p, _⟩ := I.list q1
    exact ⟨l, _, rc, p.isList⟩
  cases d with
  | ty _ => unfold okD at od; cases od
  | obj _ => unfold okD at od; cases od
  | non => unfold okD at od; cases od
  | bl x => unfold okD at od; cases od
  | int x =>
    cases e with
    | ty _ => unfold okD at oe; cases oe
    | obj _ => unfold okD at oe; cases oe
    | non => unfold okD at oe; cases oe
    | bl y => unfold okD at oe; cases oe
    | int y => cases rep_int.mp rd; obtain ⟨t1, rfl⟩ := ra; cases rep_int.mp re; obtain ⟨t2, rfl⟩ := rb; unfold eqB; exact SeqAt.RcNeAt.int_int _ _ _ _
    | str y => cases rep_int.mp rd; obtain ⟨t1, rfl⟩ := ra; cases rep_str.mp re; obtain ⟨t2, rfl⟩ := rb; unfold eqB; exact SeqAt.RcNeAt.int_str _ _ _ _
    | tup y => cases rep_int.mp rd; obtain ⟨t1, rfl⟩ := ra; obtain ⟨l2, i2, rfl, p2⟩ := seqT re rb; unfold eqB; exact SeqAt.RcNeAt.int_tuple _ _ p2 hu'
    | lst y => cases rep_int.mp rd; obtain ⟨t1, rfl⟩ := ra; obtain ⟨l2, i2, rfl, p2⟩ := seqL re rb; unfold eqB; exact SeqAt.RcNeAt.int_list _ _ p2 hu'
  | str x =>
    cases e with
    | ty _ => unfold okD at oe; cases oe
    | obj _ => unfold okD at oe; cases oe
    | non => unfold okD at oe; cases oe
    | bl y => unfold okD at oe; cases oe
    | int y => cases rep_str.mp rd; obtain ⟨t1, rfl⟩ := ra; cases rep_int.mp re; obtain ⟨t2, rfl⟩ := rb; unfold eqB; exact SeqAt.RcNeAt.str_int _ _ _ _
    | str y => cases rep_str.mp rd; obtain ⟨t1, rfl⟩ := ra; cases rep_str.mp re; obtain ⟨t2, rfl⟩ := rb; unfold eqB; exact SeqAt.RcNeAt.str_str _ _ _ _
    | tup y => cases rep_str.mp rd; obtain ⟨t1, rfl⟩ := ra; obtain ⟨l2, i2, rfl, p2⟩ := seqT re rb; unfold eqB; exact SeqAt.RcNeAt.str_tuple _ _ p2 hu'
    | lst y => cases rep_str.mp rd; obtain ⟨t1, rfl⟩ := ra; obtain ⟨l2, i2, rfl, p2⟩ := seqL re rb; unfold eqB; exact SeqAt.RcNeAt.str_list _ _ p2 hu'
  | tup x =>
    cases e with
    | ty _ => unfold okD at oe; cases oe
    | obj _ => unfold okD at oe; cases oe
    | non => unfold okD at oe; cases oe
    | bl y => unfold okD at oe; cases oe
    | int y => obtain ⟨l1, i1, rfl, p1⟩ := seqT rd ra; cases rep_int.mp re; obtain ⟨t2, rfl⟩ := rb; unfold eqB; exact SeqAt.RcNeAt.tuple_int _ _ p1 hu'
    | str y => obtain ⟨l1, i1, rfl, p1⟩ := seqT rd ra; cases rep_str.mp re; obtain ⟨t2, rfl⟩ := rb; unfold eqB; exact SeqAt.RcNeAt.tuple_str _ _ p1 hu'
    | tup y => exact ne_tuples I A hd hu od oe rd re ra rb
    | lst y => obtain ⟨l1, i1, rfl, p1⟩ := seqT rd ra; obtain ⟨l2, i2, rfl, p2⟩ := seqL re rb; unfold eqB; exact SeqAt.RcNeAt.tuple_list p1 p2 hu'
  | lst x =>
    cases e with
    | ty _ => unfold okD at oe; cases oe
    | obj _ => unfold okD at oe; cases oe
    | non => unfold okD at oe; cases oe
    | bl y => unfold okD at oe; cases oe
    | int y => obtain ⟨l1, i1, rfl, p1⟩ := seqL rd ra; cases rep_int.mp re; obtain ⟨t2, rfl⟩ := rb; unfold eqB; exact SeqAt.RcNeAt.list_int _ _ p1 hu'
    | str y => obtain ⟨l1, i1, rfl, p1⟩ := seqL rd ra; cases rep_str.mp re; obtain ⟨t2, rfl⟩ := rb; unfold eqB; exact SeqAt.RcNeAt.list_str _ _ p1 hu'
    | tup y => obtain ⟨l1, i1, rfl, p1⟩ := seqL rd ra; obtain ⟨l2, i2, rfl, p2⟩ := seqT re rb; unfold eqB; exact SeqAt.RcNeAt.list_tuple p1 p2 hu'
    | lst y => exact ne_lists I A hd hu od oe rd re ra rb
theorem op_neD (hu : X.A.units + 30 < cLine) : OpR X (compareOp .NotEq) (rEqD X.K true) := by
  intro pins s σ H x y v u Q I rx ry h
  obtain ⟨ρ, d, e, o1, o2, hd, r1, r2, q⟩ := h
  exact ne_top I X.A d e x y v u hd (by omega) o1 o2 r1 r2 rx ry _ _ _ _ ⟨.bl (!eqB d e), H, I, rfl, q⟩
theorem opd_is : OpD X.K gIs (fun x y H Q => y = .non ∧ Q (.bl (decide (x = .non))) H) := by
  intro x y d hd ρ H G u v Q hG ru rv k
  cases y with
  | non =>
    cases hd
    refine ⟨rep_non.mp rv, ?_⟩
    have e : decide (u = V.non) = isNonD x := by
      cases x with
      | non => cases rep_non.mp ru; rfl
      | bl _ => cases rep_bl.mp ru; rfl
      | int _ => cases rep_int.mp ru; rfl
      | str _ => cases rep_str.mp ru; rfl
      | ty _ => cases rep_ty.mp ru; rfl
      | obj _ => obtain ⟨_, _, rfl⟩ := rep_obj.mp ru; rfl
      | tup _ => obtain ⟨_, _, rfl, _⟩ := rep_tup.mp ru; rfl
      | lst _ => obtain ⟨_, _, rfl, _⟩ := rep_lst.mp ru; rfl
    rw [e]
    exact k _ H (Same.refl H) (rep_bl.mpr rfl)
  | _ => cases hd
theorem und_neg : UnD X.K gNeg (rU fun i => .int (-i)) := by
  intro x d hd ρ H G u Q hG ru k
  cases x with
  | int i => cases hd; exact ⟨i, rep_int.mp ru, k _ H (Same.refl H) (rep_int.mpr rfl)⟩
  | _ => cases hd
theorem reps_ix {ρ : Rho} {K : PySem.W.Frag} {H : Hp} {ds : List D} {xs : List V} {i : Int} {d : D} (h : Reps ρ K H ds xs) (e : atI ds i = some d) : ∃ v, atI xs i = some v ∧ Rep ρ K H d v := by
  unfold atI at e ⊢
  rw [h.length]
  cases z : ixN ds.length i with
  | none => rw [z] at e; cases e
  | some j => rw [z] at e; exact h.get e
theorem opd_ix : OpD X.K gIx (rIx X.K) := by
  intro x y d hd ρ H G u v Q hG ru rv k
  unfold gIx at hd
  split at hd
  · obtain ⟨a, xs, rfl, q1, q2⟩ := rep_lst.mp ru
    obtain ⟨w, e, r⟩ := reps_ix q2 hd
    exact .inl ⟨a, xs, _, w, rfl, rep_int.mp rv, same_l same_un q1, e, k w H (Same.refl H) r⟩
  · obtain ⟨a, xs, rfl, q1, q2⟩ := rep_tup.mp ru
    obtain ⟨w, e, r⟩ := reps_ix q2 hd
    exact .inr (.inl ⟨a, xs, _, w, rfl, rep_int.mp rv, same_t same_un q1, e, k w H (Same.refl H) r⟩)
  · split at hd
    · rename_i z i hz
      cases e : atI z.cps.toList i with
      | none => rw [e] at hd; cases hd
      | some c =>
        rw [e] at hd
        cases hd
        exact .inr (.inr ⟨z, i, c, rep_str.mp ru, rep_int.mp rv, hz, e, k _ H (Same.refl H) (rep_str.mpr rfl)⟩)
    · cases hd
  · cases hd
noncomputable def kLen : List D → Option D
  | [.lst ds] => some (.int ds.length)
  | [.tup ds] => some (.int ds.length)
  | [.str z] => if z.length ≤ sizeLine then some (.int z.length) else none
  | _ => none
theorem reps1 {ρ : Rho} {K : PySem.W.Frag} {H : Hp} {d : D} {vs : List V} (h : Reps ρ K H [d] vs) : ∃ v, vs = [v] ∧ Rep ρ K H d v := by
  obtain ⟨v, r, rfl, q1, q2⟩ := reps_cons.mp h
  cases reps_nil.mp q2
  exact ⟨v, rfl, q1⟩
theorem reps2 {ρ : Rho} {K : PySem.W.Frag} {H : Hp} {d e : D} {vs : List V} (h : Reps ρ K H [d, e] vs) : ∃ v u, vs = [v, u] ∧ Rep ρ K H d v ∧ Rep ρ K H e u := by
  obtain ⟨v, r, rfl, q1, q2⟩ := reps_cons.mp h
  obtain ⟨u, rfl, q3⟩ := reps1 q2
  exact ⟨v, u, rfl, q1, q3⟩
theorem call_lenD : CallR X (.builtin "len") (fun xs H Q => (∃ p ys, xs = [.ref p] ∧ (SqL X.K H p ys ∨ SqT X.K H p ys) ∧ Q (.int ys.length) H) ∨ ∃ z, xs = [.str z] ∧ z.length ≤ sizeLine ∧ Q (.int z.length) H) := call_len_seq.or call_len_str
theorem cad_len : CaD X.K kLen (fun xs H Q => (∃ p ys, xs = [.ref p] ∧ (SqL X.K H p ys ∨ SqT X.K H p ys) ∧ Q (.int ys.length) H) ∨ ∃ z, xs = [.str z] ∧ z.length ≤ sizeLine ∧ Q (.int z.length) H) := by
  intro xs d hd ρ H G us Q hG ru k
  unfold kLen at hd
  split at hd
  · cases hd
    obtain ⟨v, rfl, q⟩ := reps1 ru
    obtain ⟨a, ys, rfl, q1, q2⟩ := rep_lst.mp q
    exact .inl ⟨a, ys, rfl, .inl (same_l same_un q1), k _ H (Same.refl H) (rep_int.mpr (by rw [q2.length]))⟩
  · cases hd
    obtain ⟨v, rfl, q⟩ := reps1 ru
    obtain ⟨a, ys, rfl, q1, q2⟩ := rep_tup.mp q
    exact .inl ⟨a, ys, rfl, .inr (same_t same_un q1), k _ H (Same.refl H) (rep_int.mpr (by rw [q2.length]))⟩
  · split at hd
    · rename_i z hz
      cases hd
      obtain ⟨v, rfl, q⟩ := reps1 ru
      cases rep_str.mp q
      exact .inr ⟨z, rfl, hz, k _ H (Same.refl H) (rep_int.mpr rfl)⟩
    · cases hd
  · cases hd
noncomputable def kTuple : List D → Option D
  | [.lst ds] => some (.tup ds)
  | [.tup ds] => some (.tup ds)
  | _ => none
theorem cad_tuple : CaD X.K kTuple (fun xs H Q => ∃ p ys, xs = [.ref p] ∧ ((SqL X.K H p ys ∧ ∀ l, H l = none → Q (.ref l) (upd H l (.tup ys))) ∨ (SqT X.K H p ys ∧ Q (.ref p) H))) := by
  intro xs d hd ρ H G us Q hG ru k
  unfold kTuple at hd
  split at hd
  · cases hd
    obtain ⟨v, rfl, q⟩ := reps1 ru
    obtain ⟨a, ys, rfl, q1, q2⟩ := rep_lst.mp q
    exact ⟨a, ys, rfl, .inl ⟨same_l same_un q1, fun l hl => k _ _ (same_upd hl) (rep_new_tup hl (hG l hl) q2)⟩⟩
  · cases hd
    obtain ⟨v, rfl, q⟩ := reps1 ru
    obtain ⟨a, ys, rfl, q1, q2⟩ := rep_tup.mp q
    exact ⟨a, ys, rfl, .inr ⟨same_t same_un q1, k _ H (Same.refl H) q⟩⟩
  · cases hd
noncomputable def kList : List D → Option D
  | [.lst ds] => some (.lst ds)
  | [.tup ds] => some (.lst ds)
  | _ => none
theorem cad_list : CaD X.K kList (fun xs H Q => ∃ p ys, xs = [.ref p] ∧ (SqL X.K H p ys ∨ SqT X.K H p ys) ∧ ∀ l, H l = none → Q (.ref l) (upd H l (.lst ys))) := by
  intro xs d hd ρ H G us Q hG ru k
  unfold kList at hd
  split at hd
  · cases hd
    obtain ⟨v, rfl, q⟩ := reps1 ru
    obtain ⟨a, ys, rfl, q1, q2⟩ := rep_lst.mp q
    exact ⟨a, ys, rfl, .inl (same_l same_un q1), fun l hl => k _ _ (same_upd hl) (rep_new_lst hl (hG l hl) q2)⟩
  · cases hd
    obtain ⟨v, rfl, q⟩ := reps1 ru
    obtain ⟨a, ys, rfl, q1, q2⟩ := rep_tup.mp q
    exact ⟨a, ys, rfl, .inr (same_t same_un q1), fun l hl => k _ _ (same_upd hl) (rep_new_lst hl (hG l hl) q2)⟩
  · cases hd
noncomputable def kMin : List D → Option D
  | [.int i, .int j] => some (.int (if j < i then j else i))
  | _ => none
noncomputable def kInt : List D → Option D
  | [.int i] => some (.int i)
  | [.bl k] => some (.int (if k then 1 else 0))
  | _ => none
noncomputable def isiD (T : String) : D → Option Bool
  | .int _ => some (T == "int")
  | .tup _ => some (T == "tuple")
  | _ => none
noncomputable def kIsi : List D → Option D
  | [d, .ty T] => if T = "int" ∨ T = "bool" ∨ T = "tuple" then (isiD T d).map .bl else none
  | _ => none
end
end DL
namespace DL
open PySem PySem.Spec L2
section
variable {X : Cx}
noncomputable def rIsi (K : PySem.W.Frag) : List V → Hp → VK → Prop := fun xs H Q => ∃ ρ d v T b, xs = [v, .ty T] ∧ Rep ρ K H d v ∧ kIsi [d, .ty T] = some (.bl b) ∧ Q (.bl b) H
theorem call_isiD : CallR X (.builtin "isinstance") (rIsi X.K) := by
  intro pins s σ H xs us Q I r h
  obtain ⟨ρ, d, v, T, b, rfl, rd, hk, q⟩ := h
  obtain ⟨u, c, rfl, ru, rc⟩ := r.two
  cases rc
  have fin : ∀ tk, EP X pins σ Q (.bool b) { s with toks := tk } := fun tk => ⟨.bl b, H, I.tok _, rfl, q⟩
  have hk2 : (if T = "int" ∨ T = "bool" ∨ T = "tuple" then (isiD T d).map D.bl else none) = some (.bl b) := hk
  clear hk
  by_cases hT : T = "int" ∨ T = "bool" ∨ T = "tuple"
  · rw [if_pos hT] at hk2
    have hk := hk2
    clear hk2
    cases d with
    | ty _ => cases hk
    | obj _ => cases hk
    | non => cases hk
    | bl x => cases hk
    | int x =>
      cases rep_int.mp rd; obtain ⟨t, rfl⟩ := ru
      rcases hT with rfl | rfl | rfl <;> (cases hk; exact PySem.W.kia_one PySem.W.kitx_int I.kIn True.intro rfl (fun z => nomatch z) fin)
    | str x => cases hk
    | tup x =>
      obtain ⟨a, ys, rfl, q1, q2⟩ := rep_tup.mp rd
      cases ru
      obtain ⟨its, _, ⟨o, e, hc, _⟩, _⟩ := I.tuple q1
      rcases hT with rfl | rfl | rfl <;> (cases hk; exact PySem.W.kia_one PySem.W.kitx_tuple I.kIn ⟨o, e, hc⟩ rfl (fun z => nomatch z) fin)
    | lst x => cases hk
  · rw [if_neg hT] at hk2; cases hk2
theorem cad_isi : CaD X.K kIsi (rIsi X.K) := by
  intro xs d hd ρ H G us Q hG ru k
  have hd0 := hd
  unfold kIsi at hd
  split at hd
  · rename_i d0 T
    split at hd
    · obtain ⟨v, u, rfl, q1, q2⟩ := reps2 ru
      cases rep_ty.mp q2
      cases e : isiD T d0 with
      | none => rw [e] at hd; cases hd
      | some b =>
        rw [e] at hd
        cases hd
        exact ⟨ρ, d0, v, T, b, rfl, q1.mono same_un, hd0, k _ H (Same.refl H) (rep_bl.mpr rfl)⟩
    · cases hd
  · cases hd
theorem de_bltT {O : List Nat} {E : XK} {x : Str} {T : String} {pos : Pos} (hg : Gl X x) (hm : X.mg x = none) (hv : bootBuiltins x = some (.type T)) (hn : autoParam (x ≠ "__name__") zau1._auto_1) (hd : autoParam ((x == ("__debug__" : Str)) = false) zau1._auto_1) : DE X O E (.Name x pos) (fC (.ty T)) :=
  de_lit (t := tC (.ty T)) (v := .ty T) (pe_bltn (v := .ty T) hg hm hv rfl hn hd) fun _ _ => rep_ty.mpr rfl
theorem de_glInt {O : List Nat} {E : XK} {x : Str} {i : Int} {t : Tok} {pos : Pos} (hg : Gl X x) (hm : X.mg x = some (.int i t)) (hd : autoParam ((x == ("__debug__" : Str)) = false) zau1._auto_1) : DE X O E (.Name x pos) (fC (.int i)) :=
  de_lit (t := tC (.int i)) (v := .int i) (pe_glob (v := .int i) hg hm ⟨t, rfl⟩ hd) fun _ _ => rep_int.mpr rfl
end
inductive spD (K : PySem.W.Frag) (n : Nat) (m : List D → M D) (vs : List V) (H : Hp) (Q : VK) (E : XK) : Prop
  | mk (hn : vs.length = n) (ρ : Rho) (ds : List D) (r : Except XD D) (F : Addr → Bool) (hF : ∀ b, F b = true → H b ≠ none) (hr : Reps ρ K (hid H F) ds vs) (hf : m ds = some r) (k : match (generalizing := false) r with
    | .ok d => ∀ v H', Same H H' → Rep ρ K (hid H' F) d v → Q v H'
    | .error x => okX K H E x)
inductive CalX (P : Program) (w : World) (K : PySem.W.Frag) (mg : Str → Option Value) (base : Heap) (k : Nat) (x : Str) (n : Nat) (sp : Sp) : Prop
  | mk (f : Addr) (fd : FuncData) (ps : List Str) (h1 : ps.length = n) (h2 : mg x = some (.ref f)) (h3 : PySem.W.keepIn K (.ref f) = true) (h4 : Binds K fd ps []) (h5 : FnOk P w K mg base CX0 k f fd ps sp)
structure Cal (P : Program) (w : World) (K : PySem.W.Frag) (mg : Str → Option Value) (base : Heap) (k : Nat) (x : Str) (n : Nat) (m : List D → M D) : Prop where
  ex : CalX P w K mg base k x n (spD K n m)
  ar : ∀ ds r, m ds = some r → ds.length = n
noncomputable def FunAt (K : PySem.W.Frag) (mg : Str → Option Value) (x : Str) (st : Stmt) (ps : List Str) : Prop := ∃ f fd, mg x = some (.ref f) ∧ Fun K x x st f fd ∧ Binds K fd ps []
noncomputable def startD (n : Nat) (ds : List D) : DSt := ds.map some ++ List.replicate (n - ds.length) none
noncomputable def outD : Out → M D
  | .rt d => M.p d
  | .nx _ => M.p .non
  | _ => none
noncomputable def mir (n N : Nat) (g : DSt → M Out) : List D → M D := fun ds => if ds.length = n then (g (startD N ds)).b outD else none
theorem startD_get {N : Nat} {ds : List D} {i : Nat} {d : D} (h : (startD N ds)[i]? = some (some d)) : ds[i]? = some d := by
  unfold startD at h
  by_cases hi : i < ds.length
  · rw [List.getElem?_append_left (by simpa using hi), List.getElem?_map] at h
    cases e : ds[i]? with
    | none => rw [e] at h; cases h
    | some a => rw [e] at h; cases h; rfl
  · rw [List.getElem?_append_right (by simpa using hi), List.getElem?_replicate] at h
    split at h <;> cases h
theorem start_set {N : List Str} {vs : List V} {i : Nat} {v : V} (h : vs[i]? = some v) : (L2.start N vs)[i]? = some (some v) := by
  unfold L2.start
  have hi : i < vs.length := (List.getElem?_eq_some_iff.mp h).1
  rw [List.getElem?_append_left (by simpa using hi), List.getElem?_map, h]
  rfl
section
variable {P : Program} {w : World} {K : PySem.W.Frag} {mg : Str → Option Value} {base : Heap}
theorem fn_D {x : Str} {st : Stmt} {N ps : List Str} {k : Nat} {O' : List Nat} {g : DSt → M Out} {f : Addr} {fd : FuncData} (F : Fun K x x st f fd) (S : FnScope N ps (defScope st))
    (hbody : ∀ (f : Addr) (cdv : Value) (A : Around) (outer : List Env) (s : Shared) (H : Hp) (E : XK), Room k (A.deeper (PyProof.Rows.envOfC x (defScope st) s.heap.objs.size f cdv)) →
      DSs (cxOf CX0 P w K mg base N x (defScope st) f cdv A outer s H E).nox [] O' [] E (defBody st) g) : FnOk P w K mg base CX0 (k + 1) f fd ps (spD K ps.length (mir ps.length N.length g)) := by
  refine F.ok S (fun vs H Q E h => h.1) fun cdv A outer s H vs Q E hr h => ?_
  obtain ⟨hl, ρ, ds, r, F', fin, rp, hmr, k0⟩ := h
  refine ⟨_, hbody f cdv A outer s H E hr, ?_⟩
  have hpl : ps.length ≤ N.length := by have := congrArg List.length S.pre; rw [List.length_take] at this; omega
  have hdl : ds.length = ps.length := by rw [← rp.length]; exact hl
  unfold mir at hmr
  rw [if_pos hdl] at hmr
  have R : RS ρ K H H F' [] (L2.start N vs) (startD N.length ds) := by
    refine ⟨?_, Same.refl H, fin, fun i d hd _ => ?_, fun i hi => absurd hi (by simp), fun i hi => absurd hi (by simp)⟩
    · simp [L2.start, startD, rp.length]
    · obtain ⟨v, e, rv⟩ := rp.get (startD_get hd)
      exact ⟨v, start_set e, by rw [fob_nil]; exact rv⟩
  rcases M.b_inv hmr with ⟨o, e1, hmr⟩ | ⟨y, e1, rfl⟩
  · refine ⟨ρ, H, F', _, .ok o, R, e1, ?_⟩
    cases o with
    | rt d => cases hmr; exact fun v H' s' rv => k0 v H' s' rv
    | nx δ => cases hmr; exact fun σ' H' f' R' => k0 .non H' R'.same (rep_non.mpr rfl)
    | bk δ => cases hmr
    | ct δ => cases hmr
  · exact ⟨ρ, H, F', _, .error y, R, e1, k0⟩
theorem cal_of {x : Str} {st : Stmt} {N ps : List Str} {k : Nat} {O' : List Nat} {g : DSt → M Out} (hf : FunAt K mg x st ps) (S : FnScope N ps (defScope st))
    (hbody : ∀ (f : Addr) (cdv : Value) (A : Around) (outer : List Env) (s : Shared) (H : Hp) (E : XK), Room k (A.deeper (PyProof.Rows.envOfC x (defScope st) s.heap.objs.size f cdv)) →
      DSs (cxOf CX0 P w K mg base N x (defScope st) f cdv A outer s H E).nox [] O' [] E (defBody st) g) : Cal P w K mg base (k + 1) x ps.length (mir ps.length N.length g) := by
  obtain ⟨f, fd, hm, F, hb⟩ := hf
  refine ⟨⟨f, fd, ps, rfl, hm, F.kp, hb, fn_D F S hbody⟩, fun ds r h => ?_⟩
  unfold mir at h
  split at h
  · assumption
  · cases h
theorem funAt_mk {h : Heap} {x : Str} {st : Stmt} {ps : List Str} {f : Addr} {oc : Value} {od an : Option Addr} {osl : Array (Option Value)} {kV doc pm cdv ct : Value} (X : K.In h) (G : h.Ns mainGlobals mg)
    (hb : ∀ (kV doc pm : Value) (an : Option Addr) (cdv ct : Value) (us : List Value), us.length = ps.length → bindArgs (PySem.W.fnOf x x (defArgs st) (defBody st) (defScope st) .none kV doc pm an cdv ct) ⟨us, []⟩ = pure (ps.zip us))
    (a : PySem.W.nsIn K mainGlobals x = some (some (.ref f))) (l : K.lookup f = some ⟨oc, od, .func (PySem.W.fnOf x x (defArgs st) (defBody st) (defScope st) .none kV doc pm an cdv ct), osl⟩)
    (c : PySem.W.codeIn K cdv x = true) (k : PySem.W.keepIn K (.ref f) = true) : FunAt K mg x st ps := by
  have F := fun_mk (st := st) l c k
  exact ⟨f, _, PySem.W.mg_of X G a, F, F.binds hb⟩
theorem funAt_law {st : Stmt} {x : Str} {f : Addr} (hf : FunAt K mg "law" st [x]) (hm : mg "law" = some (.ref f))
    (hb : ∀ (kV doc pm : Value) (an : Option Addr) (cdv ct : Value) (s : Shared) (u : Value), BindsTo s (PySem.W.fnOf "law" "law" (defArgs st) (defBody st) (defScope st) .none kV doc pm an cdv ct) ⟨[u], []⟩ [(x, u)]) :
    ∃ fd, Fun K "law" "law" st f fd ∧ ∀ (s : Shared) (u : Value), BindsTo s fd ⟨[u], []⟩ [(x, u)] := by
  obtain ⟨f', fd, hm', F, _⟩ := hf
  rw [hm] at hm'
  cases hm'
  refine ⟨fd, F, fun s u => ?_⟩
  obtain ⟨oc, od, kV, doc, pm, an, cdv, ct, osl, rfl, lk, hcd⟩ := F.ex
  exact hb kV doc pm an cdv ct s u
end
noncomputable def fCall (m : List D → M D) (fl : DSt → M (List D)) : DSt → M D := fun δ => (fl δ).b m
section
variable {X : Cx} {O : List Nat} {E : XK} {e : Expr} {es : List Expr} {fl : DSt → M (List D)} {pos p : Pos} {x : Str} {k n : Nat} {m : List D → M D}
theorem de_call (C : Cal X.prog X.w X.K X.mg X.base k x n m) (hr : Room k X.A) (ha : DA X O E (e :: es) fl) (hg : autoParam (Gl X x) zau2._auto_1) (hdb : autoParam ((x == ("__debug__" : Str)) = false) zau1._auto_1) (he : autoParam (starEach (e :: es) X.env = (false, eval e X.env) :: starEach es X.env) zau2._auto_1)
    (hpl : autoParam ((backTo pos (starEach es X.env)).any (·.1) = false) zau2._auto_1) : DE X O E (.Call (.Name x p) (e :: es) [] pos) (fCall m fl) := by
  obtain ⟨f, fd, ps, hl, hm, hk, hb, F⟩ := C.ex
  rintro pins s σ H Q I ⟨ρ, H₀, G, δ, r, R, hf, h⟩
  refine pe_call F hr hg hm hk hb .nil (fun _ _ _ _ _ _ _ z => z.elim) ha hdb he hpl pins s σ H Q I (E := E) ?_
  rcases M.b_inv hf with ⟨ds, e1, hf⟩ | ⟨y, e1, rfl⟩
  · refine ⟨ρ, H₀, G, δ, .ok ds, R, e1, fun vs H1 s1 r1 => ?_⟩
    show spD X.K n m (vs ++ []) H1 Q E
    rw [List.append_nil]
    refine ⟨by rw [r1.length]; exact C.ar ds r hf, ρ, ds, r, fob G σ O, fun b hb z => ?_, r1, hf, ?_⟩
    · rw [(R.mono s1).fresh z] at hb; cases hb
    · cases r with
      | ok d => exact fun v H' s' rv => h v H' (s1.trans s') rv
      | error y => exact fun c dx H' s' xr => h c dx H' (R.same.trans (s1.trans s')) xr
  · exact ⟨ρ, H₀, G, δ, .error y, R, e1, h⟩
end
end DL
namespace DL
open PySem PySem.Spec L2
theorem hu30 {A : Around} {k : Nat} (hr : Room k A) : A.units + 30 < cLine := Nat.lt_of_le_of_lt (Nat.add_le_add_left (by decide : 30 ≤ 64) _) hr.units
theorem bt_len : bootBuiltins "len" = some (.builtin "len") := by decide +kernel
theorem bt_isinstance : bootBuiltins "isinstance" = some (.builtin "isinstance") := by decide +kernel
theorem bt_tuple : bootBuiltins "tuple" = some (.type "tuple") := by decide +kernel
theorem bt_list : bootBuiltins "list" = some (.type "list") := by decide +kernel
theorem bt_int : bootBuiltins "int" = some (.type "int") := by decide +kernel
theorem bt_str : bootBuiltins "str" = some (.type "str") := by decide +kernel
theorem bt_bool : bootBuiltins "bool" = some (.type "bool") := by decide +kernel
theorem bt_all : bootBuiltins "all" = some (.builtin "all") := by decide +kernel
end DL
namespace DL
open PySem PySem.Spec L2
noncomputable def gCat : D → D → Option D
  | .int i, .int j => some (.int (i + j))
  | .str x, .str y => if x.length + y.length ≤ sizeLine then some (.str (x ++ y)) else none
  | .lst xs, .lst ys => if xs.length + ys.length ≤ sizeLine then some (.lst (xs ++ ys)) else none
  | .tup xs, .tup ys => if xs.length + ys.length ≤ sizeLine ∧ xs ≠ [] ∧ ys ≠ [] then some (.tup (xs ++ ys)) else none
  | _, _ => none
noncomputable def rCatQ (K : PySem.W.Frag) : R2 := fun x y H Q => ∃ l b xs zs, x = .ref l ∧ y = .ref b ∧ SqL K H l xs ∧ SqL K H b zs ∧ xs.length + zs.length ≤ sizeLine ∧ ∀ p, H p = none → Q (.ref p) (upd H p (.lst (xs ++ zs)))
section
variable {X : Cx} {O O' B : List Nat} {E : XK} {a b c e : Expr} {es : List Expr} {fa fb fc : DSt → M D} {fl : DSt → M (List D)} {pos : Pos}
theorem op_catQ : OpR X (binaryOp .Add) (rCatQ X.K) := by
  intro pins s σ H x y v u Q I rx ry h
  obtain ⟨l, b, xs, zs, rfl, rfl, hH, hB, hz, q⟩ := h
  cases rx
  cases ry
  obtain ⟨its, r, ⟨⟨cls, dd, data, sl⟩, n, ho, hc, _, hd⟩, _⟩ := I.list hH
  obtain ⟨its2, r2, ⟨⟨cls2, dd2, data2, sl2⟩, n2, ho2, hc2, _, hd2⟩, _⟩ := I.list hB
  simp only at hc hd hc2 hd2
  subst hc hd hc2 hd2
  have l1 := r.length
  have l2 := r2.length
  have ea : its.toArray ++ its2.toArray = (its ++ its2).toArray := by simp
  refine concat_meets ⟨_, ho, rfl⟩ ⟨_, ho2, rfl⟩ noFill_list_add seq_list_add PySem.F.slot_list_add PySem.F.entry_list_add (PySem.F.args_list_add_2 _ _) (PyProof.Rows.list_addW l b its.toArray its2.toArray n n2 dd dd2 sl sl2 (by simp only [List.size_toArray]; omega)) ⟨ho, ho2, ?_⟩
  rw [ea]
  exact ⟨.ref _, _, I.lnew (t' := s.toks) (r.append r2) (by rw [List.length_append]; omega), rfl, q _ I.fresh⟩
theorem op_addC : OpR X (binaryOp .Add) (fun x y H Q => (rI0 (fun i j => .int (i + j)) x y H Q ∨ ∃ i j, x = .str i ∧ y = .str j ∧ i.length + j.length ≤ sizeLine ∧ Q (.str (i ++ j)) H) ∨ rCatQ X.K x y H Q ∨ rCatT X.K x y H Q) := op_addD.or (op_catQ.or op_catT)
theorem opd_cat : OpD X.K gCat (fun x y H Q => (rI0 (fun i j => .int (i + j)) x y H Q ∨ ∃ i j, x = .str i ∧ y = .str j ∧ i.length + j.length ≤ sizeLine ∧ Q (.str (i ++ j)) H) ∨ rCatQ X.K x y H Q ∨ rCatT X.K x y H Q) := by
  intro x y d hd ρ H G u v Q hG ru rv k
  unfold gCat at hd
  split at hd
  · cases hd; exact .inl (.inl ⟨_, _, rep_int.mp ru, rep_int.mp rv, k _ H (Same.refl H) (rep_int.mpr rfl)⟩)
  · split at hd
    · rename_i hz
      cases hd; exact .inl (.inr ⟨_, _, rep_str.mp ru, rep_str.mp rv, hz, k _ H (Same.refl H) (rep_str.mpr rfl)⟩)
    · cases hd
  · split at hd
    · rename_i hz
      cases hd
      obtain ⟨l, xs, rfl, q1, q2⟩ := rep_lst.mp ru
      obtain ⟨m, ys, rfl, p1, p2⟩ := rep_lst.mp rv
      exact .inr (.inl ⟨l, m, xs, ys, rfl, rfl, same_l same_un q1, same_l same_un p1, by rw [q2.length, p2.length]; exact hz, fun p hp => k _ _ (same_upd hp) (rep_new_lst hp (hG p hp) (q2.append p2))⟩)
    · cases hd
  · split at hd
    · rename_i hz
      cases hd
      obtain ⟨l, xs, rfl, q1, q2⟩ := rep_tup.mp ru
      obtain ⟨m, ys, rfl, p1, p2⟩ := rep_tup.mp rv
      have n1 : xs ≠ [] := fun z => by have := q2.length; rw [z] at this; exact hz.2.1 (List.length_eq_zero_iff.mp this.symm)
      have n2 : ys ≠ [] := fun z => by have := p2.length; rw [z] at this; exact hz.2.2 (List.length_eq_zero_iff.mp this.symm)
      exact .inr (.inr ⟨l, m, xs, ys, rfl, rfl, same_t same_un q1, same_t same_un p1, n1, by rw [q2.length, p2.length]; exact hz.1, fun z => absurd z n2, fun _ p hp => k _ _ (same_upd hp) (rep_new_tup hp (hG p hp) (q2.append p2))⟩)
    · cases hd
  · cases hd
noncomputable def fRep (fl : DSt → M (List D)) (fb : DSt → M D) : DSt → M D := fun δ => (fl δ).b fun xs => if xs.length ≤ sizeLine then (fb δ).b fun y => match y with
    | .int k => if -(2 ^ 63) ≤ k ∧ k < 2 ^ 63 ∧ xs.length * k.toNat ≤ sizeLine then M.p (.lst (List.replicate k.toNat xs).flatten) else none
    | _ => none
  else none
theorem Reps.rep {ρ : Rho} {K : PySem.W.Frag} {H : Hp} {ds : List D} {vs : List V} (h : Reps ρ K H ds vs) : ∀ k : Nat, Reps ρ K H (List.replicate k ds).flatten (List.replicate k vs).flatten
  | 0 => Reps.nil
  | k + 1 => by rw [List.replicate_succ, List.flatten_cons, List.replicate_succ, List.flatten_cons]; exact h.append (Reps.rep h k)
theorem de_lrep {p2 : Pos} (hl : DA X O E es fl) (hb : DE X O E b fb) : DE X O E (.BinOp (.List es p2) .Mult b pos) (fRep fl fb) := by
  rintro pins s σ H Q I ⟨ρ, H₀, F, δ, rr, R, hf, k⟩
  refine pe_op op_rep (pe_lst hl) hb pins s σ H Q I ?_
  rcases M.b_inv hf with ⟨xs, e1, hf⟩ | ⟨x, e1, rfl⟩
  · refine ⟨ρ, H₀, F, δ, .ok xs, R, e1, fun us H1 s1 r1 => ?_⟩
    split at hf
    · rename_i hz0
      refine ⟨by rw [r1.length]; exact hz0, fun p hp => ?_⟩
      have s2 : Same H1 (upd H1 p (.lst us)) := same_upd hp
      rcases M.b_inv hf with ⟨y, e2, hf⟩ | ⟨y, e2, rfl⟩
      · cases y with
        | int n =>
          dsimp only at hf
          split at hf
          · rename_i hz
            cases hf
            refine ⟨ρ, H₀, F, δ, .ok (.int n), R.mono (s1.trans s2), e2, fun w H2 s3 r2 => ?_⟩
            cases rep_int.mp r2
            refine ⟨p, n, us, rfl, rfl, s3 _ _ upd_same, hz.1, hz.2.1, by rw [r1.length]; exact hz.2.2, fun q hq => ?_⟩
            have R2 := R.mono (s1.trans (s2.trans s3))
            exact k _ _ (s1.trans (s2.trans (s3.trans (same_upd hq)))) (rep_new_lst hq (R2.fresh hq) ((r1.mono (same_hid (s2.trans s3))).rep n.toNat))
          · cases hf
        | _ => cases hf
      · exact ⟨ρ, H₀, F, δ, .error y, R.mono (s1.trans s2), e2, k⟩
    · cases hf
  · exact ⟨ρ, H₀, F, δ, .error x, R, e1, k⟩
inductive tOD (K : PySem.W.Frag) (O : List Nat) (E : XK) (f : DSt → M (Option Int)) (σ : St) (H : Hp) (Q : Option Int → Hp → Prop) : Prop
  | mk (ρ : Rho) (H₀ : Hp) (F : Addr → Bool) (δ : DSt) (r : Except XD (Option Int)) (R : RS ρ K H₀ H F O σ δ) (hf : f δ = some r) (k : match (generalizing := false) r with
    | .ok o => ∀ H', Same H H' → Q o H'
    | .error x => okX K H₀ E x)
noncomputable def DO (X : Cx) (O : List Nat) (E : XK) (e : Option Expr) (f : DSt → M (Option Int)) : Prop := PO X e (tOD X.K O E f)
noncomputable def oNone : DSt → M (Option Int) := fun _ => M.p none
noncomputable def intD : D → Option (Option Int)
  | .int i => some (some i)
  | _ => none
noncomputable def oSome (f : DSt → M D) : DSt → M (Option Int) := fun δ => (f δ).b fun d => M.o (intD d)
theorem do_none : DO X O E none oNone := by
  rintro pins s σ H Q I ⟨ρ, H₀, F, δ, r, R, hf, k⟩
  cases hf
  exact po_none pins s σ H Q I (k H (Same.refl H))
theorem do_some (h : DE X O E e fa) : DO X O E (some e) (oSome fa) := by
  rintro pins s σ H Q I ⟨ρ, H₀, F, δ, r, R, hf, k⟩
  refine po_some h pins s σ H Q I ?_
  rcases M.b_inv hf with ⟨x, e1, hf⟩ | ⟨x, e1, rfl⟩
  · refine ⟨ρ, H₀, F, δ, .ok x, R, e1, fun v H1 s1 r1 => ?_⟩
    obtain ⟨o, ho, rfl⟩ := M.o_inv hf
    cases x with
    | int i => cases ho; exact ⟨i, rep_int.mp r1, k H1 s1⟩
    | _ => cases ho
  · exact ⟨ρ, H₀, F, δ, .error x, R, e1, k⟩
noncomputable def cutL {α : Type} (xs : List α) (lo hi : Option Int) : List α := (xs.drop (HT.sIx xs.length 0 lo)).take (HT.sIx xs.length xs.length hi - HT.sIx xs.length 0 lo)
noncomputable def cutD : D → Option Int → Option Int → Option D
  | .lst ds, lo, hi => some (.lst (cutL ds lo hi))
  | .tup ds, lo, hi => if HT.sIx ds.length 0 lo = 0 ∧ HT.sIx ds.length ds.length hi = ds.length then none else some (.tup (cutL ds lo hi))
  | .str x, lo, hi => if x.length ≤ sizeLine then some (.str (Txt.slice x lo hi)) else none
  | _, _, _ => none
noncomputable def rSlS : V → Option Int → Option Int → Hp → VK → Prop := fun x lo hi H Q => ∃ z, x = .str z ∧ z.length ≤ sizeLine ∧ Q (.str (Txt.slice z lo hi)) H
theorem sl_str : SlR X rSlS := by
  intro pins s σ H x v vl vu lo hi sl Q I rx hs pl pu h
  obtain ⟨z, rfl, hz, q⟩ := h
  obtain ⟨t, rfl⟩ := rx
  have fin : ∀ {l u : Option (Int × Tok)}, l.map (·.1) = lo → u.map (·.1) = hi → s.heap.IsSlice sl l u none → wpAny (model X.prog X.w) X.A (getItem (.str z t) (.ref sl)) (EP X pins σ Q) X.xe s := fun {l u} e1 e2 h => by
    refine wpAny_getItem_str_slice (l := l) (u := u) (st := none) h rfl ?_
    have hw : ∀ t' k, EP X pins σ Q (.str (Txt.slice z lo hi) t') { s with toks := k } := fun t' k => ⟨.str (Txt.slice z lo hi), H, I.tok _, ⟨_, rfl⟩, q⟩
    rw [← e1, ← e2] at hw
    exact post_val_or_str ⟨Nat.le_trans (Txt.slice_le z _ _) hz, hw⟩
  obtain ⟨os, ho, hc, hd⟩ := hs
  refine ⟨"str", _, PySem.F.slot_str_getitem.lookup, typeIs_str _ _ _, ?_⟩
  cases pl with
  | none => cases pu with
    | none => exact fin (l := none) (u := none) rfl rfl ⟨os, ho, hc, hd⟩
    | int j tj => exact fin (l := none) (u := some (j, tj)) rfl rfl ⟨os, ho, hc, hd⟩
  | int i ti => cases pu with
    | none => exact fin (l := some (i, ti)) (u := none) rfl rfl ⟨os, ho, hc, hd⟩
    | int j tj => exact fin (l := some (i, ti)) (u := some (j, tj)) rfl rfl ⟨os, ho, hc, hd⟩
theorem Reps.take {ρ : Rho} {K : PySem.W.Frag} {H : Hp} : ∀ {ds : List D} {vs : List V} (n : Nat), Reps ρ K H ds vs → Reps ρ K H (ds.take n) (vs.take n)
  | _, _, 0, _ => by simp; exact Reps.nil
  | [], _, n + 1, h => by rw [reps_nil.mp h]; exact Reps.nil
  | d :: ds, _, n + 1, h => by
    obtain ⟨v, r, rfl, q, t⟩ := reps_cons.mp h
    exact Reps.cons q (Reps.take n t)
theorem Reps.drop {ρ : Rho} {K : PySem.W.Frag} {H : Hp} : ∀ {ds : List D} {vs : List V} (n : Nat), Reps ρ K H ds vs → Reps ρ K H (ds.drop n) (vs.drop n)
  | _, _, 0, h => h
  | [], _, n + 1, h => by rw [reps_nil.mp h]; exact Reps.nil
  | d :: ds, _, n + 1, h => by
    obtain ⟨v, r, rfl, q, t⟩ := reps_cons.mp h
    exact Reps.drop n t
theorem Reps.cut {ρ : Rho} {K : PySem.W.Frag} {H : Hp} {ds : List D} {vs : List V} (h : Reps ρ K H ds vs) (lo hi : Option Int) : Reps ρ K H (cutL ds lo hi) (cutV vs lo hi) := by
  unfold cutL cutV
  rw [h.length]
  exact (h.drop _).take _
noncomputable def fSl (fa : DSt → M D) (fl fh : DSt → M (Option Int)) : DSt → M D := fun δ => (fa δ).b fun x => (fl δ).b fun lo => (fh δ).b fun hi => M.o (cutD x lo hi)
theorem de_slice {lo hi : Option Expr} {fl fh : DSt → M (Option Int)} {p2 : Pos} (ha : DE X O E e fa) (hl : DO X O E lo fl) (hh : DO X O E hi fh) : DE X O E (.Subscript e (.Slice lo hi none p2) pos) (fSl fa fl fh) := by
  rintro pins s σ H Q I ⟨ρ, H₀, F, δ, r, R, hf, k⟩
  refine pe_slice (sl_list.or (sl_tup.or sl_str)) ha hl hh pins s σ H Q I ?_
  rcases M.b_inv hf with ⟨x, e1, hf⟩ | ⟨x, e1, rfl⟩
  · refine ⟨ρ, H₀, F, δ, .ok x, R, e1, fun v H1 s1 r1 => ?_⟩
    rcases M.b_inv hf with ⟨l, e2, hf⟩ | ⟨y, e2, rfl⟩
    · refine ⟨ρ, H₀, F, δ, .ok l, R.mono s1, e2, fun H2 s2 => ?_⟩
      rcases M.b_inv hf with ⟨h, e3, hf⟩ | ⟨y, e3, rfl⟩
      · refine ⟨ρ, H₀, F, δ, .ok h, R.mono (s1.trans s2), e3, fun H3 s3 => ?_⟩
        obtain ⟨d, hd, rfl⟩ := M.o_inv hf
        have r3 := r1.mono (same_hid (s2.trans s3))
        have R3 := R.mono (s1.trans (s2.trans s3))
        have sm := s1.trans (s2.trans s3)
        cases x with
        | lst ds =>
          cases hd
          obtain ⟨q, xs, rfl, q2, q3⟩ := rep_lst.mp r3
          exact .inl ⟨q, xs, rfl, same_l same_un q2, fun p hp => k _ _ (sm.trans (same_upd hp)) (rep_new_lst hp (R3.fresh hp) (q3.cut l h))⟩
        | tup ds =>
          have hd' : (if HT.sIx ds.length 0 l = 0 ∧ HT.sIx ds.length ds.length h = ds.length then none else some (D.tup (cutL ds l h))) = some d := hd
          split at hd'
          · cases hd'
          · rename_i hn
            cases hd'
            obtain ⟨q, xs, rfl, q2, q3⟩ := rep_tup.mp r3
            exact .inr (.inl ⟨q, xs, rfl, same_t same_un q2, by rw [q3.length]; exact hn, fun p hp => k _ _ (sm.trans (same_upd hp)) (rep_new_tup hp (R3.fresh hp) (q3.cut l h))⟩)
        | str z =>
          have hd' : (if z.length ≤ sizeLine then some (D.str (Txt.slice z l h)) else none) = some d := hd
          split at hd'
          · rename_i hz
            cases hd'
            exact .inr (.inr ⟨z, rep_str.mp r3, hz, k _ _ sm (rep_str.mpr rfl)⟩)
          · cases hd'
        | _ => cases hd
      · exact ⟨ρ, H₀, F, δ, .error y, R.mono (s1.trans s2), e3, k⟩
    · exact ⟨ρ, H₀, F, δ, .error y, R.mono s1, e2, k⟩
  · exact ⟨ρ, H₀, F, δ, .error x, R, e1, k⟩
noncomputable def flatD : D → Bool
  | .non => true
  | .bl _ => true
  | .int _ => true
  | .str _ => true
  | _ => false
noncomputable def inD (x : D) (ds : List D) : Bool := ds.any fun y => eqB y x
noncomputable def gIn : D → D → Option D := fun x y => match seqD y with
  | some ds => if (flatD x && ds.all flatD) = true then some (.bl (inD x ds)) else none
  | none => none
noncomputable def gNotIn : D → D → Option D := fun x y => match seqD y with
  | some ds => if (flatD x && ds.all flatD) = true then some (.bl !(inD x ds)) else none
  | none => none
theorem flat_rep {ρ : Rho} {K : PySem.W.Frag} {H : Hp} {d : D} {v : V} (h : flatD d = true) (r : Rep ρ K H d v) : flatV v = true := by
  cases d with
  | non => cases rep_non.mp r; rfl
  | bl _ => cases rep_bl.mp r; rfl
  | int _ => cases rep_int.mp r; rfl
  | str _ => cases rep_str.mp r; rfl
  | _ => cases h
theorem eqV_rep {ρ : Rho} {K : PySem.W.Frag} {H : Hp} {d e : D} {v u : V} (h : flatD d = true) (h2 : flatD e = true) (r : Rep ρ K H d v) (r2 : Rep ρ K H e u) : eqV v u = eqB d e := by
  cases d with
  | non => cases rep_non.mp r; (cases e with
    | non => cases rep_non.mp r2; unfold eqB; rfl
    | bl _ => cases rep_bl.mp r2; unfold eqB; rfl
    | int _ => cases rep_int.mp r2; unfold eqB; rfl
    | str _ => cases rep_str.mp r2; unfold eqB; rfl
    | _ => cases h2)
  | bl _ => cases rep_bl.mp r; (cases e with
    | non => cases rep_non.mp r2; unfold eqB; rfl
    | bl _ => cases rep_bl.mp r2; unfold eqB; rfl
    | int _ => cases rep_int.mp r2; unfold eqB; rfl
    | str _ => cases rep_str.mp r2; unfold eqB; rfl
    | _ => cases h2)
  | int _ => cases rep_int.mp r; (cases e with
    | non => cases rep_non.mp r2; unfold eqB; rfl
    | bl _ => cases rep_bl.mp r2; unfold eqB; rfl
    | int _ => cases rep_int.mp r2; unfold eqB; rfl
    | str _ => cases rep_str.mp r2; unfold eqB; rfl
    | _ => cases h2)
  | str _ => cases rep_str.mp r; (cases e with
    | non => cases rep_non.mp r2; unfold eqB; rfl
    | bl _ => cases rep_bl.mp r2; unfold eqB; rfl
    | int _ => cases rep_int.mp r2; unfold eqB; rfl
    | str _ => cases rep_str.mp r2; unfold eqB; rfl
    | _ => cases h2)
  | _ => cases h
theorem in_rep {ρ : Rho} {K : PySem.W.Frag} {H : Hp} {x : D} {v : V} (hx : flatD x = true) (rx : Rep ρ K H x v) : ∀ {ds : List D} {vs : List V}, ds.all flatD = true → Reps ρ K H ds vs → vs.all flatV = true ∧ inV v vs = inD x ds
  | [], _, _, h => by rw [reps_nil.mp h]; exact ⟨rfl, rfl⟩
  | d :: ds, _, ha, h => by
    obtain ⟨u, r, rfl, q, t⟩ := reps_cons.mp h
    rw [List.all_cons, Bool.and_eq_true] at ha
    obtain ⟨i1, i2⟩ := in_rep hx rx ha.2 t
    refine ⟨by rw [List.all_cons, flat_rep ha.1 q, i1]; rfl, ?_⟩
    unfold inV inD at i2 ⊢
    rw [List.any_cons, List.any_cons, eqV_rep ha.1 hx q rx, i2]
theorem opd_in : OpD X.K gIn (rIn X.K false) := by
  intro x y d hd ρ H G u v Q hG ru rv k
  unfold gIn at hd
  split at hd
  · rename_i ds hs
    split at hd
    · rename_i hz
      cases hd
      rw [Bool.and_eq_true] at hz
      obtain ⟨kk, l, xs, rfl, q1, q2⟩ := seq_sq hs rv
      obtain ⟨i1, i2⟩ := in_rep hz.1 ru hz.2 q2
      refine ⟨l, xs, rfl, ?_, flat_rep hz.1 ru, i1, k _ H (Same.refl H) (rep_bl.mpr (by rw [i2]; rfl))⟩
      cases kk with
      | true => exact .inr (same_t same_un (sqv_t.mp q1))
      | false => exact .inl (same_l same_un (sqv_l.mp q1))
    · cases hd
  · cases hd
theorem opd_notin : OpD X.K gNotIn (rIn X.K true) := by
  intro x y d hd ρ H G u v Q hG ru rv k
  unfold gNotIn at hd
  split at hd
  · rename_i ds hs
    split at hd
    · rename_i hz
      cases hd
      rw [Bool.and_eq_true] at hz
      obtain ⟨kk, l, xs, rfl, q1, q2⟩ := seq_sq hs rv
      obtain ⟨i1, i2⟩ := in_rep hz.1 ru hz.2 q2
      refine ⟨l, xs, rfl, ?_, flat_rep hz.1 ru, i1, k _ H (Same.refl H) (rep_bl.mpr (by rw [i2]; rfl))⟩
      cases kk with
      | true => exact .inr (same_t same_un (sqv_t.mp q1))
      | false => exact .inl (same_l same_un (sqv_l.mp q1))
    · cases hd
  · cases hd
noncomputable def scalD : D → Bool
  | .non => true
  | .bl _ => true
  | .int _ => true
  | .str _ => true
  | .ty _ => true
  | .obj _ => true
  | _ => false
noncomputable def fScal (f : DSt → M D) : DSt → M D := fun δ => (f δ).b fun d => if scalD d = true then M.p d else none
theorem scal_rep {ρ : Rho} {K : PySem.W.Frag} {H H' : Hp} {d : D} {v : V} (h : scalD d = true) (r : Rep ρ K H d v) : Rep ρ K H' d v := by
  cases d with
  | non => exact rep_non.mpr (rep_non.mp r)
  | bl _ => exact rep_bl.mpr (rep_bl.mp r)
  | int _ => exact rep_int.mpr (rep_int.mp r)
  | str _ => exact rep_str.mpr (rep_str.mp r)
  | ty _ => exact rep_ty.mpr (rep_ty.mp r)
  | obj _ => exact rep_obj.mpr (rep_obj.mp r)
  | _ => cases h
theorem dt_thaw {t : DSt → M Bool} (hO : ∀ i ∈ O', i ∈ O) (h : DT X O' E e t) : DT X O E e t := by
  rintro pins s σ H Q I ⟨ρ, H₀, F, δ, r, R, hf, k⟩
  refine h pins s σ H Q I ⟨ρ, H₀, F, δ, r, R.thaw hO, hf, ?_⟩
  cases r with
  | ok d => exact k
  | error x => exact k
theorem de_thaw (hO : ∀ i ∈ O', i ∈ O) (h : DE X O' E e fa) : DE X O E e (fScal fa) := by
  rintro pins s σ H Q I ⟨ρ, H₀, F, δ, r, R, hf, k⟩
  rcases M.b_inv hf with ⟨x, e1, hf⟩ | ⟨x, e1, rfl⟩
  · refine h pins s σ H Q I ⟨ρ, H₀, F, δ, .ok x, R.thaw hO, e1, fun v H' s' rv => ?_⟩
    split at hf
    · rename_i hs
      cases hf
      exact k v H' s' (scal_rep hs rv)
    · cases hf
  · exact h pins s σ H Q I ⟨ρ, H₀, F, δ, .error x, R.thaw hO, e1, k⟩
noncomputable def gAug (i : Nat) (g : D → D → Option D) (f : DSt → M D) : DSt → M Out := fun δ => (M.o (δ[i]?).join).b fun x => (f δ).b fun y => (M.o (g x y)).b fun d => M.p (.nx (δ.set i (some d)))
end
end DL
namespace DL
open PySem PySem.Spec L2
section
variable {X : Cx} {O O' B : List Nat} {E : XK} {a b c e o : Expr} {es : List Expr} {fa fb fc fo fe : DSt → M D} {fl : DSt → M (List D)} {pos : Pos}
theorem ds_aug {i : Nat} {x : Str} {pos' : Pos} {op : Operator} {g : D → D → Option D} {r : R2} (hN : X.N.Nodup) (hop : OpR X (inplaceOp op) r) (hg : OpD X.K g r) (he : DE X O E e fa) (ho : autoParam (O.contains i = false) zau2._auto_1) (hi : autoParam (X.N[i]? = some x) zau2._auto_1) (hx : autoParam (Loc X.env.scope x) zau8._auto_1)
    (hf : autoParam (X.fn x = true ∨ X.env.scope.names.lookup x = some .local) zau0._auto_1) : DS X O O B E (.AugAssign (.Name x pos') op e pos) (gAug i g fa) := by
  rintro pins s σ H Dn I ⟨ρ, H₀, F, δ, rr, R, hgg, k⟩
  have ho' : i ∉ O := fun z => by rw [List.contains_iff_mem.mpr z] at ho; cases ho
  refine ps_aug (ti := r) hN hi hx he (fun pins s σ H x y v u Q I rx ry q => hop pins s σ H x y v u Q I rx ry q) hf pins s σ H Dn I ?_
  rcases M.b_inv hgg with ⟨x0, e0, hgg⟩ | ⟨y, e0, rfl⟩
  · obtain ⟨x1, hx1, ee⟩ := M.o_inv e0
    cases ee
    obtain ⟨v, q1, q2⟩ := R.val i x0 (join_some hx1) ho'
    refine ⟨v, q1, ?_⟩
    rcases M.b_inv hgg with ⟨y, e1, hgg⟩ | ⟨y, e1, rfl⟩
    · refine ⟨ρ, H₀, F, δ, .ok y, R, e1, fun u H1 s1 r1 => ?_⟩
      rcases M.b_inv hgg with ⟨d, e2, hgg⟩ | ⟨z, e2, rfl⟩
      · cases hgg
        obtain ⟨d1, hd1, ee⟩ := M.o_inv e2
        cases ee
        have R1 := R.mono s1
        exact hg x0 y d hd1 ρ H1 _ v u _ (fun p hp => R1.fresh hp) (q2.mono (same_hid s1)) r1 fun w H2 s2 r2 => k _ H2 (same_fob ho' (s1.trans s2)) ((R.mono (s1.trans s2)).set ho' r2)
      · obtain ⟨_, _, ee⟩ := M.o_inv e2
        cases ee
    · exact ⟨ρ, H₀, F, δ, .error y, R, e1, k⟩
  · obtain ⟨_, _, ee⟩ := M.o_inv e0
    cases ee
noncomputable def gAsg (h : D → DSt → Option DSt) (f : DSt → M D) : DSt → M Out := fun δ => (f δ).b fun d => match h d δ with
  | some δ' => M.p (.nx δ')
  | none => none
theorem ds_asg {tg : Expr} {h : D → DSt → Option DSt} (he : DE X O E e fa) (hg : DG X O tg h) (hs : autoParam (swapsWithSole [tg] e pos.line X.env = pure false) zau2._auto_1) (hw : autoParam (swappedStores [tg] e X.env = pure none) zau2._auto_1)
    (h1 : autoParam ((assignEach [tg] X.env).map (·.2) = [assign tg X.env]) zau2._auto_1) : DS X O O B E (.Assign [tg] e pos) (gAsg h fa) := by
  rintro pins s σ H Dn I ⟨ρ, H₀, F, δ, r, R, hgg, k⟩
  refine ps_asg he hg hs hw h1 pins s σ H Dn I ?_
  rcases M.b_inv hgg with ⟨d, e1, hgg⟩ | ⟨y, e1, rfl⟩
  · refine ⟨ρ, H₀, F, δ, .ok d, R, e1, fun v H1 s1 r1 => ?_⟩
    cases e2 : h d δ with
    | none => rw [e2] at hgg; cases hgg
    | some δ' =>
      rw [e2] at hgg
      cases hgg
      exact ⟨ρ, H₀, F, δ, d, δ', R.mono s1, r1, e2, fun σ' ef R' => k σ' H1 (by rw [ef]; exact same_hid s1) R'⟩
  · exact ⟨ρ, H₀, F, δ, .error y, R, e1, k⟩
noncomputable def gTup3 (i j l : Nat) : D → DSt → Option DSt := fun d δ => match d with
  | .tup [x, y, z] => some (((δ.set i (some x)).set j (some y)).set l (some z))
  | _ => none
theorem dg_tup3 {i j l : Nat} {x y z : Str} {px py pz : Pos} {kk : Nat} (hc : X.calm = true) (hN : X.N.Nodup) (ho : autoParam (O.contains i = false) zau2._auto_1) (ho2 : autoParam (O.contains j = false) zau2._auto_1) (ho3 : autoParam (O.contains l = false) zau2._auto_1) (hi : autoParam (X.N[i]? = some x) zau2._auto_1) (hj : autoParam (X.N[j]? = some y) zau2._auto_1) (hl : autoParam (X.N[l]? = some z) zau2._auto_1)
    (hx : autoParam (Loc X.env.scope x) zau8._auto_1) (hy : autoParam (Loc X.env.scope y) zau8._auto_1) (hz : autoParam (Loc X.env.scope z) zau8._auto_1)
    (hf : autoParam (X.fn x = true ∨ X.env.scope.names.lookup x = some .local) zau0._auto_1) (hf2 : autoParam (X.fn y = true ∨ X.env.scope.names.lookup y = some .local) zau0._auto_1) (hf3 : autoParam (X.fn z = true ∨ X.env.scope.names.lookup z = some .local) zau0._auto_1) :
    DG X O (.Tuple [.Name x px, .Name y py, .Name z pz] kk pos) (gTup3 i j l) := by
  rintro pins s σ H v u Q I r ⟨ρ, H₀, F, δ, d, δ', R, rd, e, k⟩
  have ho' : i ∉ O := fun z => by rw [List.contains_iff_mem.mpr z] at ho; cases ho
  have ho2' : j ∉ O := fun z => by rw [List.contains_iff_mem.mpr z] at ho2; cases ho2
  have ho3' : l ∉ O := fun z => by rw [List.contains_iff_mem.mpr z] at ho3; cases ho3
  unfold gTup3 at e
  split at e
  · rename_i d1 d2 d3
    cases e
    obtain ⟨p, xs, rfl, q2, q3⟩ := rep_tup.mp rd
    obtain ⟨v1, xs1, rfl, r1, q3⟩ := reps_cons.mp q3
    obtain ⟨v2, xs2, rfl, r2, q3⟩ := reps_cons.mp q3
    obtain ⟨v3, xs3, rfl, r3, q3⟩ := reps_cons.mp q3
    cases reps_nil.mp q3
    refine pg_tup hc (pgs_cons (pg_name hN hi hx hf) (pgs_cons (pg_name hN hj hy hf2) (pgs_cons (pg_name hN hl hz hf3) pgs_nil))) rfl rfl pins s σ H _ u Q I r ?_
    refine ⟨p, _, rfl, same_t same_un q2, rfl, v1, _, rfl, v2, _, rfl, v3, _, rfl, rfl, ?_⟩
    have e2 : fob F (((σ.set i (some v1)).set j (some v2)).set l (some v3)) O = fob F σ O := (ownA_set ho3').trans ((ownA_set ho2').trans (ownA_set ho'))
    refine k _ e2 ?_
    have R1 := R.set ho' r1
    have R2 := R1.set ho2' (by rw [ownA_set ho']; exact r2)
    exact R2.set ho3' (by rw [ownA_set ho2', ownA_set ho']; exact r3)
  · cases e
noncomputable def SmR (X : Cx) (name : Str) (r : Str → V → Hp → VK → Prop) : Prop := ∀ (pins : List (Addr × Obj)) (s : Shared) (σ : St) (x : Str) (t : Tok) (pos : Pos) (a : Sem Value) (Q : VK),
  wpAny (model X.prog X.w) X.A a (fun v s₁ => ∃ y H1, Inv X pins σ H1 s₁ ∧ RelV y v ∧ r x y H1 Q) X.xe s → MethodOnS X.prog X.w X.A X.xe name (.str x t) pos [(false, a)] (EP X pins σ Q) s
noncomputable def SmD (K : PySem.W.Frag) (g : Str → D → Option D) (r : Str → V → Hp → VK → Prop) : Prop := ∀ x y d, g x y = some d → ∀ (ρ : Rho) (H : Hp) (G : Addr → Bool) v (Q : VK), (∀ p, H p = none → G p = false) → Rep ρ K (hid H G) y v → (∀ w H', Same H H' → Rep ρ K (hid H' G) d w → Q w H') → r x v H Q
noncomputable def fSm (g : Str → D → Option D) (fo fe : DSt → M D) : DSt → M D := fun δ => (fo δ).b fun x => match x with
  | .str z => (fe δ).b fun y => M.o (g z y)
  | _ => none
theorem de_sm {name : Str} {g : Str → D → Option D} {r : Str → V → Hp → VK → Prop} {apos : Pos} (hr : SmR X name r) (hg : SmD X.K g r) (ho : DE X O E o fo) (he : DE X O E e fe) (hbase : autoParam (attributeBase o name X.env (eval o X.env) = eval o X.env) zau2._auto_1) (hs : autoParam (starEach [e] X.env = [(false, eval e X.env)]) zau2._auto_1) (hline : autoParam ((apos.endLine == pos.line) = true) zau2._auto_1) :
    DE X O E (.Call (.Attribute o name apos) [e] [] pos) (fSm g fo fe) := by
  rintro pins s σ H Q I ⟨ρ, H₀, F, δ, rr, R, hf, k⟩
  refine Call_method1 hbase hs hline (thn (ho pins s σ H (fun v H1 => ∃ z, v = .str z ∧ tD X.K O E fe σ H1 fun y H2 => r z y H2 Q) I ?_) fun u s1 ⟨v, H1, I1, rv, z, hz, q⟩ => ?_)
  · rcases M.b_inv hf with ⟨x, e1, hf⟩ | ⟨x, e1, rfl⟩
    · refine ⟨ρ, H₀, F, δ, .ok x, R, e1, fun u H1 s1 r1 => ?_⟩
      cases x with
      | str z =>
        refine ⟨z, rep_str.mp r1, ?_⟩
        rcases M.b_inv hf with ⟨y, e2, hf⟩ | ⟨y, e2, rfl⟩
        · refine ⟨ρ, H₀, F, δ, .ok y, R.mono s1, e2, fun v H2 s2 r2 => ?_⟩
          obtain ⟨d, hd, rfl⟩ := M.o_inv hf
          exact hg z y d hd ρ H2 _ v Q (fun p hp => (R.mono (s1.trans s2)).fresh hp) r2 fun w H3 s3 r3 => k w H3 (s1.trans (s2.trans s3)) r3
        · exact ⟨ρ, H₀, F, δ, .error y, R.mono s1, e2, k⟩
      | _ => cases hf
    · exact ⟨ρ, H₀, F, δ, .error x, R, e1, k⟩
  · subst hz
    obtain ⟨t, rfl⟩ := rv
    exact hr pins s1 σ z t pos _ Q (thn (he pins s1 σ H1 _ I1 q) fun u s2 ⟨y, H2, I2, ry, q2⟩ => ⟨y, H2, I2, ry, q2⟩)
noncomputable def gStarts (x : Str) : D → Option D
  | .str y => some (.bl (Txt.startswith x y))
  | _ => none
theorem sm_starts : SmR X "startswith" (fun x y H Q => ∃ z, y = .str z ∧ Q (.bl (Txt.startswith x z)) H) := fun pins s σ x t pos a Q h => SB.startswith (thn h fun v s1 ⟨y, H1, I1, ry, z, hz, q⟩ => by
  subst hz
  obtain ⟨u, rfl⟩ := ry
  exact ⟨z, u, rfl, .bl _, H1, I1, rfl, q⟩)
theorem smd_starts : SmD X.K gStarts (fun x y H Q => ∃ z, y = .str z ∧ Q (.bl (Txt.startswith x z)) H) := by
  intro x y d hd ρ H G v Q hG rv k
  cases y with
  | str z => cases hd; exact ⟨z, rep_str.mp rv, k _ H (Same.refl H) (rep_bl.mpr rfl)⟩
  | _ => cases hd
noncomputable def kStr : List D → Option D
  | [.int i] => if i.natAbs.log2 < 1920 then some (.str (toString i)) else none
  | _ => none
theorem cad_str : CaD X.K kStr (fun xs H Q => ∃ i, xs = [.int i] ∧ i.natAbs.log2 < 1920 ∧ Q (.str (toString i)) H) := by
  intro xs d hd ρ H G us Q hG ru k
  unfold kStr at hd
  split at hd
  · split at hd
    · rename_i i hz
      cases hd
      obtain ⟨v, rfl, q1⟩ := reps1 ru
      cases rep_int.mp q1
      exact ⟨_, rfl, hz, k _ H (Same.refl H) (rep_str.mpr rfl)⟩
    · cases hd
  · cases hd
noncomputable def kIntT : List D → Option D
  | [.int i] => some (.int i)
  | [.bl k] => some (.int (if k then 1 else 0))
  | [.str x] => if x.length ≤ 640 then (PySem.intText? x).map .int else none
  | _ => none
theorem call_intT : CallR X (.type "int") (fun xs H Q => ((∃ i, xs = [.int i] ∧ Q (.int i) H) ∨ ∃ k, xs = [.bl k] ∧ Q (.int (if k then 1 else 0)) H) ∨ ∃ x n, xs = [.str x] ∧ x.length ≤ 640 ∧ PySem.intText? x = some n ∧ Q (.int n) H) :=
  call_int1.or (by
    intro pins s σ H xs us Q I r h
    obtain ⟨x, n, rfl, hl, hn, q⟩ := h
    obtain ⟨u, rfl, t, rfl⟩ := r.one
    exact PySem.W.KIN.call_text hn hl ⟨.int n, H, I.tok _, ⟨_, rfl⟩, q⟩)
theorem cad_intT : CaD X.K kIntT (fun xs H Q => ((∃ i, xs = [.int i] ∧ Q (.int i) H) ∨ ∃ k, xs = [.bl k] ∧ Q (.int (if k then 1 else 0)) H) ∨ ∃ x n, xs = [.str x] ∧ x.length ≤ 640 ∧ PySem.intText? x = some n ∧ Q (.int n) H) := by
  intro xs d hd ρ H G us Q hG ru k
  unfold kIntT at hd
  split at hd
  · cases hd
    obtain ⟨v, rfl, q1⟩ := reps1 ru
    cases rep_int.mp q1
    exact .inl (.inl ⟨_, rfl, k _ H (Same.refl H) (rep_int.mpr rfl)⟩)
  · cases hd
    obtain ⟨v, rfl, q1⟩ := reps1 ru
    cases rep_bl.mp q1
    exact .inl (.inr ⟨_, rfl, k _ H (Same.refl H) (rep_int.mpr rfl)⟩)
  · split at hd
    · rename_i x hz
      obtain ⟨v, rfl, q1⟩ := reps1 ru
      cases rep_str.mp q1
      cases e : PySem.intText? x with
      | none => rw [e] at hd; cases hd
      | some n =>
        rw [e] at hd
        cases hd
        exact .inr ⟨x, n, rfl, hz, e, k _ H (Same.refl H) (rep_int.mpr rfl)⟩
    · cases hd
  · cases hd
theorem de_glStr {x : Str} {z : Str} {t : Tok} (hg : Gl X x) (hm : X.mg x = some (.str z t)) (hd : autoParam ((x == ("__debug__" : Str)) = false) zau1._auto_1) : DE X O E (.Name x pos) (fC (.str z)) :=
  de_lit (t := tC (.str z)) (v := .str z) (pe_glob (v := .str z) hg hm ⟨t, rfl⟩ hd) fun _ _ => rep_str.mpr rfl
end
end DL
namespace L2
open PySem PySem.Spec PyProof.Rows
theorem size_nn (lo hi st : Int) (h : 0 < st) : 0 ≤ Builtin.Range.rangeSize lo hi st := by
  unfold Builtin.Range.rangeSize
  rw [if_pos h]
  split
  · have := Int.ediv_nonneg (a := hi - lo - 1) (b := st) (by omega) (by omega)
    omega
  · omega
section
variable {X : Cx} {tg : Expr}
theorem range_st {pins : List (Addr × Obj)} {σ : St} {H : Hp} {s : Shared} {R : It → Hp → Prop} {E : Value → Shared → Prop} {lo hi st : Int} {t u v : Tok} {tk : Nat} (I : Inv X pins σ H s) (hst : 0 < st)
    (q : R (Itv (fun i => .int (lo + (i : Nat) * st)) (Builtin.Range.rangeSize lo hi st).toNat) H) : wpAny (model X.prog X.w) X.A (pyIter (.ref s.heap.objs.size)) (PIE X pins σ tg R) E { s with heap := s.heap.push { cls := .type "range", data := .fields #[.int lo t, .int hi u, .int st v] }, toks := tk } := by
  have I1 : Inv X pins σ H { s with heap := s.heap.push { cls := .type "range", data := .fields #[.int lo t, .int hi u, .int st v] }, toks := tk } := I.kept fun b o e => Heap.get?_push_of_some _ e
  have hn : 0 ≤ Builtin.Range.rangeSize lo hi st := size_nn lo hi st hst
  generalize hN : (Builtin.Range.rangeSize lo hi st).toNat = N at q
  have hN' : Builtin.Range.rangeSize lo hi st = (N : Int) := by omega
  have fpk : ∀ b ∈ [(s.heap.push { cls := .type "range", data := .fields #[.int lo t, .int hi u, .int st v] }).objs.size], FpOk X pins H b := fun b hb => by
    have e : b = (s.heap.push { cls := .type "range", data := .fields #[.int lo t, .int hi u, .int st v] }).objs.size := by simpa using hb
    subst e
    exact I1.fpOk (Nat.le_refl _) (I1.hok.fresh (Nat.le_refl _))
  have e1 : lo + ((0 : Nat) : Int) * st = lo := by simp
  have e2 : Builtin.Range.rangeSize lo hi st - ((0 : Nat) : Int) = Builtin.Range.rangeSize lo hi st := by simp
  by_cases hsm : Builtin.Range.small lo hi st = true
  · refine wpAny_pyIter_range (IsRange.new ..) hsm ?_
    refine ⟨_, [_], _, _, H, rfl, I1.kept (t' := tk) fun b o e => Heap.get?_push_of_some _ e, turn_walk _ _ N _ (fun A hA => Walks.range hA _ lo st N) (fun i h e => ⟨_, _, _, e, rfl, rfl, rfl⟩) (fun A i s Q E e h => wpAny_pyIter_rangeiter e h), ?_, fpk, q⟩
    show IsRangeIter _ _ (lo + ((0 : Nat) : Int) * st) ((N : Int) - ((0 : Nat) : Int)) st
    rw [← hN', e1, e2]
    exact Heap.get?_push_size _ rfl
  · refine wpAny_pyIter_longrange (IsRange.new ..) (by simpa using hsm) ?_
    refine ⟨_, [_], _, _, H, rfl, I1.kept (t' := tk) fun b o e => Heap.get?_push_of_some _ e, turn_walk _ _ N _ (fun A hA => Walks.longrange hA _ lo st N) (fun i h e => ⟨_, _, _, e, rfl, rfl, rfl⟩) (fun A i s Q E e h => wpAny_pyIter_longiter e h), ?_, fpk, q⟩
    show IsLongIter _ _ (lo + ((0 : Nat) : Int) * st) ((N : Int) - ((0 : Nat) : Int)) st
    rw [← hN', e1, e2]
    exact Heap.get?_push_size _ rfl
noncomputable def iRg3 (ta : TA) : TI := fun σ H R => ta σ H fun vs H1 => ∃ i j k : Int, vs = [.int i, .int j, .int k] ∧ 0 < k ∧ k < 2 ^ 60 ∧ R (Itv (fun n => .int (i + (n : Nat) * k)) (Builtin.Range.rangeSize i j k).toNat) H1
theorem pi_range3 {a : Expr} {es : List Expr} {ta : TA} {p pos : Pos} (hg : Gl X "range") (hm : X.mg "range" = none) (ha : PA X (a :: es) ta) (hs : autoParam (starEach (a :: es) X.env = (false, eval a X.env) :: starEach es X.env) zau2._auto_1) (hp : autoParam ((backTo pos (starEach es X.env)).any (·.1) = false) zau2._auto_1) :
    PI X tg (.Call (.Name "range" p) (a :: es) [] pos) (iRg3 ta) := by
  intro pins s σ H R I h
  refine Call_ (ld_blt I hg hm boot_range (PyProof.Rows.callWith_type1 (thn (ha pos pins s σ H _ I h) fun us s1 hzz => ?_) hs hp))
  obtain ⟨vs, H1, I1, r1, q1⟩ := hzz
  obtain ⟨i, j, k, e, hk, hk2, q⟩ := q1
  subst e
  cases r1 with
  | cons p1 r1 =>
    cases r1 with
    | cons p2 r1 =>
      cases r1 with
      | cons p3 r1 =>
        cases r1
        obtain ⟨t1, rfl⟩ := p1
        obtain ⟨t2, rfl⟩ := p2
        obtain ⟨t3, rfl⟩ := p3
        refine call_range_3 (by omega) (range_st I1 hk q) (.inl (PyProof.noPylong_of_log2 ?_))
        have hn : k.natAbs ≠ 0 := by omega
        have : k.natAbs < 2 ^ 60 := by omega
        exact Nat.lt_trans ((Nat.log2_lt (k := 60) hn).mpr this) (by decide)
end
end L2
namespace DL
open PySem PySem.Spec L2
section
variable {X : Cx} {O : List Nat} {E : XK} {a b tg iter e o : Expr} {es : List Expr} {fa fo fe : DSt → M D} {fl : DSt → M (List D)} {pos p : Pos}
noncomputable def rangeStep (lo : Int) (st : Int) (n : Nat) : List D := (List.range n).map fun i => .int (lo + (i : Nat) * st)
noncomputable def rangeArgs3 : List D → Option (List D)
  | [.int i, .int j, .int k] => if 0 < k ∧ k < 2 ^ 60 then some (rangeStep i k (Builtin.Range.rangeSize i j k).toNat) else none
  | _ => none
theorem di_range3 (hg : Gl X "range") (hm : X.mg "range" = none) (ha : DA X O E (a :: es) fl) (hs : autoParam (starEach (a :: es) X.env = (false, eval a X.env) :: starEach es X.env) zau2._auto_1) (hp : autoParam ((backTo pos (starEach es X.env)).any (·.1) = false) zau2._auto_1) :
    DI X O E tg (.Call (.Name "range" p) (a :: es) [] pos) (iArgs rangeArgs3 fl) := by
  rintro pins s σ H R I ⟨ρ, H₀, F, δ, r, RS0, hf, k⟩
  refine pi_range3 hg hm ha hs hp pins s σ H R I ?_
  rcases M.b_inv hf with ⟨d, e1, hf⟩ | ⟨y, e1, rfl⟩
  · refine ⟨ρ, H₀, F, δ, .ok d, RS0, e1, fun vs H1 s1 r1 => ?_⟩
    obtain ⟨ds, hd, rfl⟩ := M.o_inv hf
    unfold rangeArgs3 at hd
    split at hd
    · rename_i i0 j kk
      split at hd
      · rename_i hk
        cases hd
        obtain ⟨v, r', rfl, q1, q2⟩ := reps_cons.mp r1
        obtain ⟨v2, r2, rfl, q3, q4⟩ := reps_cons.mp q2
        obtain ⟨v3, r3, rfl, q5, q6⟩ := reps_cons.mp q4
        cases reps_nil.mp q6
        cases rep_int.mp q1
        cases rep_int.mp q3
        cases rep_int.mp q5
        refine ⟨i0, j, kk, rfl, hk.1, hk.2, k _ H1 s1 ?_⟩
        refine itv_ok (by unfold rangeStep; simp) fun i d hd H => ?_
        unfold rangeStep at hd
        rw [List.getElem?_map] at hd
        cases q : (List.range (Builtin.Range.rangeSize i0 j kk).toNat)[i]? with
        | none => rw [q] at hd; cases hd
        | some m =>
          rw [q] at hd
          have : m = i := by
            have := (List.getElem?_eq_some_iff.mp q).2
            simpa using this.symm
          subst this
          cases hd
          exact rep_int.mpr rfl
      · cases hd
    · cases hd
  · exact ⟨ρ, H₀, F, δ, .error y, RS0, e1, k⟩
noncomputable def blsD : List D → Option (List Bool)
  | [] => some []
  | .bl b :: ds => (blsD ds).map (b :: ·)
  | _ :: _ => none
theorem blsD_eq : ∀ {ds : List D} {ns : List Bool}, blsD ds = some ns → ds = ns.map .bl
  | [], _, h => by cases h; rfl
  | .bl i :: ds, ns, h => by
    unfold blsD at h
    cases e : blsD ds with
    | none => rw [e] at h; cases h
    | some ms => rw [e] at h; cases h; rw [blsD_eq e]; rfl
  | .non :: _, _, h => by cases h
  | .int _ :: _, _, h => by cases h
  | .str _ :: _, _, h => by cases h
  | .ty _ :: _, _, h => by cases h
  | .obj _ :: _, _, h => by cases h
  | .tup _ :: _, _, h => by cases h
  | .lst _ :: _, _, h => by cases h
theorem reps_bls {ρ : Rho} {K : PySem.W.Frag} {H : Hp} : ∀ {ns : List Bool} {vs : List V}, Reps ρ K H (ns.map .bl) vs ↔ vs = ns.map V.bl
  | [], vs => reps_nil
  | n :: ns, vs => by
    rw [List.map_cons, reps_cons]
    constructor
    · rintro ⟨v, r, rfl, h1, h2⟩
      rw [rep_bl.mp h1, reps_bls.mp h2]; rfl
    · rintro rfl
      exact ⟨_, _, rfl, rep_bl.mpr rfl, reps_bls.mpr rfl⟩
noncomputable def kAll : List D → Option D
  | [.lst ds] => (blsD ds).map fun ns => .bl (ns.all id)
  | _ => none
theorem all_range (ns : List Bool) : (List.range ns.length).all (fun i => ns.getD i true) = ns.all id := by
  induction ns with
  | nil => rfl
  | cons n ns ih =>
    rw [List.length_cons, List.range_succ_eq_map, List.all_cons, List.all_map, List.all_cons]
    congr 1
theorem call_allD (hc : X.calm = true) : CallR X (.builtin "all") (fun xs H Q => ∃ p, ∃ ns : List Bool, xs = [.ref p] ∧ SqL X.K H p (ns.map V.bl) ∧ Q (.bl (ns.all id)) H) := by
  intro pins s σ H xs us Q I r h
  obtain ⟨p, ns, rfl, hq, q⟩ := h
  obtain ⟨u, rfl, rx⟩ := r.one
  cases rx
  obtain ⟨its, rv, src, hz⟩ := I.list hq
  have hl := rv.length
  rw [List.length_map] at hl
  have hh : X.A.in1.handled = none := I.ok.hd hc
  have src' : s.heap.IsList p its.toArray := src.isList
  have hp : p < s.heap.objs.size := by obtain ⟨o, e, _⟩ := src'; exact Heap.lt_size e
  refine call_all_walk ?_
  refine wpAny_pyIter_list src' ?_
  refine ⟨_, _, _, _, _, _, (fun i => ns.getD i true), rfl, Walks.list hh s.heap.objs.size p (Nat.ne_of_lt hp) its.toArray, ⟨⟨_, Heap.get?_push_size _ rfl, rfl, rfl⟩, src'.at fun o e => Heap.get?_push_of_some _ e⟩, fun i v s' Q' E' hP hQ => ?_, fun h' tk kp => ?_⟩
  · have e : its.toArray[i]? = some v := hP
    have hi : i < ns.length := by rw [hl]; have := (Array.getElem?_eq_some_iff.mp e).1; simpa using this
    obtain ⟨v', e1, r1⟩ := rv.get (i := i) (x := .bl ns[i]) (by rw [List.getElem?_map, List.getElem?_eq_getElem hi]; rfl)
    have : v = v' := by
      have e' : its[i]? = some v := by simpa using e
      rw [e'] at e1; exact Option.some.inj e1
    subst this
    have r1' : v = .bool ns[i] := r1
    subst r1'
    refine wpAny_truthy_bool ?_
    dsimp only at hQ
    rw [List.getD_eq_getElem?_getD, List.getElem?_eq_getElem hi] at hQ
    exact hQ
  · refine ⟨.bl (ns.all id), H, I.kept fun b o e => kp b o ?_ (Heap.get?_push_of_some _ e), ?_, q⟩
    · intro z
      have : b = s.heap.objs.size := by simpa using z
      rw [this] at e
      exact absurd (Heap.lt_size e) (Nat.lt_irrefl _)
    · have : its.toArray.size = ns.length := by rw [List.size_toArray]; omega
      rw [this, all_range]
      rfl
theorem cad_all : CaD X.K kAll (fun xs H Q => ∃ p, ∃ ns : List Bool, xs = [.ref p] ∧ SqL X.K H p (ns.map V.bl) ∧ Q (.bl (ns.all id)) H) := by
  intro xs d hd ρ H G us Q hG ru k
  unfold kAll at hd
  split at hd
  · rename_i ds
    cases e : blsD ds with
    | none => rw [e] at hd; cases hd
    | some ns =>
      rw [e] at hd
      cases hd
      obtain ⟨v, rfl, q⟩ := reps1 ru
      obtain ⟨l, ys, rfl, q1, q2⟩ := rep_lst.mp q
      rw [blsD_eq e] at q2
      rw [reps_bls.mp q2] at q1
      exact ⟨l, ns, rfl, same_l same_un q1, k _ H (Same.refl H) (rep_bl.mpr rfl)⟩
  · cases hd
end
end DL
namespace L2
open PySem PySem.Spec PyProof.Rows
theorem noFill_tuple_mul : fillsNumberSlot (.type "tuple") "mul" = pure false :=
  PySem.fillsNumberSlot_seq (id := "tuple.__mul__") (r := some (.builtin "tuple.__rmul__")) PySem.F.slot_tuple_mul.lookup (by decide +kernel) PySem.F.slot_tuple_rmul.lookup (by decide +kernel)
theorem repeat_tuple : seqRepeat? (.type "tuple") = pure (some (.builtin "tuple.__mul__")) := by
  unfold seqRepeat?
  rw [PySem.seqSlot_of (T := "tuple") (name := "__mul__") (id := "tuple.__mul__") PySem.F.slot_tuple_mul.lookup (by decide +kernel), PySem.seqSlot_of (T := "tuple") (name := "__rmul__") (id := "tuple.__rmul__") PySem.F.slot_tuple_rmul.lookup (by decide +kernel)]
  rfl
theorem rmul_int_tuple (a : Int) (t : Tok) (l : Addr) (items : Array Value) (n : Nat) (dd : Option Addr) (sl : Array (Option Value)) :
    Meets (Builtin.«int.__rmul__» ⟨[.int a t, .ref l], []⟩) (fun _ R s => s.heap.get? l = some { cls := .type "tuple", dict := dd, data := .seq items n, slots := sl } ∧ R (.ok (.ret Value.notImplemented)) s) :=
  .of_wp fun prog w A R s h => by obtain ⟨hp, g, d, tk, os⟩ := s; obtain ⟨hl, h⟩ := h; wp_walk; exact ⟨_, rfl, h⟩
theorem tuple_mul1 (l : Addr) (items : Array Value) (n : Nat) (u : Tok) (dd : Option Addr) (sl : Array (Option Value)) (hne : items.isEmpty = false) :
    Meets (Builtin.«tuple.__mul__» ⟨[.ref l, .int 1 u], []⟩) (fun _ R s => s.heap.get? l = some { cls := .type "tuple", dict := dd, data := .seq items n, slots := sl } ∧ R (.ok (.ret (.ref l))) s) :=
  .of_wp fun prog w A R s h => by
    obtain ⟨hp, g, d, tk, os⟩ := s; obtain ⟨hl, h⟩ := h
    have f1 := AutoSeq1.idx_int
    wp_walk
    exact ⟨_, rfl, h⟩
theorem tuple_mulN (l : Addr) (items : Array Value) (n : Nat) (k : Int) (u : Tok) (dd : Option Addr) (sl : Array (Option Value)) (hne : items.isEmpty = false) (h2 : 2 ≤ k) (h3 : k ≤ 1000) (hsz : items.size * k.toNat ≤ 100000) :
    Meets (Builtin.«tuple.__mul__» ⟨[.ref l, .int k u], []⟩) (fun _ R s => s.heap.get? l = some { cls := .type "tuple", dict := dd, data := .seq items n, slots := sl } ∧ R (.ok (.ret (.ref s.heap.objs.size))) { s with heap := s.heap.push { cls := .type "tuple", data := .seq (List.foldl (fun x1 x2 => x1 ++ x2) #[] (List.replicate k.toNat items)) } }) :=
  .of_wp fun prog w A R s h => by
    obtain ⟨hp, g, d, tk, os⟩ := s; obtain ⟨hl, h⟩ := h
    have f1 := AutoSeq1.idx_int
    have c1 : (decide (k < -(2 ^ 63)) || decide (k ≥ 2 ^ 63)) = false := by simp; omega
    have c2 : (items.isEmpty || k == 1) = false := by rw [hne]; simp; omega
    have c3 : (decide (k ≤ 0) || items.isEmpty) = false := by rw [hne]; simp; omega
    obtain ⟨m, rfl⟩ := Int.eq_ofNat_of_zero_le (show 0 ≤ k by omega)
    have hs : (items.size : Int) * (m : Int) = ((items.size * m : Nat) : Int) := by push_cast; rfl
    have hsz' : items.size * m ≤ 100000 := by simpa using hsz
    have c4 : ¬ ((items.size : Int) * (m : Int) > (2 ^ 63 - 1) / 8) := by rw [hs]; omega
    have c5 : Builtin.Tuple.tupleTooMany ((items.size : Int) * (m : Int)) = false := by
      rw [hs]
      unfold Builtin.Tuple.tupleTooMany
      simp [sizeLine]
      omega
    wp_walk
    refine wpAny_ite_false (decide_eq_false (by rw [c1]; decide)) ?_
    wp_walk
    refine wpAny_ite_false (decide_eq_false (by rw [c2]; decide)) ?_
    wp_walk
    refine wpAny_ite_false (decide_eq_false (by rw [c3]; decide)) ?_
    try dsimp only
    refine wpAny_ite_false (decide_eq_false c4) ?_
    try dsimp only
    refine wpAny_ite_false (decide_eq_false (by rw [c5]; decide)) ?_
    try dsimp only
    refine wpAny_bind ?_
    unfold Builtin.Tuple.tupleExact
    refine wpAny_newObj_type ?_ ?_
    · exact wpAny_pure ⟨_, rfl, h⟩
    · show (List.foldl (fun x1 x2 => x1 ++ x2) #[] (List.replicate ((m : Nat) : Int).toNat items)).size ≤ sizeLine
      rw [AutoListH.size_joined]
      have : 100000 ≤ sizeLine := by decide
      rw [Nat.mul_comm] at hsz'
      simp
      omega
end L2
namespace DL
open PySem PySem.Spec L2
noncomputable def rTRep (K : PySem.W.Frag) : R2 := fun x y H Q => ∃ l k xs, x = .ref l ∧ y = .int k ∧ SqT K H l xs ∧ xs ≠ [] ∧ 1 ≤ k ∧ k ≤ 1000 ∧ xs.length * k.toNat ≤ 100000 ∧ (k = 1 → Q (.ref l) H) ∧ (k ≠ 1 → ∀ p, H p = none → Q (.ref p) (upd H p (.tup (List.replicate k.toNat xs).flatten)))
section
variable {X : Cx} {O O' B : List Nat} {E : XK} {a b c e : Expr} {es : List Expr} {fa fb fc : DSt → M D} {fl : DSt → M (List D)} {pos : Pos}
theorem op_trep : OpR X (binaryOp .Mult) (rTRep X.K) := by
  intro pins s σ H x y v u Q I rx ry h
  obtain ⟨l, k, xs, rfl, rfl, hH, hne, h1, h2, hz, q1, q2⟩ := h
  cases rx
  obtain ⟨t, rfl⟩ := ry
  obtain ⟨its, r, ⟨⟨cls, dd, data, sl⟩, e, hc, n, hd⟩, _⟩ := I.tuple hH
  simp only at hc hd
  subst hc hd
  have l1 := r.length
  have hne' : its.toArray.isEmpty = false := by
    cases its with
    | nil => exact absurd (List.length_eq_zero_iff.mp l1) hne
    | cons _ _ => rfl
  have hlen : its.toArray.size * k.toNat ≤ 100000 := by rw [List.size_toArray, ← l1]; exact hz
  have hnew : List.foldl (fun x1 x2 => x1 ++ x2) #[] (List.replicate k.toNat its.toArray) = (List.replicate k.toNat its).flatten.toArray := by
    have := foldl_rep its k.toNat []
    rw [List.nil_append] at this
    exact this
  refine wpAny_binaryOp_repeat_ref (T := "tuple") (U := "int") (by decide) ⟨_, e, rfl⟩ (fun s' => typeIs_int s' k t) noFill_tuple_mul F.fills_int_mul F.slot_int_rmul repeat_tuple F.slot_int_index.lookup
    (call_meets F.slot_int_rmul (typeIs_int s k t) F.entry_int_rmul (F.args_int_rmul_2 _ _) (rmul_int_tuple k t l its.toArray n dd sl)
      ⟨e, rfl, ⟨_, e, rfl⟩, ?_⟩)
  by_cases hk : k = 1
  · subst hk
    exact call_meets F.slot_tuple_mul ⟨_, e, rfl⟩ F.entry_tuple_mul (F.args_tuple_mul_2 _ _) (tuple_mul1 l its.toArray n t dd sl hne') ⟨e, .ref l, H, I, rfl, q1 rfl⟩
  · refine call_meets F.slot_tuple_mul ⟨_, e, rfl⟩ F.entry_tuple_mul (F.args_tuple_mul_2 _ _) (tuple_mulN l its.toArray n k t dd sl hne' (by omega) h2 hlen) ⟨e, ?_⟩
    rw [hnew]
    refine ⟨.ref s.heap.objs.size, _, I.laid (t' := s.toks) (o := .tup (List.replicate k.toNat xs).flatten) (fun b ob q => Heap.get?_push_of_some _ q) (Nat.le_refl _) ?_, rfl, q2 hk _ (I.hok.fresh (Nat.le_refl _))⟩
    refine ⟨?_, _, r.rep k.toNat, PyProof.Rows.IsTup.new _ _⟩
    rw [len_rep, Nat.mul_comm]
    have : 100000 ≤ sizeLine := by decide
    omega
noncomputable def gMulT : D → D → Option D
  | .tup xs, .int k => if xs ≠ [] ∧ 1 ≤ k ∧ k ≤ 1000 ∧ xs.length * k.toNat ≤ 100000 then some (.tup (List.replicate k.toNat xs).flatten) else none
  | x, y => gMul x y
noncomputable def rMulT (K : PySem.W.Frag) : R2 := fun x y H Q => (rI (fun i j => (inBig i && inBig j) = true) (fun i j => .int (i * j)) x y H Q ∨ ∃ z n, x = .str z ∧ y = .int n ∧ (z.length ≤ 4096 ∧ -4096 ≤ n ∧ n ≤ 4096) ∧ Q (.str (Txt.mul z n)) H) ∨ rTRep K x y H Q
theorem op_mulT : OpR X (binaryOp .Mult) (rMulT X.K) := op_mulD.or op_trep
theorem opd_mulT : OpD X.K gMulT (rMulT X.K) := by
  intro x y d hd ρ H G u v Q hG ru rv k
  unfold gMulT at hd
  split at hd
  · split at hd
    · rename_i hz
      cases hd
      obtain ⟨l, xs, rfl, q1, q2⟩ := rep_tup.mp ru
      have n1 : xs ≠ [] := fun z => by have := q2.length; rw [z] at this; exact hz.1 (List.length_eq_zero_iff.mp this.symm)
      refine .inr ⟨l, _, xs, rfl, rep_int.mp rv, same_t same_un q1, n1, hz.2.1, hz.2.2.1, by rw [q2.length]; exact hz.2.2.2, fun e => ?_, fun _ p hp => k _ _ (same_upd hp) (rep_new_tup hp (hG p hp) (q2.rep _))⟩
      subst e
      refine k _ H (Same.refl H) ?_
      simpa using ru
    · cases hd
  · exact .inl (opd_mul (X := X) x y d hd ρ H G u v Q hG ru rv k)
end
end DL
namespace DL
open PySem PySem.Spec L2
inductive SO where
  | ins (c : Str) (fs : List (Str × D)) | lst (ds : List D)
noncomputable abbrev Sto := List SO
noncomputable abbrev MS (α : Type) := Sto → Option (Except XD α × Sto)
noncomputable def MS.b {α β : Type} (m : MS α) (f : α → MS β) : MS β := fun Ω => match m Ω with
  | none => none
  | some (.error x, Ω') => some (.error x, Ω')
  | some (.ok a, Ω') => f a Ω'
noncomputable def MS.p {α : Type} (a : α) : MS α := fun Ω => some (.ok a, Ω)
noncomputable def MS.l {α : Type} (m : M α) : MS α := fun Ω => m.map fun r => (r, Ω)
noncomputable def MS.o {α : Type} (m : Option α) : MS α := fun Ω => m.map fun r => (.ok r, Ω)
inductive MS.BInv {α β : Type} (m : MS α) (f : α → MS β) (Ω Ω' : Sto) (r : Except XD β) : Prop
  | ok (a : α) (Ω1 : Sto) (h1 : m Ω = some (.ok a, Ω1)) (h2 : f a Ω1 = some (r, Ω'))
  | err (x : XD) (h1 : m Ω = some (.error x, Ω')) (h2 : r = .error x)
theorem MS.b_inv {α β : Type} {m : MS α} {f : α → MS β} {Ω Ω' : Sto} {r : Except XD β} (h : m.b f Ω = some (r, Ω')) : MS.BInv m f Ω Ω' r := by
  unfold MS.b at h
  cases e : m Ω with
  | none => rw [e] at h; cases h
  | some p =>
    rw [e] at h
    obtain ⟨q, Ω1⟩ := p
    cases q with
    | error x => cases h; exact .err x e rfl
    | ok a => exact .ok a Ω1 e h
theorem MS.l_inv {α : Type} {m : M α} {Ω Ω' : Sto} {r : Except XD α} (h : MS.l m Ω = some (r, Ω')) : m = some r ∧ Ω' = Ω := by
  unfold MS.l at h
  cases e : m with
  | none => rw [e] at h; cases h
  | some p => rw [e] at h; cases h; exact ⟨rfl, rfl⟩
theorem MS.o_inv {α : Type} {m : Option α} {Ω Ω' : Sto} {r : Except XD α} (h : MS.o m Ω = some (r, Ω')) : ∃ a, m = some a ∧ r = .ok a ∧ Ω' = Ω := by
  unfold MS.o at h
  cases e : m with
  | none => rw [e] at h; cases h
  | some p => rw [e] at h; cases h; exact ⟨p, rfl, rfl, rfl⟩
@[simp] theorem MS.b_p {α β : Type} (a : α) (f : α → MS β) : (MS.p a).b f = f a := rfl
noncomputable def RLe (ρ ρ' : Rho) : Prop := ∀ i a, ρ i = some a → ρ' i = some a
theorem RLe.refl (ρ : Rho) : RLe ρ ρ := fun _ _ h => h
theorem RLe.trans {ρ ρ' ρ'' : Rho} (a : RLe ρ ρ') (b : RLe ρ' ρ'') : RLe ρ ρ'' := fun i x h => b i x (a i x h)
section
variable {ρ ρ' : Rho} {K : PySem.W.Frag} {H H' : Hp}
mutual
theorem Rep.rho (e : RLe ρ ρ') : ∀ {d : D} {v : V}, Rep ρ K H d v → Rep ρ' K H d v
  | .non, _, h => by unfold Rep at h ⊢; exact h
  | .bl _, _, h => by unfold Rep at h ⊢; exact h
  | .int _, _, h => by unfold Rep at h ⊢; exact h
  | .str _, _, h => by unfold Rep at h ⊢; exact h
  | .ty _, _, h => by unfold Rep at h ⊢; exact h
  | .obj _, _, h => by
    unfold Rep at h ⊢
    obtain ⟨a, q1, q2⟩ := h
    exact ⟨a, e _ _ q1, q2⟩
  | .tup _, _, h => by
    unfold Rep at h ⊢
    obtain ⟨a, xs, q1, q2, q3⟩ := h
    exact ⟨a, xs, q1, q2, Reps.rho e q3⟩
  | .lst _, _, h => by
    unfold Rep at h ⊢
    obtain ⟨a, xs, q1, q2, q3⟩ := h
    exact ⟨a, xs, q1, q2, Reps.rho e q3⟩
theorem Reps.rho (e : RLe ρ ρ') : ∀ {ds : List D} {vs : List V}, Reps ρ K H ds vs → Reps ρ' K H ds vs
  | [], _, h => by unfold Reps at h ⊢; exact h
  | _ :: _, _, h => by
    unfold Reps at h ⊢
    obtain ⟨v, vs, q1, q2, q3⟩ := h
    exact ⟨v, vs, q1, Rep.rho e q2, Reps.rho e q3⟩
end
noncomputable def putD (f : Str) (d : D) : List (Str × D) → List (Str × D)
  | [] => [(f, d)]
  | (g, x) :: r => if g = f then (g, d) :: r else (g, x) :: putD f d r
noncomputable def Flds (ρ : Rho) (K : PySem.W.Frag) (H : Hp) : List (Str × D) → List (Str × V) → Prop
  | [], vs => vs = []
  | (f, d) :: fs, vs => ∃ v r, vs = (f, v) :: r ∧ Rep ρ K H d v ∧ Flds ρ K H fs r
theorem Flds.mono (e : RLe ρ ρ') (s : Same H H') : ∀ {fs : List (Str × D)} {vs : List (Str × V)}, Flds ρ K H fs vs → Flds ρ' K H' fs vs
  | [], _, h => h
  | (f, d) :: fs, _, ⟨v, r, q1, q2, q3⟩ => ⟨v, r, q1, (q2.rho e).mono s, Flds.mono e s q3⟩
theorem Flds.length : ∀ {fs : List (Str × D)} {vs : List (Str × V)}, Flds ρ K H fs vs → vs.length = fs.length
  | [], _, h => by cases h; rfl
  | (f, d) :: fs, _, ⟨v, r, q1, q2, q3⟩ => by subst q1; simp [Flds.length q3]
theorem Flds.get : ∀ {fs : List (Str × D)} {vs : List (Str × V)} {f : Str} {d : D}, Flds ρ K H fs vs → fs.lookup f = some d → ∃ v, vs.lookup f = some v ∧ Rep ρ K H d v
  | [], _, _, _, _, e => by cases e
  | (g, x) :: fs, _, f, d, ⟨v, r, q1, q2, q3⟩, e => by
    subst q1
    simp only [List.lookup_cons] at e ⊢
    cases h : f == g with
    | true => rw [h] at e; cases e; exact ⟨v, rfl, q2⟩
    | false => rw [h] at e; exact Flds.get q3 e
theorem Flds.none : ∀ {fs : List (Str × D)} {vs : List (Str × V)} {f : Str}, Flds ρ K H fs vs → fs.lookup f = Option.none → vs.lookup f = Option.none
  | [], _, _, h, _ => by cases h; rfl
  | (g, x) :: fs, _, f, ⟨v, r, q1, q2, q3⟩, e => by
    subst q1
    simp only [List.lookup_cons] at e ⊢
    cases h : f == g with
    | true => rw [h] at e; cases e
    | false => rw [h] at e; exact Flds.none q3 e
theorem Flds.put {f : Str} {d : D} {v : V} (hr : Rep ρ K H d v) : ∀ {fs : List (Str × D)} {vs : List (Str × V)}, Flds ρ K H fs vs → Flds ρ K H (putD f d fs) (putF f v vs)
  | [], _, h => by cases h; exact ⟨v, [], rfl, hr, rfl⟩
  | (g, x) :: fs, _, ⟨u, r, q1, q2, q3⟩ => by
    subst q1
    unfold putD putF
    by_cases h : g = f
    · rw [if_pos h, if_pos h]; exact ⟨v, r, rfl, hr, q3⟩
    · rw [if_neg h, if_neg h]; exact ⟨u, _, rfl, q2, Flds.put hr q3⟩
end
inductive InsOk (ρ : Rho) (S : Addr → Bool) (K : PySem.W.Frag) (mg : Str → Option Value) (H Hv : Hp) (a : Addr) (c : Str) (fs : List (Str × D)) : Prop
  | mk (C dx : Addr) (vfs : List (Str × V)) (h1 : mg c = some (.ref C)) (h2 : H a = some (.ins C dx vfs)) (h3 : H dx = some (.own a)) (h4 : S dx = true) (h5 : Flds ρ K Hv fs vfs)
noncomputable def SOk (ρ : Rho) (S : Addr → Bool) (K : PySem.W.Frag) (mg : Str → Option Value) (H Hv : Hp) (a : Addr) : SO → Prop
  | .ins c fs => InsOk ρ S K mg H Hv a c fs
  | .lst ds => ∃ xs, H a = some (.lst xs) ∧ Reps ρ K Hv ds xs
inductive AtOk (ρ : Rho) (S : Addr → Bool) (K : PySem.W.Frag) (mg : Str → Option Value) (H Hv : Hp) (i : Nat) (so : SO) : Prop
  | mk (a : Addr) (h1 : ρ i = some a) (h2 : S a = true) (h3 : SOk ρ S K mg H Hv a so)
structure StoOk (ρ : Rho) (S : Addr → Bool) (K : PySem.W.Frag) (mg : Str → Option Value) (H Hv : Hp) (Ω : Sto) : Prop where
  ats : ∀ (i : Nat) so, Ω[i]? = some so → AtOk ρ S K mg H Hv i so
  inj : ∀ i j a, ρ i = some a → ρ j = some a → i = j
  top : ∀ i, Ω.length ≤ i → ρ i = none
  fin : ∀ b, S b = true → H b ≠ none
noncomputable abbrev nof : Addr → Bool := fun _ => false
noncomputable def un (F S : Addr → Bool) : Addr → Bool := fun b => F b || S b
theorem un_t {F S : Addr → Bool} {b : Addr} : un F S b = true ↔ F b = true ∨ S b = true := by unfold un; rw [Bool.or_eq_true]
theorem un_f {F S : Addr → Bool} {b : Addr} : un F S b = false ↔ F b = false ∧ S b = false := by unfold un; rw [Bool.or_eq_false_iff]
section
variable {ρ ρ' : Rho} {S S' : Addr → Bool} {K : PySem.W.Frag} {mg : Str → Option Value} {H H' Hv Hv' : Hp} {Ω Ω' : Sto}
theorem SOk.mono {a : Addr} {so : SO} (hs : S a = true) (e : ∀ b, S b = true → H' b = H b) (v : Same Hv Hv') (h : SOk ρ S K mg H Hv a so) : SOk ρ S K mg H' Hv' a so := by
  cases so with
  | ins c fs =>
    obtain ⟨C, dx, vfs, q1, q2, q3, q4, q5⟩ := h
    exact ⟨C, dx, vfs, q1, by rw [e a hs]; exact q2, by rw [e dx q4]; exact q3, q4, q5.mono (RLe.refl _) v⟩
  | lst ds =>
    obtain ⟨xs, q1, q2⟩ := h
    exact ⟨xs, by rw [e a hs]; exact q1, q2.mono v⟩
theorem StoOk.mono (h : StoOk ρ S K mg H Hv Ω) (e : ∀ b, S b = true → H' b = H b) (v : Same Hv Hv') : StoOk ρ S K mg H' Hv' Ω :=
  ⟨fun i so hi => let ⟨a, q1, q2, q3⟩ := h.ats i so hi; ⟨a, q1, q2, q3.mono q2 e v⟩, h.inj, h.top, fun b hb => by rw [e b hb]; exact h.fin b hb⟩
end
structure RM (ρ₀ : Rho) (S₀ : Addr → Bool) (H₀ : Hp) (F : Addr → Bool) (K : PySem.W.Frag) (mg : Str → Option Value) (O : List Nat) (ρ : Rho) (S : Addr → Bool) (H : Hp) (σ : St) (δ : DSt) (Ω : Sto) : Prop where
  rs : RS ρ K (hid H (fob nof σ O)) H (un F S) O σ δ
  rho : RLe ρ₀ ρ
  same : ∀ b o, S₀ b = false → H₀ b = some o → H b = some o
  old : ∀ b, S₀ b = true → S b = true
  new : ∀ b, S b = true → S₀ b = true ∨ H₀ b = none
  own0 : ∀ i ∈ O, ∀ a, σ[i]? = some (some (.ref a)) → H₀ a = none
  ff : ∀ b, F b = true → S b = false
  sto : StoOk ρ S K mg H (hid H (fob (un F S) σ O)) Ω
section
variable {ρ₀ ρ : Rho} {S₀ S F : Addr → Bool} {H₀ H1 H H' : Hp} {K : PySem.W.Frag} {mg : Str → Option Value} {O O' : List Nat} {σ σ' : St} {δ δ' : DSt} {Ω : Sto}
theorem RS.rebase (R : RS ρ K H1 H F O σ δ) : RS ρ K (hid H (fob nof σ O)) H F O σ δ :=
  ⟨R.len, same_un, R.fin, R.val, fun i hi => by
    obtain ⟨a, xs, ds, q1, q2, q3, q4, q5⟩ := R.own i hi
    refine ⟨a, xs, ds, q1, q2, q3, ⟨?_, q4.2⟩, q5⟩
    unfold hid
    rw [if_pos (fob_t.mpr (.inr ⟨i, hi, q2⟩))], R.nd⟩
theorem RM.at_store (R : RM ρ₀ S₀ H₀ F K mg O ρ S H σ δ Ω) (e : Same H H') : ∀ b, S b = true → H' b = H b := fun b hb => by
  cases q : H b with
  | none => exact absurd q (R.sto.fin b hb)
  | some o => exact e b o q
theorem RM.mono (R : RM ρ₀ S₀ H₀ F K mg O ρ S H σ δ Ω) (e : Same H H') : RM ρ₀ S₀ H₀ F K mg O ρ S H' σ δ Ω :=
  ⟨(R.rs.mono e).rebase, R.rho, fun b o h1 h2 => e b o (R.same b o h1 h2), R.old, R.new, R.own0, R.ff, R.sto.mono (R.at_store e) (same_hid e)⟩
theorem RM.thaw (R : RM ρ₀ S₀ H₀ F K mg O ρ S H σ δ Ω) (h : ∀ i ∈ O', i ∈ O) : RM ρ₀ S₀ H₀ F K mg O' ρ S H σ δ Ω :=
  ⟨(R.rs.thaw h).rebase, R.rho, R.same, R.old, R.new, fun i hi => R.own0 i (h i hi), R.ff, R.sto.mono (fun _ _ => rfl) (hid_le (le_own h))⟩
theorem RM.fresh (R : RM ρ₀ S₀ H₀ F K mg O ρ S H σ δ Ω) {p : Addr} (h : H p = none) : fob (un F S) σ O p = false := R.rs.fresh h
theorem RM.fresh0 (R : RM ρ₀ S₀ H₀ F K mg O ρ S H σ δ Ω) {p : Addr} (h : H p = none) : H₀ p = none ∨ S₀ p = true := by
  cases e : S₀ p with
  | true => exact .inr rfl
  | false =>
    cases e0 : H₀ p with
    | none => exact .inl rfl
    | some o => rw [R.same p o e e0] at h; cases h
theorem RM.noS (R : RM ρ₀ S₀ H₀ F K mg O ρ S H σ δ Ω) {p : Addr} (h : H p = none) : S p = false := by
  cases e : S p with
  | false => rfl
  | true => exact absurd h (R.sto.fin p e)
theorem RM.fresh00 (R : RM ρ₀ S₀ H₀ F K mg O ρ S H σ δ Ω) {p : Addr} (h : H p = none) : H₀ p = none := by
  rcases R.fresh0 h with q | q
  · exact q
  · have := R.noS h
    rw [R.old p q] at this; cases this
theorem RM.set (R : RM ρ₀ S₀ H₀ F K mg O ρ S H σ δ Ω) {i : Nat} {d : D} {v : V} (ho : i ∉ O) (hr : Rep ρ K (hid H (fob (un F S) σ O)) d v) : RM ρ₀ S₀ H₀ F K mg O ρ S H (σ.set i (some v)) (δ.set i (some d)) Ω := by
  refine ⟨(R.rs.set ho hr).rebase, R.rho, R.same, R.old, R.new, fun j hj a q => ?_, R.ff, by rw [ownA_set ho]; exact R.sto⟩
  rw [List.getElem?_set_ne (by rintro rfl; exact ho hj)] at q
  exact R.own0 j hj a q
theorem RM.write (R : RM ρ₀ S₀ H₀ F K mg O ρ S H σ δ Ω) {i : Nat} {a : Addr} {ds : List D} {xs : List V} (hi : i ∈ O) (ha : σ[i]? = some (some (.ref a))) (hr : Reps ρ K (hid H (fob (un F S) σ O)) ds xs) :
    RM ρ₀ S₀ H₀ F K mg O ρ S (upd H a (.lst xs)) σ (δ.set i (some (.lst ds))) Ω := by
  obtain ⟨a', ys, es, q1, q2, q3, q4, q5⟩ := R.rs.own i hi
  rw [ha] at q2; cases q2
  have hS : S a = false := (un_f.mp q4.2).2
  have h0 := R.own0 i hi a ha
  have hh : hid (upd H a (.lst xs)) (fob (un F S) σ O) = hid H (fob (un F S) σ O) := hid_upd (fob_t.mpr (.inr ⟨i, hi, ha⟩))
  refine ⟨(R.rs.write hi ha hr).rebase, R.rho, fun b o h1 h2 => ?_, R.old, R.new, R.own0, R.ff, ?_⟩
  · rw [upd_ne (ne_of_none h2 h0)]; exact R.same b o h1 h2
  · rw [hh]
    refine R.sto.mono (fun b hb => ?_) (Same.refl _)
    rw [upd_ne]
    rintro rfl
    rw [hS] at hb; cases hb
theorem RM.take (R : RM ρ₀ S₀ H₀ F K mg O ρ S H σ δ Ω) {i : Nat} {ds : List D} {p : Addr} {xs : List V} (ho : i ∉ O) (hi : i < δ.length) (hp : H p = none) (hr : Reps ρ K (hid H (fob (un F S) σ O)) ds xs) :
    RM ρ₀ S₀ H₀ F K mg (i :: O) ρ S (upd H p (.lst xs)) (σ.set i (some (.ref p))) (δ.set i (some (.lst ds))) Ω ∧ Same (hid H (fob (un F S) σ O)) (hid (upd H p (.lst xs)) (fob (un F S) (σ.set i (some (.ref p))) (i :: O))) := by
  have lσ : i < σ.length := by rw [R.rs.len]; exact hi
  have pf := R.fresh hp
  have vs : Same (hid H (fob (un F S) σ O)) (hid (upd H p (.lst xs)) (fob (un F S) (σ.set i (some (.ref p))) (i :: O))) := by
    intro b o q
    obtain ⟨q1, q2⟩ := hid_some.mp q
    have hb : b ≠ p := ne_of_none q2 hp
    refine hid_some.mpr ⟨?_, by rw [upd_ne hb]; exact q2⟩
    cases z : fob (un F S) (σ.set i (some (.ref p))) (i :: O) b with
    | false => rfl
    | true =>
      rcases fob_t.mp z with z | ⟨j, hj, z⟩
      · rw [fob_t.mpr (.inl z)] at q1; cases q1
      · rcases List.mem_cons.mp hj with rfl | hj
        · rw [List.getElem?_set_self lσ] at z
          cases z
          exact absurd rfl hb
        · rw [List.getElem?_set_ne (by rintro rfl; exact ho hj)] at z
          rw [fob_t.mpr (.inr ⟨j, hj, z⟩)] at q1; cases q1
  refine ⟨⟨(R.rs.take ho hi (Same.refl H) hp hr).rebase, R.rho, fun b o h1 h2 => ?_, R.old, R.new, fun j hj a q => ?_, R.ff, R.sto.mono (fun b hb => ?_) vs⟩, vs⟩
  · have h3 := R.same b o h1 h2
    rw [upd_ne (ne_of_none h3 hp)]; exact h3
  · rcases List.mem_cons.mp hj with rfl | hj
    · rw [List.getElem?_set_self lσ] at q
      cases q
      exact R.fresh00 hp
    · rw [List.getElem?_set_ne (by rintro rfl; exact ho hj)] at q
      exact R.own0 j hj a q
  · rw [upd_ne]
    rintro rfl
    rw [R.noS hp] at hb; cases hb
end
end DL
namespace DL
open PySem PySem.Spec L2
inductive tE (K : PySem.W.Frag) (mg : Str → Option Value) (O : List Nat) (f : DSt → MS D) (σ : St) (H : Hp) (Q : VK) : Prop
  | mk (ρ₀ : Rho) (S₀ : Addr → Bool) (H₀ : Hp) (F : Addr → Bool) (ρ : Rho) (S : Addr → Bool) (δ : DSt) (Ω : Sto) (R : RM ρ₀ S₀ H₀ F K mg O ρ S H σ δ Ω) (r : Except XD D) (Ω' : Sto) (hf : f δ Ω = some (r, Ω')) (k : match (generalizing := false) r with
    | .ok d => ∀ v ρ' S' H', RM ρ₀ S₀ H₀ F K mg O ρ' S' H' σ δ Ω' → RLe ρ ρ' → Same (hid H (fob (un F S) σ O)) (hid H' (fob (un F S') σ O)) → Rep ρ' K (hid H' (fob (un F S') σ O)) d v → Q v H'
    | .error _ => True)
noncomputable def ME (X : Cx) (O : List Nat) (e : Expr) (f : DSt → MS D) : Prop := PE X e (tE X.K X.mg O f)
inductive tEB (K : PySem.W.Frag) (mg : Str → Option Value) (O : List Nat) (f : DSt → MS Bool) (σ : St) (H : Hp) (Q : Bool → Hp → Prop) : Prop
  | mk (ρ₀ : Rho) (S₀ : Addr → Bool) (H₀ : Hp) (F : Addr → Bool) (ρ : Rho) (S : Addr → Bool) (δ : DSt) (Ω : Sto) (R : RM ρ₀ S₀ H₀ F K mg O ρ S H σ δ Ω) (r : Except XD Bool) (Ω' : Sto) (hf : f δ Ω = some (r, Ω')) (k : match (generalizing := false) r with
    | .ok d => ∀ ρ' S' H', RM ρ₀ S₀ H₀ F K mg O ρ' S' H' σ δ Ω' → RLe ρ ρ' → Same (hid H (fob (un F S) σ O)) (hid H' (fob (un F S') σ O)) → Q d H'
    | .error _ => True)
noncomputable def MT (X : Cx) (O : List Nat) (e : Expr) (f : DSt → MS Bool) : Prop := PT X e (tEB X.K X.mg O f)
inductive tEL (K : PySem.W.Frag) (mg : Str → Option Value) (O : List Nat) (f : DSt → MS (List D)) (σ : St) (H : Hp) (Q : List V → Hp → Prop) : Prop
  | mk (ρ₀ : Rho) (S₀ : Addr → Bool) (H₀ : Hp) (F : Addr → Bool) (ρ : Rho) (S : Addr → Bool) (δ : DSt) (Ω : Sto) (R : RM ρ₀ S₀ H₀ F K mg O ρ S H σ δ Ω) (r : Except XD (List D)) (Ω' : Sto) (hf : f δ Ω = some (r, Ω')) (k : match (generalizing := false) r with
    | .ok ds => ∀ vs ρ' S' H', RM ρ₀ S₀ H₀ F K mg O ρ' S' H' σ δ Ω' → RLe ρ ρ' → Same (hid H (fob (un F S) σ O)) (hid H' (fob (un F S') σ O)) → Reps ρ' K (hid H' (fob (un F S') σ O)) ds vs → Q vs H'
    | .error _ => True)
noncomputable def MA (X : Cx) (O : List Nat) (es : List Expr) (f : DSt → MS (List D)) : Prop := PA X es (tEL X.K X.mg O f)
noncomputable def lF {α : Type} (f : DSt → M α) : DSt → MS α := fun δ => MS.l (f δ)
noncomputable def mCons (f : DSt → MS D) (g : DSt → MS (List D)) : DSt → MS (List D) := fun δ => (f δ).b fun x => (g δ).b fun xs => MS.p (x :: xs)
noncomputable def m2 (g : D → D → Option D) (fa fb : DSt → MS D) : DSt → MS D := fun δ => (fa δ).b fun x => (fb δ).b fun y => MS.o (g x y)
noncomputable def m1 (g : D → Option D) (fa : DSt → MS D) : DSt → MS D := fun δ => (fa δ).b fun x => MS.o (g x)
noncomputable def mL (k : List D → Option D) (g : DSt → MS (List D)) : DSt → MS D := fun δ => (g δ).b fun xs => MS.o (k xs)
noncomputable def mTru (fa : DSt → MS D) : DSt → MS Bool := fun δ => (fa δ).b fun x => MS.o (truD x)
noncomputable def mNot (ta : DSt → MS Bool) : DSt → MS Bool := fun δ => (ta δ).b fun x => MS.p !x
noncomputable def getO (cs : List Str) (f : Str) : D → MS D := fun x Ω => match x with
  | .obj i => match Ω[i]? with
    | some (.ins c fs) => if cs.contains c then (fs.lookup f).map fun d => (.ok d, Ω) else none
    | _ => none
  | _ => none
noncomputable def mGet (cs : List Str) (f : Str) (fa : DSt → MS D) : DSt → MS D := fun δ => (fa δ).b fun x => getO cs f x
section
variable {X : Cx} {O : List Nat} {a b c e : Expr} {es : List Expr} {fa fb fc : DSt → MS D} {fl : DSt → MS (List D)} {pos : Pos} {ta tb tc : DSt → MS Bool}
theorem me_pure {f : DSt → M D} (h : DE X O E0 e f) : ME X O e (lF f) := by
  rintro pins s σ H Q I ⟨ρ₀, S₀, H₀, F, ρ, S, δ, Ω, R, r, Ω', hf, k⟩
  obtain ⟨hg, rfl⟩ := MS.l_inv hf
  refine h pins s σ H Q I ⟨ρ, _, un F S, δ, r, R.rs, hg, ?_⟩
  cases r with
  | ok d => exact fun v H' s' rv => k v ρ S H' (R.mono s') (RLe.refl _) (same_hid s') rv
  | error x => exact fun c dx H' _ z => z.elim
theorem mt_pure {f : DSt → M Bool} (h : DT X O E0 e f) : MT X O e (lF f) := by
  rintro pins s σ H Q I ⟨ρ₀, S₀, H₀, F, ρ, S, δ, Ω, R, r, Ω', hf, k⟩
  obtain ⟨hg, rfl⟩ := MS.l_inv hf
  refine h pins s σ H Q I ⟨ρ, _, un F S, δ, r, R.rs, hg, ?_⟩
  cases r with
  | ok d => exact fun H' s' => k ρ S H' (R.mono s') (RLe.refl _) (same_hid s')
  | error x => exact fun c dx H' _ z => z.elim
theorem ma_pure {f : DSt → M (List D)} (h : DA X O E0 es f) : MA X O es (lF f) := by
  rintro p pins s σ H Q I ⟨ρ₀, S₀, H₀, F, ρ, S, δ, Ω, R, r, Ω', hf, k⟩
  obtain ⟨hg, rfl⟩ := MS.l_inv hf
  refine h p pins s σ H Q I ⟨ρ, _, un F S, δ, r, R.rs, hg, ?_⟩
  cases r with
  | ok d => exact fun v H' s' rv => k v ρ S H' (R.mono s') (RLe.refl _) (same_hid s') rv
  | error x => exact fun c dx H' _ z => z.elim
theorem ma_cons (ha : ME X O e fa) (hr : MA X O es fl) (hs : autoParam (starEach (e :: es) X.env = (false, eval e X.env) :: starEach es X.env) zau2._auto_1) : MA X O (e :: es) (mCons fa fl) := by
  rintro p pins s σ H Q I ⟨ρ₀, S₀, H₀, F, ρ, S, δ, Ω, R, r, Ω', hf, k⟩
  refine pa_cons ha hr hs p pins s σ H Q I ?_
  rcases MS.b_inv hf with ⟨x, Ω1, e1, hf⟩ | ⟨x, e1, rfl⟩
  · refine ⟨ρ₀, S₀, H₀, F, ρ, S, δ, Ω, R, .ok x, Ω1, e1, fun u ρ1 S1 H1 R1 l1 v1 r1 => ?_⟩
    rcases MS.b_inv hf with ⟨xs, Ω2, e2, hf⟩ | ⟨y, e2, rfl⟩
    · cases hf
      exact ⟨ρ₀, S₀, H₀, F, ρ1, S1, δ, Ω1, R1, .ok xs, _, e2, fun vs ρ2 S2 H2 R2 l2 v2 r2 => k (u :: vs) ρ2 S2 H2 R2 (l1.trans l2) (v1.trans v2) (Reps.cons ((r1.rho l2).mono v2) r2)⟩
    · exact ⟨ρ₀, S₀, H₀, F, ρ1, S1, δ, Ω1, R1, .error y, _, e2, trivial⟩
  · exact ⟨ρ₀, S₀, H₀, F, ρ, S, δ, Ω, R, .error x, _, e1, trivial⟩
theorem mbin_in {g : D → D → Option D} {r : R2} {σ : St} {H : Hp} {Q : VK} (hg : OpD X.K g r) (h : tE X.K X.mg O (m2 g fa fb) σ H Q) : tOp r (tE X.K X.mg O fa) (tE X.K X.mg O fb) σ H Q := by
  obtain ⟨ρ₀, S₀, H₀, F, ρ, S, δ, Ω, R, r, Ω', hf, k⟩ := h
  rcases MS.b_inv hf with ⟨x, Ω1, e1, hf⟩ | ⟨x, e1, rfl⟩
  · refine ⟨ρ₀, S₀, H₀, F, ρ, S, δ, Ω, R, .ok x, Ω1, e1, fun u ρ1 S1 H1 R1 l1 v1 r1 => ?_⟩
    rcases MS.b_inv hf with ⟨y, Ω2, e2, hf⟩ | ⟨y, e2, rfl⟩
    · refine ⟨ρ₀, S₀, H₀, F, ρ1, S1, δ, Ω1, R1, .ok y, Ω2, e2, fun w ρ2 S2 H2 R2 l2 v2 r2 => ?_⟩
      obtain ⟨d, hd, rfl, rfl⟩ := MS.o_inv hf
      exact hg x y d hd ρ2 H2 _ u w Q (fun p hp => R2.fresh hp) ((r1.rho l2).mono v2) r2 fun z H3 s3 r3 => k z ρ2 S2 H3 (R2.mono s3) (l1.trans l2) (v1.trans (v2.trans (same_hid s3))) r3
    · exact ⟨ρ₀, S₀, H₀, F, ρ1, S1, δ, Ω1, R1, .error y, _, e2, trivial⟩
  · exact ⟨ρ₀, S₀, H₀, F, ρ, S, δ, Ω, R, .error x, _, e1, trivial⟩
noncomputable def ClsOk (X : Cx) (cs : List Str) (f : Str) : Prop := ∀ c ∈ cs, ∀ C, X.mg c = some (.ref C) → Cls X.K C ∧ NoAttr X.K C f
theorem getO_inv {cs : List Str} {f : Str} {x : D} {Ω Ω' : Sto} {r : Except XD D} (h : getO cs f x Ω = some (r, Ω')) : ∃ i cl fs d, x = .obj i ∧ Ω[i]? = some (.ins cl fs) ∧ cs.contains cl = true ∧ fs.lookup f = some d ∧ r = .ok d ∧ Ω' = Ω := by
  unfold getO at h
  cases x with
  | obj i =>
    dsimp only at h
    cases hi : Ω[i]? with
    | none => rw [hi] at h; cases h
    | some so =>
      rw [hi] at h
      cases so with
      | lst _ => cases h
      | ins cl fs =>
        dsimp only at h
        by_cases hc : cs.contains cl = true
        · rw [if_pos hc] at h
          cases hl : fs.lookup f with
          | none => rw [hl] at h; cases h
          | some d => rw [hl] at h; cases h; exact ⟨i, cl, fs, d, rfl, hi, hc, hl, rfl, rfl⟩
        · rw [if_neg hc] at h; cases h
  | _ => cases h
theorem me_fld {cs : List Str} {f : Str} (hc : ClsOk X cs f) (ha : ME X O e fa) (hb : autoParam (attributeBase e f X.env (eval e X.env) = eval e X.env) zau2._auto_1) : ME X O (.Attribute e f pos) (mGet cs f fa) := by
  rintro pins s σ H Q I ⟨ρ₀, S₀, H₀, F, ρ, S, δ, Ω, R, r, Ω', hf, k⟩
  refine pe_fld ha hb pins s σ H Q I ?_
  rcases MS.b_inv hf with ⟨x, Ω1, e1, hf⟩ | ⟨x, e1, rfl⟩
  · refine ⟨ρ₀, S₀, H₀, F, ρ, S, δ, Ω, R, .ok x, Ω1, e1, fun u ρ1 S1 H1 R1 l1 v1 r1 => ?_⟩
    obtain ⟨i, cl, fs, d, rfl, hi, hcl, hl, rfl, rfl⟩ := getO_inv hf
    obtain ⟨ad, q1, q2⟩ := rep_obj.mp r1
    obtain ⟨ad', p1, p2, C, dx, vfs, p3, p4, p5, p6, p7⟩ := R1.sto.ats i _ hi
    rw [q1] at p1; cases p1
    obtain ⟨g1, g2⟩ := hc cl (List.contains_iff_mem.mp hcl) C p3
    obtain ⟨w, w1, w2⟩ := p7.get hl
    exact ⟨ad, C, dx, vfs, w, q2, p4, g1, g2, w1, k w ρ1 S1 H1 R1 l1 v1 w2⟩
  · exact ⟨ρ₀, S₀, H₀, F, ρ, S, δ, Ω, R, .error x, _, e1, trivial⟩
theorem mt_val (ha : ME X O a fa) (he : autoParam (∀ whole, isTrue a X.env whole = (do let v ← whole; standAt a.pos; holding [v] (truthy v))) zau7._auto_1) : MT X O a (mTru fa) := by
  rintro pins s σ H Q I ⟨ρ₀, S₀, H₀, F, ρ, S, δ, Ω, R, r, Ω', hf, k⟩
  refine pt_truth ha he pins s σ H Q I ?_
  rcases MS.b_inv hf with ⟨x, Ω1, e1, hf⟩ | ⟨x, e1, rfl⟩
  · refine ⟨ρ₀, S₀, H₀, F, ρ, S, δ, Ω, R, .ok x, Ω1, e1, fun u ρ1 S1 H1 R1 l1 v1 r1 => ?_⟩
    obtain ⟨z, hz, rfl, rfl⟩ := MS.o_inv hf
    refine ⟨z, ?_, k ρ1 S1 H1 R1 l1 v1⟩
    cases x with
    | non => cases hz; rw [rep_non.mp r1]; rfl
    | bl y => cases hz; rw [rep_bl.mp r1]; rfl
    | int i => cases hz; rw [rep_int.mp r1]; rfl
    | str y =>
      by_cases hl : y.length ≤ sizeLine
      · have e : truD (.str y) = some ((y.length : Int) != 0) := if_pos hl
        rw [e] at hz; cases hz
        rw [rep_str.mp r1]; exact ⟨hl, rfl⟩
      · have e : truD (.str y) = none := if_neg hl
        rw [e] at hz; cases hz
    | tup ds =>
      cases hz
      obtain ⟨q, xs, rfl, q2, q3⟩ := rep_tup.mp r1
      exact .inr ⟨xs, same_t same_un q2, by rw [isE q3]⟩
    | lst ds =>
      cases hz
      obtain ⟨q, xs, rfl, q2, q3⟩ := rep_lst.mp r1
      exact .inl ⟨xs, same_l same_un q2, by rw [isE q3]⟩
    | ty n => cases hz
    | obj n => cases hz
  · exact ⟨ρ₀, S₀, H₀, F, ρ, S, δ, Ω, R, .error x, _, e1, trivial⟩
theorem mt_not (ha : MT X O a ta) : MT X O (.UnaryOp .Not a pos) (mNot ta) := by
  rintro pins s σ H Q I ⟨ρ₀, S₀, H₀, F, ρ, S, δ, Ω, R, r, Ω', hf, k⟩
  refine pt_not ha pins s σ H Q I ?_
  rcases MS.b_inv hf with ⟨x, Ω1, e1, hf⟩ | ⟨x, e1, rfl⟩
  · cases hf
    exact ⟨ρ₀, S₀, H₀, F, ρ, S, δ, Ω, R, .ok x, _, e1, fun ρ1 S1 H1 R1 l1 v1 => k ρ1 S1 H1 R1 l1 v1⟩
  · exact ⟨ρ₀, S₀, H₀, F, ρ, S, δ, Ω, R, .error x, _, e1, trivial⟩
end
end DL
namespace DL
open PySem PySem.Spec L2
structure RT (ρ₀ : Rho) (S₀ : Addr → Bool) (H₀ : Hp) (F : Addr → Bool) (K : PySem.W.Frag) (mg : Str → Option Value) (ρ : Rho) (S : Addr → Bool) (H : Hp) (Ω : Sto) : Prop where
  rho : RLe ρ₀ ρ
  same : ∀ b o, S₀ b = false → H₀ b = some o → H b = some o
  old : ∀ b, S₀ b = true → S b = true
  new : ∀ b, S b = true → S₀ b = true ∨ H₀ b = none
  ff : ∀ b, F b = true → S b = false
  sto : StoOk ρ S K mg H (hid H (un F S)) Ω
section
variable {ρ₀ ρ ρ' : Rho} {S₀ S S' F : Addr → Bool} {H₀ H H' : Hp} {K : PySem.W.Frag} {mg : Str → Option Value} {O O' B : List Nat} {σ σ' : St} {δ δ' : DSt} {Ω Ω' : Sto}
theorem le_fob {σ : St} {O : List Nat} {F : Addr → Bool} : ∀ b, F b = true → fob F σ O b = true := fun b h => fob_t.mpr (.inl h)
theorem RM.rt (R : RM ρ₀ S₀ H₀ F K mg O ρ S H σ δ Ω) : RT ρ₀ S₀ H₀ F K mg ρ S H Ω :=
  ⟨R.rho, R.same, R.old, R.new, R.ff, R.sto.mono (fun _ _ => rfl) (hid_le le_fob)⟩
theorem RM.base_some (R : RM ρ₀ S₀ H₀ F K mg O ρ S H σ δ Ω) {b : Addr} {o : HO} (h : H b = some o) (hn : ¬ ∃ i ∈ O, σ[i]? = some (some (.ref b))) : hid H (fob nof σ O) b = some o :=
  hid_some.mpr ⟨by cases e : fob nof σ O b with
    | false => rfl
    | true => rcases fob_t.mp e with q | q; cases q; exact absurd q hn, h⟩
theorem RM.base_S (R : RM ρ₀ S₀ H₀ F K mg O ρ S H σ δ Ω) {b : Addr} (hb : S b = true) : ¬ ∃ i ∈ O, σ[i]? = some (some (.ref b)) := by
  rintro ⟨i, hi, q⟩
  obtain ⟨a, xs, ds, q1, q2, q3, q4, q5⟩ := R.rs.own i hi
  rw [q] at q2; cases q2
  rw [(un_f.mp q4.2).2] at hb; cases hb
theorem RM.base_0 (R : RM ρ₀ S₀ H₀ F K mg O ρ S H σ δ Ω) {b : Addr} {o : HO} (hb : H₀ b = some o) : ¬ ∃ i ∈ O, σ[i]? = some (some (.ref b)) := by
  rintro ⟨i, hi, q⟩
  rw [R.own0 i hi b q] at hb; cases hb
theorem RM.next (R : RM ρ₀ S₀ H₀ F K mg O ρ S H σ δ Ω) (R' : RS ρ K (hid H (fob nof σ O)) H' (un F S) O' σ' δ') (v : Same (hid H (fob (un F S) σ O)) (hid H' (fob (un F S) σ' O'))) : RM ρ₀ S₀ H₀ F K mg O' ρ S H' σ' δ' Ω := by
  refine ⟨R'.rebase, R.rho, fun b o h1 h2 => R'.same b o (R.base_some (R.same b o h1 h2) (R.base_0 h2)), R.old, R.new, fun i hi a q => ?_, R.ff, R.sto.mono (fun b hb => ?_) v⟩
  · obtain ⟨a', xs, ds, q1, q2, q3, q4, q5⟩ := R'.own i hi
    rw [q] at q2; cases q2
    have h0 := q4.1
    cases e : H a with
    | none => exact R.fresh00 e
    | some o =>
      by_cases hn : ∃ i ∈ O, σ[i]? = some (some (.ref a))
      · obtain ⟨j, hj, z⟩ := hn
        exact R.own0 j hj a z
      · rw [R.base_some e hn] at h0; cases h0
  · cases e : H b with
    | none => exact absurd e (R.sto.fin b hb)
    | some o => exact R'.same b o (R.base_some e (R.base_S hb))
theorem RM.left (R : RM ρ₀ S₀ H₀ F K mg O ρ S H σ δ Ω) (s : Same (hid H (fob nof σ O)) H') : RT ρ₀ S₀ H₀ F K mg ρ S H' Ω := by
  refine ⟨R.rho, fun b o h1 h2 => s b o (R.base_some (R.same b o h1 h2) (R.base_0 h2)), R.old, R.new, R.ff, R.sto.mono (fun b hb => ?_) fun b o q => ?_⟩
  · cases e : H b with
    | none => exact absurd e (R.sto.fin b hb)
    | some o => exact s b o (R.base_some e (R.base_S hb))
  · obtain ⟨q1, q2⟩ := hid_some.mp q
    refine hid_some.mpr ⟨?_, s b o (R.base_some q2 fun hn => ?_)⟩
    · cases e : un F S b with
      | false => rfl
      | true => rw [le_fob b e] at q1; cases q1
    · rw [fob_t.mpr (.inr hn)] at q1; cases q1
end
noncomputable def OkE (K : PySem.W.Frag) (mg : Str → Option Value) (O' B : List Nat) (ρ₀ : Rho) (S₀ : Addr → Bool) (H₀ : Hp) (F : Addr → Bool) (ρ : Rho) (Hv : Hp) (Dn : Ends) : Except XD Out → Sto → Prop
  | .ok (.nx δ'), Ω' => ∀ ρ' S' σ' H', RM ρ₀ S₀ H₀ F K mg O' ρ' S' H' σ' δ' Ω' → RLe ρ ρ' → Same Hv (hid H' (fob (un F S') σ' O')) → Dn.nx σ' H'
  | .ok (.rt d), Ω' => ∀ v ρ' S' H', RT ρ₀ S₀ H₀ F K mg ρ' S' H' Ω' → Rep ρ' K (hid H' (un F S')) d v → Dn.rt v H'
  | .ok (.bk δ'), Ω' => ∀ ρ' S' σ' H', RM ρ₀ S₀ H₀ F K mg B ρ' S' H' σ' δ' Ω' → RLe ρ ρ' → Same Hv (hid H' (fob (un F S') σ' B)) → Dn.bk σ' H'
  | .ok (.ct δ'), Ω' => ∀ ρ' S' σ' H', RM ρ₀ S₀ H₀ F K mg B ρ' S' H' σ' δ' Ω' → RLe ρ ρ' → Same Hv (hid H' (fob (un F S') σ' B)) → Dn.ct σ' H'
  | .error _, _ => True
theorem OkE.back {K : PySem.W.Frag} {mg : Str → Option Value} {O' B : List Nat} {ρ₀ ρ ρ' : Rho} {S₀ : Addr → Bool} {H₀ : Hp} {F : Addr → Bool} {Hv Hv' : Hp} {Dn : Ends} {r : Except XD Out} {Ω' : Sto} (l : RLe ρ ρ') (e : Same Hv Hv') (h : OkE K mg O' B ρ₀ S₀ H₀ F ρ Hv Dn r Ω') :
    OkE K mg O' B ρ₀ S₀ H₀ F ρ' Hv' Dn r Ω' := by
  cases r with
  | error x => trivial
  | ok o =>
    cases o with
    | nx δ' => exact fun ρ1 S1 σ1 H1 R l1 v1 => h ρ1 S1 σ1 H1 R (l.trans l1) (e.trans v1)
    | bk δ' => exact fun ρ1 S1 σ1 H1 R l1 v1 => h ρ1 S1 σ1 H1 R (l.trans l1) (e.trans v1)
    | ct δ' => exact fun ρ1 S1 σ1 H1 R l1 v1 => h ρ1 S1 σ1 H1 R (l.trans l1) (e.trans v1)
    | rt d => exact h
inductive sE (K : PySem.W.Frag) (mg : Str → Option Value) (O O' B : List Nat) (g : DSt → MS Out) (Dn : Ends) (σ : St) (H : Hp) : Prop
  | mk (ρ₀ : Rho) (S₀ : Addr → Bool) (H₀ : Hp) (F : Addr → Bool) (ρ : Rho) (S : Addr → Bool) (δ : DSt) (Ω : Sto) (R : RM ρ₀ S₀ H₀ F K mg O ρ S H σ δ Ω) (r : Except XD Out) (Ω' : Sto) (hf : g δ Ω = some (r, Ω')) (k : OkE K mg O' B ρ₀ S₀ H₀ F ρ (hid H (fob (un F S) σ O)) Dn r Ω')
noncomputable def MSt (X : Cx) (O O' B : List Nat) (st : Stmt) (g : DSt → MS Out) : Prop := PS X st (sE X.K X.mg O O' B g)
noncomputable def MSs (X : Cx) (O O' B : List Nat) (st : List Stmt) (g : DSt → MS Out) : Prop := PSs X st (sE X.K X.mg O O' B g)
noncomputable def eNx : DSt → MS Out := fun δ => MS.p (.nx δ)
noncomputable def eSeq (g1 g2 : DSt → MS Out) : DSt → MS Out := fun δ => (g1 δ).b fun o => match o with
  | .nx δ' => g2 δ'
  | o => MS.p o
noncomputable def eSet (i : Nat) (f : DSt → MS D) : DSt → MS Out := fun δ => (f δ).b fun d => MS.p (.nx (δ.set i (some d)))
noncomputable def eRet (f : DSt → MS D) : DSt → MS Out := fun δ => (f δ).b fun d => MS.p (.rt d)
noncomputable def eDrop (f : DSt → MS D) : DSt → MS Out := fun δ => (f δ).b fun _ => MS.p (.nx δ)
noncomputable def eIf (t : DSt → MS Bool) (g1 g2 : DSt → MS Out) : DSt → MS Out := fun δ => (t δ).b fun b => if b = true then g1 δ else g2 δ
noncomputable def eApp (i : Nat) (f : DSt → MS D) : DSt → MS Out := fun δ => (f δ).b fun d => match (δ[i]?).join with
  | some (.lst ds) => if ds.length < sizeLine then MS.p (.nx (δ.set i (some (.lst (ds ++ [d]))))) else fun _ => none
  | _ => fun _ => none
noncomputable def ePop (i j : Nat) : DSt → MS Out := fun δ => match (δ[j]?).join with
  | some (.lst ds) => match ds[ds.length - 1]? with
    | some d => MS.p (.nx ((δ.set j (some (.lst ds.dropLast))).set i (some d)))
    | none => fun _ => none
  | _ => fun _ => none
noncomputable def putO (cs : List Str) (f : Str) (x d : D) : MS Unit := fun Ω => match x with
  | .obj i => match Ω[i]? with
    | some (.ins c fs) => if (cs.contains c && decide (fs.length < 1000)) = true then some (.ok (), Ω.set i (.ins c (putD f d fs))) else none
    | _ => none
  | _ => none
noncomputable def ePut (cs : List Str) (f : Str) (fo fv : DSt → MS D) : DSt → MS Out := fun δ => (fv δ).b fun d => (fo δ).b fun x => (putO cs f x d).b fun _ => MS.p (.nx δ)
noncomputable def forE (g : DSt → MS Out) (tg : D → DSt → Option DSt) : List D → DSt → MS Out
  | [], δ => MS.p (.nx δ)
  | d :: ds, δ => match tg d δ with
    | none => fun _ => none
    | some δ1 => (g δ1).b fun o => match o with
      | .nx δ' => forE g tg ds δ'
      | .ct δ' => forE g tg ds δ'
      | .bk δ' => MS.p (.nx δ')
      | .rt v => MS.p (.rt v)
noncomputable def eFor (fi : DSt → MS (List D)) (tg : D → DSt → Option DSt) (g : DSt → MS Out) : DSt → MS Out := fun δ => (fi δ).b fun ds => forE g tg ds δ
section
variable {X : Cx} {O O' O'' B : List Nat} {a b c e : Expr} {es : List Expr} {fa fb : DSt → MS D} {fl : DSt → MS (List D)} {pos : Pos} {st : Stmt} {rest : List Stmt} {g g1 g2 : DSt → MS Out} {tc : DSt → MS Bool}
theorem ms_pure {h : DSt → M Out} (hd : DS X O O' B E0 st h) : MSt X O O' B st (lF h) := by
  rintro pins s σ H Dn I ⟨ρ₀, S₀, H₀, F, ρ, S, δ, Ω, R, r, Ω', hf, k⟩
  obtain ⟨hg, rfl⟩ := MS.l_inv hf
  refine hd pins s σ H Dn I ⟨ρ, _, un F S, δ, r, R.rs, hg, ?_⟩
  cases r with
  | error x => exact fun c dx H' _ z => z.elim
  | ok o =>
    cases o with
    | nx δ' => exact fun σ' H' v R' => k ρ S σ' H' (R.next R' v) (RLe.refl _) v
    | bk δ' => exact fun σ' H' v R' => k ρ S σ' H' (R.next R' v) (RLe.refl _) v
    | ct δ' => exact fun σ' H' v R' => k ρ S σ' H' (R.next R' v) (RLe.refl _) v
    | rt d => exact fun v H' s' rv => k v ρ S H' (R.left s') rv
theorem mss_nil : MSs X O O B [] eNx := by
  rintro pins s σ H Dn I ⟨ρ₀, S₀, H₀, F, ρ, S, δ, Ω, R, r, Ω', hf, k⟩
  cases hf
  exact pss_nil pins s σ H Dn I (k ρ S σ H R (RLe.refl _) (Same.refl _))
theorem mss_cons (h1 : MSt X O O' B st g1) (h2 : MSs X O' O'' B rest g2) : MSs X O O'' B (st :: rest) (eSeq g1 g2) := by
  rintro pins s σ H Dn I ⟨ρ₀, S₀, H₀, F, ρ, S, δ, Ω, R, r, Ω', hf, k⟩
  refine pss_cons h1 h2 pins s σ H Dn I ?_
  rcases MS.b_inv hf with ⟨o, Ω1, e1, hf⟩ | ⟨x, e1, rfl⟩
  · refine ⟨ρ₀, S₀, H₀, F, ρ, S, δ, Ω, R, .ok o, Ω1, e1, ?_⟩
    cases o with
    | nx δ' => exact fun ρ1 S1 σ1 H1 R1 l1 v1 => ⟨ρ₀, S₀, H₀, F, ρ1, S1, δ', Ω1, R1, r, Ω', hf, k.back l1 v1⟩
    | rt d => cases hf; exact k
    | bk δ' => cases hf; exact k
    | ct δ' => cases hf; exact k
  · exact ⟨ρ₀, S₀, H₀, F, ρ, S, δ, Ω, R, .error x, _, e1, trivial⟩
theorem mss_one (h1 : MSt X O O' B st g) : MSs X O O' B [st] g := fun pins s σ H Dn I h => pss_one h1 pins s σ H Dn I h
theorem mss_pre {sts : List Stmt} (hO : ∀ i ∈ O', i ∈ O) (h : MSs X O' O'' B sts g) : MSs X O O'' B sts g := by
  rintro pins s σ H Dn I ⟨ρ₀, S₀, H₀, F, ρ, S, δ, Ω, R, r, Ω', hf, k⟩
  exact h pins s σ H Dn I ⟨ρ₀, S₀, H₀, F, ρ, S, δ, Ω, R.thaw hO, r, Ω', hf, k.back (RLe.refl _) (hid_le (le_own hO))⟩
theorem ms_own {i : Nat} {x : Str} {pos' pos2 : Pos} (hN : X.N.Nodup) (h : MA X O es fl) (ho : autoParam (O.contains i = false) zau2._auto_1) (hi : autoParam (X.N[i]? = some x) zau2._auto_1) (hx : autoParam (Loc X.env.scope x) zau8._auto_1) (hs : autoParam (swapsWith (.List es pos2) (some (.Name x pos')) pos.line X.env = pure false) zau2._auto_1)
    (hf : autoParam (X.fn x = true ∨ X.env.scope.names.lookup x = some .local) zau0._auto_1) : MSt X O (i :: O) B (.Assign [.Name x pos'] (.List es pos2) pos) (eSet i (mL gLstD fl)) := by
  rintro pins s σ H Dn I ⟨ρ₀, S₀, H₀, F, ρ, S, δ, Ω, R, r, Ω', hg, k⟩
  have ho' : i ∉ O := fun z => by rw [List.contains_iff_mem.mpr z] at ho; cases ho
  have hl : i < δ.length := by rw [← R.rs.len, I.len]; exact (List.getElem?_eq_some_iff.mp hi).1
  refine ps_set hN hi hx (pe_lst h) hs hf pins s σ H Dn I ?_
  rcases MS.b_inv hg with ⟨d, Ω1, e1, hg⟩ | ⟨x, e1, rfl⟩
  · cases hg
    rcases MS.b_inv e1 with ⟨ds, Ω2, e1, hd⟩ | ⟨x, e1, z⟩
    · refine ⟨ρ₀, S₀, H₀, F, ρ, S, δ, Ω, R, .ok ds, _, e1, fun vs ρ1 S1 H1 R1 l1 v1 r1 => ?_⟩
      obtain ⟨d', hd', z, w⟩ := MS.o_inv hd
      cases z
      cases w
      unfold gLstD at hd'
      split at hd'
      · rename_i hz
        cases hd'
        refine ⟨by rw [r1.length]; exact hz, fun p hp => ?_⟩
        obtain ⟨t1, t2⟩ := R1.take ho' hl hp r1
        exact k ρ1 S1 _ _ t1 l1 (v1.trans t2)
      · cases hd'
    · cases z
  · rcases MS.b_inv e1 with ⟨ds, Ω2, e1, hd⟩ | ⟨y, e1, z⟩
    · obtain ⟨_, _, z, _⟩ := MS.o_inv hd
      cases z
    · cases z
      exact ⟨ρ₀, S₀, H₀, F, ρ, S, δ, Ω, R, .error _, _, e1, trivial⟩
theorem ms_ret (he : ME X O e fa) : MSt X O O' B (.Return (some e) pos) (eRet fa) := by
  rintro pins s σ H Dn I ⟨ρ₀, S₀, H₀, F, ρ, S, δ, Ω, R, r, Ω', hg, k⟩
  refine ps_ret he pins s σ H Dn I ?_
  rcases MS.b_inv hg with ⟨d, Ω1, e1, hg⟩ | ⟨x, e1, rfl⟩
  · cases hg
    exact ⟨ρ₀, S₀, H₀, F, ρ, S, δ, Ω, R, .ok d, _, e1, fun v ρ1 S1 H1 R1 l1 v1 r1 => k v ρ1 S1 H1 R1.rt (r1.mono (hid_le le_fob))⟩
  · exact ⟨ρ₀, S₀, H₀, F, ρ, S, δ, Ω, R, .error x, _, e1, trivial⟩
theorem ms_expr (he : ME X O e fa) (hs : autoParam (swapsWith e none pos.line X.env = pure false) zau2._auto_1) : MSt X O O B (.Expr e pos) (eDrop fa) := by
  rintro pins s σ H Dn I ⟨ρ₀, S₀, H₀, F, ρ, S, δ, Ω, R, r, Ω', hg, k⟩
  refine ps_expr he hs pins s σ H Dn I ?_
  rcases MS.b_inv hg with ⟨d, Ω1, e1, hg⟩ | ⟨x, e1, rfl⟩
  · cases hg
    exact ⟨ρ₀, S₀, H₀, F, ρ, S, δ, Ω, R, .ok d, _, e1, fun v ρ1 S1 H1 R1 l1 v1 r1 => k ρ1 S1 σ H1 R1 l1 v1⟩
  · exact ⟨ρ₀, S₀, H₀, F, ρ, S, δ, Ω, R, .error x, _, e1, trivial⟩
theorem ms_if {s1 s2 : List Stmt} (hc : MT X O c tc) (h1 : MSs X O O' B s1 g1) (h2 : MSs X O O' B s2 g2) : MSt X O O' B (.If c s1 s2 pos) (eIf tc g1 g2) := by
  rintro pins s σ H Dn I ⟨ρ₀, S₀, H₀, F, ρ, S, δ, Ω, R, r, Ω', hg, k⟩
  refine ps_if hc h1 h2 pins s σ H Dn I ?_
  rcases MS.b_inv hg with ⟨z, Ω1, e1, hg⟩ | ⟨x, e1, rfl⟩
  · refine ⟨ρ₀, S₀, H₀, F, ρ, S, δ, Ω, R, .ok z, _, e1, fun ρ1 S1 H1 R1 l1 v1 => ?_⟩
    cases z with
    | true => exact iteT ⟨ρ₀, S₀, H₀, F, ρ1, S1, δ, Ω1, R1, r, Ω', hg, k.back l1 v1⟩
    | false => exact iteF ⟨ρ₀, S₀, H₀, F, ρ1, S1, δ, Ω1, R1, r, Ω', hg, k.back l1 v1⟩
  · exact ⟨ρ₀, S₀, H₀, F, ρ, S, δ, Ω, R, .error x, _, e1, trivial⟩
theorem ms_app {i : Nat} {x : Str} {p1 p2 p3 : Pos} (ho : O.contains i = true) (he : ME X O e fa) (hi : autoParam (X.N[i]? = some x) zau2._auto_1) (hv : autoParam (Vis X.env.scope x) zau5._auto_1)
    (hd : autoParam ((x == ("__debug__" : Str)) = false) zau1._auto_1) (hcd : autoParam ((x == ("__classdict__" : Str)) = false) zau1._auto_1) (hbase : autoParam (attributeBase (.Name x p1) "append" X.env (eval (.Name x p1) X.env) = eval (.Name x p1) X.env) zau2._auto_1)
    (hfew : ((backTo p3 (starEach [e] X.env)).all (fun x => !x.1) && (backToKw p3 (keywordEach [] X.env)).all (fun x => x.1.isSome)
      && decide ([e].length + ([] : List Keyword).length + (if ([] : List Keyword).isEmpty then 0 else 1) < 30)) = true := by rfl)
    (hline : autoParam ((p2.endLine == p3.line) = true) zau2._auto_1) (hs : autoParam (starEach [e] X.env = [(false, eval e X.env)]) zau2._auto_1) (hsw : autoParam (swapsWith (.Call (.Attribute (.Name x p1) "append" p2) [e] [] p3) none pos.line X.env = pure false) zau2._auto_1) :
    MSt X O O B (.Expr (.Call (.Attribute (.Name x p1) "append" p2) [e] [] p3) pos) (eApp i fa) := by
  rintro pins s σ H Dn I ⟨ρ₀, S₀, H₀, F, ρ, S, δ, Ω, R, r, Ω', hg, k⟩
  have ho' : i ∈ O := List.contains_iff_mem.mp ho
  obtain ⟨l, xs0, ds0, q1, q2, q3, q4, q5⟩ := R.rs.own i ho'
  refine ps_expr (pe_bm PySem.F.plainAttrs_list PySem.F.slot_list_append PySem.F.type_list_append mt_append (pe_var hi hv hd hcd) (pa_cons he pa_nil hs) hbase hfew hline hs rfl) hsw pins s σ H Dn I ?_
  refine ⟨.ref l, q2, .inl ⟨rfl, _, SqL.of q3⟩, ?_⟩
  rcases MS.b_inv hg with ⟨d, Ω1, e1, hg⟩ | ⟨x, e1, rfl⟩
  · refine ⟨ρ₀, S₀, H₀, F, ρ, S, δ, Ω, R, .ok d, _, e1, fun v ρ1 S1 H1 R1 l1 v1 r1 => ?_⟩
    have hj : (δ[i]?).join = some (.lst ds0) := by rw [q1]; rfl
    rw [hj] at hg
    dsimp only at hg
    split at hg
    · rename_i hz
      cases hg
      obtain ⟨l', xs, ds, p1, p2, p3, p4, p5⟩ := R1.rs.own i ho'
      rw [q2] at p2; cases p2
      rw [q1] at p1; cases p1
      refine ⟨l, xs, v, rfl, rfl, p3, by rw [p5.length]; exact hz, ?_⟩
      refine k ρ1 S1 σ _ (R1.write ho' q2 (p5.append (Reps.cons r1 Reps.nil))) l1 ?_
      rw [hid_upd (fob_t.mpr (.inr ⟨i, ho', q2⟩))]
      exact v1
    · cases hg
  · exact ⟨ρ₀, S₀, H₀, F, ρ, S, δ, Ω, R, .error x, _, e1, trivial⟩
end
end DL
namespace DL
open PySem PySem.Spec L2
theorem Reps.dropLast {ρ : Rho} {K : PySem.W.Frag} {H : Hp} : ∀ {ds : List D} {vs : List V}, Reps ρ K H ds vs → Reps ρ K H ds.dropLast vs.dropLast
  | [], _, h => by rw [reps_nil.mp h]; exact Reps.nil
  | [d], _, h => by
    obtain ⟨v, r, rfl, _, t⟩ := reps_cons.mp h
    rw [reps_nil.mp t]; exact Reps.nil
  | d :: e :: ds, _, h => by
    obtain ⟨v, r, rfl, q, t⟩ := reps_cons.mp h
    obtain ⟨w, r2, rfl, q2, t2⟩ := reps_cons.mp t
    exact Reps.cons q (Reps.dropLast (Reps.cons q2 t2))
section
variable {ρ₀ ρ ρ' : Rho} {S₀ S S' F : Addr → Bool} {H₀ H H1 H' : Hp} {K : PySem.W.Frag} {mg : Str → Option Value} {O O' B : List Nat} {σ σ' : St} {δ δ' : DSt} {Ω Ω' : Sto}
theorem RS.updF {a : Addr} {o : HO} (R : RS ρ K H1 H F O σ δ) (h : F a = true) : RS ρ K (hid (upd H a o) (fob nof σ O)) (upd H a o) F O σ δ := by
  have hh : hid (upd H a o) (fob F σ O) = hid H (fob F σ O) := hid_upd (le_fob a h)
  refine ⟨R.len, same_un, fun b hb => upd_nn (R.fin b hb), fun i d hd hi => by rw [hh]; exact R.val i d hd hi, fun i hi => ?_, R.nd⟩
  obtain ⟨l, xs, ds, q1, q2, q3, q4, q5⟩ := R.own i hi
  have hl : l ≠ a := by rintro rfl; rw [q4.2] at h; cases h
  refine ⟨l, xs, ds, q1, q2, by rw [upd_ne hl]; exact q3, ⟨?_, q4.2⟩, by rw [hh]; exact q5⟩
  unfold hid
  rw [if_pos (fob_t.mpr (.inr ⟨i, hi, q2⟩))]
theorem RM.put (R : RM ρ₀ S₀ H₀ F K mg O ρ S H σ δ Ω) {i : Nat} {c f : Str} {fs : List (Str × D)} {a C dx : Addr} {vfs : List (Str × V)} {d : D} {v : V} (hi : Ω[i]? = some (.ins c fs)) (ha : ρ i = some a) (hS : S a = true) (hC : mg c = some (.ref C)) (hH : H a = some (.ins C dx vfs))
    (hdx : H dx = some (.own a)) (hSd : S dx = true) (hfl : Flds ρ K (hid H (fob (un F S) σ O)) fs vfs) (hr : Rep ρ K (hid H (fob (un F S) σ O)) d v) :
    RM ρ₀ S₀ H₀ F K mg O ρ S (upd H a (.ins C dx (putF f v vfs))) σ δ (Ω.set i (.ins c (putD f d fs))) ∧ hid (upd H a (.ins C dx (putF f v vfs))) (fob (un F S) σ O) = hid H (fob (un F S) σ O) := by
  have hF : un F S a = true := un_t.mpr (.inr hS)
  have hh : hid (upd H a (.ins C dx (putF f v vfs))) (fob (un F S) σ O) = hid H (fob (un F S) σ O) := hid_upd (le_fob a hF)
  have il : i < Ω.length := (List.getElem?_eq_some_iff.mp hi).1
  refine ⟨⟨R.rs.updF hF, R.rho, fun b o h1 h2 => ?_, R.old, R.new, R.own0, R.ff, ?_⟩, hh⟩
  · have hb : b ≠ a := by
      rintro rfl
      rcases R.new b hS with q | q
      · rw [q] at h1; cases h1
      · rw [q] at h2; cases h2
    rw [upd_ne hb]; exact R.same b o h1 h2
  · rw [hh]
    refine ⟨fun j so hj => ?_, R.sto.inj, fun j hj => R.sto.top j (by simpa using hj), fun b hb => upd_nn (R.sto.fin b hb)⟩
    by_cases hji : j = i
    · subst hji
      rw [List.getElem?_set_self il] at hj
      cases hj
      have nd : dx ≠ a := ne_of hdx hH (fun z => nomatch z)
      exact ⟨a, ha, hS, C, dx, _, hC, upd_same, by rw [upd_ne nd]; exact hdx, hSd, hfl.put hr⟩
    · rw [List.getElem?_set_ne (Ne.symm hji)] at hj
      obtain ⟨a', q1, q2, q3⟩ := R.sto.ats j so hj
      have ne : a' ≠ a := by
        rintro rfl
        exact hji (R.sto.inj j i a' q1 ha)
      refine ⟨a', q1, q2, ?_⟩
      cases so with
      | ins c' fs' =>
        obtain ⟨C', dx', vfs', p1, p2, p3, p4, p5⟩ := q3
        have nd : dx' ≠ a := ne_of p3 hH (fun z => nomatch z)
        exact ⟨C', dx', vfs', p1, by rw [upd_ne ne]; exact p2, by rw [upd_ne nd]; exact p3, p4, p5⟩
      | lst ds =>
        obtain ⟨xs, p1, p2⟩ := q3
        exact ⟨xs, by rw [upd_ne ne]; exact p1, p2⟩
theorem un_fob : un (fob F σ O) S = fob (un F S) σ O := by
  funext b
  unfold un fob
  simp only
  cases F b <;> cases S b <;> cases (ownA σ O).contains b <;> rfl
theorem RM.call (R : RM ρ₀ S₀ H₀ F K mg O ρ S H σ δ Ω) (l : RLe ρ ρ') (sm : ∀ b o, S b = false → H b = some o → H' b = some o) (old : ∀ b, S b = true → S' b = true) (new : ∀ b, S' b = true → S b = true ∨ H b = none)
    (ff : ∀ b, fob F σ O b = true → S' b = false) (sto : StoOk ρ' S' K mg H' (hid H' (un (fob F σ O) S')) Ω') :
    RM ρ₀ S₀ H₀ F K mg O ρ' S' H' σ δ Ω' ∧ Same (hid H (fob (un F S) σ O)) (hid H' (fob (un F S') σ O)) := by
  have keepS : ∀ b o, S b = false → H b = some o → S' b = false := fun b o h1 h2 => by
    cases e : S' b with
    | false => rfl
    | true =>
      rcases new b e with q | q
      · rw [q] at h1; cases h1
      · rw [q] at h2; cases h2
  have vis : Same (hid H (fob (un F S) σ O)) (hid H' (fob (un F S') σ O)) := fun b o q => by
    obtain ⟨q1, q2⟩ := hid_some.mp q
    have hu : un F S b = false := by
      cases e : un F S b with
      | false => rfl
      | true => rw [le_fob b e] at q1; cases q1
    obtain ⟨h1, h2⟩ := un_f.mp hu
    refine hid_some.mpr ⟨?_, sm b o h2 q2⟩
    cases e : fob (un F S') σ O b with
    | false => rfl
    | true =>
      rcases fob_t.mp e with z | z
      · rcases un_t.mp z with z | z
        · rw [h1] at z; cases z
        · rw [keepS b o h2 q2] at z; cases z
      · rw [fob_t.mpr (.inr z)] at q1; cases q1
  have rs : RS ρ' K (hid H' (fob nof σ O)) H' (un F S') O σ δ := by
    refine ⟨R.rs.len, same_un, fun b hb => ?_, fun i d hd hi => ?_, fun i hi => ?_, R.rs.nd⟩
    · rcases un_t.mp hb with q | q
      · have h1 := R.rs.fin b (un_t.mpr (.inl q))
        intro z
        cases e : H b with
        | none => exact h1 e
        | some o => rw [sm b o (R.ff b q) e] at z; cases z
      · exact sto.fin b q
    · obtain ⟨v, q1, q2⟩ := R.rs.val i d hd hi
      exact ⟨v, q1, (q2.rho l).mono vis⟩
    · obtain ⟨a, xs, ds, q1, q2, q3, q4, q5⟩ := R.rs.own i hi
      have hS := (un_f.mp q4.2).2
      refine ⟨a, xs, ds, q1, q2, sm a _ hS q3, ⟨?_, un_f.mpr ⟨(un_f.mp q4.2).1, keepS a _ hS q3⟩⟩, (q5.rho l).mono vis⟩
      unfold hid
      rw [if_pos (fob_t.mpr (.inr ⟨i, hi, q2⟩))]
  refine ⟨⟨rs, R.rho.trans l, fun b o h1 h2 => ?_, fun b hb => old b (R.old b hb), fun b hb => ?_, R.own0, fun b hb => ff b (fob_t.mpr (.inl hb)), by rw [un_fob] at sto; exact sto⟩, vis⟩
  · have h3 := R.same b o h1 h2
    refine sm b o ?_ h3
    cases e : S b with
    | false => rfl
    | true =>
      rcases R.new b e with q | q
      · rw [q] at h1; cases h1
      · rw [q] at h2; cases h2
  · rcases new b hb with q | q
    · exact R.new b q
    · exact .inr (R.fresh00 q)
noncomputable def addR (ρ : Rho) (n : Nat) (x : Addr) : Rho := fun i => if i = n then some x else ρ i
noncomputable def addS (S : Addr → Bool) (x dx : Addr) : Addr → Bool := fun b => S b || b == x || b == dx
theorem addS_t {S : Addr → Bool} {x dx b : Addr} : addS S x dx b = true ↔ S b = true ∨ b = x ∨ b = dx := by
  unfold addS
  simp only [Bool.or_eq_true, beq_iff_eq, or_assoc]
theorem RM.make (R : RM ρ₀ S₀ H₀ F K mg O ρ S H σ δ Ω) {c : Str} {C x dx : Addr} (hC : mg c = some (.ref C)) (hx : H x = none) (hdx : H dx = none) (ne : dx ≠ x) :
    RM ρ₀ S₀ H₀ F K mg O (addR ρ Ω.length x) (addS S x dx) (upd (upd H dx (.own x)) x (.ins C dx [])) σ δ (Ω ++ [.ins c []]) ∧ RLe ρ (addR ρ Ω.length x) ∧
      Same (hid H (fob (un F S) σ O)) (hid (upd (upd H dx (.own x)) x (.ins C dx [])) (fob (un F (addS S x dx)) σ O)) := by
  have top := R.sto.top Ω.length (Nat.le_refl _)
  have l : RLe ρ (addR ρ Ω.length x) := fun i a h => by
    unfold addR
    by_cases e : i = Ω.length
    · subst e; rw [top] at h; cases h
    · rw [if_neg e]; exact h
  have sm : Same H (upd (upd H dx (.own x)) x (.ins C dx [])) := (same_upd hdx).trans (same_upd (by rw [upd_ne ne.symm]; exact hx))
  have old : ∀ b, S b = true → addS S x dx b = true := fun b h => addS_t.mpr (.inl h)
  have new : ∀ b, addS S x dx b = true → S b = true ∨ H b = none := fun b h => by
    rcases addS_t.mp h with q | rfl | rfl
    · exact .inl q
    · exact .inr hx
    · exact .inr hdx
  have ff : ∀ b, fob F σ O b = true → addS S x dx b = false := fun b h => by
    have h2 : fob (un F S) σ O b = true := by rw [← un_fob]; exact un_t.mpr (.inl h)
    cases e : addS S x dx b with
    | false => rfl
    | true =>
      rcases addS_t.mp e with q | rfl | rfl
      · rcases fob_t.mp h with z | z
        · rw [R.ff b z] at q; cases q
        · exact absurd z (R.base_S q)
      · rw [R.fresh hx] at h2; cases h2
      · rw [R.fresh hdx] at h2; cases h2
  have keep : ∀ b, S b = true → (upd (upd H dx (.own x)) x (.ins C dx [])) b = H b := R.at_store sm
  have vis0 : Same (hid H (fob (un F S) σ O)) (hid (upd (upd H dx (.own x)) x (.ins C dx [])) (un (fob F σ O) (addS S x dx))) := fun b o q => by
    obtain ⟨q1, q2⟩ := hid_some.mp q
    refine hid_some.mpr ⟨?_, sm b o q2⟩
    cases e : un (fob F σ O) (addS S x dx) b with
    | false => rfl
    | true =>
      rcases un_t.mp e with z | z
      · have h2 : fob (un F S) σ O b = true := by rw [← un_fob]; exact un_t.mpr (.inl z)
        rw [h2] at q1; cases q1
      · rcases new b z with z | z
        · have h2 : fob (un F S) σ O b = true := le_fob b (un_t.mpr (.inr z))
          rw [h2] at q1; cases q1
        · rw [z] at q2; cases q2
  have sto : StoOk (addR ρ Ω.length x) (addS S x dx) K mg (upd (upd H dx (.own x)) x (.ins C dx [])) (hid (upd (upd H dx (.own x)) x (.ins C dx [])) (un (fob F σ O) (addS S x dx))) (Ω ++ [.ins c []]) := by
    refine ⟨fun i so hi => ?_, fun i j a h1 h2 => ?_, fun i hi => ?_, fun b hb => ?_⟩
    · by_cases h : i < Ω.length
      · rw [List.getElem?_append_left h] at hi
        obtain ⟨a, q1, q2, q3⟩ := R.sto.ats i so hi
        refine ⟨a, l i a q1, old a q2, ?_⟩
        cases so with
        | ins c' fs' =>
          obtain ⟨C', dx', vfs', p1, p2, p3, p4, p5⟩ := q3
          exact ⟨C', dx', vfs', p1, by rw [keep a q2]; exact p2, by rw [keep dx' p4]; exact p3, old _ p4, p5.mono l vis0⟩
        | lst ds =>
          obtain ⟨xs, p1, p2⟩ := q3
          exact ⟨xs, by rw [keep a q2]; exact p1, (p2.rho l).mono vis0⟩
      · have e : i = Ω.length := by
          have := (List.getElem?_eq_some_iff.mp hi).1
          simp at this; omega
        subst e
        rw [List.getElem?_append_right (Nat.le_refl _), Nat.sub_self] at hi
        cases hi
        exact ⟨x, by unfold addR; rw [if_pos rfl], addS_t.mpr (.inr (.inl rfl)), C, dx, [], hC, upd_same, by rw [upd_ne ne, upd_same], addS_t.mpr (.inr (.inr rfl)), rfl⟩
    · have fresh : ∀ i a, i ≠ Ω.length → ρ i = some a → a ≠ x := fun i a hi h z => by
        subst z
        have il : i < Ω.length := by
          by_cases q : i < Ω.length
          · exact q
          · rw [R.sto.top i (by omega)] at h; cases h
        obtain ⟨a', q1, q2, _⟩ := R.sto.ats i _ (List.getElem?_eq_getElem il)
        rw [h] at q1; cases q1
        exact R.sto.fin a q2 hx
      unfold addR at h1 h2
      by_cases e1 : i = Ω.length
      · by_cases e2 : j = Ω.length
        · rw [e1, e2]
        · rw [if_pos e1] at h1; rw [if_neg e2] at h2
          cases h1
          exact absurd rfl (fresh j _ e2 h2)
      · by_cases e2 : j = Ω.length
        · rw [if_neg e1] at h1; rw [if_pos e2] at h2
          cases h2
          exact absurd rfl (fresh i _ e1 h1)
        · rw [if_neg e1] at h1; rw [if_neg e2] at h2
          exact R.sto.inj i j a h1 h2
    · rw [List.length_append, List.length_singleton] at hi
      unfold addR
      rw [if_neg (by omega)]
      exact R.sto.top i (by omega)
    · rcases addS_t.mp hb with q | rfl | rfl
      · rw [keep b q]; exact R.sto.fin b q
      · rw [upd_same]; exact fun z => nomatch z
      · rw [upd_ne ne, upd_same]; exact fun z => nomatch z
  obtain ⟨t1, t2⟩ := R.call l (fun b o _ h => sm b o h) old new ff sto
  exact ⟨t1, l, t2⟩
end
inductive spE (K : PySem.W.Frag) (mg : Str → Option Value) (n : Nat) (m : List D → MS D) (vs : List V) (H : Hp) (Q : VK) (E : XK) : Prop
  | mk (hn : vs.length = n) (ρ : Rho) (S F : Addr → Bool) (ds : List D) (Ω : Sto) (hF : ∀ b, F b = true → H b ≠ none) (hS : ∀ b, F b = true → S b = false) (hr : Reps ρ K (hid H (un F S)) ds vs) (hs : StoOk ρ S K mg H (hid H (un F S)) Ω) (r : Except XD D) (Ω' : Sto) (hf : m ds Ω = some (r, Ω')) (k : match (generalizing := false) r with
    | .ok d => ∀ v ρ' S' H', RLe ρ ρ' → (∀ b o, S b = false → H b = some o → H' b = some o) → (∀ b, S b = true → S' b = true) → (∀ b, S' b = true → S b = true ∨ H b = none) → (∀ b, F b = true → S' b = false) → StoOk ρ' S' K mg H' (hid H' (un F S')) Ω' → Rep ρ' K (hid H' (un F S')) d v → Q v H'
    | .error _ => True)
inductive MetX (P : Program) (w : World) (K : PySem.W.Frag) (mg : Str → Option Value) (base : Heap) (k : Nat) (c x : Str) (n : Nat) (sp : Sp) : Prop
  | mk (C f : Addr) (fd : FuncData) (ps : List Str) (h1 : ps.length = n) (h2 : mg c = some (.ref C)) (h3 : Cls K C) (h4 : Meth K C x f) (h5 : Binds K fd ps []) (h6 : FnOk P w K mg base CX0 k f fd ps sp)
inductive IniX (P : Program) (w : World) (K : PySem.W.Frag) (mg : Str → Option Value) (base : Heap) (k : Nat) (c : Str) (n : Nat) (sp : Sp) : Prop
  | mk (C f : Addr) (fd : FuncData) (ps : List Str) (h1 : ps.length = n) (h2 : mg c = some (.ref C)) (h3 : Mk K C f) (h4 : Binds K fd ps []) (h5 : FnOk P w K mg base CX0 k f fd ps sp)
structure CalE (P : Program) (w : World) (K : PySem.W.Frag) (mg : Str → Option Value) (base : Heap) (k : Nat) (x : Str) (n : Nat) (m : List D → MS D) : Prop where
  ex : CalX P w K mg base k x n (spE K mg n m)
  ar : ∀ ds Ω r, m ds Ω = some r → ds.length = n
structure MetE (P : Program) (w : World) (K : PySem.W.Frag) (mg : Str → Option Value) (base : Heap) (k : Nat) (c x : Str) (n : Nat) (m : List D → MS D) : Prop where
  ex : MetX P w K mg base k c x n (spE K mg n m)
  ar : ∀ ds Ω r, m ds Ω = some r → ds.length = n
structure IniE (P : Program) (w : World) (K : PySem.W.Frag) (mg : Str → Option Value) (base : Heap) (k : Nat) (c : Str) (n : Nat) (m : List D → MS D) : Prop where
  ex : IniX P w K mg base k c n (spE K mg n m)
  ar : ∀ ds Ω r, m ds Ω = some r → ds.length = n
noncomputable def outE : Out → MS D
  | .rt d => MS.p d
  | .nx _ => MS.p .non
  | _ => fun _ => none
noncomputable def mirE (n N : Nat) (g : DSt → MS Out) : List D → MS D := fun ds => if ds.length = n then (g (startD N ds)).b outE else fun _ => none
theorem mirE_ar {n N : Nat} {g : DSt → MS Out} : ∀ ds Ω r, mirE n N g ds Ω = some r → ds.length = n := fun ds Ω r h => by
  unfold mirE at h
  split at h
  · assumption
  · cases h
section
variable {P : Program} {w : World} {K : PySem.W.Frag} {mg : Str → Option Value} {base : Heap}
theorem fn_E {x q : Str} {st : Stmt} {N ps : List Str} {k : Nat} {O' : List Nat} {g : DSt → MS Out} {f : Addr} {fd : FuncData} (F : Fun K x q st f fd) (Sc : FnScope N ps (defScope st))
    (hbody : ∀ (f : Addr) (cdv : Value) (A : Around) (outer : List Env) (s : Shared) (H : Hp) (E : XK), Room k (A.deeper (PyProof.Rows.envOfC q (defScope st) s.heap.objs.size f cdv)) →
      MSs (cxOf CX0 P w K mg base N q (defScope st) f cdv A outer s H E).nox [] O' [] (defBody st) g) : FnOk P w K mg base CX0 (k + 1) f fd ps (spE K mg ps.length (mirE ps.length N.length g)) := by
  refine F.ok Sc (fun vs H Q E h => h.1) fun cdv A outer s H vs Q E hr h => ?_
  obtain ⟨hl, ρ, S, F', ds, Ω, fin, ff, rp, sto, r, Ω', hmr, k0⟩ := h
  refine ⟨_, hbody f cdv A outer s H E hr, ?_⟩
  have hpl : ps.length ≤ N.length := by have := congrArg List.length Sc.pre; rw [List.length_take] at this; omega
  have hdl : ds.length = ps.length := by rw [← rp.length]; exact hl
  unfold mirE at hmr
  rw [if_pos hdl] at hmr
  have R : RM ρ S H F' K mg [] ρ S H (L2.start N vs) (startD N.length ds) Ω := by
    refine ⟨⟨?_, same_un, fun b hb => ?_, fun i d hd _ => ?_, fun i hi => absurd hi (by simp), fun i hi => absurd hi (by simp)⟩, RLe.refl _, fun b o _ h => h, fun b h => h, fun b h => .inl h, fun i hi => absurd hi (by simp), ff, by rw [fob_nil]; exact sto⟩
    · simp [L2.start, startD, rp.length]
    · rcases un_t.mp hb with z | z
      · exact fin b z
      · exact sto.fin b z
    · obtain ⟨v, e, rv⟩ := rp.get (startD_get hd)
      exact ⟨v, start_set e, by rw [fob_nil]; exact rv⟩
  rcases MS.b_inv hmr with ⟨o, Ω1, e1, hmr⟩ | ⟨y, e1, rfl⟩
  · refine ⟨ρ, S, H, F', ρ, S, _, Ω, R, .ok o, Ω1, e1, ?_⟩
    cases o with
    | rt d =>
      cases hmr
      exact fun v ρ' S' H' T rv => k0 v ρ' S' H' T.rho T.same T.old T.new T.ff T.sto rv
    | nx δ =>
      cases hmr
      exact fun ρ' S' σ' H' R' _ _ => k0 .non ρ' S' H' R'.rt.rho R'.rt.same R'.rt.old R'.rt.new R'.rt.ff R'.rt.sto (rep_non.mpr rfl)
    | bk δ => cases hmr
    | ct δ => cases hmr
  · exact ⟨ρ, S, H, F', ρ, S, _, Ω, R, .error y, _, e1, trivial⟩
theorem calE_of {x : Str} {st : Stmt} {N ps : List Str} {k : Nat} {O' : List Nat} {g : DSt → MS Out} (hf : FunAt K mg x st ps) (S : FnScope N ps (defScope st))
    (hbody : ∀ (f : Addr) (cdv : Value) (A : Around) (outer : List Env) (s : Shared) (H : Hp) (E : XK), Room k (A.deeper (PyProof.Rows.envOfC x (defScope st) s.heap.objs.size f cdv)) →
      MSs (cxOf CX0 P w K mg base N x (defScope st) f cdv A outer s H E).nox [] O' [] (defBody st) g) : CalE P w K mg base (k + 1) x ps.length (mirE ps.length N.length g) := by
  obtain ⟨f, fd, hm, F, hb⟩ := hf
  exact ⟨⟨f, fd, ps, rfl, hm, F.kp, hb, fn_E F S hbody⟩, mirE_ar⟩
structure MetAt (K : PySem.W.Frag) (mg : Str → Option Value) (c x q : Str) (st : Stmt) (ps : List Str) : Prop where
  ex : ∃ C f fd, mg c = some (.ref C) ∧ Cls K C ∧ Meth K C x f ∧ Fun K x q st f fd ∧ Binds K fd ps []
structure IniAt (K : PySem.W.Frag) (mg : Str → Option Value) (c q : Str) (st : Stmt) (ps : List Str) : Prop where
  ex : ∃ C f fd, mg c = some (.ref C) ∧ Mk K C f ∧ Fun K "__init__" q st f fd ∧ Binds K fd ps []
theorem metE_of {c x q : Str} {st : Stmt} {N ps : List Str} {k : Nat} {O' : List Nat} {g : DSt → MS Out} (hf : MetAt K mg c x q st ps) (S : FnScope N ps (defScope st))
    (hbody : ∀ (f : Addr) (cdv : Value) (A : Around) (outer : List Env) (s : Shared) (H : Hp) (E : XK), Room k (A.deeper (PyProof.Rows.envOfC q (defScope st) s.heap.objs.size f cdv)) →
      MSs (cxOf CX0 P w K mg base N q (defScope st) f cdv A outer s H E).nox [] O' [] (defBody st) g) : MetE P w K mg base (k + 1) c x ps.length (mirE ps.length N.length g) := by
  obtain ⟨C, f, fd, hm, hc, hM, F, hb⟩ := hf.ex
  exact ⟨⟨C, f, fd, ps, rfl, hm, hc, hM, hb, fn_E F S hbody⟩, mirE_ar⟩
theorem iniE_of {c q : Str} {st : Stmt} {N ps : List Str} {k : Nat} {O' : List Nat} {g : DSt → MS Out} (hf : IniAt K mg c q st ps) (S : FnScope N ps (defScope st))
    (hbody : ∀ (f : Addr) (cdv : Value) (A : Around) (outer : List Env) (s : Shared) (H : Hp) (E : XK), Room k (A.deeper (PyProof.Rows.envOfC q (defScope st) s.heap.objs.size f cdv)) →
      MSs (cxOf CX0 P w K mg base N q (defScope st) f cdv A outer s H E).nox [] O' [] (defBody st) g) : IniE P w K mg base (k + 1) c ps.length (mirE ps.length N.length g) := by
  obtain ⟨C, f, fd, hm, hM, F, hb⟩ := hf.ex
  exact ⟨⟨C, f, fd, ps, rfl, hm, hM, hb, fn_E F S hbody⟩, mirE_ar⟩
theorem law_spE {m : List D → MS D} {H : Hp} {a : Addr} {ns : List Int} {Ω' : Sto} (hS : SqL K H a (ns.map V.int)) (h : m [.lst (ns.map .int)] [] = some (.ok (.bl true), Ω')) : spE K mg 1 m [.ref a] H (fun v _ => v = .bl true) fun _ _ _ => False := by
  refine ⟨rfl, fun _ => none, fun _ => false, fun _ => false, [.lst (ns.map .int)], [], (fun b hb => by cases hb), (fun b hb => by cases hb), Reps.cons (rep_lst.mpr ⟨a, _, rfl, ?_, reps_ints.mpr rfl⟩) Reps.nil, ⟨fun i so hi => by simp at hi, fun i j a h => (nomatch h), fun i _ => rfl, fun b hb => by cases hb⟩, _, _, h, fun v ρ' S' H' _ _ _ _ _ _ r => rep_bl.mp r⟩
  have : hid H (un (fun _ => false) fun _ => false) = H := by funext b; rfl
  rw [this]; exact hS
end
end DL
namespace DL
open PySem PySem.Spec L2
noncomputable def mCall (m : List D → MS D) (fl : DSt → MS (List D)) : DSt → MS D := fun δ => (fl δ).b m
noncomputable def mCallP (m : List D → M D) (fl : DSt → MS (List D)) : DSt → MS D := fun δ => (fl δ).b fun ds => MS.l (m ds)
noncomputable def methO (c x : Str) (m : List D → MS D) (i : Nat) (fl : DSt → MS (List D)) (δ : DSt) : MS D := fun Ω => match Ω[i]? with
  | some (.ins c' fs) => if c' = c ∧ fs.lookup x = none then ((fl δ).b fun ds => m (.obj i :: ds)) Ω else none
  | _ => none
noncomputable def mMeth (c x : Str) (m : List D → MS D) (fo : DSt → MS D) (fl : DSt → MS (List D)) : DSt → MS D := fun δ => (fo δ).b fun o => match o with
  | .obj i => methO c x m i fl δ
  | _ => fun _ => none
noncomputable def makeO (c : Str) (m : List D → MS D) (ds : List D) : MS D := fun Ω => ((m (.obj Ω.length :: ds)).b fun d => match d with
  | .non => MS.p (.obj Ω.length)
  | _ => fun _ => none) (Ω ++ [.ins c []])
noncomputable def mMake (c : Str) (m : List D → MS D) (fl : DSt → MS (List D)) : DSt → MS D := fun δ => (fl δ).b fun ds => makeO c m ds
section
variable {X : Cx} {O : List Nat} {a b o e : Expr} {es : List Expr} {fa fb fo : DSt → MS D} {fl : DSt → MS (List D)} {pos p apos : Pos} {x c : Str} {k n : Nat}
variable {ρ₀ ρ : Rho} {S₀ S F : Addr → Bool} {H₀ H : Hp} {σ : St} {δ : DSt} {Ω Ω' : Sto}
theorem spE_in {m : List D → MS D} {ds : List D} {vs : List V} {r : Except XD D} {Q : VK} {E : XK} (R : RM ρ₀ S₀ H₀ F X.K X.mg O ρ S H σ δ Ω) (hl : ds.length = n) (hr : Reps ρ X.K (hid H (fob (un F S) σ O)) ds vs) (hm : m ds Ω = some (r, Ω'))
    (k : match (generalizing := false) r with
      | .ok d => ∀ v ρ' S' H', RM ρ₀ S₀ H₀ F X.K X.mg O ρ' S' H' σ δ Ω' → RLe ρ ρ' → Same (hid H (fob (un F S) σ O)) (hid H' (fob (un F S') σ O)) → Rep ρ' X.K (hid H' (fob (un F S') σ O)) d v → Q v H'
      | .error _ => True) : spE X.K X.mg n m vs H Q E := by
  refine ⟨by rw [hr.length]; exact hl, ρ, S, fob F σ O, ds, Ω, fun b hb => ?_, fun b hb => ?_, by rw [un_fob]; exact hr, by rw [un_fob]; exact R.sto, r, Ω', hm, ?_⟩
  · intro z
    have := R.fresh z
    rw [← un_fob, un_t.mpr (.inl hb)] at this; cases this
  · rcases fob_t.mp hb with z | z
    · exact R.ff b z
    · cases e : S b with
      | false => rfl
      | true => exact absurd z (R.base_S e)
  · cases r with
    | error x => trivial
    | ok d =>
      intro v ρ' S' H' l sm old new ff sto rv
      obtain ⟨t1, t2⟩ := R.call l sm old new ff sto
      rw [un_fob] at rv
      exact k v ρ' S' H' t1 l t2 rv
theorem me_call {m : List D → MS D} (C : CalE X.prog X.w X.K X.mg X.base k x n m) (hr : Room k X.A) (ha : MA X O (e :: es) fl) (hg : autoParam (Gl X x) zau2._auto_1) (hdb : autoParam ((x == ("__debug__" : Str)) = false) zau1._auto_1) (he : autoParam (starEach (e :: es) X.env = (false, eval e X.env) :: starEach es X.env) zau2._auto_1)
    (hpl : autoParam ((backTo pos (starEach es X.env)).any (·.1) = false) zau2._auto_1) : ME X O (.Call (.Name x p) (e :: es) [] pos) (mCall m fl) := by
  obtain ⟨f, fd, ps, hl, hm, hk, hb, G⟩ := C.ex
  rintro pins s σ H Q I ⟨ρ₀, S₀, H₀, F, ρ, S, δ, Ω, R, r, Ω', hf, k⟩
  refine pe_call G hr hg hm hk hb .nil (fun _ _ _ _ _ _ _ z => z.elim) ha hdb he hpl pins s σ H Q I (E := E0) ?_
  rcases MS.b_inv hf with ⟨ds, Ω1, e1, hf⟩ | ⟨y, e1, rfl⟩
  · refine ⟨ρ₀, S₀, H₀, F, ρ, S, δ, Ω, R, .ok ds, Ω1, e1, fun vs ρ1 S1 H1 R1 l1 v1 r1 => ?_⟩
    show spE X.K X.mg n m (vs ++ []) H1 Q E0
    rw [List.append_nil]
    refine spE_in R1 (C.ar ds Ω1 _ hf) r1 hf ?_
    cases r with
    | error y => trivial
    | ok d => exact fun v ρ2 S2 H2 R2 l2 v2 r2 => k v ρ2 S2 H2 R2 (l1.trans l2) (v1.trans v2) r2
  · exact ⟨ρ₀, S₀, H₀, F, ρ, S, δ, Ω, R, .error y, _, e1, trivial⟩
theorem me_callP {m : List D → M D} (C : Cal X.prog X.w X.K X.mg X.base k x n m) (hr : Room k X.A) (ha : MA X O (e :: es) fl) (hg : autoParam (Gl X x) zau2._auto_1) (hdb : autoParam ((x == ("__debug__" : Str)) = false) zau1._auto_1) (he : autoParam (starEach (e :: es) X.env = (false, eval e X.env) :: starEach es X.env) zau2._auto_1)
    (hpl : autoParam ((backTo pos (starEach es X.env)).any (·.1) = false) zau2._auto_1) : ME X O (.Call (.Name x p) (e :: es) [] pos) (mCallP m fl) := by
  obtain ⟨f, fd, ps, hl, hm, hk, hb, G⟩ := C.ex
  rintro pins s σ H Q I ⟨ρ₀, S₀, H₀, F, ρ, S, δ, Ω, R, r, Ω', hf, k⟩
  refine pe_call G hr hg hm hk hb .nil (fun _ _ _ _ _ _ _ z => z.elim) ha hdb he hpl pins s σ H Q I (E := E0) ?_
  rcases MS.b_inv hf with ⟨ds, Ω1, e1, hf⟩ | ⟨y, e1, rfl⟩
  · refine ⟨ρ₀, S₀, H₀, F, ρ, S, δ, Ω, R, .ok ds, Ω1, e1, fun vs ρ1 S1 H1 R1 l1 v1 r1 => ?_⟩
    show spD X.K n m (vs ++ []) H1 Q E0
    rw [List.append_nil]
    obtain ⟨hg, rfl⟩ := MS.l_inv hf
    refine ⟨by rw [r1.length]; exact C.ar ds r hg, ρ1, ds, r, fob (un F S1) σ O, fun b hb z => ?_, r1, hg, ?_⟩
    · rw [R1.fresh z] at hb; cases hb
    · cases r with
      | ok d => exact fun v H' s' rv => k v ρ1 S1 H' (R1.mono s') l1 (v1.trans (same_hid s')) rv
      | error y => exact fun c dx H' s' xr => xr.elim
  · exact ⟨ρ₀, S₀, H₀, F, ρ, S, δ, Ω, R, .error y, _, e1, trivial⟩
theorem meth_inv {c x : Str} {m : List D → MS D} {fl : DSt → MS (List D)} {δ : DSt} {od : D} {Ω Ω' : Sto} {r : Except XD D} (h : (match od with
      | .obj i => methO c x m i fl δ
      | _ => fun _ => none : MS D) Ω = some (r, Ω')) : ∃ i fs, od = .obj i ∧ Ω[i]? = some (.ins c fs) ∧ fs.lookup x = none ∧ ((fl δ).b fun ds => m (.obj i :: ds)) Ω = some (r, Ω') := by
  cases od with
  | obj i =>
    have h2 : methO c x m i fl δ Ω = some (r, Ω') := h
    unfold methO at h2
    cases hi : Ω[i]? with
    | none => rw [hi] at h2; cases h2
    | some so =>
      rw [hi] at h2
      cases so with
      | lst _ => cases h2
      | ins c' fs =>
        dsimp only at h2
        by_cases hc : c' = c ∧ fs.lookup x = none
        · rw [if_pos hc] at h2
          obtain ⟨rfl, hn⟩ := hc
          exact ⟨i, fs, rfl, hi, hn, h2⟩
        · rw [if_neg hc] at h2; cases h2
  | _ => cases h
theorem me_meth {pl : Sem Bool} {m : List D → MS D} (C : MetE X.prog X.w X.K X.mg X.base k c x n m) (hr : Room k X.A) (ho : ME X O o fo) (ha : MA X O (e :: es) fl) (hst : autoParam (starEach (e :: es) X.env = (false, eval e X.env) :: starEach es X.env) zau2._auto_1) (hpl : autoParam ((backTo pos (starEach es X.env)).any (·.1) = false) zau2._auto_1)
    (ht : eval (.Call (.Attribute o x apos) (e :: es) [] pos) X.env = (do
      let ov ← eval o X.env
      standAt apos.atName
      let (f, first) ← holding [ov] (getMethod ov x pl)
      callWith pos f first (backTo pos (starEach (e :: es) X.env)) (backToKw pos (keywordEach [] X.env))) := by rfl) : ME X O (.Call (.Attribute o x apos) (e :: es) [] pos) (mMeth c x m fo fl) := by
  obtain ⟨Ca, f, fd, ps, hl, hm, hc, hM, hb, G⟩ := C.ex
  rintro pins s σ H Q I ⟨ρ₀, S₀, H₀, F, ρ, S, δ, Ω, R, r, Ω', hf, k⟩
  refine pe_meth ho hc hM G hr hb .nil (fun _ _ _ _ _ _ _ z => z.elim) ha hst hpl ht pins s σ H Q I (E := E0) ?_
  rcases MS.b_inv hf with ⟨od, Ω1, e1, hf⟩ | ⟨y, e1, rfl⟩
  · refine ⟨ρ₀, S₀, H₀, F, ρ, S, δ, Ω, R, .ok od, Ω1, e1, fun v ρ1 S1 H1 R1 l1 v1 r1 => ?_⟩
    obtain ⟨i, fs, rfl, hi, hno, hf2⟩ := meth_inv hf
    obtain ⟨ad, q1, q2⟩ := rep_obj.mp r1
    obtain ⟨ad', p1, p2, C', dx, vfs, p3, p4, p5, p6, p7⟩ := R1.sto.ats i _ hi
    rw [q1] at p1; cases p1
    rw [hm] at p3; cases p3
    refine ⟨ad, dx, vfs, q2, p4, p7.none hno, ?_⟩
    rcases MS.b_inv hf2 with ⟨ds, Ω2, e2, hf3⟩ | ⟨y, e2, rfl⟩
    · refine ⟨ρ₀, S₀, H₀, F, ρ1, S1, δ, Ω1, R1, .ok ds, Ω2, e2, fun vs ρ2 S2 H2 R2 l2 v2 r2 => ?_⟩
      show spE X.K X.mg n m (v :: (vs ++ [])) H2 Q E0
      rw [List.append_nil]
      refine spE_in R2 (C.ar _ _ _ hf3) (Reps.cons ((r1.rho l2).mono v2) r2) hf3 ?_
      cases r with
      | error y => trivial
      | ok d => exact fun v' ρ3 S3 H3 R3 l3 v3 r3 => k v' ρ3 S3 H3 R3 (l1.trans (l2.trans l3)) (v1.trans (v2.trans v3)) r3
    · exact ⟨ρ₀, S₀, H₀, F, ρ1, S1, δ, Ω1, R1, .error y, _, e2, trivial⟩
  · exact ⟨ρ₀, S₀, H₀, F, ρ, S, δ, Ω, R, .error y, _, e1, trivial⟩
theorem me_meth0 {pl : Sem Bool} {m : List D → MS D} (C : MetE X.prog X.w X.K X.mg X.base k c x n m) (hr : Room k X.A) (ho : ME X O o fo)
    (ht : eval (.Call (.Attribute o x apos) [] [] pos) X.env = (do
      let ov ← eval o X.env
      standAt apos.atName
      let (f, first) ← holding [ov] (getMethod ov x pl)
      callWith pos f first (backTo pos (starEach [] X.env)) (backToKw pos (keywordEach [] X.env))) := by rfl) : ME X O (.Call (.Attribute o x apos) [] [] pos) (mMeth c x m fo (lF fNil)) := by
  obtain ⟨Ca, f, fd, ps, hl, hm, hc, hM, hb, G⟩ := C.ex
  rintro pins s σ H Q I ⟨ρ₀, S₀, H₀, F, ρ, S, δ, Ω, R, r, Ω', hf, k⟩
  refine pe_meth0 ho hc hM G hr hb .nil (fun _ _ _ _ _ _ _ z => z.elim) ht pins s σ H Q I (E := E0) ?_
  rcases MS.b_inv hf with ⟨od, Ω1, e1, hf⟩ | ⟨y, e1, rfl⟩
  · refine ⟨ρ₀, S₀, H₀, F, ρ, S, δ, Ω, R, .ok od, Ω1, e1, fun v ρ1 S1 H1 R1 l1 v1 r1 => ?_⟩
    obtain ⟨i, fs, rfl, hi, hno, hf2⟩ := meth_inv hf
    obtain ⟨ad, q1, q2⟩ := rep_obj.mp r1
    obtain ⟨ad', p1, p2, C', dx, vfs, p3, p4, p5, p6, p7⟩ := R1.sto.ats i _ hi
    rw [q1] at p1; cases p1
    rw [hm] at p3; cases p3
    refine ⟨ad, dx, vfs, q2, p4, p7.none hno, ?_⟩
    have hf3 : m [.obj i] Ω1 = some (r, Ω') := hf2
    show spE X.K X.mg n m [v] H1 Q E0
    refine spE_in R1 (C.ar _ _ _ hf3) (Reps.cons r1 Reps.nil) hf3 ?_
    cases r with
    | error y => trivial
    | ok d => exact fun v' ρ3 S3 H3 R3 l3 v3 r3 => k v' ρ3 S3 H3 R3 (l1.trans l3) (v1.trans v3) r3
  · exact ⟨ρ₀, S₀, H₀, F, ρ, S, δ, Ω, R, .error y, _, e1, trivial⟩
theorem make_in {m : List D → MS D} {Ca f : Addr} {vs : List V} {ds : List D} {r : Except XD D} {Q : VK} (hm : X.mg c = some (.ref Ca)) (ar : ∀ ds Ω r, m ds Ω = some r → ds.length = n) (R : RM ρ₀ S₀ H₀ F X.K X.mg O ρ S H σ δ Ω) (hr : Reps ρ X.K (hid H (fob (un F S) σ O)) ds vs) (hf : makeO c m ds Ω = some (r, Ω'))
    (k : match (generalizing := false) r with
      | .ok d => ∀ v ρ' S' H', RM ρ₀ S₀ H₀ F X.K X.mg O ρ' S' H' σ δ Ω' → RLe ρ ρ' → Same (hid H (fob (un F S) σ O)) (hid H' (fob (un F S') σ O)) → Rep ρ' X.K (hid H' (fob (un F S') σ O)) d v → Q v H'
      | .error _ => True) : ∀ x dx, H x = none → H dx = none → dx ≠ x → spE X.K X.mg n m (.ref x :: vs) (upd (upd H dx (.own x)) x (.ins Ca dx [])) (fun v H2 => v = .non ∧ Q (.ref x) H2) E0 := by
  intro x dx hx hdx ne
  obtain ⟨t1, t2, t3⟩ := R.make (c := c) hm hx hdx ne
  have hob : Rep (addR ρ Ω.length x) X.K (hid (upd (upd H dx (.own x)) x (.ins Ca dx [])) (fob (un F (addS S x dx)) σ O)) (.obj Ω.length) (.ref x) := rep_obj.mpr ⟨x, by unfold addR; rw [if_pos rfl], rfl⟩
  unfold makeO at hf
  rcases MS.b_inv hf with ⟨d, Ω1, e1, hf⟩ | ⟨y, e1, rfl⟩
  · refine spE_in t1 (ar _ _ _ e1) (Reps.cons hob ((hr.rho t2).mono t3)) e1 ?_
    intro v ρ2 S2 H2 R2 l2 v2 r2
    cases d with
    | non =>
      cases hf
      exact ⟨rep_non.mp r2, k (.ref x) ρ2 S2 H2 R2 (t2.trans l2) (t3.trans v2) ((hob.rho l2).mono v2)⟩
    | _ => cases hf
  · exact spE_in t1 (ar _ _ _ e1) (Reps.cons hob ((hr.rho t2).mono t3)) e1 trivial
theorem me_make {m : List D → MS D} (C : IniE X.prog X.w X.K X.mg X.base k c n m) (hr : Room (k + 1) X.A) (ha : MA X O (e :: es) fl) (hg : autoParam (Gl X c) zau2._auto_1) (hdb : autoParam ((c == ("__debug__" : Str)) = false) zau1._auto_1) (he : autoParam (starEach (e :: es) X.env = (false, eval e X.env) :: starEach es X.env) zau2._auto_1)
    (hpl : autoParam ((backTo pos (starEach es X.env)).any (·.1) = false) zau2._auto_1) : ME X O (.Call (.Name c p) (e :: es) [] pos) (mMake c m fl) := by
  obtain ⟨Ca, f, fd, ps, hl, hm, hM, hb, G⟩ := C.ex
  rintro pins s σ H Q I ⟨ρ₀, S₀, H₀, F, ρ, S, δ, Ω, R, r, Ω', hf, k⟩
  refine pe_make hM G hr hg hm hb .nil (fun _ _ _ _ _ _ _ z => z.elim) ha hdb he hpl pins s σ H Q I (E := E0) ?_
  rcases MS.b_inv hf with ⟨ds, Ω1, e1, hf⟩ | ⟨y, e1, rfl⟩
  · refine ⟨ρ₀, S₀, H₀, F, ρ, S, δ, Ω, R, .ok ds, Ω1, e1, fun vs ρ1 S1 H1 R1 l1 v1 r1 => ?_⟩
    try dsimp only
    rw [List.append_nil]
    refine make_in (f := f) hm C.ar R1 r1 hf ?_
    cases r with
    | error y => trivial
    | ok d => exact fun v ρ2 S2 H2 R2 l2 v2 r2 => k v ρ2 S2 H2 R2 (l1.trans l2) (v1.trans v2) r2
  · exact ⟨ρ₀, S₀, H₀, F, ρ, S, δ, Ω, R, .error y, _, e1, trivial⟩
end
inductive tEI (K : PySem.W.Frag) (mg : Str → Option Value) (O : List Nat) (f : DSt → MS (List D)) (σ : St) (H : Hp) (Rk : It → Hp → Prop) : Prop
  | mk (ρ₀ : Rho) (S₀ : Addr → Bool) (H₀ : Hp) (F : Addr → Bool) (ρ : Rho) (S : Addr → Bool) (δ : DSt) (Ω : Sto) (R : RM ρ₀ S₀ H₀ F K mg O ρ S H σ δ Ω) (r : Except XD (List D)) (Ω' : Sto) (hf : f δ Ω = some (r, Ω')) (k : match (generalizing := false) r with
    | .ok ds => ∀ J ρ' S' H', RM ρ₀ S₀ H₀ F K mg O ρ' S' H' σ δ Ω' → RLe ρ ρ' → Same (hid H (fob (un F S) σ O)) (hid H' (fob (un F S') σ O)) → ItD ρ' K J ds (hid H' (fob (un F S') σ O)) → Rk J H'
    | .error _ => True)
noncomputable def MI (X : Cx) (O : List Nat) (tg iter : Expr) (f : DSt → MS (List D)) : Prop := PI X tg iter (tEI X.K X.mg O f)
section
variable {X : Cx} {O O' B : List Nat} {a b c e o iter tg : Expr} {es : List Expr} {fa fb fo fv : DSt → MS D} {fi : DSt → MS (List D)} {pos : Pos} {st : Stmt} {g : DSt → MS Out} {tc : DSt → MS Bool} {f : Str} {cs : List Str}
theorem mi_pure {f : DSt → M (List D)} (h : DI X O E0 tg iter f) : MI X O tg iter (lF f) := by
  rintro pins s σ H Q I ⟨ρ₀, S₀, H₀, F, ρ, S, δ, Ω, R, r, Ω', hf, k⟩
  obtain ⟨hg, rfl⟩ := MS.l_inv hf
  refine h pins s σ H Q I ⟨ρ, _, un F S, δ, r, R.rs, hg, ?_⟩
  cases r with
  | ok d => exact fun J H' s' it => k J ρ S H' (R.mono s') (RLe.refl _) (same_hid s') it
  | error x => exact fun c dx H' _ z => z.elim
theorem ePut_inv {cs : List Str} {f : Str} {x d : D} {δ : DSt} {Ω Ω' : Sto} {r : Except XD Out} (h : ((putO cs f x d).b fun _ => MS.p (.nx δ)) Ω = some (r, Ω')) : ∃ i cl fs, x = .obj i ∧ Ω[i]? = some (.ins cl fs) ∧ cs.contains cl = true ∧ fs.length < 1000 ∧ r = .ok (.nx δ) ∧ Ω' = Ω.set i (.ins cl (putD f d fs)) := by
  unfold MS.b putO at h
  cases x with
  | obj i =>
    dsimp only at h
    cases hi : Ω[i]? with
    | none => rw [hi] at h; cases h
    | some so =>
      rw [hi] at h
      cases so with
      | lst _ => cases h
      | ins cl fs =>
        dsimp only at h
        by_cases hcl : (cs.contains cl && decide (fs.length < 1000)) = true
        · rw [if_pos hcl] at h
          cases h
          rw [Bool.and_eq_true, decide_eq_true_eq] at hcl
          exact ⟨i, cl, fs, rfl, hi, hcl.1, hcl.2, rfl, rfl⟩
        · rw [if_neg hcl] at h; cases h
  | _ => cases h
theorem ms_fld {pos' : Pos} (hc : ClsOk X cs f) (ho : ME X O o fo) (hv : ME X O e fv) (hs : autoParam (swapsWith e (some (.Attribute o f pos')) pos.line X.env = pure false) zau2._auto_1) : MSt X O O B (.Assign [.Attribute o f pos'] e pos) (ePut cs f fo fv) := by
  rintro pins s σ H Dn I ⟨ρ₀, S₀, H₀, F, ρ, S, δ, Ω, R, r, Ω', hf, k⟩
  refine ps_fld ho hv hs pins s σ H Dn I ?_
  rcases MS.b_inv hf with ⟨d, Ω1, e1, hf⟩ | ⟨x, e1, rfl⟩
  · refine ⟨ρ₀, S₀, H₀, F, ρ, S, δ, Ω, R, .ok d, Ω1, e1, fun v ρ1 S1 H1 R1 l1 v1 r1 => ?_⟩
    rcases MS.b_inv hf with ⟨x, Ω2, e2, hf⟩ | ⟨x, e2, rfl⟩
    · refine ⟨ρ₀, S₀, H₀, F, ρ1, S1, δ, Ω1, R1, .ok x, Ω2, e2, fun u ρ2 S2 H2 R2 l2 v2 r2 => ?_⟩
      obtain ⟨i, cl, fs, rfl, hi, hcl, hlt, rfl, rfl⟩ := ePut_inv hf
      obtain ⟨ad, q1, q2⟩ := rep_obj.mp r2
      obtain ⟨ad', p1, p2, C, dx, vfs, p3, p4, p5, p6, p7⟩ := R2.sto.ats i _ hi
      rw [q1] at p1; cases p1
      obtain ⟨g1, g2⟩ := hc cl (List.contains_iff_mem.mp hcl) C p3
      have r1' := (r1.rho l2).mono v2
      obtain ⟨t1, t2⟩ := R2.put (f := f) hi q1 p2 p3 p4 p5 p6 p7 r1'
      exact ⟨ad, C, dx, vfs, q2, p4, g1, g2, by rw [p7.length]; exact hlt, k ρ2 S2 σ _ t1 (l1.trans l2) (by rw [t2]; exact v1.trans v2)⟩
    · exact ⟨ρ₀, S₀, H₀, F, ρ1, S1, δ, Ω1, R1, .error x, _, e2, trivial⟩
  · exact ⟨ρ₀, S₀, H₀, F, ρ, S, δ, Ω, R, .error x, _, e1, trivial⟩
theorem ms_pop {i j : Nat} {x y : Str} {p1 p2 p3 pos' : Pos} (hN : X.N.Nodup) (ho : O.contains j = true) (hoi : autoParam (O.contains i = false) zau2._auto_1) (hi : autoParam (X.N[i]? = some x) zau2._auto_1) (hj : autoParam (X.N[j]? = some y) zau2._auto_1) (hx : autoParam (Loc X.env.scope x) zau8._auto_1)
    (hv : autoParam (Vis X.env.scope y) zau5._auto_1)
    (hd : autoParam ((y == ("__debug__" : Str)) = false) zau1._auto_1) (hcd : autoParam ((y == ("__classdict__" : Str)) = false) zau1._auto_1) (hbase : autoParam (attributeBase (.Name y p1) "pop" X.env (eval (.Name y p1) X.env) = eval (.Name y p1) X.env) zau2._auto_1) (hline : autoParam ((p2.endLine == p3.line) = true) zau2._auto_1)
    (hs : autoParam (swapsWith (.Call (.Attribute (.Name y p1) "pop" p2) [] [] p3) (some (.Name x pos')) pos.line X.env = pure false) zau2._auto_1) (hf : autoParam (X.fn x = true ∨ X.env.scope.names.lookup x = some .local) zau0._auto_1) :
    MSt X O O B (.Assign [.Name x pos'] (.Call (.Attribute (.Name y p1) "pop" p2) [] [] p3) pos) (ePop i j) := by
  rintro pins s σ H Dn I ⟨ρ₀, S₀, H₀, F, ρ, S, δ, Ω, R, r, Ω', hg, k⟩
  have ho' : j ∈ O := List.contains_iff_mem.mp ho
  have hoi' : i ∉ O := fun z => by rw [List.contains_iff_mem.mpr z] at hoi; cases hoi
  obtain ⟨l, xs, ds, q1, q2, q3, q4, q5⟩ := R.rs.own j ho'
  refine ps_set hN hi hx (pe_bm0 PySem.F.plainAttrs_list PySem.F.slot_list_pop PySem.F.type_list_pop mt_pop (pe_var hj hv hd hcd) hbase hline) hs hf pins s σ H Dn I ?_
  refine ⟨.ref l, q2, .inl ⟨rfl, _, SqL.of q3⟩, ?_⟩
  unfold ePop at hg
  have hjj : (δ[j]?).join = some (.lst ds) := by rw [q1]; rfl
  rw [hjj] at hg
  dsimp only at hg
  cases hl : ds[ds.length - 1]? with
  | none => rw [hl] at hg; cases hg
  | some d =>
    rw [hl] at hg
    cases hg
    obtain ⟨v, w1, w2⟩ := q5.get hl
    have hR := R.write ho' q2 q5.dropLast
    have hh : hid (upd H l (.lst xs.dropLast)) (fob (un F S) σ O) = hid H (fob (un F S) σ O) := hid_upd (fob_t.mpr (.inr ⟨j, ho', q2⟩))
    refine ⟨l, xs, v, rfl, rfl, q3, by rw [q5.length]; exact w1, ?_⟩
    refine k ρ S _ _ (hR.set hoi' (by rw [hh]; exact w2)) (RLe.refl _) ?_
    rw [ownA_set hoi', hh]
    exact Same.refl _
theorem ms_for {body : List Stmt} {h : D → DSt → Option DSt} (hp : PassesOwn (model X.prog X.w) X.A X.env X.xe) (hc : X.calm = true) (hi : MI X O tg iter fi) (hg : DG X O tg h) (hb : MSs X O O O body g)
    (hs : autoParam (∀ x, foldedSetIterable iter X.env x = pure x) zau3._auto_1) : MSt X O O B (.For tg iter body [] pos) (eFor fi h g) := by
  rintro pins s σ H Dn I ⟨ρ₀, S₀, H₀, F, ρ, S, δ, Ω, R, r, Ω', hgf, k⟩
  refine ps_for hp hc hi hg hb hs pins s σ H Dn I ?_
  rcases MS.b_inv hgf with ⟨ds, Ω1, e1, hgf⟩ | ⟨y, e1, rfl⟩
  · refine ⟨ρ₀, S₀, H₀, F, ρ, S, δ, Ω, R, .ok ds, Ω1, e1, fun J ρ1 S1 H1 R1 l1 v1 it => ?_⟩
    refine ⟨fun i m σ' H' => m = ds.length - i ∧ i ≤ ds.length ∧ ∃ ρ' S' δ' Ω2, RM ρ₀ S₀ H₀ F X.K X.mg O ρ' S' H' σ' δ' Ω2 ∧ RLe ρ1 ρ' ∧ Same (hid H1 (fob (un F S1) σ O)) (hid H' (fob (un F S') σ' O)) ∧ forE g h (ds.drop i) δ' Ω2 = some (r, Ω'),
      ⟨ds.length, by simp, Nat.zero_le _, ρ1, S1, δ, Ω1, R1, RLe.refl _, Same.refl _, hgf⟩, ?_⟩
    rintro i m σ' H' ⟨rfl, hil, ρ', S', δ', Ω2, R', l', f', hr⟩
    obtain ⟨j1, j2⟩ := it H' (fob (un F S') σ' O) i f' (fun p hp => R'.fresh hp)
    by_cases hlt : i < ds.length
    · obtain ⟨go, yld⟩ := j1 hlt
      refine .inr ⟨go, fun σ2 H2 => ∃ ρ2 S2 δ2 Ω3, RM ρ₀ S₀ H₀ F X.K X.mg O ρ2 S2 H2 σ2 δ2 Ω3 ∧ RLe ρ1 ρ2 ∧ Same (hid H1 (fob (un F S1) σ O)) (hid H2 (fob (un F S2) σ2 O)) ∧ forE g h (ds.drop (i + 1)) δ2 Ω3 = some (r, Ω'), fun σ2 H2 ⟨ρ2, S2, δ2, Ω3, a1, a2, a3, a4⟩ => ⟨ds.length - (i + 1), by omega, rfl, hlt, ρ2, S2, δ2, Ω3, a1, a2, a3, a4⟩, fun x H2 y => ?_⟩
      obtain ⟨s2, d, hd, rd⟩ := yld x H2 y
      have hdr : ds.drop i = d :: ds.drop (i + 1) := by
        rw [List.drop_eq_getElem_cons hlt]
        have : ds[i] = d := by rw [List.getElem?_eq_getElem hlt] at hd; exact Option.some.inj hd
        rw [this]
      rw [hdr] at hr
      unfold forE at hr
      cases e2 : h d δ' with
      | none => rw [e2] at hr; cases hr
      | some δ1 =>
        rw [e2] at hr
        dsimp only at hr
        have R2 := R'.mono s2
        have f2 : Same (hid H1 (fob (un F S1) σ O)) (hid H2 (fob (un F S') σ' O)) := f'.trans (same_hid s2)
        refine ⟨ρ', _, un F S', δ', d, δ1, R2.rs, rd.rho l', e2, fun σ3 ef R3 => ?_⟩
        have R3' : RM ρ₀ S₀ H₀ F X.K X.mg O ρ' S' H2 σ3 δ1 Ω2 := R2.next R3 (by rw [ef]; exact Same.refl _)
        rcases MS.b_inv hr with ⟨o, Ω3, e3, hr⟩ | ⟨y, e3, rfl⟩
        · refine ⟨ρ₀, S₀, H₀, F, ρ', S', δ1, Ω2, R3', .ok o, Ω3, e3, ?_⟩
          rw [ef]
          cases o with
          | nx δ4 => exact fun ρ4 S4 σ4 H4 R4 l4 v4 => ⟨ρ4, S4, δ4, Ω3, R4, l'.trans l4, f2.trans v4, hr⟩
          | ct δ4 => exact fun ρ4 S4 σ4 H4 R4 l4 v4 => ⟨ρ4, S4, δ4, Ω3, R4, l'.trans l4, f2.trans v4, hr⟩
          | bk δ4 => cases hr; exact fun ρ4 S4 σ4 H4 R4 l4 v4 => k ρ4 S4 σ4 H4 R4 (l1.trans (l'.trans l4)) (v1.trans (f2.trans v4))
          | rt v => cases hr; exact k
        · exact ⟨ρ₀, S₀, H₀, F, ρ', S', δ1, Ω2, R3', .error y, _, e3, trivial⟩
    · have ei : i = ds.length := by omega
      subst ei
      rw [List.drop_length] at hr
      cases hr
      exact .inl ⟨j2 rfl, k ρ' S' σ' H' R' (l1.trans l') (v1.trans f')⟩
  · exact ⟨ρ₀, S₀, H₀, F, ρ, S, δ, Ω, R, .error y, _, e1, trivial⟩
end
end DL
namespace DL
open PySem PySem.Spec L2
noncomputable def clsStmt (st : Stmt) (j : Nat) : Stmt := match st with
  | .ClassDef _ _ _ b _ _ _ _ _ _ _ => b.getD j (.Pass ⟨0, 0, 0, 0⟩)
  | _ => .Pass ⟨0, 0, 0, 0⟩
structure ClsAt (K : PySem.W.Frag) (mg : Str → Option Value) (c : Str) (fs : List Str) : Prop where
  ok : ∀ C, mg c = some (.ref C) → Cls K C ∧ ∀ f ∈ fs, NoAttr K C f
section
variable {K : PySem.W.Frag} {mg : Str → Option Value} {h : Heap} {c x q : Str} {st : Stmt} {ps : List Str} {C f : Addr} {oc : Value} {od an : Option Addr} {osl : Array (Option Value)} {kV doc pm cdv ct : Value}
theorem clsAt_mk {fs : List Str} (X : K.In h) (G : h.Ns mainGlobals mg) (a : PySem.W.nsIn K mainGlobals c = some (some (.ref C))) (p1 : PySem.W.plainGet K C Str.empty = true) (p2 : PySem.W.hasDictIn K C = true) (p3 : PySem.W.plainOver K C = true)
    (p4 : PySem.W.findIn K (.ref C) "__setattr__" = some (some (.builtin "object.__setattr__"))) (n : ∀ f ∈ fs, PySem.W.findIn K (.ref C) f = some none) : ClsAt K mg c fs :=
  ⟨fun C' hC => by rw [PySem.W.mg_of X G a] at hC; cases hC; exact ⟨⟨p1, p2, p3, p4⟩, n⟩⟩
theorem ClsAt.is {X : Cx} {fs : List Str} (T : ClsAt X.K X.mg c fs) {f : Str} (hf : f ∈ fs) : ClsOk X [c] f := fun c' hc C hC => by
  rw [List.mem_singleton] at hc
  subst hc
  exact ⟨(T.ok C hC).1, (T.ok C hC).2 f hf⟩
theorem metAt_mk {fs : List Str} (X : K.In h) (G : h.Ns mainGlobals mg) (T : ClsAt K mg c fs)
    (hb : ∀ (kV doc pm : Value) (an : Option Addr) (cdv ct : Value) (us : List Value), us.length = ps.length → bindArgs (PySem.W.fnOf x q (defArgs st) (defBody st) (defScope st) .none kV doc pm an cdv ct) ⟨us, []⟩ = pure (ps.zip us))
    (a : PySem.W.nsIn K mainGlobals c = some (some (.ref C))) (m1 : PySem.W.findIn K (.ref C) x = some (some (.ref f))) (m2 : PySem.W.isFn K (.ref f) = true)
    (l : K.lookup f = some ⟨oc, od, .func (PySem.W.fnOf x q (defArgs st) (defBody st) (defScope st) .none kV doc pm an cdv ct), osl⟩)
    (cd : PySem.W.codeIn K cdv q = true) (k : PySem.W.keepIn K (.ref f) = true) : MetAt K mg c x q st ps := by
  have F := fun_mk (st := st) l cd k
  have hm := PySem.W.mg_of X G a
  exact ⟨C, f, _, hm, (T.ok C hm).1, ⟨m1, m2, k⟩, F, F.binds hb⟩
theorem iniAt_mk (X : K.In h) (G : h.Ns mainGlobals mg)
    (hb : ∀ (kV doc pm : Value) (an : Option Addr) (cdv ct : Value) (us : List Value), us.length = ps.length → bindArgs (PySem.W.fnOf "__init__" q (defArgs st) (defBody st) (defScope st) .none kV doc pm an cdv ct) ⟨us, []⟩ = pure (ps.zip us))
    (a : PySem.W.nsIn K mainGlobals c = some (some (.ref C))) (i1 : PySem.W.makesIn K C = true) (i2 : PySem.W.findIn K (.ref C) "__init__" = some (some (.ref f))) (i3 : PySem.W.isFn K (.ref f) = true) (i4 : PySem.W.keepIn K (.ref C) = true)
    (l : K.lookup f = some ⟨oc, od, .func (PySem.W.fnOf "__init__" q (defArgs st) (defBody st) (defScope st) .none kV doc pm an cdv ct), osl⟩)
    (cd : PySem.W.codeIn K cdv q = true) (k : PySem.W.keepIn K (.ref f) = true) : IniAt K mg c q st ps := by
  have F := fun_mk (st := st) l cd k
  exact ⟨C, f, _, PySem.W.mg_of X G a, ⟨i1, i2, i3, i4⟩, F, F.binds hb⟩
end
noncomputable def mB (f : DSt → MS D) : DSt → MS Bool := fun δ => (f δ).b fun d => match d with
  | .bl k => MS.p k
  | _ => fun _ => none
section
variable {X : Cx} {O : List Nat} {a b : Expr} {fa fb : DSt → MS D} {pos : Pos}
theorem mt_cmp {op : CmpOp} {g : D → D → Option D} {r : R2} (ho : OpR X (compareOp op) r) (hg : OpD X.K g r) (ha : ME X O a fa) (hb : ME X O b fb) (hm : behindInMarks op b = false) : MT X O (.Compare a [op] [b] pos) (mB (m2 g fa fb)) := by
  rintro pins s σ H Q I ⟨ρ₀, S₀, H₀, F, ρ, S, δ, Ω, R, rr, Ω', hf, k⟩
  refine pt_cmpR ho ha hb hm pins s σ H Q I (mbin_in (r := r) hg ?_)
  rcases MS.b_inv hf with ⟨x, Ω1, e1, hf⟩ | ⟨x, e1, rfl⟩
  · cases x with
    | bl kk => cases hf; exact ⟨ρ₀, S₀, H₀, F, ρ, S, δ, Ω, R, .ok (.bl kk), _, e1, fun v ρ' S' H' R' l sm rv => ⟨kk, rep_bl.mp rv, k ρ' S' H' R' l sm⟩⟩
    | _ => cases hf
  · exact ⟨ρ₀, S₀, H₀, F, ρ, S, δ, Ω, R, .error x, Ω', e1, k⟩
end
noncomputable def spA (K : PySem.W.Frag) (n : Nat) (m : List D → MS D) : Sp := fun vs H Q E => ∀ mg, spE K mg n m vs H Q E
noncomputable def FUEL : Nat := Classical.choose (⟨100000, rfl⟩ : ∃ n : Nat, n = 100000)
theorem FUEL_eq : FUEL = 100000 := Classical.choose_spec (⟨100000, rfl⟩ : ∃ n : Nat, n = 100000)
end DL
namespace DL
open PySem PySem.Spec L2
section
variable {δ : DSt} {fa fb fc : DSt → M D} {fl : DSt → M (List D)} {g : D → D → Option D} {u : D → Option D} {k : List D → Option D} {ta tb : DSt → M Bool} {g1 g2 : DSt → M Out} {m : List D → M D} {ki : List D → Option (List D)} {fi : DSt → M (List D)} {tg : D → DSt → Option DSt}
@[simp] theorem e_var (i : Nat) : fVar i δ = M.o (δ[i]?).join := rfl
@[simp] theorem e_C (d : D) : fC d δ = M.p d := rfl
@[simp] theorem e_2 : f2 g fa fb δ = (fa δ).b fun x => (fb δ).b fun y => M.o (g x y) := rfl
@[simp] theorem e_1 : f1 u fa δ = (fa δ).b fun x => M.o (u x) := rfl
noncomputable def asB : Option D → M Bool
  | some (.bl b) => M.p b
  | _ => none
@[simp] theorem asB_bl (b : Bool) : asB (some (.bl b)) = M.p b := rfl
@[simp] theorem e_t2 : t2 g fa fb δ = (fa δ).b fun x => (fb δ).b fun y => asB (g x y) := rfl
@[simp] theorem e_nil : fNil δ = M.p [] := rfl
@[simp] theorem e_cons : fCons fa fl δ = (fa δ).b fun x => (fl δ).b fun xs => M.p (x :: xs) := rfl
@[simp] theorem e_L : fL k fl δ = (fl δ).b fun xs => M.o (k xs) := rfl
@[simp] theorem e_call : fCall m fl δ = (fl δ).b m := rfl
@[simp] theorem e_not : gNot (.bl b) = some (.bl !b) := rfl
@[simp] theorem e_tnot : tNot ta δ = (ta δ).b fun x => M.p !x := rfl
@[simp] theorem e_tand : tAnd ta tb δ = (ta δ).b fun x => if x = true then tb δ else M.p false := rfl
@[simp] theorem e_tor : tOr ta tb δ = (ta δ).b fun x => if x = true then M.p true else tb δ := rfl
@[simp] theorem e_if : fIf ta fa fb δ = (ta δ).b fun x => if x = true then fa δ else fb δ := rfl
noncomputable def andB (b : D) (r : M D) : M D := match b with
  | .bl true => r
  | .bl false => M.p (.bl false)
  | _ => none
noncomputable def orB (b : D) (r : M D) : M D := match b with
  | .bl true => M.p (.bl true)
  | .bl false => r
  | _ => none
@[simp] theorem andB_t (r : M D) : andB (.bl true) r = r := rfl
@[simp] theorem andB_f (r : M D) : andB (.bl false) r = M.p (.bl false) := rfl
@[simp] theorem orB_t (r : M D) : orB (.bl true) r = M.p (.bl true) := rfl
@[simp] theorem orB_f (r : M D) : orB (.bl false) r = r := rfl
@[simp] theorem e_and : fAnd fa fb δ = (fa δ).b fun x => andB x (fb δ) := rfl
@[simp] theorem e_or : fOr fa fb δ = (fa δ).b fun x => orB x (fb δ) := rfl
@[simp] theorem e_tru : tTru fa δ = (fa δ).b fun x => M.o (truD x) := rfl
@[simp] theorem tru_bl (b : Bool) : truD (.bl b) = some b := rfl
@[simp] theorem tru_non : truD .non = some false := rfl
@[simp] theorem e_nx : gNx δ = M.p (.nx δ) := rfl
noncomputable def seqO (g2 : DSt → M Out) : Out → M Out
  | .nx δ' => g2 δ'
  | o => M.p o
@[simp] theorem seqO_nx (δ' : DSt) : seqO g2 (.nx δ') = g2 δ' := rfl
@[simp] theorem seqO_rt (d : D) : seqO g2 (.rt d) = M.p (.rt d) := rfl
@[simp] theorem seqO_bk (δ' : DSt) : seqO g2 (.bk δ') = M.p (.bk δ') := rfl
@[simp] theorem seqO_ct (δ' : DSt) : seqO g2 (.ct δ') = M.p (.ct δ') := rfl
@[simp] theorem e_seq : gSeq g1 g2 δ = (g1 δ).b (seqO g2) := by
  show (g1 δ).b _ = _
  congr 1
@[simp] theorem e_set (i : Nat) : gSet i fa δ = (fa δ).b fun d => M.p (.nx (δ.set i (some d))) := rfl
@[simp] theorem e_ret : gRet fa δ = (fa δ).b fun d => M.p (.rt d) := rfl
@[simp] theorem e_drop : gDrop fa δ = (fa δ).b fun _ => M.p (.nx δ) := rfl
@[simp] theorem e_gif : gIf ta g1 g2 δ = (ta δ).b fun b => if b = true then g1 δ else g2 δ := rfl
@[simp] theorem e_brk : gBrk δ = M.p (.bk δ) := rfl
@[simp] theorem e_cnt : gCnt δ = M.p (.ct δ) := rfl
noncomputable def appO (i : Nat) (δ : DSt) (d : D) : Option D → M Out
  | some (.lst ds) => if ds.length < sizeLine then M.p (.nx (δ.set i (some (.lst (ds ++ [d]))))) else none
  | _ => none
theorem appO_lst {i : Nat} {δ : DSt} {d : D} {ds : List D} (h : ds.length < sizeLine) : appO i δ d (some (.lst ds)) = M.p (.nx (δ.set i (some (.lst (ds ++ [d]))))) := if_pos h
@[simp] theorem e_app (i : Nat) : gApp i fa δ = (fa δ).b fun d => appO i δ d (δ[i]?).join := rfl
@[simp] theorem e_for : gFor fi tg g1 δ = (fi δ).b fun ds => forD g1 tg ds δ := rfl
@[simp] theorem e_iargs : iArgs ki fl δ = (fl δ).b fun ds => M.o (ki ds) := rfl
@[simp] theorem e_iseq : iSeqD fa δ = (fa δ).b fun d => M.o (seqD d) := rfl
@[simp] theorem e_yes : tYes δ = M.p true := rfl
@[simp] theorem e_out_rt (d : D) : outD (.rt d) = M.p d := rfl
@[simp] theorem e_out_nx (δ : DSt) : outD (.nx δ) = M.p .non := rfl
theorem e_mir1 (N : Nat) (x0 : D) : mir 1 N g1 [x0] = (g1 (some x0 :: List.replicate (N - 1) none)).b outD := rfl
theorem e_mir2 (N : Nat) (x0 x1 : D) : mir 2 N g1 [x0, x1] = (g1 (some x0 :: some x1 :: List.replicate (N - 2) none)).b outD := rfl
theorem e_mir3 (N : Nat) (x0 x1 x2 : D) : mir 3 N g1 [x0, x1, x2] = (g1 (some x0 :: some x1 :: some x2 :: List.replicate (N - 3) none)).b outD := rfl
theorem e_mir4 (N : Nat) (x0 x1 x2 x3 : D) : mir 4 N g1 [x0, x1, x2, x3] = (g1 (some x0 :: some x1 :: some x2 :: some x3 :: List.replicate (N - 4) none)).b outD := rfl
@[simp] theorem b_none {α β : Type} (f : α → M β) : M.b none f = none := rfl
@[simp] theorem b_assoc {α β γ : Type} (m : M α) (f : α → M β) (h : β → M γ) : (m.b f).b h = m.b fun a => (f a).b h := by
  cases m with
  | none => rfl
  | some e => cases e <;> rfl
@[simp] theorem e_comp {own : Nat} {caps : List (Str × Nat)} {tc : DSt → M Bool} : fComp own caps fi tg tc fa δ = (fi δ).b fun ds => M.o ((compD tg tc fa ds (innerD own caps δ)).bind gLstD) := rfl
end
@[simp] theorem lt_int (i j : Int) : gLt (.int i) (.int j) = some (.bl (decide (i < j))) := rfl
@[simp] theorem le_int (i j : Int) : gLe (.int i) (.int j) = some (.bl (decide (i ≤ j))) := rfl
@[simp] theorem gt_int (i j : Int) : gGt (.int i) (.int j) = some (.bl (decide (j < i))) := rfl
@[simp] theorem ge_int (i j : Int) : gGe (.int i) (.int j) = some (.bl (decide (j ≤ i))) := rfl
@[simp] theorem add_int (i j : Int) : gAdd (.int i) (.int j) = some (.int (i + j)) := rfl
@[simp] theorem sub_int (i j : Int) : gSub (.int i) (.int j) = some (.int (i - j)) := rfl
@[simp] theorem neg_int (i : Int) : gNeg (.int i) = some (.int (-i)) := rfl
theorem mod_int {i j : Int} (h : 0 < j) : gMod (.int i) (.int j) = some (.int (i % j)) := if_pos h
noncomputable def Bt (k : Nat) (i : Int) : Prop := i.natAbs < 2 ^ k
theorem Bt.mono {a b : Nat} {i : Int} (h : Bt a i) (hab : a ≤ b) : Bt b i := Nat.lt_of_lt_of_le h (Nat.pow_le_pow_right (by decide) hab)
theorem Bt.mul {a b : Nat} {i j : Int} (h : Bt a i) (k : Bt b j) : Bt (a + b) (i * j) := by
  unfold Bt at *
  rw [Int.natAbs_mul, Nat.pow_add]
  exact Nat.mul_lt_mul'' h k
theorem Bt.add {a : Nat} {i j : Int} (h : Bt a i) (k : Bt a j) : Bt (a + 1) (i + j) := by
  unfold Bt at *
  rw [Nat.pow_succ]
  omega
theorem Bt.neg {a : Nat} {i : Int} (h : Bt a i) : Bt a (-i) := by unfold Bt at *; omega
theorem Bt.big {k : Nat} {i : Int} (h : Bt k i) (hk : k ≤ 100000) : inBig i = true := by
  have h' := Nat.lt_of_lt_of_le h (Nat.pow_le_pow_right (by decide : 2 > 0) hk)
  rw [← BIGN_eq] at h'
  unfold inBig BIG
  rw [Bool.and_eq_true, decide_eq_true_eq, decide_eq_true_eq]
  omega
theorem mul_bt {a b : Nat} {i j : Int} (h : Bt a i) (k : Bt b j) (ha : autoParam (a ≤ 100000) zau1._auto_1) (hb : autoParam (b ≤ 100000) zau1._auto_1) : gMul (.int i) (.int j) = some (.int (i * j)) := by
  have : (inBig i && inBig j) = true := by rw [h.big ha, k.big hb]; rfl
  exact if_pos this
theorem fdiv_int {i j : Int} (h : 0 < j) (h2 : j < 2 ^ 200) : gFdiv (.int i) (.int j) = some (.int (i / j)) := by
  refine if_pos ⟨h, ?_⟩
  unfold DIVB
  have : (2 ^ 200 : Nat) ≤ 2 ^ 9000 := Nat.pow_le_pow_right (by decide) (by decide)
  rw [← DIVN_eq] at this
  omega
theorem pow_int {i : Int} {j : Int} (h : 0 ≤ j ∧ j ≤ 1000 ∧ -(2 ^ 60) < i ∧ i < 2 ^ 60) : gPow (.int i) (.int j) = some (.int (i ^ j.toNat)) := if_pos h
theorem atI_get {α : Type} {xs : List α} {j : Nat} {v : α} (h : xs[j]? = some v) : atI xs (j : Int) = some v := by
  have hj := (List.getElem?_eq_some_iff.mp h).1
  unfold atI ixN
  rw [if_pos (by omega), if_pos (by omega)]
  simpa using h
@[simp] theorem ix_t (ds : List D) (i : Int) : gIx (.tup ds) (.int i) = atI ds i := rfl
@[simp] theorem ix_l (ds : List D) (i : Int) : gIx (.lst ds) (.int i) = atI ds i := rfl
@[simp] theorem at0 {α : Type} (x : α) (xs : List α) : atI (x :: xs) 0 = some x := by
  have := atI_get (xs := x :: xs) (j := 0) (v := x) rfl
  simpa using this
@[simp] theorem at1 {α : Type} (x y : α) (xs : List α) : atI (x :: y :: xs) 1 = some y := by
  have := atI_get (xs := x :: y :: xs) (j := 1) (v := y) rfl
  simpa using this
@[simp] theorem at2 {α : Type} (x y z : α) (xs : List α) : atI (x :: y :: z :: xs) 2 = some z := by
  have := atI_get (xs := x :: y :: z :: xs) (j := 2) (v := z) rfl
  simpa using this
@[simp] theorem at3 {α : Type} (x y z w : α) (xs : List α) : atI (x :: y :: z :: w :: xs) 3 = some w := by
  have := atI_get (xs := x :: y :: z :: w :: xs) (j := 3) (v := w) rfl
  simpa using this
@[simp] theorem len_l (ds : List D) : kLen [.lst ds] = some (.int ds.length) := rfl
@[simp] theorem len_t (ds : List D) : kLen [.tup ds] = some (.int ds.length) := rfl
@[simp] theorem tuple_l (ds : List D) : kTuple [.lst ds] = some (.tup ds) := rfl
@[simp] theorem list_l (ds : List D) : kList [.lst ds] = some (.lst ds) := rfl
@[simp] theorem range1 (j : Int) : rangeArgs [.int j] = some (rangeD 0 j.toNat) := rfl
@[simp] theorem range2 (i j : Int) : rangeArgs [.int i, .int j] = some (rangeD i (j - i).toNat) := rfl
@[simp] theorem enum_l (xs : List D) : enumArgs [.lst xs] = some (enumD 0 xs) := rfl
@[simp] theorem seq_l (ds : List D) : seqD (.lst ds) = some ds := rfl
@[simp] theorem seq_t (ds : List D) : seqD (.tup ds) = some ds := rfl
@[simp] theorem kmin (i j : Int) : kMin [.int i, .int j] = some (.int (if j < i then j else i)) := rfl
@[simp] theorem kint_bl (b : Bool) : kInt [.bl b] = some (.int (if b then 1 else 0)) := rfl
@[simp] theorem tupD2 (x y : D) : gTupD [x, y] = some (.tup [x, y]) := rfl
@[simp] theorem tupD3 (x y z : D) : gTupD [x, y, z] = some (.tup [x, y, z]) := rfl
@[simp] theorem tupD4 (x y z w : D) : gTupD [x, y, z, w] = some (.tup [x, y, z, w]) := rfl
@[simp] theorem lstD0 : gLstD [] = some (.lst []) := rfl
@[simp] theorem lstD1 (x : D) : gLstD [x] = some (.lst [x]) := rfl
@[simp] theorem lstD2 (x y : D) : gLstD [x, y] = some (.lst [x, y]) := rfl
@[simp] theorem lstD3 (x y z : D) : gLstD [x, y, z] = some (.lst [x, y, z]) := rfl
theorem lstD_of {ds : List D} (h : ds.length ≤ sizeLine) : gLstD ds = some (.lst ds) := if_pos h
@[simp] theorem eq_int (i j : Int) : gEq (.int i) (.int j) = some (.bl (i == j)) := rfl
@[simp] theorem ne_int (i j : Int) : gNe (.int i) (.int j) = some (.bl !(i == j)) := rfl
theorem eq_same {d : D} (h1 : okD d = true) (h2 : depD d ≤ 20) : gEq d d = some (.bl true) := by
  unfold gEq
  rw [if_pos (by rw [h1, decide_eq_true h2]; rfl), eqB_refl d h1]
@[simp] theorem isi_int_int (i : Int) : kIsi [.int i, .ty "int"] = some (.bl true) := rfl
@[simp] theorem isi_int_bool (i : Int) : kIsi [.int i, .ty "bool"] = some (.bl false) := rfl
@[simp] theorem isi_tup_tuple (i : List D) : kIsi [.tup i, .ty "tuple"] = some (.bl true) := rfl
theorem comp1 {c : DSt} {fe : DSt → M D} {F : D → D} : ∀ (ds : List D) (x : Option D), (∀ d ∈ ds, fe (some d :: c) = some (.ok (F d))) → compD (gName 0) tYes fe ds (x :: c) = some (ds.map F)
  | [], _, _ => rfl
  | d :: ds, x, h => by
    unfold compD
    have e1 : gName 0 d (x :: c) = some (some d :: c) := rfl
    rw [e1]
    dsimp only [tYes, M.p]
    rw [h d List.mem_cons_self]
    dsimp only
    rw [comp1 ds (some d) fun e he => h e (List.mem_cons_of_mem _ he)]
    rfl
theorem zipD_eq : ∀ (xs ys : List D), zipD xs ys = (xs.zip ys).map fun p => .tup [p.1, p.2]
  | [], _ => by simp [zipD]
  | _ :: _, [] => by simp [zipD]
  | x :: xs, y :: ys => by simp [zipD, zipD_eq xs ys]
theorem for_inv {g : DSt → M Out} {tg : D → DSt → Option DSt} (I : List D → DSt → Prop) (h : ∀ d ds δ, I (d :: ds) δ → ∃ δ1, tg d δ = some δ1 ∧ ∃ δ2, (g δ1 = some (.ok (.nx δ2)) ∨ g δ1 = some (.ok (.ct δ2))) ∧ I ds δ2) :
    ∀ (ds : List D) (δ : DSt), I ds δ → ∃ δ', forD g tg ds δ = some (.ok (.nx δ')) ∧ I [] δ'
  | [], δ, hi => ⟨δ, rfl, hi⟩
  | d :: ds, δ, hi => by
    obtain ⟨δ1, e1, δ2, e2, i2⟩ := h d ds δ hi
    obtain ⟨δ', e3, i3⟩ := for_inv I h ds δ2 i2
    refine ⟨δ', ?_, i3⟩
    unfold forD
    rw [e1]
    dsimp only
    rcases e2 with e2 | e2 <;> (rw [e2]; exact e3)
@[simp] theorem gname_ap (i : Nat) (d : D) (δ : DSt) : gName i d δ = some (δ.set i (some d)) := rfl
@[simp] theorem gtup2_ap (i j : Nat) (x y : D) (δ : DSt) : gTup2 i j (.tup [x, y]) δ = some ((δ.set i (some x)).set j (some y)) := rfl
noncomputable def getI : M D → Int
  | some (.ok (.int i)) => i
  | _ => 0
theorem getI_of {m : M D} {i : Int} (h : m = some (.ok (.int i))) : m = some (.ok (.int (getI m))) := by rw [h]; rfl
end DL
namespace DL
open PySem PySem.Spec L2
theorem for_nth {g : DSt → M Out} {tg : D → DSt → Option DSt} (ds : List D) (I : Nat → DSt → Prop)
    (h : ∀ (j : Nat) (hj : j < ds.length) (δ : DSt), I j δ → ∃ δ1, tg ds[j] δ = some δ1 ∧ ∃ δ2, (g δ1 = some (.ok (.nx δ2)) ∨ g δ1 = some (.ok (.ct δ2))) ∧ I (j + 1) δ2) (δ : DSt) (h0 : I 0 δ) :
    ∃ δ', forD g tg ds δ = some (.ok (.nx δ')) ∧ I ds.length δ' := by
  obtain ⟨δ', e, j, hd, hj, hi⟩ := for_inv (g := g) (tg := tg) (fun rem δ => ∃ j, rem = ds.drop j ∧ j ≤ ds.length ∧ I j δ) (fun d rem δ ⟨j, hr, hj, hi⟩ => by
    have hlt : j < ds.length := by
      by_cases q : j < ds.length
      · exact q
      · rw [List.drop_eq_nil_of_le (by omega)] at hr; cases hr
    rw [List.drop_eq_getElem_cons hlt] at hr
    obtain ⟨rfl, rfl⟩ := List.cons.inj hr
    obtain ⟨δ1, e1, δ2, e2, i2⟩ := h j hlt δ hi
    exact ⟨δ1, e1, δ2, e2, j + 1, rfl, hlt, i2⟩) ds δ ⟨0, rfl, Nat.zero_le _, h0⟩
  refine ⟨δ', e, ?_⟩
  have : j = ds.length := by
    have := congrArg List.length hd
    simp at this
    omega
  rw [← this]; exact hi
@[simp] theorem rangeD_len (lo : Int) (n : Nat) : (rangeD lo n).length = n := by simp [rangeD]
@[simp] theorem rangeD_get (lo : Int) (n j : Nat) (h : j < (rangeD lo n).length) : (rangeD lo n)[j] = .int (lo + j) := by simp [rangeD]
theorem rangeD_map (n : Nat) (F : D → D) : (rangeD 0 n).map F = (List.range n).map fun j => F (.int (j : Nat)) := by
  unfold rangeD
  rw [List.map_map]
  apply List.map_congr_left
  intro a _
  simp
theorem mem_rangeD {lo : Int} {n : Nat} {d : D} (h : d ∈ rangeD lo n) : ∃ j : Nat, j < n ∧ d = .int (lo + j) := by
  unfold rangeD at h
  obtain ⟨j, hj, rfl⟩ := List.mem_map.mp h
  exact ⟨j, List.mem_range.mp hj, rfl⟩
theorem compR {c : DSt} {fe : DSt → M D} {F : Nat → D} (n : Nat) (x : Option D) (h : ∀ j : Nat, j < n → fe (some (.int (j : Nat)) :: c) = some (.ok (F j))) : compD (gName 0) tYes fe (rangeD 0 n) (x :: c) = some ((List.range n).map F) := by
  have := comp1 (c := c) (fe := fe) (F := fun d => match d with | .int i => F i.toNat | _ => .non) (rangeD 0 n) x (fun d hd => by
    obtain ⟨j, hj, rfl⟩ := mem_rangeD hd
    have e : (0 : Int) + (j : Nat) = (j : Nat) := Int.zero_add _
    rw [e, h j hj]
    rfl)
  rw [this, rangeD_map]
  rfl
end DL
namespace DL
open PySem PySem.Spec L2
section
variable {δ : DSt} {fa fb fc : DSt → M D} {fl : DSt → M (List D)} {g : D → D → Option D} {k : List D → Option D} {ta : DSt → M Bool}
@[simp] theorem e_aug (i : Nat) : gAug i g fa δ = (M.o (δ[i]?).join).b fun x => (fa δ).b fun y => (M.o (g x y)).b fun d => M.p (.nx (δ.set i (some d))) := rfl
@[simp] theorem cat_int (i j : Int) : gCat (.int i) (.int j) = some (.int (i + j)) := rfl
theorem cat_str {x y : Str} (h : x.length + y.length ≤ sizeLine) : gCat (.str x) (.str y) = some (.str (x ++ y)) := if_pos h
theorem cat_lst {x y : List D} (h : x.length + y.length ≤ sizeLine) : gCat (.lst x) (.lst y) = some (.lst (x ++ y)) := if_pos h
theorem cat_tup {x y : List D} (h : x.length + y.length ≤ sizeLine) (hx : x ≠ []) (hy : y ≠ []) : gCat (.tup x) (.tup y) = some (.tup (x ++ y)) := if_pos ⟨h, hx, hy⟩
theorem mulT_bt {a b : Nat} {i j : Int} (h : Bt a i) (k : Bt b j) (ha : autoParam (a ≤ 100000) zau1._auto_1) (hb : autoParam (b ≤ 100000) zau1._auto_1) : gMulT (.int i) (.int j) = some (.int (i * j)) := mul_bt h k ha hb
theorem rep_flat {α : Type} (x : α) : ∀ n : Nat, (List.replicate n [x]).flatten = List.replicate n x
  | 0 => rfl
  | n + 1 => by rw [List.replicate_succ, List.flatten_cons, rep_flat x n]; rfl
theorem mulT_tup {x : D} {n : Nat} (h1 : 1 ≤ n) (h2 : n ≤ 1000) : gMulT (.tup [x]) (.int n) = some (.tup (List.replicate n x)) := by
  have : gMulT (.tup [x]) (.int n) = some (.tup (List.replicate (n : Int).toNat [x]).flatten) := if_pos ⟨by simp, by omega, by omega, by simp; omega⟩
  rw [this, rep_flat]
  simp
theorem e_rep (x : D) (n : Nat) (hl : fl δ = M.p [x]) (hb : fb δ = M.p (.int n)) (hn : n ≤ 1000) : fRep fl fb δ = M.p (.lst (List.replicate n x)) := by
  unfold fRep
  rw [hl, hb]
  have h1 : ([x] : List D).length ≤ sizeLine := by show 1 ≤ sizeLine; decide
  have h3 : 1000 ≤ sizeLine := by decide
  have h2 : -(2 ^ 63) ≤ (n : Int) ∧ (n : Int) < 2 ^ 63 ∧ ([x] : List D).length * (n : Int).toNat ≤ sizeLine := ⟨by omega, by omega, by simp; omega⟩
  rw [M.b_p, if_pos h1, M.b_p]
  dsimp only
  rw [if_pos h2, rep_flat]
  rfl
@[simp] theorem e_asg (h : D → DSt → Option DSt) : gAsg h fa δ = (fa δ).b fun d => match h d δ with
  | some δ' => M.p (.nx δ')
  | none => none := rfl
@[simp] theorem e_tup3 (i j l : Nat) (x y z : D) : gTup3 i j l (.tup [x, y, z]) δ = some (((δ.set i (some x)).set j (some y)).set l (some z)) := rfl
@[simp] theorem intT_bl (b : Bool) : kIntT [.bl b] = some (.int (if b then 1 else 0)) := rfl
theorem bls_map : ∀ bs : List Bool, blsD (bs.map .bl) = some bs
  | [] => rfl
  | b :: bs => by rw [List.map_cons]; unfold blsD; rw [bls_map bs]; rfl
theorem all_bls (bs : List Bool) : kAll [.lst (bs.map .bl)] = some (.bl (bs.all id)) := by
  show (blsD (bs.map D.bl)).map (fun ns => D.bl (ns.all id)) = _
  rw [bls_map]; rfl
theorem comp_map2 {c : DSt} {fe : DSt → M D} {α : Type} {K : α → D × D} {F : α → D} (ps : List α) (x y : Option D) (h : ∀ p ∈ ps, fe (some (K p).1 :: some (K p).2 :: c) = some (.ok (F p))) : compD (gTup2 0 1) tYes fe (ps.map fun p => .tup [(K p).1, (K p).2]) (x :: y :: c) = some (ps.map F) := by
  induction ps generalizing x y with
  | nil => rfl
  | cons p ps ih =>
    rw [List.map_cons]
    unfold compD
    have e1 : gTup2 0 1 (.tup [(K p).1, (K p).2]) (x :: y :: c) = some (some (K p).1 :: some (K p).2 :: c) := rfl
    rw [e1]
    dsimp only [tYes, M.p]
    rw [h p List.mem_cons_self]
    dsimp only
    rw [ih (some (K p).1) (some (K p).2) fun e he => h e (List.mem_cons_of_mem _ he)]
    rfl
theorem comp_map1 {c : DSt} {fe : DSt → M D} {α : Type} {K : α → D} {F : α → D} (ps : List α) (x : Option D) (h : ∀ p ∈ ps, fe (some (K p) :: c) = some (.ok (F p))) : compD (gName 0) tYes fe (ps.map K) (x :: c) = some (ps.map F) := by
  induction ps generalizing x with
  | nil => rfl
  | cons p ps ih =>
    rw [List.map_cons]
    unfold compD
    have e1 : gName 0 (K p) (x :: c) = some (some (K p) :: c) := rfl
    rw [e1]
    dsimp only [tYes, M.p]
    rw [h p List.mem_cons_self]
    dsimp only
    rw [ih (some (K p)) fun e he => h e (List.mem_cons_of_mem _ he)]
    rfl
theorem zipD_ints (as bs : List Int) : zipD (as.map .int) (bs.map .int) = (as.zip bs).map fun p => .tup [.int p.1, .int p.2] := by
  rw [zipD_eq, List.zip_map, List.map_map]; rfl
end
end DL
namespace DL
open PySem PySem.Spec L2
noncomputable def bindS {α β : Type} (r : Option (Except XD α × Sto)) (f : α → MS β) : Option (Except XD β × Sto) := match r with
  | none => none
  | some (.error x, Ω') => some (.error x, Ω')
  | some (.ok a, Ω') => f a Ω'
section
variable {α β : Type} {Ω Ω' : Sto} {δ : DSt} {fa fb fo : DSt → MS D} {fl : DSt → MS (List D)} {ta : DSt → MS Bool} {g1 g2 : DSt → MS Out} {g : D → D → Option D}
@[simp] theorem s_b (m : MS α) (f : α → MS β) : (m.b f) Ω = bindS (m Ω) f := by
  unfold MS.b bindS
  cases m Ω with
  | none => rfl
  | some p => obtain ⟨q, Ω1⟩ := p; cases q <;> rfl
@[simp] theorem s_bok (a : α) (f : α → MS β) : bindS (some (.ok a, Ω')) f = f a Ω' := rfl
@[simp] theorem s_p (a : α) : MS.p a Ω = some (.ok a, Ω) := rfl
@[simp] theorem s_lp (a : α) : MS.l (M.p a) Ω = some (.ok a, Ω) := rfl
@[simp] theorem s_lok (a : α) : MS.l (some (.ok a) : M α) Ω = some (.ok a, Ω) := rfl
@[simp] theorem s_o (a : α) : MS.o (some a) Ω = some (.ok a, Ω) := rfl
@[simp] theorem s_lF (f : DSt → M α) : lF f δ = MS.l (f δ) := rfl
@[simp] theorem s_get (cs : List Str) (f : Str) : mGet cs f fa δ = (fa δ).b fun x => getO cs f x := rfl
@[simp] theorem s_cons : mCons fa fl δ = (fa δ).b fun x => (fl δ).b fun xs => MS.p (x :: xs) := rfl
@[simp] theorem s_2 : m2 g fa fb δ = (fa δ).b fun x => (fb δ).b fun y => MS.o (g x y) := rfl
@[simp] theorem s_L (k : List D → Option D) : mL k fl δ = (fl δ).b fun xs => MS.o (k xs) := rfl
@[simp] theorem s_callP (m : List D → M D) : mCallP m fl δ = (fl δ).b fun ds => MS.l (m ds) := rfl
@[simp] theorem s_call (m : List D → MS D) : mCall m fl δ = (fl δ).b m := rfl
@[simp] theorem s_set (i : Nat) : eSet i fa δ = (fa δ).b fun d => MS.p (.nx (δ.set i (some d))) := rfl
@[simp] theorem s_ret : eRet fa δ = (fa δ).b fun d => MS.p (.rt d) := rfl
@[simp] theorem s_drop : eDrop fa δ = (fa δ).b fun _ => MS.p (.nx δ) := rfl
@[simp] theorem s_put (cs : List Str) (f : Str) : ePut cs f fo fa δ = (fa δ).b fun d => (fo δ).b fun x => (putO cs f x d).b fun _ => MS.p (.nx δ) := rfl
@[simp] theorem s_if : eIf ta g1 g2 δ = (ta δ).b fun b => if b = true then g1 δ else g2 δ := rfl
@[simp] theorem s_nx : eNx δ = MS.p (.nx δ) := rfl
@[simp] theorem s_not : mNot ta δ = (ta δ).b fun x => MS.p !x := rfl
@[simp] theorem s_tru : mTru fa δ = (fa δ).b fun x => MS.o (truD x) := rfl
noncomputable def asBS : D → MS Bool
  | .bl k => MS.p k
  | _ => fun _ => none
@[simp] theorem asBS_bl (k : Bool) : asBS (.bl k) = MS.p k := rfl
@[simp] theorem s_B : mB fa δ = (fa δ).b asBS := by
  show (fa δ).b _ = _
  congr 1
noncomputable def seqS (g2 : DSt → MS Out) : Out → MS Out
  | .nx δ' => g2 δ'
  | o => MS.p o
@[simp] theorem seqS_nx (δ' : DSt) : seqS g2 (.nx δ') = g2 δ' := rfl
@[simp] theorem seqS_rt (d : D) : seqS g2 (.rt d) = MS.p (.rt d) := rfl
@[simp] theorem s_seq : eSeq g1 g2 δ = (g1 δ).b (seqS g2) := by
  show (g1 δ).b _ = _
  congr 1
@[simp] theorem s_out_rt (d : D) : outE (.rt d) = MS.p d := rfl
@[simp] theorem s_out_nx (δ : DSt) : outE (.nx δ) = MS.p .non := rfl
theorem s_mir1 (N : Nat) (x0 : D) : mirE 1 N g1 [x0] = (g1 (some x0 :: List.replicate (N - 1) none)).b outE := rfl
theorem s_mir2 (N : Nat) (x0 x1 : D) : mirE 2 N g1 [x0, x1] = (g1 (some x0 :: some x1 :: List.replicate (N - 2) none)).b outE := rfl
theorem s_mir3 (N : Nat) (x0 x1 x2 : D) : mirE 3 N g1 [x0, x1, x2] = (g1 (some x0 :: some x1 :: some x2 :: List.replicate (N - 3) none)).b outE := rfl
@[simp] theorem s_meth (c x : Str) (m : List D → MS D) : mMeth c x m fo fl δ = (fo δ).b fun o => match o with
  | .obj i => methO c x m i fl δ
  | _ => fun _ => none := rfl
@[simp] theorem s_make (c : Str) (m : List D → MS D) : mMake c m fl δ = (fl δ).b fun ds => makeO c m ds := rfl
@[simp] theorem s_for (fi : DSt → MS (List D)) (tg : D → DSt → Option DSt) : eFor fi tg g1 δ = (fi δ).b fun ds => forE g1 tg ds δ := rfl
end
end DL
namespace DL
open PySem PySem.Spec L2
section
variable {X : Cx} {O : List Nat} {E : XK} {b : Expr} {fb : DSt → M D} {pos : Pos}
end
end DL
namespace DL
open PySem PySem.Spec L2
theorem zip_tt (xs ys : List D) : zipArgs [.tup xs, .tup ys] = some (zipD xs ys) := rfl
end DL
namespace L2
open PySem PySem.Spec PyProof.Rows
section
variable {prog : Program} {w : World} {A : Around} {E : Value → Shared → Prop} {s : Shared} {I : Addr} {fp wr : List Addr} {G : Array GenState → Array GenState → Prop} {n : Nat} {P : Nat → Value → Prop} {St : Nat → Shared → Prop}
end
end L2
namespace DL
open PySem PySem.Spec L2
section
variable {X : Cx} {O : List Nat} {E : XK} {e o : Expr} {fo fe : DSt → M D} {pos p : Pos}
end
end DL
namespace MyLaw
open PySem PySem.Spec L2 DL
noncomputable def top (i : Nat) : Stmt := PySem.Challenge.pw_apartbook_k01_sums_read.main.body.getD i (.Pass ⟨0, 0, 0, 0⟩)
noncomputable abbrev s_law_mix : Stmt := top 32
noncomputable abbrev s_law_name : Stmt := top 34
noncomputable abbrev s_law_names : Stmt := top 35
noncomputable abbrev s_law_plain : Stmt := top 40
noncomputable abbrev s_law_named : Stmt := top 41
noncomputable abbrev s_law_scaled : Stmt := top 38
noncomputable abbrev s_law_added : Stmt := top 39
noncomputable abbrev s_law_term : Stmt := top 42
noncomputable abbrev s_law_at : Stmt := top 31
noncomputable abbrev s_law_grown : Stmt := top 43
noncomputable abbrev s_law_tree : Stmt := top 44
noncomputable abbrev s_law_written : Stmt := top 45
noncomputable abbrev s_law_whole : Stmt := top 33
noncomputable abbrev s_law_is_form : Stmt := top 36
noncomputable abbrev s_is_letter : Stmt := top 9
noncomputable abbrev s_is_figure : Stmt := top 10
noncomputable abbrev s_end_of_piece : Stmt := top 19
noncomputable abbrev s_depth_by : Stmt := top 21
noncomputable abbrev s_wanted_behind : Stmt := top 22
noncomputable abbrev s_may_stand : Stmt := top 20
noncomputable abbrev s_pieces_of : Stmt := top 18
noncomputable abbrev s_added : Stmt := top 26
noncomputable abbrev s_OpenSum_whole : Stmt := clsStmt (top 24) 3
noncomputable abbrev s_OpenSum_init__ : Stmt := clsStmt (top 24) 0
noncomputable abbrev s_times : Stmt := top 27
noncomputable abbrev s_is_plain : Stmt := top 29
noncomputable abbrev s_product : Stmt := top 28
noncomputable abbrev s_OpenSum_take_factor : Stmt := clsStmt (top 24) 1
noncomputable abbrev s_OpenSum_take_sign : Stmt := clsStmt (top 24) 2
noncomputable abbrev s_number_of_figures : Stmt := top 12
noncomputable abbrev s_number_of : Stmt := top 11
noncomputable abbrev s_form_of_word : Stmt := top 25
noncomputable abbrev s_reckoned : Stmt := top 23
noncomputable abbrev s_read_sum : Stmt := top 17
noncomputable abbrev s_law : Stmt := top 46
structure Txt (K : PySem.W.Frag) (mg : Str → Option Value) : Prop where
  c_OpenSum : ClsAt K mg "OpenSum" ["star", "term", "term_sign", "total"]
  f_law_mix : FunAt K mg "_law_mix" s_law_mix ["_law_number", "_law_place"]
  f_law_name : FunAt K mg "_law_name" s_law_name ["_law_number"]
  f_law_names : FunAt K mg "_law_names" s_law_names ["_law_number", "_law_most"]
  f_law_plain : FunAt K mg "_law_plain" s_law_plain ["_law_names_here", "_law_number", "_law_cell"]
  f_law_named : FunAt K mg "_law_named" s_law_named ["_law_names_here", "_law_number"]
  f_law_scaled : FunAt K mg "_law_scaled" s_law_scaled ["_law_form", "_law_many"]
  f_law_added : FunAt K mg "_law_added" s_law_added ["_law_one", "_law_other"]
  f_law_term : FunAt K mg "_law_term" s_law_term ["_law_names_here", "_law_number", "_law_cell"]
  f_law_at : FunAt K mg "_law_at" s_law_at ["_law_script", "_law_k"]
  f_law_grown : FunAt K mg "_law_grown" s_law_grown ["_law_tree_here", "_law_names_here", "_law_number", "_law_cell"]
  f_law_tree : FunAt K mg "_law_tree" s_law_tree ["_law_script", "_law_names_here", "_law_first", "_law_last"]
  f_law_written : FunAt K mg "_law_written" s_law_written ["_law_tokens", "_law_number"]
  f_law_whole : FunAt K mg "_law_whole" s_law_whole ["_law_found"]
  f_law_is_form : FunAt K mg "_law_is_form" s_law_is_form ["_law_found", "_law_due"]
  f_is_letter : FunAt K mg "is_letter" s_is_letter ["sign"]
  f_is_figure : FunAt K mg "is_figure" s_is_figure ["sign"]
  f_end_of_piece : FunAt K mg "end_of_piece" s_end_of_piece ["text", "place"]
  f_depth_by : FunAt K mg "depth_by" s_depth_by ["word"]
  f_wanted_behind : FunAt K mg "wanted_behind" s_wanted_behind ["word"]
  f_may_stand : FunAt K mg "may_stand" s_may_stand ["sign", "wanted", "depth"]
  f_pieces_of : FunAt K mg "pieces_of" s_pieces_of ["text"]
  f_added : FunAt K mg "added" s_added ["left", "right"]
  f_OpenSum_whole : MetAt K mg "OpenSum" "whole" "OpenSum.whole" s_OpenSum_whole ["self"]
  f_OpenSum_init__ : IniAt K mg "OpenSum" "OpenSum.__init__" s_OpenSum_init__ ["self", "width"]
  f_times : FunAt K mg "times" s_times ["form", "number"]
  f_is_plain : FunAt K mg "is_plain" s_is_plain ["form"]
  f_product : FunAt K mg "product" s_product ["left", "right", "place"]
  f_OpenSum_take_factor : MetAt K mg "OpenSum" "take_factor" "OpenSum.take_factor" s_OpenSum_take_factor ["self", "form"]
  f_OpenSum_take_sign : MetAt K mg "OpenSum" "take_sign" "OpenSum.take_sign" s_OpenSum_take_sign ["self", "sign", "place"]
  f_number_of_figures : FunAt K mg "number_of_figures" s_number_of_figures ["word"]
  f_number_of : FunAt K mg "number_of" s_number_of ["word"]
  f_form_of_word : FunAt K mg "form_of_word" s_form_of_word ["names", "word"]
  f_reckoned : FunAt K mg "reckoned" s_reckoned ["names", "pieces"]
  f_read_sum : FunAt K mg "read_sum" s_read_sum ["names", "text"]
  f_law : FunAt K mg "law" s_law ["_law_script"]
  g_BEGINNING : ∃ t, mg "BEGINNING" = some (.str "beginning" t)
  g_BEHIND : ∃ t, mg "BEHIND" = some (.str "behind" t)
  g_FACTOR : ∃ t, mg "FACTOR" = some (.str "factor" t)
  g_NAME_LENGTH : ∃ t, mg "NAME_LENGTH" = some (.int 10 t)
  g_PART_FIGURES : ∃ t, mg "PART_FIGURES" = some (.int 18 t)
  g_PART_SIZE : ∃ t, mg "PART_SIZE" = some (.int 1000000000000000000 t)
  b_all : mg "all" = none
  b_bool : mg "bool" = none
  b_int : mg "int" = none
  b_isinstance : mg "isinstance" = none
  b_len : mg "len" = none
  b_list : mg "list" = none
  b_range : mg "range" = none
  b_str : mg "str" = none
  b_tuple : mg "tuple" = none
  b_zip : mg "zip" = none
section
variable {P : Program} {w : World} {K : PySem.W.Frag} {mg : Str → Option Value} {base : Heap}
theorem sc_law_mix : FnScope ["_law_number", "_law_place", "_law_turn", "_law_part"] ["_law_number", "_law_place"] (defScope s_law_mix) := ⟨rfl, rfl, rfl, by decide +kernel, rfl, by decide +kernel, by decide +kernel⟩
noncomputable def b1_law_mix : DSt → M Out := (gSet 0 (f2 gFdiv (fVar 0) (fC (.int 2147483648))))
noncomputable def g_law_mix : DSt → M Out := (gSeq (gIf (t2 gGe (fVar 0) (f2 gPow (fC (.int 10)) (fC (.int 12)))) (gSeq (gSet 0 (f2 gSub (f2 gFdiv (fVar 0) (f2 gPow (fC (.int 10)) (fC (.int 12)))) (fC (.int 1))))
    (gSeq (gFor (iArgs rangeArgs (fCons (f2 gMod (fVar 1) (fC (.int 61))) fNil)) (DL.gName 2) b1_law_mix)
    (gRet (f2 gMod (fVar 0) (fC (.int 2147483648)))))) gNx)
    (gSeq (gSet 3 (f2 gMod (f2 gMulT (f2 gCat (f2 gCat (f2 gMod (fVar 0) (fC (.int 2147483629))) (fVar 1)) (fC (.int 1))) (f2 gCat (f2 gMulT (f2 gMulT (fC (.int 8)) (fVar 1)) (fVar 1)) (fC (.int 48271)))) (fC (.int 2147483647))))
    (gSeq (gSet 3 (f2 gMod (f2 gMulT (fVar 3) (fVar 3)) (fC (.int 2147483587))))
    (gRet (f2 gMod (f2 gMulT (fVar 3) (f2 gCat (fVar 3) (fC (.int 2)))) (fC (.int 2147483579)))))))
noncomputable def m_law_mix : List D → M D := mir 2 4 g_law_mix
theorem body_law_mix (T : Txt K mg) (f : Addr) (cdv : Value) (A : Around) (outer : List Env) (s : Shared) (H : Hp) (E : XK) (hr : Room 1 (A.deeper (PyProof.Rows.envOfC "_law_mix" (defScope s_law_mix) s.heap.objs.size f cdv))) :
    DSs (cxOf CX0 P w K mg base ["_law_number", "_law_place", "_law_turn", "_law_part"] "_law_mix" (defScope s_law_mix) f cdv A outer s H E).nox [] [] [] E (defBody s_law_mix) g_law_mix :=
  (dss_cons (ds_if (dt_cmp op_geD opd_cmp (de_var 0) (de_op op_pow opd_pow de_int de_int) (nomark _)) (dss_cons (ds_set (i := 0) sc_law_mix.nd (de_op op_sub opd_sub (de_op op_fdivD opd_fdiv (de_var 0) (de_op op_pow opd_pow de_int de_int)) de_int))
    (dss_cons (ds_for PassesOwn.never rfl (di_range rfl T.b_range (da_cons (de_op op_mod opd_mod (de_var 1) de_int) da_nil)) (dg_name (i := 2) sc_law_mix.nd) (dss_one (ds_set (i := 0) sc_law_mix.nd (de_op op_fdivD opd_fdiv (de_var 0) de_int))))
    (dss_one (ds_ret (de_op op_mod opd_mod (de_var 0) de_int))))) dss_nil)
    (dss_cons (ds_set (i := 3) sc_law_mix.nd (de_op op_mod opd_mod (de_op op_mulT opd_mulT (de_op op_addC opd_cat (de_op op_addC opd_cat (de_op op_mod opd_mod (de_var 0) de_int) (de_var 1)) de_int) (de_op op_addC opd_cat (de_op op_mulT opd_mulT (de_op op_mulT opd_mulT de_int (de_var 1)) (de_var 1)) de_int)) de_int))
    (dss_cons (ds_set (i := 3) sc_law_mix.nd (de_op op_mod opd_mod (de_op op_mulT opd_mulT (de_var 3) (de_var 3)) de_int))
    (dss_one (ds_ret (de_op op_mod opd_mod (de_op op_mulT opd_mulT (de_var 3) (de_op op_addC opd_cat (de_var 3) de_int)) de_int))))))
theorem ok_law_mix (T : Txt K mg) : Cal P w K mg base 2 "_law_mix" 2 m_law_mix := cal_of T.f_law_mix sc_law_mix (body_law_mix T)
theorem sc_law_name : FnScope ["_law_number", "_law_name_here", "_law_k"] ["_law_number"] (defScope s_law_name) := ⟨rfl, rfl, rfl, by decide +kernel, rfl, by decide +kernel, by decide +kernel⟩
noncomputable def b1_law_name : DSt → M Out := (gSet 1 (f2 gCat (fVar 1) (f2 gIx (fC (.str "abcdefghijklmnopqrstuvwxyz")) (f2 gMod (fCall m_law_mix (fCons (fVar 0) (fCons (fVar 2) fNil))) (f2 gIx (fL gLstD (fCons (fC (.int 26)) (fCons (fC (.int 2)) fNil))) (f2 gMod (f2 gFdiv (fVar 0) (fC (.int 10))) (fC (.int 2))))))))
noncomputable def g_law_name : DSt → M Out := (gSeq (gSet 1 (fC (.str "")))
    (gSeq (gFor (iArgs rangeArgs (fCons (f2 gCat (fC (.int 1)) (f2 gMod (fVar 0) (fC (.int 10)))) fNil)) (DL.gName 2) b1_law_name)
    (gRet (fVar 1))))
noncomputable def m_law_name : List D → M D := mir 1 3 g_law_name
theorem body_law_name (T : Txt K mg) (f : Addr) (cdv : Value) (A : Around) (outer : List Env) (s : Shared) (H : Hp) (E : XK) (hr : Room 2 (A.deeper (PyProof.Rows.envOfC "_law_name" (defScope s_law_name) s.heap.objs.size f cdv))) :
    DSs (cxOf CX0 P w K mg base ["_law_number", "_law_name_here", "_law_k"] "_law_name" (defScope s_law_name) f cdv A outer s H E).nox [] [] [] E (defBody s_law_name) g_law_name :=
  (dss_cons (ds_set (i := 1) sc_law_name.nd de_str)
    (dss_cons (ds_for PassesOwn.never rfl (di_range rfl T.b_range (da_cons (de_op op_addC opd_cat de_int (de_op op_mod opd_mod (de_var 0) de_int)) da_nil)) (dg_name (i := 2) sc_law_name.nd) (dss_one (ds_set (i := 1) sc_law_name.nd (de_op op_addC opd_cat (de_var 1) (de_ix ix_seq opd_ix de_str (de_op op_mod opd_mod (de_call (ok_law_mix T) (hr.mono (by decide)) (da_cons (de_var 0) (da_cons (de_var 2) da_nil))) (de_ix ix_seq opd_ix (de_lst (da_cons de_int (da_cons de_int da_nil))) (de_op op_mod opd_mod (de_op op_fdivD opd_fdiv (de_var 0) de_int) de_int))))))))
    (dss_one (ds_ret (de_var 1)))))
theorem ok_law_name (T : Txt K mg) : Cal P w K mg base 3 "_law_name" 1 m_law_name := cal_of T.f_law_name sc_law_name (body_law_name T)
theorem sc_law_names : FnScope ["_law_number", "_law_most", "_law_names_here", "_law_k", "_law_name_here"] ["_law_number", "_law_most"] (defScope s_law_names) := ⟨rfl, rfl, rfl, by decide +kernel, rfl, by decide +kernel, by decide +kernel⟩
noncomputable def b1_law_names : DSt → M Out := (gSeq (gSet 4 (fCall m_law_name (fCons (fCall m_law_mix (fCons (fVar 0) (fCons (f2 gCat (fC (.int 20)) (fVar 3)) fNil))) fNil)))
    (gIf (t2 gNotIn (fVar 4) (fVar 2)) (gApp 2 (fVar 4)) gNx))
noncomputable def g_law_names : DSt → M Out := (gSeq (gSet 2 (fL gLstD fNil))
    (gSeq (gFor (iArgs rangeArgs (fCons (f2 gCat (fC (.int 1)) (f2 gMod (fVar 0) (fVar 1))) fNil)) (DL.gName 3) b1_law_names)
    (gRet (fVar 2))))
noncomputable def m_law_names : List D → M D := mir 2 5 g_law_names
theorem body_law_names (T : Txt K mg) (f : Addr) (cdv : Value) (A : Around) (outer : List Env) (s : Shared) (H : Hp) (E : XK) (hr : Room 3 (A.deeper (PyProof.Rows.envOfC "_law_names" (defScope s_law_names) s.heap.objs.size f cdv))) :
    DSs (cxOf CX0 P w K mg base ["_law_number", "_law_most", "_law_names_here", "_law_k", "_law_name_here"] "_law_names" (defScope s_law_names) f cdv A outer s H E).nox [] [] [] E (defBody s_law_names) g_law_names :=
  (dss_cons (ds_own (i := 2) sc_law_names.nd da_nil)
    (dss_cons (ds_for PassesOwn.never rfl (di_range rfl T.b_range (da_cons (de_op op_addC opd_cat de_int (de_op op_mod opd_mod (de_var 0) (de_var 1))) da_nil)) (dg_name (i := 3) sc_law_names.nd) (dss_cons (ds_set (i := 4) sc_law_names.nd (de_call (ok_law_name T) (hr.mono (by decide)) (da_cons (de_call (ok_law_mix T) (hr.mono (by decide)) (da_cons (de_var 0) (da_cons (de_op op_addC opd_cat de_int (de_var 3)) da_nil))) da_nil)))
    (dss_one (ds_if (dt_thaw (O' := []) (by decide) (dt_cmp op_notIn_seq opd_notin (de_var 4) (de_var 2) rfl)) (dss_one (ds_app (i := 2) rfl (de_var 4))) dss_nil))))
    (dss_pre (O' := []) (by decide) (dss_one (ds_ret (de_var 2))))))
theorem ok_law_names (T : Txt K mg) : Cal P w K mg base 4 "_law_names" 2 m_law_names := cal_of T.f_law_names sc_law_names (body_law_names T)
theorem sc_law_plain : FnScope ["_law_names_here", "_law_number", "_law_cell", "_law_value"] ["_law_names_here", "_law_number", "_law_cell"] (defScope s_law_plain) := ⟨rfl, rfl, rfl, by decide +kernel, rfl, by decide +kernel, by decide +kernel⟩
noncomputable def g_law_plain : DSt → M Out := (gSeq (gSet 3 (f2 gMod (f2 gFdiv (fVar 1) (fC (.int 8))) (fC (.int 4))))
    (gSeq (gIf (t2 gEq (f2 gMod (fVar 1) (fC (.int 4))) (fC (.int 0))) (gSet 3 (f2 gMod (fVar 2) (f2 gIx (fL gLstD (fCons (fC (.int 100)) (fCons (f2 gPow (fC (.int 10)) (fC (.int 30))) fNil))) (f2 gFdiv (f2 gMod (f2 gFdiv (fVar 1) (fC (.int 32))) (fC (.int 4))) (fC (.int 3)))))) gNx)
    (gRet (fL gTupD (fCons (fL gLstD (fCons (fL kStr (fCons (fVar 3) fNil)) fNil)) (fCons (fL gTupD (fCons (f2 gMulT (fL gTupD (fCons (fC (.int 0)) fNil)) (fL kLen (fCons (fVar 0) fNil))) (fCons (fVar 3) fNil))) fNil))))))
noncomputable def m_law_plain : List D → M D := mir 3 4 g_law_plain
theorem body_law_plain (T : Txt K mg) (f : Addr) (cdv : Value) (A : Around) (outer : List Env) (s : Shared) (H : Hp) (E : XK) (hr : Room 1 (A.deeper (PyProof.Rows.envOfC "_law_plain" (defScope s_law_plain) s.heap.objs.size f cdv))) :
    DSs (cxOf CX0 P w K mg base ["_law_names_here", "_law_number", "_law_cell", "_law_value"] "_law_plain" (defScope s_law_plain) f cdv A outer s H E).nox [] [] [] E (defBody s_law_plain) g_law_plain :=
  (dss_cons (ds_set (i := 3) sc_law_plain.nd (de_op op_mod opd_mod (de_op op_fdivD opd_fdiv (de_var 1) de_int) de_int))
    (dss_cons (ds_if (dt_cmp (op_eqD (hu30 hr)) opd_eq (de_op op_mod opd_mod (de_var 1) de_int) de_int (nomark _)) (dss_one (ds_set (i := 3) sc_law_plain.nd (de_op op_mod opd_mod (de_var 2) (de_ix ix_seq opd_ix (de_lst (da_cons de_int (da_cons (de_op op_pow opd_pow de_int de_int) da_nil))) (de_op op_fdivD opd_fdiv (de_op op_mod opd_mod (de_op op_fdivD opd_fdiv (de_var 1) de_int) de_int) de_int))))) dss_nil)
    (dss_one (ds_ret (de_tup (da_cons (de_lst (da_cons (de_callTy call_str_int cad_str rfl T.b_str bt_str (da_cons (de_var 3) da_nil)) da_nil)) (da_cons (de_tup (da_cons (de_op op_mulT opd_mulT (de_tup (da_cons de_int da_nil)) (de_callB call_lenD cad_len rfl T.b_len bt_len (da_cons (de_var 0) da_nil))) (da_cons (de_var 3) da_nil))) da_nil)))))))
theorem ok_law_plain (T : Txt K mg) : Cal P w K mg base 2 "_law_plain" 3 m_law_plain := cal_of T.f_law_plain sc_law_plain (body_law_plain T)
theorem sc_law_named : FnScope ["_law_names_here", "_law_number", "_law_at_here"] ["_law_names_here", "_law_number"] (defScope s_law_named) := ⟨rfl, rfl, rfl, by decide +kernel, rfl, by decide +kernel, by decide +kernel⟩
noncomputable def c1_law_named : DSt → M D := (fL kIntT (fCons (f2 gEq (fVar 0) (fVar 1)) fNil))
noncomputable def g_law_named : DSt → M Out := (gSeq (gSet 2 (f2 gMod (fVar 1) (fL kLen (fCons (fVar 0) fNil))))
    (gRet (fL gTupD (fCons (fL gLstD (fCons (f2 gIx (fVar 0) (fVar 2)) fNil)) (fCons (fL gTupD (fCons (fL kTuple (fCons (fComp 1 [("_law_at_here", 2)] (iArgs rangeArgs (fCons (fL kLen (fCons (fVar 0) fNil)) fNil)) (DL.gName 0) tYes c1_law_named) fNil)) (fCons (fC (.int 0)) fNil))) fNil)))))
noncomputable def m_law_named : List D → M D := mir 2 3 g_law_named
theorem body_law_named (T : Txt K mg) (f : Addr) (cdv : Value) (A : Around) (outer : List Env) (s : Shared) (H : Hp) (E : XK) (hr : Room 1 (A.deeper (PyProof.Rows.envOfC "_law_named" (defScope s_law_named) s.heap.objs.size f cdv))) :
    DSs (cxOf CX0 P w K mg base ["_law_names_here", "_law_number", "_law_at_here"] "_law_named" (defScope s_law_named) f cdv A outer s H E).nox [] [] [] E (defBody s_law_named) g_law_named :=
  (dss_cons (ds_set (i := 2) sc_law_named.nd (de_op op_mod opd_mod (de_var 1) (de_callB call_lenD cad_len rfl T.b_len bt_len (da_cons (de_var 0) da_nil))))
    (dss_one (ds_ret (de_tup (da_cons (de_lst (da_cons (de_ix ix_seq opd_ix (de_var 0) (de_var 2)) da_nil)) (da_cons (de_tup (da_cons (de_callTy call_tuple_of cad_tuple rfl T.b_tuple bt_tuple (da_cons (de_comp (own := ["_law_k"]) (caps := [("_law_at_here", 2)]) rfl (caps_of (N := ["_law_names_here", "_law_number", "_law_at_here"]) (osc := defScope s_law_named) rfl rfl rfl (by decide +kernel)) (di_range rfl T.b_range (da_cons (de_callB call_lenD cad_len rfl T.b_len bt_len (da_cons (de_var 0) da_nil)) da_nil)) (fun _ _ _ _ => (dg_name (i := 0) (show (["_law_k", "_law_at_here"] : List Str).Nodup from by decide +kernel))) (fun _ _ _ _ => dc_none) (fun _ _ _ _ => (de_callTy call_intT cad_intT rfl T.b_int bt_int (da_cons (de_cmp (op_eqD (hu30 hr)) opd_eq (de_var 0) (de_var 1) (nomark _)) da_nil)))) da_nil)) (da_cons de_int da_nil))) da_nil))))))
theorem ok_law_named (T : Txt K mg) : Cal P w K mg base 2 "_law_named" 2 m_law_named := cal_of T.f_law_named sc_law_named (body_law_named T)
theorem sc_law_scaled : FnScope ["_law_form", "_law_many"] ["_law_form", "_law_many"] (defScope s_law_scaled) := ⟨rfl, rfl, rfl, by decide +kernel, rfl, by decide +kernel, by decide +kernel⟩
noncomputable def c1_law_scaled : DSt → M D := (f2 gMulT (fVar 1) (fVar 0))
noncomputable def g_law_scaled : DSt → M Out := (gRet (fL gTupD (fCons (fL kTuple (fCons (fComp 1 [("_law_many", 1)] (iSeqD (f2 gIx (fVar 0) (fC (.int 0)))) (DL.gName 0) tYes c1_law_scaled) fNil)) (fCons (f2 gMulT (fVar 1) (f2 gIx (fVar 0) (fC (.int 1)))) fNil))))
noncomputable def m_law_scaled : List D → M D := mir 2 2 g_law_scaled
theorem body_law_scaled (T : Txt K mg) (f : Addr) (cdv : Value) (A : Around) (outer : List Env) (s : Shared) (H : Hp) (E : XK) (hr : Room 1 (A.deeper (PyProof.Rows.envOfC "_law_scaled" (defScope s_law_scaled) s.heap.objs.size f cdv))) :
    DSs (cxOf CX0 P w K mg base ["_law_form", "_law_many"] "_law_scaled" (defScope s_law_scaled) f cdv A outer s H E).nox [] [] [] E (defBody s_law_scaled) g_law_scaled :=
  (dss_one (ds_ret (de_tup (da_cons (de_callTy call_tuple_of cad_tuple rfl T.b_tuple bt_tuple (da_cons (de_comp (own := ["_law_number"]) (caps := [("_law_many", 1)]) rfl (caps_of (N := ["_law_form", "_law_many"]) (osc := defScope s_law_scaled) rfl rfl rfl (by decide +kernel)) (di_seq (de_ix ix_seq opd_ix (de_var 0) de_int)) (fun _ _ _ _ => (dg_name (i := 0) (show (["_law_number", "_law_many"] : List Str).Nodup from by decide +kernel))) (fun _ _ _ _ => dc_none) (fun _ _ _ _ => (de_op op_mulT opd_mulT (de_var 1) (de_var 0)))) da_nil)) (da_cons (de_op op_mulT opd_mulT (de_var 1) (de_ix ix_seq opd_ix (de_var 0) de_int)) da_nil)))))
theorem ok_law_scaled (T : Txt K mg) : Cal P w K mg base 2 "_law_scaled" 2 m_law_scaled := cal_of T.f_law_scaled sc_law_scaled (body_law_scaled T)
theorem sc_law_added : FnScope ["_law_one", "_law_other"] ["_law_one", "_law_other"] (defScope s_law_added) := ⟨rfl, rfl, rfl, by decide +kernel, rfl, by decide +kernel, by decide +kernel⟩
noncomputable def c1_law_added : DSt → M D := (f2 gCat (fVar 0) (fVar 1))
noncomputable def g_law_added : DSt → M Out := (gRet (fL gTupD (fCons (fL kTuple (fCons (fComp 2 [] (iArgs zipArgs (fCons (f2 gIx (fVar 0) (fC (.int 0))) (fCons (f2 gIx (fVar 1) (fC (.int 0))) fNil))) (gTup2 0 1) tYes c1_law_added) fNil)) (fCons (f2 gCat (f2 gIx (fVar 0) (fC (.int 1))) (f2 gIx (fVar 1) (fC (.int 1)))) fNil))))
noncomputable def m_law_added : List D → M D := mir 2 2 g_law_added
theorem body_law_added (T : Txt K mg) (f : Addr) (cdv : Value) (A : Around) (outer : List Env) (s : Shared) (H : Hp) (E : XK) (hr : Room 1 (A.deeper (PyProof.Rows.envOfC "_law_added" (defScope s_law_added) s.heap.objs.size f cdv))) :
    DSs (cxOf CX0 P w K mg base ["_law_one", "_law_other"] "_law_added" (defScope s_law_added) f cdv A outer s H E).nox [] [] [] E (defBody s_law_added) g_law_added :=
  (dss_one (ds_ret (de_tup (da_cons (de_callTy call_tuple_of cad_tuple rfl T.b_tuple bt_tuple (da_cons (de_comp (own := ["_law_x", "_law_y"]) (caps := []) rfl (caps_of (N := ["_law_one", "_law_other"]) (osc := defScope s_law_added) rfl rfl rfl (by decide +kernel)) (di_zip rfl T.b_zip (da_cons (de_ix ix_seq opd_ix (de_var 0) de_int) (da_cons (de_ix ix_seq opd_ix (de_var 1) de_int) da_nil))) (fun _ _ _ _ => (dg_tup2 (i := 0) (j := 1) rfl (show (["_law_x", "_law_y"] : List Str).Nodup from by decide +kernel))) (fun _ _ _ _ => dc_none) (fun _ _ _ _ => (de_op op_addC opd_cat (de_var 0) (de_var 1)))) da_nil)) (da_cons (de_op op_addC opd_cat (de_ix ix_seq opd_ix (de_var 0) de_int) (de_ix ix_seq opd_ix (de_var 1) de_int)) da_nil)))))
theorem ok_law_added (T : Txt K mg) : Cal P w K mg base 2 "_law_added" 2 m_law_added := cal_of T.f_law_added sc_law_added (body_law_added T)
theorem sc_law_term : FnScope ["_law_names_here", "_law_number", "_law_cell", "_law_one", "_law_other", "_law_value", "_law_form", "_law_way", "_law_both"] ["_law_names_here", "_law_number", "_law_cell"] (defScope s_law_term) := ⟨rfl, rfl, rfl, by decide +kernel, rfl, by decide +kernel, by decide +kernel⟩
noncomputable def g_law_term : DSt → M Out := (gSeq (gSet 3 (fCall m_law_plain (fCons (fVar 0) (fCons (f2 gFdiv (fVar 1) (fC (.int 8))) (fCons (fVar 2) fNil)))))
    (gSeq (gSet 4 (fCall m_law_named (fCons (fVar 0) (fCons (f2 gFdiv (fVar 1) (fC (.int 64))) fNil))))
    (gSeq (gSet 5 (f2 gIx (f2 gIx (fVar 3) (fC (.int 1))) (fC (.int 1))))
    (gSeq (gSet 6 (fCall m_law_scaled (fCons (f2 gIx (fVar 4) (fC (.int 1))) (fCons (fVar 5) fNil))))
    (gSeq (gSet 7 (f2 gMod (fVar 1) (fC (.int 8))))
    (gSeq (gIf (t2 gEq (fVar 7) (fC (.int 0))) (gRet (fVar 3)) gNx)
    (gSeq (gIf (t2 gLt (fVar 7) (fC (.int 3))) (gRet (fVar 4)) gNx)
    (gSeq (gIf (t2 gEq (fVar 7) (fC (.int 3))) (gRet (fL gTupD (fCons (f2 gCat (f2 gCat (f2 gIx (fVar 3) (fC (.int 0))) (fL gLstD (fCons (fC (.str "*")) fNil))) (f2 gIx (fVar 4) (fC (.int 0)))) (fCons (fVar 6) fNil)))) gNx)
    (gSeq (gIf (t2 gEq (fVar 7) (fC (.int 4))) (gRet (fL gTupD (fCons (f2 gCat (f2 gCat (f2 gIx (fVar 4) (fC (.int 0))) (fL gLstD (fCons (fC (.str "*")) fNil))) (f2 gIx (fVar 3) (fC (.int 0)))) (fCons (fVar 6) fNil)))) gNx)
    (gSeq (gIf (t2 gEq (fVar 7) (fC (.int 5))) (gRet (fL gTupD (fCons (f2 gCat (f2 gCat (f2 gCat (f2 gCat (f2 gCat (f2 gCat (f2 gCat (fL gLstD (fCons (fC (.str "(")) fNil)) (f2 gIx (fVar 4) (fC (.int 0)))) (fL gLstD (fCons (fC (.str "-")) fNil))) (f2 gIx (fVar 4) (fC (.int 0)))) (fL gLstD (fCons (fC (.str "+")) fNil))) (f2 gIx (fVar 3) (fC (.int 0)))) (fL gLstD (fCons (fC (.str ")")) (fCons (fC (.str "*")) fNil)))) (f2 gIx (fVar 4) (fC (.int 0)))) (fCons (fVar 6) fNil)))) gNx)
    (gSeq (gSet 8 (f2 gCat (f2 gCat (f2 gCat (f2 gCat (fL gLstD (fCons (fC (.str "(")) fNil)) (f2 gIx (fVar 4) (fC (.int 0)))) (fL gLstD (fCons (fC (.str "+")) fNil))) (f2 gIx (fVar 3) (fC (.int 0)))) (fL gLstD (fCons (fC (.str ")")) fNil))))
    (gSeq (gSet 6 (fCall m_law_added (fCons (f2 gIx (fVar 4) (fC (.int 1))) (fCons (f2 gIx (fVar 3) (fC (.int 1))) fNil))))
    (gSeq (gIf (t2 gEq (fVar 7) (fC (.int 6))) (gRet (fL gTupD (fCons (fVar 8) (fCons (fVar 6) fNil)))) gNx)
    (gRet (fL gTupD (fCons (f2 gCat (f2 gCat (fVar 8) (fL gLstD (fCons (fC (.str "*")) (fCons (fC (.str "2")) (fCons (fC (.str "*")) fNil))))) (f2 gIx (fVar 3) (fC (.int 0)))) (fCons (fCall m_law_scaled (fCons (fVar 6) (fCons (f2 gMulT (fC (.int 2)) (fVar 5)) fNil))) fNil)))))))))))))))))
noncomputable def m_law_term : List D → M D := mir 3 9 g_law_term
theorem body_law_term (T : Txt K mg) (f : Addr) (cdv : Value) (A : Around) (outer : List Env) (s : Shared) (H : Hp) (E : XK) (hr : Room 2 (A.deeper (PyProof.Rows.envOfC "_law_term" (defScope s_law_term) s.heap.objs.size f cdv))) :
    DSs (cxOf CX0 P w K mg base ["_law_names_here", "_law_number", "_law_cell", "_law_one", "_law_other", "_law_value", "_law_form", "_law_way", "_law_both"] "_law_term" (defScope s_law_term) f cdv A outer s H E).nox [] [] [] E (defBody s_law_term) g_law_term :=
  (dss_cons (ds_set (i := 3) sc_law_term.nd (de_call (ok_law_plain T) (hr.mono (by decide)) (da_cons (de_var 0) (da_cons (de_op op_fdivD opd_fdiv (de_var 1) de_int) (da_cons (de_var 2) da_nil)))))
    (dss_cons (ds_set (i := 4) sc_law_term.nd (de_call (ok_law_named T) (hr.mono (by decide)) (da_cons (de_var 0) (da_cons (de_op op_fdivD opd_fdiv (de_var 1) de_int) da_nil))))
    (dss_cons (ds_set (i := 5) sc_law_term.nd (de_ix ix_seq opd_ix (de_ix ix_seq opd_ix (de_var 3) de_int) de_int))
    (dss_cons (ds_set (i := 6) sc_law_term.nd (de_call (ok_law_scaled T) (hr.mono (by decide)) (da_cons (de_ix ix_seq opd_ix (de_var 4) de_int) (da_cons (de_var 5) da_nil))))
    (dss_cons (ds_set (i := 7) sc_law_term.nd (de_op op_mod opd_mod (de_var 1) de_int))
    (dss_cons (ds_if (dt_cmp (op_eqD (hu30 hr)) opd_eq (de_var 7) de_int (nomark _)) (dss_one (ds_ret (de_var 3))) dss_nil)
    (dss_cons (ds_if (dt_cmp op_ltD opd_cmp (de_var 7) de_int (nomark _)) (dss_one (ds_ret (de_var 4))) dss_nil)
    (dss_cons (ds_if (dt_cmp (op_eqD (hu30 hr)) opd_eq (de_var 7) de_int (nomark _)) (dss_one (ds_ret (de_tup (da_cons (de_op op_addC opd_cat (de_op op_addC opd_cat (de_ix ix_seq opd_ix (de_var 3) de_int) (de_lst (da_cons de_str da_nil))) (de_ix ix_seq opd_ix (de_var 4) de_int)) (da_cons (de_var 6) da_nil))))) dss_nil)
    (dss_cons (ds_if (dt_cmp (op_eqD (hu30 hr)) opd_eq (de_var 7) de_int (nomark _)) (dss_one (ds_ret (de_tup (da_cons (de_op op_addC opd_cat (de_op op_addC opd_cat (de_ix ix_seq opd_ix (de_var 4) de_int) (de_lst (da_cons de_str da_nil))) (de_ix ix_seq opd_ix (de_var 3) de_int)) (da_cons (de_var 6) da_nil))))) dss_nil)
    (dss_cons (ds_if (dt_cmp (op_eqD (hu30 hr)) opd_eq (de_var 7) de_int (nomark _)) (dss_one (ds_ret (de_tup (da_cons (de_op op_addC opd_cat (de_op op_addC opd_cat (de_op op_addC opd_cat (de_op op_addC opd_cat (de_op op_addC opd_cat (de_op op_addC opd_cat (de_op op_addC opd_cat (de_lst (da_cons de_str da_nil)) (de_ix ix_seq opd_ix (de_var 4) de_int)) (de_lst (da_cons de_str da_nil))) (de_ix ix_seq opd_ix (de_var 4) de_int)) (de_lst (da_cons de_str da_nil))) (de_ix ix_seq opd_ix (de_var 3) de_int)) (de_lst (da_cons de_str (da_cons de_str da_nil)))) (de_ix ix_seq opd_ix (de_var 4) de_int)) (da_cons (de_var 6) da_nil))))) dss_nil)
    (dss_cons (ds_set (i := 8) sc_law_term.nd (de_op op_addC opd_cat (de_op op_addC opd_cat (de_op op_addC opd_cat (de_op op_addC opd_cat (de_lst (da_cons de_str da_nil)) (de_ix ix_seq opd_ix (de_var 4) de_int)) (de_lst (da_cons de_str da_nil))) (de_ix ix_seq opd_ix (de_var 3) de_int)) (de_lst (da_cons de_str da_nil))))
    (dss_cons (ds_set (i := 6) sc_law_term.nd (de_call (ok_law_added T) (hr.mono (by decide)) (da_cons (de_ix ix_seq opd_ix (de_var 4) de_int) (da_cons (de_ix ix_seq opd_ix (de_var 3) de_int) da_nil))))
    (dss_cons (ds_if (dt_cmp (op_eqD (hu30 hr)) opd_eq (de_var 7) de_int (nomark _)) (dss_one (ds_ret (de_tup (da_cons (de_var 8) (da_cons (de_var 6) da_nil))))) dss_nil)
    (dss_one (ds_ret (de_tup (da_cons (de_op op_addC opd_cat (de_op op_addC opd_cat (de_var 8) (de_lst (da_cons de_str (da_cons de_str (da_cons de_str da_nil))))) (de_ix ix_seq opd_ix (de_var 3) de_int)) (da_cons (de_call (ok_law_scaled T) (hr.mono (by decide)) (da_cons (de_var 6) (da_cons (de_op op_mulT opd_mulT de_int (de_var 5)) da_nil))) da_nil))))))))))))))))))
theorem ok_law_term (T : Txt K mg) : Cal P w K mg base 3 "_law_term" 3 m_law_term := cal_of T.f_law_term sc_law_term (body_law_term T)
theorem sc_law_at : FnScope ["_law_script", "_law_k"] ["_law_script", "_law_k"] (defScope s_law_at) := ⟨rfl, rfl, rfl, by decide +kernel, rfl, by decide +kernel, by decide +kernel⟩
noncomputable def g_law_at : DSt → M Out := (gSeq (gIf (t2 gLt (fVar 1) (fL kLen (fCons (fVar 0) fNil))) (gRet (f2 gIx (fVar 0) (fVar 1))) gNx)
    (gRet (f2 gCat (f2 gMulT (fC (.int 19)) (fVar 1)) (fC (.int 8)))))
noncomputable def m_law_at : List D → M D := mir 2 2 g_law_at
theorem body_law_at (T : Txt K mg) (f : Addr) (cdv : Value) (A : Around) (outer : List Env) (s : Shared) (H : Hp) (E : XK) (hr : Room 1 (A.deeper (PyProof.Rows.envOfC "_law_at" (defScope s_law_at) s.heap.objs.size f cdv))) :
    DSs (cxOf CX0 P w K mg base ["_law_script", "_law_k"] "_law_at" (defScope s_law_at) f cdv A outer s H E).nox [] [] [] E (defBody s_law_at) g_law_at :=
  (dss_cons (ds_if (dt_cmp op_ltD opd_cmp (de_var 1) (de_callB call_lenD cad_len rfl T.b_len bt_len (da_cons (de_var 0) da_nil)) (nomark _)) (dss_one (ds_ret (de_ix ix_seq opd_ix (de_var 0) (de_var 1)))) dss_nil)
    (dss_one (ds_ret (de_op op_addC opd_cat (de_op op_mulT opd_mulT de_int (de_var 1)) de_int))))
theorem ok_law_at (T : Txt K mg) : Cal P w K mg base 2 "_law_at" 2 m_law_at := cal_of T.f_law_at sc_law_at (body_law_at T)
theorem sc_law_grown : FnScope ["_law_tree_here", "_law_names_here", "_law_number", "_law_cell", "_law_tokens", "_law_form", "_law_depth", "_law_more", "_law_extra", "_law_way", "_law_many", "_law_inner"] ["_law_tree_here", "_law_names_here", "_law_number", "_law_cell"] (defScope s_law_grown) := ⟨rfl, rfl, rfl, by decide +kernel, rfl, by decide +kernel, by decide +kernel⟩
noncomputable def g_law_grown : DSt → M Out := (gSeq (gAsg (gTup3 4 5 6) (fVar 0))
    (gSeq (gAsg (gTup2 7 8) (fCall m_law_term (fCons (fVar 1) (fCons (f2 gFdiv (fVar 2) (fC (.int 16))) (fCons (fVar 3) fNil)))))
    (gSeq (gSet 9 (f2 gMod (fVar 2) (fC (.int 16))))
    (gSeq (gSet 10 (f2 gMod (f2 gFdiv (fVar 2) (fC (.int 16))) (fC (.int 4))))
    (gSeq (gIf (DL.tOr (t2 gLt (fVar 9) (fC (.int 6))) (t2 gGt (fVar 6) (fC (.int 8)))) (gRet (fL gTupD (fCons (f2 gCat (f2 gCat (fVar 4) (fL gLstD (fCons (fC (.str "+")) fNil))) (fVar 7)) (fCons (fCall m_law_added (fCons (fVar 5) (fCons (fVar 8) fNil))) (fCons (fVar 6) fNil))))) gNx)
    (gSeq (gIf (t2 gLt (fVar 9) (fC (.int 9))) (gRet (fL gTupD (fCons (f2 gCat (f2 gCat (fVar 4) (fL gLstD (fCons (fC (.str "-")) fNil))) (fVar 7)) (fCons (fCall m_law_added (fCons (fVar 5) (fCons (fCall m_law_scaled (fCons (fVar 8) (fCons (f2 gSub (fC (.int 0)) (fC (.int 1))) fNil))) fNil))) (fCons (fVar 6) fNil))))) gNx)
    (gSeq (gSet 11 (f2 gCat (f2 gCat (fL gLstD (fCons (fC (.str "(")) fNil)) (fVar 4)) (fL gLstD (fCons (fC (.str ")")) fNil))))
    (gSeq (gIf (t2 gEq (fVar 9) (fC (.int 9))) (gRet (fL gTupD (fCons (f2 gCat (fVar 11) (fL gLstD (fCons (fC (.str "*")) (fCons (fL kStr (fCons (fVar 10) fNil)) fNil)))) (fCons (fCall m_law_scaled (fCons (fVar 5) (fCons (fVar 10) fNil))) (fCons (f2 gCat (fVar 6) (fC (.int 1))) fNil))))) gNx)
    (gSeq (gIf (t2 gEq (fVar 9) (fC (.int 10))) (gRet (fL gTupD (fCons (f2 gCat (fL gLstD (fCons (fL kStr (fCons (fVar 10) fNil)) (fCons (fC (.str "*")) fNil))) (fVar 11)) (fCons (fCall m_law_scaled (fCons (fVar 5) (fCons (fVar 10) fNil))) (fCons (f2 gCat (fVar 6) (fC (.int 1))) fNil))))) gNx)
    (gSeq (gIf (t2 gEq (fVar 9) (fC (.int 11))) (gRet (fL gTupD (fCons (f2 gCat (fL gLstD (fCons (fC (.str "-")) fNil)) (fVar 11)) (fCons (fCall m_law_scaled (fCons (fVar 5) (fCons (f2 gSub (fC (.int 0)) (fC (.int 1))) fNil))) (fCons (f2 gCat (fVar 6) (fC (.int 1))) fNil))))) gNx)
    (gSeq (gIf (t2 gEq (fVar 9) (fC (.int 12))) (gRet (fL gTupD (fCons (f2 gCat (f2 gCat (f2 gCat (fL gLstD (fCons (fC (.str "-")) fNil)) (fVar 7)) (fL gLstD (fCons (fC (.str "+")) fNil))) (fVar 11)) (fCons (fCall m_law_added (fCons (fVar 5) (fCons (fCall m_law_scaled (fCons (fVar 8) (fCons (f2 gSub (fC (.int 0)) (fC (.int 1))) fNil))) fNil))) (fCons (f2 gCat (fVar 6) (fC (.int 1))) fNil))))) gNx)
    (gSeq (gIf (t2 gEq (fVar 9) (fC (.int 13))) (gRet (fL gTupD (fCons (f2 gCat (f2 gCat (fVar 7) (fL gLstD (fCons (fC (.str "-")) fNil))) (fVar 11)) (fCons (fCall m_law_added (fCons (fVar 8) (fCons (fCall m_law_scaled (fCons (fVar 5) (fCons (f2 gSub (fC (.int 0)) (fC (.int 1))) fNil))) fNil))) (fCons (f2 gCat (fVar 6) (fC (.int 1))) fNil))))) gNx)
    (gSeq (gIf (t2 gEq (fVar 9) (fC (.int 14))) (gRet (fL gTupD (fCons (fVar 11) (fCons (fVar 5) (fCons (f2 gCat (fVar 6) (fC (.int 1))) fNil))))) gNx)
    (gRet (fL gTupD (fCons (f2 gCat (f2 gCat (fVar 7) (fL gLstD (fCons (fC (.str "+")) fNil))) (fVar 11)) (fCons (fCall m_law_added (fCons (fVar 5) (fCons (fVar 8) fNil))) (fCons (f2 gCat (fVar 6) (fC (.int 1))) fNil))))))))))))))))))
noncomputable def m_law_grown : List D → M D := mir 4 12 g_law_grown
theorem body_law_grown (T : Txt K mg) (f : Addr) (cdv : Value) (A : Around) (outer : List Env) (s : Shared) (H : Hp) (E : XK) (hr : Room 3 (A.deeper (PyProof.Rows.envOfC "_law_grown" (defScope s_law_grown) s.heap.objs.size f cdv))) :
    DSs (cxOf CX0 P w K mg base ["_law_tree_here", "_law_names_here", "_law_number", "_law_cell", "_law_tokens", "_law_form", "_law_depth", "_law_more", "_law_extra", "_law_way", "_law_many", "_law_inner"] "_law_grown" (defScope s_law_grown) f cdv A outer s H E).nox [] [] [] E (defBody s_law_grown) g_law_grown :=
  (dss_cons (ds_asg (de_var 0) (dg_tup3 (i := 4) (j := 5) (l := 6) rfl sc_law_grown.nd))
    (dss_cons (ds_asg (de_call (ok_law_term T) (hr.mono (by decide)) (da_cons (de_var 1) (da_cons (de_op op_fdivD opd_fdiv (de_var 2) de_int) (da_cons (de_var 3) da_nil)))) (dg_tup2 (i := 7) (j := 8) rfl sc_law_grown.nd))
    (dss_cons (ds_set (i := 9) sc_law_grown.nd (de_op op_mod opd_mod (de_var 2) de_int))
    (dss_cons (ds_set (i := 10) sc_law_grown.nd (de_op op_mod opd_mod (de_op op_fdivD opd_fdiv (de_var 2) de_int) de_int))
    (dss_cons (ds_if (DW.dt (dw_or (dt_cmp op_ltD opd_cmp (de_var 9) de_int (nomark _)) (dw_or1 (dt_cmp op_gtD opd_cmp (de_var 6) de_int (nomark _))))) (dss_one (ds_ret (de_tup (da_cons (de_op op_addC opd_cat (de_op op_addC opd_cat (de_var 4) (de_lst (da_cons de_str da_nil))) (de_var 7)) (da_cons (de_call (ok_law_added T) (hr.mono (by decide)) (da_cons (de_var 5) (da_cons (de_var 8) da_nil))) (da_cons (de_var 6) da_nil)))))) dss_nil)
    (dss_cons (ds_if (dt_cmp op_ltD opd_cmp (de_var 9) de_int (nomark _)) (dss_one (ds_ret (de_tup (da_cons (de_op op_addC opd_cat (de_op op_addC opd_cat (de_var 4) (de_lst (da_cons de_str da_nil))) (de_var 7)) (da_cons (de_call (ok_law_added T) (hr.mono (by decide)) (da_cons (de_var 5) (da_cons (de_call (ok_law_scaled T) (hr.mono (by decide)) (da_cons (de_var 8) (da_cons (de_op op_sub opd_sub de_int de_int) da_nil))) da_nil))) (da_cons (de_var 6) da_nil)))))) dss_nil)
    (dss_cons (ds_set (i := 11) sc_law_grown.nd (de_op op_addC opd_cat (de_op op_addC opd_cat (de_lst (da_cons de_str da_nil)) (de_var 4)) (de_lst (da_cons de_str da_nil))))
    (dss_cons (ds_if (dt_cmp (op_eqD (hu30 hr)) opd_eq (de_var 9) de_int (nomark _)) (dss_one (ds_ret (de_tup (da_cons (de_op op_addC opd_cat (de_var 11) (de_lst (da_cons de_str (da_cons (de_callTy call_str_int cad_str rfl T.b_str bt_str (da_cons (de_var 10) da_nil)) da_nil)))) (da_cons (de_call (ok_law_scaled T) (hr.mono (by decide)) (da_cons (de_var 5) (da_cons (de_var 10) da_nil))) (da_cons (de_op op_addC opd_cat (de_var 6) de_int) da_nil)))))) dss_nil)
    (dss_cons (ds_if (dt_cmp (op_eqD (hu30 hr)) opd_eq (de_var 9) de_int (nomark _)) (dss_one (ds_ret (de_tup (da_cons (de_op op_addC opd_cat (de_lst (da_cons (de_callTy call_str_int cad_str rfl T.b_str bt_str (da_cons (de_var 10) da_nil)) (da_cons de_str da_nil))) (de_var 11)) (da_cons (de_call (ok_law_scaled T) (hr.mono (by decide)) (da_cons (de_var 5) (da_cons (de_var 10) da_nil))) (da_cons (de_op op_addC opd_cat (de_var 6) de_int) da_nil)))))) dss_nil)
    (dss_cons (ds_if (dt_cmp (op_eqD (hu30 hr)) opd_eq (de_var 9) de_int (nomark _)) (dss_one (ds_ret (de_tup (da_cons (de_op op_addC opd_cat (de_lst (da_cons de_str da_nil)) (de_var 11)) (da_cons (de_call (ok_law_scaled T) (hr.mono (by decide)) (da_cons (de_var 5) (da_cons (de_op op_sub opd_sub de_int de_int) da_nil))) (da_cons (de_op op_addC opd_cat (de_var 6) de_int) da_nil)))))) dss_nil)
    (dss_cons (ds_if (dt_cmp (op_eqD (hu30 hr)) opd_eq (de_var 9) de_int (nomark _)) (dss_one (ds_ret (de_tup (da_cons (de_op op_addC opd_cat (de_op op_addC opd_cat (de_op op_addC opd_cat (de_lst (da_cons de_str da_nil)) (de_var 7)) (de_lst (da_cons de_str da_nil))) (de_var 11)) (da_cons (de_call (ok_law_added T) (hr.mono (by decide)) (da_cons (de_var 5) (da_cons (de_call (ok_law_scaled T) (hr.mono (by decide)) (da_cons (de_var 8) (da_cons (de_op op_sub opd_sub de_int de_int) da_nil))) da_nil))) (da_cons (de_op op_addC opd_cat (de_var 6) de_int) da_nil)))))) dss_nil)
    (dss_cons (ds_if (dt_cmp (op_eqD (hu30 hr)) opd_eq (de_var 9) de_int (nomark _)) (dss_one (ds_ret (de_tup (da_cons (de_op op_addC opd_cat (de_op op_addC opd_cat (de_var 7) (de_lst (da_cons de_str da_nil))) (de_var 11)) (da_cons (de_call (ok_law_added T) (hr.mono (by decide)) (da_cons (de_var 8) (da_cons (de_call (ok_law_scaled T) (hr.mono (by decide)) (da_cons (de_var 5) (da_cons (de_op op_sub opd_sub de_int de_int) da_nil))) da_nil))) (da_cons (de_op op_addC opd_cat (de_var 6) de_int) da_nil)))))) dss_nil)
    (dss_cons (ds_if (dt_cmp (op_eqD (hu30 hr)) opd_eq (de_var 9) de_int (nomark _)) (dss_one (ds_ret (de_tup (da_cons (de_var 11) (da_cons (de_var 5) (da_cons (de_op op_addC opd_cat (de_var 6) de_int) da_nil)))))) dss_nil)
    (dss_one (ds_ret (de_tup (da_cons (de_op op_addC opd_cat (de_op op_addC opd_cat (de_var 7) (de_lst (da_cons de_str da_nil))) (de_var 11)) (da_cons (de_call (ok_law_added T) (hr.mono (by decide)) (da_cons (de_var 5) (da_cons (de_var 8) da_nil))) (da_cons (de_op op_addC opd_cat (de_var 6) de_int) da_nil)))))))))))))))))))
theorem ok_law_grown (T : Txt K mg) : Cal P w K mg base 4 "_law_grown" 4 m_law_grown := cal_of T.f_law_grown sc_law_grown (body_law_grown T)
theorem sc_law_tree : FnScope ["_law_script", "_law_names_here", "_law_first", "_law_last", "_law_tokens", "_law_form", "_law_tree_here", "_law_cell"] ["_law_script", "_law_names_here", "_law_first", "_law_last"] (defScope s_law_tree) := ⟨rfl, rfl, rfl, by decide +kernel, rfl, by decide +kernel, by decide +kernel⟩
noncomputable def b1_law_tree : DSt → M Out := (gSet 6 (fCall m_law_grown (fCons (fVar 6) (fCons (fVar 1) (fCons (fCall m_law_mix (fCons (fVar 7) (fCons (fC (.int 4)) fNil))) (fCons (fVar 7) fNil))))))
noncomputable def g_law_tree : DSt → M Out := (gSeq (gAsg (gTup2 4 5) (fCall m_law_term (fCons (fVar 1) (fCons (fCall m_law_mix (fCons (fCall m_law_at (fCons (fVar 0) (fCons (fC (.int 1)) fNil))) (fCons (fC (.int 3)) fNil))) (fCons (fCall m_law_at (fCons (fVar 0) (fCons (fC (.int 1)) fNil))) fNil)))))
    (gSeq (gSet 6 (fL gTupD (fCons (fVar 4) (fCons (fVar 5) (fCons (fC (.int 1)) fNil)))))
    (gSeq (gFor (iSeqD (fSl (fVar 0) (oSome (fVar 2)) (oSome (fVar 3)))) (DL.gName 7) b1_law_tree)
    (gRet (fVar 6)))))
noncomputable def m_law_tree : List D → M D := mir 4 8 g_law_tree
theorem body_law_tree (T : Txt K mg) (f : Addr) (cdv : Value) (A : Around) (outer : List Env) (s : Shared) (H : Hp) (E : XK) (hr : Room 4 (A.deeper (PyProof.Rows.envOfC "_law_tree" (defScope s_law_tree) s.heap.objs.size f cdv))) :
    DSs (cxOf CX0 P w K mg base ["_law_script", "_law_names_here", "_law_first", "_law_last", "_law_tokens", "_law_form", "_law_tree_here", "_law_cell"] "_law_tree" (defScope s_law_tree) f cdv A outer s H E).nox [] [] [] E (defBody s_law_tree) g_law_tree :=
  (dss_cons (ds_asg (de_call (ok_law_term T) (hr.mono (by decide)) (da_cons (de_var 1) (da_cons (de_call (ok_law_mix T) (hr.mono (by decide)) (da_cons (de_call (ok_law_at T) (hr.mono (by decide)) (da_cons (de_var 0) (da_cons de_int da_nil))) (da_cons de_int da_nil))) (da_cons (de_call (ok_law_at T) (hr.mono (by decide)) (da_cons (de_var 0) (da_cons de_int da_nil))) da_nil)))) (dg_tup2 (i := 4) (j := 5) rfl sc_law_tree.nd))
    (dss_cons (ds_set (i := 6) sc_law_tree.nd (de_tup (da_cons (de_var 4) (da_cons (de_var 5) (da_cons de_int da_nil)))))
    (dss_cons (ds_for PassesOwn.never rfl (di_seq (de_slice (de_var 0) (do_some (de_var 2)) (do_some (de_var 3)))) (dg_name (i := 7) sc_law_tree.nd) (dss_one (ds_set (i := 6) sc_law_tree.nd (de_call (ok_law_grown T) (hr.mono (by decide)) (da_cons (de_var 6) (da_cons (de_var 1) (da_cons (de_call (ok_law_mix T) (hr.mono (by decide)) (da_cons (de_var 7) (da_cons de_int da_nil))) (da_cons (de_var 7) da_nil))))))))
    (dss_one (ds_ret (de_var 6))))))
theorem ok_law_tree (T : Txt K mg) : Cal P w K mg base 5 "_law_tree" 4 m_law_tree := cal_of T.f_law_tree sc_law_tree (body_law_tree T)
theorem sc_law_written : FnScope ["_law_tokens", "_law_number", "_law_written_here", "_law_k"] ["_law_tokens", "_law_number"] (defScope s_law_written) := ⟨rfl, rfl, rfl, by decide +kernel, rfl, by decide +kernel, by decide +kernel⟩
noncomputable def b1_law_written : DSt → M Out := (gSet 2 (f2 gCat (f2 gCat (fVar 2) (f2 gMulT (fC (.str " ")) (f2 gIx (fL gLstD (fCons (fC (.int 0)) (fCons (fC (.int 0)) (fCons (fC (.int 1)) (fCons (fC (.int 1)) (fCons (fC (.int 0)) (fCons (fC (.int 2)) fNil))))))) (f2 gMod (fCall m_law_mix (fCons (fVar 1) (fCons (fVar 3) fNil))) (fC (.int 6)))))) (f2 gIx (fVar 0) (fVar 3))))
noncomputable def g_law_written : DSt → M Out := (gSeq (gSet 2 (fC (.str "")))
    (gSeq (gFor (iArgs rangeArgs (fCons (fL kLen (fCons (fVar 0) fNil)) fNil)) (DL.gName 3) b1_law_written)
    (gRet (f2 gCat (fVar 2) (f2 gMulT (fC (.str " ")) (f2 gFdiv (f2 gMod (fVar 1) (fC (.int 7))) (fC (.int 5))))))))
noncomputable def m_law_written : List D → M D := mir 2 4 g_law_written
theorem body_law_written (T : Txt K mg) (f : Addr) (cdv : Value) (A : Around) (outer : List Env) (s : Shared) (H : Hp) (E : XK) (hr : Room 2 (A.deeper (PyProof.Rows.envOfC "_law_written" (defScope s_law_written) s.heap.objs.size f cdv))) :
    DSs (cxOf CX0 P w K mg base ["_law_tokens", "_law_number", "_law_written_here", "_law_k"] "_law_written" (defScope s_law_written) f cdv A outer s H E).nox [] [] [] E (defBody s_law_written) g_law_written :=
  (dss_cons (ds_set (i := 2) sc_law_written.nd de_str)
    (dss_cons (ds_for PassesOwn.never rfl (di_range rfl T.b_range (da_cons (de_callB call_lenD cad_len rfl T.b_len bt_len (da_cons (de_var 0) da_nil)) da_nil)) (dg_name (i := 3) sc_law_written.nd) (dss_one (ds_set (i := 2) sc_law_written.nd (de_op op_addC opd_cat (de_op op_addC opd_cat (de_var 2) (de_op op_mulT opd_mulT de_str (de_ix ix_seq opd_ix (de_lst (da_cons de_int (da_cons de_int (da_cons de_int (da_cons de_int (da_cons de_int (da_cons de_int da_nil))))))) (de_op op_mod opd_mod (de_call (ok_law_mix T) (hr.mono (by decide)) (da_cons (de_var 1) (da_cons (de_var 3) da_nil))) de_int)))) (de_ix ix_seq opd_ix (de_var 0) (de_var 3))))))
    (dss_one (ds_ret (de_op op_addC opd_cat (de_var 2) (de_op op_mulT opd_mulT de_str (de_op op_fdivD opd_fdiv (de_op op_mod opd_mod (de_var 1) de_int) de_int)))))))
theorem ok_law_written (T : Txt K mg) : Cal P w K mg base 3 "_law_written" 2 m_law_written := cal_of T.f_law_written sc_law_written (body_law_written T)
theorem sc_law_whole : FnScope ["_law_found"] ["_law_found"] (defScope s_law_whole) := ⟨rfl, rfl, rfl, by decide +kernel, rfl, by decide +kernel, by decide +kernel⟩
noncomputable def g_law_whole : DSt → M Out := (gRet (fAnd (fL kIsi (fCons (fVar 0) (fCons (fC (.ty "int")) fNil))) (f1 gNot (fL kIsi (fCons (fVar 0) (fCons (fC (.ty "bool")) fNil))))))
noncomputable def m_law_whole : List D → M D := mir 1 1 g_law_whole
theorem body_law_whole (T : Txt K mg) (f : Addr) (cdv : Value) (A : Around) (outer : List Env) (s : Shared) (H : Hp) (E : XK) (hr : Room 1 (A.deeper (PyProof.Rows.envOfC "_law_whole" (defScope s_law_whole) s.heap.objs.size f cdv))) :
    DSs (cxOf CX0 P w K mg base ["_law_found"] "_law_whole" (defScope s_law_whole) f cdv A outer s H E).nox [] [] [] E (defBody s_law_whole) g_law_whole :=
  (dss_one (ds_ret (de_and (de_callB call_isiD cad_isi rfl T.b_isinstance bt_isinstance (da_cons (de_var 0) (da_cons (de_bltT rfl T.b_int bt_int) da_nil))) (de_one (de_not (de_callB call_isiD cad_isi rfl T.b_isinstance bt_isinstance (da_cons (de_var 0) (da_cons (de_bltT rfl T.b_bool bt_bool) da_nil))))))))
theorem ok_law_whole (T : Txt K mg) : Cal P w K mg base 2 "_law_whole" 1 m_law_whole := cal_of T.f_law_whole sc_law_whole (body_law_whole T)
theorem sc_law_is_form : FnScope ["_law_found", "_law_due"] ["_law_found", "_law_due"] (defScope s_law_is_form) := ⟨rfl, rfl, rfl, by decide +kernel, rfl, by decide +kernel, by decide +kernel⟩
noncomputable def c1_law_is_form : DSt → M D := (fVar 0)
noncomputable def g_law_is_form : DSt → M Out := (gSeq (gIf (DL.tOr (DL.tNot (tTru (fL kIsi (fCons (fVar 0) (fCons (fC (.ty "tuple")) fNil))))) (DL.tOr (t2 gNe (fL kLen (fCons (fVar 0) fNil)) (fC (.int 2))) (DL.tOr (DL.tNot (tTru (fL kIsi (fCons (f2 gIx (fVar 0) (fC (.int 0))) (fCons (fC (.ty "tuple")) fNil))))) (t2 gNe (fVar 0) (fVar 1))))) (gRet (fC (.bl false))) gNx)
    (gRet (f2 gEq (fL kLen (fCons (fComp 1 [] (iSeqD (f2 gCat (f2 gIx (fVar 0) (fC (.int 0))) (fL gTupD (fCons (f2 gIx (fVar 0) (fC (.int 1))) fNil)))) (DL.gName 0) (DL.tNot (tTru (fCall m_law_whole (fCons (fVar 0) fNil)))) c1_law_is_form) fNil)) (fC (.int 0)))))
noncomputable def m_law_is_form : List D → M D := mir 2 2 g_law_is_form
theorem body_law_is_form (T : Txt K mg) (f : Addr) (cdv : Value) (A : Around) (outer : List Env) (s : Shared) (H : Hp) (E : XK) (hr : Room 2 (A.deeper (PyProof.Rows.envOfC "_law_is_form" (defScope s_law_is_form) s.heap.objs.size f cdv))) :
    DSs (cxOf CX0 P w K mg base ["_law_found", "_law_due"] "_law_is_form" (defScope s_law_is_form) f cdv A outer s H E).nox [] [] [] E (defBody s_law_is_form) g_law_is_form :=
  (dss_cons (ds_if (DW.dt (dw_or (dt_not (dt_val (de_callB call_isiD cad_isi rfl T.b_isinstance bt_isinstance (da_cons (de_var 0) (da_cons (de_bltT rfl T.b_tuple bt_tuple) da_nil))))) (dw_or (dt_cmp (op_neD (hu30 hr)) opd_ne (de_callB call_lenD cad_len rfl T.b_len bt_len (da_cons (de_var 0) da_nil)) de_int (nomark _)) (dw_or (dt_not (dt_val (de_callB call_isiD cad_isi rfl T.b_isinstance bt_isinstance (da_cons (de_ix ix_seq opd_ix (de_var 0) de_int) (da_cons (de_bltT rfl T.b_tuple bt_tuple) da_nil))))) (dw_or1 (dt_cmp (op_neD (hu30 hr)) opd_ne (de_var 0) (de_var 1) (nomark _))))))) (dss_one (ds_ret de_bl)) dss_nil)
    (dss_one (ds_ret (de_cmp (op_eqD (hu30 hr)) opd_eq (de_callB call_lenD cad_len rfl T.b_len bt_len (da_cons (de_comp (own := ["_law_number"]) (caps := []) rfl (caps_of (N := ["_law_found", "_law_due"]) (osc := defScope s_law_is_form) rfl rfl rfl (by decide +kernel)) (di_seq (de_op op_addC opd_cat (de_ix ix_seq opd_ix (de_var 0) de_int) (de_tup (da_cons (de_ix ix_seq opd_ix (de_var 0) de_int) da_nil)))) (fun _ _ _ _ => (dg_name (i := 0) (show (["_law_number"] : List Str).Nodup from by decide +kernel))) (fun _ _ _ _ => (dc_one (dt_not (dt_val (de_call (ok_law_whole T) (hr.mono (by decide)) (da_cons (de_var 0) da_nil)))))) (fun _ _ _ _ => (de_var 0))) da_nil)) de_int (nomark _)))))
theorem ok_law_is_form (T : Txt K mg) : Cal P w K mg base 3 "_law_is_form" 2 m_law_is_form := cal_of T.f_law_is_form sc_law_is_form (body_law_is_form T)
theorem sc_is_letter : FnScope ["sign"] ["sign"] (defScope s_is_letter) := ⟨rfl, rfl, rfl, by decide +kernel, rfl, by decide +kernel, by decide +kernel⟩
noncomputable def g_is_letter : DSt → M Out := (gRet (fChain gLe gLe (fC (.str "a")) (fVar 0) (fC (.str "z"))))
noncomputable def m_is_letter : List D → M D := mir 1 1 g_is_letter
theorem body_is_letter (T : Txt K mg) (f : Addr) (cdv : Value) (A : Around) (outer : List Env) (s : Shared) (H : Hp) (E : XK) (hr : Room 1 (A.deeper (PyProof.Rows.envOfC "is_letter" (defScope s_is_letter) s.heap.objs.size f cdv))) :
    DSs (cxOf CX0 P w K mg base ["sign"] "is_letter" (defScope s_is_letter) f cdv A outer s H E).nox [] [] [] E (defBody s_is_letter) g_is_letter :=
  (dss_one (ds_ret (de_chain op_leD opd_cmp op_leD opd_cmp de_str (de_var 0) de_str)))
theorem ok_is_letter (T : Txt K mg) : Cal P w K mg base 2 "is_letter" 1 m_is_letter := cal_of T.f_is_letter sc_is_letter (body_is_letter T)
theorem sc_is_figure : FnScope ["sign"] ["sign"] (defScope s_is_figure) := ⟨rfl, rfl, rfl, by decide +kernel, rfl, by decide +kernel, by decide +kernel⟩
noncomputable def g_is_figure : DSt → M Out := (gRet (fChain gLe gLe (fC (.str "0")) (fVar 0) (fC (.str "9"))))
noncomputable def m_is_figure : List D → M D := mir 1 1 g_is_figure
theorem body_is_figure (T : Txt K mg) (f : Addr) (cdv : Value) (A : Around) (outer : List Env) (s : Shared) (H : Hp) (E : XK) (hr : Room 1 (A.deeper (PyProof.Rows.envOfC "is_figure" (defScope s_is_figure) s.heap.objs.size f cdv))) :
    DSs (cxOf CX0 P w K mg base ["sign"] "is_figure" (defScope s_is_figure) f cdv A outer s H E).nox [] [] [] E (defBody s_is_figure) g_is_figure :=
  (dss_one (ds_ret (de_chain op_leD opd_cmp op_leD opd_cmp de_str (de_var 0) de_str)))
theorem ok_is_figure (T : Txt K mg) : Cal P w K mg base 2 "is_figure" 1 m_is_figure := cal_of T.f_is_figure sc_is_figure (body_is_figure T)
theorem sc_end_of_piece : FnScope ["text", "place", "end"] ["text", "place"] (defScope s_end_of_piece) := ⟨rfl, rfl, rfl, by decide +kernel, rfl, by decide +kernel, by decide +kernel⟩
noncomputable def t1_end_of_piece : DSt → M Bool := (DL.tAnd (t2 gLt (fVar 2) (fL kLen (fCons (fVar 0) fNil))) (DL.tAnd (tTru (fCall m_is_letter (fCons (f2 gIx (fVar 0) (fVar 2)) fNil))) (t2 gLt (f2 gSub (fVar 2) (fVar 1)) (fC (.int 10)))))
noncomputable def b2_end_of_piece : DSt → M Out := (gAug 2 gAdd (fC (.int 1)))
noncomputable def t3_end_of_piece : DSt → M Bool := (DL.tAnd (t2 gLt (fVar 2) (fL kLen (fCons (fVar 0) fNil))) (tTru (fCall m_is_figure (fCons (f2 gIx (fVar 0) (fVar 2)) fNil))))
noncomputable def b4_end_of_piece : DSt → M Out := (gAug 2 gAdd (fC (.int 1)))
noncomputable def g_end_of_piece : DSt → M Out := (gSeq (gSet 2 (f2 gCat (fVar 1) (fC (.int 1))))
    (gSeq (gIf (tTru (fCall m_is_letter (fCons (f2 gIx (fVar 0) (fVar 1)) fNil))) (whileD t1_end_of_piece b2_end_of_piece FUEL) (gIf (DL.tAnd (tTru (fCall m_is_figure (fCons (f2 gIx (fVar 0) (fVar 1)) fNil))) (t2 gNe (f2 gIx (fVar 0) (fVar 1)) (fC (.str "0")))) (whileD t3_end_of_piece b4_end_of_piece FUEL) gNx))
    (gRet (fVar 2))))
noncomputable def m_end_of_piece : List D → M D := mir 2 3 g_end_of_piece
theorem body_end_of_piece (T : Txt K mg) (f : Addr) (cdv : Value) (A : Around) (outer : List Env) (s : Shared) (H : Hp) (E : XK) (hr : Room 2 (A.deeper (PyProof.Rows.envOfC "end_of_piece" (defScope s_end_of_piece) s.heap.objs.size f cdv))) :
    DSs (cxOf CX0 P w K mg base ["text", "place", "end"] "end_of_piece" (defScope s_end_of_piece) f cdv A outer s H E).nox [] [] [] E (defBody s_end_of_piece) g_end_of_piece :=
  (dss_cons (ds_set (i := 2) sc_end_of_piece.nd (de_op op_addC opd_cat (de_var 1) de_int))
    (dss_cons (ds_if (dt_val (de_call (ok_is_letter T) (hr.mono (by decide)) (da_cons (de_ix ix_seq opd_ix (de_var 0) (de_var 1)) da_nil))) (dss_one (ds_while (fuel := FUEL) PassesOwn.never (DW.dt (dw_and (dt_cmp op_ltD opd_cmp (de_var 2) (de_callB call_lenD cad_len rfl T.b_len bt_len (da_cons (de_var 0) da_nil)) (nomark _)) (dw_and (dt_val (de_call (ok_is_letter T) (hr.mono (by decide)) (da_cons (de_ix ix_seq opd_ix (de_var 0) (de_var 2)) da_nil))) (dw_and1 (dt_cmp op_ltD opd_cmp (de_op op_sub opd_sub (de_var 2) (de_var 1)) (de_glInt rfl T.g_NAME_LENGTH.choose_spec) (nomark _)))))) (dss_one (ds_aug (i := 2) sc_end_of_piece.nd (iop_add.or iop_add_str) opd_add de_int)))) (dss_one (ds_if (DW.dt (dw_and (dt_val (de_call (ok_is_figure T) (hr.mono (by decide)) (da_cons (de_ix ix_seq opd_ix (de_var 0) (de_var 1)) da_nil))) (dw_and1 (dt_cmp (op_neD (hu30 hr)) opd_ne (de_ix ix_seq opd_ix (de_var 0) (de_var 1)) de_str (nomark _))))) (dss_one (ds_while (fuel := FUEL) PassesOwn.never (DW.dt (dw_and (dt_cmp op_ltD opd_cmp (de_var 2) (de_callB call_lenD cad_len rfl T.b_len bt_len (da_cons (de_var 0) da_nil)) (nomark _)) (dw_and1 (dt_val (de_call (ok_is_figure T) (hr.mono (by decide)) (da_cons (de_ix ix_seq opd_ix (de_var 0) (de_var 2)) da_nil)))))) (dss_one (ds_aug (i := 2) sc_end_of_piece.nd (iop_add.or iop_add_str) opd_add de_int)))) dss_nil)))
    (dss_one (ds_ret (de_var 2)))))
theorem ok_end_of_piece (T : Txt K mg) : Cal P w K mg base 3 "end_of_piece" 2 m_end_of_piece := cal_of T.f_end_of_piece sc_end_of_piece (body_end_of_piece T)
theorem sc_depth_by : FnScope ["word"] ["word"] (defScope s_depth_by) := ⟨rfl, rfl, rfl, by decide +kernel, rfl, by decide +kernel, by decide +kernel⟩
noncomputable def g_depth_by : DSt → M Out := (gSeq (gIf (t2 gEq (fVar 0) (fC (.str "("))) (gRet (fC (.int 1))) gNx)
    (gRet (fIf (t2 gEq (fVar 0) (fC (.str ")"))) (f1 gNeg (fC (.int 1))) (fC (.int 0)))))
noncomputable def m_depth_by : List D → M D := mir 1 1 g_depth_by
theorem body_depth_by (T : Txt K mg) (f : Addr) (cdv : Value) (A : Around) (outer : List Env) (s : Shared) (H : Hp) (E : XK) (hr : Room 1 (A.deeper (PyProof.Rows.envOfC "depth_by" (defScope s_depth_by) s.heap.objs.size f cdv))) :
    DSs (cxOf CX0 P w K mg base ["word"] "depth_by" (defScope s_depth_by) f cdv A outer s H E).nox [] [] [] E (defBody s_depth_by) g_depth_by :=
  (dss_cons (ds_if (dt_cmp (op_eqD (hu30 hr)) opd_eq (de_var 0) de_str (nomark _)) (dss_one (ds_ret de_int)) dss_nil)
    (dss_one (ds_ret (de_ifx (dt_cmp (op_eqD (hu30 hr)) opd_eq (de_var 0) de_str (nomark _)) (de_un un_neg und_neg de_int) de_int))))
theorem ok_depth_by (T : Txt K mg) : Cal P w K mg base 2 "depth_by" 1 m_depth_by := cal_of T.f_depth_by sc_depth_by (body_depth_by T)
theorem sc_wanted_behind : FnScope ["word"] ["word"] (defScope s_wanted_behind) := ⟨rfl, rfl, rfl, by decide +kernel, rfl, by decide +kernel, by decide +kernel⟩
noncomputable def g_wanted_behind : DSt → M Out := (gSeq (gIf (t2 gEq (fVar 0) (fC (.str "("))) (gRet (fC (.str "beginning"))) gNx)
    (gRet (fIf (t2 gIn (fVar 0) (fL gTupD (fCons (fC (.str "+")) (fCons (fC (.str "-")) (fCons (fC (.str "*")) fNil))))) (fC (.str "factor")) (fC (.str "behind")))))
noncomputable def m_wanted_behind : List D → M D := mir 1 1 g_wanted_behind
theorem body_wanted_behind (T : Txt K mg) (f : Addr) (cdv : Value) (A : Around) (outer : List Env) (s : Shared) (H : Hp) (E : XK) (hr : Room 1 (A.deeper (PyProof.Rows.envOfC "wanted_behind" (defScope s_wanted_behind) s.heap.objs.size f cdv))) :
    DSs (cxOf CX0 P w K mg base ["word"] "wanted_behind" (defScope s_wanted_behind) f cdv A outer s H E).nox [] [] [] E (defBody s_wanted_behind) g_wanted_behind :=
  (dss_cons (ds_if (dt_cmp (op_eqD (hu30 hr)) opd_eq (de_var 0) de_str (nomark _)) (dss_one (ds_ret (de_glStr rfl T.g_BEGINNING.choose_spec))) dss_nil)
    (dss_one (ds_ret (de_ifx (dt_cmp op_in_seq opd_in (de_var 0) (de_tup (da_cons de_str (da_cons de_str (da_cons de_str da_nil)))) rfl) (de_glStr rfl T.g_FACTOR.choose_spec) (de_glStr rfl T.g_BEHIND.choose_spec)))))
theorem ok_wanted_behind (T : Txt K mg) : Cal P w K mg base 2 "wanted_behind" 1 m_wanted_behind := cal_of T.f_wanted_behind sc_wanted_behind (body_wanted_behind T)
theorem sc_may_stand : FnScope ["sign", "wanted", "depth"] ["sign", "wanted", "depth"] (defScope s_may_stand) := ⟨rfl, rfl, rfl, by decide +kernel, rfl, by decide +kernel, by decide +kernel⟩
noncomputable def g_may_stand : DSt → M Out := (gSeq (gIf (t2 gEq (fVar 1) (fC (.str "behind"))) (gRet (fOr (f2 gIn (fVar 0) (fL gTupD (fCons (fC (.str "+")) (fCons (fC (.str "-")) (fCons (fC (.str "*")) fNil))))) (fAnd (f2 gEq (fVar 0) (fC (.str ")"))) (f2 gGt (fVar 2) (fC (.int 0)))))) gNx)
    (gSeq (gIf (t2 gEq (fVar 0) (fC (.str "-"))) (gRet (f2 gEq (fVar 1) (fC (.str "beginning")))) gNx)
    (gRet (fOr (f2 gEq (fVar 0) (fC (.str "("))) (fOr (fCall m_is_letter (fCons (fVar 0) fNil)) (fCall m_is_figure (fCons (fVar 0) fNil)))))))
noncomputable def m_may_stand : List D → M D := mir 3 3 g_may_stand
theorem body_may_stand (T : Txt K mg) (f : Addr) (cdv : Value) (A : Around) (outer : List Env) (s : Shared) (H : Hp) (E : XK) (hr : Room 2 (A.deeper (PyProof.Rows.envOfC "may_stand" (defScope s_may_stand) s.heap.objs.size f cdv))) :
    DSs (cxOf CX0 P w K mg base ["sign", "wanted", "depth"] "may_stand" (defScope s_may_stand) f cdv A outer s H E).nox [] [] [] E (defBody s_may_stand) g_may_stand :=
  (dss_cons (ds_if (dt_cmp (op_eqD (hu30 hr)) opd_eq (de_var 1) (de_glStr rfl T.g_BEHIND.choose_spec) (nomark _)) (dss_one (ds_ret (de_or (de_cmp op_in_seq opd_in (de_var 0) (de_tup (da_cons de_str (da_cons de_str (da_cons de_str da_nil)))) rfl) (de_one (de_and (de_cmp (op_eqD (hu30 hr)) opd_eq (de_var 0) de_str (nomark _)) (de_one (de_cmp op_gtD opd_cmp (de_var 2) de_int (nomark _)))))))) dss_nil)
    (dss_cons (ds_if (dt_cmp (op_eqD (hu30 hr)) opd_eq (de_var 0) de_str (nomark _)) (dss_one (ds_ret (de_cmp (op_eqD (hu30 hr)) opd_eq (de_var 1) (de_glStr rfl T.g_BEGINNING.choose_spec) (nomark _)))) dss_nil)
    (dss_one (ds_ret (de_or (de_cmp (op_eqD (hu30 hr)) opd_eq (de_var 0) de_str (nomark _)) (de_or (de_call (ok_is_letter T) (hr.mono (by decide)) (da_cons (de_var 0) da_nil)) (de_one (de_call (ok_is_figure T) (hr.mono (by decide)) (da_cons (de_var 0) da_nil)))))))))
theorem ok_may_stand (T : Txt K mg) : Cal P w K mg base 3 "may_stand" 3 m_may_stand := cal_of T.f_may_stand sc_may_stand (body_may_stand T)
theorem sc_pieces_of : FnScope ["text", "pieces", "depth", "wanted", "place", "end", "word"] ["text"] (defScope s_pieces_of) := ⟨rfl, rfl, rfl, by decide +kernel, rfl, by decide +kernel, by decide +kernel⟩
noncomputable def t1_pieces_of : DSt → M Bool := (t2 gLt (fVar 4) (fL kLen (fCons (fVar 0) fNil)))
noncomputable def b2_pieces_of : DSt → M Out := (gSeq (gSet 5 (fCall m_end_of_piece (fCons (fVar 0) (fCons (fVar 4) fNil))))
    (gSeq (gSet 6 (fSl (fVar 0) (oSome (fVar 4)) (oSome (fVar 5))))
    (gSeq (gIf (t2 gNe (fVar 6) (fC (.str " "))) (gSeq (gIf (DL.tNot (tTru (fCall m_may_stand (fCons (f2 gIx (fVar 6) (fC (.int 0))) (fCons (fVar 3) (fCons (fVar 2) fNil)))))) gNever gNx)
    (gSeq (gApp 1 (fL gTupD (fCons (fVar 6) (fCons (fVar 4) fNil))))
    (gSeq (gAug 2 gAdd (fCall m_depth_by (fCons (fVar 6) fNil)))
    (gSet 3 (fCall m_wanted_behind (fCons (fVar 6) fNil)))))) gNx)
    (gSet 4 (fVar 5)))))
noncomputable def g_pieces_of : DSt → M Out := (gSeq (gSet 1 (fL gLstD fNil))
    (gSeq (gSet 2 (fC (.int 0)))
    (gSeq (gSet 3 (fC (.str "beginning")))
    (gSeq (gSet 4 (fC (.int 0)))
    (gSeq (whileD t1_pieces_of b2_pieces_of FUEL)
    (gSeq (gIf (DL.tOr (t2 gNe (fVar 3) (fC (.str "behind"))) (t2 gGt (fVar 2) (fC (.int 0)))) gNever gNx)
    (gRet (fVar 1))))))))
noncomputable def m_pieces_of : List D → M D := mir 1 7 g_pieces_of
theorem body_pieces_of (T : Txt K mg) (f : Addr) (cdv : Value) (A : Around) (outer : List Env) (s : Shared) (H : Hp) (E : XK) (hr : Room 3 (A.deeper (PyProof.Rows.envOfC "pieces_of" (defScope s_pieces_of) s.heap.objs.size f cdv))) :
    DSs (cxOf CX0 P w K mg base ["text", "pieces", "depth", "wanted", "place", "end", "word"] "pieces_of" (defScope s_pieces_of) f cdv A outer s H E).nox [] [] [] E (defBody s_pieces_of) g_pieces_of :=
  (dss_cons (ds_own (i := 1) sc_pieces_of.nd da_nil)
    (dss_cons (ds_set (i := 2) sc_pieces_of.nd de_int)
    (dss_cons (ds_set (i := 3) sc_pieces_of.nd (de_glStr rfl T.g_BEGINNING.choose_spec))
    (dss_cons (ds_set (i := 4) sc_pieces_of.nd de_int)
    (dss_cons (ds_while (fuel := FUEL) PassesOwn.never (dt_cmp op_ltD opd_cmp (de_var 4) (de_callB call_lenD cad_len rfl T.b_len bt_len (da_cons (de_var 0) da_nil)) (nomark _)) (dss_cons (ds_set (i := 5) sc_pieces_of.nd (de_call (ok_end_of_piece T) (hr.mono (by decide)) (da_cons (de_var 0) (da_cons (de_var 4) da_nil))))
    (dss_cons (ds_set (i := 6) sc_pieces_of.nd (de_slice (de_var 0) (do_some (de_var 4)) (do_some (de_var 5))))
    (dss_cons (ds_if (dt_cmp (op_neD (hu30 hr)) opd_ne (de_var 6) de_str (nomark _)) (dss_cons (ds_if (dt_not (dt_val (de_call (ok_may_stand T) (hr.mono (by decide)) (da_cons (de_ix ix_seq opd_ix (de_var 6) de_int) (da_cons (de_var 3) (da_cons (de_var 2) da_nil)))))) (dss_one ds_never) dss_nil)
    (dss_cons (ds_app (i := 1) rfl (de_tup (da_cons (de_var 6) (da_cons (de_var 4) da_nil))))
    (dss_cons (ds_aug (i := 2) sc_pieces_of.nd (iop_add.or iop_add_str) opd_add (de_call (ok_depth_by T) (hr.mono (by decide)) (da_cons (de_var 6) da_nil)))
    (dss_one (ds_set (i := 3) sc_pieces_of.nd (de_call (ok_wanted_behind T) (hr.mono (by decide)) (da_cons (de_var 6) da_nil))))))) dss_nil)
    (dss_one (ds_set (i := 4) sc_pieces_of.nd (de_var 5)))))))
    (dss_cons (ds_if (DW.dt (dw_or (dt_cmp (op_neD (hu30 hr)) opd_ne (de_var 3) (de_glStr rfl T.g_BEHIND.choose_spec) (nomark _)) (dw_or1 (dt_cmp op_gtD opd_cmp (de_var 2) de_int (nomark _))))) (dss_one ds_never) dss_nil)
    (dss_pre (O' := []) (by decide) (dss_one (ds_ret (de_var 1))))))))))
theorem ok_pieces_of (T : Txt K mg) : Cal P w K mg base 4 "pieces_of" 1 m_pieces_of := cal_of T.f_pieces_of sc_pieces_of (body_pieces_of T)
theorem sc_added : FnScope ["left", "right"] ["left", "right"] (defScope s_added) := ⟨rfl, rfl, rfl, by decide +kernel, rfl, by decide +kernel, by decide +kernel⟩
noncomputable def c1_added : DSt → M D := (f2 gCat (fVar 0) (fVar 1))
noncomputable def g_added : DSt → M Out := (gRet (fL gTupD (fCons (fL kTuple (fCons (fComp 2 [] (iArgs zipArgs (fCons (f2 gIx (fVar 0) (fC (.int 0))) (fCons (f2 gIx (fVar 1) (fC (.int 0))) fNil))) (gTup2 0 1) tYes c1_added) fNil)) (fCons (f2 gCat (f2 gIx (fVar 0) (fC (.int 1))) (f2 gIx (fVar 1) (fC (.int 1)))) fNil))))
noncomputable def m_added : List D → M D := mir 2 2 g_added
theorem body_added (T : Txt K mg) (f : Addr) (cdv : Value) (A : Around) (outer : List Env) (s : Shared) (H : Hp) (E : XK) (hr : Room 1 (A.deeper (PyProof.Rows.envOfC "added" (defScope s_added) s.heap.objs.size f cdv))) :
    DSs (cxOf CX0 P w K mg base ["left", "right"] "added" (defScope s_added) f cdv A outer s H E).nox [] [] [] E (defBody s_added) g_added :=
  (dss_one (ds_ret (de_tup (da_cons (de_callTy call_tuple_of cad_tuple rfl T.b_tuple bt_tuple (da_cons (de_comp (own := ["a", "b"]) (caps := []) rfl (caps_of (N := ["left", "right"]) (osc := defScope s_added) rfl rfl rfl (by decide +kernel)) (di_zip rfl T.b_zip (da_cons (de_ix ix_seq opd_ix (de_var 0) de_int) (da_cons (de_ix ix_seq opd_ix (de_var 1) de_int) da_nil))) (fun _ _ _ _ => (dg_tup2 (i := 0) (j := 1) rfl (show (["a", "b"] : List Str).Nodup from by decide +kernel))) (fun _ _ _ _ => dc_none) (fun _ _ _ _ => (de_op op_addC opd_cat (de_var 0) (de_var 1)))) da_nil)) (da_cons (de_op op_addC opd_cat (de_ix ix_seq opd_ix (de_var 0) de_int) (de_ix ix_seq opd_ix (de_var 1) de_int)) da_nil)))))
theorem ok_added (T : Txt K mg) : Cal P w K mg base 2 "added" 2 m_added := cal_of T.f_added sc_added (body_added T)
theorem sc_OpenSum_whole : FnScope ["self"] ["self"] (defScope s_OpenSum_whole) := ⟨rfl, rfl, rfl, by decide +kernel, rfl, by decide +kernel, by decide +kernel⟩
noncomputable def g_OpenSum_whole : DSt → MS Out := (eRet (mCallP m_added (mCons (mGet ["OpenSum"] "total" (lF (fVar 0))) (mCons (mGet ["OpenSum"] "term" (lF (fVar 0))) (lF fNil)))))
noncomputable def m_OpenSum_whole : List D → MS D := mirE 1 1 g_OpenSum_whole
theorem body_OpenSum_whole (T : Txt K mg) (f : Addr) (cdv : Value) (A : Around) (outer : List Env) (s : Shared) (H : Hp) (E : XK) (hr : Room 2 (A.deeper (PyProof.Rows.envOfC "OpenSum.whole" (defScope s_OpenSum_whole) s.heap.objs.size f cdv))) :
    MSs (cxOf CX0 P w K mg base ["self"] "OpenSum.whole" (defScope s_OpenSum_whole) f cdv A outer s H E).nox [] [] [] (defBody s_OpenSum_whole) g_OpenSum_whole :=
  (mss_one (ms_ret (me_callP (ok_added T) (hr.mono (by decide)) (ma_cons (me_fld (T.c_OpenSum.is (by decide +kernel)) (me_pure (de_var 0))) (ma_cons (me_fld (T.c_OpenSum.is (by decide +kernel)) (me_pure (de_var 0))) (ma_pure da_nil))))))
theorem ok_OpenSum_whole (T : Txt K mg) : MetE P w K mg base 3 "OpenSum" "whole" 1 m_OpenSum_whole := metE_of T.f_OpenSum_whole sc_OpenSum_whole (body_OpenSum_whole T)
theorem sc_OpenSum_init__ : FnScope ["self", "width"] ["self", "width"] (defScope s_OpenSum_init__) := ⟨rfl, rfl, rfl, by decide +kernel, rfl, by decide +kernel, by decide +kernel⟩
noncomputable def g_OpenSum_init__ : DSt → MS Out := (eSeq (ePut ["OpenSum"] "total" (lF (fVar 0)) (lF (fL gTupD (fCons (fL kTuple (fCons (fRep (fCons (fC (.int 0)) fNil) (fVar 1)) fNil)) (fCons (fC (.int 0)) fNil)))))
    (eSeq (ePut ["OpenSum"] "term" (lF (fVar 0)) (mGet ["OpenSum"] "total" (lF (fVar 0))))
    (eSeq (ePut ["OpenSum"] "term_sign" (lF (fVar 0)) (lF (fC (.int 1))))
    (ePut ["OpenSum"] "star" (lF (fVar 0)) (lF (fC .non))))))
noncomputable def m_OpenSum_init__ : List D → MS D := mirE 2 2 g_OpenSum_init__
theorem body_OpenSum_init__ (T : Txt K mg) (f : Addr) (cdv : Value) (A : Around) (outer : List Env) (s : Shared) (H : Hp) (E : XK) (hr : Room 1 (A.deeper (PyProof.Rows.envOfC "OpenSum.__init__" (defScope s_OpenSum_init__) s.heap.objs.size f cdv))) :
    MSs (cxOf CX0 P w K mg base ["self", "width"] "OpenSum.__init__" (defScope s_OpenSum_init__) f cdv A outer s H E).nox [] [] [] (defBody s_OpenSum_init__) g_OpenSum_init__ :=
  (mss_cons (ms_fld (T.c_OpenSum.is (by decide +kernel)) (me_pure (de_var 0)) (me_pure (de_tup (da_cons (de_callTy call_tuple_of cad_tuple rfl T.b_tuple bt_tuple (da_cons (de_lrep (da_cons de_int da_nil) (de_var 1)) da_nil)) (da_cons de_int da_nil)))))
    (mss_cons (ms_fld (T.c_OpenSum.is (by decide +kernel)) (me_pure (de_var 0)) (me_fld (T.c_OpenSum.is (by decide +kernel)) (me_pure (de_var 0))))
    (mss_cons (ms_fld (T.c_OpenSum.is (by decide +kernel)) (me_pure (de_var 0)) (me_pure de_int))
    (mss_one (ms_fld (T.c_OpenSum.is (by decide +kernel)) (me_pure (de_var 0)) (me_pure de_non))))))
theorem ok_OpenSum_init__ (T : Txt K mg) : IniE P w K mg base 2 "OpenSum" 2 m_OpenSum_init__ := iniE_of T.f_OpenSum_init__ sc_OpenSum_init__ (body_OpenSum_init__ T)
theorem sc_times : FnScope ["form", "number"] ["form", "number"] (defScope s_times) := ⟨rfl, rfl, rfl, by decide +kernel, rfl, by decide +kernel, by decide +kernel⟩
noncomputable def c1_times : DSt → M D := (f2 gMulT (fVar 0) (fVar 1))
noncomputable def g_times : DSt → M Out := (gRet (fL gTupD (fCons (fL kTuple (fCons (fComp 1 [("number", 1)] (iSeqD (f2 gIx (fVar 0) (fC (.int 0)))) (DL.gName 0) tYes c1_times) fNil)) (fCons (f2 gMulT (f2 gIx (fVar 0) (fC (.int 1))) (fVar 1)) fNil))))
noncomputable def m_times : List D → M D := mir 2 2 g_times
theorem body_times (T : Txt K mg) (f : Addr) (cdv : Value) (A : Around) (outer : List Env) (s : Shared) (H : Hp) (E : XK) (hr : Room 1 (A.deeper (PyProof.Rows.envOfC "times" (defScope s_times) s.heap.objs.size f cdv))) :
    DSs (cxOf CX0 P w K mg base ["form", "number"] "times" (defScope s_times) f cdv A outer s H E).nox [] [] [] E (defBody s_times) g_times :=
  (dss_one (ds_ret (de_tup (da_cons (de_callTy call_tuple_of cad_tuple rfl T.b_tuple bt_tuple (da_cons (de_comp (own := ["coefficient"]) (caps := [("number", 1)]) rfl (caps_of (N := ["form", "number"]) (osc := defScope s_times) rfl rfl rfl (by decide +kernel)) (di_seq (de_ix ix_seq opd_ix (de_var 0) de_int)) (fun _ _ _ _ => (dg_name (i := 0) (show (["coefficient", "number"] : List Str).Nodup from by decide +kernel))) (fun _ _ _ _ => dc_none) (fun _ _ _ _ => (de_op op_mulT opd_mulT (de_var 0) (de_var 1)))) da_nil)) (da_cons (de_op op_mulT opd_mulT (de_ix ix_seq opd_ix (de_var 0) de_int) (de_var 1)) da_nil)))))
theorem ok_times (T : Txt K mg) : Cal P w K mg base 2 "times" 2 m_times := cal_of T.f_times sc_times (body_times T)
theorem sc_is_plain : FnScope ["form"] ["form"] (defScope s_is_plain) := ⟨rfl, rfl, rfl, by decide +kernel, rfl, by decide +kernel, by decide +kernel⟩
noncomputable def c1_is_plain : DSt → M D := (f2 gEq (fVar 0) (fC (.int 0)))
noncomputable def g_is_plain : DSt → M Out := (gRet (fL kAll (fCons (fComp 1 [] (iSeqD (f2 gIx (fVar 0) (fC (.int 0)))) (DL.gName 0) tYes c1_is_plain) fNil)))
noncomputable def m_is_plain : List D → M D := mir 1 1 g_is_plain
theorem body_is_plain (T : Txt K mg) (f : Addr) (cdv : Value) (A : Around) (outer : List Env) (s : Shared) (H : Hp) (E : XK) (hr : Room 1 (A.deeper (PyProof.Rows.envOfC "is_plain" (defScope s_is_plain) s.heap.objs.size f cdv))) :
    DSs (cxOf CX0 P w K mg base ["form"] "is_plain" (defScope s_is_plain) f cdv A outer s H E).nox [] [] [] E (defBody s_is_plain) g_is_plain :=
  (dss_one (ds_ret (de_callB (call_allD rfl) cad_all rfl T.b_all bt_all (da_cons (de_comp (own := ["coefficient"]) (caps := []) rfl (caps_of (N := ["form"]) (osc := defScope s_is_plain) rfl rfl rfl (by decide +kernel)) (di_seq (de_ix ix_seq opd_ix (de_var 0) de_int)) (fun _ _ _ _ => (dg_name (i := 0) (show (["coefficient"] : List Str).Nodup from by decide +kernel))) (fun _ _ _ _ => dc_none) (fun _ _ _ _ => (de_cmp (op_eqD (hu30 hr)) opd_eq (de_var 0) de_int (nomark _)))) da_nil))))
theorem ok_is_plain (T : Txt K mg) : Cal P w K mg base 2 "is_plain" 1 m_is_plain := cal_of T.f_is_plain sc_is_plain (body_is_plain T)
theorem sc_product : FnScope ["left", "right", "place"] ["left", "right", "place"] (defScope s_product) := ⟨rfl, rfl, rfl, by decide +kernel, rfl, by decide +kernel, by decide +kernel⟩
noncomputable def g_product : DSt → M Out := (gSeq (gIf (tTru (fCall m_is_plain (fCons (fVar 1) fNil))) (gRet (fCall m_times (fCons (fVar 0) (fCons (f2 gIx (fVar 1) (fC (.int 1))) fNil)))) gNx)
    (gSeq (gIf (tTru (fCall m_is_plain (fCons (fVar 0) fNil))) (gRet (fCall m_times (fCons (fVar 1) (fCons (f2 gIx (fVar 0) (fC (.int 1))) fNil)))) gNx)
    gNever))
noncomputable def m_product : List D → M D := mir 3 3 g_product
theorem body_product (T : Txt K mg) (f : Addr) (cdv : Value) (A : Around) (outer : List Env) (s : Shared) (H : Hp) (E : XK) (hr : Room 2 (A.deeper (PyProof.Rows.envOfC "product" (defScope s_product) s.heap.objs.size f cdv))) :
    DSs (cxOf CX0 P w K mg base ["left", "right", "place"] "product" (defScope s_product) f cdv A outer s H E).nox [] [] [] E (defBody s_product) g_product :=
  (dss_cons (ds_if (dt_val (de_call (ok_is_plain T) (hr.mono (by decide)) (da_cons (de_var 1) da_nil))) (dss_one (ds_ret (de_call (ok_times T) (hr.mono (by decide)) (da_cons (de_var 0) (da_cons (de_ix ix_seq opd_ix (de_var 1) de_int) da_nil))))) dss_nil)
    (dss_cons (ds_if (dt_val (de_call (ok_is_plain T) (hr.mono (by decide)) (da_cons (de_var 0) da_nil))) (dss_one (ds_ret (de_call (ok_times T) (hr.mono (by decide)) (da_cons (de_var 1) (da_cons (de_ix ix_seq opd_ix (de_var 0) de_int) da_nil))))) dss_nil)
    (dss_one ds_never)))
theorem ok_product (T : Txt K mg) : Cal P w K mg base 3 "product" 3 m_product := cal_of T.f_product sc_product (body_product T)
theorem sc_OpenSum_take_factor : FnScope ["self", "form"] ["self", "form"] (defScope s_OpenSum_take_factor) := ⟨rfl, rfl, rfl, by decide +kernel, rfl, by decide +kernel, by decide +kernel⟩
noncomputable def g_OpenSum_take_factor : DSt → MS Out := (eIf (mB (m2 gIs (mGet ["OpenSum"] "star" (lF (fVar 0))) (lF (fC .non)))) (ePut ["OpenSum"] "term" (lF (fVar 0)) (mCallP m_times (mCons (lF (fVar 1)) (mCons (mGet ["OpenSum"] "term_sign" (lF (fVar 0))) (lF fNil))))) (ePut ["OpenSum"] "term" (lF (fVar 0)) (mCallP m_product (mCons (mGet ["OpenSum"] "term" (lF (fVar 0))) (mCons (lF (fVar 1)) (mCons (mGet ["OpenSum"] "star" (lF (fVar 0))) (lF fNil)))))))
noncomputable def m_OpenSum_take_factor : List D → MS D := mirE 2 2 g_OpenSum_take_factor
theorem body_OpenSum_take_factor (T : Txt K mg) (f : Addr) (cdv : Value) (A : Around) (outer : List Env) (s : Shared) (H : Hp) (E : XK) (hr : Room 3 (A.deeper (PyProof.Rows.envOfC "OpenSum.take_factor" (defScope s_OpenSum_take_factor) s.heap.objs.size f cdv))) :
    MSs (cxOf CX0 P w K mg base ["self", "form"] "OpenSum.take_factor" (defScope s_OpenSum_take_factor) f cdv A outer s H E).nox [] [] [] (defBody s_OpenSum_take_factor) g_OpenSum_take_factor :=
  (mss_one (ms_if (mt_cmp op_isN opd_is (me_fld (T.c_OpenSum.is (by decide +kernel)) (me_pure (de_var 0))) (me_pure de_non) (nomark _)) (mss_one (ms_fld (T.c_OpenSum.is (by decide +kernel)) (me_pure (de_var 0)) (me_callP (ok_times T) (hr.mono (by decide)) (ma_cons (me_pure (de_var 1)) (ma_cons (me_fld (T.c_OpenSum.is (by decide +kernel)) (me_pure (de_var 0))) (ma_pure da_nil)))))) (mss_one (ms_fld (T.c_OpenSum.is (by decide +kernel)) (me_pure (de_var 0)) (me_callP (ok_product T) (hr.mono (by decide)) (ma_cons (me_fld (T.c_OpenSum.is (by decide +kernel)) (me_pure (de_var 0))) (ma_cons (me_pure (de_var 1)) (ma_cons (me_fld (T.c_OpenSum.is (by decide +kernel)) (me_pure (de_var 0))) (ma_pure da_nil)))))))))
theorem ok_OpenSum_take_factor (T : Txt K mg) : MetE P w K mg base 4 "OpenSum" "take_factor" 2 m_OpenSum_take_factor := metE_of T.f_OpenSum_take_factor sc_OpenSum_take_factor (body_OpenSum_take_factor T)
theorem sc_OpenSum_take_sign : FnScope ["self", "sign", "place"] ["self", "sign", "place"] (defScope s_OpenSum_take_sign) := ⟨rfl, rfl, rfl, by decide +kernel, rfl, by decide +kernel, by decide +kernel⟩
noncomputable def g_OpenSum_take_sign : DSt → MS Out := (eIf (lF (t2 gEq (fVar 1) (fC (.str "*")))) (ePut ["OpenSum"] "star" (lF (fVar 0)) (lF (fVar 2))) (eSeq (ePut ["OpenSum"] "total" (lF (fVar 0)) (mMeth "OpenSum" "whole" m_OpenSum_whole (lF (fVar 0)) (lF fNil)))
    (eSeq (ePut ["OpenSum"] "term_sign" (lF (fVar 0)) (lF (fIf (t2 gEq (fVar 1) (fC (.str "-"))) (f1 gNeg (fC (.int 1))) (fC (.int 1)))))
    (ePut ["OpenSum"] "star" (lF (fVar 0)) (lF (fC .non))))))
noncomputable def m_OpenSum_take_sign : List D → MS D := mirE 3 3 g_OpenSum_take_sign
theorem body_OpenSum_take_sign (T : Txt K mg) (f : Addr) (cdv : Value) (A : Around) (outer : List Env) (s : Shared) (H : Hp) (E : XK) (hr : Room 3 (A.deeper (PyProof.Rows.envOfC "OpenSum.take_sign" (defScope s_OpenSum_take_sign) s.heap.objs.size f cdv))) :
    MSs (cxOf CX0 P w K mg base ["self", "sign", "place"] "OpenSum.take_sign" (defScope s_OpenSum_take_sign) f cdv A outer s H E).nox [] [] [] (defBody s_OpenSum_take_sign) g_OpenSum_take_sign :=
  (mss_one (ms_if (mt_pure (dt_cmp (op_eqD (hu30 hr)) opd_eq (de_var 1) de_str (nomark _))) (mss_one (ms_fld (T.c_OpenSum.is (by decide +kernel)) (me_pure (de_var 0)) (me_pure (de_var 2)))) (mss_cons (ms_fld (T.c_OpenSum.is (by decide +kernel)) (me_pure (de_var 0)) (me_meth0 (ok_OpenSum_whole T) (hr.mono (by decide)) (me_pure (de_var 0))))
    (mss_cons (ms_fld (T.c_OpenSum.is (by decide +kernel)) (me_pure (de_var 0)) (me_pure (de_ifx (dt_cmp (op_eqD (hu30 hr)) opd_eq (de_var 1) de_str (nomark _)) (de_un un_neg und_neg de_int) de_int)))
    (mss_one (ms_fld (T.c_OpenSum.is (by decide +kernel)) (me_pure (de_var 0)) (me_pure de_non)))))))
theorem ok_OpenSum_take_sign (T : Txt K mg) : MetE P w K mg base 4 "OpenSum" "take_sign" 3 m_OpenSum_take_sign := metE_of T.f_OpenSum_take_sign sc_OpenSum_take_sign (body_OpenSum_take_sign T)
theorem sc_number_of_figures : FnScope ["word", "first", "number", "place"] ["word"] (defScope s_number_of_figures) := ⟨rfl, rfl, rfl, by decide +kernel, rfl, by decide +kernel, by decide +kernel⟩
noncomputable def b1_number_of_figures : DSt → M Out := (gSet 2 (f2 gCat (f2 gMulT (fVar 2) (fC (.int 1000000000000000000))) (fL kIntT (fCons (fSl (fVar 0) (oSome (fVar 3)) (oSome (f2 gCat (fVar 3) (fC (.int 18))))) fNil))))
noncomputable def g_number_of_figures : DSt → M Out := (gSeq (gSet 1 (f2 gMod (fL kLen (fCons (fVar 0) fNil)) (fC (.int 18))))
    (gSeq (gSet 2 (fIf (t2 gEq (fVar 1) (fC (.int 0))) (fC (.int 0)) (fL kIntT (fCons (fSl (fVar 0) oNone (oSome (fVar 1))) fNil))))
    (gSeq (gFor (iArgs rangeArgs3 (fCons (fVar 1) (fCons (fL kLen (fCons (fVar 0) fNil)) (fCons (fC (.int 18)) fNil)))) (DL.gName 3) b1_number_of_figures)
    (gRet (fVar 2)))))
noncomputable def m_number_of_figures : List D → M D := mir 1 4 g_number_of_figures
theorem body_number_of_figures (T : Txt K mg) (f : Addr) (cdv : Value) (A : Around) (outer : List Env) (s : Shared) (H : Hp) (E : XK) (hr : Room 1 (A.deeper (PyProof.Rows.envOfC "number_of_figures" (defScope s_number_of_figures) s.heap.objs.size f cdv))) :
    DSs (cxOf CX0 P w K mg base ["word", "first", "number", "place"] "number_of_figures" (defScope s_number_of_figures) f cdv A outer s H E).nox [] [] [] E (defBody s_number_of_figures) g_number_of_figures :=
  (dss_cons (ds_set (i := 1) sc_number_of_figures.nd (de_op op_mod opd_mod (de_callB call_lenD cad_len rfl T.b_len bt_len (da_cons (de_var 0) da_nil)) (de_glInt rfl T.g_PART_FIGURES.choose_spec)))
    (dss_cons (ds_set (i := 2) sc_number_of_figures.nd (de_ifx (dt_cmp (op_eqD (hu30 hr)) opd_eq (de_var 1) de_int (nomark _)) de_int (de_callTy call_intT cad_intT rfl T.b_int bt_int (da_cons (de_slice (de_var 0) do_none (do_some (de_var 1))) da_nil))))
    (dss_cons (ds_for PassesOwn.never rfl (di_range3 rfl T.b_range (da_cons (de_var 1) (da_cons (de_callB call_lenD cad_len rfl T.b_len bt_len (da_cons (de_var 0) da_nil)) (da_cons (de_glInt rfl T.g_PART_FIGURES.choose_spec) da_nil)))) (dg_name (i := 3) sc_number_of_figures.nd) (dss_one (ds_set (i := 2) sc_number_of_figures.nd (de_op op_addC opd_cat (de_op op_mulT opd_mulT (de_var 2) (de_glInt rfl T.g_PART_SIZE.choose_spec)) (de_callTy call_intT cad_intT rfl T.b_int bt_int (da_cons (de_slice (de_var 0) (do_some (de_var 3)) (do_some (de_op op_addC opd_cat (de_var 3) (de_glInt rfl T.g_PART_FIGURES.choose_spec)))) da_nil))))))
    (dss_one (ds_ret (de_var 2))))))
theorem ok_number_of_figures (T : Txt K mg) : Cal P w K mg base 2 "number_of_figures" 1 m_number_of_figures := cal_of T.f_number_of_figures sc_number_of_figures (body_number_of_figures T)
theorem sc_number_of : FnScope ["word"] ["word"] (defScope s_number_of) := ⟨rfl, rfl, rfl, by decide +kernel, rfl, by decide +kernel, by decide +kernel⟩
noncomputable def g_number_of : DSt → M Out := (gSeq (gIf (tTru (fSm gStarts (fVar 0) (fC (.str "-")))) (gRet (f1 gNeg (fCall m_number_of_figures (fCons (fSl (fVar 0) (oSome (fC (.int 1))) oNone) fNil)))) gNx)
    (gRet (fCall m_number_of_figures (fCons (fVar 0) fNil))))
noncomputable def m_number_of : List D → M D := mir 1 1 g_number_of
theorem body_number_of (T : Txt K mg) (f : Addr) (cdv : Value) (A : Around) (outer : List Env) (s : Shared) (H : Hp) (E : XK) (hr : Room 2 (A.deeper (PyProof.Rows.envOfC "number_of" (defScope s_number_of) s.heap.objs.size f cdv))) :
    DSs (cxOf CX0 P w K mg base ["word"] "number_of" (defScope s_number_of) f cdv A outer s H E).nox [] [] [] E (defBody s_number_of) g_number_of :=
  (dss_cons (ds_if (dt_val (de_sm sm_starts smd_starts (de_var 0) de_str)) (dss_one (ds_ret (de_un un_neg und_neg (de_call (ok_number_of_figures T) (hr.mono (by decide)) (da_cons (de_slice (de_var 0) (do_some de_int) do_none) da_nil))))) dss_nil)
    (dss_one (ds_ret (de_call (ok_number_of_figures T) (hr.mono (by decide)) (da_cons (de_var 0) da_nil)))))
theorem ok_number_of (T : Txt K mg) : Cal P w K mg base 3 "number_of" 1 m_number_of := cal_of T.f_number_of sc_number_of (body_number_of T)
theorem sc_form_of_word : FnScope ["names", "word"] ["names", "word"] (defScope s_form_of_word) := ⟨rfl, rfl, rfl, by decide +kernel, rfl, by decide +kernel, by decide +kernel⟩
noncomputable def c1_form_of_word : DSt → M D := (fIf (t2 gEq (fVar 0) (fVar 1)) (fC (.int 1)) (fC (.int 0)))
noncomputable def g_form_of_word : DSt → M Out := (gSeq (gIf (tTru (fCall m_is_letter (fCons (f2 gIx (fVar 1) (fC (.int 0))) fNil))) (gRet (fL gTupD (fCons (fL kTuple (fCons (fComp 1 [("word", 1)] (iSeqD (fVar 0)) (DL.gName 0) tYes c1_form_of_word) fNil)) (fCons (fC (.int 0)) fNil)))) gNx)
    (gRet (fL gTupD (fCons (fL kTuple (fCons (fRep (fCons (fC (.int 0)) fNil) (fL kLen (fCons (fVar 0) fNil))) fNil)) (fCons (fCall m_number_of (fCons (fVar 1) fNil)) fNil)))))
noncomputable def m_form_of_word : List D → M D := mir 2 2 g_form_of_word
theorem body_form_of_word (T : Txt K mg) (f : Addr) (cdv : Value) (A : Around) (outer : List Env) (s : Shared) (H : Hp) (E : XK) (hr : Room 3 (A.deeper (PyProof.Rows.envOfC "form_of_word" (defScope s_form_of_word) s.heap.objs.size f cdv))) :
    DSs (cxOf CX0 P w K mg base ["names", "word"] "form_of_word" (defScope s_form_of_word) f cdv A outer s H E).nox [] [] [] E (defBody s_form_of_word) g_form_of_word :=
  (dss_cons (ds_if (dt_val (de_call (ok_is_letter T) (hr.mono (by decide)) (da_cons (de_ix ix_seq opd_ix (de_var 1) de_int) da_nil))) (dss_one (ds_ret (de_tup (da_cons (de_callTy call_tuple_of cad_tuple rfl T.b_tuple bt_tuple (da_cons (de_comp (own := ["name"]) (caps := [("word", 1)]) rfl (caps_of (N := ["names", "word"]) (osc := defScope s_form_of_word) rfl rfl rfl (by decide +kernel)) (di_seq (de_var 0)) (fun _ _ _ _ => (dg_name (i := 0) (show (["name", "word"] : List Str).Nodup from by decide +kernel))) (fun _ _ _ _ => dc_none) (fun _ _ _ _ => (de_ifx (dt_cmp (op_eqD (hu30 hr)) opd_eq (de_var 0) (de_var 1) (nomark _)) de_int de_int))) da_nil)) (da_cons de_int da_nil))))) dss_nil)
    (dss_one (ds_ret (de_tup (da_cons (de_callTy call_tuple_of cad_tuple rfl T.b_tuple bt_tuple (da_cons (de_lrep (da_cons de_int da_nil) (de_callB call_lenD cad_len rfl T.b_len bt_len (da_cons (de_var 0) da_nil))) da_nil)) (da_cons (de_call (ok_number_of T) (hr.mono (by decide)) (da_cons (de_var 1) da_nil)) da_nil))))))
theorem ok_form_of_word (T : Txt K mg) : Cal P w K mg base 4 "form_of_word" 2 m_form_of_word := cal_of T.f_form_of_word sc_form_of_word (body_form_of_word T)
theorem sc_reckoned : FnScope ["names", "pieces", "sums", "word", "place", "inner"] ["names", "pieces"] (defScope s_reckoned) := ⟨rfl, rfl, rfl, by decide +kernel, rfl, by decide +kernel, by decide +kernel⟩
noncomputable def b1_reckoned : DSt → MS Out := (eIf (lF (t2 gEq (fVar 3) (fC (.str "(")))) (eApp 2 (mMake "OpenSum" m_OpenSum_init__ (lF (fCons (fL kLen (fCons (fVar 0) fNil)) fNil)))) (eIf (lF (t2 gEq (fVar 3) (fC (.str ")")))) (eSeq (ePop 5 2)
    (eDrop (mMeth "OpenSum" "take_factor" m_OpenSum_take_factor (lF (fScal (f2 gIx (fVar 2) (f1 gNeg (fC (.int 1)))))) (mCons (mMeth "OpenSum" "whole" m_OpenSum_whole (lF (fVar 5)) (lF fNil)) (lF fNil))))) (eIf (lF (t2 gIn (fVar 3) (fL gTupD (fCons (fC (.str "+")) (fCons (fC (.str "-")) (fCons (fC (.str "*")) fNil)))))) (eDrop (mMeth "OpenSum" "take_sign" m_OpenSum_take_sign (lF (fScal (f2 gIx (fVar 2) (f1 gNeg (fC (.int 1)))))) (lF (fCons (fVar 3) (fCons (fVar 4) fNil))))) (eDrop (mMeth "OpenSum" "take_factor" m_OpenSum_take_factor (lF (fScal (f2 gIx (fVar 2) (f1 gNeg (fC (.int 1)))))) (lF (fCons (fCall m_form_of_word (fCons (fVar 0) (fCons (fVar 3) fNil))) fNil)))))))
noncomputable def g_reckoned : DSt → MS Out := (eSeq (eSet 2 (mL gLstD (mCons (mMake "OpenSum" m_OpenSum_init__ (lF (fCons (fL kLen (fCons (fVar 0) fNil)) fNil))) (lF fNil))))
    (eSeq (eFor (lF (iSeqD (fVar 1))) (gTup2 3 4) b1_reckoned)
    (eRet (mMeth "OpenSum" "whole" m_OpenSum_whole (lF (f2 gIx (fVar 2) (fC (.int 0)))) (lF fNil)))))
noncomputable def m_reckoned : List D → MS D := mirE 2 6 g_reckoned
theorem body_reckoned (T : Txt K mg) (f : Addr) (cdv : Value) (A : Around) (outer : List Env) (s : Shared) (H : Hp) (E : XK) (hr : Room 4 (A.deeper (PyProof.Rows.envOfC "reckoned" (defScope s_reckoned) s.heap.objs.size f cdv))) :
    MSs (cxOf CX0 P w K mg base ["names", "pieces", "sums", "word", "place", "inner"] "reckoned" (defScope s_reckoned) f cdv A outer s H E).nox [] [] [] (defBody s_reckoned) g_reckoned :=
  (mss_cons (ms_own (i := 2) sc_reckoned.nd (ma_cons (me_make (ok_OpenSum_init__ T) (hr.mono (by decide)) (ma_pure (da_cons (de_callB call_lenD cad_len rfl T.b_len bt_len (da_cons (de_var 0) da_nil)) da_nil))) (ma_pure da_nil)))
    (mss_cons (ms_for PassesOwn.never rfl (mi_pure (di_seq (de_var 1))) (dg_tup2 (i := 3) (j := 4) rfl sc_reckoned.nd) (mss_one (ms_if (mt_pure (dt_cmp (op_eqD (hu30 hr)) opd_eq (de_var 3) de_str (nomark _))) (mss_one (ms_app (i := 2) rfl (me_make (ok_OpenSum_init__ T) (hr.mono (by decide)) (ma_pure (da_cons (de_callB call_lenD cad_len rfl T.b_len bt_len (da_cons (de_var 0) da_nil)) da_nil))))) (mss_one (ms_if (mt_pure (dt_cmp (op_eqD (hu30 hr)) opd_eq (de_var 3) de_str (nomark _))) (mss_cons (ms_pop (i := 5) (j := 2) sc_reckoned.nd rfl)
    (mss_one (ms_expr (me_meth (ok_OpenSum_take_factor T) (hr.mono (by decide)) (me_pure (de_thaw (O' := []) (by decide) (de_ix ix_seq opd_ix (de_var 2) (de_un un_neg und_neg de_int)))) (ma_cons (me_meth0 (ok_OpenSum_whole T) (hr.mono (by decide)) (me_pure (de_var 5))) (ma_pure da_nil)))))) (mss_one (ms_if (mt_pure (dt_cmp op_in_seq opd_in (de_var 3) (de_tup (da_cons de_str (da_cons de_str (da_cons de_str da_nil)))) rfl)) (mss_one (ms_expr (me_meth (ok_OpenSum_take_sign T) (hr.mono (by decide)) (me_pure (de_thaw (O' := []) (by decide) (de_ix ix_seq opd_ix (de_var 2) (de_un un_neg und_neg de_int)))) (ma_pure (da_cons (de_var 3) (da_cons (de_var 4) da_nil)))))) (mss_one (ms_expr (me_meth (ok_OpenSum_take_factor T) (hr.mono (by decide)) (me_pure (de_thaw (O' := []) (by decide) (de_ix ix_seq opd_ix (de_var 2) (de_un un_neg und_neg de_int)))) (ma_pure (da_cons (de_call (ok_form_of_word T) (hr.mono (by decide)) (da_cons (de_var 0) (da_cons (de_var 3) da_nil))) da_nil))))))))))))
    (mss_pre (O' := []) (by decide) (mss_one (ms_ret (me_meth0 (ok_OpenSum_whole T) (hr.mono (by decide)) (me_pure (de_ix ix_seq opd_ix (de_var 2) de_int))))))))
theorem ok_reckoned (T : Txt K mg) : CalE P w K mg base 5 "reckoned" 2 m_reckoned := calE_of T.f_reckoned sc_reckoned (body_reckoned T)
theorem sc_read_sum : FnScope ["names", "text", "pieces", "word", "place"] ["names", "text"] (defScope s_read_sum) := ⟨rfl, rfl, rfl, by decide +kernel, rfl, by decide +kernel, by decide +kernel⟩
noncomputable def b1_read_sum : DSt → M Out := (gIf (DL.tAnd (tTru (fCall m_is_letter (fCons (f2 gIx (fVar 3) (fC (.int 0))) fNil))) (t2 gNotIn (fVar 3) (fVar 0))) gNever gNx)
noncomputable def g_read_sum : DSt → MS Out := (eSeq (lF (gSet 2 (fCall m_pieces_of (fCons (fVar 1) fNil))))
    (eSeq (lF (gFor (iSeqD (fVar 2)) (gTup2 3 4) b1_read_sum))
    (eRet (mCall m_reckoned (lF (fCons (fVar 0) (fCons (fVar 2) fNil)))))))
noncomputable def m_read_sum : List D → MS D := mirE 2 5 g_read_sum
theorem body_read_sum (T : Txt K mg) (f : Addr) (cdv : Value) (A : Around) (outer : List Env) (s : Shared) (H : Hp) (E : XK) (hr : Room 5 (A.deeper (PyProof.Rows.envOfC "read_sum" (defScope s_read_sum) s.heap.objs.size f cdv))) :
    MSs (cxOf CX0 P w K mg base ["names", "text", "pieces", "word", "place"] "read_sum" (defScope s_read_sum) f cdv A outer s H E).nox [] [] [] (defBody s_read_sum) g_read_sum :=
  (mss_cons (ms_pure (ds_set (i := 2) sc_read_sum.nd (de_call (ok_pieces_of T) (hr.mono (by decide)) (da_cons (de_var 1) da_nil))))
    (mss_cons (ms_pure (ds_for PassesOwn.never rfl (di_seq (de_var 2)) (dg_tup2 (i := 3) (j := 4) rfl sc_read_sum.nd) (dss_one (ds_if (DW.dt (dw_and (dt_val (de_call (ok_is_letter T) (hr.mono (by decide)) (da_cons (de_ix ix_seq opd_ix (de_var 3) de_int) da_nil))) (dw_and1 (dt_cmp op_notIn_seq opd_notin (de_var 3) (de_var 0) rfl)))) (dss_one ds_never) dss_nil))))
    (mss_one (ms_ret (me_call (ok_reckoned T) (hr.mono (by decide)) (ma_pure (da_cons (de_var 0) (da_cons (de_var 2) da_nil))))))))
theorem ok_read_sum (T : Txt K mg) : CalE P w K mg base 6 "read_sum" 2 m_read_sum := calE_of T.f_read_sum sc_read_sum (body_read_sum T)
theorem sc_law : FnScope ["_law_script", "_law_number", "_law_names_here", "_law_tokens", "_law_form", "_law_depth", "_law_written_here", "_law_handed", "_law_time"] ["_law_script"] (defScope s_law) := ⟨rfl, rfl, rfl, by decide +kernel, rfl, by decide +kernel, by decide +kernel⟩
noncomputable def b1_law : DSt → MS Out := (eIf (mNot (mTru (mCallP m_law_is_form (mCons (mCall m_read_sum (lF (fCons (fVar 7) (fCons (fVar 6) fNil)))) (lF (fCons (fVar 4) fNil)))))) (lF (gRet (fC (.bl false)))) eNx)
noncomputable def g_law : DSt → MS Out := (eSeq (lF (gSet 1 (fCall m_law_mix (fCons (fCall m_law_at (fCons (fVar 0) (fCons (fC (.int 0)) fNil))) (fCons (fC (.int 1)) fNil)))))
    (eSeq (lF (gSet 2 (fCall m_law_names (fCons (fVar 1) (fCons (fC (.int 4)) fNil)))))
    (eSeq (lF (gAsg (gTup3 3 4 5) (fCall m_law_tree (fCons (fVar 0) (fCons (fVar 2) (fCons (fC (.int 2)) (fCons (fC (.int 38)) fNil)))))))
    (eSeq (lF (gSet 6 (fCall m_law_written (fCons (fVar 3) (fCons (fVar 1) fNil)))))
    (eSeq (lF (gSet 7 (fL kList (fCons (fVar 2) fNil))))
    (eSeq (eFor (lF (iArgs rangeArgs (fCons (fC (.int 2)) fNil))) (DL.gName 8) b1_law)
    (lF (gRet (f2 gEq (fVar 7) (fVar 2))))))))))
noncomputable def m_law : List D → MS D := mirE 1 9 g_law
theorem body_law (T : Txt K mg) (f : Addr) (cdv : Value) (A : Around) (outer : List Env) (s : Shared) (H : Hp) (E : XK) (hr : Room 6 (A.deeper (PyProof.Rows.envOfC "law" (defScope s_law) s.heap.objs.size f cdv))) :
    MSs (cxOf CX0 P w K mg base ["_law_script", "_law_number", "_law_names_here", "_law_tokens", "_law_form", "_law_depth", "_law_written_here", "_law_handed", "_law_time"] "law" (defScope s_law) f cdv A outer s H E).nox [] [] [] (defBody s_law) g_law :=
  (mss_cons (ms_pure (ds_set (i := 1) sc_law.nd (de_call (ok_law_mix T) (hr.mono (by decide)) (da_cons (de_call (ok_law_at T) (hr.mono (by decide)) (da_cons (de_var 0) (da_cons de_int da_nil))) (da_cons de_int da_nil)))))
    (mss_cons (ms_pure (ds_set (i := 2) sc_law.nd (de_call (ok_law_names T) (hr.mono (by decide)) (da_cons (de_var 1) (da_cons de_int da_nil)))))
    (mss_cons (ms_pure (ds_asg (de_call (ok_law_tree T) (hr.mono (by decide)) (da_cons (de_var 0) (da_cons (de_var 2) (da_cons de_int (da_cons de_int da_nil))))) (dg_tup3 (i := 3) (j := 4) (l := 5) rfl sc_law.nd)))
    (mss_cons (ms_pure (ds_set (i := 6) sc_law.nd (de_call (ok_law_written T) (hr.mono (by decide)) (da_cons (de_var 3) (da_cons (de_var 1) da_nil)))))
    (mss_cons (ms_pure (ds_set (i := 7) sc_law.nd (de_callTy call_list_of cad_list rfl T.b_list bt_list (da_cons (de_var 2) da_nil))))
    (mss_cons (ms_for PassesOwn.never rfl (mi_pure (di_range rfl T.b_range (da_cons de_int da_nil))) (dg_name (i := 8) sc_law.nd) (mss_one (ms_if (mt_not (mt_val (me_callP (ok_law_is_form T) (hr.mono (by decide)) (ma_cons (me_call (ok_read_sum T) (hr.mono (by decide)) (ma_pure (da_cons (de_var 7) (da_cons (de_var 6) da_nil)))) (ma_pure (da_cons (de_var 4) da_nil)))))) (mss_one (ms_pure (ds_ret de_bl))) mss_nil)))
    (mss_one (ms_pure (ds_ret (de_cmp (op_eqD (hu30 hr)) opd_eq (de_var 7) (de_var 2) (nomark _)))))))))))
end
theorem lcons {us : List Value} {n : Nat} (h : us.length = n + 1) : ∃ a r, us = a :: r ∧ r.length = n := by
  cases us with
  | nil => cases h
  | cons a r => exact ⟨a, r, rfl, Nat.succ.inj h⟩
theorem alls1 {fd : FuncData} {p0 : Str} (h : ∀ a0 : Value, bindArgs fd ⟨[a0], []⟩ = pure ([p0].zip [a0])) (us : List Value) (hl : us.length = ([p0] : List Str).length) : bindArgs fd ⟨us, []⟩ = pure ([p0].zip us) := by
  obtain ⟨a0, r0, rfl, q0⟩ := lcons hl
  cases List.eq_nil_of_length_eq_zero q0
  exact h a0
theorem alls2 {fd : FuncData} {p0 p1 : Str} (h : ∀ a0 a1 : Value, bindArgs fd ⟨[a0, a1], []⟩ = pure ([p0, p1].zip [a0, a1])) (us : List Value) (hl : us.length = ([p0, p1] : List Str).length) : bindArgs fd ⟨us, []⟩ = pure ([p0, p1].zip us) := by
  obtain ⟨a0, r0, rfl, q0⟩ := lcons hl
  obtain ⟨a1, r1, rfl, q1⟩ := lcons q0
  cases List.eq_nil_of_length_eq_zero q1
  exact h a0 a1
theorem alls3 {fd : FuncData} {p0 p1 p2 : Str} (h : ∀ a0 a1 a2 : Value, bindArgs fd ⟨[a0, a1, a2], []⟩ = pure ([p0, p1, p2].zip [a0, a1, a2])) (us : List Value) (hl : us.length = ([p0, p1, p2] : List Str).length) : bindArgs fd ⟨us, []⟩ = pure ([p0, p1, p2].zip us) := by
  obtain ⟨a0, r0, rfl, q0⟩ := lcons hl
  obtain ⟨a1, r1, rfl, q1⟩ := lcons q0
  obtain ⟨a2, r2, rfl, q2⟩ := lcons q1
  cases List.eq_nil_of_length_eq_zero q2
  exact h a0 a1 a2
theorem alls4 {fd : FuncData} {p0 p1 p2 p3 : Str} (h : ∀ a0 a1 a2 a3 : Value, bindArgs fd ⟨[a0, a1, a2, a3], []⟩ = pure ([p0, p1, p2, p3].zip [a0, a1, a2, a3])) (us : List Value) (hl : us.length = ([p0, p1, p2, p3] : List Str).length) : bindArgs fd ⟨us, []⟩ = pure ([p0, p1, p2, p3].zip us) := by
  obtain ⟨a0, r0, rfl, q0⟩ := lcons hl
  obtain ⟨a1, r1, rfl, q1⟩ := lcons q0
  obtain ⟨a2, r2, rfl, q2⟩ := lcons q1
  obtain ⟨a3, r3, rfl, q3⟩ := lcons q2
  cases List.eq_nil_of_length_eq_zero q3
  exact h a0 a1 a2 a3
theorem txt_mk {K : PySem.W.Frag} {h : Heap} {mg : Str → Option Value} (X : K.In h) (G : h.Ns mainGlobals mg)
    {C_OpenSum : Addr}
    {f0 : Addr} {oc0 kV0 dc0 pm0 cd0 ct0 : Value} {od0 an0 : Option Addr} {sl0 : Array (Option Value)}
    {f1 : Addr} {oc1 kV1 dc1 pm1 cd1 ct1 : Value} {od1 an1 : Option Addr} {sl1 : Array (Option Value)}
    {f2 : Addr} {oc2 kV2 dc2 pm2 cd2 ct2 : Value} {od2 an2 : Option Addr} {sl2 : Array (Option Value)}
    {f3 : Addr} {oc3 kV3 dc3 pm3 cd3 ct3 : Value} {od3 an3 : Option Addr} {sl3 : Array (Option Value)}
    {f4 : Addr} {oc4 kV4 dc4 pm4 cd4 ct4 : Value} {od4 an4 : Option Addr} {sl4 : Array (Option Value)}
    {f5 : Addr} {oc5 kV5 dc5 pm5 cd5 ct5 : Value} {od5 an5 : Option Addr} {sl5 : Array (Option Value)}
    {f6 : Addr} {oc6 kV6 dc6 pm6 cd6 ct6 : Value} {od6 an6 : Option Addr} {sl6 : Array (Option Value)}
    {f7 : Addr} {oc7 kV7 dc7 pm7 cd7 ct7 : Value} {od7 an7 : Option Addr} {sl7 : Array (Option Value)}
    {f8 : Addr} {oc8 kV8 dc8 pm8 cd8 ct8 : Value} {od8 an8 : Option Addr} {sl8 : Array (Option Value)}
    {f9 : Addr} {oc9 kV9 dc9 pm9 cd9 ct9 : Value} {od9 an9 : Option Addr} {sl9 : Array (Option Value)}
    {f10 : Addr} {oc10 kV10 dc10 pm10 cd10 ct10 : Value} {od10 an10 : Option Addr} {sl10 : Array (Option Value)}
    {f11 : Addr} {oc11 kV11 dc11 pm11 cd11 ct11 : Value} {od11 an11 : Option Addr} {sl11 : Array (Option Value)}
    {f12 : Addr} {oc12 kV12 dc12 pm12 cd12 ct12 : Value} {od12 an12 : Option Addr} {sl12 : Array (Option Value)}
    {f13 : Addr} {oc13 kV13 dc13 pm13 cd13 ct13 : Value} {od13 an13 : Option Addr} {sl13 : Array (Option Value)}
    {f14 : Addr} {oc14 kV14 dc14 pm14 cd14 ct14 : Value} {od14 an14 : Option Addr} {sl14 : Array (Option Value)}
    {f15 : Addr} {oc15 kV15 dc15 pm15 cd15 ct15 : Value} {od15 an15 : Option Addr} {sl15 : Array (Option Value)}
    {f16 : Addr} {oc16 kV16 dc16 pm16 cd16 ct16 : Value} {od16 an16 : Option Addr} {sl16 : Array (Option Value)}
    {f17 : Addr} {oc17 kV17 dc17 pm17 cd17 ct17 : Value} {od17 an17 : Option Addr} {sl17 : Array (Option Value)}
    {f18 : Addr} {oc18 kV18 dc18 pm18 cd18 ct18 : Value} {od18 an18 : Option Addr} {sl18 : Array (Option Value)}
    {f19 : Addr} {oc19 kV19 dc19 pm19 cd19 ct19 : Value} {od19 an19 : Option Addr} {sl19 : Array (Option Value)}
    {f20 : Addr} {oc20 kV20 dc20 pm20 cd20 ct20 : Value} {od20 an20 : Option Addr} {sl20 : Array (Option Value)}
    {f21 : Addr} {oc21 kV21 dc21 pm21 cd21 ct21 : Value} {od21 an21 : Option Addr} {sl21 : Array (Option Value)}
    {f22 : Addr} {oc22 kV22 dc22 pm22 cd22 ct22 : Value} {od22 an22 : Option Addr} {sl22 : Array (Option Value)}
    {f23 : Addr} {oc23 kV23 dc23 pm23 cd23 ct23 : Value} {od23 an23 : Option Addr} {sl23 : Array (Option Value)}
    {f24 : Addr} {oc24 kV24 dc24 pm24 cd24 ct24 : Value} {od24 an24 : Option Addr} {sl24 : Array (Option Value)}
    {f25 : Addr} {oc25 kV25 dc25 pm25 cd25 ct25 : Value} {od25 an25 : Option Addr} {sl25 : Array (Option Value)}
    {f26 : Addr} {oc26 kV26 dc26 pm26 cd26 ct26 : Value} {od26 an26 : Option Addr} {sl26 : Array (Option Value)}
    {f27 : Addr} {oc27 kV27 dc27 pm27 cd27 ct27 : Value} {od27 an27 : Option Addr} {sl27 : Array (Option Value)}
    {f28 : Addr} {oc28 kV28 dc28 pm28 cd28 ct28 : Value} {od28 an28 : Option Addr} {sl28 : Array (Option Value)}
    {f29 : Addr} {oc29 kV29 dc29 pm29 cd29 ct29 : Value} {od29 an29 : Option Addr} {sl29 : Array (Option Value)}
    {f30 : Addr} {oc30 kV30 dc30 pm30 cd30 ct30 : Value} {od30 an30 : Option Addr} {sl30 : Array (Option Value)}
    {f31 : Addr} {oc31 kV31 dc31 pm31 cd31 ct31 : Value} {od31 an31 : Option Addr} {sl31 : Array (Option Value)}
    {f32 : Addr} {oc32 kV32 dc32 pm32 cd32 ct32 : Value} {od32 an32 : Option Addr} {sl32 : Array (Option Value)}
    {f33 : Addr} {oc33 kV33 dc33 pm33 cd33 ct33 : Value} {od33 an33 : Option Addr} {sl33 : Array (Option Value)}
    {f34 : Addr} {oc34 kV34 dc34 pm34 cd34 ct34 : Value} {od34 an34 : Option Addr} {sl34 : Array (Option Value)}
    {t0 : Tok}
    {t1 : Tok}
    {t2 : Tok}
    {t3 : Tok}
    {t4 : Tok}
    {t5 : Tok}
    (ca_OpenSum : PySem.W.nsIn K mainGlobals "OpenSum" = some (some (.ref C_OpenSum)))
    (cp_OpenSum : PySem.W.plainGet K C_OpenSum Str.empty = true)
    (cq_OpenSum : PySem.W.hasDictIn K C_OpenSum = true)
    (cr_OpenSum : PySem.W.plainOver K C_OpenSum = true)
    (cs_OpenSum : PySem.W.findIn K (.ref C_OpenSum) "__setattr__" = some (some (.builtin "object.__setattr__")))
    (cf0_OpenSum : PySem.W.findIn K (.ref C_OpenSum) "star" = some none)
    (cf1_OpenSum : PySem.W.findIn K (.ref C_OpenSum) "term" = some none)
    (cf2_OpenSum : PySem.W.findIn K (.ref C_OpenSum) "term_sign" = some none)
    (cf3_OpenSum : PySem.W.findIn K (.ref C_OpenSum) "total" = some none)
    (a0 : PySem.W.nsIn K mainGlobals "_law_mix" = some (some (.ref f0)))
    (l0 : K.lookup f0 = some ⟨oc0, od0, .func (PySem.W.fnOf "_law_mix" "_law_mix" (defArgs s_law_mix) (defBody s_law_mix) (defScope s_law_mix) .none kV0 dc0 pm0 an0 cd0 ct0), sl0⟩)
    (c0 : PySem.W.codeIn K cd0 "_law_mix" = true)
    (k0 : PySem.W.keepIn K (.ref f0) = true)
    (a1 : PySem.W.nsIn K mainGlobals "_law_name" = some (some (.ref f1)))
    (l1 : K.lookup f1 = some ⟨oc1, od1, .func (PySem.W.fnOf "_law_name" "_law_name" (defArgs s_law_name) (defBody s_law_name) (defScope s_law_name) .none kV1 dc1 pm1 an1 cd1 ct1), sl1⟩)
    (c1 : PySem.W.codeIn K cd1 "_law_name" = true)
    (k1 : PySem.W.keepIn K (.ref f1) = true)
    (a2 : PySem.W.nsIn K mainGlobals "_law_names" = some (some (.ref f2)))
    (l2 : K.lookup f2 = some ⟨oc2, od2, .func (PySem.W.fnOf "_law_names" "_law_names" (defArgs s_law_names) (defBody s_law_names) (defScope s_law_names) .none kV2 dc2 pm2 an2 cd2 ct2), sl2⟩)
    (c2 : PySem.W.codeIn K cd2 "_law_names" = true)
    (k2 : PySem.W.keepIn K (.ref f2) = true)
    (a3 : PySem.W.nsIn K mainGlobals "_law_plain" = some (some (.ref f3)))
    (l3 : K.lookup f3 = some ⟨oc3, od3, .func (PySem.W.fnOf "_law_plain" "_law_plain" (defArgs s_law_plain) (defBody s_law_plain) (defScope s_law_plain) .none kV3 dc3 pm3 an3 cd3 ct3), sl3⟩)
    (c3 : PySem.W.codeIn K cd3 "_law_plain" = true)
    (k3 : PySem.W.keepIn K (.ref f3) = true)
    (a4 : PySem.W.nsIn K mainGlobals "_law_named" = some (some (.ref f4)))
    (l4 : K.lookup f4 = some ⟨oc4, od4, .func (PySem.W.fnOf "_law_named" "_law_named" (defArgs s_law_named) (defBody s_law_named) (defScope s_law_named) .none kV4 dc4 pm4 an4 cd4 ct4), sl4⟩)
    (c4 : PySem.W.codeIn K cd4 "_law_named" = true)
    (k4 : PySem.W.keepIn K (.ref f4) = true)
    (a5 : PySem.W.nsIn K mainGlobals "_law_scaled" = some (some (.ref f5)))
    (l5 : K.lookup f5 = some ⟨oc5, od5, .func (PySem.W.fnOf "_law_scaled" "_law_scaled" (defArgs s_law_scaled) (defBody s_law_scaled) (defScope s_law_scaled) .none kV5 dc5 pm5 an5 cd5 ct5), sl5⟩)
    (c5 : PySem.W.codeIn K cd5 "_law_scaled" = true)
    (k5 : PySem.W.keepIn K (.ref f5) = true)
    (a6 : PySem.W.nsIn K mainGlobals "_law_added" = some (some (.ref f6)))
    (l6 : K.lookup f6 = some ⟨oc6, od6, .func (PySem.W.fnOf "_law_added" "_law_added" (defArgs s_law_added) (defBody s_law_added) (defScope s_law_added) .none kV6 dc6 pm6 an6 cd6 ct6), sl6⟩)
    (c6 : PySem.W.codeIn K cd6 "_law_added" = true)
    (k6 : PySem.W.keepIn K (.ref f6) = true)
    (a7 : PySem.W.nsIn K mainGlobals "_law_term" = some (some (.ref f7)))
    (l7 : K.lookup f7 = some ⟨oc7, od7, .func (PySem.W.fnOf "_law_term" "_law_term" (defArgs s_law_term) (defBody s_law_term) (defScope s_law_term) .none kV7 dc7 pm7 an7 cd7 ct7), sl7⟩)
    (c7 : PySem.W.codeIn K cd7 "_law_term" = true)
    (k7 : PySem.W.keepIn K (.ref f7) = true)
    (a8 : PySem.W.nsIn K mainGlobals "_law_at" = some (some (.ref f8)))
    (l8 : K.lookup f8 = some ⟨oc8, od8, .func (PySem.W.fnOf "_law_at" "_law_at" (defArgs s_law_at) (defBody s_law_at) (defScope s_law_at) .none kV8 dc8 pm8 an8 cd8 ct8), sl8⟩)
    (c8 : PySem.W.codeIn K cd8 "_law_at" = true)
    (k8 : PySem.W.keepIn K (.ref f8) = true)
    (a9 : PySem.W.nsIn K mainGlobals "_law_grown" = some (some (.ref f9)))
    (l9 : K.lookup f9 = some ⟨oc9, od9, .func (PySem.W.fnOf "_law_grown" "_law_grown" (defArgs s_law_grown) (defBody s_law_grown) (defScope s_law_grown) .none kV9 dc9 pm9 an9 cd9 ct9), sl9⟩)
    (c9 : PySem.W.codeIn K cd9 "_law_grown" = true)
    (k9 : PySem.W.keepIn K (.ref f9) = true)
    (a10 : PySem.W.nsIn K mainGlobals "_law_tree" = some (some (.ref f10)))
    (l10 : K.lookup f10 = some ⟨oc10, od10, .func (PySem.W.fnOf "_law_tree" "_law_tree" (defArgs s_law_tree) (defBody s_law_tree) (defScope s_law_tree) .none kV10 dc10 pm10 an10 cd10 ct10), sl10⟩)
    (c10 : PySem.W.codeIn K cd10 "_law_tree" = true)
    (k10 : PySem.W.keepIn K (.ref f10) = true)
    (a11 : PySem.W.nsIn K mainGlobals "_law_written" = some (some (.ref f11)))
    (l11 : K.lookup f11 = some ⟨oc11, od11, .func (PySem.W.fnOf "_law_written" "_law_written" (defArgs s_law_written) (defBody s_law_written) (defScope s_law_written) .none kV11 dc11 pm11 an11 cd11 ct11), sl11⟩)
    (c11 : PySem.W.codeIn K cd11 "_law_written" = true)
    (k11 : PySem.W.keepIn K (.ref f11) = true)
    (a12 : PySem.W.nsIn K mainGlobals "_law_whole" = some (some (.ref f12)))
    (l12 : K.lookup f12 = some ⟨oc12, od12, .func (PySem.W.fnOf "_law_whole" "_law_whole" (defArgs s_law_whole) (defBody s_law_whole) (defScope s_law_whole) .none kV12 dc12 pm12 an12 cd12 ct12), sl12⟩)
    (c12 : PySem.W.codeIn K cd12 "_law_whole" = true)
    (k12 : PySem.W.keepIn K (.ref f12) = true)
    (a13 : PySem.W.nsIn K mainGlobals "_law_is_form" = some (some (.ref f13)))
    (l13 : K.lookup f13 = some ⟨oc13, od13, .func (PySem.W.fnOf "_law_is_form" "_law_is_form" (defArgs s_law_is_form) (defBody s_law_is_form) (defScope s_law_is_form) .none kV13 dc13 pm13 an13 cd13 ct13), sl13⟩)
    (c13 : PySem.W.codeIn K cd13 "_law_is_form" = true)
    (k13 : PySem.W.keepIn K (.ref f13) = true)
    (a14 : PySem.W.nsIn K mainGlobals "is_letter" = some (some (.ref f14)))
    (l14 : K.lookup f14 = some ⟨oc14, od14, .func (PySem.W.fnOf "is_letter" "is_letter" (defArgs s_is_letter) (defBody s_is_letter) (defScope s_is_letter) .none kV14 dc14 pm14 an14 cd14 ct14), sl14⟩)
    (c14 : PySem.W.codeIn K cd14 "is_letter" = true)
    (k14 : PySem.W.keepIn K (.ref f14) = true)
    (a15 : PySem.W.nsIn K mainGlobals "is_figure" = some (some (.ref f15)))
    (l15 : K.lookup f15 = some ⟨oc15, od15, .func (PySem.W.fnOf "is_figure" "is_figure" (defArgs s_is_figure) (defBody s_is_figure) (defScope s_is_figure) .none kV15 dc15 pm15 an15 cd15 ct15), sl15⟩)
    (c15 : PySem.W.codeIn K cd15 "is_figure" = true)
    (k15 : PySem.W.keepIn K (.ref f15) = true)
    (a16 : PySem.W.nsIn K mainGlobals "end_of_piece" = some (some (.ref f16)))
    (l16 : K.lookup f16 = some ⟨oc16, od16, .func (PySem.W.fnOf "end_of_piece" "end_of_piece" (defArgs s_end_of_piece) (defBody s_end_of_piece) (defScope s_end_of_piece) .none kV16 dc16 pm16 an16 cd16 ct16), sl16⟩)
    (c16 : PySem.W.codeIn K cd16 "end_of_piece" = true)
    (k16 : PySem.W.keepIn K (.ref f16) = true)
    (a17 : PySem.W.nsIn K mainGlobals "depth_by" = some (some (.ref f17)))
    (l17 : K.lookup f17 = some ⟨oc17, od17, .func (PySem.W.fnOf "depth_by" "depth_by" (defArgs s_depth_by) (defBody s_depth_by) (defScope s_depth_by) .none kV17 dc17 pm17 an17 cd17 ct17), sl17⟩)
    (c17 : PySem.W.codeIn K cd17 "depth_by" = true)
    (k17 : PySem.W.keepIn K (.ref f17) = true)
    (a18 : PySem.W.nsIn K mainGlobals "wanted_behind" = some (some (.ref f18)))
    (l18 : K.lookup f18 = some ⟨oc18, od18, .func (PySem.W.fnOf "wanted_behind" "wanted_behind" (defArgs s_wanted_behind) (defBody s_wanted_behind) (defScope s_wanted_behind) .none kV18 dc18 pm18 an18 cd18 ct18), sl18⟩)
    (c18 : PySem.W.codeIn K cd18 "wanted_behind" = true)
    (k18 : PySem.W.keepIn K (.ref f18) = true)
    (a19 : PySem.W.nsIn K mainGlobals "may_stand" = some (some (.ref f19)))
    (l19 : K.lookup f19 = some ⟨oc19, od19, .func (PySem.W.fnOf "may_stand" "may_stand" (defArgs s_may_stand) (defBody s_may_stand) (defScope s_may_stand) .none kV19 dc19 pm19 an19 cd19 ct19), sl19⟩)
    (c19 : PySem.W.codeIn K cd19 "may_stand" = true)
    (k19 : PySem.W.keepIn K (.ref f19) = true)
    (a20 : PySem.W.nsIn K mainGlobals "pieces_of" = some (some (.ref f20)))
    (l20 : K.lookup f20 = some ⟨oc20, od20, .func (PySem.W.fnOf "pieces_of" "pieces_of" (defArgs s_pieces_of) (defBody s_pieces_of) (defScope s_pieces_of) .none kV20 dc20 pm20 an20 cd20 ct20), sl20⟩)
    (c20 : PySem.W.codeIn K cd20 "pieces_of" = true)
    (k20 : PySem.W.keepIn K (.ref f20) = true)
    (a21 : PySem.W.nsIn K mainGlobals "added" = some (some (.ref f21)))
    (l21 : K.lookup f21 = some ⟨oc21, od21, .func (PySem.W.fnOf "added" "added" (defArgs s_added) (defBody s_added) (defScope s_added) .none kV21 dc21 pm21 an21 cd21 ct21), sl21⟩)
    (c21 : PySem.W.codeIn K cd21 "added" = true)
    (k21 : PySem.W.keepIn K (.ref f21) = true)
    (a22 : PySem.W.findIn K (.ref C_OpenSum) "whole" = some (some (.ref f22)))
    (b22 : PySem.W.isFn K (.ref f22) = true)
    (l22 : K.lookup f22 = some ⟨oc22, od22, .func (PySem.W.fnOf "whole" "OpenSum.whole" (defArgs s_OpenSum_whole) (defBody s_OpenSum_whole) (defScope s_OpenSum_whole) .none kV22 dc22 pm22 an22 cd22 ct22), sl22⟩)
    (c22 : PySem.W.codeIn K cd22 "OpenSum.whole" = true)
    (k22 : PySem.W.keepIn K (.ref f22) = true)
    (a23 : PySem.W.findIn K (.ref C_OpenSum) "__init__" = some (some (.ref f23)))
    (b23 : PySem.W.isFn K (.ref f23) = true)
    (i23 : PySem.W.makesIn K C_OpenSum = true)
    (j23 : PySem.W.keepIn K (.ref C_OpenSum) = true)
    (l23 : K.lookup f23 = some ⟨oc23, od23, .func (PySem.W.fnOf "__init__" "OpenSum.__init__" (defArgs s_OpenSum_init__) (defBody s_OpenSum_init__) (defScope s_OpenSum_init__) .none kV23 dc23 pm23 an23 cd23 ct23), sl23⟩)
    (c23 : PySem.W.codeIn K cd23 "OpenSum.__init__" = true)
    (k23 : PySem.W.keepIn K (.ref f23) = true)
    (a24 : PySem.W.nsIn K mainGlobals "times" = some (some (.ref f24)))
    (l24 : K.lookup f24 = some ⟨oc24, od24, .func (PySem.W.fnOf "times" "times" (defArgs s_times) (defBody s_times) (defScope s_times) .none kV24 dc24 pm24 an24 cd24 ct24), sl24⟩)
    (c24 : PySem.W.codeIn K cd24 "times" = true)
    (k24 : PySem.W.keepIn K (.ref f24) = true)
    (a25 : PySem.W.nsIn K mainGlobals "is_plain" = some (some (.ref f25)))
    (l25 : K.lookup f25 = some ⟨oc25, od25, .func (PySem.W.fnOf "is_plain" "is_plain" (defArgs s_is_plain) (defBody s_is_plain) (defScope s_is_plain) .none kV25 dc25 pm25 an25 cd25 ct25), sl25⟩)
    (c25 : PySem.W.codeIn K cd25 "is_plain" = true)
    (k25 : PySem.W.keepIn K (.ref f25) = true)
    (a26 : PySem.W.nsIn K mainGlobals "product" = some (some (.ref f26)))
    (l26 : K.lookup f26 = some ⟨oc26, od26, .func (PySem.W.fnOf "product" "product" (defArgs s_product) (defBody s_product) (defScope s_product) .none kV26 dc26 pm26 an26 cd26 ct26), sl26⟩)
    (c26 : PySem.W.codeIn K cd26 "product" = true)
    (k26 : PySem.W.keepIn K (.ref f26) = true)
    (a27 : PySem.W.findIn K (.ref C_OpenSum) "take_factor" = some (some (.ref f27)))
    (b27 : PySem.W.isFn K (.ref f27) = true)
    (l27 : K.lookup f27 = some ⟨oc27, od27, .func (PySem.W.fnOf "take_factor" "OpenSum.take_factor" (defArgs s_OpenSum_take_factor) (defBody s_OpenSum_take_factor) (defScope s_OpenSum_take_factor) .none kV27 dc27 pm27 an27 cd27 ct27), sl27⟩)
    (c27 : PySem.W.codeIn K cd27 "OpenSum.take_factor" = true)
    (k27 : PySem.W.keepIn K (.ref f27) = true)
    (a28 : PySem.W.findIn K (.ref C_OpenSum) "take_sign" = some (some (.ref f28)))
    (b28 : PySem.W.isFn K (.ref f28) = true)
    (l28 : K.lookup f28 = some ⟨oc28, od28, .func (PySem.W.fnOf "take_sign" "OpenSum.take_sign" (defArgs s_OpenSum_take_sign) (defBody s_OpenSum_take_sign) (defScope s_OpenSum_take_sign) .none kV28 dc28 pm28 an28 cd28 ct28), sl28⟩)
    (c28 : PySem.W.codeIn K cd28 "OpenSum.take_sign" = true)
    (k28 : PySem.W.keepIn K (.ref f28) = true)
    (a29 : PySem.W.nsIn K mainGlobals "number_of_figures" = some (some (.ref f29)))
    (l29 : K.lookup f29 = some ⟨oc29, od29, .func (PySem.W.fnOf "number_of_figures" "number_of_figures" (defArgs s_number_of_figures) (defBody s_number_of_figures) (defScope s_number_of_figures) .none kV29 dc29 pm29 an29 cd29 ct29), sl29⟩)
    (c29 : PySem.W.codeIn K cd29 "number_of_figures" = true)
    (k29 : PySem.W.keepIn K (.ref f29) = true)
    (a30 : PySem.W.nsIn K mainGlobals "number_of" = some (some (.ref f30)))
    (l30 : K.lookup f30 = some ⟨oc30, od30, .func (PySem.W.fnOf "number_of" "number_of" (defArgs s_number_of) (defBody s_number_of) (defScope s_number_of) .none kV30 dc30 pm30 an30 cd30 ct30), sl30⟩)
    (c30 : PySem.W.codeIn K cd30 "number_of" = true)
    (k30 : PySem.W.keepIn K (.ref f30) = true)
    (a31 : PySem.W.nsIn K mainGlobals "form_of_word" = some (some (.ref f31)))
    (l31 : K.lookup f31 = some ⟨oc31, od31, .func (PySem.W.fnOf "form_of_word" "form_of_word" (defArgs s_form_of_word) (defBody s_form_of_word) (defScope s_form_of_word) .none kV31 dc31 pm31 an31 cd31 ct31), sl31⟩)
    (c31 : PySem.W.codeIn K cd31 "form_of_word" = true)
    (k31 : PySem.W.keepIn K (.ref f31) = true)
    (a32 : PySem.W.nsIn K mainGlobals "reckoned" = some (some (.ref f32)))
    (l32 : K.lookup f32 = some ⟨oc32, od32, .func (PySem.W.fnOf "reckoned" "reckoned" (defArgs s_reckoned) (defBody s_reckoned) (defScope s_reckoned) .none kV32 dc32 pm32 an32 cd32 ct32), sl32⟩)
    (c32 : PySem.W.codeIn K cd32 "reckoned" = true)
    (k32 : PySem.W.keepIn K (.ref f32) = true)
    (a33 : PySem.W.nsIn K mainGlobals "read_sum" = some (some (.ref f33)))
    (l33 : K.lookup f33 = some ⟨oc33, od33, .func (PySem.W.fnOf "read_sum" "read_sum" (defArgs s_read_sum) (defBody s_read_sum) (defScope s_read_sum) .none kV33 dc33 pm33 an33 cd33 ct33), sl33⟩)
    (c33 : PySem.W.codeIn K cd33 "read_sum" = true)
    (k33 : PySem.W.keepIn K (.ref f33) = true)
    (a34 : PySem.W.nsIn K mainGlobals "law" = some (some (.ref f34)))
    (l34 : K.lookup f34 = some ⟨oc34, od34, .func (PySem.W.fnOf "law" "law" (defArgs s_law) (defBody s_law) (defScope s_law) .none kV34 dc34 pm34 an34 cd34 ct34), sl34⟩)
    (c34 : PySem.W.codeIn K cd34 "law" = true)
    (k34 : PySem.W.keepIn K (.ref f34) = true)
    (y0 : PySem.W.nsIn K mainGlobals "BEGINNING" = some (some (.str "beginning" t0)))
    (y1 : PySem.W.nsIn K mainGlobals "BEHIND" = some (some (.str "behind" t1)))
    (y2 : PySem.W.nsIn K mainGlobals "FACTOR" = some (some (.str "factor" t2)))
    (y3 : PySem.W.nsIn K mainGlobals "NAME_LENGTH" = some (some (.int 10 t3)))
    (y4 : PySem.W.nsIn K mainGlobals "PART_FIGURES" = some (some (.int 18 t4)))
    (y5 : PySem.W.nsIn K mainGlobals "PART_SIZE" = some (some (.int 1000000000000000000 t5)))
    (z0 : PySem.W.nsIn K mainGlobals "all" = some none)
    (z1 : PySem.W.nsIn K mainGlobals "bool" = some none)
    (z2 : PySem.W.nsIn K mainGlobals "int" = some none)
    (z3 : PySem.W.nsIn K mainGlobals "isinstance" = some none)
    (z4 : PySem.W.nsIn K mainGlobals "len" = some none)
    (z5 : PySem.W.nsIn K mainGlobals "list" = some none)
    (z6 : PySem.W.nsIn K mainGlobals "range" = some none)
    (z7 : PySem.W.nsIn K mainGlobals "str" = some none)
    (z8 : PySem.W.nsIn K mainGlobals "tuple" = some none)
    (z9 : PySem.W.nsIn K mainGlobals "zip" = some none) : Txt K mg :=
  ⟨clsAt_mk X G ca_OpenSum cp_OpenSum cq_OpenSum cr_OpenSum cs_OpenSum (List.forall_mem_cons.mpr ⟨cf0_OpenSum, (List.forall_mem_cons.mpr ⟨cf1_OpenSum, (List.forall_mem_cons.mpr ⟨cf2_OpenSum, (List.forall_mem_cons.mpr ⟨cf3_OpenSum, (List.forall_mem_nil _)⟩)⟩)⟩)⟩),
   funAt_mk X G (fun _ _ _ _ _ _ => alls2 (fun _ _ => rfl)) a0 l0 c0 k0,
   funAt_mk X G (fun _ _ _ _ _ _ => alls1 (fun _ => rfl)) a1 l1 c1 k1,
   funAt_mk X G (fun _ _ _ _ _ _ => alls2 (fun _ _ => rfl)) a2 l2 c2 k2,
   funAt_mk X G (fun _ _ _ _ _ _ => alls3 (fun _ _ _ => rfl)) a3 l3 c3 k3,
   funAt_mk X G (fun _ _ _ _ _ _ => alls2 (fun _ _ => rfl)) a4 l4 c4 k4,
   funAt_mk X G (fun _ _ _ _ _ _ => alls2 (fun _ _ => rfl)) a5 l5 c5 k5,
   funAt_mk X G (fun _ _ _ _ _ _ => alls2 (fun _ _ => rfl)) a6 l6 c6 k6,
   funAt_mk X G (fun _ _ _ _ _ _ => alls3 (fun _ _ _ => rfl)) a7 l7 c7 k7,
   funAt_mk X G (fun _ _ _ _ _ _ => alls2 (fun _ _ => rfl)) a8 l8 c8 k8,
   funAt_mk X G (fun _ _ _ _ _ _ => alls4 (fun _ _ _ _ => rfl)) a9 l9 c9 k9,
   funAt_mk X G (fun _ _ _ _ _ _ => alls4 (fun _ _ _ _ => rfl)) a10 l10 c10 k10,
   funAt_mk X G (fun _ _ _ _ _ _ => alls2 (fun _ _ => rfl)) a11 l11 c11 k11,
   funAt_mk X G (fun _ _ _ _ _ _ => alls1 (fun _ => rfl)) a12 l12 c12 k12,
   funAt_mk X G (fun _ _ _ _ _ _ => alls2 (fun _ _ => rfl)) a13 l13 c13 k13,
   funAt_mk X G (fun _ _ _ _ _ _ => alls1 (fun _ => rfl)) a14 l14 c14 k14,
   funAt_mk X G (fun _ _ _ _ _ _ => alls1 (fun _ => rfl)) a15 l15 c15 k15,
   funAt_mk X G (fun _ _ _ _ _ _ => alls2 (fun _ _ => rfl)) a16 l16 c16 k16,
   funAt_mk X G (fun _ _ _ _ _ _ => alls1 (fun _ => rfl)) a17 l17 c17 k17,
   funAt_mk X G (fun _ _ _ _ _ _ => alls1 (fun _ => rfl)) a18 l18 c18 k18,
   funAt_mk X G (fun _ _ _ _ _ _ => alls3 (fun _ _ _ => rfl)) a19 l19 c19 k19,
   funAt_mk X G (fun _ _ _ _ _ _ => alls1 (fun _ => rfl)) a20 l20 c20 k20,
   funAt_mk X G (fun _ _ _ _ _ _ => alls2 (fun _ _ => rfl)) a21 l21 c21 k21,
   metAt_mk X G (clsAt_mk X G ca_OpenSum cp_OpenSum cq_OpenSum cr_OpenSum cs_OpenSum (List.forall_mem_cons.mpr ⟨cf0_OpenSum, (List.forall_mem_cons.mpr ⟨cf1_OpenSum, (List.forall_mem_cons.mpr ⟨cf2_OpenSum, (List.forall_mem_cons.mpr ⟨cf3_OpenSum, (List.forall_mem_nil _)⟩)⟩)⟩)⟩)) (fun _ _ _ _ _ _ => alls1 (fun _ => rfl)) ca_OpenSum a22 b22 l22 c22 k22,
   iniAt_mk X G (fun _ _ _ _ _ _ => alls2 (fun _ _ => rfl)) ca_OpenSum i23 a23 b23 j23 l23 c23 k23,
   funAt_mk X G (fun _ _ _ _ _ _ => alls2 (fun _ _ => rfl)) a24 l24 c24 k24,
   funAt_mk X G (fun _ _ _ _ _ _ => alls1 (fun _ => rfl)) a25 l25 c25 k25,
   funAt_mk X G (fun _ _ _ _ _ _ => alls3 (fun _ _ _ => rfl)) a26 l26 c26 k26,
   metAt_mk X G (clsAt_mk X G ca_OpenSum cp_OpenSum cq_OpenSum cr_OpenSum cs_OpenSum (List.forall_mem_cons.mpr ⟨cf0_OpenSum, (List.forall_mem_cons.mpr ⟨cf1_OpenSum, (List.forall_mem_cons.mpr ⟨cf2_OpenSum, (List.forall_mem_cons.mpr ⟨cf3_OpenSum, (List.forall_mem_nil _)⟩)⟩)⟩)⟩)) (fun _ _ _ _ _ _ => alls2 (fun _ _ => rfl)) ca_OpenSum a27 b27 l27 c27 k27,
   metAt_mk X G (clsAt_mk X G ca_OpenSum cp_OpenSum cq_OpenSum cr_OpenSum cs_OpenSum (List.forall_mem_cons.mpr ⟨cf0_OpenSum, (List.forall_mem_cons.mpr ⟨cf1_OpenSum, (List.forall_mem_cons.mpr ⟨cf2_OpenSum, (List.forall_mem_cons.mpr ⟨cf3_OpenSum, (List.forall_mem_nil _)⟩)⟩)⟩)⟩)) (fun _ _ _ _ _ _ => alls3 (fun _ _ _ => rfl)) ca_OpenSum a28 b28 l28 c28 k28,
   funAt_mk X G (fun _ _ _ _ _ _ => alls1 (fun _ => rfl)) a29 l29 c29 k29,
   funAt_mk X G (fun _ _ _ _ _ _ => alls1 (fun _ => rfl)) a30 l30 c30 k30,
   funAt_mk X G (fun _ _ _ _ _ _ => alls2 (fun _ _ => rfl)) a31 l31 c31 k31,
   funAt_mk X G (fun _ _ _ _ _ _ => alls2 (fun _ _ => rfl)) a32 l32 c32 k32,
   funAt_mk X G (fun _ _ _ _ _ _ => alls2 (fun _ _ => rfl)) a33 l33 c33 k33,
   funAt_mk X G (fun _ _ _ _ _ _ us hl => match us, hl with | [_], _ => rfl) a34 l34 c34 k34,
   ⟨_, PySem.W.mg_of X G y0⟩,
   ⟨_, PySem.W.mg_of X G y1⟩,
   ⟨_, PySem.W.mg_of X G y2⟩,
   ⟨_, PySem.W.mg_of X G y3⟩,
   ⟨_, PySem.W.mg_of X G y4⟩,
   ⟨_, PySem.W.mg_of X G y5⟩,
   PySem.W.mg_none_of X G z0,
   PySem.W.mg_none_of X G z1,
   PySem.W.mg_none_of X G z2,
   PySem.W.mg_none_of X G z3,
   PySem.W.mg_none_of X G z4,
   PySem.W.mg_none_of X G z5,
   PySem.W.mg_none_of X G z6,
   PySem.W.mg_none_of X G z7,
   PySem.W.mg_none_of X G z8,
   PySem.W.mg_none_of X G z9⟩
theorem walk {l : PySem.W.OpenLaw} {q : Program} {loose : List Str} {XP : (Str → Option Value) → Heap → Prop} {YP : World → Heap → Prop} {d : DefRec} {K : Params → PySem.W.Frag} (hn : l.most = some 63) (hdf : d.params.defaults = [])
    (hY : ∀ (w : World) (h : Heap), YP w h → (K w.params).In h)
    (F : ∀ (w : World) (mg : Str → Option Value) (fa : Addr) (h : Heap), (K w.params).In h → h.Ns mainGlobals mg → mg d.name = some (.ref fa) → Txt (K w.params) mg ∧ mg "law" = some (.ref fa))
    (hm : ∀ ns : List Int, ns.length ≤ 63 → ∃ Ω, m_law [.lst (ns.map .int)] [] = some (.ok (.bl true), Ω)) :
    PySem.W.WalkO q loose XP YP l.row.toRowW d [] (fun f vs => PySem.call f vs) :=
  L2.walk_of (n := 63) (k := 7) (x := "_law_script") (CX := fun _ => CX0) (sp := fun w => spA (K w.params) 1 m_law) hn (by decide) hdf ⟨rfl, by decide, by decide⟩ hY
    (fun w mg fa h KX G hmg => by
      obtain ⟨T, hf⟩ := F w mg fa h KX G hmg
      obtain ⟨fd, FF, hb⟩ := funAt_law T.f_law hf (fun _ _ _ _ _ _ _ _ => .of_eq rfl)
      exact ⟨fd, hb, fun base _ _ => (fn_E FF sc_law (body_law T)).imp fun vs H Q E z => z mg⟩)
    (fun _ _ a ns hl _ hS => fun mg => let ⟨Ω, e⟩ := hm ns hl; law_spE hS e) fun _ _ _ _ _ z => z
theorem walkX_of {q : Program} {loose : List Str} {XP : (Str → Option Value) → Heap → Prop} {K : Params → PySem.W.Frag} {as : List Addr} {n t : Nat} {r : PySem.W.RowW} {d : DefRec} {kwd : List (Str × Expr)} {run : Value → List Value → Sem Value}
    (he : ∀ P, as = (K P).map (·.1)) (h : PySem.W.WalkO q loose XP (fun w h => (K w.params).In h) r d kwd run) : PySem.W.WalkX q loose XP (PySem.W.X.obsZ as) (PySem.W.X.valZ K n t) r d kwd run := by
  intro w s₀ s₁ mg mb G y a o pm cd doc dV kV ho hd hcd hD hmg hg args vals as' L
  refine h w s₀ s₁ mg mb G ?_ a o pm cd doc dV kV ho hd hcd hD hmg hg args vals as'
  have e : (K w.params).In s₀.heap := (PySem.W.X.z_facts he y).2.1
  exact fun b o' q => L.keeps b o' (e b o' q)
theorem walkZ {l : PySem.W.OpenLaw} {q : Program} {loose : List Str} {XP : (Str → Option Value) → Heap → Prop} {d : DefRec} {K : Params → PySem.W.Frag} {as : List Addr} {n t : Nat} (he : ∀ P, as = (K P).map (·.1)) (hn : l.most = some 63) (hdf : d.params.defaults = [])
    (F : ∀ (w : World) (mg : Str → Option Value) (fa : Addr) (h : Heap), (K w.params).In h → h.Ns mainGlobals mg → mg d.name = some (.ref fa) → Txt (K w.params) mg ∧ mg "law" = some (.ref fa))
    (hm : ∀ ns : List Int, ns.length ≤ 63 → ∃ Ω, m_law [.lst (ns.map .int)] [] = some (.ok (.bl true), Ω)) :
    PySem.W.WalkX q loose XP (PySem.W.X.obsZ as) (PySem.W.X.valZ K n t) l.row.toRowW d [] (fun f vs => PySem.call f vs) :=
  walkX_of he (walk (K := K) hn hdf (fun _ _ y => y) F hm)
end MyLaw
namespace MyLaw
open PySem PySem.Spec L2 DL
noncomputable section
noncomputable abbrev Fm := List Int × Int
noncomputable def fm (f : Fm) : D := .tup [.tup (f.1.map .int), .int f.2]
noncomputable def addF (a b : Fm) : Fm := ((a.1.zip b.1).map fun p => p.1 + p.2, a.2 + b.2)
noncomputable def mulF (a : Fm) (n : Int) : Fm := (a.1.map (· * n), a.2 * n)
noncomputable def BF (k : Nat) (f : Fm) : Prop := (∀ c ∈ f.1, Bt k c) ∧ Bt k f.2
noncomputable def plainF (f : Fm) : Bool := f.1.all (· == 0)
theorem e_inner (own : Nat) (caps : List (Str × Nat)) (δ : DSt) : innerD own caps δ = List.replicate own none ++ caps.map fun p => (δ[p.2]?).join := rfl
theorem zip_tt (xs ys : List D) : zipArgs [.tup xs, .tup ys] = some (zipD xs ys) := rfl
noncomputable def stpA := And.intro (@if_true.{1}) <| And.intro (@if_false.{1}) <| And.intro (@Bool.false_eq_true) <| And.intro (@e_seq) <| And.intro (@e_set) <| And.intro (@e_2) <| And.intro (@e_1) <| And.intro (@e_t2) <| And.intro (@e_ret) <| And.intro (@e_gif) <| And.intro (@e_for) <| And.intro (@e_iargs) <| And.intro (@e_iseq) <| And.intro (@e_comp) <| And.intro (@e_call) <| And.intro (@e_cons) <| And.intro (@e_var) <| And.intro (@e_nil) <| And.intro (@e_C) <| And.intro (@e_L) <| And.intro (@e_if) <| And.intro (@e_tru) <| And.intro (@e_tand) <| And.intro (@e_tor) <| And.intro (@e_tnot) <| And.intro (@e_not) <| And.intro (@e_nx) <| And.intro (@e_aug) <| And.intro (@e_app) <| And.intro (@M.o_some) <| And.intro (@M.b_p) <| And.intro (@M.b_ok) <| And.intro (@b_assoc) <| And.intro (@seqO_nx) <| And.intro (@seqO_rt) <| And.intro (@e_out_rt) <| And.intro (@ix_t) <| And.intro (@ix_l) <| And.intro (@at0) <| And.intro (@at1) <| And.intro (@at2) <| And.intro (@at3) <| And.intro (@seq_l) <| And.intro (@seq_t) <| And.intro (@tuple_l) <| And.intro (@tupD2) <| And.intro (@tupD3) <| And.intro (@lstD0) <| And.intro (@lstD1) <| And.intro (@lstD2) <| And.intro (@lstD3) <| And.intro (@cat_int) <| And.intro (@eq_int) <| And.intro (@asB_bl) <| And.intro (@tru_bl) <| And.intro (@zipD_ints) <| And.intro (@e_inner) <| And.intro (@zip_tt) <| And.intro (@List.replicate_succ.{0}) <| And.intro (@List.replicate_zero.{0}) <| And.intro (@List.set_cons_succ.{0}) <| And.intro (@List.set_cons_zero.{0}) <| And.intro (@List.getElem?_cons_zero.{0}) <| And.intro (@List.getElem?_cons_succ.{0}) <| And.intro (@Option.join_some.{0}) <| And.intro (@List.map_nil.{0, 0}) <| And.intro (@List.map_cons.{0, 0}) <| And.intro (@List.append_nil.{0}) <| And.intro (@List.cons_append.{0}) <| And.intro (@List.nil_append.{0}) <| And.intro (@Option.bind_some.{0, 0}) <| True.intro
theorem lst_le {ds : List D} (h : ds.length ≤ 1000) : gLstD ds = some (.lst ds) := lstD_of (Nat.le_trans h (by decide))
theorem added_ok (a b : Fm) (h : a.1.length ≤ 1000) : m_added [fm a, fm b] = some (.ok (fm (addF a b))) := by
  have e := comp_map2 (c := []) (fe := c1_added) (K := fun p : Int × Int => (D.int p.1, D.int p.2)) (F := fun p => .int (p.1 + p.2)) (a.1.zip b.1) none none (fun p hp => by unfold c1_added; simp only [stpA, Nat.reduceSub]; rfl)
  unfold m_added
  rw [e_mir2]
  unfold g_added fm addF
  simp only [stpA, Nat.reduceSub, e, lst_le (ds := List.map (fun p : Int × Int => D.int (p.1 + p.2)) (a.1.zip b.1)) (by rw [List.length_map, List.length_zip]; omega)]
  rw [List.map_map]
  rfl
theorem times_ok {k l : Nat} {a : Fm} {n : Int} (ha : BF k a) (hn : Bt l n) (hk : k ≤ 100000) (hl : l ≤ 100000) (h : a.1.length ≤ 1000) : m_times [fm a, .int n] = some (.ok (fm (mulF a n))) := by
  have e := comp_map1 (c := [some (.int n)]) (fe := c1_times) (K := D.int) (F := fun c => .int (c * n)) a.1 none (fun c hc => by unfold c1_times; simp only [stpA, Nat.reduceSub, mulT_bt (ha.1 c hc) hn hk hl]; rfl)
  unfold m_times
  rw [e_mir2]
  unfold g_times fm mulF
  simp only [stpA, Nat.reduceSub, e, mulT_bt ha.2 hn hk hl, lst_le (ds := List.map (fun c => D.int (c * n)) a.1) (by rw [List.length_map]; omega)]
  rw [List.map_map]
  rfl
theorem plain_ok (a : Fm) (h : a.1.length ≤ 1000) : m_is_plain [fm a] = some (.ok (.bl (plainF a))) := by
  have e := comp_map1 (c := []) (fe := c1_is_plain) (K := D.int) (F := fun c => .bl (c == 0)) a.1 none (fun c hc => by unfold c1_is_plain; simp only [stpA, Nat.reduceSub]; rfl)
  unfold m_is_plain
  rw [e_mir1]
  unfold g_is_plain fm plainF
  have e2 : (a.1.map fun c => D.bl (c == 0)) = (a.1.map fun c => (c == 0)).map .bl := by rw [List.map_map]; rfl
  rw [e2] at e
  simp only [stpA, Nat.reduceSub, e, all_bls, lst_le (ds := List.map D.bl (List.map (fun c => c == 0) a.1)) (by rw [List.length_map, List.length_map]; omega)]
  simp [M.p, List.all_map, Function.comp_def]
noncomputable def prodF (a b : Fm) : Fm := if plainF b = true then mulF a b.2 else mulF b a.2
theorem product_ok {k : Nat} {a b : Fm} {p : D} (ha : BF k a) (hb : BF k b) (hk : k ≤ 100000) (h1 : a.1.length ≤ 1000) (h2 : b.1.length ≤ 1000) (hp : plainF a = true ∨ plainF b = true) :
    m_product [fm a, fm b, p] = some (.ok (fm (prodF a b))) := by
  have tb := plain_ok b h2
  have ta := plain_ok a h1
  have x1 := times_ok ha hb.2 hk hk h1
  have x2 := times_ok hb ha.2 hk hk h2
  unfold m_product
  rw [e_mir3]
  unfold g_product prodF
  have e1 : ∀ f : Fm, gIx (fm f) (.int 1) = some (.int f.2) := fun f => by unfold fm; simp
  by_cases q : plainF b = true
  · rw [q] at tb
    simp only [stpA, Nat.reduceSub, tb, e1, x1, q]
    rfl
  · rw [Bool.not_eq_true] at q
    have q2 : plainF a = true := by rcases hp with hp | hp; exact hp; rw [q] at hp; cases hp
    rw [q] at tb
    rw [q2] at ta
    simp only [stpA, Nat.reduceSub, tb, ta, e1, x2, q]
    rfl
structure OS where
  total : Fm
  term : Fm
  sign : Int
  star : Option Int
noncomputable def starD : Option Int → D
  | none => .non
  | some i => .int i
noncomputable def osO (o : OS) : SO := .ins "OpenSum" [("total", fm o.total), ("term", fm o.term), ("term_sign", .int o.sign), ("star", starD o.star)]
section
variable {Ω : Sto} {i : Nat} {o : OS}
theorem get_total (h : Ω[i]? = some (osO o)) : getO ["OpenSum"] "total" (.obj i) Ω = some (.ok (fm o.total), Ω) := by unfold getO; dsimp only; rw [h]; rfl
theorem get_term (h : Ω[i]? = some (osO o)) : getO ["OpenSum"] "term" (.obj i) Ω = some (.ok (fm o.term), Ω) := by unfold getO; dsimp only; rw [h]; rfl
theorem get_sign (h : Ω[i]? = some (osO o)) : getO ["OpenSum"] "term_sign" (.obj i) Ω = some (.ok (.int o.sign), Ω) := by unfold getO; dsimp only; rw [h]; rfl
theorem get_star (h : Ω[i]? = some (osO o)) : getO ["OpenSum"] "star" (.obj i) Ω = some (.ok (starD o.star), Ω) := by unfold getO; dsimp only; rw [h]; rfl
theorem put_total (h : Ω[i]? = some (osO o)) (f : Fm) : putO ["OpenSum"] "total" (.obj i) (fm f) Ω = some (.ok (), Ω.set i (osO { o with total := f })) := by unfold putO; dsimp only; rw [h]; rfl
theorem put_term (h : Ω[i]? = some (osO o)) (f : Fm) : putO ["OpenSum"] "term" (.obj i) (fm f) Ω = some (.ok (), Ω.set i (osO { o with term := f })) := by unfold putO; dsimp only; rw [h]; rfl
theorem put_sign (h : Ω[i]? = some (osO o)) (f : Int) : putO ["OpenSum"] "term_sign" (.obj i) (.int f) Ω = some (.ok (), Ω.set i (osO { o with sign := f })) := by unfold putO; dsimp only; rw [h]; rfl
theorem put_star (h : Ω[i]? = some (osO o)) (f : Option Int) : putO ["OpenSum"] "star" (.obj i) (starD f) Ω = some (.ok (), Ω.set i (osO { o with star := f })) := by unfold putO; dsimp only; rw [h]; rfl
end
noncomputable def stsA := And.intro (@s_b) <| And.intro (@s_bok) <| And.intro (@s_p) <| And.intro (@s_lp) <| And.intro (@s_lok) <| And.intro (@s_o) <| And.intro (@s_lF) <| And.intro (@s_get) <| And.intro (@s_cons) <| And.intro (@s_2) <| And.intro (@s_L) <| And.intro (@s_callP) <| And.intro (@s_call) <| And.intro (@s_set) <| And.intro (@s_ret) <| And.intro (@s_drop) <| And.intro (@s_put) <| And.intro (@s_if) <| And.intro (@s_nx) <| And.intro (@s_not) <| And.intro (@s_tru) <| And.intro (@asBS_bl) <| And.intro (@s_B) <| And.intro (@seqS_nx) <| And.intro (@seqS_rt) <| And.intro (@s_seq) <| And.intro (@s_out_rt) <| And.intro (@s_out_nx) <| And.intro (@s_meth) <| And.intro (@s_make) <| And.intro (@s_for) <| True.intro
section
variable {Ω : Sto} {i : Nat} {o : OS}
noncomputable def wholeF (o : OS) : Fm := addF o.total o.term
theorem whole_ok (h : Ω[i]? = some (osO o)) (w : o.total.1.length ≤ 1000) : m_OpenSum_whole [.obj i] Ω = some (.ok (fm (wholeF o)), Ω) := by
  unfold m_OpenSum_whole
  rw [s_mir1]
  unfold g_OpenSum_whole
  simp only [stsA, stpA, Nat.reduceSub, get_total h, get_term h, added_ok o.total o.term w]
  rfl
theorem set_at {x : SO} (h : Ω[i]? = some x) (y : SO) : (Ω.set i y)[i]? = some y := by
  have := (List.getElem?_eq_some_iff.mp h).1
  rw [List.getElem?_set_self this]
theorem set_twice (x y : SO) : (Ω.set i x).set i y = Ω.set i y := by simp
theorem put_g {f : Str} {d : D} {fs : List (Str × D)} (h : Ω[i]? = some (.ins "OpenSum" fs)) (hl : fs.length < 1000) : putO ["OpenSum"] f (.obj i) d Ω = some (.ok (), Ω.set i (.ins "OpenSum" (putD f d fs))) := by
  unfold putO
  dsimp only
  rw [h]
  dsimp only
  rw [if_pos (by rw [decide_eq_true hl]; rfl)]
theorem put_n {f : Str} {d : D} {fs fs' : List (Str × D)} (h : Ω[i]? = some (.ins "OpenSum" [])) (hl : fs.length < 1000) (e : putD f d fs = fs') : putO ["OpenSum"] f (.obj i) d (Ω.set i (.ins "OpenSum" fs)) = some (.ok (), Ω.set i (.ins "OpenSum" fs')) := by
  rw [put_g (set_at h _) hl, set_twice, e]
theorem init_ok (h : Ω[i]? = some (.ins "OpenSum" [])) (n : Nat) (hn : n ≤ 1000) : m_OpenSum_init__ [.obj i, .int n] Ω = some (.ok .non, Ω.set i (osO ⟨(List.replicate n 0, 0), (List.replicate n 0, 0), 1, none⟩)) := by
  unfold m_OpenSum_init__
  rw [s_mir2]
  unfold g_OpenSum_init__
  have hr := e_rep (δ := [some (.obj i), some (.int n)]) (fl := fCons (fC (.int 0)) fNil) (fb := fVar 1) (.int 0) n rfl rfl hn
  let z : D := .tup [.tup (List.replicate n (.int 0)), .int 0]
  have p1 : putO ["OpenSum"] "total" (.obj i) (.tup [.tup (List.replicate n (.int 0)), .int 0]) Ω = some (.ok (), Ω.set i (.ins "OpenSum" [("total", z)])) := put_g h (by decide)
  have q1 : (Ω.set i (.ins "OpenSum" [("total", z)]))[i]? = some (.ins "OpenSum" [("total", z)]) := set_at h _
  have g1 : getO ["OpenSum"] "total" (.obj i) (Ω.set i (.ins "OpenSum" [("total", z)])) = some (.ok z, Ω.set i (.ins "OpenSum" [("total", z)])) := by unfold getO; dsimp only; rw [q1]; rfl
  have p2 : putO ["OpenSum"] "term" (.obj i) z (Ω.set i (.ins "OpenSum" [("total", z)])) = some (.ok (), Ω.set i (.ins "OpenSum" [("total", z), ("term", z)])) := put_n h (by show 1 < 1000; decide) rfl
  have p3 : putO ["OpenSum"] "term_sign" (.obj i) (.int 1) (Ω.set i (.ins "OpenSum" [("total", z), ("term", z)])) = some (.ok (), Ω.set i (.ins "OpenSum" [("total", z), ("term", z), ("term_sign", .int 1)])) := put_n h (by show 2 < 1000; decide) rfl
  have p4 : putO ["OpenSum"] "star" (.obj i) .non (Ω.set i (.ins "OpenSum" [("total", z), ("term", z), ("term_sign", .int 1)])) = some (.ok (), Ω.set i (.ins "OpenSum" [("total", z), ("term", z), ("term_sign", .int 1), ("star", .non)])) := put_n h (by show 3 < 1000; decide) rfl
  simp only [stsA, stpA, Nat.reduceSub, hr, p1, g1, p2, p3, p4]
  unfold osO fm
  rw [List.map_replicate]
  rfl
noncomputable def takeF (o : OS) (f : Fm) : OS := { o with term := match o.star with
  | none => mulF f o.sign
  | some _ => prodF o.term f }
theorem factor_ok {k : Nat} {f : Fm} (h : Ω[i]? = some (osO o)) (hf : BF k f) (hf2 : f.1.length ≤ 1000) (hk : k ≤ 100000) (hs : Bt k o.sign) (ht : o.star ≠ none → BF k o.term ∧ o.term.1.length ≤ 1000 ∧ (plainF o.term = true ∨ plainF f = true)) :
    m_OpenSum_take_factor [.obj i, fm f] Ω = some (.ok .non, Ω.set i (osO (takeF o f))) := by
  unfold m_OpenSum_take_factor
  rw [s_mir2]
  unfold g_OpenSum_take_factor takeF
  cases e : o.star with
  | none =>
    have g1 := get_star h
    rw [e] at g1
    have i1 : gIs (starD none) .non = some (.bl true) := rfl
    have x := times_ok hf hs hk hk hf2
    simp only [stsA, stpA, Nat.reduceSub, g1, i1, get_sign h, x, put_term h]
    rw [e]
  | some p =>
    have g1 := get_star h
    rw [e] at g1
    obtain ⟨t1, t2, t3⟩ := ht (by rw [e]; exact nofun)
    have i1 : gIs (starD (some p)) .non = some (.bl false) := rfl
    have x := product_ok (p := starD (some p)) t1 hf hk t2 hf2 t3
    simp only [stsA, stpA, Nat.reduceSub, g1, i1, get_term h, x, put_term h]
    rw [e]
noncomputable def signF (o : OS) (c : Str) (p : Int) : OS := if c = "*" then { o with star := some p } else { total := wholeF o, term := o.term, sign := if c = "-" then -1 else 1, star := none }
theorem eq_str (x y : Str) : gEq (.str x) (.str y) = some (.bl (x == y)) := rfl
theorem sign_ok {c : Str} {p : Int} (h : Ω[i]? = some (osO o)) (w : o.total.1.length ≤ 1000) : m_OpenSum_take_sign [.obj i, .str c, .int p] Ω = some (.ok .non, Ω.set i (osO (signF o c p))) := by
  unfold m_OpenSum_take_sign
  rw [s_mir3]
  unfold g_OpenSum_take_sign signF
  by_cases q : c = "*"
  · have q' : (c == "*") = true := by rw [q]; rfl
    have x := put_star h (some p)
    rw [show starD (some p) = D.int p from rfl] at x
    simp only [stsA, stpA, Nat.reduceSub, eq_str, q', x, if_pos q]
  · have q' : (c == "*") = false := beq_eq_false_iff_ne.mpr q
    have x := whole_ok h w
    have y : methO "OpenSum" "whole" m_OpenSum_whole i (lF fNil) [some (.obj i), some (.str c), some (.int p)] Ω = some (.ok (fm (wholeF o)), Ω) := by
      unfold methO
      rw [h]
      show (if _ ∧ _ then _ else _) = _
      rw [if_pos ⟨rfl, rfl⟩]
      simp only [stsA, stpA, Nat.reduceSub, x]
    have p1 := put_total h (wholeF o)
    have h1 := set_at h (osO { o with total := wholeF o })
    have p2 := fun n => put_sign h1 n
    have h2 : ∀ n, (Ω.set i (osO { o with total := wholeF o, sign := n }))[i]? = some (osO { o with total := wholeF o, sign := n }) := fun n => set_at h _
    have p3 := fun n => put_star (h2 n) none
    rw [show starD none = D.non from rfl] at p3
    by_cases q2 : c = "-"
    · have q2' : (c == "-") = true := by rw [q2]; rfl
      simp only [stsA, stpA, Nat.reduceSub, eq_str, q', y, p1, q2', neg_int, p2, set_twice, p3, if_neg q, if_pos q2]
    · have q2' : (c == "-") = false := beq_eq_false_iff_ne.mpr q2
      simp only [stsA, stpA, Nat.reduceSub, eq_str, q', y, p1, q2', p2, set_twice, p3, if_neg q, if_neg q2]
end
end
end MyLaw
namespace MyLaw
open PySem PySem.Spec L2 DL
noncomputable section
noncomputable def Stk (Ω : Sto) : List Nat → List OS → Prop
  | [], [] => True
  | i :: r, o :: os => Ω[i]? = some (osO o) ∧ i ∉ r ∧ Stk Ω r os
  | _, _ => False
theorem Stk.set {Ω : Sto} {i : Nat} {x : SO} : ∀ {r : List Nat} {os : List OS}, i ∉ r → Stk Ω r os → Stk (Ω.set i x) r os
  | [], [], _, _ => trivial
  | j :: r, o :: os, hi, h => by
    obtain ⟨h1, h2, h3⟩ := h
    have hne : i ≠ j := fun e => hi (by rw [e]; exact List.mem_cons_self)
    exact ⟨by rw [List.getElem?_set_ne hne]; exact h1, h2, Stk.set (fun z => hi (List.mem_cons_of_mem _ z)) h3⟩
  | [], _ :: _, _, h => h.elim
  | _ :: _, [], _, h => h.elim
theorem Stk.push {Ω : Sto} {x : SO} : ∀ {r : List Nat} {os : List OS}, Stk Ω r os → Stk (Ω ++ [x]) r os
  | [], [], _ => trivial
  | j :: r, o :: os, h => by
    obtain ⟨h1, h2, h3⟩ := h
    have := (List.getElem?_eq_some_iff.mp h1).1
    exact ⟨by rw [List.getElem?_append_left this]; exact h1, h2, Stk.push h3⟩
  | [], _ :: _, h => h.elim
  | _ :: _, [], h => h.elim
theorem Stk.lt {Ω : Sto} : ∀ {r : List Nat} {os : List OS}, Stk Ω r os → ∀ i ∈ r, i < Ω.length
  | [], [], _ => fun i hi => (nomatch hi)
  | j :: r, o :: os, h => fun i hi => by
    rcases List.mem_cons.mp hi with rfl | hi
    · exact (List.getElem?_eq_some_iff.mp h.1).1
    · exact Stk.lt h.2.2 i hi
  | [], _ :: _, h => h.elim
  | _ :: _, [], h => h.elim
noncomputable def fresh (n : Nat) : OS := ⟨(List.replicate n 0, 0), (List.replicate n 0, 0), 1, none⟩
theorem make_ok {Ω : Sto} {n : Nat} (hn : n ≤ 1000) : makeO "OpenSum" m_OpenSum_init__ [.int n] Ω = some (.ok (.obj Ω.length), Ω ++ [osO (fresh n)]) := by
  unfold makeO
  have h : (Ω ++ [SO.ins "OpenSum" []])[Ω.length]? = some (.ins "OpenSum" []) := by simp
  rw [s_b, init_ok h n hn]
  simp [fresh]
noncomputable def KB : Nat := 90000
structure OkT (n : Nat) (b : OS) (f : Fm) : Prop where
  lf : f.1.length = n
  bf : BF KB f
  bs : Bt KB b.sign
  pl : b.star ≠ none → BF KB b.term ∧ b.term.1.length = n ∧ (plainF b.term = true ∨ plainF f = true)
noncomputable def isSign (w : Str) : Bool := inD (.str w) [.str "+", .str "-", .str "*"]
theorem isSign_cases {w : Str} (h : isSign w = true) : w = "+" ∨ w = "-" ∨ w = "*" := by
  have : (("+" : Str) == w || (("-" : Str) == w || (("*" : Str) == w || false))) = true := h
  simp only [Bool.or_eq_true, beq_iff_eq, Bool.false_eq_true, or_false] at this
  rcases this with e | e | e
  · exact .inl e.symm
  · exact .inr (.inl e.symm)
  · exact .inr (.inr e.symm)
theorem in_signs (w : Str) : gIn (.str w) (.tup [.str "+", .str "-", .str "*"]) = some (.bl (isSign w)) := rfl
inductive Run (n : Nat) (frm : Str → Fm) (wd : Str → Prop) : List (Str × Int) → List OS → List OS → Prop
  | nil (os : List OS) : Run n frm wd [] os os
  | opn {ts : List (Str × Int)} {os os' : List OS} {p : Int} : Run n frm wd ts (fresh n :: os) os' → Run n frm wd (("(", p) :: ts) os os'
  | cls {ts : List (Str × Int)} {a b : OS} {r os' : List OS} {p : Int} : a.total.1.length = n → OkT n b (wholeF a) → Run n frm wd ts (takeF b (wholeF a) :: r) os' → Run n frm wd ((")", p) :: ts) (a :: b :: r) os'
  | sgn {ts : List (Str × Int)} {a : OS} {r os' : List OS} {c : Str} {p : Int} : isSign c = true → a.total.1.length = n → Run n frm wd ts (signF a c p :: r) os' → Run n frm wd ((c, p) :: ts) (a :: r) os'
  | wrd {ts : List (Str × Int)} {a : OS} {r os' : List OS} {w : Str} {p : Int} : wd w → OkT n a (frm w) → Run n frm wd ts (takeF a (frm w) :: r) os' → Run n frm wd ((w, p) :: ts) (a :: r) os'
theorem Run.append {n : Nat} {frm : Str → Fm} {wd : Str → Prop} {t1 t2 : List (Str × Int)} {os os1 os2 : List OS} (h1 : Run n frm wd t1 os os1) (h2 : Run n frm wd t2 os1 os2) : Run n frm wd (t1 ++ t2) os os2 := by
  induction h1 with
  | nil _ => exact h2
  | opn _ ih => exact .opn (ih h2)
  | cls x y _ ih => exact .cls x y (ih h2)
  | sgn x y _ ih => exact .sgn x y (ih h2)
  | wrd x y _ ih => exact .wrd x y (ih h2)
theorem at_last {α : Type} (xs : List α) (x : α) : atI (xs ++ [x]) (-1) = some x := by
  unfold atI ixN
  rw [if_neg (by decide), if_pos (by rw [List.length_append]; simp; omega)]
  have : (-1 + (((xs ++ [x]).length : Nat) : Int)).toNat = xs.length := by rw [List.length_append]; simp; omega
  rw [Option.bind_some, this]
  simp
noncomputable def idsD (r : List Nat) : D := .lst (r.reverse.map .obj)
theorem ids_cons (i : Nat) (r : List Nat) : idsD (i :: r) = .lst (r.reverse.map .obj ++ [.obj i]) := by unfold idsD; simp
theorem scal_obj (i : Nat) {f : DSt → M D} {δ : DSt} (h : f δ = M.p (.obj i)) : fScal f δ = M.p (.obj i) := by
  unfold fScal; rw [h]; rfl
section
variable {n : Nat} {frm : Str → Fm} {wd : Str → Prop} {nm pc : D} {x y z : Option D} {Ω : Sto} {i : Nat} {r : List Nat} {o : OS} {os : List OS}
theorem last_ok (w p : Option D) : fScal (f2 gIx (fVar 2) (f1 gNeg (fC (.int 1)))) [some nm, some pc, some (idsD (i :: r)), w, p, z] = M.p (.obj i) := by
  apply scal_obj
  rw [ids_cons]
  simp only [stpA, Nat.reduceSub, neg_int, at_last]
theorem meth_ok {f : Str} {m : List D → MS D} {fl : DSt → MS (List D)} {δ : DSt} (h : Ω[i]? = some (osO o)) (hf : ([("total", fm o.total), ("term", fm o.term), ("term_sign", .int o.sign), ("star", starD o.star)] : List (Str × D)).lookup f = none) :
    methO "OpenSum" f m i fl δ Ω = ((fl δ).b fun ds => m (.obj i :: ds)) Ω := by
  unfold methO
  rw [h]
  show (if _ ∧ _ then _ else _) = _
  rw [if_pos ⟨rfl, hf⟩]
noncomputable def RS1 (nm pc : D) (r : List Nat) (δ : DSt) : Prop := ∃ x y z, δ = [some nm, some pc, some (idsD r), x, y, z]
theorem app_ok {i : Nat} {fa : DSt → MS D} {δ : DSt} {ds : List D} {d : D} {Ω Ω' : Sto} (h : fa δ Ω = some (.ok d, Ω')) (hi : (δ[i]?).join = some (.lst ds)) (hl : ds.length < sizeLine) : eApp i fa δ Ω = some (.ok (.nx (δ.set i (some (.lst (ds ++ [d]))))), Ω') := by
  unfold eApp
  rw [s_b, h, s_bok, hi]
  dsimp only
  rw [if_pos hl]
  rfl
theorem ids_len {r : List Nat} (hr : r.length ≤ 1000000) : (r.reverse.map D.obj).length < sizeLine := by
  rw [List.length_map, List.length_reverse, sizeLine_eq]
  exact Nat.lt_of_le_of_lt (by assumption) (by decide)
theorem step_opn {p : Int} {L : List D} (hn : n ≤ 1000) (hl : L.length = n) (S : Stk Ω r os) (hr : r.length ≤ 1000000) :
    b1_reckoned [some (.lst L), some pc, some (idsD r), some (.str "("), some (.int p), z] Ω = some (.ok (.nx [some (.lst L), some pc, some (idsD (Ω.length :: r)), some (.str "("), some (.int p), z]), Ω ++ [osO (fresh n)]) ∧ Stk (Ω ++ [osO (fresh n)]) (Ω.length :: r) (fresh n :: os) := by
  refine ⟨?_, by simp, fun hi => Nat.lt_irrefl _ (S.lt _ hi), S.push⟩
  unfold b1_reckoned
  have q : ((Str.ofString "(") == (Str.ofString "(")) = true := by decide +kernel
  have m := make_ok (Ω := Ω) hn
  have e : mMake "OpenSum" m_OpenSum_init__ (lF (fCons (fL kLen (fCons (fVar 0) fNil)) fNil)) [some (.lst L), some pc, some (idsD r), some (.str "("), some (.int p), z] Ω = some (.ok (.obj Ω.length), Ω ++ [osO (fresh n)]) := by
    have l : lF (fCons (fL kLen (fCons (fVar 0) fNil)) fNil) [some (.lst L), some pc, some (idsD r), some (.str "("), some (.int p), z] Ω = some (.ok [.int n], Ω) := by simp only [stsA, stpA, Nat.reduceSub, len_l, hl]
    rw [s_make, s_b, l, s_bok, m]
  generalize mMake "OpenSum" m_OpenSum_init__ (lF (fCons (fL kLen (fCons (fVar 0) fNil)) fNil)) = X at e ⊢
  have a : eApp 2 X [some (.lst L), some pc, some (idsD r), some (.str "("), some (.int p), z] Ω = some (.ok (.nx [some (.lst L), some pc, some (idsD (Ω.length :: r)), some (.str "("), some (.int p), z]), Ω ++ [osO (fresh n)]) := by
    rw [ids_cons]
    exact app_ok (i := 2) (ds := r.reverse.map .obj) e rfl (ids_len hr)
  have t : lF (t2 gEq (fVar 3) (fC (.str "("))) [some (.lst L), some pc, some (idsD r), some (.str "("), some (.int p), z] Ω = some (.ok true, Ω) := by simp only [stsA, stpA, Nat.reduceSub, eq_str, q]
  rw [s_if, s_b, t, s_bok, if_pos rfl, a]
theorem step_sgn {c : Str} {p : Int} (hc : isSign c = true) (hn : n ≤ 1000) (ht : o.total.1.length = n) (S : Stk Ω (i :: r) (o :: os)) :
    b1_reckoned [some nm, some pc, some (idsD (i :: r)), some (.str c), some (.int p), z] Ω = some (.ok (.nx [some nm, some pc, some (idsD (i :: r)), some (.str c), some (.int p), z]), Ω.set i (osO (signF o c p))) ∧ Stk (Ω.set i (osO (signF o c p))) (i :: r) (signF o c p :: os) := by
  refine ⟨?_, set_at S.1 _, S.2.1, S.2.2.set S.2.1⟩
  unfold b1_reckoned
  have q1 : (c == Str.ofString "(") = false := by rcases isSign_cases hc with rfl | rfl | rfl <;> decide +kernel
  have q2 : (c == Str.ofString ")") = false := by rcases isSign_cases hc with rfl | rfl | rfl <;> decide +kernel
  have x := sign_ok (c := c) (p := p) S.1 (by omega)
  have y := fun (fl : DSt → MS (List D)) (δ : DSt) => meth_ok (m := m_OpenSum_take_sign) (fl := fl) (δ := δ) (f := "take_sign") S.1 rfl
  simp only [stsA, stpA, Nat.reduceSub, eq_str, q1, q2, in_signs, hc, last_ok, y, x]
theorem step_wrd {w : Str} {p : Int} {f : Fm} (h1 : (w == Str.ofString "(") = false) (h2 : (w == Str.ofString ")") = false) (h3 : isSign w = false) (hf : m_form_of_word [nm, .str w] = some (.ok (fm f))) (hn : n ≤ 1000) (T : OkT n o f) (S : Stk Ω (i :: r) (o :: os)) :
    b1_reckoned [some nm, some pc, some (idsD (i :: r)), some (.str w), some (.int p), z] Ω = some (.ok (.nx [some nm, some pc, some (idsD (i :: r)), some (.str w), some (.int p), z]), Ω.set i (osO (takeF o f))) ∧ Stk (Ω.set i (osO (takeF o f))) (i :: r) (takeF o f :: os) := by
  refine ⟨?_, set_at S.1 _, S.2.1, S.2.2.set S.2.1⟩
  unfold b1_reckoned
  have x := factor_ok (k := KB) S.1 T.bf (by rw [T.lf]; exact hn) (by decide) T.bs (fun z => let ⟨a, b, c⟩ := T.pl z; ⟨a, by omega, c⟩)
  have y := fun (fl : DSt → MS (List D)) (δ : DSt) => meth_ok (m := m_OpenSum_take_factor) (fl := fl) (δ := δ) (f := "take_factor") S.1 rfl
  simp only [stsA, stpA, Nat.reduceSub, eq_str, h1, h2, in_signs, h3, last_ok, y, hf, x]
theorem step_cls {p : Int} {j : Nat} {b : OS} (hn : n ≤ 1000) (ht : o.total.1.length = n) (T : OkT n b (wholeF o)) (S : Stk Ω (i :: j :: r) (o :: b :: os)) :
    b1_reckoned [some nm, some pc, some (idsD (i :: j :: r)), some (.str ")"), some (.int p), z] Ω = some (.ok (.nx [some nm, some pc, some (idsD (j :: r)), some (.str ")"), some (.int p), some (.obj i)]), Ω.set j (osO (takeF b (wholeF o)))) ∧ Stk (Ω.set j (osO (takeF b (wholeF o)))) (j :: r) (takeF b (wholeF o) :: os) := by
  have Sb := S.2.2
  refine ⟨?_, set_at Sb.1 _, Sb.2.1, Sb.2.2.set Sb.2.1⟩
  unfold b1_reckoned
  have q1 : (Str.ofString ")" == Str.ofString "(") = false := by decide +kernel
  have q2 : (Str.ofString ")" == Str.ofString ")") = true := by decide +kernel
  have pp : ePop 5 2 [some nm, some pc, some (idsD (i :: j :: r)), some (.str ")"), some (.int p), z] Ω = some (.ok (.nx [some nm, some pc, some (idsD (j :: r)), some (.str ")"), some (.int p), some (.obj i)]), Ω) := by
    unfold ePop
    rw [ids_cons]
    have e1 : ((j :: r).reverse.map D.obj ++ [D.obj i])[((j :: r).reverse.map D.obj ++ [D.obj i]).length - 1]? = some (D.obj i) := by simp
    simp only [stpA, Nat.reduceSub]
    rw [e1]
    dsimp only
    rw [List.dropLast_concat]
    rfl
  have w := whole_ok S.1 (by omega)
  have x := factor_ok (k := KB) Sb.1 T.bf (by rw [T.lf]; exact hn) (by decide) T.bs (fun z => let ⟨a, b, c⟩ := T.pl z; ⟨a, by omega, c⟩)
  have y := fun (fl : DSt → MS (List D)) (δ : DSt) => meth_ok (m := m_OpenSum_take_factor) (fl := fl) (δ := δ) (f := "take_factor") Sb.1 rfl
  have y2 := fun (fl : DSt → MS (List D)) (δ : DSt) => meth_ok (m := m_OpenSum_whole) (fl := fl) (δ := δ) (f := "whole") S.1 rfl
  simp only [stsA, stpA, Nat.reduceSub, eq_str, q1, q2, pp, last_ok, y, y2, w, x]
end
end
end MyLaw
namespace MyLaw
open PySem PySem.Spec L2 DL
noncomputable section
noncomputable def pcD (q : Str × Int) : D := .tup [.str q.1, .int q.2]
theorem forE_cons {g : DSt → MS Out} {tg : D → DSt → Option DSt} {d : D} {ds : List D} {δ δ1 δ2 : DSt} {Ω Ω1 : Sto} (h1 : tg d δ = some δ1) (h2 : g δ1 Ω = some (.ok (.nx δ2), Ω1)) : forE g tg (d :: ds) δ Ω = forE g tg ds δ2 Ω1 := by
  conv => lhs; unfold forE
  rw [h1]
  dsimp only
  rw [s_b, h2, s_bok]
structure Wd (nm : D) (frm : Str → Fm) (w : Str) : Prop where
  p1 : (w == Str.ofString "(") = false
  p2 : (w == Str.ofString ")") = false
  p3 : isSign w = false
  fw : m_form_of_word [nm, .str w] = some (.ok (fm (frm w)))
theorem Stk.inv {Ω : Sto} {a : OS} {os : List OS} {r : List Nat} (h : Stk Ω r (a :: os)) : ∃ i r', r = i :: r' := by
  cases r with
  | nil => exact h.elim
  | cons i r' => exact ⟨i, r', rfl⟩
theorem loop_ok {n : Nat} {frm : Str → Fm} {L : List D} {pc : D} (hn : n ≤ 1000) (hl : L.length = n) {ts : List (Str × Int)} {os os' : List OS} (R : Run n frm (Wd (.lst L) frm) ts os os') :
    ∀ (r : List Nat) (Ω : Sto) (δ : DSt), RS1 (.lst L) pc r δ → Stk Ω r os → r.length + ts.length ≤ 1000000 →
      ∃ δ' r' Ω', forE b1_reckoned (gTup2 3 4) (ts.map pcD) δ Ω = some (.ok (.nx δ'), Ω') ∧ RS1 (.lst L) pc r' δ' ∧ Stk Ω' r' os' := by
  induction R with
  | nil os => intro r Ω δ h S _; exact ⟨δ, r, Ω, rfl, h, S⟩
  | opn _ ih =>
    rename_i ts os os' p hR
    intro r Ω δ h S hz
    obtain ⟨x, y, z, rfl⟩ := h
    simp only [List.length_cons] at hz
    obtain ⟨e, S'⟩ := step_opn (pc := pc) (z := z) (p := p) hn hl S (by omega)
    rw [List.map_cons, forE_cons rfl e]
    exact ih _ _ _ ⟨_, _, _, rfl⟩ S' (by simp only [List.length_cons]; omega)
  | cls ht T hR ih =>
    rename_i ts a b os os' p
    intro r Ω δ h S hz
    obtain ⟨x, y, z, rfl⟩ := h
    obtain ⟨i, r1, rfl⟩ := S.inv
    obtain ⟨j, r2, rfl⟩ := Stk.inv S.2.2
    simp only [List.length_cons] at hz
    obtain ⟨e, S'⟩ := step_cls (nm := .lst L) (pc := pc) (z := z) (p := p) hn ht T S
    rw [List.map_cons, forE_cons rfl e]
    exact ih _ _ _ ⟨_, _, _, rfl⟩ S' (by simp only [List.length_cons]; omega)
  | sgn hc ht hR ih =>
    rename_i ts a os os' c p
    intro r Ω δ h S hz
    obtain ⟨x, y, z, rfl⟩ := h
    obtain ⟨i, r1, rfl⟩ := S.inv
    simp only [List.length_cons] at hz
    obtain ⟨e, S'⟩ := step_sgn (nm := .lst L) (pc := pc) (z := z) (p := p) hc hn ht S
    rw [List.map_cons, forE_cons rfl e]
    exact ih _ _ _ ⟨_, _, _, rfl⟩ S' (by simp only [List.length_cons]; omega)
  | wrd hw T hR ih =>
    rename_i ts a os os' w p
    intro r Ω δ h S hz
    obtain ⟨x, y, z, rfl⟩ := h
    obtain ⟨i, r1, rfl⟩ := S.inv
    simp only [List.length_cons] at hz
    obtain ⟨e, S'⟩ := step_wrd (pc := pc) (z := z) (p := p) hw.p1 hw.p2 hw.p3 hw.fw hn T S
    rw [List.map_cons, forE_cons rfl e]
    exact ih _ _ _ ⟨_, _, _, rfl⟩ S' (by simp only [List.length_cons]; omega)
theorem reckoned_ok {n : Nat} {frm : Str → Fm} {L : List D} (hn : n ≤ 1000) (hl : L.length = n) {ts : List (Str × Int)} {a : OS} (R : Run n frm (Wd (.lst L) frm) ts [fresh n] [a]) (ha : a.total.1.length = n) (hz : ts.length ≤ 100000) (Ω : Sto) :
    ∃ Ω', m_reckoned [.lst L, .lst (ts.map pcD)] Ω = some (.ok (fm (wholeF a)), Ω') := by
  unfold m_reckoned
  rw [s_mir2]
  have m := make_ok (Ω := Ω) hn
  have e1 : eSet 2 (mL gLstD (mCons (mMake "OpenSum" m_OpenSum_init__ (lF (fCons (fL kLen (fCons (fVar 0) fNil)) fNil))) (lF fNil))) [some (.lst L), some (.lst (ts.map pcD)), none, none, none, none] Ω = some (.ok (.nx [some (.lst L), some (.lst (ts.map pcD)), some (idsD [Ω.length]), none, none, none]), Ω ++ [osO (fresh n)]) := by
    have l : lF (fCons (fL kLen (fCons (fVar 0) fNil)) fNil) [some (.lst L), some (.lst (ts.map pcD)), none, none, none, none] Ω = some (.ok [.int n], Ω) := by simp only [stsA, stpA, Nat.reduceSub, len_l, hl]
    have e : mMake "OpenSum" m_OpenSum_init__ (lF (fCons (fL kLen (fCons (fVar 0) fNil)) fNil)) [some (.lst L), some (.lst (ts.map pcD)), none, none, none, none] Ω = some (.ok (.obj Ω.length), Ω ++ [osO (fresh n)]) := by
      rw [s_make, s_b, l, s_bok, m]
    rw [s_set, s_b, s_L, s_b, s_cons, s_b, e, s_bok]
    rfl
  have S0 : Stk (Ω ++ [osO (fresh n)]) [Ω.length] [fresh n] := ⟨by simp, by simp, trivial⟩
  obtain ⟨δ', r', Ω', e2, ⟨x, y, z, rfl⟩, S'⟩ := loop_ok (pc := .lst (ts.map pcD)) hn hl R [Ω.length] _ _ ⟨none, none, none, rfl⟩ S0 (by simp; omega)
  obtain ⟨i, r1, rfl⟩ := S'.inv
  have hr1 : r1 = [] := by
    cases r1 with
    | nil => rfl
    | cons _ _ => exact S'.2.2.elim
  subst hr1
  have w := whole_ok S'.1 (by omega)
  have y2 := fun (fl : DSt → MS (List D)) (δ : DSt) => meth_ok (m := m_OpenSum_whole) (fl := fl) (δ := δ) (f := "whole") S'.1 rfl
  refine ⟨Ω', ?_⟩
  show ((g_reckoned [some (.lst L), some (.lst (ts.map pcD)), none, none, none, none]).b outE) Ω = _
  unfold g_reckoned
  have e3 : eRet (mMeth "OpenSum" "whole" m_OpenSum_whole (lF (f2 gIx (fVar 2) (fC (.int 0)))) (lF fNil)) [some (.lst L), some (.lst (ts.map pcD)), some (idsD [i]), x, y, z] Ω' = some (.ok (.rt (fm (wholeF a))), Ω') := by
    have i0 : lF (f2 gIx (fVar 2) (fC (.int 0))) [some (.lst L), some (.lst (ts.map pcD)), some (idsD [i]), x, y, z] Ω' = some (.ok (.obj i), Ω') := by unfold idsD; simp only [stsA, stpA, Nat.reduceSub, List.reverse_cons, List.reverse_nil]
    rw [s_ret, s_b, s_meth, s_b, i0, s_bok]
    dsimp only
    rw [y2, s_b, s_lF, e_nil, s_lp, s_bok, w, s_bok]
    rfl
  have e4 : eFor (lF (iSeqD (fVar 1))) (gTup2 3 4) b1_reckoned [some (.lst L), some (.lst (ts.map pcD)), some (idsD [Ω.length]), none, none, none] (Ω ++ [osO (fresh n)]) = some (.ok (.nx [some (.lst L), some (.lst (ts.map pcD)), some (idsD [i]), x, y, z]), Ω') := by
    rw [s_for, s_b]
    have i0 : lF (iSeqD (fVar 1)) [some (.lst L), some (.lst (ts.map pcD)), some (idsD [Ω.length]), none, none, none] (Ω ++ [osO (fresh n)]) = some (.ok (ts.map pcD), Ω ++ [osO (fresh n)]) := by simp only [stsA, stpA, Nat.reduceSub]
    rw [i0, s_bok, e2]
  rw [s_b, s_seq, s_b, e1, s_bok, seqS_nx, s_seq, s_b, e4, s_bok, seqS_nx, e3, s_bok]
  rfl
end
end MyLaw
namespace MyLaw
open PySem PySem.Spec L2 DL
noncomputable section
theorem mulF_len (f : Fm) (n : Int) : (mulF f n).1.length = f.1.length := by unfold mulF; simp
theorem addF_len {f g : Fm} (h : f.1.length = g.1.length) : (addF f g).1.length = f.1.length := by unfold addF; simp; omega
theorem mulF_one (f : Fm) : mulF f 1 = f := by unfold mulF; simp
theorem mulF_mul (f : Fm) (a b : Int) : mulF (mulF f a) b = mulF f (a * b) := by
  unfold mulF
  simp [List.map_map, Function.comp_def, Int.mul_assoc]
theorem mulF_comm (f : Fm) (a b : Int) : mulF (mulF f a) b = mulF (mulF f b) a := by rw [mulF_mul, mulF_mul, Int.mul_comm]
theorem plain_mul {f : Fm} (h : plainF f = true) (n : Int) : plainF (mulF f n) = true := by
  unfold plainF mulF at *
  simp only [List.all_map, List.all_eq_true, Function.comp, beq_iff_eq] at *
  intro c hc
  rw [h c hc, Int.zero_mul]
theorem plain_eq {f : Fm} (h : plainF f = true) : f = (List.replicate f.1.length 0, f.2) := by
  obtain ⟨cs, k⟩ := f
  unfold plainF at h
  simp only [List.all_eq_true, beq_iff_eq] at h
  have : cs = List.replicate cs.length 0 := List.eq_replicate_iff.mpr ⟨rfl, h⟩
  simp only
  rw [← this]
theorem addF_zero {f : Fm} : addF (List.replicate f.1.length 0, 0) f = f := by
  obtain ⟨cs, k⟩ := f
  unfold addF
  simp only [Int.zero_add, Prod.mk.injEq, and_true]
  induction cs with
  | nil => rfl
  | cons c cs ih => rw [List.length_cons, List.replicate_succ, List.zip_cons_cons, List.map_cons, ih, Int.zero_add]
theorem prod_right {f g : Fm} (h : plainF g = true) : prodF f g = mulF f g.2 := by unfold prodF; rw [if_pos h]
theorem prod_left {f g : Fm} (h : plainF f = true) (hl : f.1.length = g.1.length) : prodF f g = mulF g f.2 := by
  unfold prodF
  split
  · rename_i hg
    rw [plain_eq h, plain_eq hg, hl]
    unfold mulF
    simp [Int.mul_comm]
  · rfl
theorem BF.mono {j k : Nat} {f : Fm} (h : BF j f) (hk : j ≤ k) : BF k f := ⟨fun c hc => (h.1 c hc).mono hk, h.2.mono hk⟩
theorem BF.mul {j k : Nat} {f : Fm} {n : Int} (h : BF j f) (hn : Bt k n) : BF (j + k) (mulF f n) := by
  refine ⟨fun c hc => ?_, h.2.mul hn⟩
  obtain ⟨d, hd, rfl⟩ := List.mem_map.mp hc
  exact (h.1 d hd).mul hn
theorem BF.neg {j : Nat} {f : Fm} (h : BF j f) : BF j (mulF f (-1)) := by
  refine ⟨fun c hc => ?_, ?_⟩
  · obtain ⟨d, hd, rfl⟩ := List.mem_map.mp hc
    have := (h.1 d hd).neg
    simpa [Int.mul_neg] using this
  · have := h.2.neg
    show Bt j (f.2 * -1)
    simpa [Int.mul_neg] using this
theorem BF.add {j : Nat} {f g : Fm} (h : BF j f) (k : BF j g) : BF (j + 1) (addF f g) := by
  refine ⟨fun c hc => ?_, h.2.add k.2⟩
  obtain ⟨⟨a, b⟩, hd, rfl⟩ := List.mem_map.mp hc
  have := List.of_mem_zip hd
  exact (h.1 _ this.1).add (k.1 _ this.2)
theorem BF.sgn {j : Nat} {f : Fm} {s : Int} (h : BF j f) (hs : s = 1 ∨ s = -1) : BF j (mulF f s) := by
  rcases hs with rfl | rfl
  · rw [mulF_one]; exact h
  · exact h.neg
section
variable {n : Nat} {frm : Str → Fm} {wd : Str → Prop}
structure FO (n : Nat) (f : Fm) : Prop where
  len : f.1.length = n
  bf : BF KB f
variable (n frm wd) in
noncomputable def FacOk (ts : List Str) (f : Fm) : Prop := ∀ ps : List (Str × Int), ps.map (·.1) = ts → ∀ o r, OkT n o f → Run n frm wd ps (o :: r) (takeF o f :: r)
variable (n frm wd) in
noncomputable def TermOk (ts : List Str) (f : Fm) : Prop := ∀ ps : List (Str × Int), ps.map (·.1) = ts → ∀ (o : OS) (r : List OS), o.star = none → (o.sign = 1 ∨ o.sign = -1) → o.total.1.length = n → ∃ o', Run n frm wd ps (o :: r) (o' :: r) ∧ o'.total = o.total ∧ o'.term = mulF f o.sign ∧ (o'.sign = o.sign)
variable (n frm wd) in
noncomputable def SumOk (ts : List Str) (f : Fm) : Prop := ∀ ps : List (Str × Int), ps.map (·.1) = ts → ∀ r : List OS, ∃ o', Run n frm wd ps (fresh n :: r) (o' :: r) ∧ wholeF o' = f ∧ o'.total.1.length = n ∧ o'.term.1.length = n
theorem sgn_bt {s : Int} (h : s = 1 ∨ s = -1) : Bt KB s := by
  have : Bt 1 s := by unfold Bt; rcases h with rfl | rfl <;> decide
  exact this.mono (by decide)
theorem fac_word {w : Str} (hw : wd w) : FacOk n frm wd [w] (frm w) := by
  intro ps hp o r T
  obtain ⟨q, ps', rfl⟩ : ∃ q ps', ps = q :: ps' := by cases ps with | nil => cases hp | cons q ps' => exact ⟨q, ps', rfl⟩
  obtain ⟨w', p⟩ := q
  simp only [List.map_cons, List.cons.injEq, List.map_eq_nil_iff] at hp
  obtain ⟨rfl, rfl⟩ := hp
  exact .wrd hw T (.nil _)
theorem map_app {ps : List (Str × Int)} {a b : List Str} (h : ps.map (·.1) = a ++ b) : ∃ p1 p2, ps = p1 ++ p2 ∧ p1.map (·.1) = a ∧ p2.map (·.1) = b := by
  obtain ⟨p1, p2, e, h1, h2⟩ := List.map_eq_append_iff.mp h
  exact ⟨p1, p2, e, h1, h2⟩
theorem map_one {ps : List (Str × Int)} {a : Str} {b : List Str} (h : ps.map (·.1) = a :: b) : ∃ p p2, ps = (a, p) :: p2 ∧ p2.map (·.1) = b := by
  cases ps with
  | nil => cases h
  | cons q ps =>
    obtain ⟨w, p⟩ := q
    simp only [List.map_cons, List.cons.injEq] at h
    obtain ⟨rfl, h⟩ := h
    exact ⟨p, ps, rfl, h⟩
theorem fac_paren {ts : List Str} {f : Fm} (hs : SumOk n frm wd ts f) : FacOk n frm wd ((("(" : Str) :: ts) ++ [(")" : Str)]) f := by
  intro ps hp o r T
  obtain ⟨p1, p2, rfl, h1, h2⟩ := map_app hp
  obtain ⟨p, q1, rfl, h4⟩ := map_one h1
  obtain ⟨p', q2, rfl, h3⟩ := map_one h2
  have h2' : q2 = [] := List.map_eq_nil_iff.mp h3
  subst h2'
  obtain ⟨o', R, w, l1, l2⟩ := hs q1 h4 (o :: r)
  refine .opn (R.append (.cls l1 (by rw [w]; exact T) ?_))
  rw [w]
  exact .nil _
theorem term_fac {ts : List Str} {f : Fm} (h : FacOk n frm wd ts f) (hf : FO n f) : TermOk n frm wd ts f := by
  intro ps hp o r hs hg _
  refine ⟨takeF o f, h ps hp o r ⟨hf.len, hf.bf, sgn_bt hg, fun z => absurd hs z⟩, rfl, ?_, rfl⟩
  unfold takeF
  rw [hs]
theorem is_star : isSign "*" = true := by decide +kernel
theorem is_plus : isSign "+" = true := by decide +kernel
theorem is_minus : isSign "-" = true := by decide +kernel
theorem signF_star (o : OS) (p : Int) : signF o "*" p = { o with star := some p } := if_pos rfl
theorem signF_plus (o : OS) (p : Int) : signF o "+" p = ⟨wholeF o, o.term, 1, none⟩ := by unfold signF; rw [if_neg (by decide +kernel), if_neg (by decide +kernel)]
theorem signF_minus (o : OS) (p : Int) : signF o "-" p = ⟨wholeF o, o.term, -1, none⟩ := by unfold signF; rw [if_neg (by decide +kernel), if_pos rfl]
theorem prod_sgn (f g : Fm) (t : Int) : prodF (mulF f t) g = mulF (prodF f g) t := by
  unfold prodF
  split
  · exact mulF_comm _ _ _
  · show mulF g (f.2 * t) = _
    rw [mulF_mul]
theorem term_mul {ts us : List Str} {f g : Fm} (h1 : TermOk n frm wd ts f) (h2 : FacOk n frm wd us g) (hf : FO n f) (hg : FO n g) (hp : plainF f = true ∨ plainF g = true) : TermOk n frm wd (ts ++ ("*" : Str) :: us) (prodF f g) := by
  intro ps hps o r hs hsg ht
  obtain ⟨p1, p2, rfl, e1, e2⟩ := map_app hps
  obtain ⟨p, q2, rfl, e3⟩ := map_one e2
  obtain ⟨o1, R, t1, t2, t3⟩ := h1 p1 e1 o r hs hsg ht
  have T : OkT n { o1 with star := some p } g := ⟨hg.len, hg.bf, by show Bt KB o1.sign; rw [t3]; exact sgn_bt hsg, fun _ => by
    show BF KB o1.term ∧ o1.term.1.length = n ∧ _
    rw [t2]
    exact ⟨hf.bf.sgn hsg, by rw [mulF_len]; exact hf.len, hp.imp (fun z => plain_mul z _) id⟩⟩
  refine ⟨takeF { o1 with star := some p } g, R.append (.sgn is_star (by rw [t1]; exact ht) ?_), t1, ?_, t3⟩
  · rw [signF_star]
    exact h2 q2 e3 _ _ T
  · show prodF o1.term g = _
    rw [t2, prod_sgn]
theorem sum_term {ts : List Str} {f : Fm} (h : TermOk n frm wd ts f) (hf : FO n f) : SumOk n frm wd ts f := by
  intro ps hp r
  obtain ⟨o', R, t1, t2, t3⟩ := h ps hp (fresh n) r rfl (.inl rfl) (by simp [fresh])
  have e2 : o'.term = f := by rw [t2]; exact mulF_one f
  refine ⟨o', R, ?_, by rw [t1]; simp [fresh], by rw [e2]; exact hf.len⟩
  unfold wholeF
  rw [t1, e2, show (fresh n).total = (List.replicate f.1.length 0, 0) by rw [hf.len]; rfl]
  exact addF_zero
theorem sum_neg {ts : List Str} {f : Fm} (h : TermOk n frm wd ts f) (hf : FO n f) : SumOk n frm wd (("-" : Str) :: ts) (mulF f (-1)) := by
  intro ps hp r
  obtain ⟨p, q, rfl, e⟩ := map_one hp
  have hw : wholeF (fresh n) = (List.replicate n 0, 0) := by
    have := addF_zero (f := (List.replicate n 0, 0))
    rw [List.length_replicate] at this
    exact this
  obtain ⟨o', R, t1, t2, t3⟩ := h q e ⟨wholeF (fresh n), (fresh n).term, -1, none⟩ r rfl (.inr rfl) (by rw [hw]; simp)
  refine ⟨o', .sgn is_minus (by simp [fresh]) (by rw [signF_minus]; exact R), ?_, by rw [t1, hw]; simp, by rw [t2, mulF_len]; exact hf.len⟩
  unfold wholeF
  rw [t1, t2]
  show addF (wholeF (fresh n)) (mulF f (-1)) = _
  rw [hw]
  have := addF_zero (f := mulF f (-1))
  rw [mulF_len, hf.len] at this
  exact this
theorem sum_more {ts us : List Str} {f g : Fm} {c : Str} {t : Int} (h1 : SumOk n frm wd ts f) (h2 : TermOk n frm wd us g) (hg : FO n g) (hc : isSign c = true) (ht : t = 1 ∨ t = -1) (hs : ∀ o p, signF o c p = ⟨wholeF o, o.term, t, none⟩) : SumOk n frm wd (ts ++ c :: us) (addF f (mulF g t)) := by
  intro ps hps r
  obtain ⟨p1, p2, rfl, e1, e2⟩ := map_app hps
  obtain ⟨p, q2, rfl, e3⟩ := map_one e2
  obtain ⟨o1, R, w, l1, l2⟩ := h1 p1 e1 r
  have hl : (wholeF o1).1.length = n := by
    unfold wholeF
    rw [addF_len (by omega)]
    exact l1
  obtain ⟨o', R2, t1, t2, t3⟩ := h2 q2 e3 ⟨wholeF o1, o1.term, t, none⟩ r rfl ht hl
  refine ⟨o', R.append (.sgn hc l1 (by rw [hs]; exact R2)), ?_, by rw [t1]; exact hl, by rw [t2, mulF_len]; exact hg.len⟩
  show addF o'.total o'.term = _
  rw [t1, t2]
  show addF (wholeF o1) (mulF g t) = _
  rw [w]
theorem sum_add {ts us : List Str} {f g : Fm} (h1 : SumOk n frm wd ts f) (h2 : TermOk n frm wd us g) (hg : FO n g) : SumOk n frm wd (ts ++ ("+" : Str) :: us) (addF f g) := by
  have := sum_more (t := 1) h1 h2 hg is_plus (.inl rfl) signF_plus
  rwa [mulF_one] at this
theorem sum_sub {ts us : List Str} {f g : Fm} (h1 : SumOk n frm wd ts f) (h2 : TermOk n frm wd us g) (hg : FO n g) : SumOk n frm wd (ts ++ ("-" : Str) :: us) (addF f (mulF g (-1))) :=
  sum_more (t := -1) h1 h2 hg is_minus (.inr rfl) signF_minus
end
end
end MyLaw
namespace MyLaw
open PySem PySem.Spec L2 DL
noncomputable section
noncomputable def S1 (c : Nat) : Str := ⟨#[c]⟩
noncomputable def isL (c : Nat) : Bool := decide (97 ≤ c) && decide (c ≤ 122)
noncomputable def isG (c : Nat) : Bool := decide (48 ≤ c) && decide (c ≤ 57)
theorem le_one (a b : Nat) : gLe (.str (S1 a)) (.str (S1 b)) = some (.bl (decide (a ≤ b))) := by
  show some (D.bl (!decide ([b] < [a]))) = _
  have : ([b] < [a]) ↔ b < a := by
    constructor
    · intro h
      cases h with
      | rel h => exact h
      | cons h => cases h
    · exact fun h => .rel h
  simp only [this]
  by_cases q : a ≤ b
  · rw [decide_eq_true q, decide_eq_false (by omega)]; rfl
  · rw [decide_eq_false q, decide_eq_true (by omega)]; rfl
theorem lit_a : (Str.ofString "a") = S1 97 := by decide +kernel
theorem lit_z : (Str.ofString "z") = S1 122 := by decide +kernel
theorem lit_0 : (Str.ofString "0") = S1 48 := by decide +kernel
theorem lit_9 : (Str.ofString "9") = S1 57 := by decide +kernel
theorem chain_ok {g g' : D → D → Option D} {fa fb fc : DSt → M D} {δ : DSt} {x y z : D} {p q : Bool} (ha : fa δ = M.p x) (hb : fb δ = M.p y) (hc : fc δ = M.p z) (h1 : g x y = some (.bl p)) (h2 : g' y z = some (.bl q)) : fChain g g' fa fb fc δ = M.p (.bl (p && q)) := by
  unfold fChain
  rw [ha, hb, M.b_p, M.b_p, h1]
  cases p with
  | true => dsimp only; rw [hc, M.b_p, h2]; rfl
  | false => rfl
theorem letter_ok (c : Nat) : m_is_letter [.str (S1 c)] = some (.ok (.bl (isL c))) := by
  unfold m_is_letter
  rw [e_mir1]
  unfold g_is_letter
  rw [e_ret, chain_ok (x := .str (S1 97)) (y := .str (S1 c)) (z := .str (S1 122)) (p := decide (97 ≤ c)) (q := decide (c ≤ 122)) (by rw [lit_a]; rfl) rfl (by rw [lit_z]; rfl) (le_one _ _) (le_one _ _)]
  rfl
theorem figure_ok (c : Nat) : m_is_figure [.str (S1 c)] = some (.ok (.bl (isG c))) := by
  unfold m_is_figure
  rw [e_mir1]
  unfold g_is_figure
  rw [e_ret, chain_ok (x := .str (S1 48)) (y := .str (S1 c)) (z := .str (S1 57)) (p := decide (48 ≤ c)) (q := decide (c ≤ 57)) (by rw [lit_0]; rfl) rfl (by rw [lit_9]; rfl) (le_one _ _) (le_one _ _)]
  rfl
theorem len_str {x : Str} (h : x.length ≤ 50000) : kLen [.str x] = some (.int x.length) := if_pos (by rw [sizeLine_eq]; exact Nat.le_trans (by assumption) (by decide))
structure At (x : Str) (pre rest : List Nat) : Prop where
  eq : x.cps.toList = pre ++ rest
  small : x.length ≤ 50000
theorem At.len {x : Str} {pre rest : List Nat} (h : At x pre rest) : x.length = pre.length + rest.length := by
  have : x.length = x.cps.toList.length := by simp [Str.length]
  rw [this, h.eq, List.length_append]
theorem At.ix {x : Str} {pre rest : List Nat} {c : Nat} (h : At x pre (c :: rest)) : gIx (.str x) (.int (pre.length : Nat)) = some (.str (S1 c)) := by
  show (if x.length ≤ sizeLine then (atI x.cps.toList (pre.length : Nat)).map fun c => D.str ⟨#[c]⟩ else none) = _
  rw [if_pos (by rw [sizeLine_eq]; have := h.small; exact Nat.le_trans (by assumption) (by decide)), h.eq, DL.atI_get (v := c) (by simp)]
  rfl
theorem At.step {x : Str} {pre a rest : List Nat} (h : At x pre (a ++ rest)) : At x (pre ++ a) rest := ⟨by rw [h.eq, List.append_assoc], h.small⟩
theorem At.slice {x : Str} {pre a rest : List Nat} (h : At x pre (a ++ rest)) : Txt.slice x (some (pre.length : Nat)) (some ((pre.length + a.length : Nat) : Int)) = ⟨a.toArray⟩ := by
  have hb := PyProof.Rows.slice_closes (x := x) (i := (pre.length : Nat)) (j := ((pre.length + a.length : Nat) : Int)) ⟨by exact Int.natCast_nonneg _, by omega, by rw [h.eq]; simp; omega⟩
  rw [eq_of_beq hb, h.eq]
  congr 2
  have : ((pre.length : Nat) : Int).toNat = pre.length := Int.toNat_natCast _
  rw [this, List.drop_left]
  have : (((pre.length + a.length : Nat) : Int) - (pre.length : Nat)).toNat = a.length := by omega
  rw [this, List.take_left]
theorem At.cut {x : Str} {pre a rest : List Nat} (h : At x pre (a ++ rest)) : cutD (.str x) (some (pre.length : Nat)) (some ((pre.length + a.length : Nat) : Int)) = some (.str ⟨a.toArray⟩) := by
  show (if x.length ≤ sizeLine then some (D.str (Txt.slice x _ _)) else none) = _
  rw [if_pos (by rw [sizeLine_eq]; have := h.small; exact Nat.le_trans (by assumption) (by decide)), h.slice]
theorem while_go {t : DSt → M Bool} {g : DSt → M Out} {k : Nat} {δ δ' : DSt} (h1 : t δ = some (.ok true)) (h2 : g δ = some (.ok (.nx δ'))) : whileD t g (k + 1) δ = whileD t g k δ' := by
  conv => lhs; unfold whileD
  rw [h1, M.b_ok, if_pos rfl, h2, M.b_ok]
theorem while_end {t : DSt → M Bool} {g : DSt → M Out} {k : Nat} {δ : DSt} (h1 : t δ = some (.ok false)) : whileD t g (k + 1) δ = some (.ok (.nx δ)) := by
  conv => lhs; unfold whileD
  rw [h1, M.b_ok, if_neg (by decide)]
  rfl
noncomputable def ed (x : Str) (p e : Nat) : DSt := [some (.str x), some (.int p), some (.int e)]
theorem bump2 (x : Str) (p e : Nat) : b2_end_of_piece (ed x p e) = some (.ok (.nx (ed x p (e + 1)))) := by
  unfold b2_end_of_piece ed
  simp only [stpA, Nat.reduceSub, DL.add_int]
  rfl
theorem bump4 (x : Str) (p e : Nat) : b4_end_of_piece (ed x p e) = some (.ok (.nx (ed x p (e + 1)))) := by
  unfold b4_end_of_piece ed
  simp only [stpA, Nat.reduceSub, DL.add_int]
  rfl
theorem t1_in {x : Str} {p : Nat} {pre rest : List Nat} {c : Nat} (h : At x pre (c :: rest)) : t1_end_of_piece (ed x p pre.length) = some (.ok (isL c && decide (pre.length < p + 10))) := by
  unfold t1_end_of_piece ed
  have hl := h.len
  rw [List.length_cons] at hl
  have e1 : decide (((pre.length : Nat) : Int) < (x.length : Nat)) = true := decide_eq_true (by omega)
  simp only [stpA, Nat.reduceSub, len_str h.small, lt_int, e1, h.ix, letter_ok, sub_int]
  cases isL c with
  | false => rfl
  | true =>
    have : decide (((pre.length : Nat) : Int) - (p : Nat) < 10) = decide (pre.length < p + 10) := by
      by_cases q : pre.length < p + 10
      · rw [decide_eq_true q, decide_eq_true (by omega)]
      · rw [decide_eq_false q, decide_eq_false (by omega)]
    simp only [stpA, Nat.reduceSub, this]
    rfl
theorem t1_out {x : Str} {p : Nat} {pre : List Nat} (h : At x pre []) : t1_end_of_piece (ed x p pre.length) = some (.ok false) := by
  unfold t1_end_of_piece ed
  have hl := h.len
  rw [List.length_nil] at hl
  have e1 : decide (((pre.length : Nat) : Int) < (x.length : Nat)) = false := decide_eq_false (by omega)
  simp only [stpA, Nat.reduceSub, len_str h.small, lt_int, e1]
  rfl
theorem t3_in {x : Str} {p : Nat} {pre rest : List Nat} {c : Nat} (h : At x pre (c :: rest)) : t3_end_of_piece (ed x p pre.length) = some (.ok (isG c)) := by
  unfold t3_end_of_piece ed
  have hl := h.len
  rw [List.length_cons] at hl
  have e1 : decide (((pre.length : Nat) : Int) < (x.length : Nat)) = true := decide_eq_true (by omega)
  simp only [stpA, Nat.reduceSub, len_str h.small, lt_int, e1, h.ix, figure_ok]
  rfl
theorem t3_out {x : Str} {p : Nat} {pre : List Nat} (h : At x pre []) : t3_end_of_piece (ed x p pre.length) = some (.ok false) := by
  unfold t3_end_of_piece ed
  have hl := h.len
  rw [List.length_nil] at hl
  have e1 : decide (((pre.length : Nat) : Int) < (x.length : Nat)) = false := decide_eq_false (by omega)
  simp only [stpA, Nat.reduceSub, len_str h.small, lt_int, e1]
  rfl
noncomputable def Stop (q : Nat → Bool) : List Nat → Prop
  | [] => True
  | c :: _ => q c = false
theorem letters_go {x : Str} {p : Nat} {rest : List Nat} (hr : Stop isL rest) : ∀ (a pre : List Nat) (k : Nat), At x pre (a ++ rest) → (∀ c ∈ a, isL c = true) → pre.length + a.length ≤ p + 10 → a.length < k →
    whileD t1_end_of_piece b2_end_of_piece k (ed x p pre.length) = some (.ok (.nx (ed x p (pre.length + a.length))))
  | [], pre, k, h, ha, hb, hk => by
    obtain ⟨k, rfl⟩ : ∃ j, k = j + 1 := ⟨k - 1, by simp at hk; omega⟩
    rw [List.nil_append] at h
    cases rest with
    | nil => exact while_end (t1_out h)
    | cons c rest =>
      have : isL c = false := hr
      exact while_end (by rw [t1_in h, this]; rfl)
  | c :: a, pre, k, h, ha, hb, hk => by
    obtain ⟨k, rfl⟩ : ∃ j, k = j + 1 := ⟨k - 1, by simp at hk; omega⟩
    rw [List.length_cons] at hb hk
    have e : t1_end_of_piece (ed x p pre.length) = some (.ok true) := by
      rw [t1_in (rest := a ++ rest) h, ha c List.mem_cons_self, decide_eq_true (show pre.length < p + 10 by omega)]
      rfl
    rw [while_go e (bump2 x p pre.length)]
    have h' : At x (pre ++ [c]) (a ++ rest) := At.step (a := [c]) h
    have := letters_go (p := p) hr a (pre ++ [c]) k h' (fun d hd => ha d (List.mem_cons_of_mem _ hd)) (by simp; omega) (by exact Nat.le_of_succ_le_succ (by assumption))
    rw [List.length_append, List.length_singleton] at this
    rw [this, List.length_cons]
    congr 3
    simp [ed]
    omega
theorem figures_go {x : Str} {p : Nat} {rest : List Nat} (hr : Stop isG rest) : ∀ (a pre : List Nat) (k : Nat), At x pre (a ++ rest) → (∀ c ∈ a, isG c = true) → a.length < k →
    whileD t3_end_of_piece b4_end_of_piece k (ed x p pre.length) = some (.ok (.nx (ed x p (pre.length + a.length))))
  | [], pre, k, h, ha, hk => by
    obtain ⟨k, rfl⟩ : ∃ j, k = j + 1 := ⟨k - 1, by simp at hk; omega⟩
    rw [List.nil_append] at h
    cases rest with
    | nil => exact while_end (t3_out h)
    | cons c rest =>
      have : isG c = false := hr
      exact while_end (by rw [t3_in h, this])
  | c :: a, pre, k, h, ha, hk => by
    obtain ⟨k, rfl⟩ : ∃ j, k = j + 1 := ⟨k - 1, by simp at hk; omega⟩
    rw [List.length_cons] at hk
    have e : t3_end_of_piece (ed x p pre.length) = some (.ok true) := by
      rw [t3_in (rest := a ++ rest) h, ha c List.mem_cons_self]
    rw [while_go e (bump4 x p pre.length)]
    have h' : At x (pre ++ [c]) (a ++ rest) := At.step (a := [c]) h
    have := figures_go (p := p) hr a (pre ++ [c]) k h' (fun d hd => ha d (List.mem_cons_of_mem _ hd)) (by exact Nat.le_of_succ_le_succ (by assumption))
    rw [List.length_append, List.length_singleton] at this
    rw [this, List.length_cons]
    congr 3
    simp [ed]
    omega
inductive Piece : List Nat → List Nat → Prop
  | sign {c : Nat} {rest : List Nat} : isL c = false → isG c = false → Piece [c] rest
  | zero {rest : List Nat} : Piece [48] rest
  | name {a rest : List Nat} : a ≠ [] → (∀ c ∈ a, isL c = true) → a.length ≤ 10 → Stop isL rest → Piece a rest
  | num {a rest : List Nat} : a ≠ [] → (∀ c ∈ a, isG c = true) → a.head? ≠ some 48 → Stop isG rest → Piece a rest
theorem isG_notL {c : Nat} (h : isG c = true) : isL c = false := by
  unfold isG isL at *
  simp only [Bool.and_eq_true, decide_eq_true_eq] at h
  rw [decide_eq_false (by omega)]; rfl
theorem ne_zero (c : Nat) : gNe (.str (S1 c)) (.str "0") = some (.bl !(c == 48)) := by
  rw [lit_0]
  show some (D.bl !(S1 c == S1 48)) = _
  have : (S1 c == S1 48) = (c == 48) := by
    by_cases q : c = 48
    · subst q; simp
    · rw [beq_eq_false_iff_ne.mpr q, beq_eq_false_iff_ne.mpr (fun z => q (by unfold S1 at z; simpa using z))]
  rw [this]
theorem seq_ok {g1 g2 : DSt → M Out} {δ δ' : DSt} (h : g1 δ = some (.ok (.nx δ'))) : gSeq g1 g2 δ = g2 δ' := by rw [e_seq, h, M.b_ok, seqO_nx]
theorem if_ok {t : DSt → M Bool} {g1 g2 : DSt → M Out} {δ : DSt} {b : Bool} (h : t δ = some (.ok b)) : gIf t g1 g2 δ = if b = true then g1 δ else g2 δ := by rw [e_gif, h, M.b_ok]
theorem end_ok {x : Str} {pre a rest : List Nat} (h : At x pre (a ++ rest)) (P : Piece a rest) (hf : x.length < FUEL) : m_end_of_piece [.str x, .int (pre.length : Nat)] = some (.ok (.int ((pre.length + a.length : Nat) : Int))) := by
  have hne : a ≠ [] := by cases P <;> first | assumption | simp
  obtain ⟨c, a', rfl⟩ : ∃ c a', a = c :: a' := by cases a with | nil => exact absurd rfl hne | cons c a' => exact ⟨c, a', rfl⟩
  have ix : gIx (.str x) (.int (pre.length : Nat)) = some (.str (S1 c)) := At.ix (rest := a' ++ rest) h
  have h' : At x (pre ++ [c]) (a' ++ rest) := At.step (a := [c]) h
  have hl := h.len
  rw [List.length_append, List.length_cons] at hl
  have hp : (pre ++ [c]).length = pre.length + 1 := by simp
  have s0 : gSet 2 (f2 gCat (fVar 1) (fC (.int 1))) [some (.str x), some (.int (pre.length : Nat)), none] = some (.ok (.nx (ed x pre.length (pre ++ [c]).length))) := by
    unfold ed
    simp only [stpA, Nat.reduceSub, hp]
    rfl
  have t1 : tTru (fCall m_is_letter (fCons (f2 gIx (fVar 0) (fVar 1)) fNil)) (ed x pre.length (pre ++ [c]).length) = some (.ok (isL c)) := by
    unfold ed
    simp only [stpA, Nat.reduceSub, ix, letter_ok]
    rfl
  have t2 : DL.tAnd (tTru (fCall m_is_figure (fCons (f2 gIx (fVar 0) (fVar 1)) fNil))) (t2 gNe (f2 gIx (fVar 0) (fVar 1)) (fC (.str "0"))) (ed x pre.length (pre ++ [c]).length) = some (.ok (isG c && !(c == 48))) := by
    unfold ed
    simp only [stpA, Nat.reduceSub, ix, figure_ok, ne_zero]
    cases isG c <;> rfl
  have body : gIf (tTru (fCall m_is_letter (fCons (f2 gIx (fVar 0) (fVar 1)) fNil))) (whileD t1_end_of_piece b2_end_of_piece FUEL) (gIf (DL.tAnd (tTru (fCall m_is_figure (fCons (f2 gIx (fVar 0) (fVar 1)) fNil))) (DL.t2 gNe (f2 gIx (fVar 0) (fVar 1)) (fC (.str "0")))) (whileD t3_end_of_piece b4_end_of_piece FUEL) gNx) (ed x pre.length (pre ++ [c]).length) = some (.ok (.nx (ed x pre.length ((pre ++ [c]).length + a'.length)))) := by
    rw [if_ok t1, if_ok t2]
    cases P with
    | sign q1 q2 => rw [q1, q2]; rfl
    | zero => rfl
    | name _ q1 q2 q3 =>
      rw [q1 c List.mem_cons_self, if_pos rfl]
      exact letters_go q3 a' (pre ++ [c]) FUEL h' (fun d hd => q1 d (List.mem_cons_of_mem _ hd)) (by rw [hp]; simp at q2; omega) (by omega)
    | num _ q1 q2 q3 =>
      have hg := q1 c List.mem_cons_self
      have hc : (c == 48) = false := beq_eq_false_iff_ne.mpr (fun z => q2 (by rw [z]; rfl))
      rw [isG_notL hg, hg, hc, if_neg (by decide), if_pos (by decide)]
      exact figures_go q3 a' (pre ++ [c]) FUEL h' (fun d hd => q1 d (List.mem_cons_of_mem _ hd)) (by omega)
  unfold m_end_of_piece
  rw [e_mir2]
  show (g_end_of_piece [some (.str x), some (.int (pre.length : Nat)), none]).b outD = _
  unfold g_end_of_piece
  rw [seq_ok s0, seq_ok body]
  unfold ed
  simp only [stpA, Nat.reduceSub]
  rw [hp, List.length_cons, show pre.length + 1 + a'.length = pre.length + (a'.length + 1) by omega]
  rfl
end
end MyLaw
namespace MyLaw
open PySem PySem.Spec L2 DL
noncomputable section
noncomputable def St (a : List Nat) : Str := ⟨a.toArray⟩
theorem st_len (a : List Nat) : (St a).length = a.length := by simp [St, Str.length]
theorem st_one (c : Nat) : St [c] = S1 c := rfl
theorem st_inj {a b : List Nat} (h : St a = St b) : a = b := by
  unfold St at h
  simpa using h
theorem st_beq (a b : List Nat) : (St a == St b) = (a == b) := by
  by_cases q : a = b
  · subst q; simp
  · rw [beq_eq_false_iff_ne.mpr q, beq_eq_false_iff_ne.mpr (fun z => q (st_inj z))]
theorem lt_op : (Str.ofString "(") = St [40] := by decide +kernel
theorem lt_cl : (Str.ofString ")") = St [41] := by decide +kernel
theorem lt_mi : (Str.ofString "-") = St [45] := by decide +kernel
theorem lt_pl : (Str.ofString "+") = St [43] := by decide +kernel
theorem lt_st : (Str.ofString "*") = St [42] := by decide +kernel
theorem lt_sp : (Str.ofString " ") = St [32] := by decide +kernel
theorem sign_st (a : List Nat) : isSign (St a) = ([43] == a || ([45] == a || ([42] == a || false))) := by
  unfold isSign
  rw [lt_pl, lt_mi, lt_st]
  show (St [43] == St a || (St [45] == St a || (St [42] == St a || false))) = _
  rw [st_beq, st_beq, st_beq]
theorem b_beh : (Str.ofString "behind" == Str.ofString "behind") = true := by decide +kernel
theorem b_beg : (Str.ofString "beginning" == Str.ofString "behind") = false := by decide +kernel
theorem stand_sign {c : Nat} {d : Int} (h : isSign (St [c]) = true) : m_may_stand [.str (S1 c), .str "behind", .int d] = some (.ok (.bl true)) := by
  unfold m_may_stand
  rw [e_mir3]
  unfold g_may_stand
  have e : gIn (.str (S1 c)) (.tup [.str "+", .str "-", .str "*"]) = some (.bl true) := by rw [in_signs, ← st_one, h]
  have t : DL.t2 gEq (fVar 1) (fC (.str "behind")) [some (.str (S1 c)), some (.str "behind"), some (.int d)] = some (.ok true) := by simp only [stpA, Nat.reduceSub, eq_str, b_beh]; rfl
  show (gSeq _ _ [some (.str (S1 c)), some (.str "behind"), some (.int d)]).b outD = _
  rw [e_seq, if_ok t, if_pos rfl]
  simp only [stpA, Nat.reduceSub, e_or, e, orB_t]
  rfl
theorem stand_cls {d : Int} (h : 0 < d) : m_may_stand [.str (S1 41), .str "behind", .int d] = some (.ok (.bl true)) := by
  unfold m_may_stand
  rw [e_mir3]
  unfold g_may_stand
  have e : gIn (.str (S1 41)) (.tup [.str "+", .str "-", .str "*"]) = some (.bl false) := by rw [in_signs, ← st_one, sign_st]; rfl
  have t : DL.t2 gEq (fVar 1) (fC (.str "behind")) [some (.str (S1 41)), some (.str "behind"), some (.int d)] = some (.ok true) := by simp only [stpA, Nat.reduceSub, eq_str, b_beh]; rfl
  have q : (S1 41 == Str.ofString ")") = true := by decide +kernel
  show (gSeq _ _ [some (.str (S1 41)), some (.str "behind"), some (.int d)]).b outD = _
  rw [e_seq, if_ok t, if_pos rfl]
  simp only [stpA, Nat.reduceSub, e_or, e, orB_f, e_and, eq_str, q, andB_t, gt_int, decide_eq_true h]
  rfl
theorem stand_neg {d : Int} : m_may_stand [.str (S1 45), .str "beginning", .int d] = some (.ok (.bl true)) := by
  unfold m_may_stand
  rw [e_mir3]
  unfold g_may_stand
  have t : DL.t2 gEq (fVar 1) (fC (.str "behind")) [some (.str (S1 45)), some (.str "beginning"), some (.int d)] = some (.ok false) := by simp only [stpA, Nat.reduceSub, eq_str, b_beg]; rfl
  have q : (S1 45 == Str.ofString "-") = true := by decide +kernel
  have q2 : (Str.ofString "beginning" == Str.ofString "beginning") = true := by decide +kernel
  have t2' : DL.t2 gEq (fVar 0) (fC (.str "-")) [some (.str (S1 45)), some (.str "beginning"), some (.int d)] = some (.ok true) := by simp only [stpA, Nat.reduceSub, eq_str, q]; rfl
  show (gSeq _ _ [some (.str (S1 45)), some (.str "beginning"), some (.int d)]).b outD = _
  rw [seq_ok (δ' := [some (.str (S1 45)), some (.str "beginning"), some (.int d)]) (by rw [if_ok t, if_neg (by decide)]; rfl), e_seq, if_ok t2', if_pos rfl]
  simp only [stpA, Nat.reduceSub, eq_str, q2]
  rfl
theorem stand_fac {c : Nat} {wt : Str} {d : Int} (hw : (wt == Str.ofString "behind") = false) (hc : c ≠ 45) (h : c = 40 ∨ isL c = true ∨ isG c = true) : m_may_stand [.str (S1 c), .str wt, .int d] = some (.ok (.bl true)) := by
  unfold m_may_stand
  rw [e_mir3]
  unfold g_may_stand
  have t : DL.t2 gEq (fVar 1) (fC (.str "behind")) [some (.str (S1 c)), some (.str wt), some (.int d)] = some (.ok false) := by simp only [stpA, Nat.reduceSub, eq_str, hw]; rfl
  have q : (S1 c == Str.ofString "-") = false := by rw [lt_mi, ← st_one, st_beq]; exact beq_eq_false_iff_ne.mpr (by simpa using hc)
  have t2' : DL.t2 gEq (fVar 0) (fC (.str "-")) [some (.str (S1 c)), some (.str wt), some (.int d)] = some (.ok false) := by simp only [stpA, Nat.reduceSub, eq_str, q]; rfl
  show (gSeq _ _ [some (.str (S1 c)), some (.str wt), some (.int d)]).b outD = _
  rw [seq_ok (δ' := [some (.str (S1 c)), some (.str wt), some (.int d)]) (by rw [if_ok t, if_neg (by decide)]; rfl), seq_ok (δ' := [some (.str (S1 c)), some (.str wt), some (.int d)]) (by rw [if_ok t2', if_neg (by decide)]; rfl)]
  have q2 : (S1 c == Str.ofString "(") = (c == 40) := by rw [lt_op, ← st_one, st_beq]; simp
  simp only [stpA, Nat.reduceSub, e_or, eq_str, q2, letter_ok, figure_ok]
  by_cases h1 : c = 40
  · subst h1; rfl
  · rw [beq_eq_false_iff_ne.mpr h1, orB_f]
    rcases h with h | h | h
    · exact absurd h h1
    · rw [h]; rfl
    · rw [h]
      cases isL c <;> rfl
noncomputable def dby (a : List Nat) : Int := if a = [40] then 1 else if a = [41] then -1 else 0
noncomputable def wby (a : List Nat) : Str := if a = [40] then "beginning" else if isSign (St a) = true then "factor" else "behind"
theorem depth_ok (a : List Nat) : m_depth_by [.str (St a)] = some (.ok (.int (dby a))) := by
  unfold m_depth_by
  rw [e_mir1]
  unfold g_depth_by dby
  have q1 : (St a == Str.ofString "(") = (a == [40]) := by rw [lt_op, st_beq]
  have q2 : (St a == Str.ofString ")") = (a == [41]) := by rw [lt_cl, st_beq]
  simp only [stpA, Nat.reduceSub, eq_str, q1, q2]
  by_cases h : a = [40]
  · rw [beq_iff_eq.mpr h, if_pos h]; rfl
  · rw [beq_eq_false_iff_ne.mpr h, if_neg h]
    simp only [stpA, Nat.reduceSub, eq_str, q2]
    by_cases h2 : a = [41]
    · rw [beq_iff_eq.mpr h2, if_pos h2]; rfl
    · rw [beq_eq_false_iff_ne.mpr h2, if_neg h2]; rfl
theorem wanted_ok (a : List Nat) : m_wanted_behind [.str (St a)] = some (.ok (.str (wby a))) := by
  unfold m_wanted_behind
  rw [e_mir1]
  unfold g_wanted_behind wby
  have q1 : (St a == Str.ofString "(") = (a == [40]) := by rw [lt_op, st_beq]
  simp only [stpA, Nat.reduceSub, eq_str, q1, in_signs]
  by_cases h : a = [40]
  · rw [beq_iff_eq.mpr h, if_pos h]; rfl
  · rw [beq_eq_false_iff_ne.mpr h, if_neg h]
    simp only [stpA, Nat.reduceSub, in_signs]
    cases isSign (St a) <;> rfl
noncomputable def pd (x : Str) (ps : List (Str × Int)) (d : Int) (wt : Str) (pl : Nat) (e w : Option D) : DSt := [some (.str x), some (.lst (ps.map pcD)), some (.int d), some (.str wt), some (.int pl), e, w]
theorem sl_ok {fa : DSt → M D} {fl fh : DSt → M (Option Int)} {δ : DSt} {x d : D} {lo hi : Option Int} (ha : fa δ = M.p x) (hl : fl δ = M.p lo) (hh : fh δ = M.p hi) (h : cutD x lo hi = some d) : fSl fa fl fh δ = M.p d := by
  unfold fSl
  rw [ha, hl, hh]
  show M.o (cutD x lo hi) = _
  rw [h]; rfl
theorem app1_ok {i : Nat} {fa : DSt → M D} {δ : DSt} {ds : List D} {d : D} (h : fa δ = M.p d) (hi : (δ[i]?).join = some (.lst ds)) (hl : ds.length < sizeLine) : gApp i fa δ = some (.ok (.nx (δ.set i (some (.lst (ds ++ [d])))))) := by
  rw [e_app, h, M.b_p, hi, appO_lst hl]
  rfl
theorem head_piece {x : Str} {pre a rest : List Nat} {ps : List (Str × Int)} {d : Int} {wt : Str} {e w : Option D} (h : At x pre (a ++ rest)) (P : Piece a rest) (hf : x.length < FUEL) {G : DSt → M Out} :
    gSeq (gSet 5 (fCall m_end_of_piece (fCons (fVar 0) (fCons (fVar 4) fNil)))) (gSeq (gSet 6 (fSl (fVar 0) (oSome (fVar 4)) (oSome (fVar 5)))) G) (pd x ps d wt pre.length e w) = G (pd x ps d wt pre.length (some (.int ((pre.length + a.length : Nat) : Int))) (some (.str (St a)))) := by
  have e1 : gSet 5 (fCall m_end_of_piece (fCons (fVar 0) (fCons (fVar 4) fNil))) (pd x ps d wt pre.length e w) = some (.ok (.nx (pd x ps d wt pre.length (some (.int ((pre.length + a.length : Nat) : Int))) w))) := by
    have := end_ok h P hf
    unfold pd
    simp only [stpA, Nat.reduceSub, this]
    rfl
  have e2 : gSet 6 (fSl (fVar 0) (oSome (fVar 4)) (oSome (fVar 5))) (pd x ps d wt pre.length (some (.int ((pre.length + a.length : Nat) : Int))) w) = some (.ok (.nx (pd x ps d wt pre.length (some (.int ((pre.length + a.length : Nat) : Int))) (some (.str (St a)))))) := by
    have := sl_ok (fa := fVar 0) (fl := oSome (fVar 4)) (fh := oSome (fVar 5)) (δ := pd x ps d wt pre.length (some (.int ((pre.length + a.length : Nat) : Int))) w) rfl rfl rfl h.cut
    rw [e_set, this]
    rfl
  rw [seq_ok e1, seq_ok e2]
theorem ne_sp (a : List Nat) : gNe (.str (St a)) (.str " ") = some (.bl !(a == [32])) := by
  rw [lt_sp]
  show some (D.bl !(St a == St [32])) = _
  rw [st_beq]
theorem step_space {x : Str} {pre rest : List Nat} {ps : List (Str × Int)} {d : Int} {wt : Str} {e w : Option D} (h : At x pre (32 :: rest)) (hf : x.length < FUEL) :
    ∃ e' w', b2_pieces_of (pd x ps d wt pre.length e w) = some (.ok (.nx (pd x ps d wt (pre ++ [32]).length e' w'))) := by
  have P : Piece [32] rest := .sign rfl rfl
  refine ⟨some (.int ((pre.length + [32].length : Nat) : Int)), some (.str (St [32])), ?_⟩
  · unfold b2_pieces_of
    rw [head_piece (a := [32]) h P hf]
    have t : DL.t2 gNe (fVar 6) (fC (.str " ")) (pd x ps d wt pre.length (some (.int ((pre.length + [32].length : Nat) : Int))) (some (.str (St [32])))) = some (.ok false) := by
      unfold pd
      simp only [stpA, Nat.reduceSub, ne_sp]
      rfl
    rw [seq_ok (δ' := pd x ps d wt pre.length (some (.int ((pre.length + [32].length : Nat) : Int))) (some (.str (St [32])))) (by rw [if_ok t, if_neg (by decide)]; rfl)]
    unfold pd
    simp only [stpA, Nat.reduceSub, List.length_append]
    rfl
theorem step_tok {x : Str} {pre a rest : List Nat} {c : Nat} {ps : List (Str × Int)} {d : Int} {wt : Str} {e w : Option D} (h : At x pre ((c :: a) ++ rest)) (P : Piece (c :: a) rest) (hf : x.length < FUEL) (hs : (c :: a) ≠ [32]) (hm : m_may_stand [.str (S1 c), .str wt, .int d] = some (.ok (.bl true))) (hz : ps.length ≤ 100000) :
    ∃ e' w', b2_pieces_of (pd x ps d wt pre.length e w) = some (.ok (.nx (pd x (ps ++ [(St (c :: a), (pre.length : Int))]) (d + dby (c :: a)) (wby (c :: a)) (pre ++ (c :: a)).length e' w'))) := by
  refine ⟨some (.int ((pre.length + (c :: a).length : Nat) : Int)), some (.str (St (c :: a))), ?_⟩
  · unfold b2_pieces_of
    rw [head_piece h P hf]
    have hx : (St (c :: a)).length ≤ 50000 := by
      have := h.len
      rw [st_len]
      have hsm := h.small
      simp at this ⊢
      omega
    have ix : gIx (.str (St (c :: a))) (.int 0) = some (.str (S1 c)) := by
      show (if (St (c :: a)).length ≤ sizeLine then (atI (St (c :: a)).cps.toList 0).map fun c => D.str ⟨#[c]⟩ else none) = _
      rw [if_pos (by rw [sizeLine_eq]; omega)]
      unfold St
      simp
      rfl
    let δ1 := pd x ps d wt pre.length (some (.int ((pre.length + (c :: a).length : Nat) : Int))) (some (.str (St (c :: a))))
    have t : DL.t2 gNe (fVar 6) (fC (.str " ")) δ1 = some (.ok true) := by
      show DL.t2 gNe (fVar 6) (fC (.str " ")) (pd _ _ _ _ _ _ _) = _
      unfold pd
      simp only [stpA, Nat.reduceSub, ne_sp]
      rw [beq_eq_false_iff_ne.mpr hs]
      rfl
    have t0 : DL.tNot (tTru (fCall m_may_stand (fCons (f2 gIx (fVar 6) (fC (.int 0))) (fCons (fVar 3) (fCons (fVar 2) fNil))))) δ1 = some (.ok false) := by
      show DL.tNot _ (pd _ _ _ _ _ _ _) = _
      unfold pd
      simp only [stpA, Nat.reduceSub, ix, hm]
      rfl
    have t1 : gIf (DL.tNot (tTru (fCall m_may_stand (fCons (f2 gIx (fVar 6) (fC (.int 0))) (fCons (fVar 3) (fCons (fVar 2) fNil)))))) gNever gNx δ1 = some (.ok (.nx δ1)) := by
      rw [if_ok t0, if_neg (by decide)]; rfl
    let δ2 := pd x (ps ++ [(St (c :: a), (pre.length : Int))]) d wt pre.length (some (.int ((pre.length + (c :: a).length : Nat) : Int))) (some (.str (St (c :: a))))
    have t2' : gApp 1 (fL gTupD (fCons (fVar 6) (fCons (fVar 4) fNil))) δ1 = some (.ok (.nx δ2)) := by
      have := app1_ok (i := 1) (fa := fL gTupD (fCons (fVar 6) (fCons (fVar 4) fNil))) (δ := δ1) (ds := ps.map pcD) (d := pcD (St (c :: a), (pre.length : Int))) rfl rfl (by rw [List.length_map, sizeLine_eq]; omega)
      rw [this]
      show some (Except.ok (Out.nx (List.set (pd _ _ _ _ _ _ _) 1 _))) = some (.ok (.nx (pd _ _ _ _ _ _ _)))
      unfold pd
      rw [List.map_append]
      rfl
    let δ3 := pd x (ps ++ [(St (c :: a), (pre.length : Int))]) (d + dby (c :: a)) wt pre.length (some (.int ((pre.length + (c :: a).length : Nat) : Int))) (some (.str (St (c :: a))))
    have t3 : gAug 2 gAdd (fCall m_depth_by (fCons (fVar 6) fNil)) δ2 = some (.ok (.nx δ3)) := by
      show gAug _ _ _ (pd _ _ _ _ _ _ _) = some (.ok (.nx (pd _ _ _ _ _ _ _)))
      unfold pd
      simp only [stpA, Nat.reduceSub, depth_ok, DL.add_int]
      rfl
    let δ4 := pd x (ps ++ [(St (c :: a), (pre.length : Int))]) (d + dby (c :: a)) (wby (c :: a)) pre.length (some (.int ((pre.length + (c :: a).length : Nat) : Int))) (some (.str (St (c :: a))))
    have t4 : gSet 3 (fCall m_wanted_behind (fCons (fVar 6) fNil)) δ3 = some (.ok (.nx δ4)) := by
      show gSet _ _ (pd _ _ _ _ _ _ _) = some (.ok (.nx (pd _ _ _ _ _ _ _)))
      unfold pd
      simp only [stpA, Nat.reduceSub, wanted_ok]
      rfl
    rw [seq_ok (δ' := δ4) (by rw [if_ok t, if_pos rfl, seq_ok t1, seq_ok t2', seq_ok t3, t4])]
    show gSet 4 (fVar 5) (pd _ _ _ _ _ _ _) = some (.ok (.nx (pd _ _ _ _ _ _ _)))
    unfold pd
    rw [List.length_append]
    rfl
end
end MyLaw
namespace MyLaw
open PySem PySem.Spec L2 DL
noncomputable section
inductive Word : List Nat → Prop
  | zero : Word [48]
  | name {a : List Nat} : a ≠ [] → (∀ c ∈ a, isL c = true) → a.length ≤ 10 → Word a
  | num {a : List Nat} : a ≠ [] → (∀ c ∈ a, isG c = true) → a.head? ≠ some 48 → Word a
inductive Acc : List (List Nat) → Str → Nat → Prop
  | done : Acc [] "behind" 0
  | word {a : List Nat} {ts : List (List Nat)} {wt : Str} {d : Nat} : Word a → (wt == Str.ofString "behind") = false → Acc ts "behind" d → Acc (a :: ts) wt d
  | opn {ts : List (List Nat)} {wt : Str} {d : Nat} : (wt == Str.ofString "behind") = false → Acc ts "beginning" (d + 1) → Acc ([40] :: ts) wt d
  | cls {ts : List (List Nat)} {d : Nat} : Acc ts "behind" d → Acc ([41] :: ts) "behind" (d + 1)
  | neg {ts : List (List Nat)} {d : Nat} : Acc ts "factor" d → Acc ([45] :: ts) "beginning" d
  | bin {a : Nat} {ts : List (List Nat)} {d : Nat} : isSign (St [a]) = true → Acc ts "factor" d → Acc ([a] :: ts) "behind" d
noncomputable def render : List (Nat × List Nat) → Nat → List Nat
  | [], p => List.replicate p 32
  | (k, a) :: s, p => List.replicate k 32 ++ (a ++ render s p)
theorem sign_cases {a : Nat} (h : isSign (St [a]) = true) : a = 43 ∨ a = 45 ∨ a = 42 := by
  rw [sign_st] at h
  simp at h
  omega
theorem stop_of {q : Nat → Bool} (h32 : q 32 = false) (h41 : q 41 = false) (hs : q 43 = false ∧ q 45 = false ∧ q 42 = false) : ∀ (segs : List (Nat × List Nat)) (p d : Nat), Acc (segs.map (·.2)) "behind" d → Stop q (render segs p)
  | [], 0, _, _ => trivial
  | [], p + 1, _, _ => h32
  | (k + 1, a) :: s, p, _, _ => h32
  | (0, a) :: s, p, d, h => by
    rw [List.map_cons] at h
    generalize hw : (Str.ofString "behind") = wt at h
    show Stop q ([] ++ (a ++ render s p))
    rw [List.nil_append]
    cases h with
    | word _ hb _ => rw [← hw] at hb; exact absurd hb (by decide +kernel)
    | opn hb _ => rw [← hw] at hb; exact absurd hb (by decide +kernel)
    | cls _ => exact h41
    | neg _ => exact absurd hw (by decide +kernel)
    | bin hc _ =>
      rename_i c _
      show q c = false
      rcases sign_cases hc with rfl | rfl | rfl
      · exact hs.1
      · exact hs.2.1
      · exact hs.2.2
theorem t1_go {x : Str} {pre rest : List Nat} {c : Nat} {ps : List (Str × Int)} {d : Int} {wt : Str} {e w : Option D} (h : At x pre (c :: rest)) : t1_pieces_of (pd x ps d wt pre.length e w) = some (.ok true) := by
  unfold t1_pieces_of pd
  have hl := h.len
  rw [List.length_cons] at hl
  simp only [stpA, Nat.reduceSub, len_str h.small, lt_int, decide_eq_true (show ((pre.length : Nat) : Int) < (x.length : Nat) by omega)]
  rfl
theorem t1_end {x : Str} {pre : List Nat} {ps : List (Str × Int)} {d : Int} {wt : Str} {e w : Option D} (h : At x pre []) : t1_pieces_of (pd x ps d wt pre.length e w) = some (.ok false) := by
  unfold t1_pieces_of pd
  have hl := h.len
  rw [List.length_nil] at hl
  simp only [stpA, Nat.reduceSub, len_str h.small, lt_int, decide_eq_false (show ¬ ((pre.length : Nat) : Int) < (x.length : Nat) by omega)]
  rfl
theorem spaces_go {x : Str} {rest : List Nat} {ps : List (Str × Int)} {d : Int} {wt : Str} (hf : x.length < FUEL) : ∀ (k : Nat) (pre : List Nat) (m : Nat) (e w : Option D), At x pre (List.replicate k 32 ++ rest) →
    ∃ e' w', whileD t1_pieces_of b2_pieces_of (m + k) (pd x ps d wt pre.length e w) = whileD t1_pieces_of b2_pieces_of m (pd x ps d wt (pre ++ List.replicate k 32).length e' w') ∧ At x (pre ++ List.replicate k 32) rest
  | 0, pre, m, e, w, h => ⟨e, w, by simp, by simpa using h⟩
  | k + 1, pre, m, e, w, h => by
    rw [List.replicate_succ, List.cons_append] at h
    obtain ⟨e1, w1, q⟩ := step_space (ps := ps) (d := d) (wt := wt) (e := e) (w := w) h hf
    obtain ⟨e2, w2, q2, h2⟩ := spaces_go hf k (pre ++ [32]) m e1 w1 (At.step (a := [32]) h)
    refine ⟨e2, w2, ?_, ?_⟩
    · rw [← Nat.add_assoc, while_go (t1_go h) q, q2]
      congr 2
      simp
    · rw [List.replicate_succ]
      simpa using h2
theorem tok_go {x : Str} {pre a rest : List Nat} {c : Nat} {ps : List (Str × Int)} {d : Int} {wt : Str} {e w : Option D} {m : Nat} (h : At x pre ((c :: a) ++ rest)) (P : Piece (c :: a) rest) (hf : x.length < FUEL) (hs : (c :: a) ≠ [32]) (hm : m_may_stand [.str (S1 c), .str wt, .int d] = some (.ok (.bl true))) (hz : ps.length ≤ 100000) :
    ∃ e' w', whileD t1_pieces_of b2_pieces_of (m + 1) (pd x ps d wt pre.length e w) = whileD t1_pieces_of b2_pieces_of m (pd x (ps ++ [(St (c :: a), (pre.length : Int))]) (d + dby (c :: a)) (wby (c :: a)) (pre ++ (c :: a)).length e' w') ∧ At x (pre ++ (c :: a)) rest := by
  obtain ⟨e', w', q⟩ := step_tok (e := e) (w := w) h P hf hs hm hz
  exact ⟨e', w', while_go (t1_go (rest := a ++ rest) h) q, h.step⟩
theorem word_facts {a : List Nat} (h : Word a) : dby a = 0 ∧ wby a = "behind" ∧ a ≠ [32] ∧ ∃ c a', a = c :: a' ∧ c ≠ 45 ∧ (isL c = true ∨ isG c = true) := by
  have key : ∃ c a', a = c :: a' ∧ (isL c = true ∨ isG c = true) := by
    cases h with
    | zero => exact ⟨48, [], rfl, .inr rfl⟩
    | name h1 h2 _ => cases a with
      | nil => exact absurd rfl h1
      | cons c a' => exact ⟨c, a', rfl, .inl (h2 c List.mem_cons_self)⟩
    | num h1 h2 _ => cases a with
      | nil => exact absurd rfl h1
      | cons c a' => exact ⟨c, a', rfl, .inr (h2 c List.mem_cons_self)⟩
  obtain ⟨c, a', rfl, hc⟩ := key
  have ne : ∀ k, isL k = false → isG k = false → c ≠ k := fun k h1 h2 z => by subst z; rw [h1, h2] at hc; simp at hc
  have n1 := ne 40 rfl rfl
  have n2 := ne 41 rfl rfl
  have n3 := ne 32 rfl rfl
  have n4 := ne 45 rfl rfl
  have n5 := ne 43 rfl rfl
  have n6 := ne 42 rfl rfl
  have s : isSign (St (c :: a')) = false := by
    rw [sign_st]
    simp
    refine ⟨fun z => absurd z.symm n5, fun z => absurd z.symm n4, fun z => absurd z.symm n6⟩
  refine ⟨?_, ?_, by simp [n3], c, a', rfl, n4, hc⟩
  · unfold dby
    rw [if_neg (by simp [n1]), if_neg (by simp [n2])]
  · unfold wby
    rw [if_neg (by simp [n1]), s, if_neg (by decide)]
theorem word_piece {a rest : List Nat} (h : Word a) (h1 : Stop isL rest) (h2 : Stop isG rest) : Piece a rest := by
  cases h with
  | zero => exact .zero
  | name q1 q2 q3 => exact .name q1 q2 q3 h1
  | num q1 q2 q3 => exact .num q1 q2 q3 h2
theorem d40 : dby [40] = 1 := rfl
theorem d41 : dby [41] = -1 := rfl
theorem w40 : wby [40] = "beginning" := rfl
theorem w41 : wby [41] = "behind" := by unfold wby; rw [if_neg (by decide), sign_st]; rfl
theorem dsg {a : Nat} (h : isSign (St [a]) = true) : dby [a] = 0 ∧ wby [a] = "factor" := by
  unfold wby
  rw [h]
  rcases sign_cases h with rfl | rfl | rfl <;> exact ⟨rfl, rfl⟩
theorem loop_pieces {x : Str} {p : Nat} (hf : x.length < FUEL) : ∀ (segs : List (Nat × List Nat)) (pre : List Nat) (ps : List (Str × Int)) (d : Nat) (wt : Str) (e w : Option D) (m : Nat), At x pre (render segs p) → Acc (segs.map (·.2)) wt d → (render segs p).length < m → ps.length + segs.length ≤ 100000 →
    ∃ ps' e' w' pl, whileD t1_pieces_of b2_pieces_of m (pd x ps d wt pre.length e w) = some (.ok (.nx (pd x ps' (0 : Nat) "behind" pl e' w'))) ∧ ps'.map (·.1) = ps.map (·.1) ++ segs.map (fun q => St q.2) := by
  intro segs
  induction segs with
  | nil =>
    intro pre ps d wt e w m h A hm hz
    have hmm : ∃ j, m = j + 1 + p := ⟨m - 1 - p, by simp [render] at hm; omega⟩
    obtain ⟨j, rfl⟩ := hmm
    have h0 : At x pre (List.replicate p 32 ++ []) := by rw [List.append_nil]; exact h
    obtain ⟨e', w', q, h2⟩ := spaces_go (ps := ps) (d := (d : Int)) (wt := wt) hf p pre (j + 1) e w h0
    rw [List.map_nil] at A
    cases A with
    | done =>
      refine ⟨ps, e', w', (pre ++ List.replicate p 32).length, ?_, by simp⟩
      rw [q, while_end (t1_end h2)]
  | cons sg segs ih =>
    intro pre ps d wt e w m h A hm hz
    obtain ⟨k, a⟩ := sg
    rw [List.map_cons] at A
    have hr : (render ((k, a) :: segs) p).length = k + (a.length + (render segs p).length) := by rw [show render ((k, a) :: segs) p = List.replicate k 32 ++ (a ++ render segs p) from rfl]; simp
    rw [hr] at hm
    rw [List.length_cons] at hz
    have ha : a ≠ [] := by
      dsimp only at A
      intro z
      subst z
      cases A with
      | word hw _ _ => obtain ⟨_, _, _, c, a', z, _⟩ := word_facts hw; cases z
    have hal : 1 ≤ a.length := by cases a with | nil => exact absurd rfl ha | cons _ _ => simp
    obtain ⟨j, rfl⟩ : ∃ j, m = j + 1 + k := ⟨m - 1 - k, by omega⟩
    obtain ⟨e1, w1, q1, h1⟩ := spaces_go (ps := ps) (d := (d : Int)) (wt := wt) hf k pre (j + 1) e w h
    rw [q1]
    have fin : ∀ (c : Nat) (a' : List Nat) (d' : Nat) (wt' : Str), a = c :: a' → Piece (c :: a') (render segs p) → (c :: a') ≠ [32] → m_may_stand [.str (S1 c), .str wt, .int d] = some (.ok (.bl true)) → (d : Int) + dby (c :: a') = (d' : Nat) → wby (c :: a') = wt' → Acc (segs.map (·.2)) wt' d' →
        ∃ ps' e' w' pl, whileD t1_pieces_of b2_pieces_of (j + 1) (pd x ps d wt (pre ++ List.replicate k 32).length e1 w1) = some (.ok (.nx (pd x ps' (0 : Nat) "behind" pl e' w'))) ∧ ps'.map (·.1) = ps.map (·.1) ++ ((k, a) :: segs).map (fun q => St q.2) := by
      rintro c a' d' wt' rfl P hs hm' hd hw A'
      obtain ⟨e2, w2, q2, h2⟩ := tok_go (ps := ps) (m := j) (e := e1) (w := w1) h1 P hf hs hm' (by omega)
      rw [q2, hd, hw]
      obtain ⟨ps', e', w', pl, q3, q4⟩ := ih _ (ps ++ [(St (c :: a'), ((pre ++ List.replicate k 32).length : Int))]) d' wt' e2 w2 j h2 A' (by omega) (by rw [List.length_append, List.length_singleton]; omega)
      refine ⟨ps', e', w', pl, q3, ?_⟩
      rw [q4]
      simp
    cases A with
    | word hw hb A' =>
      obtain ⟨f1, f2, f3, c, a', rfl, f4, f5⟩ := word_facts hw
      exact fin c a' d "behind" rfl (word_piece hw (stop_of rfl rfl ⟨rfl, rfl, rfl⟩ segs p d A') (stop_of rfl rfl ⟨rfl, rfl, rfl⟩ segs p d A')) f3 (stand_fac hb f4 (.inr f5)) (by rw [f1, Int.add_zero]) f2 A'
    | opn hb A' => exact fin 40 [] (d + 1) "beginning" rfl (.sign rfl rfl) (by decide) (stand_fac hb (by decide) (.inl rfl)) (by rw [d40]; rfl) w40 A'
    | cls A' =>
      rename_i d'
      exact fin 41 [] d' "behind" rfl (.sign rfl rfl) (by decide) (stand_cls (by omega)) (by rw [d41]; omega) w41 A'
    | neg A' => exact fin 45 [] d "factor" rfl (.sign rfl rfl) (by decide) stand_neg (by rw [(dsg (by decide +kernel)).1, Int.add_zero]) (dsg (by decide +kernel)).2 A'
    | bin hc A' =>
      rename_i c
      have hl : isL c = false ∧ isG c = false ∧ c ≠ 32 := by rcases sign_cases hc with rfl | rfl | rfl <;> exact ⟨rfl, rfl, by decide⟩
      exact fin c [] d "factor" rfl (.sign hl.1 hl.2.1) (by simp [hl.2.2]) (stand_sign hc) (by rw [(dsg hc).1, Int.add_zero]) (dsg hc).2 A'
theorem pieces_ok {x : Str} {segs : List (Nat × List Nat)} {p : Nat} (hx : x.cps.toList = render segs p) (hs : x.length ≤ 50000) (A : Acc (segs.map (·.2)) "beginning" 0) (hz : segs.length ≤ 100000) :
    ∃ ps : List (Str × Int), m_pieces_of [.str x] = some (.ok (.lst (ps.map pcD))) ∧ ps.map (·.1) = segs.map fun q => St q.2 := by
  have hf : x.length < FUEL := by rw [FUEL_eq]; exact Nat.lt_of_le_of_lt (by assumption) (by decide)
  have hl : (render segs p).length = x.length := by rw [← hx]; simp [Str.length]
  obtain ⟨ps, e, w, pl, q, hp⟩ := loop_pieces hf segs [] [] 0 "beginning" none none FUEL ⟨hx, hs⟩ A (by omega) (by simp; assumption)
  refine ⟨ps, ?_, by simpa using hp⟩
  unfold m_pieces_of
  rw [e_mir1]
  unfold g_pieces_of
  have e1 : gSet 1 (fL gLstD fNil) [some (.str x), none, none, none, none, none, none] = some (.ok (.nx [some (.str x), some (.lst []), none, none, none, none, none])) := rfl
  have e2 : gSet 2 (fC (.int 0)) [some (.str x), some (.lst []), none, none, none, none, none] = some (.ok (.nx [some (.str x), some (.lst []), some (.int 0), none, none, none, none])) := rfl
  have e3 : gSet 3 (fC (.str "beginning")) [some (.str x), some (.lst []), some (.int 0), none, none, none, none] = some (.ok (.nx [some (.str x), some (.lst []), some (.int 0), some (.str "beginning"), none, none, none])) := rfl
  have e4 : gSet 4 (fC (.int 0)) [some (.str x), some (.lst []), some (.int 0), some (.str "beginning"), none, none, none] = some (.ok (.nx (pd x [] (0 : Nat) "beginning" ([] : List Nat).length none none))) := rfl
  have t : DL.tOr (DL.t2 gNe (fVar 3) (fC (.str "behind"))) (DL.t2 gGt (fVar 2) (fC (.int 0))) (pd x ps (0 : Nat) "behind" pl e w) = some (.ok false) := by
    unfold pd
    have : gNe (.str "behind") (.str "behind") = some (.bl false) := rfl
    simp only [stpA, Nat.reduceSub, this, gt_int]
    rfl
  have e5 : gIf (DL.tOr (DL.t2 gNe (fVar 3) (fC (.str "behind"))) (DL.t2 gGt (fVar 2) (fC (.int 0)))) gNever gNx (pd x ps (0 : Nat) "behind" pl e w) = some (.ok (.nx (pd x ps (0 : Nat) "behind" pl e w))) := by
    rw [if_ok t, if_neg (by decide)]; rfl
  show (gSeq _ _ [some (.str x), none, none, none, none, none, none]).b outD = _
  rw [seq_ok e1, seq_ok e2, seq_ok e3, seq_ok e4, seq_ok q, seq_ok e5]
  unfold pd
  simp only [stpA, Nat.reduceSub]
  rfl
end
end MyLaw
namespace MyLaw
open PySem PySem.Spec L2 DL PySem.NumText
noncomputable section
theorem slice_none (x : Str) (u : Option Int) : Txt.slice x none u = Txt.slice x (some 0) u := by
  unfold Txt.slice
  have : Builtin.Str.strSliceIndices none u 1 x.length = Builtin.Str.strSliceIndices (some 0) u 1 x.length := by
    unfold Builtin.Str.strSliceIndices sliceRange
    have z : max 0 (min 0 (x.length : Int)) = 0 := by omega
    cases u <;> simp [z]
  rw [this]
theorem dv_fold (b : List Nat) : ∀ (m : Nat), b.foldl (fun acc c => acc * 10 + (c - 48)) m = m * 10 ^ b.length + b.foldl (fun acc c => acc * 10 + (c - 48)) 0 := by
  induction b with
  | nil => intro m; simp
  | cons c b ih =>
    intro m
    rw [List.foldl_cons, List.foldl_cons, ih, ih (0 * 10 + (c - 48)), List.length_cons, Nat.pow_succ]
    rw [Nat.add_mul, Nat.zero_mul, Nat.zero_add, Nat.mul_assoc, Nat.mul_comm 10 (10 ^ b.length)]
    omega
theorem dv_append (a b : List Nat) : digitsVal (a ++ b) = digitsVal a * 10 ^ b.length + digitsVal b := by
  unfold digitsVal
  rw [List.foldl_append, dv_fold]
theorem dv_lt' : ∀ (b : List Nat) (m : Nat), AllDigits b → b.foldl (fun acc c => acc * 10 + (c - 48)) m < (m + 1) * 10 ^ b.length
  | [], m, _ => by simp
  | c :: b, m, h => by
    have h2 := h.head
    have := dv_lt' b (m * 10 + (c - 48)) h.tail
    rw [List.foldl_cons, List.length_cons, Nat.pow_succ]
    refine Nat.lt_of_lt_of_le this ?_
    rw [Nat.mul_comm (10 ^ b.length) 10, ← Nat.mul_assoc]
    exact Nat.mul_le_mul_right _ (by omega)
theorem dv_lt {a : List Nat} (h : AllDigits a) : digitsVal a < 10 ^ a.length := by
  have := dv_lt' a 0 h
  rwa [Nat.zero_add, Nat.one_mul] at this
theorem all_of {a : List Nat} (h : ∀ c ∈ a, isG c = true) : AllDigits a := fun c hc => by
  have := h c hc
  unfold isG at this
  simpa using this
theorem int_ok {a : List Nat} (h : AllDigits a) (h1 : a ≠ []) (h2 : a.length ≤ 640) : kIntT [.str (St a)] = some (.int (digitsVal a : Nat)) := by
  have hl := st_len a
  have e : (St a).cps.toList = a := by simp [St]
  show (if (St a).length ≤ 640 then (intText? (St a)).map D.int else none) = _
  rw [if_pos (by omega), intText_digits (x := St a) (by rw [e]; exact h) (by rw [e]; exact h1) (by omega), e]
  rfl
theorem bt_pow {a : List Nat} (h : AllDigits a) (hl : a.length ≤ 60) : Bt 200 ((digitsVal a : Nat) : Int) := by
  unfold Bt
  have h1 := dv_lt h
  have h2 : 10 ^ a.length ≤ 10 ^ 60 := Nat.pow_le_pow_right (by decide) hl
  have h3 : (10 : Nat) ^ 60 < 2 ^ 200 := by decide
  rw [Int.natAbs_natCast]
  omega
theorem figures_ok {a : List Nat} (h : AllDigits a) (h1 : a ≠ []) (hl : a.length ≤ 40) : m_number_of_figures [.str (St a)] = some (.ok (.int (digitsVal a : Nat))) := by
  let f := a.length % 18
  let k := a.length / 18
  have hfk : f + 18 * k = a.length := Nat.mod_add_div _ _
  have hz : (St a).length ≤ 50000 := by rw [st_len]; exact Nat.le_trans hl (by decide)
  have hf : f < 18 := Nat.mod_lt _ (by decide)
  have hlen : kLen [.str (St a)] = some (.int (a.length : Nat)) := by rw [len_str hz, st_len]
  have cut : ∀ (i n : Nat), i + n ≤ a.length → cutD (.str (St a)) (some (i : Nat)) (some ((i + n : Nat) : Int)) = some (.str (St ((a.drop i).take n))) := fun i n hin => by
    have e : a = a.take i ++ ((a.drop i).take n ++ (a.drop i).drop n) := by rw [List.take_append_drop, List.take_append_drop]
    have A : At (St a) (a.take i) ((a.drop i).take n ++ (a.drop i).drop n) := ⟨by show (St a).cps.toList = _; rw [← e]; simp [St], hz⟩
    have := A.cut
    have l1 : (a.take i).length = i := List.length_take_of_le (Nat.le_trans (Nat.le_add_right i n) hin)
    have l2 : ((a.drop i).take n).length = n := List.length_take_of_le (by rw [List.length_drop]; exact Nat.le_sub_of_add_le (by rw [Nat.add_comm]; exact hin))
    rw [l1, l2] at this
    exact this
  have dig : ∀ (i n : Nat), AllDigits ((a.drop i).take n) := fun i n c hc => h c (List.mem_of_mem_drop (List.mem_of_mem_take hc))
  let δ0 (n : Nat) (z : Option D) : DSt := [some (.str (St a)), some (.int (f : Nat)), some (.int (n : Nat)), z]
  have e1 : gSet 1 (f2 gMod (fL kLen (fCons (fVar 0) fNil)) (fC (.int 18))) [some (.str (St a)), none, none, none] = some (.ok (.nx [some (.str (St a)), some (.int (f : Nat)), none, none])) := by
    simp only [stpA, Nat.reduceSub, hlen, mod_int (i := ((a.length : Nat) : Int)) (j := 18) (by decide)]
    rfl
  have e2 : gSet 2 (fIf (DL.t2 gEq (fVar 1) (fC (.int 0))) (fC (.int 0)) (fL kIntT (fCons (fSl (fVar 0) oNone (oSome (fVar 1))) fNil))) [some (.str (St a)), some (.int (f : Nat)), none, none] = some (.ok (.nx (δ0 (digitsVal (a.take f)) none))) := by
    by_cases q : f = 0
    · have q' : (((f : Nat) : Int) == 0) = true := by rw [q]; rfl
      have z : digitsVal (a.take f) = 0 := by rw [q]; rfl
      simp only [stpA, Nat.reduceSub, q', z]
      rfl
    · have q' : (((f : Nat) : Int) == 0) = false := beq_eq_false_iff_ne.mpr fun z => q (Int.ofNat.inj z)
      have c : cutD (.str (St a)) none (some (f : Nat)) = some (.str (St (a.take f))) := by
        have := cut 0 f (by rw [Nat.zero_add]; exact Nat.mod_le _ _)
        rw [Nat.zero_add, List.drop_zero] at this
        rw [← this]
        show (if _ then some (D.str (Txt.slice _ none _)) else none) = (if _ then some (D.str (Txt.slice _ (some 0) _)) else none)
        rw [slice_none]
      have s : fSl (fVar 0) oNone (oSome (fVar 1)) [some (.str (St a)), some (.int (f : Nat)), none, none] = M.p (.str (St (a.take f))) := sl_ok rfl rfl rfl c
      have i := int_ok (a := a.take f) (fun c hc => h c (List.mem_of_mem_take hc)) (fun z => by have := congrArg List.length z; rw [List.length_take_of_le (Nat.mod_le _ _)] at this; exact q this) (Nat.le_trans (List.length_take_le _ _) (Nat.le_trans (Nat.le_of_lt hf) (by decide)))
      simp only [stpA, Nat.reduceSub, q', s, i]
      rfl
  have rg : rangeArgs3 [.int (f : Nat), .int (a.length : Nat), .int 18] = some (rangeStep (f : Nat) 18 k) := by
    show (if (0 : Int) < 18 ∧ (18 : Int) < 2 ^ 60 then some (rangeStep _ 18 (Builtin.Range.rangeSize ((f : Nat) : Int) (a.length : Nat) 18).toNat) else none) = _
    rw [if_pos (by decide)]
    have : (Builtin.Range.rangeSize ((f : Nat) : Int) (a.length : Nat) 18).toNat = k := by
      unfold Builtin.Range.rangeSize
      rw [if_pos (by decide)]
      by_cases q : f < a.length
      · rw [if_pos (by omega)]; omega
      · rw [if_neg (by omega)]; omega
    rw [this]
  obtain ⟨δ', e3, hd⟩ := for_nth (g := b1_number_of_figures) (tg := DL.gName 3) (rangeStep (f : Nat) 18 k) (fun j δ => ∃ z, δ = δ0 (digitsVal (a.take (f + 18 * j))) z) (fun j hj δ ⟨z, hz⟩ => by
    subst hz
    have hjk : j < k := by simpa [rangeStep] using hj
    have hg : (rangeStep (f : Nat) 18 k)[j] = .int ((f + 18 * j : Nat) : Int) := by simp [rangeStep]; omega
    refine ⟨δ0 (digitsVal (a.take (f + 18 * j))) (some (.int ((f + 18 * j : Nat) : Int))), by rw [hg]; rfl, δ0 (digitsVal (a.take (f + 18 * (j + 1)))) (some (.int ((f + 18 * j : Nat) : Int))), .inl ?_, _, rfl⟩
    have hle : f + 18 * j + 18 ≤ a.length := by rw [← hfk, Nat.add_assoc]; exact Nat.add_le_add_left (Nat.mul_le_mul_left 18 hjk) f
    have c := cut (f + 18 * j) 18 hle
    have s : fSl (fVar 0) (oSome (fVar 3)) (oSome (f2 gCat (fVar 3) (fC (.int 18)))) (δ0 (digitsVal (a.take (f + 18 * j))) (some (.int ((f + 18 * j : Nat) : Int)))) = M.p (.str (St ((a.drop (f + 18 * j)).take 18))) := sl_ok rfl rfl rfl c
    have l2 : ((a.drop (f + 18 * j)).take 18).length = 18 := List.length_take_of_le (by rw [List.length_drop]; exact Nat.le_sub_of_add_le (by rw [Nat.add_comm]; exact hle))
    have i := int_ok (dig (f + 18 * j) 18) (fun z => by rw [z] at l2; cases l2) (by rw [l2]; decide)
    have m := mulT_bt (i := ((digitsVal (a.take (f + 18 * j)) : Nat) : Int)) (j := 1000000000000000000) (a := 200) (b := 60) (bt_pow (fun c hc => h c (List.mem_of_mem_take hc)) (Nat.le_trans (List.length_take_le' _ _) (Nat.le_trans hl (by decide)))) (by unfold Bt; decide)
    have v : digitsVal (a.take (f + 18 * (j + 1))) = digitsVal (a.take (f + 18 * j)) * 1000000000000000000 + digitsVal ((a.drop (f + 18 * j)).take 18) := by
      have : a.take (f + 18 * (j + 1)) = a.take (f + 18 * j) ++ (a.drop (f + 18 * j)).take 18 := by rw [show f + 18 * (j + 1) = (f + 18 * j) + 18 from rfl, List.take_add]
      rw [this, dv_append, l2]
    rw [v]
    show gSet 2 (f2 gCat (f2 gMulT (fVar 2) (fC (.int 1000000000000000000))) (fL kIntT (fCons (fSl (fVar 0) (oSome (fVar 3)) (oSome (f2 gCat (fVar 3) (fC (.int 18))))) fNil))) (δ0 _ _) = _
    rw [e_set, e_2, e_2, e_L, e_cons, s]
    show ((M.o (gMulT (D.int ((digitsVal (a.take (f + 18 * j)) : Nat) : Int)) (D.int 1000000000000000000))).b fun x => ((M.o (kIntT [D.str (St ((a.drop (f + 18 * j)).take 18))])).b fun y => M.o (gCat x y))).b _ = _
    rw [m, i]
    simp only [stpA, Nat.reduceSub]
    show some (Except.ok (Out.nx [_, _, some (D.int _), _])) = some (Except.ok (Out.nx [_, _, some (D.int _), _]))
    rw [show ((digitsVal (a.take (f + 18 * j)) * 1000000000000000000 + digitsVal ((a.drop (f + 18 * j)).take 18) : Nat) : Int) = ((digitsVal (a.take (f + 18 * j)) : Nat) : Int) * 1000000000000000000 + ((digitsVal ((a.drop (f + 18 * j)).take 18) : Nat) : Int) by omega]) (δ0 (digitsVal (a.take f)) none) ⟨none, rfl⟩
  obtain ⟨z, rfl⟩ := hd
  have hk : (rangeStep (f : Nat) 18 k).length = k := by simp [rangeStep]
  have all : a.take (f + 18 * (rangeStep (f : Nat) 18 k).length) = a := by rw [hk, hfk, List.take_length]
  rw [all] at e3
  have e4 : gFor (iArgs rangeArgs3 (fCons (fVar 1) (fCons (fL kLen (fCons (fVar 0) fNil)) (fCons (fC (.int 18)) fNil)))) (DL.gName 3) b1_number_of_figures (δ0 (digitsVal (a.take f)) none) = some (.ok (.nx (δ0 (digitsVal a) z))) := by
    show gFor _ _ _ [some (.str (St a)), some (.int (f : Nat)), some (.int (digitsVal (a.take f) : Nat)), none] = _
    simp only [stpA, Nat.reduceSub, hlen, rg]
    exact e3
  unfold m_number_of_figures
  rw [e_mir1]
  show (g_number_of_figures [some (.str (St a)), none, none, none]).b outD = _
  unfold g_number_of_figures
  rw [seq_ok e1, seq_ok e2, seq_ok e4]
  rfl
theorem starts_no {c : Nat} {a : List Nat} (h : c ≠ 45) : Txt.startswith (St (c :: a)) (Str.ofString "-") = false := by
  rw [lt_mi]
  unfold Txt.startswith Builtin.Str.subAt St
  simp
  intro _
  show ¬ List.take 1 (c :: a) = [45]
  simp
  exact h
theorem number_ok {a : List Nat} (h : AllDigits a) (h1 : a ≠ []) (hl : a.length ≤ 40) : m_number_of [.str (St a)] = some (.ok (.int (digitsVal a : Nat))) := by
  obtain ⟨c, a', rfl⟩ : ∃ c a', a = c :: a' := by cases a with | nil => exact absurd rfl h1 | cons c a' => exact ⟨c, a', rfl⟩
  have hc := h.head
  have s := starts_no (c := c) (a := a') (by omega)
  have t : tTru (fSm gStarts (fVar 0) (fC (.str "-"))) [some (.str (St (c :: a')))] = some (.ok false) := by
    have : fSm gStarts (fVar 0) (fC (.str "-")) [some (.str (St (c :: a')))] = M.p (.bl (Txt.startswith (St (c :: a')) (Str.ofString "-"))) := rfl
    rw [e_tru, this, s]
    rfl
  unfold m_number_of
  rw [e_mir1]
  show (g_number_of [some (.str (St (c :: a')))]).b outD = _
  unfold g_number_of
  rw [seq_ok (δ' := [some (.str (St (c :: a')))]) (by rw [if_ok t, if_neg (by decide)]; rfl)]
  simp only [stpA, Nat.reduceSub, figures_ok h h1 hl]
  rfl
noncomputable def nmD (names : List (List Nat)) : List D := names.map fun a => .str (St a)
noncomputable def frmW (names : List (List Nat)) (a : List Nat) : Fm := match a with
  | [] => ([], 0)
  | c :: r => if isL c = true then (names.map fun b => if b = c :: r then 1 else 0, 0) else (List.replicate names.length 0, (digitsVal (c :: r) : Nat))
theorem ix0 {c : Nat} {a : List Nat} (h : a.length ≤ 40000) : gIx (.str (St (c :: a))) (.int 0) = some (.str (S1 c)) := by
  show (if (St (c :: a)).length ≤ sizeLine then (atI (St (c :: a)).cps.toList 0).map fun c => D.str ⟨#[c]⟩ else none) = _
  rw [if_pos (by rw [sizeLine_eq, st_len, List.length_cons]; omega)]
  unfold St
  simp
  rfl
theorem form_ok {names : List (List Nat)} {a : List Nat} (hn : names.length ≤ 1000) (h : Word a) (hl : a.length ≤ 40) : m_form_of_word [.lst (nmD names), .str (St a)] = some (.ok (fm (frmW names a))) := by
  obtain ⟨_, _, _, c, a', rfl, _, hc⟩ := word_facts h
  have t : tTru (fCall m_is_letter (fCons (f2 gIx (fVar 1) (fC (.int 0))) fNil)) [some (.lst (nmD names)), some (.str (St (c :: a')))] = some (.ok (isL c)) := by
    simp only [stpA, Nat.reduceSub, ix0 (c := c) (a := a') (by simp at hl; omega), letter_ok]
    rfl
  unfold m_form_of_word
  rw [e_mir2]
  show (g_form_of_word [some (.lst (nmD names)), some (.str (St (c :: a')))]).b outD = _
  unfold g_form_of_word frmW
  by_cases q : isL c = true
  · rw [q] at t
    rw [e_seq, if_ok t, if_pos rfl]
    have e := comp_map1 (c := [some (.str (St (c :: a')))]) (fe := c1_form_of_word) (K := fun b : List Nat => D.str (St b)) (F := fun b => .int (if b = c :: a' then 1 else 0)) names none (fun b hb => by
      unfold c1_form_of_word
      simp only [stpA, Nat.reduceSub, eq_str, st_beq]
      by_cases z : b = c :: a'
      · rw [beq_iff_eq.mpr z, if_pos z]; rfl
      · rw [beq_eq_false_iff_ne.mpr z, if_neg z]; rfl)
    have e' : compD (DL.gName 0) tYes c1_form_of_word (nmD names) [none, some (.str (St (c :: a')))] = some (names.map fun b => .int (if b = c :: a' then 1 else 0)) := e
    simp only [stpA, Nat.reduceSub, e', lst_le (ds := names.map fun b => D.int (if b = c :: a' then 1 else 0)) (by rw [List.length_map]; exact hn), if_pos q]
    unfold fm
    rw [List.map_map]
    rfl
  · have q' : isL c = false := by simpa using q
    rw [q'] at t
    have hg : AllDigits (c :: a') ∧ (c :: a') ≠ [] := by
      cases h with
      | zero => exact ⟨fun d hd => by simp at hd; omega, by simp⟩
      | name _ h2 _ => rw [h2 c List.mem_cons_self] at q'; cases q'
      | num _ h2 _ => exact ⟨all_of h2, by simp⟩
    rw [seq_ok (δ' := [some (.lst (nmD names)), some (.str (St (c :: a')))]) (by rw [if_ok t, if_neg (by decide)]; rfl)]
    have ln : (nmD names).length = names.length := by simp [nmD]
    have hr := e_rep (δ := [some (.lst (nmD names)), some (.str (St (c :: a')))]) (fl := fCons (fC (.int 0)) fNil) (fb := fL kLen (fCons (fVar 0) fNil)) (.int 0) names.length rfl (by simp only [stpA, Nat.reduceSub, len_l, ln]) hn
    simp only [stpA, Nat.reduceSub, hr, number_ok hg.1 hg.2 hl, if_neg q]
    unfold fm
    rw [List.map_replicate]
    rfl
end
end MyLaw
namespace MyLaw
open PySem PySem.Spec L2 DL PySem.NumText
noncomputable section
noncomputable def frmS (names : List (List Nat)) (w : Str) : Fm := frmW names w.cps.toList
theorem frmS_st (names : List (List Nat)) (a : List Nat) : frmS names (St a) = frmW names a := by unfold frmS St; simp
noncomputable abbrev WdN (names : List (List Nat)) : Str → Prop := Wd (.lst (nmD names)) (frmS names)
theorem wd_of {names : List (List Nat)} {a : List Nat} (hn : names.length ≤ 1000) (h : Word a) (hl : a.length ≤ 40) : WdN names (St a) := by
  obtain ⟨f1, f2, f3, c, a', rfl, f4, f5⟩ := word_facts h
  have ne : ∀ k, isL k = false → isG k = false → c ≠ k := fun k h1 h2 z => by subst z; rw [h1, h2] at f5; simp at f5
  have n1 := ne 40 rfl rfl
  have n2 := ne 41 rfl rfl
  have n5 := ne 43 rfl rfl
  have n6 := ne 42 rfl rfl
  refine ⟨?_, ?_, ?_, ?_⟩
  · rw [lt_op, st_beq]; exact beq_eq_false_iff_ne.mpr (by simp [n1])
  · rw [lt_cl, st_beq]; exact beq_eq_false_iff_ne.mpr (by simp [n2])
  · rw [sign_st]
    simp
    exact ⟨fun z => absurd z.symm n5, fun z => absurd z.symm f4, fun z => absurd z.symm n6⟩
  · rw [frmS_st]; exact form_ok hn h hl
theorem inD_mem (x : Str) : ∀ (names : List (List Nat)) (a : List Nat), x = St a → a ∈ names → inD (.str x) (nmD names) = true
  | [], _, _, h => (nomatch h)
  | b :: names, a, e, h => by
    have : inD (.str x) (nmD (b :: names)) = ((St b == x) || inD (.str x) (nmD names)) := rfl
    rw [this]
    rcases List.mem_cons.mp h with rfl | h
    · rw [e]; simp
    · rw [inD_mem x names a e h]; simp
theorem flat_names (names : List (List Nat)) : (nmD names).all flatD = true := by
  unfold nmD
  rw [List.all_map]
  exact List.all_eq_true.mpr fun _ _ => rfl
theorem check_ok {names : List (List Nat)} {c : Nat} {a : List Nat} {x pc p : Option D} (hl : a.length ≤ 40000) (h : isL c = true → (c :: a) ∈ names) : b1_read_sum [some (.lst (nmD names)), x, pc, some (.str (St (c :: a))), p] = some (.ok (.nx [some (.lst (nmD names)), x, pc, some (.str (St (c :: a))), p])) := by
  unfold b1_read_sum
  have t : DL.tAnd (tTru (fCall m_is_letter (fCons (f2 gIx (fVar 3) (fC (.int 0))) fNil))) (DL.t2 gNotIn (fVar 3) (fVar 0)) [some (.lst (nmD names)), x, pc, some (.str (St (c :: a))), p] = some (.ok false) := by
    cases q : isL c with
    | false => simp only [stpA, Nat.reduceSub, ix0 (c := c) (a := a) hl, letter_ok, q]; rfl
    | true =>
      have g : gNotIn (.str (St (c :: a))) (.lst (nmD names)) = some (.bl false) := by
        show (if (true && (nmD names).all flatD) = true then some (D.bl !(inD _ (nmD names))) else none) = _
        rw [flat_names, if_pos (by decide), inD_mem _ names _ rfl (h q)]
        rfl
      simp only [stpA, Nat.reduceSub, ix0 (c := c) (a := a) hl, letter_ok, q, g]
      rfl
  rw [if_ok t, if_neg (by decide)]
  rfl
theorem read_ok {names : List (List Nat)} {x : Str} {segs : List (Nat × List Nat)} {p : Nat} {f : Fm} (hn : names.length ≤ 1000) (hx : x.cps.toList = render segs p) (hs : x.length ≤ 50000) (A : Acc (segs.map (·.2)) "beginning" 0) (hz : segs.length ≤ 100000)
    (hw : ∀ q ∈ segs, ∃ c a, q.2 = c :: a ∧ (isL c = true → (c :: a) ∈ names) ∧ a.length ≤ 40000) (S : SumOk names.length (frmS names) (WdN names) (segs.map fun q => St q.2) f) (Ω : Sto) :
    ∃ Ω', m_read_sum [.lst (nmD names), .str x] Ω = some (.ok (fm f), Ω') := by
  obtain ⟨ps, e1, e2⟩ := pieces_ok hx hs A hz
  obtain ⟨o', R, w, l1, l2⟩ := S ps e2 []
  have hlen : ps.length = segs.length := by have := congrArg List.length e2; simpa using this
  obtain ⟨Ω', e3⟩ := reckoned_ok hn (by simp [nmD]) R l1 (by omega) Ω
  refine ⟨Ω', ?_⟩
  unfold m_read_sum
  rw [s_mir2]
  show ((g_read_sum [some (.lst (nmD names)), some (.str x), none, none, none]).b outE) Ω = _
  unfold g_read_sum
  have t1 : lF (gSet 2 (fCall m_pieces_of (fCons (fVar 1) fNil))) [some (.lst (nmD names)), some (.str x), none, none, none] Ω = some (.ok (.nx [some (.lst (nmD names)), some (.str x), some (.lst (ps.map pcD)), none, none]), Ω) := by
    have : gSet 2 (fCall m_pieces_of (fCons (fVar 1) fNil)) [some (.lst (nmD names)), some (.str x), none, none, none] = some (.ok (.nx [some (.lst (nmD names)), some (.str x), some (.lst (ps.map pcD)), none, none])) := by
      simp only [stpA, Nat.reduceSub, e1]
      rfl
    rw [s_lF, this, s_lok]
  obtain ⟨δ', t2', _, y, z, rfl⟩ := for_inv (g := b1_read_sum) (tg := gTup2 3 4) (fun rem δ => (∃ q, rem = q.map pcD ∧ ∀ u ∈ q, u ∈ ps) ∧ ∃ y z, δ = [some (.lst (nmD names)), some (.str x), some (.lst (ps.map pcD)), y, z]) (fun d ds δ ⟨⟨q, hq, hm⟩, y, z, hδ⟩ => by
    subst hδ
    cases q with
    | nil => cases hq
    | cons u q =>
      rw [List.map_cons] at hq
      obtain ⟨rfl, rfl⟩ := List.cons.inj hq
      have hu : u.1 ∈ segs.map fun q => St q.2 := by rw [← e2]; exact List.mem_map_of_mem (hm u List.mem_cons_self)
      obtain ⟨s, hs1, hs2⟩ := List.mem_map.mp hu
      obtain ⟨c, a, h1, h2, h3⟩ := hw s hs1
      refine ⟨[some (.lst (nmD names)), some (.str x), some (.lst (ps.map pcD)), some (.str u.1), some (.int u.2)], rfl, _, .inl ?_, ⟨q, rfl, fun v hv => hm v (List.mem_cons_of_mem _ hv)⟩, some (.str u.1), some (.int u.2), rfl⟩
      rw [← hs2, h1]
      exact check_ok h3 h2) (ps.map pcD) [some (.lst (nmD names)), some (.str x), some (.lst (ps.map pcD)), none, none] ⟨⟨ps, rfl, fun _ h => h⟩, none, none, rfl⟩
  have t3 : lF (gFor (iSeqD (fVar 2)) (gTup2 3 4) b1_read_sum) [some (.lst (nmD names)), some (.str x), some (.lst (ps.map pcD)), none, none] Ω = some (.ok (.nx [some (.lst (nmD names)), some (.str x), some (.lst (ps.map pcD)), y, z]), Ω) := by
    have : gFor (iSeqD (fVar 2)) (gTup2 3 4) b1_read_sum [some (.lst (nmD names)), some (.str x), some (.lst (ps.map pcD)), none, none] = some (.ok (.nx [some (.lst (nmD names)), some (.str x), some (.lst (ps.map pcD)), y, z])) := by
      simp only [stpA, Nat.reduceSub]
      exact t2'
    rw [s_lF, this, s_lok]
  rw [s_b, s_seq, s_b, t1, s_bok, seqS_nx, s_seq, s_b, t3, s_bok, seqS_nx]
  have l : lF (fCons (fVar 0) (fCons (fVar 2) fNil)) [some (.lst (nmD names)), some (.str x), some (.lst (ps.map pcD)), y, z] Ω = some (.ok [.lst (nmD names), .lst (ps.map pcD)], Ω) := rfl
  rw [s_ret, s_b, s_call, s_b, l, s_bok, e3, s_bok, s_p, s_bok, s_out_rt, s_p, w]
end
end MyLaw
namespace MyLaw
open PySem PySem.Spec L2 DL PySem.NumText
noncomputable section
noncomputable abbrev scr (ns : List Int) : D := .lst (ns.map .int)
theorem v_at (ns : List Int) (k : Int) (h0 : 0 ≤ k) (hk : k ≤ 1000) : ∃ i, m_law_at [scr ns, .int k] = some (.ok (.int i)) := by
  unfold m_law_at
  rw [e_mir2]
  unfold g_law_at
  obtain ⟨k, rfl⟩ := Int.eq_ofNat_of_zero_le h0
  by_cases h : k < ns.length
  · refine ⟨ns[k], ?_⟩
    have h2 : ((k : Int) < (ns.length : Int)) := by omega
    simp [h2, DL.atI_get (xs := ns.map D.int) (j := k) (v := .int ns[k]) (by simp [h]), M.p]
  · refine ⟨19 * (k : Int) + 8, ?_⟩
    have h2 : ¬ ((k : Int) < (ns.length : Int)) := by omega
    have e : gMulT (.int 19) (.int (k : Int)) = some (.int (19 * (k : Int))) := mulT_bt (a := 10) (b := 10) (by unfold Bt; decide) (by unfold Bt; omega)
    simp [h2, e, M.p]
noncomputable def atF (ns : List Int) (k : Int) : Int := getI (m_law_at [scr ns, .int k])
theorem w_at {ns : List Int} {k : Int} (h0 : 0 ≤ k) (hk : k ≤ 1000) : m_law_at [scr ns, .int k] = some (.ok (.int (atF ns k))) := let ⟨_, h⟩ := v_at ns k h0 hk; getI_of h
theorem p1012 : gPow (.int 10) (.int 12) = some (.int 1000000000000) := by rw [pow_int (by decide)]; rfl
theorem bt_of {k m : Nat} {n : Int} (h0 : 0 ≤ n) (h1 : n < (m : Int)) (h2 : m ≤ 2 ^ k) : Bt k n := by
  obtain ⟨j, rfl⟩ := Int.eq_ofNat_of_zero_le h0
  exact Nat.lt_of_lt_of_le (Int.ofNat_lt.mp h1) h2
theorem v_mix (n p : Int) (h0 : 0 ≤ p) (hp : p ≤ 1000) : ∃ r, m_law_mix [.int n, .int p] = some (.ok (.int r)) ∧ 0 ≤ r ∧ r < 2147483648 := by
  unfold m_law_mix
  rw [e_mir2]
  unfold g_law_mix
  by_cases h : 1000000000000 ≤ n
  · obtain ⟨δ', e, i⟩ := for_inv (g := b1_law_mix) (tg := DL.gName 2) (fun _ δ => ∃ a b, δ = [some (.int a), some (.int p), b, none])
      (fun d ds δ ⟨a, b, hd⟩ => by
        subst hd
        refine ⟨_, rfl, [some (.int (a / 2147483648)), some (.int p), some d, none], .inl ?_, _, _, rfl⟩
        simp [b1_law_mix, fdiv_int (i := a) (j := 2147483648) (by decide) (by decide), M.p])
      (rangeD 0 (p % 61).toNat) [some (.int (n / 1000000000000 - 1)), some (.int p), none, none] ⟨_, _, rfl⟩
    obtain ⟨a, b, rfl⟩ := i
    refine ⟨a % 2147483648, ?_, Int.emod_nonneg _ (by decide), Int.emod_lt_of_pos _ (by decide)⟩
    have e' : forD b1_law_mix (DL.gName 2) (rangeD 0 (p % 61).toNat) [some (.int (n / 1000000000000 - 1)), some (.int p), none, none] = M.p (.nx [some (.int a), some (.int p), b, none]) := e
    simp [p1012, h, fdiv_int (i := n) (j := 1000000000000) (by decide) (by decide), mod_int (i := p) (j := 61) (by decide), mod_int (i := a) (j := 2147483648) (by decide), e', List.replicate]
    rfl
  · have h1 := Int.emod_nonneg n (show (2147483629 : Int) ≠ 0 by decide)
    have h2 := Int.emod_lt_of_pos n (show (0 : Int) < 2147483629 by decide)
    have bp : Bt 10 p := bt_of (m := 1001) h0 (Int.lt_add_one_of_le hp) (by decide)
    have a1 : gMulT (.int 8) (.int p) = some (.int (8 * p)) := mulT_bt (a := 4) (b := 10) (by unfold Bt; decide) bp
    have b2 : Bt 14 (8 * p) := Bt.mul (a := 4) (by unfold Bt; decide) bp
    have a2 : gMulT (.int (8 * p)) (.int p) = some (.int (8 * p * p)) := mulT_bt b2 bp
    have b3 : Bt 33 (n % 2147483629 + p + 1) := ((Bt.add (a := 31) (bt_of (m := 2147483629) h1 h2 (by decide)) (bp.mono (by decide))).add (show Bt 32 1 by unfold Bt; decide)).mono (by decide)
    have b4 : Bt 31 (8 * p * p + 48271) := (((b2.mul bp).mono (by decide)).add (show Bt 30 48271 by unfold Bt; decide)).mono (by decide)
    have a3 : gMulT (.int (n % 2147483629 + p + 1)) (.int (8 * p * p + 48271)) = some (.int ((n % 2147483629 + p + 1) * (8 * p * p + 48271))) := mulT_bt b3 b4
    generalize hx : (n % 2147483629 + p + 1) * (8 * p * p + 48271) % 2147483647 = x
    have x1 : 0 ≤ x := by rw [← hx]; exact Int.emod_nonneg _ (by decide)
    have x2 : x < 2147483647 := by rw [← hx]; exact Int.emod_lt_of_pos _ (by decide)
    have bx : Bt 32 x := bt_of (m := 2147483647) x1 x2 (by decide)
    have a4 : gMulT (.int x) (.int x) = some (.int (x * x)) := mulT_bt bx bx
    generalize hy : x * x % 2147483587 = y
    have y1 : 0 ≤ y := by rw [← hy]; exact Int.emod_nonneg _ (by decide)
    have y2 : y < 2147483587 := by rw [← hy]; exact Int.emod_lt_of_pos _ (by decide)
    have by' : Bt 32 y := bt_of (m := 2147483587) y1 y2 (by decide)
    have a5 : gMulT (.int y) (.int (y + 2)) = some (.int (y * (y + 2))) := mulT_bt by' (by'.add (show Bt 32 2 by unfold Bt; decide))
    refine ⟨y * (y + 2) % 2147483579, ?_, Int.emod_nonneg _ (by decide), Int.lt_trans (Int.emod_lt_of_pos (y * (y + 2)) (show (0 : Int) < 2147483579 by decide)) (by decide)⟩
    simp [p1012, h, mod_int (i := n) (j := 2147483629) (by decide), a1, a2, a3, mod_int (i := (n % 2147483629 + p + 1) * (8 * p * p + 48271)) (j := 2147483647) (by decide), hx, a4, mod_int (i := x * x) (j := 2147483587) (by decide), hy, a5, mod_int (i := y * (y + 2)) (j := 2147483579) (by decide), List.replicate]
    rfl
noncomputable def mixF (n p : Int) : Int := getI (m_law_mix [.int n, .int p])
theorem w_mix {n p : Int} (h0 : 0 ≤ p) (hp : p ≤ 1000) : m_law_mix [.int n, .int p] = some (.ok (.int (mixF n p))) := let ⟨_, h, _⟩ := v_mix n p h0 hp; getI_of h
theorem r_mix {n p : Int} (h0 : 0 ≤ p) (hp : p ≤ 1000) : 0 ≤ mixF n p ∧ mixF n p < 2147483648 := by
  obtain ⟨r, h, q⟩ := v_mix n p h0 hp
  unfold mixF
  rw [h]; exact q
theorem p1030 : gPow (.int 10) (.int 30) = some (.int 1000000000000000000000000000000) := by rw [pow_int (by decide)]; rfl
end
end MyLaw
namespace MyLaw
open PySem PySem.Spec L2 DL PySem.NumText
noncomputable section
noncomputable def dg (m : Nat) : List Nat := (Nat.toDigits 10 m).map Char.toNat
theorem dg_str (m : Nat) : Str.ofString (toString ((m : Nat) : Int)) = St (dg m) := by
  have := PySem.W.KIN.signs_num m
  unfold St dg
  rw [← this]
theorem dg_all (m : Nat) : AllDigits (dg m) := by
  intro c hc
  obtain ⟨ch, hch, e⟩ := List.mem_map.mp hc
  have r := PyProof.Rows.digit_range (Nat.isDigit_of_mem_toDigits (by decide) (by decide) hch)
  rw [← e]
  exact r
theorem dg_val (m : Nat) : digitsVal (dg m) = m := PySem.W.KIN.val_back m
theorem dg_ne (m : Nat) : dg m ≠ [] := by
  intro e
  have h := List.map_eq_nil_iff.mp e
  have := Nat.length_toDigits_pos (b := 10) (n := m)
  rw [h] at this
  exact absurd this (by decide)
theorem dg_len {m : Nat} (h : m < 10 ^ 31) : (dg m).length ≤ 31 := by
  unfold dg
  rw [List.length_map]
  have e := (Nat.length_repr_le_iff (n := m) (by decide : 0 < 31)).mpr h
  rwa [← String.length_toList, Nat.toList_repr] at e
theorem isG_of {a : List Nat} (h : AllDigits a) : ∀ c ∈ a, isG c = true := fun c hc => by
  have := h c hc
  unfold isG
  simpa using this
theorem dg_word (m : Nat) : Word (dg m) := by
  by_cases q : (dg m).head? = some 48
  · have : dg m = [48] := by
      have e := toDigits_all (dg m) (dg_all m)
      rw [dg_val] at e
      have el : (Nat.toDigits 10 m).length = (dg m).length := by unfold dg; rw [List.length_map]
      cases hd : dg m with
      | nil => exact absurd hd (dg_ne m)
      | cons c r =>
        rw [hd] at q e el
        simp at q
        subst q
        have e2 : (48 :: r).dropWhile (· == 48) = r.dropWhile (· == 48) := by simp
        rw [e2] at e
        have hle : (r.dropWhile (· == 48)).length ≤ r.length := (List.dropWhile_sublist _).length_le
        cases hr : r.dropWhile (· == 48) with
        | nil =>
          rw [hr] at e
          have := congrArg List.length e
          rw [el] at this
          simp at this
          rw [this]
        | cons c' r' =>
          rw [hr] at e hle
          have := congrArg List.length e
          rw [el] at this
          simp at this hle
          omega
    rw [this]; exact .zero
  · exact .num (dg_ne m) (isG_of (dg_all m)) q
theorem st_append (a b : List Nat) : St a ++ St b = St (a ++ b) := by
  show (⟨_⟩ : Str) = _
  unfold St
  simp
theorem cat_st {a b : List Nat} (h : a.length + b.length ≤ 100000) : gCat (.str (St a)) (.str (St b)) = some (.str (St (a ++ b))) := by
  rw [cat_str (by rw [st_len, st_len, sizeLine_eq]; omega), st_append]
theorem alphabet : Str.ofString "abcdefghijklmnopqrstuvwxyz" = St (List.range' 97 26) := by decide +kernel
theorem letter_at {i : Int} (h0 : 0 ≤ i) (h1 : i < 26) : ∃ c, isL c = true ∧ gIx (.str "abcdefghijklmnopqrstuvwxyz") (.int i) = some (.str (St [c])) := by
  obtain ⟨j, rfl⟩ := Int.eq_ofNat_of_zero_le h0
  have hj : j < 26 := by omega
  refine ⟨97 + j, by unfold isL; simp; omega, ?_⟩
  rw [alphabet]
  show (if (St (List.range' 97 26)).length ≤ sizeLine then (atI (St (List.range' 97 26)).cps.toList (j : Int)).map fun c => D.str ⟨#[c]⟩ else none) = _
  have e : (St (List.range' 97 26)).cps.toList = List.range' 97 26 := by unfold St; simp
  rw [if_pos (by rw [st_len, sizeLine_eq, List.length_range']; omega), e, DL.atI_get (v := 97 + j) (by rw [List.getElem?_range' hj]; simp)]
  rfl
structure Nm (a : List Nat) : Prop where
  ne : a ≠ []
  al : ∀ c ∈ a, isL c = true
  le : a.length ≤ 10
theorem one_mod (m : Int) (n : Nat) (h : 0 < (n : Int)) : 1 ≤ (1 + m % (n : Int)).toNat ∧ (1 + m % (n : Int)).toNat ≤ n := by
  have h1 := Int.emod_nonneg m (Int.ne_of_gt h)
  have h2 := Int.emod_lt_of_pos m h
  omega
theorem name_ok {m : Int} (h0 : 0 ≤ m) : ∃ a, m_law_name [.int m] = some (.ok (.str (St a))) ∧ Nm a := by
  let k := (1 + m % 10).toNat
  have hk : 1 ≤ k ∧ k ≤ 10 := one_mod m 10 (by decide)
  obtain ⟨δ', e, a, z, hδ, h1, h2⟩ := for_nth (g := b1_law_name) (tg := DL.gName 2) (rangeD 0 k) (fun j δ => ∃ a z, δ = [some (.int m), some (.str (St a)), z] ∧ a.length = j ∧ ∀ c ∈ a, isL c = true) (fun j hj δ ⟨a, z, hδ, h1, h2⟩ => by
    subst hδ
    have hjk : j < k := by simpa using hj
    have pj : 0 ≤ 0 + ((j : Nat) : Int) ∧ 0 + ((j : Nat) : Int) ≤ 1000 := by omega
    have w := w_mix (n := m) (p := 0 + (j : Nat)) pj.1 pj.2
    generalize mixF m (0 + (j : Nat)) = mx at w
    let d := m / 10 % 2
    have hd : d = 0 ∨ d = 1 := by show m / 10 % 2 = 0 ∨ m / 10 % 2 = 1; omega
    let md : Int := if d = 0 then 26 else 2
    have g1 : gIx (.lst [.int 26, .int 2]) (.int (m / 10 % 2)) = some (.int md) := by
      rcases hd with hd | hd
      · show gIx _ (.int d) = some (.int (if d = 0 then 26 else 2)); rw [hd]; rfl
      · show gIx _ (.int d) = some (.int (if d = 0 then 26 else 2)); rw [hd]; rfl
    have hm : 0 < md ∧ md ≤ 26 := by show 0 < (if d = 0 then (26 : Int) else 2) ∧ (if d = 0 then (26 : Int) else 2) ≤ 26; split <;> decide
    have r1 := Int.emod_nonneg mx (Int.ne_of_gt hm.1)
    have r2 := Int.emod_lt_of_pos mx hm.1
    obtain ⟨c, hc, g2⟩ := letter_at (i := mx % md) r1 (Int.lt_of_lt_of_le r2 hm.2)
    refine ⟨_, rfl, [some (.int m), some (.str (St (a ++ [c]))), some (.int (0 + (j : Nat)))], .inl ?_, a ++ [c], _, rfl, by simp [h1], fun b hb => ?_⟩
    · rw [rangeD_get]
      unfold b1_law_name
      have f1 := fdiv_int (i := m) (j := 10) (by decide) (by decide)
      have f2' := mod_int (i := m / 10) (j := 2) (by decide)
      have f3 := mod_int (i := mx) (j := md) hm.1
      have f4 := cat_st (a := a) (b := [c]) (by show a.length + 1 ≤ 100000; rw [h1]; exact Nat.le_trans hjk (Nat.le_trans hk.2 (by decide)))
      simp only [stpA, Nat.reduceSub, f1, f2', w, g1, f3, g2, f4]
      rfl
    · rcases List.mem_append.mp hb with hb | hb
      · exact h2 b hb
      · rw [List.mem_singleton.mp hb]; exact hc) [some (.int m), some (.str (St [])), none] ⟨[], none, rfl, rfl, fun c hc => (nomatch hc)⟩
  subst hδ
  rw [rangeD_len] at h1
  refine ⟨a, ?_, fun z => by subst z; exact absurd h1.symm (Nat.ne_of_gt hk.1), h2, by rw [h1]; exact hk.2⟩
  unfold m_law_name
  rw [e_mir1]
  show (g_law_name [some (.int m), none, none]).b outD = _
  unfold g_law_name
  have e1 : gSet 1 (fC (.str "")) [some (.int m), none, none] = some (.ok (.nx [some (.int m), some (.str (St [])), none])) := rfl
  have e2 : gFor (iArgs rangeArgs (fCons (f2 gCat (fC (.int 1)) (f2 gMod (fVar 0) (fC (.int 10)))) fNil)) (DL.gName 2) b1_law_name [some (.int m), some (.str (St [])), none] = some (.ok (.nx [some (.int m), some (.str (St a)), z])) := by
    have f1 := mod_int (i := m) (j := 10) (by decide)
    simp only [stpA, Nat.reduceSub, f1, range1]
    exact e
  rw [seq_ok e1, seq_ok e2]
  rfl
theorem inD_dec (a : List Nat) : ∀ names : List (List Nat), inD (.str (St a)) (nmD names) = decide (a ∈ names)
  | [] => by simp [nmD, inD]
  | b :: names => by
    have : inD (.str (St a)) (nmD (b :: names)) = ((St b == St a) || inD (.str (St a)) (nmD names)) := rfl
    rw [this, inD_dec a names, st_beq]
    by_cases q : b = a
    · subst q; simp
    · rw [beq_eq_false_iff_ne.mpr q]
      simp [show ¬ a = b from fun z => q z.symm]
theorem names_ok {m : Int} (h0 : 0 ≤ m) : ∃ names : List (List Nat), m_law_names [.int m, .int 4] = some (.ok (.lst (nmD names))) ∧ (∀ a ∈ names, Nm a) ∧ names.Nodup ∧ 1 ≤ names.length ∧ names.length ≤ 4 := by
  let k := (1 + m % 4).toNat
  have hk : 1 ≤ k ∧ k ≤ 4 := one_mod m 4 (by decide)
  obtain ⟨δ', e, names, y, z, hδ, h1, h2, h3, h4⟩ := for_nth (g := b1_law_names) (tg := DL.gName 3) (rangeD 0 k) (fun j δ => ∃ (names : List (List Nat)) (y z : Option D), δ = [some (.int m), some (.int 4), some (.lst (nmD names)), y, z] ∧ (∀ a ∈ names, Nm a) ∧ names.Nodup ∧ names.length ≤ j ∧ (1 ≤ j → 1 ≤ names.length)) (fun j hj δ ⟨names, y, z, hδ, h1, h2, h3, h4⟩ => by
    subst hδ
    have hjk : j < k := by simpa using hj
    have pj : 0 ≤ 20 + (0 + ((j : Nat) : Int)) ∧ 20 + (0 + ((j : Nat) : Int)) ≤ 1000 := by omega
    have w := w_mix (n := m) (p := 20 + (0 + (j : Nat))) pj.1 pj.2
    have r := r_mix (n := m) (p := 20 + (0 + (j : Nat))) pj.1 pj.2
    generalize mixF m (20 + (0 + (j : Nat))) = mx at w r
    obtain ⟨a, ea, na⟩ := name_ok r.1
    have e1 : gSet 4 (fCall m_law_name (fCons (fCall m_law_mix (fCons (fVar 0) (fCons (f2 gCat (fC (.int 20)) (fVar 3)) fNil))) fNil)) [some (.int m), some (.int 4), some (.lst (nmD names)), some (.int (0 + (j : Nat))), z] = some (.ok (.nx [some (.int m), some (.int 4), some (.lst (nmD names)), some (.int (0 + (j : Nat))), some (.str (St a))])) := by
      simp only [stpA, Nat.reduceSub, w, ea]
      rfl
    have hin := inD_dec a names
    have g : gNotIn (.str (St a)) (.lst (nmD names)) = some (.bl !decide (a ∈ names)) := by
      show (if (true && (nmD names).all flatD) = true then some (D.bl !(inD _ (nmD names))) else none) = _
      rw [flat_names, if_pos (by decide), hin]
    refine ⟨[some (.int m), some (.int 4), some (.lst (nmD names)), some (.int (0 + (j : Nat))), z], by rw [rangeD_get]; rfl, ?_⟩
    by_cases q : a ∈ names
    · refine ⟨[some (.int m), some (.int 4), some (.lst (nmD names)), some (.int (0 + (j : Nat))), some (.str (St a))], .inl ?_, names, _, _, rfl, h1, h2, Nat.le_succ_of_le h3, fun _ => ?_⟩
      · unfold b1_law_names
        rw [seq_ok e1]
        simp only [stpA, Nat.reduceSub, g, decide_eq_true q, Bool.not_true]
        rfl
      · cases names with
        | nil => cases q
        | cons _ _ => simp
    · refine ⟨[some (.int m), some (.int 4), some (.lst (nmD (names ++ [a]))), some (.int (0 + (j : Nat))), some (.str (St a))], .inl ?_, names ++ [a], _, _, rfl, fun b hb => ?_, ?_, by rw [List.length_append]; exact Nat.succ_le_succ h3, fun _ => by simp⟩
      · unfold b1_law_names
        rw [seq_ok e1]
        have t : DL.t2 gNotIn (fVar 4) (fVar 2) [some (.int m), some (.int 4), some (.lst (nmD names)), some (.int (0 + (j : Nat))), some (.str (St a))] = some (.ok true) := by
          simp only [stpA, Nat.reduceSub, g, decide_eq_false q, Bool.not_false]
          rfl
        rw [if_ok t, if_pos rfl]
        have := app1_ok (i := 2) (fa := fVar 4) (δ := [some (.int m), some (.int 4), some (.lst (nmD names)), some (.int (0 + (j : Nat))), some (.str (St a))]) (ds := nmD names) (d := .str (St a)) rfl rfl (by unfold nmD; rw [List.length_map, sizeLine_eq]; exact Nat.lt_of_le_of_lt h3 (Nat.lt_trans hjk (Nat.lt_of_le_of_lt hk.2 (by decide))))
        rw [this]
        unfold nmD
        rw [List.map_append]
        rfl
      · rcases List.mem_append.mp hb with hb | hb
        · exact h1 b hb
        · rw [List.mem_singleton.mp hb]; exact na
      · rw [List.nodup_append]
        exact ⟨h2, by simp, fun x hx y hy => by rw [List.mem_singleton.mp hy]; exact fun z => q (z ▸ hx)⟩) [some (.int m), some (.int 4), some (.lst (nmD [])), none, none] ⟨[], none, none, rfl, fun a ha => (nomatch ha), by simp, by simp, fun z => absurd z (by decide)⟩
  subst hδ
  rw [rangeD_len] at h3 h4
  refine ⟨names, ?_, h1, h2, h4 hk.1, Nat.le_trans h3 hk.2⟩
  unfold m_law_names
  rw [e_mir2]
  show (g_law_names [some (.int m), some (.int 4), none, none, none]).b outD = _
  unfold g_law_names
  have e1 : gSet 2 (fL gLstD fNil) [some (.int m), some (.int 4), none, none, none] = some (.ok (.nx [some (.int m), some (.int 4), some (.lst (nmD [])), none, none])) := rfl
  have e2 : gFor (iArgs rangeArgs (fCons (f2 gCat (fC (.int 1)) (f2 gMod (fVar 0) (fVar 1))) fNil)) (DL.gName 3) b1_law_names [some (.int m), some (.int 4), some (.lst (nmD [])), none, none] = some (.ok (.nx [some (.int m), some (.int 4), some (.lst (nmD names)), y, z])) := by
    have f1 := mod_int (i := m) (j := 4) (by decide)
    simp only [stpA, Nat.reduceSub, f1, range1]
    exact e
  rw [seq_ok e1, seq_ok e2]
  rfl
end
end MyLaw
namespace MyLaw
open PySem PySem.Spec L2 DL PySem.NumText
noncomputable section
noncomputable def TermA (ts : List (List Nat)) : Prop := ∀ (rest : List (List Nat)) (d : Nat) (wt : Str), (wt == Str.ofString "behind") = false → Acc rest "behind" d → Acc (ts ++ rest) wt d
noncomputable def SumA (ts : List (List Nat)) : Prop := ∀ (rest : List (List Nat)) (d : Nat), Acc rest "behind" d → Acc (ts ++ rest) "beginning" d
noncomputable def Toks (names ts : List (List Nat)) : Prop := ∀ a ∈ ts, ∃ c r, a = c :: r ∧ (isL c = true → a ∈ names) ∧ a.length ≤ 40
theorem Toks.app {names ts us : List (List Nat)} (h : Toks names ts) (k : Toks names us) : Toks names (ts ++ us) := fun a ha => by
  rcases List.mem_append.mp ha with ha | ha
  · exact h a ha
  · exact k a ha
theorem Toks.sign {names : List (List Nat)} {c : Nat} (h : isL c = false) : Toks names [[c]] := fun a ha => by
  rw [List.mem_singleton.mp ha]
  exact ⟨c, [], rfl, (fun z => by rw [h] at z; cases z), by simp⟩
structure Fc (names : List (List Nat)) (ts : List (List Nat)) (f : Fm) (b : Nat) : Prop where
  ok : FacOk names.length (frmS names) (WdN names) (ts.map St) f
  acc : TermA ts
  toks : Toks names ts
  len : f.1.length = names.length
  bf : BF b f
structure Tm (names : List (List Nat)) (ts : List (List Nat)) (f : Fm) (b : Nat) : Prop where
  ok : TermOk names.length (frmS names) (WdN names) (ts.map St) f
  acc : TermA ts
  toks : Toks names ts
  len : f.1.length = names.length
  bf : BF b f
structure Sm (names : List (List Nat)) (ts : List (List Nat)) (f : Fm) (b : Nat) : Prop where
  ok : SumOk names.length (frmS names) (WdN names) (ts.map St) f
  acc : SumA ts
  toks : Toks names ts
  len : f.1.length = names.length
  bf : BF b f
section
variable {names ts us : List (List Nat)} {f g : Fm} {b c : Nat}
theorem beg_ne : (Str.ofString "beginning" == Str.ofString "behind") = false := by decide +kernel
theorem fac_ne : (Str.ofString "factor" == Str.ofString "behind") = false := by decide +kernel
theorem Fc.fo (h : Fc names ts f b) (hb : b ≤ KB) : FO names.length f := ⟨h.len, h.bf.mono hb⟩
theorem Tm.fo (h : Tm names ts f b) (hb : b ≤ KB) : FO names.length f := ⟨h.len, h.bf.mono hb⟩
theorem Fc.word {a : List Nat} (hn : names.length ≤ 1000) (hw : Word a) (hl : a.length ≤ 40) (hm : ∀ x r, a = x :: r → isL x = true → a ∈ names) (e : frmW names a = f) (len : f.1.length = names.length) (bf : BF b f) : Fc names [a] f b := by
  refine ⟨?_, fun rest d wt h1 h2 => .word hw h1 h2, fun a' ha => ?_, len, bf⟩
  · have := fac_word (n := names.length) (frm := frmS names) (wd := WdN names) (wd_of hn hw hl)
    rw [frmS_st, e] at this
    exact this
  · rw [List.mem_singleton.mp ha]
    obtain ⟨_, _, _, x, r, rfl, _, _⟩ := word_facts hw
    exact ⟨x, r, rfl, hm x r rfl, hl⟩
theorem Fc.paren (h : Sm names ts f b) : Fc names ([40] :: ts ++ [[41]]) f b := by
  refine ⟨?_, fun rest d wt h1 h2 => ?_, ?_, h.len, h.bf⟩
  · have := fac_paren h.ok
    rw [lt_op, lt_cl] at this
    rw [List.map_append, List.map_cons]
    exact this
  · rw [List.append_assoc, List.cons_append]
    exact .opn h1 (h.acc _ _ (.cls h2))
  · exact ((Toks.sign (c := 40) rfl).app h.toks).app (Toks.sign rfl)
theorem Fc.tm (h : Fc names ts f b) (hb : b ≤ KB) : Tm names ts f b := ⟨term_fac h.ok (h.fo hb), h.acc, h.toks, h.len, h.bf⟩
theorem prod_len (hf : f.1.length = names.length) (hg : g.1.length = names.length) : (prodF f g).1.length = names.length := by
  unfold prodF
  split
  · rw [mulF_len]; exact hf
  · rw [mulF_len]; exact hg
theorem prod_bf (hf : BF b f) (hg : BF c g) : BF (b + c) (prodF f g) := by
  unfold prodF
  split
  · exact hf.mul hg.2
  · rw [Nat.add_comm]; exact hg.mul hf.2
theorem Tm.mul (h : Tm names ts f b) (k : Fc names us g c) (hb : b ≤ KB) (hc : c ≤ KB) (hp : plainF f = true ∨ plainF g = true) : Tm names (ts ++ [42] :: us) (prodF f g) (b + c) := by
  refine ⟨?_, fun rest d wt h1 h2 => ?_, h.toks.app ((Toks.sign (c := 42) rfl).app k.toks), prod_len h.len k.len, prod_bf h.bf k.bf⟩
  · have := term_mul h.ok k.ok (h.fo hb) (k.fo hc) hp
    rw [lt_st] at this
    rw [List.map_append, List.map_cons]
    exact this
  · rw [List.append_assoc, List.cons_append]
    exact h.acc _ _ _ h1 (.bin (by rw [← lt_st]; exact is_star) (k.acc _ _ _ fac_ne h2))
theorem Tm.sm (h : Tm names ts f b) (hb : b ≤ KB) : Sm names ts f b := ⟨sum_term h.ok (h.fo hb), fun rest d h2 => h.acc _ _ _ beg_ne h2, h.toks, h.len, h.bf⟩
theorem Tm.neg (h : Tm names ts f b) (hb : b ≤ KB) : Sm names ([45] :: ts) (mulF f (-1)) b := by
  refine ⟨?_, fun rest d h2 => ?_, (Toks.sign (c := 45) rfl).app h.toks, by rw [mulF_len]; exact h.len, h.bf.neg⟩
  · have := sum_neg h.ok (h.fo hb)
    rw [lt_mi] at this
    exact this
  · rw [List.cons_append]
    exact .neg (h.acc _ _ _ fac_ne h2)
theorem Sm.add (h : Sm names ts f b) (k : Tm names us g b) (hb : b ≤ KB) : Sm names (ts ++ [43] :: us) (addF f g) (b + 1) := by
  refine ⟨?_, fun rest d h2 => ?_, h.toks.app ((Toks.sign (c := 43) rfl).app k.toks), by rw [addF_len (by rw [h.len, k.len])]; exact h.len, h.bf.add k.bf⟩
  · have := sum_add h.ok k.ok (k.fo hb)
    rw [lt_pl] at this
    rw [List.map_append, List.map_cons]
    exact this
  · rw [List.append_assoc, List.cons_append]
    exact h.acc _ _ (.bin (by rw [← lt_pl]; exact is_plus) (k.acc _ _ _ fac_ne h2))
theorem Sm.sub (h : Sm names ts f b) (k : Tm names us g b) (hb : b ≤ KB) : Sm names (ts ++ [45] :: us) (addF f (mulF g (-1))) (b + 1) := by
  refine ⟨?_, fun rest d h2 => ?_, h.toks.app ((Toks.sign (c := 45) rfl).app k.toks), by rw [addF_len (by rw [h.len, mulF_len, k.len])]; exact h.len, h.bf.add k.bf.neg⟩
  · have := sum_sub h.ok k.ok (k.fo hb)
    rw [lt_mi] at this
    rw [List.map_append, List.map_cons]
    exact this
  · rw [List.append_assoc, List.cons_append]
    exact h.acc _ _ (.bin (by rw [← lt_mi]; exact is_minus) (k.acc _ _ _ fac_ne h2))
theorem Tm.mono (h : Tm names ts f b) (hc : b ≤ c) : Tm names ts f c := ⟨h.ok, h.acc, h.toks, h.len, h.bf.mono hc⟩
theorem Sm.mono (h : Sm names ts f b) (hc : b ≤ c) : Sm names ts f c := ⟨h.ok, h.acc, h.toks, h.len, h.bf.mono hc⟩
end
noncomputable def plF (n : Nat) (v : Nat) : Fm := (List.replicate n 0, (v : Int))
theorem plain_pl (n v : Nat) : plainF (plF n v) = true := by unfold plainF plF; simp
theorem num_fc {names : List (List Nat)} (hn : names.length ≤ 1000) {v : Nat} (hv : v < 10 ^ 31) : Fc names [dg v] (plF names.length v) 110 := by
  have hw := dg_word v
  obtain ⟨_, _, _, x, r, e, _, _⟩ := word_facts hw
  have hx : isL x = false := isG_notL (isG_of (dg_all v) x (by rw [e]; exact List.mem_cons_self))
  have hl := dg_len hv
  refine .word hn hw (by omega) (fun y s ey hy => ?_) ?_ (by simp [plF]) ⟨fun c hc => ?_, ?_⟩
  · rw [e] at ey
    obtain ⟨rfl, rfl⟩ := List.cons.inj ey
    rw [hx] at hy; cases hy
  · have := dg_val v
    rw [e] at this ⊢
    unfold frmW plF
    dsimp only
    rw [hx, if_neg (by decide), this]
  · have : c = 0 := by
      have : c ∈ List.replicate names.length (0 : Int) := hc
      exact (List.mem_replicate.mp this).2
    rw [this]; unfold Bt; decide
  · show Bt 110 ((v : Nat) : Int)
    unfold Bt
    rw [Int.natAbs_natCast]
    exact Nat.lt_trans hv (by decide)
noncomputable def hotF (n i : Nat) : Fm := ((List.range n).map fun k => if k = i then 1 else 0, 0)
theorem name_fc {names : List (List Nat)} (hn : names.length ≤ 1000) (hN : ∀ a ∈ names, Nm a) (hd : names.Nodup) {i : Nat} (hi : i < names.length) : Fc names [names[i]] (hotF names.length i) 110 := by
  have hm := List.getElem_mem hi
  have na := hN _ hm
  refine .word hn (.name na.ne na.al na.le) (by have := na.le; omega) (fun _ _ _ _ => hm) ?_ (by simp [hotF]) ⟨fun c hc => ?_, by show Bt 110 0; unfold Bt; decide⟩
  · obtain ⟨x, r, e⟩ : ∃ x r, names[i] = x :: r := by
      cases h : names[i] with
      | nil => exact absurd h na.ne
      | cons x r => exact ⟨x, r, rfl⟩
    have hx : isL x = true := na.al x (by rw [e]; exact List.mem_cons_self)
    have : frmW names names[i] = (names.map fun b => if b = names[i] then 1 else 0, 0) := by
      generalize hg : names[i] = w at e ⊢
      subst e
      unfold frmW
      dsimp only
      rw [if_pos hx]
    rw [this]
    unfold hotF
    congr 1
    apply List.ext_getElem
    · simp
    · intro j h1 h2
      simp only [List.getElem_map, List.getElem_range]
      have hj : j < names.length := by simpa using h1
      by_cases q : j = i
      · subst q; simp
      · have pw := List.pairwise_iff_getElem.mp hd
        rw [if_neg q, if_neg (fun z => ?_)]
        rcases Nat.lt_or_gt_of_ne q with w | w
        · exact pw j i hj hi w z
        · exact pw i j hi hj w z.symm
  · obtain ⟨k, _, rfl⟩ := List.mem_map.mp hc
    unfold Bt
    split <;> decide
end
end MyLaw
namespace MyLaw
open PySem PySem.Spec L2 DL PySem.NumText
noncomputable section
theorem scaled_ok {k l : Nat} {a : Fm} {n : Int} (ha : BF k a) (hn : Bt l n) (hk : k ≤ 100000) (hl : l ≤ 100000) (h : a.1.length ≤ 1000) : m_law_scaled [fm a, .int n] = some (.ok (fm (mulF a n))) := by
  have e := comp_map1 (c := [some (.int n)]) (fe := c1_law_scaled) (K := D.int) (F := fun c => .int (c * n)) a.1 none (fun c hc => by
    unfold c1_law_scaled
    simp only [stpA, Nat.reduceSub, mulT_bt hn (ha.1 c hc) hl hk]
    rw [Int.mul_comm]; rfl)
  unfold m_law_scaled
  rw [e_mir2]
  unfold g_law_scaled fm mulF
  simp only [stpA, Nat.reduceSub, e, mulT_bt hn ha.2 hl hk, lst_le (ds := List.map (fun c => D.int (c * n)) a.1) (by rw [List.length_map]; assumption)]
  rw [List.map_map, Int.mul_comm]
  rfl
theorem ladded_ok (a b : Fm) (h : a.1.length ≤ 1000) : m_law_added [fm a, fm b] = some (.ok (fm (addF a b))) := by
  have e := comp_map2 (c := []) (fe := c1_law_added) (K := fun p : Int × Int => (D.int p.1, D.int p.2)) (F := fun p => .int (p.1 + p.2)) (a.1.zip b.1) none none (fun p hp => by unfold c1_law_added; simp only [stpA, Nat.reduceSub]; rfl)
  unfold m_law_added
  rw [e_mir2]
  unfold g_law_added fm addF
  simp only [stpA, Nat.reduceSub, e, lst_le (ds := List.map (fun p : Int × Int => D.int (p.1 + p.2)) (a.1.zip b.1)) (by rw [List.length_map, List.length_zip]; omega)]
  rw [List.map_map]
  rfl
section
variable {names : List (List Nat)}
theorem nm_len : (nmD names).length = names.length := by simp [nmD]
theorem str_ok {v : Nat} (h : v < 10 ^ 31) : kStr [.int (v : Nat)] = some (.str (St (dg v))) := by
  have hl : ((v : Nat) : Int).natAbs.log2 < 1920 := by
    rw [Int.natAbs_natCast]
    by_cases q : v = 0
    · subst q; decide
    · exact Nat.lt_trans ((Nat.log2_lt q).mpr (Nat.lt_trans h (by decide : 10 ^ 31 < 2 ^ 200))) (by decide)
  show (if ((v : Nat) : Int).natAbs.log2 < 1920 then some (D.str (Str.ofString (toString ((v : Nat) : Int)))) else none) = _
  rw [if_pos hl, dg_str]
theorem lplain_ok {num cell : Int} (h1 : 1 ≤ names.length) (h4 : names.length ≤ 4) (h0 : 0 ≤ num) : ∃ v : Nat, v < 10 ^ 30 ∧ m_law_plain [.lst (nmD names), .int num, .int cell] = some (.ok (.tup [.lst (nmD [dg v]), fm (plF names.length v)])) := by
  have key : ∃ v : Nat, v < 10 ^ 30 ∧ ∃ δ1, gSet 3 (f2 gMod (f2 gFdiv (fVar 1) (fC (.int 8))) (fC (.int 4))) [some (.lst (nmD names)), some (.int num), some (.int cell), none] = some (.ok (.nx δ1)) ∧
      gIf (DL.t2 gEq (f2 gMod (fVar 1) (fC (.int 4))) (fC (.int 0))) (gSet 3 (f2 gMod (fVar 2) (f2 gIx (fL gLstD (fCons (fC (.int 100)) (fCons (f2 gPow (fC (.int 10)) (fC (.int 30))) fNil))) (f2 gFdiv (f2 gMod (f2 gFdiv (fVar 1) (fC (.int 32))) (fC (.int 4))) (fC (.int 3)))))) gNx δ1 = some (.ok (.nx [some (.lst (nmD names)), some (.int num), some (.int cell), some (.int (v : Nat))])) := by
    have f1 := fdiv_int (i := num) (j := 8) (by decide) (by decide)
    have f2' := mod_int (i := num / 8) (j := 4) (by decide)
    have f3 := mod_int (i := num) (j := 4) (by decide)
    have f4 := fdiv_int (i := num) (j := 32) (by decide) (by decide)
    have f5 := mod_int (i := num / 32) (j := 4) (by decide)
    have f6 := fdiv_int (i := num / 32 % 4) (j := 3) (by decide) (by decide)
    by_cases q : num % 4 = 0
    · have hd : num / 32 % 4 / 3 = 0 ∨ num / 32 % 4 / 3 = 1 := by omega
      obtain ⟨md, hm, hm2, g⟩ : ∃ md : Int, 0 < md ∧ md ≤ 10 ^ 30 ∧ gIx (.lst [.int 100, .int 1000000000000000000000000000000]) (.int (num / 32 % 4 / 3)) = some (.int md) := by
        rcases hd with hd | hd
        · exact ⟨100, by decide, by decide, by rw [hd]; rfl⟩
        · exact ⟨1000000000000000000000000000000, by decide, by decide, by rw [hd]; rfl⟩
      have r1 := Int.emod_nonneg cell (show md ≠ 0 by exact Int.ne_of_gt (by assumption))
      have r2 := Int.emod_lt_of_pos cell hm
      have f7 := mod_int (i := cell) (j := md) hm
      refine ⟨(cell % md).toNat, by omega, [some (.lst (nmD names)), some (.int num), some (.int cell), some (.int (num / 8 % 4))], by simp only [stpA, Nat.reduceSub, f1, f2']; rfl, ?_⟩
      have t : DL.t2 gEq (f2 gMod (fVar 1) (fC (.int 4))) (fC (.int 0)) [some (.lst (nmD names)), some (.int num), some (.int cell), some (.int (num / 8 % 4))] = some (.ok true) := by
        simp only [stpA, Nat.reduceSub, f3, q]; rfl
      rw [if_ok t, if_pos rfl, Int.toNat_of_nonneg r1]
      simp only [stpA, Nat.reduceSub, p1030, f4, f5, f6, g, f7]
      rfl
    · refine ⟨(num / 8 % 4).toNat, by omega, [some (.lst (nmD names)), some (.int num), some (.int cell), some (.int (num / 8 % 4))], by simp only [stpA, Nat.reduceSub, f1, f2']; rfl, ?_⟩
      have t : DL.t2 gEq (f2 gMod (fVar 1) (fC (.int 4))) (fC (.int 0)) [some (.lst (nmD names)), some (.int num), some (.int cell), some (.int (num / 8 % 4))] = some (.ok false) := by
        simp only [stpA, Nat.reduceSub, f3, beq_eq_false_iff_ne.mpr q]; rfl
      rw [if_ok t, if_neg (by decide), Int.toNat_of_nonneg (by omega)]
      rfl
  obtain ⟨v, hv, δ1, e1, e2⟩ := key
  refine ⟨v, hv, ?_⟩
  unfold m_law_plain
  rw [e_mir3]
  show (g_law_plain [some (.lst (nmD names)), some (.int num), some (.int cell), none]).b outD = _
  unfold g_law_plain
  rw [seq_ok e1, seq_ok e2]
  have s := str_ok (v := v) (by exact Nat.le_trans (by assumption) (by decide))
  have m := mulT_tup (x := .int 0) (n := names.length) h1 (by exact Nat.le_trans (by assumption) (by decide))
  have t1 : gTupD [.int 0] = some (.tup [.int 0]) := rfl
  have t2' : gLstD [D.str (St (dg v))] = some (.lst [.str (St (dg v))]) := rfl
  simp only [stpA, Nat.reduceSub, s, len_l, nm_len, m, t1, t2']
  unfold fm plF
  rw [List.map_replicate]
  rfl
theorem lnamed_ok {num : Int} (h1 : 1 ≤ names.length) (h4 : names.length ≤ 4) (h0 : 0 ≤ num) : ∃ (i : Nat) (hi : i < names.length), m_law_named [.lst (nmD names), .int num] = some (.ok (.tup [.lst (nmD [names[i]]), fm (hotF names.length i)])) := by
  have hp : (0 : Int) < (names.length : Nat) := Int.natCast_pos.mpr h1
  have r1 := Int.emod_nonneg num (show ((names.length : Nat) : Int) ≠ 0 by exact Int.ne_of_gt (by assumption))
  have r2 := Int.emod_lt_of_pos num hp
  obtain ⟨i, hi⟩ := Int.eq_ofNat_of_zero_le r1
  have hin : i < names.length := by omega
  refine ⟨i, hin, ?_⟩
  have f1 := mod_int (i := num) (j := (names.length : Nat)) hp
  rw [hi] at f1
  have e := compR (c := [some (.int (i : Nat))]) (fe := c1_law_named) (F := fun k => .int (if k = i then 1 else 0)) names.length none (fun j hj => by
    unfold c1_law_named
    have q : (((j : Nat) : Int) == (i : Nat)) = decide (j = i) := by
      by_cases z : j = i
      · subst z; simp
      · rw [decide_eq_false z]; exact beq_eq_false_iff_ne.mpr (by omega)
    simp only [stpA, Nat.reduceSub, q, intT_bl]
    by_cases z : j = i
    · rw [decide_eq_true z, if_pos z]; rfl
    · rw [decide_eq_false z, if_neg z]; rfl)
  have ix : gIx (.lst (nmD names)) (.int (i : Nat)) = some (.str (St names[i])) := by
    rw [ix_l]
    exact DL.atI_get (by simp [nmD, hin])
  unfold m_law_named
  rw [e_mir2]
  show (g_law_named [some (.lst (nmD names)), some (.int num), none]).b outD = _
  unfold g_law_named
  have e1 : gSet 2 (f2 gMod (fVar 1) (fL kLen (fCons (fVar 0) fNil))) [some (.lst (nmD names)), some (.int num), none] = some (.ok (.nx [some (.lst (nmD names)), some (.int num), some (.int (i : Nat))])) := by
    simp only [stpA, Nat.reduceSub, len_l, nm_len, f1]; rfl
  rw [seq_ok e1]
  have t0 : (((names.length : Nat) : Int)).toNat = names.length := Int.toNat_natCast _
  have t2' : gLstD [D.str (St names[i])] = some (.lst [.str (St names[i])]) := rfl
  simp only [stpA, Nat.reduceSub, len_l, nm_len, ix, range1, t0, e, t2', lst_le (ds := (List.range names.length).map fun k => D.int (if k = i then 1 else 0)) (by rw [List.length_map, List.length_range]; exact Nat.le_trans (by assumption) (by decide))]
  unfold fm hotF
  rw [List.map_map]
  rfl
end
end
end MyLaw
namespace MyLaw
open PySem PySem.Spec L2 DL PySem.NumText
noncomputable section
theorem if_skip {t : DSt → M Bool} {g1 g2 : DSt → M Out} {δ : DSt} (h : t δ = some (.ok false)) : gSeq (gIf t g1 gNx) g2 δ = g2 δ := seq_ok (by rw [if_ok h, if_neg (by decide)]; rfl)
theorem if_take {t : DSt → M Bool} {fa : DSt → M D} {g2 : DSt → M Out} {δ : DSt} {d : D} (h : t δ = some (.ok true)) (hd : fa δ = some (.ok d)) : gSeq (gIf t (gRet fa) gNx) g2 δ = some (.ok (.rt d)) := by
  rw [e_seq, if_ok h, if_pos rfl, e_ret, hd, M.b_ok]
  rfl
theorem catT {ts us : List (List Nat)} (h : ts.length + us.length ≤ 100000) : gCat (.lst (nmD ts)) (.lst (nmD us)) = some (.lst (nmD (ts ++ us))) := by
  rw [cat_lst (by rw [nm_len, nm_len, sizeLine_eq]; omega)]
  unfold nmD
  rw [List.map_append]
theorem catL {ts us : List (List Nat)} {p q : Nat} (h1 : ts.length ≤ p) (h2 : us.length ≤ q) (h : autoParam (p + q ≤ 100000) zau1._auto_1) : gCat (.lst (nmD ts)) (.lst (nmD us)) = some (.lst (nmD (ts ++ us))) := catT (Nat.le_trans (Nat.add_le_add h1 h2) h)
theorem la {a b : List (List Nat)} {p q : Nat} (ha : a.length ≤ p) (hb : b.length ≤ q) : (a ++ b).length ≤ p + q := by rw [List.length_append]; exact Nat.add_le_add ha hb
theorem lar {a b : List (List Nat)} {p q : Nat} (ha : a.length ≤ p) (hb : b.length ≤ q) : (a ++ b).length ≤ q + p := by rw [Nat.add_comm]; exact la ha hb
theorem l_op : gLstD [D.str "("] = some (.lst (nmD [[40]])) := by rw [lt_op]; rfl
theorem l_cl : gLstD [D.str ")"] = some (.lst (nmD [[41]])) := by rw [lt_cl]; rfl
theorem l_mi : gLstD [D.str "-"] = some (.lst (nmD [[45]])) := by rw [lt_mi]; rfl
theorem l_pl : gLstD [D.str "+"] = some (.lst (nmD [[43]])) := by rw [lt_pl]; rfl
theorem l_st : gLstD [D.str "*"] = some (.lst (nmD [[42]])) := by rw [lt_st]; rfl
theorem l_cs : gLstD [D.str ")", D.str "*"] = some (.lst (nmD [[41], [42]])) := by rw [lt_cl, lt_st]; rfl
theorem lt_2 : Str.ofString "2" = St [50] := by decide +kernel
theorem l_s2 : gLstD [D.str "*", D.str "2", D.str "*"] = some (.lst (nmD [[42], [50], [42]])) := by rw [lt_st, lt_2]; rfl
theorem fm1 (f : Fm) : gIx (fm f) (.int 1) = some (.int f.2) := by unfold fm; simp
theorem cancel {n : Nat} {h p : Fm} (h1 : h.1.length = n) (h2 : p.1.length = n) : addF (addF h (mulF h (-1))) p = p := by
  obtain ⟨hs, a⟩ := h
  obtain ⟨ps, b⟩ := p
  unfold addF mulF
  dsimp only at *
  refine Prod.ext ?_ (by show a + a * -1 + b = b; omega)
  show List.map (fun p : Int × Int => p.1 + p.2) ((List.map (fun p : Int × Int => p.1 + p.2) (hs.zip (hs.map (· * -1)))).zip ps) = ps
  subst h1
  clear a b
  induction hs generalizing ps with
  | nil => simp at h2; subst h2; rfl
  | cons x hs ih =>
    cases ps with
    | nil => simp at h2
    | cons y ps =>
      simp only [List.map_cons, List.zip_cons_cons]
      rw [ih ps (by simpa using h2)]
      congr 1
      omega
section
variable {names : List (List Nat)}
theorem lterm_ok {num cell : Int} (hN : ∀ a ∈ names, Nm a) (hd : names.Nodup) (h1 : 1 ≤ names.length) (h4 : names.length ≤ 4) (h0 : 0 ≤ num) :
    ∃ ts f, m_law_term [.lst (nmD names), .int num, .int cell] = some (.ok (.tup [.lst (nmD ts), fm f])) ∧ Tm names ts f 400 ∧ ts.length ≤ 9 := by
  obtain ⟨v, hv, e3⟩ := lplain_ok (names := names) (num := num / 8) (cell := cell) h1 h4 (Int.ediv_nonneg h0 (by decide))
  obtain ⟨i, hi, e4⟩ := lnamed_ok (names := names) (num := num / 64) h1 h4 (Int.ediv_nonneg h0 (by decide))
  have hn : names.length ≤ 1000 := Nat.le_trans h4 (by decide)
  have FP := num_fc hn (v := v) (by omega)
  have FH := name_fc hn hN hd hi
  have F2 : Fc names [[50]] (plF names.length 2) 110 := num_fc hn (v := 2) (by decide)
  have pP := plain_pl names.length v
  have p2 := plain_pl names.length 2
  generalize dg v = A at e3 FP
  generalize names[i] = B at e4 FH
  have lP : (plF names.length v).1.length = names.length := FP.len
  have vP : (plF names.length v).2 = (v : Int) := rfl
  have v2 : (plF names.length 2).2 = 2 := rfl
  generalize plF names.length v = P at e3 FP pP lP vP
  generalize plF names.length 2 = T at F2 p2 v2
  generalize hotF names.length i = H at e4 FH
  have k1 : (110 : Nat) ≤ KB := by decide
  have bv : Bt 110 (v : Int) := by rw [← vP]; exact FP.bf.2
  have e6 := scaled_ok (n := (v : Int)) FH.bf bv (by decide) (by decide) (by rw [FH.len]; exact hn)
  have e7 := ladded_ok H P (by rw [FH.len]; exact hn)
  have S1' : Sm names ([B] ++ [43] :: [A]) (addF H P) 111 := (FH.tm k1).sm k1 |>.add (FP.tm k1) k1
  have FS := Fc.paren S1'
  have BS : BF 111 (addF H P) := S1'.bf
  have b2v : Bt 115 (2 * (v : Int)) := (Bt.mul (a := 3) (b := 110) (by unfold Bt; decide) bv).mono (by decide)
  have e8 := scaled_ok (n := 2 * (v : Int)) BS b2v (by decide) (by decide) (by rw [S1'.len]; exact hn)
  have m2v : gMulT (.int 2) (.int (v : Int)) = some (.int (2 * (v : Int))) := mulT_bt (a := 3) (b := 110) (by unfold Bt; decide) bv
  have f8 := fdiv_int (i := num) (j := 8) (by decide) (by decide)
  have f64 := fdiv_int (i := num) (j := 64) (by decide) (by decide)
  have fm8 := mod_int (i := num) (j := 8) (by decide)
  have hw0 : 0 ≤ num % 8 := Int.emod_nonneg _ (by decide)
  have hw8 : num % 8 < 8 := Int.emod_lt_of_pos _ (by decide)
  generalize num % 8 = W at fm8 hw0 hw8
  have LH : H.1.length = names.length := FH.len
  have a1 : ([A] : List (List Nat)).length = 1 := rfl
  have o0 : gIx (D.tup [.lst (nmD [A]), fm P]) (.int 0) = some (.lst (nmD [A])) := at0 _ _
  have o1 : gIx (D.tup [.lst (nmD [A]), fm P]) (.int 1) = some (fm P) := at1 _ _ _
  have q0 : gIx (D.tup [.lst (nmD [B]), fm H]) (.int 0) = some (.lst (nmD [B])) := at0 _ _
  have q1 : gIx (D.tup [.lst (nmD [B]), fm H]) (.int 1) = some (fm H) := at1 _ _ _
  generalize D.lst (nmD names) = N at e3 e4 ⊢
  generalize hone : D.tup [.lst (nmD [A]), fm P] = one at e3 o0 o1
  generalize hoth : D.tup [.lst (nmD [B]), fm H] = oth at e4 q0 q1
  have s3 : gSet 3 (fCall m_law_plain (fCons (fVar 0) (fCons (f2 gFdiv (fVar 1) (fC (.int 8))) (fCons (fVar 2) fNil)))) [some N, some (.int num), some (.int cell), none, none, none, none, none, none] = some (.ok (.nx [some N, some (.int num), some (.int cell), some one, none, none, none, none, none])) := by
    simp only [stpA, Nat.reduceSub, f8, e3]; rfl
  have s4 : gSet 4 (fCall m_law_named (fCons (fVar 0) (fCons (f2 gFdiv (fVar 1) (fC (.int 64))) fNil))) [some N, some (.int num), some (.int cell), some one, none, none, none, none, none] = some (.ok (.nx [some N, some (.int num), some (.int cell), some one, some oth, none, none, none, none])) := by
    simp only [stpA, Nat.reduceSub, f64, e4]; rfl
  have s5 : gSet 5 (f2 gIx (f2 gIx (fVar 3) (fC (.int 1))) (fC (.int 1))) [some N, some (.int num), some (.int cell), some one, some oth, none, none, none, none] = some (.ok (.nx [some N, some (.int num), some (.int cell), some one, some oth, some (.int v), none, none, none])) := by
    simp only [stpA, Nat.reduceSub, o1, fm1, vP]; rfl
  have s6 : gSet 6 (fCall m_law_scaled (fCons (f2 gIx (fVar 4) (fC (.int 1))) (fCons (fVar 5) fNil))) [some N, some (.int num), some (.int cell), some one, some oth, some (.int v), none, none, none] = some (.ok (.nx [some N, some (.int num), some (.int cell), some one, some oth, some (.int v), some (fm (mulF H v)), none, none])) := by
    simp only [stpA, Nat.reduceSub, q1, e6]; rfl
  have s7 : gSet 7 (f2 gMod (fVar 1) (fC (.int 8))) [some N, some (.int num), some (.int cell), some one, some oth, some (.int v), some (fm (mulF H v)), none, none] = some (.ok (.nx [some N, some (.int num), some (.int cell), some one, some oth, some (.int v), some (fm (mulF H v)), some (.int W), none])) := by
    simp only [stpA, Nat.reduceSub, fm8]; rfl
  unfold m_law_term
  rw [e_mir3]
  suffices h : ∃ ts f, g_law_term [some N, some (.int num), some (.int cell), none, none, none, none, none, none] = some (.ok (.rt (.tup [.lst (nmD ts), fm f]))) ∧ Tm names ts f 400 ∧ ts.length ≤ 9 by
    obtain ⟨ts, f, e, h2, h3⟩ := h
    refine ⟨ts, f, ?_, h2, h3⟩
    show (g_law_term [some N, some (.int num), some (.int cell), none, none, none, none, none, none]).b outD = _
    rw [e, M.b_ok]; rfl
  unfold g_law_term
  rw [seq_ok s3, seq_ok s4, seq_ok s5, seq_ok s6, seq_ok s7]
  have tq : ∀ (k : Int) (x y : Option D), DL.t2 gEq (fVar 7) (fC (.int k)) [some N, some (.int num), some (.int cell), some one, some oth, some (.int v), x, some (.int W), y] = some (.ok (W == k)) := fun k x y => by simp only [stpA, Nat.reduceSub]; rfl
  have tl : ∀ (x y : Option D), DL.t2 gLt (fVar 7) (fC (.int 3)) [some N, some (.int num), some (.int cell), some one, some oth, some (.int v), x, some (.int W), y] = some (.ok (decide (W < 3))) := fun x y => by simp only [stpA, Nat.reduceSub, lt_int]; rfl
  have FHt := FH.tm k1
  have FPt := FP.tm k1
  by_cases w0 : W = 0
  · subst w0
    refine ⟨[A], P, ?_, FPt.mono (by decide), Nat.le_of_ble_eq_true rfl⟩
    rw [if_take (tq 0 _ _) (show fVar 3 _ = some (.ok one) from rfl), hone]
  rw [if_skip (by rw [tq, beq_eq_false_iff_ne.mpr w0])]
  by_cases w3 : W < 3
  · refine ⟨[B], H, ?_, FHt.mono (by decide), Nat.le_of_ble_eq_true rfl⟩
    rw [if_take (by rw [tl, decide_eq_true w3]) (show fVar 4 _ = some (.ok oth) from rfl), hoth]
  rw [if_skip (by rw [tl, decide_eq_false w3])]
  by_cases w3' : W = 3
  · subst w3'
    have t := FPt.mul FH k1 k1 (.inl pP)
    rw [prod_left pP (by rw [lP, LH]), vP] at t
    refine ⟨[A] ++ [42] :: [B], mulF H v, ?_, t.mono (by decide), Nat.le_of_ble_eq_true rfl⟩
    have c1 := catT (ts := [A]) (us := [[42]]) (Nat.le_of_ble_eq_true rfl)
    have c2 := catT (ts := [A] ++ [[42]]) (us := [B]) (Nat.le_of_ble_eq_true rfl)
    exact if_take (tq 3 _ _) (by simp only [stpA, Nat.reduceSub, o0, q0, l_st, c1, c2]; rfl)
  rw [if_skip (by rw [tq, beq_eq_false_iff_ne.mpr w3'])]
  by_cases w4 : W = 4
  · subst w4
    have t := FHt.mul FP k1 k1 (.inr pP)
    rw [prod_right pP, vP] at t
    refine ⟨[B] ++ [42] :: [A], mulF H v, ?_, t.mono (by decide), Nat.le_of_ble_eq_true rfl⟩
    have c1 := catT (ts := [B]) (us := [[42]]) (Nat.le_of_ble_eq_true rfl)
    have c2 := catT (ts := [B] ++ [[42]]) (us := [A]) (Nat.le_of_ble_eq_true rfl)
    exact if_take (tq 4 _ _) (by simp only [stpA, Nat.reduceSub, o0, q0, l_st, c1, c2]; rfl)
  rw [if_skip (by rw [tq, beq_eq_false_iff_ne.mpr w4])]
  by_cases w5 : W = 5
  · subst w5
    have s1 := ((FHt.sm k1).sub FHt k1).add (FPt.mono (by decide : 110 ≤ 111)) (by decide)
    have pc := cancel (n := names.length) LH lP
    rw [pc] at s1
    have t := ((Fc.paren s1).tm (by decide)).mul FH (by decide) k1 (.inl pP)
    rw [prod_left pP (by rw [lP, LH]), vP] at t
    refine ⟨[[40], B, [45], B, [43], A, [41], [42], B], mulF H v, ?_, t.mono (by decide), Nat.le_of_ble_eq_true rfl⟩
    have c1 := catT (ts := [[40]]) (us := [B]) (Nat.le_of_ble_eq_true rfl)
    have c2 := catT (ts := [[40], B]) (us := [[45]]) (Nat.le_of_ble_eq_true rfl)
    have c3 := catT (ts := [[40], B, [45]]) (us := [B]) (Nat.le_of_ble_eq_true rfl)
    have c4 := catT (ts := [[40], B, [45], B]) (us := [[43]]) (Nat.le_of_ble_eq_true rfl)
    have c5 := catT (ts := [[40], B, [45], B, [43]]) (us := [A]) (Nat.le_of_ble_eq_true rfl)
    have c6 := catT (ts := [[40], B, [45], B, [43], A]) (us := [[41], [42]]) (Nat.le_of_ble_eq_true rfl)
    have c7 := catT (ts := [[40], B, [45], B, [43], A, [41], [42]]) (us := [B]) (Nat.le_of_ble_eq_true rfl)
    simp only [List.cons_append, List.nil_append] at c1 c2 c3 c4 c5 c6 c7
    exact if_take (tq 5 _ _) (by simp only [stpA, Nat.reduceSub, o0, q0, l_op, l_mi, l_pl, l_cs, c1, c2, c3, c4, c5, c6, c7]; rfl)
  rw [if_skip (by rw [tq, beq_eq_false_iff_ne.mpr w5])]
  have c1 := catT (ts := [[40]]) (us := [B]) (Nat.le_of_ble_eq_true rfl)
  have c2 := catT (ts := [[40], B]) (us := [[43]]) (Nat.le_of_ble_eq_true rfl)
  have c3 := catT (ts := [[40], B, [43]]) (us := [A]) (Nat.le_of_ble_eq_true rfl)
  have c4 := catT (ts := [[40], B, [43], A]) (us := [[41]]) (Nat.le_of_ble_eq_true rfl)
  have c5 := catT (ts := [[40], B, [43], A, [41]]) (us := [[42], [50], [42]]) (Nat.le_of_ble_eq_true rfl)
  have c6 := catT (ts := [[40], B, [43], A, [41], [42], [50], [42]]) (us := [A]) (Nat.le_of_ble_eq_true rfl)
  simp only [List.cons_append, List.nil_append] at c1 c2 c3 c4 c5 c6
  have s8 : gSet 8 (f2 gCat (f2 gCat (f2 gCat (f2 gCat (fL gLstD (fCons (fC (.str "(")) fNil)) (f2 gIx (fVar 4) (fC (.int 0)))) (fL gLstD (fCons (fC (.str "+")) fNil))) (f2 gIx (fVar 3) (fC (.int 0)))) (fL gLstD (fCons (fC (.str ")")) fNil))) [some N, some (.int num), some (.int cell), some one, some oth, some (.int v), some (fm (mulF H v)), some (.int W), none] = some (.ok (.nx [some N, some (.int num), some (.int cell), some one, some oth, some (.int v), some (fm (mulF H v)), some (.int W), some (.lst (nmD [[40], B, [43], A, [41]]))])) := by
    simp only [stpA, Nat.reduceSub, o0, q0, l_op, l_pl, l_cl, c1, c2, c3, c4]; rfl
  have s9 : gSet 6 (fCall m_law_added (fCons (f2 gIx (fVar 4) (fC (.int 1))) (fCons (f2 gIx (fVar 3) (fC (.int 1))) fNil))) [some N, some (.int num), some (.int cell), some one, some oth, some (.int v), some (fm (mulF H v)), some (.int W), some (.lst (nmD [[40], B, [43], A, [41]]))] = some (.ok (.nx [some N, some (.int num), some (.int cell), some one, some oth, some (.int v), some (fm (addF H P)), some (.int W), some (.lst (nmD [[40], B, [43], A, [41]]))])) := by
    simp only [stpA, Nat.reduceSub, o1, q1, e7]; rfl
  rw [seq_ok s8, seq_ok s9]
  by_cases w6 : W = 6
  · subst w6
    refine ⟨[[40], B, [43], A, [41]], addF H P, ?_, (FS.tm (by decide)).mono (by decide), Nat.le_of_ble_eq_true rfl⟩
    exact if_take (tq 6 _ _) (by simp only [stpA, Nat.reduceSub]; rfl)
  rw [if_skip (by rw [tq, beq_eq_false_iff_ne.mpr w6])]
  have t := ((FS.tm (by decide)).mul F2 (by decide) k1 (.inr p2)).mul FP (by decide) k1 (.inr pP)
  rw [prod_right pP, prod_right p2, v2, vP, mulF_mul] at t
  refine ⟨[[40], B, [43], A, [41], [42], [50], [42], A], mulF (addF H P) (2 * v), ?_, t.mono (by decide), Nat.le_of_ble_eq_true rfl⟩
  simp only [stpA, Nat.reduceSub, o0, l_s2, c5, c6, m2v, e8]
  rfl
end
end
end MyLaw
namespace MyLaw
open PySem PySem.Spec L2 DL PySem.NumText
noncomputable section
theorem zip_comm : ∀ (xs ys : List Int), (xs.zip ys).map (fun p => p.1 + p.2) = (ys.zip xs).map (fun p => p.1 + p.2)
  | [], ys => by simp
  | _ :: _, [] => by simp
  | x :: xs, y :: ys => by
    rw [List.zip_cons_cons, List.zip_cons_cons, List.map_cons, List.map_cons, zip_comm xs ys, Int.add_comm]
theorem addF_comm (a b : Fm) : addF a b = addF b a := Prod.ext (zip_comm _ _) (Int.add_comm _ _)
theorem k_op : D.lst [D.str "("] = .lst (nmD [[40]]) := by rw [lt_op]; rfl
theorem k_cl : D.lst [D.str ")"] = .lst (nmD [[41]]) := by rw [lt_cl]; rfl
theorem k_mi : D.lst [D.str "-"] = .lst (nmD [[45]]) := by rw [lt_mi]; rfl
theorem k_pl : D.lst [D.str "+"] = .lst (nmD [[43]]) := by rw [lt_pl]; rfl
theorem k_ss {a : List Nat} : D.lst [D.str "*", D.str (St a)] = .lst (nmD [[42], a]) := by rw [lt_st]; rfl
theorem k_as {a : List Nat} : D.lst [D.str (St a), D.str "*"] = .lst (nmD [a, [42]]) := by rw [lt_st]; rfl
section
variable {names : List (List Nat)}
theorem grown_ok {num cell dp : Int} {ts : List (List Nat)} {f : Fm} {b : Nat} (hN : ∀ a ∈ names, Nm a) (hd : names.Nodup) (h1 : 1 ≤ names.length) (h4 : names.length ≤ 4) (h0 : 0 ≤ num) (S : Sm names ts f b) (hb : 400 ≤ b) (hb2 : b + 111 ≤ KB) (ht : ts.length ≤ 1000) :
    ∃ ts' f' dp', m_law_grown [.tup [.lst (nmD ts), fm f, .int dp], .lst (nmD names), .int num, .int cell] = some (.ok (.tup [.lst (nmD ts'), fm f', .int dp'])) ∧ Sm names ts' f' (b + 111) ∧ ts'.length ≤ ts.length + 13 := by
  obtain ⟨us, g, et, T, hu⟩ := lterm_ok (names := names) (num := num / 16) (cell := cell) hN hd h1 h4 (Int.ediv_nonneg h0 (by decide))
  have hn : names.length ≤ 1000 := Nat.le_trans h4 (by decide)
  have Tb := T.mono hb
  have hkb : b ≤ KB := Nat.le_trans (Nat.le_add_right b 111) hb2
  have hb' : ∀ k, k ≤ 111 → b + k ≤ b + 111 := fun k hk => Nat.add_le_add_left hk b
  have t13 : ∀ k, k ≤ 13 → ts.length + k ≤ ts.length + 13 := fun k hk => Nat.add_le_add_left hk ts.length
  have hk110 : b + 110 ≤ KB := Nat.le_trans (hb' 110 (by decide)) hb2
  have kb : KB ≤ 100000 := by decide
  have lf := S.len
  have lg := T.len
  have IN : Fc names ([40] :: ts ++ [[41]]) f b := Fc.paren S
  have INt := IN.tm hkb
  have hm0 : 0 ≤ num / 16 % 4 := Int.emod_nonneg _ (by decide)
  have hm4 : num / 16 % 4 < 4 := Int.emod_lt_of_pos _ (by decide)
  have f16 := fdiv_int (i := num) (j := 16) (by decide) (by decide)
  have m4 := mod_int (i := num / 16) (j := 4) (by decide)
  have m16 := mod_int (i := num) (j := 16) (by decide)
  obtain ⟨v, hv⟩ := Int.eq_ofNat_of_zero_le hm0
  rw [hv] at m4
  have hv4 : v < 4 := by omega
  have FV := num_fc hn (v := v) (Nat.lt_trans hv4 (by decide))
  have sv := str_ok (v := v) (Nat.lt_trans hv4 (by decide))
  have pV := plain_pl names.length v
  have vV : (plF names.length v).2 = (v : Int) := rfl
  have lV : (plF names.length v).1.length = names.length := FV.len
  generalize dg v = A at FV sv
  generalize plF names.length v = P at FV pV vV lV
  have bv : Bt 110 (v : Int) := by rw [← vV]; exact FV.bf.2
  have bm : Bt 110 (-1) := by unfold Bt; decide
  have x1 := ladded_ok f g (by rw [lf]; exact hn)
  have x2 := scaled_ok (n := -1) T.bf bm (by decide) (by decide) (by rw [lg]; exact hn)
  have x3 := ladded_ok f (mulF g (-1)) (by rw [lf]; exact hn)
  have x4 := scaled_ok (n := (v : Int)) S.bf bv (Nat.le_trans hkb kb) (by decide) (by rw [lf]; exact hn)
  have x5 := scaled_ok (n := -1) S.bf bm (Nat.le_trans hkb kb) (by decide) (by rw [lf]; exact hn)
  have x6 := ladded_ok g (mulF f (-1)) (by rw [lg]; exact hn)
  have sb : gSub (.int 0) (.int 1) = some (.int (-1)) := rfl
  have hw0 : 0 ≤ num % 16 := Int.emod_nonneg _ (by decide)
  have hw8 : num % 16 < 16 := Int.emod_lt_of_pos _ (by decide)
  generalize num % 16 = W at m16 hw0 hw8
  generalize D.lst (nmD names) = N at et ⊢
  have k110 : (110 : Nat) ≤ KB := by decide
  generalize htr : D.tup [.lst (nmD ts), fm f, .int dp] = tr
  let tl (a b c d : Option D) : DSt := [some tr, some N, some (.int num), some (.int cell), some (.lst (nmD ts)), some (fm f), some (.int dp), a, b, c, d, none]
  have s1 : gAsg (gTup3 4 5 6) (fVar 0) [some tr, some N, some (.int num), some (.int cell), none, none, none, none, none, none, none, none] = some (.ok (.nx [some tr, some N, some (.int num), some (.int cell), some (.lst (nmD ts)), some (fm f), some (.int dp), none, none, none, none, none])) := by
    subst htr; rfl
  have s2 : gAsg (gTup2 7 8) (fCall m_law_term (fCons (fVar 1) (fCons (f2 gFdiv (fVar 2) (fC (.int 16))) (fCons (fVar 3) fNil)))) [some tr, some N, some (.int num), some (.int cell), some (.lst (nmD ts)), some (fm f), some (.int dp), none, none, none, none, none] = some (.ok (.nx [some tr, some N, some (.int num), some (.int cell), some (.lst (nmD ts)), some (fm f), some (.int dp), some (.lst (nmD us)), some (fm g), none, none, none])) := by
    rw [e_asg]
    simp only [stpA, Nat.reduceSub, f16, et]
    rfl
  have s3 : gSet 9 (f2 gMod (fVar 2) (fC (.int 16))) [some tr, some N, some (.int num), some (.int cell), some (.lst (nmD ts)), some (fm f), some (.int dp), some (.lst (nmD us)), some (fm g), none, none, none] = some (.ok (.nx [some tr, some N, some (.int num), some (.int cell), some (.lst (nmD ts)), some (fm f), some (.int dp), some (.lst (nmD us)), some (fm g), some (.int W), none, none])) := by
    simp only [stpA, Nat.reduceSub, m16]; rfl
  have s4 : gSet 10 (f2 gMod (f2 gFdiv (fVar 2) (fC (.int 16))) (fC (.int 4))) [some tr, some N, some (.int num), some (.int cell), some (.lst (nmD ts)), some (fm f), some (.int dp), some (.lst (nmD us)), some (fm g), some (.int W), none, none] = some (.ok (.nx [some tr, some N, some (.int num), some (.int cell), some (.lst (nmD ts)), some (fm f), some (.int dp), some (.lst (nmD us)), some (fm g), some (.int W), some (.int v), none])) := by
    simp only [stpA, Nat.reduceSub, f16, m4]; rfl
  unfold m_law_grown
  suffices h : ∃ ts' f' dp', g_law_grown [some tr, some N, some (.int num), some (.int cell), none, none, none, none, none, none, none, none] = some (.ok (.rt (.tup [.lst (nmD ts'), fm f', .int dp']))) ∧ Sm names ts' f' (b + 111) ∧ ts'.length ≤ ts.length + 13 by
    obtain ⟨ts', f', dp', e, h2, h3⟩ := h
    refine ⟨ts', f', dp', ?_, h2, h3⟩
    rw [e_mir4]
    show (g_law_grown [some tr, some N, some (.int num), some (.int cell), none, none, none, none, none, none, none, none]).b outD = _
    rw [e, M.b_ok]; rfl
  unfold g_law_grown
  rw [seq_ok s1, seq_ok s2, seq_ok s3, seq_ok s4]
  have tq : ∀ (k : Int) (y : Option D), DL.t2 gEq (fVar 9) (fC (.int k)) [some tr, some N, some (.int num), some (.int cell), some (.lst (nmD ts)), some (fm f), some (.int dp), some (.lst (nmD us)), some (fm g), some (.int W), some (.int v), y] = some (.ok (W == k)) := fun k y => by simp only [stpA, Nat.reduceSub]; rfl
  have tl9 : ∀ (y : Option D), DL.t2 gLt (fVar 9) (fC (.int 9)) [some tr, some N, some (.int num), some (.int cell), some (.lst (nmD ts)), some (fm f), some (.int dp), some (.lst (nmD us)), some (fm g), some (.int W), some (.int v), y] = some (.ok (decide (W < 9))) := fun y => by simp only [stpA, Nat.reduceSub, lt_int]; rfl
  have tor : DL.tOr (DL.t2 gLt (fVar 9) (fC (.int 6))) (DL.t2 gGt (fVar 6) (fC (.int 8))) [some tr, some N, some (.int num), some (.int cell), some (.lst (nmD ts)), some (fm f), some (.int dp), some (.lst (nmD us)), some (fm g), some (.int W), some (.int v), none] = some (.ok (decide (W < 6) || decide (8 < dp))) := by
    simp only [stpA, Nat.reduceSub, lt_int, gt_int]
    by_cases q : W < 6
    · rw [decide_eq_true q]; rfl
    · rw [decide_eq_false q]; rfl
  have c1 := fun z => catL (us := [z]) ht (Nat.le_refl 1)
  have c2 := fun z => catL (ts := ts ++ [z]) (la ht (Nat.le_refl 1)) hu
  by_cases w : (decide (W < 6) || decide (8 < dp)) = true
  · refine ⟨ts ++ [43] :: us, addF f g, dp, ?_, (S.add Tb hkb).mono (hb' 1 (by decide)), Nat.le_trans (la (Nat.le_refl _) (Nat.succ_le_succ hu)) (t13 10 (by decide))⟩
    rw [w] at tor
    exact if_take tor (by simp only [stpA, Nat.reduceSub, k_pl, c1, c2, x1, List.append_assoc]; rfl)
  rw [Bool.not_eq_true] at w
  rw [w] at tor
  rw [if_skip tor]
  by_cases w9 : W < 9
  · refine ⟨ts ++ [45] :: us, addF f (mulF g (-1)), dp, ?_, (S.sub Tb hkb).mono (hb' 1 (by decide)), Nat.le_trans (la (Nat.le_refl _) (Nat.succ_le_succ hu)) (t13 10 (by decide))⟩
    exact if_take (by rw [tl9, decide_eq_true w9]) (by simp only [stpA, Nat.reduceSub, k_mi, c1, c2, sb, x2, x3, List.append_assoc]; rfl)
  rw [if_skip (by rw [tl9, decide_eq_false w9])]
  have d1 := catL (ts := [[40]]) (us := ts) (Nat.le_refl 1) ht
  have d2 := catL (ts := [[40]] ++ ts) (us := [[41]]) (la (Nat.le_refl 1) ht) (Nat.le_refl 1)
  let I := [40] :: ts ++ [[41]]
  have hI : I.length = ts.length + 2 := by show ([40] :: ts ++ [[41]]).length = _; simp
  have hI2 : [[40]] ++ ts ++ [[41]] = I := rfl
  rw [hI2] at d2
  have s11 : gSet 11 (f2 gCat (f2 gCat (fL gLstD (fCons (fC (.str "(")) fNil)) (fVar 4)) (fL gLstD (fCons (fC (.str ")")) fNil))) [some tr, some N, some (.int num), some (.int cell), some (.lst (nmD ts)), some (fm f), some (.int dp), some (.lst (nmD us)), some (fm g), some (.int W), some (.int v), none] = some (.ok (.nx [some tr, some N, some (.int num), some (.int cell), some (.lst (nmD ts)), some (fm f), some (.int dp), some (.lst (nmD us)), some (fm g), some (.int W), some (.int v), some (.lst (nmD I))])) := by
    rw [e_set, e_2, e_2]
    simp only [stpA, Nat.reduceSub, k_op, k_cl]
    rw [d1, M.o_some, M.b_p, d2]
    rfl
  rw [seq_ok s11]
  have hIN : Fc names I f b := IN
  have hINt : Tm names I f b := INt
  clear IN INt hI2 d1 d2
  generalize I = J at hIN hINt hI ⊢
  have hJ2 : J.length ≤ ts.length + 2 := Nat.le_of_eq hI
  have hJ : J.length ≤ 1002 := Nat.le_trans hJ2 (Nat.add_le_add_right ht 2)
  by_cases w' : W = 9
  · subst w'
    have t := hINt.mul FV hkb k110 (.inr pV)
    rw [prod_right pV, vV] at t
    refine ⟨J ++ [42] :: [A], mulF f v, dp + 1, ?_, (t.sm hk110).mono (hb' 110 (by decide)), Nat.le_trans (la (b := [[42], A]) hJ2 (Nat.le_refl 2)) (t13 4 (by decide))⟩
    have q1 := catL (ts := J) (us := [[42], A]) hJ (Nat.le_refl 2)
    exact if_take (tq 9 _) (by simp only [stpA, Nat.reduceSub, sv, k_ss, q1, x4]; rfl)
  rw [if_skip (by rw [tq, beq_eq_false_iff_ne.mpr w'])]
  by_cases w' : W = 10
  · subst w'
    have t := (FV.tm k110).mul hIN k110 hkb (.inl pV)
    rw [prod_left pV (by rw [lV, lf]), vV, Nat.add_comm] at t
    refine ⟨[A] ++ [42] :: J, mulF f v, dp + 1, ?_, (t.sm hk110).mono (hb' 110 (by decide)), Nat.le_trans (lar (a := [A]) (Nat.le_refl 1) (Nat.succ_le_succ hJ2)) (t13 4 (by decide))⟩
    have q1 := catL (ts := [A, [42]]) (us := J) (Nat.le_refl 2) hJ
    exact if_take (tq 10 _) (by simp only [stpA, Nat.reduceSub, sv, k_as, q1, x4]; rfl)
  rw [if_skip (by rw [tq, beq_eq_false_iff_ne.mpr w'])]
  by_cases w' : W = 11
  · subst w'
    refine ⟨[45] :: J, mulF f (-1), dp + 1, ?_, (hINt.neg hkb).mono (hb' 0 (by decide)), Nat.le_trans (Nat.succ_le_succ hJ2) (t13 3 (by decide))⟩
    have q1 := catL (ts := [[45]]) (us := J) (Nat.le_refl 1) hJ
    exact if_take (tq 11 _) (by simp only [stpA, Nat.reduceSub, k_mi, q1, sb, x5]; rfl)
  rw [if_skip (by rw [tq, beq_eq_false_iff_ne.mpr w'])]
  by_cases w' : W = 12
  · subst w'
    have t := (Tb.neg hkb).add hINt hkb
    rw [addF_comm] at t
    refine ⟨([45] :: us) ++ [43] :: J, addF f (mulF g (-1)), dp + 1, ?_, t.mono (hb' 1 (by decide)), Nat.le_trans (lar (a := [45] :: us) (Nat.succ_le_succ hu) (Nat.succ_le_succ hJ2)) (t13 13 (by decide))⟩
    have q1 := catL (ts := [[45]]) (us := us) (Nat.le_refl 1) hu
    have q2 := catL (ts := [[45]] ++ us) (us := [[43]]) (la (Nat.le_refl 1) hu) (Nat.le_refl 1)
    have q3 := catL (ts := [[45]] ++ us ++ [[43]]) (us := J) (la (la (Nat.le_refl 1) hu) (Nat.le_refl 1)) hJ
    simp only [List.cons_append, List.nil_append, List.append_assoc] at q1 q2 q3
    exact if_take (tq 12 _) (by simp only [stpA, Nat.reduceSub, k_mi, k_pl, q1, q2, q3, sb, x2, x3]; rfl)
  rw [if_skip (by rw [tq, beq_eq_false_iff_ne.mpr w'])]
  by_cases w' : W = 13
  · subst w'
    have t := (Tb.sm hkb).sub hINt hkb
    refine ⟨us ++ [45] :: J, addF g (mulF f (-1)), dp + 1, ?_, t.mono (hb' 1 (by decide)), Nat.le_trans (lar hu (Nat.succ_le_succ hJ2)) (t13 12 (by decide))⟩
    have q1 := catL (ts := us) (us := [[45]]) hu (Nat.le_refl 1)
    have q2 := catL (ts := us ++ [[45]]) (us := J) (la hu (Nat.le_refl 1)) hJ
    simp only [List.cons_append, List.nil_append, List.append_assoc] at q1 q2
    exact if_take (tq 13 _) (by simp only [stpA, Nat.reduceSub, k_mi, q1, q2, sb, x5, x6]; rfl)
  rw [if_skip (by rw [tq, beq_eq_false_iff_ne.mpr w'])]
  by_cases w' : W = 14
  · subst w'
    refine ⟨J, f, dp + 1, ?_, (hINt.sm hkb).mono (hb' 0 (by decide)), Nat.le_trans hJ2 (t13 2 (by decide))⟩
    exact if_take (tq 14 _) (by simp only [stpA, Nat.reduceSub]; rfl)
  rw [if_skip (by rw [tq, beq_eq_false_iff_ne.mpr w'])]
  have t := (Tb.sm hkb).add hINt hkb
  rw [addF_comm] at t
  refine ⟨us ++ [43] :: J, addF f g, dp + 1, ?_, t.mono (hb' 1 (by decide)), Nat.le_trans (lar hu (Nat.succ_le_succ hJ2)) (t13 12 (by decide))⟩
  have q1 := catL (ts := us) (us := [[43]]) hu (Nat.le_refl 1)
  have q2 := catL (ts := us ++ [[43]]) (us := J) (la hu (Nat.le_refl 1)) hJ
  simp only [List.cons_append, List.nil_append, List.append_assoc] at q1 q2
  simp only [stpA, Nat.reduceSub, k_pl, q1, q2, x1]
  rfl
end
end
end MyLaw
namespace MyLaw
open PySem PySem.Spec L2 DL PySem.NumText
noncomputable section
section
variable {names : List (List Nat)}
theorem tree_ok {ns : List Int} (hN : ∀ a ∈ names, Nm a) (hd : names.Nodup) (h1 : 1 ≤ names.length) (h4 : names.length ≤ 4) :
    ∃ ts f dp b, m_law_tree [scr ns, .lst (nmD names), .int 2, .int 38] = some (.ok (.tup [.lst (nmD ts), fm f, .int dp])) ∧ Sm names ts f b ∧ ts.length ≤ 480 ∧ b ≤ 10000 := by
  have w1 := w_at (ns := ns) (k := 1) (by decide) (by decide)
  generalize atF ns 1 = x1 at w1
  have w2 := w_mix (n := x1) (p := 3) (by decide) (by decide)
  have r2 := r_mix (n := x1) (p := 3) (by decide) (by decide)
  generalize mixF x1 3 = x2 at w2 r2
  obtain ⟨us, g, et, T, hu⟩ := lterm_ok (names := names) (num := x2) (cell := x1) hN hd h1 h4 r2.1
  let ms := cutL ns (some 2) (some 38)
  have hms : ms.length ≤ 36 := by
    show (cutL ns (some 2) (some 38)).length ≤ 36
    unfold cutL
    rw [List.length_take]
    have : HT.sIx ns.length 0 (some 2) = min 2 ns.length := rfl
    have : HT.sIx ns.length ns.length (some 38) = min 38 ns.length := rfl
    omega
  have hcut : cutD (scr ns) (some 2) (some 38) = some (.lst (ms.map .int)) := by
    show some (D.lst (cutL (ns.map D.int) (some 2) (some 38))) = _
    show some (D.lst (cutL (ns.map D.int) (some 2) (some 38))) = some (D.lst ((cutL ns (some 2) (some 38)).map D.int))
    unfold cutL
    rw [List.length_map, List.map_take, List.map_drop]
  generalize ms = ms' at hms hcut
  obtain ⟨δ', e, ts, f, dp, z, hδ, S, hl⟩ := for_nth (g := b1_law_tree) (tg := DL.gName 7) (ms'.map D.int) (fun j δ => ∃ ts f dp z, δ = [some (scr ns), some (.lst (nmD names)), some (.int 2), some (.int 38), some (.lst (nmD us)), some (fm g), some (.tup [.lst (nmD ts), fm f, .int dp]), z] ∧ Sm names ts f (400 + 111 * j) ∧ ts.length ≤ 9 + 13 * j) (fun j hj δ ⟨ts, f, dp, z, hδ, S, hl⟩ => by
    subst hδ
    have hj' : j < ms'.length := by simpa using hj
    have w3 := w_mix (n := ms'[j]) (p := 4) (by decide) (by decide)
    have r3 := r_mix (n := ms'[j]) (p := 4) (by decide) (by decide)
    have hg : (ms'.map D.int)[j] = .int ms'[j] := by simp
    rw [hg]
    generalize ms'[j] = y at w3 r3
    generalize mixF y 4 = x4 at w3 r3
    have kb : KB = 90000 := rfl
    obtain ⟨ts', f', dp', eg, S', hl'⟩ := grown_ok (cell := y) (dp := dp) hN hd h1 h4 r3.1 S (by exact Nat.le_add_right _ _) (by omega) (by omega)
    refine ⟨_, rfl, [some (scr ns), some (.lst (nmD names)), some (.int 2), some (.int 38), some (.lst (nmD us)), some (fm g), some (.tup [.lst (nmD ts'), fm f', .int dp']), some (.int y)], .inl ?_, ts', f', dp', _, rfl, S'.mono (by exact Nat.le_refl _), by omega⟩
    unfold b1_law_tree
    simp only [stpA, Nat.reduceSub, w3, eg]
    rfl) [some (scr ns), some (.lst (nmD names)), some (.int 2), some (.int 38), some (.lst (nmD us)), some (fm g), some (.tup [.lst (nmD us), fm g, .int 1]), none] ⟨us, g, 1, none, rfl, (T.sm (by decide)), by assumption⟩
  subst hδ
  rw [List.length_map] at S hl
  refine ⟨ts, f, dp, _, ?_, S, by omega, by omega⟩
  have s1 : gAsg (gTup2 4 5) (fCall m_law_term (fCons (fVar 1) (fCons (fCall m_law_mix (fCons (fCall m_law_at (fCons (fVar 0) (fCons (fC (.int 1)) fNil))) (fCons (fC (.int 3)) fNil))) (fCons (fCall m_law_at (fCons (fVar 0) (fCons (fC (.int 1)) fNil))) fNil)))) [some (scr ns), some (.lst (nmD names)), some (.int 2), some (.int 38), none, none, none, none] = some (.ok (.nx [some (scr ns), some (.lst (nmD names)), some (.int 2), some (.int 38), some (.lst (nmD us)), some (fm g), none, none])) := by
    rw [e_asg]
    simp only [stpA, Nat.reduceSub, w1, w2, et]
    rfl
  have s2 : gSet 6 (fL gTupD (fCons (fVar 4) (fCons (fVar 5) (fCons (fC (.int 1)) fNil)))) [some (scr ns), some (.lst (nmD names)), some (.int 2), some (.int 38), some (.lst (nmD us)), some (fm g), none, none] = some (.ok (.nx [some (scr ns), some (.lst (nmD names)), some (.int 2), some (.int 38), some (.lst (nmD us)), some (fm g), some (.tup [.lst (nmD us), fm g, .int 1]), none])) := by
    simp only [stpA, Nat.reduceSub]; rfl
  have s3 : gFor (iSeqD (fSl (fVar 0) (oSome (fVar 2)) (oSome (fVar 3)))) (DL.gName 7) b1_law_tree [some (scr ns), some (.lst (nmD names)), some (.int 2), some (.int 38), some (.lst (nmD us)), some (fm g), some (.tup [.lst (nmD us), fm g, .int 1]), none] = some (.ok (.nx [some (scr ns), some (.lst (nmD names)), some (.int 2), some (.int 38), some (.lst (nmD us)), some (fm g), some (.tup [.lst (nmD ts), fm f, .int dp]), z])) := by
    have sl := sl_ok (fa := fVar 0) (fl := oSome (fVar 2)) (fh := oSome (fVar 3)) (δ := [some (scr ns), some (.lst (nmD names)), some (.int 2), some (.int 38), some (.lst (nmD us)), some (fm g), some (.tup [.lst (nmD us), fm g, .int 1]), none]) rfl rfl rfl hcut
    rw [e_for, e_iseq, sl, M.b_p, seq_l, M.o_some, M.b_p, e]
  unfold m_law_tree
  rw [e_mir4]
  show (g_law_tree [some (scr ns), some (.lst (nmD names)), some (.int 2), some (.int 38), none, none, none, none]).b outD = _
  unfold g_law_tree
  rw [seq_ok s1, seq_ok s2, seq_ok s3]
  rfl
noncomputable def rp : List (Nat × List Nat) → List Nat
  | [] => []
  | (k, a) :: s => List.replicate k 32 ++ (a ++ rp s)
theorem rp_app (s t : List (Nat × List Nat)) : rp (s ++ t) = rp s ++ rp t := by
  induction s with
  | nil => rfl
  | cons q s ih => obtain ⟨k, a⟩ := q; simp [rp, ih, List.append_assoc]
theorem render_rp (p : Nat) : ∀ s : List (Nat × List Nat), render s p = rp s ++ List.replicate p 32
  | [] => rfl
  | (k, a) :: s => by simp [render, rp, render_rp p s, List.append_assoc]
theorem sp_mul {n : Int} (h : n = 0 ∨ n = 1 ∨ n = 2) : gMulT (.str " ") (.int n) = some (.str (St (List.replicate n.toNat 32))) := by
  have e : gMulT (.str " ") (.int n) = some (.str (Txt.mul (Str.ofString " ") n)) := by
    show (if (Str.ofString " ").length ≤ 4096 ∧ -4096 ≤ n ∧ n ≤ 4096 then some (D.str (Txt.mul (Str.ofString " ") n)) else none) = _
    rw [if_pos ⟨by decide +kernel, by omega, by omega⟩]
  rw [e]
  rcases h with rfl | rfl | rfl <;> congr 2 <;> decide +kernel
theorem written_ok {ts : List (List Nat)} {num : Int} (hl : ts.length ≤ 480) (ht : ∀ a ∈ ts, a.length ≤ 40) (h0 : 0 ≤ num) :
    ∃ (segs : List (Nat × List Nat)) (p : Nat) (x : Str), m_law_written [.lst (nmD ts), .int num] = some (.ok (.str x)) ∧ x.cps.toList = render segs p ∧ segs.map (·.2) = ts ∧ x.length ≤ 50000 := by
  obtain ⟨δ', e, segs, z, hδ, h1, h2⟩ := for_nth (g := b1_law_written) (tg := DL.gName 3) (rangeD 0 ts.length) (fun j δ => ∃ (segs : List (Nat × List Nat)) (z : Option D), δ = [some (.lst (nmD ts)), some (.int num), some (.str (St (rp segs))), z] ∧ segs.map (·.2) = ts.take j ∧ (rp segs).length ≤ 42 * j) (fun j hj δ ⟨segs, z, hδ, h1, h2⟩ => by
    subst hδ
    have hj' : j < ts.length := by simpa using hj
    have w := w_mix (n := num) (p := 0 + (j : Nat)) (by exact Int.natCast_nonneg _) (by omega)
    generalize mixF num (0 + (j : Nat)) = mx at w
    have m6 := mod_int (i := mx) (j := 6) (by decide)
    have r1 := Int.emod_nonneg mx (show (6 : Int) ≠ 0 by decide)
    have r2 := Int.emod_lt_of_pos mx (show (0 : Int) < 6 by decide)
    obtain ⟨n, hn, g⟩ : ∃ n : Int, (n = 0 ∨ n = 1 ∨ n = 2) ∧ gIx (.lst [.int 0, .int 0, .int 1, .int 1, .int 0, .int 2]) (.int (mx % 6)) = some (.int n) := by
      generalize mx % 6 = q at r1 r2
      have : q = 0 ∨ q = 1 ∨ q = 2 ∨ q = 3 ∨ q = 4 ∨ q = 5 := by omega
      rcases this with rfl | rfl | rfl | rfl | rfl | rfl
      · exact ⟨0, .inl rfl, rfl⟩
      · exact ⟨0, .inl rfl, rfl⟩
      · exact ⟨1, .inr (.inl rfl), rfl⟩
      · exact ⟨1, .inr (.inl rfl), rfl⟩
      · exact ⟨0, .inl rfl, rfl⟩
      · exact ⟨2, .inr (.inr rfl), rfl⟩
    have sm := sp_mul hn
    have hn2 : n.toNat ≤ 2 := by rcases hn with rfl | rfl | rfl <;> decide
    have lr : (rp segs).length ≤ 20160 := by omega
    generalize n.toNat = k at sm hn2
    have ha := ht _ (List.getElem_mem hj')
    have ix : gIx (.lst (nmD ts)) (.int (0 + (j : Nat))) = some (.str (St ts[j])) := by
      rw [ix_l, Int.zero_add]
      exact DL.atI_get (by simp [nmD, hj'])
    have c1 := cat_st (a := rp segs) (b := List.replicate k 32) (by rw [List.length_replicate]; exact Nat.le_trans (Nat.add_le_add lr hn2) (by decide))
    have c2 := cat_st (a := rp segs ++ List.replicate k 32) (b := ts[j]) (by rw [List.length_append, List.length_replicate]; exact Nat.le_trans (Nat.add_le_add (Nat.add_le_add lr hn2) ha) (by decide))
    have l6 : gLstD [D.int 0, D.int 0, D.int 1, D.int 1, D.int 0, D.int 2] = some (.lst [.int 0, .int 0, .int 1, .int 1, .int 0, .int 2]) := rfl
    refine ⟨[some (.lst (nmD ts)), some (.int num), some (.str (St (rp segs))), some (.int (0 + (j : Nat)))], by rw [rangeD_get]; rfl, [some (.lst (nmD ts)), some (.int num), some (.str (St (rp (segs ++ [(k, ts[j])])))), some (.int (0 + (j : Nat)))], .inl ?_, segs ++ [(k, ts[j])], _, rfl, ?_, ?_⟩
    · unfold b1_law_written
      have : rp (segs ++ [(k, ts[j])]) = rp segs ++ List.replicate k 32 ++ ts[j] := by rw [rp_app]; simp [rp]
      rw [this]
      generalize ts[j] = tj at ix c2
      simp only [stpA, Nat.reduceSub, w, m6, l6, g, sm, c1, ix, c2]
      rfl
    · rw [List.map_append, h1, List.take_succ, List.getElem?_eq_getElem hj']
      rfl
    · rw [rp_app]
      simp [rp]
      omega) [some (.lst (nmD ts)), some (.int num), some (.str (St (rp []))), none] ⟨[], none, rfl, by simp, by simp [rp]⟩
  subst hδ
  rw [rangeD_len] at h1 h2
  rw [List.take_length] at h1
  have m7 := mod_int (i := num) (j := 7) (by decide)
  have d5 := fdiv_int (i := num % 7) (j := 5) (by decide) (by decide)
  have r1 := Int.emod_nonneg num (show (7 : Int) ≠ 0 by decide)
  have r2 := Int.emod_lt_of_pos num (show (0 : Int) < 7 by decide)
  have hp : num % 7 / 5 = 0 ∨ num % 7 / 5 = 1 ∨ num % 7 / 5 = 2 := by omega
  have sm := sp_mul hp
  have hp2 : (num % 7 / 5).toNat ≤ 2 := by rcases hp with h | h | h <;> rw [h] <;> decide
  have lr : (rp segs).length + (num % 7 / 5).toNat ≤ 20162 := by omega
  refine ⟨segs, (num % 7 / 5).toNat, St (rp segs ++ List.replicate (num % 7 / 5).toNat 32), ?_, by rw [render_rp]; simp [St], h1, by rw [st_len, List.length_append, List.length_replicate]; exact Nat.le_trans lr (by decide)⟩
  have c1 := cat_st (a := rp segs) (b := List.replicate (num % 7 / 5).toNat 32) (by rw [List.length_replicate]; exact Nat.le_trans lr (by decide))
  unfold m_law_written
  rw [e_mir2]
  show (g_law_written [some (.lst (nmD ts)), some (.int num), none, none]).b outD = _
  unfold g_law_written
  have s1 : gSet 2 (fC (.str "")) [some (.lst (nmD ts)), some (.int num), none, none] = some (.ok (.nx [some (.lst (nmD ts)), some (.int num), some (.str (St (rp []))), none])) := rfl
  have s2 : gFor (iArgs rangeArgs (fCons (fL kLen (fCons (fVar 0) fNil)) fNil)) (DL.gName 3) b1_law_written [some (.lst (nmD ts)), some (.int num), some (.str (St (rp []))), none] = some (.ok (.nx [some (.lst (nmD ts)), some (.int num), some (.str (St (rp segs))), z])) := by
    have t0 : (((ts.length : Nat) : Int)).toNat = ts.length := Int.toNat_natCast _
    simp only [stpA, Nat.reduceSub, len_l, nm_len, range1, t0]
    exact e
  rw [seq_ok s1, seq_ok s2]
  simp only [stpA, Nat.reduceSub, m7, d5, sm, c1]
  rfl
end
end
end MyLaw
namespace MyLaw
open PySem PySem.Spec L2 DL PySem.NumText
noncomputable section
theorem ok_ints : ∀ ns : List Int, okDs (ns.map D.int) = true
  | [] => by unfold okDs; rfl
  | n :: ns => by rw [List.map_cons]; unfold okDs; rw [ok_ints ns]; unfold okD; rfl
theorem dep_ints : ∀ ns : List Int, depDs (ns.map D.int) = 0
  | [] => by unfold depDs; rfl
  | n :: ns => by rw [List.map_cons]; unfold depDs; rw [dep_ints ns]; unfold depD; rfl
theorem ok_strs : ∀ ns : List (List Nat), okDs (nmD ns) = true
  | [] => by unfold nmD okDs; rfl
  | n :: ns => by
    show okDs (D.str (St n) :: nmD ns) = true
    unfold okDs; rw [ok_strs ns]; unfold okD; rfl
theorem dep_strs : ∀ ns : List (List Nat), depDs (nmD ns) = 0
  | [] => by unfold nmD depDs; rfl
  | n :: ns => by
    show depDs (D.str (St n) :: nmD ns) = 0
    unfold depDs; rw [dep_strs ns]; unfold depD; rfl
theorem ok_fm (f : Fm) : okD (fm f) = true ∧ depD (fm f) ≤ 20 := by
  unfold fm
  constructor
  · simp [okD, okDs, ok_ints]
  · simp [depD, depDs, dep_ints]
theorem ne_fm (f : Fm) : gNe (fm f) (fm f) = some (.bl false) := by
  unfold gNe
  rw [if_pos (by rw [(ok_fm f).1, decide_eq_true (ok_fm f).2]; rfl), eqB_refl _ (ok_fm f).1]
  rfl
theorem eq_names (ns : List (List Nat)) : gEq (.lst (nmD ns)) (.lst (nmD ns)) = some (.bl true) :=
  eq_same (by simp [okD, ok_strs]) (by simp [depD, dep_strs])
theorem comp_none {tc : DSt → M Bool} {fe : DSt → M D} {c : DSt} : ∀ (ns : List Int) (x : Option D), (∀ (n : Int), tc (some (.int n) :: c) = some (.ok false)) → compD (DL.gName 0) tc fe (ns.map D.int) (x :: c) = some []
  | [], _, _ => rfl
  | n :: ns, x, h => by
    rw [List.map_cons]
    unfold compD
    have e1 : DL.gName 0 (.int n) (x :: c) = some (some (.int n) :: c) := rfl
    rw [e1]
    dsimp only
    rw [h n]
    exact comp_none ns _ h
theorem whole_int (n : Int) : m_law_whole [.int n] = some (.ok (.bl true)) := by
  unfold m_law_whole
  rw [e_mir1]
  unfold g_law_whole
  simp only [stpA, Nat.reduceSub, e_and, isi_int_int, isi_int_bool, andB_t, Bool.not_false]
  rfl
theorem isform_ok {f : Fm} (h1 : 1 ≤ f.1.length) (h2 : f.1.length ≤ 1000) : m_law_is_form [fm f, fm f] = some (.ok (.bl true)) := by
  unfold m_law_is_form
  rw [e_mir2]
  show (g_law_is_form [some (fm f), some (fm f)]).b outD = _
  unfold g_law_is_form
  have i1 : kIsi [fm f, .ty "tuple"] = some (.bl true) := rfl
  have i2 : kLen [fm f] = some (.int 2) := rfl
  have i3 : gIx (fm f) (.int 0) = some (.tup (f.1.map .int)) := by unfold fm; simp
  have i4 := fm1 f
  have i5 := isi_tup_tuple (f.1.map D.int)
  have i6 := ne_fm f
  have t : DL.tOr (DL.tNot (tTru (fL kIsi (fCons (fVar 0) (fCons (fC (.ty "tuple")) fNil))))) (DL.tOr (DL.t2 gNe (fL kLen (fCons (fVar 0) fNil)) (fC (.int 2))) (DL.tOr (DL.tNot (tTru (fL kIsi (fCons (f2 gIx (fVar 0) (fC (.int 0))) (fCons (fC (.ty "tuple")) fNil))))) (DL.t2 gNe (fVar 0) (fVar 1)))) [some (fm f), some (fm f)] = some (.ok false) := by
    generalize fm f = F at i1 i2 i3 i4 i6
    simp only [stpA, Nat.reduceSub, i1, i2, i3, i5, i6, ne_int, Bool.not_true]
    rfl
  rw [if_skip t]
  have c : gCat (.tup (f.1.map .int)) (.tup [.int f.2]) = some (.tup ((f.1 ++ [f.2]).map .int)) := by
    rw [cat_tup (by rw [List.length_map, sizeLine_eq]; simp; exact Nat.le_trans (by assumption) (by decide)) (by intro z; have := congrArg List.length z; simp at this; rw [this] at h1; simp at h1) (by simp), List.map_append]
    rfl
  have tw : ∀ n : Int, DL.tNot (tTru (fCall m_law_whole (fCons (fVar 0) fNil))) [some (.int n)] = some (.ok false) := fun n => by
    simp only [stpA, Nat.reduceSub, whole_int, Bool.not_true]; rfl
  have cn := comp_none (fe := c1_law_is_form) (c := []) (f.1 ++ [f.2]) none tw
  have t1 : gTupD [.int f.2] = some (.tup [.int f.2]) := rfl
  generalize fm f = F at i3 i4
  simp only [stpA, Nat.reduceSub, i3, i4, t1, c, cn, len_l]
  rfl
theorem lseq {g : DSt → M Out} {g2 : DSt → MS Out} {δ δ' : DSt} {Ω : Sto} (h : g δ = some (.ok (.nx δ'))) : eSeq (lF g) g2 δ Ω = g2 δ' Ω := by
  rw [s_seq, s_b, s_lF, h, s_lok, s_bok, seqS_nx]
theorem eseq {g g2 : DSt → MS Out} {δ δ' : DSt} {Ω Ω' : Sto} (h : g δ Ω = some (.ok (.nx δ'), Ω')) : eSeq g g2 δ Ω = g2 δ' Ω' := by
  rw [s_seq, s_b, h, s_bok, seqS_nx]
theorem law_true (ns : List Int) (hns : ns.length ≤ 63) : ∃ Ω, m_law [.lst (ns.map .int)] [] = some (.ok (.bl true), Ω) := by
  have w0 := w_at (ns := ns) (k := 0) (by decide) (by decide)
  generalize atF ns 0 = x0 at w0
  have w1 := w_mix (n := x0) (p := 1) (by decide) (by decide)
  have r1 := r_mix (n := x0) (p := 1) (by decide) (by decide)
  generalize mixF x0 1 = x1 at w1 r1
  obtain ⟨names, e2, hN, hd, h1, h4⟩ := names_ok r1.1
  obtain ⟨ts, f, dp, b, e3, S, hl, hb⟩ := tree_ok (names := names) (ns := ns) hN hd h1 h4
  obtain ⟨segs, p, x, e4, hx, hseg, hxl⟩ := written_ok (num := x1) hl (fun a ha => let ⟨c, r, _, _, q⟩ := S.toks a ha; q) r1.1
  have hn : names.length ≤ 1000 := by exact Nat.le_trans (by assumption) (by decide)
  have A : Acc (segs.map (·.2)) "beginning" 0 := by
    rw [hseg]
    have := S.acc [] 0 .done
    rwa [List.append_nil] at this
  have hsl : segs.length ≤ 100000 := by have := congrArg List.length hseg; simp at this; omega
  have rd : ∀ Ω, ∃ Ω', m_read_sum [.lst (nmD names), .str x] Ω = some (.ok (fm f), Ω') := fun Ω =>
    read_ok hn hx hxl A hsl (fun q hq => by
      have : q.2 ∈ ts := by rw [← hseg]; exact List.mem_map_of_mem hq
      obtain ⟨c, r, e, m, l⟩ := S.toks _ this
      rw [e] at m l
      exact ⟨c, r, e, m, by simp at l; exact Nat.le_trans (by assumption) (by decide)⟩) (by
      have := S.ok
      rw [← hseg, List.map_map] at this
      exact this) Ω
  have isf := isform_ok (f := f) (by rw [S.len]; exact h1) (by rw [S.len]; exact hn)
  obtain ⟨Ω1, q1⟩ := rd []
  obtain ⟨Ω2, q2⟩ := rd Ω1
  refine ⟨Ω2, ?_⟩
  have eqn := eq_names names
  have kl : kList [.lst (nmD names)] = some (.lst (nmD names)) := list_l _
  generalize D.lst (nmD names) = N at e2 e3 q1 q2 eqn rd kl
  let R := scr ns
  let δ6 (z : Option D) : DSt := [some (scr ns), some (.int x1), some N, some (.lst (nmD ts)), some (fm f), some (.int dp), some (.str x), some N, z]
  have s1 : gSet 1 (fCall m_law_mix (fCons (fCall m_law_at (fCons (fVar 0) (fCons (fC (.int 0)) fNil))) (fCons (fC (.int 1)) fNil))) [some (scr ns), none, none, none, none, none, none, none, none] = some (.ok (.nx [some (scr ns), some (.int x1), none, none, none, none, none, none, none])) := by
    simp only [stpA, Nat.reduceSub, w0, w1]; rfl
  have s2 : gSet 2 (fCall m_law_names (fCons (fVar 1) (fCons (fC (.int 4)) fNil))) [some (scr ns), some (.int x1), none, none, none, none, none, none, none] = some (.ok (.nx [some (scr ns), some (.int x1), some N, none, none, none, none, none, none])) := by
    simp only [stpA, Nat.reduceSub, e2]; rfl
  have s3 : gAsg (gTup3 3 4 5) (fCall m_law_tree (fCons (fVar 0) (fCons (fVar 2) (fCons (fC (.int 2)) (fCons (fC (.int 38)) fNil))))) [some (scr ns), some (.int x1), some N, none, none, none, none, none, none] = some (.ok (.nx [some (scr ns), some (.int x1), some N, some (.lst (nmD ts)), some (fm f), some (.int dp), none, none, none])) := by
    rw [e_asg]
    simp only [stpA, Nat.reduceSub, e3]; rfl
  have s4 : gSet 6 (fCall m_law_written (fCons (fVar 3) (fCons (fVar 1) fNil))) [some (scr ns), some (.int x1), some N, some (.lst (nmD ts)), some (fm f), some (.int dp), none, none, none] = some (.ok (.nx [some (scr ns), some (.int x1), some N, some (.lst (nmD ts)), some (fm f), some (.int dp), some (.str x), none, none])) := by
    simp only [stpA, Nat.reduceSub, e4]; rfl
  have s5 : gSet 7 (fL kList (fCons (fVar 2) fNil)) [some (scr ns), some (.int x1), some N, some (.lst (nmD ts)), some (fm f), some (.int dp), some (.str x), none, none] = some (.ok (.nx (δ6 none))) := by
    simp only [stpA, Nat.reduceSub, kl]; rfl
  have bd : ∀ (z : Option D) (Ω Ω' : Sto), m_read_sum [N, .str x] Ω = some (.ok (fm f), Ω') → b1_law (δ6 z) Ω = some (.ok (.nx (δ6 z)), Ω') := fun z Ω Ω' q => by
    unfold b1_law
    have l1 : lF (fCons (fVar 7) (fCons (fVar 6) fNil)) (δ6 z) Ω = some (.ok [N, .str x], Ω) := rfl
    have l2 : lF (fCons (fVar 4) fNil) (δ6 z) Ω' = some (.ok [fm f], Ω') := rfl
    have c : mCall m_read_sum (lF (fCons (fVar 7) (fCons (fVar 6) fNil))) (δ6 z) Ω = some (.ok (fm f), Ω') := by rw [s_call, s_b, l1, s_bok, q]
    have a : mCons (mCall m_read_sum (lF (fCons (fVar 7) (fCons (fVar 6) fNil)))) (lF (fCons (fVar 4) fNil)) (δ6 z) Ω = some (.ok [fm f, fm f], Ω') := by rw [s_cons, s_b, c, s_bok, s_b, l2, s_bok]; rfl
    have d : mCallP m_law_is_form (mCons (mCall m_read_sum (lF (fCons (fVar 7) (fCons (fVar 6) fNil)))) (lF (fCons (fVar 4) fNil))) (δ6 z) Ω = some (.ok (.bl true), Ω') := by rw [s_callP, s_b, a, s_bok, isf]; rfl
    rw [s_if, s_b, s_not, s_b, s_tru, s_b, d, s_bok, tru_bl, s_o, s_bok, s_p, s_bok, if_neg (by decide)]
    rfl
  have lp : eFor (lF (iArgs rangeArgs (fCons (fC (.int 2)) fNil))) (DL.gName 8) b1_law (δ6 none) [] = some (.ok (.nx (δ6 (some (.int 1)))), Ω2) := by
    have it : lF (iArgs rangeArgs (fCons (fC (.int 2)) fNil)) (δ6 none) [] = some (.ok [.int 0, .int 1], []) := rfl
    rw [s_for, s_b, it, s_bok]
    rw [forE_cons (δ1 := δ6 (some (.int 0))) rfl (bd _ _ _ q1), forE_cons (δ1 := δ6 (some (.int 1))) rfl (bd _ _ _ q2)]
    rfl
  have fin : lF (gRet (f2 gEq (fVar 7) (fVar 2))) (δ6 (some (.int 1))) Ω2 = some (.ok (.rt (.bl true)), Ω2) := by
    have : gRet (f2 gEq (fVar 7) (fVar 2)) (δ6 (some (.int 1))) = some (.ok (.rt (.bl true))) := by
      show gRet (f2 gEq (fVar 7) (fVar 2)) [some (scr ns), some (.int x1), some N, some (.lst (nmD ts)), some (fm f), some (.int dp), some (.str x), some N, some (.int 1)] = _
      simp only [stpA, Nat.reduceSub, eqn]; rfl
    rw [s_lF, this, s_lok]
  unfold m_law
  rw [s_mir1]
  show ((g_law [some (scr ns), none, none, none, none, none, none, none, none]).b outE) [] = _
  unfold g_law
  rw [s_b, lseq s1, lseq s2, lseq s3, lseq s4, lseq s5, eseq lp, fin, s_bok]
  rfl
end
end MyLaw
set_option maxRecDepth 100000 in
set_option maxHeartbeats 0 in
theorem PySem.Challenge.cw_apartbook_k01_sums_read_holds : PySem.Challenge.rw_apartbook_k01_sums_read.Holds := by
  w_on; o_law; z_head; (case hw => w_witness2)
  k_fill
  refine MyLaw.walkZ (l := PySem.Challenge.rw_apartbook_k01_sums_read) (fun P => rfl) rfl rfl ?F MyLaw.law_true
  case F =>
    intro w mg fa h KX G hmg
    refine' ⟨?T, hmg⟩
    case T =>
      refine' MyLaw.txt_mk KX G ?ca_OpenSum ?cp_OpenSum ?cq_OpenSum ?cr_OpenSum ?cs_OpenSum ?cf0_OpenSum ?cf1_OpenSum ?cf2_OpenSum ?cf3_OpenSum ?a0 ?l0 ?c0 ?k0 ?a1 ?l1 ?c1 ?k1 ?a2 ?l2 ?c2 ?k2 ?a3 ?l3 ?c3 ?k3 ?a4 ?l4 ?c4 ?k4 ?a5 ?l5 ?c5 ?k5 ?a6 ?l6 ?c6 ?k6 ?a7 ?l7 ?c7 ?k7 ?a8 ?l8 ?c8 ?k8 ?a9 ?l9 ?c9 ?k9 ?a10 ?l10 ?c10 ?k10 ?a11 ?l11 ?c11 ?k11 ?a12 ?l12 ?c12 ?k12 ?a13 ?l13 ?c13 ?k13 ?a14 ?l14 ?c14 ?k14 ?a15 ?l15 ?c15 ?k15 ?a16 ?l16 ?c16 ?k16 ?a17 ?l17 ?c17 ?k17 ?a18 ?l18 ?c18 ?k18 ?a19 ?l19 ?c19 ?k19 ?a20 ?l20 ?c20 ?k20 ?a21 ?l21 ?c21 ?k21 ?a22 ?b22 ?l22 ?c22 ?k22 ?a23 ?b23 ?i23 ?j23 ?l23 ?c23 ?k23 ?a24 ?l24 ?c24 ?k24 ?a25 ?l25 ?c25 ?k25 ?a26 ?l26 ?c26 ?k26 ?a27 ?b27 ?l27 ?c27 ?k27 ?a28 ?b28 ?l28 ?c28 ?k28 ?a29 ?l29 ?c29 ?k29 ?a30 ?l30 ?c30 ?k30 ?a31 ?l31 ?c31 ?k31 ?a32 ?l32 ?c32 ?k32 ?a33 ?l33 ?c33 ?k33 ?a34 ?l34 ?c34 ?k34 ?y0 ?y1 ?y2 ?y3 ?y4 ?y5 ?z0 ?z1 ?z2 ?z3 ?z4 ?z5 ?z6 ?z7 ?z8 ?z9
      (case ca_OpenSum => k_is); (case cp_OpenSum => k_is); (case cq_OpenSum => k_is); (case cr_OpenSum => k_is); (case cs_OpenSum => k_is); (case cf0_OpenSum => k_is); (case cf1_OpenSum => k_is); (case cf2_OpenSum => k_is)
      (case cf3_OpenSum => k_is); (case a0 => k_is); (case l0 => k_is); (case c0 => k_is); (case k0 => k_is); (case a1 => k_is); (case l1 => k_is); (case c1 => k_is)
      (case k1 => k_is); (case a2 => k_is); (case l2 => k_is); (case c2 => k_is); (case k2 => k_is); (case a3 => k_is); (case l3 => k_is); (case c3 => k_is)
      (case k3 => k_is); (case a4 => k_is); (case l4 => k_is); (case c4 => k_is); (case k4 => k_is); (case a5 => k_is); (case l5 => k_is); (case c5 => k_is)
      (case k5 => k_is); (case a6 => k_is); (case l6 => k_is); (case c6 => k_is); (case k6 => k_is); (case a7 => k_is); (case l7 => k_is); (case c7 => k_is)
      (case k7 => k_is); (case a8 => k_is); (case l8 => k_is); (case c8 => k_is); (case k8 => k_is); (case a9 => k_is); (case l9 => k_is); (case c9 => k_is)
      (case k9 => k_is); (case a10 => k_is); (case l10 => k_is); (case c10 => k_is); (case k10 => k_is); (case a11 => k_is); (case l11 => k_is); (case c11 => k_is)
      (case k11 => k_is); (case a12 => k_is); (case l12 => k_is); (case c12 => k_is); (case k12 => k_is); (case a13 => k_is); (case l13 => k_is); (case c13 => k_is)
      (case k13 => k_is); (case a14 => k_is); (case l14 => k_is); (case c14 => k_is); (case k14 => k_is); (case a15 => k_is); (case l15 => k_is); (case c15 => k_is)
      (case k15 => k_is); (case a16 => k_is); (case l16 => k_is); (case c16 => k_is); (case k16 => k_is); (case a17 => k_is); (case l17 => k_is); (case c17 => k_is)
      (case k17 => k_is); (case a18 => k_is); (case l18 => k_is); (case c18 => k_is); (case k18 => k_is); (case a19 => k_is); (case l19 => k_is); (case c19 => k_is)
      (case k19 => k_is); (case a20 => k_is); (case l20 => k_is); (case c20 => k_is); (case k20 => k_is); (case a21 => k_is); (case l21 => k_is); (case c21 => k_is)
      (case k21 => k_is); (case a22 => k_is); (case b22 => k_is); (case l22 => k_is); (case c22 => k_is); (case k22 => k_is); (case a23 => k_is); (case b23 => k_is)
      (case i23 => k_is); (case j23 => k_is); (case l23 => k_is); (case c23 => k_is); (case k23 => k_is); (case a24 => k_is); (case l24 => k_is); (case c24 => k_is)
      (case k24 => k_is); (case a25 => k_is); (case l25 => k_is); (case c25 => k_is); (case k25 => k_is); (case a26 => k_is); (case l26 => k_is); (case c26 => k_is)
      (case k26 => k_is); (case a27 => k_is); (case b27 => k_is); (case l27 => k_is); (case c27 => k_is); (case k27 => k_is); (case a28 => k_is); (case b28 => k_is)
      (case l28 => k_is); (case c28 => k_is); (case k28 => k_is); (case a29 => k_is); (case l29 => k_is); (case c29 => k_is); (case k29 => k_is); (case a30 => k_is)
      (case l30 => k_is); (case c30 => k_is); (case k30 => k_is); (case a31 => k_is); (case l31 => k_is); (case c31 => k_is); (case k31 => k_is); (case a32 => k_is)
      (case l32 => k_is); (case c32 => k_is); (case k32 => k_is); (case a33 => k_is); (case l33 => k_is); (case c33 => k_is); (case k33 => k_is); (case a34 => k_is)
      (case l34 => k_is); (case c34 => k_is); (case k34 => k_is); (case y0 => k_is); (case y1 => k_is); (case y2 => k_is); (case y3 => k_is); (case y4 => k_is)
      (case y5 => k_is); (case z0 => k_is); (case z1 => k_is); (case z2 => k_is); (case z3 => k_is); (case z4 => k_is); (case z5 => k_is); (case z6 => k_is)
      (case z7 => k_is); (case z8 => k_is); (case z9 => k_is)
