/-
  The curve y y = x x x + x over Fin P, and that its points are a group:
  they are told in points of x x + y y + x x y y = 1, whose sums have one rule.
-/
import Derived.Test.YtlimcjpnendcdaaFrob
namespace Ob
set_option linter.unusedVariables false
set_option linter.unusedSimpArgs false

def fpow (x : Fin P) : Nat → Fin P
  | 0 => 1
  | n + 1 => fpow x n * x
theorem fpow_val (x : Fin P) (n : Nat) : (fpow x n).val = x.val ^ n % P := by
  induction n with
  | zero => rfl
  | succ n ih =>
    show (fpow x n * x).val = _
    rw [Fin.val_mul, ih, Nat.pow_succ, Nat.mod_mul_mod]
theorem fpow_add (x : Fin P) (m n : Nat) : fpow x (m + n) = fpow x m * fpow x n := by
  induction n with
  | zero => show fpow x m = fpow x m * 1; grobner
  | succ n ih => show fpow x (m + n) * x = fpow x m * (fpow x n * x); rw [ih]; grobner
theorem F_ne {a : Fin P} (h : a ≠ 0) : a.val % P ≠ 0 := fun e => h (Fin.ext (by rw [← Nat.mod_eq_of_lt a.isLt]; exact e))
theorem fermatF (x : Fin P) (h : x ≠ 0) : fpow x (P - 1) = 1 := by
  apply Fin.ext
  rw [fpow_val]
  exact lucasP.fermat _ (F_ne h)

def finv (x : Fin P) : Fin P := fpow x (P - 2)
theorem finv_mul {x : Fin P} (h : x ≠ 0) : x * finv x = 1 := by
  have e := fermatF x h
  have e2 : P - 1 = (P - 2) + 1 := by decide +kernel
  rw [e2] at e
  have e3 : fpow x ((P - 2) + 1) = finv x * x := rfl
  rw [e3] at e
  rw [← e]; generalize finv x = i; grobner
theorem finv_val (x : Fin P) : (finv x).val = x.val ^ (P - 2) % P := fpow_val x _
attribute [irreducible] finv
theorem finv_unique {a b : Fin P} (h : a * b = 1) : finv a = b := by
  have ha : a ≠ 0 := fun e => by subst e; revert h; grobner
  have h2 := finv_mul ha
  generalize finv a = i at *
  grobner
theorem Fmul_zero {a b : Fin P} (h : a * b = 0) : a = 0 ∨ b = 0 := by
  by_cases ha : a = 0
  · exact Or.inl ha
  · have h2 := finv_mul ha
    generalize finv a = i at *
    exact Or.inr (by grobner)
theorem Fcancel {a b c : Fin P} (ha : a ≠ 0) (h : b * a = c * a) : b = c := by
  have h2 := finv_mul ha
  generalize finv a = i at *
  grobner
theorem sq_sum {a b : Fin P} (h : a * a + b * b = 0) : a = 0 ∧ b = 0 := by
  have h' := congrArg Fin.val h
  rw [Fin.val_add, Fin.val_mul, Fin.val_mul, ← Nat.add_mod] at h'
  have := squares (x := a.val) (y := b.val) h'
  rw [Nat.mod_eq_of_lt a.isLt, Nat.mod_eq_of_lt b.isLt] at this
  exact ⟨Fin.ext this.1, Fin.ext this.2⟩

/-- A root of -2. -/
def sq2 : Fin P := 763705535885484439
theorem sq2_sq : sq2 * sq2 = -2 := by decide +kernel
theorem one_ne : (1 : Fin P) ≠ 0 := by decide +kernel
theorem two_ne : (2 : Fin P) ≠ 0 := by decide +kernel

/-- Points: none is the one without numbers. -/
abbrev Cp : Type := Option (Fin P × Fin P)
def onC : Cp → Prop
  | none => True
  | some a => a.2 * a.2 = a.1 * a.1 * a.1 + a.1
def lin (l x1 y1 x2 : Fin P) : Fin P × Fin P := (l * l - x1 - x2, l * (x1 - (l * l - x1 - x2)) - y1)
def slope (x1 y1 x2 y2 : Fin P) : Fin P := if x1 = x2 then (3 * (x1 * x1) + 1) * finv (y1 + y1) else (y1 - y2) * finv (x1 - x2)
def cadd : Cp → Cp → Cp
  | none, b => b
  | some a, none => some a
  | some a, some b => if a.1 = b.1 ∧ a.2 + b.2 = 0 then none else some (lin (slope a.1 a.2 b.1 b.2) a.1 a.2 b.1)
def cneg : Cp → Cp
  | none => none
  | some a => some (a.1, 0 - a.2)

theorem slope_spec {x1 y1 x2 y2 : Fin P} (h1 : y1 * y1 = x1 * x1 * x1 + x1) (h2 : y2 * y2 = x2 * x2 * x2 + x2) (hn : ¬(x1 = x2 ∧ y1 + y2 = 0)) :
    y1 - y2 = slope x1 y1 x2 y2 * (x1 - x2) ∧ slope x1 y1 x2 y2 * (y1 + y2) = x1 * x1 + x1 * x2 + x2 * x2 + 1 := by
  unfold slope
  split
  · rename_i e
    subst e
    have hs : y1 + y2 ≠ 0 := fun e => hn ⟨rfl, e⟩
    have hy : y1 = y2 := by
      have : (y1 - y2) * (y1 + y2) = 0 * (y1 + y2) := by grobner
      have := Fcancel hs this
      grobner
    subst hy
    have hi := finv_mul hs
    generalize finv (y1 + y1) = i at *
    constructor <;> grobner
  · rename_i e
    have hd : x1 - x2 ≠ 0 := fun h => e (by grobner)
    have hi := finv_mul hd
    generalize finv (x1 - x2) = i at *
    have L : y1 - y2 = (y1 - y2) * i * (x1 - x2) := by grobner
    refine ⟨L, ?_⟩
    generalize (y1 - y2) * i = l at *
    refine Fcancel hd ?_
    clear hi
    grobner

theorem vieta {x1 y1 x2 y2 l c x3 : Fin P} (h1 : y1 * y1 = x1 * x1 * x1 + x1) (L : y1 - y2 = l * (x1 - x2)) (V : l * (y1 + y2) = x1 * x1 + x1 * x2 + x2 * x2 + 1)
    (h3 : x3 = l * l - x1 - x2) (hc : c = y1 - l * x1) :
    y1 = l * x1 + c ∧ y2 = l * x2 + c ∧ x1 + x2 + x3 = l * l ∧ x1 * x2 + x1 * x3 + x2 * x3 = 1 - 2 * l * c ∧ x1 * x2 * x3 = c * c := by
  have a1 : y1 = l * x1 + c := by clear h1 L V h3; grobner
  have a2 : y2 = l * x2 + c := by clear h1 V h3; grobner
  have a3 : x1 + x2 + x3 = l * l := by clear h1 L V hc a1 a2; grobner
  have a4 : x1 * x2 + x1 * x3 + x2 * x3 = 1 - 2 * l * c := by subst h3; clear h1 L hc a3; subst a1 a2; grobner
  refine ⟨a1, a2, a3, a4, ?_⟩
  subst h3
  clear L V hc a2 a3
  subst a1
  grobner

theorem third {x1 x2 x3 l c : Fin P} (e1 : x1 + x2 + x3 = l * l) (e2 : x1 * x2 + x1 * x3 + x2 * x3 = 1 - 2 * l * c) (e3 : x1 * x2 * x3 = c * c) : (l * x3 + c) * (l * x3 + c) = x3 * x3 * x3 + x3 := by
  grobner
theorem homY {x1 x2 x3 y1 y2 l c : Fin P} (e1 : x1 + x2 + x3 = l * l) (e2 : x1 * x2 + x1 * x3 + x2 * x3 = 1 - 2 * l * c) (e3 : x1 * x2 * x3 = c * c) (h1 : y1 = l * x1 + c) (h2 : y2 = l * x2 + c) :
    (x3 + 1) * ((x1 * x1 + 1) * (x2 * x2 + 1) * (x1 - 1) * (x2 - 1) - 2 * y1 * y2 * (x1 + 1) * (x2 + 1)) = (x3 - 1) * ((x1 + 1) * (x2 + 1) * (x1 * x1 + 1) * (x2 * x2 + 1) + 2 * y1 * y2 * (x1 - 1) * (x2 - 1)) := by
  subst h1 h2; grobner
theorem homX {x1 x2 x3 y1 y2 y3 l c : Fin P} (e1 : x1 + x2 + x3 = l * l) (e2 : x1 * x2 + x1 * x3 + x2 * x3 = 1 - 2 * l * c) (e3 : x1 * x2 * x3 = c * c) (h1 : y1 = l * x1 + c) (h2 : y2 = l * x2 + c) (h3 : y3 = -(l * x3 + c)) :
    y3 * ((x1 * x1 + 1) * (x2 * x2 + 1) * (x1 - 1) * (x2 - 1) + 2 * y1 * y2 * (x1 + 1) * (x2 + 1)) = (x3 * x3 + 1) * (y1 * (x2 + 1) * (x2 * x2 + 1) * (x1 - 1) + y2 * (x1 + 1) * (x1 * x1 + 1) * (x2 - 1)) := by
  subst h1 h2 h3; grobner

/-! The other form -/

def onE (u : Fin P × Fin P) : Prop := u.1 * u.1 + u.2 * u.2 + u.1 * u.1 * (u.2 * u.2) = 1
def Esum (u v t : Fin P × Fin P) : Prop :=
  t.1 * (1 - u.1 * v.1 * u.2 * v.2) = u.1 * v.2 + u.2 * v.1 ∧ t.2 * (1 + u.1 * v.1 * u.2 * v.2) = u.2 * v.2 - u.1 * v.1

theorem complete {x1 y1 x2 y2 : Fin P} (h1 : x1 * x1 + y1 * y1 + x1 * x1 * (y1 * y1) = 1) (h2 : x2 * x2 + y2 * y2 + x2 * x2 * (y2 * y2) = 1) :
    (x1 * x2 * y1 * y2) * (x1 * x2 * y1 * y2) ≠ 1 := by
  intro h
  obtain ⟨d, hd⟩ : ∃ d, d = x1 * x2 * y1 * y2 := ⟨_, rfl⟩
  rw [← hd] at h
  have k : x1 * x1 * y1 * y1 * (x2 * x2 + y2 * y2) = -(x1 * x1 + y1 * y1) := by
    have : d * d = x1 * x1 * y1 * y1 * (x2 * x2 * (y2 * y2)) := by rw [hd]; grobner
    grobner
  have a : (x1 - d * y1) * (x1 - d * y1) + (x1 * y1 * (x2 + y2)) * (x1 * y1 * (x2 + y2)) = 0 := by clear h1 h2; grobner
  have b : (x1 + d * y1) * (x1 + d * y1) + (x1 * y1 * (x2 - y2)) * (x1 * y1 * (x2 - y2)) = 0 := by clear h1 h2 a; grobner
  have a' := (sq_sum a).2
  have b' := (sq_sum b).2
  clear a b k h1 h2
  have : 2 * d = 0 := by rw [hd]; clear h hd; grobner
  clear a' b' hd
  exact absurd (show (4 : Fin P) = 0 by grobner) (by decide +kernel)
theorem den1 {u v : Fin P × Fin P} (hu : onE u) (hv : onE v) : 1 - u.1 * v.1 * u.2 * v.2 ≠ 0 := fun e => by
  refine complete hu hv ?_
  generalize u.1 * v.1 * u.2 * v.2 = d at *
  grobner
theorem den2 {u v : Fin P × Fin P} (hu : onE u) (hv : onE v) : 1 + u.1 * v.1 * u.2 * v.2 ≠ 0 := fun e => by
  refine complete hu hv ?_
  generalize u.1 * v.1 * u.2 * v.2 = d at *
  grobner
theorem Esum_unique {u v t t' : Fin P × Fin P} (hu : onE u) (hv : onE v) (h : Esum u v t) (h' : Esum u v t') : t = t' :=
  Prod.ext (Fcancel (den1 hu hv) (h.1.trans h'.1.symm)) (Fcancel (den2 hu hv) (h.2.trans h'.2.symm))
theorem Esum_comm {u v t : Fin P × Fin P} (h : Esum u v t) : Esum v u t := by
  obtain ⟨h1, h2⟩ := h
  unfold Esum
  generalize u.1 = a at *; generalize u.2 = b at *; generalize v.1 = c at *; generalize v.2 = d at *
  generalize t.1 = e at *; generalize t.2 = f at *
  constructor
  · clear h2; grobner
  · clear h1; grobner

theorem ed_x {x1 y1 x2 y2 x3 y3 : Fin P}
    (h1 : x1 * x1 + y1 * y1 + x1 * x1 * (y1 * y1) = 1) (h2 : x2 * x2 + y2 * y2 + x2 * x2 * (y2 * y2) = 1) (h3 : x3 * x3 + y3 * y3 + x3 * x3 * (y3 * y3) = 1) :
    ((x1 * y2 + y1 * x2) * (1 + x1 * x2 * y1 * y2) * y3 + (y1 * y2 - x1 * x2) * (1 - x1 * x2 * y1 * y2) * x3) * ((1 - x2 * x3 * y2 * y3) * (1 + x2 * x3 * y2 * y3) - (x2 * y3 + y2 * x3) * (y2 * y3 - x2 * x3) * x1 * y1)
    = (x1 * (y2 * y3 - x2 * x3) * (1 - x2 * x3 * y2 * y3) + y1 * (x2 * y3 + y2 * x3) * (1 + x2 * x3 * y2 * y3)) * ((1 - x1 * x2 * y1 * y2) * (1 + x1 * x2 * y1 * y2) - (x1 * y2 + y1 * x2) * (y1 * y2 - x1 * x2) * x3 * y3) := by
  grobner
theorem ed_y {x1 y1 x2 y2 x3 y3 : Fin P}
    (h1 : x1 * x1 + y1 * y1 + x1 * x1 * (y1 * y1) = 1) (h2 : x2 * x2 + y2 * y2 + x2 * x2 * (y2 * y2) = 1) (h3 : x3 * x3 + y3 * y3 + x3 * x3 * (y3 * y3) = 1) :
    ((y1 * y2 - x1 * x2) * (1 - x1 * x2 * y1 * y2) * y3 - (x1 * y2 + y1 * x2) * (1 + x1 * x2 * y1 * y2) * x3) * ((1 - x2 * x3 * y2 * y3) * (1 + x2 * x3 * y2 * y3) + (x2 * y3 + y2 * x3) * (y2 * y3 - x2 * x3) * x1 * y1)
    = (y1 * (y2 * y3 - x2 * x3) * (1 - x2 * x3 * y2 * y3) - x1 * (x2 * y3 + y2 * x3) * (1 + x2 * x3 * y2 * y3)) * ((1 - x1 * x2 * y1 * y2) * (1 + x1 * x2 * y1 * y2) + (x1 * y2 + y1 * x2) * (y1 * y2 - x1 * x2) * x3 * y3) := by
  grobner

/-- One coordinate of a sum of a sum. -/
theorem nest1 {p1 p2 d n1 n2 w1 w2 t : Fin P} (e1 : p1 * (1 - d) = n1) (e2 : p2 * (1 + d) = n2) (h : t * (1 - p1 * w1 * p2 * w2) = p1 * w2 + p2 * w1) :
    t * ((1 - d) * (1 + d) - n1 * n2 * w1 * w2) = n1 * (1 + d) * w2 + n2 * (1 - d) * w1 := by
  subst e1 e2
  have : t * ((1 - d) * (1 + d) - p1 * (1 - d) * (p2 * (1 + d)) * w1 * w2) = t * (1 - p1 * w1 * p2 * w2) * ((1 - d) * (1 + d)) := by clear h; grobner
  rw [this, h]; clear h this; grobner
theorem nest2 {p1 p2 d n1 n2 w1 w2 t : Fin P} (e1 : p1 * (1 - d) = n1) (e2 : p2 * (1 + d) = n2) (h : t * (1 + p1 * w1 * p2 * w2) = p2 * w2 - p1 * w1) :
    t * ((1 - d) * (1 + d) + n1 * n2 * w1 * w2) = n2 * (1 - d) * w2 - n1 * (1 + d) * w1 := by
  subst e1 e2
  have : t * ((1 - d) * (1 + d) + p1 * (1 - d) * (p2 * (1 + d)) * w1 * w2) = t * (1 + p1 * w1 * p2 * w2) * ((1 - d) * (1 + d)) := by clear h; grobner
  rw [this, h]; clear h this; grobner
theorem nestne1 {p1 p2 d n1 n2 w1 w2 : Fin P} (e1 : p1 * (1 - d) = n1) (e2 : p2 * (1 + d) = n2) (h1 : 1 - d ≠ 0) (h2 : 1 + d ≠ 0) (h : 1 - p1 * w1 * p2 * w2 ≠ 0) :
    (1 - d) * (1 + d) - n1 * n2 * w1 * w2 ≠ 0 := fun e => by
  subst e1 e2
  have : (1 - d) * ((1 + d) * (1 - p1 * w1 * p2 * w2)) = 0 := by rw [← e]; clear e; grobner
  rcases Fmul_zero this with a | a
  · exact h1 a
  rcases Fmul_zero a with a | a
  · exact h2 a
  · exact h a
theorem nestne2 {p1 p2 d n1 n2 w1 w2 : Fin P} (e1 : p1 * (1 - d) = n1) (e2 : p2 * (1 + d) = n2) (h1 : 1 - d ≠ 0) (h2 : 1 + d ≠ 0) (h : 1 + p1 * w1 * p2 * w2 ≠ 0) :
    (1 - d) * (1 + d) + n1 * n2 * w1 * w2 ≠ 0 := fun e => by
  subst e1 e2
  have : (1 - d) * ((1 + d) * (1 + p1 * w1 * p2 * w2)) = 0 := by rw [← e]; clear e; grobner
  rcases Fmul_zero this with a | a
  · exact h1 a
  rcases Fmul_zero a with a | a
  · exact h2 a
  · exact h a
theorem cross {t t' D D' N N' : Fin P} (h : t * D = N) (h' : t' * D' = N') (e : N * D' = N' * D) (hD : D ≠ 0) (hD' : D' ≠ 0) : t = t' := by
  refine Fcancel hD (Fcancel hD' ?_)
  subst h h'
  clear hD hD'
  grobner

theorem Esum_assoc {u v w p q t t' : Fin P × Fin P} (hu : onE u) (hv : onE v) (hw : onE w) (hp : onE p) (hq : onE q)
    (h1 : Esum u v p) (h2 : Esum p w t) (h3 : Esum v w q) (h4 : Esum u q t') : t = t' := by
  have h4 := Esum_comm h4
  have dp1 := den1 hp hw; have dp2 := den2 hp hw; have dq1 := den1 hq hu; have dq2 := den2 hq hu
  have du1 := den1 hu hv; have du2 := den2 hu hv; have dv1 := den1 hv hw; have dv2 := den2 hv hw
  obtain ⟨x1, y1⟩ := u; obtain ⟨x2, y2⟩ := v; obtain ⟨x3, y3⟩ := w
  obtain ⟨p1, p2⟩ := p; obtain ⟨q1, q2⟩ := q; obtain ⟨t1, t2⟩ := t; obtain ⟨s1, s2⟩ := t'
  dsimp only [Esum, onE] at *
  refine Prod.ext ?_ ?_
  · refine cross (nest1 h1.1 h1.2 h2.1) (nest1 h3.1 h3.2 h4.1) ?_ (nestne1 h1.1 h1.2 du1 du2 dp1) (nestne1 h3.1 h3.2 dv1 dv2 dq1)
    have := ed_x hu hv hw
    clear h1 h2 h3 h4 dp1 dp2 dq1 dq2 du1 du2 dv1 dv2 hu hv hw hp hq
    refine (Eq.trans ?_ this).trans ?_ <;> (clear this; grobner)
  · refine cross (nest2 h1.1 h1.2 h2.2) (nest2 h3.1 h3.2 h4.2) ?_ (nestne2 h1.1 h1.2 du1 du2 dp2) (nestne2 h3.1 h3.2 dv1 dv2 dq2)
    have := ed_y hu hv hw
    clear h1 h2 h3 h4 dp1 dp2 dq1 dq2 du1 du2 dv1 dv2 hu hv hw hp hq
    refine (Eq.trans ?_ this).trans ?_ <;> (clear this; grobner)

/-! From the one to the other -/

def psi : Cp → Fin P × Fin P
  | none => (0, 1)
  | some a => (sq2 * a.2 * finv (a.1 * a.1 + 1), (a.1 + 1) * finv (a.1 - 1))
theorem ne_q (x : Fin P) : x * x + 1 ≠ 0 := fun e => one_ne (sq_sum (a := x) (b := 1) (by rw [← e]; clear e; grobner)).2
theorem ne_m {x y : Fin P} (h : y * y = x * x * x + x) : x - 1 ≠ 0 := fun e => by
  have hx : x = 1 := by clear h; grobner
  subst hx
  have hs := sq2_sq
  have : sq2 * sq2 + y * y = 0 := by rw [hs, h]; clear h e hs; grobner
  have hy := (sq_sum this).2
  subst hy
  clear this hs e
  exact two_ne (by grobner)
theorem psi_on {x y s i j : Fin P} (hs : s * s = -2) (h : y * y = x * x * x + x) (hi : (x * x + 1) * i = 1) (hj : (x - 1) * j = 1) :
    (s * y * i) * (s * y * i) + ((x + 1) * j) * ((x + 1) * j) + (s * y * i) * (s * y * i) * (((x + 1) * j) * ((x + 1) * j)) = 1 := by
  grobner
theorem onE_psi {a : Cp} (h : onC a) : onE (psi a) := by
  cases a with
  | none => show (0 : Fin P) * 0 + 1 * 1 + 0 * 0 * (1 * 1) = 1; decide +kernel
  | some a => exact psi_on sq2_sq h (finv_mul (ne_q _)) (finv_mul (ne_m h))
theorem psi_inj {a b : Cp} (ha : onC a) (hb : onC b) (h : psi a = psi b) : a = b := by
  have one : ∀ {x y : Fin P}, y * y = x * x * x + x → (x + 1) * finv (x - 1) ≠ 1 := fun {x y} h e => by
    have hi := finv_mul (ne_m h)
    generalize finv (x - 1) = i at *
    exact two_ne (by clear h; grobner)
  cases a with
  | none =>
    cases b with
    | none => rfl
    | some b => exact absurd (congrArg Prod.snd h).symm (one hb)
  | some a =>
    cases b with
    | none => exact absurd (congrArg Prod.snd h) (one ha)
    | some b =>
      obtain ⟨x, y⟩ := a; obtain ⟨x', y'⟩ := b
      have h1 : (x + 1) * finv (x - 1) = (x' + 1) * finv (x' - 1) := congrArg Prod.snd h
      have h2 : sq2 * y * finv (x * x + 1) = sq2 * y' * finv (x' * x' + 1) := congrArg Prod.fst h
      have i1 := finv_mul (ne_m ha)
      have i2 := finv_mul (ne_m hb)
      have i3 := finv_mul (ne_q x)
      have hx : x = x' := by
        clear h h2 ha hb i3
        have : (2 : Fin P) * (x - x') = 0 := by
          generalize finv (x - 1) = i at *
          generalize finv (x' - 1) = j at *
          have e : (x + 1) * (x' - 1) = (x' + 1) * (x - 1) := by
            have e1 : (x + 1) * i * ((x - 1) * (x' - 1)) = (x + 1) * (x' - 1) := by clear h1 i2; grobner
            have e2 : (x' + 1) * j * ((x - 1) * (x' - 1)) = (x' + 1) * (x - 1) := by clear h1 i1 e1; grobner
            rw [← e1, ← e2, h1]
          clear i1 i2 h1
          grobner
        rcases Fmul_zero this with h | h
        · exact absurd h two_ne
        · clear i1 i2 h1 this; grobner
      subst hx
      have hs := sq2_sq
      have hy : y = y' := by
        clear h h1 ha hb i1 i2
        generalize sq2 = s at *
        generalize finv (x * x + 1) = i at *
        have e1 : s * (s * y * i) * (x * x + 1) = -2 * y := by clear h2; grobner
        have e2 : s * (s * y' * i) * (x * x + 1) = -2 * y' := by clear h2 e1; grobner
        rw [h2, e2] at e1
        have : (2 : Fin P) * (y - y') = 0 := by clear h2 e2 i3 hs; grobner
        rcases Fmul_zero this with h | h
        · exact absurd h two_ne
        · clear h2 e1 e2 i3 hs this; grobner
      rw [hy]

theorem esum_line {x1 y1 x2 y2 x3 y3 s i1 i2 i3 j1 j2 j3 : Fin P} (hs : s * s = -2)
    (a1 : (x1 * x1 + 1) * i1 = 1) (a2 : (x2 * x2 + 1) * i2 = 1) (a3 : (x3 * x3 + 1) * i3 = 1)
    (b1 : (x1 - 1) * j1 = 1) (b2 : (x2 - 1) * j2 = 1) (b3 : (x3 - 1) * j3 = 1)
    (hY : (x3 + 1) * ((x1 * x1 + 1) * (x2 * x2 + 1) * (x1 - 1) * (x2 - 1) - 2 * y1 * y2 * (x1 + 1) * (x2 + 1)) = (x3 - 1) * ((x1 + 1) * (x2 + 1) * (x1 * x1 + 1) * (x2 * x2 + 1) + 2 * y1 * y2 * (x1 - 1) * (x2 - 1)))
    (hX : y3 * ((x1 * x1 + 1) * (x2 * x2 + 1) * (x1 - 1) * (x2 - 1) + 2 * y1 * y2 * (x1 + 1) * (x2 + 1)) = (x3 * x3 + 1) * (y1 * (x2 + 1) * (x2 * x2 + 1) * (x1 - 1) + y2 * (x1 + 1) * (x1 * x1 + 1) * (x2 - 1))) :
    Esum (s * y1 * i1, (x1 + 1) * j1) (s * y2 * i2, (x2 + 1) * j2) (s * y3 * i3, (x3 + 1) * j3) := by
  have u1 : s * y1 * i1 * (s * y2 * i2) * ((x1 + 1) * j1) * ((x2 + 1) * j2) = -2 * y1 * y2 * (x1 + 1) * (x2 + 1) * (i1 * i2 * j1 * j2) := by
    have : s * y1 * i1 * (s * y2 * i2) * ((x1 + 1) * j1) * ((x2 + 1) * j2) = (s * s) * y1 * y2 * (x1 + 1) * (x2 + 1) * (i1 * i2 * j1 * j2) := by clear hs a1 a2 a3 b1 b2 b3 hX hY; grobner
    rw [this, hs]
  have u2 : (x1 * x1 + 1) * (x2 * x2 + 1) * (x1 - 1) * (x2 - 1) * (i1 * i2 * j1 * j2) = 1 := by
    have : (x1 * x1 + 1) * (x2 * x2 + 1) * (x1 - 1) * (x2 - 1) * (i1 * i2 * j1 * j2) = ((x1 * x1 + 1) * i1) * ((x2 * x2 + 1) * i2) * ((x1 - 1) * j1) * ((x2 - 1) * j2) := by clear hs a1 a2 a3 b1 b2 b3 hX hY u1; grobner
    rw [this, a1, a2, b1, b2]; decide +kernel
  dsimp only [Esum]
  rw [u1]
  constructor
  · have l : s * y3 * i3 * (1 - -2 * y1 * y2 * (x1 + 1) * (x2 + 1) * (i1 * i2 * j1 * j2)) = s * i3 * (y3 * ((x1 * x1 + 1) * (x2 * x2 + 1) * (x1 - 1) * (x2 - 1) + 2 * y1 * y2 * (x1 + 1) * (x2 + 1))) * (i1 * i2 * j1 * j2) := by
      have : (1 : Fin P) - -2 * y1 * y2 * (x1 + 1) * (x2 + 1) * (i1 * i2 * j1 * j2) = (x1 * x1 + 1) * (x2 * x2 + 1) * (x1 - 1) * (x2 - 1) * (i1 * i2 * j1 * j2) - -2 * y1 * y2 * (x1 + 1) * (x2 + 1) * (i1 * i2 * j1 * j2) := by rw [u2]
      rw [this]; clear this u1 u2 hs a1 a2 a3 b1 b2 b3 hX hY; grobner
    rw [l, hX]
    have r : s * i3 * ((x3 * x3 + 1) * (y1 * (x2 + 1) * (x2 * x2 + 1) * (x1 - 1) + y2 * (x1 + 1) * (x1 * x1 + 1) * (x2 - 1))) * (i1 * i2 * j1 * j2)
      = s * ((x3 * x3 + 1) * i3) * (y1 * i1 * (x2 + 1) * j2 * ((x2 * x2 + 1) * i2) * ((x1 - 1) * j1) + y2 * i2 * (x1 + 1) * j1 * ((x1 * x1 + 1) * i1) * ((x2 - 1) * j2)) := by clear l u1 u2 hs a1 a2 a3 b1 b2 b3 hX hY; grobner
    rw [r, a3, a2, b1, a1, b2]
    clear l r u1 u2 hs a1 a2 a3 b1 b2 b3 hX hY; grobner
  · have l : (x3 + 1) * j3 * (1 + -2 * y1 * y2 * (x1 + 1) * (x2 + 1) * (i1 * i2 * j1 * j2)) = j3 * ((x3 + 1) * ((x1 * x1 + 1) * (x2 * x2 + 1) * (x1 - 1) * (x2 - 1) - 2 * y1 * y2 * (x1 + 1) * (x2 + 1))) * (i1 * i2 * j1 * j2) := by
      have : (1 : Fin P) + -2 * y1 * y2 * (x1 + 1) * (x2 + 1) * (i1 * i2 * j1 * j2) = (x1 * x1 + 1) * (x2 * x2 + 1) * (x1 - 1) * (x2 - 1) * (i1 * i2 * j1 * j2) + -2 * y1 * y2 * (x1 + 1) * (x2 + 1) * (i1 * i2 * j1 * j2) := by rw [u2]
      rw [this]; clear this u1 u2 hs a1 a2 a3 b1 b2 b3 hX hY; grobner
    rw [l, hY]
    have r : j3 * ((x3 - 1) * ((x1 + 1) * (x2 + 1) * (x1 * x1 + 1) * (x2 * x2 + 1) + 2 * y1 * y2 * (x1 - 1) * (x2 - 1))) * (i1 * i2 * j1 * j2)
      = ((x3 - 1) * j3) * ((x1 + 1) * j1 * ((x2 + 1) * j2) * ((x1 * x1 + 1) * i1) * ((x2 * x2 + 1) * i2) - -2 * y1 * i1 * y2 * i2 * ((x1 - 1) * j1) * ((x2 - 1) * j2)) := by clear l u1 u2 hs a1 a2 a3 b1 b2 b3 hX hY; grobner
    rw [r, b3, a1, a2, b1, b2, ← hs]
    clear l r u1 u2 hs a1 a2 a3 b1 b2 b3 hX hY; grobner

theorem onC_add {a b : Cp} (ha : onC a) (hb : onC b) : onC (cadd a b) := by
  cases a with
  | none => exact hb
  | some a =>
    cases b with
    | none => exact ha
    | some b =>
      obtain ⟨x1, y1⟩ := a; obtain ⟨x2, y2⟩ := b
      show onC (if x1 = x2 ∧ y1 + y2 = 0 then none else some (lin (slope x1 y1 x2 y2) x1 y1 x2))
      split
      · trivial
      · rename_i hn
        obtain ⟨L, V⟩ := slope_spec ha hb hn
        generalize slope x1 y1 x2 y2 = l at *
        obtain ⟨v1, v2, e1, e2, e3⟩ := vieta (c := y1 - l * x1) ha L V rfl rfl
        have t := third e1 e2 e3
        show (l * (x1 - (l * l - x1 - x2)) - y1) * (l * (x1 - (l * l - x1 - x2)) - y1) = _
        refine Eq.trans ?_ t
        clear t v1 v2 e1 e2 e3 L V ha hb hn
        grobner
theorem psi_add {a b : Cp} (ha : onC a) (hb : onC b) : Esum (psi a) (psi b) (psi (cadd a b)) := by
  cases a with
  | none =>
    show Esum (0, 1) (psi b) (psi b)
    generalize psi b = u
    obtain ⟨x, y⟩ := u
    dsimp only [Esum]
    constructor <;> grobner
  | some a =>
    cases b with
    | none =>
      show Esum (psi (some a)) (0, 1) (psi (some a))
      generalize psi (some a) = u
      obtain ⟨x, y⟩ := u
      dsimp only [Esum]
      constructor <;> grobner
    | some b =>
      have hc := onC_add ha hb
      obtain ⟨x1, y1⟩ := a; obtain ⟨x2, y2⟩ := b
      have e : cadd (some (x1, y1)) (some (x2, y2)) = if x1 = x2 ∧ y1 + y2 = 0 then none else some (lin (slope x1 y1 x2 y2) x1 y1 x2) := rfl
      rw [e] at hc ⊢
      split
      · rename_i hn
        obtain ⟨hx, hy⟩ := hn
        subst hx
        have on := onE_psi ha
        have hy2 : y2 = -y1 := by clear ha hb hc e on; grobner
        subst hy2
        dsimp only [psi, onE] at on
        dsimp only [Esum, psi]
        clear ha hb hc e hy
        generalize finv (x1 * x1 + 1) = i at *
        generalize (x1 + 1) * finv (x1 - 1) = w at *
        generalize sq2 = s at *
        constructor
        · clear on; grobner
        · grobner
      · rename_i hn
        rw [if_neg hn] at hc
        obtain ⟨L, V⟩ := slope_spec ha hb hn
        generalize slope x1 y1 x2 y2 = l at *
        obtain ⟨v1, v2, e1, e2, e3⟩ := vieta (c := y1 - l * x1) ha L V rfl rfl
        have hY := homY e1 e2 e3 v1 v2
        have hX := homX (y3 := (lin l x1 y1 x2).2) e1 e2 e3 v1 v2 (by
          show l * (x1 - (l * l - x1 - x2)) - y1 = _
          clear v1 v2 e1 e2 e3 L V ha hb hn hY hc e
          grobner)
        exact esum_line sq2_sq (finv_mul (ne_q _)) (finv_mul (ne_q _)) (finv_mul (ne_q _)) (finv_mul (ne_m ha)) (finv_mul (ne_m hb)) (finv_mul (ne_m hc)) hY hX

theorem cadd_comm {a b : Cp} (ha : onC a) (hb : onC b) : cadd a b = cadd b a :=
  psi_inj (onC_add ha hb) (onC_add hb ha) (Esum_unique (onE_psi ha) (onE_psi hb) (psi_add ha hb) (Esum_comm (psi_add hb ha)))
theorem cadd_assoc {a b c : Cp} (ha : onC a) (hb : onC b) (hc : onC c) : cadd (cadd a b) c = cadd a (cadd b c) :=
  psi_inj (onC_add (onC_add ha hb) hc) (onC_add ha (onC_add hb hc))
    (Esum_assoc (onE_psi ha) (onE_psi hb) (onE_psi hc) (onE_psi (onC_add ha hb)) (onE_psi (onC_add hb hc)) (psi_add ha hb) (psi_add (onC_add ha hb) hc) (psi_add hb hc) (psi_add ha (onC_add hb hc)))
theorem cadd_none (a : Cp) : cadd a none = a := by cases a <;> rfl
theorem none_cadd (a : Cp) : cadd none a = a := rfl
theorem onC_neg {a : Cp} (h : onC a) : onC (cneg a) := by
  cases a with
  | none => trivial
  | some a =>
    obtain ⟨x, y⟩ := a
    show (0 - y) * (0 - y) = x * x * x + x
    have h : y * y = x * x * x + x := h
    grobner
theorem cadd_neg {a : Cp} : cadd a (cneg a) = none := by
  cases a with
  | none => rfl
  | some a =>
    obtain ⟨x, y⟩ := a
    show (if x = x ∧ y + (0 - y) = 0 then none else _) = none
    rw [if_pos ⟨rfl, by grobner⟩]

/-! Multiples -/

def cmul (a : Cp) : Nat → Cp
  | 0 => none
  | n + 1 => cadd (cmul a n) a
theorem onC_mul {a : Cp} (h : onC a) (n : Nat) : onC (cmul a n) := by
  induction n with
  | zero => trivial
  | succ n ih => exact onC_add ih h
theorem cmul_add {a : Cp} (h : onC a) (m n : Nat) : cmul a (m + n) = cadd (cmul a m) (cmul a n) := by
  induction n with
  | zero => exact (cadd_none _).symm
  | succ n ih => show cadd (cmul a (m + n)) a = cadd (cmul a m) (cadd (cmul a n) a); rw [ih, cadd_assoc (onC_mul h m) (onC_mul h n) h]
theorem cmul_one (a : Cp) : cmul a 1 = a := rfl
theorem cmul_mul {a : Cp} (h : onC a) (m n : Nat) : cmul (cmul a m) n = cmul a (m * n) := by
  induction n with
  | zero => rfl
  | succ n ih => show cadd (cmul (cmul a m) n) (cmul a m) = _; rw [ih, ← cmul_add h]; rfl
theorem cmul_two (a : Cp) : cmul a 2 = cadd a a := rfl
theorem cmul_even {p A : Cp} (hA : onC A) (E : Nat) (h : E % 2 = 0) : cadd p (cmul (cadd A A) (E / 2)) = cadd p (cmul A E) := by
  have e : 2 * (E / 2) = E := by omega
  rw [← cmul_two, cmul_mul hA, e]
theorem cmul_odd {p A : Cp} (hp : onC p) (hA : onC A) (E : Nat) (h : E % 2 = 1) : cadd (cadd p A) (cmul (cadd A A) (E / 2)) = cadd p (cmul A E) := by
  have e : E = 1 + 2 * (E / 2) := by omega
  have e2 : cmul A E = cadd A (cmul (cadd A A) (E / 2)) := by
    rw [← cmul_two, cmul_mul hA]
    conv => lhs; rw [e]
    rw [cmul_add hA, cmul_one]
  rw [e2, cadd_assoc hp hA (onC_mul (onC_add hA hA) _)]
theorem cmul_bit {a : Cp} (h : onC a) (e k : Nat) : cmul a (e / 2 ^ k) = cadd (cadd (cmul a (e / 2 ^ (k + 1))) (cmul a (e / 2 ^ (k + 1)))) (cmul a (e / 2 ^ k % 2)) := by
  have h' : e / 2 ^ k = e / 2 ^ (k + 1) + e / 2 ^ (k + 1) + e / 2 ^ k % 2 := by
    have : e / 2 ^ (k + 1) = e / 2 ^ k / 2 := by rw [Nat.pow_succ, Nat.div_div_eq_div_mul]
    omega
  conv => lhs; rw [h']
  rw [cmul_add h, cmul_add h]
end Ob
