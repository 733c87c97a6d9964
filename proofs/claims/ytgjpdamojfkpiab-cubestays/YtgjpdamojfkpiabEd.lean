/-
  The curve y y = 1 + x x + 439 x x y y over the numbers modulo R: its points are a group.
-/
import Derived.Test.YtgjpdamojfkpiabPrimes
namespace Ob
set_option linter.unusedVariables false
set_option linter.unusedSimpArgs false

abbrev RE : Nat := 288230376287764481
theorem RE_eq : RE = R := rfl
def gpow (x : Fin RE) : Nat → Fin RE
  | 0 => 1
  | n + 1 => gpow x n * x
theorem gpow_val (x : Fin RE) (n : Nat) : (gpow x n).val = x.val ^ n % RE := by
  induction n with
  | zero => rfl
  | succ n ih =>
    show (gpow x n * x).val = _
    rw [Fin.val_mul, ih, Nat.pow_succ, Nat.mod_mul_mod]
theorem gpow_add (x : Fin RE) (m n : Nat) : gpow x (m + n) = gpow x m * gpow x n := by
  induction n with
  | zero => show gpow x m = gpow x m * 1; grobner
  | succ n ih => show gpow x (m + n) * x = gpow x m * (gpow x n * x); rw [ih]; grobner
theorem gpow_sq (x : Fin RE) (n : Nat) : gpow (x * x) n = gpow x n * gpow x n := by
  induction n with
  | zero => show (1 : Fin RE) = 1 * 1; grobner
  | succ n ih => show gpow (x * x) n * (x * x) = gpow x n * x * (gpow x n * x); rw [ih]; generalize gpow x n = t; grobner
theorem G_ne {a : Fin RE} (h : a ≠ 0) : a.val % R ≠ 0 := fun e => h (Fin.ext (by rw [← Nat.mod_eq_of_lt a.isLt]; exact e))
theorem fermatG (x : Fin RE) (h : x ≠ 0) : gpow x (RE - 1) = 1 := by
  apply Fin.ext
  rw [gpow_val]
  exact lucasR.fermat _ (G_ne h)
def ginv (x : Fin RE) : Fin RE := gpow x (RE - 2)
theorem ginv_mul {x : Fin RE} (h : x ≠ 0) : x * ginv x = 1 := by
  have e := fermatG x h
  have e2 : RE - 1 = (RE - 2) + 1 := by decide +kernel
  rw [e2] at e
  have e3 : gpow x ((RE - 2) + 1) = ginv x * x := rfl
  rw [e3] at e
  rw [← e]; generalize ginv x = i; grobner
theorem ginv_val (x : Fin RE) : (ginv x).val = x.val ^ (RE - 2) % RE := gpow_val x _
attribute [irreducible] ginv
theorem ginv_unique {a b : Fin RE} (h : a * b = 1) : ginv a = b := by
  have ha : a ≠ 0 := fun e => by subst e; revert h; grobner
  have h2 := ginv_mul ha
  generalize ginv a = i at *
  grobner
theorem Gmul_zero {a b : Fin RE} (h : a * b = 0) : a = 0 ∨ b = 0 := by
  by_cases ha : a = 0
  · exact Or.inl ha
  · have h2 := ginv_mul ha
    generalize ginv a = i at *
    exact Or.inr (by grobner)
theorem Gcancel {a b c : Fin RE} (ha : a ≠ 0) (h : b * a = c * a) : b = c := by
  have h2 := ginv_mul ha
  generalize ginv a = i at *
  grobner
theorem g1_ne : (1 : Fin RE) ≠ 0 := by decide +kernel
theorem g2_ne : (2 : Fin RE) ≠ 0 := by decide +kernel
/-- What to the half of R - 1 isn't 1 is no square. -/
theorem nosq {a : Fin RE} (h0 : a ≠ 0) (h : gpow a 144115188143882240 ≠ 1) (x : Fin RE) : x * x ≠ a := fun e => by
  apply h
  have hx : x ≠ 0 := fun e' => by subst e'; apply h0; rw [← e]; grobner
  rw [← e, gpow_sq, ← gpow_add]
  exact fermatG x hx
theorem pow_fin {a r : Nat} {e : Nat} (h : e < 2 ^ 64) (hr : powm RE 64 a e = r) (x : Fin RE) (hx : x.val = a) : (gpow x e).val = r := by
  rw [gpow_val, hx, ← powm_eq RE 64 a e h]
  exact hr
theorem d_nosq : ∀ x : Fin RE, x * x ≠ 439 := nosq (by decide +kernel) (fun h => by
  have e := pow_fin (a := 439) (r := RE - 1) (e := 144115188143882240) (by decide +kernel) (by decide +kernel) 439 rfl
  rw [h] at e
  revert e
  decide +kernel)
theorem d1_nosq : ∀ x : Fin RE, x * x ≠ 440 := nosq (by decide +kernel) (fun h => by
  have e := pow_fin (a := 440) (r := RE - 1) (e := 144115188143882240) (by decide +kernel) (by decide +kernel) 440 rfl
  rw [h] at e
  revert e
  decide +kernel)
/-- A root of -1. -/
def gi : Fin RE := 263209301981812971
theorem gi_sq : gi * gi = -1 := by decide +kernel

/-! Points -/
abbrev Ep : Type := Fin RE × Fin RE
def onG (u : Ep) : Prop := u.2 * u.2 = 1 + u.1 * u.1 + 439 * (u.1 * u.1 * (u.2 * u.2))
def gk (u v : Ep) : Fin RE := 439 * (u.1 * v.1 * (u.2 * v.2))
def gadd (u v : Ep) : Ep := ((u.1 * v.2 + u.2 * v.1) * ginv (1 + gk u v), (u.2 * v.2 + u.1 * v.1) * ginv (1 - gk u v))
def gzero : Ep := (0, 1)
def gneg (u : Ep) : Ep := (0 - u.1, u.2)
def Gsum (u v t : Ep) : Prop := t.1 * (1 + gk u v) = u.1 * v.2 + u.2 * v.1 ∧ t.2 * (1 - gk u v) = u.2 * v.2 + u.1 * v.1

theorem sq_quot {d x y : Fin RE} (hy : y ≠ 0) (h : x * x = d * (y * y)) : (x * ginv y) * (x * ginv y) = d := by
  have h2 := ginv_mul hy
  generalize ginv y = i at *
  grobner
theorem gcomplete {x1 y1 x2 y2 k : Fin RE} (h1 : y1 * y1 = 1 + x1 * x1 + 439 * (x1 * x1 * (y1 * y1))) (h2 : y2 * y2 = 1 + x2 * x2 + 439 * (x2 * x2 * (y2 * y2)))
    (hk : k = 439 * (x1 * x2 * (y1 * y2))) : k * k ≠ 1 := by
  intro h
  have hi := gi_sq
  generalize gi = i at hi
  have dns := d_nosq
  generalize (439 : Fin RE) = d at *
  have e0 : d * (x1 * x1 * (y1 * y1)) * (y2 * y2 - x2 * x2) = y1 * y1 - x1 * x1 := by
    have a1 : y2 * y2 - x2 * x2 = 1 + d * (x2 * x2 * (y2 * y2)) := by clear h1 hk h hi; grobner
    have a2 : d * (x1 * x1 * (y1 * y1)) * (d * (x2 * x2 * (y2 * y2))) = 1 := by rw [← h, hk]; clear h1 h2 hk h hi a1; grobner
    rw [a1]
    have a3 : d * (x1 * x1 * (y1 * y1)) * (1 + d * (x2 * x2 * (y2 * y2))) = d * (x1 * x1 * (y1 * y1)) + 1 := by
      have : d * (x1 * x1 * (y1 * y1)) * (1 + d * (x2 * x2 * (y2 * y2))) = d * (x1 * x1 * (y1 * y1)) + d * (x1 * x1 * (y1 * y1)) * (d * (x2 * x2 * (y2 * y2))) := by clear h1 h2 hk h hi a1 a2; grobner
      rw [this, a2]
    rw [a3]
    clear h2 hk h hi a1 a2 a3
    grobner
  have ep : (i * x1 + k * y1) * (i * x1 + k * y1) = d * ((x1 * y1 * (i * x2 + y2)) * (x1 * y1 * (i * x2 + y2))) := by
    have l : (i * x1 + k * y1) * (i * x1 + k * y1) = i * i * (x1 * x1) + k * k * (y1 * y1) + 2 * i * x1 * y1 * k := by clear h1 h2 hk h hi e0; grobner
    have r : d * ((x1 * y1 * (i * x2 + y2)) * (x1 * y1 * (i * x2 + y2))) = d * (x1 * x1 * (y1 * y1)) * (i * i * (x2 * x2) + y2 * y2) + 2 * i * x1 * y1 * (d * (x1 * x2 * (y1 * y2))) := by clear h1 h2 hk h hi e0 l; grobner
    rw [l, r, hi, h, ← hk]
    have e1 : d * (x1 * x1 * (y1 * y1)) * (-1 * (x2 * x2) + y2 * y2) = d * (x1 * x1 * (y1 * y1)) * (y2 * y2 - x2 * x2) := by clear h1 h2 hk h hi e0 l r; grobner
    rw [e1, e0]
    clear h1 h2 hk h hi e0 l r e1
    grobner
  have em : (i * x1 - k * y1) * (i * x1 - k * y1) = d * ((x1 * y1 * (i * x2 - y2)) * (x1 * y1 * (i * x2 - y2))) := by
    have l : (i * x1 - k * y1) * (i * x1 - k * y1) = i * i * (x1 * x1) + k * k * (y1 * y1) - 2 * i * x1 * y1 * k := by clear h1 h2 hk h hi e0 ep; grobner
    have r : d * ((x1 * y1 * (i * x2 - y2)) * (x1 * y1 * (i * x2 - y2))) = d * (x1 * x1 * (y1 * y1)) * (i * i * (x2 * x2) + y2 * y2) - 2 * i * x1 * y1 * (d * (x1 * x2 * (y1 * y2))) := by clear h1 h2 hk h hi e0 ep l; grobner
    rw [l, r, hi, h, ← hk]
    have e1 : d * (x1 * x1 * (y1 * y1)) * (-1 * (x2 * x2) + y2 * y2) = d * (x1 * x1 * (y1 * y1)) * (y2 * y2 - x2 * x2) := by clear h1 h2 hk h hi e0 ep l r; grobner
    rw [e1, e0]
    clear h1 h2 hk h hi e0 ep l r e1
    grobner
  have z1 : x1 * y1 * (i * x2 + y2) = 0 := Classical.byContradiction fun hn => dns _ (sq_quot hn ep)
  have z2 : x1 * y1 * (i * x2 - y2) = 0 := Classical.byContradiction fun hn => dns _ (sq_quot hn em)
  have k0 : k = 0 := by
    have : (2 : Fin RE) * k = 0 := by rw [hk]; clear h1 h2 hk h hi e0 ep em; grobner
    rcases Gmul_zero this with h | h
    · exact absurd h g2_ne
    · exact h
  rw [k0] at h
  exact g1_ne (by rw [← h]; grobner)
theorem gden1 {u v : Ep} (hu : onG u) (hv : onG v) : 1 + gk u v ≠ 0 := fun e => by
  refine gcomplete hu hv (k := gk u v) rfl ?_
  generalize gk u v = k at *
  grobner
theorem gden2 {u v : Ep} (hu : onG u) (hv : onG v) : 1 - gk u v ≠ 0 := fun e => by
  refine gcomplete hu hv (k := gk u v) rfl ?_
  generalize gk u v = k at *
  grobner
theorem Gsum_add {u v : Ep} (hu : onG u) (hv : onG v) : Gsum u v (gadd u v) := by
  have h1 := ginv_mul (gden1 hu hv)
  have h2 := ginv_mul (gden2 hu hv)
  unfold Gsum gadd
  dsimp only
  generalize gk u v = k at *
  generalize ginv (1 + k) = i at *
  generalize ginv (1 - k) = j at *
  constructor
  · clear h2; generalize u.1 * v.2 + u.2 * v.1 = n; grobner
  · clear h1; generalize u.2 * v.2 + u.1 * v.1 = n; grobner
theorem Gsum_unique {u v t t' : Ep} (hu : onG u) (hv : onG v) (h : Gsum u v t) (h' : Gsum u v t') : t = t' :=
  Prod.ext (Gcancel (gden1 hu hv) (h.1.trans h'.1.symm)) (Gcancel (gden2 hu hv) (h.2.trans h'.2.symm))
end Ob
