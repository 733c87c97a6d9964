/-
  The points of one Y: what X times X is, which X there are, odd and even; multiples bit by bit.
-/
import Derived.Test.YtoigpjaffggekabDoorRoot
import Derived.Test.YtoigpjaffggekabDoorEdN
namespace Ob
set_option linter.unusedVariables false
set_option linter.unusedSimpArgs false

/-- What X times X is, of a Y. -/
def gsqr (y : Fin RE) : Fin RE := (y * y - 1) * ginv (1 + 439 * (y * y))
theorem gsqr_den (y : Fin RE) : 1 + 439 * (y * y) ≠ 0 := fun e => by
  have hi := gi_sq
  have hd := d_nosq
  by_cases hy : y = 0
  · subst hy
    apply g1_ne
    generalize (439 : Fin RE) = d at e
    grobner
  · have hm := ginv_mul hy
    apply hd (gi * ginv y)
    generalize gi = i at *
    generalize ginv y = j at *
    generalize (439 : Fin RE) = d at *
    clear hd
    grobner
theorem on_sqr (x y : Fin RE) : onG (x, y) ↔ x * x = gsqr y := by
  have hm := ginv_mul (gsqr_den y)
  show y * y = 1 + x * x + 439 * (x * x * (y * y)) ↔ x * x = (y * y - 1) * ginv (1 + 439 * (y * y))
  generalize (439 : Fin RE) = d at *
  generalize ginv (1 + d * (y * y)) = j at *
  constructor
  · intro h; grobner
  · intro h; grobner
theorem G_roots {x z : Fin RE} (h : x * x = z * z) : x = z ∨ x = 0 - z := by
  have e : (x - z) * (x + z) = 0 := by grobner
  rcases Gmul_zero e with e | e
  · exact Or.inl (by grobner)
  · exact Or.inr (by grobner)
theorem Gneg_val {x : Fin RE} (h : x ≠ 0) : (0 - x).val = RE - x.val := by
  have h0 : x.val ≠ 0 := fun e => h (Fin.ext e)
  have h1 := x.isLt
  rw [Fin.val_sub]
  show (RE - x.val + 0) % RE = _
  rw [Nat.mod_eq_of_lt (by omega)]; omega
theorem Gneg_odd {x : Fin RE} (h : x ≠ 0) : (0 - x).val % 2 = 1 - x.val % 2 := by
  rw [Gneg_val h]
  have h1 := x.isLt
  show (288230376287764481 - x.val) % 2 = 1 - x.val % 2
  have : x.val < 288230376287764481 := h1
  omega
/-- One Y, and odd or even: one point. -/
theorem on_one {x z y : Fin RE} (hx : onG (x, y)) (hz : onG (z, y)) (h : x.val % 2 = z.val % 2) : x = z := by
  have e := ((on_sqr x y).mp hx).trans ((on_sqr z y).mp hz).symm
  rcases G_roots e with e | e
  · exact e
  · by_cases hz0 : z = 0
    · subst hz0; rw [e]; decide +kernel
    · rw [e, Gneg_odd hz0] at h; omega
theorem Sq_of {x s : Fin RE} (h : x * x = s) : Sq s.val := by
  by_cases hs : s = 0
  · subst hs; exact Or.inl rfl
  · refine Or.inr ?_
    have hx : x ≠ 0 := fun e => by subst e; apply hs; rw [← h]; grobner
    clear hs
    have hK : (R - 1) / 2 + (R - 1) / 2 = RE - 1 := by decide +kernel
    generalize (R - 1) / 2 = K at hK
    have e : gpow s K = 1 := by
      rw [← h, gpow_sq, ← gpow_add, hK]; exact fermatG x hx
    have e2 := gpow_val s K
    rw [e] at e2
    exact e2.symm
theorem Sq_root {s : Fin RE} (h : Sq s.val) : ∃ x : Fin RE, x * x = s := by
  have hr := (root_of_sq h).2
  refine ⟨toG (root s.val), Fin.ext ?_⟩
  rw [Fin.val_mul, toG_val, ← Nat.mul_mod]
  exact hr.trans (Nat.mod_eq_of_lt s.isLt)
theorem Sq_on (y : Fin RE) : Sq (gsqr y).val ↔ ∃ x, onG (x, y) :=
  ⟨fun h => by obtain ⟨x, hx⟩ := Sq_root h; exact ⟨x, (on_sqr x y).mpr hx⟩, fun ⟨x, hx⟩ => Sq_of ((on_sqr x y).mp hx)⟩
theorem on_opp {x y : Fin RE} (h : onG (x, y)) : onG (0 - x, y) := onG_neg h
/-- Of a Y that a point has there is the even one, and where X isn't 0 the odd one. -/
theorem on_parity {y : Fin RE} (h : ∃ x, onG (x, y)) (o : Nat) (ho : o < 2) (h0 : gsqr y ≠ 0 ∨ o = 0) : ∃ x, onG (x, y) ∧ x.val % 2 = o := by
  obtain ⟨x, hx⟩ := h
  by_cases hp : x.val % 2 = o
  · exact ⟨x, hx, hp⟩
  · have hx0 : x ≠ 0 := fun e => by
      subst e
      rcases h0 with h0 | h0
      · apply h0; rw [← (on_sqr 0 y).mp hx]; grobner
      · subst h0; exact hp rfl
    exact ⟨0 - x, on_opp hx, by rw [Gneg_odd hx0]; omega⟩
theorem no_odd {y x : Fin RE} (h : gsqr y = 0) (hx : onG (x, y)) : x = 0 := by
  have e := (on_sqr x y).mp hx
  rw [h] at e
  rcases Gmul_zero e with e | e <;> exact e
theorem gmul_bit {u : Ep} (hu : onG u) (n k : Nat) : gmul u (n / 2 ^ k) = gadd (gadd (gmul u (n / 2 ^ (k + 1))) (gmul u (n / 2 ^ (k + 1)))) (gmul u (n / 2 ^ k % 2)) := by
  have e : n / 2 ^ k = n / 2 ^ (k + 1) + n / 2 ^ (k + 1) + n / 2 ^ k % 2 := by
    rw [Nat.pow_succ, ← Nat.div_div_eq_div_mul]; omega
  rw [← gmul_add hu, ← gmul_add hu, ← e]
end Ob
