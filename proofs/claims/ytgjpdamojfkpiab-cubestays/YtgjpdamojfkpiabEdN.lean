/-
  Numbers modulo R as Fin RE: what the document's own sums and products answer; points as pairs of numbers.
-/
import Derived.Test.YtgjpdamojfkpiabSpec
import Derived.Test.YtgjpdamojfkpiabEd4
namespace Ob
set_option linter.unusedVariables false
set_option linter.unusedSimpArgs false

theorem modRE : Mod RE := ⟨by decide, by decide⟩
/-- The rest of a number by R. -/
def toG (n : Nat) : Fin RE := Fin.ofNat RE n
theorem toG_val (n : Nat) : (toG n).val = n % RE := rfl
theorem toG_of_val (x : Fin RE) : toG x.val = x := Fin.ext (Nat.mod_eq_of_lt x.isLt)
theorem G_word (x : Fin RE) : x.val < 18446744073709551616 := Nat.lt_trans x.isLt (by decide)
theorem addG (a b : Nat) : add RE a b = (toG a + toG b).val := by
  rw [add_yes modRE, Fin.val_add, toG_val, toG_val, ← Nat.add_mod]
theorem mulG (a b : Nat) : mul RE a b = (toG a * toG b).val := by
  rw [mul_yes modRE, Fin.val_mul, toG_val, toG_val, ← Nat.mul_mod]
theorem subG (a b : Nat) : sub RE a b = (toG a - toG b).val := by
  rw [sub_yes modRE, Fin.val_sub, toG_val, toG_val, Nat.add_comm]
theorem powG (b e : Nat) (he : e = RE - 2) : pow RE b e = (ginv (toG b)).val := by
  rw [pow_yes modRE, ginv_val, toG_val, ← he, ← Nat.pow_mod]
theorem toG_1 : toG 1 = 1 := rfl
theorem toG_439 : toG 439 = 439 := rfl
theorem toG_neg (b : Nat) : toG (RE - b % RE) = 0 - toG b := by
  apply Fin.ext
  rw [Fin.val_sub, toG_val, toG_val]
  rfl
/-- Whether a pair of numbers is a point. -/
def isG (x y : Nat) : Bool := decide (x < RE) && decide (y < RE) && decide (toG y * toG y = toG x * toG x + (1 + 439 * (toG x * toG x * (toG y * toG y))))
theorem isG_on {x y : Nat} (h : isG x y = true) : x = (toG x).val ∧ y = (toG y).val ∧ onG (toG x, toG y) := by
  simp only [isG, Bool.and_eq_true, decide_eq_true_eq] at h
  obtain ⟨⟨h1, h2⟩, h3⟩ := h
  refine ⟨(Nat.mod_eq_of_lt h1).symm, (Nat.mod_eq_of_lt h2).symm, ?_⟩
  show toG y * toG y = 1 + toG x * toG x + 439 * (toG x * toG x * (toG y * toG y))
  generalize toG x = a at *; generalize toG y = b at *
  grobner
theorem on_isG {u : Ep} (h : onG u) : isG u.1.val u.2.val = true := by
  obtain ⟨x, y⟩ := u
  simp only [isG, Bool.and_eq_true, decide_eq_true_eq, toG_of_val]
  refine ⟨⟨x.isLt, y.isLt⟩, ?_⟩
  have h' : y * y = 1 + x * x + 439 * (x * x * (y * y)) := h
  grobner
/-- What a pair of numbers counts as. -/
def ofG (x y : Nat) : Ep := if isG x y = true then (toG x, toG y) else gzero
theorem ofG_on (x y : Nat) : onG (ofG x y) := by
  by_cases h : isG x y = true
  · rw [ofG, if_pos h]; exact (isG_on h).2.2
  · rw [ofG, if_neg h]; exact onG_zero
theorem ofG_yes {x y : Nat} (h : isG x y = true) : x = (ofG x y).1.val ∧ y = (ofG x y).2.val := by
  rw [ofG, if_pos h]; exact ⟨(isG_on h).1, (isG_on h).2.1⟩
theorem ofG_no {x y : Nat} (h : isG x y = false) : ofG x y = gzero := by
  rw [ofG, if_neg (by rw [h]; decide)]
theorem ofG_val {u : Ep} (h : onG u) : ofG u.1.val u.2.val = u := by
  rw [ofG, if_pos (on_isG h), toG_of_val, toG_of_val]
end Ob
