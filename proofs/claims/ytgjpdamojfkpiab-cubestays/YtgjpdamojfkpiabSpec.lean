/-
  What the calls of layer 1 answer, as functions of plain numbers.
-/
namespace Ob

/-- A number that counts as a modulus. -/
def Mod (m : Nat) : Prop := 2 ≤ m ∧ m ≤ 4611686018427387904
theorem not_mod {m : Nat} (h : ¬ Mod m) : m < 2 ∨ 4611686018427387904 < m := by unfold Mod at h; omega

def add (m a b : Nat) : Nat := if 2 ≤ m ∧ m ≤ 4611686018427387904 then (a + b) % m else 0
def sub (m a b : Nat) : Nat := if 2 ≤ m ∧ m ≤ 4611686018427387904 then (a % m + (m - b % m)) % m else 0
def mul (m a b : Nat) : Nat := if 2 ≤ m ∧ m ≤ 4611686018427387904 then a * b % m else 0
def pow (m a e : Nat) : Nat := if 2 ≤ m ∧ m ≤ 4611686018427387904 then a ^ e % m else 0

theorem add_yes {m a b : Nat} (h : Mod m) : add m a b = (a + b) % m := if_pos h
theorem add_no {m a b : Nat} (h : ¬ Mod m) : add m a b = 0 := if_neg h
theorem sub_yes {m a b : Nat} (h : Mod m) : sub m a b = (a % m + (m - b % m)) % m := if_pos h
theorem sub_no {m a b : Nat} (h : ¬ Mod m) : sub m a b = 0 := if_neg h
theorem mul_yes {m a b : Nat} (h : Mod m) : mul m a b = a * b % m := if_pos h
theorem mul_no {m a b : Nat} (h : ¬ Mod m) : mul m a b = 0 := if_neg h
theorem pow_yes {m a e : Nat} (h : Mod m) : pow m a e = a ^ e % m := if_pos h
theorem pow_no {m a e : Nat} (h : ¬ Mod m) : pow m a e = 0 := if_neg h

theorem add_lt {m a b : Nat} (h : Mod m) : add m a b < m := by rw [add_yes h]; exact Nat.mod_lt _ (by have := h.1; omega)
theorem sub_lt {m a b : Nat} (h : Mod m) : sub m a b < m := by rw [sub_yes h]; exact Nat.mod_lt _ (by have := h.1; omega)
theorem mul_lt {m a b : Nat} (h : Mod m) : mul m a b < m := by rw [mul_yes h]; exact Nat.mod_lt _ (by have := h.1; omega)
theorem pow_lt {m a e : Nat} (h : Mod m) : pow m a e < m := by rw [pow_yes h]; exact Nat.mod_lt _ (by have := h.1; omega)
theorem add_word (m a b : Nat) : add m a b < 18446744073709551616 := by
  by_cases h : Mod m
  · have := add_lt (a := a) (b := b) h; have := h.2; omega
  · rw [add_no h]; omega
theorem sub_word (m a b : Nat) : sub m a b < 18446744073709551616 := by
  by_cases h : Mod m
  · have := sub_lt (a := a) (b := b) h; have := h.2; omega
  · rw [sub_no h]; omega
theorem mul_word (m a b : Nat) : mul m a b < 18446744073709551616 := by
  by_cases h : Mod m
  · have := mul_lt (a := a) (b := b) h; have := h.2; omega
  · rw [mul_no h]; omega
theorem pow_word (m a e : Nat) : pow m a e < 18446744073709551616 := by
  by_cases h : Mod m
  · have := pow_lt (a := a) (e := e) h; have := h.2; omega
  · rw [pow_no h]; omega

/-- The inverse of a modulo m (0 where there is none): the first number that serves. -/
def inv (m a : Nat) : Nat := ((List.range m).find? fun X => X * a % m == 1 % m).getD 0

/-- Two numbers that undo a modulo m are the same below m. -/
theorem inv_unique {m a X Y : Nat} (hX : X < m) (hY : Y < m) (h1 : X * a % m = 1 % m) (h2 : Y * a % m = 1 % m) : X = Y := by
  have e1 : X * (a * Y) % m = X % m := by
    rw [Nat.mul_mod, Nat.mul_comm a Y, h2, ← Nat.mul_mod, Nat.mul_one]
  have e2 : X * a * Y % m = Y % m := by
    rw [Nat.mul_mod, h1, ← Nat.mul_mod, Nat.one_mul]
  rw [← Nat.mul_assoc, e2, Nat.mod_eq_of_lt hX, Nat.mod_eq_of_lt hY] at e1
  exact e1.symm

theorem inv_eq {m a X : Nat} (hX : X < m) (h : X * a % m = 1 % m) : inv m a = X := by
  unfold inv
  cases hf : (List.range m).find? fun X => X * a % m == 1 % m with
  | none =>
    have := List.find?_eq_none.mp hf X (List.mem_range.mpr hX)
    simp [h] at this
  | some Y =>
    have h1 := List.find?_some hf
    have h2 := List.mem_range.mp (List.mem_of_find?_eq_some hf)
    simp only [beq_iff_eq] at h1
    exact inv_unique h2 hX h1 h

/-- What has no divisor in common with m has an inverse: Euclid. -/
theorem inv_ok_of {m a X : Nat} (hX : X < m) (h : X * a % m = 1 % m) : inv m a < m ∧ inv m a * a % m = 1 % m := by rw [inv_eq hX h]; exact ⟨hX, h⟩
end Ob
