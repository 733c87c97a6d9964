/-
  Numbers as bytes, the highest first.
-/
namespace Ob

/-- The number that the first k bytes of z tell. -/
def num (z : Nat → Nat) : Nat → Nat
  | 0 => 0
  | k + 1 => 256 * num z k + z k
theorem num_lt (z : Nat → Nat) (h : ∀ i, z i < 256) (k : Nat) : num z k < 256 ^ k := by
  induction k with
  | zero => simp [num]
  | succ k ih =>
    have := h k
    rw [Nat.pow_succ]
    simp only [num]
    omega
theorem num_small (z : Nat → Nat) (h : ∀ i, z i < 256) (k : Nat) (hk : k ≤ 7) : num z k < 72057594037927936 :=
  Nat.lt_of_lt_of_le (num_lt z h k) (Nat.pow_le_pow_right (n := 256) (by decide) hk)
theorem num_word (z : Nat → Nat) (h : ∀ i, z i < 256) : num z 8 < 18446744073709551616 := num_lt z h 8

/-- The byte number i of the 8 of n. -/
def byteAt (n i : Nat) : Nat := n / 256 ^ (7 - i) % 256
theorem byteAt_lt (n i : Nat) : byteAt n i < 256 := Nat.mod_lt _ (by decide)

theorem num_byteAt (n k : Nat) (hk : k ≤ 8) (hn : n < 18446744073709551616) : num (byteAt n) k = n / 256 ^ (8 - k) := by
  induction k with
  | zero => simp only [num]; rw [Nat.div_eq_of_lt (by simpa using hn)]
  | succ k ih =>
    simp only [num]
    rw [ih (by omega)]
    have e : 8 - k = (8 - (k + 1)) + 1 := by omega
    have e2 : 7 - k = 8 - (k + 1) := by omega
    rw [e, Nat.pow_succ, ← Nat.div_div_eq_div_mul]
    unfold byteAt
    rw [e2]
    omega
theorem num_bytes (n : Nat) (hn : n < 18446744073709551616) : num (byteAt n) 8 = n := by
  rw [num_byteAt n 8 (by decide) hn]; simp
theorem num_congr (y z : Nat → Nat) (k : Nat) (h : ∀ i, i < k → y i = z i) : num y k = num z k := by
  induction k with
  | zero => rfl
  | succ k ih => simp only [num]; rw [ih fun i hi => h i (by omega), h k (by omega)]
theorem byteAt_num (z : Nat → Nat) (h : ∀ i, z i < 256) (i : Nat) (hi : i < 8) : byteAt (num z 8) i = z i := by
  have h0 := h 0; have h1 := h 1; have h2 := h 2; have h3 := h 3; have h4 := h 4; have h5 := h 5; have h6 := h 6; have h7 := h 7
  have h8 : i = 0 ∨ i = 1 ∨ i = 2 ∨ i = 3 ∨ i = 4 ∨ i = 5 ∨ i = 6 ∨ i = 7 := by omega
  rcases h8 with rfl | rfl | rfl | rfl | rfl | rfl | rfl | rfl
  all_goals
    simp only [byteAt, num]
    omega
end Ob
