/-
  Euclid's way with one factor beside it: what holds at every round, and what is told at the end; the inverse modulo m.
-/
namespace Ob

/-- At every round: r and n are x a and y a modulo m; their divisors are those of m and a; the factors' signs alternate, and they stay within m. -/
structure Euc (m a r n : Nat) (x y : Int) : Prop where
  fx : ∃ k : Int, x * a = r + m * k
  fy : ∃ k : Int, y * a = n + m * k
  gcd : Nat.gcd r n = Nat.gcd m a
  sum : r * y.natAbs + n * x.natAbs = m
  signs : (0 ≤ x ∧ y ≤ 0) ∨ (x ≤ 0 ∧ 0 ≤ y)
  lt : n < r
  small : x.natAbs < m
  le : r ≤ m

theorem Euc.start {m a : Nat} (h : a < m) : Euc m a m a 0 1 where
  fx := ⟨-1, by grind⟩
  fy := ⟨0, by grind⟩
  gcd := rfl
  sum := by simp
  signs := by omega
  lt := h
  small := by simp; omega
  le := Nat.le_refl _

theorem sum_step (r n q d X Y m : Nat) (h : r * Y + n * X = m) (hd : r = q * n + d) : n * (X + q * Y) + d * Y = m := by
  subst hd
  rw [← h, Nat.mul_add, Nat.add_mul, ← Nat.mul_assoc, Nat.mul_comm n q]
  omega

theorem Euc.step {m a r n : Nat} {x y : Int} (h : Euc m a r n x y) (hn : 0 < n) : Euc m a n (r % n) y (x - (r / n : Nat) * y) := by
  have hd : r = r / n * n + r % n := (Nat.div_add_mod' r n).symm
  have hl : r % n < n := Nat.mod_lt _ hn
  generalize r / n = q at *
  have hg : Nat.gcd n (r % n) = Nat.gcd r n := by rw [Nat.gcd_comm, ← Nat.gcd_rec, Nat.gcd_comm]
  generalize r % n = d at *
  obtain ⟨⟨k, hk⟩, ⟨l, hll⟩, g, s, sg, lt, sm, le⟩ := h
  have hab : (x - (q : Int) * y).natAbs = x.natAbs + q * y.natAbs := by
    have e : (q : Int) * y = (q : Int) * y := rfl
    have e2 : ((q : Int) * y).natAbs = q * y.natAbs := by rw [Int.natAbs_mul, Int.natAbs_natCast]
    rcases sg with ⟨h1, h2⟩ | ⟨h1, h2⟩
    · have h3 : (q : Int) * y ≤ 0 := Int.mul_nonpos_of_nonneg_of_nonpos (by omega) h2
      omega
    · have h3 : 0 ≤ (q : Int) * y := Int.mul_nonneg (by omega) h2
      omega
  refine ⟨⟨l, hll⟩, ⟨k - q * l, ?_⟩, by rw [hg, g], ?_, ?_, hl, ?_, by omega⟩
  · have : (r : Int) = q * n + d := by rw [hd]; simp
    grind
  · rw [hab]
    exact sum_step r n q d x.natAbs y.natAbs m s hd
  · rcases sg with ⟨h1, h2⟩ | ⟨h1, h2⟩
    · have h3 : (q : Int) * y ≤ 0 := Int.mul_nonpos_of_nonneg_of_nonpos (by omega) h2
      omega
    · have h3 : 0 ≤ (q : Int) * y := Int.mul_nonneg (by omega) h2
      omega
  · rcases Nat.eq_zero_or_pos y.natAbs with h0 | h0
    · omega
    · have : 2 * y.natAbs ≤ r * y.natAbs := Nat.mul_le_mul_right _ (by omega)
      omega

theorem Euc.bounds {m a r n : Nat} {x y : Int} (h : Euc m a r n x y) : y.natAbs ≤ m := by
  have h1 := h.sum
  have h2 := h.lt
  have : 1 * y.natAbs ≤ r * y.natAbs := Nat.mul_le_mul_right _ (by omega)
  omega

/-- What is told at the end, with the divisor 1. -/
theorem Euc.last {m a r : Nat} {x y : Int} (h : Euc m a r 0 x y) : r = Nat.gcd m a := by
  have := h.gcd
  rw [Nat.gcd_zero_right] at this
  exact this

theorem Euc.inverse {m a : Nat} {x y : Int} (h : Euc m a 1 0 x y) (X : Nat) (hX : (X : Int) = if x < 0 then x + m else x) : X < m ∧ X * a % m = 1 % m := by
  obtain ⟨k, hk⟩ := h.fx
  have hs := h.small
  refine ⟨by split at hX <;> omega, ?_⟩
  have : ∃ j : Int, (X : Int) * a = 1 + m * j := by
    split at hX
    · exact ⟨k + a, by rw [hX]; grind⟩
    · exact ⟨k, by rw [hX]; grind⟩
  obtain ⟨j, hj⟩ := this
  have e : ((X * a % m : Nat) : Int) = ((1 % m : Nat) : Int) := by
    rw [Int.natCast_emod, Int.natCast_mul, hj, Int.add_mul_emod_self_left, Int.natCast_emod]
    rfl
  exact Int.ofNat.inj e

theorem Euc.ends {m a : Nat} : ∀ (n r : Nat) (x y : Int), Euc m a r n x y → ∃ r x y, Euc m a r 0 x y := by
  intro n
  induction n using Nat.strongRecOn with
  | ind n ih =>
    intro r x y h
    rcases Nat.eq_zero_or_pos n with h0 | h0
    · subst h0; exact ⟨r, x, y, h⟩
    · exact ih (r % n) (Nat.mod_lt _ h0) n y _ (h.step h0)

/-- What has no divisor in common with m has an inverse. -/
theorem inverse_exists {m a : Nat} (hm : 2 ≤ m) (hg : Nat.gcd m a = 1) : ∃ X, X < m ∧ X * a % m = 1 % m := by
  have hl : a % m < m := Nat.mod_lt _ (by omega)
  obtain ⟨r, x, y, h⟩ := Euc.ends _ _ _ _ (Euc.start hl)
  have hr := h.last
  have e : Nat.gcd m (a % m) = 1 := by rw [Nat.gcd_comm, ← Nat.gcd_rec, hg]
  rw [e] at hr
  subst hr
  have hs := h.small
  obtain ⟨h1, h2⟩ := h.inverse (if x < 0 then x + m else x).toNat (by split <;> omega)
  refine ⟨_, h1, ?_⟩
  rw [Nat.mul_mod, Nat.mod_mod, ← Nat.mul_mod] at h2
  exact h2
end Ob
