/-
  The arithmetic under math/bits.Div64: one digit of the school division by two digits of 32 bits; and that shifting both sides by s changes nothing but the remainder's scale.
-/
namespace Ob

abbrev B32 : Nat := 4294967296
abbrev B64 : Nat := 18446744073709551616

/-- The true digit is below B. -/
theorem dig_lt (u v d : Nat) (hu : u < v) (hd : d < B32) : (u * B32 + d) / v < B32 := by
  have hv : 0 < v := by omega
  rw [Nat.div_lt_iff_lt_mul hv]
  have : (u + 1) * B32 ≤ v * B32 := Nat.mul_le_mul_right _ hu
  have e : (u + 1) * B32 = u * B32 + B32 := Nat.succ_mul u B32
  rw [Nat.mul_comm B32 v]
  omega

/-- The first guess is at least the digit. -/
theorem dig_le_first (u v1 v0 d : Nat) (hv1 : 0 < v1) (hd : d < B32) : (u * B32 + d) / (v1 * B32 + v0) ≤ u / v1 := by
  rw [Nat.le_div_iff_mul_le hv1]
  have h1 := Nat.div_mul_le_self (u * B32 + d) (v1 * B32 + v0)
  generalize (u * B32 + d) / (v1 * B32 + v0) = q at h1 ⊢
  have e : q * (v1 * B32 + v0) = (q * v1) * B32 + q * v0 := by rw [Nat.mul_add, Nat.mul_assoc]
  rw [e] at h1
  generalize q * v1 = t at h1 ⊢
  generalize q * v0 = z at h1
  simp only [B32] at h1 hd
  omega

/-- The first guess is at most two too great. -/
theorem first_le (u v1 v0 : Nat) (hu : u < v1 * B32 + v0) (hv0 : v0 < B32) (hv1 : 2147483648 ≤ v1) : u / v1 ≤ B32 + 1 := by
  have : u / v1 < B32 + 2 := by
    rw [Nat.div_lt_iff_lt_mul (by omega)]
    have e : (B32 + 2) * v1 = v1 * B32 + 2 * v1 := by rw [Nat.add_mul, Nat.mul_comm]
    rw [e]
    simp only [B32] at *
    omega
  omega

theorem dig_id (u v1 v0 d qh rh : Nat) (e : u = qh * v1 + rh) : qh * (v1 * B32 + v0) + (B32 * rh + d) = u * B32 + d + qh * v0 := by
  rw [e, Nat.mul_add, Nat.add_mul, ← Nat.mul_assoc]
  generalize qh * v1 = t
  generalize qh * v0 = z
  simp only [B32]
  omega

/-- What fits is at most the digit. -/
theorem dig_fits (u v1 v0 d qh rh : Nat) (hv1 : 0 < v1) (e : u = qh * v1 + rh) (h : qh * v0 ≤ B32 * rh + d) : qh ≤ (u * B32 + d) / (v1 * B32 + v0) := by
  rw [Nat.le_div_iff_mul_le (by simp only [B32]; omega)]
  have := dig_id u v1 v0 d qh rh e
  omega

/-- What does not fit is above the digit. -/
theorem dig_over (u v1 v0 d qh rh : Nat) (hv1 : 0 < v1) (e : u = qh * v1 + rh) (h : B32 * rh + d < qh * v0) : (u * B32 + d) / (v1 * B32 + v0) < qh := by
  rw [Nat.div_lt_iff_lt_mul (by simp only [B32]; omega)]
  have := dig_id u v1 v0 d qh rh e
  omega

/-- Behind the break it fits. -/
theorem dig_break (v0 d qh rh : Nat) (hq : qh ≤ B32) (hv0 : v0 < B32) (hr : B32 ≤ rh) : qh * v0 ≤ B32 * rh + d := by
  have h1 : qh * v0 ≤ B32 * B32 := Nat.mul_le_mul hq (by omega)
  have h2 : B32 * B32 ≤ B32 * rh := Nat.mul_le_mul_left _ hr
  omega

/-- The loop's relation over one digit. -/
def Dig (u v1 v0 d qh rh : Nat) : Prop := u = qh * v1 + rh ∧ (u * B32 + d) / (v1 * B32 + v0) ≤ qh ∧ qh ≤ B32 + 1 ∧ rh < B32

theorem Dig.first (u v1 v0 d : Nat) (hv1 : 2147483648 ≤ v1) (hv1' : v1 < B32) (hv0 : v0 < B32) (hd : d < B32) (hu : u < v1 * B32 + v0) : Dig u v1 v0 d (u / v1) (u - u / v1 * v1) := by
  have h1 := Nat.div_add_mod' u v1
  have h2 := Nat.mod_lt u (show 0 < v1 by omega)
  refine ⟨by omega, dig_le_first u v1 v0 d (by omega) hd, first_le u v1 v0 hu hv0 hv1, by omega⟩

theorem dig_lower {u v1 qh rh : Nat} (e : u = qh * v1 + rh) (h : 0 < qh) : u = (qh - 1) * v1 + (rh + v1) := by
  obtain ⟨k, rfl⟩ : ∃ k, qh = k + 1 := ⟨qh - 1, by omega⟩
  rw [Nat.succ_mul] at e
  simp only [Nat.add_sub_cancel]
  omega

theorem Dig.above {u v1 v0 d qh rh : Nat} (h : Dig u v1 v0 d qh rh) (hv1 : 2147483648 ≤ v1) (hd : d < B32) (hu : u < v1 * B32 + v0) (c : B32 ≤ qh ∨ B32 * rh + d < qh * v0) :
    (u * B32 + d) / (v1 * B32 + v0) < qh := by
  obtain ⟨e, h1, h2, h3⟩ := h
  rcases c with c | c
  · exact Nat.lt_of_lt_of_le (dig_lt u (v1 * B32 + v0) d hu hd) c
  · exact dig_over u v1 v0 d qh rh (by omega) e c

/-- One round that goes on. -/
theorem Dig.next {u v1 v0 d qh rh : Nat} (h : Dig u v1 v0 d qh rh) (hv1 : 2147483648 ≤ v1) (hd : d < B32) (hu : u < v1 * B32 + v0) (c : B32 ≤ qh ∨ B32 * rh + d < qh * v0) (hr : rh + v1 < B32) :
    Dig u v1 v0 d (qh - 1) (rh + v1) ∧ 0 < qh := by
  have lt := h.above hv1 hd hu c
  obtain ⟨e, h1, h2, h3⟩ := h
  have hp : 0 < qh := Nat.lt_of_le_of_lt (Nat.zero_le _) lt
  exact ⟨⟨dig_lower e hp, Nat.le_sub_one_of_lt lt, Nat.le_trans (Nat.sub_le _ _) h2, hr⟩, hp⟩

/-- One round that breaks off: it is the digit. -/
theorem Dig.broke {u v1 v0 d qh rh : Nat} (h : Dig u v1 v0 d qh rh) (hv1 : 2147483648 ≤ v1) (hv0 : v0 < B32) (hd : d < B32) (hu : u < v1 * B32 + v0) (c : B32 ≤ qh ∨ B32 * rh + d < qh * v0) (hr : B32 ≤ rh + v1) :
    qh - 1 = (u * B32 + d) / (v1 * B32 + v0) ∧ 0 < qh := by
  have lt := h.above hv1 hd hu c
  obtain ⟨e, h1, h2, h3⟩ := h
  have hp : 0 < qh := Nat.lt_of_le_of_lt (Nat.zero_le _) lt
  have := dig_fits u v1 v0 d (qh - 1) (rh + v1) (by omega) (dig_lower e hp) (dig_break v0 d (qh - 1) (rh + v1) (by omega) hv0 hr)
  exact ⟨Nat.le_antisymm this (Nat.le_sub_one_of_lt lt), hp⟩

/-- The loop's end by its test: it is the digit. -/
theorem Dig.done {u v1 v0 d qh rh : Nat} (h : Dig u v1 v0 d qh rh) (hv1 : 2147483648 ≤ v1) (c : qh * v0 ≤ B32 * rh + d) :
    qh = (u * B32 + d) / (v1 * B32 + v0) := by
  obtain ⟨e, h1, h2, h3⟩ := h
  exact Nat.le_antisymm (dig_fits u v1 v0 d qh rh (by omega) e c) h1

theorem two_digits_at (u v d1 d0 B : Nat) (hv : 0 < v) :
    (u * (B * B) + (d1 * B + d0)) / v = (u * B + d1) / v * B + ((u * B + d1) % v * B + d0) / v ∧
    (u * (B * B) + (d1 * B + d0)) % v = ((u * B + d1) % v * B + d0) % v := by
  have h1 := Nat.div_add_mod' (u * B + d1) v
  generalize (u * B + d1) / v = q1 at h1 ⊢
  generalize (u * B + d1) % v = r1 at h1 ⊢
  have e : u * (B * B) + (d1 * B + d0) = (r1 * B + d0) + v * (q1 * B) := by
    have e1 : (u * B + d1) * B = u * (B * B) + d1 * B := by rw [Nat.add_mul, Nat.mul_assoc]
    have e2 : (q1 * v + r1) * B = v * (q1 * B) + r1 * B := by rw [Nat.add_mul, Nat.mul_comm q1 v, Nat.mul_assoc]
    rw [← Nat.add_assoc, ← e1, ← h1, e2]
    omega
  rw [e, Nat.add_mul_div_left _ _ hv, Nat.add_mul_mod_self_left]
  exact ⟨Nat.add_comm _ _, rfl⟩

/-- Two digits, one behind the other. -/
theorem two_digits (u v d1 d0 : Nat) (hv : 0 < v) :
    (u * B64 + (d1 * B32 + d0)) / v = (u * B32 + d1) / v * B32 + ((u * B32 + d1) % v * B32 + d0) / v ∧
    (u * B64 + (d1 * B32 + d0)) % v = ((u * B32 + d1) % v * B32 + d0) % v :=
  two_digits_at u v d1 d0 B32 hv

/-- Shifted by s (K is 2^s, L is 2^(64-s)): the upper word and the lower one. -/
theorem shifted (hi lo K L : Nat) (hKL : K * L = B64) : (hi * K + lo / L) * B64 + lo * K % B64 = (hi * B64 + lo) * K := by
  have hL : 0 < L := by
    rcases Nat.eq_zero_or_pos L with h | h
    · subst h; simp [B64] at hKL
    · exact h
  have hK : 0 < K := by
    rcases Nat.eq_zero_or_pos K with h | h
    · subst h; simp [B64] at hKL
    · exact h
  have h1 := Nat.div_add_mod' lo L
  have h2 := Nat.mod_lt lo hL
  generalize lo / L = a at *
  generalize lo % L = b at *
  have h3 : lo * K = a * B64 + b * K := by
    rw [← h1, Nat.add_mul, Nat.mul_assoc, Nat.mul_comm L K, hKL]
  have h4 : b * K < B64 := by
    rw [← hKL, Nat.mul_comm K L]
    exact Nat.mul_lt_mul_of_pos_right h2 hK
  have h5 : lo * K % B64 = b * K := by
    rw [h3, Nat.mul_comm a B64, Nat.mul_add_mod, Nat.mod_eq_of_lt h4]
  rw [h5, Nat.add_mul, Nat.add_mul, h3, Nat.mul_right_comm]
  omega

theorem shifted_div (N y K : Nat) (hK : 0 < K) : N * K / (y * K) = N / y ∧ N * K % (y * K) / K = N % y := by
  refine ⟨Nat.mul_div_mul_right N y hK, ?_⟩
  rw [Nat.mul_mod_mul_right, Nat.mul_div_cancel _ hK]

/-- The whole of it: out of the two digits of the shifted numbers. -/
theorem div64_whole (hi lo y K L : Nat) (hKL : K * L = B64) (hy : 0 < y)
    (u d1 d0 q1 r1 q0 : Nat) (hu : u = hi * K + lo / L) (hd : d1 * B32 + d0 = lo * K % B64)
    (h1 : q1 = (u * B32 + d1) / (y * K)) (hr1 : r1 = (u * B32 + d1) % (y * K)) (h0 : q0 = (r1 * B32 + d0) / (y * K)) :
    q1 * B32 + q0 = (hi * B64 + lo) / y ∧ (r1 * B32 + d0) % (y * K) / K = (hi * B64 + lo) % y := by
  have hK : 0 < K := by
    rcases Nat.eq_zero_or_pos K with h | h
    · subst h; simp [B64] at hKL
    · exact h
  have hv : 0 < y * K := Nat.mul_pos hy hK
  have t := two_digits u (y * K) d1 d0 hv
  rw [hd, hu, shifted hi lo K L hKL, ← hu, ← h1, ← hr1, ← h0] at t
  have s := shifted_div (hi * B64 + lo) y K hK
  exact ⟨by rw [← t.1, s.1], by rw [← t.2, s.2]⟩

end Ob
