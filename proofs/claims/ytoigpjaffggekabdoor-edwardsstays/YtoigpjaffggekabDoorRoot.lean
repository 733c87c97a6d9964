/-
  Roots modulo R by the way of Tonelli and Shanks: what holds at every round; that there are just two of them.
-/
import Derived.Test.YtoigpjaffggekabDoorPrimes
namespace Ob

def ODD : Nat := 1099511628295
theorem R_half : (R - 1) / 2 = ODD * 131072 := by decide +kernel
theorem R_half_at {k : Nat} (hk : k = 17) : (R - 1) / 2 = ODD * 2 ^ k := by rw [R_half, hk]
theorem three_half : 3 ^ ((R - 1) / 2) % R = R - 1 := pow_of_powm (by decide +kernel) (by decide +kernel)
theorem R_two : 2 ≤ R := by decide +kernel

/-- At the head of the round k: x x is a over; over's order divides 2^k; step's is 2^(k + 1). -/
structure Ton (a k x over step : Nat) : Prop where
  sq : x * x % R = a * over % R
  ov : over ^ 2 ^ k % R = 1
  st : step ^ 2 ^ k % R = R - 1

theorem Ton.start {a k : Nat} (hk : k = 17) (h : a ^ ((R - 1) / 2) % R = 1) : Ton a k (a ^ ((ODD + 1) / 2) % R) (a ^ ODD % R) (3 ^ ODD % R) where
  sq := by
    rw [← Nat.mul_mod, ← Nat.pow_add, mul_mod_right]
    have : (ODD + 1) / 2 + (ODD + 1) / 2 = ODD + 1 := by decide +kernel
    rw [this, Nat.pow_succ, Nat.mul_comm]
  ov := by rw [pow_mod_left, ← Nat.pow_mul, ← R_half_at hk]; exact h
  st := by rw [pow_mod_left, ← Nat.pow_mul, ← R_half_at hk]; exact three_half

theorem sq_pow (s k : Nat) : (s * s % R) ^ 2 ^ k % R = s ^ 2 ^ (k + 1) % R := by
  rw [square_pow, Nat.pow_succ, Nat.mul_comm (2 ^ k) 2]

/-- A round where over is left. -/
theorem Ton.keep {a k x over step : Nat} (h : Ton a (k + 1) x over step) (c : over ^ 2 ^ k % R = 1) : Ton a k x over (step * step % R) :=
  ⟨h.sq, c, by rw [sq_pow]; exact h.st⟩

/-- A round where over is turned. -/
theorem Ton.turn {a k x over step : Nat} (h : Ton a (k + 1) x over step) (c : over ^ 2 ^ k % R ≠ 1) : Ton a k (x * step % R) (over * (step * step % R) % R) (step * step % R) := by
  have hR := R_two
  have hm : over ^ 2 ^ k % R = R - 1 := by
    have h1 : (over ^ 2 ^ k % R) * (over ^ 2 ^ k % R) % R = 1 := by
      rw [← Nat.mul_mod, ← Nat.pow_add, ← Nat.two_mul, Nat.mul_comm, ← Nat.pow_succ]
      exact h.ov
    rcases primeR.square_one (Nat.mod_lt _ (by omega)) h1 with e | e
    · exact absurd e c
    · exact e
  refine ⟨?_, ?_, by rw [sq_pow]; exact h.st⟩
  · rw [← Nat.mul_mod, mul_mod_right]
    have e1 : x * step * (x * step) = x * x * (step * step) := by grind
    have e2 : a * (over * (step * step % R)) = a * over * (step * step % R) := by rw [Nat.mul_assoc]
    rw [e1, e2, mul_mod_right, Nat.mul_mod, h.sq, ← Nat.mul_mod]
  · rw [pow_mod_left, Nat.mul_pow, Nat.mul_mod, hm, sq_pow, h.st]
    decide +kernel

/-- At the end over is 1. -/
theorem Ton.last {a x over step : Nat} (h : Ton a 0 x over step) : x * x % R = a % R := by
  have h1 := h.ov
  rw [Nat.pow_zero, Nat.pow_one] at h1
  rw [h.sq, Nat.mul_mod, h1, Nat.mul_one, Nat.mod_mod]

/-- Two roots of one number modulo a prime, each at most half of it, are the same. -/
theorem Prime.root_unique {p x y : Nat} (hp : Prime p) (hx : x ≤ p / 2) (hy : y ≤ p / 2) (h : x * x % p = y * y % p) (hp3 : p % 2 = 1) : x = y := by
  have main : ∀ x y : Nat, x ≤ p / 2 → y ≤ p / 2 → x * x % p = y * y % p → x ≤ y → x = y := by
    intro x y hx hy h hxy
    obtain ⟨d, rfl⟩ : ∃ d, y = x + d := ⟨y - x, by omega⟩
    have hle : x * x ≤ (x + d) * (x + d) := Nat.mul_le_mul hxy hxy
    have e : (x + d) * (x + d) - x * x = d * (2 * x + d) := by
      have : (x + d) * (x + d) = x * x + d * (2 * x + d) := by grind
      omega
    have hdv : p ∣ d * (2 * x + d) := by
      rw [← e]
      exact Nat.dvd_of_mod_eq_zero (Nat.sub_mod_eq_zero_of_mod_eq h.symm)
    rcases hp.dvd_mul hdv with h1 | h1
    · rcases Nat.eq_zero_or_pos d with h0 | h0
      · omega
      · have := Nat.le_of_dvd h0 h1; have := hp.1; omega
    · rcases Nat.eq_zero_or_pos (2 * x + d) with h0 | h0
      · omega
      · have := Nat.le_of_dvd h0 h1; omega
  rcases Nat.le_total x y with c | c
  · exact main x y hx hy h c
  · exact (main y x hy hx h.symm c).symm

/-- The root modulo R that is at most half of it (0 where there is none): the first that serves. -/
def root (a : Nat) : Nat := ((List.range (R / 2 + 1)).find? fun X => X * X % R == a % R).getD 0

theorem root_eq {a X : Nat} (hX : X ≤ R / 2) (h : X * X % R = a % R) : root a = X := by
  unfold root
  cases hf : (List.range (R / 2 + 1)).find? fun X => X * X % R == a % R with
  | none =>
    have := List.find?_eq_none.mp hf X (List.mem_range.mpr (by omega))
    simp [h] at this
  | some Y =>
    have h1 := List.find?_some hf
    have h2 := List.mem_range.mp (List.mem_of_find?_eq_some hf)
    simp only [beq_iff_eq] at h1
    show Y = X
    exact primeR.root_unique (by omega) hX (by rw [h1, h]) (by decide +kernel)

/-- The lesser of x and R - x. -/
theorem lesser {a x : Nat} (hx : x < R) (h : x * x % R = a % R) : root a = min x (R - x) := by
  have hR : R % 2 = 1 := by decide +kernel
  rcases Nat.le_total x (R - x) with c | c
  · rw [Nat.min_eq_left c]
    exact root_eq (by omega) h
  · rw [Nat.min_eq_right c]
    refine root_eq (by omega) ?_
    rw [← h]
    obtain ⟨y, hy⟩ : ∃ y, x + y = R := ⟨R - x, by omega⟩
    have e : R - x = y := by omega
    rw [e]
    have : y * y + R * (2 * x) = x * x + R * R := by rw [← hy]; grind
    have h1 : (y * y + R * (2 * x)) % R = (x * x + R * R) % R := by rw [this]
    rwa [Nat.add_mul_mod_self_left, Nat.add_mul_mod_self_left] at h1

theorem root_ok {a X : Nat} (hX : X ≤ R / 2) (h : X * X % R = a % R) : root a ≤ R / 2 ∧ root a * root a % R = a % R := by rw [root_eq hX h]; exact ⟨hX, h⟩

/-- Has a a root modulo R? (By Euler.) -/
def Sq (a : Nat) : Prop := a % R = 0 ∨ a ^ ((R - 1) / 2) % R = 1

theorem Ton.ends {a : Nat} : ∀ (k x o s : Nat), Ton a k x o s → x < R → ∃ x, x < R ∧ x * x % R = a % R
  | 0, x, _, _, h, hx => ⟨x, hx, h.last⟩
  | k + 1, x, o, s, h, hx => by
    by_cases c : o ^ 2 ^ k % R = 1
    · exact Ton.ends k _ _ _ (h.keep c) hx
    · exact Ton.ends k _ _ _ (h.turn c) (Nat.mod_lt _ (by have := R_two; omega))

theorem root_of_sq {a : Nat} (h : Sq a) : root a ≤ R / 2 ∧ root a * root a % R = a % R := by
  have hR := R_two
  rcases h with h | h
  · exact root_ok (X := 0) (by omega) (by rw [h, Nat.mul_zero, Nat.zero_mod])
  · obtain ⟨x, hx, e⟩ := Ton.ends _ _ _ _ (Ton.start rfl h) (Nat.mod_lt _ (by omega))
    rw [lesser hx e]
    have hodd : R % 2 = 1 := by decide +kernel
    have := lesser hx e
    rcases Nat.le_total x (R - x) with c | c
    · rw [Nat.min_eq_left c]; exact ⟨by omega, e⟩
    · rw [Nat.min_eq_right c]
      refine ⟨by omega, ?_⟩
      rw [← e]
      obtain ⟨y, hy⟩ : ∃ y, x + y = R := ⟨R - x, by omega⟩
      have e2 : R - x = y := by omega
      rw [e2]
      have : y * y + R * (2 * x) = x * x + R * R := by rw [← hy]; grind
      have h1 : (y * y + R * (2 * x)) % R = (x * x + R * R) % R := by rw [this]
      rwa [Nat.add_mul_mod_self_left, Nat.add_mul_mod_self_left] at h1
end Ob
