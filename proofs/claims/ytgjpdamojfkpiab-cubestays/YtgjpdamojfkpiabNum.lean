/-
  Plain numbers: powers by squaring, products by doubling, Euclid's way with its two factors.
-/
namespace Ob

theorem mul_mod_left (a b m : Nat) : (a % m) * b % m = a * b % m := by rw [Nat.mul_mod, Nat.mod_mod, ← Nat.mul_mod]
theorem mul_mod_right (a b m : Nat) : a * (b % m) % m = a * b % m := by rw [Nat.mul_mod, Nat.mod_mod, ← Nat.mul_mod]
theorem pow_mod_left (a e m : Nat) : (a % m) ^ e % m = a ^ e % m := (Nat.pow_mod a e m).symm
theorem mul_congr {a b c d m : Nat} (h1 : a % m = b % m) (h2 : c % m = d % m) : a * c % m = b * d % m := by rw [Nat.mul_mod, h1, h2, ← Nat.mul_mod]

theorem square_pow (A k m : Nat) : (A * A % m) ^ k % m = A ^ (2 * k) % m := by
  rw [pow_mod_left, ← Nat.pow_two, ← Nat.pow_mul]

/-- A round of a power by squaring, from the lowest bit on. -/
theorem pow_even (m p A E : Nat) (h : E % 2 = 0) : p * (A * A % m) ^ (E / 2) % m = p * A ^ E % m := by
  have e : 2 * (E / 2) = E := by omega
  rw [Nat.mul_mod, square_pow, e, ← Nat.mul_mod]
theorem pow_odd (m p A E : Nat) (h : E % 2 = 1) : (p * A % m) * (A * A % m) ^ (E / 2) % m = p * A ^ E % m := by
  have e : 2 * (E / 2) + 1 = E := by omega
  have e2 : A ^ E = A * A ^ (2 * (E / 2)) := by rw [← Nat.pow_succ', Nat.succ_eq_add_one, e]
  rw [mul_mod_left, Nat.mul_mod, square_pow, ← Nat.mul_mod, e2, Nat.mul_assoc]

/-- A round of a product by doubling, from the highest bit on. -/
theorem shr_step (y k : Nat) : y / 2 ^ k = 2 * (y / 2 ^ (k + 1)) + y / 2 ^ k % 2 := by
  have : y / 2 ^ (k + 1) = y / 2 ^ k / 2 := by rw [Nat.pow_succ, Nat.div_div_eq_div_mul]
  omega

theorem dbl_mod (m o : Nat) : (o % m + o % m) % m = 2 * o % m := by
  rw [← Nat.two_mul, mul_mod_right]

theorem mul_bit (m x y k : Nat) : (x * (y / 2 ^ k)) % m = ((x * (y / 2 ^ (k + 1)) % m + x * (y / 2 ^ (k + 1)) % m) % m + x * (y / 2 ^ k % 2)) % m := by
  have e : x * (y / 2 ^ k) = x * (y / 2 ^ (k + 1)) + x * (y / 2 ^ (k + 1)) + x * (y / 2 ^ k % 2) := by
    have h := shr_step y k
    generalize y / 2 ^ k % 2 = b at h ⊢
    rw [h, Nat.mul_add, Nat.mul_left_comm, Nat.two_mul]
  rw [e, Nat.add_mod, Nat.add_mod (x * (y / 2 ^ (k + 1))), Nat.add_mod_mod]

/-- A round of a power, from the highest bit on. -/
theorem pow_bit (m a e k : Nat) : a ^ (e / 2 ^ k) % m = ((a ^ (e / 2 ^ (k + 1)) % m) * (a ^ (e / 2 ^ (k + 1)) % m) % m * a ^ (e / 2 ^ k % 2)) % m := by
  have h := shr_step e k
  generalize e / 2 ^ k % 2 = b at h ⊢
  rw [h, Nat.pow_add, Nat.two_mul, Nat.pow_add, ← Nat.mul_mod (a ^ (e / 2 ^ (k + 1))) (a ^ (e / 2 ^ (k + 1))) m, mul_mod_left]
end Ob
