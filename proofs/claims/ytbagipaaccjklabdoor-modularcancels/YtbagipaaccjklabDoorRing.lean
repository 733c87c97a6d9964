/-
  Sums and products by any modulus (or none) go in any order.
-/
import Derived.Test.YtbagipaaccjklabDoorSpec
import Derived.Test.YtbagipaaccjklabDoorNum
namespace Ob

theorem ring_assoc (m a b c : Nat) : mul m (mul m a b) c = mul m a (mul m c b) := by
  by_cases h : Mod m
  · rw [mul_yes h, mul_yes h, mul_yes h, mul_yes h, mul_mod_left, mul_mod_right, Nat.mul_comm c b, Nat.mul_assoc]
  · rw [mul_no h, mul_no h]

theorem ring_distrib (m a b c : Nat) : mul m a (add m b c) = add m (mul m c a) (mul m b a) := by
  by_cases h : Mod m
  · rw [mul_yes h, mul_yes h, mul_yes h, add_yes h, add_yes h, mul_mod_right, ← Nat.add_mod, Nat.mul_comm c a, Nat.mul_comm b a, ← Nat.mul_add, Nat.add_comm c b]
  · rw [mul_no h, add_no h]

theorem ring_pow (m a b c : Nat) : pow m a (b + c) = mul m (pow m a b) (pow m a c) := by
  by_cases h : Mod m
  · rw [mul_yes h, pow_yes h, pow_yes h, pow_yes h, ← Nat.mul_mod, Nat.pow_add]
  · rw [mul_no h, pow_no h]
end Ob
