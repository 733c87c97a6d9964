/-
  The walks of package modular: each function's contract in plain numbers.
-/
import Derived.Test.YtoigpjaffggekaaBitsW
import Derived.Test.YtoigpjaffggekaaNum
namespace Go.Proofs.Ytoigpjaffggekaa
open Go.RowKit Go.Proofs
set_option linter.unusedVariables false

theorem ret_int {k : IntKind} {a b : Int} (h : a = b) : Ending.returned (.int k a) = .returned (.int k b) := by rw [h]

theorem isModulus_yes (m : Nat) (w : World) (h1 : 2 ≤ m) (h2 : m ≤ 4611686018427387904) :
    Calls Try.prog 37 #[.int .u64 m] w fun e w' => e = .returned (.bool true) ∧ w = w' := by
  have i1 : (2 : Int) ≤ (m : Int) := by omega
  have i2 : (m : Int) ≤ 4611686018427387904 := by omega
  go_enter Try.func37, Try.ntmps37
  go_wp2
  go_ret
  exact ⟨rfl, rfl⟩

theorem isModulus_no (m : Nat) (w : World) (h : m < 2 ∨ 4611686018427387904 < m) :
    Calls Try.prog 37 #[.int .u64 m] w fun e w' => e = .returned (.bool false) ∧ w = w' := by
  rcases h with h | h
  · have i1 : ¬ (2 : Int) ≤ (m : Int) := by omega
    have i2 : (m : Int) < 2 := by omega
    go_enter Try.func37, Try.ntmps37
    go_wp2
    go_ret
    exact ⟨rfl, rfl⟩
  · have i1 : (2 : Int) ≤ (m : Int) := by omega
    have i2 : ¬ (m : Int) ≤ 4611686018427387904 := by omega
    have i3 : (4611686018427387904 : Int) < (m : Int) := by omega
    go_enter Try.func37, Try.ntmps37
    go_wp2
    go_ret
    exact ⟨rfl, rfl⟩

theorem rest_any (m a : Nat) (w : World) (hm : 0 < m) (ha : a < 18446744073709551616) :
    Calls Try.prog 39 #[.int .u64 m, .int .u64 a] w fun e w' => e = .returned (.int .u64 ((a % m : Nat) : Int)) ∧ w = w' := by
  by_cases h : a < m
  · have e : Hid (a % m = a) := Nat.mod_eq_of_lt h
    go_enter Try.func39, Try.ntmps39
    go_wp2
    go_ret
    exact ⟨ret_int (by rw [e.out]), rfl⟩
  · go_enter Try.func39, Try.ntmps39
    go_wp2
    go_ret
    exact ⟨ret_int (by simp), rfl⟩

theorem addRests_any (m a b : Nat) (w : World) (hm : m ≤ 4611686018427387904) (ha : a ≤ m) (hb : b ≤ m) (hab : a + b < 2 * m) :
    Calls Try.prog 40 #[.int .u64 m, .int .u64 a, .int .u64 b] w fun e w' => e = .returned (.int .u64 (((a + b) % m : Nat) : Int)) ∧ w = w' := by
  by_cases h : m ≤ a + b
  · have e : Hid ((a + b) % m = a + b - m) := by
      show (a + b) % m = a + b - m
      rw [Nat.mod_eq_sub_mod h, Nat.mod_eq_of_lt (by omega)]
    go_enter Try.func40, Try.ntmps40
    go_wp2
    go_ret
    exact ⟨ret_int (by rw [e.out]; omega), rfl⟩
  · have e : Hid ((a + b) % m = a + b) := Nat.mod_eq_of_lt (by omega)
    go_enter Try.func40, Try.ntmps40
    go_wp2
    go_ret
    exact ⟨ret_int (by rw [e.out]; omega), rfl⟩

theorem mulRests_core (m a b hi lo q r : Nat) (w : World)
    (hmul : ∀ w, Calls Try.prog 42 #[.int .u64 a, .int .u64 b] w fun e w' => e = .returned (.tuple #[.int .u64 hi, .int .u64 lo]) ∧ w = w')
    (hdiv : ∀ w, Calls Try.prog 43 #[.int .u64 hi, .int .u64 lo, .int .u64 m] w fun e w' => e = .returned (.tuple #[.int .u64 q, .int .u64 r]) ∧ ∃ n, w' = w.drewN n) :
    Calls Try.prog 38 #[.int .u64 m, .int .u64 a, .int .u64 b] w fun e w' => e = .returned (.int .u64 r) ∧ ∃ n, w' = w.drewN n := by
  go_enter Try.func38, Try.ntmps38
  go_wp2_with (first | (go_at_call 42; refine (hmul _).mono ?_; rintro e w' ⟨rfl, rfl⟩) | (go_at_call 43; refine (hdiv _).mono ?_; rintro e w' ⟨rfl, n, rfl⟩))
  go_ret
  exact ⟨rfl, _, rfl⟩

theorem mulRests_any (m a b : Nat) (w : World) (hm : m < 18446744073709551616) (ha : a < m) (hb : b < m) :
    Calls Try.prog 38 #[.int .u64 m, .int .u64 a, .int .u64 b] w fun e w' => e = .returned (.int .u64 ((a * b % m : Nat) : Int)) ∧ ∃ n, w' = w.drewN n := by
  have hlt : a * b < m * 18446744073709551616 := Nat.mul_lt_mul_of_lt_of_lt ha (by omega)
  have hhi : a * b / 18446744073709551616 < m := by rw [Nat.div_lt_iff_lt_mul (by decide)]; exact hlt
  have hd := Nat.div_add_mod' (a * b) 18446744073709551616
  have := mulRests_core m a b _ _ _ _ w (fun w => (Try.bits_Mul64 a b (by omega) (by omega) w).mono fun e w' ⟨he, hw⟩ => ⟨he, hw.symm⟩)
    (fun w => div64_any _ _ m w (Nat.mod_lt _ (by decide)) hm hhi)
  rwa [hd] at this

theorem and_one (a : Nat) (ha : a < 18446744073709551616) : bits .and .u64 (a : Int) 1 = ((a % 2 : Nat) : Int) := by
  have h := bits_and_u64_nat a 1 ha (by omega)
  have e : a &&& 1 = a % 2 := Nat.and_two_pow_sub_one_eq_mod a 1
  rw [e] at h
  exact h

end Go.Proofs.Ytoigpjaffggekaa
