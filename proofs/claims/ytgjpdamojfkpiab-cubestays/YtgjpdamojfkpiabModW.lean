/-
  The walks of package modular: each function's contract in plain numbers.
-/
import Derived.Test.YtgjpdamojfkpiabBitsW
import Derived.Test.YtgjpdamojfkpiabNum
namespace Go.Proofs.Ytgjpdamojfkpiab
open Go.RowKit Go.Proofs
set_option linter.unusedVariables false

theorem ret_int {k : IntKind} {a b : Int} (h : a = b) : Ending.returned (.int k a) = .returned (.int k b) := by rw [h]

theorem isModulus_yes (m : Nat) (w : World) (h1 : 2 ≤ m) (h2 : m ≤ 4611686018427387904) :
    Calls Try.prog 18 #[.int .u64 m] w fun e w' => e = .returned (.bool true) ∧ w = w' := by
  have i1 : (2 : Int) ≤ (m : Int) := by omega
  have i2 : (m : Int) ≤ 4611686018427387904 := by omega
  go_enter Try.func18, Try.ntmps18
  go_wp2
  go_ret
  exact ⟨rfl, rfl⟩

theorem isModulus_no (m : Nat) (w : World) (h : m < 2 ∨ 4611686018427387904 < m) :
    Calls Try.prog 18 #[.int .u64 m] w fun e w' => e = .returned (.bool false) ∧ w = w' := by
  rcases h with h | h
  · have i1 : ¬ (2 : Int) ≤ (m : Int) := by omega
    have i2 : (m : Int) < 2 := by omega
    go_enter Try.func18, Try.ntmps18
    go_wp2
    go_ret
    exact ⟨rfl, rfl⟩
  · have i1 : (2 : Int) ≤ (m : Int) := by omega
    have i2 : ¬ (m : Int) ≤ 4611686018427387904 := by omega
    have i3 : (4611686018427387904 : Int) < (m : Int) := by omega
    go_enter Try.func18, Try.ntmps18
    go_wp2
    go_ret
    exact ⟨rfl, rfl⟩

theorem rest_any (m a : Nat) (w : World) (hm : 0 < m) (ha : a < 18446744073709551616) :
    Calls Try.prog 20 #[.int .u64 m, .int .u64 a] w fun e w' => e = .returned (.int .u64 ((a % m : Nat) : Int)) ∧ w = w' := by
  by_cases h : a < m
  · have e : Hid (a % m = a) := Nat.mod_eq_of_lt h
    go_enter Try.func20, Try.ntmps20
    go_wp2
    go_ret
    exact ⟨ret_int (by rw [e.out]), rfl⟩
  · go_enter Try.func20, Try.ntmps20
    go_wp2
    go_ret
    exact ⟨ret_int (by simp), rfl⟩

theorem addRests_any (m a b : Nat) (w : World) (hm : m ≤ 4611686018427387904) (ha : a ≤ m) (hb : b ≤ m) (hab : a + b < 2 * m) :
    Calls Try.prog 19 #[.int .u64 m, .int .u64 a, .int .u64 b] w fun e w' => e = .returned (.int .u64 (((a + b) % m : Nat) : Int)) ∧ w = w' := by
  by_cases h : m ≤ a + b
  · have e : Hid ((a + b) % m = a + b - m) := by
      show (a + b) % m = a + b - m
      rw [Nat.mod_eq_sub_mod h, Nat.mod_eq_of_lt (by omega)]
    go_enter Try.func19, Try.ntmps19
    go_wp2
    go_ret
    exact ⟨ret_int (by rw [e.out]; omega), rfl⟩
  · have e : Hid ((a + b) % m = a + b) := Nat.mod_eq_of_lt (by omega)
    go_enter Try.func19, Try.ntmps19
    go_wp2
    go_ret
    exact ⟨ret_int (by rw [e.out]; omega), rfl⟩

theorem mulRests_core (m a b hi lo q r : Nat) (w : World)
    (hmul : ∀ w, Calls Try.prog 24 #[.int .u64 a, .int .u64 b] w fun e w' => e = .returned (.tuple #[.int .u64 hi, .int .u64 lo]) ∧ w = w')
    (hdiv : ∀ w, Calls Try.prog 25 #[.int .u64 hi, .int .u64 lo, .int .u64 m] w fun e w' => e = .returned (.tuple #[.int .u64 q, .int .u64 r]) ∧ ∃ n, w' = w.drewN n) :
    Calls Try.prog 23 #[.int .u64 m, .int .u64 a, .int .u64 b] w fun e w' => e = .returned (.int .u64 r) ∧ ∃ n, w' = w.drewN n := by
  go_enter Try.func23, Try.ntmps23
  go_wp2_with (first | (go_at_call 24; refine (hmul _).mono ?_; rintro e w' ⟨rfl, rfl⟩) | (go_at_call 25; refine (hdiv _).mono ?_; rintro e w' ⟨rfl, n, rfl⟩))
  go_ret
  exact ⟨rfl, _, rfl⟩

theorem mulRests_any (m a b : Nat) (w : World) (hm : m < 18446744073709551616) (ha : a < m) (hb : b < m) :
    Calls Try.prog 23 #[.int .u64 m, .int .u64 a, .int .u64 b] w fun e w' => e = .returned (.int .u64 ((a * b % m : Nat) : Int)) ∧ ∃ n, w' = w.drewN n := by
  have hlt : a * b < m * 18446744073709551616 := Nat.mul_lt_mul_of_lt_of_lt ha (by omega)
  have hhi : a * b / 18446744073709551616 < m := by rw [Nat.div_lt_iff_lt_mul (by decide)]; exact hlt
  have hd := Nat.div_add_mod' (a * b) 18446744073709551616
  have := mulRests_core m a b _ _ _ _ w (fun w => (Try.bits_Mul64 a b (by omega) (by omega) w).mono fun e w' ⟨he, hw⟩ => ⟨he, hw.symm⟩)
    (fun w => div64_any _ _ m w (Nat.mod_lt _ (by decide)) hm hhi)
  rwa [hd] at this

theorem and_one (a : Nat) (ha : a < 18446744073709551616) : bits .and .u64 (a : Int) 1 = ((a % 2 : Nat) : Int) := by
  have h := bits_and_u64_nat a 1 ha (by omega)
  have e : a &&& 1 = a % 2 := Nat.and_two_pow_sub_one_eq_mod a 1
  rw [e] at h
  exact h

set_option maxHeartbeats 400000 in
theorem powRest_any (m a x : Nat) (w : World) (hm1 : 2 ≤ m) (hm : m ≤ 4611686018427387904) (ha : a < m) (hx : x < 18446744073709551616) :
    Calls Try.prog 21 #[.int .u64 m, .int .u64 a, .int .u64 x] w fun e w' => e = .returned (.int .u64 ((a ^ x % m : Nat) : Int)) ∧ ∃ n, w' = w.drewN n := by
  have hstart : Hid (1 * a ^ x % m = a ^ x % m) := by rw [Nat.one_mul]; rfl
  go_enter Try.func21, Try.ntmps21
  go_wp2
  go_loopw [1, 2, 7] (fun sa se sp wr => ∃ A E p n : Nat, A < m ∧ E < 18446744073709551616 ∧ p < m ∧ sa = .int .u64 A ∧ se = .int .u64 E ∧ sp = .int .u64 p ∧ wr = w.drewN n ∧ Hid (p * A ^ E % m = a ^ x % m)) (fun _ se _ _ => (intOf se).toNat)
  case atStart => exact ⟨a, x, 1, 0, ha, hx, by omega, rfl, rfl, rfl, rfl, hstart⟩
  case round =>
    obtain ⟨A, E, p, n, hA, hE, hp, rfl, rfl, rfl, rfl, hI⟩ := hrel
    clear hstart hx
    by_cases h0 : 0 < E
    · have hand := and_one E hE
      by_cases h1 : E % 2 = 1
      · have h1' : ((E % 2 : Nat) : Int) = 1 := by omega
        rw [h1'] at hand
        clear h1'
        have hn : Hid ((p * A % m) * (A * A % m) ^ (E / 2) % m = a ^ x % m) := by rw [Ob.pow_odd m p A E h1]; exact hI
        clear h1
        go_wp2_with (go_at_call 23; refine (mulRests_any m _ _ _ (by omega) (by assumption) (by assumption)).mono ?_; rintro e w' ⟨rfl, n, rfl⟩)
        go_roundw
        case rel => exact ⟨_, E / 2, _, _, Nat.mod_lt _ (by omega), by omega, Nat.mod_lt _ (by omega), rfl, by go_num, rfl, rfl, hn⟩
        case measure => simp [intOf]; omega
      · have h1' : ((E % 2 : Nat) : Int) = 0 := by omega
        rw [h1'] at hand
        clear h1'
        have hn : Hid (p * (A * A % m) ^ (E / 2) % m = a ^ x % m) := by rw [Ob.pow_even m p A E (by omega)]; exact hI
        clear h1
        go_wp2_with (go_at_call 23; refine (mulRests_any m _ _ _ (by omega) (by assumption) (by assumption)).mono ?_; rintro e w' ⟨rfl, n, rfl⟩)
        go_roundw
        case rel => exact ⟨_, E / 2, _, _, Nat.mod_lt _ (by omega), by omega, hp, rfl, by go_num, rfl, rfl, hn⟩
        case measure => simp [intOf]; omega
    · have hn : Hid (p = a ^ x % m) := by
        have := hI.out
        have hE0 : E = 0 := by omega
        rw [hE0, Nat.pow_zero, Nat.mul_one, Nat.mod_eq_of_lt hp] at this
        exact this
      go_wp2
      go_ret
      exact ⟨ret_int (by rw [hn.out]), _, rfl⟩
end Go.Proofs.Ytgjpdamojfkpiab
