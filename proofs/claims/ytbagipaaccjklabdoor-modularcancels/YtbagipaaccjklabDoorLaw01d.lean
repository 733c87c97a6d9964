/-
  The walk of the statement of layer 1 on what cancels.
-/
import Derived.Test.YtbagipaaccjklabDoorUpW
import Derived.Test.YtbagipaaccjklabDoorRing
namespace Go.Proofs.YtbagipaaccjklabDoor
open Go.RowKit Go.Proofs
set_option linter.unusedVariables false

set_option maxHeartbeats 1000000 in
theorem cancels_err (m a b : Nat) (c : Int) (w : World) (hT : TabOk w)
    (c1 : ∀ w, Calls Tryd.prog 5 #[.int .u64 m, .int .u64 a] w fun e w' => e = .returned (.tuple #[.int .u64 0, .iface 31 (.int .i64 c)]) ∧ w = w') :
    Calls Tryd.prog 3 #[.int .u64 m, .int .u64 a, .int .u64 b] w fun e w' => e = .returned (.bool true) ∧ ∃ n, w' = w.drewN n := by
  go_enter Tryd.func3, Tryd.ntmps3
  go_wp2_with (first | (go_at_call 4; refine (up_hid _ hT).mono ?_; rintro e w1 ⟨rfl, H⟩) | (go_at_call 5; refine (c1 _).mono ?_; rintro e w' ⟨rfl, rfl⟩))
  go_ret
  exact ⟨rfl, H.out⟩

set_option maxHeartbeats 1000000 in
theorem cancels_ok (m a b x r s t : Nat) (w : World) (hT : TabOk w)
    (c1 : ∀ w, Calls Tryd.prog 5 #[.int .u64 m, .int .u64 a] w fun e w' => e = .returned (.tuple #[.int .u64 x, .nilIface]) ∧ w = w')
    (c2 : ∀ w, Calls Tryd.prog 5 #[.int .u64 m, .int .u64 x] w fun e w' => e = .returned (.tuple #[.int .u64 r, .nilIface]) ∧ w = w')
    (c3 : ∀ w, Calls Tryd.prog 6 #[.int .u64 m, .int .u64 b, .int .u64 a] w fun e w' => e = .returned (.int .u64 s) ∧ ∃ n, w' = w.drewN n)
    (c4 : ∀ w, Calls Tryd.prog 6 #[.int .u64 m, .int .u64 s, .int .u64 x] w fun e w' => e = .returned (.int .u64 t) ∧ ∃ n, w' = w.drewN n)
    (c5 : ∀ w, Calls Tryd.prog 7 #[.int .u64 m, .int .u64 b, .int .u64 0] w fun e w' => e = .returned (.int .u64 t) ∧ w = w')
    (c6 : ∀ w, Calls Tryd.prog 7 #[.int .u64 m, .int .u64 a, .int .u64 0] w fun e w' => e = .returned (.int .u64 r) ∧ w = w') :
    Calls Tryd.prog 3 #[.int .u64 m, .int .u64 a, .int .u64 b] w fun e w' => e = .returned (.bool true) ∧ ∃ n, w' = w.drewN n := by
  go_enter Tryd.func3, Tryd.ntmps3
  go_wp2_with (go_at_call 4; refine (up_hid _ hT).mono ?_; rintro e w1 ⟨rfl, H⟩)
  refine (c1 _).mono ?_
  rintro e w' ⟨rfl, rfl⟩
  go_wp2_with fail
  refine (c2 _).mono ?_
  rintro e w' ⟨rfl, rfl⟩
  go_wp2_with fail
  refine (c3 _).mono ?_
  rintro e w' ⟨rfl, n1, rfl⟩
  go_wp2_with fail
  refine (c4 _).mono ?_
  rintro e w' ⟨rfl, n2, rfl⟩
  go_wp2_with fail
  refine (c5 _).mono ?_
  rintro e w' ⟨rfl, rfl⟩
  go_wp2_with fail
  refine (c6 _).mono ?_
  rintro e w' ⟨rfl, rfl⟩
  go_wp2
  go_ret
  exact ⟨rfl, drew_on H _⟩

theorem modularCancels_walk (a0 a1 a2 : Int) (w0 : (Lit.int .u64 a0).wf = true) (w1 : (Lit.int .u64 a1).wf = true) (w2 : (Lit.int .u64 a2).wf = true) (w : World) (hT : TabOk w) :
    Calls Tryd.prog 3 #[.int .u64 a0, .int .u64 a1, .int .u64 a2] w fun e w' => e = .returned (.bool true) ∧ ∃ n, w' = w.drewN n := by
  obtain ⟨m, rfl, hm⟩ := word_of w0
  obtain ⟨a, rfl, ha⟩ := word_of w1
  obtain ⟨b, rfl, hb⟩ := word_of w2
  by_cases hM : Ob.Mod m
  · have h1 := hM.1
    have h2 := hM.2
    by_cases hg : Nat.gcd m a = 1
    · obtain ⟨X, hX, hXX⟩ := Ob.inverse_exists h1 hg
      have hi := Ob.inv_ok_of hX hXX
      have hgx : Nat.gcd m (Ob.inv m a) = 1 := by
        have hd1 := Nat.gcd_dvd_left m (Ob.inv m a)
        have hd2 : Nat.gcd m (Ob.inv m a) ∣ Ob.inv m a * a % m := (Nat.dvd_mod_iff hd1).mpr (Nat.dvd_mul_right_of_dvd (Nat.gcd_dvd_right m (Ob.inv m a)) a)
        rw [hi.2, Nat.mod_eq_of_lt (by omega)] at hd2
        exact Nat.dvd_one.mp hd2
      have hinv : Ob.inv m (Ob.inv m a) = Ob.add m a 0 := by
        refine Ob.inv_eq (Ob.add_lt hM) ?_
        rw [Ob.add_yes hM, Nat.add_zero, Ob.mul_mod_left, Nat.mul_comm]
        exact hi.2
      have ht : Ob.mul m (Ob.mul m b a) (Ob.inv m a) = Ob.add m b 0 := by
        rw [Ob.mul_yes hM, Ob.mul_yes hM, Ob.add_yes hM, Nat.add_zero, Ob.mul_mod_left, Nat.mul_assoc, Nat.mul_comm a, Nat.mul_mod, hi.2, ← Nat.mul_mod, Nat.mul_one]
      refine cancels_ok m a b (Ob.inv m a) (Ob.add m a 0) (Ob.mul m b a) (Ob.add m b 0) w hT (fun w => inv_some m a w hM ha hg) (fun w => ?_) (fun w => mul_any m b a w hm hb ha) (fun w => ?_) (fun w => add_any m b 0 w hm hb (by omega)) (fun w => add_any m a 0 w hm ha (by omega))
      · have := inv_some m (Ob.inv m a) w hM (by omega) hgx
        rw [hinv] at this
        exact this
      · have := mul_any m (Ob.mul m b a) (Ob.inv m a) w hm (Ob.mul_word _ _ _) (by omega)
        rw [ht] at this
        exact this
    · exact cancels_err m a b 2 w hT (fun w => inv_none m a w hM ha hg)
  · exact cancels_err m a b 1 w hT (fun w => inv_arg m a w hM)
end Go.Proofs.YtbagipaaccjklabDoor
