/-
  The walks of the statements of layer 1: products, powers, inverses, roots, the ring.
-/
import Derived.Test.YtbagipaaccjklaaDoorLaw01
namespace Go.Proofs.YtbagipaaccjklaaDoor
open Go.RowKit Go.Proofs
set_option linter.unusedVariables false

set_option maxHeartbeats 1000000 in
theorem muls_yes (m a b s : Nat) (w : World) (hT : TabOk w) (hM : Ob.Mod m)
    (c2 : ∀ w, Calls Tryd.prog 14 #[.int .u64 m, .int .u64 a, .int .u64 b] w fun e w' => e = .returned (.int .u64 s) ∧ ∃ n, w' = w.drewN n)
    (c3 : ∀ w, Calls Tryd.prog 15 #[.int .u64 m, .int .u64 a, .int .u64 b] w fun e w' => e = .returned (.int .u64 s) ∧ w = w') :
    Calls Tryd.prog 4 #[.int .u64 m, .int .u64 a, .int .u64 b] w fun e w' => e = .returned (.bool true) ∧ ∃ n, w' = w.drewN n := by
  have c0 := fun w => is_yes m w hM
  clear hM
  go_enter Tryd.func4, Tryd.ntmps4
  go_wp2_with (first | (go_at_call 9; refine (up_hid _ hT).mono ?_; rintro e w1 ⟨rfl, H⟩) | (go_at_call 10; refine (c0 _).mono ?_; rintro e w' ⟨rfl, rfl⟩) | (go_at_call 14; refine (c2 _).mono ?_; rintro e w' ⟨rfl, n, rfl⟩) | (go_at_call 15; refine (c3 _).mono ?_; rintro e w' ⟨rfl, rfl⟩))
  go_ret
  exact ⟨rfl, drew_on H _⟩

set_option maxHeartbeats 1000000 in
theorem muls_no (m a b : Nat) (w : World) (hT : TabOk w) (hM : ¬ Ob.Mod m)
    (c2 : ∀ w, Calls Tryd.prog 14 #[.int .u64 m, .int .u64 a, .int .u64 b] w fun e w' => e = .returned (.int .u64 0) ∧ ∃ n, w' = w.drewN n) :
    Calls Tryd.prog 4 #[.int .u64 m, .int .u64 a, .int .u64 b] w fun e w' => e = .returned (.bool true) ∧ ∃ n, w' = w.drewN n := by
  have c0 := fun w => is_no m w hM
  clear hM
  go_enter Tryd.func4, Tryd.ntmps4
  go_wp2_with (first | (go_at_call 9; refine (up_hid _ hT).mono ?_; rintro e w1 ⟨rfl, H⟩) | (go_at_call 10; refine (c0 _).mono ?_; rintro e w' ⟨rfl, rfl⟩) | (go_at_call 14; refine (c2 _).mono ?_; rintro e w' ⟨rfl, n, rfl⟩))
  go_ret
  exact ⟨rfl, drew_on H _⟩

theorem modularMuls_walk (a0 a1 a2 : Int) (w0 : (Lit.int .u64 a0).wf = true) (w1 : (Lit.int .u64 a1).wf = true) (w2 : (Lit.int .u64 a2).wf = true) (w : World) (hT : TabOk w) :
    Calls Tryd.prog 4 #[.int .u64 a0, .int .u64 a1, .int .u64 a2] w fun e w' => e = .returned (.bool true) ∧ ∃ n, w' = w.drewN n := by
  obtain ⟨m, rfl, hm⟩ := word_of w0
  obtain ⟨a, rfl, ha⟩ := word_of w1
  obtain ⟨b, rfl, hb⟩ := word_of w2
  by_cases hM : Ob.Mod m
  · exact muls_yes m a b (Ob.mul m a b) w hT hM (fun w => mul_any m a b w hm ha hb) (fun w => rmul_any m a b w hM ha hb)
  · refine muls_no m a b w hT hM (fun w => ?_)
    have := mul_any m a b w hm ha hb
    rw [Ob.mul_no hM] at this
    exact this

set_option maxHeartbeats 1000000 in
theorem pows_yes (m a b s : Nat) (w : World) (hT : TabOk w) (hM : Ob.Mod m)
    (c2 : ∀ w, Calls Tryd.prog 16 #[.int .u64 m, .int .u64 a, .int .u64 b] w fun e w' => e = .returned (.int .u64 s) ∧ ∃ n, w' = w.drewN n)
    (c3 : ∀ w, Calls Tryd.prog 17 #[.int .u64 m, .int .u64 a, .int .u64 b] w fun e w' => e = .returned (.int .u64 s) ∧ w = w') :
    Calls Tryd.prog 5 #[.int .u64 m, .int .u64 a, .int .u64 b] w fun e w' => e = .returned (.bool true) ∧ ∃ n, w' = w.drewN n := by
  have c0 := fun w => is_yes m w hM
  clear hM
  go_enter Tryd.func5, Tryd.ntmps5
  go_wp2_with (first | (go_at_call 9; refine (up_hid _ hT).mono ?_; rintro e w1 ⟨rfl, H⟩) | (go_at_call 10; refine (c0 _).mono ?_; rintro e w' ⟨rfl, rfl⟩) | (go_at_call 16; refine (c2 _).mono ?_; rintro e w' ⟨rfl, n, rfl⟩) | (go_at_call 17; refine (c3 _).mono ?_; rintro e w' ⟨rfl, rfl⟩))
  go_ret
  exact ⟨rfl, drew_on H _⟩

set_option maxHeartbeats 1000000 in
theorem pows_no (m a b : Nat) (w : World) (hT : TabOk w) (hM : ¬ Ob.Mod m)
    (c2 : ∀ w, Calls Tryd.prog 16 #[.int .u64 m, .int .u64 a, .int .u64 b] w fun e w' => e = .returned (.int .u64 0) ∧ ∃ n, w' = w.drewN n) :
    Calls Tryd.prog 5 #[.int .u64 m, .int .u64 a, .int .u64 b] w fun e w' => e = .returned (.bool true) ∧ ∃ n, w' = w.drewN n := by
  have c0 := fun w => is_no m w hM
  clear hM
  go_enter Tryd.func5, Tryd.ntmps5
  go_wp2_with (first | (go_at_call 9; refine (up_hid _ hT).mono ?_; rintro e w1 ⟨rfl, H⟩) | (go_at_call 10; refine (c0 _).mono ?_; rintro e w' ⟨rfl, rfl⟩) | (go_at_call 16; refine (c2 _).mono ?_; rintro e w' ⟨rfl, n, rfl⟩))
  go_ret
  exact ⟨rfl, drew_on H _⟩

theorem modularPows_walk (a0 a1 a2 : Int) (w0 : (Lit.int .u64 a0).wf = true) (w1 : (Lit.int .u64 a1).wf = true) (w2 : (Lit.int .u64 a2).wf = true) (w : World) (hT : TabOk w) :
    Calls Tryd.prog 5 #[.int .u64 a0, .int .u64 a1, .int .u64 a2] w fun e w' => e = .returned (.bool true) ∧ ∃ n, w' = w.drewN n := by
  obtain ⟨m, rfl, hm⟩ := word_of w0
  obtain ⟨a, rfl, ha⟩ := word_of w1
  obtain ⟨b, rfl, hb⟩ := word_of w2
  by_cases hM : Ob.Mod m
  · exact pows_yes m a b (Ob.pow m a b) w hT hM (fun w => pow_any m a b w hm ha hb) (fun w => rpow_any m a b w hM ha hb)
  · refine pows_no m a b w hT hM (fun w => ?_)
    have := pow_any m a b w hm ha hb
    rw [Ob.pow_no hM] at this
    exact this

/-! Inverses -/

set_option maxHeartbeats 1000000 in
theorem inverts_arg (m a : Nat) (w : World) (hT : TabOk w) (hM : ¬ Ob.Mod m) :
    Calls Tryd.prog 6 #[.int .u64 m, .int .u64 a] w fun e w' => e = .returned (.bool true) ∧ ∃ n, w' = w.drewN n := by
  have c0 := fun w => is_no m w hM
  have c1 := fun w => inv_arg m a w hM
  have e1 := fun w => eql_code w 1 1
  clear hM
  go_enter Tryd.func6, Tryd.ntmps6
  go_wp2_with (first | (go_at_call 9; refine (up_hid _ hT).mono ?_; rintro e w1 ⟨rfl, H⟩) | (go_at_call 10; refine (c0 _).mono ?_; rintro e w' ⟨rfl, rfl⟩) | (go_at_call 18; refine (c1 _).mono ?_; rintro e w' ⟨rfl, rfl⟩))
  go_ret
  exact ⟨rfl, H.out⟩

set_option maxHeartbeats 1000000 in
theorem inverts_none (m a r g : Nat) (w : World) (hT : TabOk w) (h1 : 2 ≤ m) (hr : (a : Int) % (m : Int) = (r : Int)) (hg : ((g : Int) != 1) = true)
    (c0 : ∀ w, Calls Tryd.prog 10 #[.int .u64 m] w fun e w' => e = .returned (.bool true) ∧ w = w')
    (c1 : ∀ w, Calls Tryd.prog 18 #[.int .u64 m, .int .u64 a] w fun e w' => e = .returned (.tuple #[.int .u64 0, .iface 31 (.int .i64 2)]) ∧ w = w')
    (c2 : ∀ w, Calls Tryd.prog 19 #[.int .u64 m, .int .u64 r] w fun e w' => e = .returned (.int .u64 g) ∧ w = w') :
    Calls Tryd.prog 6 #[.int .u64 m, .int .u64 a] w fun e w' => e = .returned (.bool true) ∧ ∃ n, w' = w.drewN n := by
  have e1 := fun w => eql_code w 2 2
  go_enter Tryd.func6, Tryd.ntmps6
  go_wp2_with (first | (go_at_call 9; refine (up_hid _ hT).mono ?_; rintro e w1 ⟨rfl, H⟩) | (go_at_call 10; refine (c0 _).mono ?_; rintro e w' ⟨rfl, rfl⟩) | (go_at_call 18; refine (c1 _).mono ?_; rintro e w' ⟨rfl, rfl⟩) | (go_at_call 19; refine (c2 _).mono ?_; rintro e w' ⟨rfl, rfl⟩))
  go_ret
  exact ⟨rfl, H.out⟩

set_option maxHeartbeats 1000000 in
theorem inverts_some (m a r X : Nat) (w : World) (hT : TabOk w) (h1 : 2 ≤ m) (h2 : m ≤ 4611686018427387904) (hr : (a : Int) % (m : Int) = (r : Int)) (hX : X < m)
    (c0 : ∀ w, Calls Tryd.prog 10 #[.int .u64 m] w fun e w' => e = .returned (.bool true) ∧ w = w')
    (c1 : ∀ w, Calls Tryd.prog 18 #[.int .u64 m, .int .u64 a] w fun e w' => e = .returned (.tuple #[.int .u64 X, .nilIface]) ∧ w = w')
    (c2 : ∀ w, Calls Tryd.prog 19 #[.int .u64 m, .int .u64 r] w fun e w' => e = .returned (.int .u64 1) ∧ w = w')
    (c3 : ∀ w, Calls Tryd.prog 15 #[.int .u64 m, .int .u64 X, .int .u64 a] w fun e w' => e = .returned (.int .u64 1) ∧ w = w') :
    Calls Tryd.prog 6 #[.int .u64 m, .int .u64 a] w fun e w' => e = .returned (.bool true) ∧ ∃ n, w' = w.drewN n := by
  have e1 : (1 : Int) % (m : Int) = 1 := by rw [Int.emod_eq_of_lt (by omega) (by omega)]
  go_enter Tryd.func6, Tryd.ntmps6
  go_wp2_with (first | (go_at_call 9; refine (up_hid _ hT).mono ?_; rintro e w1 ⟨rfl, H⟩) | (go_at_call 10; refine (c0 _).mono ?_; rintro e w' ⟨rfl, rfl⟩) | (go_at_call 18; refine (c1 _).mono ?_; rintro e w' ⟨rfl, rfl⟩) | (go_at_call 19; refine (c2 _).mono ?_; rintro e w' ⟨rfl, rfl⟩))
  go_quiet ((go_at_call 15; exact quiet_same c3))
  go_wp2
  go_ret
  exact ⟨rfl, drew_on H _⟩

theorem modularInverts_walk (a0 a1 : Int) (w0 : (Lit.int .u64 a0).wf = true) (w1 : (Lit.int .u64 a1).wf = true) (w : World) (hT : TabOk w) :
    Calls Tryd.prog 6 #[.int .u64 a0, .int .u64 a1] w fun e w' => e = .returned (.bool true) ∧ ∃ n, w' = w.drewN n := by
  obtain ⟨m, rfl, hm⟩ := word_of w0
  obtain ⟨a, rfl, ha⟩ := word_of w1
  by_cases hM : Ob.Mod m
  · have h1 := hM.1
    have h2 := hM.2
    have hl : a % m < m := Nat.mod_lt _ (by omega)
    have hgcd := fun w => rgcd_any m (a % m) w hm (by omega)
    rw [gcd_mod_left] at hgcd
    by_cases hg : Nat.gcd m a = 1
    · obtain ⟨X, hX, hXX⟩ := Ob.inverse_exists h1 hg
      have hi := Ob.inv_ok_of hX hXX
      rw [hg] at hgcd
      refine inverts_some m a (a % m) (Ob.inv m a) w hT h1 h2 (by simp) hi.1 (fun w => is_yes m w hM) (fun w => inv_some m a w hM ha hg) hgcd (fun w => ?_)
      have := rmul_any m (Ob.inv m a) a w hM (by omega) ha
      rw [Ob.mul_yes hM, hi.2, Nat.mod_eq_of_lt (by omega)] at this
      exact this
    · exact inverts_none m a (a % m) (Nat.gcd m a) w hT h1 (by simp) (bne_of hg) (fun w => is_yes m w hM) (fun w => inv_none m a w hM ha hg) hgcd
  · exact inverts_arg m a w hT hM

/-! Roots -/

set_option maxHeartbeats 1000000 in
theorem roots_no (a : Nat) (w : World) (hT : TabOk w)
    (c0 : ∀ w, Calls Tryd.prog 21 #[.int .u64 a] w fun e w' => e = .returned (.bool false) ∧ w = w')
    (c1 : ∀ w, Calls Tryd.prog 20 #[.int .u64 a] w fun e w' => e = .returned (.tuple #[.int .u64 0, .iface 31 (.int .i64 2)]) ∧ ∃ n, w' = w.drewN n) :
    Calls Tryd.prog 7 #[.int .u64 a] w fun e w' => e = .returned (.bool true) ∧ ∃ n, w' = w.drewN n := by
  have e1 := fun w => eql_code w 2 2
  go_enter Tryd.func7, Tryd.ntmps7
  go_wp2_with (first | (go_at_call 9; refine (up_hid _ hT).mono ?_; rintro e w1 ⟨rfl, H⟩) | (go_at_call 21; refine (c0 _).mono ?_; rintro e w' ⟨rfl, rfl⟩) | (go_at_call 20; refine (c1 _).mono ?_; rintro e w' ⟨rfl, n, rfl⟩))
  go_ret
  exact ⟨rfl, drew_on H _⟩

set_option maxHeartbeats 1000000 in
theorem roots_yes (a r X : Nat) (w : World) (hT : TabOk w) (hX : (X : Int) ≤ 144115188143882240) (hr : (a : Int) % 288230376287764481 = (r : Int))
    (c0 : ∀ w, Calls Tryd.prog 21 #[.int .u64 a] w fun e w' => e = .returned (.bool true) ∧ w = w')
    (c1 : ∀ w, TabOk w → Calls Tryd.prog 20 #[.int .u64 a] w fun e w' => e = .returned (.tuple #[.int .u64 X, .nilIface]) ∧ ∃ n, w' = w.drewN n)
    (c3 : ∀ w, Calls Tryd.prog 15 #[.int .u64 288230376287764481, .int .u64 X, .int .u64 X] w fun e w' => e = .returned (.int .u64 r) ∧ w = w') :
    Calls Tryd.prog 7 #[.int .u64 a] w fun e w' => e = .returned (.bool true) ∧ ∃ n, w' = w.drewN n := by
  go_enter Tryd.func7, Tryd.ntmps7
  go_wp2_with (first | (go_at_call 9; refine (up_hid _ hT).mono ?_; rintro e w1 ⟨rfl, H⟩) | (go_at_call 21; refine (c0 _).mono ?_; rintro e w' ⟨rfl, rfl⟩) | (go_at_call 20; refine (c1 _ (tab_on H hT)).mono ?_; rintro e w' ⟨rfl, n, rfl⟩) | (go_at_call 15; refine (c3 _).mono ?_; rintro e w' ⟨rfl, rfl⟩))
  go_ret
  exact ⟨rfl, drew_on H _⟩

theorem modularRoots_walk (a0 : Int) (w0 : (Lit.int .u64 a0).wf = true) (w : World) (hT : TabOk w) :
    Calls Tryd.prog 7 #[.int .u64 a0] w fun e w' => e = .returned (.bool true) ∧ ∃ n, w' = w.drewN n := by
  obtain ⟨a, rfl, ha⟩ := word_of w0
  by_cases hS : Ob.Sq a
  · have h := Ob.root_of_sq hS
    have hR : Ob.Mod Ob.R := ⟨by decide +kernel, by decide +kernel⟩
    have hb : Ob.root a ≤ 144115188143882240 := h.1
    refine roots_yes a (a % Ob.R) (Ob.root a) w hT (by omega) (by simp [Ob.R]) (fun w => square_yes a w ha hS) (fun w hw => root_yes a w hw ha hS) (fun w => ?_)
    have := rmul_any Ob.R (Ob.root a) (Ob.root a) w hR (by omega) (by omega)
    rw [Ob.mul_yes hR, h.2] at this
    exact this
  · exact roots_no a w hT (fun w => square_no a w ha hS) (fun w => root_no a w ha hS)
end Go.Proofs.YtbagipaaccjklaaDoor
