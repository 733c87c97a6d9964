/-
  The head of layer 10's statements, over what package cube's calls answer.
-/
import Derived.Test.YtgjpdamojfkpiabKubH
namespace Go.Proofs.Ytgjpdamojfkpiab
open Go.RowKit Go.Proofs
set_option linter.unusedVariables false
set_option linter.unusedSimpArgs false
attribute [local go_sem ↓] Go.wp_at_zero Go.wp_at_succ
set_option maxHeartbeats 1000000 in
theorem up10_core (y r : Int) (hr : (r == 0) = false) (hr2 : (r != 0) = true) (w : World)
   (cm : ∀ w, Calls Try.prog 5 #[.slice none 0 0] w fun e w' => e = .returned (.int .u64 0) ∧ Below w.heap.size w w')
   (ct : ∀ w, Calls Try.prog 8 #[.int .u64 5, .int .u64 9] w fun e w' => e = .returned (.int .u64 y) ∧ Below w.heap.size w w')
   (cb : ∀ w, Calls Try.prog 7 #[.int .u64 5, .int .u64 y] w fun e w' => e = .returned (.int .u64 9) ∧ Below w.heap.size w w')
   (c2 : ∀ w, Calls Try.prog 9 #[.int .u64 0, .int .u64 0] w fun e w' => e = .returned (.int .u64 r) ∧ Below w.heap.size w w') :
    Calls Try.prog 4 #[] w fun e w' => e = .returned (.bool true) ∧ Below w.heap.size w w' := by
  go_enter Try.func4, Try.ntmps4
  go_wp2_with (first | (go_at_call 5; first | (with_reducible refine (cm _).mono ?_; rintro e w_cm ⟨rfl, b_cm⟩; have z_cm := b_cm.size; (try simp only [szs] at z_cm))) | (go_at_call 8; first | (with_reducible refine (ct _).mono ?_; rintro e w_ct ⟨rfl, b_ct⟩; have z_ct := b_ct.size; (try simp only [szs] at z_ct))) | (go_at_call 7; first | (with_reducible refine (cb _).mono ?_; rintro e w_cb ⟨rfl, b_cb⟩; have z_cb := b_cb.size; (try simp only [szs] at z_cb))) | (go_at_call 9; first | (with_reducible refine (c2 _).mono ?_; rintro e w_c2 ⟨rfl, b_c2⟩; have z_c2 := b_c2.size; (try simp only [szs] at z_c2))))
  go_ret
  exact ⟨rfl, by (repeat' (first | (with_reducible first | exact Below.refl _ _ | assumption | refine Below.alloc ?_ ?_ _ | refine Below.drew ?_ | refine below_drewN ?_ _ | refine Below.setCell ?_ ?_ _ | refine below_via (by with_reducible assumption) ?_ ?_) | omega | (simp only [szs]; omega) | (simp only [szs] at *; omega)))⟩
theorem two_nil : (((Ob.twoG 0 0).val : Nat) : Int) ≠ 0 := by decide +kernel
theorem up10_of (w : World)
   (cm : ∀ w, Calls Try.prog 5 #[.slice none 0 0] w fun e w' => e = .returned (.int .u64 0) ∧ Below w.heap.size w w')
   (ct : ∀ (k x : Nat), k < 18446744073709551616 → x < 18446744073709551616 → Ans 8 #[.int .u64 k, .int .u64 x] (Ob.turnG (Ob.toG k) (Ob.toG x)).val)
   (cb : ∀ (k x : Nat), k < 18446744073709551616 → x < 18446744073709551616 → Ans 7 #[.int .u64 k, .int .u64 x] (Ob.backG (Ob.toG k) (Ob.toG x)).val)
   (c2 : ∀ (a b : Nat), a < 18446744073709551616 → b < 18446744073709551616 → Ans 9 #[.int .u64 a, .int .u64 b] (Ob.twoG (Ob.toG a) (Ob.toG b)).val) :
    Calls Try.prog 4 #[] w fun e w' => e = .returned (.bool true) ∧ Below w.heap.size w w' := by
  have c0 := c2 0 0 (by decide) (by decide)
  have ct0 := ct 5 9 (by decide) (by decide)
  have cb0 := cb 5 (Ob.turnG (Ob.toG 5) (Ob.toG 9)).val (by decide) (G_lt _)
  rw [Ob.toG_of_val, Ob.back_turn] at cb0
  have e9 : (Ob.toG 9).val = 9 := by decide +kernel
  rw [e9] at cb0
  have e0 : Ob.toG 0 = 0 := by decide +kernel
  rw [e0] at c0
  exact up10_core _ _ (by rw [beq_eq_false_iff_ne]; exact two_nil) (by rw [bne_iff_ne]; exact two_nil) w cm ct0 cb0 c0
end Go.Proofs.Ytgjpdamojfkpiab
