/-
  The walks of the document's own answers for layer 7: the square of X.
-/
import Derived.Test.YtkekomiaiaacaaaDoorRefG
import Derived.Test.YtkekomiaiaacaaaDoorRefY
namespace Go.Proofs.YtkekomiaiaacaaaDoor
open Go.RowKit Go.Proofs
set_option linter.unusedVariables false
set_option linter.unusedSimpArgs false
attribute [local go_sem ↓] Go.wp_at_zero Go.wp_at_succ

set_option maxHeartbeats 1000000 in
theorem gsquare_core (y q a b c r : Int) (w : World)
   (c0 : ∀ w, Calls Tryd.prog 36 #[.int .u64 y, .int .u64 y] w fun e w' => e = .returned (.int .u64 q) ∧ w = w')
   (c1 : ∀ w, Calls Tryd.prog 38 #[.int .u64 q, .int .u64 1] w fun e w' => e = .returned (.int .u64 a) ∧ w = w')
   (c2 : ∀ w, Calls Tryd.prog 36 #[.int .u64 439, .int .u64 q] w fun e w' => e = .returned (.int .u64 b) ∧ w = w')
   (c3 : ∀ w, Calls Tryd.prog 39 #[.int .u64 1, .int .u64 b] w fun e w' => e = .returned (.int .u64 c) ∧ w = w')
   (c4 : ∀ w, Calls Tryd.prog 37 #[.int .u64 a, .int .u64 c] w fun e w' => e = .returned (.int .u64 r) ∧ w = w') :
    Calls Tryd.prog 21 #[.int .u64 y] w fun e w' => e = .returned (.int .u64 r) ∧ w = w' := by
  go_enter Tryd.func21, Tryd.ntmps21
  go_wp2_with (first | (go_at_call 36; first | (with_reducible refine (c0 _).mono ?_; rintro e w' ⟨rfl, rfl⟩) | (with_reducible refine (c2 _).mono ?_; rintro e w' ⟨rfl, rfl⟩)) | (go_at_call 38; first | (with_reducible refine (c1 _).mono ?_; rintro e w' ⟨rfl, rfl⟩)) | (go_at_call 39; first | (with_reducible refine (c3 _).mono ?_; rintro e w' ⟨rfl, rfl⟩)) | (go_at_call 37; first | (with_reducible refine (c4 _).mono ?_; rintro e w' ⟨rfl, rfl⟩)))
  go_ret
  exact ⟨rfl, rfl⟩
theorem gsquareW (y : Nat) (hy : y < 18446744073709551616) (w : World) :
    Calls Tryd.prog 21 #[.int .u64 y] w fun e w' => e = .returned (.int .u64 ((Ob.gsqr (Ob.toG y)).val : Nat)) ∧ w = w' := by
  have c1 := glessW (Ob.toG y * Ob.toG y).val 1 (Ob.G_word _) (by decide)
  have c2 := gmulW 439 (Ob.toG y * Ob.toG y).val (by decide) (Ob.G_word _)
  have c3 := gplusW 1 (439 * (Ob.toG y * Ob.toG y)).val (by decide) (Ob.G_word _)
  have c4 := goverW (Ob.toG y * Ob.toG y - 1).val (1 + 439 * (Ob.toG y * Ob.toG y)).val (Ob.G_word _) (Ob.G_word _)
  rw [Ob.toG_of_val] at c1 c2 c3
  rw [Ob.toG_of_val, Ob.toG_of_val] at c4
  rw [Ob.toG_1] at c1 c3
  exact gsquare_core y _ _ _ _ _ w (gmulW y y hy hy) c1 c2 c3 c4
end Go.Proofs.YtkekomiaiaacaaaDoor
