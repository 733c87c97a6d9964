/-
  The head of all statements of layer 1: the document's examples.
-/
import Derived.Test.YtbagipaaccjklabDoorLawKit
namespace Go.Proofs.YtbagipaaccjklabDoor
open Go.RowKit Go.Proofs
set_option linter.unusedVariables false

theorem inv_10_3 : Ob.inv 10 3 = 7 := Ob.inv_eq (by decide) (by decide)
theorem root_4 : Ob.root 4 = 2 := Ob.root_eq (by decide +kernel) (by decide +kernel)

set_option maxHeartbeats 1000000 in
theorem up_any (w : World) (hT : TabOk w) :
    Calls Tryd.prog 4 #[] w fun e w' => e = .returned (.bool true) ∧ ∃ n, w' = w.drewN n := by
  have c1 : ∀ w, Calls Tryd.prog 5 #[.int .u64 10, .int .u64 3] w fun e w' => e = .returned (.tuple #[.int .u64 7, .nilIface]) ∧ w = w' := fun w => by
    have := inv_some 10 3 w ⟨by decide, by decide⟩ (by decide) (by decide)
    rw [inv_10_3] at this
    exact this
  have c2 : ∀ w, Calls Tryd.prog 5 #[.int .u64 10, .int .u64 4] w fun e w' => e = .returned (.tuple #[.int .u64 0, .iface 31 (.int .i64 2)]) ∧ w = w' := fun w =>
    inv_none 10 4 w ⟨by decide, by decide⟩ (by decide) (by decide)
  have c3 : ∀ w, TabOk w → Calls Tryd.prog 8 #[.int .u64 4] w fun e w' => e = .returned (.tuple #[.int .u64 2, .nilIface]) ∧ ∃ n, w' = w.drewN n := fun w h => by
    have := root_yes 4 w h (by decide) (Or.inr (Ob.pow_of_powm (by decide +kernel) (by decide +kernel)))
    rw [root_4] at this
    exact this
  have c4 : ∀ w, Calls Tryd.prog 6 #[.int .u64 7, .int .u64 5, .int .u64 6] w fun e w' => e = .returned (.int .u64 2) ∧ ∃ n, w' = w.drewN n := fun w =>
    mul_any 7 5 6 w (by decide) (by decide) (by decide)
  have c5 : ∀ w, Calls Tryd.prog 9 #[.int .u64 7, .int .u64 3, .int .u64 5] w fun e w' => e = .returned (.int .u64 5) ∧ ∃ n, w' = w.drewN n := fun w =>
    pow_any 7 3 5 w (by decide) (by decide) (by decide)
  have e1 := fun w => eql_code w 2 2
  go_enter Tryd.func4, Tryd.ntmps4
  go_wp2_with fail
  refine (c1 _).mono ?_
  rintro e w' ⟨rfl, rfl⟩
  go_wp2_with fail
  refine (c2 _).mono ?_
  rintro e w' ⟨rfl, rfl⟩
  go_wp2_with fail
  refine (c3 _ hT).mono ?_
  rintro e w' ⟨rfl, n, rfl⟩
  clear c1 c2 c3
  go_wp2_with (first | (go_at_call 6; refine (c4 _).mono ?_; rintro e w' ⟨rfl, n', rfl⟩) | (go_at_call 9; refine (c5 _).mono ?_; rintro e w' ⟨rfl, n', rfl⟩))
  go_ret
  exact ⟨rfl, _, rfl⟩

theorem up_hid (w : World) (hT : TabOk w) : Calls Tryd.prog 4 #[] w fun e w' => e = .returned (.bool true) ∧ Hid (∃ n, w' = w.drewN n) := up_any w hT
end Go.Proofs.YtbagipaaccjklabDoor
