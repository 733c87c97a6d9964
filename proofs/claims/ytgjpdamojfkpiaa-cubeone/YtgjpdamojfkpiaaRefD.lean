/-
  The walks of the document's own answers for layer 7 (package obolref07): numbers modulo R, points, their sums.
-/
import Derived.Test.YtgjpdamojfkpiaaRefW
import Derived.Test.YtgjpdamojfkpiaaKit
import Derived.Test.YtgjpdamojfkpiaaEdN
namespace Go.Proofs.Ytgjpdamojfkpiaa
open Go.RowKit Go.Proofs
set_option linter.unusedVariables false
set_option linter.unusedSimpArgs false
attribute [local go_sem ↓] Go.wp_at_zero Go.wp_at_succ

theorem rmulR (a b : Nat) (ha : a < 18446744073709551616) (hb : b < 18446744073709551616) (w : World) :
    Calls Try.prog 29 #[.int .u64 288230376287764481, .int .u64 a, .int .u64 b] w fun e w' => e = .returned (.int .u64 ((Ob.toG a * Ob.toG b).val : Nat)) ∧ w = w' := by
  rw [← Ob.mulG]
  exact rmul_any Ob.RE a b w Ob.modRE ha hb
theorem raddR (a b : Nat) (ha : a < 18446744073709551616) (hb : b < 18446744073709551616) (w : World) :
    Calls Try.prog 34 #[.int .u64 288230376287764481, .int .u64 a, .int .u64 b] w fun e w' => e = .returned (.int .u64 ((Ob.toG a + Ob.toG b).val : Nat)) ∧ w = w' := by
  rw [← Ob.addG]
  exact radd_any Ob.RE a b w Ob.modRE ha hb
theorem gmulW (a b : Nat) (ha : a < 18446744073709551616) (hb : b < 18446744073709551616) (w : World) :
    Calls Try.prog 20 #[.int .u64 a, .int .u64 b] w fun e w' => e = .returned (.int .u64 ((Ob.toG a * Ob.toG b).val : Nat)) ∧ w = w' := by
  have c0 := rmulR a b ha hb
  generalize (Ob.toG a * Ob.toG b).val = r at *
  go_enter Try.func20, Try.ntmps20
  go_wp2_with (first | (go_at_call 29; first | (with_reducible refine (c0 _).mono ?_; rintro e w' ⟨rfl, rfl⟩)))
  go_ret
  exact ⟨rfl, rfl⟩
theorem gplusW (a b : Nat) (ha : a < 18446744073709551616) (hb : b < 18446744073709551616) (w : World) :
    Calls Try.prog 24 #[.int .u64 a, .int .u64 b] w fun e w' => e = .returned (.int .u64 ((Ob.toG a + Ob.toG b).val : Nat)) ∧ w = w' := by
  have c0 := raddR a b ha hb
  generalize (Ob.toG a + Ob.toG b).val = r at *
  go_enter Try.func24, Try.ntmps24
  go_wp2_with (first | (go_at_call 34; first | (with_reducible refine (c0 _).mono ?_; rintro e w' ⟨rfl, rfl⟩)))
  go_ret
  exact ⟨rfl, rfl⟩
end Go.Proofs.Ytgjpdamojfkpiaa
