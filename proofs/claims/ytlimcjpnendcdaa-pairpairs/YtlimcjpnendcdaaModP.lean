/-
  The calls of package modular at P.
-/
import Derived.Test.YtlimcjpnendcdaaKit
import Derived.Test.YtlimcjpnendcdaaExt
namespace Go.Proofs.Ytlimcjpnendcdaa
open Go.RowKit Go.Proofs
set_option linter.unusedVariables false
set_option linter.unusedSimpArgs false
attribute [local go_sem ↓] Go.wp_at_zero Go.wp_at_succ

/-- modular's calls at P. -/
theorem addP (a b : Nat) (ha : a < 18446744073709551616) (hb : b < 18446744073709551616) (w : World) :
    Calls Try.prog 46 #[.int .u64 1152921505151057923, .int .u64 a, .int .u64 b] w fun e w' => e = .returned (.int .u64 ((Ob.toF a + Ob.toF b).val : Nat)) ∧ w = w' := by
  rw [← Ob.addF]
  exact add_any Ob.P a b w (by decide) ha hb
theorem subP (a b : Nat) (ha : a < 18446744073709551616) (hb : b < 18446744073709551616) (w : World) :
    Calls Try.prog 44 #[.int .u64 1152921505151057923, .int .u64 a, .int .u64 b] w fun e w' => e = .returned (.int .u64 ((Ob.toF a - Ob.toF b).val : Nat)) ∧ w = w' := by
  rw [← Ob.subF]
  exact sub_any Ob.P a b w (by decide) ha hb
theorem mulP (a b : Nat) (ha : a < 18446744073709551616) (hb : b < 18446744073709551616) (w : World) :
    Calls Try.prog 45 #[.int .u64 1152921505151057923, .int .u64 a, .int .u64 b] w fun e w' => e = .returned (.int .u64 ((Ob.toF a * Ob.toF b).val : Nat)) ∧ ∃ n, w' = w.drewN n := by
  rw [← Ob.mulF]
  exact mul_any Ob.P a b w (by decide) ha hb
end Go.Proofs.Ytlimcjpnendcdaa
