/-
  Two points that are the same, compared.
-/
import Derived.Test.YtcgbemnmebgmjabKit3
namespace Go.Proofs.Ytcgbemnmebgmjab
open Go.RowKit Go.Proofs
set_option linter.unusedVariables false
set_option linter.unusedSimpArgs false

theorem equalIn_Pt (d : Nat) (w : World) (i : Bool) (x y : Int) : (Op.equalIn (d + 2) 24 (.agg #[.bool i, .int .u64 x, .int .u64 y]) (.agg #[.bool i, .int .u64 x, .int .u64 y])).run Try.prog w = .ok true w := by
  have hA : ∀ w : World, (isAgg 22).run Try.prog w = .ok false w := fun w => by kernel_rfl
  have hA' : ∀ w : World, (isAgg 4).run Try.prog w = .ok false w := fun w => by kernel_rfl
  have hI : ∀ (w : World) (a b : Int), (Op.equalIn (d + 1) 22 (.int .u64 a) (.int .u64 b)).run Try.prog w = .ok (a == b) w := fun w a b => run_equalIn_int w d _ _ .u64 a b Try.underlying22
  have hB : ∀ (w : World) (a b : Bool), (Op.equalIn (d + 1) 4 (.bool a) (.bool b)).run Try.prog w = .ok (a == b) w := fun w a b => run_equalIn_bool' w d _ a b Try.underlying4
  unfold Op.equalIn
  simp only [Sem.run_bind, run_underlying Try.underlying24]
  simp [go_sem, hA, hA', hI, hB, List.range']
theorem equal_Pt (w : World) (i : Bool) (x y : Int) : (Op.equalIn 10000 24 (.agg #[.bool i, .int .u64 x, .int .u64 y]) (.agg #[.bool i, .int .u64 x, .int .u64 y])).run Try.prog w = .ok true w := equalIn_Pt 9998 w i x y
end Go.Proofs.Ytcgbemnmebgmjab
