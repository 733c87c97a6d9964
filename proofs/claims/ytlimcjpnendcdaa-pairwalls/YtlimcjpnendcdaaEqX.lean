/-
  Elements and points compared.
-/
import Derived.Test.YtlimcjpnendcdaaKit3
namespace Go.Proofs.Ytlimcjpnendcdaa
open Go.RowKit Go.Proofs
set_option linter.unusedVariables false
set_option linter.unusedSimpArgs false

theorem equalIn_E (d : Nat) (w : World) (x y x' y' : Int) : (Op.equalIn (d + 2) 27 (.agg #[.int .u64 x, .int .u64 y]) (.agg #[.int .u64 x', .int .u64 y'])).run Try.prog w = .ok (x == x' && y == y') w := by
  have hA : ∀ w : World, (isAgg 22).run Try.prog w = .ok false w := fun w => by kernel_rfl
  have hI : ∀ (w : World) (a b : Int), (Op.equalIn (d + 1) 22 (.int .u64 a) (.int .u64 b)).run Try.prog w = .ok (a == b) w := fun w a b => run_equalIn_int w d _ _ .u64 a b Try.underlying22
  unfold Op.equalIn
  simp only [Sem.run_bind, run_underlying Try.underlying27]
  simp [go_sem, hA, hI, List.range']
  cases h : x == x' <;> simp [h, go_sem, hA, hI]
  · intro e
    simp at h
    exact absurd e h
  · have e : x = x' := by simpa using h
    rw [if_pos e]
    by_cases e' : y = y' <;> simp [e']
theorem equal_E (w : World) (x y x' y' : Int) : (Op.equalIn 10000 27 (.agg #[.int .u64 x, .int .u64 y]) (.agg #[.int .u64 x', .int .u64 y'])).run Try.prog w = .ok (x == x' && y == y') w := equalIn_E 9998 w x y x' y'

theorem equalIn_Pts (d : Nat) (w : World) (i j : Bool) (x y x' y' : Int) : (Op.equalIn (d + 2) 24 (.agg #[.bool i, .int .u64 x, .int .u64 y]) (.agg #[.bool j, .int .u64 x', .int .u64 y'])).run Try.prog w = .ok (i == j && (x == x' && y == y')) w := by
  have hA : ∀ w : World, (isAgg 22).run Try.prog w = .ok false w := fun w => by kernel_rfl
  have hA' : ∀ w : World, (isAgg 4).run Try.prog w = .ok false w := fun w => by kernel_rfl
  have hI : ∀ (w : World) (a b : Int), (Op.equalIn (d + 1) 22 (.int .u64 a) (.int .u64 b)).run Try.prog w = .ok (a == b) w := fun w a b => run_equalIn_int w d _ _ .u64 a b Try.underlying22
  have hB : ∀ (w : World) (a b : Bool), (Op.equalIn (d + 1) 4 (.bool a) (.bool b)).run Try.prog w = .ok (a == b) w := fun w a b => run_equalIn_bool' w d _ a b Try.underlying4
  unfold Op.equalIn
  simp only [Sem.run_bind, run_underlying Try.underlying24]
  by_cases h1 : i = j
  · subst h1
    by_cases h2 : x = x'
    · subst h2
      by_cases h3 : y = y'
      · subst h3
        simp [go_sem, hA, hA', hI, hB, List.range']
      · simp [go_sem, hA, hA', hI, hB, List.range', h3]
    · simp [go_sem, hA, hA', hI, hB, List.range', h2]
  · simp [go_sem, hA, hA', hI, hB, List.range', h1]
theorem equal_Pts (w : World) (i j : Bool) (x y x' y' : Int) : (Op.equalIn 10000 24 (.agg #[.bool i, .int .u64 x, .int .u64 y]) (.agg #[.bool j, .int .u64 x', .int .u64 y'])).run Try.prog w = .ok (i == j && (x == x' && y == y')) w := equalIn_Pts 9998 w i j x y x' y'
end Go.Proofs.Ytlimcjpnendcdaa
