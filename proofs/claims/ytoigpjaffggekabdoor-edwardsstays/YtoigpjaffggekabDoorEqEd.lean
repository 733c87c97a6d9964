/-
  Two points compared.
-/
import Derived.Test.YtoigpjaffggekabDoorKit3
import Derived.Test.YtoigpjaffggekabDoorEdV
namespace Go.Proofs.YtoigpjaffggekabDoor
open Go.RowKit Go.Proofs
set_option linter.unusedVariables false
set_option linter.unusedSimpArgs false

theorem equalIn_Ed (d : Nat) (w : World) (x y x' y' : Int) : (Op.equalIn (d + 2) 24 (.agg #[.int .u64 x, .int .u64 y]) (.agg #[.int .u64 x', .int .u64 y'])).run Tryd.prog w = .ok (x == x' && y == y') w := by
  have hA : ∀ w : World, (isAgg 22).run Tryd.prog w = .ok false w := fun w => by kernel_rfl
  have hI : ∀ (w : World) (a b : Int), (Op.equalIn (d + 1) 22 (.int .u64 a) (.int .u64 b)).run Tryd.prog w = .ok (a == b) w := fun w a b => run_equalIn_int w d _ _ .u64 a b Tryd.underlying22
  unfold Op.equalIn
  simp only [Sem.run_bind, run_underlying Tryd.underlying24]
  cases h : (x == x') with
  | true =>
    cases h2 : (y == y') with
    | true => simp [go_sem, hA, hI, List.range', h, h2]
    | false => simp [go_sem, hA, hI, List.range', h, h2]
  | false => simp [go_sem, hA, hI, List.range', h]
theorem equal_Ed (w : World) (x y x' y' : Int) : (Op.equalIn 10000 24 (.agg #[.int .u64 x, .int .u64 y]) (.agg #[.int .u64 x', .int .u64 y'])).run Tryd.prog w = .ok (x == x' && y == y') w := equalIn_Ed 9998 w x y x' y'
/-- Whether it is 0. -/
def isZ (u : Ob.Ep) : Bool := decide (u = Ob.gzero)
theorem isZ_eq (u : Ob.Ep) : ((((u.1.val : Nat) : Int) == 0) && (((u.2.val : Nat) : Int) == 1)) = isZ u := by
  unfold isZ
  by_cases h : u = Ob.gzero
  · subst h; decide +kernel
  · rw [decide_eq_false h]
    rw [Bool.and_eq_false_iff]
    by_cases h1 : u.1.val = 0
    · refine Or.inr ?_
      have : u.2.val ≠ 1 := fun h2 => h (Prod.ext (Fin.ext h1) (Fin.ext h2))
      exact beq_eq_false_iff_ne.mpr (fun e => this (by omega))
    · refine Or.inl ?_
      exact beq_eq_false_iff_ne.mpr (fun e => h1 (by omega))
end Go.Proofs.YtoigpjaffggekabDoor
