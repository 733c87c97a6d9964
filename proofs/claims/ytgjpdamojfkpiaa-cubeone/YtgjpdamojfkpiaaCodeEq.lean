/-
  Errors that are codes, compared.
-/
import Derived.Test.YtgjpdamojfkpiaaKit
namespace Go.Proofs.Ytgjpdamojfkpiaa
open Go.RowKit Go.Proofs
set_option linter.unusedVariables false
set_option linter.unusedSimpArgs false

theorem codeInfo : ∃ i, Try.prog.info? 34 = some i ∧ i.comparable = true := by
  have h : (Try.prog.info? 34).map (·.comparable) = some true := by kernel_rfl
  cases hi : Try.prog.info? 34 with
  | none => rw [hi] at h; cases h
  | some i => rw [hi] at h; exact ⟨i, rfl, Option.some.inj h⟩
/-- Two errors that are codes are compared as their numbers. -/
theorem equalIn_code (d : Nat) (w : World) (a b : Int) : (Op.equalIn (d + 2) 30 (.iface 34 (.int .i64 a)) (.iface 34 (.int .i64 b))).run Try.prog w = .ok (a == b) w := by
  obtain ⟨i, hi, hc⟩ := codeInfo
  simp [Op.equalIn, run_underlying Try.underlying30, run_underlying Try.underlying34, typeInfo, hi, hc]
theorem eql_code (w : World) (a b : Int) : (binOp .eql 30 (.iface 34 (.int .i64 a)) (.iface 34 (.int .i64 b))).run Try.prog w = .ok (.bool (a == b)) w := by
  have h := equalIn_code (Op.maxDepth - 2) w a b
  have e : Op.maxDepth - 2 + 2 = Op.maxDepth := by decide +kernel
  rw [e] at h
  simp only [binOp]
  simp [Op.equal, h]
end Go.Proofs.Ytgjpdamojfkpiaa
