/-
  Errors that are codes, compared.
-/
import Derived.Test.YtoigpjaffggekaaDoorKit
namespace Go.Proofs.YtoigpjaffggekaaDoor
open Go.RowKit Go.Proofs
set_option linter.unusedVariables false
set_option linter.unusedSimpArgs false

theorem codeInfo : ∃ i, Tryd.prog.info? 30 = some i ∧ i.comparable = true := by
  have h : (Tryd.prog.info? 30).map (·.comparable) = some true := by kernel_rfl
  cases hi : Tryd.prog.info? 30 with
  | none => rw [hi] at h; cases h
  | some i => rw [hi] at h; exact ⟨i, rfl, Option.some.inj h⟩
/-- Two errors that are codes are compared as their numbers. -/
theorem equalIn_code (d : Nat) (w : World) (a b : Int) : (Op.equalIn (d + 2) 27 (.iface 30 (.int .i64 a)) (.iface 30 (.int .i64 b))).run Tryd.prog w = .ok (a == b) w := by
  obtain ⟨i, hi, hc⟩ := codeInfo
  simp [Op.equalIn, run_underlying Tryd.underlying27, run_underlying Tryd.underlying30, typeInfo, hi, hc]
theorem eql_code (w : World) (a b : Int) : (binOp .eql 27 (.iface 30 (.int .i64 a)) (.iface 30 (.int .i64 b))).run Tryd.prog w = .ok (.bool (a == b)) w := by
  have h := equalIn_code (Op.maxDepth - 2) w a b
  have e : Op.maxDepth - 2 + 2 = Op.maxDepth := by decide +kernel
  rw [e] at h
  simp only [binOp]
  simp [Op.equal, h]
end Go.Proofs.YtoigpjaffggekaaDoor
