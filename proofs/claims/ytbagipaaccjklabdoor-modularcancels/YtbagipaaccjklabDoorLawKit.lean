/-
  Small helps for the statements' walks: errors that are codes, worlds that were drawn from, words as plain numbers.
-/
import Derived.Test.YtbagipaaccjklabDoorRootW
import Derived.LaidEql
import Derived.OpenShut
namespace Go.Proofs.YtbagipaaccjklabDoor
open Go.RowKit Go.Proofs
set_option linter.unusedVariables false

theorem codeInfo : ∃ i, Tryd.prog.info? 31 = some i ∧ i.comparable = true := by
  have h : (Tryd.prog.info? 31).map (·.comparable) = some true := by kernel_rfl
  cases hi : Tryd.prog.info? 31 with
  | none => rw [hi] at h; cases h
  | some i => rw [hi] at h; exact ⟨i, rfl, Option.some.inj h⟩

/-- Two errors that are codes are compared as their numbers. -/
theorem equalIn_code (d : Nat) (w : World) (a b : Int) : (Op.equalIn (d + 2) 25 (.iface 31 (.int .i64 a)) (.iface 31 (.int .i64 b))).run Tryd.prog w = .ok (a == b) w := by
  obtain ⟨i, hi, hc⟩ := codeInfo
  simp [Op.equalIn, run_underlying Tryd.underlying25, run_underlying Tryd.underlying31, typeInfo, hi, hc]

theorem eql_code (w : World) (a b : Int) : (binOp .eql 25 (.iface 31 (.int .i64 a)) (.iface 31 (.int .i64 b))).run Tryd.prog w = .ok (.bool (a == b)) w := by
  have h := equalIn_code (Op.maxDepth - 2) w a b
  have e : Op.maxDepth - 2 + 2 = Op.maxDepth := by decide +kernel
  rw [e] at h
  simp only [binOp]
  simp [Op.equal, h]

theorem quiet_same {f : FuncId} {args : Array Value} {w : World} {n : Nat} {v : Value} (h : ∀ w, Calls Tryd.prog f args w fun e w' => e = .returned v ∧ w = w') :
    Calls Tryd.prog f args (w.drewN n) fun e w'' => e = .returned v ∧ ∃ m, w'' = w.drewN m := (h _).mono fun e w' ⟨he, hw⟩ => ⟨he, n, hw.symm⟩
theorem quiet_drew {f : FuncId} {args : Array Value} {w : World} {n : Nat} {v : Value} (h : ∀ w, Calls Tryd.prog f args w fun e w' => e = .returned v ∧ ∃ n, w' = w.drewN n) :
    Calls Tryd.prog f args (w.drewN n) fun e w'' => e = .returned v ∧ ∃ m, w'' = w.drewN m := (h _).mono fun e w' ⟨he, k, hw⟩ => ⟨he, n + k, by rw [hw, World.drewN_drewN]⟩

theorem drew_on {w w1 : World} (H : Hid (∃ n, w1 = w.drewN n)) (k : Nat) : ∃ n, w1.drewN k = w.drewN n := by
  obtain ⟨n, hn⟩ := H.out
  exact ⟨n + k, by rw [hn, World.drewN_drewN]⟩

theorem tab_on {w w1 : World} (H : Hid (∃ n, w1 = w.drewN n)) (hT : TabOk w) : TabOk w1 := by
  obtain ⟨n, hn⟩ := H.out
  rw [hn]
  exact hT.drew n

/-- A word of 64 bits, as a plain number. -/
theorem word_of {a : Int} (h : (Lit.int .u64 a).wf = true) : ∃ n : Nat, a = (n : Int) ∧ n < 18446744073709551616 := by
  have := bounds_u64 h
  exact ⟨a.toNat, by omega, by omega⟩

end Go.Proofs.YtbagipaaccjklabDoor
