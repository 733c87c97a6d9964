/-
  How points of the Edwards curve that came in are opened.
-/
import Derived.Test.YtoigpjaffggekabDoorFrame2
import Derived.Lib.SmallJoins
namespace Go.Proofs.YtoigpjaffggekabDoor
open Go.ChangeShapes Go.WideShapes Go.ChangeAt Go.RowKit
set_option linter.unusedVariables false
set_option linter.unusedSimpArgs false

/-- A point that came in. -/
theorem open_Ed {H : Type} {enc : TypeId × Value → H} {W : World} {r : Reach} {b0 : Nat} {v : Value} {d : DataW H} {p : List MemPlace} (hv : Value.okWide Tryd.prog W r b0 24 v)
    (h : DataW.Trod enc Tryd.prog W 0 (fun _ => true) true 24 v d p) : ∃ (x y : Int), v = .agg #[.int .u64 x, .int .u64 y] ∧ (Lit.int .u64 x).wf = true ∧ (Lit.int .u64 y).wf = true := by
  obtain ⟨v1, v2, y1, y2, n, rfl, _, _, h1, h2⟩ := Go.Joins.open_agg2 Tryd.underlying24 (by kernel_rfl) (by kernel_rfl) hv h
  obtain ⟨a, e1, _, wa⟩ := DataW.trod_int Tryd.underlying22 h1
  obtain ⟨b, e2, _, wb⟩ := DataW.trod_int Tryd.underlying22 h2
  simp at e1 e2
  subst e1 e2
  exact ⟨a, b, rfl, wa, wb⟩
end Go.Proofs.YtoigpjaffggekabDoor
