/-
  Layer 3's statement on a point's bytes, walked.
-/
import Derived.Test.YtcgbemnmebgmjaaLaw03e
namespace Go.Proofs.Ytcgbemnmebgmjaa
open Go.RowKit Go.Proofs
set_option linter.unusedVariables false
set_option linter.unusedSimpArgs false

theorem curveWrites_walk (i0 : Bool) (x0 y0 : Int) (w : World) (wx0 : (Lit.int .u64 x0).wf = true) (wy0 : (Lit.int .u64 y0).wf = true) :
    Calls Try.prog 6 #[.agg #[.bool i0, .int .u64 x0, .int .u64 y0]] w fun e w' => e = .returned (.bool true) ∧ Below w.heap.size w w' := by
  obtain ⟨x, rfl, hx⟩ := word_of wx0
  obtain ⟨y, rfl, hy⟩ := word_of wy0
  have ci := risW i0 x y hx hy
  cases h : isPt i0 x y with
  | false =>
    rw [h] at ci
    exact writes_no i0 x y w (cwriteW_no hx hy h) ci
  | true =>
    rw [h] at ci
    have ha := ptOf_on i0 x y
    have hv := ptV_of h
    generalize ptOf i0 x y = a at *
    have cw := fun w => cwriteW ha w
    have rb := fun w => rptbytesW a w
    have cr := fun (g cap : Nat) (w1 : World) (hc : plen a ≤ cap) (hB : Bys w1 g 0 (plen a) (pby a)) => creadW g 0 (plen a) cap (pby a) (pby_lt a) (by cases a <;> exact Nat.succ_pos _) hc w1 hB
    rw [rd_of_pby ha] at cr
    rw [hv] at ci ⊢
    exact writes_yes _ _ _ (plen a) (pby a) w cw ci cr rb
end Go.Proofs.Ytcgbemnmebgmjaa
