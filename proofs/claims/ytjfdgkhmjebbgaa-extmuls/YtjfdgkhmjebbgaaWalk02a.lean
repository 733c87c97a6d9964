/-
  The statements of layer 2 on elements alone, walked.
-/
import Derived.Test.YtjfdgkhmjebbgaaLaw02
namespace Go.Proofs.Ytjfdgkhmjebbgaa
open Go.RowKit Go.Proofs
set_option linter.unusedVariables false
set_option linter.unusedSimpArgs false

theorem extMuls_walk (x0 y0 x1 y1 : Int) (w : World) (wx0 : (Lit.int .u64 x0).wf = true) (wy0 : (Lit.int .u64 y0).wf = true) (wx1 : (Lit.int .u64 x1).wf = true) (wy1 : (Lit.int .u64 y1).wf = true) :
    Calls Try.prog 4 #[.agg #[.int .u64 x0, .int .u64 y0], .agg #[.int .u64 x1, .int .u64 y1]] w fun e w' => e = .returned (.bool true) ∧ Below w.heap.size w w' := by
  obtain ⟨a0, rfl, ha0⟩ := word_of wx0
  obtain ⟨a1, rfl, ha1⟩ := word_of wy0
  obtain ⟨b0, rfl, hb0⟩ := word_of wx1
  obtain ⟨b1, rfl, hb1⟩ := word_of wy1
  exact muls_core _ _ _ _ _ _ w upW (emulW a0 a1 b0 b1 ha0 ha1 hb0 hb1) (reMulW a0 a1 b0 b1 ha0 ha1 hb0 hb1)

end Go.Proofs.Ytjfdgkhmjebbgaa
