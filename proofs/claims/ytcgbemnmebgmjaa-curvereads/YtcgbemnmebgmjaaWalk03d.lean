/-
  Layer 3's statement on what bytes tell, walked.
-/
import Derived.Test.YtcgbemnmebgmjaaLaw03d
import Derived.Test.YtcgbemnmebgmjaaRowW
namespace Go.Proofs.Ytcgbemnmebgmjaa
open Go.RowKit Go.Proofs
set_option linter.unusedVariables false
set_option linter.unusedSimpArgs false

theorem curveReads_walk (a0 : Option Addr) (len0 cap0 : Nat) (z0 : List Int) (w : World) (w0 : IsRow .u8 w a0 len0 cap0 z0) :
    Calls Try.prog 7 #[.slice a0 len0 cap0] w fun e w' => e = .returned (.bool true) ∧ Below w.heap.size w w' := by
  by_cases hl : len0 = 0
  · exact reads_none _ w (fun w1 _ => cread_len a0 len0 cap0 (by omega) (by omega) w1) (fun w1 _ => rread_len a0 len0 cap0 (by omega) (by omega) w1)
  · obtain ⟨b, off, z, rfl, hcap, hm, hz, hY, _⟩ := bys_of_isRow (n := len0) w0 (by omega) (Nat.le_refl _)
    have cr := fun w1 (h : Below w.heap.size w w1) => creadW b off len0 cap0 z hz (by omega) hcap w1 (hY.below h hY.lt)
    have rr := fun w1 (h : Below w.heap.size w w1) => rreadW b off len0 cap0 z hz (by omega) hcap hm w1 (hY.below h hY.lt)
    cases hr : rdOf len0 z with
    | none =>
      rw [hr] at cr rr
      exact reads_none _ w cr rr
    | some a =>
      rw [hr] at cr rr
      obtain ⟨hp, hb⟩ := pby_of_rd hz hr
      have cw := fun w => cwriteW (rd_on hr) w
      rw [hp] at cw
      exact reads_some b off len0 cap0 z (pby a) _ _ _ w hY (nums_congr _ _ _ hb) cr rr cw
end Go.Proofs.Ytcgbemnmebgmjaa
