/-
  Layer 2's statement on what stays, walked.
-/
import Derived.Test.YtjfdgkhmjebbgabLaw02g
import Derived.Test.YtjfdgkhmjebbgabLaw02h
import Derived.Test.YtjfdgkhmjebbgabRowW
namespace Go.Proofs.Ytjfdgkhmjebbgab
open Go.RowKit Go.Proofs
set_option linter.unusedVariables false
set_option linter.unusedSimpArgs false

theorem extStays_walk (x0 y0 : Int) (a1 : Option Addr) (len1 cap1 : Nat) (z1 : List Int) (w : World) (wx0 : (Lit.int .u64 x0).wf = true) (wy0 : (Lit.int .u64 y0).wf = true) (w1 : IsRow .u8 w a1 len1 cap1 z1) (r1 : cap1 * 1 ≤ 140737488351232) :
    Calls Try.prog 3 #[.agg #[.int .u64 x0, .int .u64 y0], .slice a1 len1 cap1] w fun e w' => e = .returned (.bool true) ∧ Below w.heap.size w w' := by
  obtain ⟨e0, rfl, he0⟩ := word_of wx0
  obtain ⟨e1, rfl, he1⟩ := word_of wy0
  by_cases h0 : len1 = 0
  · subst h0
    by_cases hr : e0 < Ob.P ∧ e1 < Ob.P
    · exact stays0_yes e0 e1 hr.1 hr.2 a1 cap1 w
    · exact stays0_no e0 e1 hr a1 cap1 w
  · obtain ⟨b, off, z, rfl, hcap, hm, hz, hY, _⟩ := bys_of_isRow (n := len1) w1 (by omega) (Nat.le_refl _)
    have R : ∃ (X Y : Int) (fv : Value), (fv = .nilIface ∨ fv = .iface 38 (.int .i64 3)) ∧ ∀ (b' off' cap' : Nat) (w1 : World), Bys w1 b' off' len1 z → len1 ≤ cap' → Calls Try.prog 5 #[.slice (some ⟨b', off', none⟩) len1 cap'] w1 fun e w' => e = .returned (.tuple #[.agg #[.int .u64 X, .int .u64 Y], fv]) ∧ Below w1.heap.size w1 w' := by
      by_cases hl : len1 = 16
      · subst hl
        by_cases hn : Ob.num z 8 < Ob.P ∧ Ob.num (fun i => z (8 + i)) 8 < Ob.P
        · refine ⟨(Ob.num z 8 : Nat), (Ob.num (fun i => z (8 + i)) 8 : Nat), _, Or.inl rfl, fun b' off' cap' w1 hb hc => ?_⟩
          have := readW_16 b' off' cap' z hz w1 hc hb
          rw [if_pos hn] at this
          exact this
        · refine ⟨0, 0, _, Or.inr rfl, fun b' off' cap' w1 hb hc => ?_⟩
          have := readW_16 b' off' cap' z hz w1 hc hb
          rw [if_neg hn] at this
          exact this
      · exact ⟨0, 0, _, Or.inr rfl, fun b' off' cap' w1 hb hc => readW_len _ len1 cap' hl w1⟩
    obtain ⟨X, Y, fv, hfv, cr⟩ := R
    by_cases hr : e0 < Ob.P ∧ e1 < Ob.P
    · exact stays_yes e0 e1 hr.1 hr.2 b off len1 cap1 z hz X Y fv w (by omega) hcap (by omega) hY hfv cr
    · exact stays_no e0 e1 hr b off len1 cap1 z hz X Y fv w (by omega) hcap (by omega) hY hfv cr
end Go.Proofs.Ytjfdgkhmjebbgab
