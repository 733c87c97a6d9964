/-
  Layer 2's statement on bytes, walked.
-/
import Derived.Test.YtjfdgkhmjebbgaaLaw02e
import Derived.Test.YtjfdgkhmjebbgaaRowW
namespace Go.Proofs.Ytjfdgkhmjebbgaa
open Go.RowKit Go.Proofs
set_option linter.unusedVariables false
set_option linter.unusedSimpArgs false

theorem extCodes_walk (x0 y0 : Int) (a1 : Option Addr) (len1 cap1 : Nat) (z1 : List Int) (w : World) (wx0 : (Lit.int .u64 x0).wf = true) (wy0 : (Lit.int .u64 y0).wf = true) (w1 : IsRow .u8 w a1 len1 cap1 z1) :
    Calls Try.prog 7 #[.agg #[.int .u64 x0, .int .u64 y0], .slice a1 len1 cap1] w fun e w' => e = .returned (.bool true) ∧ Below w.heap.size w w' := by
  obtain ⟨a0, rfl, ha0⟩ := word_of wx0
  obtain ⟨a1, rfl, ha1⟩ := word_of wy0
  by_cases hl : len1 = 16
  · subst hl
    obtain ⟨b, off, z, rfl, hcap, hm, hz, hY, _⟩ := bys_of_isRow (n := 16) w1 (by decide) (Nat.le_refl _)
    have cr := fun w1 (h : Below w.heap.size w w1) => readW_16 b off cap1 z hz w1 hcap (hY.below h hY.lt)
    by_cases hn : Ob.num z 8 < Ob.P ∧ Ob.num (fun i => z (8 + i)) 8 < Ob.P
    · simp only [if_pos hn] at cr
      have H := Or.inr (a := (16 ≠ 16 ∧ (Value.nilIface = .iface 40 (.int .i64 3)) ∧ ((Ob.num z 8 : Nat) : Int) = 0 ∧ ((Ob.num (fun i => z (8 + i)) 8 : Nat) : Int) = 0)) (⟨b, off, z, rfl, rfl, hcap, hz, hY, Or.inl ⟨hn.1, hn.2, rfl, rfl, rfl⟩⟩ : ∃ (b' off' : Nat) (z' : Nat → Nat), some (⟨b, off, none⟩ : Addr) = some ⟨b', off', none⟩ ∧ 16 = 16 ∧ 16 ≤ cap1 ∧ (∀ i, z' i < 256) ∧ Bys w b' off' 16 z' ∧ ((Ob.num z' 8 < Ob.P ∧ Ob.num (fun i => z' (8 + i)) 8 < Ob.P ∧ Value.nilIface = .nilIface ∧ ((Ob.num z 8 : Nat) : Int) = (Ob.num z' 8 : Nat) ∧ ((Ob.num (fun i => z (8 + i)) 8 : Nat) : Int) = (Ob.num (fun i => z' (8 + i)) 8 : Nat)) ∨ (¬ (Ob.num z' 8 < Ob.P ∧ Ob.num (fun i => z' (8 + i)) 8 < Ob.P) ∧ Value.nilIface = .iface 40 (.int .i64 3) ∧ ((Ob.num z 8 : Nat) : Int) = 0 ∧ ((Ob.num (fun i => z (8 + i)) 8 : Nat) : Int) = 0)))
      by_cases hr : a0 < Ob.P ∧ a1 < Ob.P
      · exact codes_yes a0 a1 _ _ _ _ _ _ w hr.1 hr.2 H cr
      · exact codes_no a0 a1 _ _ _ _ _ _ w ha0 ha1 hr H cr
    · simp only [if_neg hn] at cr
      by_cases hr : a0 < Ob.P ∧ a1 < Ob.P
      · exact codes_yes a0 a1 0 0 _ _ _ _ w hr.1 hr.2 (Or.inr ⟨b, off, z, rfl, rfl, hcap, hz, hY, Or.inr ⟨hn, rfl, rfl, rfl⟩⟩) cr
      · exact codes_no a0 a1 0 0 _ _ _ _ w ha0 ha1 hr (Or.inr ⟨b, off, z, rfl, rfl, hcap, hz, hY, Or.inr ⟨hn, rfl, rfl, rfl⟩⟩) cr
  · have cr := fun w1 (h : Below w.heap.size w w1) => readW_len ‹Option Addr› len1 cap1 hl w1
    by_cases hr : a0 < Ob.P ∧ a1 < Ob.P
    · exact codes_yes a0 a1 0 0 _ _ _ _ w hr.1 hr.2 (Or.inl ⟨hl, rfl, rfl, rfl⟩) cr
    · exact codes_no a0 a1 0 0 _ _ _ _ w ha0 ha1 hr (Or.inl ⟨hl, rfl, rfl, rfl⟩) cr
end Go.Proofs.Ytjfdgkhmjebbgaa
