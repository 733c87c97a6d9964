/-
  The statements of layer 2 on elements alone, walked.
-/
import Derived.Test.YtjfdgkhmjebbgaaLaw02b
namespace Go.Proofs.Ytjfdgkhmjebbgaa
open Go.RowKit Go.Proofs
set_option linter.unusedVariables false
set_option linter.unusedSimpArgs false

theorem extPows_walk (x0 y0 a1 : Int) (w : World) (wx0 : (Lit.int .u64 x0).wf = true) (wy0 : (Lit.int .u64 y0).wf = true) (w1 : (Lit.int .u64 a1).wf = true) :
    Calls Try.prog 6 #[.agg #[.int .u64 x0, .int .u64 y0], .int .u64 a1] w fun e w' => e = .returned (.bool true) ∧ Below w.heap.size w w' := by
  obtain ⟨a0, rfl, ha0⟩ := word_of wx0
  obtain ⟨a1, rfl, ha1⟩ := word_of wy0
  obtain ⟨n, rfl, hn⟩ := word_of w1
  exact pows_core _ _ _ _ _ w upW (epowW a0 a1 n ha0 ha1 hn) (rePowW a0 a1 n ha0 ha1 hn)

theorem extAdds_walk (x0 y0 x1 y1 : Int) (w : World) (wx0 : (Lit.int .u64 x0).wf = true) (wy0 : (Lit.int .u64 y0).wf = true) (wx1 : (Lit.int .u64 x1).wf = true) (wy1 : (Lit.int .u64 y1).wf = true) :
    Calls Try.prog 3 #[.agg #[.int .u64 x0, .int .u64 y0], .agg #[.int .u64 x1, .int .u64 y1]] w fun e w' => e = .returned (.bool true) ∧ Below w.heap.size w w' := by
  obtain ⟨a0, rfl, ha0⟩ := word_of wx0
  obtain ⟨a1, rfl, ha1⟩ := word_of wy0
  obtain ⟨b0, rfl, hb0⟩ := word_of wx1
  obtain ⟨b1, rfl, hb1⟩ := word_of wy1
  have c1 := esubW a0 a1 b0 b1 ha0 ha1 hb0 hb1
  obtain ⟨d, hd⟩ : ∃ d, d = Ob.esub (Ob.toE a0 a1) (Ob.toE b0 b1) := ⟨_, rfl⟩
  rw [← hd] at c1
  have c2 := econjW a0 a1 ha0 ha1
  have c5 := fun w => ofW d.1.val d.2.val w (Ob.F_word _) (Ob.F_word _)
  have c6 := reAddW d.1.val d.2.val b0 b1 (Ob.F_word _) (Ob.F_word _) hb0 hb1
  rw [Ob.toE_val] at c5 c6
  have e6 : Ob.eadd d (Ob.toE b0 b1) = Ob.toE a0 a1 := by
    rw [hd]
    simp only [Ob.eadd, Ob.esub, Ob.toE, Prod.mk.injEq]
    constructor <;> grind
  rw [e6] at c6
  have c7 := fun w => ofW a0 a1 w ha0 ha1
  have c8 := negP a1 ha1
  have e2 : (Ob.econj (Ob.toE a0 a1)).1.val = a0 % 1152921505151057923 := by
    have : (Ob.econj (Ob.toE a0 a1)).1 = Ob.toF a0 := by
      simp only [Ob.econj, Ob.toE, Ob.toF_zero]
      grind
    rw [this]; rfl
  have e3 : (Ob.econj (Ob.toE a0 a1)).2 = 0 - Ob.toF a1 := rfl
  rw [e2, e3] at c2
  have hn : (0 : Int) ≤ (a0 : Int) := by omega
  exact adds_core a0 a1 b0 b1 _ _ _ _ _ _ _ _ w (by omega) (by rw [Int.tmod_eq_emod_of_nonneg hn]; omega) upW c1 c2 (eaddW a0 a1 b0 b1 ha0 ha1 hb0 hb1) (reAddW a0 a1 b0 b1 ha0 ha1 hb0 hb1) c5 c6 c7 c8

theorem extInverts_walk (x0 y0 : Int) (w : World) (wx0 : (Lit.int .u64 x0).wf = true) (wy0 : (Lit.int .u64 y0).wf = true) :
    Calls Try.prog 5 #[.agg #[.int .u64 x0, .int .u64 y0]] w fun e w' => e = .returned (.bool true) ∧ Below w.heap.size w w' := by
  obtain ⟨a0, rfl, ha0⟩ := word_of wx0
  obtain ⟨a1, rfl, ha1⟩ := word_of wy0
  obtain ⟨r, h0, h1, c1⟩ := einvW a0 a1 ha0 ha1
  have c2 := fun w => ofW a0 a1 w ha0 ha1
  by_cases hz : Ob.toE a0 a1 = Ob.zeroE
  · rw [hz] at c2
    have hr := h0 hz
    exact inverts_zero _ _ r.1.val r.2.val (by rw [hr]; rfl) (by rw [hr]; rfl) w upW c1 c2
  · have hr := h1 hz
    have c3 := fun w => ofW r.1.val r.2.val w (Ob.F_word _) (Ob.F_word _)
    rw [Ob.toE_val] at c3
    have c4 := reMulW r.1.val r.2.val a0 a1 (Ob.F_word _) (Ob.F_word _) ha0 ha1
    rw [Ob.toE_val, hr] at c4
    refine inverts_some _ _ _ _ _ _ ?_ w upW c1 c2 c3 c4
    cases hb : (((Ob.toE a0 a1).1.val : Int) == 0 && ((Ob.toE a0 a1).2.val : Int) == 0) with
    | false => rfl
    | true =>
      exfalso
      simp at hb
      exact hz (Prod.ext hb.1 hb.2)

end Go.Proofs.Ytjfdgkhmjebbgaa
