/-
  The statements of layer 2 on elements alone, walked.
-/
import Derived.Test.YtjfdgkhmjebbgaaLaw02c
namespace Go.Proofs.Ytjfdgkhmjebbgaa
open Go.RowKit Go.Proofs
set_option linter.unusedVariables false
set_option linter.unusedSimpArgs false

theorem extField_walk (x0 y0 x1 y1 x2 y2 : Int) (w : World) (wx0 : (Lit.int .u64 x0).wf = true) (wy0 : (Lit.int .u64 y0).wf = true) (wx1 : (Lit.int .u64 x1).wf = true) (wy1 : (Lit.int .u64 y1).wf = true) (wx2 : (Lit.int .u64 x2).wf = true) (wy2 : (Lit.int .u64 y2).wf = true) :
    Calls Try.prog 8 #[.agg #[.int .u64 x0, .int .u64 y0], .agg #[.int .u64 x1, .int .u64 y1], .agg #[.int .u64 x2, .int .u64 y2]] w fun e w' => e = .returned (.bool true) ∧ Below w.heap.size w w' := by
  obtain ⟨a0, rfl, ha0⟩ := word_of wx0
  obtain ⟨a1, rfl, ha1⟩ := word_of wy0
  obtain ⟨b0, rfl, hb0⟩ := word_of wx1
  obtain ⟨b1, rfl, hb1⟩ := word_of wy1
  obtain ⟨e0, rfl, he0⟩ := word_of wx2
  obtain ⟨e1, rfl, he1⟩ := word_of wy2
  obtain ⟨A, hA⟩ : ∃ A, A = Ob.toE a0 a1 := ⟨_, rfl⟩
  obtain ⟨B, hB⟩ : ∃ A, A = Ob.toE b0 b1 := ⟨_, rfl⟩
  obtain ⟨E, hE⟩ : ∃ A, A = Ob.toE e0 e1 := ⟨_, rfl⟩
  have c1 := emulW a0 a1 b0 b1 ha0 ha1 hb0 hb1
  have c3 := emulW e0 e1 a0 a1 he0 he1 ha0 ha1
  have c5 := eaddW b0 b1 e0 e1 hb0 hb1 he0 he1
  have c8 := emulW b0 b1 a0 a1 hb0 hb1 ha0 ha1
  have c10 := epowW a0 a1 Ob.P ha0 ha1 (by decide)
  have c11 := econjW a0 a1 ha0 ha1
  rw [← hA, ← hB] at c1 c8
  rw [← hA, ← hE] at c3
  rw [← hB, ← hE] at c5
  rw [Ob.frob_conj] at c10
  have c2 := emulW (Ob.emul A B).1.val (Ob.emul A B).2.val e0 e1 (Ob.F_word _) (Ob.F_word _) he0 he1
  have c4 := emulW b0 b1 (Ob.emul E A).1.val (Ob.emul E A).2.val hb0 hb1 (Ob.F_word _) (Ob.F_word _)
  have c6 := emulW a0 a1 (Ob.eadd B E).1.val (Ob.eadd B E).2.val ha0 ha1 (Ob.F_word _) (Ob.F_word _)
  have c9 := eaddW (Ob.emul E A).1.val (Ob.emul E A).2.val (Ob.emul B A).1.val (Ob.emul B A).2.val (Ob.F_word _) (Ob.F_word _) (Ob.F_word _) (Ob.F_word _)
  rw [Ob.toE_val, ← hE] at c2
  rw [Ob.toE_val, ← hB] at c4
  rw [Ob.toE_val, ← hA] at c6
  rw [Ob.toE_val, Ob.toE_val] at c9
  have e2 : Ob.emul (Ob.emul A B) E = Ob.emul B (Ob.emul E A) := by
    simp only [Ob.emul, Prod.mk.injEq]
    constructor <;> grind
  have e6 : Ob.emul A (Ob.eadd B E) = Ob.eadd (Ob.emul E A) (Ob.emul B A) := by
    simp only [Ob.emul, Ob.eadd, Prod.mk.injEq]
    constructor <;> grind
  rw [e2] at c2
  rw [e6] at c6
  exact field_core _ _ _ _ _ _ _ _ _ _ _ _ _ _ _ _ _ _ _ _ w upW c1 c2 c3 c4 c5 c6 c8 c9 c10 c11
end Go.Proofs.Ytjfdgkhmjebbgaa
