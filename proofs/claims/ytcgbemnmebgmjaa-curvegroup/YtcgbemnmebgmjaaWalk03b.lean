/-
  Layer 3's own statement, walked.
-/
import Derived.Test.YtcgbemnmebgmjaaLaw03b
import Derived.Test.YtcgbemnmebgmjaaLaw03c
namespace Go.Proofs.Ytcgbemnmebgmjaa
open Go.RowKit Go.Proofs
set_option linter.unusedVariables false
set_option linter.unusedSimpArgs false

attribute [local irreducible] Ob.cmul

/-- Sums of points that are told by their fields. -/
theorem caddP {a b : Ob.Cp} (ha : Ob.onC a) (hb : Ob.onC b) (w : World) :
    Calls Try.prog 16 #[ptV a, ptV b] w fun e w' => e = .returned (ptV (Ob.cadd a b)) ∧ Below w.heap.size w w' := by
  have := caddW (ptI a) (ptI b) (ptX a) (ptY a) (ptX b) (ptY b) (ptX_word _) (ptY_word _) (ptX_word _) (ptY_word _) w
  rw [ptOf_of ha, ptOf_of hb] at this
  exact this
theorem cmulP {a : Ob.Cp} (ha : Ob.onC a) (n : Nat) (hn : n < 18446744073709551616) (w : World) :
    Calls Try.prog 19 #[ptV a, .int .u64 n] w fun e w' => e = .returned (ptV (Ob.cmul a n)) ∧ Below w.heap.size w w' := by
  have := cmulW (ptI a) (ptX a) (ptY a) n (ptX_word _) (ptY_word _) hn w
  rw [ptOf_of ha] at this
  exact this

theorem curveGroup_walk (i0 : Bool) (x0 y0 : Int) (i1 : Bool) (x1 y1 : Int) (i2 : Bool) (x2 y2 a3 a4 : Int) (w : World) (wx0 : (Lit.int .u64 x0).wf = true) (wy0 : (Lit.int .u64 y0).wf = true) (wx1 : (Lit.int .u64 x1).wf = true) (wy1 : (Lit.int .u64 y1).wf = true) (wx2 : (Lit.int .u64 x2).wf = true) (wy2 : (Lit.int .u64 y2).wf = true) (w3 : (Lit.int .u64 a3).wf = true) (w4 : (Lit.int .u64 a4).wf = true) :
    Calls Try.prog 8 #[.agg #[.bool i0, .int .u64 x0, .int .u64 y0], .agg #[.bool i1, .int .u64 x1, .int .u64 y1], .agg #[.bool i2, .int .u64 x2, .int .u64 y2], .int .u64 a3, .int .u64 a4] w fun e w' => e = .returned (.bool true) ∧ Below w.heap.size w w' := by
  obtain ⟨x0, rfl, hx0⟩ := word_of wx0
  obtain ⟨y0, rfl, hy0⟩ := word_of wy0
  obtain ⟨x1, rfl, hx1⟩ := word_of wx1
  obtain ⟨y1, rfl, hy1⟩ := word_of wy1
  obtain ⟨x2, rfl, hx2⟩ := word_of wx2
  obtain ⟨y2, rfl, hy2⟩ := word_of wy2
  obtain ⟨k, rfl, hk⟩ := word_of w3
  obtain ⟨n, rfl, hn⟩ := word_of w4
  have c1 := caddW i0 i1 x0 y0 x1 y1 hx0 hy0 hx1 hy1
  have c3 := caddW i2 i0 x2 y2 x0 y0 hx2 hy2 hx0 hy0
  have c5 := cmulW i0 x0 y0 288230376287764481 hx0 hy0 (by decide)
  have c7 := cmulW i0 x0 y0 k hx0 hy0 hk
  have c8 := cmulW i0 x0 y0 n hx0 hy0 hn
  have c11 := caddW i1 i0 x1 y1 x0 y0 hx1 hy1 hx0 hy0
  have c2 := fun (d : Ob.Cp) => caddW (ptI d) i2 (ptX d) (ptY d) x2 y2 (ptX_word _) (ptY_word _) hx2 hy2
  have c4 := fun (d : Ob.Cp) => caddW i1 (ptI d) x1 y1 (ptX d) (ptY d) hx1 hy1 (ptX_word _) (ptY_word _)
  have c10 := fun (h : k + n < 18446744073709551616) => cmulW i0 x0 y0 (k + n) hx0 hy0 h
  have ha := ptOf_on i0 x0 y0
  have hb := ptOf_on i1 x1 y1
  have hc := ptOf_on i2 x2 y2
  generalize ptOf i0 x0 y0 = a at *
  generalize ptOf i1 x1 y1 = b at *
  generalize ptOf i2 x2 y2 = c at *
  have hd := Ob.onC_add ha hb
  have he := Ob.onC_add hc ha
  have c2 := c2 (Ob.cadd a b)
  have c4 := c4 (Ob.cadd c a)
  rw [ptOf_of hd] at c2
  rw [ptOf_of he] at c4
  have e4 : Ob.cadd b (Ob.cadd c a) = Ob.cadd (Ob.cadd a b) c := by
    rw [← Ob.cadd_assoc hb hc ha, Ob.cadd_comm (Ob.onC_add hb hc) ha, Ob.cadd_assoc ha hb hc]
  rw [e4] at c4
  have c6 := cmulP (Ob.onC_mul ha 288230376287764481) 4 (by decide)
  have e6 : Ob.cmul (Ob.cmul a 288230376287764481) 4 = none := by
    have h := Ob.order ha
    have e : Ob.P + 1 = 288230376287764481 * 4 := by decide +kernel
    rw [e] at h
    rw [Ob.cmul_mul ha]
    exact h
  rw [e6] at c6
  by_cases h : 4611686018427387904 < k ∨ 4611686018427387904 < n
  · refine group_big _ _ _ _ _ _ _ _ _ _ _ _ _ _ _ _ _ _ _ _ _ _ _ k n ?_ w upW c1 c2 c3 c4 c5 c6
    omega
  · have c9 := caddP (Ob.onC_mul ha k) (Ob.onC_mul ha n)
    rw [← Ob.cmul_add ha] at c9
    have c10 := c10 (by omega)
    rw [Ob.cadd_comm hb ha] at c11
    refine group_small _ _ _ _ _ _ _ _ _ _ _ _ _ _ _ _ _ _ _ _ _ _ _ _ _ _ _ _ _ _ _ _ k n (by omega) (by omega) ((k + n : Nat) : Int) ?_ ?_ w upW c1 c2 c3 c4 c5 c6 c7 c8 c9 c10 c11
    · have := wrapNat (k + n) (by omega)
      rw [Int.natCast_add] at this
      rw [this, Int.natCast_add]
    · omega
end Go.Proofs.Ytcgbemnmebgmjaa
