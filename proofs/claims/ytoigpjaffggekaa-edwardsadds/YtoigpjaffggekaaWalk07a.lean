/-
  The statements of layer 7 on points alone, walked.
-/
import Derived.Test.YtoigpjaffggekaaLaw07a
namespace Go.Proofs.Ytoigpjaffggekaa
open Go.RowKit Go.Proofs
set_option linter.unusedVariables false
set_option linter.unusedSimpArgs false

theorem edwardsIs_walk (x0 y0 : Int) (w : World) (wx0 : (Lit.int .u64 x0).wf = true) (wy0 : (Lit.int .u64 y0).wf = true) :
    Calls Try.prog 3 #[.agg #[.int .u64 x0, .int .u64 y0]] w fun e w' => e = .returned (.bool true) ∧ Below w.heap.size w w' := by
  obtain ⟨x, rfl, hx⟩ := word_of wx0
  obtain ⟨y, rfl, hy⟩ := word_of wy0
  exact is_core _ _ x y w upW (eisW x y hx hy) (gisW x y hx hy) (einW x y hx hy) (ginW x y hx hy)

theorem edwardsMuls_walk (x0 y0 a1 : Int) (w : World) (wx0 : (Lit.int .u64 x0).wf = true) (wy0 : (Lit.int .u64 y0).wf = true) (w1 : (Lit.int .u64 a1).wf = true) :
    Calls Try.prog 5 #[.agg #[.int .u64 x0, .int .u64 y0], .int .u64 a1] w fun e w' => e = .returned (.bool true) ∧ Below w.heap.size w w' := by
  obtain ⟨x, rfl, hx⟩ := word_of wx0
  obtain ⟨y, rfl, hy⟩ := word_of wy0
  obtain ⟨n, rfl, hn⟩ := word_of w1
  exact muls_core x y _ _ _ _ n w upW (emulW x y n hx hy hn) (gsureW x y hx hy) (gtimesW (Ob.ofG_on x y) n hn)

theorem edwardsAdds_walk (x0 y0 x1 y1 : Int) (w : World) (wx0 : (Lit.int .u64 x0).wf = true) (wy0 : (Lit.int .u64 y0).wf = true) (wx1 : (Lit.int .u64 x1).wf = true) (wy1 : (Lit.int .u64 y1).wf = true) :
    Calls Try.prog 4 #[.agg #[.int .u64 x0, .int .u64 y0], .agg #[.int .u64 x1, .int .u64 y1]] w fun e w' => e = .returned (.bool true) ∧ Below w.heap.size w w' := by
  obtain ⟨x0, rfl, hx0⟩ := word_of wx0
  obtain ⟨y0, rfl, hy0⟩ := word_of wy0
  obtain ⟨x1, rfl, hx1⟩ := word_of wx1
  obtain ⟨y1, rfl, hy1⟩ := word_of wy1
  have c1 := gsureW x0 y0 hx0 hy0
  have c2 := enegW x0 y0 hx0 hy0
  have c3 := eaddW x0 y0 x1 y1 hx0 hy0 hx1 hy1
  have c4 := gsureW x1 y1 hx1 hy1
  have ha := Ob.ofG_on x0 y0
  have hb := Ob.ofG_on x1 y1
  generalize Ob.ofG x0 y0 = a at *
  generalize Ob.ofG x1 y1 = b at *
  have c5 := gsumW a b
  have hs := Ob.onG_add ha hb
  have hn := Ob.onG_neg ha
  have c6 := gisW (Ob.gadd a b).1.val (Ob.gadd a b).2.val (Ob.G_word _) (Ob.G_word _)
  rw [Ob.on_isG hs] at c6
  have c7 := gisW (Ob.gneg a).1.val (Ob.gneg a).2.val (Ob.G_word _) (Ob.G_word _)
  rw [Ob.on_isG hn] at c7
  have c8 := gsumW a (Ob.gneg a)
  rw [Ob.gadd_neg ha] at c8
  exact adds_core x0 y0 x1 y1 _ _ _ _ _ _ _ _ w upW lzeroW c1 c2 c3 c4 c5 c6 c7 c8
end Go.Proofs.Ytoigpjaffggekaa
