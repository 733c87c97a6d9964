/-
  The statements of layer 3 on points alone, walked.
-/
import Derived.Test.YtcgbemnmebgmjaaLaw03
namespace Go.Proofs.Ytcgbemnmebgmjaa
open Go.RowKit Go.Proofs
set_option linter.unusedVariables false
set_option linter.unusedSimpArgs false

theorem curveIs_walk (i0 : Bool) (x0 y0 : Int) (w : World) (wx0 : (Lit.int .u64 x0).wf = true) (wy0 : (Lit.int .u64 y0).wf = true) :
    Calls Try.prog 3 #[.agg #[.bool i0, .int .u64 x0, .int .u64 y0]] w fun e w' => e = .returned (.bool true) ∧ Below w.heap.size w w' := by
  obtain ⟨x, rfl, hx⟩ := word_of wx0
  obtain ⟨y, rfl, hy⟩ := word_of wy0
  exact is_core i0 _ _ x y w upW (cisW i0 x y hx hy) (risW i0 x y hx hy) (cinW i0 x y hx hy) (rinW i0 x y hx hy)

theorem curveMuls_walk (i0 : Bool) (x0 y0 a1 : Int) (w : World) (wx0 : (Lit.int .u64 x0).wf = true) (wy0 : (Lit.int .u64 y0).wf = true) (w1 : (Lit.int .u64 a1).wf = true) :
    Calls Try.prog 5 #[.agg #[.bool i0, .int .u64 x0, .int .u64 y0], .int .u64 a1] w fun e w' => e = .returned (.bool true) ∧ Below w.heap.size w w' := by
  obtain ⟨x, rfl, hx⟩ := word_of wx0
  obtain ⟨y, rfl, hy⟩ := word_of wy0
  obtain ⟨n, rfl, hn⟩ := word_of w1
  exact muls_core i0 _ _ x y _ _ _ _ n w upW (cmulW i0 x y n hx hy hn) (rsureW i0 x y hx hy) (rtimesW (ptOf_on i0 x y) n hn)

theorem curveAdds_walk (i0 : Bool) (x0 y0 : Int) (i1 : Bool) (x1 y1 : Int) (w : World) (wx0 : (Lit.int .u64 x0).wf = true) (wy0 : (Lit.int .u64 y0).wf = true) (wx1 : (Lit.int .u64 x1).wf = true) (wy1 : (Lit.int .u64 y1).wf = true) :
    Calls Try.prog 4 #[.agg #[.bool i0, .int .u64 x0, .int .u64 y0], .agg #[.bool i1, .int .u64 x1, .int .u64 y1]] w fun e w' => e = .returned (.bool true) ∧ Below w.heap.size w w' := by
  obtain ⟨x0, rfl, hx0⟩ := word_of wx0
  obtain ⟨y0, rfl, hy0⟩ := word_of wy0
  obtain ⟨x1, rfl, hx1⟩ := word_of wx1
  obtain ⟨y1, rfl, hy1⟩ := word_of wy1
  have c1 := rsureW i0 x0 y0 hx0 hy0
  have c2 := cnegW i0 x0 y0 hx0 hy0
  have c3 := caddW i0 i1 x0 y0 x1 y1 hx0 hy0 hx1 hy1
  have c4 := rsureW i1 x1 y1 hx1 hy1
  have ha := ptOf_on i0 x0 y0
  generalize ptOf i0 x0 y0 = a at *
  generalize ptOf i1 x1 y1 = b at *
  have c5 := rsumW a b
  have hn := Ob.onC_neg ha
  have c6 := risW (ptI (Ob.cneg a)) (ptX (Ob.cneg a)) (ptY (Ob.cneg a)) (ptX_word _) (ptY_word _)
  rw [isPt_of hn] at c6
  have c7 := rwallW (Ob.cneg a) a
  have ei : ptI (Ob.cneg a) = ptI a := by cases a <;> rfl
  have ex : ptX (Ob.cneg a) = ptX a := by cases a <;> rfl
  have ew : wallOf (Ob.cneg a) a = true := by
    cases a with
    | none => rfl
    | some a =>
      show decide (a.1 = a.1 ∧ (0 - a.2) + a.2 = 0) = true
      exact decide_eq_true ⟨rfl, by generalize a.2 = q; grobner⟩
  rw [ew] at c7
  have ev : ptV (Ob.cneg a) = .agg #[.bool (ptI a), .int .u64 (ptX a : Nat), .int .u64 (ptY (Ob.cneg a) : Nat)] := by rw [← ei, ← ex]; rfl
  rw [ei, ex] at c6
  rw [ev] at c2 c7
  exact adds_core i0 i1 _ _ _ x0 y0 x1 y1 _ _ _ _ _ _ _ w upW c1 c2 c3 c4 c5 c6 c7
end Go.Proofs.Ytcgbemnmebgmjaa
