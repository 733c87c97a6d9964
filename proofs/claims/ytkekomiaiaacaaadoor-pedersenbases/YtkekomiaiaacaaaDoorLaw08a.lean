/-
  The walk of layer 8's statement on bases.
-/
import Derived.Test.YtkekomiaiaacaaaDoorJ6
import Derived.Test.YtkekomiaiaacaaaDoorRefF
namespace Go.Proofs.YtkekomiaiaacaaaDoor
open Go.RowKit Go.Proofs
set_option linter.unusedVariables false
set_option linter.unusedSimpArgs false
attribute [local go_sem ↓] Go.wp_at_zero Go.wp_at_succ
theorem equal_same (w : World) (x y : Int) : (Op.equalIn 10000 25 (.agg #[.int .u64 x, .int .u64 y]) (.agg #[.int .u64 x, .int .u64 y])).run Tryd.prog w = .ok true w := by
  rw [equal_Ed]; simp
set_option maxRecDepth 4000 in
set_option maxHeartbeats 4000000 in
theorem bases_core (n bx by_ y k : Int) (er : Value) (w : World) (hk : (er = .nilIface ∧ 0 ≤ k) ∨ (er = .iface 33 (.int .i64 2) ∧ ¬ 0 ≤ k))
   (cu : Calls Tryd.prog 8 #[] w fun e w' => e = .returned (.bool true) ∧ Below w.heap.size w w')
   (cb : ∀ W, Below w.heap.size w W → Calls Tryd.prog 9 #[.int .u64 n] W fun e w' => e = .returned (.tuple #[.agg #[.int .u64 bx, .int .u64 by_], er]) ∧ Below W.heap.size W w')
   (cf : ∀ W, Below w.heap.size w W → Calls Tryd.prog 10 #[.string ⟨#[112, 101, 100, 101, 114, 115, 101, 110]⟩, .int .u64 n] W fun e w' => e = .returned (.tuple #[.agg #[.int .u64 bx, .int .u64 by_], er]) ∧ Below W.heap.size W w')
   (cg : ∀ W, Calls Tryd.prog 11 #[.string ⟨#[112, 101, 100, 101, 114, 115, 101, 110]⟩, .int .u64 n] W fun e w' => e = .returned (.tuple #[.int .u64 y, .int .i64 k]) ∧ Below W.heap.size W w') :
    Calls Tryd.prog 3 #[.int .u64 n] w fun e w' => e = .returned (.bool true) ∧ Below w.heap.size w w' := by
  have ec := fun w => eql_code w 2 2
  have he := fun w => equal_same w bx by_
  go_enter Tryd.func3, Tryd.ntmps3
  go_upto_region 2 with (go_at_call 8; (with_reducible refine cu.mono ?_); rintro e w1 ⟨rfl, b1⟩)
  have hB1 : Below w.heap.size w w1 := b1
  clear b1 cu
  go_upto_region 3 with (go_at_call 9; (with_reducible refine (cb _ hB1).mono ?_); rintro e w2 ⟨rfl, b2⟩)
  have z1 := hB1.size
  have z2 := b2.size
  have t2 : Two (w2.alloc (.cells #[.int .u64 bx, .int .u64 by_] 25)) w2.heap.size (.int .u64 bx) (.int .u64 by_) := by (repeat' (first | (with_reducible first | assumption | exact Two.own (by with_reducible assumption) | refine Two.set ?_ _ _ | refine Own2.set ?_ _ _ | refine Two.drew ?_ | refine Two.drewN ?_ _ | refine Own2.drew ?_ | refine Own2.drewN ?_ _ | (refine Two.new ?_; simp only [szs]; done) | (refine Own2.new ?_; simp only [szs]; done) | refine Two.alloc ?_ _ | refine Own2.alloc ?_ _ | refine Two.far ?_ ?_ _ _ | refine Own2.far ?_ ?_ _ _ | refine Two.via (by with_reducible assumption) ?_ ?_ | refine Own2.via (by with_reducible assumption) ?_ ?_) | omega | (simp only [szs]; omega)))
  have hB2 : Below w.heap.size w (w2.alloc (.cells #[.int .u64 bx, .int .u64 by_] 25)) := by (repeat' (first | (with_reducible first | exact Below.refl _ _ | assumption | refine Below.alloc ?_ ?_ _ | refine Below.drew ?_ | refine below_drewN ?_ _ | refine Below.setCell ?_ ?_ _ | refine below_via (by with_reducible assumption) ?_ ?_) | omega | (simp only [szs]; omega) | (simp only [szs] at *; omega)))
  generalize (w2.alloc (.cells #[.int .u64 bx, .int .u64 by_] 25)) = V at *
  generalize w2.heap.size = bb at *
  clear b2 z1 z2 hB1 cb
  go_upto_region 4 with (go_at_call 10; (with_reducible refine (cf _ hB2).mono ?_); rintro e w3 ⟨rfl, b3⟩)
  have z1 := hB2.size
  have z2 := b3.size
  have lb := t2.lt
  have t3 : Two (w3.alloc (.cells #[.int .u64 bx, .int .u64 by_] 25)) bb (.int .u64 bx) (.int .u64 by_) := by (repeat' (first | (with_reducible first | assumption | exact Two.own (by with_reducible assumption) | refine Two.set ?_ _ _ | refine Own2.set ?_ _ _ | refine Two.drew ?_ | refine Two.drewN ?_ _ | refine Own2.drew ?_ | refine Own2.drewN ?_ _ | (refine Two.new ?_; simp only [szs]; done) | (refine Own2.new ?_; simp only [szs]; done) | refine Two.alloc ?_ _ | refine Own2.alloc ?_ _ | refine Two.far ?_ ?_ _ _ | refine Own2.far ?_ ?_ _ _ | refine Two.via (by with_reducible assumption) ?_ ?_ | refine Own2.via (by with_reducible assumption) ?_ ?_) | omega | (simp only [szs]; omega)))
  have t4 : Two (w3.alloc (.cells #[.int .u64 bx, .int .u64 by_] 25)) w3.heap.size (.int .u64 bx) (.int .u64 by_) := by (repeat' (first | (with_reducible first | assumption | exact Two.own (by with_reducible assumption) | refine Two.set ?_ _ _ | refine Own2.set ?_ _ _ | refine Two.drew ?_ | refine Two.drewN ?_ _ | refine Own2.drew ?_ | refine Own2.drewN ?_ _ | (refine Two.new ?_; simp only [szs]; done) | (refine Own2.new ?_; simp only [szs]; done) | refine Two.alloc ?_ _ | refine Own2.alloc ?_ _ | refine Two.far ?_ ?_ _ _ | refine Own2.far ?_ ?_ _ _ | refine Two.via (by with_reducible assumption) ?_ ?_ | refine Own2.via (by with_reducible assumption) ?_ ?_) | omega | (simp only [szs]; omega)))
  have hB3 : Below w.heap.size w (w3.alloc (.cells #[.int .u64 bx, .int .u64 by_] 25)) := by (repeat' (first | (with_reducible first | exact Below.refl _ _ | assumption | refine Below.alloc ?_ ?_ _ | refine Below.drew ?_ | refine below_drewN ?_ _ | refine Below.setCell ?_ ?_ _ | refine below_via (by with_reducible assumption) ?_ ?_) | omega | (simp only [szs]; omega) | (simp only [szs] at *; omega)))
  generalize (w3.alloc (.cells #[.int .u64 bx, .int .u64 by_] 25)) = V3 at *
  generalize w3.heap.size = bc at *
  clear b3 z1 z2 hB2 t2 lb cf
  go_upto_region 5 with (go_at_call 11; (with_reducible refine (cg _).mono ?_); rintro e w4 ⟨rfl, b4⟩)
  have z1 := hB3.size
  have z2 := b4.size
  have l3 := t3.lt
  have l4 := t4.lt
  have t5 : Two w4 bb (.int .u64 bx) (.int .u64 by_) := by (repeat' (first | (with_reducible first | assumption | exact Two.own (by with_reducible assumption) | refine Two.set ?_ _ _ | refine Own2.set ?_ _ _ | refine Two.drew ?_ | refine Two.drewN ?_ _ | refine Own2.drew ?_ | refine Own2.drewN ?_ _ | (refine Two.new ?_; simp only [szs]; done) | (refine Own2.new ?_; simp only [szs]; done) | refine Two.alloc ?_ _ | refine Own2.alloc ?_ _ | refine Two.far ?_ ?_ _ _ | refine Own2.far ?_ ?_ _ _ | refine Two.via (by with_reducible assumption) ?_ ?_ | refine Own2.via (by with_reducible assumption) ?_ ?_) | omega | (simp only [szs]; omega)))
  have t6 : Two w4 bc (.int .u64 bx) (.int .u64 by_) := by (repeat' (first | (with_reducible first | assumption | exact Two.own (by with_reducible assumption) | refine Two.set ?_ _ _ | refine Own2.set ?_ _ _ | refine Two.drew ?_ | refine Two.drewN ?_ _ | refine Own2.drew ?_ | refine Own2.drewN ?_ _ | (refine Two.new ?_; simp only [szs]; done) | (refine Own2.new ?_; simp only [szs]; done) | refine Two.alloc ?_ _ | refine Own2.alloc ?_ _ | refine Two.far ?_ ?_ _ _ | refine Own2.far ?_ ?_ _ _ | refine Two.via (by with_reducible assumption) ?_ ?_ | refine Own2.via (by with_reducible assumption) ?_ ?_) | omega | (simp only [szs]; omega)))
  have hB4 : Below w.heap.size w w4 := by (repeat' (first | (with_reducible first | exact Below.refl _ _ | assumption | refine Below.alloc ?_ ?_ _ | refine Below.drew ?_ | refine below_drewN ?_ _ | refine Below.setCell ?_ ?_ _ | refine below_via (by with_reducible assumption) ?_ ?_) | omega | (simp only [szs]; omega) | (simp only [szs] at *; omega)))
  clear b4 z1 z2 hB3 t3 t4 l3 l4 cg
  have ⟨d1, d2, d3, d4, d5⟩ := t5
  have ⟨e1, e2, e3, e4, e5⟩ := t6
  have zB := hB4.size
  rcases hk with ⟨rfl, hk⟩ | ⟨rfl, hk⟩
  · go_quiet (fail)
    go_wp2
    go_ret
    exact ⟨rfl, by (repeat' (first | (with_reducible first | exact Below.refl _ _ | assumption | refine Below.alloc ?_ ?_ _ | refine Below.drew ?_ | refine below_drewN ?_ _ | refine Below.setCell ?_ ?_ _ | refine below_via (by with_reducible assumption) ?_ ?_) | omega | (simp only [szs]; omega) | (simp only [szs] at *; omega)))⟩
  · go_quiet (fail)
    go_wp2
    go_ret
    exact ⟨by rw [decide_eq_false (show ¬ 0 ≤ k by omega)]; rfl, by (repeat' (first | (with_reducible first | exact Below.refl _ _ | assumption | refine Below.alloc ?_ ?_ _ | refine Below.drew ?_ | refine below_drewN ?_ _ | refine Below.setCell ?_ ?_ _ | refine below_via (by with_reducible assumption) ?_ ?_) | omega | (simp only [szs]; omega) | (simp only [szs] at *; omega)))⟩
theorem pedersenBases_walk (a0 : Int) (w : World) (w0 : (Lit.int .u64 a0).wf = true) (hL : TabOk w ∧ Tabs w) :
    Calls Tryd.prog 3 #[.int .u64 a0] w fun e w' => e = .returned (.bool true) ∧ Below w.heap.size w w' := by
  obtain ⟨n, rfl, hn⟩ := word_of w0
  obtain ⟨hT, hTs⟩ := hL
  have cb := fun (W : World) (h : Below w.heap.size w W) => pbaseW n hn W (hT.below h hT.lt) (hTs.below h hTs.lt)
  have cf := fun (W : World) (h : Below w.heap.size w W) => efindW pedS pedS_size n hn W (hT.below h hT.lt) (hTs.below h hTs.lt)
  have cg := gfoundW pedS pedS_size n hn
  cases hf : Ob.firstG (findY pedS n) 128 0 with
  | none =>
    rw [hf] at cb cf cg
    exact bases_core n 0 0 0 (-1) _ w (Or.inr ⟨rfl, by decide⟩) (up8W w hT hTs) cb cf cg
  | some k =>
    rw [hf] at cb cf cg
    exact bases_core n _ _ _ (k : Nat) _ w (Or.inl ⟨rfl, by omega⟩) (up8W w hT hTs) cb cf cg
end Go.Proofs.YtkekomiaiaacaaaDoor
