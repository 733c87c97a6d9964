/-
  The walk of layer 9's statement that messages stay.
-/
import Derived.Test.YtdhbkhmknnlmnaaDoorJ11
import Derived.Test.YtdhbkhmknnlmnaaDoorStrB
namespace Go.Proofs.YtdhbkhmknnlmnaaDoor
open Go.RowKit Go.Proofs
set_option linter.unusedVariables false
set_option linter.unusedSimpArgs false
attribute [local go_sem ↓] Go.wp_at_zero Go.wp_at_succ
attribute [local irreducible] Ob.gmul Ob.gadd
theorem sstays_out (a : Option Addr) (m c : Nat) (h : 2000 < m) (k n : Int) (w : World)
   (cu : Calls Tryd.prog 9 #[] w fun e w' => e = .returned (.bool true) ∧ Below w.heap.size w w') :
    Calls Tryd.prog 8 #[.int .u64 k, .int .u64 n, .slice a m c] w fun e w' => e = .returned (.bool true) ∧ Below w.heap.size w w' := by
  have h1 : (2000 : Int) < (m : Int) := by omega
  clear h
  go_enter Tryd.func8, Tryd.ntmps8
  go_wp2_with (go_at_call 9; (with_reducible refine cu.mono ?_); rintro e w1 ⟨rfl, b1⟩)
  go_ret
  exact ⟨rfl, by (repeat' (first | (with_reducible first | exact Below.refl _ _ | assumption | refine Below.alloc ?_ ?_ _ | refine Below.drew ?_ | refine below_drewN ?_ _ | refine Below.setCell ?_ ?_ _ | refine below_via (by with_reducible assumption) ?_ ?_) | omega | (simp only [szs]; omega) | (simp only [szs] at *; omega)))⟩
set_option maxRecDepth 8000 in
set_option maxHeartbeats 8000000 in
theorem sstays_core (a : Option Addr) (m c : Nat) (hm : m ≤ 2000) (u : Nat → Nat) (k n px py ax ay z : Int) (er ep fr : Value) (w : World) (hS : SrcY w.heap.size w a m u)
   (ho : (er = .iface 31 (.int .i64 1)) ∨ (er = .nilIface ∧ fr = .nilIface))
   (cu : Calls Tryd.prog 9 #[] w fun e w' => e = .returned (.bool true) ∧ Below w.heap.size w w')
   (cs : ∀ W g cap, Below w.heap.size w W → Bys W g 0 m u → Calls Tryd.prog 14 #[.int .u64 k, .int .u64 n, .slice (some ⟨g, 0, none⟩) m cap] W fun e w' => e = .returned (.tuple #[.agg #[.int .u64 ax, .int .u64 ay, .int .u64 z], er]) ∧ Below W.heap.size W w')
   (cp : ∀ W, Below w.heap.size w W → Calls Tryd.prog 10 #[.int .u64 k] W fun e w' => e = .returned (.tuple #[.agg #[.int .u64 px, .int .u64 py], ep]) ∧ Below W.heap.size W w')
   (cv : ∀ W g cap, Below w.heap.size w W → Bys W g 0 m u → Calls Tryd.prog 18 #[.agg #[.int .u64 px, .int .u64 py], .slice (some ⟨g, 0, none⟩) m cap, .agg #[.int .u64 ax, .int .u64 ay, .int .u64 z]] W fun e w' => e = .returned fr ∧ Below W.heap.size W w') :
    Calls Tryd.prog 8 #[.int .u64 k, .int .u64 n, .slice a m c] w fun e w' => e = .returned (.bool true) ∧ Below w.heap.size w w' := by
  have h1 : ¬ (2000 : Int) < (m : Int) := by omega
  have hS' : Hid (SrcY w.heap.size w a m u) := hS
  have ho' : Hid ((er = .iface 31 (.int .i64 1)) ∨ (er = .nilIface ∧ fr = .nilIface)) := ho
  obtain ⟨ST, hST⟩ : ∃ ST, Hid (strOfNums (nums u m) = ST) := ⟨_, rfl⟩
  clear hS ho
  go_enter Tryd.func8, Tryd.ntmps8
  go_upto_region 4 with (go_at_call 9; (with_reducible refine (cu).mono ?_); rintro e w1 ⟨rfl, b1⟩; have z1 := b1.size; (try simp only [szs] at z1))
  have hown0 : (w1.alloc (.cells #[] 5)).ownsRow w1.heap.size 5 1 (.slice (some ⟨w1.heap.size, 0, none⟩) 0 0) 0 [] := World.ownsRow_made w1 #[] 0 (Nat.le_refl _) (by decide) rfl
  have hBa : Below w.heap.size w (w1.alloc (.cells #[] 5)) := b1.alloc z1 _
  have hS1 := (hS'.out.below hBa).plain
  go_upto_region 5 with (at_builtin; refine wpList_copyB rfl _ _ rfl w1.heap.size _ rfl hown0 (by simp) a m c u rfl hS1 (by omega) ?_; intro g oc W1 hown1 hb1)
  have hg := (hown1.lt g rfl)
  have hB : Below w.heap.size w W1 := below_via hb1 hBa z1
  have yo : Hid (Bys W1 g 0 m u) := bys_of_row hown1
  clear hown0 hown1 hb1 hBa hS1 b1 cu z1
  have zB := hB.size
  have lg := hg.2
  clear hg
  go_upto_region 6 with (go_at_call 14; (with_reducible refine (cs _ _ _ hB yo.out).mono ?_); rintro e w2 ⟨rfl, b2⟩; have z2 := b2.size; (try simp only [szs] at z2))
  have ts : Three (w2.alloc (.cells #[.int .u64 ax, .int .u64 ay, .int .u64 z] 36)) w2.heap.size (.int .u64 ax) (.int .u64 ay) (.int .u64 z) := by (repeat' (first | (with_reducible first | assumption | exact Three.own (by with_reducible assumption) | refine Three.set ?_ _ _ _ | refine Own3.set ?_ _ _ _ | refine Three.drew ?_ | refine Three.drewN ?_ _ | refine Own3.drew ?_ | refine Own3.drewN ?_ _ | (refine Three.new ?_; simp only [szs]; done) | (refine Own3.new ?_; simp only [szs]; done) | refine Three.alloc ?_ _ | refine Own3.alloc ?_ _ | refine Three.far ?_ ?_ _ _ | refine Own3.far ?_ ?_ _ _ | refine Three.via (by with_reducible assumption) ?_ ?_ | refine Own3.via (by with_reducible assumption) ?_ ?_) | omega | (simp only [szs]; omega)))
  have yo2 : Hid (Bys (w2.alloc (.cells #[.int .u64 ax, .int .u64 ay, .int .u64 z] 36)) g 0 m u) := (yo.out.below b2 lg).alloc _
  have hB2 : Hid (Below w.heap.size w (w2.alloc (.cells #[.int .u64 ax, .int .u64 ay, .int .u64 z] 36))) := by show Below _ _ _; (repeat' (first | (with_reducible first | exact Below.refl _ _ | assumption | refine Below.alloc ?_ ?_ _ | refine Below.drew ?_ | refine below_drewN ?_ _ | refine Below.setCell ?_ ?_ _ | refine below_via (by with_reducible assumption) ?_ ?_) | omega | (simp only [szs]; omega) | (simp only [szs] at *; omega)))
  generalize (w2.alloc (.cells #[.int .u64 ax, .int .u64 ay, .int .u64 z] 36)) = V at *
  generalize w2.heap.size = bs at *
  clear b2 z2 cs hB zB yo lg
  have hB := hB2.out
  clear hB2
  have zB := hB.size
  have ls := ts.lt
  have lg := yo2.out.lt
  go_upto_region 7 with (go_at_call 10; (with_reducible refine (cp _ hB).mono ?_); rintro e w3 ⟨rfl, b3⟩; have z3 := b3.size; (try simp only [szs] at z3))
  have ts2 : Three (w3.alloc (.cells #[.int .u64 px, .int .u64 py] 25)) bs (.int .u64 ax) (.int .u64 ay) (.int .u64 z) := by (repeat' (first | (with_reducible first | assumption | exact Three.own (by with_reducible assumption) | refine Three.set ?_ _ _ _ | refine Own3.set ?_ _ _ _ | refine Three.drew ?_ | refine Three.drewN ?_ _ | refine Own3.drew ?_ | refine Own3.drewN ?_ _ | (refine Three.new ?_; simp only [szs]; done) | (refine Own3.new ?_; simp only [szs]; done) | refine Three.alloc ?_ _ | refine Own3.alloc ?_ _ | refine Three.far ?_ ?_ _ _ | refine Own3.far ?_ ?_ _ _ | refine Three.via (by with_reducible assumption) ?_ ?_ | refine Own3.via (by with_reducible assumption) ?_ ?_) | omega | (simp only [szs]; omega)))
  have tp : Two (w3.alloc (.cells #[.int .u64 px, .int .u64 py] 25)) w3.heap.size (.int .u64 px) (.int .u64 py) := by (repeat' (first | (with_reducible first | assumption | exact Two.own (by with_reducible assumption) | refine Two.set ?_ _ _ | refine Own2.set ?_ _ _ | refine Two.drew ?_ | refine Two.drewN ?_ _ | refine Own2.drew ?_ | refine Own2.drewN ?_ _ | (refine Two.new ?_; simp only [szs]; done) | (refine Own2.new ?_; simp only [szs]; done) | refine Two.alloc ?_ _ | refine Own2.alloc ?_ _ | refine Two.far ?_ ?_ _ _ | refine Own2.far ?_ ?_ _ _ | refine Two.via (by with_reducible assumption) ?_ ?_ | refine Own2.via (by with_reducible assumption) ?_ ?_) | omega | (simp only [szs]; omega)))
  have yo : Hid (Bys (w3.alloc (.cells #[.int .u64 px, .int .u64 py] 25)) g 0 m u) := (yo2.out.below b3 lg).alloc _
  have hB2 : Hid (Below w.heap.size w (w3.alloc (.cells #[.int .u64 px, .int .u64 py] 25))) := by show Below _ _ _; (repeat' (first | (with_reducible first | exact Below.refl _ _ | assumption | refine Below.alloc ?_ ?_ _ | refine Below.drew ?_ | refine below_drewN ?_ _ | refine Below.setCell ?_ ?_ _ | refine below_via (by with_reducible assumption) ?_ ?_) | omega | (simp only [szs]; omega) | (simp only [szs] at *; omega)))
  have n1 : bs ≠ w3.heap.size := by omega
  have n2 : w3.heap.size ≠ bs := by omega
  generalize (w3.alloc (.cells #[.int .u64 px, .int .u64 py] 25)) = V2 at *
  generalize w3.heap.size = bp at *
  clear b3 z3 cp hB zB yo2 lg ts ls
  have hB := hB2.out
  clear hB2
  have zB := hB.size
  have ⟨d1, d2, d3, d4, d5⟩ := tp
  have ⟨e1, e2, e3, e4, e5, e6, e7⟩ := ts2
  go_upto_region 8 with (go_at_call 18; (with_reducible refine (cv _ _ _ hB yo.out).mono ?_); rintro e w4 ⟨rfl, b4⟩; have z4 := b4.size; (try simp only [szs] at z4))
  have r1 := bys_str g 0 m oc u w4 (yo.out.below b4 yo.out.lt)
  have hB4 : Below w.heap.size w w4 := by (repeat' (first | (with_reducible first | exact Below.refl _ _ | assumption | refine Below.alloc ?_ ?_ _ | refine Below.drew ?_ | refine below_drewN ?_ _ | refine Below.setCell ?_ ?_ _ | refine below_via (by with_reducible assumption) ?_ ?_) | omega | (simp only [szs]; omega) | (simp only [szs] at *; omega)))
  have r2 := src_str (hS'.out.below hB4).plain c
  rw [hST.out] at r1 r2
  rcases ho'.out with rfl | ⟨rfl, rfl⟩
  · go_wp2
    go_ret
    exact ⟨rfl, by (repeat' (first | (with_reducible first | exact Below.refl _ _ | assumption | refine Below.alloc ?_ ?_ _ | refine Below.drew ?_ | refine below_drewN ?_ _ | refine Below.setCell ?_ ?_ _ | refine below_via (by with_reducible assumption) ?_ ?_) | omega | (simp only [szs]; omega) | (simp only [szs] at *; omega)))⟩
  · go_wp2
    go_ret
    exact ⟨rfl, by (repeat' (first | (with_reducible first | exact Below.refl _ _ | assumption | refine Below.alloc ?_ ?_ _ | refine Below.drew ?_ | refine below_drewN ?_ _ | refine Below.setCell ?_ ?_ _ | refine below_via (by with_reducible assumption) ?_ ?_) | omega | (simp only [szs]; omega) | (simp only [szs] at *; omega)))⟩
theorem schnorrStays_walk (a0 a1 : Int) (a2 : Option Addr) (len2 cap2 : Nat) (z2 : List Int) (w : World) (w0 : (Lit.int .u64 a0).wf = true) (w1 : (Lit.int .u64 a1).wf = true) (w2 : IsRow .u8 w a2 len2 cap2 z2) (hT : Tabs w) :
    Calls Tryd.prog 8 #[.int .u64 a0, .int .u64 a1, .slice a2 len2 cap2] w fun e w' => e = .returned (.bool true) ∧ Below w.heap.size w w' := by
  obtain ⟨k, rfl, hk⟩ := word_of w0
  obtain ⟨n, rfl, hn⟩ := word_of w1
  obtain ⟨u, _, _, hu, hs, _, _⟩ := srcY_of_isRow w2
  have cu := up9W w hT
  by_cases h : 2000 < len2
  · exact sstays_out a2 len2 cap2 h _ _ w cu
  have lm : len2 ≤ 2000 := by omega
  cases h1 : isKey k && isKey n with
  | true =>
    obtain ⟨hk1, hn1⟩ := Bool.and_eq_true_iff.1 h1
    have cv := fun (W : World) (g cap : Nat) (hB : Below w.heap.size w W) (hy : Bys W g 0 len2 u) => sverW (Ob.gmul Ob.gGen k).1.val (Ob.gmul Ob.gGen k).2.val (Ob.gmul Ob.gGen n).1.val (Ob.gmul Ob.gGen n).2.val (sigN k n u len2) (Ob.G_word _) (Ob.G_word _) (Ob.G_word _) (Ob.G_word _) (some ⟨g, 0, none⟩) len2 cap (by omega) u hu W (hT.below hB hT.lt) (SrcY.of hy)
    rw [verB_self k n hk1 u len2] at cv
    exact sstays_core a2 len2 cap2 lm u k n _ _ _ _ _ _ _ _ w hs (Or.inr ⟨rfl, rfl⟩) cu
      (fun W g cap hB hy => ssignW k n hk1 hn1 (some ⟨g, 0, none⟩) len2 cap (by omega) u hu W (hT.below hB hT.lt) (SrcY.of hy)) (fun W _ => spointW k hk1 W) cv
  | false =>
    have cs := fun (W : World) (g cap : Nat) (_ : Below w.heap.size w W) (_ : Bys W g 0 len2 u) => ssignNo k n h1 (.slice (some ⟨g, 0, none⟩) len2 cap) W
    cases hk1 : isKey k with
    | true =>
      exact sstays_core a2 len2 cap2 lm u k n _ _ _ _ _ _ _ _ w hs (Or.inl rfl) cu cs (fun W _ => spointW k hk1 W)
        (fun W g cap hB hy => sverW (Ob.gmul Ob.gGen k).1.val (Ob.gmul Ob.gGen k).2.val 0 0 0 (Ob.G_word _) (Ob.G_word _) (by decide) (by decide) (some ⟨g, 0, none⟩) len2 cap (by omega) u hu W (hT.below hB hT.lt) (SrcY.of hy))
    | false =>
      exact sstays_core a2 len2 cap2 lm u k n _ _ _ _ _ _ _ _ w hs (Or.inl rfl) cu cs (fun W _ => spointNo k hk1 W)
        (fun W g cap hB hy => sverW 0 0 0 0 0 (by decide) (by decide) (by decide) (by decide) (some ⟨g, 0, none⟩) len2 cap (by omega) u hu W (hT.below hB hT.lt) (SrcY.of hy))
end Go.Proofs.YtdhbkhmknnlmnaaDoor
