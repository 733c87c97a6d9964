/-
  The walk of layer 9's own statement: signatures hold, also turned ones; two of one nonce tell the key.
-/
import Derived.Test.YtdhbkhmknnlmnaaDoorJ11
namespace Go.Proofs.YtdhbkhmknnlmnaaDoor
open Go.RowKit Go.Proofs
set_option linter.unusedVariables false
set_option linter.unusedSimpArgs false
attribute [local go_sem ↓] Go.wp_at_zero Go.wp_at_succ
attribute [local irreducible] Ob.gmul Ob.gadd
set_option maxRecDepth 8000 in
set_option maxHeartbeats 8000000 in
theorem sholds_out (a b : Option Addr) (m c m2 c2 : Nat) (k n t px py ax ay z : Int) (er er2 : Value) (w : World)
   (ho : (er = .iface 31 (.int .i64 1)) ∨ (er = .nilIface ∧ er2 = .iface 31 (.int .i64 1)) ∨ (er = .nilIface ∧ er2 = .nilIface ∧ (2000 : Int) < (m : Int)) ∨ (er = .nilIface ∧ er2 = .nilIface ∧ ¬ (2000 : Int) < (m : Int) ∧ (2000 : Int) < (m2 : Int)))
   (cu : Calls Tryd.prog 9 #[] w fun e w' => e = .returned (.bool true) ∧ Below w.heap.size w w')
   (cp : ∀ W, Below w.heap.size w W → Calls Tryd.prog 10 #[.int .u64 k] W fun e w' => e = .returned (.tuple #[.agg #[.int .u64 px, .int .u64 py], er]) ∧ Below W.heap.size W w')
   (cs : ∀ W, Below w.heap.size w W → Calls Tryd.prog 14 #[.int .u64 k, .int .u64 n, .slice a m c] W fun e w' => e = .returned (.tuple #[.agg #[.int .u64 ax, .int .u64 ay, .int .u64 z], er2]) ∧ Below W.heap.size W w') :
    Calls Tryd.prog 7 #[.int .u64 k, .int .u64 n, .int .u64 t, .slice a m c, .slice b m2 c2] w fun e w' => e = .returned (.bool true) ∧ Below w.heap.size w w' := by
  have ho' := ho
  have hh : Hid ((er = .iface 31 (.int .i64 1)) ∨ (er = .nilIface ∧ er2 = .iface 31 (.int .i64 1)) ∨ (er = .nilIface ∧ er2 = .nilIface ∧ (2000 : Int) < (m : Int)) ∨ (er = .nilIface ∧ er2 = .nilIface ∧ ¬ (2000 : Int) < (m : Int) ∧ (2000 : Int) < (m2 : Int))) := ho'
  clear ho' ho
  go_enter Tryd.func7, Tryd.ntmps7
  go_upto_region 4 with (first | (go_at_call 9; (with_reducible refine (cu).mono ?_); rintro e w1 ⟨rfl, b1⟩; have z1 := b1.size; (try simp only [szs] at z1)) | (go_at_call 10; (with_reducible refine (cp _ b1).mono ?_); rintro e w2 ⟨rfl, b2⟩; have z2 := b2.size; (try simp only [szs] at z2)) | (go_at_call 14; (with_reducible refine (cs _ (by (repeat' (first | (with_reducible first | exact Below.refl _ _ | assumption | refine Below.alloc ?_ ?_ _ | refine Below.drew ?_ | refine below_drewN ?_ _ | refine Below.setCell ?_ ?_ _ | refine below_via (by with_reducible assumption) ?_ ?_) | omega | (simp only [szs]; omega) | (simp only [szs] at *; omega))))).mono ?_); rintro e w3 ⟨rfl, b3⟩; have z3 := b3.size; (try simp only [szs] at z3)))
  rcases hh.out with rfl | ⟨rfl, rfl⟩ | ⟨rfl, rfl, h1⟩ | ⟨rfl, rfl, h1, h2⟩
  all_goals clear hh
  · go_wp2
    go_ret
    exact ⟨rfl, by (repeat' (first | (with_reducible first | exact Below.refl _ _ | assumption | refine Below.alloc ?_ ?_ _ | refine Below.drew ?_ | refine below_drewN ?_ _ | refine Below.setCell ?_ ?_ _ | refine below_via (by with_reducible assumption) ?_ ?_) | omega | (simp only [szs]; omega) | (simp only [szs] at *; omega)))⟩
  · go_wp2
    go_ret
    exact ⟨rfl, by (repeat' (first | (with_reducible first | exact Below.refl _ _ | assumption | refine Below.alloc ?_ ?_ _ | refine Below.drew ?_ | refine below_drewN ?_ _ | refine Below.setCell ?_ ?_ _ | refine below_via (by with_reducible assumption) ?_ ?_) | omega | (simp only [szs]; omega) | (simp only [szs] at *; omega)))⟩
  · go_wp2
    go_ret
    exact ⟨rfl, by (repeat' (first | (with_reducible first | exact Below.refl _ _ | assumption | refine Below.alloc ?_ ?_ _ | refine Below.drew ?_ | refine below_drewN ?_ _ | refine Below.setCell ?_ ?_ _ | refine below_via (by with_reducible assumption) ?_ ?_) | omega | (simp only [szs]; omega) | (simp only [szs] at *; omega)))⟩
  · go_wp2
    go_ret
    exact ⟨rfl, by (repeat' (first | (with_reducible first | exact Below.refl _ _ | assumption | refine Below.alloc ?_ ?_ _ | refine Below.drew ?_ | refine below_drewN ?_ _ | refine Below.setCell ?_ ?_ _ | refine below_via (by with_reducible assumption) ?_ ?_) | omega | (simp only [szs]; omega) | (simp only [szs] at *; omega)))⟩
/-- What the two turned ones are: no turned key; or both, and what is signed by it holds. -/
def TurnsBoth (er er2 : Value) : Prop := (∃ cz : Int, er = .iface 31 (.int .i64 cz)) ∨ (er = .nilIface ∧ er2 = .nilIface)
set_option maxRecDepth 8000 in
set_option maxHeartbeats 16000000 in
theorem sholds_core (a b : Option Addr) (m c m2 c2 : Nat) (hm : m ≤ 2000) (hm2 : m2 ≤ 2000) (u v : Nat → Nat) (k n t px py ax ay z z2 z3 xq yq ys zs d zz pw nv qx qy : Int) (er er2 : Value) (w : World)
   (ha : SrcY w.heap.size w a m u) (hb : SrcY w.heap.size w b m2 v) (hT : TurnsBoth er er2)
   (cu : Calls Tryd.prog 9 #[] w fun e w' => e = .returned (.bool true) ∧ Below w.heap.size w w')
   (cp : ∀ W, Below w.heap.size w W → Calls Tryd.prog 10 #[.int .u64 k] W fun e w' => e = .returned (.tuple #[.agg #[.int .u64 px, .int .u64 py], .nilIface]) ∧ Below W.heap.size W w')
   (cs : ∀ W, Below w.heap.size w W → Calls Tryd.prog 14 #[.int .u64 k, .int .u64 n, .slice a m c] W fun e w' => e = .returned (.tuple #[.agg #[.int .u64 ax, .int .u64 ay, .int .u64 z], .nilIface]) ∧ Below W.heap.size W w')
   (cs2 : ∀ W, Below w.heap.size w W → Calls Tryd.prog 14 #[.int .u64 k, .int .u64 n, .slice b m2 c2] W fun e w' => e = .returned (.tuple #[.agg #[.int .u64 ax, .int .u64 ay, .int .u64 z2], .nilIface]) ∧ Below W.heap.size W w')
   (cv : ∀ W, Below w.heap.size w W → Calls Tryd.prog 18 #[.agg #[.int .u64 px, .int .u64 py], .slice a m c, .agg #[.int .u64 ax, .int .u64 ay, .int .u64 z]] W fun e w' => e = .returned .nilIface ∧ Below W.heap.size W w')
   (cq : ∀ W, SrcY W.heap.size W a m u → Calls Tryd.prog 15 #[.agg #[.int .u64 ax, .int .u64 ay], .agg #[.int .u64 px, .int .u64 py], .slice a m c] W fun e w' => e = .returned (.int .u64 xq) ∧ Below W.heap.size W w')
   (cq2 : ∀ W, SrcY W.heap.size W b m2 v → Calls Tryd.prog 15 #[.agg #[.int .u64 ax, .int .u64 ay], .agg #[.int .u64 px, .int .u64 py], .slice b m2 c2] W fun e w' => e = .returned (.int .u64 yq) ∧ Below W.heap.size W w')
   (wy : IntKind.u64.wrap (72057593894066549 - yq) = ys) (wz : IntKind.u64.wrap (72057593894066549 - z2) = zs)
   (ca : ∀ w, Calls Tryd.prog 16 #[.int .u64 72057593894066549, .int .u64 xq, .int .u64 ys] w fun e w' => e = .returned (.int .u64 d) ∧ w = w')
   (ca2 : ∀ w, Calls Tryd.prog 16 #[.int .u64 72057593894066549, .int .u64 z, .int .u64 zs] w fun e w' => e = .returned (.int .u64 zz) ∧ w = w')
   (cw : ∀ w, Calls Tryd.prog 23 #[.int .u64 72057593894066549, .int .u64 d, .int .u64 72057593894066547] w fun e w' => e = .returned (.int .u64 pw) ∧ w = w')
   (cm : xq ≠ yq → ∀ w, Calls Tryd.prog 17 #[.int .u64 72057593894066549, .int .u64 zz, .int .u64 pw] w fun e w' => e = .returned (.int .u64 k) ∧ w = w')
   (ct : ∀ w, Calls Tryd.prog 21 #[.int .u64 k, .int .u64 t] w fun e w' => e = .returned (.tuple #[.int .u64 nv, er]) ∧ w = w')
   (cg : ∀ w, Calls Tryd.prog 22 #[.agg #[.int .u64 px, .int .u64 py], .int .u64 t] w fun e w' => e = .returned (.tuple #[.agg #[.int .u64 qx, .int .u64 qy], er2]) ∧ Below w.heap.size w w')
   (cs3 : er = .nilIface → ∀ W, Below w.heap.size w W → Calls Tryd.prog 14 #[.int .u64 nv, .int .u64 n, .slice a m c] W fun e w' => e = .returned (.tuple #[.agg #[.int .u64 ax, .int .u64 ay, .int .u64 z3], .nilIface]) ∧ Below W.heap.size W w')
   (cv3 : er = .nilIface → ∀ W, Below w.heap.size w W → Calls Tryd.prog 18 #[.agg #[.int .u64 qx, .int .u64 qy], .slice a m c, .agg #[.int .u64 ax, .int .u64 ay, .int .u64 z3]] W fun e w' => e = .returned .nilIface ∧ Below W.heap.size W w') :
    Calls Tryd.prog 7 #[.int .u64 k, .int .u64 n, .int .u64 t, .slice a m c, .slice b m2 c2] w fun e w' => e = .returned (.bool true) ∧ Below w.heap.size w w' := by
  have h1 : ¬ (2000 : Int) < (m : Int) := by omega
  have h2 : ¬ (2000 : Int) < (m2 : Int) := by omega
  have he := fun w => equal_same9 w ax ay
  have ha' : Hid (SrcY w.heap.size w a m u) := ha
  have hb' : Hid (SrcY w.heap.size w b m2 v) := hb
  have hT' : Hid (TurnsBoth er er2) := hT
  have cm' : Hid (xq ≠ yq → ∀ w, Calls Tryd.prog 17 #[.int .u64 72057593894066549, .int .u64 zz, .int .u64 pw] w fun e w' => e = .returned (.int .u64 k) ∧ w = w') := cm
  have cs3' : Hid (er = .nilIface → ∀ W, Below w.heap.size w W → Calls Tryd.prog 14 #[.int .u64 nv, .int .u64 n, .slice a m c] W fun e w' => e = .returned (.tuple #[.agg #[.int .u64 ax, .int .u64 ay, .int .u64 z3], .nilIface]) ∧ Below W.heap.size W w') := cs3
  have cv3' : Hid (er = .nilIface → ∀ W, Below w.heap.size w W → Calls Tryd.prog 18 #[.agg #[.int .u64 qx, .int .u64 qy], .slice a m c, .agg #[.int .u64 ax, .int .u64 ay, .int .u64 z3]] W fun e w' => e = .returned .nilIface ∧ Below W.heap.size W w') := cv3
  clear ha hb hT cm cs3 cv3
  go_enter Tryd.func7, Tryd.ntmps7
  go_upto_region 3 with (first | (go_at_call 9; (with_reducible refine (cu).mono ?_); rintro e w1 ⟨rfl, b1⟩; have z1 := b1.size; (try simp only [szs] at z1)) | (go_at_call 10; (with_reducible refine (cp _ b1).mono ?_); rintro e w2 ⟨rfl, b2⟩; have z2 := b2.size; (try simp only [szs] at z2)))
  have tp : Two (w2.alloc (.cells #[.int .u64 px, .int .u64 py] 25)) w2.heap.size (.int .u64 px) (.int .u64 py) := by (repeat' (first | (with_reducible first | assumption | exact Two.own (by with_reducible assumption) | refine Two.set ?_ _ _ | refine Own2.set ?_ _ _ | refine Two.drew ?_ | refine Two.drewN ?_ _ | refine Own2.drew ?_ | refine Own2.drewN ?_ _ | (refine Two.new ?_; simp only [szs]; done) | (refine Own2.new ?_; simp only [szs]; done) | refine Two.alloc ?_ _ | refine Own2.alloc ?_ _ | refine Two.far ?_ ?_ _ _ | refine Own2.far ?_ ?_ _ _ | refine Two.via (by with_reducible assumption) ?_ ?_ | refine Own2.via (by with_reducible assumption) ?_ ?_) | omega | (simp only [szs]; omega)))
  have hB : Below w.heap.size w (w2.alloc (.cells #[.int .u64 px, .int .u64 py] 25)) := by (repeat' (first | (with_reducible first | exact Below.refl _ _ | assumption | refine Below.alloc ?_ ?_ _ | refine Below.drew ?_ | refine below_drewN ?_ _ | refine Below.setCell ?_ ?_ _ | refine below_via (by with_reducible assumption) ?_ ?_) | omega | (simp only [szs]; omega) | (simp only [szs] at *; omega)))
  generalize (w2.alloc (.cells #[.int .u64 px, .int .u64 py] 25)) = V at *
  generalize w2.heap.size = bp at *
  clear b1 z1 b2 z2 cu cp
  have zB := hB.size
  have lp := tp.lt
  go_upto_region 4 with (go_at_call 14; (with_reducible refine (cs _ hB).mono ?_); rintro e w3 ⟨rfl, b3⟩; have z3 := b3.size; (try simp only [szs] at z3))
  have tp2 : Two (w3.alloc (.cells #[.int .u64 ax, .int .u64 ay, .int .u64 z] 36)) bp (.int .u64 px) (.int .u64 py) := by (repeat' (first | (with_reducible first | assumption | exact Two.own (by with_reducible assumption) | refine Two.set ?_ _ _ | refine Own2.set ?_ _ _ | refine Two.drew ?_ | refine Two.drewN ?_ _ | refine Own2.drew ?_ | refine Own2.drewN ?_ _ | (refine Two.new ?_; simp only [szs]; done) | (refine Own2.new ?_; simp only [szs]; done) | refine Two.alloc ?_ _ | refine Own2.alloc ?_ _ | refine Two.far ?_ ?_ _ _ | refine Own2.far ?_ ?_ _ _ | refine Two.via (by with_reducible assumption) ?_ ?_ | refine Own2.via (by with_reducible assumption) ?_ ?_) | omega | (simp only [szs]; omega)))
  have ts : Three (w3.alloc (.cells #[.int .u64 ax, .int .u64 ay, .int .u64 z] 36)) w3.heap.size (.int .u64 ax) (.int .u64 ay) (.int .u64 z) := by (repeat' (first | (with_reducible first | assumption | exact Three.own (by with_reducible assumption) | refine Three.set ?_ _ _ _ | refine Own3.set ?_ _ _ _ | refine Three.drew ?_ | refine Three.drewN ?_ _ | refine Own3.drew ?_ | refine Own3.drewN ?_ _ | (refine Three.new ?_; simp only [szs]; done) | (refine Own3.new ?_; simp only [szs]; done) | refine Three.alloc ?_ _ | refine Own3.alloc ?_ _ | refine Three.far ?_ ?_ _ _ | refine Own3.far ?_ ?_ _ _ | refine Three.via (by with_reducible assumption) ?_ ?_ | refine Own3.via (by with_reducible assumption) ?_ ?_) | omega | (simp only [szs]; omega)))
  have hB2 : Hid (Below w.heap.size w (w3.alloc (.cells #[.int .u64 ax, .int .u64 ay, .int .u64 z] 36))) := by show Below _ _ _; (repeat' (first | (with_reducible first | exact Below.refl _ _ | assumption | refine Below.alloc ?_ ?_ _ | refine Below.drew ?_ | refine below_drewN ?_ _ | refine Below.setCell ?_ ?_ _ | refine below_via (by with_reducible assumption) ?_ ?_) | omega | (simp only [szs]; omega) | (simp only [szs] at *; omega)))
  have n1 : bp ≠ w3.heap.size := by omega
  have n2 : w3.heap.size ≠ bp := by omega
  generalize (w3.alloc (.cells #[.int .u64 ax, .int .u64 ay, .int .u64 z] 36)) = V2 at *
  generalize w3.heap.size = bs at *
  clear b3 z3 cs hB zB tp lp
  have hB := hB2.out
  clear hB2
  have zB := hB.size
  have lp := tp2.lt
  have ls := ts.lt
  have ⟨tp2d0, tp2d1, tp2d2, tp2d3, tp2d4⟩ := tp2
  have ⟨tsd0, tsd1, tsd2, tsd3, tsd4, tsd5, tsd6⟩ := ts
  go_upto_region 9 with (go_at_call 18; (with_reducible refine (cv _ hB).mono ?_); rintro e w4 ⟨rfl, b4⟩; have z4 := b4.size; (try simp only [szs] at z4))
  have tp : Two w4 bp (.int .u64 px) (.int .u64 py) := tp2.below b4 lp
  have ts2 : Three w4 bs (.int .u64 ax) (.int .u64 ay) (.int .u64 z) := ts.below b4 ls
  have hB2 : Hid (Below w.heap.size w w4) := by show Below _ _ _; (repeat' (first | (with_reducible first | exact Below.refl _ _ | assumption | refine Below.alloc ?_ ?_ _ | refine Below.drew ?_ | refine below_drewN ?_ _ | refine Below.setCell ?_ ?_ _ | refine below_via (by with_reducible assumption) ?_ ?_) | omega | (simp only [szs]; omega) | (simp only [szs] at *; omega)))
  clear tp2d0 tp2d1 tp2d2 tp2d3 tp2d4 tp2 tsd0 tsd1 tsd2 tsd3 tsd4 tsd5 tsd6 ts
  clear b4 z4 cv hB zB lp ls
  have hB := hB2.out
  clear hB2
  have zB := hB.size
  have lp := tp.lt
  have ls := ts2.lt
  go_upto_region 10 with (go_at_call 14; (with_reducible refine (cs2 _ hB).mono ?_); rintro e w5 ⟨rfl, b5⟩; have z5 := b5.size; (try simp only [szs] at z5))
  have tp2 : Two (w5.alloc (.cells #[.int .u64 ax, .int .u64 ay, .int .u64 z2] 36)) bp (.int .u64 px) (.int .u64 py) := by (repeat' (first | (with_reducible first | assumption | exact Two.own (by with_reducible assumption) | refine Two.set ?_ _ _ | refine Own2.set ?_ _ _ | refine Two.drew ?_ | refine Two.drewN ?_ _ | refine Own2.drew ?_ | refine Own2.drewN ?_ _ | (refine Two.new ?_; simp only [szs]; done) | (refine Own2.new ?_; simp only [szs]; done) | refine Two.alloc ?_ _ | refine Own2.alloc ?_ _ | refine Two.far ?_ ?_ _ _ | refine Own2.far ?_ ?_ _ _ | refine Two.via (by with_reducible assumption) ?_ ?_ | refine Own2.via (by with_reducible assumption) ?_ ?_) | omega | (simp only [szs]; omega)))
  have ts : Three (w5.alloc (.cells #[.int .u64 ax, .int .u64 ay, .int .u64 z2] 36)) bs (.int .u64 ax) (.int .u64 ay) (.int .u64 z) := by (repeat' (first | (with_reducible first | assumption | exact Three.own (by with_reducible assumption) | refine Three.set ?_ _ _ _ | refine Own3.set ?_ _ _ _ | refine Three.drew ?_ | refine Three.drewN ?_ _ | refine Own3.drew ?_ | refine Own3.drewN ?_ _ | (refine Three.new ?_; simp only [szs]; done) | (refine Own3.new ?_; simp only [szs]; done) | refine Three.alloc ?_ _ | refine Own3.alloc ?_ _ | refine Three.far ?_ ?_ _ _ | refine Own3.far ?_ ?_ _ _ | refine Three.via (by with_reducible assumption) ?_ ?_ | refine Own3.via (by with_reducible assumption) ?_ ?_) | omega | (simp only [szs]; omega)))
  have tu : Three (w5.alloc (.cells #[.int .u64 ax, .int .u64 ay, .int .u64 z2] 36)) w5.heap.size (.int .u64 ax) (.int .u64 ay) (.int .u64 z2) := by (repeat' (first | (with_reducible first | assumption | exact Three.own (by with_reducible assumption) | refine Three.set ?_ _ _ _ | refine Own3.set ?_ _ _ _ | refine Three.drew ?_ | refine Three.drewN ?_ _ | refine Own3.drew ?_ | refine Own3.drewN ?_ _ | (refine Three.new ?_; simp only [szs]; done) | (refine Own3.new ?_; simp only [szs]; done) | refine Three.alloc ?_ _ | refine Own3.alloc ?_ _ | refine Three.far ?_ ?_ _ _ | refine Own3.far ?_ ?_ _ _ | refine Three.via (by with_reducible assumption) ?_ ?_ | refine Own3.via (by with_reducible assumption) ?_ ?_) | omega | (simp only [szs]; omega)))
  have hB2 : Hid (Below w.heap.size w (w5.alloc (.cells #[.int .u64 ax, .int .u64 ay, .int .u64 z2] 36))) := by show Below _ _ _; (repeat' (first | (with_reducible first | exact Below.refl _ _ | assumption | refine Below.alloc ?_ ?_ _ | refine Below.drew ?_ | refine below_drewN ?_ _ | refine Below.setCell ?_ ?_ _ | refine below_via (by with_reducible assumption) ?_ ?_) | omega | (simp only [szs]; omega) | (simp only [szs] at *; omega)))
  have m1 : bp ≠ w5.heap.size := by omega
  have m2_ : w5.heap.size ≠ bp := by omega
  have m3 : bs ≠ w5.heap.size := by omega
  have m4 : w5.heap.size ≠ bs := by omega
  generalize (w5.alloc (.cells #[.int .u64 ax, .int .u64 ay, .int .u64 z2] 36)) = V3 at *
  generalize w5.heap.size = bu at *
  clear b5 z5 cs2 hB zB tp ts2 lp ls
  have hB := hB2.out
  clear hB2
  have zB := hB.size
  have lp := tp2.lt
  have ls := ts.lt
  have lu := tu.lt
  have ⟨tp2d0, tp2d1, tp2d2, tp2d3, tp2d4⟩ := tp2
  have ⟨tsd0, tsd1, tsd2, tsd3, tsd4, tsd5, tsd6⟩ := ts
  have ⟨tud0, tud1, tud2, tud3, tud4, tud5, tud6⟩ := tu
  have haV : Hid (SrcY V3.heap.size V3 a m u) := ha'.out.to hB (Nat.le_refl _)
  have hbV : Hid (SrcY V3.heap.size V3 b m2 v) := hb'.out.to hB (Nat.le_refl _)
  go_upto_region 14 with (first | (go_at_call 15; (with_reducible refine (cq _ haV.out).mono ?_); rintro e w6 ⟨rfl, b6⟩; have z6 := b6.size; (try simp only [szs] at z6); (try (have q6_0 := own2 b6 (bp) (by first | omega | (simp only [szs]; omega)))); (try (have q6_1 := own3 b6 (bs) (by first | omega | (simp only [szs]; omega)))); (try (have q6_2 := own3 b6 (bu) (by first | omega | (simp only [szs]; omega))))) | (go_at_call 15; (with_reducible refine (cq2 _ (hbV.out.to b6 (Nat.le_refl _))).mono ?_); rintro e w7 ⟨rfl, b7⟩; have z7 := b7.size; (try simp only [szs] at z7); (try (have q7_0 := own2 b7 (bp) (by first | omega | (simp only [szs]; omega)))); (try (have q7_1 := own3 b7 (bs) (by first | omega | (simp only [szs]; omega)))); (try (have q7_2 := own3 b7 (bu) (by first | omega | (simp only [szs]; omega))))))
  have tp : Two w7 bp (.int .u64 px) (.int .u64 py) := by (repeat' (first | (with_reducible first | assumption | exact Two.own (by with_reducible assumption) | refine Two.set ?_ _ _ | refine Own2.set ?_ _ _ | refine Two.drew ?_ | refine Two.drewN ?_ _ | refine Own2.drew ?_ | refine Own2.drewN ?_ _ | (refine Two.new ?_; simp only [szs]; done) | (refine Own2.new ?_; simp only [szs]; done) | refine Two.alloc ?_ _ | refine Own2.alloc ?_ _ | refine Two.far ?_ ?_ _ _ | refine Own2.far ?_ ?_ _ _ | refine Two.via (by with_reducible assumption) ?_ ?_ | refine Own2.via (by with_reducible assumption) ?_ ?_) | omega | (simp only [szs]; omega)))
  have ts2 : Three w7 bs (.int .u64 ax) (.int .u64 ay) (.int .u64 z) := by (repeat' (first | (with_reducible first | assumption | exact Three.own (by with_reducible assumption) | refine Three.set ?_ _ _ _ | refine Own3.set ?_ _ _ _ | refine Three.drew ?_ | refine Three.drewN ?_ _ | refine Own3.drew ?_ | refine Own3.drewN ?_ _ | (refine Three.new ?_; simp only [szs]; done) | (refine Own3.new ?_; simp only [szs]; done) | refine Three.alloc ?_ _ | refine Own3.alloc ?_ _ | refine Three.far ?_ ?_ _ _ | refine Own3.far ?_ ?_ _ _ | refine Three.via (by with_reducible assumption) ?_ ?_ | refine Own3.via (by with_reducible assumption) ?_ ?_) | omega | (simp only [szs]; omega)))
  have tu2 : Three w7 bu (.int .u64 ax) (.int .u64 ay) (.int .u64 z2) := by (repeat' (first | (with_reducible first | assumption | exact Three.own (by with_reducible assumption) | refine Three.set ?_ _ _ _ | refine Own3.set ?_ _ _ _ | refine Three.drew ?_ | refine Three.drewN ?_ _ | refine Own3.drew ?_ | refine Own3.drewN ?_ _ | (refine Three.new ?_; simp only [szs]; done) | (refine Own3.new ?_; simp only [szs]; done) | refine Three.alloc ?_ _ | refine Own3.alloc ?_ _ | refine Three.far ?_ ?_ _ _ | refine Own3.far ?_ ?_ _ _ | refine Three.via (by with_reducible assumption) ?_ ?_ | refine Own3.via (by with_reducible assumption) ?_ ?_) | omega | (simp only [szs]; omega)))
  have hB2 : Hid (Below w.heap.size w w7) := by show Below _ _ _; (repeat' (first | (with_reducible first | exact Below.refl _ _ | assumption | refine Below.alloc ?_ ?_ _ | refine Below.drew ?_ | refine below_drewN ?_ _ | refine Below.setCell ?_ ?_ _ | refine below_via (by with_reducible assumption) ?_ ?_) | omega | (simp only [szs]; omega) | (simp only [szs] at *; omega)))
  clear tp2d0 tp2d1 tp2d2 tp2d3 tp2d4 tp2 tsd0 tsd1 tsd2 tsd3 tsd4 tsd5 tsd6 ts tud0 tud1 tud2 tud3 tud4 tud5 tud6 tu
  clear q6_0 q6_1 q6_2 q7_0 q7_1 q7_2 b6 z6 b7 z7 cq cq2 hB zB lp ls lu haV hbV
  have hB := hB2.out
  clear hB2
  have zB := hB.size
  have ⟨tpd0, tpd1, tpd2, tpd3, tpd4⟩ := tp
  have ⟨ts2d0, ts2d1, ts2d2, ts2d3, ts2d4, ts2d5, ts2d6⟩ := ts2
  have ⟨tu2d0, tu2d1, tu2d2, tu2d3, tu2d4, tu2d5, tu2d6⟩ := tu2
  by_cases hxy : xq = yq
  · have hx1 : (xq == yq) = true := by simpa using hxy
    have hx2 : (xq != yq) = false := by simpa using hxy
    clear cm'
    go_upto_region 21 with (first | (first | (go_at_call 21; first | (with_reducible refine (ct _).mono ?_; rintro e w' ⟨rfl, rfl⟩))) | (go_at_call 22; (with_reducible refine (cg _).mono ?_); rintro e w8 ⟨rfl, b8⟩; have z8 := b8.size; (try simp only [szs] at z8)))
    rcases hT'.out with ⟨cz, rfl⟩ | ⟨rfl, rfl⟩
    · go_wp2
      go_ret
      exact ⟨rfl, by (repeat' (first | (with_reducible first | exact Below.refl _ _ | assumption | refine Below.alloc ?_ ?_ _ | refine Below.drew ?_ | refine below_drewN ?_ _ | refine Below.setCell ?_ ?_ _ | refine below_via (by with_reducible assumption) ?_ ?_) | omega | (simp only [szs]; omega) | (simp only [szs] at *; omega)))⟩
    · have cs3 := cs3'.out rfl
      have cv3 := cv3'.out rfl
      have tq : Two (w8.alloc (.cells #[.int .u64 qx, .int .u64 qy] 25)) w8.heap.size (.int .u64 qx) (.int .u64 qy) := by (repeat' (first | (with_reducible first | assumption | exact Two.own (by with_reducible assumption) | refine Two.set ?_ _ _ | refine Own2.set ?_ _ _ | refine Two.drew ?_ | refine Two.drewN ?_ _ | refine Own2.drew ?_ | refine Own2.drewN ?_ _ | (refine Two.new ?_; simp only [szs]; done) | (refine Own2.new ?_; simp only [szs]; done) | refine Two.alloc ?_ _ | refine Own2.alloc ?_ _ | refine Two.far ?_ ?_ _ _ | refine Own2.far ?_ ?_ _ _ | refine Two.via (by with_reducible assumption) ?_ ?_ | refine Own2.via (by with_reducible assumption) ?_ ?_) | omega | (simp only [szs]; omega)))
      have hB2 : Hid (Below w.heap.size w (w8.alloc (.cells #[.int .u64 qx, .int .u64 qy] 25))) := by show Below _ _ _; (repeat' (first | (with_reducible first | exact Below.refl _ _ | assumption | refine Below.alloc ?_ ?_ _ | refine Below.drew ?_ | refine below_drewN ?_ _ | refine Below.setCell ?_ ?_ _ | refine below_via (by with_reducible assumption) ?_ ?_) | omega | (simp only [szs]; omega) | (simp only [szs] at *; omega)))
      generalize (w8.alloc (.cells #[.int .u64 qx, .int .u64 qy] 25)) = V4 at *
      generalize w8.heap.size = bq at *
      clear tpd0 tpd1 tpd2 tpd3 tpd4 tp ts2d0 ts2d1 ts2d2 ts2d3 ts2d4 ts2d5 ts2d6 ts2 tu2d0 tu2d1 tu2d2 tu2d3 tu2d4 tu2d5 tu2d6 tu2
      clear b8 z8 hB zB
      have hB := hB2.out
      clear hB2
      have zB := hB.size
      have lq := tq.lt
      go_upto_region 24 with (go_at_call 14; (with_reducible refine (cs3 _ hB).mono ?_); rintro e w9 ⟨rfl, b9⟩; have z9 := b9.size; (try simp only [szs] at z9))
      have tq2 : Two (w9.alloc (.cells #[.int .u64 ax, .int .u64 ay, .int .u64 z3] 36)) bq (.int .u64 qx) (.int .u64 qy) := by (repeat' (first | (with_reducible first | assumption | exact Two.own (by with_reducible assumption) | refine Two.set ?_ _ _ | refine Own2.set ?_ _ _ | refine Two.drew ?_ | refine Two.drewN ?_ _ | refine Own2.drew ?_ | refine Own2.drewN ?_ _ | (refine Two.new ?_; simp only [szs]; done) | (refine Own2.new ?_; simp only [szs]; done) | refine Two.alloc ?_ _ | refine Own2.alloc ?_ _ | refine Two.far ?_ ?_ _ _ | refine Own2.far ?_ ?_ _ _ | refine Two.via (by with_reducible assumption) ?_ ?_ | refine Own2.via (by with_reducible assumption) ?_ ?_) | omega | (simp only [szs]; omega)))
      have tv : Three (w9.alloc (.cells #[.int .u64 ax, .int .u64 ay, .int .u64 z3] 36)) w9.heap.size (.int .u64 ax) (.int .u64 ay) (.int .u64 z3) := by (repeat' (first | (with_reducible first | assumption | exact Three.own (by with_reducible assumption) | refine Three.set ?_ _ _ _ | refine Own3.set ?_ _ _ _ | refine Three.drew ?_ | refine Three.drewN ?_ _ | refine Own3.drew ?_ | refine Own3.drewN ?_ _ | (refine Three.new ?_; simp only [szs]; done) | (refine Own3.new ?_; simp only [szs]; done) | refine Three.alloc ?_ _ | refine Own3.alloc ?_ _ | refine Three.far ?_ ?_ _ _ | refine Own3.far ?_ ?_ _ _ | refine Three.via (by with_reducible assumption) ?_ ?_ | refine Own3.via (by with_reducible assumption) ?_ ?_) | omega | (simp only [szs]; omega)))
      have hB2 : Hid (Below w.heap.size w (w9.alloc (.cells #[.int .u64 ax, .int .u64 ay, .int .u64 z3] 36))) := by show Below _ _ _; (repeat' (first | (with_reducible first | exact Below.refl _ _ | assumption | refine Below.alloc ?_ ?_ _ | refine Below.drew ?_ | refine below_drewN ?_ _ | refine Below.setCell ?_ ?_ _ | refine below_via (by with_reducible assumption) ?_ ?_) | omega | (simp only [szs]; omega) | (simp only [szs] at *; omega)))
      have k1 : bq ≠ w9.heap.size := by omega
      have k2 : w9.heap.size ≠ bq := by omega
      generalize (w9.alloc (.cells #[.int .u64 ax, .int .u64 ay, .int .u64 z3] 36)) = V5 at *
      generalize w9.heap.size = bv at *
      clear b9 z9 hB zB tq lq cs3
      have hB := hB2.out
      clear hB2
      have zB := hB.size
      have ⟨tq2d0, tq2d1, tq2d2, tq2d3, tq2d4⟩ := tq2
      have ⟨tvd0, tvd1, tvd2, tvd3, tvd4, tvd5, tvd6⟩ := tv
      go_wp2_with (go_at_call 18; (with_reducible refine (cv3 _ hB).mono ?_); rintro e w10 ⟨rfl, b10⟩; have z10 := b10.size; (try simp only [szs] at z10))
      go_ret
      exact ⟨rfl, by (repeat' (first | (with_reducible first | exact Below.refl _ _ | assumption | refine Below.alloc ?_ ?_ _ | refine Below.drew ?_ | refine below_drewN ?_ _ | refine Below.setCell ?_ ?_ _ | refine below_via (by with_reducible assumption) ?_ ?_) | omega | (simp only [szs]; omega) | (simp only [szs] at *; omega)))⟩
  · have hx1 : (xq == yq) = false := by simpa using hxy
    have hx2 : (xq != yq) = true := by simpa using hxy
    have cm := cm'.out hxy
    clear cm'
    go_upto_region 19 with (first | (go_at_call 16; first | (with_reducible refine (ca _).mono ?_; rintro e w' ⟨rfl, rfl⟩) | (with_reducible refine (ca2 _).mono ?_; rintro e w' ⟨rfl, rfl⟩)) | (go_at_call 23; first | (with_reducible refine (cw _).mono ?_; rintro e w' ⟨rfl, rfl⟩)) | (go_at_call 17; first | (with_reducible refine (cm _).mono ?_; rintro e w' ⟨rfl, rfl⟩)))
    go_upto_region 21 with (first | (first | (go_at_call 21; first | (with_reducible refine (ct _).mono ?_; rintro e w' ⟨rfl, rfl⟩))) | (go_at_call 22; (with_reducible refine (cg _).mono ?_); rintro e w8 ⟨rfl, b8⟩; have z8 := b8.size; (try simp only [szs] at z8)))
    rcases hT'.out with ⟨cz, rfl⟩ | ⟨rfl, rfl⟩
    · go_wp2
      go_ret
      exact ⟨rfl, by (repeat' (first | (with_reducible first | exact Below.refl _ _ | assumption | refine Below.alloc ?_ ?_ _ | refine Below.drew ?_ | refine below_drewN ?_ _ | refine Below.setCell ?_ ?_ _ | refine below_via (by with_reducible assumption) ?_ ?_) | omega | (simp only [szs]; omega) | (simp only [szs] at *; omega)))⟩
    · have cs3 := cs3'.out rfl
      have cv3 := cv3'.out rfl
      have tq : Two (w8.alloc (.cells #[.int .u64 qx, .int .u64 qy] 25)) w8.heap.size (.int .u64 qx) (.int .u64 qy) := by (repeat' (first | (with_reducible first | assumption | exact Two.own (by with_reducible assumption) | refine Two.set ?_ _ _ | refine Own2.set ?_ _ _ | refine Two.drew ?_ | refine Two.drewN ?_ _ | refine Own2.drew ?_ | refine Own2.drewN ?_ _ | (refine Two.new ?_; simp only [szs]; done) | (refine Own2.new ?_; simp only [szs]; done) | refine Two.alloc ?_ _ | refine Own2.alloc ?_ _ | refine Two.far ?_ ?_ _ _ | refine Own2.far ?_ ?_ _ _ | refine Two.via (by with_reducible assumption) ?_ ?_ | refine Own2.via (by with_reducible assumption) ?_ ?_) | omega | (simp only [szs]; omega)))
      have hB2 : Hid (Below w.heap.size w (w8.alloc (.cells #[.int .u64 qx, .int .u64 qy] 25))) := by show Below _ _ _; (repeat' (first | (with_reducible first | exact Below.refl _ _ | assumption | refine Below.alloc ?_ ?_ _ | refine Below.drew ?_ | refine below_drewN ?_ _ | refine Below.setCell ?_ ?_ _ | refine below_via (by with_reducible assumption) ?_ ?_) | omega | (simp only [szs]; omega) | (simp only [szs] at *; omega)))
      generalize (w8.alloc (.cells #[.int .u64 qx, .int .u64 qy] 25)) = V4 at *
      generalize w8.heap.size = bq at *
      clear tpd0 tpd1 tpd2 tpd3 tpd4 tp ts2d0 ts2d1 ts2d2 ts2d3 ts2d4 ts2d5 ts2d6 ts2 tu2d0 tu2d1 tu2d2 tu2d3 tu2d4 tu2d5 tu2d6 tu2
      clear b8 z8 hB zB
      have hB := hB2.out
      clear hB2
      have zB := hB.size
      have lq := tq.lt
      go_upto_region 24 with (go_at_call 14; (with_reducible refine (cs3 _ hB).mono ?_); rintro e w9 ⟨rfl, b9⟩; have z9 := b9.size; (try simp only [szs] at z9))
      have tq2 : Two (w9.alloc (.cells #[.int .u64 ax, .int .u64 ay, .int .u64 z3] 36)) bq (.int .u64 qx) (.int .u64 qy) := by (repeat' (first | (with_reducible first | assumption | exact Two.own (by with_reducible assumption) | refine Two.set ?_ _ _ | refine Own2.set ?_ _ _ | refine Two.drew ?_ | refine Two.drewN ?_ _ | refine Own2.drew ?_ | refine Own2.drewN ?_ _ | (refine Two.new ?_; simp only [szs]; done) | (refine Own2.new ?_; simp only [szs]; done) | refine Two.alloc ?_ _ | refine Own2.alloc ?_ _ | refine Two.far ?_ ?_ _ _ | refine Own2.far ?_ ?_ _ _ | refine Two.via (by with_reducible assumption) ?_ ?_ | refine Own2.via (by with_reducible assumption) ?_ ?_) | omega | (simp only [szs]; omega)))
      have tv : Three (w9.alloc (.cells #[.int .u64 ax, .int .u64 ay, .int .u64 z3] 36)) w9.heap.size (.int .u64 ax) (.int .u64 ay) (.int .u64 z3) := by (repeat' (first | (with_reducible first | assumption | exact Three.own (by with_reducible assumption) | refine Three.set ?_ _ _ _ | refine Own3.set ?_ _ _ _ | refine Three.drew ?_ | refine Three.drewN ?_ _ | refine Own3.drew ?_ | refine Own3.drewN ?_ _ | (refine Three.new ?_; simp only [szs]; done) | (refine Own3.new ?_; simp only [szs]; done) | refine Three.alloc ?_ _ | refine Own3.alloc ?_ _ | refine Three.far ?_ ?_ _ _ | refine Own3.far ?_ ?_ _ _ | refine Three.via (by with_reducible assumption) ?_ ?_ | refine Own3.via (by with_reducible assumption) ?_ ?_) | omega | (simp only [szs]; omega)))
      have hB2 : Hid (Below w.heap.size w (w9.alloc (.cells #[.int .u64 ax, .int .u64 ay, .int .u64 z3] 36))) := by show Below _ _ _; (repeat' (first | (with_reducible first | exact Below.refl _ _ | assumption | refine Below.alloc ?_ ?_ _ | refine Below.drew ?_ | refine below_drewN ?_ _ | refine Below.setCell ?_ ?_ _ | refine below_via (by with_reducible assumption) ?_ ?_) | omega | (simp only [szs]; omega) | (simp only [szs] at *; omega)))
      have k1 : bq ≠ w9.heap.size := by omega
      have k2 : w9.heap.size ≠ bq := by omega
      generalize (w9.alloc (.cells #[.int .u64 ax, .int .u64 ay, .int .u64 z3] 36)) = V5 at *
      generalize w9.heap.size = bv at *
      clear b9 z9 hB zB tq lq cs3
      have hB := hB2.out
      clear hB2
      have zB := hB.size
      have ⟨tq2d0, tq2d1, tq2d2, tq2d3, tq2d4⟩ := tq2
      have ⟨tvd0, tvd1, tvd2, tvd3, tvd4, tvd5, tvd6⟩ := tv
      go_wp2_with (go_at_call 18; (with_reducible refine (cv3 _ hB).mono ?_); rintro e w10 ⟨rfl, b10⟩; have z10 := b10.size; (try simp only [szs] at z10))
      go_ret
      exact ⟨rfl, by (repeat' (first | (with_reducible first | exact Below.refl _ _ | assumption | refine Below.alloc ?_ ?_ _ | refine Below.drew ?_ | refine below_drewN ?_ _ | refine Below.setCell ?_ ?_ _ | refine below_via (by with_reducible assumption) ?_ ?_) | omega | (simp only [szs]; omega) | (simp only [szs] at *; omega)))⟩
theorem wrap_sub (r : Nat) (h : r < 72057593894066549) : IntKind.u64.wrap (72057593894066549 - (r : Int)) = ((72057593894066549 - r : Nat) : Int) := by
  rw [IntKind.wrap_u64]
  omega
theorem sigQ_lt (k n : Nat) (u : Nat → Nat) (m : Nat) : sigQ k n u m < 72057593894066549 := Nat.mod_lt _ (by decide)
theorem sigN_lt (k n : Nat) (u : Nat → Nat) (m : Nat) : sigN k n u m < 72057593894066549 := Nat.mod_lt _ (by decide)
theorem inS_key (k : Nat) : inS (Ob.gmul Ob.gGen k).1.val (Ob.gmul Ob.gGen k).2.val = true := inS_S (Ob.onG_mul Ob.onG_gen k) (Ob.key_S k)
/-- Two of one nonce, of two questions. -/
theorem tell_key (k n x y E : Nat) (hE : E = Ob.SE - 2) (hk : isKey k = true) (hx : x < 72057593894066549) (hy : y < 72057593894066549) (h : x ≠ y) :
    ((n + x * k % 72057593894066549) % 72057593894066549 + (72057593894066549 - (n + y * k % 72057593894066549) % 72057593894066549)) % 72057593894066549 * (((x + (72057593894066549 - y)) % 72057593894066549) ^ E % 72057593894066549) % 72057593894066549 = k := by
  have lk := of_decide_eq_true hk
  have h2 := Ob.two_tell (n := n) lk.2 hx hy h
  rw [← hE] at h2
  exact h2
theorem rpowS9 (a : Nat) (ha : a < 18446744073709551616) (w : World) :
    Calls Tryd.prog 23 #[.int .u64 72057593894066549, .int .u64 a, .int .u64 72057593894066547] w fun e w' => e = .returned (.int .u64 (a ^ 72057593894066547 % 72057593894066549 : Nat)) ∧ w = w' := by
  have := rpow_any 72057593894066549 a 72057593894066547 w ⟨by decide, by decide⟩ ha (by decide)
  rw [Ob.pow_yes ⟨by decide, by decide⟩] at this
  exact this
theorem tpoint_yes (x y t : Nat) (h1 : inS x y = true) (h2 : ¬ 72057593894066549 ≤ t) : tpointV x y t = .tuple #[edV (Ob.gadd (Ob.ofG x y) (Ob.gmul Ob.gGen t)), .nilIface] := by
  unfold tpointV
  rw [if_neg (fun h => by rcases h with h | h; rw [h1] at h; cases h; exact h2 h)]
theorem turn_cases (k t : Nat) (hk : isKey k = true) : (∃ cz : Int, turnV k t = .tuple #[.int .u64 0, .iface 31 (.int .i64 cz)]) ∨ (¬ 72057593894066549 ≤ t ∧ isKey ((k + t) % 72057593894066549) = true ∧ turnV k t = .tuple #[.int .u64 ((k + t) % 72057593894066549 : Nat), .nilIface]) := by
  unfold turnV
  by_cases h : isKey k = false ∨ 72057593894066549 ≤ t
  · rw [if_pos h]
    exact Or.inl ⟨_, rfl⟩
  · rw [if_neg h]
    by_cases h0 : (k + t) % 72057593894066549 = 0
    · rw [if_pos h0]
      exact Or.inl ⟨_, rfl⟩
    · rw [if_neg h0]
      exact Or.inr ⟨fun e => h (Or.inr e), decide_eq_true ⟨by omega, Nat.mod_lt _ (by decide)⟩, rfl⟩
theorem schnorrHolds_walk (a0 a1 a2 : Int) (a3 : Option Addr) (len3 cap3 : Nat) (z3 : List Int) (a4 : Option Addr) (len4 cap4 : Nat) (z4 : List Int) (w : World) (w0 : (Lit.int .u64 a0).wf = true) (w1 : (Lit.int .u64 a1).wf = true) (w2 : (Lit.int .u64 a2).wf = true)
   (w3 : IsRow .u8 w a3 len3 cap3 z3) (r3 : cap3 * 1 ≤ 140737488351232) (w4 : IsRow .u8 w a4 len4 cap4 z4) (r4 : cap4 * 1 ≤ 140737488351232) (hT : Tabs w) :
    Calls Tryd.prog 7 #[.int .u64 a0, .int .u64 a1, .int .u64 a2, .slice a3 len3 cap3, .slice a4 len4 cap4] w fun e w' => e = .returned (.bool true) ∧ Below w.heap.size w w' := by
  obtain ⟨k, rfl, hk⟩ := word_of w0
  obtain ⟨n, rfl, hn⟩ := word_of w1
  obtain ⟨t, rfl, ht⟩ := word_of w2
  obtain ⟨u, lc, _, hu, hs, _, _⟩ := srcY_of_isRow w3
  obtain ⟨v, lc4, _, hv, hs4, _, _⟩ := srcY_of_isRow w4
  have cu := up9W w hT
  cases hk1 : isKey k with
  | false => exact sholds_out a3 a4 len3 cap3 len4 cap4 k n t _ _ _ _ _ _ _ w (Or.inl rfl) cu (fun W _ => spointNo k hk1 W) (fun W _ => ssignNo k n (by rw [hk1]; rfl) _ W)
  | true =>
    have cp := fun (W : World) (_ : Below w.heap.size w W) => spointW k hk1 W
    cases hn1 : isKey n with
    | false => exact sholds_out a3 a4 len3 cap3 len4 cap4 k n t _ _ _ _ _ _ _ w (Or.inr (Or.inl ⟨rfl, rfl⟩)) cu cp (fun W _ => ssignNo k n (by rw [hn1, Bool.and_false]) _ W)
    | true =>
      have cs := fun (W : World) (hB : Below w.heap.size w W) => ssignW k n hk1 hn1 a3 len3 cap3 (by omega) u hu W (hT.below hB hT.lt) (hs.to hB (Nat.le_refl _))
      by_cases hm : 2000 < len3
      · exact sholds_out a3 a4 len3 cap3 len4 cap4 k n t _ _ _ _ _ _ _ w (Or.inr (Or.inr (Or.inl ⟨rfl, rfl, by omega⟩))) cu cp cs
      by_cases hm2 : 2000 < len4
      · exact sholds_out a3 a4 len3 cap3 len4 cap4 k n t _ _ _ _ _ _ _ w (Or.inr (Or.inr (Or.inr ⟨rfl, rfl, by omega, by omega⟩))) cu cp cs
      have lm : len3 ≤ 2000 := by omega
      have lm2 : len4 ≤ 2000 := by omega
      have cs2 := fun (W : World) (hB : Below w.heap.size w W) => ssignW k n hk1 hn1 a4 len4 cap4 (by omega) v hv W (hT.below hB hT.lt) (hs4.to hB (Nat.le_refl _))
      have cv := fun (W : World) (hB : Below w.heap.size w W) => sverW (Ob.gmul Ob.gGen k).1.val (Ob.gmul Ob.gGen k).2.val (Ob.gmul Ob.gGen n).1.val (Ob.gmul Ob.gGen n).2.val (sigN k n u len3) (Ob.G_word _) (Ob.G_word _) (Ob.G_word _) (Ob.G_word _) a3 len3 cap3 (by omega) u hu W (hT.below hB hT.lt) (hs.to hB (Nat.le_refl _))
      rw [verB_self k n hk1 u len3] at cv
      have cq := fun (W : World) (h : SrcY W.heap.size W a3 len3 u) => askW (Ob.gmul Ob.gGen n) (Ob.gmul Ob.gGen k) a3 len3 cap3 lm u hu W h
      have cq2 := fun (W : World) (h : SrcY W.heap.size W a4 len4 v) => askW (Ob.gmul Ob.gGen n) (Ob.gmul Ob.gGen k) a4 len4 cap4 lm2 v hv W h
      have lx := sigQ_lt k n u len3
      have ly := sigQ_lt k n v len4
      have lz := sigN_lt k n u len3
      have lz2 := sigN_lt k n v len4
      have ca := raddS9 (sigQ k n u len3) (72057593894066549 - sigQ k n v len4) (by omega) (by omega)
      have ca2 := raddS9 (sigN k n u len3) (72057593894066549 - sigN k n v len4) (by omega) (by omega)
      have cw := rpowS9 ((sigQ k n u len3 + (72057593894066549 - sigQ k n v len4)) % 72057593894066549) (word_rest _)
      have cm := rmulS9 ((sigN k n u len3 + (72057593894066549 - sigN k n v len4)) % 72057593894066549) (((sigQ k n u len3 + (72057593894066549 - sigQ k n v len4)) % 72057593894066549) ^ 72057593894066547 % 72057593894066549) (word_rest _) (word_rest _)
      have cm' : ((sigQ k n u len3 : Nat) : Int) ≠ ((sigQ k n v len4 : Nat) : Int) → ∀ w, Calls Tryd.prog 17 #[.int .u64 72057593894066549, .int .u64 ((sigN k n u len3 + (72057593894066549 - sigN k n v len4)) % 72057593894066549 : Nat), .int .u64 (((sigQ k n u len3 + (72057593894066549 - sigQ k n v len4)) % 72057593894066549) ^ 72057593894066547 % 72057593894066549 : Nat)] w fun e w' => e = .returned (.int .u64 (k : Nat)) ∧ w = w' := fun hne => by
        have e := tell_key k n (sigQ k n u len3) (sigQ k n v len4) 72057593894066547 (by decide) hk1 lx ly (fun h => hne (by rw [h]))
        rw [← sigN_of k n u len3 _ rfl, ← sigN_of k n v len4 _ rfl] at e
        rw [e] at cm
        exact cm
      have ct := sturnW k t ht
      have cg := stpointW (Ob.gmul Ob.gGen k).1.val (Ob.gmul Ob.gGen k).2.val t (Ob.G_word _) (Ob.G_word _) ht
      have wy := wrap_sub _ ly
      have wz := wrap_sub _ lz2
      rcases turn_cases k t hk1 with ⟨cz, e1⟩ | ⟨lt, hk2, e1⟩
      · rw [e1] at ct
        obtain ⟨qx, qy, er2, e2⟩ : ∃ (qx qy : Int) (er2 : Value), tpointV (Ob.gmul Ob.gGen k).1.val (Ob.gmul Ob.gGen k).2.val t = .tuple #[.agg #[.int .u64 qx, .int .u64 qy], er2] := by
          unfold tpointV
          split
          · exact ⟨_, _, _, rfl⟩
          · exact ⟨_, _, _, rfl⟩
        rw [e2] at cg
        exact sholds_core a3 a4 len3 cap3 len4 cap4 lm lm2 u v k n t _ _ _ _ _ _ 0 _ _ _ _ _ _ _ _ _ _ _ _ w hs hs4 (Or.inl ⟨cz, rfl⟩) cu cp cs cs2 cv cq cq2 wy wz ca ca2 cw cm' ct cg (fun h => by cases h) (fun h => by cases h)
      · rw [e1] at ct
        rw [tpoint_yes _ _ t (inS_key k) lt, Ob.ofG_val (Ob.onG_mul Ob.onG_gen k), ← Ob.turn_eq] at cg
        have cs3 := fun (W : World) (hB : Below w.heap.size w W) => ssignW ((k + t) % 72057593894066549) n hk2 hn1 a3 len3 cap3 (by omega) u hu W (hT.below hB hT.lt) (hs.to hB (Nat.le_refl _))
        have cv3 := fun (W : World) (hB : Below w.heap.size w W) => sverW (Ob.gmul Ob.gGen ((k + t) % 72057593894066549)).1.val (Ob.gmul Ob.gGen ((k + t) % 72057593894066549)).2.val (Ob.gmul Ob.gGen n).1.val (Ob.gmul Ob.gGen n).2.val (sigN ((k + t) % 72057593894066549) n u len3) (Ob.G_word _) (Ob.G_word _) (Ob.G_word _) (Ob.G_word _) a3 len3 cap3 (by omega) u hu W (hT.below hB hT.lt) (hs.to hB (Nat.le_refl _))
        rw [verB_self _ n hk2 u len3] at cv3
        exact sholds_core a3 a4 len3 cap3 len4 cap4 lm lm2 u v k n t _ _ _ _ _ _ _ _ _ _ _ _ _ _ _ _ _ _ _ w hs hs4 (Or.inr ⟨rfl, rfl⟩) cu cp cs cs2 cv cq cq2 wy wz ca ca2 cw cm' ct cg (fun _ => cs3) (fun _ => cv3)
end Go.Proofs.YtdhbkhmknnlmnaaDoor
