/-
  The walk of layer 8's own statement: commitments add up.
-/
import Derived.Test.YtkekomiaiaacaaaDoorJ6
import Derived.Test.YtkekomiaiaacaaaDoorWdsA
import Derived.Test.YtkekomiaiaacaaaDoorJ1
namespace Go.Proofs.YtkekomiaiaacaaaDoor
open Go.RowKit Go.Proofs
set_option linter.unusedVariables false
set_option linter.unusedSimpArgs false
attribute [local go_sem ↓] Go.wp_at_zero Go.wp_at_succ
attribute [local irreducible] Ob.gmul Ob.gadd baseP Ob.gcom
theorem raddS (a b : Nat) (ha : a < 18446744073709551616) (hb : b < 18446744073709551616) (w : World) :
    Calls Tryd.prog 15 #[.int .u64 72057593894066549, .int .u64 a, .int .u64 b] w fun e w' => e = .returned (.int .u64 ((a + b) % 72057593894066549 : Nat)) ∧ w = w' := by
  have := radd_any 72057593894066549 a b w ⟨by decide, by decide⟩ ha hb
  rw [Ob.add_yes ⟨by decide, by decide⟩] at this
  exact this
theorem adds_out (a b : Option Addr) (m n c d : Nat) (h : 4 < m ∨ (m ≤ 4 ∧ n ≠ m)) (x y : Int) (w : World)
   (cu : Calls Tryd.prog 8 #[] w fun e w' => e = .returned (.bool true) ∧ Below w.heap.size w w') :
    Calls Tryd.prog 5 #[.slice a m c, .slice b n d, .int .u64 x, .int .u64 y] w fun e w' => e = .returned (.bool true) ∧ Below w.heap.size w w' := by
  rcases h with h | ⟨h, h1⟩
  · have h1 : (4 : Int) < (m : Int) := by omega
    clear h
    go_enter Tryd.func5, Tryd.ntmps5
    go_wp2_with (go_at_call 8; (with_reducible refine cu.mono ?_); rintro e w1 ⟨rfl, b1⟩)
    go_ret
    exact ⟨rfl, by (repeat' (first | (with_reducible first | exact Below.refl _ _ | assumption | refine Below.alloc ?_ ?_ _ | refine Below.drew ?_ | refine below_drewN ?_ _ | refine Below.setCell ?_ ?_ _ | refine below_via (by with_reducible assumption) ?_ ?_) | omega | (simp only [szs]; omega) | (simp only [szs] at *; omega)))⟩
  · have h2 : ¬ (4 : Int) < (m : Int) := by omega
    have h3 : ((n : Int) != (m : Int)) = true := by simp; omega
    clear h h1
    go_enter Tryd.func5, Tryd.ntmps5
    go_wp2_with (go_at_call 8; (with_reducible refine cu.mono ?_); rintro e w1 ⟨rfl, b1⟩)
    go_ret
    exact ⟨rfl, by (repeat' (first | (with_reducible first | exact Below.refl _ _ | assumption | refine Below.alloc ?_ ?_ _ | refine Below.drew ?_ | refine below_drewN ?_ _ | refine Below.setCell ?_ ?_ _ | refine below_via (by with_reducible assumption) ?_ ?_) | omega | (simp only [szs]; omega) | (simp only [szs] at *; omega)))⟩
set_option maxRecDepth 4000 in
set_option maxHeartbeats 8000000 in
theorem adds_core (a b : Option Addr) (n c d : Nat) (hn : n ≤ 4) (u v Z : Nat → Nat) (hZ : ∀ i, (u i + v i) % 72057593894066549 = Z i) (hu : ∀ i, u i < 18446744073709551616) (hv : ∀ i, v i < 18446744073709551616) (x y px py qx qy tx ty : Int) (xy : Nat) (w : World)
   (ha : SrcW w.heap.size w a n u) (hb : SrcW w.heap.size w b n v)
   (cu : Calls Tryd.prog 8 #[] w fun e w' => e = .returned (.bool true) ∧ Below w.heap.size w w')
   (c1 : ∀ W, Below w.heap.size w W → Calls Tryd.prog 12 #[.slice a n c, .int .u64 x] W fun e w' => e = .returned (.tuple #[.agg #[.int .u64 px, .int .u64 py], .nilIface]) ∧ Below W.heap.size W w')
   (c2 : ∀ W, Below w.heap.size w W → Calls Tryd.prog 12 #[.slice b n d, .int .u64 y] W fun e w' => e = .returned (.tuple #[.agg #[.int .u64 qx, .int .u64 qy], .nilIface]) ∧ Below W.heap.size W w')
   (c3 : ∀ W f h, Below w.heap.size w W → SrcW W.heap.size W f n Z → Calls Tryd.prog 12 #[.slice f n h, .int .u64 (xy : Nat)] W fun e w' => e = .returned (.tuple #[.agg #[.int .u64 tx, .int .u64 ty], .nilIface]) ∧ Below W.heap.size W w')
   (c4 : ∀ w, Calls Tryd.prog 15 #[.int .u64 72057593894066549, .int .u64 x, .int .u64 y] w fun e w' => e = .returned (.int .u64 (xy : Nat)) ∧ w = w')
   (c5 : ∀ w, Calls Tryd.prog 16 #[.agg #[.int .u64 px, .int .u64 py], .agg #[.int .u64 qx, .int .u64 qy]] w fun e w' => e = .returned (.agg #[.int .u64 tx, .int .u64 ty]) ∧ Below w.heap.size w w')
   (he : ∀ w, (Op.equalIn 10000 25 (.agg #[.int .u64 tx, .int .u64 ty]) (.agg #[.int .u64 tx, .int .u64 ty])).run Tryd.prog w = .ok true w) :
    Calls Tryd.prog 5 #[.slice a n c, .slice b n d, .int .u64 x, .int .u64 y] w fun e w' => e = .returned (.bool true) ∧ Below w.heap.size w w' := by
  have h1 : ¬ (4 : Int) < (n : Int) := by omega
  have hu' : Hid (∀ i, u i < 18446744073709551616) := hu
  have hv' : Hid (∀ i, v i < 18446744073709551616) := hv
  have ha' : Hid (SrcW w.heap.size w a n u) := ha
  have hb' : Hid (SrcW w.heap.size w b n v) := hb
  have hZ' : Hid (∀ i, (u i + v i) % 72057593894066549 = Z i) := hZ
  clear hu hv ha hb hZ
  go_enter Tryd.func5, Tryd.ntmps5
  go_wp2_with (go_at_call 8; (with_reducible refine cu.mono ?_); rintro e w1 ⟨rfl, b1⟩)
  clear cu
  go_loopw [10, 11] (fun sv si wr => ∃ i : Nat, i ≤ n ∧ si = .int .i64 i ∧ Hid (OwnW wr w.heap.size sv i Z) ∧ Below w.heap.size w wr) (fun sv si _ => n - (intOf si).toNat)
  case atStart => exact ⟨0, by omega, rfl, OwnW.nil _ _ _, b1⟩
  case round =>
    clear b1
    obtain ⟨i, hi, rfl, hown, hB⟩ := hrel
    by_cases hlt : i < n
    · have hlt' : (i : Int) < (n : Int) := by omega
      have hi0 : (0 : Int) ≤ (i : Int) := by omega
      have cr := raddS (u i) (v i) (hu'.out i) (hv'.out i)
      obtain ⟨X, hX⟩ : ∃ X, Hid (Z i = X) := ⟨_, rfl⟩
      rw [hZ'.out i, hX.out] at cr
      rcases ha'.out with h | ⟨ba, oa, rfl, la, wa⟩
      · omega
      rcases hb'.out with h | ⟨bb, ob, rfl, lb, wb⟩
      · omega
      have hkeep : Hid (∀ w1, Below w.heap.size w w1 → w1.cell? ⟨ba, oa + i, none⟩ = some (.int .u64 (u i : Nat)) ∧ w1.cell? ⟨bb, ob + i, none⟩ = some (.int .u64 (v i : Nat))) := fun w1 h => ⟨(wa.below h la).at_ i hlt, (wb.below h lb).at_ i hlt⟩
      generalize u i = ui at *
      generalize v i = vi at *
      clear la wa lb wb
      have hzB := hB.size
      have hown1 : Hid (OwnW (wr.alloc (.cells #[.int .u64 (X : Nat)] 22)).drew w.heap.size u10 i Z) := hown.out.on (by clear hB; (repeat' (first | (with_reducible first | exact Below.refl _ _ | assumption | refine Below.alloc ?_ ?_ _ | refine Below.drew ?_ | refine below_drewN ?_ _ | refine Below.setCell ?_ ?_ _ | refine below_via (by with_reducible assumption) ?_ ?_) | omega | (simp only [szs]; omega) | (simp only [szs] at *; omega))))
      have hB1 : Below w.heap.size w (wr.alloc (.cells #[.int .u64 (X : Nat)] 22)).drew := by (repeat' (first | (with_reducible first | exact Below.refl _ _ | assumption | refine Below.alloc ?_ ?_ _ | refine Below.drew ?_ | refine below_drewN ?_ _ | refine Below.setCell ?_ ?_ _ | refine below_via (by with_reducible assumption) ?_ ?_) | omega | (simp only [szs]; omega) | (simp only [szs] at *; omega)))
      go_wp2
      go_region_held3 (fun w' => w'.cell? ⟨ba, oa + i, none⟩ = some (.int .u64 (ui : Nat)) ∧ w'.cell? ⟨bb, ob + i, none⟩ = some (.int .u64 (vi : Nat))) (first | exact hkeep.out _ hBw | exact hkeep.out _ (by (repeat' (first | (with_reducible first | exact Below.refl _ _ | assumption | refine Below.alloc ?_ ?_ _ | refine Below.drew ?_ | refine below_drewN ?_ _ | refine Below.setCell ?_ ?_ _ | refine below_via (by with_reducible assumption) ?_ ?_) | omega | (simp only [szs]; omega) | (simp only [szs] at *; omega)))))
        (first | (first | (go_at_call 15; first | (with_reducible refine (cr _).mono ?_; rintro e w' ⟨rfl, rfl⟩))) | ((rw [if_pos (by rfl)]; (refine wp_app1W _ _ rfl w.heap.size _ i _ rfl hown1.out wr.heap.size X rfl (by simp [go_sem]) (by omega) (by first | (simp; done) | (simp; omega)) hX.out ?_); intro v' w1 ho hg; have hBw : Below w.heap.size w w1 := below_via hg hB1 (Nat.le_refl _); have ho' : Hid (OwnW w1 w.heap.size v' (i + 1) Z) := ho; clear ho hg)))
      go_wp2
      go_roundw
      case rel => exact ⟨i + 1, by omega, by go_num, ho', hBw⟩
      case measure => first | (simp [intOf]; done) | (simp [intOf]; omega)
    · obtain rfl : i = n := by omega
      obtain ⟨f, h, rfl, hc1, hc2, hsrc⟩ := hown.out.src
      have hlt' : ¬ (i : Int) < (i : Int) := by omega
      have hsrc' : Hid (SrcW wr.heap.size wr f i Z) := hsrc
      clear hown hsrc hc1 hc2
      go_upto_region 10 with (go_at_call 12; (with_reducible refine (c1 _ hB).mono ?_); rintro e w2 ⟨rfl, b2⟩)
      have z0 := hB.size
      have z2 := b2.size
      have t2 : Two (w2.alloc (.cells #[.int .u64 px, .int .u64 py] 25)) w2.heap.size (.int .u64 px) (.int .u64 py) := by (repeat' (first | (with_reducible first | assumption | exact Two.own (by with_reducible assumption) | refine Two.set ?_ _ _ | refine Own2.set ?_ _ _ | refine Two.drew ?_ | refine Two.drewN ?_ _ | refine Own2.drew ?_ | refine Own2.drewN ?_ _ | (refine Two.new ?_; simp only [szs]; done) | (refine Own2.new ?_; simp only [szs]; done) | refine Two.alloc ?_ _ | refine Own2.alloc ?_ _ | refine Two.far ?_ ?_ _ _ | refine Own2.far ?_ ?_ _ _ | refine Two.via (by with_reducible assumption) ?_ ?_ | refine Own2.via (by with_reducible assumption) ?_ ?_) | omega | (simp only [szs]; omega)))
      have hB2 : Below w.heap.size w (w2.alloc (.cells #[.int .u64 px, .int .u64 py] 25)) := by (repeat' (first | (with_reducible first | exact Below.refl _ _ | assumption | refine Below.alloc ?_ ?_ _ | refine Below.drew ?_ | refine below_drewN ?_ _ | refine Below.setCell ?_ ?_ _ | refine below_via (by with_reducible assumption) ?_ ?_) | omega | (simp only [szs]; omega) | (simp only [szs] at *; omega)))
      have hs2 : Hid (SrcW (w2.alloc (.cells #[.int .u64 px, .int .u64 py] 25)).heap.size (w2.alloc (.cells #[.int .u64 px, .int .u64 py] 25)) f i Z) := hsrc'.out.to (B := wr.heap.size) (by clear hB; (repeat' (first | (with_reducible first | exact Below.refl _ _ | assumption | refine Below.alloc ?_ ?_ _ | refine Below.drew ?_ | refine below_drewN ?_ _ | refine Below.setCell ?_ ?_ _ | refine below_via (by with_reducible assumption) ?_ ?_) | omega | (simp only [szs]; omega) | (simp only [szs] at *; omega)))) (Nat.le_refl _)
      generalize (w2.alloc (.cells #[.int .u64 px, .int .u64 py] 25)) = V at *
      generalize w2.heap.size = b2_ at *
      clear b2 z0 z2 hB hsrc' c1
      go_upto_region 11 with (go_at_call 12; (with_reducible refine (c2 _ hB2).mono ?_); rintro e w3 ⟨rfl, b3⟩)
      have z0 := hB2.size
      have z3 := b3.size
      have l2 := t2.lt
      have t3 : Two (w3.alloc (.cells #[.int .u64 qx, .int .u64 qy] 25)) b2_ (.int .u64 px) (.int .u64 py) := by (repeat' (first | (with_reducible first | assumption | exact Two.own (by with_reducible assumption) | refine Two.set ?_ _ _ | refine Own2.set ?_ _ _ | refine Two.drew ?_ | refine Two.drewN ?_ _ | refine Own2.drew ?_ | refine Own2.drewN ?_ _ | (refine Two.new ?_; simp only [szs]; done) | (refine Own2.new ?_; simp only [szs]; done) | refine Two.alloc ?_ _ | refine Own2.alloc ?_ _ | refine Two.far ?_ ?_ _ _ | refine Own2.far ?_ ?_ _ _ | refine Two.via (by with_reducible assumption) ?_ ?_ | refine Own2.via (by with_reducible assumption) ?_ ?_) | omega | (simp only [szs]; omega)))
      have t4 : Two (w3.alloc (.cells #[.int .u64 qx, .int .u64 qy] 25)) w3.heap.size (.int .u64 qx) (.int .u64 qy) := by (repeat' (first | (with_reducible first | assumption | exact Two.own (by with_reducible assumption) | refine Two.set ?_ _ _ | refine Own2.set ?_ _ _ | refine Two.drew ?_ | refine Two.drewN ?_ _ | refine Own2.drew ?_ | refine Own2.drewN ?_ _ | (refine Two.new ?_; simp only [szs]; done) | (refine Own2.new ?_; simp only [szs]; done) | refine Two.alloc ?_ _ | refine Own2.alloc ?_ _ | refine Two.far ?_ ?_ _ _ | refine Own2.far ?_ ?_ _ _ | refine Two.via (by with_reducible assumption) ?_ ?_ | refine Own2.via (by with_reducible assumption) ?_ ?_) | omega | (simp only [szs]; omega)))
      have hB3 : Below w.heap.size w (w3.alloc (.cells #[.int .u64 qx, .int .u64 qy] 25)) := by (repeat' (first | (with_reducible first | exact Below.refl _ _ | assumption | refine Below.alloc ?_ ?_ _ | refine Below.drew ?_ | refine below_drewN ?_ _ | refine Below.setCell ?_ ?_ _ | refine below_via (by with_reducible assumption) ?_ ?_) | omega | (simp only [szs]; omega) | (simp only [szs] at *; omega)))
      have hs3 : Hid (SrcW (w3.alloc (.cells #[.int .u64 qx, .int .u64 qy] 25)).heap.size (w3.alloc (.cells #[.int .u64 qx, .int .u64 qy] 25)) f i Z) := hs2.out.to (B := V.heap.size) (by clear hB2; (repeat' (first | (with_reducible first | exact Below.refl _ _ | assumption | refine Below.alloc ?_ ?_ _ | refine Below.drew ?_ | refine below_drewN ?_ _ | refine Below.setCell ?_ ?_ _ | refine below_via (by with_reducible assumption) ?_ ?_) | omega | (simp only [szs]; omega) | (simp only [szs] at *; omega)))) (Nat.le_refl _)
      have n1 : b2_ ≠ w3.heap.size := by omega
      have n2 : w3.heap.size ≠ b2_ := by omega
      generalize (w3.alloc (.cells #[.int .u64 qx, .int .u64 qy] 25)) = V3 at *
      generalize w3.heap.size = b3_ at *
      clear b3 z0 z3 l2 hB2 hs2 t2 c2
      go_upto_region 12 with (first | (first | (go_at_call 15; first | (with_reducible refine (c4 _).mono ?_; rintro e w' ⟨rfl, rfl⟩))) | (go_at_call 12; (with_reducible refine (c3 _ _ _ hB3 hs3.out).mono ?_); rintro e w4 ⟨rfl, b4⟩))
      have z0 := hB3.size
      have z4 := b4.size
      have l3 := t3.lt
      have l4 := t4.lt
      have t5 : Two (w4.alloc (.cells #[.int .u64 tx, .int .u64 ty] 25)) b2_ (.int .u64 px) (.int .u64 py) := by (repeat' (first | (with_reducible first | assumption | exact Two.own (by with_reducible assumption) | refine Two.set ?_ _ _ | refine Own2.set ?_ _ _ | refine Two.drew ?_ | refine Two.drewN ?_ _ | refine Own2.drew ?_ | refine Own2.drewN ?_ _ | (refine Two.new ?_; simp only [szs]; done) | (refine Own2.new ?_; simp only [szs]; done) | refine Two.alloc ?_ _ | refine Own2.alloc ?_ _ | refine Two.far ?_ ?_ _ _ | refine Own2.far ?_ ?_ _ _ | refine Two.via (by with_reducible assumption) ?_ ?_ | refine Own2.via (by with_reducible assumption) ?_ ?_) | omega | (simp only [szs]; omega)))
      have t6 : Two (w4.alloc (.cells #[.int .u64 tx, .int .u64 ty] 25)) b3_ (.int .u64 qx) (.int .u64 qy) := by (repeat' (first | (with_reducible first | assumption | exact Two.own (by with_reducible assumption) | refine Two.set ?_ _ _ | refine Own2.set ?_ _ _ | refine Two.drew ?_ | refine Two.drewN ?_ _ | refine Own2.drew ?_ | refine Own2.drewN ?_ _ | (refine Two.new ?_; simp only [szs]; done) | (refine Own2.new ?_; simp only [szs]; done) | refine Two.alloc ?_ _ | refine Own2.alloc ?_ _ | refine Two.far ?_ ?_ _ _ | refine Own2.far ?_ ?_ _ _ | refine Two.via (by with_reducible assumption) ?_ ?_ | refine Own2.via (by with_reducible assumption) ?_ ?_) | omega | (simp only [szs]; omega)))
      have t7 : Two (w4.alloc (.cells #[.int .u64 tx, .int .u64 ty] 25)) w4.heap.size (.int .u64 tx) (.int .u64 ty) := by (repeat' (first | (with_reducible first | assumption | exact Two.own (by with_reducible assumption) | refine Two.set ?_ _ _ | refine Own2.set ?_ _ _ | refine Two.drew ?_ | refine Two.drewN ?_ _ | refine Own2.drew ?_ | refine Own2.drewN ?_ _ | (refine Two.new ?_; simp only [szs]; done) | (refine Own2.new ?_; simp only [szs]; done) | refine Two.alloc ?_ _ | refine Own2.alloc ?_ _ | refine Two.far ?_ ?_ _ _ | refine Own2.far ?_ ?_ _ _ | refine Two.via (by with_reducible assumption) ?_ ?_ | refine Own2.via (by with_reducible assumption) ?_ ?_) | omega | (simp only [szs]; omega)))
      have hB4 : Below w.heap.size w (w4.alloc (.cells #[.int .u64 tx, .int .u64 ty] 25)) := by (repeat' (first | (with_reducible first | exact Below.refl _ _ | assumption | refine Below.alloc ?_ ?_ _ | refine Below.drew ?_ | refine below_drewN ?_ _ | refine Below.setCell ?_ ?_ _ | refine below_via (by with_reducible assumption) ?_ ?_) | omega | (simp only [szs]; omega) | (simp only [szs] at *; omega)))
      have n3 : b2_ ≠ w4.heap.size := by omega
      have n4 : w4.heap.size ≠ b2_ := by omega
      have n5 : b3_ ≠ w4.heap.size := by omega
      have n6 : w4.heap.size ≠ b3_ := by omega
      generalize (w4.alloc (.cells #[.int .u64 tx, .int .u64 ty] 25)) = V4 at *
      generalize w4.heap.size = b4_ at *
      clear b4 z0 z4 l3 l4 hB3 hs3 t3 t4 c3 c4
      go_wp2
      have ⟨d1, d2, d3, d4, d5⟩ := t5
      have ⟨e1, e2, e3, e4, e5⟩ := t6
      have ⟨f1, f2, f3, f4, f5⟩ := t7
      have zB := hB4.size
      go_region_held3 (fun w' => w'.cell? ⟨b2_, 0, none⟩ = some (.int .u64 px) ∧ w'.cell? ⟨b2_, 1, none⟩ = some (.int .u64 py) ∧ w'.cell? ⟨b3_, 0, none⟩ = some (.int .u64 qx) ∧ w'.cell? ⟨b3_, 1, none⟩ = some (.int .u64 qy) ∧ w'.cell? ⟨b4_, 0, none⟩ = some (.int .u64 tx) ∧ w'.cell? ⟨b4_, 1, none⟩ = some (.int .u64 ty)) (go_keep)
        ((first | (go_at_call 16; first | (with_reducible refine (c5 _).mono ?_; rintro e w_c5 ⟨rfl, b_c5⟩; have z_c5 := b_c5.size; (try simp only [szs] at z_c5); (try (have q_c5_0 := own2 b_c5 (b2_) (by first | omega | (simp only [szs]; omega)))); (try (have q_c5_1 := own2 b_c5 (b3_) (by first | omega | (simp only [szs]; omega)))); (try (have q_c5_2 := own2 b_c5 (b4_) (by first | omega | (simp only [szs]; omega))))))))
      go_wp2
      go_ret
      exact ⟨rfl, by (repeat' (first | (with_reducible first | exact Below.refl _ _ | assumption | refine Below.alloc ?_ ?_ _ | refine Below.drew ?_ | refine below_drewN ?_ _ | refine Below.setCell ?_ ?_ _ | refine below_via (by with_reducible assumption) ?_ ?_) | omega | (simp only [szs]; omega) | (simp only [szs] at *; omega)))⟩
theorem joinW_lt {x : Nat} {v : Nat → Nat} {N : Nat} (hx : x < N) (hv : ∀ i, v i < N) (i : Nat) : joinW (fun _ => x) 1 v i < N := by unfold joinW; split; exact hx; exact hv _
theorem com_add (x y n : Nat) (u v : Nat → Nat) : Ob.gadd (comP x u n) (comP y v n) = comP ((x + y) % 72057593894066549) (fun i => (u i + v i) % 72057593894066549) n := by
  unfold comP
  rw [Ob.gcom_add baseP_on (N := 72057593894066549) (fun i => baseP_S i _ rfl)]
  refine Ob.gcom_congr _ _ fun i _ => ?_
  unfold rests joinW
  split
  · rw [← Nat.add_mod, Nat.mod_mod]
  · rw [← Nat.add_mod, Nat.mod_mod]
theorem pedersenAdds_walk (a0 : Option Addr) (len0 cap0 : Nat) (z0 : List Int) (a1 : Option Addr) (len1 cap1 : Nat) (z1 : List Int) (a2 a3 : Int) (w : World) (w0 : IsRow .u64 w a0 len0 cap0 z0) (w1 : IsRow .u64 w a1 len1 cap1 z1) (w2 : (Lit.int .u64 a2).wf = true) (w3 : (Lit.int .u64 a3).wf = true) (hL : TabOk w ∧ Tabs w) :
    Calls Tryd.prog 5 #[.slice a0 len0 cap0, .slice a1 len1 cap1, .int .u64 a2, .int .u64 a3] w fun e w' => e = .returned (.bool true) ∧ Below w.heap.size w w' := by
  obtain ⟨x, rfl, hx⟩ := word_of w2
  obtain ⟨y, rfl, hy⟩ := word_of w3
  obtain ⟨hT, hTs⟩ := hL
  obtain ⟨u, _, _, hu, hs, _, _⟩ := srcW_of_isRow w0
  obtain ⟨v, _, _, hv, hr, _, _⟩ := srcW_of_isRow w1
  have cu := up8W w hT hTs
  by_cases h : 4 < len0 ∨ (len0 ≤ 4 ∧ len1 ≠ len0)
  · exact adds_out a0 a1 len0 len1 cap0 cap1 h _ _ w cu
  · obtain rfl : len1 = len0 := by omega
    have hxy : (x + y) % 72057593894066549 < 18446744073709551616 := Nat.lt_trans (Nat.mod_lt _ (by decide)) (by decide)
    have c5 := eaddE (comP_on x u len1) (comP_on y v len1)
    rw [com_add] at c5
    exact adds_core a0 a1 len1 cap0 cap1 (by omega) u v (fun i => (u i + v i) % 72057593894066549) (fun _ => rfl) hu hv _ _ _ _ _ _ _ _ ((x + y) % 72057593894066549) w hs hr cu
      (fun W h => pcommitW a0 len1 cap0 u hu (by omega) x hx W (hT.below h hT.lt) (hTs.below h hTs.lt) (hs.to h (Nat.le_refl _)))
      (fun W h => pcommitW a1 len1 cap1 v hv (by omega) y hy W (hT.below h hT.lt) (hTs.below h hTs.lt) (hr.to h (Nat.le_refl _)))
      (fun W f k h hsr => pcommitW f len1 k _ (fun i => Nat.lt_trans (Nat.mod_lt _ (by decide)) (by decide)) (by omega) _ hxy W (hT.below h hT.lt) (hTs.below h hTs.lt) hsr)
      (raddS x y hx hy) c5 (fun w => by rw [equal_Ed]; simp)
end Go.Proofs.YtkekomiaiaacaaaDoor
