/-
  Joined texts: The document's own answers of layer 11 (package obolref11): whether values hold. The walks of layer 11's statements on sound systems and on what holds, over what package rank's calls answer. Whether a system holds doesn't hang on the order of its rows. The walk of layer 11's own statement: the order of rows, over what package rank's calls answer. The walk of layer 11's statement on values of lists, over what package rank's calls answer. Layer 11's statements where a system isn't light, or too much comes in. The walks of layer 11's statements, as rows ask for them. How lists of terms, and systems of rows, that came in are opened. What the rows that ask for errors share: the type of errors that is laid, the start that fits, systems and lists that came in.
-/
import Derived.Test.YtckjojmphdoghaaDoorJ6
import Derived.Test.YtckjojmphdoghaaDoorJ1
import Derived.Test.YtckjojmphdoghaaDoorJ2
import Derived.Test.YtckjojmphdoghaaDoorJ4
import Derived.Test.YtckjojmphdoghaaDoorJ3
import Derived.Test.YtckjojmphdoghaaDoorJ5
import Derived.Lib.SmallJoins
import Derived.LaidMore
import Derived.LaidLaws
import Derived.LaidHandle
import Derived.Stop.Joined

namespace Go.Proofs.YtckjojmphdoghaaDoor
open Go.RowKit Go.Proofs
set_option linter.unusedVariables false
set_option linter.unusedSimpArgs false
attribute [local go_sem ↓] Go.wp_at_zero Go.wp_at_succ

set_option maxHeartbeats 4000000 in
theorem vholds_unsound (vars pubs : Int) (a : Option Addr) (m c : Nat) (v : Value) (w : World)
   (cc : ∀ W, Below w.heap.size w W → Calls Tryd.prog 11 #[rankV vars pubs a m c] W fun e w' => e = .returned (.bool false) ∧ Below W.heap.size W w') :
    Calls Tryd.prog 18 #[rankV vars pubs a m c, v] w fun e w' => e = .returned (.tuple #[.int .i64 3, .int .i64 (-1)]) ∧ Below w.heap.size w w' := by
  unfold rankV at *
  go_enter Tryd.func18, Tryd.ntmps18
  go_wp2_with (go_at_call 11; (with_reducible refine (cc _ (by (repeat' (first | (with_reducible first | exact Below.refl _ _ | assumption | refine Below.alloc ?_ ?_ _ | refine Below.drew ?_ | refine below_drewN ?_ _ | refine Below.setCell ?_ ?_ _ | refine below_via (by with_reducible assumption) ?_ ?_) | omega | (simp only [szs]; omega) | (simp only [szs] at *; omega))))).mono ?_); rintro e w1 ⟨rfl, b1⟩; have z1 := b1.size; (try simp only [szs] at z1); have q1 := own3 b1 w.heap.size (by first | omega | (simp only [szs]; omega)))
  go_ret2
  exact ⟨rfl, by (repeat' (first | (with_reducible first | exact Below.refl _ _ | assumption | refine Below.alloc ?_ ?_ _ | refine Below.drew ?_ | refine below_drewN ?_ _ | refine Below.setCell ?_ ?_ _ | refine below_via (by with_reducible assumption) ?_ ?_) | omega | (simp only [szs]; omega) | (simp only [szs] at *; omega)))⟩
set_option maxHeartbeats 4000000 in
theorem vholds_few (vars pubs : Int) (a ad : Option Addr) (m c n d : Nat) (hn : (n : Int) ≠ vars) (w : World)
   (cc : ∀ W, Below w.heap.size w W → Calls Tryd.prog 11 #[rankV vars pubs a m c] W fun e w' => e = .returned (.bool true) ∧ Below W.heap.size W w') :
    Calls Tryd.prog 18 #[rankV vars pubs a m c, .slice ad n d] w fun e w' => e = .returned (.tuple #[.int .i64 1, .int .i64 (-1)]) ∧ Below w.heap.size w w' := by
  have h1 : ((n : Int) == vars) = false := by rw [beq_eq_false_iff_ne]; exact hn
  have h2 : ((n : Int) != vars) = true := by rw [bne_iff_ne]; exact hn
  unfold rankV at *
  clear hn
  go_enter Tryd.func18, Tryd.ntmps18
  go_wp2_with (go_at_call 11; (with_reducible refine (cc _ (by (repeat' (first | (with_reducible first | exact Below.refl _ _ | assumption | refine Below.alloc ?_ ?_ _ | refine Below.drew ?_ | refine below_drewN ?_ _ | refine Below.setCell ?_ ?_ _ | refine below_via (by with_reducible assumption) ?_ ?_) | omega | (simp only [szs]; omega) | (simp only [szs] at *; omega))))).mono ?_); rintro e w1 ⟨rfl, b1⟩; have z1 := b1.size; (try simp only [szs] at z1); have q1 := own3 b1 w.heap.size (by first | omega | (simp only [szs]; omega)))
  go_ret2
  exact ⟨rfl, by (repeat' (first | (with_reducible first | exact Below.refl _ _ | assumption | refine Below.alloc ?_ ?_ _ | refine Below.drew ?_ | refine below_drewN ?_ _ | refine Below.setCell ?_ ?_ _ | refine below_via (by with_reducible assumption) ?_ ?_) | omega | (simp only [szs]; omega) | (simp only [szs] at *; omega)))⟩
set_option maxRecDepth 4000 in
set_option maxHeartbeats 16000000 in
theorem vholds_core (vars pubs : Int) (a : Option Addr) (m c : Nat) (R : Nat → Nat → Lst) (hO : ∀ i j, (R i j).Ok) (b off n d : Nat) (hv1 : 1 ≤ vars) (hn : (n : Int) = vars) (hn2 : n ≤ 1000000) (x : Nat → Nat) (hx : ∀ i, x i < 18446744073709551616) (w : World) (hR : RowsAt w.heap.size w a m R)
   (lb : b < w.heap.size) (wx : Wds w b off n x) (hm : m ≤ 9223372036854775807) (bad at_ : Int) (hH : HoldIs vars pubs m R n x bad at_) (hc : checkB vars pubs m R = true)
   (cc : ∀ W, Below w.heap.size w W → Calls Tryd.prog 11 #[rankV vars pubs a m c] W fun e w' => e = .returned (.bool true) ∧ Below W.heap.size W w') :
    Calls Tryd.prog 18 #[rankV vars pubs a m c, .slice (some ⟨b, off, none⟩) n d] w fun e w' => e = .returned (.tuple #[.int .i64 bad, .int .i64 at_]) ∧ Below w.heap.size w w' := by
  subst hn
  have hH' : Hid (HoldIs (n : Int) pubs m R n x bad at_) := hH
  have hR' : Hid (RowsAt w.heap.size w a m R) := hR
  have hO' : Hid (∀ i j, (R i j).Ok) := hO
  have wx' : Hid (Wds w b off n x) := wx
  have hx' : Hid (∀ i, x i < 18446744073709551616) := hx
  have hn0 : (0 : Int) < (n : Int) := by omega
  -- what the four ways say here
  have hno1 : Hid (valuesB (n : Int) n x = false → bad = 1 ∧ at_ = -1) := fun h => by
    rcases hH with h1 | h1 | ⟨_, h1, _⟩ | ⟨_, h1, _⟩
    · rw [hc] at h1; cases h1.1
    · exact h1.2.2
    · rw [h] at h1; cases h1
    · rw [h] at h1; cases h1
  have hbad : Hid (valuesB (n : Int) n x = true → ∀ i, i < m → rowsB R n x i = true → rowB R n x i = false → bad = 8 ∧ at_ = (i : Int)) := fun hv i hi h1 h2 => hH.at_bad hc hv hi h1 h2
  have hgood : Hid (valuesB (n : Int) n x = true → rowsB R n x m = true → bad = 0 ∧ at_ = -1) := fun hv h1 => hH.at_good hc hv h1
  unfold rankV at *
  clear hH hR hO wx hx hc
  go_enter Tryd.func18, Tryd.ntmps18
  go_upto_region 4 with (go_at_call 11; (with_reducible refine (cc _ (by (repeat' (first | (with_reducible first | exact Below.refl _ _ | assumption | refine Below.alloc ?_ ?_ _ | refine Below.drew ?_ | refine below_drewN ?_ _ | refine Below.setCell ?_ ?_ _ | refine below_via (by with_reducible assumption) ?_ ?_) | omega | (simp only [szs]; omega) | (simp only [szs] at *; omega))))).mono ?_); rintro e w1 ⟨rfl, b1⟩; have z1 := b1.size; (try simp only [szs] at z1); have q1 := own3 b1 w.heap.size (by first | omega | (simp only [szs]; omega)))
  have t1 : Three w1 w.heap.size (.int .i64 (n : Nat)) (.int .i64 pubs) (.slice a m c) := by (repeat' (first | (with_reducible first | assumption | exact Three.own (by with_reducible assumption) | refine Three.set ?_ _ _ _ | refine Own3.set ?_ _ _ _ | refine Three.drew ?_ | refine Three.drewN ?_ _ | refine Own3.drew ?_ | refine Own3.drewN ?_ _ | (refine Three.new ?_; simp only [szs]; done) | (refine Own3.new ?_; simp only [szs]; done) | refine Three.alloc ?_ _ | refine Own3.alloc ?_ _ | refine Three.far ?_ ?_ _ _ | refine Own3.far ?_ ?_ _ _ | refine Three.via (by with_reducible assumption) ?_ ?_ | refine Own3.via (by with_reducible assumption) ?_ ?_) | omega | (simp only [szs]; omega)))
  have hB1 : Hid (Below w.heap.size w w1) := by show Below _ _ _; (repeat' (first | (with_reducible first | exact Below.refl _ _ | assumption | refine Below.alloc ?_ ?_ _ | refine Below.drew ?_ | refine below_drewN ?_ _ | refine Below.setCell ?_ ?_ _ | refine below_via (by with_reducible assumption) ?_ ?_) | omega | (simp only [szs]; omega) | (simp only [szs] at *; omega)))
  clear b1 z1 q1 cc
  have hB := hB1.out
  clear hB1
  have ⟨e1, e2, e3, e4, e5, e6, e7⟩ := t1
  have d0 := (wx'.out.below hB lb).at_ 0 (by omega)
  rw [Nat.add_zero] at d0
  by_cases hx0 : x 0 = 1
  · have hx1 : ((x 0 : Nat) : Int) = 1 := by omega
    rw [hx1] at d0
    go_wp2
    clear d0
    go_loopw [7] (fun si wr => ∃ i : Nat, i ≤ n ∧ si = .int .i64 i ∧ Three wr w.heap.size (.int .i64 (n : Nat)) (.int .i64 pubs) (.slice a m c) ∧ Below w.heap.size w wr ∧ Hid (lowN_ x i = true)) (fun si _ => n - (intOf si).toNat)
    case atStart => exact ⟨0, by omega, rfl, t1, hB, rfl⟩
    case round =>
      clear t1 hB e1 e2 e3 e4 e5 e6 e7
      obtain ⟨i, hi, rfl, t1, hB, hI⟩ := hrel
      have ⟨e1, e2, e3, e4, e5, e6, e7⟩ := t1
      by_cases hlt : i < n
      · have hlt' : (i : Int) < (n : Int) := by omega
        have d1 := (wx'.out.below hB lb).at_ i hlt
        have hstep : Hid (x i < 288230376287764481 → lowN_ x (i + 1) = true) := fun h => by show (lowN_ x i && _) = true; rw [hI.out, decide_eq_true h]; rfl
        have hdec : Hid (¬ x i < 288230376287764481 → bad = 1 ∧ at_ = -1) := fun h => hno1.out (by unfold valuesB; rw [lowN_not h hlt, Bool.and_false])
        clear hI
        generalize x i = xi at *
        by_cases h1 : xi < 288230376287764481
        · have h1' : ¬ (288230376287764481 : Int) ≤ (xi : Int) := by omega
          have hI2 : Hid (lowN_ x (i + 1) = true) := hstep.out h1
          clear hstep hdec h1
          go_wp2
          go_roundw
          case rel => exact ⟨i + 1, by omega, by go_num, by (repeat' (first | (with_reducible first | assumption | exact Three.own (by with_reducible assumption) | refine Three.set ?_ _ _ _ | refine Own3.set ?_ _ _ _ | refine Three.drew ?_ | refine Three.drewN ?_ _ | refine Own3.drew ?_ | refine Own3.drewN ?_ _ | (refine Three.new ?_; simp only [szs]; done) | (refine Own3.new ?_; simp only [szs]; done) | refine Three.alloc ?_ _ | refine Own3.alloc ?_ _ | refine Three.far ?_ ?_ _ _ | refine Own3.far ?_ ?_ _ _ | refine Three.via (by with_reducible assumption) ?_ ?_ | refine Own3.via (by with_reducible assumption) ?_ ?_) | omega | (simp only [szs]; omega))), by (repeat' (first | (with_reducible first | exact Below.refl _ _ | assumption | refine Below.alloc ?_ ?_ _ | refine Below.drew ?_ | refine below_drewN ?_ _ | refine Below.setCell ?_ ?_ _ | refine below_via (by with_reducible assumption) ?_ ?_) | omega | (simp only [szs]; omega) | (simp only [szs] at *; omega))), hI2⟩
          case measure => (simp [intOf]; omega)
        · have h1' : (288230376287764481 : Int) ≤ (xi : Int) := by omega
          obtain ⟨rfl, rfl⟩ := hdec.out h1
          clear hstep hdec h1
          go_wp2
          go_ret2
          exact ⟨rfl, by (repeat' (first | (with_reducible first | exact Below.refl _ _ | assumption | refine Below.alloc ?_ ?_ _ | refine Below.drew ?_ | refine below_drewN ?_ _ | refine Below.setCell ?_ ?_ _ | refine below_via (by with_reducible assumption) ?_ ?_) | omega | (simp only [szs]; omega) | (simp only [szs] at *; omega)))⟩
      · have hlt' : ¬ (i : Int) < (n : Int) := by omega
        obtain rfl : i = n := by omega
        have hVal : Hid (valuesB (i : Int) i x = true) := by
          show valuesB (i : Int) i x = true
          unfold valuesB
          rw [hI.out, decide_eq_true ⟨rfl, hx0⟩]
          rfl
        clear hI hno1 hx0 hx1
        go_wp2
        go_loopw [8] (fun sj ws => ∃ j : Nat, j ≤ m ∧ sj = .int .i64 j ∧ Three ws w.heap.size (.int .i64 (i : Nat)) (.int .i64 pubs) (.slice a m c) ∧ Below w.heap.size w ws ∧ Hid (rowsB R i x j = true)) (fun sj _ => m - (intOf sj).toNat)
        case atStart => exact ⟨0, by omega, rfl, t1, hB, rfl⟩
        case round =>
          clear t1 hB e1 e2 e3 e4 e5 e6 e7
          obtain ⟨j, hj, rfl, t1, hB, hI⟩ := hrel
          have ⟨e1, e2, e3, e4, e5, e6, e7⟩ := t1
          by_cases hlj : j < m
          · have hlj' : (j : Int) < (m : Int) := by omega
            rcases hR'.out with hz | ⟨br, or_, rfl, tr⟩
            · omega
            obtain ⟨d0, d1, d2⟩ := (tr.below hB).row hlj
            unfold Lst.val at d0 d1 d2
            have cv := fun (k : Nat) (hk : k < 3) (W : World) (hW : Below w.heap.size w W) => vvalueW (R j k) (hO'.out j k) (some ⟨b, off, none⟩) i d (by omega) x hx'.out W (TrmsAt.to (tr.at_ j hlj k hk) hW (Nat.le_refl _)) ((SrcW.of wx'.out).to hW (Nat.le_refl _))
            have c0 := cv 0 (by decide)
            have c1 := cv 1 (by decide)
            have c2 := cv 2 (by decide)
            unfold Lst.val at c0 c1 c2
            have cm := gmulW (valL (R j 0) i x).val (valL (R j 1) i x).val (Ob.G_word _) (Ob.G_word _)
            rw [Ob.toG_of_val, Ob.toG_of_val] at cm
            have hq : Hid (((((valL (R j 0) i x * valL (R j 1) i x).val : Nat) : Int) == (((valL (R j 2) i x).val : Nat) : Int)) = rowB R i x j) := by
              show _ = _
              unfold rowB
              by_cases h : valL (R j 0) i x * valL (R j 1) i x = valL (R j 2) i x
              · rw [h, decide_eq_true rfl, beq_self_eq_true]
              · rw [decide_eq_false h, beq_eq_false_iff_ne]
                exact fun e => h (Fin.ext (by omega))
            generalize (valL (R j 0) i x * valL (R j 1) i x).val = p at *
            generalize (valL (R j 0) i x).val = p0 at *
            generalize (valL (R j 1) i x).val = p1 at *
            generalize (valL (R j 2) i x).val = p2 at *
            have zB := hB.size
            clear tr cv
            go_upto_region 15 with (fail)
            have t2 : Three (wr.alloc (.cells #[.slice (R j 0).ad (R j 0).n (R j 0).c, .slice (R j 1).ad (R j 1).n (R j 1).c, .slice (R j 2).ad (R j 2).n (R j 2).c] 44)) wr.heap.size (.slice (R j 0).ad (R j 0).n (R j 0).c) (.slice (R j 1).ad (R j 1).n (R j 1).c) (.slice (R j 2).ad (R j 2).n (R j 2).c) := by (repeat' (first | (with_reducible first | assumption | exact Three.own (by with_reducible assumption) | refine Three.set ?_ _ _ _ | refine Own3.set ?_ _ _ _ | refine Three.drew ?_ | refine Three.drewN ?_ _ | refine Own3.drew ?_ | refine Own3.drewN ?_ _ | (refine Three.new ?_; simp only [szs]; done) | (refine Own3.new ?_; simp only [szs]; done) | refine Three.alloc ?_ _ | refine Own3.alloc ?_ _ | refine Three.far ?_ ?_ _ _ | refine Own3.far ?_ ?_ _ _ | refine Three.via (by with_reducible assumption) ?_ ?_ | refine Own3.via (by with_reducible assumption) ?_ ?_) | omega | (simp only [szs]; omega)))
            have t3 : Three (wr.alloc (.cells #[.slice (R j 0).ad (R j 0).n (R j 0).c, .slice (R j 1).ad (R j 1).n (R j 1).c, .slice (R j 2).ad (R j 2).n (R j 2).c] 44)) w.heap.size (.int .i64 (i : Nat)) (.int .i64 pubs) (.slice (some ⟨br, or_, none⟩) m c) := by (repeat' (first | (with_reducible first | assumption | exact Three.own (by with_reducible assumption) | refine Three.set ?_ _ _ _ | refine Own3.set ?_ _ _ _ | refine Three.drew ?_ | refine Three.drewN ?_ _ | refine Own3.drew ?_ | refine Own3.drewN ?_ _ | (refine Three.new ?_; simp only [szs]; done) | (refine Own3.new ?_; simp only [szs]; done) | refine Three.alloc ?_ _ | refine Own3.alloc ?_ _ | refine Three.far ?_ ?_ _ _ | refine Own3.far ?_ ?_ _ _ | refine Three.via (by with_reducible assumption) ?_ ?_ | refine Own3.via (by with_reducible assumption) ?_ ?_) | omega | (simp only [szs]; omega)))
            have hB2 : Hid (Below w.heap.size w (wr.alloc (.cells #[.slice (R j 0).ad (R j 0).n (R j 0).c, .slice (R j 1).ad (R j 1).n (R j 1).c, .slice (R j 2).ad (R j 2).n (R j 2).c] 44))) := by show Below _ _ _; (repeat' (first | (with_reducible first | exact Below.refl _ _ | assumption | refine Below.alloc ?_ ?_ _ | refine Below.drew ?_ | refine below_drewN ?_ _ | refine Below.setCell ?_ ?_ _ | refine below_via (by with_reducible assumption) ?_ ?_) | omega | (simp only [szs]; omega) | (simp only [szs] at *; omega)))
            have n1 : w.heap.size ≠ wr.heap.size := by have := t1.lt; omega
            have n2 : wr.heap.size ≠ w.heap.size := by omega
            generalize (wr.alloc (.cells #[.slice (R j 0).ad (R j 0).n (R j 0).c, .slice (R j 1).ad (R j 1).n (R j 1).c, .slice (R j 2).ad (R j 2).n (R j 2).c] 44)) = V at *
            generalize wr.heap.size = bw at *
            clear t1 e1 e2 e3 e4 e5 e6 e7 hB zB d0 d1 d2
            have hB := hB2.out
            clear hB2
            have zB := hB.size
            have lw := t2.lt
            have lw2 := t3.lt
            have ⟨e1, e2, e3, e4, e5, e6, e7⟩ := t2
            have ⟨f1, f2, f3, f4, f5, f6, f7⟩ := t3
            go_region_held3 (fun w' => w'.cell? ⟨bw, 0, none⟩ = some (.slice (R j 0).ad (R j 0).n (R j 0).c) ∧ w'.cell? ⟨bw, 1, none⟩ = some (.slice (R j 1).ad (R j 1).n (R j 1).c) ∧ w'.cell? ⟨bw, 2, none⟩ = some (.slice (R j 2).ad (R j 2).n (R j 2).c)) (go_keep)
              (first
                | (first | (go_at_call 28; first | (with_reducible refine (cm _).mono ?_; rintro e w' ⟨rfl, rfl⟩)))
                | (go_at_call 14; first | ((with_reducible refine (c0 _ (by (repeat' (first | (with_reducible first | exact Below.refl _ _ | assumption | refine Below.alloc ?_ ?_ _ | refine Below.drew ?_ | refine below_drewN ?_ _ | refine Below.setCell ?_ ?_ _ | refine below_via (by with_reducible assumption) ?_ ?_) | omega | (simp only [szs]; omega) | (simp only [szs] at *; omega))))).mono ?_); rintro e w5 ⟨rfl, b5⟩; have z5 := b5.size; (try simp only [szs] at z5); have q5 := own3 b5 bw (by first | omega | (simp only [szs]; omega)); have q5' := own3 b5 w.heap.size (by first | omega | (simp only [szs]; omega))) | ((with_reducible refine (c1 _ (by (repeat' (first | (with_reducible first | exact Below.refl _ _ | assumption | refine Below.alloc ?_ ?_ _ | refine Below.drew ?_ | refine below_drewN ?_ _ | refine Below.setCell ?_ ?_ _ | refine below_via (by with_reducible assumption) ?_ ?_) | omega | (simp only [szs]; omega) | (simp only [szs] at *; omega))))).mono ?_); rintro e w6 ⟨rfl, b6⟩; have z6 := b6.size; (try simp only [szs] at z6); have q6 := own3 b6 bw (by first | omega | (simp only [szs]; omega)); have q6' := own3 b6 w.heap.size (by first | omega | (simp only [szs]; omega))) | ((with_reducible refine (c2 _ (by (repeat' (first | (with_reducible first | exact Below.refl _ _ | assumption | refine Below.alloc ?_ ?_ _ | refine Below.drew ?_ | refine below_drewN ?_ _ | refine Below.setCell ?_ ?_ _ | refine below_via (by with_reducible assumption) ?_ ?_) | omega | (simp only [szs]; omega) | (simp only [szs] at *; omega))))).mono ?_); rintro e w7 ⟨rfl, b7⟩; have z7 := b7.size; (try simp only [szs] at z7); have q7 := own3 b7 bw (by first | omega | (simp only [szs]; omega)); have q7' := own3 b7 w.heap.size (by first | omega | (simp only [szs]; omega)))))
            cases hr : rowB R i x j with
            | true =>
              rw [hr] at hq
              have hI2 : Hid (rowsB R i x (j + 1) = true) := by show (rowsB R i x j && rowB R i x j) = true; rw [hI.out, hr]; rfl
              have hq1 := hq.out
              have hq2 : ((p : Int) != (p2 : Int)) = false := by rw [bne_eq_false_iff_eq]; exact beq_iff_eq.1 hq1
              clear hI hr hq
              go_wp2
              go_roundw
              case rel => exact ⟨j + 1, by omega, by go_num, by (repeat' (first | (with_reducible first | assumption | exact Three.own (by with_reducible assumption) | refine Three.set ?_ _ _ _ | refine Own3.set ?_ _ _ _ | refine Three.drew ?_ | refine Three.drewN ?_ _ | refine Own3.drew ?_ | refine Own3.drewN ?_ _ | (refine Three.new ?_; simp only [szs]; done) | (refine Own3.new ?_; simp only [szs]; done) | refine Three.alloc ?_ _ | refine Own3.alloc ?_ _ | refine Three.far ?_ ?_ _ _ | refine Own3.far ?_ ?_ _ _ | refine Three.via (by with_reducible assumption) ?_ ?_ | refine Own3.via (by with_reducible assumption) ?_ ?_) | omega | (simp only [szs]; omega))), by (repeat' (first | (with_reducible first | exact Below.refl _ _ | assumption | refine Below.alloc ?_ ?_ _ | refine Below.drew ?_ | refine below_drewN ?_ _ | refine Below.setCell ?_ ?_ _ | refine below_via (by with_reducible assumption) ?_ ?_) | omega | (simp only [szs]; omega) | (simp only [szs] at *; omega))), hI2⟩
              case measure => (simp [intOf]; omega)
            | false =>
              rw [hr] at hq
              obtain ⟨rfl, rfl⟩ := hbad.out hVal.out j hlj hI.out hr
              have hq1 := hq.out
              have hq2 : ((p : Int) != (p2 : Int)) = true := by rw [bne_iff_ne]; exact fun e => by rw [e] at hq1; simp at hq1
              clear hI hr hq
              go_wp2
              go_ret2
              exact ⟨rfl, by (repeat' (first | (with_reducible first | exact Below.refl _ _ | assumption | refine Below.alloc ?_ ?_ _ | refine Below.drew ?_ | refine below_drewN ?_ _ | refine Below.setCell ?_ ?_ _ | refine below_via (by with_reducible assumption) ?_ ?_) | omega | (simp only [szs]; omega) | (simp only [szs] at *; omega)))⟩
          · have hlj' : ¬ (j : Int) < (m : Int) := by omega
            obtain rfl : j = m := by omega
            obtain ⟨rfl, rfl⟩ := hgood.out hVal.out hI.out
            go_wp2
            go_ret2
            exact ⟨rfl, by (repeat' (first | (with_reducible first | exact Below.refl _ _ | assumption | refine Below.alloc ?_ ?_ _ | refine Below.drew ?_ | refine below_drewN ?_ _ | refine Below.setCell ?_ ?_ _ | refine below_via (by with_reducible assumption) ?_ ?_) | omega | (simp only [szs]; omega) | (simp only [szs] at *; omega)))⟩
  · obtain ⟨rfl, rfl⟩ := hno1.out (by unfold valuesB; rw [decide_eq_false (fun h => hx0 h.2)]; rfl)
    have hx2 : (((x 0 : Nat) : Int) == 1) = false := by rw [beq_eq_false_iff_ne]; omega
    have hx3 : (((x 0 : Nat) : Int) != 1) = true := by rw [bne_iff_ne]; omega
    clear hx0
    generalize x 0 = x0 at *
    go_wp2
    go_ret2
    exact ⟨rfl, by (repeat' (first | (with_reducible first | exact Below.refl _ _ | assumption | refine Below.alloc ?_ ?_ _ | refine Below.drew ?_ | refine below_drewN ?_ _ | refine Below.setCell ?_ ?_ _ | refine below_via (by with_reducible assumption) ?_ ?_) | omega | (simp only [szs]; omega) | (simp only [szs] at *; omega)))⟩
/-- Something is amiss, or nothing. -/
theorem vholdsW (vars pubs : Int) (a : Option Addr) (m c : Nat) (R : Nat → Nat → Lst) (hO : ∀ i j, (R i j).Ok) (hv : vars < 9223372036854775808) (hm : m ≤ 9223372036854775807) (ad : Option Addr) (n d : Nat) (hn : n ≤ 1000000) (x : Nat → Nat) (hx : ∀ i, x i < 18446744073709551616) (w : World)
   (hR : RowsAt w.heap.size w a m R) (hs : SrcW w.heap.size w ad n x) (bad at_ : Int) (hH : HoldIs vars pubs m R n x bad at_) :
    Calls Tryd.prog 18 #[rankV vars pubs a m c, .slice ad n d] w fun e w' => e = .returned (.tuple #[.int .i64 bad, .int .i64 at_]) ∧ Below w.heap.size w w' := by
  have cc := fun (W : World) (h : Below w.heap.size w W) => vcheckW vars pubs a m c R hO hv W (hR.to h (Nat.le_refl _))
  cases hc : checkB vars pubs m R with
  | false =>
    rw [hc] at cc
    obtain ⟨rfl, rfl⟩ : bad = 3 ∧ at_ = -1 := by
      rcases hH with h | ⟨h, _⟩ | ⟨h, _⟩ | ⟨h, _⟩
      · exact h.2
      · rw [hc] at h; cases h
      · rw [hc] at h; cases h
      · rw [hc] at h; cases h
    exact vholds_unsound vars pubs a m c _ w cc
  | true =>
    rw [hc] at cc
    by_cases hnv : (n : Int) = vars
    · have hv1 : 1 ≤ vars := by
        have h : (frameB vars pubs m && soundR vars R m) = true := hc
        rw [Bool.and_eq_true] at h
        have := frameB_yes h.1
        omega
      rcases hs with h | ⟨b, off, rfl, lb, wx⟩
      · omega
      · exact vholds_core vars pubs a m c R hO b off n d hv1 hnv hn x hx w hR lb wx hm bad at_ hH hc cc
    · obtain ⟨rfl, rfl⟩ : bad = 1 ∧ at_ = -1 := by
        have hvb : valuesB vars n x = false := by unfold valuesB; rw [decide_eq_false (fun h => hnv h.1)]; rfl
        rcases hH with h | ⟨_, h⟩ | ⟨_, h, _⟩ | ⟨_, h, _⟩
        · rw [hc] at h; cases h.1
        · exact h.2
        · rw [hvb] at h; cases h
        · rw [hvb] at h; cases h
      exact vholds_few vars pubs a ad m c n d hnv w cc
end Go.Proofs.YtckjojmphdoghaaDoor

namespace Go.Proofs.YtckjojmphdoghaaDoor
open Go.RowKit Go.Proofs
set_option linter.unusedVariables false
set_option linter.unusedSimpArgs false
attribute [local go_sem ↓] Go.wp_at_zero Go.wp_at_succ
set_option maxHeartbeats 2000000 in
theorem rchecks_of (vars pubs : Int) (a : Option Addr) (m c : Nat) (l s : Bool) (w : World)
   (cu : ∀ W, Below w.heap.size w W → Calls Tryd.prog 8 #[] W fun e w' => e = .returned (.bool true) ∧ Below W.heap.size W w')
   (cl : ∀ W, Below w.heap.size w W → Calls Tryd.prog 9 #[rankV vars pubs a m c] W fun e w' => e = .returned (.bool l) ∧ Below W.heap.size W w')
   (cc : l = true → ∀ W, Below w.heap.size w W → Calls Tryd.prog 10 #[rankV vars pubs a m c] W fun e w' => e = .returned (if s = true then .nilIface else .iface 30 (.int .i64 3)) ∧ Below W.heap.size W w')
   (cr : l = true → ∀ W, Below w.heap.size w W → Calls Tryd.prog 11 #[rankV vars pubs a m c] W fun e w' => e = .returned (.bool s) ∧ Below W.heap.size W w') :
    Calls Tryd.prog 3 #[rankV vars pubs a m c] w fun e w' => e = .returned (.bool true) ∧ Below w.heap.size w w' := by
  unfold rankV at *
  cases l with
  | false =>
    clear cc cr
    go_enter Tryd.func3, Tryd.ntmps3
    go_wp2_with (first | (go_at_call 8; (with_reducible refine (cu _ (by (repeat' (first | (with_reducible first | exact Below.refl _ _ | assumption | refine Below.alloc ?_ ?_ _ | refine Below.drew ?_ | refine below_drewN ?_ _ | refine Below.setCell ?_ ?_ _ | refine below_via (by with_reducible assumption) ?_ ?_) | omega | (simp only [szs]; omega) | (simp only [szs] at *; omega))))).mono ?_); rintro e w1 ⟨rfl, b1⟩; have z1 := b1.size; (try simp only [szs] at z1); have q1 := own3 b1 w.heap.size (by first | omega | (simp only [szs]; omega))) | (go_at_call 9; (with_reducible refine (cl _ (by (repeat' (first | (with_reducible first | exact Below.refl _ _ | assumption | refine Below.alloc ?_ ?_ _ | refine Below.drew ?_ | refine below_drewN ?_ _ | refine Below.setCell ?_ ?_ _ | refine below_via (by with_reducible assumption) ?_ ?_) | omega | (simp only [szs]; omega) | (simp only [szs] at *; omega))))).mono ?_); rintro e w2 ⟨rfl, b2⟩; have z2 := b2.size; (try simp only [szs] at z2); have q2 := own3 b2 w.heap.size (by first | omega | (simp only [szs]; omega))))
    go_ret
    exact ⟨rfl, by (repeat' (first | (with_reducible first | exact Below.refl _ _ | assumption | refine Below.alloc ?_ ?_ _ | refine Below.drew ?_ | refine below_drewN ?_ _ | refine Below.setCell ?_ ?_ _ | refine below_via (by with_reducible assumption) ?_ ?_) | omega | (simp only [szs]; omega) | (simp only [szs] at *; omega)))⟩
  | true =>
    replace cc := cc rfl
    replace cr := cr rfl
    have ec := fun w => eql_code w 3 3
    cases s with
    | true =>
      rw [if_pos rfl] at cc
      go_enter Tryd.func3, Tryd.ntmps3
      go_wp2_with (first | (go_at_call 8; (with_reducible refine (cu _ (by (repeat' (first | (with_reducible first | exact Below.refl _ _ | assumption | refine Below.alloc ?_ ?_ _ | refine Below.drew ?_ | refine below_drewN ?_ _ | refine Below.setCell ?_ ?_ _ | refine below_via (by with_reducible assumption) ?_ ?_) | omega | (simp only [szs]; omega) | (simp only [szs] at *; omega))))).mono ?_); rintro e w1 ⟨rfl, b1⟩; have z1 := b1.size; (try simp only [szs] at z1); have q1 := own3 b1 w.heap.size (by first | omega | (simp only [szs]; omega))) | (go_at_call 9; (with_reducible refine (cl _ (by (repeat' (first | (with_reducible first | exact Below.refl _ _ | assumption | refine Below.alloc ?_ ?_ _ | refine Below.drew ?_ | refine below_drewN ?_ _ | refine Below.setCell ?_ ?_ _ | refine below_via (by with_reducible assumption) ?_ ?_) | omega | (simp only [szs]; omega) | (simp only [szs] at *; omega))))).mono ?_); rintro e w2 ⟨rfl, b2⟩; have z2 := b2.size; (try simp only [szs] at z2); have q2 := own3 b2 w.heap.size (by first | omega | (simp only [szs]; omega))) | (go_at_call 10; (with_reducible refine (cc _ (by (repeat' (first | (with_reducible first | exact Below.refl _ _ | assumption | refine Below.alloc ?_ ?_ _ | refine Below.drew ?_ | refine below_drewN ?_ _ | refine Below.setCell ?_ ?_ _ | refine below_via (by with_reducible assumption) ?_ ?_) | omega | (simp only [szs]; omega) | (simp only [szs] at *; omega))))).mono ?_); rintro e w3 ⟨rfl, b3⟩; have z3 := b3.size; (try simp only [szs] at z3); have q3 := own3 b3 w.heap.size (by first | omega | (simp only [szs]; omega))) | (go_at_call 11; (with_reducible refine (cr _ (by (repeat' (first | (with_reducible first | exact Below.refl _ _ | assumption | refine Below.alloc ?_ ?_ _ | refine Below.drew ?_ | refine below_drewN ?_ _ | refine Below.setCell ?_ ?_ _ | refine below_via (by with_reducible assumption) ?_ ?_) | omega | (simp only [szs]; omega) | (simp only [szs] at *; omega))))).mono ?_); rintro e w4 ⟨rfl, b4⟩; have z4 := b4.size; (try simp only [szs] at z4); have q4 := own3 b4 w.heap.size (by first | omega | (simp only [szs]; omega))))
      go_ret
      exact ⟨rfl, by (repeat' (first | (with_reducible first | exact Below.refl _ _ | assumption | refine Below.alloc ?_ ?_ _ | refine Below.drew ?_ | refine below_drewN ?_ _ | refine Below.setCell ?_ ?_ _ | refine below_via (by with_reducible assumption) ?_ ?_) | omega | (simp only [szs]; omega) | (simp only [szs] at *; omega)))⟩
    | false =>
      rw [if_neg (by decide)] at cc
      go_enter Tryd.func3, Tryd.ntmps3
      go_wp2_with (first | (go_at_call 8; (with_reducible refine (cu _ (by (repeat' (first | (with_reducible first | exact Below.refl _ _ | assumption | refine Below.alloc ?_ ?_ _ | refine Below.drew ?_ | refine below_drewN ?_ _ | refine Below.setCell ?_ ?_ _ | refine below_via (by with_reducible assumption) ?_ ?_) | omega | (simp only [szs]; omega) | (simp only [szs] at *; omega))))).mono ?_); rintro e w1 ⟨rfl, b1⟩; have z1 := b1.size; (try simp only [szs] at z1); have q1 := own3 b1 w.heap.size (by first | omega | (simp only [szs]; omega))) | (go_at_call 9; (with_reducible refine (cl _ (by (repeat' (first | (with_reducible first | exact Below.refl _ _ | assumption | refine Below.alloc ?_ ?_ _ | refine Below.drew ?_ | refine below_drewN ?_ _ | refine Below.setCell ?_ ?_ _ | refine below_via (by with_reducible assumption) ?_ ?_) | omega | (simp only [szs]; omega) | (simp only [szs] at *; omega))))).mono ?_); rintro e w2 ⟨rfl, b2⟩; have z2 := b2.size; (try simp only [szs] at z2); have q2 := own3 b2 w.heap.size (by first | omega | (simp only [szs]; omega))) | (go_at_call 10; (with_reducible refine (cc _ (by (repeat' (first | (with_reducible first | exact Below.refl _ _ | assumption | refine Below.alloc ?_ ?_ _ | refine Below.drew ?_ | refine below_drewN ?_ _ | refine Below.setCell ?_ ?_ _ | refine below_via (by with_reducible assumption) ?_ ?_) | omega | (simp only [szs]; omega) | (simp only [szs] at *; omega))))).mono ?_); rintro e w3 ⟨rfl, b3⟩; have z3 := b3.size; (try simp only [szs] at z3); have q3 := own3 b3 w.heap.size (by first | omega | (simp only [szs]; omega))) | (go_at_call 11; (with_reducible refine (cr _ (by (repeat' (first | (with_reducible first | exact Below.refl _ _ | assumption | refine Below.alloc ?_ ?_ _ | refine Below.drew ?_ | refine below_drewN ?_ _ | refine Below.setCell ?_ ?_ _ | refine below_via (by with_reducible assumption) ?_ ?_) | omega | (simp only [szs]; omega) | (simp only [szs] at *; omega))))).mono ?_); rintro e w4 ⟨rfl, b4⟩; have z4 := b4.size; (try simp only [szs] at z4); have q4 := own3 b4 w.heap.size (by first | omega | (simp only [szs]; omega))))
      go_ret
      exact ⟨rfl, by (repeat' (first | (with_reducible first | exact Below.refl _ _ | assumption | refine Below.alloc ?_ ?_ _ | refine Below.drew ?_ | refine below_drewN ?_ _ | refine Below.setCell ?_ ?_ _ | refine below_via (by with_reducible assumption) ?_ ?_) | omega | (simp only [szs]; omega) | (simp only [szs] at *; omega)))⟩
set_option maxRecDepth 4000 in
set_option maxHeartbeats 4000000 in
theorem rholds_of (vars pubs bad at_ : Int) (a ad : Option Addr) (m c n d : Nat) (l : Bool) (w : World) (hg : ErrTy w)
   (cu : ∀ W, Below w.heap.size w W → Calls Tryd.prog 8 #[] W fun e w' => e = .returned (.bool true) ∧ Below W.heap.size W w')
   (cl : ∀ W, Below w.heap.size w W → Calls Tryd.prog 9 #[rankV vars pubs a m c] W fun e w' => e = .returned (.bool l) ∧ Below W.heap.size W w')
   (cH : l = true ∧ n ≤ 5000 → ∀ W, Below w.heap.size w W → Calls Tryd.prog 17 #[rankV vars pubs a m c, .slice ad n d] W fun e w' => ∃ er, e = .returned er ∧ ErrIs W.heap.size w' er bad at_ ∧ Below W.heap.size W w')
   (cR : l = true ∧ n ≤ 5000 → ∀ W, Below w.heap.size w W → Calls Tryd.prog 18 #[rankV vars pubs a m c, .slice ad n d] W fun e w' => e = .returned (.tuple #[.int .i64 bad, .int .i64 at_]) ∧ Below W.heap.size W w') :
    Calls Tryd.prog 5 #[rankV vars pubs a m c, .slice ad n d] w fun e w' => e = .returned (.bool true) ∧ Below w.heap.size w w' := by
  unfold rankV at *
  have hgl := hg.lt
  have hg' : Hid (ErrTy w) := hg
  clear hg
  cases l with
  | false =>
    clear cH cR
    go_enter Tryd.func5, Tryd.ntmps5
    go_wp2_with (first | (go_at_call 8; (with_reducible refine (cu _ (by (repeat' (first | (with_reducible first | exact Below.refl _ _ | assumption | refine Below.alloc ?_ ?_ _ | refine Below.drew ?_ | refine below_drewN ?_ _ | refine Below.setCell ?_ ?_ _ | refine below_via (by with_reducible assumption) ?_ ?_) | omega | (simp only [szs]; omega) | (simp only [szs] at *; omega))))).mono ?_); rintro e w1 ⟨rfl, b1⟩; have z1 := b1.size; (try simp only [szs] at z1); have q1 := own3 b1 w.heap.size (by first | omega | (simp only [szs]; omega))) | (go_at_call 9; (with_reducible refine (cl _ (by (repeat' (first | (with_reducible first | exact Below.refl _ _ | assumption | refine Below.alloc ?_ ?_ _ | refine Below.drew ?_ | refine below_drewN ?_ _ | refine Below.setCell ?_ ?_ _ | refine below_via (by with_reducible assumption) ?_ ?_) | omega | (simp only [szs]; omega) | (simp only [szs] at *; omega))))).mono ?_); rintro e w2 ⟨rfl, b2⟩; have z2 := b2.size; (try simp only [szs] at z2); have q2 := own3 b2 w.heap.size (by first | omega | (simp only [szs]; omega))))
    go_ret
    exact ⟨rfl, by (repeat' (first | (with_reducible first | exact Below.refl _ _ | assumption | refine Below.alloc ?_ ?_ _ | refine Below.drew ?_ | refine below_drewN ?_ _ | refine Below.setCell ?_ ?_ _ | refine below_via (by with_reducible assumption) ?_ ?_) | omega | (simp only [szs]; omega) | (simp only [szs] at *; omega)))⟩
  | true =>
    by_cases hn : n ≤ 5000
    · have hn' : ¬ (5000 : Int) < (n : Int) := by omega
      replace cH := cH ⟨rfl, hn⟩
      replace cR := cR ⟨rfl, hn⟩
      go_enter Tryd.func5, Tryd.ntmps5
      go_wp2_with (first | (go_at_call 8; (with_reducible refine (cu _ (by (repeat' (first | (with_reducible first | exact Below.refl _ _ | assumption | refine Below.alloc ?_ ?_ _ | refine Below.drew ?_ | refine below_drewN ?_ _ | refine Below.setCell ?_ ?_ _ | refine below_via (by with_reducible assumption) ?_ ?_) | omega | (simp only [szs]; omega) | (simp only [szs] at *; omega))))).mono ?_); rintro e w1 ⟨rfl, b1⟩; have z1 := b1.size; (try simp only [szs] at z1); have q1 := own3 b1 w.heap.size (by first | omega | (simp only [szs]; omega))) | (go_at_call 9; (with_reducible refine (cl _ (by (repeat' (first | (with_reducible first | exact Below.refl _ _ | assumption | refine Below.alloc ?_ ?_ _ | refine Below.drew ?_ | refine below_drewN ?_ _ | refine Below.setCell ?_ ?_ _ | refine below_via (by with_reducible assumption) ?_ ?_) | omega | (simp only [szs]; omega) | (simp only [szs] at *; omega))))).mono ?_); rintro e w2 ⟨rfl, b2⟩; have z2 := b2.size; (try simp only [szs] at z2); have q2 := own3 b2 w.heap.size (by first | omega | (simp only [szs]; omega))) | (go_at_call 17; (with_reducible refine (cH _ (by (repeat' (first | (with_reducible first | exact Below.refl _ _ | assumption | refine Below.alloc ?_ ?_ _ | refine Below.drew ?_ | refine below_drewN ?_ _ | refine Below.setCell ?_ ?_ _ | refine below_via (by with_reducible assumption) ?_ ?_) | omega | (simp only [szs]; omega) | (simp only [szs] at *; omega))))).mono ?_); rintro e w3 ⟨er, rfl, i3, b3⟩; have z3 := b3.size; (try simp only [szs] at z3); have q3 := own3 b3 w.heap.size (by first | omega | (simp only [szs]; omega))) | (go_at_call 18; (with_reducible refine (cR _ (by (repeat' (first | (with_reducible first | exact Below.refl _ _ | assumption | refine Below.alloc ?_ ?_ _ | refine Below.drew ?_ | refine below_drewN ?_ _ | refine Below.setCell ?_ ?_ _ | refine below_via (by with_reducible assumption) ?_ ?_) | omega | (simp only [szs]; omega) | (simp only [szs] at *; omega))))).mono ?_); rintro e w4 ⟨rfl, b4⟩; have z4 := b4.size; (try simp only [szs] at z4); have q4 := own3 b4 w.heap.size (by first | omega | (simp only [szs]; omega)); have i4 := i3.below b4 (Nat.le_refl _)) | (go_at_call 19; (with_reducible refine (told_is _ i4 (hg'.out.below (B := w.heap.size) (by (repeat' (first | (with_reducible first | exact Below.refl _ _ | assumption | refine Below.alloc ?_ ?_ _ | refine Below.drew ?_ | refine below_drewN ?_ _ | refine Below.setCell ?_ ?_ _ | refine below_via (by with_reducible assumption) ?_ ?_) | omega | (simp only [szs]; omega) | (simp only [szs] at *; omega)))) hgl)).mono ?_); rintro e w5 ⟨rfl, b5⟩; have z5 := b5.size))
      go_ret
      exact ⟨rfl, by (repeat' (first | (with_reducible first | exact Below.refl _ _ | assumption | refine Below.alloc ?_ ?_ _ | refine Below.drew ?_ | refine below_drewN ?_ _ | refine Below.setCell ?_ ?_ _ | refine below_via (by with_reducible assumption) ?_ ?_) | omega | (simp only [szs]; omega) | (simp only [szs] at *; omega)))⟩
    · have hn' : (5000 : Int) < (n : Int) := by omega
      clear cH cR
      go_enter Tryd.func5, Tryd.ntmps5
      go_wp2_with (first | (go_at_call 8; (with_reducible refine (cu _ (by (repeat' (first | (with_reducible first | exact Below.refl _ _ | assumption | refine Below.alloc ?_ ?_ _ | refine Below.drew ?_ | refine below_drewN ?_ _ | refine Below.setCell ?_ ?_ _ | refine below_via (by with_reducible assumption) ?_ ?_) | omega | (simp only [szs]; omega) | (simp only [szs] at *; omega))))).mono ?_); rintro e w1 ⟨rfl, b1⟩; have z1 := b1.size; (try simp only [szs] at z1); have q1 := own3 b1 w.heap.size (by first | omega | (simp only [szs]; omega))) | (go_at_call 9; (with_reducible refine (cl _ (by (repeat' (first | (with_reducible first | exact Below.refl _ _ | assumption | refine Below.alloc ?_ ?_ _ | refine Below.drew ?_ | refine below_drewN ?_ _ | refine Below.setCell ?_ ?_ _ | refine below_via (by with_reducible assumption) ?_ ?_) | omega | (simp only [szs]; omega) | (simp only [szs] at *; omega))))).mono ?_); rintro e w2 ⟨rfl, b2⟩; have z2 := b2.size; (try simp only [szs] at z2); have q2 := own3 b2 w.heap.size (by first | omega | (simp only [szs]; omega))))
      go_ret
      exact ⟨rfl, by (repeat' (first | (with_reducible first | exact Below.refl _ _ | assumption | refine Below.alloc ?_ ?_ _ | refine Below.drew ?_ | refine below_drewN ?_ _ | refine Below.setCell ?_ ?_ _ | refine below_via (by with_reducible assumption) ?_ ?_) | omega | (simp only [szs]; omega) | (simp only [szs] at *; omega)))⟩
end Go.Proofs.YtckjojmphdoghaaDoor

namespace Go.Proofs.YtckjojmphdoghaaDoor
open Go.RowKit Go.Proofs
set_option linter.unusedVariables false
set_option linter.unusedSimpArgs false

/-- All rows behind each other, the other way round. -/
def revR (m : Nat) (R : Nat → Nat → Lst) (i j : Nat) : Lst := R (m - 1 - i) j
theorem soundR_row {vars : Int} {R : Nat → Nat → Lst} {i : Nat} : ∀ {m : Nat}, soundR vars R m = true → i < m → (soundB vars (R i 0) && (soundB vars (R i 1) && soundB vars (R i 2))) = true
  | m + 1, h, hi => by
    have h' : (soundR vars R m && (soundB vars (R m 0) && (soundB vars (R m 1) && soundB vars (R m 2)))) = true := h
    rw [Bool.and_eq_true] at h'
    rcases Nat.lt_or_ge i m with h2 | h2
    · exact soundR_row h'.1 h2
    · obtain rfl : i = m := by omega
      exact h'.2
theorem soundR_all {vars : Int} {R : Nat → Nat → Lst} : ∀ {m : Nat}, (∀ i, i < m → (soundB vars (R i 0) && (soundB vars (R i 1) && soundB vars (R i 2))) = true) → soundR vars R m = true
  | 0, _ => rfl
  | m + 1, h => by
    show (soundR vars R m && (soundB vars (R m 0) && (soundB vars (R m 1) && soundB vars (R m 2)))) = true
    rw [soundR_all fun i hi => h i (by omega), h m (by omega)]
    rfl
theorem rowsB_all {R : Nat → Nat → Lst} {n : Nat} {x : Nat → Nat} : ∀ {m : Nat}, (∀ i, i < m → rowB R n x i = true) → rowsB R n x m = true
  | 0, _ => rfl
  | m + 1, h => by
    show (rowsB R n x m && rowB R n x m) = true
    rw [rowsB_all fun i hi => h i (by omega), h m (by omega)]
    rfl
theorem bool_eq {a b : Bool} (h : a = true → b = true) (k : b = true → a = true) : a = b := by
  cases a <;> cases b
  · rfl
  · exact (k rfl).symm ▸ rfl
  · exact h rfl ▸ rfl
  · rfl
theorem soundR_rev (vars : Int) (R : Nat → Nat → Lst) (m : Nat) : soundR vars (revR m R) m = soundR vars R m := by
  refine bool_eq (fun h => soundR_all fun i hi => ?_) (fun h => soundR_all fun i hi => ?_)
  · have := soundR_row h (i := m - 1 - i) (by omega)
    unfold revR at this
    rw [show m - 1 - (m - 1 - i) = i by omega] at this
    exact this
  · exact soundR_row h (i := m - 1 - i) (by omega)
theorem rowsB_rev (R : Nat → Nat → Lst) (n : Nat) (x : Nat → Nat) (m : Nat) : rowsB (revR m R) n x m = rowsB R n x m := by
  refine bool_eq (fun h => rowsB_all fun i hi => ?_) (fun h => rowsB_all fun i hi => ?_)
  · have := rowsB_row h (i := m - 1 - i) (by omega)
    unfold rowB revR at this
    rw [show m - 1 - (m - 1 - i) = i by omega] at this
    exact this
  · exact rowsB_row h (i := m - 1 - i) (by omega)
/-- Nothing is amiss just if all is right. -/
theorem HoldIs.nil_iff {vars pubs : Int} {m : Nat} {R : Nat → Nat → Lst} {n : Nat} {x : Nat → Nat} {bad at_ : Int} (h : HoldIs vars pubs m R n x bad at_) : (bad = 0 ∧ at_ = -1) ↔ (checkB vars pubs m R = true ∧ valuesB vars n x = true ∧ rowsB R n x m = true) := by
  rcases h with ⟨h1, rfl, rfl⟩ | ⟨h1, h2, rfl, rfl⟩ | ⟨h1, h2, i, h3, h4, h5, rfl, rfl⟩ | ⟨h1, h2, h3, rfl, rfl⟩
  · exact ⟨fun h => (by omega), fun h => (by rw [h1] at h; cases h.1)⟩
  · exact ⟨fun h => (by omega), fun h => (by rw [h2] at h; cases h.2.1)⟩
  · exact ⟨fun h => (by omega), fun h => (by rw [rowsB_row h.2.2 h3] at h5; cases h5)⟩
  · exact ⟨fun _ => ⟨h1, h2, h3⟩, fun _ => ⟨rfl, rfl⟩⟩
/-- The other way round the same holds. -/
theorem HoldIs.rev {vars pubs : Int} {m : Nat} {R : Nat → Nat → Lst} {n : Nat} {x : Nat → Nat} {bad at_ bad' at' : Int} (h : HoldIs vars pubs m R n x bad at_) (h' : HoldIs vars pubs m (revR m R) n x bad' at') : (bad = 0 ∧ at_ = -1) ↔ (bad' = 0 ∧ at' = -1) := by
  rw [h.nil_iff, h'.nil_iff]
  unfold checkB
  rw [soundR_rev, rowsB_rev]
end Go.Proofs.YtckjojmphdoghaaDoor

namespace Go.Proofs.YtckjojmphdoghaaDoor
open Go.RowKit Go.Proofs
set_option linter.unusedVariables false
set_option linter.unusedSimpArgs false
attribute [local go_sem ↓] Go.wp_at_zero Go.wp_at_succ
theorem Three.grown {w w' : World} {b : Nat} {x y z : Value} {row : Option Nat} (t : Three w b x y z) (hg : w.grownBy w' row) (h : some b ≠ row) : Three w' b x y z := by
  have hb := hg.block b t.lt h
  exact ⟨by rw [World.cell?_of_block hb]; exact t.c0, by rw [World.cell?_of_block hb]; exact t.c1, by rw [World.cell?_of_block hb]; exact t.c2, by rw [World.frozen?_of_block hb]; exact t.f0, by rw [World.frozen?_of_block hb]; exact t.f1, by rw [World.frozen?_of_block hb]; exact t.f2, Nat.lt_of_lt_of_le t.lt hg.size⟩
set_option maxRecDepth 8000 in
set_option maxHeartbeats 16000000 in
theorem rorder_core (vars pubs bad at_ bad' at' : Int) (a : Option Addr) (m c : Nat) (hm : m ≤ 1000) (R : Nat → Nat → Lst) (ad : Option Addr) (n d : Nat) (hn : n ≤ 5000) (w : World) (hR : RowsAt w.heap.size w a m R)
   (hiff : (bad = 0 ∧ at_ = -1) ↔ (bad' = 0 ∧ at' = -1))
   (cu : ∀ W, Below w.heap.size w W → Calls Tryd.prog 8 #[] W fun e w' => e = .returned (.bool true) ∧ Below W.heap.size W w')
   (cl : ∀ W, Below w.heap.size w W → Calls Tryd.prog 9 #[rankV vars pubs a m c] W fun e w' => e = .returned (.bool true) ∧ Below W.heap.size W w')
   (cH : ∀ W, Below w.heap.size w W → Calls Tryd.prog 17 #[rankV vars pubs a m c, .slice ad n d] W fun e w' => ∃ er, e = .returned er ∧ ErrIs W.heap.size w' er bad at_ ∧ Below W.heap.size W w')
   (cH' : ∀ W a' c', Below w.heap.size w W → RowsAt W.heap.size W a' m (revR m R) → Calls Tryd.prog 17 #[rankV vars pubs a' m c', .slice ad n d] W fun e w' => ∃ er, e = .returned er ∧ ErrIs W.heap.size w' er bad' at' ∧ Below W.heap.size W w') :
    Calls Tryd.prog 6 #[rankV vars pubs a m c, .slice ad n d] w fun e w' => e = .returned (.bool true) ∧ Below w.heap.size w w' := by
  unfold rankV at *
  have hn' : ¬ (5000 : Int) < (n : Int) := by omega
  have hR' : Hid (RowsAt w.heap.size w a m R) := hR
  have hiff' : Hid ((bad = 0 ∧ at_ = -1) ↔ (bad' = 0 ∧ at' = -1)) := hiff
  clear hR hiff
  go_enter Tryd.func6, Tryd.ntmps6
  go_upto_region 8 with (first | (go_at_call 8; (with_reducible refine (cu _ (by (repeat' (first | (with_reducible first | exact Below.refl _ _ | assumption | refine Below.alloc ?_ ?_ _ | refine Below.drew ?_ | refine below_drewN ?_ _ | refine Below.setCell ?_ ?_ _ | refine below_via (by with_reducible assumption) ?_ ?_) | omega | (simp only [szs]; omega) | (simp only [szs] at *; omega))))).mono ?_); rintro e w1 ⟨rfl, b1⟩; have z1 := b1.size; (try simp only [szs] at z1); have q1 := own3 b1 w.heap.size (by first | omega | (simp only [szs]; omega))) | (go_at_call 9; (with_reducible refine (cl _ (by (repeat' (first | (with_reducible first | exact Below.refl _ _ | assumption | refine Below.alloc ?_ ?_ _ | refine Below.drew ?_ | refine below_drewN ?_ _ | refine Below.setCell ?_ ?_ _ | refine below_via (by with_reducible assumption) ?_ ?_) | omega | (simp only [szs]; omega) | (simp only [szs] at *; omega))))).mono ?_); rintro e w2 ⟨rfl, b2⟩; have z2 := b2.size; (try simp only [szs] at z2); have q2 := own3 b2 w.heap.size (by first | omega | (simp only [szs]; omega))))
  have t1 : Three (w2.alloc (.cells #[.int .i64 vars, .int .i64 pubs, .slice none 0 0] 24)) w.heap.size (.int .i64 vars) (.int .i64 pubs) (.slice a m c) := by (repeat' (first | (with_reducible first | assumption | exact Three.own (by with_reducible assumption) | refine Three.set ?_ _ _ _ | refine Own3.set ?_ _ _ _ | refine Three.drew ?_ | refine Three.drewN ?_ _ | refine Own3.drew ?_ | refine Own3.drewN ?_ _ | (refine Three.new ?_; simp only [szs]; done) | (refine Own3.new ?_; simp only [szs]; done) | refine Three.alloc ?_ _ | refine Own3.alloc ?_ _ | refine Three.far ?_ ?_ _ _ | refine Own3.far ?_ ?_ _ _ | refine Three.via (by with_reducible assumption) ?_ ?_ | refine Own3.via (by with_reducible assumption) ?_ ?_) | omega | (simp only [szs]; omega)))
  have t2 : Three (w2.alloc (.cells #[.int .i64 vars, .int .i64 pubs, .slice none 0 0] 24)) w2.heap.size (.int .i64 vars) (.int .i64 pubs) (.slice none 0 0) := by (repeat' (first | (with_reducible first | assumption | exact Three.own (by with_reducible assumption) | refine Three.set ?_ _ _ _ | refine Own3.set ?_ _ _ _ | refine Three.drew ?_ | refine Three.drewN ?_ _ | refine Own3.drew ?_ | refine Own3.drewN ?_ _ | (refine Three.new ?_; simp only [szs]; done) | (refine Own3.new ?_; simp only [szs]; done) | refine Three.alloc ?_ _ | refine Own3.alloc ?_ _ | refine Three.far ?_ ?_ _ _ | refine Own3.far ?_ ?_ _ _ | refine Three.via (by with_reducible assumption) ?_ ?_ | refine Own3.via (by with_reducible assumption) ?_ ?_) | omega | (simp only [szs]; omega)))
  have hB1 : Hid (Below w.heap.size w (w2.alloc (.cells #[.int .i64 vars, .int .i64 pubs, .slice none 0 0] 24))) := by show Below _ _ _; (repeat' (first | (with_reducible first | exact Below.refl _ _ | assumption | refine Below.alloc ?_ ?_ _ | refine Below.drew ?_ | refine below_drewN ?_ _ | refine Below.setCell ?_ ?_ _ | refine below_via (by with_reducible assumption) ?_ ?_) | omega | (simp only [szs]; omega) | (simp only [szs] at *; omega)))
  have n1 : w.heap.size ≠ w2.heap.size := by omega
  have n2 : w2.heap.size ≠ w.heap.size := by omega
  have lw : w.heap.size < w2.heap.size := by omega
  have lV : w2.heap.size < (w2.alloc (.cells #[.int .i64 vars, .int .i64 pubs, .slice none 0 0] 24)).heap.size := by simp only [szs]; omega
  generalize (w2.alloc (.cells #[.int .i64 vars, .int .i64 pubs, .slice none 0 0] 24)) = V at *
  generalize w2.heap.size = bt at *
  clear b1 z1 q1 b2 z2 q2 cu cl
  have hB := hB1.out
  clear hB1
  obtain ⟨nb, hnb⟩ : ∃ nb, V.heap.size = nb := ⟨_, rfl⟩
  rw [hnb] at lV
  have hVn : nb ≤ V.heap.size := by omega
  go_loopw [8] (fun sj wr => ∃ (k : Nat) (j : Int) (v : Value), k ≤ m ∧ sj = .int .i64 j ∧ Hid (j = (m : Int) - 1 - (k : Int)) ∧ Three wr w.heap.size (.int .i64 vars) (.int .i64 pubs) (.slice a m c) ∧ Three wr bt (.int .i64 vars) (.int .i64 pubs) v ∧ Below w.heap.size w wr ∧ nb ≤ wr.heap.size ∧ Hid (OwnR wr nb v k (revR m R))) (fun sj _ => (intOf sj + 1).toNat)
  case atStart => exact ⟨0, (m : Int) - 1, _, by omega, by go_num, (by show (m : Int) - 1 = (m : Int) - 1 - ((0 : Nat) : Int); omega), t1, t2, hB, hVn, OwnR.nil _ _ _⟩
  case round =>
    clear t1 t2 hB hVn
    obtain ⟨k, j, v, hk, rfl, hj, t1, t2, hB, hn2, hown⟩ := hrel
    have ⟨e1, e2, e3, e4, e5, e6, e7⟩ := t1
    have ⟨f1, f2, f3, f4, f5, f6, f7⟩ := t2
    by_cases hlt : k < m
    · obtain ⟨i, hi⟩ : ∃ i, m - 1 - k = i := ⟨_, rfl⟩
      obtain rfl : j = (i : Int) := by have := hj.out; omega
      have hi0 : (0 : Int) ≤ (i : Int) := by omega
      have him : i < m := by omega
      have hi1 : (i : Int) < (m : Int) := by omega
      have hnext : Hid ((i : Int) - 1 = (m : Int) - 1 - ((k + 1 : Nat) : Int)) := by show _ = _; omega
      rcases hR'.out with hz | ⟨br, or_, rfl, tr⟩
      · omega
      have hkeep : Hid (∀ W, Below wr.heap.size wr W → (fun w' => w'.cell? ⟨bt, 2, none⟩ = some v ∧ w'.cell? ⟨w.heap.size, 2, none⟩ = some (.slice (some ⟨br, or_, none⟩) m c) ∧ w'.cell? ⟨br, or_ + i * 3, none⟩ = some (.slice (R i 0).ad (R i 0).n (R i 0).c) ∧ w'.cell? ⟨br, or_ + i * 3 + 1, none⟩ = some (.slice (R i 1).ad (R i 1).n (R i 1).c) ∧ w'.cell? ⟨br, or_ + i * 3 + 2, none⟩ = some (.slice (R i 2).ad (R i 2).n (R i 2).c)) W) := fun W hW => by
        have hBW : Below w.heap.size w W := below_via hW hB hB.size
        obtain ⟨d0, d1, d2⟩ := (tr.below hBW).row him
        exact ⟨(t2.below hW t2.lt).c2, (t1.below hW t1.lt).c2, d0, d1, d2⟩
      obtain ⟨_, _, d0, d1, d2⟩ := hkeep.out wr (Below.refl _ _)
      have r0 : revR m R k 0 = R i 0 := by show R (m - 1 - k) 0 = _; rw [hi]
      have r1 : revR m R k 1 = R i 1 := by show R (m - 1 - k) 1 = _; rw [hi]
      have r2 : revR m R k 2 = R i 2 := by show R (m - 1 - k) 2 = _; rw [hi]
      have r0' : Hid (revR m R k 0 = R i 0) := r0
      have r1' : Hid (revR m R k 1 = R i 1) := r1
      have r2' : Hid (revR m R k 2 = R i 2) := r2
      clear r0 r1 r2 tr hj
      have hzB := hB.size
      go_wp2
      refine wp_region_noPanic ?_
      refine region_lastly (S := (fun w' => w'.cell? ⟨bt, 2, none⟩ = some v ∧ w'.cell? ⟨w.heap.size, 2, none⟩ = some (.slice (some ⟨br, or_, none⟩) m c) ∧ w'.cell? ⟨br, or_ + i * 3, none⟩ = some (.slice (R i 0).ad (R i 0).n (R i 0).c) ∧ w'.cell? ⟨br, or_ + i * 3 + 1, none⟩ = some (.slice (R i 1).ad (R i 1).n (R i 1).c) ∧ w'.cell? ⟨br, or_ + i * 3 + 2, none⟩ = some (.slice (R i 2).ad (R i 2).n (R i 2).c))) [8, 10] (by kernel_rfl) (by ((try dsimp only); (exact hkeep.out _ (by (repeat' (first | (with_reducible first | exact Below.refl _ _ | assumption | refine Below.alloc ?_ ?_ _ | refine Below.drew ?_ | refine below_drewN ?_ _ | refine Below.setCell ?_ ?_ _ | refine below_via (by with_reducible assumption) ?_ ?_) | omega | (simp only [szs]; omega) | (simp only [szs] at *; omega))))))) (fun hHeld => ?_)
      refine anyZ_free (i := 0) (oi := ?oi_1) (v := ?v_1) ?hi_1 ?hs_1 ?hf_1 ?hr_1 ?hQ_1 (Or.inl ⟨?hw_1, ?hy_1⟩) ?hrest_1
      case hi_1 => (simp only [List.getElem?_toArray, List.getElem?_cons_succ, List.getElem?_cons_zero]; exact rfl)
      case hs_1 => kernel_rfl
      case hf_1 => kernel_rfl
      case hr_1 => kernel_rfl
      case hQ_1 => exact fun _ _ _ h => h
      case hw_1 => rfl
      case hy_1 => (intro w _; go_simp; try with_reducible rfl)
      try simp only [Act.put, List.setIfInBounds_toArray, List.set_cons_zero, List.set_cons_succ]
      refine anyZ_take (i := 1) (oi := ?oi_2) (v := ?v_2) ?hi_2 ?hz_2 ?hs_2 ?hf_2 ?hr_2 ?hQ_2 (Or.inl ⟨?hw_2, ?hy_2⟩) ?hS_2 ?hrest_2
      case hi_2 => (simp only [List.getElem?_toArray, List.getElem?_cons_succ, List.getElem?_cons_zero]; exact rfl)
      case hz_2 => kernel_rfl
      case hs_2 => kernel_rfl
      case hf_2 => kernel_rfl
      case hr_2 => kernel_rfl
      case hQ_2 => exact fun _ _ _ h => h
      case hw_2 => rfl
      case hS_2 => assumption
      case hy_2 => (intro w hSw; (try dsimp only at hSw); go_simp; try with_reducible rfl)
      try simp only [Act.put, List.setIfInBounds_toArray, List.set_cons_zero, List.set_cons_succ]
      refine anyZ_free (i := 2) (oi := ?oi_3) (v := ?v_3) ?hi_3 ?hs_3 ?hf_3 ?hr_3 ?hQ_3 (Or.inl ⟨?hw_3, ?hy_3⟩) ?hrest_3
      case hi_3 => (simp only [List.getElem?_toArray, List.getElem?_cons_succ, List.getElem?_cons_zero]; exact rfl)
      case hs_3 => kernel_rfl
      case hf_3 => kernel_rfl
      case hr_3 => kernel_rfl
      case hQ_3 => exact fun _ _ _ h => h
      case hw_3 => rfl
      case hy_3 => (intro w _; go_simp; try with_reducible rfl)
      try simp only [Act.put, List.setIfInBounds_toArray, List.set_cons_zero, List.set_cons_succ]
      refine anyZ_free (i := 4) (oi := ?oi_4) (v := ?v_4) ?hi_4 ?hs_4 ?hf_4 ?hr_4 ?hQ_4 (Or.inl ⟨?hw_4, ?hy_4⟩) ?hrest_4
      case hi_4 => (simp only [List.getElem?_toArray, List.getElem?_cons_succ, List.getElem?_cons_zero]; exact rfl)
      case hs_4 => kernel_rfl
      case hf_4 => kernel_rfl
      case hr_4 => kernel_rfl
      case hQ_4 => exact fun _ _ _ h => h
      case hw_4 => rfl
      case hy_4 => (intro w _; go_simp; try with_reducible rfl)
      try simp only [Act.put, List.setIfInBounds_toArray, List.set_cons_zero, List.set_cons_succ]
      refine anyZ_ready (rs := [3]) (by kernel_rfl) (by simp) ?_
      refine (AllZ.cons (o := ?o_5) ?ho_5 (fun K hK => ?st_5) AllZ.nil)
      case ho_5 => (simp only [List.getElem?_toArray, List.getElem?_cons_succ, List.getElem?_cons_zero]; exact rfl)
      case st_5 =>
        go_simp
        refine hK.out _ _ (by ((try dsimp only); (exact hkeep.out _ (by (repeat' (first | (with_reducible first | exact Below.refl _ _ | assumption | refine Below.alloc ?_ ?_ _ | refine Below.drew ?_ | refine below_drewN ?_ _ | refine Below.setCell ?_ ?_ _ | refine below_via (by with_reducible assumption) ?_ ?_) | omega | (simp only [szs]; omega) | (simp only [szs] at *; omega))))))) (fun hHeld => ?_)
        clear hK K
        try simp only [Act.put, List.setIfInBounds_toArray, List.set_cons_zero, List.set_cons_succ]
        refine anyZ_ready (rs := [5]) (by kernel_rfl) (by simp) ?_
        refine (AllZ.cons (o := ?o_6) ?ho_6 (fun K hK => ?st_6) AllZ.nil)
        case ho_6 => (simp only [List.getElem?_toArray, List.getElem?_cons_succ, List.getElem?_cons_zero]; exact rfl)
        case st_6 =>
          go_simp
          refine hK.out _ _ (by ((try dsimp only); (exact hkeep.out _ (by (repeat' (first | (with_reducible first | exact Below.refl _ _ | assumption | refine Below.alloc ?_ ?_ _ | refine Below.drew ?_ | refine below_drewN ?_ _ | refine Below.setCell ?_ ?_ _ | refine below_via (by with_reducible assumption) ?_ ?_) | omega | (simp only [szs]; omega) | (simp only [szs] at *; omega))))))) (fun hHeld => ?_)
          clear hK K
          try simp only [Act.put, List.setIfInBounds_toArray, List.set_cons_zero, List.set_cons_succ]
          refine anyZ_ready (rs := [6]) (by kernel_rfl) (by simp) ?_
          refine (AllZ.cons (o := ?o_7) ?ho_7 (fun K hK => ?st_7) AllZ.nil)
          case ho_7 => (simp only [List.getElem?_toArray, List.getElem?_cons_succ, List.getElem?_cons_zero]; exact rfl)
          case st_7 =>
            go_simp
            refine hK.out _ _ (by ((try dsimp only); (exact hkeep.out _ (by (repeat' (first | (with_reducible first | exact Below.refl _ _ | assumption | refine Below.alloc ?_ ?_ _ | refine Below.drew ?_ | refine below_drewN ?_ _ | refine Below.setCell ?_ ?_ _ | refine below_via (by with_reducible assumption) ?_ ?_) | omega | (simp only [szs]; omega) | (simp only [szs] at *; omega))))))) (fun hHeld => ?_)
            clear hK K
            try simp only [Act.put, List.setIfInBounds_toArray, List.set_cons_zero, List.set_cons_succ]
            refine anyZ_ready (rs := [7]) (by kernel_rfl) (by simp) ?_
            refine (AllZ.cons (o := ?o_8) ?ho_8 (fun K hK => ?st_8) AllZ.nil)
            case ho_8 => (simp only [List.getElem?_toArray, List.getElem?_cons_succ, List.getElem?_cons_zero]; exact rfl)
            case st_8 =>
              go_simp
              refine hK.out _ _ (by ((try dsimp only); (exact hkeep.out _ (by (repeat' (first | (with_reducible first | exact Below.refl _ _ | assumption | refine Below.alloc ?_ ?_ _ | refine Below.drew ?_ | refine below_drewN ?_ _ | refine Below.setCell ?_ ?_ _ | refine below_via (by with_reducible assumption) ?_ ?_) | omega | (simp only [szs]; omega) | (simp only [szs] at *; omega))))))) (fun hHeld => ?_)
              clear hK K
              try simp only [Act.put, List.setIfInBounds_toArray, List.set_cons_zero, List.set_cons_succ]
              refine anyZ_ready (rs := [8]) (by kernel_rfl) (by simp) ?_
              refine (AllZ.last (o := ?o_9) ?ho_9 (by rfl) (fun K hK => ?st_9) AllZ.nil)
              case ho_9 => (simp only [List.getElem?_toArray, List.getElem?_cons_succ, List.getElem?_cons_zero]; exact rfl)
              case st_9 =>
                rw [if_pos (by rfl)]; (refine wp_app1R _ _ rfl nb _ k _ rfl (hown.out.on (by (repeat' (first | (with_reducible first | exact Below.refl _ _ | assumption | refine Below.alloc ?_ ?_ _ | refine Below.drew ?_ | refine below_drewN ?_ _ | refine Below.setCell ?_ ?_ _ | refine below_via (by with_reducible assumption) ?_ ?_) | omega | (simp only [szs]; omega) | (simp only [szs] at *; omega))))) wr.heap.size rfl (by rw [r0'.out]; simp [go_sem, Lst.val]) (by rw [r1'.out]; simp [go_sem, Lst.val]) (by rw [r2'.out]; simp [go_sem, Lst.val]) (by omega) (by simp only [szs]; omega) ?_); intro v0 w1 ho0 hg; obtain ⟨g', c', rfl⟩ := OwnR.form ho0 (by omega); have ho : Hid (OwnR w1 nb (.slice (some ⟨g', 0, none⟩) (k + 1) c') (k + 1) (revR m R)) := ho0; have hneb : some bt ≠ v.ownBlock := fun e => (by have := (hown.out.lt bt e.symm).1; omega); have hnew : some w.heap.size ≠ v.ownBlock := fun e => (by have := (hown.out.lt _ e.symm).1; omega); have t2a := Three.grown (x := .int .i64 vars) (y := .int .i64 pubs) (z := v) (b := bt) (by (repeat' (first | (with_reducible first | assumption | exact Three.own (by with_reducible assumption) | refine Three.set ?_ _ _ _ | refine Own3.set ?_ _ _ _ | refine Three.drew ?_ | refine Three.drewN ?_ _ | refine Own3.drew ?_ | refine Own3.drewN ?_ _ | (refine Three.new ?_; simp only [szs]; done) | (refine Own3.new ?_; simp only [szs]; done) | refine Three.alloc ?_ _ | refine Own3.alloc ?_ _ | refine Three.far ?_ ?_ _ _ | refine Own3.far ?_ ?_ _ _ | refine Three.via (by with_reducible assumption) ?_ ?_ | refine Own3.via (by with_reducible assumption) ?_ ?_) | omega | (simp only [szs]; omega)))) hg hneb; have t1a := Three.grown (x := .int .i64 vars) (y := .int .i64 pubs) (z := .slice (some ⟨br, or_, none⟩) m c) (b := w.heap.size) (by (repeat' (first | (with_reducible first | assumption | exact Three.own (by with_reducible assumption) | refine Three.set ?_ _ _ _ | refine Own3.set ?_ _ _ _ | refine Three.drew ?_ | refine Three.drewN ?_ _ | refine Own3.drew ?_ | refine Own3.drewN ?_ _ | (refine Three.new ?_; simp only [szs]; done) | (refine Own3.new ?_; simp only [szs]; done) | refine Three.alloc ?_ _ | refine Own3.alloc ?_ _ | refine Three.far ?_ ?_ _ _ | refine Own3.far ?_ ?_ _ _ | refine Three.via (by with_reducible assumption) ?_ ?_ | refine Own3.via (by with_reducible assumption) ?_ ?_) | omega | (simp only [szs]; omega)))) hg hnew; have hBg : Hid (Below w.heap.size w w1) := (by show Below _ _ _; exact Below.grown (by (repeat' (first | (with_reducible first | exact Below.refl _ _ | assumption | refine Below.alloc ?_ ?_ _ | refine Below.drew ?_ | refine below_drewN ?_ _ | refine Below.setCell ?_ ?_ _ | refine below_via (by with_reducible assumption) ?_ ?_) | omega | (simp only [szs]; omega) | (simp only [szs] at *; omega)))) hg (by simp only [szs]; omega) (fun kk hk => (by have := (hown.out.lt kk hk).1; omega))); have zg : nb ≤ w1.heap.size := (by have := hg.size; simp only [szs] at this; omega); have ⟨f1', f2', f3', f4', f5', f6', f7'⟩ := t2a; clear ho0 hg
                refine hK.out _ _ ?_
                clear hK K
                try simp only [Act.put, List.setIfInBounds_toArray, List.set_cons_zero, List.set_cons_succ]
                refine anyZ_free (i := 9) (oi := ?oi_10) (v := ?v_10) ?hi_10 ?hs_10 ?hf_10 ?hr_10 ?hQ_10 (Or.inl ⟨?hw_10, ?hy_10⟩) ?hrest_10
                case hi_10 => (simp only [List.getElem?_toArray, List.getElem?_cons_succ, List.getElem?_cons_zero]; exact rfl)
                case hs_10 => kernel_rfl
                case hf_10 => kernel_rfl
                case hr_10 => kernel_rfl
                case hQ_10 => exact fun _ _ _ h => h
                case hw_10 => rfl
                case hy_10 => (intro w _; go_simp; try with_reducible rfl)
                try simp only [Act.put, List.setIfInBounds_toArray, List.set_cons_zero, List.set_cons_succ]
                refine anyZ_ready (rs := [10]) (by kernel_rfl) (by simp) ?_
                refine (AllZ.last (o := ?o_11) ?ho_11 (by rfl) (fun K hK => ?st_11) AllZ.nil)
                case ho_11 => (simp only [List.getElem?_toArray, List.getElem?_cons_succ, List.getElem?_cons_zero]; exact rfl)
                case st_11 =>
                  go_simp
                  refine hK.out _ _ ?_
                  clear hK K
                  try simp only [Act.put, List.setIfInBounds_toArray, List.set_cons_zero, List.set_cons_succ]
                  refine anyZ_done (by kernel_rfl) ?_ _
                  refine NoPanic.normal ?_
                  have t2b : Three (w1.setCell ⟨bt, 2, none⟩ (.slice (some ⟨g', 0, none⟩) (k + 1) c')) bt (.int .i64 vars) (.int .i64 pubs) (.slice (some ⟨g', 0, none⟩) (k + 1) c') := t2a.put2 _
                  have t1b : Three (w1.setCell ⟨bt, 2, none⟩ (.slice (some ⟨g', 0, none⟩) (k + 1) c')) w.heap.size (.int .i64 vars) (.int .i64 pubs) (.slice (some ⟨br, or_, none⟩) m c) := t1a.far n2 _ _
                  have hBb : Hid (Below w.heap.size w (w1.setCell ⟨bt, 2, none⟩ (.slice (some ⟨g', 0, none⟩) (k + 1) c'))) := hBg.out.setCell (by show w.heap.size ≤ bt; omega) _
                  have zgb : nb ≤ (w1.setCell ⟨bt, 2, none⟩ (.slice (some ⟨g', 0, none⟩) (k + 1) c')).heap.size := by simp only [szs]; exact zg
                  have hob : Hid (OwnR (w1.setCell ⟨bt, 2, none⟩ (.slice (some ⟨g', 0, none⟩) (k + 1) c')) nb (.slice (some ⟨g', 0, none⟩) (k + 1) c') (k + 1) (revR m R)) := ownsRow_setCell_below ho.out (a := ⟨bt, 2, none⟩) lV _
                  go_wp2
                  go_roundw
                  case rel => exact ⟨k + 1, (i : Int) - 1, _, by omega, by go_num, hnext, t1b, t2b, hBb.out, zgb, hob⟩
                  case measure => first | (simp [intOf]; done) | (simp [intOf]; omega)
    · obtain rfl : k = m := by omega
      obtain rfl : j = -1 := by have := hj.out; omega
      have hA : ∀ i, i < k → ∀ j, j < 3 → (revR k R i j).At wr.heap.size wr := fun i hi j hj => by
        rcases hR'.out with hz | ⟨br, or_, rfl, tr⟩
        · omega
        · exact TrmsAt.to (tr.at_ (k - 1 - i) (by omega) j hj) hB (Nat.le_refl _)
      obtain ⟨a', c', rfl, _, _, hrows⟩ := hown.out.rows hA
      have hr' : Hid (RowsAt wr.heap.size wr a' k (revR k R)) := hrows
      have zB := hB.size
      clear hown hA hrows hj
      go_upto_region 12 with (go_at_call 17; (with_reducible refine (cH _ hB).mono ?_); rintro e w5 ⟨er, rfl, i5, b5⟩)
      have t3 : Three w5 bt (.int .i64 vars) (.int .i64 pubs) (.slice a' k c') := t2.below b5 t2.lt
      have hB5 : Hid (Below w.heap.size w w5) := by show Below _ _ _; exact below_via b5 hB zB
      have hr5 : Hid (RowsAt w5.heap.size w5 a' k (revR k R)) := hr'.out.to b5 (Nat.le_refl _)
      clear t1 t2 e1 e2 e3 e4 e5 e6 e7 f1 f2 f3 f4 f5 f6 f7 hB zB b5 hr'
      have hB := hB5.out
      clear hB5
      have ⟨f1, f2, f3, f4, f5, f6, f7⟩ := t3
      go_upto_region 13 with (go_at_call 17; (with_reducible refine (cH' _ _ _ hB hr5.out).mono ?_); rintro e w6 ⟨er2, rfl, i6, b6⟩)
      have zB := hB.size
      by_cases hz : bad = 0 ∧ at_ = -1
      · obtain rfl := i5.nil_iff.2 hz
        obtain rfl := i6.nil_iff.2 (hiff'.out.1 hz)
        go_quiet (fail)
        go_wp2
        go_ret
        exact ⟨rfl, by (repeat' (first | (with_reducible first | exact Below.refl _ _ | assumption | refine Below.alloc ?_ ?_ _ | refine Below.drew ?_ | refine below_drewN ?_ _ | refine Below.setCell ?_ ?_ _ | refine below_via (by with_reducible assumption) ?_ ?_) | omega | (simp only [szs]; omega) | (simp only [szs] at *; omega)))⟩
      · obtain ⟨ta, va, rfl⟩ := i5.other hz
        obtain ⟨tb, vb, rfl⟩ := i6.other (fun h => hz (hiff'.out.2 h))
        go_quiet (fail)
        go_wp2
        go_ret
        exact ⟨rfl, by (repeat' (first | (with_reducible first | exact Below.refl _ _ | assumption | refine Below.alloc ?_ ?_ _ | refine Below.drew ?_ | refine below_drewN ?_ _ | refine Below.setCell ?_ ?_ _ | refine below_via (by with_reducible assumption) ?_ ?_) | omega | (simp only [szs]; omega) | (simp only [szs] at *; omega)))⟩
end Go.Proofs.YtckjojmphdoghaaDoor

namespace Go.Proofs.YtckjojmphdoghaaDoor
open Go.RowKit Go.Proofs
set_option linter.unusedVariables false
set_option linter.unusedSimpArgs false
attribute [local go_sem ↓] Go.wp_at_zero Go.wp_at_succ
/-- Two sums of one list are the same. -/
theorem IsSum.same {L O P : Lst} (h : IsSum L O) (k : IsSum L P) : sameB O P = true := by
  obtain ⟨h1, h2⟩ := h.one k
  have key : ∀ i, i ≤ O.n → eqN O P i = true := by
    intro i
    induction i with
    | zero => exact fun _ => rfl
    | succ i ih =>
      intro hi
      obtain ⟨e1, e2⟩ := h2 i (by omega)
      show (eqN O P i && eqT O P i) = true
      rw [ih (by omega)]
      unfold eqT
      rw [e1, e2]
      simp
  unfold sameB
  rw [decide_eq_true h1, key O.n (Nat.le_refl _)]
  rfl
theorem rvalues_out (L : Lst) (ad : Option Addr) (n c : Nat) (h : 60 < L.n ∨ (L.n ≤ 60 ∧ 500 < n)) (w : World)
   (cu : ∀ W, Below w.heap.size w W → Calls Tryd.prog 8 #[] W fun e w' => e = .returned (.bool true) ∧ Below W.heap.size W w') :
    Calls Tryd.prog 4 #[L.val, .slice ad n c] w fun e w' => e = .returned (.bool true) ∧ Below w.heap.size w w' := by
  unfold Lst.val
  rcases h with h | ⟨h, h2⟩
  · have h1 : (60 : Int) < (L.n : Int) := by omega
    clear h
    go_enter Tryd.func4, Tryd.ntmps4
    go_wp2_with (go_at_call 8; (with_reducible refine (cu _ (by (repeat' (first | (with_reducible first | exact Below.refl _ _ | assumption | refine Below.alloc ?_ ?_ _ | refine Below.drew ?_ | refine below_drewN ?_ _ | refine Below.setCell ?_ ?_ _ | refine below_via (by with_reducible assumption) ?_ ?_) | omega | (simp only [szs]; omega) | (simp only [szs] at *; omega))))).mono ?_); rintro e w1 ⟨rfl, b1⟩; have z1 := b1.size; (try simp only [szs] at z1))
    go_ret
    exact ⟨rfl, by (repeat' (first | (with_reducible first | exact Below.refl _ _ | assumption | refine Below.alloc ?_ ?_ _ | refine Below.drew ?_ | refine below_drewN ?_ _ | refine Below.setCell ?_ ?_ _ | refine below_via (by with_reducible assumption) ?_ ?_) | omega | (simp only [szs]; omega) | (simp only [szs] at *; omega)))⟩
  · have h1 : ¬ (60 : Int) < (L.n : Int) := by omega
    have h3 : (500 : Int) < (n : Int) := by omega
    clear h h2
    go_enter Tryd.func4, Tryd.ntmps4
    go_wp2_with (go_at_call 8; (with_reducible refine (cu _ (by (repeat' (first | (with_reducible first | exact Below.refl _ _ | assumption | refine Below.alloc ?_ ?_ _ | refine Below.drew ?_ | refine below_drewN ?_ _ | refine Below.setCell ?_ ?_ _ | refine below_via (by with_reducible assumption) ?_ ?_) | omega | (simp only [szs]; omega) | (simp only [szs] at *; omega))))).mono ?_); rintro e w1 ⟨rfl, b1⟩; have z1 := b1.size; (try simp only [szs] at z1))
    go_ret
    exact ⟨rfl, by (repeat' (first | (with_reducible first | exact Below.refl _ _ | assumption | refine Below.alloc ?_ ?_ _ | refine Below.drew ?_ | refine below_drewN ?_ _ | refine Below.setCell ?_ ?_ _ | refine below_via (by with_reducible assumption) ?_ ?_) | omega | (simp only [szs]; omega) | (simp only [szs] at *; omega)))⟩
set_option maxRecDepth 8000 in
set_option maxHeartbeats 8000000 in
theorem rvalues_core (L : Lst) (hL : L.Ok) (hLn : L.n ≤ 60) (ad : Option Addr) (n c : Nat) (hn : n ≤ 500) (x : Nat → Nat) (hx : ∀ i, x i < 18446744073709551616) (w : World) (hA : L.At w.heap.size w) (hs : SrcW w.heap.size w ad n x)
   (cu : ∀ W, Below w.heap.size w W → Calls Tryd.prog 8 #[] W fun e w' => e = .returned (.bool true) ∧ Below W.heap.size W w')
   (cS : ∀ W, L.At W.heap.size W → Calls Tryd.prog 12 #[L.val] W fun e w' => ∃ v, e = .returned v ∧ SumRes L W w' v ∧ Below W.heap.size W w')
   (cV : ∀ W, L.At W.heap.size W → SrcW W.heap.size W ad n x → Calls Tryd.prog 13 #[L.val, .slice ad n c] W fun e w' => e = .returned (.int .u64 ((valL L n x).val : Nat)) ∧ Below W.heap.size W w') :
    Calls Tryd.prog 4 #[L.val, .slice ad n c] w fun e w' => e = .returned (.bool true) ∧ Below w.heap.size w w' := by
  have h1 : ¬ (60 : Int) < (L.n : Int) := by omega
  have h2 : ¬ (500 : Int) < (n : Int) := by omega
  have hA' : Hid (L.At w.heap.size w) := hA
  have hs' : Hid (SrcW w.heap.size w ad n x) := hs
  have hx' : Hid (∀ i, x i < 18446744073709551616) := hx
  have hL' : Hid L.Ok := hL
  have cR := fun W hA hs => vvalueW L hL ad n c (by omega) x hx W hA hs
  have cT := fun W hA => vsumW L hL (by omega) W hA
  clear hA hs hx hL
  obtain ⟨T, hT⟩ : ∃ T, Hid ((valL L n x).val = T) := ⟨_, rfl⟩
  rw [hT.out] at cR cV
  have hLA : ∀ W, Below w.heap.size w W → L.At W.heap.size W := fun W h => TrmsAt.to hA'.out h (Nat.le_refl _)
  have hsA : ∀ W, Below w.heap.size w W → SrcW W.heap.size W ad n x := fun W h => hs'.out.to h (Nat.le_refl _)
  replace cS := fun W h => cS W (hLA W h)
  replace cT := fun W h => cT W (hLA W h)
  replace cV := fun W h => cV W (hLA W h) (hsA W h)
  replace cR := fun W h => cR W (hLA W h) (hsA W h)
  clear hLA hsA hA'
  unfold Lst.val at *
  go_enter Tryd.func4, Tryd.ntmps4
  go_upto_region 4 with (go_at_call 8; (with_reducible refine (cu _ (by (repeat' (first | (with_reducible first | exact Below.refl _ _ | assumption | refine Below.alloc ?_ ?_ _ | refine Below.drew ?_ | refine below_drewN ?_ _ | refine Below.setCell ?_ ?_ _ | refine below_via (by with_reducible assumption) ?_ ?_) | omega | (simp only [szs]; omega) | (simp only [szs] at *; omega))))).mono ?_); rintro e w1 ⟨rfl, b1⟩; have z1 := b1.size; (try simp only [szs] at z1))
  have hB1 : Below w.heap.size w w1 := by (repeat' (first | (with_reducible first | exact Below.refl _ _ | assumption | refine Below.alloc ?_ ?_ _ | refine Below.drew ?_ | refine below_drewN ?_ _ | refine Below.setCell ?_ ?_ _ | refine below_via (by with_reducible assumption) ?_ ?_) | omega | (simp only [szs]; omega) | (simp only [szs] at *; omega)))
  clear b1 z1 cu
  go_upto_region 5 with (go_at_call 12; (with_reducible refine (cS _ hB1).mono ?_); rintro e w2 ⟨v, rfl, s2, b2⟩)
  obtain ⟨P, pO, pS, rfl, pA, pn, _⟩ := s2.list hL'.out
  have hB2 : Below w.heap.size w w2 := below_via b2 hB1 hB1.size
  have pA2 : Hid (P.At w2.heap.size w2) := pA
  have pO' : Hid P.Ok := pO
  have pS' : Hid (IsSum L P) := pS
  clear s2 b2 hB1 cS pA pO pS
  go_upto_region 6 with (go_at_call 13; (with_reducible refine (cV _ hB2).mono ?_); rintro e w3 ⟨rfl, b3⟩)
  have pA3 : Hid (P.At w3.heap.size w3) := TrmsAt.to pA2.out b3 (Nat.le_refl _)
  have hB3 : Below w.heap.size w w3 := below_via b3 hB2 hB2.size
  clear b3 hB2 cV pA2
  have cR2 : ∀ W, Below w3.heap.size w3 W → Below w.heap.size w W → Calls Tryd.prog 14 #[P.val, .slice ad n c] W fun e w' => e = .returned (.int .u64 (T : Nat)) ∧ Below W.heap.size W w' := fun W h h' => by
    have := vvalueW P pO'.out ad n c (by omega) x hx'.out W (TrmsAt.to pA3.out h (Nat.le_refl _)) (hs'.out.to h' (Nat.le_refl _))
    rw [pS'.out.val, hT.out] at this
    exact this
  have cE : ∀ W (Q : Lst), Below w3.heap.size w3 W → Q.Ok → IsSum L Q → Q.At W.heap.size W → Calls Tryd.prog 15 #[P.val, Q.val] W fun e w' => e = .returned (.bool true) ∧ Below W.heap.size W w' := fun W Q h q1 q2 q3 => by
    have := vsameW P Q pO'.out q1 W (TrmsAt.to pA3.out h (Nat.le_refl _)) q3
    rw [pS'.out.same q2] at this
    exact this
  unfold Lst.val at cR2 cE ⊢
  go_wp2_with (first | (go_at_call 14; (with_reducible refine (cR _ hB3).mono ?_); rintro e w4 ⟨rfl, b4⟩; have hB4 : Below w.heap.size w w4 := below_via b4 hB3 hB3.size) | (go_at_call 16; (with_reducible refine (cT _ hB4).mono ?_); rintro e w5 ⟨v5, rfl, s5, b5⟩; obtain ⟨Q, q1, q2, rfl, q3, _, _⟩ := s5.list hL'.out; have hB5 : Below w.heap.size w w5 := below_via b5 hB4 hB4.size; have hC5 : Below w3.heap.size w3 w5 := below_via b5 b4 b4.size; unfold Lst.val) | (go_at_call 15; (with_reducible refine (cE _ Q hC5 q1 q2 q3).mono ?_); rintro e w6 ⟨rfl, b6⟩; have hB6 : Below w.heap.size w w6 := below_via b6 hB5 hB5.size; have hC6 : Below w3.heap.size w3 w6 := below_via b6 hC5 hC5.size) | (go_at_call 14; (with_reducible refine (cR2 _ hC6 hB6).mono ?_); rintro e w7 ⟨rfl, b7⟩; have hB7 : Below w.heap.size w w7 := below_via b7 hB6 hB6.size))
  go_ret
  exact ⟨rfl, hB7⟩
end Go.Proofs.YtckjojmphdoghaaDoor

namespace Go.Proofs.YtckjojmphdoghaaDoor
open Go.RowKit Go.Proofs
set_option linter.unusedVariables false
set_option linter.unusedSimpArgs false
attribute [local go_sem ↓] Go.wp_at_zero Go.wp_at_succ
set_option maxHeartbeats 2000000 in
theorem rorder_out (vars pubs : Int) (a ad : Option Addr) (m c n d : Nat) (l : Bool) (h : l = false ∨ (l = true ∧ 5000 < n)) (w : World)
   (cu : ∀ W, Below w.heap.size w W → Calls Tryd.prog 8 #[] W fun e w' => e = .returned (.bool true) ∧ Below W.heap.size W w')
   (cl : ∀ W, Below w.heap.size w W → Calls Tryd.prog 9 #[rankV vars pubs a m c] W fun e w' => e = .returned (.bool l) ∧ Below W.heap.size W w') :
    Calls Tryd.prog 6 #[rankV vars pubs a m c, .slice ad n d] w fun e w' => e = .returned (.bool true) ∧ Below w.heap.size w w' := by
  unfold rankV at *
  rcases h with rfl | ⟨rfl, h⟩
  · skip
    go_enter Tryd.func6, Tryd.ntmps6
    go_wp2_with (first | (go_at_call 8; (with_reducible refine (cu _ (by (repeat' (first | (with_reducible first | exact Below.refl _ _ | assumption | refine Below.alloc ?_ ?_ _ | refine Below.drew ?_ | refine below_drewN ?_ _ | refine Below.setCell ?_ ?_ _ | refine below_via (by with_reducible assumption) ?_ ?_) | omega | (simp only [szs]; omega) | (simp only [szs] at *; omega))))).mono ?_); rintro e w1 ⟨rfl, b1⟩; have z1 := b1.size; (try simp only [szs] at z1); have q1 := own3 b1 w.heap.size (by first | omega | (simp only [szs]; omega))) | (go_at_call 9; (with_reducible refine (cl _ (by (repeat' (first | (with_reducible first | exact Below.refl _ _ | assumption | refine Below.alloc ?_ ?_ _ | refine Below.drew ?_ | refine below_drewN ?_ _ | refine Below.setCell ?_ ?_ _ | refine below_via (by with_reducible assumption) ?_ ?_) | omega | (simp only [szs]; omega) | (simp only [szs] at *; omega))))).mono ?_); rintro e w2 ⟨rfl, b2⟩; have z2 := b2.size; (try simp only [szs] at z2); have q2 := own3 b2 w.heap.size (by first | omega | (simp only [szs]; omega))))
    go_ret
    exact ⟨rfl, by (repeat' (first | (with_reducible first | exact Below.refl _ _ | assumption | refine Below.alloc ?_ ?_ _ | refine Below.drew ?_ | refine below_drewN ?_ _ | refine Below.setCell ?_ ?_ _ | refine below_via (by with_reducible assumption) ?_ ?_) | omega | (simp only [szs]; omega) | (simp only [szs] at *; omega)))⟩
  · have hn' : (5000 : Int) < (n : Int) := by omega
    go_enter Tryd.func6, Tryd.ntmps6
    go_wp2_with (first | (go_at_call 8; (with_reducible refine (cu _ (by (repeat' (first | (with_reducible first | exact Below.refl _ _ | assumption | refine Below.alloc ?_ ?_ _ | refine Below.drew ?_ | refine below_drewN ?_ _ | refine Below.setCell ?_ ?_ _ | refine below_via (by with_reducible assumption) ?_ ?_) | omega | (simp only [szs]; omega) | (simp only [szs] at *; omega))))).mono ?_); rintro e w1 ⟨rfl, b1⟩; have z1 := b1.size; (try simp only [szs] at z1); have q1 := own3 b1 w.heap.size (by first | omega | (simp only [szs]; omega))) | (go_at_call 9; (with_reducible refine (cl _ (by (repeat' (first | (with_reducible first | exact Below.refl _ _ | assumption | refine Below.alloc ?_ ?_ _ | refine Below.drew ?_ | refine below_drewN ?_ _ | refine Below.setCell ?_ ?_ _ | refine below_via (by with_reducible assumption) ?_ ?_) | omega | (simp only [szs]; omega) | (simp only [szs] at *; omega))))).mono ?_); rintro e w2 ⟨rfl, b2⟩; have z2 := b2.size; (try simp only [szs] at z2); have q2 := own3 b2 w.heap.size (by first | omega | (simp only [szs]; omega))))
    go_ret
    exact ⟨rfl, by (repeat' (first | (with_reducible first | exact Below.refl _ _ | assumption | refine Below.alloc ?_ ?_ _ | refine Below.drew ?_ | refine below_drewN ?_ _ | refine Below.setCell ?_ ?_ _ | refine below_via (by with_reducible assumption) ?_ ?_) | omega | (simp only [szs]; omega) | (simp only [szs] at *; omega)))⟩
set_option maxHeartbeats 2000000 in
theorem rstays_out (vars pubs : Int) (a ad b : Option Addr) (m c n d k e : Nat) (l : Bool) (h : l = false ∨ (l = true ∧ 5000 < n) ∨ (l = true ∧ n ≤ 5000 ∧ 60 < k)) (w : World)
   (cu : ∀ W, Below w.heap.size w W → Calls Tryd.prog 8 #[] W fun e w' => e = .returned (.bool true) ∧ Below W.heap.size W w')
   (cl : ∀ W, Below w.heap.size w W → Calls Tryd.prog 9 #[rankV vars pubs a m c] W fun e w' => e = .returned (.bool l) ∧ Below W.heap.size W w') :
    Calls Tryd.prog 7 #[rankV vars pubs a m c, .slice b k e, .slice ad n d] w fun e w' => e = .returned (.bool true) ∧ Below w.heap.size w w' := by
  unfold rankV at *
  rcases h with rfl | ⟨rfl, h⟩ | ⟨rfl, h, h2⟩
  · skip
    go_enter Tryd.func7, Tryd.ntmps7
    go_wp2_with (first | (go_at_call 8; (with_reducible refine (cu _ (by (repeat' (first | (with_reducible first | exact Below.refl _ _ | assumption | refine Below.alloc ?_ ?_ _ | refine Below.drew ?_ | refine below_drewN ?_ _ | refine Below.setCell ?_ ?_ _ | refine below_via (by with_reducible assumption) ?_ ?_) | omega | (simp only [szs]; omega) | (simp only [szs] at *; omega))))).mono ?_); rintro e w1 ⟨rfl, b1⟩; have z1 := b1.size; (try simp only [szs] at z1); have q1 := own3 b1 w.heap.size (by first | omega | (simp only [szs]; omega))) | (go_at_call 9; (with_reducible refine (cl _ (by (repeat' (first | (with_reducible first | exact Below.refl _ _ | assumption | refine Below.alloc ?_ ?_ _ | refine Below.drew ?_ | refine below_drewN ?_ _ | refine Below.setCell ?_ ?_ _ | refine below_via (by with_reducible assumption) ?_ ?_) | omega | (simp only [szs]; omega) | (simp only [szs] at *; omega))))).mono ?_); rintro e w2 ⟨rfl, b2⟩; have z2 := b2.size; (try simp only [szs] at z2); have q2 := own3 b2 w.heap.size (by first | omega | (simp only [szs]; omega))))
    go_ret
    exact ⟨rfl, by (repeat' (first | (with_reducible first | exact Below.refl _ _ | assumption | refine Below.alloc ?_ ?_ _ | refine Below.drew ?_ | refine below_drewN ?_ _ | refine Below.setCell ?_ ?_ _ | refine below_via (by with_reducible assumption) ?_ ?_) | omega | (simp only [szs]; omega) | (simp only [szs] at *; omega)))⟩
  · have hn' : (5000 : Int) < (n : Int) := by omega
    go_enter Tryd.func7, Tryd.ntmps7
    go_wp2_with (first | (go_at_call 8; (with_reducible refine (cu _ (by (repeat' (first | (with_reducible first | exact Below.refl _ _ | assumption | refine Below.alloc ?_ ?_ _ | refine Below.drew ?_ | refine below_drewN ?_ _ | refine Below.setCell ?_ ?_ _ | refine below_via (by with_reducible assumption) ?_ ?_) | omega | (simp only [szs]; omega) | (simp only [szs] at *; omega))))).mono ?_); rintro e w1 ⟨rfl, b1⟩; have z1 := b1.size; (try simp only [szs] at z1); have q1 := own3 b1 w.heap.size (by first | omega | (simp only [szs]; omega))) | (go_at_call 9; (with_reducible refine (cl _ (by (repeat' (first | (with_reducible first | exact Below.refl _ _ | assumption | refine Below.alloc ?_ ?_ _ | refine Below.drew ?_ | refine below_drewN ?_ _ | refine Below.setCell ?_ ?_ _ | refine below_via (by with_reducible assumption) ?_ ?_) | omega | (simp only [szs]; omega) | (simp only [szs] at *; omega))))).mono ?_); rintro e w2 ⟨rfl, b2⟩; have z2 := b2.size; (try simp only [szs] at z2); have q2 := own3 b2 w.heap.size (by first | omega | (simp only [szs]; omega))))
    go_ret
    exact ⟨rfl, by (repeat' (first | (with_reducible first | exact Below.refl _ _ | assumption | refine Below.alloc ?_ ?_ _ | refine Below.drew ?_ | refine below_drewN ?_ _ | refine Below.setCell ?_ ?_ _ | refine below_via (by with_reducible assumption) ?_ ?_) | omega | (simp only [szs]; omega) | (simp only [szs] at *; omega)))⟩
  · have hn' : ¬ (5000 : Int) < (n : Int) := by omega
    have hk' : (60 : Int) < (k : Int) := by omega
    go_enter Tryd.func7, Tryd.ntmps7
    go_wp2_with (first | (go_at_call 8; (with_reducible refine (cu _ (by (repeat' (first | (with_reducible first | exact Below.refl _ _ | assumption | refine Below.alloc ?_ ?_ _ | refine Below.drew ?_ | refine below_drewN ?_ _ | refine Below.setCell ?_ ?_ _ | refine below_via (by with_reducible assumption) ?_ ?_) | omega | (simp only [szs]; omega) | (simp only [szs] at *; omega))))).mono ?_); rintro e w1 ⟨rfl, b1⟩; have z1 := b1.size; (try simp only [szs] at z1); have q1 := own3 b1 w.heap.size (by first | omega | (simp only [szs]; omega))) | (go_at_call 9; (with_reducible refine (cl _ (by (repeat' (first | (with_reducible first | exact Below.refl _ _ | assumption | refine Below.alloc ?_ ?_ _ | refine Below.drew ?_ | refine below_drewN ?_ _ | refine Below.setCell ?_ ?_ _ | refine below_via (by with_reducible assumption) ?_ ?_) | omega | (simp only [szs]; omega) | (simp only [szs] at *; omega))))).mono ?_); rintro e w2 ⟨rfl, b2⟩; have z2 := b2.size; (try simp only [szs] at z2); have q2 := own3 b2 w.heap.size (by first | omega | (simp only [szs]; omega))))
    go_ret
    exact ⟨rfl, by (repeat' (first | (with_reducible first | exact Below.refl _ _ | assumption | refine Below.alloc ?_ ?_ _ | refine Below.drew ?_ | refine below_drewN ?_ _ | refine Below.setCell ?_ ?_ _ | refine below_via (by with_reducible assumption) ?_ ?_) | omega | (simp only [szs]; omega) | (simp only [szs] at *; omega)))⟩
end Go.Proofs.YtckjojmphdoghaaDoor

namespace Go.Proofs.YtckjojmphdoghaaDoor
open Go.RowKit Go.Proofs
set_option linter.unusedVariables false
set_option linter.unusedSimpArgs false
theorem light_le {m : Nat} {R : Nat → Nat → Lst} (h : lightB m R = true) : m ≤ 200 := by
  unfold lightB at h
  rw [Bool.and_eq_true, decide_eq_true_eq] at h
  exact h.1
theorem rankChecks_walk (vars0 pubs0 : Int) (a0 : Option Addr) (m0 c0 : Nat) (R0 : Nat → Nat → Lst) (w : World) (wv0 : -9223372036854775808 ≤ vars0 ∧ vars0 < 9223372036854775808) (wp0 : -9223372036854775808 ≤ pubs0 ∧ pubs0 < 9223372036854775808) (mc0 : m0 ≤ c0) (cc0 : c0 ≤ 9223372036854775807) (O0 : ∀ i j, (R0 i j).Ok) (w0 : RowsAt w.heap.size w a0 m0 R0) (hT : ErrTy w) :
    Calls Tryd.prog 3 #[rankV vars0 pubs0 a0 m0 c0] w fun e w' => e = .returned (.bool true) ∧ Below w.heap.size w w' := by
  have hgl := hT.lt
  have cu : ∀ W, Below w.heap.size w W → Calls Tryd.prog 8 #[] W fun e w' => e = .returned (.bool true) ∧ Below W.heap.size W w' := fun W h => up11_of rankHoldsC W (hT.below h hgl)
  have cl : ∀ W, Below w.heap.size w W → Calls Tryd.prog 9 #[rankV vars0 pubs0 a0 m0 c0] W fun e w' => e = .returned (.bool (lightB m0 R0)) ∧ Below W.heap.size W w' := fun W h => vlightW vars0 pubs0 a0 m0 c0 R0 W (w0.to h (Nat.le_refl _))
  exact rchecks_of vars0 pubs0 a0 m0 c0 _ (checkB vars0 pubs0 m0 R0) w cu cl
    (fun hl W h => rankCheckC vars0 pubs0 a0 m0 c0 R0 O0 wv0.1 wv0.2 wp0.1 wp0.2 (by have := light_le hl; omega) W (w0.to h (Nat.le_refl _)))
    (fun _ W h => vcheckW vars0 pubs0 a0 m0 c0 R0 O0 wv0.2 W (w0.to h (Nat.le_refl _)))
theorem rankHolds_walk (vars0 pubs0 : Int) (a0 : Option Addr) (m0 c0 : Nat) (R0 : Nat → Nat → Lst) (a1 : Option Addr) (len1 cap1 : Nat) (z1 : List Int) (w : World) (wv0 : -9223372036854775808 ≤ vars0 ∧ vars0 < 9223372036854775808) (wp0 : -9223372036854775808 ≤ pubs0 ∧ pubs0 < 9223372036854775808) (mc0 : m0 ≤ c0) (cc0 : c0 ≤ 9223372036854775807) (O0 : ∀ i j, (R0 i j).Ok) (w0 : RowsAt w.heap.size w a0 m0 R0) (w1 : IsRow .u64 w a1 len1 cap1 z1) (hT : ErrTy w) :
    Calls Tryd.prog 5 #[rankV vars0 pubs0 a0 m0 c0, .slice a1 len1 cap1] w fun e w' => e = .returned (.bool true) ∧ Below w.heap.size w w' := by
  have hgl := hT.lt
  have cu : ∀ W, Below w.heap.size w W → Calls Tryd.prog 8 #[] W fun e w' => e = .returned (.bool true) ∧ Below W.heap.size W w' := fun W h => up11_of rankHoldsC W (hT.below h hgl)
  have cl : ∀ W, Below w.heap.size w W → Calls Tryd.prog 9 #[rankV vars0 pubs0 a0 m0 c0] W fun e w' => e = .returned (.bool (lightB m0 R0)) ∧ Below W.heap.size W w' := fun W h => vlightW vars0 pubs0 a0 m0 c0 R0 W (w0.to h (Nat.le_refl _))
  obtain ⟨x, _, _, hx, hs, _, _⟩ := srcW_of_isRow w1
  obtain ⟨bad, at_, hH⟩ := hold_ex vars0 pubs0 m0 R0 len1 x
  exact rholds_of vars0 pubs0 bad at_ a0 a1 m0 c0 len1 cap1 _ w hT cu cl
    (fun hl W h => rankHoldsC vars0 pubs0 a0 m0 c0 R0 O0 wv0.1 wv0.2 wp0.1 wp0.2 (by have := light_le hl.1; omega) a1 len1 cap1 (by omega) x hx bad at_ hH W (w0.to h (Nat.le_refl _)) (hs.to h (Nat.le_refl _)))
    (fun hl W h => vholdsW vars0 pubs0 a0 m0 c0 R0 O0 wv0.2 (by omega) a1 len1 cap1 (by omega) x hx W (w0.to h (Nat.le_refl _)) (hs.to h (Nat.le_refl _)) bad at_ hH)
theorem rankOrder_walk (vars0 pubs0 : Int) (a0 : Option Addr) (m0 c0 : Nat) (R0 : Nat → Nat → Lst) (a1 : Option Addr) (len1 cap1 : Nat) (z1 : List Int) (w : World) (wv0 : -9223372036854775808 ≤ vars0 ∧ vars0 < 9223372036854775808) (wp0 : -9223372036854775808 ≤ pubs0 ∧ pubs0 < 9223372036854775808) (mc0 : m0 ≤ c0) (cc0 : c0 ≤ 9223372036854775807) (O0 : ∀ i j, (R0 i j).Ok) (w0 : RowsAt w.heap.size w a0 m0 R0) (w1 : IsRow .u64 w a1 len1 cap1 z1) (hT : ErrTy w) :
    Calls Tryd.prog 6 #[rankV vars0 pubs0 a0 m0 c0, .slice a1 len1 cap1] w fun e w' => e = .returned (.bool true) ∧ Below w.heap.size w w' := by
  have hgl := hT.lt
  have cu : ∀ W, Below w.heap.size w W → Calls Tryd.prog 8 #[] W fun e w' => e = .returned (.bool true) ∧ Below W.heap.size W w' := fun W h => up11_of rankHoldsC W (hT.below h hgl)
  have cl : ∀ W, Below w.heap.size w W → Calls Tryd.prog 9 #[rankV vars0 pubs0 a0 m0 c0] W fun e w' => e = .returned (.bool (lightB m0 R0)) ∧ Below W.heap.size W w' := fun W h => vlightW vars0 pubs0 a0 m0 c0 R0 W (w0.to h (Nat.le_refl _))
  by_cases hl : lightB m0 R0 = true
  · by_cases hn : 5000 < len1
    · exact rorder_out vars0 pubs0 a0 a1 m0 c0 len1 cap1 _ (Or.inr ⟨hl, hn⟩) w cu cl
    · obtain ⟨x, _, _, hx, hs, _, _⟩ := srcW_of_isRow w1
      obtain ⟨bad, at_, hH⟩ := hold_ex vars0 pubs0 m0 R0 len1 x
      obtain ⟨bad', at', hH'⟩ := hold_ex vars0 pubs0 m0 (revR m0 R0) len1 x
      have hm := light_le hl
      rw [hl] at cl
      exact rorder_core vars0 pubs0 bad at_ bad' at' a0 m0 c0 (by omega) R0 a1 len1 cap1 (by omega) w w0 (hH.rev hH') cu cl
        (fun W h => rankHoldsC vars0 pubs0 a0 m0 c0 R0 O0 wv0.1 wv0.2 wp0.1 wp0.2 (by omega) a1 len1 cap1 (by omega) x hx bad at_ hH W (w0.to h (Nat.le_refl _)) (hs.to h (Nat.le_refl _)))
        (fun W a' c' h hr => rankHoldsC vars0 pubs0 a' m0 c' (revR m0 R0) (fun i j => O0 _ j) wv0.1 wv0.2 wp0.1 wp0.2 (by omega) a1 len1 cap1 (by omega) x hx bad' at' hH' W hr (hs.to h (Nat.le_refl _)))
  · exact rorder_out vars0 pubs0 a0 a1 m0 c0 len1 cap1 _ (Or.inl (by simpa using hl)) w cu cl
theorem rankValues_walk (L0 : Lst) (a1 : Option Addr) (len1 cap1 : Nat) (z1 : List Int) (w : World) (O0 : L0.Ok) (w0 : L0.At w.heap.size w) (w1 : IsRow .u64 w a1 len1 cap1 z1) (hT : ErrTy w) :
    Calls Tryd.prog 4 #[L0.val, .slice a1 len1 cap1] w fun e w' => e = .returned (.bool true) ∧ Below w.heap.size w w' := by
  have hgl := hT.lt
  have cu : ∀ W, Below w.heap.size w W → Calls Tryd.prog 8 #[] W fun e w' => e = .returned (.bool true) ∧ Below W.heap.size W w' := fun W h => up11_of rankHoldsC W (hT.below h hgl)
  by_cases h1 : 60 < L0.n
  · exact rvalues_out L0 a1 len1 cap1 (Or.inl h1) w cu
  by_cases h2 : 500 < len1
  · exact rvalues_out L0 a1 len1 cap1 (Or.inr ⟨by omega, h2⟩) w cu
  obtain ⟨x, _, _, hx, hs, _, _⟩ := srcW_of_isRow w1
  exact rvalues_core L0 O0 (by omega) a1 len1 cap1 (by omega) x hx w w0 hs cu (fun W h => rankSumC L0 O0 (by omega) W h) (fun W h h' => rankValueC L0 O0 a1 len1 cap1 (by omega) x hx W h h')
theorem rankStays_walk (vars0 pubs0 : Int) (a0 : Option Addr) (m0 c0 : Nat) (R0 : Nat → Nat → Lst) (L1 : Lst) (a2 : Option Addr) (len2 cap2 : Nat) (z2 : List Int) (w : World) (wv0 : -9223372036854775808 ≤ vars0 ∧ vars0 < 9223372036854775808) (wp0 : -9223372036854775808 ≤ pubs0 ∧ pubs0 < 9223372036854775808) (mc0 : m0 ≤ c0) (cc0 : c0 ≤ 9223372036854775807) (O0 : ∀ i j, (R0 i j).Ok) (w0 : RowsAt w.heap.size w a0 m0 R0) (O1 : L1.Ok) (w1 : L1.At w.heap.size w) (w2 : IsRow .u64 w a2 len2 cap2 z2) (hT : ErrTy w) :
    Calls Tryd.prog 7 #[rankV vars0 pubs0 a0 m0 c0, L1.val, .slice a2 len2 cap2] w fun e w' => e = .returned (.bool true) ∧ Below w.heap.size w w' := by
  have hgl := hT.lt
  have cu : ∀ W, Below w.heap.size w W → Calls Tryd.prog 8 #[] W fun e w' => e = .returned (.bool true) ∧ Below W.heap.size W w' := fun W h => up11_of rankHoldsC W (hT.below h hgl)
  have cl : ∀ W, Below w.heap.size w W → Calls Tryd.prog 9 #[rankV vars0 pubs0 a0 m0 c0] W fun e w' => e = .returned (.bool (lightB m0 R0)) ∧ Below W.heap.size W w' := fun W h => vlightW vars0 pubs0 a0 m0 c0 R0 W (w0.to h (Nat.le_refl _))
  by_cases hl : lightB m0 R0 = true
  · by_cases hn : 5000 < len2
    · exact rstays_out vars0 pubs0 a0 a2 L1.ad m0 c0 len2 cap2 L1.n L1.c _ (Or.inr (Or.inl ⟨hl, hn⟩)) w cu cl
    by_cases hk : 60 < L1.n
    · exact rstays_out vars0 pubs0 a0 a2 L1.ad m0 c0 len2 cap2 L1.n L1.c _ (Or.inr (Or.inr ⟨hl, by omega, hk⟩)) w cu cl
    obtain ⟨x, _, _, hx, hs, _, _⟩ := srcW_of_isRow w2
    obtain ⟨bad, at_, hH⟩ := hold_ex vars0 pubs0 m0 R0 len2 x
    have hm := light_le hl
    rw [hl] at cl
    exact rstays_core vars0 pubs0 bad at_ a0 m0 c0 R0 L1 O1 (by omega) a2 len2 cap2 (by omega) x w w0 w1 hs cu cl
      (fun W ad d hr hs' => rankHoldsC vars0 pubs0 a0 m0 c0 R0 O0 wv0.1 wv0.2 wp0.1 wp0.2 (by omega) ad len2 d (by omega) x hx bad at_ hH W hr hs') rankSumC
  · exact rstays_out vars0 pubs0 a0 a2 L1.ad m0 c0 len2 cap2 L1.n L1.c _ (Or.inl (by simpa using hl)) w cu cl
end Go.Proofs.YtckjojmphdoghaaDoor

namespace Go.Proofs.YtckjojmphdoghaaDoor
open Go.ChangeShapes Go.WideShapes Go.ChangeAt Go.RowKit
set_option linter.unusedVariables false
set_option linter.unusedSimpArgs false

theorem cellsT2 : Tryd.prog.cellsOf 46 = 2 := by kernel_rfl
theorem cellsR3 : Tryd.prog.cellsOf 44 = 3 := by kernel_rfl
theorem cellsI1 : Tryd.prog.cellsOf 3 = 1 := by kernel_rfl
theorem cellsU1 : Tryd.prog.cellsOf 34 = 1 := by kernel_rfl
theorem cellsL1 : Tryd.prog.cellsOf 31 = 1 := by kernel_rfl
theorem addr_add2 (x : Addr) (k j : Nat) : (x.add k).add j = x.add (k + j) := by
  unfold Addr.add
  by_cases hk : k = 0 <;> by_cases hj : j = 0 <;> simp [hk, hj, Nat.add_assoc]
theorem addr_none (b off j : Nat) : (⟨b, off, none⟩ : Addr).add j = ⟨b, off + j, none⟩ := by unfold Addr.add; split <;> simp_all
theorem int_of {a : Int} (h : (Lit.int .i64 a).wf = true) : -9223372036854775808 ≤ a ∧ a < 9223372036854775808 := by
  have := bounds_i64 h
  omega
theorem list_two {l : List Value} (h : l.length = 2) : ∃ a b, l = [a, b] := by
  match l, h with
  | [a, b], _ => exact ⟨a, b, rfl⟩
theorem list_3 {l : List Value} (h : l.length = 3) : ∃ a b c, l = [a, b, c] := by
  match l, h with
  | [a, b, c], _ => exact ⟨a, b, c, rfl⟩
theorem nilLst (a : Option Addr) (c : Nat) (hc : c ≤ 9223372036854775807) (W : World) : ∃ L : Lst, L.ad = a ∧ L.n = 0 ∧ L.c = c ∧ L.Ok ∧ L.At W.heap.size W :=
  ⟨⟨a, 0, c, fun _ => 0, fun _ => 0⟩, rfl, rfl, rfl, ⟨fun i => (by show (-9223372036854775808 : Int) ≤ 0; decide), fun i => (by show (0 : Int) < 9223372036854775808; decide), fun i => (by show 0 < 18446744073709551616; decide), Nat.zero_le _, hc⟩, Or.inl rfl⟩
/-- Two cells that read as a term. -/
theorem open_term {H : Type} {enc : TypeId × Value → H} {W : World} {fuel : Nat} {cs : List Value} {x : DataW H × List MemPlace} (h : DataW.trod enc Tryd.prog W 0 (fun _ => true) true fuel 46 cs = some x) :
    ∃ (v : Int) (k : Nat), cs = [.int .i64 v, .int .u64 (k : Nat)] ∧ -9223372036854775808 ≤ v ∧ v < 9223372036854775808 ∧ k < 18446744073709551616 := by
  obtain ⟨y0, y1, n, hx, hlen, h0, h1⟩ := trod_struct2 Tryd.underlying46 h
  rw [cellsT2] at hlen
  obtain ⟨c0, c1, rfl⟩ := list_two hlen
  simp only [cellsI1, List.drop_zero, List.take_succ_cons, List.take_zero] at h0
  simp only [cellsU1, List.drop_succ_cons, List.drop_zero, List.take_succ_cons, List.take_zero] at h1
  obtain ⟨a, ea, _, wa⟩ := DataW.trod_int Tryd.underlying3 h0
  obtain ⟨b, eb, _, wb⟩ := DataW.trod_int Tryd.underlying34 h1
  simp at ea eb
  subst ea eb
  obtain ⟨k, rfl, hk⟩ := word_of wb
  have := int_of wa
  exact ⟨a, k, rfl, this.1, this.2, hk⟩
/-- A slice of terms that came in. -/
theorem open_list {H : Type} {enc : TypeId × Value → H} {W : World} {fuel : Nat} {a : Option Addr} {len cap : Nat} {x : DataW H × List MemPlace}
    (hf : DataW.trod enc Tryd.prog W 0 (fun _ => true) true fuel 31 [.slice a len cap] = some x) : ∃ L : Lst, L.ad = a ∧ L.n = len ∧ L.c = cap ∧ L.Ok ∧ L.At W.heap.size W := by
  rcases DataW.trod_slice Tryd.underlying31 hf with ⟨hcs, _⟩ | ⟨x, l, c, elems, rest, n, _, hcs, _, hb, hl, hm, hlen, hel, _, _⟩
  · simp at hcs
    obtain ⟨rfl, rfl, rfl⟩ := hcs
    exact nilLst none 0 (by decide) W
  · simp at hcs
    obtain ⟨rfl, rfl, rfl⟩ := hcs
    have hm' : cap ≤ 9223372036854775807 := by unfold maxLen at hm; omega
    by_cases h0 : len = 0
    · subst h0
      exact nilLst _ _ hm' W
    have each : ∀ i, i < len → ∃ q : Int × Nat, W.cell? (x.add (i * 2)) = some (.int .i64 q.1) ∧ W.cell? (x.add (i * 2 + 1)) = some (.int .u64 (q.2 : Nat)) ∧ -9223372036854775808 ≤ q.1 ∧ q.1 < 9223372036854775808 ∧ q.2 < 18446744073709551616 := by
      intro i hi
      have h1 := hel i hi
      obtain ⟨y, hy⟩ : ∃ y, elems[i]? = some y := ⟨elems[i]'(by omega), List.getElem?_eq_getElem (by omega)⟩
      rw [hy, Option.bind_eq_some_iff] at h1
      obtain ⟨cs, hc, ht⟩ := h1
      rw [cellsT2] at hc
      obtain ⟨_, _, hcell⟩ := World.cells?_some hc
      obtain ⟨v, k, rfl, hq⟩ := open_term ht
      have c0 := hcell 0 (by omega)
      have c1 := hcell 1 (by omega)
      rw [addr_add2] at c0 c1
      exact ⟨(v, k), by simpa using c0, by simpa using c1, hq⟩
    have hc0 := (each 0 (by omega)).choose_spec.1
    obtain ⟨b, off, spot⟩ := x
    have hspot : spot = none := by simpa [Addr.add] using World.cell?_spot hc0
    subst hspot
    simp only [addr_none] at each
    have hlt := World.block_lt_of_cell? _ _ hc0
    simp [Addr.add] at hlt
    refine ⟨⟨some ⟨b, off, none⟩, len, cap, fun i => if h : i < len then (each i h).choose.1 else 0, fun i => if h : i < len then (each i h).choose.2 else 0⟩, rfl, rfl, rfl, ⟨?_, ?_, ?_, hl, hm'⟩, Or.inr ⟨b, off, rfl, hlt, hlt, ?_, ?_⟩⟩
    · intro i
      dsimp only
      split
      · rename_i h; exact (each i h).choose_spec.2.2.1
      · decide
    · intro i
      dsimp only
      split
      · rename_i h; exact (each i h).choose_spec.2.2.2.1
      · decide
    · intro i
      dsimp only
      split
      · rename_i h; exact (each i h).choose_spec.2.2.2.2
      · decide
    · intro i hi
      dsimp only
      rw [dif_pos hi]
      exact (each i hi).choose_spec.1
    · intro i hi
      dsimp only
      rw [dif_pos hi]
      exact (each i hi).choose_spec.2.1
/-- A slice of terms that came in, whole. -/
theorem open_list' {H : Type} {enc : TypeId × Value → H} {W : World} {fuel : Nat} {cs : List Value} {x : DataW H × List MemPlace}
    (hf : DataW.trod enc Tryd.prog W 0 (fun _ => true) true fuel 31 cs = some x) : ∃ L : Lst, cs = [L.val] ∧ L.Ok ∧ L.At W.heap.size W := by
  obtain ⟨a, l, c, rfl⟩ : ∃ a l c, cs = [.slice a l c] := by
    rcases DataW.trod_slice Tryd.underlying31 hf with ⟨hcs, _⟩ | ⟨x, l, c, elems, rest, n, _, hcs, _⟩
    · exact ⟨_, _, _, hcs⟩
    · exact ⟨_, _, _, hcs⟩
  obtain ⟨L, rfl, rfl, rfl, h1, h2⟩ := open_list hf
  exact ⟨L, rfl, h1, h2⟩
/-- Three cells that read as a row. -/
theorem open_row {H : Type} {enc : TypeId × Value → H} {W : World} {fuel : Nat} {cs : List Value} {x : DataW H × List MemPlace} (h : DataW.trod enc Tryd.prog W 0 (fun _ => true) true fuel 44 cs = some x) :
    ∃ q : Nat → Lst, cs = [(q 0).val, (q 1).val, (q 2).val] ∧ (∀ j, (q j).Ok) ∧ ∀ j, (q j).At W.heap.size W := by
  obtain ⟨xs, n, _, _, hlen, hxl, hf⟩ := DataW.trod_struct Tryd.underlying44 h
  rw [cellsR3] at hlen
  obtain ⟨c0, c1, c2, rfl⟩ := list_3 hlen
  have g0 := hf 0 _ rfl
  have g1 := hf 1 _ rfl
  have g2 := hf 2 _ rfl
  simp [cellsL1] at g0 g1 g2
  cases h0 : xs[0]? with
  | none => have := List.getElem?_eq_none_iff.mp h0; simp at hxl; omega
  | some y0 =>
  cases h1 : xs[1]? with
  | none => have := List.getElem?_eq_none_iff.mp h1; simp at hxl; omega
  | some y1 =>
  cases h2 : xs[2]? with
  | none => have := List.getElem?_eq_none_iff.mp h2; simp at hxl; omega
  | some y2 =>
  rw [h0] at g0
  rw [h1] at g1
  rw [h2] at g2
  obtain ⟨A, eA, oA, tA⟩ := open_list' g0
  obtain ⟨B, eB, oB, tB⟩ := open_list' g1
  obtain ⟨C, eC, oC, tC⟩ := open_list' g2
  simp at eA eB eC
  subst eA eB eC
  refine ⟨fun j => match j with | 0 => A | 1 => B | _ => C, rfl, fun j => ?_, fun j => ?_⟩
  · match j with
    | 0 => exact oA
    | 1 => exact oB
    | _ + 2 => exact oC
  · match j with
    | 0 => exact tA
    | 1 => exact tB
    | _ + 2 => exact tC
/-- A slice of rows that came in. -/
theorem open_rows {H : Type} {enc : TypeId × Value → H} {W : World} {fuel : Nat} {cs : List Value} {x : DataW H × List MemPlace}
    (hf : DataW.trod enc Tryd.prog W 0 (fun _ => true) true fuel 22 cs = some x) : ∃ (a : Option Addr) (m c : Nat) (R : Nat → Nat → Lst), cs = [.slice a m c] ∧ m ≤ c ∧ c ≤ 9223372036854775807 ∧ (∀ i j, (R i j).Ok) ∧ RowsAt W.heap.size W a m R := by
  have nil := fun (a : Option Addr) (c : Nat) (hc : c ≤ 9223372036854775807) => (⟨a, 0, c, fun _ _ => (nilLst none 0 (by decide) W).choose, rfl, Nat.zero_le _, hc, fun _ _ => (nilLst none 0 (by decide) W).choose_spec.2.2.2.1, Or.inl rfl⟩ : ∃ (a' : Option Addr) (m c' : Nat) (R : Nat → Nat → Lst), [Value.slice a 0 c] = [.slice a' m c'] ∧ m ≤ c' ∧ c' ≤ 9223372036854775807 ∧ (∀ i j, (R i j).Ok) ∧ RowsAt W.heap.size W a' m R)
  rcases DataW.trod_slice Tryd.underlying22 hf with ⟨rfl, _⟩ | ⟨x, len, cap, elems, rest, n, _, rfl, _, hb, hl, hm, hlen, hel, _, _⟩
  · exact nil none 0 (by decide)
  · have hm' : cap ≤ 9223372036854775807 := by unfold maxLen at hm; omega
    by_cases h0 : len = 0
    · subst h0
      exact nil _ _ hm'
    have each : ∀ i, i < len → ∃ q : Nat → Lst, (W.cell? (x.add (i * 3)) = some (q 0).val ∧ W.cell? (x.add (i * 3 + 1)) = some (q 1).val ∧ W.cell? (x.add (i * 3 + 2)) = some (q 2).val) ∧ (∀ j, (q j).Ok) ∧ ∀ j, (q j).At W.heap.size W := by
      intro i hi
      have h1 := hel i hi
      obtain ⟨y, hy⟩ : ∃ y, elems[i]? = some y := ⟨elems[i]'(by omega), List.getElem?_eq_getElem (by omega)⟩
      rw [hy, Option.bind_eq_some_iff] at h1
      obtain ⟨cs, hc, ht⟩ := h1
      rw [cellsR3] at hc
      obtain ⟨_, _, hcell⟩ := World.cells?_some hc
      obtain ⟨q, rfl, hq⟩ := open_row ht
      have c0 := hcell 0 (by omega)
      have c1 := hcell 1 (by omega)
      have c2 := hcell 2 (by omega)
      rw [addr_add2] at c0 c1 c2
      exact ⟨q, ⟨by simpa using c0, by simpa using c1, by simpa using c2⟩, hq⟩
    have hc0 := (each 0 (by omega)).choose_spec.1.1
    obtain ⟨b, off, spot⟩ := x
    have hspot : spot = none := by simpa [Addr.add] using World.cell?_spot hc0
    subst hspot
    simp only [addr_none] at each
    have hlt := World.block_lt_of_cell? _ _ hc0
    simp [Addr.add] at hlt
    have nl := nilLst none 0 (by decide) W
    refine ⟨some ⟨b, off, none⟩, len, cap, fun i => if h : i < len then (each i h).choose else fun _ => nl.choose, rfl, hl, hm', fun i j => ?_, Or.inr ⟨b, off, rfl, hlt, fun i hi j hj => ?_, fun i hi j hj => ?_⟩⟩
    · dsimp only
      by_cases h : i < len
      · rw [dif_pos h]; exact (each i h).choose_spec.2.1 j
      · rw [dif_neg h]; exact nl.choose_spec.2.2.2.1
    · (try dsimp only)
      rw [dif_pos hi]
      obtain ⟨e0, e1, e2⟩ := (each i hi).choose_spec.1
      obtain rfl | rfl | rfl : j = 0 ∨ j = 1 ∨ j = 2 := by omega
      · exact e0
      · exact e1
      · exact e2
    · (try dsimp only)
      rw [dif_pos hi]
      exact (each i hi).choose_spec.2.2 j
set_option maxRecDepth 100000 in
/-- A system that came in. -/
theorem open_Rank {H : Type} {enc : TypeId × Value → H} {W : World} {r : Reach} {b0 : Nat} {v : Value} {d : DataW H} {p : List MemPlace} (hv : Value.okWide Tryd.prog W r b0 24 v)
    (h : DataW.Trod enc Tryd.prog W 0 (fun _ => true) true 24 v d p) : ∃ (vars pubs : Int) (a : Option Addr) (m c : Nat) (R : Nat → Nat → Lst), v = rankV vars pubs a m c ∧
      (-9223372036854775808 ≤ vars ∧ vars < 9223372036854775808) ∧ (-9223372036854775808 ≤ pubs ∧ pubs < 9223372036854775808) ∧ m ≤ c ∧ c ≤ 9223372036854775807 ∧ (∀ i j, (R i j).Ok) ∧ RowsAt W.heap.size W a m R := by
  obtain ⟨v0, v1, v2, y0, y1, y2, n, rfl, _, _, h0, h1, h2⟩ := Go.Joins.open_agg3 Tryd.underlying24 (by kernel_rfl) (by kernel_rfl) hv h
  obtain ⟨vars, e0, _, w0⟩ := DataW.trod_int Tryd.underlying3 h0
  obtain ⟨pubs, e1, _, w1⟩ := DataW.trod_int Tryd.underlying3 h1
  obtain ⟨a, m, c, R, e2, hmc, hc, hO, hR⟩ := open_rows h2
  simp at e0 e1 e2
  subst e0 e1 e2
  exact ⟨vars, pubs, a, m, c, R, rfl, int_of w0, int_of w1, hmc, hc, hO, hR⟩
end Go.Proofs.YtckjojmphdoghaaDoor

namespace Go.Proofs.YtckjojmphdoghaaDoor
open Go.ChangeShapes Go.WideShapes Go.ChangeAt Go.RowKit
set_option linter.unusedVariables false
set_option linter.unusedSimpArgs false

def laidTab : List (String × DataW Unit) := Rows.rankChecksRow.laid
theorem etNamed : Tryd.prog.globalNamed "errors.errorType" = some 0 := by kernel_rfl
theorem rtNamed : (Tryd.prog.cutTypes.find? (·.1 == "internal/reflectlite.rtype")).map (·.2) = some 89 := by kernel_rfl
theorem errRow : ((List.range Tryd.prog.types.size).filter fun t => Tryd.prog.rowNamed t [101, 114, 114, 111, 114]) = [28] := by kernel_rfl
theorem tabs_of_laid {W : World} (h : laidMetH Tryd.prog laidTab W) : ErrTy W := by
  have h' : laidMet Tryd.prog [] W ∧ handlesMet Tryd.prog laidTab W := h
  obtain ⟨name, u, ty, e1, e2, e3, e4, e5⟩ := h'.2 _ (List.mem_singleton.2 rfl)
  have en : name = [101, 114, 114, 111, 114] := (Option.some.inj e1).symm
  subst en
  obtain rfl := Option.some.inj (rtNamed.symm.trans e2)
  have hm : ty ∈ (List.range Tryd.prog.types.size).filter fun t => Tryd.prog.rowNamed t [101, 114, 114, 111, 114] := List.mem_filter.2 ⟨List.mem_range.2 e3, e4⟩
  rw [errRow] at hm
  obtain rfl := List.mem_singleton.1 hm
  have hh : typeHandle Tryd.prog 28 = .pointer (some ⟨3, 28, none⟩) := by kernel_rfl
  rw [hh] at e5
  unfold ErrTy
  simpa using World.var?_cell etNamed e5 0
/-- A world that meets the condition. -/
noncomputable def laidWorld (os : Os) : World :=
  let w0 := World.holding Tryd.prog os ⟨#[], #[], []⟩
  { w0 with heap := w0.heap.modify 0 fun
      | .cells _ t frozen => .cells #[.iface 89 (.agg #[.pointer (some ⟨3, 28, none⟩)])] t frozen
      | o => o }
set_option maxRecDepth 100000 in
theorem laidWorld_met (os : Os) (args : Array Value) : laidMetH Tryd.prog laidTab ((laidWorld os).forCall (fun _ _ => 0) ⟨#[], args, []⟩).memory :=
  laidMetH_of_parts (laidMet_nil _ _) (by kernel_rfl)
set_option maxRecDepth 100000 in
/-- A list of terms that came in. -/
theorem open_Trms {H : Type} {enc : TypeId × Value → H} {W : World} {r : Reach} {b0 : Nat} {v : Value} {d : DataW H} {p : List MemPlace} (hv : Value.okWide Tryd.prog W r b0 31 v)
    (h : DataW.Trod enc Tryd.prog W 0 (fun _ => true) true 31 v d p) : ∃ L : Lst, v = L.val ∧ L.Ok ∧ L.At W.heap.size W := by
  obtain ⟨a, len, cap, rfl⟩ := okWide_slice Tryd.underlying31 hv
  obtain ⟨fuel, hf⟩ := h
  obtain ⟨L, e, h1, h2⟩ := open_list' hf
  simp [Value.cells] at e
  exact ⟨L, e, h1, h2⟩
end Go.Proofs.YtckjojmphdoghaaDoor
