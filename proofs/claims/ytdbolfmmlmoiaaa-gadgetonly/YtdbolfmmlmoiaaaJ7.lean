/-
  Joined texts: The walks of package rank: sound systems, whether values hold. Lists of terms summed up, term by term in the order of their variables. The walk of package rank's joined: a sum with one term more. Rows of places of one's own, that grow. Rows of places of one's own, sorted. The library's contracts on sorting: in the text that this one imports. The walk of package rank's rising: the places of a list's terms, by rising variables. The walk of package rank's Sum: a list summed up. What package rank's calls answer.
-/
import Derived.Test.YtdbolfmmlmoiaaaJ6
import Derived.Test.YtdbolfmmlmoiaaaJ4
import Derived.Test.YtdbolfmmlmoiaaaJ2
import Derived.Shelf.SlSortCmp.Whole1
import Derived.Test.YtdbolfmmlmoiaaaJ3
import Derived.Shelf.SlSortCmp.NoneTotal

namespace Go.Proofs.Ytdbolfmmlmoiaaa
open Go.RowKit Go.Proofs
set_option linter.unusedVariables false
set_option linter.unusedSimpArgs false
attribute [local go_sem ↓] Go.wp_at_zero Go.wp_at_succ
/-- A row's three lists. -/
theorem RowsIn.parts {B : Nat} {w : World} {b off m : Nat} {R : Nat → Nat → Lst} (t : RowsIn B w b off m R) {i : Nat} (hi : i < m) :
    w.cell? ⟨b, off + i * 3, none⟩ = some (R i 0).val ∧ w.cell? ⟨b, off + i * 3 + 1, none⟩ = some (R i 1).val ∧ w.cell? ⟨b, off + i * 3 + 2, none⟩ = some (R i 2).val :=
  ⟨t.cell i hi 0 (by decide), t.cell i hi 1 (by decide), t.cell i hi 2 (by decide)⟩
/-- A frame that isn't right, in its five ways. -/
theorem nframe_no {vars pubs : Int} {m : Nat} (h : frameB vars pubs m = false) : vars < 1 ∨ (¬ vars < 1 ∧ 4096 < vars) ∨ (¬ vars < 1 ∧ ¬ 4096 < vars ∧ pubs < 0) ∨ (¬ vars < 1 ∧ ¬ 4096 < vars ∧ ¬ pubs < 0 ∧ vars ≤ pubs) ∨ (¬ vars < 1 ∧ ¬ 4096 < vars ∧ ¬ pubs < 0 ∧ ¬ vars ≤ pubs ∧ (4096 : Int) < (m : Int)) := by
  have := of_decide_eq_false h
  omega
theorem nframe_yes {vars pubs : Int} {m : Nat} (h : frameB vars pubs m = true) : ¬ vars < 1 ∧ ¬ 4096 < vars ∧ ¬ pubs < 0 ∧ ¬ vars ≤ pubs ∧ ¬ (4096 : Int) < (m : Int) := by
  have := of_decide_eq_true h
  omega
/-- What Check answers. -/
def chkV (b : Bool) : Value := if b = true then .nilIface else .iface 67 (.int .i64 3)
set_option maxHeartbeats 4000000 in
theorem ncheck_no (vars pubs : Int) (a : Option Addr) (m c : Nat) (w : World) (h : frameB vars pubs m = false) :
    Calls Try.prog 27 #[rankV vars pubs a m c] w fun e w' => e = .returned (.iface 67 (.int .i64 3)) ∧ Below w.heap.size w w' := by
  unfold rankV
  rcases nframe_no h with h1 | ⟨h1, h2⟩ | ⟨h1, h2, h3⟩ | ⟨h1, h2, h3, h4⟩ | ⟨h1, h2, h3, h4, h5⟩
  all_goals clear h
  · go_enter Try.func27, Try.ntmps27
    go_wp2
    go_ret
    exact ⟨rfl, by (repeat' (first | (with_reducible first | exact Below.refl _ _ | assumption | refine Below.alloc ?_ ?_ _ | refine Below.drew ?_ | refine below_drewN ?_ _ | refine Below.setCell ?_ ?_ _ | refine below_via (by with_reducible assumption) ?_ ?_) | omega | (simp only [szs]; omega) | (simp only [szs] at *; omega)))⟩
  · go_enter Try.func27, Try.ntmps27
    go_wp2
    go_ret
    exact ⟨rfl, by (repeat' (first | (with_reducible first | exact Below.refl _ _ | assumption | refine Below.alloc ?_ ?_ _ | refine Below.drew ?_ | refine below_drewN ?_ _ | refine Below.setCell ?_ ?_ _ | refine below_via (by with_reducible assumption) ?_ ?_) | omega | (simp only [szs]; omega) | (simp only [szs] at *; omega)))⟩
  · go_enter Try.func27, Try.ntmps27
    go_wp2
    go_ret
    exact ⟨rfl, by (repeat' (first | (with_reducible first | exact Below.refl _ _ | assumption | refine Below.alloc ?_ ?_ _ | refine Below.drew ?_ | refine below_drewN ?_ _ | refine Below.setCell ?_ ?_ _ | refine below_via (by with_reducible assumption) ?_ ?_) | omega | (simp only [szs]; omega) | (simp only [szs] at *; omega)))⟩
  · go_enter Try.func27, Try.ntmps27
    go_wp2
    go_ret
    exact ⟨rfl, by (repeat' (first | (with_reducible first | exact Below.refl _ _ | assumption | refine Below.alloc ?_ ?_ _ | refine Below.drew ?_ | refine below_drewN ?_ _ | refine Below.setCell ?_ ?_ _ | refine below_via (by with_reducible assumption) ?_ ?_) | omega | (simp only [szs]; omega) | (simp only [szs] at *; omega)))⟩
  · go_enter Try.func27, Try.ntmps27
    go_wp2
    go_ret
    exact ⟨rfl, by (repeat' (first | (with_reducible first | exact Below.refl _ _ | assumption | refine Below.alloc ?_ ?_ _ | refine Below.drew ?_ | refine below_drewN ?_ _ | refine Below.setCell ?_ ?_ _ | refine below_via (by with_reducible assumption) ?_ ?_) | omega | (simp only [szs]; omega) | (simp only [szs] at *; omega)))⟩
set_option maxRecDepth 4000 in
set_option maxHeartbeats 16000000 in
theorem ncheck_core (vars pubs : Int) (a : Option Addr) (m c : Nat) (R : Nat → Nat → Lst) (hO : ∀ i j, (R i j).Ok) (w : World) (hR : RowsAt w.heap.size w a m R) (hf : frameB vars pubs m = true) :
    Calls Try.prog 27 #[rankV vars pubs a m c] w fun e w' => e = .returned (chkV (soundR vars R m)) ∧ Below w.heap.size w w' := by
  have hR' : Hid (RowsAt w.heap.size w a m R) := hR
  have hO' : Hid (∀ i j, (R i j).Ok) := hO
  obtain ⟨S, hS⟩ : ∃ S, Hid (soundR vars R m = S) := ⟨_, rfl⟩
  obtain ⟨h1, h2, h3, h4, h5⟩ := nframe_yes hf
  rw [hS.out]
  clear hR hO hf
  unfold rankV
  go_enter Try.func27, Try.ntmps27
  go_wp2
  go_loopw [35] (fun si wr => ∃ i : Nat, i ≤ m ∧ si = .int .i64 i ∧ Three wr w.heap.size (.int .i64 vars) (.int .i64 pubs) (.slice a m c) ∧ Below w.heap.size w wr ∧ Hid (soundR vars R i = true)) (fun si _ => m - (intOf si).toNat)
  case atStart => exact ⟨0, by omega, rfl, by (repeat' (first | (with_reducible first | assumption | exact Three.own (by with_reducible assumption) | refine Three.set ?_ _ _ _ | refine Own3.set ?_ _ _ _ | refine Three.drew ?_ | refine Three.drewN ?_ _ | refine Own3.drew ?_ | refine Own3.drewN ?_ _ | (refine Three.new ?_; simp only [szs]; done) | (refine Own3.new ?_; simp only [szs]; done) | refine Three.alloc ?_ _ | refine Own3.alloc ?_ _ | refine Three.far ?_ ?_ _ _ | refine Own3.far ?_ ?_ _ _ | refine Three.via (by with_reducible assumption) ?_ ?_ | refine Own3.via (by with_reducible assumption) ?_ ?_) | omega | (simp only [szs]; omega))), by (repeat' (first | (with_reducible first | exact Below.refl _ _ | assumption | refine Below.alloc ?_ ?_ _ | refine Below.drew ?_ | refine below_drewN ?_ _ | refine Below.setCell ?_ ?_ _ | refine below_via (by with_reducible assumption) ?_ ?_) | omega | (simp only [szs]; omega) | (simp only [szs] at *; omega))), rfl⟩
  case round =>
    obtain ⟨i, hi, rfl, t1, hB, hI⟩ := hrel
    have ⟨e1, e2, e3, e4, e5, e6, e7⟩ := t1
    by_cases hlt : i < m
    · have hlt' : (i : Int) < (m : Int) := by omega
      rcases hR'.out with hz | ⟨b, off, rfl, tr⟩
      · omega
      have zB := hB.size
      obtain ⟨d0, d1, d2⟩ := (tr.below hB).parts hlt
      have cf := fun (k : Nat) (hk : k < 3) (W : World) (hW : Below w.heap.size w W) => nfitsW (R i k) (hO'.out i k) vars (by omega) W (TrmsAt.to (tr.at_ i hlt k hk) hW (Nat.le_refl _))
      have q0 := cf 0 (by decide)
      have q1 := cf 1 (by decide)
      have q2 := cf 2 (by decide)
      unfold Lst.val at d0 d1 d2 q0 q1 q2
      have hdec : Hid ((soundB vars (R i 0) && (soundB vars (R i 1) && soundB vars (R i 2))) = false → S = false) := fun h => by rw [← hS.out]; exact soundR_not h hlt
      have hstep : Hid ((soundB vars (R i 0) && (soundB vars (R i 1) && soundB vars (R i 2))) = true → soundR vars R (i + 1) = true) := fun h => by show (soundR vars R i && _) = true; rw [hI.out, h]; rfl
      clear tr hI cf
      cases b0 : soundB vars (R i 0) with
      | false =>
        rw [b0] at q0
        obtain rfl := hdec.out (by rw [b0]; rfl)
        clear hdec hstep q1 q2
        go_wp2_with (go_at_call 55; (with_reducible refine (q0 _ (by (repeat' (first | (with_reducible first | exact Below.refl _ _ | assumption | refine Below.alloc ?_ ?_ _ | refine Below.drew ?_ | refine below_drewN ?_ _ | refine Below.setCell ?_ ?_ _ | refine below_via (by with_reducible assumption) ?_ ?_) | omega | (simp only [szs]; omega) | (simp only [szs] at *; omega))))).mono ?_); rintro e w5 ⟨rfl, b5⟩; have z5 := b5.size; (try simp only [szs] at z5); have q5 := own3 b5 w.heap.size (by first | omega | (simp only [szs]; omega)); have q5' := own3 b5 wr.heap.size (by first | omega | (simp only [szs]; omega)))
        go_ret
        exact ⟨rfl, by (repeat' (first | (with_reducible first | exact Below.refl _ _ | assumption | refine Below.alloc ?_ ?_ _ | refine Below.drew ?_ | refine below_drewN ?_ _ | refine Below.setCell ?_ ?_ _ | refine below_via (by with_reducible assumption) ?_ ?_) | omega | (simp only [szs]; omega) | (simp only [szs] at *; omega)))⟩
      | true =>
        rw [b0] at q0
        cases b1 : soundB vars (R i 1) with
        | false =>
          rw [b1] at q1
          obtain rfl := hdec.out (by rw [b0, b1]; rfl)
          clear hdec hstep q2
          go_wp2_with (go_at_call 55; first | ((with_reducible refine (q0 _ (by (repeat' (first | (with_reducible first | exact Below.refl _ _ | assumption | refine Below.alloc ?_ ?_ _ | refine Below.drew ?_ | refine below_drewN ?_ _ | refine Below.setCell ?_ ?_ _ | refine below_via (by with_reducible assumption) ?_ ?_) | omega | (simp only [szs]; omega) | (simp only [szs] at *; omega))))).mono ?_); rintro e w5 ⟨rfl, b5⟩; have z5 := b5.size; (try simp only [szs] at z5); have q5 := own3 b5 w.heap.size (by first | omega | (simp only [szs]; omega)); have q5' := own3 b5 wr.heap.size (by first | omega | (simp only [szs]; omega))) | ((with_reducible refine (q1 _ (by (repeat' (first | (with_reducible first | exact Below.refl _ _ | assumption | refine Below.alloc ?_ ?_ _ | refine Below.drew ?_ | refine below_drewN ?_ _ | refine Below.setCell ?_ ?_ _ | refine below_via (by with_reducible assumption) ?_ ?_) | omega | (simp only [szs]; omega) | (simp only [szs] at *; omega))))).mono ?_); rintro e w6 ⟨rfl, b6⟩; have z6 := b6.size; (try simp only [szs] at z6); have q6 := own3 b6 w.heap.size (by first | omega | (simp only [szs]; omega)); have q6' := own3 b6 wr.heap.size (by first | omega | (simp only [szs]; omega))))
          go_ret
          exact ⟨rfl, by (repeat' (first | (with_reducible first | exact Below.refl _ _ | assumption | refine Below.alloc ?_ ?_ _ | refine Below.drew ?_ | refine below_drewN ?_ _ | refine Below.setCell ?_ ?_ _ | refine below_via (by with_reducible assumption) ?_ ?_) | omega | (simp only [szs]; omega) | (simp only [szs] at *; omega)))⟩
        | true =>
          rw [b1] at q1
          cases b2 : soundB vars (R i 2) with
          | false =>
            rw [b2] at q2
            obtain rfl := hdec.out (by rw [b0, b1, b2]; rfl)
            clear hdec hstep
            go_wp2_with (go_at_call 55; first | ((with_reducible refine (q0 _ (by (repeat' (first | (with_reducible first | exact Below.refl _ _ | assumption | refine Below.alloc ?_ ?_ _ | refine Below.drew ?_ | refine below_drewN ?_ _ | refine Below.setCell ?_ ?_ _ | refine below_via (by with_reducible assumption) ?_ ?_) | omega | (simp only [szs]; omega) | (simp only [szs] at *; omega))))).mono ?_); rintro e w5 ⟨rfl, b5⟩; have z5 := b5.size; (try simp only [szs] at z5); have q5 := own3 b5 w.heap.size (by first | omega | (simp only [szs]; omega)); have q5' := own3 b5 wr.heap.size (by first | omega | (simp only [szs]; omega))) | ((with_reducible refine (q1 _ (by (repeat' (first | (with_reducible first | exact Below.refl _ _ | assumption | refine Below.alloc ?_ ?_ _ | refine Below.drew ?_ | refine below_drewN ?_ _ | refine Below.setCell ?_ ?_ _ | refine below_via (by with_reducible assumption) ?_ ?_) | omega | (simp only [szs]; omega) | (simp only [szs] at *; omega))))).mono ?_); rintro e w6 ⟨rfl, b6⟩; have z6 := b6.size; (try simp only [szs] at z6); have q6 := own3 b6 w.heap.size (by first | omega | (simp only [szs]; omega)); have q6' := own3 b6 wr.heap.size (by first | omega | (simp only [szs]; omega))) | ((with_reducible refine (q2 _ (by (repeat' (first | (with_reducible first | exact Below.refl _ _ | assumption | refine Below.alloc ?_ ?_ _ | refine Below.drew ?_ | refine below_drewN ?_ _ | refine Below.setCell ?_ ?_ _ | refine below_via (by with_reducible assumption) ?_ ?_) | omega | (simp only [szs]; omega) | (simp only [szs] at *; omega))))).mono ?_); rintro e w7 ⟨rfl, b7⟩; have z7 := b7.size; (try simp only [szs] at z7); have q7 := own3 b7 w.heap.size (by first | omega | (simp only [szs]; omega)); have q7' := own3 b7 wr.heap.size (by first | omega | (simp only [szs]; omega))))
            go_ret
            exact ⟨rfl, by (repeat' (first | (with_reducible first | exact Below.refl _ _ | assumption | refine Below.alloc ?_ ?_ _ | refine Below.drew ?_ | refine below_drewN ?_ _ | refine Below.setCell ?_ ?_ _ | refine below_via (by with_reducible assumption) ?_ ?_) | omega | (simp only [szs]; omega) | (simp only [szs] at *; omega)))⟩
          | true =>
            rw [b2] at q2
            have hI2 : Hid (soundR vars R (i + 1) = true) := hstep.out (by rw [b0, b1, b2]; rfl)
            clear hdec hstep
            go_wp2_with (go_at_call 55; first | ((with_reducible refine (q0 _ (by (repeat' (first | (with_reducible first | exact Below.refl _ _ | assumption | refine Below.alloc ?_ ?_ _ | refine Below.drew ?_ | refine below_drewN ?_ _ | refine Below.setCell ?_ ?_ _ | refine below_via (by with_reducible assumption) ?_ ?_) | omega | (simp only [szs]; omega) | (simp only [szs] at *; omega))))).mono ?_); rintro e w5 ⟨rfl, b5⟩; have z5 := b5.size; (try simp only [szs] at z5); have q5 := own3 b5 w.heap.size (by first | omega | (simp only [szs]; omega)); have q5' := own3 b5 wr.heap.size (by first | omega | (simp only [szs]; omega))) | ((with_reducible refine (q1 _ (by (repeat' (first | (with_reducible first | exact Below.refl _ _ | assumption | refine Below.alloc ?_ ?_ _ | refine Below.drew ?_ | refine below_drewN ?_ _ | refine Below.setCell ?_ ?_ _ | refine below_via (by with_reducible assumption) ?_ ?_) | omega | (simp only [szs]; omega) | (simp only [szs] at *; omega))))).mono ?_); rintro e w6 ⟨rfl, b6⟩; have z6 := b6.size; (try simp only [szs] at z6); have q6 := own3 b6 w.heap.size (by first | omega | (simp only [szs]; omega)); have q6' := own3 b6 wr.heap.size (by first | omega | (simp only [szs]; omega))) | ((with_reducible refine (q2 _ (by (repeat' (first | (with_reducible first | exact Below.refl _ _ | assumption | refine Below.alloc ?_ ?_ _ | refine Below.drew ?_ | refine below_drewN ?_ _ | refine Below.setCell ?_ ?_ _ | refine below_via (by with_reducible assumption) ?_ ?_) | omega | (simp only [szs]; omega) | (simp only [szs] at *; omega))))).mono ?_); rintro e w7 ⟨rfl, b7⟩; have z7 := b7.size; (try simp only [szs] at z7); have q7 := own3 b7 w.heap.size (by first | omega | (simp only [szs]; omega)); have q7' := own3 b7 wr.heap.size (by first | omega | (simp only [szs]; omega))))
            go_roundw
            case rel => exact ⟨i + 1, by omega, by go_num, by (repeat' (first | (with_reducible first | assumption | exact Three.own (by with_reducible assumption) | refine Three.set ?_ _ _ _ | refine Own3.set ?_ _ _ _ | refine Three.drew ?_ | refine Three.drewN ?_ _ | refine Own3.drew ?_ | refine Own3.drewN ?_ _ | (refine Three.new ?_; simp only [szs]; done) | (refine Own3.new ?_; simp only [szs]; done) | refine Three.alloc ?_ _ | refine Own3.alloc ?_ _ | refine Three.far ?_ ?_ _ _ | refine Own3.far ?_ ?_ _ _ | refine Three.via (by with_reducible assumption) ?_ ?_ | refine Own3.via (by with_reducible assumption) ?_ ?_) | omega | (simp only [szs]; omega))), by (repeat' (first | (with_reducible first | exact Below.refl _ _ | assumption | refine Below.alloc ?_ ?_ _ | refine Below.drew ?_ | refine below_drewN ?_ _ | refine Below.setCell ?_ ?_ _ | refine below_via (by with_reducible assumption) ?_ ?_) | omega | (simp only [szs]; omega) | (simp only [szs] at *; omega))), hI2⟩
            case measure => (simp [intOf]; omega)
    · have hlt' : ¬ (i : Int) < (m : Int) := by omega
      obtain rfl : i = m := by omega
      obtain rfl : S = true := hS.out.symm.trans hI.out
      go_wp2
      go_ret
      exact ⟨rfl, by (repeat' (first | (with_reducible first | exact Below.refl _ _ | assumption | refine Below.alloc ?_ ?_ _ | refine Below.drew ?_ | refine below_drewN ?_ _ | refine Below.setCell ?_ ?_ _ | refine below_via (by with_reducible assumption) ?_ ?_) | omega | (simp only [szs]; omega) | (simp only [szs] at *; omega)))⟩
theorem ncheckW (vars pubs : Int) (a : Option Addr) (m c : Nat) (R : Nat → Nat → Lst) (hO : ∀ i j, (R i j).Ok) (w : World) (hR : RowsAt w.heap.size w a m R) :
    Calls Try.prog 27 #[rankV vars pubs a m c] w fun e w' => e = .returned (chkV (checkB vars pubs m R)) ∧ Below w.heap.size w w' := by
  unfold checkB
  cases h : frameB vars pubs m with
  | false => exact ncheck_no vars pubs a m c w h
  | true => rw [Bool.true_and]; exact ncheck_core vars pubs a m c R hO w hR h
set_option maxHeartbeats 4000000 in
theorem nvalues_few (vars : Int) (ad : Option Addr) (n d : Nat) (hn : (n : Int) ≠ vars) (w : World) :
    Calls Try.prog 47 #[.slice ad n d, .int .i64 vars] w fun e w' => e = .returned (.bool false) ∧ w = w' := by
  have h1 : ((n : Int) == vars) = false := by rw [beq_eq_false_iff_ne]; exact hn
  have h2 : ((n : Int) != vars) = true := by rw [bne_iff_ne]; exact hn
  clear hn
  go_enter Try.func47, Try.ntmps47
  go_wp2
  go_ret
  exact ⟨rfl, rfl⟩
set_option maxHeartbeats 4000000 in
theorem nvalues_core (b off n d : Nat) (hn : 1 ≤ n) (hn2 : n ≤ 1000000) (x : Nat → Nat) (w : World) (wx : Wds w b off n x) :
    Calls Try.prog 47 #[.slice (some ⟨b, off, none⟩) n d, .int .i64 (n : Nat)] w fun e w' => e = .returned (.bool (valuesB (n : Int) n x)) ∧ w = w' := by
  have wx' : Hid (Wds w b off n x) := wx
  have hn0 : (0 : Int) < (n : Int) := by omega
  have d0 := wx.at_ 0 (by omega)
  rw [Nat.add_zero] at d0
  obtain ⟨S, hS⟩ : ∃ S, Hid (valuesB (n : Int) n x = S) := ⟨_, rfl⟩
  rw [hS.out]
  clear wx
  by_cases hx0 : x 0 = 1
  · have hx1 : ((x 0 : Nat) : Int) = 1 := by omega
    rw [hx1] at d0
    have hlow : Hid (lowN_ x n = S) := by show _ = S; rw [← hS.out]; unfold valuesB; rw [decide_eq_true ⟨rfl, hx0⟩, Bool.true_and]
    clear hx0 hx1 hS
    go_enter Try.func47, Try.ntmps47
    go_wp2
    go_loopw [19] (fun si wr => ∃ i : Nat, i ≤ n ∧ si = .int .i64 i ∧ w = wr ∧ Hid (lowN_ x i = true)) (fun si _ => n - (intOf si).toNat)
    case atStart => exact ⟨0, by omega, rfl, rfl, rfl⟩
    case round =>
      obtain ⟨i, hi, rfl, rfl, hI⟩ := hrel
      clear d0
      by_cases hlt : i < n
      · have hlt' : (i : Int) < (n : Int) := by omega
        have d1 := wx'.out.at_ i hlt
        have hstep : Hid (x i < 288230376287764481 → lowN_ x (i + 1) = true) := fun h => by show (lowN_ x i && _) = true; rw [hI.out, decide_eq_true h]; rfl
        have hdec : Hid (¬ x i < 288230376287764481 → S = false) := fun h => by rw [← hlow.out]; exact lowN_not h hlt
        clear hI
        generalize x i = xi at *
        by_cases h1 : xi < 288230376287764481
        · have h1' : ¬ (288230376287764481 : Int) ≤ (xi : Int) := by omega
          have hI2 : Hid (lowN_ x (i + 1) = true) := hstep.out h1
          clear hstep hdec h1
          go_wp2
          go_roundw
          case rel => exact ⟨i + 1, by omega, by go_num, by first | rfl | trivial, hI2⟩
          case measure => (simp [intOf]; omega)
        · have h1' : (288230376287764481 : Int) ≤ (xi : Int) := by omega
          obtain rfl := hdec.out h1
          clear hstep hdec h1
          go_wp2
          go_ret
          exact ⟨rfl, rfl⟩
      · have hlt' : ¬ (i : Int) < (n : Int) := by omega
        obtain rfl : i = n := by omega
        obtain rfl : S = true := hlow.out.symm.trans hI.out
        go_wp2
        go_ret
        exact ⟨rfl, rfl⟩
  · obtain rfl : S = false := by rw [← hS.out]; unfold valuesB; rw [decide_eq_false (fun h => hx0 h.2)]; rfl
    have hx2 : (((x 0 : Nat) : Int) == 1) = false := by rw [beq_eq_false_iff_ne]; omega
    have hx3 : (((x 0 : Nat) : Int) != 1) = true := by rw [bne_iff_ne]; omega
    clear hx0 hS
    generalize x 0 = x0 at *
    go_enter Try.func47, Try.ntmps47
    go_wp2
    go_ret
    exact ⟨rfl, rfl⟩
theorem nvaluesW (vars : Int) (hv : 1 ≤ vars) (ad : Option Addr) (n d : Nat) (hn : n ≤ 1000000) (x : Nat → Nat) (w : World) (hs : SrcW w.heap.size w ad n x) :
    Calls Try.prog 47 #[.slice ad n d, .int .i64 vars] w fun e w' => e = .returned (.bool (valuesB vars n x)) ∧ w = w' := by
  by_cases h : (n : Int) = vars
  · subst h
    rcases hs with h | ⟨b, off, rfl, lb, wx⟩
    · omega
    · exact nvalues_core b off n d (by omega) hn x w wx
  · have : valuesB vars n x = false := by unfold valuesB; rw [decide_eq_false (fun e => h e.1)]; rfl
    rw [this]
    exact nvalues_few vars ad n d h w
set_option maxHeartbeats 8000000 in
theorem nholds_core (a0 a1 a2 : Option Addr) (n0 n1 n2 k0 k1 k2 : Nat) (v : Value) (p0 p1 p2 p : Nat) (w : World)
   (c0 : ∀ W, Below w.heap.size w W → Calls Try.prog 64 #[.slice a0 n0 k0, v] W fun e w' => e = .returned (.int .u64 (p0 : Nat)) ∧ Below W.heap.size W w')
   (c1 : ∀ W, Below w.heap.size w W → Calls Try.prog 64 #[.slice a1 n1 k1, v] W fun e w' => e = .returned (.int .u64 (p1 : Nat)) ∧ Below W.heap.size W w')
   (c2 : ∀ W, Below w.heap.size w W → Calls Try.prog 64 #[.slice a2 n2 k2, v] W fun e w' => e = .returned (.int .u64 (p2 : Nat)) ∧ Below W.heap.size W w')
   (cm : ∀ W, Calls Try.prog 59 #[.int .u64 288230376287764481, .int .u64 p0, .int .u64 p1] W fun e w' => e = .returned (.int .u64 (p : Nat)) ∧ ∃ n, w' = W.drewN n) :
    Calls Try.prog 48 #[.agg #[.slice a0 n0 k0, .slice a1 n1 k1, .slice a2 n2 k2], v] w fun e w' => e = .returned (.bool ((p : Int) == (p2 : Int))) ∧ Below w.heap.size w w' := by
  go_enter Try.func48, Try.ntmps48
  go_upto_region 1 with (fail)
  have t2 : Three (w.alloc (.cells #[.slice a0 n0 k0, .slice a1 n1 k1, .slice a2 n2 k2] 63)) w.heap.size (.slice a0 n0 k0) (.slice a1 n1 k1) (.slice a2 n2 k2) := by (repeat' (first | (with_reducible first | assumption | exact Three.own (by with_reducible assumption) | refine Three.set ?_ _ _ _ | refine Own3.set ?_ _ _ _ | refine Three.drew ?_ | refine Three.drewN ?_ _ | refine Own3.drew ?_ | refine Own3.drewN ?_ _ | (refine Three.new ?_; simp only [szs]; done) | (refine Own3.new ?_; simp only [szs]; done) | refine Three.alloc ?_ _ | refine Own3.alloc ?_ _ | refine Three.far ?_ ?_ _ _ | refine Own3.far ?_ ?_ _ _ | refine Three.via (by with_reducible assumption) ?_ ?_ | refine Own3.via (by with_reducible assumption) ?_ ?_) | omega | (simp only [szs]; omega)))
  have hB : Below w.heap.size w (w.alloc (.cells #[.slice a0 n0 k0, .slice a1 n1 k1, .slice a2 n2 k2] 63)) := by (repeat' (first | (with_reducible first | exact Below.refl _ _ | assumption | refine Below.alloc ?_ ?_ _ | refine Below.drew ?_ | refine below_drewN ?_ _ | refine Below.setCell ?_ ?_ _ | refine below_via (by with_reducible assumption) ?_ ?_) | omega | (simp only [szs]; omega) | (simp only [szs] at *; omega)))
  generalize (w.alloc (.cells #[.slice a0 n0 k0, .slice a1 n1 k1, .slice a2 n2 k2] 63)) = V at *
  have zB := hB.size
  have lw := t2.lt
  have ⟨e1, e2, e3, e4, e5, e6, e7⟩ := t2
  go_region_held3 (fun w' => w'.cell? ⟨w.heap.size, 0, none⟩ = some (.slice a0 n0 k0) ∧ w'.cell? ⟨w.heap.size, 1, none⟩ = some (.slice a1 n1 k1) ∧ w'.cell? ⟨w.heap.size, 2, none⟩ = some (.slice a2 n2 k2)) (go_keep)
    (first
      | (first | (go_at_call 59; first | (with_reducible refine (cm _).mono ?_; rintro e w' ⟨rfl, nd, rfl⟩)))
      | (go_at_call 64; first | ((with_reducible refine (c0 _ (by (repeat' (first | (with_reducible first | exact Below.refl _ _ | assumption | refine Below.alloc ?_ ?_ _ | refine Below.drew ?_ | refine below_drewN ?_ _ | refine Below.setCell ?_ ?_ _ | refine below_via (by with_reducible assumption) ?_ ?_) | omega | (simp only [szs]; omega) | (simp only [szs] at *; omega))))).mono ?_); rintro e w5 ⟨rfl, b5⟩; have z5 := b5.size; (try simp only [szs] at z5); have q5 := own3 b5 w.heap.size (by first | omega | (simp only [szs]; omega))) | ((with_reducible refine (c1 _ (by (repeat' (first | (with_reducible first | exact Below.refl _ _ | assumption | refine Below.alloc ?_ ?_ _ | refine Below.drew ?_ | refine below_drewN ?_ _ | refine Below.setCell ?_ ?_ _ | refine below_via (by with_reducible assumption) ?_ ?_) | omega | (simp only [szs]; omega) | (simp only [szs] at *; omega))))).mono ?_); rintro e w6 ⟨rfl, b6⟩; have z6 := b6.size; (try simp only [szs] at z6); have q6 := own3 b6 w.heap.size (by first | omega | (simp only [szs]; omega)))))
  go_wp2_with (go_at_call 64; (with_reducible refine (c2 _ (by (repeat' (first | (with_reducible first | exact Below.refl _ _ | assumption | refine Below.alloc ?_ ?_ _ | refine Below.drew ?_ | refine below_drewN ?_ _ | refine Below.setCell ?_ ?_ _ | refine below_via (by with_reducible assumption) ?_ ?_) | omega | (simp only [szs]; omega) | (simp only [szs] at *; omega))))).mono ?_); rintro e w7 ⟨rfl, b7⟩; have z7 := b7.size; (try simp only [szs] at z7); have q7 := own3 b7 w.heap.size (by first | omega | (simp only [szs]; omega)))
  go_ret
  exact ⟨rfl, by (repeat' (first | (with_reducible first | exact Below.refl _ _ | assumption | refine Below.alloc ?_ ?_ _ | refine Below.drew ?_ | refine below_drewN ?_ _ | refine Below.setCell ?_ ?_ _ | refine below_via (by with_reducible assumption) ?_ ?_) | omega | (simp only [szs]; omega) | (simp only [szs] at *; omega)))⟩
theorem nholdsRowW (R : Nat → Nat → Lst) (hO : ∀ i j, (R i j).Ok) (j : Nat) (ad : Option Addr) (n d : Nat) (hn : n ≤ 1000000) (x : Nat → Nat) (hx : ∀ i, x i < 18446744073709551616) (w : World)
   (hA : ∀ k, k < 3 → (R j k).At w.heap.size w) (hs : SrcW w.heap.size w ad n x) :
    Calls Try.prog 48 #[.agg #[.slice (R j 0).ad (R j 0).n (R j 0).c, .slice (R j 1).ad (R j 1).n (R j 1).c, .slice (R j 2).ad (R j 2).n (R j 2).c], .slice ad n d] w fun e w' => e = .returned (.bool (rowB R n x j)) ∧ Below w.heap.size w w' := by
  have cv := fun (k : Nat) (hk : k < 3) (W : World) (hW : Below w.heap.size w W) => nvalueW (R j k) (hO j k) ad n d (by omega) x hx W (TrmsAt.to (hA k hk) hW (Nat.le_refl _)) (hs.to hW (Nat.le_refl _))
  have cm := fun W => ntimesW (valL (R j 0) n x).val (valL (R j 1) n x).val (Ob.G_word _) (Ob.G_word _) W
  rw [Ob.toG_of_val, Ob.toG_of_val] at cm
  have hq : ((((valL (R j 0) n x * valL (R j 1) n x).val : Nat) : Int) == (((valL (R j 2) n x).val : Nat) : Int)) = rowB R n x j := by
    unfold rowB
    by_cases h : valL (R j 0) n x * valL (R j 1) n x = valL (R j 2) n x
    · rw [h, decide_eq_true rfl, beq_self_eq_true]
    · rw [decide_eq_false h, beq_eq_false_iff_ne]
      exact fun e => h (Fin.ext (by omega))
  rw [← hq]
  exact nholds_core _ _ _ _ _ _ _ _ _ _ _ _ _ _ w (cv 0 (by decide)) (cv 1 (by decide)) (cv 2 (by decide)) cm
set_option maxHeartbeats 4000000 in
theorem nHolds_unsound (vars pubs : Int) (a : Option Addr) (m c : Nat) (v : Value) (w : World)
   (cc : ∀ W, Below w.heap.size w W → Calls Try.prog 27 #[rankV vars pubs a m c] W fun e w' => e = .returned (.iface 67 (.int .i64 3)) ∧ Below W.heap.size W w') :
    Calls Try.prog 19 #[rankV vars pubs a m c, v] w fun e w' => e = .returned (.iface 67 (.int .i64 3)) ∧ Below w.heap.size w w' := by
  unfold rankV at *
  go_enter Try.func19, Try.ntmps19
  go_wp2_with (go_at_call 27; (with_reducible refine (cc _ (by (repeat' (first | (with_reducible first | exact Below.refl _ _ | assumption | refine Below.alloc ?_ ?_ _ | refine Below.drew ?_ | refine below_drewN ?_ _ | refine Below.setCell ?_ ?_ _ | refine below_via (by with_reducible assumption) ?_ ?_) | omega | (simp only [szs]; omega) | (simp only [szs] at *; omega))))).mono ?_); rintro e w1 ⟨rfl, b1⟩; have z1 := b1.size; (try simp only [szs] at z1); have q1 := own3 b1 w.heap.size (by first | omega | (simp only [szs]; omega)))
  go_ret
  exact ⟨rfl, by (repeat' (first | (with_reducible first | exact Below.refl _ _ | assumption | refine Below.alloc ?_ ?_ _ | refine Below.drew ?_ | refine below_drewN ?_ _ | refine Below.setCell ?_ ?_ _ | refine below_via (by with_reducible assumption) ?_ ?_) | omega | (simp only [szs]; omega) | (simp only [szs] at *; omega)))⟩
set_option maxHeartbeats 4000000 in
theorem nHolds_arg (vars pubs : Int) (a : Option Addr) (m c : Nat) (v : Value) (w : World)
   (cc : ∀ W, Below w.heap.size w W → Calls Try.prog 27 #[rankV vars pubs a m c] W fun e w' => e = .returned .nilIface ∧ Below W.heap.size W w')
   (cv : ∀ W, Below w.heap.size w W → Calls Try.prog 47 #[v, .int .i64 vars] W fun e w' => e = .returned (.bool false) ∧ W = w') :
    Calls Try.prog 19 #[rankV vars pubs a m c, v] w fun e w' => e = .returned (.iface 67 (.int .i64 1)) ∧ Below w.heap.size w w' := by
  unfold rankV at *
  go_enter Try.func19, Try.ntmps19
  go_wp2_with (first | (go_at_call 27; (with_reducible refine (cc _ (by (repeat' (first | (with_reducible first | exact Below.refl _ _ | assumption | refine Below.alloc ?_ ?_ _ | refine Below.drew ?_ | refine below_drewN ?_ _ | refine Below.setCell ?_ ?_ _ | refine below_via (by with_reducible assumption) ?_ ?_) | omega | (simp only [szs]; omega) | (simp only [szs] at *; omega))))).mono ?_); rintro e w1 ⟨rfl, b1⟩; have z1 := b1.size; (try simp only [szs] at z1); have q1 := own3 b1 w.heap.size (by first | omega | (simp only [szs]; omega))) | (go_at_call 47; (with_reducible refine (cv _ (by (repeat' (first | (with_reducible first | exact Below.refl _ _ | assumption | refine Below.alloc ?_ ?_ _ | refine Below.drew ?_ | refine below_drewN ?_ _ | refine Below.setCell ?_ ?_ _ | refine below_via (by with_reducible assumption) ?_ ?_) | omega | (simp only [szs]; omega) | (simp only [szs] at *; omega))))).mono ?_); rintro e w2 ⟨rfl, rfl⟩))
  go_ret
  exact ⟨rfl, by (repeat' (first | (with_reducible first | exact Below.refl _ _ | assumption | refine Below.alloc ?_ ?_ _ | refine Below.drew ?_ | refine below_drewN ?_ _ | refine Below.setCell ?_ ?_ _ | refine below_via (by with_reducible assumption) ?_ ?_) | omega | (simp only [szs]; omega) | (simp only [szs] at *; omega)))⟩
set_option maxRecDepth 4000 in
set_option maxHeartbeats 16000000 in
theorem nHolds_core (vars pubs : Int) (a ad : Option Addr) (m c n d : Nat) (R : Nat → Nat → Lst) (hO : ∀ i j, (R i j).Ok) (hn : n ≤ 1000000) (x : Nat → Nat) (hx : ∀ i, x i < 18446744073709551616) (w : World) (hR : RowsAt w.heap.size w a m R)
   (hs : SrcW w.heap.size w ad n x) (hm : m ≤ 1000000) (bad at_ : Int) (hbad : ∀ i, i < m → rowsB R n x i = true → rowB R n x i = false → bad = 8 ∧ at_ = (i : Int)) (hgood : rowsB R n x m = true → bad = 0 ∧ at_ = -1)
   (cc : ∀ W, Below w.heap.size w W → Calls Try.prog 27 #[rankV vars pubs a m c] W fun e w' => e = .returned .nilIface ∧ Below W.heap.size W w')
   (cv : ∀ W, Below w.heap.size w W → Calls Try.prog 47 #[.slice ad n d, .int .i64 vars] W fun e w' => e = .returned (.bool true) ∧ W = w') :
    Calls Try.prog 19 #[rankV vars pubs a m c, .slice ad n d] w fun e w' => ∃ er, e = .returned er ∧ ErrIs w.heap.size w' er bad at_ ∧ Below w.heap.size w w' := by
  have hR' : Hid (RowsAt w.heap.size w a m R) := hR
  have hO' : Hid (∀ i j, (R i j).Ok) := hO
  have hs' : Hid (SrcW w.heap.size w ad n x) := hs
  have hx' : Hid (∀ i, x i < 18446744073709551616) := hx
  have hbad' : Hid (∀ i, i < m → rowsB R n x i = true → rowB R n x i = false → bad = 8 ∧ at_ = (i : Int)) := hbad
  have hgood' : Hid (rowsB R n x m = true → bad = 0 ∧ at_ = -1) := hgood
  unfold rankV at *
  clear hR hO hs hx hbad hgood
  go_enter Try.func19, Try.ntmps19
  go_upto_region 4 with (go_at_call 27; (with_reducible refine (cc _ (by (repeat' (first | (with_reducible first | exact Below.refl _ _ | assumption | refine Below.alloc ?_ ?_ _ | refine Below.drew ?_ | refine below_drewN ?_ _ | refine Below.setCell ?_ ?_ _ | refine below_via (by with_reducible assumption) ?_ ?_) | omega | (simp only [szs]; omega) | (simp only [szs] at *; omega))))).mono ?_); rintro e w1 ⟨rfl, b1⟩; have z1 := b1.size; (try simp only [szs] at z1); have q1 := own3 b1 w.heap.size (by first | omega | (simp only [szs]; omega)))
  have t1 : Three w1 w.heap.size (.int .i64 vars) (.int .i64 pubs) (.slice a m c) := by (repeat' (first | (with_reducible first | assumption | exact Three.own (by with_reducible assumption) | refine Three.set ?_ _ _ _ | refine Own3.set ?_ _ _ _ | refine Three.drew ?_ | refine Three.drewN ?_ _ | refine Own3.drew ?_ | refine Own3.drewN ?_ _ | (refine Three.new ?_; simp only [szs]; done) | (refine Own3.new ?_; simp only [szs]; done) | refine Three.alloc ?_ _ | refine Own3.alloc ?_ _ | refine Three.far ?_ ?_ _ _ | refine Own3.far ?_ ?_ _ _ | refine Three.via (by with_reducible assumption) ?_ ?_ | refine Own3.via (by with_reducible assumption) ?_ ?_) | omega | (simp only [szs]; omega)))
  have hB1 : Hid (Below w.heap.size w w1) := by show Below _ _ _; (repeat' (first | (with_reducible first | exact Below.refl _ _ | assumption | refine Below.alloc ?_ ?_ _ | refine Below.drew ?_ | refine below_drewN ?_ _ | refine Below.setCell ?_ ?_ _ | refine below_via (by with_reducible assumption) ?_ ?_) | omega | (simp only [szs]; omega) | (simp only [szs] at *; omega)))
  clear b1 z1 q1 cc
  have hB := hB1.out
  clear hB1
  have ⟨e1, e2, e3, e4, e5, e6, e7⟩ := t1
  go_wp2_with (go_at_call 47; (with_reducible refine (cv _ (by (repeat' (first | (with_reducible first | exact Below.refl _ _ | assumption | refine Below.alloc ?_ ?_ _ | refine Below.drew ?_ | refine below_drewN ?_ _ | refine Below.setCell ?_ ?_ _ | refine below_via (by with_reducible assumption) ?_ ?_) | omega | (simp only [szs]; omega) | (simp only [szs] at *; omega))))).mono ?_); rintro e w2 ⟨rfl, rfl⟩)
  clear cv
  go_loopw [22] (fun sj ws => ∃ j : Nat, j ≤ m ∧ sj = .int .i64 j ∧ Three ws w.heap.size (.int .i64 vars) (.int .i64 pubs) (.slice a m c) ∧ Below w.heap.size w ws ∧ Hid (rowsB R n x j = true)) (fun sj _ => m - (intOf sj).toNat)
  case atStart => exact ⟨0, by omega, rfl, t1, hB, rfl⟩
  case round =>
    clear t1 hB e1 e2 e3 e4 e5 e6 e7
    obtain ⟨j, hj, rfl, t1, hB, hI⟩ := hrel
    have ⟨e1, e2, e3, e4, e5, e6, e7⟩ := t1
    by_cases hlj : j < m
    · have hlj' : (j : Int) < (m : Int) := by omega
      rcases hR'.out with hz | ⟨br, or_, rfl, tr⟩
      · omega
      obtain ⟨d0, d1, d2⟩ := (tr.below hB).parts hlj
      unfold Lst.val at d0 d1 d2
      have ch := fun (W : World) (hW : Below w.heap.size w W) => nholdsRowW R hO'.out j ad n d hn x hx'.out W (fun k hk => TrmsAt.to (tr.at_ j hlj k hk) hW (Nat.le_refl _)) (hs'.out.to hW (Nat.le_refl _))
      have zB := hB.size
      have lw := t1.lt
      clear tr
      cases hr : rowB R n x j with
      | true =>
        rw [hr] at ch
        have hI2 : Hid (rowsB R n x (j + 1) = true) := by show (rowsB R n x j && rowB R n x j) = true; rw [hI.out, hr]; rfl
        clear hI hr
        go_wp2_with (go_at_call 48; (with_reducible refine (ch _ (by (repeat' (first | (with_reducible first | exact Below.refl _ _ | assumption | refine Below.alloc ?_ ?_ _ | refine Below.drew ?_ | refine below_drewN ?_ _ | refine Below.setCell ?_ ?_ _ | refine below_via (by with_reducible assumption) ?_ ?_) | omega | (simp only [szs]; omega) | (simp only [szs] at *; omega))))).mono ?_); rintro e w5 ⟨rfl, b5⟩; have z5 := b5.size; (try simp only [szs] at z5); have q5 := own3 b5 w.heap.size (by first | omega | (simp only [szs]; omega)))
        go_roundw
        case rel => exact ⟨j + 1, by omega, by go_num, by (repeat' (first | (with_reducible first | assumption | exact Three.own (by with_reducible assumption) | refine Three.set ?_ _ _ _ | refine Own3.set ?_ _ _ _ | refine Three.drew ?_ | refine Three.drewN ?_ _ | refine Own3.drew ?_ | refine Own3.drewN ?_ _ | (refine Three.new ?_; simp only [szs]; done) | (refine Own3.new ?_; simp only [szs]; done) | refine Three.alloc ?_ _ | refine Own3.alloc ?_ _ | refine Three.far ?_ ?_ _ _ | refine Own3.far ?_ ?_ _ _ | refine Three.via (by with_reducible assumption) ?_ ?_ | refine Own3.via (by with_reducible assumption) ?_ ?_) | omega | (simp only [szs]; omega))), by (repeat' (first | (with_reducible first | exact Below.refl _ _ | assumption | refine Below.alloc ?_ ?_ _ | refine Below.drew ?_ | refine below_drewN ?_ _ | refine Below.setCell ?_ ?_ _ | refine below_via (by with_reducible assumption) ?_ ?_) | omega | (simp only [szs]; omega) | (simp only [szs] at *; omega))), hI2⟩
        case measure => (simp [intOf]; omega)
      | false =>
        rw [hr] at ch
        obtain ⟨rfl, rfl⟩ := hbad'.out j hlj hI.out hr
        clear hI hr
        go_upto_region 10 with (go_at_call 48; (with_reducible refine (ch _ (by (repeat' (first | (with_reducible first | exact Below.refl _ _ | assumption | refine Below.alloc ?_ ?_ _ | refine Below.drew ?_ | refine below_drewN ?_ _ | refine Below.setCell ?_ ?_ _ | refine below_via (by with_reducible assumption) ?_ ?_) | omega | (simp only [szs]; omega) | (simp only [szs] at *; omega))))).mono ?_); rintro e w5 ⟨rfl, b5⟩; have z5 := b5.size; (try simp only [szs] at z5); have q5 := own3 b5 w.heap.size (by first | omega | (simp only [szs]; omega)))
        have hB5 : Below w.heap.size w w5 := by (repeat' (first | (with_reducible first | exact Below.refl _ _ | assumption | refine Below.alloc ?_ ?_ _ | refine Below.drew ?_ | refine below_drewN ?_ _ | refine Below.setCell ?_ ?_ _ | refine below_via (by with_reducible assumption) ?_ ?_) | omega | (simp only [szs]; omega) | (simp only [szs] at *; omega)))
        have zB5 := hB5.size
        clear b5 z5 q5 hB zB e1 e2 e3 e4 e5 e6 e7 d0 d1 d2 t1 ch
        go_wp2
        go_ret
        refine ⟨_, rfl, Or.inr (Or.inr ⟨by omega, w5.heap.size, rfl, zB5, ?_⟩), by (repeat' (first | (with_reducible first | exact Below.refl _ _ | assumption | refine Below.alloc ?_ ?_ _ | refine Below.drew ?_ | refine below_drewN ?_ _ | refine Below.setCell ?_ ?_ _ | refine below_via (by with_reducible assumption) ?_ ?_) | omega | (simp only [szs]; omega) | (simp only [szs] at *; omega)))⟩
        (repeat' (first | (with_reducible first | assumption | exact Two.own (by with_reducible assumption) | refine Two.set ?_ _ _ | refine Own2.set ?_ _ _ | refine Two.drew ?_ | refine Two.drewN ?_ _ | refine Own2.drew ?_ | refine Own2.drewN ?_ _ | (refine Two.new ?_; simp only [szs]; done) | (refine Own2.new ?_; simp only [szs]; done) | refine Two.alloc ?_ _ | refine Own2.alloc ?_ _ | refine Two.far ?_ ?_ _ _ | refine Own2.far ?_ ?_ _ _ | refine Two.via (by with_reducible assumption) ?_ ?_ | refine Own2.via (by with_reducible assumption) ?_ ?_) | omega | (simp only [szs]; omega)))
    · have hlj' : ¬ (j : Int) < (m : Int) := by omega
      obtain rfl : j = m := by omega
      obtain ⟨rfl, rfl⟩ := hgood'.out hI.out
      go_wp2
      go_ret
      exact ⟨_, rfl, Or.inl ⟨rfl, rfl, rfl⟩, by (repeat' (first | (with_reducible first | exact Below.refl _ _ | assumption | refine Below.alloc ?_ ?_ _ | refine Below.drew ?_ | refine below_drewN ?_ _ | refine Below.setCell ?_ ?_ _ | refine below_via (by with_reducible assumption) ?_ ?_) | omega | (simp only [szs]; omega) | (simp only [szs] at *; omega)))⟩
/-- Something is amiss, or nothing. -/
theorem nHoldsW (vars pubs : Int) (a : Option Addr) (m c : Nat) (R : Nat → Nat → Lst) (hO : ∀ i j, (R i j).Ok) (hm : m ≤ 1000000) (ad : Option Addr) (n d : Nat) (hn : n ≤ 1000000) (x : Nat → Nat) (hx : ∀ i, x i < 18446744073709551616) (w : World)
   (hR : RowsAt w.heap.size w a m R) (hs : SrcW w.heap.size w ad n x) (bad at_ : Int) (hH : HoldIs vars pubs m R n x bad at_) :
    Calls Try.prog 19 #[rankV vars pubs a m c, .slice ad n d] w fun e w' => ∃ er, e = .returned er ∧ ErrIs w.heap.size w' er bad at_ ∧ Below w.heap.size w w' := by
  have cc := fun (W : World) (h : Below w.heap.size w W) => ncheckW vars pubs a m c R hO W (hR.to h (Nat.le_refl _))
  cases hc : checkB vars pubs m R with
  | false =>
    rw [hc] at cc
    obtain ⟨rfl, rfl⟩ : bad = 3 ∧ at_ = -1 := by
      rcases hH with h | ⟨h, _⟩ | ⟨h, _⟩ | ⟨h, _⟩
      · exact h.2
      · rw [hc] at h; cases h
      · rw [hc] at h; cases h
      · rw [hc] at h; cases h
    exact (nHolds_unsound vars pubs a m c _ w cc).mono fun e w' h => ⟨_, h.1, Or.inr (Or.inl ⟨rfl, by omega, rfl⟩), h.2⟩
  | true =>
    rw [hc] at cc
    have hv1 : 1 ≤ vars := by
      have h : (frameB vars pubs m && soundR vars R m) = true := hc
      rw [Bool.and_eq_true] at h
      have := nframe_yes h.1
      omega
    have cv := fun (W : World) (h : Below w.heap.size w W) => nvaluesW vars hv1 ad n d hn x W (hs.to h (Nat.le_refl _))
    cases hb : valuesB vars n x with
    | false =>
      rw [hb] at cv
      obtain ⟨rfl, rfl⟩ : bad = 1 ∧ at_ = -1 := by
        rcases hH with h | ⟨_, h⟩ | ⟨_, h, _⟩ | ⟨_, h, _⟩
        · rw [hc] at h; cases h.1
        · exact h.2
        · rw [hb] at h; cases h
        · rw [hb] at h; cases h
      exact (nHolds_arg vars pubs a m c _ w cc cv).mono fun e w' h => ⟨_, h.1, Or.inr (Or.inl ⟨rfl, by omega, rfl⟩), h.2⟩
    | true =>
      rw [hb] at cv
      exact nHolds_core vars pubs a ad m c n d R hO hn x hx w hR hs hm bad at_ (fun i hi h1 h2 => hH.at_bad hc hb hi h1 h2) (fun h => hH.at_good hc hb h) cc cv
end Go.Proofs.Ytdbolfmmlmoiaaa

namespace Go.Proofs.Ytdbolfmmlmoiaaa
open Go.RowKit Go.Proofs
set_option linter.unusedVariables false
set_option linter.unusedSimpArgs false

/-- A sum of factors that are told variable by variable. -/
structure SumF (f : Int → Fin Ob.RE) (n : Nat) (V : Nat → Int) (K : Nat → Nat) : Prop where
  pos : ∀ i, i < n → 0 ≤ V i
  rise : ∀ i j, i < j → j < n → V i < V j
  nz : ∀ i, i < n → K i ≠ 0 ∧ K i < 288230376287764481
  coef : ∀ i, i < n → Ob.toG (K i) = f (V i)
  all : ∀ v : Int, 0 ≤ v → f v ≠ 0 → ∃ i, i < n ∧ V i = v
theorem SumF.isSum {f : Int → Fin Ob.RE} {n : Nat} {V : Nat → Int} {K : Nat → Nat} (h : SumF f n V K) {L : Lst} (e : ∀ v : Int, 0 ≤ v → f v = ksum L v) : IsSum L ⟨none, n, 0, V, K⟩ :=
  ⟨h.pos, h.rise, h.nz, fun i hi => by rw [← e _ (h.pos i hi)]; exact h.coef i hi, fun v hv hne => h.all v hv (by rw [e v hv]; exact hne)⟩
theorem SumF.zero {f : Int → Fin Ob.RE} (e : ∀ v, f v = 0) (V : Nat → Int) (K : Nat → Nat) : SumF f 0 V K :=
  ⟨fun i hi => by omega, fun i j _ hj => by omega, fun i hi => by omega, fun i hi => by omega, fun v _ hne => absurd (e v) hne⟩
/-- The first m of a sum, all below x, hold all but x. -/
structure SumB (f : Int → Fin Ob.RE) (x : Int) (m : Nat) (V : Nat → Int) (K : Nat → Nat) : Prop where
  x0 : 0 ≤ x
  pos : ∀ i, i < m → 0 ≤ V i
  rise : ∀ i j, i < j → j < m → V i < V j
  nz : ∀ i, i < m → K i ≠ 0 ∧ K i < 288230376287764481
  coef : ∀ i, i < m → Ob.toG (K i) = f (V i)
  low : ∀ i, i < m → V i < x
  all : ∀ v : Int, 0 ≤ v → v ≠ x → f v ≠ 0 → ∃ i, i < m ∧ V i = v
theorem SumF.last {f : Int → Fin Ob.RE} {n : Nat} {V : Nat → Int} {K : Nat → Nat} (h : SumF f (n + 1) V K) {x : Int} (e : V n = x) : SumB f x n V K ∧ f x = Ob.toG (K n) :=
  ⟨⟨by rw [← e]; exact h.pos n (by omega), fun i hi => h.pos i (by omega), fun i j hij hj => h.rise i j hij (by omega), fun i hi => h.nz i (by omega), fun i hi => h.coef i (by omega), fun i hi => by rw [← e]; exact h.rise i n hi (by omega), fun v hv hx hne => by
    obtain ⟨i, hi, ei⟩ := h.all v hv hne
    rcases Nat.lt_or_ge i n with h1 | h1
    · exact ⟨i, h1, ei⟩
    · obtain rfl : i = n := by omega
      exact absurd (ei.symm.trans e) hx⟩, by rw [h.coef n (by omega), e]⟩
theorem SumF.behind {f : Int → Fin Ob.RE} {n : Nat} {V : Nat → Int} {K : Nat → Nat} (h : SumF f n V K) {x : Int} (hx : 0 ≤ x) (hl : ∀ i, i < n → V i < x) : SumB f x n V K ∧ f x = 0 :=
  ⟨⟨hx, h.pos, h.rise, h.nz, h.coef, hl, fun v hv _ hne => h.all v hv hne⟩, by
    by_cases hz : f x = 0
    · exact hz
    · obtain ⟨i, hi, e⟩ := h.all x hx hz
      have := hl i hi
      omega⟩
/-- The factor of x is nothing now. -/
theorem SumB.drop {f g : Int → Fin Ob.RE} {x : Int} {m : Nat} {V : Nat → Int} {K : Nat → Nat} (h : SumB f x m V K) (hg : ∀ v, v ≠ x → g v = f v) (h0 : g x = 0) : SumF g m V K :=
  ⟨h.pos, h.rise, h.nz, fun i hi => by rw [hg _ (by have := h.low i hi; omega)]; exact h.coef i hi, fun v hv hne => by
    by_cases e : v = x
    · subst e; exact absurd h0 hne
    · exact h.all v hv e (by rw [← hg v e]; exact hne)⟩
/-- It is k. -/
theorem SumB.put {f g : Int → Fin Ob.RE} {x : Int} {m k : Nat} {V : Nat → Int} {K : Nat → Nat} (h : SumB f x m V K) (hg : ∀ v, v ≠ x → g v = f v) (hk : (g x).val = k) (hk0 : k ≠ 0) : SumF g (m + 1) (putV m x V) (putK m k K) := by
  have hlt : k < 288230376287764481 := by rw [← hk]; exact (g x).isLt
  have hc : ∀ i, i < m + 1 → i < m ∨ i = m := fun i hi => by omega
  refine ⟨fun i hi => ?_, fun i j hij hj => ?_, fun i hi => ?_, fun i hi => ?_, fun v hv hne => ?_⟩
  · rcases hc i hi with h1 | rfl
    · rw [putV_lt _ _ h1]; exact h.pos i h1
    · rw [putV_at]; exact h.x0
  · rcases hc j hj with h1 | rfl
    · rw [putV_lt _ _ h1, putV_lt _ _ (by omega)]; exact h.rise i j hij h1
    · rw [putV_at, putV_lt _ _ hij]; exact h.low i hij
  · rcases hc i hi with h1 | rfl
    · rw [putK_lt _ _ h1]; exact h.nz i h1
    · rw [putK_at]; exact ⟨hk0, hlt⟩
  · rcases hc i hi with h1 | rfl
    · rw [putK_lt _ _ h1, putV_lt _ _ h1, hg _ (by have := h.low i h1; omega)]; exact h.coef i h1
    · rw [putK_at, putV_at, ← hk, Ob.toG_of_val]
  · by_cases e : v = x
    · exact ⟨m, by omega, by rw [putV_at, e]⟩
    · obtain ⟨i, hi, ei⟩ := h.all v hv e (by rw [← hg v e]; exact hne)
      exact ⟨i, by omega, by rw [putV_lt _ _ hi]; exact ei⟩

/-! ### Terms at places -/
/-- The factor of a term, where it is of variable v. -/
def facT (L : Lst) (v : Int) (p : Nat) : Fin Ob.RE := if L.V p = v then Ob.toG (L.K p) else 0
/-- All factors of a variable together, of the terms at some places. -/
def lks (L : Lst) (v : Int) : List Nat → Fin Ob.RE
  | [] => 0
  | p :: ps => facT L v p + lks L v ps
theorem lks_perm (L : Lst) (v : Int) {ps qs : List Nat} (h : ps.Perm qs) : lks L v ps = lks L v qs := by
  induction h with
  | nil => rfl
  | cons x _ ih => show facT L v x + _ = facT L v x + _; rw [ih]
  | swap x y l =>
    show facT L v y + (facT L v x + lks L v l) = facT L v x + (facT L v y + lks L v l)
    generalize facT L v y = a
    generalize facT L v x = b
    generalize lks L v l = c
    grobner
  | trans _ _ h1 h2 => exact h1.trans h2
theorem lks_append (L : Lst) (v : Int) (qs : List Nat) : ∀ ps, lks L v (ps ++ qs) = lks L v ps + lks L v qs
  | [] => by
    show lks L v qs = 0 + lks L v qs
    generalize lks L v qs = a
    grobner
  | p :: ps => by
    show facT L v p + lks L v (ps ++ qs) = facT L v p + lks L v ps + lks L v qs
    rw [lks_append L v qs ps]
    generalize facT L v p = a
    generalize lks L v ps = b
    generalize lks L v qs = c
    grobner
theorem lks_one (L : Lst) (v : Int) (p : Nat) : lks L v [p] = facT L v p := by
  show facT L v p + 0 = facT L v p
  generalize facT L v p = a
  grobner
/-- Places of variables that aren't below 0. -/
def plcs (L : Lst) (i : Nat) : List Nat := (List.range i).filter fun p => decide (0 ≤ L.V p)
theorem plcs_yes {L : Lst} {i : Nat} (h : 0 ≤ L.V i) : plcs L (i + 1) = plcs L i ++ [i] := by
  unfold plcs
  rw [List.range_succ, List.filter_append]
  simp [h]
theorem plcs_no {L : Lst} {i : Nat} (h : ¬ 0 ≤ L.V i) : plcs L (i + 1) = plcs L i := by
  unfold plcs
  rw [List.range_succ, List.filter_append]
  simp [h]
theorem plcs_len (L : Lst) (i : Nat) : (plcs L i).length ≤ i := by
  unfold plcs
  have := List.length_filter_le (fun p => decide (0 ≤ L.V p)) (List.range i)
  simpa using this
theorem plcs_mem {L : Lst} {i p : Nat} (h : p ∈ plcs L i) : p < i ∧ 0 ≤ L.V p := by
  unfold plcs at h
  simpa using h
theorem lks_plcs (L : Lst) (v : Int) (hv : 0 ≤ v) : ∀ i, lks L v (plcs L i) = ksumN L v i
  | 0 => rfl
  | i + 1 => by
    show _ = ksumN L v i + facT L v i
    by_cases h : 0 ≤ L.V i
    · rw [plcs_yes h, lks_append, lks_one, lks_plcs L v hv i]
    · rw [plcs_no h, lks_plcs L v hv i, show facT L v i = 0 from if_neg (by omega)]
      generalize ksumN L v i = a
      grobner
/-- A sum of the terms at some places, all those of a list whose variables aren't below 0, is the list's. -/
theorem SumF.whole {L : Lst} {ps : List Nat} {n : Nat} {V : Nat → Int} {K : Nat → Nat} (h : SumF (fun v => lks L v ps) n V K) (hp : ps.Perm (plcs L L.n)) : IsSum L ⟨none, n, 0, V, K⟩ :=
  h.isSum fun v hv => (lks_perm L v hp).trans (lks_plcs L v hv L.n)
/-- One term more behind them. -/
theorem lks_snoc (L : Lst) (ps : List Nat) (p : Nat) (v : Int) : lks L v (ps ++ [p]) = lks L v ps + facT L v p := by rw [lks_append, lks_one]
theorem lks_off {L : Lst} {ps : List Nat} {p : Nat} {v : Int} (h : v ≠ L.V p) : lks L v (ps ++ [p]) = lks L v ps := by
  rw [lks_snoc, show facT L v p = 0 from if_neg (fun e => h e.symm)]
  generalize lks L v ps = a
  grobner
theorem lks_on {L : Lst} {ps : List Nat} {p : Nat} : lks L (L.V p) (ps ++ [p]) = lks L (L.V p) ps + Ob.toG (L.K p) := by
  rw [lks_snoc, show facT L (L.V p) p = Ob.toG (L.K p) from if_pos rfl]
end Go.Proofs.Ytdbolfmmlmoiaaa

namespace Go.Proofs.Ytdbolfmmlmoiaaa
open Go.RowKit Go.Proofs
set_option linter.unusedVariables false
set_option linter.unusedSimpArgs false
attribute [local go_sem ↓] Go.wp_at_zero Go.wp_at_succ
/-- A list of one's own but for its last term. -/
theorem OwnT.less {w : World} {base g m cap : Nat} {V : Nat → Int} {K : Nat → Nat} (h : OwnT w base (.slice (some ⟨g, 0, none⟩) (m + 1) cap) (m + 1) V K) : OwnT w base (.slice (some ⟨g, 0, none⟩) m cap) m V K := by
  refine ⟨tals_length V K m, Or.inr ?_⟩
  rcases h.2 with ⟨hv, _⟩ | ⟨g', cap', cur, hv, h1, h2, h3, h4, h5, h6⟩
  · cases hv
  · cases hv
    refine ⟨g, cap, cur, rfl, h1, h2, by omega, h4, h5, ?_⟩
    have e : (cur.toList.take ((m + 1) * 2)).take (m * 2) = cur.toList.take (m * 2) := by rw [List.take_take]; congr 1; omega
    rw [← e, h6]
    show (tals V K m ++ [_, _]).take (m * 2) = tals V K m
    rw [List.take_append_of_le_length (Nat.le_of_eq (tals_length V K m).symm), List.take_of_length_le (Nat.le_of_eq (tals_length V K m))]
theorem OwnT.keep {O : Nat → Prop} {w w1 : World} {base : Nat} {v : Value} {n : Nat} {V : Nat → Int} {K : Nat → Nat} (h : OwnT w base v n V K) (hk : KeepO O w w1) (hl : ∀ k, v.ownBlock = some k → ¬ O k) : OwnT w1 base v n V K := own_keep h hk hl
/-- What a list of one's own holds at a place. -/
theorem OwnT.at_ {w : World} {base g n cap : Nat} {V : Nat → Int} {K : Nat → Nat} (h : OwnT w base (.slice (some ⟨g, 0, none⟩) n cap) n V K) {i : Nat} (hi : i < n) : w.cell? ⟨g, i * 2, none⟩ = some (.int .i64 (V i)) ∧ w.cell? ⟨g, i * 2 + 1, none⟩ = some (.int .u64 (K i : Nat)) := by
  have h1 := World.ownsRow.cells h (g := g) rfl (i * 2) _ (tals_get V K hi).1
  have h2 := World.ownsRow.cells h (g := g) rfl (i * 2 + 1) _ (tals_get V K hi).2
  rw [addr_add, Nat.zero_add] at h1 h2
  exact ⟨h1, h2⟩
theorem OwnT.room {w : World} {base g n cap : Nat} {V : Nat → Int} {K : Nat → Nat} (h : OwnT w base (.slice (some ⟨g, 0, none⟩) n cap) n V K) : n ≤ cap ∧ cap ≤ maxLen := by
  rcases h.2 with ⟨hv, _⟩ | ⟨g', cap', cur, hv, h1, h2, h3, h4, h5, h6⟩
  · cases hv
  · cases hv; exact ⟨h3, h4⟩
/-- One term behind a list of one's own: where it lies. -/
theorem wpList_app1S {ops : Array Oper} {rest : List Oper} {o : Oper} {a : Act} {w : World} {Q : Exit → Act → World → Prop} (hgd : o.guard = none) (s x : Operand)
    (ho : o.op = .call { callee := .builtin .append, args := #[s, x], argTypes := #[35, 35] }) (base g n cap : Nat) (V : Nat → Int) (K : Nat → Nat) (hs : a.eval s = .slice (some ⟨g, 0, none⟩) n cap) (hown : OwnT w base (.slice (some ⟨g, 0, none⟩) n cap) n V K) (b : Nat) (X : Int) (k : Nat) (hx : a.eval x = .slice (some ⟨b, 0, none⟩) 1 1) (hc : w.cell? ⟨b, 0, none⟩ = some (.int .i64 X)) (hd : w.cell? ⟨b, 1, none⟩ = some (.int .u64 (k : Nat))) (hn : n ≤ 1000000) (hbase : base ≤ w.heap.size)
    (h : ∀ g' n' cap' w', n' = n + 1 → OwnT w' base (.slice (some ⟨g', 0, none⟩) n' cap') n' (putV n X V) (putK n k K) → KeepO (fun k => k = g) w w' → (g' = g ∨ w.heap.size ≤ g') → wpList Try.prog ops Q rest (a.put o.dst (.slice (some ⟨g', 0, none⟩) n' cap')) w') : wpList Try.prog ops Q (o :: rest) a w := by
  obtain ⟨i0, hi, hz1, hz2, hz0⟩ := trmInfo
  refine wpList_append_lies _ hgd s x 35 ho base 61 i0 _ 2 16 Try.underlying35 hi hz0 hz1 hz2 rfl (by decide) _ n _ hs (hown.congr fun i hi => ⟨(putV_lt X V hi).symm, (putK_lt k K hi).symm⟩) ⟨b, 0, none⟩ 1 1 [.int .i64 X, .int .u64 (k : Nat)] hx rfl
    (fun j u h => by
      match j with
      | 0 => simp at h; subst h; exact hc
      | 1 => simp at h; subst h; exact hd
      | j + 2 => simp at h) (by simp [Value.oneCell']) (by decide) (by unfold maxLen; omega) (by omega) hbase w.heap.size rfl ?_
  intro g' cap' w' h1 h2 h3 _
  have e : tals (putV n X V) (putK n k K) (n + 1) = tals (putV n X V) (putK n k K) n ++ [.int .i64 X, .int .u64 (k : Nat)] := by show tals _ _ n ++ [_, _] = _; rw [putV_at, putK_at]
  rw [← e] at h1
  refine h g' _ cap' w' rfl h1 (KeepO.grown h2 fun k hk => by cases hk; rfl) ?_
  rcases h3 with h3 | h3
  · cases h3; exact Or.inl rfl
  · exact Or.inr (by omega)
theorem trm_new {w : World} {x : Int} {k : Nat} {t : TypeId} : (w.alloc (.cells #[.int .i64 x, .int .u64 (k : Nat)] t)).cell? ⟨w.heap.size, 0, none⟩ = some (.int .i64 x) ∧ (w.alloc (.cells #[.int .i64 x, .int .u64 (k : Nat)] t)).cell? ⟨w.heap.size, 1, none⟩ = some (.int .u64 (k : Nat)) := by
  constructor <;> simp [go_sem]
/-- What joined answers: a sum with one term more, in the sum's own memory or in new. -/
def JoinRes (f : Int → Fin Ob.RE) (x : Int) (base g n : Nat) (w w' : World) (e : Ending) : Prop :=
  ∃ g' n' cap' V' K', e = .returned (.slice (some ⟨g', 0, none⟩) n' cap') ∧ OwnT w' base (.slice (some ⟨g', 0, none⟩) n' cap') n' V' K' ∧ SumF f n' V' K' ∧ (∀ i, i < n' → V' i ≤ x) ∧ n' ≤ n + 1 ∧ KeepO (fun k => k = g) w w' ∧ (g' = g ∨ w.heap.size ≤ g')
set_option maxRecDepth 4000 in
set_option maxHeartbeats 16000000 in
theorem njoinedW (f f' : Int → Fin Ob.RE) (x : Int) (k base g n cap : Nat) (V : Nat → Int) (K : Nat → Nat) (w : World) (hx : 0 ≤ x) (hx2 : x < 9223372036854775808) (hk : k < 18446744073709551616)
   (hown : OwnT w base (.slice (some ⟨g, 0, none⟩) n cap) n V K) (hS : SumF f n V K) (hle : ∀ i, i < n → V i ≤ x) (hn : n ≤ 1000000) (hf : ∀ v, v ≠ x → f' v = f v) (hfx : f' x = f x + Ob.toG k) :
    Calls Try.prog 73 #[.slice (some ⟨g, 0, none⟩) n cap, .agg #[.int .i64 x, .int .u64 (k : Nat)]] w fun e w' => JoinRes f' x base g n w w' e := by
  obtain ⟨D, hD⟩ : ∃ D, Hid (D = fun (e : Ending) (w' : World) => JoinRes f' x base g n w w' e) := ⟨_, rfl⟩
  rw [← hD.out]
  have hcap := hown.room
  unfold maxLen at hcap
  have hgb : base ≤ g ∧ g < w.heap.size := hown.lt g rfl
  have hf' : Hid (∀ v, v ≠ x → f' v = f v) := hf
  have hfx' : Hid (f' x = f x + Ob.toG k) := hfx
  -- the three ways in: none yet; the last is of this variable; it is of another
  have key : n = 0 ∨ (∃ m, n = m + 1 ∧ V m = x) ∨ (∃ m, n = m + 1 ∧ V m < x) := by
    rcases Nat.eq_zero_or_pos n with h | h
    · exact Or.inl h
    · rcases (show V (n - 1) = x ∨ V (n - 1) < x by have := hle (n - 1) (by omega); omega) with h1 | h1
      · exact Or.inr (Or.inl ⟨n - 1, by omega, h1⟩)
      · exact Or.inr (Or.inr ⟨n - 1, by omega, h1⟩)
  have hown' : Hid (OwnT w base (.slice (some ⟨g, 0, none⟩) n cap) n V K) := hown
  have hK : ∀ i, i < n → K i < 18446744073709551616 := fun i hi => by have := (hS.nz i hi).2; omega
  have hV : ∀ i, i < n → 0 ≤ V i := hS.pos
  have hS' : Hid (SumF f n V K) := hS
  have hle' : Hid (∀ i, i < n → V i ≤ x) := hle
  clear hown hS hle hf hfx
  -- the end: what is told of the sum without x, and of x's factor so far
  have fin0 : Hid (∀ (W : World) (n0 : Nat), (∀ i, i < n0 → V i ≤ x) → SumB f x n0 V K → n0 ≤ n → f' x = 0 → OwnT W base (.slice (some ⟨g, 0, none⟩) n0 cap) n0 V K → KeepO (fun k => k = g) w W → D (.returned (.slice (some ⟨g, 0, none⟩) n0 cap)) W) := fun W n0 h1 h2 h3 h4 h5 h6 => by
    rw [hD.out]
    exact ⟨g, n0, cap, V, K, rfl, h5, h2.drop hf'.out h4, h1, by omega, h6, Or.inl rfl⟩
  have fin1 : Hid (∀ (W : World) (n0 g' n' cap' k1 : Nat), SumB f x n0 V K → n0 ≤ n → (f' x).val = k1 → k1 ≠ 0 → n' = n0 + 1 → OwnT W base (.slice (some ⟨g', 0, none⟩) n' cap') n' (putV n0 x V) (putK n0 k1 K) → KeepO (fun k => k = g) w W → (g' = g ∨ w.heap.size ≤ g') → D (.returned (.slice (some ⟨g', 0, none⟩) n' cap')) W) := fun W n0 g' n' cap' k1 h1 h2 h3 h4 h5 h6 h7 h8 => by
    rw [hD.out]
    subst h5
    refine ⟨g', n0 + 1, cap', _, _, rfl, h6, h1.put hf'.out h3 h4, fun i hi => ?_, by omega, h7, h8⟩
    rcases Nat.lt_or_ge i n0 with h9 | h9
    · rw [putV_lt _ _ h9]; have := h1.low i h9; omega
    · obtain rfl : i = n0 := by omega
      rw [putV_at]; exact Int.le_refl _
  rcases key with hn0 | ⟨m, hm, hVm⟩ | ⟨m, hm, hVm⟩
  · -- none yet
    subst hn0
    have hSB : Hid (SumB f x 0 V K) := (hS'.out.behind hx (fun i hi => by omega)).1
    have hfz : Hid (f x = 0) := (hS'.out.behind hx (fun i hi => by omega)).2
    go_enter Try.func73, Try.ntmps73
    go_upto_region 3 with (fail)
    have t2 : Two (w.alloc (.cells #[.int .i64 x, .int .u64 (k : Nat)] 61)) w.heap.size (.int .i64 x) (.int .u64 (k : Nat)) := by (repeat' (first | (with_reducible first | assumption | exact Two.own (by with_reducible assumption) | refine Two.set ?_ _ _ | refine Own2.set ?_ _ _ | refine Two.drew ?_ | refine Two.drewN ?_ _ | refine Own2.drew ?_ | refine Own2.drewN ?_ _ | (refine Two.new ?_; simp only [szs]; done) | (refine Own2.new ?_; simp only [szs]; done) | refine Two.alloc ?_ _ | refine Own2.alloc ?_ _ | refine Two.far ?_ ?_ _ _ | refine Own2.far ?_ ?_ _ _ | refine Two.via (by with_reducible assumption) ?_ ?_ | refine Own2.via (by with_reducible assumption) ?_ ?_) | omega | (simp only [szs]; omega)))
    have hB : Below w.heap.size w (w.alloc (.cells #[.int .i64 x, .int .u64 (k : Nat)] 61)) := by (repeat' (first | (with_reducible first | exact Below.refl _ _ | assumption | refine Below.alloc ?_ ?_ _ | refine Below.drew ?_ | refine below_drewN ?_ _ | refine Below.setCell ?_ ?_ _ | refine below_via (by with_reducible assumption) ?_ ?_) | omega | (simp only [szs]; omega) | (simp only [szs] at *; omega)))
    have hown1 : Hid (OwnT (w.alloc (.cells #[.int .i64 x, .int .u64 (k : Nat)] 61)) base (.slice (some ⟨g, 0, none⟩) 0 cap) 0 V K) := hown'.out.on hB
    generalize (w.alloc (.cells #[.int .i64 x, .int .u64 (k : Nat)] 61)) = W at *
    have zB := hB.size
    have lw := t2.lt
    have ⟨e1, e2, e3, e4, e5⟩ := t2
    have hkeep : Hid (KeepO (fun k => k = g) w W) := KeepO.of_below hB
    have hS0 : (fun w' : World => w'.cell? ⟨w.heap.size, 0, none⟩ = some (.int .i64 x) ∧ w'.cell? ⟨w.heap.size, 1, none⟩ = some (.int .u64 (k : Nat))) W.drew := ⟨e1, e2⟩
    refine wp_region_noPanic ?_
    refine region_lastly (S := (fun w' : World => w'.cell? ⟨w.heap.size, 0, none⟩ = some (.int .i64 x) ∧ w'.cell? ⟨w.heap.size, 1, none⟩ = some (.int .u64 (k : Nat)))) [] (by kernel_rfl) (by ((try dsimp only); (assumption))) (fun hHeld => ?_)
    refine anyZ_free (i := 0) (oi := ?oi_1) (v := ?v_1) ?hi_1 ?hs_1 ?hf_1 ?hr_1 ?hQ_1 (Or.inl ⟨?hw_1, ?hy_1⟩) ?hrest_1
    case hi_1 => (simp only [List.getElem?_toArray, List.getElem?_cons_succ, List.getElem?_cons_zero]; exact rfl)
    case hs_1 => kernel_rfl
    case hf_1 => kernel_rfl
    case hr_1 => kernel_rfl
    case hQ_1 => exact fun _ _ _ h => h
    case hw_1 => rfl
    case hy_1 => (intro w _; go_simp; try with_reducible rfl)
    try simp only [Act.put, List.setIfInBounds_toArray, List.set_cons_zero, List.set_cons_succ]
    refine anyZ_free (i := 1) (oi := ?oi_2) (v := ?v_2) ?hi_2 ?hs_2 ?hf_2 ?hr_2 ?hQ_2 (Or.inl ⟨?hw_2, ?hy_2⟩) ?hrest_2
    case hi_2 => (simp only [List.getElem?_toArray, List.getElem?_cons_succ, List.getElem?_cons_zero]; exact rfl)
    case hs_2 => kernel_rfl
    case hf_2 => kernel_rfl
    case hr_2 => kernel_rfl
    case hQ_2 => exact fun _ _ _ h => h
    case hw_2 => rfl
    case hy_2 => (intro w _; go_simp; try with_reducible rfl)
    try simp only [Act.put, List.setIfInBounds_toArray, List.set_cons_zero, List.set_cons_succ]
    refine anyZ_free (i := 2) (oi := ?oi_3) (v := ?v_3) ?hi_3 ?hs_3 ?hf_3 ?hr_3 ?hQ_3 (Or.inl ⟨?hw_3, ?hy_3⟩) ?hrest_3
    case hi_3 => (simp only [List.getElem?_toArray, List.getElem?_cons_succ, List.getElem?_cons_zero]; exact rfl)
    case hs_3 => kernel_rfl
    case hf_3 => kernel_rfl
    case hr_3 => kernel_rfl
    case hQ_3 => exact fun _ _ _ h => h
    case hw_3 => rfl
    case hy_3 => (intro w _; go_simp; try with_reducible rfl)
    try simp only [Act.put, List.setIfInBounds_toArray, List.set_cons_zero, List.set_cons_succ]
    refine anyZ_free (i := 3) (oi := ?oi_4) (v := undef) ?hi_4 ?hs_4 ?hf_4 ?hr_4 ?hQ_4 (Or.inr ⟨?hw_4, rfl⟩) ?hrest_4
    case hi_4 => (simp only [List.getElem?_toArray, List.getElem?_cons_succ, List.getElem?_cons_zero]; exact rfl)
    case hs_4 => kernel_rfl
    case hf_4 => kernel_rfl
    case hr_4 => kernel_rfl
    case hQ_4 => exact fun _ _ _ h => h
    case hw_4 => rfl
    try simp only [Act.put, List.setIfInBounds_toArray, List.set_cons_zero, List.set_cons_succ]
    refine anyZ_free (i := 4) (oi := ?oi_5) (v := undef) ?hi_5 ?hs_5 ?hf_5 ?hr_5 ?hQ_5 (Or.inr ⟨?hw_5, rfl⟩) ?hrest_5
    case hi_5 => (simp only [List.getElem?_toArray, List.getElem?_cons_succ, List.getElem?_cons_zero]; exact rfl)
    case hs_5 => kernel_rfl
    case hf_5 => kernel_rfl
    case hr_5 => kernel_rfl
    case hQ_5 => exact fun _ _ _ h => h
    case hw_5 => rfl
    try simp only [Act.put, List.setIfInBounds_toArray, List.set_cons_zero, List.set_cons_succ]
    refine anyZ_free (i := 5) (oi := ?oi_6) (v := undef) ?hi_6 ?hs_6 ?hf_6 ?hr_6 ?hQ_6 (Or.inr ⟨?hw_6, rfl⟩) ?hrest_6
    case hi_6 => (simp only [List.getElem?_toArray, List.getElem?_cons_succ, List.getElem?_cons_zero]; exact rfl)
    case hs_6 => kernel_rfl
    case hf_6 => kernel_rfl
    case hr_6 => kernel_rfl
    case hQ_6 => exact fun _ _ _ h => h
    case hw_6 => rfl
    try simp only [Act.put, List.setIfInBounds_toArray, List.set_cons_zero, List.set_cons_succ]
    refine anyZ_free (i := 6) (oi := ?oi_7) (v := undef) ?hi_7 ?hs_7 ?hf_7 ?hr_7 ?hQ_7 (Or.inr ⟨?hw_7, rfl⟩) ?hrest_7
    case hi_7 => (simp only [List.getElem?_toArray, List.getElem?_cons_succ, List.getElem?_cons_zero]; exact rfl)
    case hs_7 => kernel_rfl
    case hf_7 => kernel_rfl
    case hr_7 => kernel_rfl
    case hQ_7 => exact fun _ _ _ h => h
    case hw_7 => rfl
    try simp only [Act.put, List.setIfInBounds_toArray, List.set_cons_zero, List.set_cons_succ]
    refine anyZ_free (i := 7) (oi := ?oi_8) (v := undef) ?hi_8 ?hs_8 ?hf_8 ?hr_8 ?hQ_8 (Or.inr ⟨?hw_8, rfl⟩) ?hrest_8
    case hi_8 => (simp only [List.getElem?_toArray, List.getElem?_cons_succ, List.getElem?_cons_zero]; exact rfl)
    case hs_8 => kernel_rfl
    case hf_8 => kernel_rfl
    case hr_8 => kernel_rfl
    case hQ_8 => exact fun _ _ _ h => h
    case hw_8 => rfl
    try simp only [Act.put, List.setIfInBounds_toArray, List.set_cons_zero, List.set_cons_succ]
    refine anyZ_free (i := 8) (oi := ?oi_9) (v := undef) ?hi_9 ?hs_9 ?hf_9 ?hr_9 ?hQ_9 (Or.inr ⟨?hw_9, rfl⟩) ?hrest_9
    case hi_9 => (simp only [List.getElem?_toArray, List.getElem?_cons_succ, List.getElem?_cons_zero]; exact rfl)
    case hs_9 => kernel_rfl
    case hf_9 => kernel_rfl
    case hr_9 => kernel_rfl
    case hQ_9 => exact fun _ _ _ h => h
    case hw_9 => rfl
    try simp only [Act.put, List.setIfInBounds_toArray, List.set_cons_zero, List.set_cons_succ]
    refine anyZ_free (i := 9) (oi := ?oi_10) (v := undef) ?hi_10 ?hs_10 ?hf_10 ?hr_10 ?hQ_10 (Or.inr ⟨?hw_10, rfl⟩) ?hrest_10
    case hi_10 => (simp only [List.getElem?_toArray, List.getElem?_cons_succ, List.getElem?_cons_zero]; exact rfl)
    case hs_10 => kernel_rfl
    case hf_10 => kernel_rfl
    case hr_10 => kernel_rfl
    case hQ_10 => exact fun _ _ _ h => h
    case hw_10 => rfl
    try simp only [Act.put, List.setIfInBounds_toArray, List.set_cons_zero, List.set_cons_succ]
    refine anyZ_free (i := 10) (oi := ?oi_11) (v := undef) ?hi_11 ?hs_11 ?hf_11 ?hr_11 ?hQ_11 (Or.inr ⟨?hw_11, rfl⟩) ?hrest_11
    case hi_11 => (simp only [List.getElem?_toArray, List.getElem?_cons_succ, List.getElem?_cons_zero]; exact rfl)
    case hs_11 => kernel_rfl
    case hf_11 => kernel_rfl
    case hr_11 => kernel_rfl
    case hQ_11 => exact fun _ _ _ h => h
    case hw_11 => rfl
    try simp only [Act.put, List.setIfInBounds_toArray, List.set_cons_zero, List.set_cons_succ]
    refine anyZ_free (i := 11) (oi := ?oi_12) (v := ?v_12) ?hi_12 ?hs_12 ?hf_12 ?hr_12 ?hQ_12 (Or.inl ⟨?hw_12, ?hy_12⟩) ?hrest_12
    case hi_12 => (simp only [List.getElem?_toArray, List.getElem?_cons_succ, List.getElem?_cons_zero]; exact rfl)
    case hs_12 => kernel_rfl
    case hf_12 => kernel_rfl
    case hr_12 => kernel_rfl
    case hQ_12 => exact fun _ _ _ h => h
    case hw_12 => rfl
    case hy_12 => (intro w _; go_simp; try with_reducible rfl)
    try simp only [Act.put, List.setIfInBounds_toArray, List.set_cons_zero, List.set_cons_succ]
    refine anyZ_done (by kernel_rfl) ?_ _
    refine NoPanic.normal ?_
    clear hS0
    have hown2 : Hid (OwnT W.drew base (.slice (some ⟨g, 0, none⟩) 0 cap) 0 V K) := hown1.out.on ((Below.refl _ _).drew)
    have hkeep2 : Hid (KeepO (fun k => k = g) w W.drew) := hkeep.out.trans (KeepO.of_below ((Below.refl _ _).drew)) (fun i _ h => h)
    have f1 : W.drew.cell? ⟨w.heap.size, 0, none⟩ = some (.int .i64 x) := e1
    have f2 : W.drew.cell? ⟨w.heap.size, 1, none⟩ = some (.int .u64 (k : Nat)) := e2
    have zW : w.heap.size ≤ W.drew.heap.size := by simp only [szs]; omega
    clear e1 e2 e3 e4 e5 t2 hown1 hkeep hB zB
    have lw2 : w.heap.size < W.drew.heap.size := by simp only [szs]; omega
    clear lw
    generalize W.drew = W at *
    have ca : ∀ W, Calls Try.prog 71 #[.int .u64 0, .int .u64 (k : Nat)] W fun e w' => e = .returned (.int .u64 ((Ob.toG 0 + Ob.toG k).val : Nat)) ∧ W = w' := fun W => nplusW 0 k (by decide) hk W
    have hval : Hid ((f' x).val = (Ob.toG 0 + Ob.toG k).val) := by show _ = _; rw [hfx'.out, hfz.out]; rfl
    generalize (Ob.toG 0 + Ob.toG k).val = k1 at *
    by_cases hk1 : k1 = 0
    · subst hk1
      go_wp2_with (first | (go_at_call 71; first | (with_reducible refine (ca _).mono ?_; rintro e w' ⟨rfl, rfl⟩)))
      (try go_ret)
      exact fin0.out _ 0 (fun i hi => by omega) hSB.out (Nat.le_refl _) (Fin.ext hval.out) hown2.out hkeep2.out
    · have hk1' : ((k1 : Int) == 0) = false := by rw [beq_eq_false_iff_ne]; omega
      have hne : Hid (k1 ≠ 0) := hk1
      have hown3 : Hid (OwnT (W.alloc (.cells #[.int .i64 x, .int .u64 (k1 : Nat)] 61)) base (.slice (some ⟨g, 0, none⟩) 0 cap) 0 V K) := hown2.out.on ((Below.refl _ _).alloc (Nat.le_refl _) _)
      have hkeep3 : Hid (KeepO (fun k => k = g) w (W.alloc (.cells #[.int .i64 x, .int .u64 (k1 : Nat)] 61))) := hkeep2.out.trans (KeepO.of_below (O := fun k => k = g) ((Below.refl _ _).alloc (Nat.le_refl _) _)) (fun i _ h => h)
      have q0 : Hid ((W.alloc (.cells #[.int .i64 x, .int .u64 (k1 : Nat)] 61)).cell? ⟨W.heap.size, 0, none⟩ = some (.int .i64 x)) := trm_new.1
      have q1 : Hid ((W.alloc (.cells #[.int .i64 x, .int .u64 (k1 : Nat)] 61)).cell? ⟨W.heap.size, 1, none⟩ = some (.int .u64 (k1 : Nat))) := trm_new.2
      clear hk1
      go_upto_region 9 with (first | (go_at_call 71; first | (with_reducible refine (ca _).mono ?_; rintro e w' ⟨rfl, rfl⟩)))
      go_wp2_with (at_builtin; refine wpList_app1S rfl _ _ rfl base g 0 cap V K rfl hown3.out W.heap.size x k1 rfl q0.out q1.out (by omega) (by simp only [szs]; omega) ?_; intro g' n' cap' w1 hn' ho hk2 hg2; have hn2 : Hid (n' = 0 + 1) := hn'; clear hn')
      (try go_ret)
      exact fin1.out _ 0 _ _ _ k1 hSB.out (Nat.le_refl _) hval.out hne.out hn2.out ho (hkeep3.out.trans hk2 (fun i _ h => h)) (hg2.imp id (fun h => by simp only [szs] at h; omega))
  · -- the last is of this variable
    have hSB0 := SumF.last (by rw [← hm]; exact hS'.out) hVm
    have hSB : Hid (SumB f x m V K) := hSB0.1
    have hfz : Hid (f x = Ob.toG (K m)) := hSB0.2
    have lKm := hK m (by omega)
    have hmn : m < n := by omega
    have hmc : (m : Int) < (n : Int) := by omega
    have hlt0 : (0 : Int) ≤ (m : Int) := by omega
    have hw : IntKind.i64.wrap ((n : Int) - 1) = (m : Int) := by rw [IntKind.wrap_i64]; omega
    have hmcap : m ≤ cap := by omega
    have hmcap' : (m : Int) ≤ (cap : Int) := by omega
    have hm' : Hid (n = m + 1) := hm
    clear hSB0 hm
    go_enter Try.func73, Try.ntmps73
    go_upto_region 3 with (fail)
    have t2 : Two (w.alloc (.cells #[.int .i64 x, .int .u64 (k : Nat)] 61)) w.heap.size (.int .i64 x) (.int .u64 (k : Nat)) := by (repeat' (first | (with_reducible first | assumption | exact Two.own (by with_reducible assumption) | refine Two.set ?_ _ _ | refine Own2.set ?_ _ _ | refine Two.drew ?_ | refine Two.drewN ?_ _ | refine Own2.drew ?_ | refine Own2.drewN ?_ _ | (refine Two.new ?_; simp only [szs]; done) | (refine Own2.new ?_; simp only [szs]; done) | refine Two.alloc ?_ _ | refine Own2.alloc ?_ _ | refine Two.far ?_ ?_ _ _ | refine Own2.far ?_ ?_ _ _ | refine Two.via (by with_reducible assumption) ?_ ?_ | refine Own2.via (by with_reducible assumption) ?_ ?_) | omega | (simp only [szs]; omega)))
    have hB : Below w.heap.size w (w.alloc (.cells #[.int .i64 x, .int .u64 (k : Nat)] 61)) := by (repeat' (first | (with_reducible first | exact Below.refl _ _ | assumption | refine Below.alloc ?_ ?_ _ | refine Below.drew ?_ | refine below_drewN ?_ _ | refine Below.setCell ?_ ?_ _ | refine below_via (by with_reducible assumption) ?_ ?_) | omega | (simp only [szs]; omega) | (simp only [szs] at *; omega)))
    have hown1 : Hid (OwnT (w.alloc (.cells #[.int .i64 x, .int .u64 (k : Nat)] 61)) base (.slice (some ⟨g, 0, none⟩) n cap) n V K) := hown'.out.on hB
    generalize (w.alloc (.cells #[.int .i64 x, .int .u64 (k : Nat)] 61)) = W at *
    have zB := hB.size
    have lw := t2.lt
    have ⟨e1, e2, e3, e4, e5⟩ := t2
    have hkeep : Hid (KeepO (fun k => k = g) w W) := KeepO.of_below hB
    have c0 := (hown1.out.at_ hmn).1
    have c1 := (hown1.out.at_ hmn).2
    rw [hVm] at c0
    have hownm : Hid (OwnT W base (.slice (some ⟨g, 0, none⟩) m cap) m V K) := by
      have h := hown1.out
      rw [hm'.out] at h
      exact h.less
    obtain ⟨km, hkm⟩ : ∃ km, Hid (K m = km) := ⟨_, rfl⟩
    rw [hkm.out] at c1 lKm hfz
    go_region_held3 (fun w' : World => (w'.cell? ⟨w.heap.size, 0, none⟩ = some (.int .i64 x) ∧ w'.cell? ⟨w.heap.size, 1, none⟩ = some (.int .u64 (k : Nat))) ∧ w'.cell? ⟨g, m * 2, none⟩ = some (.int .i64 x) ∧ w'.cell? ⟨g, m * 2 + 1, none⟩ = some (.int .u64 (km : Nat))) (go_keep) (fail)
    have d1 : W.drew.cell? ⟨g, m * 2 + 1, none⟩ = some (.int .u64 (km : Nat)) := c1
    clear c0 c1
    have hown2 : Hid (OwnT W.drew base (.slice (some ⟨g, 0, none⟩) m cap) m V K) := hownm.out.on ((Below.refl _ _).drew)
    have hkeep2 : Hid (KeepO (fun k => k = g) w W.drew) := hkeep.out.trans (KeepO.of_below ((Below.refl _ _).drew)) (fun i _ h => h)
    have f1 : W.drew.cell? ⟨w.heap.size, 0, none⟩ = some (.int .i64 x) := e1
    have f2 : W.drew.cell? ⟨w.heap.size, 1, none⟩ = some (.int .u64 (k : Nat)) := e2
    have zW : w.heap.size ≤ W.drew.heap.size := by simp only [szs]; omega
    clear e1 e2 e3 e4 e5 t2 hown1 hownm hkeep hB zB
    have lw2 : w.heap.size < W.drew.heap.size := by simp only [szs]; omega
    clear lw
    generalize W.drew = W at *
    have ca : ∀ W, Calls Try.prog 71 #[.int .u64 (km : Nat), .int .u64 (k : Nat)] W fun e w' => e = .returned (.int .u64 ((Ob.toG km + Ob.toG k).val : Nat)) ∧ W = w' := fun W => nplusW km k lKm hk W
    have hval : Hid ((f' x).val = (Ob.toG km + Ob.toG k).val) := by show _ = _; rw [hfx'.out, hfz.out]
    generalize (Ob.toG km + Ob.toG k).val = k1 at *
    by_cases hk1 : k1 = 0
    · subst hk1
      go_wp2_with (first | (go_at_call 71; first | (with_reducible refine (ca _).mono ?_; rintro e w' ⟨rfl, rfl⟩)))
      (try go_ret)
      exact fin0.out _ m (fun i hi => by have := hSB.out.low i hi; omega) hSB.out (by omega) (Fin.ext hval.out) hown2.out hkeep2.out
    · have hk1' : ((k1 : Int) == 0) = false := by rw [beq_eq_false_iff_ne]; omega
      have hne : Hid (k1 ≠ 0) := hk1
      have hown3 : Hid (OwnT (W.alloc (.cells #[.int .i64 x, .int .u64 (k1 : Nat)] 61)) base (.slice (some ⟨g, 0, none⟩) m cap) m V K) := hown2.out.on ((Below.refl _ _).alloc (Nat.le_refl _) _)
      have hkeep3 : Hid (KeepO (fun k => k = g) w (W.alloc (.cells #[.int .i64 x, .int .u64 (k1 : Nat)] 61))) := hkeep2.out.trans (KeepO.of_below (O := fun k => k = g) ((Below.refl _ _).alloc (Nat.le_refl _) _)) (fun i _ h => h)
      have q0 : Hid ((W.alloc (.cells #[.int .i64 x, .int .u64 (k1 : Nat)] 61)).cell? ⟨W.heap.size, 0, none⟩ = some (.int .i64 x)) := trm_new.1
      have q1 : Hid ((W.alloc (.cells #[.int .i64 x, .int .u64 (k1 : Nat)] 61)).cell? ⟨W.heap.size, 1, none⟩ = some (.int .u64 (k1 : Nat))) := trm_new.2
      clear hk1
      go_upto_region 9 with (first | (go_at_call 71; first | (with_reducible refine (ca _).mono ?_; rintro e w' ⟨rfl, rfl⟩)))
      go_wp2_with (at_builtin; refine wpList_app1S rfl _ _ rfl base g m cap V K rfl hown3.out W.heap.size x k1 rfl q0.out q1.out (by omega) (by simp only [szs]; omega) ?_; intro g' n' cap' w1 hn' ho hk2 hg2; have hn2 : Hid (n' = m + 1) := hn'; clear hn')
      (try go_ret)
      exact fin1.out _ m _ _ _ k1 hSB.out (by omega) hval.out hne.out hn2.out ho (hkeep3.out.trans hk2 (fun i _ h => h)) (hg2.imp id (fun h => by simp only [szs] at h; omega))
  · -- it is of another
    have hlow : ∀ i, i < n → V i < x := fun i hi => by
      rcases Nat.lt_or_ge i m with h | h
      · have := hS'.out.rise i m h (by omega); omega
      · obtain rfl : i = m := by omega
        exact hVm
    have hSB : Hid (SumB f x n V K) := (hS'.out.behind hx hlow).1
    have hfz : Hid (f x = 0) := (hS'.out.behind hx hlow).2
    have hlow' : Hid (∀ i, i < n → V i < x) := hlow
    have lKm := hK m (by omega)
    have hmn : m < n := by omega
    have hmc : (m : Int) < (n : Int) := by omega
    have hlt0 : (0 : Int) ≤ (m : Int) := by omega
    have hw : IntKind.i64.wrap ((n : Int) - 1) = (m : Int) := by rw [IntKind.wrap_i64]; omega
    have hneq : (V m == x) = false := by rw [beq_eq_false_iff_ne]; omega
    clear hm hlow
    go_enter Try.func73, Try.ntmps73
    go_upto_region 3 with (fail)
    have t2 : Two (w.alloc (.cells #[.int .i64 x, .int .u64 (k : Nat)] 61)) w.heap.size (.int .i64 x) (.int .u64 (k : Nat)) := by (repeat' (first | (with_reducible first | assumption | exact Two.own (by with_reducible assumption) | refine Two.set ?_ _ _ | refine Own2.set ?_ _ _ | refine Two.drew ?_ | refine Two.drewN ?_ _ | refine Own2.drew ?_ | refine Own2.drewN ?_ _ | (refine Two.new ?_; simp only [szs]; done) | (refine Own2.new ?_; simp only [szs]; done) | refine Two.alloc ?_ _ | refine Own2.alloc ?_ _ | refine Two.far ?_ ?_ _ _ | refine Own2.far ?_ ?_ _ _ | refine Two.via (by with_reducible assumption) ?_ ?_ | refine Own2.via (by with_reducible assumption) ?_ ?_) | omega | (simp only [szs]; omega)))
    have hB : Below w.heap.size w (w.alloc (.cells #[.int .i64 x, .int .u64 (k : Nat)] 61)) := by (repeat' (first | (with_reducible first | exact Below.refl _ _ | assumption | refine Below.alloc ?_ ?_ _ | refine Below.drew ?_ | refine below_drewN ?_ _ | refine Below.setCell ?_ ?_ _ | refine below_via (by with_reducible assumption) ?_ ?_) | omega | (simp only [szs]; omega) | (simp only [szs] at *; omega)))
    have hown1 : Hid (OwnT (w.alloc (.cells #[.int .i64 x, .int .u64 (k : Nat)] 61)) base (.slice (some ⟨g, 0, none⟩) n cap) n V K) := hown'.out.on hB
    generalize (w.alloc (.cells #[.int .i64 x, .int .u64 (k : Nat)] 61)) = W at *
    have zB := hB.size
    have lw := t2.lt
    have ⟨e1, e2, e3, e4, e5⟩ := t2
    have hkeep : Hid (KeepO (fun k => k = g) w W) := KeepO.of_below hB
    have c0 := (hown1.out.at_ hmn).1
    obtain ⟨y, hy⟩ : ∃ y, Hid (V m = y) := ⟨_, rfl⟩
    rw [hy.out] at c0 hneq hVm
    go_region_held3 (fun w' : World => (w'.cell? ⟨w.heap.size, 0, none⟩ = some (.int .i64 x) ∧ w'.cell? ⟨w.heap.size, 1, none⟩ = some (.int .u64 (k : Nat))) ∧ w'.cell? ⟨g, m * 2, none⟩ = some (.int .i64 y)) (go_keep) (fail)
    clear c0
    have hown2 : Hid (OwnT W.drew base (.slice (some ⟨g, 0, none⟩) n cap) n V K) := hown1.out.on ((Below.refl _ _).drew)
    have hkeep2 : Hid (KeepO (fun k => k = g) w W.drew) := hkeep.out.trans (KeepO.of_below ((Below.refl _ _).drew)) (fun i _ h => h)
    have f1 : W.drew.cell? ⟨w.heap.size, 0, none⟩ = some (.int .i64 x) := e1
    have f2 : W.drew.cell? ⟨w.heap.size, 1, none⟩ = some (.int .u64 (k : Nat)) := e2
    have zW : w.heap.size ≤ W.drew.heap.size := by simp only [szs]; omega
    clear e1 e2 e3 e4 e5 t2 hown1 hkeep hB zB
    have lw2 : w.heap.size < W.drew.heap.size := by simp only [szs]; omega
    clear lw
    generalize W.drew = W at *
    have ca : ∀ W, Calls Try.prog 71 #[.int .u64 0, .int .u64 (k : Nat)] W fun e w' => e = .returned (.int .u64 ((Ob.toG 0 + Ob.toG k).val : Nat)) ∧ W = w' := fun W => nplusW 0 k (by decide) hk W
    have hval : Hid ((f' x).val = (Ob.toG 0 + Ob.toG k).val) := by show _ = _; rw [hfx'.out, hfz.out]; rfl
    generalize (Ob.toG 0 + Ob.toG k).val = k1 at *
    by_cases hk1 : k1 = 0
    · subst hk1
      go_wp2_with (first | (go_at_call 71; first | (with_reducible refine (ca _).mono ?_; rintro e w' ⟨rfl, rfl⟩)))
      (try go_ret)
      exact fin0.out _ n (fun i hi => by have := hlow'.out i hi; omega) hSB.out (Nat.le_refl _) (Fin.ext hval.out) hown2.out hkeep2.out
    · have hk1' : ((k1 : Int) == 0) = false := by rw [beq_eq_false_iff_ne]; omega
      have hne : Hid (k1 ≠ 0) := hk1
      have hown3 : Hid (OwnT (W.alloc (.cells #[.int .i64 x, .int .u64 (k1 : Nat)] 61)) base (.slice (some ⟨g, 0, none⟩) n cap) n V K) := hown2.out.on ((Below.refl _ _).alloc (Nat.le_refl _) _)
      have hkeep3 : Hid (KeepO (fun k => k = g) w (W.alloc (.cells #[.int .i64 x, .int .u64 (k1 : Nat)] 61))) := hkeep2.out.trans (KeepO.of_below (O := fun k => k = g) ((Below.refl _ _).alloc (Nat.le_refl _) _)) (fun i _ h => h)
      have q0 : Hid ((W.alloc (.cells #[.int .i64 x, .int .u64 (k1 : Nat)] 61)).cell? ⟨W.heap.size, 0, none⟩ = some (.int .i64 x)) := trm_new.1
      have q1 : Hid ((W.alloc (.cells #[.int .i64 x, .int .u64 (k1 : Nat)] 61)).cell? ⟨W.heap.size, 1, none⟩ = some (.int .u64 (k1 : Nat))) := trm_new.2
      clear hk1
      go_upto_region 9 with (first | (go_at_call 71; first | (with_reducible refine (ca _).mono ?_; rintro e w' ⟨rfl, rfl⟩)))
      go_wp2_with (at_builtin; refine wpList_app1S rfl _ _ rfl base g n cap V K rfl hown3.out W.heap.size x k1 rfl q0.out q1.out (by omega) (by simp only [szs]; omega) ?_; intro g' n' cap' w1 hn' ho hk2 hg2; have hn2 : Hid (n' = n + 1) := hn'; clear hn')
      (try go_ret)
      exact fin1.out _ n _ _ _ k1 hSB.out (Nat.le_refl _) hval.out hne.out hn2.out ho (hkeep3.out.trans hk2 (fun i _ h => h)) (hg2.imp id (fun h => by simp only [szs] at h; omega))
end Go.Proofs.Ytdbolfmmlmoiaaa

namespace Go.Proofs.Ytdbolfmmlmoiaaa
open Go.RowKit Go.Proofs
set_option linter.unusedVariables false
set_option linter.unusedSimpArgs false
theorem plcInfo : ∃ i, Try.prog.info? 3 = some i ∧ i.size = 1 ∧ i.bytes = 8 ∧ i.zero = some (.int .i64 0) := by
  have h : (Try.prog.info? 3).map (fun i => (i.size, i.bytes, i.zero)) = some (1, 8, some (.int .i64 0)) := by kernel_rfl
  cases hi : Try.prog.info? 3 with
  | none => rw [hi] at h; cases h
  | some i =>
    rw [hi] at h
    simp only [Option.map_some, Option.some.injEq, Prod.mk.injEq] at h
    exact ⟨i, rfl, h.1, h.2.1, h.2.2⟩
/-- A place as a value. -/
def plcV (p : Nat) : Value := .int .i64 (p : Nat)
/-- A row of places of one's own, none of it below base. -/
def OwnP (w : World) (base : Nat) (v : Value) (ps : List Nat) : Prop := w.ownsRow base 3 1 v ps.length (ps.map plcV)
theorem OwnP.lt {w : World} {base : Nat} {v : Value} {ps : List Nat} (h : OwnP w base v ps) : ∀ k, v.ownBlock = some k → base ≤ k ∧ k < w.heap.size := World.ownsRow.lt h
theorem OwnP.on {w w1 : World} {base : Nat} {v : Value} {ps : List Nat} (h : OwnP w base v ps) (hb : Below w.heap.size w w1) : OwnP w1 base v ps := own_below h hb fun k hk => (h.lt k hk).2
theorem OwnP.form {w : World} {base : Nat} {v : Value} {ps : List Nat} (h : OwnP w base v ps) : ∃ a c, v = .slice a ps.length c := by
  rcases h.2 with ⟨rfl, h0⟩ | ⟨g, cap, cur, rfl, _⟩
  · exact ⟨none, 0, by rw [h0]⟩
  · exact ⟨_, cap, rfl⟩
/-- The i-th place. -/
theorem OwnP.at_ {w : World} {base : Nat} {a : Option Addr} {n c : Nat} {ps : List Nat} (h : OwnP w base (.slice a n c) ps) (i : Nat) (hi : i < ps.length) : ∃ g, a = some ⟨g, 0, none⟩ ∧ g < w.heap.size ∧ w.cell? ⟨g, i, none⟩ = some (.int .i64 (ps[i]'hi : Nat)) := by
  rcases h.2 with ⟨hv, h0⟩ | ⟨g, cap, cur, hv, _⟩
  · omega
  · cases hv
    refine ⟨g, rfl, (h.lt g rfl).2, ?_⟩
    have := World.ownsRow.cells h (g := g) rfl i (plcV ps[i]) (by simp [hi])
    rw [addr_add, Nat.zero_add] at this
    exact this
theorem OwnP.mono {w : World} {base b' : Nat} {v : Value} {ps : List Nat} (h : OwnP w base v ps) (hb : b' ≤ base) : OwnP w b' v ps := by
  refine ⟨h.1, ?_⟩
  rcases h.2 with h0 | ⟨g, cap, cur, hv, h1, h2⟩
  · exact .inl h0
  · exact .inr ⟨g, cap, cur, hv, Nat.le_trans hb h1, h2⟩
theorem OwnP.len {w : World} {base n c : Nat} {a : Option Addr} {ps : List Nat} (h : OwnP w base (.slice a n c) ps) : n = ps.length := by
  rcases h.2 with ⟨hv, h0⟩ | ⟨g, cap, cur, hv, _⟩
  · cases hv; exact h0.symm
  · cases hv; rfl
/-- One place behind a row of one's own. -/
theorem wpList_appP {ops : Array Oper} {rest : List Oper} {o : Oper} {a : Act} {w : World} {Q : Exit → Act → World → Prop} (hgd : o.guard = none) (s x : Operand)
    (ho : o.op = .call { callee := .builtin .append, args := #[s, x], argTypes := #[36, 36] }) (base : Nat) (v : Value) (ps : List Nat) (p : Nat) (hs : a.eval s = v) (hown : OwnP w base v ps) (g : Nat) (hx : a.eval x = .slice (some ⟨g, 0, none⟩) 1 1)
    (h0 : w.cell? ⟨g, 0, none⟩ = some (.int .i64 (p : Nat))) (hn : ps.length ≤ 1000000) (hbase : base ≤ w.heap.size)
    (h : ∀ g' n' cap w', OwnP w' base (.slice (some ⟨g', 0, none⟩) n' cap) (ps ++ [p]) → Below base w w' → wpList Try.prog ops Q rest (a.put o.dst (.slice (some ⟨g', 0, none⟩) n' cap)) w') : wpList Try.prog ops Q (o :: rest) a w := by
  obtain ⟨i0, hi, hz1, hz2, hz0⟩ := plcInfo
  refine wpList_append_lies _ hgd s x 36 ho base 3 i0 _ 1 8 Try.underlying36 hi hz0 hz1 hz2 rfl (by decide) v ps.length _ hs hown ⟨g, 0, none⟩ 1 1 [plcV p] hx rfl
    (fun j u h => by
      match j with
      | 0 => simp at h; subst h; exact h0
      | j + 1 => simp at h) (by simp [Value.oneCell', plcV]) (by decide) (by unfold maxLen; omega) (by omega) hbase w.heap.size rfl ?_
  intro g' cap w' h1 h2 _ _
  refine h g' _ cap w' ?_ ((Below.refl base w).grown h2 hbase (fun k hk => (hown.lt k hk).1))
  unfold OwnP
  rw [List.map_append, List.length_append]
  exact h1
/-- Room for places. -/
theorem make_plc (m : Nat) (hm : m ≤ 1000000) (w : World) (base : Nat) (hb : base ≤ w.heap.size) : ∃ g w', (Instr.makeSlice 36 (.int .i64 0) (.int .i64 (m : Nat))).run Try.prog w = .ok (.slice (some ⟨g, 0, none⟩) 0 m) w' ∧ OwnP w' base (.slice (some ⟨g, 0, none⟩) 0 m) [] ∧ Below w.heap.size w w' := by
  obtain ⟨i0, hi, hz1, hz2, hz0⟩ := plcInfo
  obtain ⟨w', h1, h2, h3⟩ := run_make_own (P := Try.prog) w base 36 3 i0 _ 1 Try.underlying36 hi hz0 hz1 .i64 .i64 m (by rw [hz2]; omega) (by unfold maxLen; omega) hb
  exact ⟨_, w', h1, h2, (Below.refl _ w).grown h3 (Nat.le_refl _) (fun k hk => by cases hk)⟩

end Go.Proofs.Ytdbolfmmlmoiaaa

namespace Go.Proofs.Ytdbolfmmlmoiaaa
open Go.RowKit Go.Proofs Go.Sort
set_option linter.unusedVariables false
set_option linter.unusedSimpArgs false
/-- Places of a list. -/
abbrev Plc (n : Nat) : Type := { p : Nat // p < n }
def encP {n : Nat} (x : Plc n) : Value := plcV x.1
/-- A row of places, as a row of places of the list. -/
theorem plc_list {n : Nat} : ∀ {ps : List Nat}, (∀ p ∈ ps, p < n) → ∃ d : List (Plc n), d.map (·.1) = ps
  | [], _ => ⟨[], rfl⟩
  | p :: ps, h => by
    obtain ⟨d, hd⟩ := plc_list (ps := ps) fun q hq => h q (List.mem_cons_of_mem _ hq)
    exact ⟨⟨p, h p (List.mem_cons_self ..)⟩ :: d, by rw [List.map_cons, hd]⟩
theorem OwnP.holds {n : Nat} [Inhabited (Plc n)] {w : World} {base g len cap : Nat} {d : Array (Plc n)} (h : OwnP w base (.slice (some ⟨g, 0, none⟩) len cap) (d.toList.map (·.1))) : Holds encP w g 0 d := by
  intro j hj
  have hl : j < (d.toList.map (·.1)).length := by simpa using hj
  have hlen := h.len
  subst hlen
  constructor
  · have := World.ownsRow.cells h (g := g) rfl j (plcV (d[j]).1) (by simp [hj])
    rw [addr_add, Nat.zero_add] at this
    rw [Nat.zero_add, this, getElem!_pos d j hj]
    rfl
  · exact World.ownsRow.frozenAt h _
theorem sort_at {α : Type} [Inhabited α] (enc : α → Value) (w : World) (g n : Nat) (d : Array α) (os : Array Obj) {cur : Array Value} {T : TypeId} {fr : Nat × Nat} (h : w.heap[g]? = some (.cells cur T fr)) :
    (sortWorld enc w g 0 n d os).heap[g]? = some (.cells (putCells enc 0 d cur) T fr) := by
  have hlt : g < w.heap.size := by
    rcases Nat.lt_or_ge g w.heap.size with h1 | h1
    · exact h1
    · rw [Array.getElem?_eq_none h1] at h; cases h
  unfold sortWorld
  rw [heap_grow_old _ _ (by simpa using hlt)]
  simp [putRow, mapBlock, ahead, Array.getElem?_modify, h, onCells]
theorem sort_off {α : Type} [Inhabited α] (enc : α → Value) (w : World) (g n : Nat) (d : Array α) (os : Array Obj) {k : Nat} (hk : k < w.heap.size) (hne : k ≠ g) : (sortWorld enc w g 0 n d os).heap[k]? = w.heap[k]? := by
  unfold sortWorld
  rw [heap_grow_old _ _ (by simpa using hk)]
  simp only [putRow, mapBlock, Array.getElem?_modify]
  rw [if_neg (by omega)]
  rfl
theorem sort_below {α : Type} [Inhabited α] (enc : α → Value) (w : World) (base g n : Nat) (d : Array α) (os : Array Obj) (hg : base ≤ g) (hs : base ≤ w.heap.size) : Below base w (sortWorld enc w g 0 n d os) := by
  refine ⟨rfl, rfl, rfl, ?_, fun k hk => sort_off enc w g n d os (by omega) (by omega)⟩
  unfold sortWorld
  rw [size_grow, size_putRow]
  show w.heap.size ≤ w.heap.size + _
  omega
theorem putCells_toList {n : Nat} [Inhabited (Plc n)] (d : Array (Plc n)) (cur : Array Value) (h : d.size ≤ cur.size) : (putCells encP 0 d cur).toList.take d.size = (d.toList.map (·.1)).map plcV := by
  apply List.ext_getElem?
  intro k
  rcases Nat.lt_or_ge k d.size with h1 | h1
  · rw [List.getElem?_take_of_lt h1, Array.getElem?_toList]
    simp only [putCells, Array.getElem?_mapIdx]
    rw [Array.getElem?_eq_getElem (show k < cur.size by omega)]
    simp [h1, encP, getElem!_pos d k h1]
  · rw [List.getElem?_eq_none (by simp; omega), List.getElem?_eq_none (by simpa using h1)]
/-- The row behind the sort. -/
theorem OwnP.sorted {n : Nat} [Inhabited (Plc n)] {w : World} {base g len cap : Nat} {d : Array (Plc n)} (h : OwnP w base (.slice (some ⟨g, 0, none⟩) len cap) (d.toList.map (·.1))) (d' : Array (Plc n)) (hs : d'.size = d.size) (m : Nat) (os : Array Obj) :
    OwnP (sortWorld encP w g 0 m d' os) base (.slice (some ⟨g, 0, none⟩) len cap) (d'.toList.map (·.1)) := by
  have hlen : (d.toList.map (·.1)).length = d.size := by simp
  have hlen' : (d'.toList.map (·.1)).length = d.size := by simp [hs]
  rcases h.2 with ⟨hv, _⟩ | ⟨g', cap', cur, hv, h1, h2, h3, h4, h5, h6⟩
  · cases hv
  · cases hv
    refine ⟨by simp, Or.inr ⟨g, cap, putCells encP 0 d' cur, ?_, h1, sort_at encP w g m d' os h2, ?_, h4, ?_, ?_⟩⟩
    · rw [hlen', ← hlen]
    · rw [hlen', ← hlen]; exact h3
    · simp [putCells, h5]
    · rw [hlen', Nat.mul_one, ← hs]
      refine putCells_toList d' cur ?_
      rw [h5, hs, ← hlen, Nat.mul_one]
      exact h3
end Go.Proofs.Ytdbolfmmlmoiaaa



namespace Go.Proofs.Ytdbolfmmlmoiaaa
open Go.RowKit Go.Proofs Go.Sort
set_option linter.unusedVariables false
set_option linter.unusedSimpArgs false
attribute [local go_sem ↓] Go.wp_at_zero Go.wp_at_succ
/-- How two places compare. -/
def cmpP (L : Lst) {n : Nat} (x y : Plc n) : Int := Lib.compareInt (L.V x.1) (L.V y.1)
theorem ltP (L : Lst) {n : Nat} (x y : Plc n) : ltOf (cmpP L) x y = decide (L.V x.1 < L.V y.1) := by
  unfold ltOf cmpP Lib.compareInt
  by_cases h1 : L.V x.1 < L.V y.1
  · simp [h1]
  · by_cases h2 : L.V y.1 < L.V x.1 <;> simp [h1, h2]
theorem swoP (L : Lst) {n : Nat} : SWO (ltOf (cmpP L (n := n))) where
  irrefl x := by rw [ltP]; simp
  trans x y z h1 h2 := by rw [ltP] at *; simp at *; omega
  ntrans x y z h1 h2 := by rw [ltP] at *; simp at *; omega
set_option maxHeartbeats 4000000 in
/-- The comparison that is handed to the sort. -/
theorem nrise1W (L : Lst) (x y : Nat) (hx : x < L.n) (hy : y < L.n) (N : Nat) (w : World) (hc : w.cell? ⟨N, 0, none⟩ = some L.val) (hA : L.At w.heap.size w) :
    Calls Try.prog 77 #[.int .i64 x, .int .i64 y, .pointer (some ⟨N, 0, none⟩)] w fun e w' => e = .returned (.int .i64 (Lib.compareInt (L.V x) (L.V y))) ∧ ∃ q, w' = w.drewN q := by
  have hcon := Try.cmp_Compare_int (L.V x) (L.V y)
  rcases hA with hz | ⟨b, off, hb, lb, tb⟩
  · omega
  have c0 := tb.c0 x hx
  have c1 := tb.c0 y hy
  unfold Lst.val at hc
  rw [hb] at hc
  have hx' : (x : Int) < (L.n : Int) := by omega
  have hy' : (y : Int) < (L.n : Int) := by omega
  generalize Lib.compareInt (L.V x) (L.V y) = r at *
  generalize L.V x = Vx at *
  generalize L.V y = Vy at *
  clear tb lb hb
  go_enter Try.func77, Try.ntmps77
  go_upto_region 1 with (fail)
  go_region_held3 (fun w' : World => w'.cell? ⟨N, 0, none⟩ = some (.slice (some ⟨b, off, none⟩) L.n L.c) ∧ w'.cell? ⟨b, off + x * 2, none⟩ = some (.int .i64 Vx) ∧ w'.cell? ⟨b, off + y * 2, none⟩ = some (.int .i64 Vy)) (go_keep)
    ((go_at_call 78; (with_reducible refine (hcon _).mono ?_); rintro e w' ⟨rfl, rfl⟩))
  go_wp2
  (try go_ret)
  exact ⟨rfl, 1, rfl⟩
set_option maxHeartbeats 4000000 in
/-- The sort of places. -/
theorem nsortW (L : Lst) (hLn : 0 < L.n) (hLm : L.n ≤ 1000000) (N base g n cap : Nat) (ps : List Nat) (w : World) (hc : w.cell? ⟨N, 0, none⟩ = some L.val) (hNb : N < base) (hA : L.At (N + 1) w) (hown : OwnP w base (.slice (some ⟨g, 0, none⟩) n cap) ps) (hps : ∀ p ∈ ps, p < L.n) (hpl : ps.length ≤ 1000000) :
    Calls Try.prog 76 #[.slice (some ⟨g, 0, none⟩) n cap, .func (.func 77) #[] #[.pointer (some ⟨N, 0, none⟩)]] w fun e w' =>
      e = .returned (.tuple #[]) ∧ ∃ ps', ps'.Perm ps ∧ ps'.Pairwise (fun p q => L.V p ≤ L.V q) ∧ OwnP w' base (.slice (some ⟨g, 0, none⟩) n cap) ps' ∧ Below base w w' := by
  letI : Inhabited (Plc L.n) := ⟨⟨0, hLn⟩⟩
  obtain ⟨dl, hdl⟩ := plc_list hps
  have hn := hown.len
  have hd : (dl.toArray.toList.map (·.1)) = ps := by simpa using hdl
  have hds : dl.toArray.size = n := by rw [hn, ← hdl]; simp
  generalize dl.toArray = d at *
  subst hd
  subst hds
  have hgb : base ≤ g ∧ g < w.heap.size := hown.lt g rfl
  have eg : ∀ args w, (callFunc 77 args).run Try.prog w = .ok (.enter 77 args) w := enters_of Try.func77 (by kernel_rfl) rfl
  have hcmp : CmpReads Try.prog 77 #[.pointer (some ⟨N, 0, none⟩)] (encP (n := L.n)) (cmpP L (n := L.n)) g 0 d.size w := fun m os dk hs x y => by
    have hb : Below base w (sortWorld encP w g 0 m dk os) := sort_below encP w base g m dk os hgb.1 (by omega)
    exact nrise1W L x.1 y.1 x.2 y.2 N _ (by rw [(bcell hb).1 N 0 hNb]; exact hc) ((TrmsAt.below hA (hb.mono (by omega))).mono (by have := hb.size; omega))
  have h := Try.slices_SortFunc (encP (n := L.n)) (fun _ => rfl) (cmpP L (n := L.n)) (swoP L) 77 #[.pointer (some ⟨N, 0, none⟩)] g 0 cap d w eg hcmp.lays hown.holds hgb.2 (by
    simp at hpl
    omega)
  refine h.mono fun e w' ⟨he, d', m, os, hp, hs, hw⟩ => ?_
  subst hw
  refine ⟨he, d'.toList.map (·.1), ?_, ?_, hown.sorted d' hp.1 m os, sort_below encP w base g m d' os hgb.1 (by omega)⟩
  · have h3 := hp.2.2
    have e1 : d'.extract 0 d.size = d' := by rw [← hp.1]; simp
    have e2 : d.extract 0 d.size = d := by simp
    rw [e1, e2] at h3
    exact h3.map _
  · rw [List.pairwise_map]
    rw [List.pairwise_iff_getElem]
    intro i j hi hj hij
    have hi' : i < d'.size := by simpa using hi
    have hj' : j < d'.size := by simpa using hj
    have h4 := hs i j (Nat.zero_le _) hij (by rw [← hp.1]; exact hj')
    rw [ltP, getElem!_pos d' j hj', getElem!_pos d' i hi'] at h4
    have := of_decide_eq_false h4
    simp only [Array.getElem_toList]
    omega
/-- What the sort of a list's places answers, in a world in which cell N holds the list. -/
def SortC (L : Lst) (N : Nat) : Prop := ∀ (g n cap : Nat) (w : World), w.cell? ⟨N, 0, none⟩ = some L.val → L.At (N + 1) w → OwnP w (N + 1) (.slice (some ⟨g, 0, none⟩) n cap) (plcs L L.n) →
    Calls Try.prog 76 #[.slice (some ⟨g, 0, none⟩) n cap, .func (.func 77) #[] #[.pointer (some ⟨N, 0, none⟩)]] w fun e w' =>
      e = .returned (.tuple #[]) ∧ ∃ ps', ps'.Perm (plcs L L.n) ∧ ps'.Pairwise (fun p q => L.V p ≤ L.V q) ∧ OwnP w' (N + 1) (.slice (some ⟨g, 0, none⟩) n cap) ps' ∧ Below (N + 1) w w'
theorem sortC (L : Lst) (hLm : L.n ≤ 1000000) (N : Nat) : SortC L N := by
  intro g n cap w hc hA hown
  have hlen := plcs_len L L.n
  rcases Nat.eq_zero_or_pos L.n with h | h
  · have e : plcs L L.n = [] := by rw [h]; rfl
    have hn := hown.len
    rw [e] at hn
    obtain rfl : n = 0 := hn
    have hS := AnyF.slices_SortFunc_none (P := Try.prog) (ρ := Try.laysSlF6_f76_ren) { Try.laysSlF6_f76 with } (some ⟨g, 0, none⟩) cap (.func (.func 77) #[] #[.pointer (some ⟨N, 0, none⟩)]) w
    change Calls Try.prog 76 _ _ _ at hS
    refine hS.mono fun e1 w' ⟨he, hw⟩ => ?_
    subst hw
    refine ⟨he, plcs L L.n, List.Perm.refl _, by rw [e]; exact List.Pairwise.nil, hown, Below.refl _ _⟩
  · exact nsortW L h hLm N (N + 1) g n cap (plcs L L.n) w hc (by omega) hA hown (fun p hp => (plcs_mem hp).1) (by omega)
set_option maxRecDepth 4000 in
set_option maxHeartbeats 16000000 in
theorem nrising_core (L : Lst) (hL : L.Ok) (hLm : L.n ≤ 1000000) (w : World) (hA : L.At w.heap.size w) (cs : SortC L w.heap.size) :
    Calls Try.prog 72 #[L.val] w fun e w' => ∃ v ps, e = .returned v ∧ OwnP w' w.heap.size v ps ∧ ps.Perm (plcs L L.n) ∧ ps.Pairwise (fun p q => L.V p ≤ L.V q) ∧ Below w.heap.size w w' := by
  have hA' : Hid (L.At w.heap.size w) := hA
  have hL' : Hid L.Ok := hL
  have cs' : Hid (SortC L w.heap.size) := cs
  clear hA hL cs
  unfold Lst.val
  go_enter Try.func72, Try.ntmps72
  go_upto_region 1 with (fail)
  have hc1 : (w.alloc (.cells #[.slice L.ad L.n L.c] 35)).cell? ⟨w.heap.size, 0, none⟩ = some (.slice L.ad L.n L.c) := by simp [go_sem]
  have hB1 : Below w.heap.size w (w.alloc (.cells #[.slice L.ad L.n L.c] 35)) := by (repeat' (first | (with_reducible first | exact Below.refl _ _ | assumption | refine Below.alloc ?_ ?_ _ | refine Below.drew ?_ | refine below_drewN ?_ _ | refine Below.setCell ?_ ?_ _ | refine below_via (by with_reducible assumption) ?_ ?_) | omega | (simp only [szs]; omega) | (simp only [szs] at *; omega)))
  have z1 : (w.alloc (.cells #[.slice L.ad L.n L.c] 35)).heap.size = w.heap.size + 1 := World.size_alloc _ _
  generalize (w.alloc (.cells #[.slice L.ad L.n L.c] 35)) = W1 at *
  obtain ⟨g0, W2, hmk, hown0, hB2⟩ := make_plc L.n hLm W1 (w.heap.size + 1) (by omega)
  have hB1' : Hid (Below w.heap.size w W1) := hB1
  have hB2' : Hid (Below W1.heap.size W1 W2) := hB2
  have hown0' : Hid (OwnP W2 (w.heap.size + 1) (.slice (some ⟨g0, 0, none⟩) 0 L.n) []) := hown0
  have z2 := hB2.size
  clear hB1 hB2 hown0
  go_upto_region 2 with (fail)
  have hc2 : W2.cell? ⟨w.heap.size, 0, none⟩ = some (.slice L.ad L.n L.c) := by rw [(bcell hB2'.out).1 _ _ (by omega)]; exact hc1
  have hBW : Hid (Below w.heap.size w W2) := below_via hB2'.out hB1'.out (by omega)
  clear hmk hc1 hB1' hB2'
  go_wp2
  go_loopw [3, 11] (fun so si wr => ∃ (i n g cap : Nat), i ≤ L.n ∧ so = .slice (some ⟨g, 0, none⟩) n cap ∧ si = .int .i64 i ∧ Below (w.heap.size + 1) W2 wr ∧ Hid (OwnP wr (w.heap.size + 1) (.slice (some ⟨g, 0, none⟩) n cap) (plcs L i))) (fun so si _ => L.n - (intOf si).toNat)
  case atStart => exact ⟨0, 0, g0, L.n, by omega, rfl, rfl, Below.refl _ _, hown0'.out⟩
  case round =>
    obtain ⟨i, n, g, cap, hi, rfl, rfl, hB, hown⟩ := hrel
    have zB := hB.size
    clear hown0'
    by_cases hlt : i < L.n
    · have hlt' : (i : Int) < (L.n : Int) := by omega
      rcases hA'.out with hz | ⟨b, off, hb, lb, tb⟩
      · omega
      have tb2 := (tb.below hBW.out lb).below hB (by omega)
      have c0 := tb2.c0 i hlt
      have c1 := tb2.c1 i hlt
      have hyes : Hid (0 ≤ L.V i → plcs L (i + 1) = plcs L i ++ [i]) := plcs_yes
      have hnot : Hid (¬ 0 ≤ L.V i → plcs L (i + 1) = plcs L i) := plcs_no
      have hlen : Hid ((plcs L i).length ≤ i) := plcs_len L i
      rw [hb]
      generalize L.V i = x at *
      generalize L.K i = k at *
      clear tb tb2 lb
      by_cases h0 : 0 ≤ x
      · have hP := hyes.out h0
        have hP' : Hid (plcs L (i + 1) = plcs L i ++ [i]) := hP
        clear hyes hnot hP
        go_upto_region 6 with (fail)
        have hB3 : Hid (Below (w.heap.size + 1) W2 (wr.alloc (.cells #[.int .i64 x, .int .u64 (k : Nat)] 61))) := by show Below _ _ _; (repeat' (first | (with_reducible first | exact Below.refl _ _ | assumption | refine Below.alloc ?_ ?_ _ | refine Below.drew ?_ | refine below_drewN ?_ _ | refine Below.setCell ?_ ?_ _ | refine below_via (by with_reducible assumption) ?_ ?_) | omega | (simp only [szs]; omega) | (simp only [szs] at *; omega)))
        have hown3 : Hid (OwnP (wr.alloc (.cells #[.int .i64 x, .int .u64 (k : Nat)] 61)) (w.heap.size + 1) (.slice (some ⟨g, 0, none⟩) n cap) (plcs L i)) := hown.out.on ((Below.refl _ _).alloc (Nat.le_refl _) _)
        generalize (wr.alloc (.cells #[.int .i64 x, .int .u64 (k : Nat)] 61)) = W3 at *
        clear c0 c1 hB hown
        have hB := hB3.out
        have zB3 := hB.size
        clear hB3
        have hown4 : Hid (OwnP (W3.alloc (.cells #[.int .i64 (i : Nat)] 3)) (w.heap.size + 1) (.slice (some ⟨g, 0, none⟩) n cap) (plcs L i)) := hown3.out.on ((Below.refl _ _).alloc (Nat.le_refl _) _)
        have q0 : Hid ((W3.alloc (.cells #[.int .i64 (i : Nat)] 3)).cell? ⟨W3.heap.size, 0, none⟩ = some (.int .i64 (i : Nat))) := by show _ = _; simp [go_sem]
        go_wp2_with (at_builtin; refine wpList_appP rfl _ _ rfl (w.heap.size + 1) _ (plcs L i) i rfl hown4.out W3.heap.size rfl q0.out (by have := hlen.out; omega) (by simp only [szs]; omega) ?_; intro g' n' cap' w1 ho hb1)
        have ho' : Hid (OwnP w1 (w.heap.size + 1) (.slice (some ⟨g', 0, none⟩) n' cap') (plcs L (i + 1))) := by show OwnP _ _ _ _; rw [hP'.out]; exact ho
        have hB4 : Below (w.heap.size + 1) W2 w1 := (hB.alloc (by omega) _).trans hb1
        clear ho hb1 q0 hown4 hown3 hB
        go_roundw
        case rel => exact ⟨i + 1, n', g', cap', by omega, by first | rfl | trivial, by go_num, hB4, ho'⟩
        case measure => (simp [intOf]; omega)
      · have hP' : Hid (plcs L (i + 1) = plcs L i) := hnot.out h0
        have ho' : Hid (OwnP (wr.alloc (.cells #[.int .i64 x, .int .u64 (k : Nat)] 61)) (w.heap.size + 1) (.slice (some ⟨g, 0, none⟩) n cap) (plcs L (i + 1))) := by show OwnP _ _ _ _; rw [hP'.out]; exact hown.out.on ((Below.refl _ _).alloc (Nat.le_refl _) _)
        clear hyes hnot hown
        go_wp2
        go_roundw
        case rel => exact ⟨i + 1, n, g, cap, by omega, by first | rfl | trivial, by go_num, by (repeat' (first | (with_reducible first | exact Below.refl _ _ | assumption | refine Below.alloc ?_ ?_ _ | refine Below.drew ?_ | refine below_drewN ?_ _ | refine Below.setCell ?_ ?_ _ | refine below_via (by with_reducible assumption) ?_ ?_) | omega | (simp only [szs]; omega) | (simp only [szs] at *; omega))), ho'⟩
        case measure => (simp [intOf]; omega)
    · have hlt' : ¬ (i : Int) < (L.n : Int) := by omega
      obtain rfl : i = L.n := by omega
      have hc3 : wr.cell? ⟨w.heap.size, 0, none⟩ = some L.val := by rw [(bcell hB).1 _ _ (by omega)]; exact hc2
      have hA3 : L.At (w.heap.size + 1) wr := (TrmsAt.below (hA'.out.below hBW.out) (hB.mono (by omega))).mono (by omega)
      have hs := cs'.out g n cap wr hc3 hA3 hown.out
      clear hc3 hA3
      go_wp2_with (go_at_call 76; (with_reducible refine hs.mono ?_); rintro e w5 ⟨rfl, ps', hp, hpw, ho, hb5⟩)
      (try go_ret)
      exact ⟨_, ps', rfl, ho.mono (by omega), hp, hpw, (hBW.out.trans (hB.mono (by omega))).trans (hb5.mono (by omega))⟩
theorem nrisingW (L : Lst) (hL : L.Ok) (hLm : L.n ≤ 1000000) (w : World) (hA : L.At w.heap.size w) :
    Calls Try.prog 72 #[L.val] w fun e w' => ∃ v ps, e = .returned v ∧ OwnP w' w.heap.size v ps ∧ ps.Perm (plcs L L.n) ∧ ps.Pairwise (fun p q => L.V p ≤ L.V q) ∧ Below w.heap.size w w' :=
  nrising_core L hL hLm w hA (sortC L hLm _)
end Go.Proofs.Ytdbolfmmlmoiaaa

namespace Go.Proofs.Ytdbolfmmlmoiaaa
open Go.RowKit Go.Proofs
set_option linter.unusedVariables false
set_option linter.unusedSimpArgs false
attribute [local go_sem ↓] Go.wp_at_zero Go.wp_at_succ
/-- Room for terms. -/
theorem make_trm (m : Nat) (hm : m ≤ 1000000) (w : World) (base : Nat) (hb : base ≤ w.heap.size) (V : Nat → Int) (K : Nat → Nat) : ∃ g w', (Instr.makeSlice 35 (.int .i64 0) (.int .i64 (m : Nat))).run Try.prog w = .ok (.slice (some ⟨g, 0, none⟩) 0 m) w' ∧ OwnT w' base (.slice (some ⟨g, 0, none⟩) 0 m) 0 V K ∧ Below w.heap.size w w' := by
  obtain ⟨i0, hi, hz1, hz2, hz0⟩ := trmInfo
  obtain ⟨w', h1, h2, h3⟩ := run_make_own (P := Try.prog) w base 35 61 i0 _ 2 Try.underlying35 hi hz0 hz1 .i64 .i64 m (by rw [hz2]; omega) (by unfold maxLen; omega) hb
  exact ⟨_, w', h1, h2, (Below.refl _ w).grown h3 (Nat.le_refl _) (fun k hk => by cases hk)⟩
set_option maxRecDepth 4000 in
set_option maxHeartbeats 16000000 in
theorem nsumW (L : Lst) (hL : L.Ok) (hLm : L.n ≤ 1000000) (w : World) (hA : L.At w.heap.size w) :
    Calls Try.prog 68 #[L.val] w fun e w' => ∃ v, e = .returned v ∧ SumRes L w w' v ∧ Below w.heap.size w w' := by
  have hA' : Hid (L.At w.heap.size w) := hA
  have hL' : Hid L.Ok := hL
  have cr : Hid (∀ W, L.At W.heap.size W → Calls Try.prog 72 #[L.val] W fun e w' => ∃ v ps, e = .returned v ∧ OwnP w' W.heap.size v ps ∧ ps.Perm (plcs L L.n) ∧ ps.Pairwise (fun p q => L.V p ≤ L.V q) ∧ Below W.heap.size W w') := fun W h => nrisingW L hL hLm W h
  clear hA hL
  obtain ⟨g0, W1, hmk, hown0, hB1⟩ := make_trm L.n hLm w w.heap.size (Nat.le_refl _) (fun _ => 0) (fun _ => 0)
  have hown0' : Hid (OwnT W1 w.heap.size (.slice (some ⟨g0, 0, none⟩) 0 L.n) 0 (fun _ => 0) (fun _ => 0)) := hown0
  have hB1' : Hid (Below w.heap.size w W1) := hB1
  have z1 := hB1.size
  have hg0 : g0 < W1.heap.size := (hown0.lt g0 rfl).2
  have c1 := cr.out W1 (TrmsAt.to hA'.out hB1 (Nat.le_refl _))
  unfold Lst.val at c1 ⊢
  clear hB1 hown0 cr
  go_enter Try.func68, Try.ntmps68
  go_upto_region 2 with (fail)
  clear hmk
  go_upto_region 3 with (go_at_call 72; (with_reducible refine c1.mono ?_); rintro e W2 ⟨v, ps, rfl, hP, hp, hpw, hB2⟩; obtain ⟨pa, pc, rfl⟩ := hP.form)
  have hown1 : Hid (OwnT W2 w.heap.size (.slice (some ⟨g0, 0, none⟩) 0 L.n) 0 (fun _ => 0) (fun _ => 0)) := hown0'.out.on hB2
  have hBW : Hid (Below w.heap.size w W2) := below_via hB2 hB1'.out (by omega)
  have hP1 : Hid (OwnP W2 w.heap.size (.slice pa ps.length pc) ps) := hP.mono (by omega)
  have hfar : Hid (∀ k, Value.ownBlock (.slice pa ps.length pc) = some k → k < W2.heap.size ∧ k ≠ g0) := fun k hk => by
    have := hP.lt k hk
    exact ⟨this.2, by omega⟩
  have hmem : Hid (∀ p ∈ ps, p < L.n ∧ 0 ≤ L.V p) := fun p hp' => plcs_mem (hp.subset hp')
  have hlen : ps.length ≤ L.n := by rw [hp.length_eq]; exact plcs_len L L.n
  have hp' : Hid (ps.Perm (plcs L L.n)) := hp
  have hsort : Hid (∀ i j (hi : i < ps.length) (hj : j < ps.length), i < j → L.V ps[i] ≤ L.V ps[j]) := List.pairwise_iff_getElem.1 hpw
  have hL1 := hL'.out.n1
  have hL2 := hL'.out.n2
  clear hP hp hpw hB2 hB1' hown0' c1
  obtain ⟨m, hm⟩ : ∃ m, Hid (ps.length = m) := ⟨_, rfl⟩
  rw [hm.out] at hP1 hfar hlen
  rw [hm.out]
  go_wp2
  go_loopw [3, 12] (fun so si wr => ∃ (i n g cap : Nat) (V : Nat → Int) (K : Nat → Nat), i ≤ m ∧ so = .slice (some ⟨g, 0, none⟩) n cap ∧ si = .int .i64 i ∧ n ≤ i ∧ Below w.heap.size w wr ∧ Hid (OwnT wr w.heap.size (.slice (some ⟨g, 0, none⟩) n cap) n V K) ∧ Hid (OwnP wr w.heap.size (.slice pa m pc) ps) ∧ Hid (∀ k, Value.ownBlock (.slice pa m pc) = some k → k < wr.heap.size ∧ k ≠ g) ∧
      Hid (SumF (fun v => lks L v (ps.take i)) n V K) ∧ Hid (∀ j, j < n → ∀ q (hq : q < ps.length), i ≤ q → V j ≤ L.V ps[q])) (fun so si _ => m - (intOf si).toNat)
  case atStart => exact ⟨0, 0, g0, L.n, _, _, by omega, rfl, rfl, by omega, hBW.out, hown1, hP1, hfar, SumF.zero (fun v => rfl) _ _, fun j hj => by omega⟩
  case round =>
    obtain ⟨i, n, g, cap, V, K, hi, rfl, rfl, hni, hB, hown, hP, hfr, hS, hle⟩ := hrel
    have zB := hB.size
    clear hown1 hBW hP1 hfar
    by_cases hlt : i < m
    · have hlt' : (i : Int) < (m : Int) := by omega
      have hil : i < ps.length := by rw [hm.out]; exact hlt
      obtain ⟨gp, rfl, hgp, d0⟩ := hP.out.at_ i hil
      obtain ⟨hpn, hp0⟩ := hmem.out ps[i] (List.getElem_mem hil)
      have htake : ps.take (i + 1) = ps.take i ++ [ps[i]] := by rw [List.take_succ_eq_append_getElem hil]
      have cj := njoinedW (fun v => lks L v (ps.take i)) (fun v => lks L v (ps.take (i + 1))) (L.V ps[i]) (L.K ps[i]) w.heap.size g n cap V K wr hp0 (hL'.out.V2 _) (hL'.out.K1 _) hown.out hS.out (fun j hj => hle.out j hj i hil (Nat.le_refl _)) (by omega) (fun v hv => by show lks L v _ = lks L v _; rw [htake]; exact lks_off hv) (by show lks L _ _ = lks L _ _ + _; rw [htake]; exact lks_on)
      have hstep : Hid (∀ q (hq : q < ps.length), i + 1 ≤ q → L.V ps[i] ≤ L.V ps[q]) := fun q hq h => hsort.out i q hil hq (by omega)
      rcases hA'.out with hz | ⟨b, off, hb, lb, tb⟩
      · omega
      have c0 := (tb.below hB lb).c0 _ hpn
      have c1 := (tb.below hB lb).c1 _ hpn
      have hpn' : (((ps[i] : Nat)) : Int) < (L.n : Int) := by omega
      have hg : w.heap.size ≤ g := (hown.out.lt g rfl).1
      rw [hb]
      clear tb lb htake
      generalize ps[i] = p at *
      clear hil
      generalize L.V p = x at *
      generalize L.K p = k at *
      go_wp2_with (go_at_call 73; (with_reducible refine cj.mono ?_); rintro e w5 ⟨g', n', cap', V', K', rfl, ho, hS2, hle2, hn2, hk2, hg2⟩)
      have ho' : Hid (OwnT w5 w.heap.size (.slice (some ⟨g', 0, none⟩) n' cap') n' V' K') := ho
      have hB5 : Below w.heap.size w w5 := hB.trans (hk2.below (fun k hk e => by subst e; omega) (by omega))
      have hP5 : Hid (OwnP w5 w.heap.size (.slice (some ⟨gp, 0, none⟩) m pc) ps) := own_keep hP.out hk2 (fun k hk => (hfr.out k hk).2)
      have hfr5 : Hid (∀ k, Value.ownBlock (.slice (some ⟨gp, 0, none⟩) m pc) = some k → k < w5.heap.size ∧ k ≠ g') := fun k hk => by
        have h1 := hfr.out k hk
        have h2 := hk2.size
        rcases hg2 with h3 | h3 <;> exact ⟨by omega, by omega⟩
      have hle5 : Hid (∀ j, j < n' → ∀ q (hq : q < ps.length), i + 1 ≤ q → V' j ≤ L.V ps[q]) := fun j hj q hq h => Int.le_trans (hle2 j hj) (hstep.out q hq h)
      have hS5 : Hid (SumF (fun v => lks L v (ps.take (i + 1))) n' V' K') := hS2
      clear ho hk2 hg2 hle2 hS2 cj hstep hown hP hfr hS hle
      go_roundw
      case rel => exact ⟨i + 1, n', g', cap', V', K', by omega, by first | rfl | trivial, by go_num, by omega, hB5, ho', hP5, hfr5, hS5, hle5⟩
      case measure => (simp [intOf]; omega)
    · have hlt' : ¬ (i : Int) < (m : Int) := by omega
      obtain rfl : i = m := by omega
      have hS6 : Hid (SumF (fun v => lks L v ps) n V K) := by
        have h := hS.out
        rw [← hm.out, List.take_length] at h
        exact h
      go_wp2
      (try go_ret)
      exact ⟨_, rfl, ⟨n, V, K, hown.out, hS6.out.whole hp'.out, by omega⟩, hB⟩
end Go.Proofs.Ytdbolfmmlmoiaaa

namespace Go.Proofs.Ytdbolfmmlmoiaaa
open Go.RowKit Go.Proofs
set_option linter.unusedVariables false
set_option linter.unusedSimpArgs false
theorem rankHoldsC : HoldsC 19 := fun vars pubs a m c R hO _ _ _ _ hm ad n d hn x hx bad at_ hH W hR hs => nHoldsW vars pubs a m c R hO hm ad n d hn x hx W hR hs bad at_ hH
theorem rankCheckC : CheckC 27 := fun vars pubs a m c R hO _ _ _ _ _ W hR => ncheckW vars pubs a m c R hO W hR
theorem rankValueC : ValueC 64 := fun L hL ad n c hn x hx W hA hs => nvalueW L hL ad n c (by omega) x hx W hA hs
theorem rankSumC : SumC 68 := fun L hL hLn W hA => nsumW L hL hLn W hA
end Go.Proofs.Ytdbolfmmlmoiaaa
