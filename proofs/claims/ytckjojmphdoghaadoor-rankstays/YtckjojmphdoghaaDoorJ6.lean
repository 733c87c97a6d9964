/-
  Joined texts: The document's own answers of layer 11 (package obolref11): sound systems.
-/
import Derived.Test.YtckjojmphdoghaaDoorJ5

namespace Go.Proofs.YtckjojmphdoghaaDoor
open Go.RowKit Go.Proofs
set_option linter.unusedVariables false
set_option linter.unusedSimpArgs false
attribute [local go_sem ↓] Go.wp_at_zero Go.wp_at_succ
/-- A frame that isn't right, in its five ways. -/
theorem frameB_no {vars pubs : Int} {m : Nat} (h : frameB vars pubs m = false) : vars < 1 ∨ (¬ vars < 1 ∧ 4096 < vars) ∨ (¬ vars < 1 ∧ ¬ 4096 < vars ∧ pubs < 0) ∨ (¬ vars < 1 ∧ ¬ 4096 < vars ∧ ¬ pubs < 0 ∧ vars - 1 < pubs) ∨ (¬ vars < 1 ∧ ¬ 4096 < vars ∧ ¬ pubs < 0 ∧ ¬ vars - 1 < pubs ∧ (4096 : Int) < (m : Int)) := by
  have := of_decide_eq_false h
  omega
theorem frameB_yes {vars pubs : Int} {m : Nat} (h : frameB vars pubs m = true) : ¬ vars < 1 ∧ ¬ 4096 < vars ∧ ¬ pubs < 0 ∧ ¬ vars - 1 < pubs ∧ ¬ (4096 : Int) < (m : Int) := by
  have := of_decide_eq_true h
  omega
set_option maxHeartbeats 4000000 in
theorem vcheck_no (vars pubs : Int) (a : Option Addr) (m c : Nat) (w : World) (hv : vars < 9223372036854775808) (h : frameB vars pubs m = false) :
    Calls Tryd.prog 11 #[rankV vars pubs a m c] w fun e w' => e = .returned (.bool false) ∧ Below w.heap.size w w' := by
  unfold rankV
  rcases frameB_no h with h1 | ⟨h1, h2⟩ | ⟨h1, h2, h3⟩ | ⟨h1, h2, h3, h4⟩ | ⟨h1, h2, h3, h4, h5⟩
  all_goals clear h
  · go_enter Tryd.func11, Tryd.ntmps11
    go_wp2
    go_ret
    exact ⟨rfl, by (repeat' (first | (with_reducible first | exact Below.refl _ _ | assumption | refine Below.alloc ?_ ?_ _ | refine Below.drew ?_ | refine below_drewN ?_ _ | refine Below.setCell ?_ ?_ _ | refine below_via (by with_reducible assumption) ?_ ?_) | omega | (simp only [szs]; omega) | (simp only [szs] at *; omega)))⟩
  · go_enter Tryd.func11, Tryd.ntmps11
    go_wp2
    go_ret
    exact ⟨rfl, by (repeat' (first | (with_reducible first | exact Below.refl _ _ | assumption | refine Below.alloc ?_ ?_ _ | refine Below.drew ?_ | refine below_drewN ?_ _ | refine Below.setCell ?_ ?_ _ | refine below_via (by with_reducible assumption) ?_ ?_) | omega | (simp only [szs]; omega) | (simp only [szs] at *; omega)))⟩
  · go_enter Tryd.func11, Tryd.ntmps11
    go_wp2
    go_ret
    exact ⟨rfl, by (repeat' (first | (with_reducible first | exact Below.refl _ _ | assumption | refine Below.alloc ?_ ?_ _ | refine Below.drew ?_ | refine below_drewN ?_ _ | refine Below.setCell ?_ ?_ _ | refine below_via (by with_reducible assumption) ?_ ?_) | omega | (simp only [szs]; omega) | (simp only [szs] at *; omega)))⟩
  · have hw : IntKind.i64.wrap (vars - 1) = vars - 1 := by rw [IntKind.wrap_i64]; omega
    go_enter Tryd.func11, Tryd.ntmps11
    go_wp2
    go_ret
    exact ⟨rfl, by (repeat' (first | (with_reducible first | exact Below.refl _ _ | assumption | refine Below.alloc ?_ ?_ _ | refine Below.drew ?_ | refine below_drewN ?_ _ | refine Below.setCell ?_ ?_ _ | refine below_via (by with_reducible assumption) ?_ ?_) | omega | (simp only [szs]; omega) | (simp only [szs] at *; omega)))⟩
  · have hw : IntKind.i64.wrap (vars - 1) = vars - 1 := by rw [IntKind.wrap_i64]; omega
    go_enter Tryd.func11, Tryd.ntmps11
    go_wp2
    go_ret
    exact ⟨rfl, by (repeat' (first | (with_reducible first | exact Below.refl _ _ | assumption | refine Below.alloc ?_ ?_ _ | refine Below.drew ?_ | refine below_drewN ?_ _ | refine Below.setCell ?_ ?_ _ | refine below_via (by with_reducible assumption) ?_ ?_) | omega | (simp only [szs]; omega) | (simp only [szs] at *; omega)))⟩
set_option maxRecDepth 4000 in
set_option maxHeartbeats 16000000 in
theorem vcheck_core (vars pubs : Int) (a : Option Addr) (m c : Nat) (R : Nat → Nat → Lst) (hO : ∀ i j, (R i j).Ok) (w : World) (hR : RowsAt w.heap.size w a m R) (hf : frameB vars pubs m = true) :
    Calls Tryd.prog 11 #[rankV vars pubs a m c] w fun e w' => e = .returned (.bool (soundR vars R m)) ∧ Below w.heap.size w w' := by
  have hR' : Hid (RowsAt w.heap.size w a m R) := hR
  have hO' : Hid (∀ i j, (R i j).Ok) := hO
  obtain ⟨S, hS⟩ : ∃ S, Hid (soundR vars R m = S) := ⟨_, rfl⟩
  obtain ⟨h1, h2, h3, h4, h5⟩ := frameB_yes hf
  have hw : IntKind.i64.wrap (vars - 1) = vars - 1 := by rw [IntKind.wrap_i64]; omega
  rw [hS.out]
  clear hR hO hf
  unfold rankV
  go_enter Tryd.func11, Tryd.ntmps11
  go_wp2
  go_loopw [3] (fun si wr => ∃ i : Nat, i ≤ m ∧ si = .int .i64 i ∧ Three wr w.heap.size (.int .i64 vars) (.int .i64 pubs) (.slice a m c) ∧ Below w.heap.size w wr ∧ Hid (soundR vars R i = true)) (fun si _ => m - (intOf si).toNat)
  case atStart => exact ⟨0, by omega, rfl, by (repeat' (first | (with_reducible first | assumption | exact Three.own (by with_reducible assumption) | refine Three.set ?_ _ _ _ | refine Own3.set ?_ _ _ _ | refine Three.drew ?_ | refine Three.drewN ?_ _ | refine Own3.drew ?_ | refine Own3.drewN ?_ _ | (refine Three.new ?_; simp only [szs]; done) | (refine Own3.new ?_; simp only [szs]; done) | refine Three.alloc ?_ _ | refine Own3.alloc ?_ _ | refine Three.far ?_ ?_ _ _ | refine Own3.far ?_ ?_ _ _ | refine Three.via (by with_reducible assumption) ?_ ?_ | refine Own3.via (by with_reducible assumption) ?_ ?_) | omega | (simp only [szs]; omega))), by (repeat' (first | (with_reducible first | exact Below.refl _ _ | assumption | refine Below.alloc ?_ ?_ _ | refine Below.drew ?_ | refine below_drewN ?_ _ | refine Below.setCell ?_ ?_ _ | refine below_via (by with_reducible assumption) ?_ ?_) | omega | (simp only [szs]; omega) | (simp only [szs] at *; omega))), rfl⟩
  case round =>
    obtain ⟨i, hi, rfl, t1, hB, hI⟩ := hrel
    have ⟨e1, e2, e3, e4, e5, e6, e7⟩ := t1
    by_cases hlt : i < m
    · have hlt' : (i : Int) < (m : Int) := by omega
      rcases hR'.out with hz | ⟨b, off, rfl, tr⟩
      · omega
      have tr := tr.below hB
      have zB := hB.size
      obtain ⟨d0, d1, d2⟩ := tr.row hlt
      have q0 := vsoundW (R i 0) (hO'.out i 0) vars wr.drew ((TrmsAt.below (tr.at_ i hlt 0 (by decide)) ((Below.refl w.heap.size wr).drew)).mono zB)
      have q1 := vsoundW (R i 1) (hO'.out i 1) vars wr.drew ((TrmsAt.below (tr.at_ i hlt 1 (by decide)) ((Below.refl w.heap.size wr).drew)).mono zB)
      have q2 := vsoundW (R i 2) (hO'.out i 2) vars wr.drew ((TrmsAt.below (tr.at_ i hlt 2 (by decide)) ((Below.refl w.heap.size wr).drew)).mono zB)
      unfold Lst.val at d0 d1 d2 q0 q1 q2
      have hdec : Hid ((soundB vars (R i 0) && (soundB vars (R i 1) && soundB vars (R i 2))) = false → S = false) := fun h => by rw [← hS.out]; exact soundR_not h hlt
      have hstep : Hid ((soundB vars (R i 0) && (soundB vars (R i 1) && soundB vars (R i 2))) = true → soundR vars R (i + 1) = true) := fun h => by show (soundR vars R i && _) = true; rw [hI.out, h]; rfl
      have hS0 : (fun w' => (w'.cell? ⟨w.heap.size, 0, none⟩ = some (.int .i64 vars) ∧ w'.cell? ⟨w.heap.size, 2, none⟩ = some (.slice (some ⟨b, off, none⟩) m c)) ∧ w'.cell? ⟨b, off + i * 3, none⟩ = some (.slice (R i 0).ad (R i 0).n (R i 0).c) ∧ w'.cell? ⟨b, off + i * 3 + 1, none⟩ = some (.slice (R i 1).ad (R i 1).n (R i 1).c) ∧ w'.cell? ⟨b, off + i * 3 + 2, none⟩ = some (.slice (R i 2).ad (R i 2).n (R i 2).c)) wr.drew := ⟨⟨e1, e3⟩, d0, d1, d2⟩
      clear tr hI
      go_wp2
      cases b0 : soundB vars (R i 0) with
      | false =>
        rw [b0] at q0
        obtain rfl := hdec.out (by rw [b0]; rfl)
        clear hdec hstep
        refine wp_region_noPanic ?_
        refine region_lastly (S := (fun w' => (w'.cell? ⟨w.heap.size, 0, none⟩ = some (.int .i64 vars) ∧ w'.cell? ⟨w.heap.size, 2, none⟩ = some (.slice (some ⟨b, off, none⟩) m c)) ∧ w'.cell? ⟨b, off + i * 3, none⟩ = some (.slice (R i 0).ad (R i 0).n (R i 0).c) ∧ w'.cell? ⟨b, off + i * 3 + 1, none⟩ = some (.slice (R i 1).ad (R i 1).n (R i 1).c) ∧ w'.cell? ⟨b, off + i * 3 + 2, none⟩ = some (.slice (R i 2).ad (R i 2).n (R i 2).c))) [] (by kernel_rfl) (by ((try dsimp only); (assumption))) (fun hHeld => ?_)
        refine anyZ_free (i := 0) (oi := ?oi_1) (v := ?v_1) ?hi_1 ?hs_1 ?hf_1 ?hr_1 ?hQ_1 (Or.inl ⟨?hw_1, ?hy_1⟩) ?hrest_1
        case hi_1 => (simp only [List.getElem?_toArray, List.getElem?_cons_succ, List.getElem?_cons_zero]; exact rfl)
        case hs_1 => kernel_rfl
        case hf_1 => kernel_rfl
        case hr_1 => kernel_rfl
        case hQ_1 => exact fun _ _ _ h => h
        case hw_1 => rfl
        case hy_1 => (intro w _; go_simp; try with_reducible rfl)
        try simp only [Act.put, List.setIfInBounds_toArray, List.set_cons_zero, List.set_cons_succ]
        refine anyZ_take (i := 1) (oi := ?oi_2) (v := ?v_2) ?hi_2 ?hz_2 ?hs_2 ?hf_2 ?hr_2 ?hQ_2 (Or.inl ⟨?hw_2, ?hy_2⟩) ?hS_2 ?hrest_2
        case hi_2 => (simp only [List.getElem?_toArray, List.getElem?_cons_succ, List.getElem?_cons_zero]; exact rfl)
        case hz_2 => kernel_rfl
        case hs_2 => kernel_rfl
        case hf_2 => kernel_rfl
        case hr_2 => kernel_rfl
        case hQ_2 => exact fun _ _ _ h => h
        case hw_2 => rfl
        case hS_2 => assumption
        case hy_2 => (intro w hSw; (try dsimp only at hSw); go_simp; try with_reducible rfl)
        try simp only [Act.put, List.setIfInBounds_toArray, List.set_cons_zero, List.set_cons_succ]
        refine anyZ_free (i := 2) (oi := ?oi_3) (v := ?v_3) ?hi_3 ?hs_3 ?hf_3 ?hr_3 ?hQ_3 (Or.inl ⟨?hw_3, ?hy_3⟩) ?hrest_3
        case hi_3 => (simp only [List.getElem?_toArray, List.getElem?_cons_succ, List.getElem?_cons_zero]; exact rfl)
        case hs_3 => kernel_rfl
        case hf_3 => kernel_rfl
        case hr_3 => kernel_rfl
        case hQ_3 => exact fun _ _ _ h => h
        case hw_3 => rfl
        case hy_3 => (intro w _; go_simp; try with_reducible rfl)
        try simp only [Act.put, List.setIfInBounds_toArray, List.set_cons_zero, List.set_cons_succ]
        refine anyZ_free (i := 3) (oi := ?oi_4) (v := ?v_4) ?hi_4 ?hs_4 ?hf_4 ?hr_4 ?hQ_4 (Or.inl ⟨?hw_4, ?hy_4⟩) ?hrest_4
        case hi_4 => (simp only [List.getElem?_toArray, List.getElem?_cons_succ, List.getElem?_cons_zero]; exact rfl)
        case hs_4 => kernel_rfl
        case hf_4 => kernel_rfl
        case hr_4 => kernel_rfl
        case hQ_4 => exact fun _ _ _ h => h
        case hw_4 => rfl
        case hy_4 => (intro w _; go_simp; try with_reducible rfl)
        try simp only [Act.put, List.setIfInBounds_toArray, List.set_cons_zero, List.set_cons_succ]
        refine anyZ_free (i := 4) (oi := ?oi_5) (v := ?v_5) ?hi_5 ?hs_5 ?hf_5 ?hr_5 ?hQ_5 (Or.inl ⟨?hw_5, ?hy_5⟩) ?hrest_5
        case hi_5 => (simp only [List.getElem?_toArray, List.getElem?_cons_succ, List.getElem?_cons_zero]; exact rfl)
        case hs_5 => kernel_rfl
        case hf_5 => kernel_rfl
        case hr_5 => kernel_rfl
        case hQ_5 => exact fun _ _ _ h => h
        case hw_5 => rfl
        case hy_5 => (intro w _; go_simp; try with_reducible rfl)
        try simp only [Act.put, List.setIfInBounds_toArray, List.set_cons_zero, List.set_cons_succ]
        refine anyZ_take (i := 5) (oi := ?oi_6) (v := ?v_6) ?hi_6 ?hz_6 ?hs_6 ?hf_6 ?hr_6 ?hQ_6 (Or.inl ⟨?hw_6, ?hy_6⟩) ?hS_6 ?hrest_6
        case hi_6 => (simp only [List.getElem?_toArray, List.getElem?_cons_succ, List.getElem?_cons_zero]; exact rfl)
        case hz_6 => kernel_rfl
        case hs_6 => kernel_rfl
        case hf_6 => kernel_rfl
        case hr_6 => kernel_rfl
        case hQ_6 => exact fun _ _ _ h => h
        case hw_6 => rfl
        case hS_6 => assumption
        case hy_6 => (intro w hSw; (try dsimp only at hSw); go_simp; try with_reducible rfl)
        try simp only [Act.put, List.setIfInBounds_toArray, List.set_cons_zero, List.set_cons_succ]
        refine anyZ_free (i := 6) (oi := ?oi_7) (v := ?v_7) ?hi_7 ?hs_7 ?hf_7 ?hr_7 ?hQ_7 (Or.inl ⟨?hw_7, ?hy_7⟩) ?hrest_7
        case hi_7 => (simp only [List.getElem?_toArray, List.getElem?_cons_succ, List.getElem?_cons_zero]; exact rfl)
        case hs_7 => kernel_rfl
        case hf_7 => kernel_rfl
        case hr_7 => kernel_rfl
        case hQ_7 => exact fun _ _ _ h => h
        case hw_7 => rfl
        case hy_7 => (intro w _; go_simp; try with_reducible rfl)
        try simp only [Act.put, List.setIfInBounds_toArray, List.set_cons_zero, List.set_cons_succ]
        refine anyZ_take (i := 7) (oi := ?oi_8) (v := ?v_8) ?hi_8 ?hz_8 ?hs_8 ?hf_8 ?hr_8 ?hQ_8 (Or.inl ⟨?hw_8, ?hy_8⟩) ?hS_8 ?hrest_8
        case hi_8 => (simp only [List.getElem?_toArray, List.getElem?_cons_succ, List.getElem?_cons_zero]; exact rfl)
        case hz_8 => kernel_rfl
        case hs_8 => kernel_rfl
        case hf_8 => kernel_rfl
        case hr_8 => kernel_rfl
        case hQ_8 => exact fun _ _ _ h => h
        case hw_8 => rfl
        case hS_8 => assumption
        case hy_8 => (intro w hSw; (try dsimp only at hSw); go_simp; try with_reducible rfl)
        try simp only [Act.put, List.setIfInBounds_toArray, List.set_cons_zero, List.set_cons_succ]
        refine anyZ_ready (rs := [8]) (by kernel_rfl) (by simp) ?_
        refine (AllZ.cons (o := ?o_9) ?ho_9 (fun K hK => ?st_9) AllZ.nil)
        case ho_9 => (simp only [List.getElem?_toArray, List.getElem?_cons_succ, List.getElem?_cons_zero]; exact rfl)
        case st_9 =>
          go_simp
          (go_at_call 22; (with_reducible refine q0.mono ?_); rintro e w' ⟨rfl, rfl⟩)
          refine hK.out _ _ (by ((try dsimp only); (assumption))) (fun hHeld => ?_)
          clear hK K
          try simp only [Act.put, List.setIfInBounds_toArray, List.set_cons_zero, List.set_cons_succ]
          refine anyZ_free (i := 9) (oi := ?oi_10) (v := ?v_10) ?hi_10 ?hs_10 ?hf_10 ?hr_10 ?hQ_10 (Or.inl ⟨?hw_10, ?hy_10⟩) ?hrest_10
          case hi_10 => (simp only [List.getElem?_toArray, List.getElem?_cons_succ, List.getElem?_cons_zero]; exact rfl)
          case hs_10 => kernel_rfl
          case hf_10 => kernel_rfl
          case hr_10 => kernel_rfl
          case hQ_10 => exact fun _ _ _ h => h
          case hw_10 => rfl
          case hy_10 => (intro w _; go_simp; try with_reducible rfl)
          try simp only [Act.put, List.setIfInBounds_toArray, List.set_cons_zero, List.set_cons_succ]
          refine anyZ_free (i := 10) (oi := ?oi_11) (v := ?v_11) ?hi_11 ?hs_11 ?hf_11 ?hr_11 ?hQ_11 (Or.inl ⟨?hw_11, ?hy_11⟩) ?hrest_11
          case hi_11 => (simp only [List.getElem?_toArray, List.getElem?_cons_succ, List.getElem?_cons_zero]; exact rfl)
          case hs_11 => kernel_rfl
          case hf_11 => kernel_rfl
          case hr_11 => kernel_rfl
          case hQ_11 => exact fun _ _ _ h => h
          case hw_11 => rfl
          case hy_11 => (intro w _; go_simp; try with_reducible rfl)
          try simp only [Act.put, List.setIfInBounds_toArray, List.set_cons_zero, List.set_cons_succ]
          refine anyZ_free (i := 11) (oi := ?oi_12) (v := undef) ?hi_12 ?hs_12 ?hf_12 ?hr_12 ?hQ_12 (Or.inr ⟨?hw_12, rfl⟩) ?hrest_12
          case hi_12 => (simp only [List.getElem?_toArray, List.getElem?_cons_succ, List.getElem?_cons_zero]; exact rfl)
          case hs_12 => kernel_rfl
          case hf_12 => kernel_rfl
          case hr_12 => kernel_rfl
          case hQ_12 => exact fun _ _ _ h => h
          case hw_12 => rfl
          try simp only [Act.put, List.setIfInBounds_toArray, List.set_cons_zero, List.set_cons_succ]
          refine anyZ_free (i := 12) (oi := ?oi_13) (v := undef) ?hi_13 ?hs_13 ?hf_13 ?hr_13 ?hQ_13 (Or.inr ⟨?hw_13, rfl⟩) ?hrest_13
          case hi_13 => (simp only [List.getElem?_toArray, List.getElem?_cons_succ, List.getElem?_cons_zero]; exact rfl)
          case hs_13 => kernel_rfl
          case hf_13 => kernel_rfl
          case hr_13 => kernel_rfl
          case hQ_13 => exact fun _ _ _ h => h
          case hw_13 => rfl
          try simp only [Act.put, List.setIfInBounds_toArray, List.set_cons_zero, List.set_cons_succ]
          refine anyZ_free (i := 13) (oi := ?oi_14) (v := undef) ?hi_14 ?hs_14 ?hf_14 ?hr_14 ?hQ_14 (Or.inr ⟨?hw_14, rfl⟩) ?hrest_14
          case hi_14 => (simp only [List.getElem?_toArray, List.getElem?_cons_succ, List.getElem?_cons_zero]; exact rfl)
          case hs_14 => kernel_rfl
          case hf_14 => kernel_rfl
          case hr_14 => kernel_rfl
          case hQ_14 => exact fun _ _ _ h => h
          case hw_14 => rfl
          try simp only [Act.put, List.setIfInBounds_toArray, List.set_cons_zero, List.set_cons_succ]
          refine anyZ_free (i := 14) (oi := ?oi_15) (v := undef) ?hi_15 ?hs_15 ?hf_15 ?hr_15 ?hQ_15 (Or.inr ⟨?hw_15, rfl⟩) ?hrest_15
          case hi_15 => (simp only [List.getElem?_toArray, List.getElem?_cons_succ, List.getElem?_cons_zero]; exact rfl)
          case hs_15 => kernel_rfl
          case hf_15 => kernel_rfl
          case hr_15 => kernel_rfl
          case hQ_15 => exact fun _ _ _ h => h
          case hw_15 => rfl
          try simp only [Act.put, List.setIfInBounds_toArray, List.set_cons_zero, List.set_cons_succ]
          refine anyZ_free (i := 15) (oi := ?oi_16) (v := undef) ?hi_16 ?hs_16 ?hf_16 ?hr_16 ?hQ_16 (Or.inr ⟨?hw_16, rfl⟩) ?hrest_16
          case hi_16 => (simp only [List.getElem?_toArray, List.getElem?_cons_succ, List.getElem?_cons_zero]; exact rfl)
          case hs_16 => kernel_rfl
          case hf_16 => kernel_rfl
          case hr_16 => kernel_rfl
          case hQ_16 => exact fun _ _ _ h => h
          case hw_16 => rfl
          try simp only [Act.put, List.setIfInBounds_toArray, List.set_cons_zero, List.set_cons_succ]
          refine anyZ_free (i := 16) (oi := ?oi_17) (v := undef) ?hi_17 ?hs_17 ?hf_17 ?hr_17 ?hQ_17 (Or.inr ⟨?hw_17, rfl⟩) ?hrest_17
          case hi_17 => (simp only [List.getElem?_toArray, List.getElem?_cons_succ, List.getElem?_cons_zero]; exact rfl)
          case hs_17 => kernel_rfl
          case hf_17 => kernel_rfl
          case hr_17 => kernel_rfl
          case hQ_17 => exact fun _ _ _ h => h
          case hw_17 => rfl
          try simp only [Act.put, List.setIfInBounds_toArray, List.set_cons_zero, List.set_cons_succ]
          refine anyZ_free (i := 17) (oi := ?oi_18) (v := undef) ?hi_18 ?hs_18 ?hf_18 ?hr_18 ?hQ_18 (Or.inr ⟨?hw_18, rfl⟩) ?hrest_18
          case hi_18 => (simp only [List.getElem?_toArray, List.getElem?_cons_succ, List.getElem?_cons_zero]; exact rfl)
          case hs_18 => kernel_rfl
          case hf_18 => kernel_rfl
          case hr_18 => kernel_rfl
          case hQ_18 => exact fun _ _ _ h => h
          case hw_18 => rfl
          try simp only [Act.put, List.setIfInBounds_toArray, List.set_cons_zero, List.set_cons_succ]
          refine anyZ_free (i := 18) (oi := ?oi_19) (v := undef) ?hi_19 ?hs_19 ?hf_19 ?hr_19 ?hQ_19 (Or.inr ⟨?hw_19, rfl⟩) ?hrest_19
          case hi_19 => (simp only [List.getElem?_toArray, List.getElem?_cons_succ, List.getElem?_cons_zero]; exact rfl)
          case hs_19 => kernel_rfl
          case hf_19 => kernel_rfl
          case hr_19 => kernel_rfl
          case hQ_19 => exact fun _ _ _ h => h
          case hw_19 => rfl
          try simp only [Act.put, List.setIfInBounds_toArray, List.set_cons_zero, List.set_cons_succ]
          refine anyZ_free (i := 19) (oi := ?oi_20) (v := undef) ?hi_20 ?hs_20 ?hf_20 ?hr_20 ?hQ_20 (Or.inr ⟨?hw_20, rfl⟩) ?hrest_20
          case hi_20 => (simp only [List.getElem?_toArray, List.getElem?_cons_succ, List.getElem?_cons_zero]; exact rfl)
          case hs_20 => kernel_rfl
          case hf_20 => kernel_rfl
          case hr_20 => kernel_rfl
          case hQ_20 => exact fun _ _ _ h => h
          case hw_20 => rfl
          try simp only [Act.put, List.setIfInBounds_toArray, List.set_cons_zero, List.set_cons_succ]
          refine anyZ_free (i := 20) (oi := ?oi_21) (v := undef) ?hi_21 ?hs_21 ?hf_21 ?hr_21 ?hQ_21 (Or.inr ⟨?hw_21, rfl⟩) ?hrest_21
          case hi_21 => (simp only [List.getElem?_toArray, List.getElem?_cons_succ, List.getElem?_cons_zero]; exact rfl)
          case hs_21 => kernel_rfl
          case hf_21 => kernel_rfl
          case hr_21 => kernel_rfl
          case hQ_21 => exact fun _ _ _ h => h
          case hw_21 => rfl
          try simp only [Act.put, List.setIfInBounds_toArray, List.set_cons_zero, List.set_cons_succ]
          refine anyZ_free (i := 21) (oi := ?oi_22) (v := ?v_22) ?hi_22 ?hs_22 ?hf_22 ?hr_22 ?hQ_22 (Or.inl ⟨?hw_22, ?hy_22⟩) ?hrest_22
          case hi_22 => (simp only [List.getElem?_toArray, List.getElem?_cons_succ, List.getElem?_cons_zero]; exact rfl)
          case hs_22 => kernel_rfl
          case hf_22 => kernel_rfl
          case hr_22 => kernel_rfl
          case hQ_22 => exact fun _ _ _ h => h
          case hw_22 => rfl
          case hy_22 => (intro w _; go_simp; try with_reducible rfl)
          try simp only [Act.put, List.setIfInBounds_toArray, List.set_cons_zero, List.set_cons_succ]
          refine anyZ_free (i := 22) (oi := ?oi_23) (v := ?v_23) ?hi_23 ?hs_23 ?hf_23 ?hr_23 ?hQ_23 (Or.inl ⟨?hw_23, ?hy_23⟩) ?hrest_23
          case hi_23 => (simp only [List.getElem?_toArray, List.getElem?_cons_succ, List.getElem?_cons_zero]; exact rfl)
          case hs_23 => kernel_rfl
          case hf_23 => kernel_rfl
          case hr_23 => kernel_rfl
          case hQ_23 => exact fun _ _ _ h => h
          case hw_23 => rfl
          case hy_23 => (intro w _; go_simp; try with_reducible rfl)
          try simp only [Act.put, List.setIfInBounds_toArray, List.set_cons_zero, List.set_cons_succ]
          refine anyZ_free (i := 23) (oi := ?oi_24) (v := undef) ?hi_24 ?hs_24 ?hf_24 ?hr_24 ?hQ_24 (Or.inr ⟨?hw_24, rfl⟩) ?hrest_24
          case hi_24 => (simp only [List.getElem?_toArray, List.getElem?_cons_succ, List.getElem?_cons_zero]; exact rfl)
          case hs_24 => kernel_rfl
          case hf_24 => kernel_rfl
          case hr_24 => kernel_rfl
          case hQ_24 => exact fun _ _ _ h => h
          case hw_24 => rfl
          try simp only [Act.put, List.setIfInBounds_toArray, List.set_cons_zero, List.set_cons_succ]
          refine anyZ_free (i := 24) (oi := ?oi_25) (v := undef) ?hi_25 ?hs_25 ?hf_25 ?hr_25 ?hQ_25 (Or.inr ⟨?hw_25, rfl⟩) ?hrest_25
          case hi_25 => (simp only [List.getElem?_toArray, List.getElem?_cons_succ, List.getElem?_cons_zero]; exact rfl)
          case hs_25 => kernel_rfl
          case hf_25 => kernel_rfl
          case hr_25 => kernel_rfl
          case hQ_25 => exact fun _ _ _ h => h
          case hw_25 => rfl
          try simp only [Act.put, List.setIfInBounds_toArray, List.set_cons_zero, List.set_cons_succ]
          refine anyZ_free (i := 25) (oi := ?oi_26) (v := undef) ?hi_26 ?hs_26 ?hf_26 ?hr_26 ?hQ_26 (Or.inr ⟨?hw_26, rfl⟩) ?hrest_26
          case hi_26 => (simp only [List.getElem?_toArray, List.getElem?_cons_succ, List.getElem?_cons_zero]; exact rfl)
          case hs_26 => kernel_rfl
          case hf_26 => kernel_rfl
          case hr_26 => kernel_rfl
          case hQ_26 => exact fun _ _ _ h => h
          case hw_26 => rfl
          try simp only [Act.put, List.setIfInBounds_toArray, List.set_cons_zero, List.set_cons_succ]
          refine anyZ_free (i := 26) (oi := ?oi_27) (v := undef) ?hi_27 ?hs_27 ?hf_27 ?hr_27 ?hQ_27 (Or.inr ⟨?hw_27, rfl⟩) ?hrest_27
          case hi_27 => (simp only [List.getElem?_toArray, List.getElem?_cons_succ, List.getElem?_cons_zero]; exact rfl)
          case hs_27 => kernel_rfl
          case hf_27 => kernel_rfl
          case hr_27 => kernel_rfl
          case hQ_27 => exact fun _ _ _ h => h
          case hw_27 => rfl
          try simp only [Act.put, List.setIfInBounds_toArray, List.set_cons_zero, List.set_cons_succ]
          refine anyZ_free (i := 27) (oi := ?oi_28) (v := undef) ?hi_28 ?hs_28 ?hf_28 ?hr_28 ?hQ_28 (Or.inr ⟨?hw_28, rfl⟩) ?hrest_28
          case hi_28 => (simp only [List.getElem?_toArray, List.getElem?_cons_succ, List.getElem?_cons_zero]; exact rfl)
          case hs_28 => kernel_rfl
          case hf_28 => kernel_rfl
          case hr_28 => kernel_rfl
          case hQ_28 => exact fun _ _ _ h => h
          case hw_28 => rfl
          try simp only [Act.put, List.setIfInBounds_toArray, List.set_cons_zero, List.set_cons_succ]
          refine anyZ_free (i := 28) (oi := ?oi_29) (v := undef) ?hi_29 ?hs_29 ?hf_29 ?hr_29 ?hQ_29 (Or.inr ⟨?hw_29, rfl⟩) ?hrest_29
          case hi_29 => (simp only [List.getElem?_toArray, List.getElem?_cons_succ, List.getElem?_cons_zero]; exact rfl)
          case hs_29 => kernel_rfl
          case hf_29 => kernel_rfl
          case hr_29 => kernel_rfl
          case hQ_29 => exact fun _ _ _ h => h
          case hw_29 => rfl
          try simp only [Act.put, List.setIfInBounds_toArray, List.set_cons_zero, List.set_cons_succ]
          refine anyZ_free (i := 29) (oi := ?oi_30) (v := undef) ?hi_30 ?hs_30 ?hf_30 ?hr_30 ?hQ_30 (Or.inr ⟨?hw_30, rfl⟩) ?hrest_30
          case hi_30 => (simp only [List.getElem?_toArray, List.getElem?_cons_succ, List.getElem?_cons_zero]; exact rfl)
          case hs_30 => kernel_rfl
          case hf_30 => kernel_rfl
          case hr_30 => kernel_rfl
          case hQ_30 => exact fun _ _ _ h => h
          case hw_30 => rfl
          try simp only [Act.put, List.setIfInBounds_toArray, List.set_cons_zero, List.set_cons_succ]
          refine anyZ_free (i := 30) (oi := ?oi_31) (v := undef) ?hi_31 ?hs_31 ?hf_31 ?hr_31 ?hQ_31 (Or.inr ⟨?hw_31, rfl⟩) ?hrest_31
          case hi_31 => (simp only [List.getElem?_toArray, List.getElem?_cons_succ, List.getElem?_cons_zero]; exact rfl)
          case hs_31 => kernel_rfl
          case hf_31 => kernel_rfl
          case hr_31 => kernel_rfl
          case hQ_31 => exact fun _ _ _ h => h
          case hw_31 => rfl
          try simp only [Act.put, List.setIfInBounds_toArray, List.set_cons_zero, List.set_cons_succ]
          refine anyZ_free (i := 31) (oi := ?oi_32) (v := undef) ?hi_32 ?hs_32 ?hf_32 ?hr_32 ?hQ_32 (Or.inr ⟨?hw_32, rfl⟩) ?hrest_32
          case hi_32 => (simp only [List.getElem?_toArray, List.getElem?_cons_succ, List.getElem?_cons_zero]; exact rfl)
          case hs_32 => kernel_rfl
          case hf_32 => kernel_rfl
          case hr_32 => kernel_rfl
          case hQ_32 => exact fun _ _ _ h => h
          case hw_32 => rfl
          try simp only [Act.put, List.setIfInBounds_toArray, List.set_cons_zero, List.set_cons_succ]
          refine anyZ_free (i := 32) (oi := ?oi_33) (v := undef) ?hi_33 ?hs_33 ?hf_33 ?hr_33 ?hQ_33 (Or.inr ⟨?hw_33, rfl⟩) ?hrest_33
          case hi_33 => (simp only [List.getElem?_toArray, List.getElem?_cons_succ, List.getElem?_cons_zero]; exact rfl)
          case hs_33 => kernel_rfl
          case hf_33 => kernel_rfl
          case hr_33 => kernel_rfl
          case hQ_33 => exact fun _ _ _ h => h
          case hw_33 => rfl
          try simp only [Act.put, List.setIfInBounds_toArray, List.set_cons_zero, List.set_cons_succ]
          refine anyZ_free (i := 33) (oi := ?oi_34) (v := ?v_34) ?hi_34 ?hs_34 ?hf_34 ?hr_34 ?hQ_34 (Or.inl ⟨?hw_34, ?hy_34⟩) ?hrest_34
          case hi_34 => (simp only [List.getElem?_toArray, List.getElem?_cons_succ, List.getElem?_cons_zero]; exact rfl)
          case hs_34 => kernel_rfl
          case hf_34 => kernel_rfl
          case hr_34 => kernel_rfl
          case hQ_34 => exact fun _ _ _ h => h
          case hw_34 => rfl
          case hy_34 => (intro w _; go_simp; try with_reducible rfl)
          try simp only [Act.put, List.setIfInBounds_toArray, List.set_cons_zero, List.set_cons_succ]
          refine anyZ_done (by kernel_rfl) ?_ _
          refine NoPanic.normal ?_
          go_wp2
          go_ret
          exact ⟨rfl, by (repeat' (first | (with_reducible first | exact Below.refl _ _ | assumption | refine Below.alloc ?_ ?_ _ | refine Below.drew ?_ | refine below_drewN ?_ _ | refine Below.setCell ?_ ?_ _ | refine below_via (by with_reducible assumption) ?_ ?_) | omega | (simp only [szs]; omega) | (simp only [szs] at *; omega)))⟩
      | true =>
        rw [b0] at q0
        cases b1 : soundB vars (R i 1) with
        | false =>
          rw [b1] at q1
          obtain rfl := hdec.out (by rw [b0, b1]; rfl)
          clear hdec hstep
          refine wp_region_noPanic ?_
          refine region_lastly (S := (fun w' => (w'.cell? ⟨w.heap.size, 0, none⟩ = some (.int .i64 vars) ∧ w'.cell? ⟨w.heap.size, 2, none⟩ = some (.slice (some ⟨b, off, none⟩) m c)) ∧ w'.cell? ⟨b, off + i * 3, none⟩ = some (.slice (R i 0).ad (R i 0).n (R i 0).c) ∧ w'.cell? ⟨b, off + i * 3 + 1, none⟩ = some (.slice (R i 1).ad (R i 1).n (R i 1).c) ∧ w'.cell? ⟨b, off + i * 3 + 2, none⟩ = some (.slice (R i 2).ad (R i 2).n (R i 2).c))) [] (by kernel_rfl) (by ((try dsimp only); (assumption))) (fun hHeld => ?_)
          refine anyZ_free (i := 0) (oi := ?oi_35) (v := ?v_35) ?hi_35 ?hs_35 ?hf_35 ?hr_35 ?hQ_35 (Or.inl ⟨?hw_35, ?hy_35⟩) ?hrest_35
          case hi_35 => (simp only [List.getElem?_toArray, List.getElem?_cons_succ, List.getElem?_cons_zero]; exact rfl)
          case hs_35 => kernel_rfl
          case hf_35 => kernel_rfl
          case hr_35 => kernel_rfl
          case hQ_35 => exact fun _ _ _ h => h
          case hw_35 => rfl
          case hy_35 => (intro w _; go_simp; try with_reducible rfl)
          try simp only [Act.put, List.setIfInBounds_toArray, List.set_cons_zero, List.set_cons_succ]
          refine anyZ_take (i := 1) (oi := ?oi_36) (v := ?v_36) ?hi_36 ?hz_36 ?hs_36 ?hf_36 ?hr_36 ?hQ_36 (Or.inl ⟨?hw_36, ?hy_36⟩) ?hS_36 ?hrest_36
          case hi_36 => (simp only [List.getElem?_toArray, List.getElem?_cons_succ, List.getElem?_cons_zero]; exact rfl)
          case hz_36 => kernel_rfl
          case hs_36 => kernel_rfl
          case hf_36 => kernel_rfl
          case hr_36 => kernel_rfl
          case hQ_36 => exact fun _ _ _ h => h
          case hw_36 => rfl
          case hS_36 => assumption
          case hy_36 => (intro w hSw; (try dsimp only at hSw); go_simp; try with_reducible rfl)
          try simp only [Act.put, List.setIfInBounds_toArray, List.set_cons_zero, List.set_cons_succ]
          refine anyZ_free (i := 2) (oi := ?oi_37) (v := ?v_37) ?hi_37 ?hs_37 ?hf_37 ?hr_37 ?hQ_37 (Or.inl ⟨?hw_37, ?hy_37⟩) ?hrest_37
          case hi_37 => (simp only [List.getElem?_toArray, List.getElem?_cons_succ, List.getElem?_cons_zero]; exact rfl)
          case hs_37 => kernel_rfl
          case hf_37 => kernel_rfl
          case hr_37 => kernel_rfl
          case hQ_37 => exact fun _ _ _ h => h
          case hw_37 => rfl
          case hy_37 => (intro w _; go_simp; try with_reducible rfl)
          try simp only [Act.put, List.setIfInBounds_toArray, List.set_cons_zero, List.set_cons_succ]
          refine anyZ_free (i := 3) (oi := ?oi_38) (v := ?v_38) ?hi_38 ?hs_38 ?hf_38 ?hr_38 ?hQ_38 (Or.inl ⟨?hw_38, ?hy_38⟩) ?hrest_38
          case hi_38 => (simp only [List.getElem?_toArray, List.getElem?_cons_succ, List.getElem?_cons_zero]; exact rfl)
          case hs_38 => kernel_rfl
          case hf_38 => kernel_rfl
          case hr_38 => kernel_rfl
          case hQ_38 => exact fun _ _ _ h => h
          case hw_38 => rfl
          case hy_38 => (intro w _; go_simp; try with_reducible rfl)
          try simp only [Act.put, List.setIfInBounds_toArray, List.set_cons_zero, List.set_cons_succ]
          refine anyZ_free (i := 4) (oi := ?oi_39) (v := ?v_39) ?hi_39 ?hs_39 ?hf_39 ?hr_39 ?hQ_39 (Or.inl ⟨?hw_39, ?hy_39⟩) ?hrest_39
          case hi_39 => (simp only [List.getElem?_toArray, List.getElem?_cons_succ, List.getElem?_cons_zero]; exact rfl)
          case hs_39 => kernel_rfl
          case hf_39 => kernel_rfl
          case hr_39 => kernel_rfl
          case hQ_39 => exact fun _ _ _ h => h
          case hw_39 => rfl
          case hy_39 => (intro w _; go_simp; try with_reducible rfl)
          try simp only [Act.put, List.setIfInBounds_toArray, List.set_cons_zero, List.set_cons_succ]
          refine anyZ_take (i := 5) (oi := ?oi_40) (v := ?v_40) ?hi_40 ?hz_40 ?hs_40 ?hf_40 ?hr_40 ?hQ_40 (Or.inl ⟨?hw_40, ?hy_40⟩) ?hS_40 ?hrest_40
          case hi_40 => (simp only [List.getElem?_toArray, List.getElem?_cons_succ, List.getElem?_cons_zero]; exact rfl)
          case hz_40 => kernel_rfl
          case hs_40 => kernel_rfl
          case hf_40 => kernel_rfl
          case hr_40 => kernel_rfl
          case hQ_40 => exact fun _ _ _ h => h
          case hw_40 => rfl
          case hS_40 => assumption
          case hy_40 => (intro w hSw; (try dsimp only at hSw); go_simp; try with_reducible rfl)
          try simp only [Act.put, List.setIfInBounds_toArray, List.set_cons_zero, List.set_cons_succ]
          refine anyZ_free (i := 6) (oi := ?oi_41) (v := ?v_41) ?hi_41 ?hs_41 ?hf_41 ?hr_41 ?hQ_41 (Or.inl ⟨?hw_41, ?hy_41⟩) ?hrest_41
          case hi_41 => (simp only [List.getElem?_toArray, List.getElem?_cons_succ, List.getElem?_cons_zero]; exact rfl)
          case hs_41 => kernel_rfl
          case hf_41 => kernel_rfl
          case hr_41 => kernel_rfl
          case hQ_41 => exact fun _ _ _ h => h
          case hw_41 => rfl
          case hy_41 => (intro w _; go_simp; try with_reducible rfl)
          try simp only [Act.put, List.setIfInBounds_toArray, List.set_cons_zero, List.set_cons_succ]
          refine anyZ_take (i := 7) (oi := ?oi_42) (v := ?v_42) ?hi_42 ?hz_42 ?hs_42 ?hf_42 ?hr_42 ?hQ_42 (Or.inl ⟨?hw_42, ?hy_42⟩) ?hS_42 ?hrest_42
          case hi_42 => (simp only [List.getElem?_toArray, List.getElem?_cons_succ, List.getElem?_cons_zero]; exact rfl)
          case hz_42 => kernel_rfl
          case hs_42 => kernel_rfl
          case hf_42 => kernel_rfl
          case hr_42 => kernel_rfl
          case hQ_42 => exact fun _ _ _ h => h
          case hw_42 => rfl
          case hS_42 => assumption
          case hy_42 => (intro w hSw; (try dsimp only at hSw); go_simp; try with_reducible rfl)
          try simp only [Act.put, List.setIfInBounds_toArray, List.set_cons_zero, List.set_cons_succ]
          refine anyZ_ready (rs := [8]) (by kernel_rfl) (by simp) ?_
          refine (AllZ.cons (o := ?o_43) ?ho_43 (fun K hK => ?st_43) AllZ.nil)
          case ho_43 => (simp only [List.getElem?_toArray, List.getElem?_cons_succ, List.getElem?_cons_zero]; exact rfl)
          case st_43 =>
            go_simp
            (go_at_call 22; (with_reducible refine q0.mono ?_); rintro e w' ⟨rfl, rfl⟩)
            refine hK.out _ _ (by ((try dsimp only); (assumption))) (fun hHeld => ?_)
            clear hK K
            try simp only [Act.put, List.setIfInBounds_toArray, List.set_cons_zero, List.set_cons_succ]
            refine anyZ_free (i := 9) (oi := ?oi_44) (v := ?v_44) ?hi_44 ?hs_44 ?hf_44 ?hr_44 ?hQ_44 (Or.inl ⟨?hw_44, ?hy_44⟩) ?hrest_44
            case hi_44 => (simp only [List.getElem?_toArray, List.getElem?_cons_succ, List.getElem?_cons_zero]; exact rfl)
            case hs_44 => kernel_rfl
            case hf_44 => kernel_rfl
            case hr_44 => kernel_rfl
            case hQ_44 => exact fun _ _ _ h => h
            case hw_44 => rfl
            case hy_44 => (intro w _; go_simp; try with_reducible rfl)
            try simp only [Act.put, List.setIfInBounds_toArray, List.set_cons_zero, List.set_cons_succ]
            refine anyZ_free (i := 10) (oi := ?oi_45) (v := ?v_45) ?hi_45 ?hs_45 ?hf_45 ?hr_45 ?hQ_45 (Or.inl ⟨?hw_45, ?hy_45⟩) ?hrest_45
            case hi_45 => (simp only [List.getElem?_toArray, List.getElem?_cons_succ, List.getElem?_cons_zero]; exact rfl)
            case hs_45 => kernel_rfl
            case hf_45 => kernel_rfl
            case hr_45 => kernel_rfl
            case hQ_45 => exact fun _ _ _ h => h
            case hw_45 => rfl
            case hy_45 => (intro w _; go_simp; try with_reducible rfl)
            try simp only [Act.put, List.setIfInBounds_toArray, List.set_cons_zero, List.set_cons_succ]
            refine anyZ_free (i := 11) (oi := ?oi_46) (v := ?v_46) ?hi_46 ?hs_46 ?hf_46 ?hr_46 ?hQ_46 (Or.inl ⟨?hw_46, ?hy_46⟩) ?hrest_46
            case hi_46 => (simp only [List.getElem?_toArray, List.getElem?_cons_succ, List.getElem?_cons_zero]; exact rfl)
            case hs_46 => kernel_rfl
            case hf_46 => kernel_rfl
            case hr_46 => kernel_rfl
            case hQ_46 => exact fun _ _ _ h => h
            case hw_46 => rfl
            case hy_46 => (intro w _; go_simp; try with_reducible rfl)
            try simp only [Act.put, List.setIfInBounds_toArray, List.set_cons_zero, List.set_cons_succ]
            refine anyZ_take (i := 12) (oi := ?oi_47) (v := ?v_47) ?hi_47 ?hz_47 ?hs_47 ?hf_47 ?hr_47 ?hQ_47 (Or.inl ⟨?hw_47, ?hy_47⟩) ?hS_47 ?hrest_47
            case hi_47 => (simp only [List.getElem?_toArray, List.getElem?_cons_succ, List.getElem?_cons_zero]; exact rfl)
            case hz_47 => kernel_rfl
            case hs_47 => kernel_rfl
            case hf_47 => kernel_rfl
            case hr_47 => kernel_rfl
            case hQ_47 => exact fun _ _ _ h => h
            case hw_47 => rfl
            case hS_47 => assumption
            case hy_47 => (intro w hSw; (try dsimp only at hSw); go_simp; try with_reducible rfl)
            try simp only [Act.put, List.setIfInBounds_toArray, List.set_cons_zero, List.set_cons_succ]
            refine anyZ_free (i := 13) (oi := ?oi_48) (v := ?v_48) ?hi_48 ?hs_48 ?hf_48 ?hr_48 ?hQ_48 (Or.inl ⟨?hw_48, ?hy_48⟩) ?hrest_48
            case hi_48 => (simp only [List.getElem?_toArray, List.getElem?_cons_succ, List.getElem?_cons_zero]; exact rfl)
            case hs_48 => kernel_rfl
            case hf_48 => kernel_rfl
            case hr_48 => kernel_rfl
            case hQ_48 => exact fun _ _ _ h => h
            case hw_48 => rfl
            case hy_48 => (intro w _; go_simp; try with_reducible rfl)
            try simp only [Act.put, List.setIfInBounds_toArray, List.set_cons_zero, List.set_cons_succ]
            refine anyZ_free (i := 14) (oi := ?oi_49) (v := ?v_49) ?hi_49 ?hs_49 ?hf_49 ?hr_49 ?hQ_49 (Or.inl ⟨?hw_49, ?hy_49⟩) ?hrest_49
            case hi_49 => (simp only [List.getElem?_toArray, List.getElem?_cons_succ, List.getElem?_cons_zero]; exact rfl)
            case hs_49 => kernel_rfl
            case hf_49 => kernel_rfl
            case hr_49 => kernel_rfl
            case hQ_49 => exact fun _ _ _ h => h
            case hw_49 => rfl
            case hy_49 => (intro w _; go_simp; try with_reducible rfl)
            try simp only [Act.put, List.setIfInBounds_toArray, List.set_cons_zero, List.set_cons_succ]
            refine anyZ_free (i := 15) (oi := ?oi_50) (v := ?v_50) ?hi_50 ?hs_50 ?hf_50 ?hr_50 ?hQ_50 (Or.inl ⟨?hw_50, ?hy_50⟩) ?hrest_50
            case hi_50 => (simp only [List.getElem?_toArray, List.getElem?_cons_succ, List.getElem?_cons_zero]; exact rfl)
            case hs_50 => kernel_rfl
            case hf_50 => kernel_rfl
            case hr_50 => kernel_rfl
            case hQ_50 => exact fun _ _ _ h => h
            case hw_50 => rfl
            case hy_50 => (intro w _; go_simp; try with_reducible rfl)
            try simp only [Act.put, List.setIfInBounds_toArray, List.set_cons_zero, List.set_cons_succ]
            refine anyZ_take (i := 16) (oi := ?oi_51) (v := ?v_51) ?hi_51 ?hz_51 ?hs_51 ?hf_51 ?hr_51 ?hQ_51 (Or.inl ⟨?hw_51, ?hy_51⟩) ?hS_51 ?hrest_51
            case hi_51 => (simp only [List.getElem?_toArray, List.getElem?_cons_succ, List.getElem?_cons_zero]; exact rfl)
            case hz_51 => kernel_rfl
            case hs_51 => kernel_rfl
            case hf_51 => kernel_rfl
            case hr_51 => kernel_rfl
            case hQ_51 => exact fun _ _ _ h => h
            case hw_51 => rfl
            case hS_51 => assumption
            case hy_51 => (intro w hSw; (try dsimp only at hSw); go_simp; try with_reducible rfl)
            try simp only [Act.put, List.setIfInBounds_toArray, List.set_cons_zero, List.set_cons_succ]
            refine anyZ_free (i := 17) (oi := ?oi_52) (v := ?v_52) ?hi_52 ?hs_52 ?hf_52 ?hr_52 ?hQ_52 (Or.inl ⟨?hw_52, ?hy_52⟩) ?hrest_52
            case hi_52 => (simp only [List.getElem?_toArray, List.getElem?_cons_succ, List.getElem?_cons_zero]; exact rfl)
            case hs_52 => kernel_rfl
            case hf_52 => kernel_rfl
            case hr_52 => kernel_rfl
            case hQ_52 => exact fun _ _ _ h => h
            case hw_52 => rfl
            case hy_52 => (intro w _; go_simp; try with_reducible rfl)
            try simp only [Act.put, List.setIfInBounds_toArray, List.set_cons_zero, List.set_cons_succ]
            refine anyZ_take (i := 18) (oi := ?oi_53) (v := ?v_53) ?hi_53 ?hz_53 ?hs_53 ?hf_53 ?hr_53 ?hQ_53 (Or.inl ⟨?hw_53, ?hy_53⟩) ?hS_53 ?hrest_53
            case hi_53 => (simp only [List.getElem?_toArray, List.getElem?_cons_succ, List.getElem?_cons_zero]; exact rfl)
            case hz_53 => kernel_rfl
            case hs_53 => kernel_rfl
            case hf_53 => kernel_rfl
            case hr_53 => kernel_rfl
            case hQ_53 => exact fun _ _ _ h => h
            case hw_53 => rfl
            case hS_53 => assumption
            case hy_53 => (intro w hSw; (try dsimp only at hSw); go_simp; try with_reducible rfl)
            try simp only [Act.put, List.setIfInBounds_toArray, List.set_cons_zero, List.set_cons_succ]
            refine anyZ_ready (rs := [19]) (by kernel_rfl) (by simp) ?_
            refine (AllZ.cons (o := ?o_54) ?ho_54 (fun K hK => ?st_54) AllZ.nil)
            case ho_54 => (simp only [List.getElem?_toArray, List.getElem?_cons_succ, List.getElem?_cons_zero]; exact rfl)
            case st_54 =>
              go_simp
              (go_at_call 22; (with_reducible refine q1.mono ?_); rintro e w' ⟨rfl, rfl⟩)
              refine hK.out _ _ (by ((try dsimp only); (assumption))) (fun hHeld => ?_)
              clear hK K
              try simp only [Act.put, List.setIfInBounds_toArray, List.set_cons_zero, List.set_cons_succ]
              refine anyZ_free (i := 20) (oi := ?oi_55) (v := ?v_55) ?hi_55 ?hs_55 ?hf_55 ?hr_55 ?hQ_55 (Or.inl ⟨?hw_55, ?hy_55⟩) ?hrest_55
              case hi_55 => (simp only [List.getElem?_toArray, List.getElem?_cons_succ, List.getElem?_cons_zero]; exact rfl)
              case hs_55 => kernel_rfl
              case hf_55 => kernel_rfl
              case hr_55 => kernel_rfl
              case hQ_55 => exact fun _ _ _ h => h
              case hw_55 => rfl
              case hy_55 => (intro w _; go_simp; try with_reducible rfl)
              try simp only [Act.put, List.setIfInBounds_toArray, List.set_cons_zero, List.set_cons_succ]
              refine anyZ_free (i := 21) (oi := ?oi_56) (v := ?v_56) ?hi_56 ?hs_56 ?hf_56 ?hr_56 ?hQ_56 (Or.inl ⟨?hw_56, ?hy_56⟩) ?hrest_56
              case hi_56 => (simp only [List.getElem?_toArray, List.getElem?_cons_succ, List.getElem?_cons_zero]; exact rfl)
              case hs_56 => kernel_rfl
              case hf_56 => kernel_rfl
              case hr_56 => kernel_rfl
              case hQ_56 => exact fun _ _ _ h => h
              case hw_56 => rfl
              case hy_56 => (intro w _; go_simp; try with_reducible rfl)
              try simp only [Act.put, List.setIfInBounds_toArray, List.set_cons_zero, List.set_cons_succ]
              refine anyZ_free (i := 22) (oi := ?oi_57) (v := ?v_57) ?hi_57 ?hs_57 ?hf_57 ?hr_57 ?hQ_57 (Or.inl ⟨?hw_57, ?hy_57⟩) ?hrest_57
              case hi_57 => (simp only [List.getElem?_toArray, List.getElem?_cons_succ, List.getElem?_cons_zero]; exact rfl)
              case hs_57 => kernel_rfl
              case hf_57 => kernel_rfl
              case hr_57 => kernel_rfl
              case hQ_57 => exact fun _ _ _ h => h
              case hw_57 => rfl
              case hy_57 => (intro w _; go_simp; try with_reducible rfl)
              try simp only [Act.put, List.setIfInBounds_toArray, List.set_cons_zero, List.set_cons_succ]
              refine anyZ_free (i := 23) (oi := ?oi_58) (v := undef) ?hi_58 ?hs_58 ?hf_58 ?hr_58 ?hQ_58 (Or.inr ⟨?hw_58, rfl⟩) ?hrest_58
              case hi_58 => (simp only [List.getElem?_toArray, List.getElem?_cons_succ, List.getElem?_cons_zero]; exact rfl)
              case hs_58 => kernel_rfl
              case hf_58 => kernel_rfl
              case hr_58 => kernel_rfl
              case hQ_58 => exact fun _ _ _ h => h
              case hw_58 => rfl
              try simp only [Act.put, List.setIfInBounds_toArray, List.set_cons_zero, List.set_cons_succ]
              refine anyZ_free (i := 24) (oi := ?oi_59) (v := undef) ?hi_59 ?hs_59 ?hf_59 ?hr_59 ?hQ_59 (Or.inr ⟨?hw_59, rfl⟩) ?hrest_59
              case hi_59 => (simp only [List.getElem?_toArray, List.getElem?_cons_succ, List.getElem?_cons_zero]; exact rfl)
              case hs_59 => kernel_rfl
              case hf_59 => kernel_rfl
              case hr_59 => kernel_rfl
              case hQ_59 => exact fun _ _ _ h => h
              case hw_59 => rfl
              try simp only [Act.put, List.setIfInBounds_toArray, List.set_cons_zero, List.set_cons_succ]
              refine anyZ_free (i := 25) (oi := ?oi_60) (v := undef) ?hi_60 ?hs_60 ?hf_60 ?hr_60 ?hQ_60 (Or.inr ⟨?hw_60, rfl⟩) ?hrest_60
              case hi_60 => (simp only [List.getElem?_toArray, List.getElem?_cons_succ, List.getElem?_cons_zero]; exact rfl)
              case hs_60 => kernel_rfl
              case hf_60 => kernel_rfl
              case hr_60 => kernel_rfl
              case hQ_60 => exact fun _ _ _ h => h
              case hw_60 => rfl
              try simp only [Act.put, List.setIfInBounds_toArray, List.set_cons_zero, List.set_cons_succ]
              refine anyZ_free (i := 26) (oi := ?oi_61) (v := undef) ?hi_61 ?hs_61 ?hf_61 ?hr_61 ?hQ_61 (Or.inr ⟨?hw_61, rfl⟩) ?hrest_61
              case hi_61 => (simp only [List.getElem?_toArray, List.getElem?_cons_succ, List.getElem?_cons_zero]; exact rfl)
              case hs_61 => kernel_rfl
              case hf_61 => kernel_rfl
              case hr_61 => kernel_rfl
              case hQ_61 => exact fun _ _ _ h => h
              case hw_61 => rfl
              try simp only [Act.put, List.setIfInBounds_toArray, List.set_cons_zero, List.set_cons_succ]
              refine anyZ_free (i := 27) (oi := ?oi_62) (v := undef) ?hi_62 ?hs_62 ?hf_62 ?hr_62 ?hQ_62 (Or.inr ⟨?hw_62, rfl⟩) ?hrest_62
              case hi_62 => (simp only [List.getElem?_toArray, List.getElem?_cons_succ, List.getElem?_cons_zero]; exact rfl)
              case hs_62 => kernel_rfl
              case hf_62 => kernel_rfl
              case hr_62 => kernel_rfl
              case hQ_62 => exact fun _ _ _ h => h
              case hw_62 => rfl
              try simp only [Act.put, List.setIfInBounds_toArray, List.set_cons_zero, List.set_cons_succ]
              refine anyZ_free (i := 28) (oi := ?oi_63) (v := undef) ?hi_63 ?hs_63 ?hf_63 ?hr_63 ?hQ_63 (Or.inr ⟨?hw_63, rfl⟩) ?hrest_63
              case hi_63 => (simp only [List.getElem?_toArray, List.getElem?_cons_succ, List.getElem?_cons_zero]; exact rfl)
              case hs_63 => kernel_rfl
              case hf_63 => kernel_rfl
              case hr_63 => kernel_rfl
              case hQ_63 => exact fun _ _ _ h => h
              case hw_63 => rfl
              try simp only [Act.put, List.setIfInBounds_toArray, List.set_cons_zero, List.set_cons_succ]
              refine anyZ_free (i := 29) (oi := ?oi_64) (v := undef) ?hi_64 ?hs_64 ?hf_64 ?hr_64 ?hQ_64 (Or.inr ⟨?hw_64, rfl⟩) ?hrest_64
              case hi_64 => (simp only [List.getElem?_toArray, List.getElem?_cons_succ, List.getElem?_cons_zero]; exact rfl)
              case hs_64 => kernel_rfl
              case hf_64 => kernel_rfl
              case hr_64 => kernel_rfl
              case hQ_64 => exact fun _ _ _ h => h
              case hw_64 => rfl
              try simp only [Act.put, List.setIfInBounds_toArray, List.set_cons_zero, List.set_cons_succ]
              refine anyZ_free (i := 30) (oi := ?oi_65) (v := undef) ?hi_65 ?hs_65 ?hf_65 ?hr_65 ?hQ_65 (Or.inr ⟨?hw_65, rfl⟩) ?hrest_65
              case hi_65 => (simp only [List.getElem?_toArray, List.getElem?_cons_succ, List.getElem?_cons_zero]; exact rfl)
              case hs_65 => kernel_rfl
              case hf_65 => kernel_rfl
              case hr_65 => kernel_rfl
              case hQ_65 => exact fun _ _ _ h => h
              case hw_65 => rfl
              try simp only [Act.put, List.setIfInBounds_toArray, List.set_cons_zero, List.set_cons_succ]
              refine anyZ_free (i := 31) (oi := ?oi_66) (v := undef) ?hi_66 ?hs_66 ?hf_66 ?hr_66 ?hQ_66 (Or.inr ⟨?hw_66, rfl⟩) ?hrest_66
              case hi_66 => (simp only [List.getElem?_toArray, List.getElem?_cons_succ, List.getElem?_cons_zero]; exact rfl)
              case hs_66 => kernel_rfl
              case hf_66 => kernel_rfl
              case hr_66 => kernel_rfl
              case hQ_66 => exact fun _ _ _ h => h
              case hw_66 => rfl
              try simp only [Act.put, List.setIfInBounds_toArray, List.set_cons_zero, List.set_cons_succ]
              refine anyZ_free (i := 32) (oi := ?oi_67) (v := undef) ?hi_67 ?hs_67 ?hf_67 ?hr_67 ?hQ_67 (Or.inr ⟨?hw_67, rfl⟩) ?hrest_67
              case hi_67 => (simp only [List.getElem?_toArray, List.getElem?_cons_succ, List.getElem?_cons_zero]; exact rfl)
              case hs_67 => kernel_rfl
              case hf_67 => kernel_rfl
              case hr_67 => kernel_rfl
              case hQ_67 => exact fun _ _ _ h => h
              case hw_67 => rfl
              try simp only [Act.put, List.setIfInBounds_toArray, List.set_cons_zero, List.set_cons_succ]
              refine anyZ_free (i := 33) (oi := ?oi_68) (v := ?v_68) ?hi_68 ?hs_68 ?hf_68 ?hr_68 ?hQ_68 (Or.inl ⟨?hw_68, ?hy_68⟩) ?hrest_68
              case hi_68 => (simp only [List.getElem?_toArray, List.getElem?_cons_succ, List.getElem?_cons_zero]; exact rfl)
              case hs_68 => kernel_rfl
              case hf_68 => kernel_rfl
              case hr_68 => kernel_rfl
              case hQ_68 => exact fun _ _ _ h => h
              case hw_68 => rfl
              case hy_68 => (intro w _; go_simp; try with_reducible rfl)
              try simp only [Act.put, List.setIfInBounds_toArray, List.set_cons_zero, List.set_cons_succ]
              refine anyZ_done (by kernel_rfl) ?_ _
              refine NoPanic.normal ?_
              go_wp2
              go_ret
              exact ⟨rfl, by (repeat' (first | (with_reducible first | exact Below.refl _ _ | assumption | refine Below.alloc ?_ ?_ _ | refine Below.drew ?_ | refine below_drewN ?_ _ | refine Below.setCell ?_ ?_ _ | refine below_via (by with_reducible assumption) ?_ ?_) | omega | (simp only [szs]; omega) | (simp only [szs] at *; omega)))⟩
        | true =>
          rw [b1] at q1
          cases b2 : soundB vars (R i 2) with
          | false =>
            rw [b2] at q2
            obtain rfl := hdec.out (by rw [b0, b1, b2]; rfl)
            clear hdec hstep
            refine wp_region_noPanic ?_
            refine region_lastly (S := (fun w' => (w'.cell? ⟨w.heap.size, 0, none⟩ = some (.int .i64 vars) ∧ w'.cell? ⟨w.heap.size, 2, none⟩ = some (.slice (some ⟨b, off, none⟩) m c)) ∧ w'.cell? ⟨b, off + i * 3, none⟩ = some (.slice (R i 0).ad (R i 0).n (R i 0).c) ∧ w'.cell? ⟨b, off + i * 3 + 1, none⟩ = some (.slice (R i 1).ad (R i 1).n (R i 1).c) ∧ w'.cell? ⟨b, off + i * 3 + 2, none⟩ = some (.slice (R i 2).ad (R i 2).n (R i 2).c))) [] (by kernel_rfl) (by ((try dsimp only); (assumption))) (fun hHeld => ?_)
            refine anyZ_free (i := 0) (oi := ?oi_69) (v := ?v_69) ?hi_69 ?hs_69 ?hf_69 ?hr_69 ?hQ_69 (Or.inl ⟨?hw_69, ?hy_69⟩) ?hrest_69
            case hi_69 => (simp only [List.getElem?_toArray, List.getElem?_cons_succ, List.getElem?_cons_zero]; exact rfl)
            case hs_69 => kernel_rfl
            case hf_69 => kernel_rfl
            case hr_69 => kernel_rfl
            case hQ_69 => exact fun _ _ _ h => h
            case hw_69 => rfl
            case hy_69 => (intro w _; go_simp; try with_reducible rfl)
            try simp only [Act.put, List.setIfInBounds_toArray, List.set_cons_zero, List.set_cons_succ]
            refine anyZ_take (i := 1) (oi := ?oi_70) (v := ?v_70) ?hi_70 ?hz_70 ?hs_70 ?hf_70 ?hr_70 ?hQ_70 (Or.inl ⟨?hw_70, ?hy_70⟩) ?hS_70 ?hrest_70
            case hi_70 => (simp only [List.getElem?_toArray, List.getElem?_cons_succ, List.getElem?_cons_zero]; exact rfl)
            case hz_70 => kernel_rfl
            case hs_70 => kernel_rfl
            case hf_70 => kernel_rfl
            case hr_70 => kernel_rfl
            case hQ_70 => exact fun _ _ _ h => h
            case hw_70 => rfl
            case hS_70 => assumption
            case hy_70 => (intro w hSw; (try dsimp only at hSw); go_simp; try with_reducible rfl)
            try simp only [Act.put, List.setIfInBounds_toArray, List.set_cons_zero, List.set_cons_succ]
            refine anyZ_free (i := 2) (oi := ?oi_71) (v := ?v_71) ?hi_71 ?hs_71 ?hf_71 ?hr_71 ?hQ_71 (Or.inl ⟨?hw_71, ?hy_71⟩) ?hrest_71
            case hi_71 => (simp only [List.getElem?_toArray, List.getElem?_cons_succ, List.getElem?_cons_zero]; exact rfl)
            case hs_71 => kernel_rfl
            case hf_71 => kernel_rfl
            case hr_71 => kernel_rfl
            case hQ_71 => exact fun _ _ _ h => h
            case hw_71 => rfl
            case hy_71 => (intro w _; go_simp; try with_reducible rfl)
            try simp only [Act.put, List.setIfInBounds_toArray, List.set_cons_zero, List.set_cons_succ]
            refine anyZ_free (i := 3) (oi := ?oi_72) (v := ?v_72) ?hi_72 ?hs_72 ?hf_72 ?hr_72 ?hQ_72 (Or.inl ⟨?hw_72, ?hy_72⟩) ?hrest_72
            case hi_72 => (simp only [List.getElem?_toArray, List.getElem?_cons_succ, List.getElem?_cons_zero]; exact rfl)
            case hs_72 => kernel_rfl
            case hf_72 => kernel_rfl
            case hr_72 => kernel_rfl
            case hQ_72 => exact fun _ _ _ h => h
            case hw_72 => rfl
            case hy_72 => (intro w _; go_simp; try with_reducible rfl)
            try simp only [Act.put, List.setIfInBounds_toArray, List.set_cons_zero, List.set_cons_succ]
            refine anyZ_free (i := 4) (oi := ?oi_73) (v := ?v_73) ?hi_73 ?hs_73 ?hf_73 ?hr_73 ?hQ_73 (Or.inl ⟨?hw_73, ?hy_73⟩) ?hrest_73
            case hi_73 => (simp only [List.getElem?_toArray, List.getElem?_cons_succ, List.getElem?_cons_zero]; exact rfl)
            case hs_73 => kernel_rfl
            case hf_73 => kernel_rfl
            case hr_73 => kernel_rfl
            case hQ_73 => exact fun _ _ _ h => h
            case hw_73 => rfl
            case hy_73 => (intro w _; go_simp; try with_reducible rfl)
            try simp only [Act.put, List.setIfInBounds_toArray, List.set_cons_zero, List.set_cons_succ]
            refine anyZ_take (i := 5) (oi := ?oi_74) (v := ?v_74) ?hi_74 ?hz_74 ?hs_74 ?hf_74 ?hr_74 ?hQ_74 (Or.inl ⟨?hw_74, ?hy_74⟩) ?hS_74 ?hrest_74
            case hi_74 => (simp only [List.getElem?_toArray, List.getElem?_cons_succ, List.getElem?_cons_zero]; exact rfl)
            case hz_74 => kernel_rfl
            case hs_74 => kernel_rfl
            case hf_74 => kernel_rfl
            case hr_74 => kernel_rfl
            case hQ_74 => exact fun _ _ _ h => h
            case hw_74 => rfl
            case hS_74 => assumption
            case hy_74 => (intro w hSw; (try dsimp only at hSw); go_simp; try with_reducible rfl)
            try simp only [Act.put, List.setIfInBounds_toArray, List.set_cons_zero, List.set_cons_succ]
            refine anyZ_free (i := 6) (oi := ?oi_75) (v := ?v_75) ?hi_75 ?hs_75 ?hf_75 ?hr_75 ?hQ_75 (Or.inl ⟨?hw_75, ?hy_75⟩) ?hrest_75
            case hi_75 => (simp only [List.getElem?_toArray, List.getElem?_cons_succ, List.getElem?_cons_zero]; exact rfl)
            case hs_75 => kernel_rfl
            case hf_75 => kernel_rfl
            case hr_75 => kernel_rfl
            case hQ_75 => exact fun _ _ _ h => h
            case hw_75 => rfl
            case hy_75 => (intro w _; go_simp; try with_reducible rfl)
            try simp only [Act.put, List.setIfInBounds_toArray, List.set_cons_zero, List.set_cons_succ]
            refine anyZ_take (i := 7) (oi := ?oi_76) (v := ?v_76) ?hi_76 ?hz_76 ?hs_76 ?hf_76 ?hr_76 ?hQ_76 (Or.inl ⟨?hw_76, ?hy_76⟩) ?hS_76 ?hrest_76
            case hi_76 => (simp only [List.getElem?_toArray, List.getElem?_cons_succ, List.getElem?_cons_zero]; exact rfl)
            case hz_76 => kernel_rfl
            case hs_76 => kernel_rfl
            case hf_76 => kernel_rfl
            case hr_76 => kernel_rfl
            case hQ_76 => exact fun _ _ _ h => h
            case hw_76 => rfl
            case hS_76 => assumption
            case hy_76 => (intro w hSw; (try dsimp only at hSw); go_simp; try with_reducible rfl)
            try simp only [Act.put, List.setIfInBounds_toArray, List.set_cons_zero, List.set_cons_succ]
            refine anyZ_ready (rs := [8]) (by kernel_rfl) (by simp) ?_
            refine (AllZ.cons (o := ?o_77) ?ho_77 (fun K hK => ?st_77) AllZ.nil)
            case ho_77 => (simp only [List.getElem?_toArray, List.getElem?_cons_succ, List.getElem?_cons_zero]; exact rfl)
            case st_77 =>
              go_simp
              (go_at_call 22; (with_reducible refine q0.mono ?_); rintro e w' ⟨rfl, rfl⟩)
              refine hK.out _ _ (by ((try dsimp only); (assumption))) (fun hHeld => ?_)
              clear hK K
              try simp only [Act.put, List.setIfInBounds_toArray, List.set_cons_zero, List.set_cons_succ]
              refine anyZ_free (i := 9) (oi := ?oi_78) (v := ?v_78) ?hi_78 ?hs_78 ?hf_78 ?hr_78 ?hQ_78 (Or.inl ⟨?hw_78, ?hy_78⟩) ?hrest_78
              case hi_78 => (simp only [List.getElem?_toArray, List.getElem?_cons_succ, List.getElem?_cons_zero]; exact rfl)
              case hs_78 => kernel_rfl
              case hf_78 => kernel_rfl
              case hr_78 => kernel_rfl
              case hQ_78 => exact fun _ _ _ h => h
              case hw_78 => rfl
              case hy_78 => (intro w _; go_simp; try with_reducible rfl)
              try simp only [Act.put, List.setIfInBounds_toArray, List.set_cons_zero, List.set_cons_succ]
              refine anyZ_free (i := 10) (oi := ?oi_79) (v := ?v_79) ?hi_79 ?hs_79 ?hf_79 ?hr_79 ?hQ_79 (Or.inl ⟨?hw_79, ?hy_79⟩) ?hrest_79
              case hi_79 => (simp only [List.getElem?_toArray, List.getElem?_cons_succ, List.getElem?_cons_zero]; exact rfl)
              case hs_79 => kernel_rfl
              case hf_79 => kernel_rfl
              case hr_79 => kernel_rfl
              case hQ_79 => exact fun _ _ _ h => h
              case hw_79 => rfl
              case hy_79 => (intro w _; go_simp; try with_reducible rfl)
              try simp only [Act.put, List.setIfInBounds_toArray, List.set_cons_zero, List.set_cons_succ]
              refine anyZ_free (i := 11) (oi := ?oi_80) (v := ?v_80) ?hi_80 ?hs_80 ?hf_80 ?hr_80 ?hQ_80 (Or.inl ⟨?hw_80, ?hy_80⟩) ?hrest_80
              case hi_80 => (simp only [List.getElem?_toArray, List.getElem?_cons_succ, List.getElem?_cons_zero]; exact rfl)
              case hs_80 => kernel_rfl
              case hf_80 => kernel_rfl
              case hr_80 => kernel_rfl
              case hQ_80 => exact fun _ _ _ h => h
              case hw_80 => rfl
              case hy_80 => (intro w _; go_simp; try with_reducible rfl)
              try simp only [Act.put, List.setIfInBounds_toArray, List.set_cons_zero, List.set_cons_succ]
              refine anyZ_take (i := 12) (oi := ?oi_81) (v := ?v_81) ?hi_81 ?hz_81 ?hs_81 ?hf_81 ?hr_81 ?hQ_81 (Or.inl ⟨?hw_81, ?hy_81⟩) ?hS_81 ?hrest_81
              case hi_81 => (simp only [List.getElem?_toArray, List.getElem?_cons_succ, List.getElem?_cons_zero]; exact rfl)
              case hz_81 => kernel_rfl
              case hs_81 => kernel_rfl
              case hf_81 => kernel_rfl
              case hr_81 => kernel_rfl
              case hQ_81 => exact fun _ _ _ h => h
              case hw_81 => rfl
              case hS_81 => assumption
              case hy_81 => (intro w hSw; (try dsimp only at hSw); go_simp; try with_reducible rfl)
              try simp only [Act.put, List.setIfInBounds_toArray, List.set_cons_zero, List.set_cons_succ]
              refine anyZ_free (i := 13) (oi := ?oi_82) (v := ?v_82) ?hi_82 ?hs_82 ?hf_82 ?hr_82 ?hQ_82 (Or.inl ⟨?hw_82, ?hy_82⟩) ?hrest_82
              case hi_82 => (simp only [List.getElem?_toArray, List.getElem?_cons_succ, List.getElem?_cons_zero]; exact rfl)
              case hs_82 => kernel_rfl
              case hf_82 => kernel_rfl
              case hr_82 => kernel_rfl
              case hQ_82 => exact fun _ _ _ h => h
              case hw_82 => rfl
              case hy_82 => (intro w _; go_simp; try with_reducible rfl)
              try simp only [Act.put, List.setIfInBounds_toArray, List.set_cons_zero, List.set_cons_succ]
              refine anyZ_free (i := 14) (oi := ?oi_83) (v := ?v_83) ?hi_83 ?hs_83 ?hf_83 ?hr_83 ?hQ_83 (Or.inl ⟨?hw_83, ?hy_83⟩) ?hrest_83
              case hi_83 => (simp only [List.getElem?_toArray, List.getElem?_cons_succ, List.getElem?_cons_zero]; exact rfl)
              case hs_83 => kernel_rfl
              case hf_83 => kernel_rfl
              case hr_83 => kernel_rfl
              case hQ_83 => exact fun _ _ _ h => h
              case hw_83 => rfl
              case hy_83 => (intro w _; go_simp; try with_reducible rfl)
              try simp only [Act.put, List.setIfInBounds_toArray, List.set_cons_zero, List.set_cons_succ]
              refine anyZ_free (i := 15) (oi := ?oi_84) (v := ?v_84) ?hi_84 ?hs_84 ?hf_84 ?hr_84 ?hQ_84 (Or.inl ⟨?hw_84, ?hy_84⟩) ?hrest_84
              case hi_84 => (simp only [List.getElem?_toArray, List.getElem?_cons_succ, List.getElem?_cons_zero]; exact rfl)
              case hs_84 => kernel_rfl
              case hf_84 => kernel_rfl
              case hr_84 => kernel_rfl
              case hQ_84 => exact fun _ _ _ h => h
              case hw_84 => rfl
              case hy_84 => (intro w _; go_simp; try with_reducible rfl)
              try simp only [Act.put, List.setIfInBounds_toArray, List.set_cons_zero, List.set_cons_succ]
              refine anyZ_take (i := 16) (oi := ?oi_85) (v := ?v_85) ?hi_85 ?hz_85 ?hs_85 ?hf_85 ?hr_85 ?hQ_85 (Or.inl ⟨?hw_85, ?hy_85⟩) ?hS_85 ?hrest_85
              case hi_85 => (simp only [List.getElem?_toArray, List.getElem?_cons_succ, List.getElem?_cons_zero]; exact rfl)
              case hz_85 => kernel_rfl
              case hs_85 => kernel_rfl
              case hf_85 => kernel_rfl
              case hr_85 => kernel_rfl
              case hQ_85 => exact fun _ _ _ h => h
              case hw_85 => rfl
              case hS_85 => assumption
              case hy_85 => (intro w hSw; (try dsimp only at hSw); go_simp; try with_reducible rfl)
              try simp only [Act.put, List.setIfInBounds_toArray, List.set_cons_zero, List.set_cons_succ]
              refine anyZ_free (i := 17) (oi := ?oi_86) (v := ?v_86) ?hi_86 ?hs_86 ?hf_86 ?hr_86 ?hQ_86 (Or.inl ⟨?hw_86, ?hy_86⟩) ?hrest_86
              case hi_86 => (simp only [List.getElem?_toArray, List.getElem?_cons_succ, List.getElem?_cons_zero]; exact rfl)
              case hs_86 => kernel_rfl
              case hf_86 => kernel_rfl
              case hr_86 => kernel_rfl
              case hQ_86 => exact fun _ _ _ h => h
              case hw_86 => rfl
              case hy_86 => (intro w _; go_simp; try with_reducible rfl)
              try simp only [Act.put, List.setIfInBounds_toArray, List.set_cons_zero, List.set_cons_succ]
              refine anyZ_take (i := 18) (oi := ?oi_87) (v := ?v_87) ?hi_87 ?hz_87 ?hs_87 ?hf_87 ?hr_87 ?hQ_87 (Or.inl ⟨?hw_87, ?hy_87⟩) ?hS_87 ?hrest_87
              case hi_87 => (simp only [List.getElem?_toArray, List.getElem?_cons_succ, List.getElem?_cons_zero]; exact rfl)
              case hz_87 => kernel_rfl
              case hs_87 => kernel_rfl
              case hf_87 => kernel_rfl
              case hr_87 => kernel_rfl
              case hQ_87 => exact fun _ _ _ h => h
              case hw_87 => rfl
              case hS_87 => assumption
              case hy_87 => (intro w hSw; (try dsimp only at hSw); go_simp; try with_reducible rfl)
              try simp only [Act.put, List.setIfInBounds_toArray, List.set_cons_zero, List.set_cons_succ]
              refine anyZ_ready (rs := [19]) (by kernel_rfl) (by simp) ?_
              refine (AllZ.cons (o := ?o_88) ?ho_88 (fun K hK => ?st_88) AllZ.nil)
              case ho_88 => (simp only [List.getElem?_toArray, List.getElem?_cons_succ, List.getElem?_cons_zero]; exact rfl)
              case st_88 =>
                go_simp
                (go_at_call 22; (with_reducible refine q1.mono ?_); rintro e w' ⟨rfl, rfl⟩)
                refine hK.out _ _ (by ((try dsimp only); (assumption))) (fun hHeld => ?_)
                clear hK K
                try simp only [Act.put, List.setIfInBounds_toArray, List.set_cons_zero, List.set_cons_succ]
                refine anyZ_free (i := 20) (oi := ?oi_89) (v := ?v_89) ?hi_89 ?hs_89 ?hf_89 ?hr_89 ?hQ_89 (Or.inl ⟨?hw_89, ?hy_89⟩) ?hrest_89
                case hi_89 => (simp only [List.getElem?_toArray, List.getElem?_cons_succ, List.getElem?_cons_zero]; exact rfl)
                case hs_89 => kernel_rfl
                case hf_89 => kernel_rfl
                case hr_89 => kernel_rfl
                case hQ_89 => exact fun _ _ _ h => h
                case hw_89 => rfl
                case hy_89 => (intro w _; go_simp; try with_reducible rfl)
                try simp only [Act.put, List.setIfInBounds_toArray, List.set_cons_zero, List.set_cons_succ]
                refine anyZ_free (i := 21) (oi := ?oi_90) (v := ?v_90) ?hi_90 ?hs_90 ?hf_90 ?hr_90 ?hQ_90 (Or.inl ⟨?hw_90, ?hy_90⟩) ?hrest_90
                case hi_90 => (simp only [List.getElem?_toArray, List.getElem?_cons_succ, List.getElem?_cons_zero]; exact rfl)
                case hs_90 => kernel_rfl
                case hf_90 => kernel_rfl
                case hr_90 => kernel_rfl
                case hQ_90 => exact fun _ _ _ h => h
                case hw_90 => rfl
                case hy_90 => (intro w _; go_simp; try with_reducible rfl)
                try simp only [Act.put, List.setIfInBounds_toArray, List.set_cons_zero, List.set_cons_succ]
                refine anyZ_free (i := 22) (oi := ?oi_91) (v := ?v_91) ?hi_91 ?hs_91 ?hf_91 ?hr_91 ?hQ_91 (Or.inl ⟨?hw_91, ?hy_91⟩) ?hrest_91
                case hi_91 => (simp only [List.getElem?_toArray, List.getElem?_cons_succ, List.getElem?_cons_zero]; exact rfl)
                case hs_91 => kernel_rfl
                case hf_91 => kernel_rfl
                case hr_91 => kernel_rfl
                case hQ_91 => exact fun _ _ _ h => h
                case hw_91 => rfl
                case hy_91 => (intro w _; go_simp; try with_reducible rfl)
                try simp only [Act.put, List.setIfInBounds_toArray, List.set_cons_zero, List.set_cons_succ]
                refine anyZ_free (i := 23) (oi := ?oi_92) (v := ?v_92) ?hi_92 ?hs_92 ?hf_92 ?hr_92 ?hQ_92 (Or.inl ⟨?hw_92, ?hy_92⟩) ?hrest_92
                case hi_92 => (simp only [List.getElem?_toArray, List.getElem?_cons_succ, List.getElem?_cons_zero]; exact rfl)
                case hs_92 => kernel_rfl
                case hf_92 => kernel_rfl
                case hr_92 => kernel_rfl
                case hQ_92 => exact fun _ _ _ h => h
                case hw_92 => rfl
                case hy_92 => (intro w _; go_simp; try with_reducible rfl)
                try simp only [Act.put, List.setIfInBounds_toArray, List.set_cons_zero, List.set_cons_succ]
                refine anyZ_take (i := 24) (oi := ?oi_93) (v := ?v_93) ?hi_93 ?hz_93 ?hs_93 ?hf_93 ?hr_93 ?hQ_93 (Or.inl ⟨?hw_93, ?hy_93⟩) ?hS_93 ?hrest_93
                case hi_93 => (simp only [List.getElem?_toArray, List.getElem?_cons_succ, List.getElem?_cons_zero]; exact rfl)
                case hz_93 => kernel_rfl
                case hs_93 => kernel_rfl
                case hf_93 => kernel_rfl
                case hr_93 => kernel_rfl
                case hQ_93 => exact fun _ _ _ h => h
                case hw_93 => rfl
                case hS_93 => assumption
                case hy_93 => (intro w hSw; (try dsimp only at hSw); go_simp; try with_reducible rfl)
                try simp only [Act.put, List.setIfInBounds_toArray, List.set_cons_zero, List.set_cons_succ]
                refine anyZ_free (i := 25) (oi := ?oi_94) (v := ?v_94) ?hi_94 ?hs_94 ?hf_94 ?hr_94 ?hQ_94 (Or.inl ⟨?hw_94, ?hy_94⟩) ?hrest_94
                case hi_94 => (simp only [List.getElem?_toArray, List.getElem?_cons_succ, List.getElem?_cons_zero]; exact rfl)
                case hs_94 => kernel_rfl
                case hf_94 => kernel_rfl
                case hr_94 => kernel_rfl
                case hQ_94 => exact fun _ _ _ h => h
                case hw_94 => rfl
                case hy_94 => (intro w _; go_simp; try with_reducible rfl)
                try simp only [Act.put, List.setIfInBounds_toArray, List.set_cons_zero, List.set_cons_succ]
                refine anyZ_free (i := 26) (oi := ?oi_95) (v := ?v_95) ?hi_95 ?hs_95 ?hf_95 ?hr_95 ?hQ_95 (Or.inl ⟨?hw_95, ?hy_95⟩) ?hrest_95
                case hi_95 => (simp only [List.getElem?_toArray, List.getElem?_cons_succ, List.getElem?_cons_zero]; exact rfl)
                case hs_95 => kernel_rfl
                case hf_95 => kernel_rfl
                case hr_95 => kernel_rfl
                case hQ_95 => exact fun _ _ _ h => h
                case hw_95 => rfl
                case hy_95 => (intro w _; go_simp; try with_reducible rfl)
                try simp only [Act.put, List.setIfInBounds_toArray, List.set_cons_zero, List.set_cons_succ]
                refine anyZ_free (i := 27) (oi := ?oi_96) (v := ?v_96) ?hi_96 ?hs_96 ?hf_96 ?hr_96 ?hQ_96 (Or.inl ⟨?hw_96, ?hy_96⟩) ?hrest_96
                case hi_96 => (simp only [List.getElem?_toArray, List.getElem?_cons_succ, List.getElem?_cons_zero]; exact rfl)
                case hs_96 => kernel_rfl
                case hf_96 => kernel_rfl
                case hr_96 => kernel_rfl
                case hQ_96 => exact fun _ _ _ h => h
                case hw_96 => rfl
                case hy_96 => (intro w _; go_simp; try with_reducible rfl)
                try simp only [Act.put, List.setIfInBounds_toArray, List.set_cons_zero, List.set_cons_succ]
                refine anyZ_take (i := 28) (oi := ?oi_97) (v := ?v_97) ?hi_97 ?hz_97 ?hs_97 ?hf_97 ?hr_97 ?hQ_97 (Or.inl ⟨?hw_97, ?hy_97⟩) ?hS_97 ?hrest_97
                case hi_97 => (simp only [List.getElem?_toArray, List.getElem?_cons_succ, List.getElem?_cons_zero]; exact rfl)
                case hz_97 => kernel_rfl
                case hs_97 => kernel_rfl
                case hf_97 => kernel_rfl
                case hr_97 => kernel_rfl
                case hQ_97 => exact fun _ _ _ h => h
                case hw_97 => rfl
                case hS_97 => assumption
                case hy_97 => (intro w hSw; (try dsimp only at hSw); go_simp; try with_reducible rfl)
                try simp only [Act.put, List.setIfInBounds_toArray, List.set_cons_zero, List.set_cons_succ]
                refine anyZ_free (i := 29) (oi := ?oi_98) (v := ?v_98) ?hi_98 ?hs_98 ?hf_98 ?hr_98 ?hQ_98 (Or.inl ⟨?hw_98, ?hy_98⟩) ?hrest_98
                case hi_98 => (simp only [List.getElem?_toArray, List.getElem?_cons_succ, List.getElem?_cons_zero]; exact rfl)
                case hs_98 => kernel_rfl
                case hf_98 => kernel_rfl
                case hr_98 => kernel_rfl
                case hQ_98 => exact fun _ _ _ h => h
                case hw_98 => rfl
                case hy_98 => (intro w _; go_simp; try with_reducible rfl)
                try simp only [Act.put, List.setIfInBounds_toArray, List.set_cons_zero, List.set_cons_succ]
                refine anyZ_take (i := 30) (oi := ?oi_99) (v := ?v_99) ?hi_99 ?hz_99 ?hs_99 ?hf_99 ?hr_99 ?hQ_99 (Or.inl ⟨?hw_99, ?hy_99⟩) ?hS_99 ?hrest_99
                case hi_99 => (simp only [List.getElem?_toArray, List.getElem?_cons_succ, List.getElem?_cons_zero]; exact rfl)
                case hz_99 => kernel_rfl
                case hs_99 => kernel_rfl
                case hf_99 => kernel_rfl
                case hr_99 => kernel_rfl
                case hQ_99 => exact fun _ _ _ h => h
                case hw_99 => rfl
                case hS_99 => assumption
                case hy_99 => (intro w hSw; (try dsimp only at hSw); go_simp; try with_reducible rfl)
                try simp only [Act.put, List.setIfInBounds_toArray, List.set_cons_zero, List.set_cons_succ]
                refine anyZ_ready (rs := [31]) (by kernel_rfl) (by simp) ?_
                refine (AllZ.cons (o := ?o_100) ?ho_100 (fun K hK => ?st_100) AllZ.nil)
                case ho_100 => (simp only [List.getElem?_toArray, List.getElem?_cons_succ, List.getElem?_cons_zero]; exact rfl)
                case st_100 =>
                  go_simp
                  (go_at_call 22; (with_reducible refine q2.mono ?_); rintro e w' ⟨rfl, rfl⟩)
                  refine hK.out _ _ (by ((try dsimp only); (assumption))) (fun hHeld => ?_)
                  clear hK K
                  try simp only [Act.put, List.setIfInBounds_toArray, List.set_cons_zero, List.set_cons_succ]
                  refine anyZ_free (i := 32) (oi := ?oi_101) (v := ?v_101) ?hi_101 ?hs_101 ?hf_101 ?hr_101 ?hQ_101 (Or.inl ⟨?hw_101, ?hy_101⟩) ?hrest_101
                  case hi_101 => (simp only [List.getElem?_toArray, List.getElem?_cons_succ, List.getElem?_cons_zero]; exact rfl)
                  case hs_101 => kernel_rfl
                  case hf_101 => kernel_rfl
                  case hr_101 => kernel_rfl
                  case hQ_101 => exact fun _ _ _ h => h
                  case hw_101 => rfl
                  case hy_101 => (intro w _; go_simp; try with_reducible rfl)
                  try simp only [Act.put, List.setIfInBounds_toArray, List.set_cons_zero, List.set_cons_succ]
                  refine anyZ_free (i := 33) (oi := ?oi_102) (v := ?v_102) ?hi_102 ?hs_102 ?hf_102 ?hr_102 ?hQ_102 (Or.inl ⟨?hw_102, ?hy_102⟩) ?hrest_102
                  case hi_102 => (simp only [List.getElem?_toArray, List.getElem?_cons_succ, List.getElem?_cons_zero]; exact rfl)
                  case hs_102 => kernel_rfl
                  case hf_102 => kernel_rfl
                  case hr_102 => kernel_rfl
                  case hQ_102 => exact fun _ _ _ h => h
                  case hw_102 => rfl
                  case hy_102 => (intro w _; go_simp; try with_reducible rfl)
                  try simp only [Act.put, List.setIfInBounds_toArray, List.set_cons_zero, List.set_cons_succ]
                  refine anyZ_done (by kernel_rfl) ?_ _
                  refine NoPanic.normal ?_
                  go_wp2
                  go_ret
                  exact ⟨rfl, by (repeat' (first | (with_reducible first | exact Below.refl _ _ | assumption | refine Below.alloc ?_ ?_ _ | refine Below.drew ?_ | refine below_drewN ?_ _ | refine Below.setCell ?_ ?_ _ | refine below_via (by with_reducible assumption) ?_ ?_) | omega | (simp only [szs]; omega) | (simp only [szs] at *; omega)))⟩
          | true =>
            rw [b2] at q2
            have hI2 : Hid (soundR vars R (i + 1) = true) := hstep.out (by rw [b0, b1, b2]; rfl)
            clear hdec hstep
            refine wp_region_noPanic ?_
            refine region_lastly (S := (fun w' => (w'.cell? ⟨w.heap.size, 0, none⟩ = some (.int .i64 vars) ∧ w'.cell? ⟨w.heap.size, 2, none⟩ = some (.slice (some ⟨b, off, none⟩) m c)) ∧ w'.cell? ⟨b, off + i * 3, none⟩ = some (.slice (R i 0).ad (R i 0).n (R i 0).c) ∧ w'.cell? ⟨b, off + i * 3 + 1, none⟩ = some (.slice (R i 1).ad (R i 1).n (R i 1).c) ∧ w'.cell? ⟨b, off + i * 3 + 2, none⟩ = some (.slice (R i 2).ad (R i 2).n (R i 2).c))) [] (by kernel_rfl) (by ((try dsimp only); (assumption))) (fun hHeld => ?_)
            refine anyZ_free (i := 0) (oi := ?oi_103) (v := ?v_103) ?hi_103 ?hs_103 ?hf_103 ?hr_103 ?hQ_103 (Or.inl ⟨?hw_103, ?hy_103⟩) ?hrest_103
            case hi_103 => (simp only [List.getElem?_toArray, List.getElem?_cons_succ, List.getElem?_cons_zero]; exact rfl)
            case hs_103 => kernel_rfl
            case hf_103 => kernel_rfl
            case hr_103 => kernel_rfl
            case hQ_103 => exact fun _ _ _ h => h
            case hw_103 => rfl
            case hy_103 => (intro w _; go_simp; try with_reducible rfl)
            try simp only [Act.put, List.setIfInBounds_toArray, List.set_cons_zero, List.set_cons_succ]
            refine anyZ_take (i := 1) (oi := ?oi_104) (v := ?v_104) ?hi_104 ?hz_104 ?hs_104 ?hf_104 ?hr_104 ?hQ_104 (Or.inl ⟨?hw_104, ?hy_104⟩) ?hS_104 ?hrest_104
            case hi_104 => (simp only [List.getElem?_toArray, List.getElem?_cons_succ, List.getElem?_cons_zero]; exact rfl)
            case hz_104 => kernel_rfl
            case hs_104 => kernel_rfl
            case hf_104 => kernel_rfl
            case hr_104 => kernel_rfl
            case hQ_104 => exact fun _ _ _ h => h
            case hw_104 => rfl
            case hS_104 => assumption
            case hy_104 => (intro w hSw; (try dsimp only at hSw); go_simp; try with_reducible rfl)
            try simp only [Act.put, List.setIfInBounds_toArray, List.set_cons_zero, List.set_cons_succ]
            refine anyZ_free (i := 2) (oi := ?oi_105) (v := ?v_105) ?hi_105 ?hs_105 ?hf_105 ?hr_105 ?hQ_105 (Or.inl ⟨?hw_105, ?hy_105⟩) ?hrest_105
            case hi_105 => (simp only [List.getElem?_toArray, List.getElem?_cons_succ, List.getElem?_cons_zero]; exact rfl)
            case hs_105 => kernel_rfl
            case hf_105 => kernel_rfl
            case hr_105 => kernel_rfl
            case hQ_105 => exact fun _ _ _ h => h
            case hw_105 => rfl
            case hy_105 => (intro w _; go_simp; try with_reducible rfl)
            try simp only [Act.put, List.setIfInBounds_toArray, List.set_cons_zero, List.set_cons_succ]
            refine anyZ_free (i := 3) (oi := ?oi_106) (v := ?v_106) ?hi_106 ?hs_106 ?hf_106 ?hr_106 ?hQ_106 (Or.inl ⟨?hw_106, ?hy_106⟩) ?hrest_106
            case hi_106 => (simp only [List.getElem?_toArray, List.getElem?_cons_succ, List.getElem?_cons_zero]; exact rfl)
            case hs_106 => kernel_rfl
            case hf_106 => kernel_rfl
            case hr_106 => kernel_rfl
            case hQ_106 => exact fun _ _ _ h => h
            case hw_106 => rfl
            case hy_106 => (intro w _; go_simp; try with_reducible rfl)
            try simp only [Act.put, List.setIfInBounds_toArray, List.set_cons_zero, List.set_cons_succ]
            refine anyZ_free (i := 4) (oi := ?oi_107) (v := ?v_107) ?hi_107 ?hs_107 ?hf_107 ?hr_107 ?hQ_107 (Or.inl ⟨?hw_107, ?hy_107⟩) ?hrest_107
            case hi_107 => (simp only [List.getElem?_toArray, List.getElem?_cons_succ, List.getElem?_cons_zero]; exact rfl)
            case hs_107 => kernel_rfl
            case hf_107 => kernel_rfl
            case hr_107 => kernel_rfl
            case hQ_107 => exact fun _ _ _ h => h
            case hw_107 => rfl
            case hy_107 => (intro w _; go_simp; try with_reducible rfl)
            try simp only [Act.put, List.setIfInBounds_toArray, List.set_cons_zero, List.set_cons_succ]
            refine anyZ_take (i := 5) (oi := ?oi_108) (v := ?v_108) ?hi_108 ?hz_108 ?hs_108 ?hf_108 ?hr_108 ?hQ_108 (Or.inl ⟨?hw_108, ?hy_108⟩) ?hS_108 ?hrest_108
            case hi_108 => (simp only [List.getElem?_toArray, List.getElem?_cons_succ, List.getElem?_cons_zero]; exact rfl)
            case hz_108 => kernel_rfl
            case hs_108 => kernel_rfl
            case hf_108 => kernel_rfl
            case hr_108 => kernel_rfl
            case hQ_108 => exact fun _ _ _ h => h
            case hw_108 => rfl
            case hS_108 => assumption
            case hy_108 => (intro w hSw; (try dsimp only at hSw); go_simp; try with_reducible rfl)
            try simp only [Act.put, List.setIfInBounds_toArray, List.set_cons_zero, List.set_cons_succ]
            refine anyZ_free (i := 6) (oi := ?oi_109) (v := ?v_109) ?hi_109 ?hs_109 ?hf_109 ?hr_109 ?hQ_109 (Or.inl ⟨?hw_109, ?hy_109⟩) ?hrest_109
            case hi_109 => (simp only [List.getElem?_toArray, List.getElem?_cons_succ, List.getElem?_cons_zero]; exact rfl)
            case hs_109 => kernel_rfl
            case hf_109 => kernel_rfl
            case hr_109 => kernel_rfl
            case hQ_109 => exact fun _ _ _ h => h
            case hw_109 => rfl
            case hy_109 => (intro w _; go_simp; try with_reducible rfl)
            try simp only [Act.put, List.setIfInBounds_toArray, List.set_cons_zero, List.set_cons_succ]
            refine anyZ_take (i := 7) (oi := ?oi_110) (v := ?v_110) ?hi_110 ?hz_110 ?hs_110 ?hf_110 ?hr_110 ?hQ_110 (Or.inl ⟨?hw_110, ?hy_110⟩) ?hS_110 ?hrest_110
            case hi_110 => (simp only [List.getElem?_toArray, List.getElem?_cons_succ, List.getElem?_cons_zero]; exact rfl)
            case hz_110 => kernel_rfl
            case hs_110 => kernel_rfl
            case hf_110 => kernel_rfl
            case hr_110 => kernel_rfl
            case hQ_110 => exact fun _ _ _ h => h
            case hw_110 => rfl
            case hS_110 => assumption
            case hy_110 => (intro w hSw; (try dsimp only at hSw); go_simp; try with_reducible rfl)
            try simp only [Act.put, List.setIfInBounds_toArray, List.set_cons_zero, List.set_cons_succ]
            refine anyZ_ready (rs := [8]) (by kernel_rfl) (by simp) ?_
            refine (AllZ.cons (o := ?o_111) ?ho_111 (fun K hK => ?st_111) AllZ.nil)
            case ho_111 => (simp only [List.getElem?_toArray, List.getElem?_cons_succ, List.getElem?_cons_zero]; exact rfl)
            case st_111 =>
              go_simp
              (go_at_call 22; (with_reducible refine q0.mono ?_); rintro e w' ⟨rfl, rfl⟩)
              refine hK.out _ _ (by ((try dsimp only); (assumption))) (fun hHeld => ?_)
              clear hK K
              try simp only [Act.put, List.setIfInBounds_toArray, List.set_cons_zero, List.set_cons_succ]
              refine anyZ_free (i := 9) (oi := ?oi_112) (v := ?v_112) ?hi_112 ?hs_112 ?hf_112 ?hr_112 ?hQ_112 (Or.inl ⟨?hw_112, ?hy_112⟩) ?hrest_112
              case hi_112 => (simp only [List.getElem?_toArray, List.getElem?_cons_succ, List.getElem?_cons_zero]; exact rfl)
              case hs_112 => kernel_rfl
              case hf_112 => kernel_rfl
              case hr_112 => kernel_rfl
              case hQ_112 => exact fun _ _ _ h => h
              case hw_112 => rfl
              case hy_112 => (intro w _; go_simp; try with_reducible rfl)
              try simp only [Act.put, List.setIfInBounds_toArray, List.set_cons_zero, List.set_cons_succ]
              refine anyZ_free (i := 10) (oi := ?oi_113) (v := ?v_113) ?hi_113 ?hs_113 ?hf_113 ?hr_113 ?hQ_113 (Or.inl ⟨?hw_113, ?hy_113⟩) ?hrest_113
              case hi_113 => (simp only [List.getElem?_toArray, List.getElem?_cons_succ, List.getElem?_cons_zero]; exact rfl)
              case hs_113 => kernel_rfl
              case hf_113 => kernel_rfl
              case hr_113 => kernel_rfl
              case hQ_113 => exact fun _ _ _ h => h
              case hw_113 => rfl
              case hy_113 => (intro w _; go_simp; try with_reducible rfl)
              try simp only [Act.put, List.setIfInBounds_toArray, List.set_cons_zero, List.set_cons_succ]
              refine anyZ_free (i := 11) (oi := ?oi_114) (v := ?v_114) ?hi_114 ?hs_114 ?hf_114 ?hr_114 ?hQ_114 (Or.inl ⟨?hw_114, ?hy_114⟩) ?hrest_114
              case hi_114 => (simp only [List.getElem?_toArray, List.getElem?_cons_succ, List.getElem?_cons_zero]; exact rfl)
              case hs_114 => kernel_rfl
              case hf_114 => kernel_rfl
              case hr_114 => kernel_rfl
              case hQ_114 => exact fun _ _ _ h => h
              case hw_114 => rfl
              case hy_114 => (intro w _; go_simp; try with_reducible rfl)
              try simp only [Act.put, List.setIfInBounds_toArray, List.set_cons_zero, List.set_cons_succ]
              refine anyZ_take (i := 12) (oi := ?oi_115) (v := ?v_115) ?hi_115 ?hz_115 ?hs_115 ?hf_115 ?hr_115 ?hQ_115 (Or.inl ⟨?hw_115, ?hy_115⟩) ?hS_115 ?hrest_115
              case hi_115 => (simp only [List.getElem?_toArray, List.getElem?_cons_succ, List.getElem?_cons_zero]; exact rfl)
              case hz_115 => kernel_rfl
              case hs_115 => kernel_rfl
              case hf_115 => kernel_rfl
              case hr_115 => kernel_rfl
              case hQ_115 => exact fun _ _ _ h => h
              case hw_115 => rfl
              case hS_115 => assumption
              case hy_115 => (intro w hSw; (try dsimp only at hSw); go_simp; try with_reducible rfl)
              try simp only [Act.put, List.setIfInBounds_toArray, List.set_cons_zero, List.set_cons_succ]
              refine anyZ_free (i := 13) (oi := ?oi_116) (v := ?v_116) ?hi_116 ?hs_116 ?hf_116 ?hr_116 ?hQ_116 (Or.inl ⟨?hw_116, ?hy_116⟩) ?hrest_116
              case hi_116 => (simp only [List.getElem?_toArray, List.getElem?_cons_succ, List.getElem?_cons_zero]; exact rfl)
              case hs_116 => kernel_rfl
              case hf_116 => kernel_rfl
              case hr_116 => kernel_rfl
              case hQ_116 => exact fun _ _ _ h => h
              case hw_116 => rfl
              case hy_116 => (intro w _; go_simp; try with_reducible rfl)
              try simp only [Act.put, List.setIfInBounds_toArray, List.set_cons_zero, List.set_cons_succ]
              refine anyZ_free (i := 14) (oi := ?oi_117) (v := ?v_117) ?hi_117 ?hs_117 ?hf_117 ?hr_117 ?hQ_117 (Or.inl ⟨?hw_117, ?hy_117⟩) ?hrest_117
              case hi_117 => (simp only [List.getElem?_toArray, List.getElem?_cons_succ, List.getElem?_cons_zero]; exact rfl)
              case hs_117 => kernel_rfl
              case hf_117 => kernel_rfl
              case hr_117 => kernel_rfl
              case hQ_117 => exact fun _ _ _ h => h
              case hw_117 => rfl
              case hy_117 => (intro w _; go_simp; try with_reducible rfl)
              try simp only [Act.put, List.setIfInBounds_toArray, List.set_cons_zero, List.set_cons_succ]
              refine anyZ_free (i := 15) (oi := ?oi_118) (v := ?v_118) ?hi_118 ?hs_118 ?hf_118 ?hr_118 ?hQ_118 (Or.inl ⟨?hw_118, ?hy_118⟩) ?hrest_118
              case hi_118 => (simp only [List.getElem?_toArray, List.getElem?_cons_succ, List.getElem?_cons_zero]; exact rfl)
              case hs_118 => kernel_rfl
              case hf_118 => kernel_rfl
              case hr_118 => kernel_rfl
              case hQ_118 => exact fun _ _ _ h => h
              case hw_118 => rfl
              case hy_118 => (intro w _; go_simp; try with_reducible rfl)
              try simp only [Act.put, List.setIfInBounds_toArray, List.set_cons_zero, List.set_cons_succ]
              refine anyZ_take (i := 16) (oi := ?oi_119) (v := ?v_119) ?hi_119 ?hz_119 ?hs_119 ?hf_119 ?hr_119 ?hQ_119 (Or.inl ⟨?hw_119, ?hy_119⟩) ?hS_119 ?hrest_119
              case hi_119 => (simp only [List.getElem?_toArray, List.getElem?_cons_succ, List.getElem?_cons_zero]; exact rfl)
              case hz_119 => kernel_rfl
              case hs_119 => kernel_rfl
              case hf_119 => kernel_rfl
              case hr_119 => kernel_rfl
              case hQ_119 => exact fun _ _ _ h => h
              case hw_119 => rfl
              case hS_119 => assumption
              case hy_119 => (intro w hSw; (try dsimp only at hSw); go_simp; try with_reducible rfl)
              try simp only [Act.put, List.setIfInBounds_toArray, List.set_cons_zero, List.set_cons_succ]
              refine anyZ_free (i := 17) (oi := ?oi_120) (v := ?v_120) ?hi_120 ?hs_120 ?hf_120 ?hr_120 ?hQ_120 (Or.inl ⟨?hw_120, ?hy_120⟩) ?hrest_120
              case hi_120 => (simp only [List.getElem?_toArray, List.getElem?_cons_succ, List.getElem?_cons_zero]; exact rfl)
              case hs_120 => kernel_rfl
              case hf_120 => kernel_rfl
              case hr_120 => kernel_rfl
              case hQ_120 => exact fun _ _ _ h => h
              case hw_120 => rfl
              case hy_120 => (intro w _; go_simp; try with_reducible rfl)
              try simp only [Act.put, List.setIfInBounds_toArray, List.set_cons_zero, List.set_cons_succ]
              refine anyZ_take (i := 18) (oi := ?oi_121) (v := ?v_121) ?hi_121 ?hz_121 ?hs_121 ?hf_121 ?hr_121 ?hQ_121 (Or.inl ⟨?hw_121, ?hy_121⟩) ?hS_121 ?hrest_121
              case hi_121 => (simp only [List.getElem?_toArray, List.getElem?_cons_succ, List.getElem?_cons_zero]; exact rfl)
              case hz_121 => kernel_rfl
              case hs_121 => kernel_rfl
              case hf_121 => kernel_rfl
              case hr_121 => kernel_rfl
              case hQ_121 => exact fun _ _ _ h => h
              case hw_121 => rfl
              case hS_121 => assumption
              case hy_121 => (intro w hSw; (try dsimp only at hSw); go_simp; try with_reducible rfl)
              try simp only [Act.put, List.setIfInBounds_toArray, List.set_cons_zero, List.set_cons_succ]
              refine anyZ_ready (rs := [19]) (by kernel_rfl) (by simp) ?_
              refine (AllZ.cons (o := ?o_122) ?ho_122 (fun K hK => ?st_122) AllZ.nil)
              case ho_122 => (simp only [List.getElem?_toArray, List.getElem?_cons_succ, List.getElem?_cons_zero]; exact rfl)
              case st_122 =>
                go_simp
                (go_at_call 22; (with_reducible refine q1.mono ?_); rintro e w' ⟨rfl, rfl⟩)
                refine hK.out _ _ (by ((try dsimp only); (assumption))) (fun hHeld => ?_)
                clear hK K
                try simp only [Act.put, List.setIfInBounds_toArray, List.set_cons_zero, List.set_cons_succ]
                refine anyZ_free (i := 20) (oi := ?oi_123) (v := ?v_123) ?hi_123 ?hs_123 ?hf_123 ?hr_123 ?hQ_123 (Or.inl ⟨?hw_123, ?hy_123⟩) ?hrest_123
                case hi_123 => (simp only [List.getElem?_toArray, List.getElem?_cons_succ, List.getElem?_cons_zero]; exact rfl)
                case hs_123 => kernel_rfl
                case hf_123 => kernel_rfl
                case hr_123 => kernel_rfl
                case hQ_123 => exact fun _ _ _ h => h
                case hw_123 => rfl
                case hy_123 => (intro w _; go_simp; try with_reducible rfl)
                try simp only [Act.put, List.setIfInBounds_toArray, List.set_cons_zero, List.set_cons_succ]
                refine anyZ_free (i := 21) (oi := ?oi_124) (v := ?v_124) ?hi_124 ?hs_124 ?hf_124 ?hr_124 ?hQ_124 (Or.inl ⟨?hw_124, ?hy_124⟩) ?hrest_124
                case hi_124 => (simp only [List.getElem?_toArray, List.getElem?_cons_succ, List.getElem?_cons_zero]; exact rfl)
                case hs_124 => kernel_rfl
                case hf_124 => kernel_rfl
                case hr_124 => kernel_rfl
                case hQ_124 => exact fun _ _ _ h => h
                case hw_124 => rfl
                case hy_124 => (intro w _; go_simp; try with_reducible rfl)
                try simp only [Act.put, List.setIfInBounds_toArray, List.set_cons_zero, List.set_cons_succ]
                refine anyZ_free (i := 22) (oi := ?oi_125) (v := ?v_125) ?hi_125 ?hs_125 ?hf_125 ?hr_125 ?hQ_125 (Or.inl ⟨?hw_125, ?hy_125⟩) ?hrest_125
                case hi_125 => (simp only [List.getElem?_toArray, List.getElem?_cons_succ, List.getElem?_cons_zero]; exact rfl)
                case hs_125 => kernel_rfl
                case hf_125 => kernel_rfl
                case hr_125 => kernel_rfl
                case hQ_125 => exact fun _ _ _ h => h
                case hw_125 => rfl
                case hy_125 => (intro w _; go_simp; try with_reducible rfl)
                try simp only [Act.put, List.setIfInBounds_toArray, List.set_cons_zero, List.set_cons_succ]
                refine anyZ_free (i := 23) (oi := ?oi_126) (v := ?v_126) ?hi_126 ?hs_126 ?hf_126 ?hr_126 ?hQ_126 (Or.inl ⟨?hw_126, ?hy_126⟩) ?hrest_126
                case hi_126 => (simp only [List.getElem?_toArray, List.getElem?_cons_succ, List.getElem?_cons_zero]; exact rfl)
                case hs_126 => kernel_rfl
                case hf_126 => kernel_rfl
                case hr_126 => kernel_rfl
                case hQ_126 => exact fun _ _ _ h => h
                case hw_126 => rfl
                case hy_126 => (intro w _; go_simp; try with_reducible rfl)
                try simp only [Act.put, List.setIfInBounds_toArray, List.set_cons_zero, List.set_cons_succ]
                refine anyZ_take (i := 24) (oi := ?oi_127) (v := ?v_127) ?hi_127 ?hz_127 ?hs_127 ?hf_127 ?hr_127 ?hQ_127 (Or.inl ⟨?hw_127, ?hy_127⟩) ?hS_127 ?hrest_127
                case hi_127 => (simp only [List.getElem?_toArray, List.getElem?_cons_succ, List.getElem?_cons_zero]; exact rfl)
                case hz_127 => kernel_rfl
                case hs_127 => kernel_rfl
                case hf_127 => kernel_rfl
                case hr_127 => kernel_rfl
                case hQ_127 => exact fun _ _ _ h => h
                case hw_127 => rfl
                case hS_127 => assumption
                case hy_127 => (intro w hSw; (try dsimp only at hSw); go_simp; try with_reducible rfl)
                try simp only [Act.put, List.setIfInBounds_toArray, List.set_cons_zero, List.set_cons_succ]
                refine anyZ_free (i := 25) (oi := ?oi_128) (v := ?v_128) ?hi_128 ?hs_128 ?hf_128 ?hr_128 ?hQ_128 (Or.inl ⟨?hw_128, ?hy_128⟩) ?hrest_128
                case hi_128 => (simp only [List.getElem?_toArray, List.getElem?_cons_succ, List.getElem?_cons_zero]; exact rfl)
                case hs_128 => kernel_rfl
                case hf_128 => kernel_rfl
                case hr_128 => kernel_rfl
                case hQ_128 => exact fun _ _ _ h => h
                case hw_128 => rfl
                case hy_128 => (intro w _; go_simp; try with_reducible rfl)
                try simp only [Act.put, List.setIfInBounds_toArray, List.set_cons_zero, List.set_cons_succ]
                refine anyZ_free (i := 26) (oi := ?oi_129) (v := ?v_129) ?hi_129 ?hs_129 ?hf_129 ?hr_129 ?hQ_129 (Or.inl ⟨?hw_129, ?hy_129⟩) ?hrest_129
                case hi_129 => (simp only [List.getElem?_toArray, List.getElem?_cons_succ, List.getElem?_cons_zero]; exact rfl)
                case hs_129 => kernel_rfl
                case hf_129 => kernel_rfl
                case hr_129 => kernel_rfl
                case hQ_129 => exact fun _ _ _ h => h
                case hw_129 => rfl
                case hy_129 => (intro w _; go_simp; try with_reducible rfl)
                try simp only [Act.put, List.setIfInBounds_toArray, List.set_cons_zero, List.set_cons_succ]
                refine anyZ_free (i := 27) (oi := ?oi_130) (v := ?v_130) ?hi_130 ?hs_130 ?hf_130 ?hr_130 ?hQ_130 (Or.inl ⟨?hw_130, ?hy_130⟩) ?hrest_130
                case hi_130 => (simp only [List.getElem?_toArray, List.getElem?_cons_succ, List.getElem?_cons_zero]; exact rfl)
                case hs_130 => kernel_rfl
                case hf_130 => kernel_rfl
                case hr_130 => kernel_rfl
                case hQ_130 => exact fun _ _ _ h => h
                case hw_130 => rfl
                case hy_130 => (intro w _; go_simp; try with_reducible rfl)
                try simp only [Act.put, List.setIfInBounds_toArray, List.set_cons_zero, List.set_cons_succ]
                refine anyZ_take (i := 28) (oi := ?oi_131) (v := ?v_131) ?hi_131 ?hz_131 ?hs_131 ?hf_131 ?hr_131 ?hQ_131 (Or.inl ⟨?hw_131, ?hy_131⟩) ?hS_131 ?hrest_131
                case hi_131 => (simp only [List.getElem?_toArray, List.getElem?_cons_succ, List.getElem?_cons_zero]; exact rfl)
                case hz_131 => kernel_rfl
                case hs_131 => kernel_rfl
                case hf_131 => kernel_rfl
                case hr_131 => kernel_rfl
                case hQ_131 => exact fun _ _ _ h => h
                case hw_131 => rfl
                case hS_131 => assumption
                case hy_131 => (intro w hSw; (try dsimp only at hSw); go_simp; try with_reducible rfl)
                try simp only [Act.put, List.setIfInBounds_toArray, List.set_cons_zero, List.set_cons_succ]
                refine anyZ_free (i := 29) (oi := ?oi_132) (v := ?v_132) ?hi_132 ?hs_132 ?hf_132 ?hr_132 ?hQ_132 (Or.inl ⟨?hw_132, ?hy_132⟩) ?hrest_132
                case hi_132 => (simp only [List.getElem?_toArray, List.getElem?_cons_succ, List.getElem?_cons_zero]; exact rfl)
                case hs_132 => kernel_rfl
                case hf_132 => kernel_rfl
                case hr_132 => kernel_rfl
                case hQ_132 => exact fun _ _ _ h => h
                case hw_132 => rfl
                case hy_132 => (intro w _; go_simp; try with_reducible rfl)
                try simp only [Act.put, List.setIfInBounds_toArray, List.set_cons_zero, List.set_cons_succ]
                refine anyZ_take (i := 30) (oi := ?oi_133) (v := ?v_133) ?hi_133 ?hz_133 ?hs_133 ?hf_133 ?hr_133 ?hQ_133 (Or.inl ⟨?hw_133, ?hy_133⟩) ?hS_133 ?hrest_133
                case hi_133 => (simp only [List.getElem?_toArray, List.getElem?_cons_succ, List.getElem?_cons_zero]; exact rfl)
                case hz_133 => kernel_rfl
                case hs_133 => kernel_rfl
                case hf_133 => kernel_rfl
                case hr_133 => kernel_rfl
                case hQ_133 => exact fun _ _ _ h => h
                case hw_133 => rfl
                case hS_133 => assumption
                case hy_133 => (intro w hSw; (try dsimp only at hSw); go_simp; try with_reducible rfl)
                try simp only [Act.put, List.setIfInBounds_toArray, List.set_cons_zero, List.set_cons_succ]
                refine anyZ_ready (rs := [31]) (by kernel_rfl) (by simp) ?_
                refine (AllZ.cons (o := ?o_134) ?ho_134 (fun K hK => ?st_134) AllZ.nil)
                case ho_134 => (simp only [List.getElem?_toArray, List.getElem?_cons_succ, List.getElem?_cons_zero]; exact rfl)
                case st_134 =>
                  go_simp
                  (go_at_call 22; (with_reducible refine q2.mono ?_); rintro e w' ⟨rfl, rfl⟩)
                  refine hK.out _ _ (by ((try dsimp only); (assumption))) (fun hHeld => ?_)
                  clear hK K
                  try simp only [Act.put, List.setIfInBounds_toArray, List.set_cons_zero, List.set_cons_succ]
                  refine anyZ_free (i := 32) (oi := ?oi_135) (v := ?v_135) ?hi_135 ?hs_135 ?hf_135 ?hr_135 ?hQ_135 (Or.inl ⟨?hw_135, ?hy_135⟩) ?hrest_135
                  case hi_135 => (simp only [List.getElem?_toArray, List.getElem?_cons_succ, List.getElem?_cons_zero]; exact rfl)
                  case hs_135 => kernel_rfl
                  case hf_135 => kernel_rfl
                  case hr_135 => kernel_rfl
                  case hQ_135 => exact fun _ _ _ h => h
                  case hw_135 => rfl
                  case hy_135 => (intro w _; go_simp; try with_reducible rfl)
                  try simp only [Act.put, List.setIfInBounds_toArray, List.set_cons_zero, List.set_cons_succ]
                  refine anyZ_free (i := 33) (oi := ?oi_136) (v := ?v_136) ?hi_136 ?hs_136 ?hf_136 ?hr_136 ?hQ_136 (Or.inl ⟨?hw_136, ?hy_136⟩) ?hrest_136
                  case hi_136 => (simp only [List.getElem?_toArray, List.getElem?_cons_succ, List.getElem?_cons_zero]; exact rfl)
                  case hs_136 => kernel_rfl
                  case hf_136 => kernel_rfl
                  case hr_136 => kernel_rfl
                  case hQ_136 => exact fun _ _ _ h => h
                  case hw_136 => rfl
                  case hy_136 => (intro w _; go_simp; try with_reducible rfl)
                  try simp only [Act.put, List.setIfInBounds_toArray, List.set_cons_zero, List.set_cons_succ]
                  refine anyZ_done (by kernel_rfl) ?_ _
                  refine NoPanic.normal ?_
                  go_wp2
                  go_roundw
                  case rel => exact ⟨i + 1, by omega, by go_num, by (repeat' (first | (with_reducible first | assumption | exact Three.own (by with_reducible assumption) | refine Three.set ?_ _ _ _ | refine Own3.set ?_ _ _ _ | refine Three.drew ?_ | refine Three.drewN ?_ _ | refine Own3.drew ?_ | refine Own3.drewN ?_ _ | (refine Three.new ?_; simp only [szs]; done) | (refine Own3.new ?_; simp only [szs]; done) | refine Three.alloc ?_ _ | refine Own3.alloc ?_ _ | refine Three.far ?_ ?_ _ _ | refine Own3.far ?_ ?_ _ _ | refine Three.via (by with_reducible assumption) ?_ ?_ | refine Own3.via (by with_reducible assumption) ?_ ?_) | omega | (simp only [szs]; omega))), by (repeat' (first | (with_reducible first | exact Below.refl _ _ | assumption | refine Below.alloc ?_ ?_ _ | refine Below.drew ?_ | refine below_drewN ?_ _ | refine Below.setCell ?_ ?_ _ | refine below_via (by with_reducible assumption) ?_ ?_) | omega | (simp only [szs]; omega) | (simp only [szs] at *; omega))), hI2⟩
                  case measure => (simp [intOf]; omega)
    · have hlt' : ¬ (i : Int) < (m : Int) := by omega
      obtain rfl : i = m := by omega
      obtain rfl : S = true := hS.out.symm.trans hI.out
      go_wp2
      go_ret
      exact ⟨rfl, by (repeat' (first | (with_reducible first | exact Below.refl _ _ | assumption | refine Below.alloc ?_ ?_ _ | refine Below.drew ?_ | refine below_drewN ?_ _ | refine Below.setCell ?_ ?_ _ | refine below_via (by with_reducible assumption) ?_ ?_) | omega | (simp only [szs]; omega) | (simp only [szs] at *; omega)))⟩
theorem vcheckW (vars pubs : Int) (a : Option Addr) (m c : Nat) (R : Nat → Nat → Lst) (hO : ∀ i j, (R i j).Ok) (hv : vars < 9223372036854775808) (w : World) (hR : RowsAt w.heap.size w a m R) :
    Calls Tryd.prog 11 #[rankV vars pubs a m c] w fun e w' => e = .returned (.bool (checkB vars pubs m R)) ∧ Below w.heap.size w w' := by
  unfold checkB
  cases h : frameB vars pubs m with
  | false => exact vcheck_no vars pubs a m c w hv h
  | true => rw [Bool.true_and]; exact vcheck_core vars pubs a m c R hO w hR h
end Go.Proofs.YtckjojmphdoghaaDoor
