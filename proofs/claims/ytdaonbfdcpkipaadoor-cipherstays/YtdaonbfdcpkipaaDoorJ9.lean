/-
  Joined texts: Package cipher, walked: all quarters once. Package cipher, walked: a block's words, a block. Package cipher, walked: the sixteen words that are mixed. Package cipher, walked: a block. Package cipher, walked: Block, Mark. The document's own mark of data and a sealed text, walked.
-/
import Derived.Test.YtdaonbfdcpkipaaDoorJ8
import Derived.Test.YtdaonbfdcpkipaaDoorJ3
import Derived.Test.YtdaonbfdcpkipaaDoorJ2
import Derived.Test.YtdaonbfdcpkipaaDoorJ7

namespace Go.Proofs.YtdaonbfdcpkipaaDoor
open Go.RowKit Go.Proofs
set_option linter.unusedVariables false
set_option linter.unusedSimpArgs false
attribute [local go_sem ↓] Go.wp_at_zero Go.wp_at_succ

set_option maxHeartbeats 4000000 in
set_option maxRecDepth 4000 in
theorem mixedC_core (v : Nat → Nat) (hv : Ob.Words32 v) (w : World) (hT : Tabs w) :
    Calls Tryd.prog 33 #[arrV .u32 v 16] w fun e w' => e = .returned (arrV .u32 (Ob.chaR v) 16) ∧ Below w.heap.size w w' := by
  rw [← Ob.chaI_all]
  unfold arrV
  have hl := arrL_length .u32 v 16
  have hT' : Hid (Tabs w) := hT
  have hv' : Hid (Ob.Words32 v) := hv
  clear hT hv
  go_enter Tryd.func33, Tryd.ntmps33
  go_upto_region 1 with (fail)
  obtain ⟨W0, hW0⟩ : ∃ W, Hid (((w.alloc (.cells (arrL .u32 v 16).toArray 40)).alloc (.cells (arrL .u32 (fun _ => 0) 16).toArray 40)) = W) := ⟨_, rfl⟩
  have tv0 : Arr W0 .u32 w.heap.size 16 v := by rw [← hW0.out]; exact (Arr.new rfl).alloc _
  have tr0 : Arr W0 .u32 (w.heap.size + 1) 16 (fun _ => 0) := by rw [← hW0.out]; exact Arr.new (by simp)
  have hB0 : Below w.heap.size w W0 := by rw [← hW0.out]; (repeat' (first | (with_reducible first | exact Below.refl _ _ | assumption | refine Below.alloc ?_ ?_ _ | refine Below.drew ?_ | refine below_drewN ?_ _ | refine Below.setCell ?_ ?_ _ | refine below_via (by with_reducible assumption) ?_ ?_) | omega | (simp only [szs]; omega) | (simp only [szs] at *; omega)))
  change Code.wp _ _ _ _ ((w.alloc (.cells (arrL .u32 v 16).toArray 40)).alloc (.cells (arrL .u32 (fun _ => 0) 16).toArray 40))
  rw [hW0.out]
  clear hW0
  obtain ⟨N, hN⟩ : ∃ N, Hid (w.heap.size = N) := ⟨_, rfl⟩
  rw [hN.out] at tv0 tr0 hB0 ⊢
  go_wp2
  go_loopw [8] (fun s14 wr => ∃ (i : Nat), i ≤ 8 ∧ s14 = .int .i64 (i : Nat) ∧ Hid (Arr wr .u32 N 16 (Ob.chaI v i)) ∧ Hid (Arr wr .u32 (N + 1) 16 (fun _ => 0)) ∧ Below N w wr) (fun s14 _ => 8 - (intOf s14).toNat)
  case atStart => exact ⟨0, by omega, rfl, tv0, tr0, hB0⟩
  case round =>
    clear tv0 tr0 hB0
    obtain ⟨i, hi, rfl, tv, tr, hB⟩ := hrel
    have l0 := hB.size
    by_cases hlt : i < 8
    · have hT1 := hT'.out.below hB (by have := hT'.out.lt; have := hN.out; omega)
      have q0 := hT1.places i 0 hlt (by decide)
      have q1 := hT1.places i 1 hlt (by decide)
      have q2 := hT1.places i 2 hlt (by decide)
      have q3 := hT1.places i 3 hlt (by decide)
      obtain ⟨a, ha⟩ : ∃ a, Hid (Ob.plc i 0 = a) := ⟨_, rfl⟩
      obtain ⟨b, hb⟩ : ∃ a, Hid (Ob.plc i 1 = a) := ⟨_, rfl⟩
      obtain ⟨c, hc⟩ : ∃ a, Hid (Ob.plc i 2 = a) := ⟨_, rfl⟩
      obtain ⟨d, hd⟩ : ∃ a, Hid (Ob.plc i 3 = a) := ⟨_, rfl⟩
      rw [ha.out] at q0
      rw [hb.out] at q1
      rw [hc.out] at q2
      rw [hd.out] at q3
      clear hT1
      simp only [Nat.add_zero] at q0
      have i0 : (i : Int) < 8 := by omega
      have i1 : (0 : Int) ≤ (i : Int) := by omega
      go_upto_region 4 with (fail)
      go_quiet (fail)
      have tv2 : Hid (Arr (wr.drewN nq) .u32 N 16 (Ob.chaI v i)) := tv.out.drewN nq
      have tr2 : Hid (Arr (wr.drewN nq) .u32 (N + 1) 16 (fun _ => 0)) := tr.out.drewN nq
      have hB2 := below_drewN hB nq
      clear tv tr hB l0 q0 q1 q2 q3
      generalize wr.drewN nq = W2 at *
      have hw1 : Hid (Ob.Words32 (Ob.chaI v i)) := Ob.chaI_words hv'.out i
      have hnext : Hid (Ob.chaI v (i + 1) = Ob.qhalf (Ob.qhalf (Ob.chaI v i) a b c d 16 20) a b c d 24 25) := by
        show _ = _
        rw [← ha.out, ← hb.out, ← hc.out, ← hd.out]
        rfl
      obtain ⟨V, hV⟩ : ∃ V, Hid (Ob.chaI v i = V) := ⟨_, rfl⟩
      rw [hV.out] at tv2 hw1 hnext
      have la : a < 16 := by rw [← ha.out]; exact Ob.plc_lt hlt (by decide)
      have lb : b < 16 := by rw [← hb.out]; exact Ob.plc_lt hlt (by decide)
      have lc : c < 16 := by rw [← hc.out]; exact Ob.plc_lt hlt (by decide)
      have ld : d < 16 := by rw [← hd.out]; exact Ob.plc_lt hlt (by decide)
      have nab : Hid (a ≠ b) := by rw [← ha.out, ← hb.out]; exact Ob.plc_ne hlt (by decide) (by decide) (by decide)
      have nac : Hid (a ≠ c) := by rw [← ha.out, ← hc.out]; exact Ob.plc_ne hlt (by decide) (by decide) (by decide)
      have nad : Hid (a ≠ d) := by rw [← ha.out, ← hd.out]; exact Ob.plc_ne hlt (by decide) (by decide) (by decide)
      have nbc : Hid (b ≠ c) := by rw [← hb.out, ← hc.out]; exact Ob.plc_ne hlt (by decide) (by decide) (by decide)
      have nbd : Hid (b ≠ d) := by rw [← hb.out, ← hd.out]; exact Ob.plc_ne hlt (by decide) (by decide) (by decide)
      have ncd : Hid (c ≠ d) := by rw [← hc.out, ← hd.out]; exact Ob.plc_ne hlt (by decide) (by decide) (by decide)
      have ia : (a : Int) < 16 := by omega
      have ja : (0 : Int) ≤ (a : Int) := by omega
      have ib : (b : Int) < 16 := by omega
      have jb : (0 : Int) ≤ (b : Int) := by omega
      have ic : (c : Int) < 16 := by omega
      have jc : (0 : Int) ≤ (c : Int) := by omega
      have id : (d : Int) < 16 := by omega
      have jd : (0 : Int) ≤ (d : Int) := by omega
      have xa : a ≠ b := nab.out
      have xb : a ≠ c := nac.out
      have xc : a ≠ d := nad.out
      have xd : b ≠ c := nbc.out
      have xe : b ≠ d := nbd.out
      have xf : c ≠ d := ncd.out
      -- half 1
      obtain ⟨A1, hA1⟩ : ∃ z, Hid (Ob.s32 (V a) (V b) = z) := ⟨_, rfl⟩
      obtain ⟨D1, hD1⟩ : ∃ z, Hid (Ob.rot (V d ^^^ A1) 16 = z) := ⟨_, rfl⟩
      obtain ⟨C1, hC1⟩ : ∃ z, Hid (Ob.s32 (V c) D1 = z) := ⟨_, rfl⟩
      obtain ⟨B1, hB1⟩ : ∃ z, Hid (Ob.rot (V b ^^^ C1) 20 = z) := ⟨_, rfl⟩
      have c1 : ∀ w, Calls Tryd.prog 47 #[.int .u32 (V a : Nat), .int .u32 (V b : Nat), .int .u32 (V c : Nat), .int .u32 (V d : Nat), .int .i64 16, .int .i64 12] w fun e w' => e = .returned (.tuple #[.int .u32 A1, .int .u32 B1, .int .u32 C1, .int .u32 D1]) ∧ w = w' := fun w => halfCW _ _ _ _ 16 12 _ _ _ _ (hw1.out _) (hw1.out _) (hw1.out _) (hw1.out _) (by decide) (by decide) hA1.out hD1.out hC1.out hB1.out w
      have za1 := tv2.out.drew.c a la
      have zb1 := tv2.out.drew.c b lb
      have zc1 := tv2.out.drew.c c lc
      have zd1 := tv2.out.drew.c d ld
      have xa1 := tv2.out.c a la
      have xb1 := tv2.out.c b lb
      have xc1 := tv2.out.c c lc
      have xd1 := tv2.out.c d ld
      have ya1 := tv2.out.f a la
      have yb1 := tv2.out.f b lb
      have yc1 := tv2.out.f c lc
      have yd1 := tv2.out.f d ld
      go_upto_region 5 with (fail)
      refine wp_region_noPanic ?_
      refine region_lastly (S := (fun w' => w'.cell? ⟨N, a, none⟩ = some (.int .u32 (V a : Nat)) ∧ w'.cell? ⟨N, b, none⟩ = some (.int .u32 (V b : Nat)) ∧ w'.cell? ⟨N, c, none⟩ = some (.int .u32 (V c : Nat)) ∧ w'.cell? ⟨N, d, none⟩ = some (.int .u32 (V d : Nat)))) [23, 25, 27, 29] (by kernel_rfl) (by ((try dsimp only); (exact ⟨za1, zb1, zc1, zd1⟩))) (fun hHeld => ?_)
      refine anyZ_free (i := 0) (oi := ?oi_1) (v := ?v_1) ?hi_1 ?hs_1 ?hf_1 ?hr_1 ?hQ_1 (Or.inl ⟨?hw_1, ?hy_1⟩) ?hrest_1
      case hi_1 => (simp only [List.getElem?_toArray, List.getElem?_cons_succ, List.getElem?_cons_zero]; exact rfl)
      case hs_1 => kernel_rfl
      case hf_1 => kernel_rfl
      case hr_1 => kernel_rfl
      case hQ_1 => exact fun _ _ _ h => h
      case hw_1 => rfl
      case hy_1 => (intro w _; go_simp; try with_reducible rfl)
      try simp only [Act.put, List.setIfInBounds_toArray, List.set_cons_zero, List.set_cons_succ]
      refine anyZ_free (i := 1) (oi := ?oi_2) (v := ?v_2) ?hi_2 ?hs_2 ?hf_2 ?hr_2 ?hQ_2 (Or.inl ⟨?hw_2, ?hy_2⟩) ?hrest_2
      case hi_2 => (simp only [List.getElem?_toArray, List.getElem?_cons_succ, List.getElem?_cons_zero]; exact rfl)
      case hs_2 => kernel_rfl
      case hf_2 => kernel_rfl
      case hr_2 => kernel_rfl
      case hQ_2 => exact fun _ _ _ h => h
      case hw_2 => rfl
      case hy_2 => (intro w _; go_simp; try with_reducible rfl)
      try simp only [Act.put, List.setIfInBounds_toArray, List.set_cons_zero, List.set_cons_succ]
      refine anyZ_free (i := 2) (oi := ?oi_3) (v := ?v_3) ?hi_3 ?hs_3 ?hf_3 ?hr_3 ?hQ_3 (Or.inl ⟨?hw_3, ?hy_3⟩) ?hrest_3
      case hi_3 => (simp only [List.getElem?_toArray, List.getElem?_cons_succ, List.getElem?_cons_zero]; exact rfl)
      case hs_3 => kernel_rfl
      case hf_3 => kernel_rfl
      case hr_3 => kernel_rfl
      case hQ_3 => exact fun _ _ _ h => h
      case hw_3 => rfl
      case hy_3 => (intro w _; go_simp; try with_reducible rfl)
      try simp only [Act.put, List.setIfInBounds_toArray, List.set_cons_zero, List.set_cons_succ]
      refine anyZ_free (i := 3) (oi := ?oi_4) (v := ?v_4) ?hi_4 ?hs_4 ?hf_4 ?hr_4 ?hQ_4 (Or.inl ⟨?hw_4, ?hy_4⟩) ?hrest_4
      case hi_4 => (simp only [List.getElem?_toArray, List.getElem?_cons_succ, List.getElem?_cons_zero]; exact rfl)
      case hs_4 => kernel_rfl
      case hf_4 => kernel_rfl
      case hr_4 => kernel_rfl
      case hQ_4 => exact fun _ _ _ h => h
      case hw_4 => rfl
      case hy_4 => (intro w _; go_simp; try with_reducible rfl)
      try simp only [Act.put, List.setIfInBounds_toArray, List.set_cons_zero, List.set_cons_succ]
      refine anyZ_free (i := 4) (oi := ?oi_5) (v := ?v_5) ?hi_5 ?hs_5 ?hf_5 ?hr_5 ?hQ_5 (Or.inl ⟨?hw_5, ?hy_5⟩) ?hrest_5
      case hi_5 => (simp only [List.getElem?_toArray, List.getElem?_cons_succ, List.getElem?_cons_zero]; exact rfl)
      case hs_5 => kernel_rfl
      case hf_5 => kernel_rfl
      case hr_5 => kernel_rfl
      case hQ_5 => exact fun _ _ _ h => h
      case hw_5 => rfl
      case hy_5 => (intro w _; go_simp; try with_reducible rfl)
      try simp only [Act.put, List.setIfInBounds_toArray, List.set_cons_zero, List.set_cons_succ]
      refine anyZ_free (i := 5) (oi := ?oi_6) (v := ?v_6) ?hi_6 ?hs_6 ?hf_6 ?hr_6 ?hQ_6 (Or.inl ⟨?hw_6, ?hy_6⟩) ?hrest_6
      case hi_6 => (simp only [List.getElem?_toArray, List.getElem?_cons_succ, List.getElem?_cons_zero]; exact rfl)
      case hs_6 => kernel_rfl
      case hf_6 => kernel_rfl
      case hr_6 => kernel_rfl
      case hQ_6 => exact fun _ _ _ h => h
      case hw_6 => rfl
      case hy_6 => (intro w _; go_simp; try with_reducible rfl)
      try simp only [Act.put, List.setIfInBounds_toArray, List.set_cons_zero, List.set_cons_succ]
      refine anyZ_take (i := 6) (oi := ?oi_7) (v := ?v_7) ?hi_7 ?hz_7 ?hs_7 ?hf_7 ?hr_7 ?hQ_7 (Or.inl ⟨?hw_7, ?hy_7⟩) ?hS_7 ?hrest_7
      case hi_7 => (simp only [List.getElem?_toArray, List.getElem?_cons_succ, List.getElem?_cons_zero]; exact rfl)
      case hz_7 => kernel_rfl
      case hs_7 => kernel_rfl
      case hf_7 => kernel_rfl
      case hr_7 => kernel_rfl
      case hQ_7 => exact fun _ _ _ h => h
      case hw_7 => rfl
      case hS_7 => assumption
      case hy_7 => (intro w hSw; (try dsimp only at hSw); go_simp; try with_reducible rfl)
      try simp only [Act.put, List.setIfInBounds_toArray, List.set_cons_zero, List.set_cons_succ]
      refine anyZ_free (i := 7) (oi := ?oi_8) (v := ?v_8) ?hi_8 ?hs_8 ?hf_8 ?hr_8 ?hQ_8 (Or.inl ⟨?hw_8, ?hy_8⟩) ?hrest_8
      case hi_8 => (simp only [List.getElem?_toArray, List.getElem?_cons_succ, List.getElem?_cons_zero]; exact rfl)
      case hs_8 => kernel_rfl
      case hf_8 => kernel_rfl
      case hr_8 => kernel_rfl
      case hQ_8 => exact fun _ _ _ h => h
      case hw_8 => rfl
      case hy_8 => (intro w _; go_simp; try with_reducible rfl)
      try simp only [Act.put, List.setIfInBounds_toArray, List.set_cons_zero, List.set_cons_succ]
      refine anyZ_free (i := 8) (oi := ?oi_9) (v := ?v_9) ?hi_9 ?hs_9 ?hf_9 ?hr_9 ?hQ_9 (Or.inl ⟨?hw_9, ?hy_9⟩) ?hrest_9
      case hi_9 => (simp only [List.getElem?_toArray, List.getElem?_cons_succ, List.getElem?_cons_zero]; exact rfl)
      case hs_9 => kernel_rfl
      case hf_9 => kernel_rfl
      case hr_9 => kernel_rfl
      case hQ_9 => exact fun _ _ _ h => h
      case hw_9 => rfl
      case hy_9 => (intro w _; go_simp; try with_reducible rfl)
      try simp only [Act.put, List.setIfInBounds_toArray, List.set_cons_zero, List.set_cons_succ]
      refine anyZ_take (i := 9) (oi := ?oi_10) (v := ?v_10) ?hi_10 ?hz_10 ?hs_10 ?hf_10 ?hr_10 ?hQ_10 (Or.inl ⟨?hw_10, ?hy_10⟩) ?hS_10 ?hrest_10
      case hi_10 => (simp only [List.getElem?_toArray, List.getElem?_cons_succ, List.getElem?_cons_zero]; exact rfl)
      case hz_10 => kernel_rfl
      case hs_10 => kernel_rfl
      case hf_10 => kernel_rfl
      case hr_10 => kernel_rfl
      case hQ_10 => exact fun _ _ _ h => h
      case hw_10 => rfl
      case hS_10 => assumption
      case hy_10 => (intro w hSw; (try dsimp only at hSw); go_simp; try with_reducible rfl)
      try simp only [Act.put, List.setIfInBounds_toArray, List.set_cons_zero, List.set_cons_succ]
      refine anyZ_free (i := 10) (oi := ?oi_11) (v := ?v_11) ?hi_11 ?hs_11 ?hf_11 ?hr_11 ?hQ_11 (Or.inl ⟨?hw_11, ?hy_11⟩) ?hrest_11
      case hi_11 => (simp only [List.getElem?_toArray, List.getElem?_cons_succ, List.getElem?_cons_zero]; exact rfl)
      case hs_11 => kernel_rfl
      case hf_11 => kernel_rfl
      case hr_11 => kernel_rfl
      case hQ_11 => exact fun _ _ _ h => h
      case hw_11 => rfl
      case hy_11 => (intro w _; go_simp; try with_reducible rfl)
      try simp only [Act.put, List.setIfInBounds_toArray, List.set_cons_zero, List.set_cons_succ]
      refine anyZ_free (i := 11) (oi := ?oi_12) (v := ?v_12) ?hi_12 ?hs_12 ?hf_12 ?hr_12 ?hQ_12 (Or.inl ⟨?hw_12, ?hy_12⟩) ?hrest_12
      case hi_12 => (simp only [List.getElem?_toArray, List.getElem?_cons_succ, List.getElem?_cons_zero]; exact rfl)
      case hs_12 => kernel_rfl
      case hf_12 => kernel_rfl
      case hr_12 => kernel_rfl
      case hQ_12 => exact fun _ _ _ h => h
      case hw_12 => rfl
      case hy_12 => (intro w _; go_simp; try with_reducible rfl)
      try simp only [Act.put, List.setIfInBounds_toArray, List.set_cons_zero, List.set_cons_succ]
      refine anyZ_take (i := 12) (oi := ?oi_13) (v := ?v_13) ?hi_13 ?hz_13 ?hs_13 ?hf_13 ?hr_13 ?hQ_13 (Or.inl ⟨?hw_13, ?hy_13⟩) ?hS_13 ?hrest_13
      case hi_13 => (simp only [List.getElem?_toArray, List.getElem?_cons_succ, List.getElem?_cons_zero]; exact rfl)
      case hz_13 => kernel_rfl
      case hs_13 => kernel_rfl
      case hf_13 => kernel_rfl
      case hr_13 => kernel_rfl
      case hQ_13 => exact fun _ _ _ h => h
      case hw_13 => rfl
      case hS_13 => assumption
      case hy_13 => (intro w hSw; (try dsimp only at hSw); go_simp; try with_reducible rfl)
      try simp only [Act.put, List.setIfInBounds_toArray, List.set_cons_zero, List.set_cons_succ]
      refine anyZ_free (i := 13) (oi := ?oi_14) (v := ?v_14) ?hi_14 ?hs_14 ?hf_14 ?hr_14 ?hQ_14 (Or.inl ⟨?hw_14, ?hy_14⟩) ?hrest_14
      case hi_14 => (simp only [List.getElem?_toArray, List.getElem?_cons_succ, List.getElem?_cons_zero]; exact rfl)
      case hs_14 => kernel_rfl
      case hf_14 => kernel_rfl
      case hr_14 => kernel_rfl
      case hQ_14 => exact fun _ _ _ h => h
      case hw_14 => rfl
      case hy_14 => (intro w _; go_simp; try with_reducible rfl)
      try simp only [Act.put, List.setIfInBounds_toArray, List.set_cons_zero, List.set_cons_succ]
      refine anyZ_free (i := 14) (oi := ?oi_15) (v := ?v_15) ?hi_15 ?hs_15 ?hf_15 ?hr_15 ?hQ_15 (Or.inl ⟨?hw_15, ?hy_15⟩) ?hrest_15
      case hi_15 => (simp only [List.getElem?_toArray, List.getElem?_cons_succ, List.getElem?_cons_zero]; exact rfl)
      case hs_15 => kernel_rfl
      case hf_15 => kernel_rfl
      case hr_15 => kernel_rfl
      case hQ_15 => exact fun _ _ _ h => h
      case hw_15 => rfl
      case hy_15 => (intro w _; go_simp; try with_reducible rfl)
      try simp only [Act.put, List.setIfInBounds_toArray, List.set_cons_zero, List.set_cons_succ]
      refine anyZ_take (i := 15) (oi := ?oi_16) (v := ?v_16) ?hi_16 ?hz_16 ?hs_16 ?hf_16 ?hr_16 ?hQ_16 (Or.inl ⟨?hw_16, ?hy_16⟩) ?hS_16 ?hrest_16
      case hi_16 => (simp only [List.getElem?_toArray, List.getElem?_cons_succ, List.getElem?_cons_zero]; exact rfl)
      case hz_16 => kernel_rfl
      case hs_16 => kernel_rfl
      case hf_16 => kernel_rfl
      case hr_16 => kernel_rfl
      case hQ_16 => exact fun _ _ _ h => h
      case hw_16 => rfl
      case hS_16 => assumption
      case hy_16 => (intro w hSw; (try dsimp only at hSw); go_simp; try with_reducible rfl)
      try simp only [Act.put, List.setIfInBounds_toArray, List.set_cons_zero, List.set_cons_succ]
      refine anyZ_ready (rs := [16]) (by kernel_rfl) (by simp) ?_
      refine (AllZ.cons (o := ?o_17) ?ho_17 (fun K hK => ?st_17) AllZ.nil)
      case ho_17 => (simp only [List.getElem?_toArray, List.getElem?_cons_succ, List.getElem?_cons_zero]; exact rfl)
      case st_17 =>
        go_simp
        (first | (go_at_call 47; first | (with_reducible refine (c1 _).mono ?_; rintro e w' ⟨rfl, rfl⟩)))
        refine hK.out _ _ (by ((try dsimp only); (exact ⟨za1, zb1, zc1, zd1⟩))) (fun hHeld => ?_)
        clear hK K
        try simp only [Act.put, List.setIfInBounds_toArray, List.set_cons_zero, List.set_cons_succ]
        refine anyZ_free (i := 17) (oi := ?oi_18) (v := ?v_18) ?hi_18 ?hs_18 ?hf_18 ?hr_18 ?hQ_18 (Or.inl ⟨?hw_18, ?hy_18⟩) ?hrest_18
        case hi_18 => (simp only [List.getElem?_toArray, List.getElem?_cons_succ, List.getElem?_cons_zero]; exact rfl)
        case hs_18 => kernel_rfl
        case hf_18 => kernel_rfl
        case hr_18 => kernel_rfl
        case hQ_18 => exact fun _ _ _ h => h
        case hw_18 => rfl
        case hy_18 => (intro w _; go_simp; try with_reducible rfl)
        try simp only [Act.put, List.setIfInBounds_toArray, List.set_cons_zero, List.set_cons_succ]
        refine anyZ_free (i := 18) (oi := ?oi_19) (v := ?v_19) ?hi_19 ?hs_19 ?hf_19 ?hr_19 ?hQ_19 (Or.inl ⟨?hw_19, ?hy_19⟩) ?hrest_19
        case hi_19 => (simp only [List.getElem?_toArray, List.getElem?_cons_succ, List.getElem?_cons_zero]; exact rfl)
        case hs_19 => kernel_rfl
        case hf_19 => kernel_rfl
        case hr_19 => kernel_rfl
        case hQ_19 => exact fun _ _ _ h => h
        case hw_19 => rfl
        case hy_19 => (intro w _; go_simp; try with_reducible rfl)
        try simp only [Act.put, List.setIfInBounds_toArray, List.set_cons_zero, List.set_cons_succ]
        refine anyZ_free (i := 19) (oi := ?oi_20) (v := ?v_20) ?hi_20 ?hs_20 ?hf_20 ?hr_20 ?hQ_20 (Or.inl ⟨?hw_20, ?hy_20⟩) ?hrest_20
        case hi_20 => (simp only [List.getElem?_toArray, List.getElem?_cons_succ, List.getElem?_cons_zero]; exact rfl)
        case hs_20 => kernel_rfl
        case hf_20 => kernel_rfl
        case hr_20 => kernel_rfl
        case hQ_20 => exact fun _ _ _ h => h
        case hw_20 => rfl
        case hy_20 => (intro w _; go_simp; try with_reducible rfl)
        try simp only [Act.put, List.setIfInBounds_toArray, List.set_cons_zero, List.set_cons_succ]
        refine anyZ_free (i := 20) (oi := ?oi_21) (v := ?v_21) ?hi_21 ?hs_21 ?hf_21 ?hr_21 ?hQ_21 (Or.inl ⟨?hw_21, ?hy_21⟩) ?hrest_21
        case hi_21 => (simp only [List.getElem?_toArray, List.getElem?_cons_succ, List.getElem?_cons_zero]; exact rfl)
        case hs_21 => kernel_rfl
        case hf_21 => kernel_rfl
        case hr_21 => kernel_rfl
        case hQ_21 => exact fun _ _ _ h => h
        case hw_21 => rfl
        case hy_21 => (intro w _; go_simp; try with_reducible rfl)
        try simp only [Act.put, List.setIfInBounds_toArray, List.set_cons_zero, List.set_cons_succ]
        refine anyZ_free (i := 21) (oi := ?oi_22) (v := ?v_22) ?hi_22 ?hs_22 ?hf_22 ?hr_22 ?hQ_22 (Or.inl ⟨?hw_22, ?hy_22⟩) ?hrest_22
        case hi_22 => (simp only [List.getElem?_toArray, List.getElem?_cons_succ, List.getElem?_cons_zero]; exact rfl)
        case hs_22 => kernel_rfl
        case hf_22 => kernel_rfl
        case hr_22 => kernel_rfl
        case hQ_22 => exact fun _ _ _ h => h
        case hw_22 => rfl
        case hy_22 => (intro w _; go_simp; try with_reducible rfl)
        try simp only [Act.put, List.setIfInBounds_toArray, List.set_cons_zero, List.set_cons_succ]
        refine anyZ_free (i := 22) (oi := ?oi_23) (v := ?v_23) ?hi_23 ?hs_23 ?hf_23 ?hr_23 ?hQ_23 (Or.inl ⟨?hw_23, ?hy_23⟩) ?hrest_23
        case hi_23 => (simp only [List.getElem?_toArray, List.getElem?_cons_succ, List.getElem?_cons_zero]; exact rfl)
        case hs_23 => kernel_rfl
        case hf_23 => kernel_rfl
        case hr_23 => kernel_rfl
        case hQ_23 => exact fun _ _ _ h => h
        case hw_23 => rfl
        case hy_23 => (intro w _; go_simp; try with_reducible rfl)
        try simp only [Act.put, List.setIfInBounds_toArray, List.set_cons_zero, List.set_cons_succ]
        refine anyZ_ready (rs := [23]) (by kernel_rfl) (by simp) ?_
        refine (AllZ.last (o := ?o_24) ?ho_24 (by rfl) (fun K hK => ?st_24) AllZ.nil)
        case ho_24 => (simp only [List.getElem?_toArray, List.getElem?_cons_succ, List.getElem?_cons_zero]; exact rfl)
        case st_24 =>
          go_simp
          refine hK.out _ _ ?_
          clear hK K
          try simp only [Act.put, List.setIfInBounds_toArray, List.set_cons_zero, List.set_cons_succ]
          refine anyZ_free (i := 24) (oi := ?oi_25) (v := ?v_25) ?hi_25 ?hs_25 ?hf_25 ?hr_25 ?hQ_25 (Or.inl ⟨?hw_25, ?hy_25⟩) ?hrest_25
          case hi_25 => (simp only [List.getElem?_toArray, List.getElem?_cons_succ, List.getElem?_cons_zero]; exact rfl)
          case hs_25 => kernel_rfl
          case hf_25 => kernel_rfl
          case hr_25 => kernel_rfl
          case hQ_25 => exact fun _ _ _ h => h
          case hw_25 => rfl
          case hy_25 => (intro w _; go_simp; try with_reducible rfl)
          try simp only [Act.put, List.setIfInBounds_toArray, List.set_cons_zero, List.set_cons_succ]
          refine anyZ_ready (rs := [25]) (by kernel_rfl) (by simp) ?_
          refine (AllZ.last (o := ?o_26) ?ho_26 (by rfl) (fun K hK => ?st_26) AllZ.nil)
          case ho_26 => (simp only [List.getElem?_toArray, List.getElem?_cons_succ, List.getElem?_cons_zero]; exact rfl)
          case st_26 =>
            go_simp
            refine hK.out _ _ ?_
            clear hK K
            try simp only [Act.put, List.setIfInBounds_toArray, List.set_cons_zero, List.set_cons_succ]
            refine anyZ_free (i := 26) (oi := ?oi_27) (v := ?v_27) ?hi_27 ?hs_27 ?hf_27 ?hr_27 ?hQ_27 (Or.inl ⟨?hw_27, ?hy_27⟩) ?hrest_27
            case hi_27 => (simp only [List.getElem?_toArray, List.getElem?_cons_succ, List.getElem?_cons_zero]; exact rfl)
            case hs_27 => kernel_rfl
            case hf_27 => kernel_rfl
            case hr_27 => kernel_rfl
            case hQ_27 => exact fun _ _ _ h => h
            case hw_27 => rfl
            case hy_27 => (intro w _; go_simp; try with_reducible rfl)
            try simp only [Act.put, List.setIfInBounds_toArray, List.set_cons_zero, List.set_cons_succ]
            refine anyZ_ready (rs := [27]) (by kernel_rfl) (by simp) ?_
            refine (AllZ.last (o := ?o_28) ?ho_28 (by rfl) (fun K hK => ?st_28) AllZ.nil)
            case ho_28 => (simp only [List.getElem?_toArray, List.getElem?_cons_succ, List.getElem?_cons_zero]; exact rfl)
            case st_28 =>
              go_simp
              refine hK.out _ _ ?_
              clear hK K
              try simp only [Act.put, List.setIfInBounds_toArray, List.set_cons_zero, List.set_cons_succ]
              refine anyZ_free (i := 28) (oi := ?oi_29) (v := ?v_29) ?hi_29 ?hs_29 ?hf_29 ?hr_29 ?hQ_29 (Or.inl ⟨?hw_29, ?hy_29⟩) ?hrest_29
              case hi_29 => (simp only [List.getElem?_toArray, List.getElem?_cons_succ, List.getElem?_cons_zero]; exact rfl)
              case hs_29 => kernel_rfl
              case hf_29 => kernel_rfl
              case hr_29 => kernel_rfl
              case hQ_29 => exact fun _ _ _ h => h
              case hw_29 => rfl
              case hy_29 => (intro w _; go_simp; try with_reducible rfl)
              try simp only [Act.put, List.setIfInBounds_toArray, List.set_cons_zero, List.set_cons_succ]
              refine anyZ_ready (rs := [29]) (by kernel_rfl) (by simp) ?_
              refine (AllZ.last (o := ?o_30) ?ho_30 (by rfl) (fun K hK => ?st_30) AllZ.nil)
              case ho_30 => (simp only [List.getElem?_toArray, List.getElem?_cons_succ, List.getElem?_cons_zero]; exact rfl)
              case st_30 =>
                go_simp
                refine hK.out _ _ ?_
                clear hK K
                try simp only [Act.put, List.setIfInBounds_toArray, List.set_cons_zero, List.set_cons_succ]
                refine anyZ_done (by kernel_rfl) ?_ _
                refine NoPanic.normal ?_
                have tv3 : Hid (Arr (((((W2.setCell ⟨N, a, none⟩ (.int .u32 (A1 : Nat))).setCell ⟨N, b, none⟩ (.int .u32 (B1 : Nat))).setCell ⟨N, c, none⟩ (.int .u32 (C1 : Nat))).setCell ⟨N, d, none⟩ (.int .u32 (D1 : Nat))).drew) .u32 N 16 (Ob.qhalf V a b c d 16 20)) := by
                  have h := ((((tv2.out.set (z := A1) la).set (z := B1) lb).set (z := C1) lc).set (z := D1) ld).drew
                  rw [Ob.qhalf_four V xa xb xc xd xe xf 16 20 A1 B1 C1 D1 hA1.out hD1.out hC1.out hB1.out] at h
                  exact h
                have tr3 : Hid (Arr (((((W2.setCell ⟨N, a, none⟩ (.int .u32 (A1 : Nat))).setCell ⟨N, b, none⟩ (.int .u32 (B1 : Nat))).setCell ⟨N, c, none⟩ (.int .u32 (C1 : Nat))).setCell ⟨N, d, none⟩ (.int .u32 (D1 : Nat))).drew) .u32 (N + 1) 16 (fun _ => 0)) := ((((tr2.out.far (by omega) _ _).far (by omega) _ _).far (by omega) _ _).far (by omega) _ _).drew
                have hB3 : Below N w (((((W2.setCell ⟨N, a, none⟩ (.int .u32 (A1 : Nat))).setCell ⟨N, b, none⟩ (.int .u32 (B1 : Nat))).setCell ⟨N, c, none⟩ (.int .u32 (C1 : Nat))).setCell ⟨N, d, none⟩ (.int .u32 (D1 : Nat))).drew) := by (repeat' (first | (with_reducible first | exact Below.refl _ _ | assumption | refine Below.alloc ?_ ?_ _ | refine Below.drew ?_ | refine below_drewN ?_ _ | refine Below.setCell ?_ ?_ _ | refine below_via (by with_reducible assumption) ?_ ?_) | omega | (simp only [szs]; omega) | (simp only [szs] at *; omega)))
                clear hHeld za1 zb1 zc1 zd1 xa1 xb1 xc1 xd1 ya1 yb1 yc1 yd1 c1 tv2 tr2 hB2
                generalize ((((W2.setCell ⟨N, a, none⟩ (.int .u32 (A1 : Nat))).setCell ⟨N, b, none⟩ (.int .u32 (B1 : Nat))).setCell ⟨N, c, none⟩ (.int .u32 (C1 : Nat))).setCell ⟨N, d, none⟩ (.int .u32 (D1 : Nat))).drew = W3 at *
                have hw2 : Hid (Ob.Words32 (Ob.qhalf V a b c d 16 20)) := Ob.qhalf_words hw1.out _ _ _ _ _ _ (by decide) (by decide)
                obtain ⟨V', hV'⟩ : ∃ V', Hid (Ob.qhalf V a b c d 16 20 = V') := ⟨_, rfl⟩
                rw [hV'.out] at tv3 hw2 hnext
                clear hA1 hB1 hC1 hD1
                -- half 2
                obtain ⟨A2, hA2⟩ : ∃ z, Hid (Ob.s32 (V' a) (V' b) = z) := ⟨_, rfl⟩
                obtain ⟨D2, hD2⟩ : ∃ z, Hid (Ob.rot (V' d ^^^ A2) 24 = z) := ⟨_, rfl⟩
                obtain ⟨C2, hC2⟩ : ∃ z, Hid (Ob.s32 (V' c) D2 = z) := ⟨_, rfl⟩
                obtain ⟨B2, hB2⟩ : ∃ z, Hid (Ob.rot (V' b ^^^ C2) 25 = z) := ⟨_, rfl⟩
                have c2 : ∀ w, Calls Tryd.prog 47 #[.int .u32 (V' a : Nat), .int .u32 (V' b : Nat), .int .u32 (V' c : Nat), .int .u32 (V' d : Nat), .int .i64 8, .int .i64 7] w fun e w' => e = .returned (.tuple #[.int .u32 A2, .int .u32 B2, .int .u32 C2, .int .u32 D2]) ∧ w = w' := fun w => halfCW _ _ _ _ 8 7 _ _ _ _ (hw2.out _) (hw2.out _) (hw2.out _) (hw2.out _) (by decide) (by decide) hA2.out hD2.out hC2.out hB2.out w
                have za2 := tv3.out.drew.c a la
                have zb2 := tv3.out.drew.c b lb
                have zc2 := tv3.out.drew.c c lc
                have zd2 := tv3.out.drew.c d ld
                have xa2 := tv3.out.c a la
                have xb2 := tv3.out.c b lb
                have xc2 := tv3.out.c c lc
                have xd2 := tv3.out.c d ld
                have ya2 := tv3.out.f a la
                have yb2 := tv3.out.f b lb
                have yc2 := tv3.out.f c lc
                have yd2 := tv3.out.f d ld
                go_upto_region 6 with (fail)
                refine wp_region_noPanic ?_
                refine region_lastly (S := (fun w' => w'.cell? ⟨N, a, none⟩ = some (.int .u32 (V' a : Nat)) ∧ w'.cell? ⟨N, b, none⟩ = some (.int .u32 (V' b : Nat)) ∧ w'.cell? ⟨N, c, none⟩ = some (.int .u32 (V' c : Nat)) ∧ w'.cell? ⟨N, d, none⟩ = some (.int .u32 (V' d : Nat)))) [23, 25, 27, 29] (by kernel_rfl) (by ((try dsimp only); (exact ⟨za2, zb2, zc2, zd2⟩))) (fun hHeld => ?_)
                refine anyZ_free (i := 0) (oi := ?oi_31) (v := ?v_31) ?hi_31 ?hs_31 ?hf_31 ?hr_31 ?hQ_31 (Or.inl ⟨?hw_31, ?hy_31⟩) ?hrest_31
                case hi_31 => (simp only [List.getElem?_toArray, List.getElem?_cons_succ, List.getElem?_cons_zero]; exact rfl)
                case hs_31 => kernel_rfl
                case hf_31 => kernel_rfl
                case hr_31 => kernel_rfl
                case hQ_31 => exact fun _ _ _ h => h
                case hw_31 => rfl
                case hy_31 => (intro w _; go_simp; try with_reducible rfl)
                try simp only [Act.put, List.setIfInBounds_toArray, List.set_cons_zero, List.set_cons_succ]
                refine anyZ_free (i := 1) (oi := ?oi_32) (v := ?v_32) ?hi_32 ?hs_32 ?hf_32 ?hr_32 ?hQ_32 (Or.inl ⟨?hw_32, ?hy_32⟩) ?hrest_32
                case hi_32 => (simp only [List.getElem?_toArray, List.getElem?_cons_succ, List.getElem?_cons_zero]; exact rfl)
                case hs_32 => kernel_rfl
                case hf_32 => kernel_rfl
                case hr_32 => kernel_rfl
                case hQ_32 => exact fun _ _ _ h => h
                case hw_32 => rfl
                case hy_32 => (intro w _; go_simp; try with_reducible rfl)
                try simp only [Act.put, List.setIfInBounds_toArray, List.set_cons_zero, List.set_cons_succ]
                refine anyZ_free (i := 2) (oi := ?oi_33) (v := ?v_33) ?hi_33 ?hs_33 ?hf_33 ?hr_33 ?hQ_33 (Or.inl ⟨?hw_33, ?hy_33⟩) ?hrest_33
                case hi_33 => (simp only [List.getElem?_toArray, List.getElem?_cons_succ, List.getElem?_cons_zero]; exact rfl)
                case hs_33 => kernel_rfl
                case hf_33 => kernel_rfl
                case hr_33 => kernel_rfl
                case hQ_33 => exact fun _ _ _ h => h
                case hw_33 => rfl
                case hy_33 => (intro w _; go_simp; try with_reducible rfl)
                try simp only [Act.put, List.setIfInBounds_toArray, List.set_cons_zero, List.set_cons_succ]
                refine anyZ_free (i := 3) (oi := ?oi_34) (v := ?v_34) ?hi_34 ?hs_34 ?hf_34 ?hr_34 ?hQ_34 (Or.inl ⟨?hw_34, ?hy_34⟩) ?hrest_34
                case hi_34 => (simp only [List.getElem?_toArray, List.getElem?_cons_succ, List.getElem?_cons_zero]; exact rfl)
                case hs_34 => kernel_rfl
                case hf_34 => kernel_rfl
                case hr_34 => kernel_rfl
                case hQ_34 => exact fun _ _ _ h => h
                case hw_34 => rfl
                case hy_34 => (intro w _; go_simp; try with_reducible rfl)
                try simp only [Act.put, List.setIfInBounds_toArray, List.set_cons_zero, List.set_cons_succ]
                refine anyZ_free (i := 4) (oi := ?oi_35) (v := ?v_35) ?hi_35 ?hs_35 ?hf_35 ?hr_35 ?hQ_35 (Or.inl ⟨?hw_35, ?hy_35⟩) ?hrest_35
                case hi_35 => (simp only [List.getElem?_toArray, List.getElem?_cons_succ, List.getElem?_cons_zero]; exact rfl)
                case hs_35 => kernel_rfl
                case hf_35 => kernel_rfl
                case hr_35 => kernel_rfl
                case hQ_35 => exact fun _ _ _ h => h
                case hw_35 => rfl
                case hy_35 => (intro w _; go_simp; try with_reducible rfl)
                try simp only [Act.put, List.setIfInBounds_toArray, List.set_cons_zero, List.set_cons_succ]
                refine anyZ_free (i := 5) (oi := ?oi_36) (v := ?v_36) ?hi_36 ?hs_36 ?hf_36 ?hr_36 ?hQ_36 (Or.inl ⟨?hw_36, ?hy_36⟩) ?hrest_36
                case hi_36 => (simp only [List.getElem?_toArray, List.getElem?_cons_succ, List.getElem?_cons_zero]; exact rfl)
                case hs_36 => kernel_rfl
                case hf_36 => kernel_rfl
                case hr_36 => kernel_rfl
                case hQ_36 => exact fun _ _ _ h => h
                case hw_36 => rfl
                case hy_36 => (intro w _; go_simp; try with_reducible rfl)
                try simp only [Act.put, List.setIfInBounds_toArray, List.set_cons_zero, List.set_cons_succ]
                refine anyZ_take (i := 6) (oi := ?oi_37) (v := ?v_37) ?hi_37 ?hz_37 ?hs_37 ?hf_37 ?hr_37 ?hQ_37 (Or.inl ⟨?hw_37, ?hy_37⟩) ?hS_37 ?hrest_37
                case hi_37 => (simp only [List.getElem?_toArray, List.getElem?_cons_succ, List.getElem?_cons_zero]; exact rfl)
                case hz_37 => kernel_rfl
                case hs_37 => kernel_rfl
                case hf_37 => kernel_rfl
                case hr_37 => kernel_rfl
                case hQ_37 => exact fun _ _ _ h => h
                case hw_37 => rfl
                case hS_37 => assumption
                case hy_37 => (intro w hSw; (try dsimp only at hSw); go_simp; try with_reducible rfl)
                try simp only [Act.put, List.setIfInBounds_toArray, List.set_cons_zero, List.set_cons_succ]
                refine anyZ_free (i := 7) (oi := ?oi_38) (v := ?v_38) ?hi_38 ?hs_38 ?hf_38 ?hr_38 ?hQ_38 (Or.inl ⟨?hw_38, ?hy_38⟩) ?hrest_38
                case hi_38 => (simp only [List.getElem?_toArray, List.getElem?_cons_succ, List.getElem?_cons_zero]; exact rfl)
                case hs_38 => kernel_rfl
                case hf_38 => kernel_rfl
                case hr_38 => kernel_rfl
                case hQ_38 => exact fun _ _ _ h => h
                case hw_38 => rfl
                case hy_38 => (intro w _; go_simp; try with_reducible rfl)
                try simp only [Act.put, List.setIfInBounds_toArray, List.set_cons_zero, List.set_cons_succ]
                refine anyZ_free (i := 8) (oi := ?oi_39) (v := ?v_39) ?hi_39 ?hs_39 ?hf_39 ?hr_39 ?hQ_39 (Or.inl ⟨?hw_39, ?hy_39⟩) ?hrest_39
                case hi_39 => (simp only [List.getElem?_toArray, List.getElem?_cons_succ, List.getElem?_cons_zero]; exact rfl)
                case hs_39 => kernel_rfl
                case hf_39 => kernel_rfl
                case hr_39 => kernel_rfl
                case hQ_39 => exact fun _ _ _ h => h
                case hw_39 => rfl
                case hy_39 => (intro w _; go_simp; try with_reducible rfl)
                try simp only [Act.put, List.setIfInBounds_toArray, List.set_cons_zero, List.set_cons_succ]
                refine anyZ_take (i := 9) (oi := ?oi_40) (v := ?v_40) ?hi_40 ?hz_40 ?hs_40 ?hf_40 ?hr_40 ?hQ_40 (Or.inl ⟨?hw_40, ?hy_40⟩) ?hS_40 ?hrest_40
                case hi_40 => (simp only [List.getElem?_toArray, List.getElem?_cons_succ, List.getElem?_cons_zero]; exact rfl)
                case hz_40 => kernel_rfl
                case hs_40 => kernel_rfl
                case hf_40 => kernel_rfl
                case hr_40 => kernel_rfl
                case hQ_40 => exact fun _ _ _ h => h
                case hw_40 => rfl
                case hS_40 => assumption
                case hy_40 => (intro w hSw; (try dsimp only at hSw); go_simp; try with_reducible rfl)
                try simp only [Act.put, List.setIfInBounds_toArray, List.set_cons_zero, List.set_cons_succ]
                refine anyZ_free (i := 10) (oi := ?oi_41) (v := ?v_41) ?hi_41 ?hs_41 ?hf_41 ?hr_41 ?hQ_41 (Or.inl ⟨?hw_41, ?hy_41⟩) ?hrest_41
                case hi_41 => (simp only [List.getElem?_toArray, List.getElem?_cons_succ, List.getElem?_cons_zero]; exact rfl)
                case hs_41 => kernel_rfl
                case hf_41 => kernel_rfl
                case hr_41 => kernel_rfl
                case hQ_41 => exact fun _ _ _ h => h
                case hw_41 => rfl
                case hy_41 => (intro w _; go_simp; try with_reducible rfl)
                try simp only [Act.put, List.setIfInBounds_toArray, List.set_cons_zero, List.set_cons_succ]
                refine anyZ_free (i := 11) (oi := ?oi_42) (v := ?v_42) ?hi_42 ?hs_42 ?hf_42 ?hr_42 ?hQ_42 (Or.inl ⟨?hw_42, ?hy_42⟩) ?hrest_42
                case hi_42 => (simp only [List.getElem?_toArray, List.getElem?_cons_succ, List.getElem?_cons_zero]; exact rfl)
                case hs_42 => kernel_rfl
                case hf_42 => kernel_rfl
                case hr_42 => kernel_rfl
                case hQ_42 => exact fun _ _ _ h => h
                case hw_42 => rfl
                case hy_42 => (intro w _; go_simp; try with_reducible rfl)
                try simp only [Act.put, List.setIfInBounds_toArray, List.set_cons_zero, List.set_cons_succ]
                refine anyZ_take (i := 12) (oi := ?oi_43) (v := ?v_43) ?hi_43 ?hz_43 ?hs_43 ?hf_43 ?hr_43 ?hQ_43 (Or.inl ⟨?hw_43, ?hy_43⟩) ?hS_43 ?hrest_43
                case hi_43 => (simp only [List.getElem?_toArray, List.getElem?_cons_succ, List.getElem?_cons_zero]; exact rfl)
                case hz_43 => kernel_rfl
                case hs_43 => kernel_rfl
                case hf_43 => kernel_rfl
                case hr_43 => kernel_rfl
                case hQ_43 => exact fun _ _ _ h => h
                case hw_43 => rfl
                case hS_43 => assumption
                case hy_43 => (intro w hSw; (try dsimp only at hSw); go_simp; try with_reducible rfl)
                try simp only [Act.put, List.setIfInBounds_toArray, List.set_cons_zero, List.set_cons_succ]
                refine anyZ_free (i := 13) (oi := ?oi_44) (v := ?v_44) ?hi_44 ?hs_44 ?hf_44 ?hr_44 ?hQ_44 (Or.inl ⟨?hw_44, ?hy_44⟩) ?hrest_44
                case hi_44 => (simp only [List.getElem?_toArray, List.getElem?_cons_succ, List.getElem?_cons_zero]; exact rfl)
                case hs_44 => kernel_rfl
                case hf_44 => kernel_rfl
                case hr_44 => kernel_rfl
                case hQ_44 => exact fun _ _ _ h => h
                case hw_44 => rfl
                case hy_44 => (intro w _; go_simp; try with_reducible rfl)
                try simp only [Act.put, List.setIfInBounds_toArray, List.set_cons_zero, List.set_cons_succ]
                refine anyZ_free (i := 14) (oi := ?oi_45) (v := ?v_45) ?hi_45 ?hs_45 ?hf_45 ?hr_45 ?hQ_45 (Or.inl ⟨?hw_45, ?hy_45⟩) ?hrest_45
                case hi_45 => (simp only [List.getElem?_toArray, List.getElem?_cons_succ, List.getElem?_cons_zero]; exact rfl)
                case hs_45 => kernel_rfl
                case hf_45 => kernel_rfl
                case hr_45 => kernel_rfl
                case hQ_45 => exact fun _ _ _ h => h
                case hw_45 => rfl
                case hy_45 => (intro w _; go_simp; try with_reducible rfl)
                try simp only [Act.put, List.setIfInBounds_toArray, List.set_cons_zero, List.set_cons_succ]
                refine anyZ_take (i := 15) (oi := ?oi_46) (v := ?v_46) ?hi_46 ?hz_46 ?hs_46 ?hf_46 ?hr_46 ?hQ_46 (Or.inl ⟨?hw_46, ?hy_46⟩) ?hS_46 ?hrest_46
                case hi_46 => (simp only [List.getElem?_toArray, List.getElem?_cons_succ, List.getElem?_cons_zero]; exact rfl)
                case hz_46 => kernel_rfl
                case hs_46 => kernel_rfl
                case hf_46 => kernel_rfl
                case hr_46 => kernel_rfl
                case hQ_46 => exact fun _ _ _ h => h
                case hw_46 => rfl
                case hS_46 => assumption
                case hy_46 => (intro w hSw; (try dsimp only at hSw); go_simp; try with_reducible rfl)
                try simp only [Act.put, List.setIfInBounds_toArray, List.set_cons_zero, List.set_cons_succ]
                refine anyZ_ready (rs := [16]) (by kernel_rfl) (by simp) ?_
                refine (AllZ.cons (o := ?o_47) ?ho_47 (fun K hK => ?st_47) AllZ.nil)
                case ho_47 => (simp only [List.getElem?_toArray, List.getElem?_cons_succ, List.getElem?_cons_zero]; exact rfl)
                case st_47 =>
                  go_simp
                  (first | (go_at_call 47; first | (with_reducible refine (c2 _).mono ?_; rintro e w' ⟨rfl, rfl⟩)))
                  refine hK.out _ _ (by ((try dsimp only); (exact ⟨za2, zb2, zc2, zd2⟩))) (fun hHeld => ?_)
                  clear hK K
                  try simp only [Act.put, List.setIfInBounds_toArray, List.set_cons_zero, List.set_cons_succ]
                  refine anyZ_free (i := 17) (oi := ?oi_48) (v := ?v_48) ?hi_48 ?hs_48 ?hf_48 ?hr_48 ?hQ_48 (Or.inl ⟨?hw_48, ?hy_48⟩) ?hrest_48
                  case hi_48 => (simp only [List.getElem?_toArray, List.getElem?_cons_succ, List.getElem?_cons_zero]; exact rfl)
                  case hs_48 => kernel_rfl
                  case hf_48 => kernel_rfl
                  case hr_48 => kernel_rfl
                  case hQ_48 => exact fun _ _ _ h => h
                  case hw_48 => rfl
                  case hy_48 => (intro w _; go_simp; try with_reducible rfl)
                  try simp only [Act.put, List.setIfInBounds_toArray, List.set_cons_zero, List.set_cons_succ]
                  refine anyZ_free (i := 18) (oi := ?oi_49) (v := ?v_49) ?hi_49 ?hs_49 ?hf_49 ?hr_49 ?hQ_49 (Or.inl ⟨?hw_49, ?hy_49⟩) ?hrest_49
                  case hi_49 => (simp only [List.getElem?_toArray, List.getElem?_cons_succ, List.getElem?_cons_zero]; exact rfl)
                  case hs_49 => kernel_rfl
                  case hf_49 => kernel_rfl
                  case hr_49 => kernel_rfl
                  case hQ_49 => exact fun _ _ _ h => h
                  case hw_49 => rfl
                  case hy_49 => (intro w _; go_simp; try with_reducible rfl)
                  try simp only [Act.put, List.setIfInBounds_toArray, List.set_cons_zero, List.set_cons_succ]
                  refine anyZ_free (i := 19) (oi := ?oi_50) (v := ?v_50) ?hi_50 ?hs_50 ?hf_50 ?hr_50 ?hQ_50 (Or.inl ⟨?hw_50, ?hy_50⟩) ?hrest_50
                  case hi_50 => (simp only [List.getElem?_toArray, List.getElem?_cons_succ, List.getElem?_cons_zero]; exact rfl)
                  case hs_50 => kernel_rfl
                  case hf_50 => kernel_rfl
                  case hr_50 => kernel_rfl
                  case hQ_50 => exact fun _ _ _ h => h
                  case hw_50 => rfl
                  case hy_50 => (intro w _; go_simp; try with_reducible rfl)
                  try simp only [Act.put, List.setIfInBounds_toArray, List.set_cons_zero, List.set_cons_succ]
                  refine anyZ_free (i := 20) (oi := ?oi_51) (v := ?v_51) ?hi_51 ?hs_51 ?hf_51 ?hr_51 ?hQ_51 (Or.inl ⟨?hw_51, ?hy_51⟩) ?hrest_51
                  case hi_51 => (simp only [List.getElem?_toArray, List.getElem?_cons_succ, List.getElem?_cons_zero]; exact rfl)
                  case hs_51 => kernel_rfl
                  case hf_51 => kernel_rfl
                  case hr_51 => kernel_rfl
                  case hQ_51 => exact fun _ _ _ h => h
                  case hw_51 => rfl
                  case hy_51 => (intro w _; go_simp; try with_reducible rfl)
                  try simp only [Act.put, List.setIfInBounds_toArray, List.set_cons_zero, List.set_cons_succ]
                  refine anyZ_free (i := 21) (oi := ?oi_52) (v := ?v_52) ?hi_52 ?hs_52 ?hf_52 ?hr_52 ?hQ_52 (Or.inl ⟨?hw_52, ?hy_52⟩) ?hrest_52
                  case hi_52 => (simp only [List.getElem?_toArray, List.getElem?_cons_succ, List.getElem?_cons_zero]; exact rfl)
                  case hs_52 => kernel_rfl
                  case hf_52 => kernel_rfl
                  case hr_52 => kernel_rfl
                  case hQ_52 => exact fun _ _ _ h => h
                  case hw_52 => rfl
                  case hy_52 => (intro w _; go_simp; try with_reducible rfl)
                  try simp only [Act.put, List.setIfInBounds_toArray, List.set_cons_zero, List.set_cons_succ]
                  refine anyZ_free (i := 22) (oi := ?oi_53) (v := ?v_53) ?hi_53 ?hs_53 ?hf_53 ?hr_53 ?hQ_53 (Or.inl ⟨?hw_53, ?hy_53⟩) ?hrest_53
                  case hi_53 => (simp only [List.getElem?_toArray, List.getElem?_cons_succ, List.getElem?_cons_zero]; exact rfl)
                  case hs_53 => kernel_rfl
                  case hf_53 => kernel_rfl
                  case hr_53 => kernel_rfl
                  case hQ_53 => exact fun _ _ _ h => h
                  case hw_53 => rfl
                  case hy_53 => (intro w _; go_simp; try with_reducible rfl)
                  try simp only [Act.put, List.setIfInBounds_toArray, List.set_cons_zero, List.set_cons_succ]
                  refine anyZ_ready (rs := [23]) (by kernel_rfl) (by simp) ?_
                  refine (AllZ.last (o := ?o_54) ?ho_54 (by rfl) (fun K hK => ?st_54) AllZ.nil)
                  case ho_54 => (simp only [List.getElem?_toArray, List.getElem?_cons_succ, List.getElem?_cons_zero]; exact rfl)
                  case st_54 =>
                    go_simp
                    refine hK.out _ _ ?_
                    clear hK K
                    try simp only [Act.put, List.setIfInBounds_toArray, List.set_cons_zero, List.set_cons_succ]
                    refine anyZ_free (i := 24) (oi := ?oi_55) (v := ?v_55) ?hi_55 ?hs_55 ?hf_55 ?hr_55 ?hQ_55 (Or.inl ⟨?hw_55, ?hy_55⟩) ?hrest_55
                    case hi_55 => (simp only [List.getElem?_toArray, List.getElem?_cons_succ, List.getElem?_cons_zero]; exact rfl)
                    case hs_55 => kernel_rfl
                    case hf_55 => kernel_rfl
                    case hr_55 => kernel_rfl
                    case hQ_55 => exact fun _ _ _ h => h
                    case hw_55 => rfl
                    case hy_55 => (intro w _; go_simp; try with_reducible rfl)
                    try simp only [Act.put, List.setIfInBounds_toArray, List.set_cons_zero, List.set_cons_succ]
                    refine anyZ_ready (rs := [25]) (by kernel_rfl) (by simp) ?_
                    refine (AllZ.last (o := ?o_56) ?ho_56 (by rfl) (fun K hK => ?st_56) AllZ.nil)
                    case ho_56 => (simp only [List.getElem?_toArray, List.getElem?_cons_succ, List.getElem?_cons_zero]; exact rfl)
                    case st_56 =>
                      go_simp
                      refine hK.out _ _ ?_
                      clear hK K
                      try simp only [Act.put, List.setIfInBounds_toArray, List.set_cons_zero, List.set_cons_succ]
                      refine anyZ_free (i := 26) (oi := ?oi_57) (v := ?v_57) ?hi_57 ?hs_57 ?hf_57 ?hr_57 ?hQ_57 (Or.inl ⟨?hw_57, ?hy_57⟩) ?hrest_57
                      case hi_57 => (simp only [List.getElem?_toArray, List.getElem?_cons_succ, List.getElem?_cons_zero]; exact rfl)
                      case hs_57 => kernel_rfl
                      case hf_57 => kernel_rfl
                      case hr_57 => kernel_rfl
                      case hQ_57 => exact fun _ _ _ h => h
                      case hw_57 => rfl
                      case hy_57 => (intro w _; go_simp; try with_reducible rfl)
                      try simp only [Act.put, List.setIfInBounds_toArray, List.set_cons_zero, List.set_cons_succ]
                      refine anyZ_ready (rs := [27]) (by kernel_rfl) (by simp) ?_
                      refine (AllZ.last (o := ?o_58) ?ho_58 (by rfl) (fun K hK => ?st_58) AllZ.nil)
                      case ho_58 => (simp only [List.getElem?_toArray, List.getElem?_cons_succ, List.getElem?_cons_zero]; exact rfl)
                      case st_58 =>
                        go_simp
                        refine hK.out _ _ ?_
                        clear hK K
                        try simp only [Act.put, List.setIfInBounds_toArray, List.set_cons_zero, List.set_cons_succ]
                        refine anyZ_free (i := 28) (oi := ?oi_59) (v := ?v_59) ?hi_59 ?hs_59 ?hf_59 ?hr_59 ?hQ_59 (Or.inl ⟨?hw_59, ?hy_59⟩) ?hrest_59
                        case hi_59 => (simp only [List.getElem?_toArray, List.getElem?_cons_succ, List.getElem?_cons_zero]; exact rfl)
                        case hs_59 => kernel_rfl
                        case hf_59 => kernel_rfl
                        case hr_59 => kernel_rfl
                        case hQ_59 => exact fun _ _ _ h => h
                        case hw_59 => rfl
                        case hy_59 => (intro w _; go_simp; try with_reducible rfl)
                        try simp only [Act.put, List.setIfInBounds_toArray, List.set_cons_zero, List.set_cons_succ]
                        refine anyZ_ready (rs := [29]) (by kernel_rfl) (by simp) ?_
                        refine (AllZ.last (o := ?o_60) ?ho_60 (by rfl) (fun K hK => ?st_60) AllZ.nil)
                        case ho_60 => (simp only [List.getElem?_toArray, List.getElem?_cons_succ, List.getElem?_cons_zero]; exact rfl)
                        case st_60 =>
                          go_simp
                          refine hK.out _ _ ?_
                          clear hK K
                          try simp only [Act.put, List.setIfInBounds_toArray, List.set_cons_zero, List.set_cons_succ]
                          refine anyZ_done (by kernel_rfl) ?_ _
                          refine NoPanic.normal ?_
                          have tv4 : Hid (Arr (((((W3.setCell ⟨N, a, none⟩ (.int .u32 (A2 : Nat))).setCell ⟨N, b, none⟩ (.int .u32 (B2 : Nat))).setCell ⟨N, c, none⟩ (.int .u32 (C2 : Nat))).setCell ⟨N, d, none⟩ (.int .u32 (D2 : Nat))).drew) .u32 N 16 (Ob.qhalf V' a b c d 24 25)) := by
                            have h := ((((tv3.out.set (z := A2) la).set (z := B2) lb).set (z := C2) lc).set (z := D2) ld).drew
                            rw [Ob.qhalf_four V' xa xb xc xd xe xf 24 25 A2 B2 C2 D2 hA2.out hD2.out hC2.out hB2.out] at h
                            exact h
                          have tr4 : Hid (Arr (((((W3.setCell ⟨N, a, none⟩ (.int .u32 (A2 : Nat))).setCell ⟨N, b, none⟩ (.int .u32 (B2 : Nat))).setCell ⟨N, c, none⟩ (.int .u32 (C2 : Nat))).setCell ⟨N, d, none⟩ (.int .u32 (D2 : Nat))).drew) .u32 (N + 1) 16 (fun _ => 0)) := ((((tr3.out.far (by omega) _ _).far (by omega) _ _).far (by omega) _ _).far (by omega) _ _).drew
                          have hB4 : Below N w (((((W3.setCell ⟨N, a, none⟩ (.int .u32 (A2 : Nat))).setCell ⟨N, b, none⟩ (.int .u32 (B2 : Nat))).setCell ⟨N, c, none⟩ (.int .u32 (C2 : Nat))).setCell ⟨N, d, none⟩ (.int .u32 (D2 : Nat))).drew) := by (repeat' (first | (with_reducible first | exact Below.refl _ _ | assumption | refine Below.alloc ?_ ?_ _ | refine Below.drew ?_ | refine below_drewN ?_ _ | refine Below.setCell ?_ ?_ _ | refine below_via (by with_reducible assumption) ?_ ?_) | omega | (simp only [szs]; omega) | (simp only [szs] at *; omega)))
                          clear hHeld za2 zb2 zc2 zd2 xa2 xb2 xc2 xd2 ya2 yb2 yc2 yd2 c2 tv3 tr3 hB3
                          generalize ((((W3.setCell ⟨N, a, none⟩ (.int .u32 (A2 : Nat))).setCell ⟨N, b, none⟩ (.int .u32 (B2 : Nat))).setCell ⟨N, c, none⟩ (.int .u32 (C2 : Nat))).setCell ⟨N, d, none⟩ (.int .u32 (D2 : Nat))).drew = W4 at *
                          rw [← hnext.out] at tv4
                          clear hw1 hw2 hV hV' hnext hA2 hB2 hC2 hD2 ia ib ic id ja jb jc jd xa xb xc xd xe xf nab nac nad nbc nbd ncd la lb lc ld ha hb hc hd
                          go_wp2
                          go_roundw
                          case rel => exact ⟨i + 1, by omega, by go_num, tv4, tr4, hB4⟩
                          case measure => (simp only [intOf, Int.toNat_natCast]; omega)
    · obtain rfl : i = 8 := by omega
      go_upto_region 8 with (fail)
      go_wp2_with (first | ((with_reducible refine wpList_loadLit tv.out ?_ Tryd.underlying40 ?_ ?_ ?_); (focus rfl); (focus rfl); (focus kernel_rfl); simp only [Act.put, List.setIfInBounds_toArray, List.set_cons_zero, List.set_cons_succ]) | ((with_reducible refine wpList_storeLit (Ob.chaI v 8) tr.out ?_ ?_ ?_ ?_); (focus rfl); (focus rfl); (focus kernel_rfl); intro W5 hW5_ tW5_ zW5_; try simp only [Act.put, List.setIfInBounds_toArray, List.set_cons_zero, List.set_cons_succ]))
      have hB5 : Below w.heap.size w W5 := by rw [hW5_.out, hN.out]; exact below_setCells hB (by omega) _ _
      have rv := tW5_.out.loadVar Tryd.underlying40 rfl (by kernel_rfl)
      exact bodyPost_ret (v := .agg (arrL .u32 (Ob.chaI v 8) 16).toArray) (by simp [results, Tryd.results33, asAddr, rv]) rfl ⟨rfl, hB5⟩
end Go.Proofs.YtdaonbfdcpkipaaDoor

namespace Ob
/-- The sixteen words with the first i of the opening. -/
theorem layO_end (c : Nat) : ∀ j, j < 16 → layI (upd (fun _ => 0) 12 c) cha0 0 4 j = upd cha0 12 c j := by
  intro j hj
  unfold layI upd
  by_cases h : j = 12
  · subst h; simp
  · by_cases h1 : j < 4
    · simp [h1, h]
    · have h2 : cha0 j = 0 := by
        unfold cha0 cha0T
        rw [List.getD_eq_getElem?_getD, List.getElem?_eq_none (by simp; omega)]
        rfl
      simp [h1, h, h2]
theorem layI_upd (f s : Nat → Nat) (o i p c : Nat) (h : p < o ∨ o + i ≤ p) : layI (upd f p c) s o i = upd (layI f s o i) p c := by
  funext j
  unfold layI upd
  by_cases h1 : j = p
  · subst h1
    rw [if_neg (by omega), if_pos rfl, if_pos rfl]
  · rw [if_neg h1, if_neg h1]
theorem layI_congr {f g s : Nat → Nat} {o i n : Nat} (h : ∀ j, j < n → f j = g j) : ∀ j, j < n → layI f s o i j = layI g s o i j := fun j hj => by
  unfold layI
  rw [h j hj]
theorem chaF_lay (k n : Nat → Nat) (c : Nat) : ∀ j, j < 16 → layI (layI (layI (upd (fun _ => 0) 12 c) cha0 0 4) k 4 8) n 13 3 j = chaF k n c j := fun j hj => by
  rw [layI_congr (n := 16) (layI_congr (n := 16) (layO_end c)) j hj, layI_upd cha0 k 4 8 12 c (by omega)]
  rfl
end Ob
namespace Go.Proofs.YtdaonbfdcpkipaaDoor
open Go.RowKit Go.Proofs
set_option linter.unusedVariables false
set_option linter.unusedSimpArgs false
attribute [local go_sem ↓] Go.wp_at_zero Go.wp_at_succ

set_option maxHeartbeats 1000000 in
theorem wordCW (b off len cap i : Nat) (hl : 4 * i + 4 ≤ len) (hlm : len ≤ 1000) (hc : len ≤ cap) (z : Nat → Nat) (hz : ∀ i, z i < 256) (w : World) (hB : Bys w b off len z) :
    Calls Tryd.prog 46 #[.slice (some ⟨b, off, none⟩) len cap, .int .i64 i] w fun e w' => e = .returned (.int .u32 (wordAt z i : Nat)) ∧ w = w' := by
  have y : Bys w b (off + 4 * i) 4 (fun j => z (4 * i + j)) := ⟨hB.lt, fun j hj => by rw [Nat.add_assoc]; exact hB.at_ (4 * i + j) (by omega)⟩
  have hx : Hid (Ob.lowN (fun j => z (4 * i + j)) 4 = wordAt z i) := lowN_four _
  have c1 := fun cp => lowNumberW b (off + 4 * i) 4 cp (by decide) _ (fun j => hz (4 * i + j)) w y
  rw [hx.out] at c1
  have hX : wordAt z i < 4294967296 := wordX_lt hz i
  obtain ⟨X, hXe⟩ : ∃ X, Hid (wordAt z i = X) := ⟨_, rfl⟩
  rw [hXe.out] at c1 hX ⊢
  have hw : IntKind.u32.wrap (X : Int) = (X : Int) := by rw [IntKind.wrap_u32]; omega
  obtain ⟨s, hs, i2⟩ : ∃ s : Nat, Hid (4 * i = s) ∧ IntKind.i64.wrap (4 * (i : Int)) = (s : Int) := ⟨4 * i, rfl, by rw [IntKind.wrap_i64]; omega⟩
  obtain ⟨i', hi', i3⟩ : ∃ s : Nat, Hid (i + 1 = s) ∧ IntKind.i64.wrap ((i : Int) + 1) = (s : Int) := ⟨i + 1, rfl, by rw [IntKind.wrap_i64]; omega⟩
  obtain ⟨t, ht, i4⟩ : ∃ s : Nat, Hid (4 * i + 4 = s) ∧ IntKind.i64.wrap (4 * (i' : Int)) = (s : Int) := ⟨4 * i + 4, rfl, by rw [IntKind.wrap_i64]; have := hi'.out; omega⟩
  rw [hs.out] at c1
  have s0 : (0 : Int) ≤ (s : Int) := by omega
  have s1 : (s : Int) ≤ (t : Int) := by have := hs.out; have := ht.out; omega
  have s2 : (t : Int) ≤ (cap : Int) := by have := ht.out; omega
  have s3 : t - s = 4 := by have := hs.out; have := ht.out; omega
  have s4 : cap ≠ s := by have := hs.out; omega
  clear y hx hB hz hl hlm hc
  go_enter Tryd.func46, Tryd.ntmps46
  go_wp2_with (go_at_call 36; with_reducible refine (c1 _).mono ?_; rintro e w' ⟨rfl, rfl⟩)
  go_ret
  exact ⟨rfl, rfl⟩
end Go.Proofs.YtdaonbfdcpkipaaDoor

namespace Go.Proofs.YtdaonbfdcpkipaaDoor
open Go.RowKit Go.Proofs
set_option linter.unusedVariables false
set_option linter.unusedSimpArgs false
attribute [local go_sem ↓] Go.wp_at_zero Go.wp_at_succ

set_option maxHeartbeats 4000000 in
set_option maxRecDepth 4000 in
theorem sixteen_core (kb ko kc nb no nc cnt : Nat) (hkc : 32 ≤ kc) (hnc : 12 ≤ nc) (zk zn : Nat → Nat) (hzk : ∀ i, zk i < 256) (hzn : ∀ i, zn i < 256) (w : World) (hT : Tabs w) (hK : Bys w kb ko 32 zk) (hN' : Bys w nb no 12 zn) :
    Calls Tryd.prog 32 #[.slice (some ⟨kb, ko, none⟩) 32 kc, .slice (some ⟨nb, no, none⟩) 12 nc, .int .u32 cnt] w fun e w' => e = .returned (arrV .u32 (Ob.chaF (wordAt zk) (wordAt zn) cnt) 16) ∧ Below w.heap.size w w' := by
  unfold arrV
  have hT' : Hid (Tabs w) := hT
  have hK0 : Hid (Bys w kb ko 32 zk) := hK
  have hN0 : Hid (Bys w nb no 12 zn) := hN'
  have hk' : Hid (∀ i, zk i < 256) := hzk
  have hn' : Hid (∀ i, zn i < 256) := hzn
  clear hT hK hN' hzk hzn
  go_enter Tryd.func32, Tryd.ntmps32
  go_upto_region 2 with (fail)
  obtain ⟨W1, hW1⟩ : ∃ W, Hid (((w.alloc (.cells (arrL .u32 (fun _ => 0) 16).toArray 40)).alloc (.cells (arrL .u32 (Ob.upd (fun _ => 0) 12 cnt) 16).toArray 40)) = W) := ⟨_, rfl⟩
  have tr1 : Arr W1 .u32 w.heap.size 16 (fun _ => 0) := by rw [← hW1.out]; exact (Arr.new rfl).alloc _
  have tv1 : Arr W1 .u32 (w.heap.size + 1) 16 (Ob.upd (fun _ => 0) 12 cnt) := by rw [← hW1.out]; exact Arr.new (by simp)
  have hB1 : Below w.heap.size w W1 := by rw [← hW1.out]; (repeat' (first | (with_reducible first | exact Below.refl _ _ | assumption | refine Below.alloc ?_ ?_ _ | refine Below.drew ?_ | refine below_drewN ?_ _ | refine Below.setCell ?_ ?_ _ | refine below_via (by with_reducible assumption) ?_ ?_) | omega | (simp only [szs]; omega) | (simp only [szs] at *; omega)))
  change Code.wp _ _ _ _ ((w.alloc (.cells (arrL .u32 (fun _ => 0) 16).toArray 40)).alloc (.cells (arrL .u32 (Ob.upd (fun _ => 0) 12 cnt) 16).toArray 40))
  rw [hW1.out]
  clear hW1
  obtain ⟨N, hN⟩ : ∃ N, Hid (w.heap.size = N) := ⟨_, rfl⟩
  rw [hN.out] at hB1 tv1 tr1 ⊢
  have tv2 : Hid (Arr W1 .u32 (N + 1) 16 (Ob.layI (Ob.upd (fun _ => 0) 12 cnt) Ob.cha0 0 0)) := by rw [Ob.layI_zero]; exact tv1
  clear tv1
  have hTl : 2 ≤ N := by have := hT'.out.lt; rw [hN.out] at this; exact this
  go_wp2
  go_loopw [13] (fun s wr => ∃ (i : Nat), i ≤ 4 ∧ s = .int .i64 (i : Nat) ∧ Hid (Arr wr .u32 N 16 (fun _ => 0)) ∧ Hid (Arr wr .u32 (N + 1) 16 (Ob.layI (Ob.upd (fun _ => 0) 12 cnt) Ob.cha0 0 i)) ∧ Below N w wr) (fun s _ => 4 - (intOf s).toNat)
  case atStart => exact ⟨0, by omega, rfl, tr1, tv2, hB1⟩
  case round =>
    clear tr1 tv2 hB1
    obtain ⟨i, hi, rfl, tr, tv, hB⟩ := hrel
    by_cases hlt : i < 4
    · have hT1 := hT'.out.below hB hTl
      have q0 := hT1.first.c i hlt
      have q1 := tv.out.c i (by omega)
      have q2 := tv.out.f i (by omega)
      have i0 : (i : Int) < 4 := by omega
      have i1 : (0 : Int) ≤ (i : Int) := by omega
      have i2 : (i : Int) < 16 := by omega
      have q := tv.out.set (i := 0 + i) (z := Ob.cha0 i) (by omega)
      rw [Ob.layI_succ, Nat.zero_add] at q
      have hB1 : Below N w (wr.setCell ⟨N + 1, i, none⟩ (.int .u32 (Ob.cha0 i : Nat))) := by (repeat' (first | (with_reducible first | exact Below.refl _ _ | assumption | refine Below.alloc ?_ ?_ _ | refine Below.drew ?_ | refine below_drewN ?_ _ | refine Below.setCell ?_ ?_ _ | refine below_via (by with_reducible assumption) ?_ ?_) | omega | (simp only [szs]; omega) | (simp only [szs] at *; omega)))
      clear hT1
      go_wp2
      go_roundw
      case rel => exact ⟨i + 1, by omega, by go_num, tr.out.far (by omega) _ _, q, hB1⟩
      case measure => (simp only [intOf, Int.toNat_natCast]; omega)
    · obtain rfl : i = 4 := by omega
      obtain ⟨f1, hf1⟩ : ∃ f, Hid (Ob.layI (Ob.upd (fun _ => 0) 12 cnt) Ob.cha0 0 4 = f) := ⟨_, rfl⟩
      rw [hf1.out] at tv
      have tv2 : Hid (Arr wr .u32 (N + 1) 16 (Ob.layI f1 (wordAt zk) 4 0)) := by rw [Ob.layI_zero]; exact tv
      go_upto_region 7 with (fail)
      rw [show ((4 : Nat) : Int) = 4 from rfl]
      go_wp2
      go_loopw [22] (fun s wr => ∃ (i : Nat), i ≤ 8 ∧ s = .int .i64 (i : Nat) ∧ Hid (Arr wr .u32 N 16 (fun _ => 0)) ∧ Hid (Arr wr .u32 (N + 1) 16 (Ob.layI f1 (wordAt zk) 4 i)) ∧ Below N w wr) (fun s _ => 8 - (intOf s).toNat)
      case atStart => exact ⟨0, by omega, rfl, tr, tv2, hB⟩
      case round =>
        clear tr tv tv2 hB
        obtain ⟨i, hi, rfl, tr, tv, hB⟩ := hrel
        by_cases hlt : i < 8
        · have c1 := wordCW kb ko 32 kc i (by omega) (by decide) hkc zk hk'.out wr (hK0.out.below (by rw [hN.out]; exact hB) hK0.out.lt)
          have q1 := tv.out.c (4 + i) (by omega)
          have q2 := tv.out.f (4 + i) (by omega)
          have i0 : (i : Int) < 8 := by omega
          have i1 : (0 : Int) ≤ (i : Int) := by omega
          have i3 : IntKind.i64.wrap (4 + (i : Int)) = ((4 + i : Nat) : Int) := by rw [IntKind.wrap_i64]; omega
          have i4 : ((4 + i : Nat) : Int) < 16 := by omega
          have i5 : (0 : Int) ≤ ((4 + i : Nat) : Int) := by omega
          have q := tv.out.set (i := 4 + i) (z := wordAt zk i) (by omega)
          rw [Ob.layI_succ] at q
          obtain ⟨k, hk⟩ : ∃ k, Hid (4 + i = k) := ⟨_, rfl⟩
          rw [hk.out] at i3 i4 i5 q1 q2 q
          have hB1 : Below N w (wr.setCell ⟨N + 1, k, none⟩ (.int .u32 (wordAt zk i : Nat))) := by (repeat' (first | (with_reducible first | exact Below.refl _ _ | assumption | refine Below.alloc ?_ ?_ _ | refine Below.drew ?_ | refine below_drewN ?_ _ | refine Below.setCell ?_ ?_ _ | refine below_via (by with_reducible assumption) ?_ ?_) | omega | (simp only [szs]; omega) | (simp only [szs] at *; omega)))
          go_wp2_with (go_at_call 46; with_reducible refine c1.mono ?_; rintro e w' ⟨rfl, rfl⟩)
          go_roundw
          case rel => exact ⟨i + 1, by omega, by go_num, tr.out.far (by omega) _ _, q, hB1⟩
          case measure => (simp only [intOf, Int.toNat_natCast]; omega)
        · obtain rfl : i = 8 := by omega
          obtain ⟨f2, hf2⟩ : ∃ f, Hid (Ob.layI f1 (wordAt zk) 4 8 = f) := ⟨_, rfl⟩
          rw [hf2.out] at tv
          have tv2 : Hid (Arr wr .u32 (N + 1) 16 (Ob.layI f2 (wordAt zn) 13 0)) := by rw [Ob.layI_zero]; exact tv
          go_upto_region 12 with (fail)
          rw [show ((8 : Nat) : Int) = 8 from rfl]
          go_wp2
          go_loopw [32] (fun s wr => ∃ (i : Nat), i ≤ 3 ∧ s = .int .i64 (i : Nat) ∧ Hid (Arr wr .u32 N 16 (fun _ => 0)) ∧ Hid (Arr wr .u32 (N + 1) 16 (Ob.layI f2 (wordAt zn) 13 i)) ∧ Below N w wr) (fun s _ => 3 - (intOf s).toNat)
          case atStart => exact ⟨0, by omega, rfl, tr, tv2, hB⟩
          case round =>
            clear tr tv tv2 hB
            obtain ⟨i, hi, rfl, tr, tv, hB⟩ := hrel
            by_cases hlt : i < 3
            · have c1 := wordCW nb no 12 nc i (by omega) (by decide) hnc zn hn'.out wr (hN0.out.below (by rw [hN.out]; exact hB) hN0.out.lt)
              have q1 := tv.out.c (13 + i) (by omega)
              have q2 := tv.out.f (13 + i) (by omega)
              have i0 : (i : Int) < 3 := by omega
              have i1 : (0 : Int) ≤ (i : Int) := by omega
              have i3 : IntKind.i64.wrap (13 + (i : Int)) = ((13 + i : Nat) : Int) := by rw [IntKind.wrap_i64]; omega
              have i4 : ((13 + i : Nat) : Int) < 16 := by omega
              have i5 : (0 : Int) ≤ ((13 + i : Nat) : Int) := by omega
              have q := tv.out.set (i := 13 + i) (z := wordAt zn i) (by omega)
              rw [Ob.layI_succ] at q
              obtain ⟨k, hk⟩ : ∃ k, Hid (13 + i = k) := ⟨_, rfl⟩
              rw [hk.out] at i3 i4 i5 q1 q2 q
              have hB1 : Below N w (wr.setCell ⟨N + 1, k, none⟩ (.int .u32 (wordAt zn i : Nat))) := by (repeat' (first | (with_reducible first | exact Below.refl _ _ | assumption | refine Below.alloc ?_ ?_ _ | refine Below.drew ?_ | refine below_drewN ?_ _ | refine Below.setCell ?_ ?_ _ | refine below_via (by with_reducible assumption) ?_ ?_) | omega | (simp only [szs]; omega) | (simp only [szs] at *; omega)))
              go_wp2_with (go_at_call 46; with_reducible refine c1.mono ?_; rintro e w' ⟨rfl, rfl⟩)
              go_roundw
              case rel => exact ⟨i + 1, by omega, by go_num, tr.out.far (by omega) _ _, q, hB1⟩
              case measure => (simp only [intOf, Int.toNat_natCast]; omega)
            · obtain rfl : i = 3 := by omega
              have t0 : Arr wr .u32 (N + 1) 16 (Ob.chaF (wordAt zk) (wordAt zn) cnt) := tv.out.congr (fun j hj => by rw [← hf2.out, ← hf1.out]; exact Ob.chaF_lay _ _ _ j hj)
              go_upto_region 17 with (fail)
              rw [show ((3 : Nat) : Int) = 3 from rfl]
              go_wp2_with (first | ((with_reducible refine wpList_loadLit t0 ?_ Tryd.underlying40 ?_ ?_ ?_); (focus rfl); (focus rfl); (focus kernel_rfl); simp only [Act.put, List.setIfInBounds_toArray, List.set_cons_zero, List.set_cons_succ]) | ((with_reducible refine wpList_storeLit (Ob.chaF (wordAt zk) (wordAt zn) cnt) tr.out ?_ ?_ ?_ ?_); (focus rfl); (focus rfl); (focus kernel_rfl); intro W5 hW5_ tW5_ zW5_; try simp only [Act.put, List.setIfInBounds_toArray, List.set_cons_zero, List.set_cons_succ]))
              have hB5 : Below w.heap.size w W5 := by rw [hW5_.out, hN.out]; exact below_setCells hB (by omega) _ _
              have rv := tW5_.out.loadVar Tryd.underlying40 rfl (by kernel_rfl)
              exact bodyPost_ret (v := .agg (arrL .u32 (Ob.chaF (wordAt zk) (wordAt zn) cnt) 16).toArray) (by simp [results, Tryd.results32, asAddr, rv]) rfl ⟨rfl, hB5⟩
end Go.Proofs.YtdaonbfdcpkipaaDoor

namespace Go.Proofs.YtdaonbfdcpkipaaDoor
open Go.RowKit Go.Proofs
set_option linter.unusedVariables false
set_option linter.unusedSimpArgs false
attribute [local go_sem ↓] Go.wp_at_zero Go.wp_at_succ

/-- The first i words with what they were first. -/
def sumI (v f : Nat → Nat) (i j : Nat) : Nat := if j < i then Ob.s32 (v j) (f j) else v j
theorem sumI_zero (v f : Nat → Nat) : sumI v f 0 = v := by funext j; simp [sumI]
theorem sumI_self (v f : Nat → Nat) (i : Nat) : sumI v f i i = v i := by simp [sumI]
theorem sumI_succ (v f : Nat → Nat) (i : Nat) : Ob.upd (sumI v f i) i (Ob.s32 (v i) (f i)) = sumI v f (i + 1) := by
  funext j
  unfold Ob.upd sumI
  by_cases h1 : j = i
  · subst h1; simp
  · by_cases h2 : j < i
    · simp [h1, h2, Nat.lt_succ_of_lt h2]
    · simp [h1, h2]; omega

set_option maxHeartbeats 4000000 in
set_option maxRecDepth 4000 in
theorem block_core (kb ko kc nb no nc cnt : Nat) (hkc : 32 ≤ kc) (hnc : 12 ≤ nc) (hcnt : cnt < 4294967296) (zk zn : Nat → Nat) (hzk : ∀ i, zk i < 256) (hzn : ∀ i, zn i < 256) (w : World) (hT : Tabs w) (hK : Bys w kb ko 32 zk) (hN' : Bys w nb no 12 zn) :
    Calls Tryd.prog 20 #[.slice (some ⟨kb, ko, none⟩) 32 kc, .slice (some ⟨nb, no, none⟩) 12 nc, .int .u32 cnt] w fun e w' => ∃ g, e = .returned (.slice (some ⟨g, 0, none⟩) 64 64) ∧ w.heap.size ≤ g ∧ w'.ownsRow g 5 1 (.slice (some ⟨g, 0, none⟩) 64 64) 64 (vals (lowBy (Ob.chaB (wordAt zk) (wordAt zn) cnt)) 64) ∧ Below w.heap.size w w' := by
  have hT' : Hid (Tabs w) := hT
  have wk : Hid (Ob.Words32 (wordAt zk)) := wordX_lt hzk
  have wn : Hid (Ob.Words32 (wordAt zn)) := wordX_lt hzn
  have c0 := sixteen_core kb ko kc nb no nc cnt hkc hnc zk zn hzk hzn w hT hK hN'
  have hFw : Hid (Ob.Words32 (Ob.chaF (wordAt zk) (wordAt zn) cnt)) := Ob.chaF_words wk.out wn.out hcnt
  have hres : Hid (∀ j, Ob.chaB (wordAt zk) (wordAt zn) cnt j = Ob.s32 (Ob.chaN (Ob.chaF (wordAt zk) (wordAt zn) cnt) 10 j) (Ob.chaF (wordAt zk) (wordAt zn) cnt j)) := fun _ => rfl
  obtain ⟨D, hD⟩ : ∃ D, Hid (Ob.chaB (wordAt zk) (wordAt zn) cnt = D) := ⟨_, rfl⟩
  obtain ⟨F, hF⟩ : ∃ F, Hid (Ob.chaF (wordAt zk) (wordAt zn) cnt = F) := ⟨_, rfl⟩
  rw [hF.out] at c0 hFw hres
  rw [hD.out] at hres ⊢
  obtain ⟨N, hN⟩ : ∃ N, Hid (w.heap.size = N) := ⟨_, rfl⟩
  rw [hN.out] at c0 ⊢
  unfold arrV at c0
  have hTl : 2 ≤ N := by have := hT'.out.lt; rw [hN.out] at this; exact this
  have hsz : Hid (∀ W, Below N w W → N ≤ W.heap.size) := fun W h => by have := h.size; have := hN.out; omega
  clear hT hK hN' hzk hzn
  go_enter Tryd.func20, Tryd.ntmps20
  go_upto_region 2 with (first | (go_at_call 32; with_reducible refine c0.mono ?_; rintro e W0 ⟨rfl, b0⟩) | ((with_reducible refine wpList_storeLit (F) Arr.new16 ?_ ?_ ?_ ?_); (focus rfl); (focus rfl); (focus kernel_rfl); intro W1 hW1_ tW1_ zW1_; try simp only [Act.put, List.setIfInBounds_toArray, List.set_cons_zero, List.set_cons_succ]))
  have hB1 : Below N w W1 := by rw [hW1_.out]; exact below_setCells (b0.alloc (hsz.out _ b0) _) (hsz.out _ b0) _ _
  obtain ⟨X, hX⟩ : ∃ X, Hid (W0.heap.size = X) := ⟨_, rfl⟩
  have tf1 := tW1_.out
  have lX : N ≤ X := by have := hsz.out _ b0; have := hX.out; omega
  have hX1 : Hid (W1.heap.size = X + 1) := by show _ = _; rw [zW1_, World.size_alloc, hX.out]
  rw [hX.out] at tf1 ⊢
  clear hW1_ tW1_ zW1_ b0 c0
  have tf1' : Hid (Arr W1 .u32 X 16 F) := tf1
  go_upto_region 3 with (first | ((with_reducible refine wpList_loadLit tf1 ?_ Tryd.underlying40 ?_ ?_ ?_); (focus rfl); (focus rfl); (focus kernel_rfl); simp only [Act.put, List.setIfInBounds_toArray, List.set_cons_zero, List.set_cons_succ]) | ((with_reducible refine wpList_storeLit (F) Arr.new16 ?_ ?_ ?_ ?_); (focus rfl); (focus rfl); (focus kernel_rfl); intro W2 hW2_ tW2_ zW2_; try simp only [Act.put, List.setIfInBounds_toArray, List.set_cons_zero, List.set_cons_succ]))
  have hB2 : Below N w W2 := by rw [hW2_.out]; exact below_setCells (hB1.alloc (hsz.out _ hB1) _) (hsz.out _ hB1) _ _
  have tf2 : Hid (Arr W2 .u32 X 16 F) := by rw [hW2_.out]; exact (tf1.alloc _).farCells (by have := hX1.out; omega) _ _
  have tv2 := tW2_.out
  rw [hX1.out] at tv2 ⊢
  have hX2 : X + 1 < W2.heap.size := tv2.lt
  have tv2' : Hid (Arr W2 .u32 (X + 1) 16 (Ob.chaN F 0)) := tv2
  clear hW2_ tW2_ zW2_ tf1 tf1' tv2 hB1 hX1
  go_wp2
  go_loopw [15] (fun s wr => ∃ (i : Nat), i ≤ 10 ∧ s = .int .i64 (i : Nat) ∧ Hid (Arr wr .u32 X 16 F) ∧ Hid (Arr wr .u32 (X + 1) 16 (Ob.chaN F i)) ∧ Below N w wr) (fun s _ => 10 - (intOf s).toNat)
  case atStart => exact ⟨0, by omega, rfl, tf2, tv2', hB2⟩
  case round =>
    clear tf2 tv2' hB2 hX2
    obtain ⟨i, hi, rfl, tf, tv, hB⟩ := hrel
    by_cases hlt : i < 10
    · have hT1 := hT'.out.below hB hTl
      have c1 := mixedC_core (Ob.chaN F i) (Ob.chaN_words hFw.out i) wr hT1
      have hn1 : Hid (Ob.chaR (Ob.chaN F i) = Ob.chaN F (i + 1)) := rfl
      rw [hn1.out] at c1
      unfold arrV at c1
      obtain ⟨V, hV⟩ : ∃ V, Hid (Ob.chaN F i = V) := ⟨_, rfl⟩
      obtain ⟨V', hV'⟩ : ∃ V, Hid (Ob.chaN F (i + 1) = V) := ⟨_, rfl⟩
      rw [hV.out] at tv
      rw [hV.out, hV'.out] at c1
      have i0 : (i : Int) < 10 := by omega
      have i1 : (0 : Int) ≤ (i : Int) := by omega
      have lt1 := tv.out.lt
      clear hT1 hn1
      go_upto_region 5 with (fail)
      go_upto_region 6 with (first | ((with_reducible refine wpList_loadLit tv.out ?_ Tryd.underlying40 ?_ ?_ ?_); (focus rfl); (focus rfl); (focus kernel_rfl); simp only [Act.put, List.setIfInBounds_toArray, List.set_cons_zero, List.set_cons_succ]) | (go_at_call 33; with_reducible refine c1.mono ?_; rintro e W3 ⟨rfl, b3⟩; have tv3 := tv.out.below b3 lt1) | ((with_reducible refine wpList_storeLit (V') tv3 ?_ ?_ ?_ ?_); (focus rfl); (focus rfl); (focus kernel_rfl); intro W4 hW4_ tW4_ zW4_; try simp only [Act.put, List.setIfInBounds_toArray, List.set_cons_zero, List.set_cons_succ]))
      have hB4 : Below N w W4 := by rw [hW4_.out]; exact below_setCells (below_via b3 hB (hsz.out _ hB)) (by omega) _ _
      have tf4 : Hid (Arr W4 .u32 X 16 F) := by rw [hW4_.out]; exact (tf.out.below b3 tf.out.lt).farCells (by omega) _ _
      have tv4 : Hid (Arr W4 .u32 (X + 1) 16 (Ob.chaN F (i + 1))) := by rw [hV'.out]; exact tW4_.out
      clear hW4_ tW4_ zW4_ b3 tv3 tf tv hB c1 hV hV' lt1
      go_wp2
      go_roundw
      case rel => exact ⟨i + 1, by omega, by go_num, tf4, tv4, hB4⟩
      case measure => (simp only [intOf, Int.toNat_natCast]; omega)
    · obtain rfl : i = 10 := by omega
      obtain ⟨V, hV⟩ : ∃ V, Hid (Ob.chaN F 10 = V) := ⟨_, rfl⟩
      rw [hV.out] at tv hres
      have tv2 : Hid (Arr wr .u32 (X + 1) 16 (sumI V F 0)) := by rw [sumI_zero]; exact tv
      go_upto_region 7 with (fail)
      rw [show ((10 : Nat) : Int) = 10 from rfl]
      go_wp2
      go_loopw [20] (fun s wr => ∃ (i : Nat), i ≤ 16 ∧ s = .int .i64 (i : Nat) ∧ Hid (Arr wr .u32 X 16 F) ∧ Hid (Arr wr .u32 (X + 1) 16 (sumI V F i)) ∧ Below N w wr) (fun s _ => 16 - (intOf s).toNat)
      case atStart => exact ⟨0, by omega, rfl, tf, tv2, hB⟩
      case round =>
        clear tf tv tv2 hB
        obtain ⟨i, hi, rfl, tf, tv, hB⟩ := hrel
        by_cases hlt : i < 16
        · have q0 := tf.out.drew.c i hlt
          have q1 := tv.out.drew.c i hlt
          rw [sumI_self] at q1
          have p1 := tv.out.c i hlt
          have p2 := tv.out.f i hlt
          have i0 : (i : Int) < 16 := by omega
          have i1 : (0 : Int) ≤ (i : Int) := by omega
          have q := tv.out.set (i := i) (z := Ob.s32 (V i) (F i)) hlt
          rw [sumI_succ] at q
          obtain ⟨x, hx⟩ : ∃ x, Hid (V i = x) := ⟨_, rfl⟩
          obtain ⟨y, hy⟩ : ∃ x, Hid (F i = x) := ⟨_, rfl⟩
          obtain ⟨Z, hZ⟩ : ∃ X, Hid (Ob.s32 x y = X) := ⟨_, rfl⟩
          rw [sumI_self, hx.out] at p1
          rw [hx.out] at q1
          rw [hy.out] at q0
          rw [hx.out, hy.out, hZ.out] at q
          have sX : IntKind.u32.wrap ((x : Int) + (y : Int)) = (Z : Int) := by rw [← hZ.out, IntKind.wrap_u32]; unfold Ob.s32; omega
          go_upto_region 10 with (fail)
          refine wp_region_noPanic ?_
          refine region_lastly (S := (fun w' => w'.cell? ⟨X + 1, i, none⟩ = some (.int .u32 (x : Nat)) ∧ w'.cell? ⟨X, i, none⟩ = some (.int .u32 (y : Nat)))) [8] (by kernel_rfl) (by ((try dsimp only); (exact ⟨q1, q0⟩))) (fun hHeld => ?_)
          refine anyZ_free (i := 0) (oi := ?oi_1) (v := ?v_1) ?hi_1 ?hs_1 ?hf_1 ?hr_1 ?hQ_1 (Or.inl ⟨?hw_1, ?hy_1⟩) ?hrest_1
          case hi_1 => (simp only [List.getElem?_toArray, List.getElem?_cons_succ, List.getElem?_cons_zero]; exact rfl)
          case hs_1 => kernel_rfl
          case hf_1 => kernel_rfl
          case hr_1 => kernel_rfl
          case hQ_1 => exact fun _ _ _ h => h
          case hw_1 => rfl
          case hy_1 => (intro w _; go_simp; try with_reducible rfl)
          try simp only [Act.put, List.setIfInBounds_toArray, List.set_cons_zero, List.set_cons_succ]
          refine anyZ_free (i := 1) (oi := ?oi_2) (v := ?v_2) ?hi_2 ?hs_2 ?hf_2 ?hr_2 ?hQ_2 (Or.inl ⟨?hw_2, ?hy_2⟩) ?hrest_2
          case hi_2 => (simp only [List.getElem?_toArray, List.getElem?_cons_succ, List.getElem?_cons_zero]; exact rfl)
          case hs_2 => kernel_rfl
          case hf_2 => kernel_rfl
          case hr_2 => kernel_rfl
          case hQ_2 => exact fun _ _ _ h => h
          case hw_2 => rfl
          case hy_2 => (intro w _; go_simp; try with_reducible rfl)
          try simp only [Act.put, List.setIfInBounds_toArray, List.set_cons_zero, List.set_cons_succ]
          refine anyZ_take (i := 2) (oi := ?oi_3) (v := ?v_3) ?hi_3 ?hz_3 ?hs_3 ?hf_3 ?hr_3 ?hQ_3 (Or.inl ⟨?hw_3, ?hy_3⟩) ?hS_3 ?hrest_3
          case hi_3 => (simp only [List.getElem?_toArray, List.getElem?_cons_succ, List.getElem?_cons_zero]; exact rfl)
          case hz_3 => kernel_rfl
          case hs_3 => kernel_rfl
          case hf_3 => kernel_rfl
          case hr_3 => kernel_rfl
          case hQ_3 => exact fun _ _ _ h => h
          case hw_3 => rfl
          case hS_3 => assumption
          case hy_3 => (intro w hSw; (try dsimp only at hSw); go_simp; try with_reducible rfl)
          try simp only [Act.put, List.setIfInBounds_toArray, List.set_cons_zero, List.set_cons_succ]
          refine anyZ_free (i := 3) (oi := ?oi_4) (v := ?v_4) ?hi_4 ?hs_4 ?hf_4 ?hr_4 ?hQ_4 (Or.inl ⟨?hw_4, ?hy_4⟩) ?hrest_4
          case hi_4 => (simp only [List.getElem?_toArray, List.getElem?_cons_succ, List.getElem?_cons_zero]; exact rfl)
          case hs_4 => kernel_rfl
          case hf_4 => kernel_rfl
          case hr_4 => kernel_rfl
          case hQ_4 => exact fun _ _ _ h => h
          case hw_4 => rfl
          case hy_4 => (intro w _; go_simp; try with_reducible rfl)
          try simp only [Act.put, List.setIfInBounds_toArray, List.set_cons_zero, List.set_cons_succ]
          refine anyZ_free (i := 4) (oi := ?oi_5) (v := ?v_5) ?hi_5 ?hs_5 ?hf_5 ?hr_5 ?hQ_5 (Or.inl ⟨?hw_5, ?hy_5⟩) ?hrest_5
          case hi_5 => (simp only [List.getElem?_toArray, List.getElem?_cons_succ, List.getElem?_cons_zero]; exact rfl)
          case hs_5 => kernel_rfl
          case hf_5 => kernel_rfl
          case hr_5 => kernel_rfl
          case hQ_5 => exact fun _ _ _ h => h
          case hw_5 => rfl
          case hy_5 => (intro w _; go_simp; try with_reducible rfl)
          try simp only [Act.put, List.setIfInBounds_toArray, List.set_cons_zero, List.set_cons_succ]
          refine anyZ_take (i := 5) (oi := ?oi_6) (v := ?v_6) ?hi_6 ?hz_6 ?hs_6 ?hf_6 ?hr_6 ?hQ_6 (Or.inl ⟨?hw_6, ?hy_6⟩) ?hS_6 ?hrest_6
          case hi_6 => (simp only [List.getElem?_toArray, List.getElem?_cons_succ, List.getElem?_cons_zero]; exact rfl)
          case hz_6 => kernel_rfl
          case hs_6 => kernel_rfl
          case hf_6 => kernel_rfl
          case hr_6 => kernel_rfl
          case hQ_6 => exact fun _ _ _ h => h
          case hw_6 => rfl
          case hS_6 => assumption
          case hy_6 => (intro w hSw; (try dsimp only at hSw); go_simp; try with_reducible rfl)
          try simp only [Act.put, List.setIfInBounds_toArray, List.set_cons_zero, List.set_cons_succ]
          refine anyZ_free (i := 6) (oi := ?oi_7) (v := ?v_7) ?hi_7 ?hs_7 ?hf_7 ?hr_7 ?hQ_7 (Or.inl ⟨?hw_7, ?hy_7⟩) ?hrest_7
          case hi_7 => (simp only [List.getElem?_toArray, List.getElem?_cons_succ, List.getElem?_cons_zero]; exact rfl)
          case hs_7 => kernel_rfl
          case hf_7 => kernel_rfl
          case hr_7 => kernel_rfl
          case hQ_7 => exact fun _ _ _ h => h
          case hw_7 => rfl
          case hy_7 => (intro w _; go_simp; try with_reducible rfl)
          try simp only [Act.put, List.setIfInBounds_toArray, List.set_cons_zero, List.set_cons_succ]
          refine anyZ_free (i := 7) (oi := ?oi_8) (v := ?v_8) ?hi_8 ?hs_8 ?hf_8 ?hr_8 ?hQ_8 (Or.inl ⟨?hw_8, ?hy_8⟩) ?hrest_8
          case hi_8 => (simp only [List.getElem?_toArray, List.getElem?_cons_succ, List.getElem?_cons_zero]; exact rfl)
          case hs_8 => kernel_rfl
          case hf_8 => kernel_rfl
          case hr_8 => kernel_rfl
          case hQ_8 => exact fun _ _ _ h => h
          case hw_8 => rfl
          case hy_8 => (intro w _; go_simp; try with_reducible rfl)
          try simp only [Act.put, List.setIfInBounds_toArray, List.set_cons_zero, List.set_cons_succ]
          refine anyZ_ready (rs := [8]) (by kernel_rfl) (by simp) ?_
          refine (AllZ.last (o := ?o_9) ?ho_9 (by rfl) (fun K hK => ?st_9) AllZ.nil)
          case ho_9 => (simp only [List.getElem?_toArray, List.getElem?_cons_succ, List.getElem?_cons_zero]; exact rfl)
          case st_9 =>
            go_simp
            refine hK.out _ _ ?_
            clear hK K
            try simp only [Act.put, List.setIfInBounds_toArray, List.set_cons_zero, List.set_cons_succ]
            refine anyZ_done (by kernel_rfl) ?_ _
            refine NoPanic.normal ?_
            have hB1 : Below N w (wr.setCell ⟨X + 1, i, none⟩ (.int .u32 (Z : Nat))).drew := by (repeat' (first | (with_reducible first | exact Below.refl _ _ | assumption | refine Below.alloc ?_ ?_ _ | refine Below.drew ?_ | refine below_drewN ?_ _ | refine Below.setCell ?_ ?_ _ | refine below_via (by with_reducible assumption) ?_ ?_) | omega | (simp only [szs]; omega) | (simp only [szs] at *; omega)))
            have tf1 : Hid (Arr (wr.setCell ⟨X + 1, i, none⟩ (.int .u32 (Z : Nat))).drew .u32 X 16 F) := (tf.out.far (by omega) _ _).drew
            have tv1 : Hid (Arr (wr.setCell ⟨X + 1, i, none⟩ (.int .u32 (Z : Nat))).drew .u32 (X + 1) 16 (sumI V F (i + 1))) := q.drew
            clear hHeld q0 q1 p1 p2 q tf tv hB
            generalize (wr.setCell ⟨X + 1, i, none⟩ (.int .u32 (Z : Nat))).drew = W5 at *
            go_wp2
            go_roundw
            case rel => exact ⟨i + 1, by omega, by go_num, tf1, tv1, hB1⟩
            case measure => (simp only [intOf, Int.toNat_natCast]; omega)
        · obtain rfl : i = 16 := by omega
          have hDw : Ob.Words32 D := by rw [← hD.out]; exact Ob.chaB_words _ _ _
          have t0 : Arr wr .u32 (X + 1) 16 D := tv.out.congr (fun j hj => by rw [hres.out j]; unfold sumI; rw [if_pos hj])
          have cB := lowBytesW (X + 1) 16 16 D hDw wr (by decide) t0.rd
          go_upto_region 12 with (fail)
          rw [show ((16 : Nat) : Int) = 16 from rfl]
          go_wp2_with (go_at_call 34; with_reducible refine cB.mono ?_; rintro e W12 ⟨rfl, o12, b12⟩)
          go_ret
          exact ⟨wr.heap.size, rfl, hsz.out _ hB, o12, below_via b12 hB (hsz.out _ hB)⟩
end Go.Proofs.YtdaonbfdcpkipaaDoor

namespace Go.Proofs.YtdaonbfdcpkipaaDoor
open Go.RowKit Go.Proofs
set_option linter.unusedVariables false
set_option linter.unusedSimpArgs false
attribute [local go_sem ↓] Go.wp_at_zero Go.wp_at_succ

theorem SrcO.of_src {w : World} {a : Option Addr} {n : Nat} {z : Nat → Nat} (h : Src w a n z) : ∀ N, w.heap.size ≤ N → SrcO w N a n z := fun N hN => by
  rcases h with h | ⟨b, off, ha, hb⟩
  · exact Or.inl h
  · exact Or.inr ⟨b, off, ha, Or.inl (Nat.lt_of_lt_of_le hb.lt hN), hb⟩

set_option maxHeartbeats 1000000 in
theorem fitYes (a b : Option Addr) (c d : Nat) (w : World) :
    Calls Tryd.prog 19 #[.slice a 32 c, .slice b 12 d] w fun e w' => e = .returned (.bool true) ∧ w = w' := by
  go_enter Tryd.func19, Tryd.ntmps19
  go_wp2
  go_ret
  exact ⟨rfl, rfl⟩
set_option maxHeartbeats 1000000 in
theorem fitNo (a b : Option Addr) (n m c d : Nat) (h : ¬ (n = 32 ∧ m = 12)) (w : World) :
    Calls Tryd.prog 19 #[.slice a n c, .slice b m d] w fun e w' => e = .returned (.bool false) ∧ w = w' := by
  by_cases h1 : n = 32
  · have h2 : ¬ (m : Int) = 12 := by omega
    have h3 : ((m : Int) == 12) = false := by simpa using h2
    subst h1
    clear h
    go_enter Tryd.func19, Tryd.ntmps19
    go_wp2
    go_ret
    exact ⟨rfl, rfl⟩
  · have h2 : ¬ (n : Int) = 32 := by omega
    clear h
    go_enter Tryd.func19, Tryd.ntmps19
    go_wp2
    go_ret
    exact ⟨rfl, rfl⟩

/-- What Block tells. -/
def BlkOut (w : World) (zk zn : Nat → Nat) (cnt : Nat) (e : Ending) (w' : World) : Prop :=
  ∃ g, e = .returned (.tuple #[.slice (some ⟨g, 0, none⟩) 64 64, .nilIface]) ∧ w.heap.size ≤ g ∧ w'.ownsRow g 5 1 (.slice (some ⟨g, 0, none⟩) 64 64) 64 (vals (lowBy (Ob.chaB (wordAt zk) (wordAt zn) cnt)) 64) ∧ Below w.heap.size w w'

set_option maxHeartbeats 1000000 in
theorem blockX (kb ko kc nb no nc cnt : Nat) (hkc : 32 ≤ kc) (hnc : 12 ≤ nc) (hcnt : cnt < 4294967296) (zk zn : Nat → Nat) (hzk : ∀ i, zk i < 256) (hzn : ∀ i, zn i < 256) (w : World) (hT : Tabs w) (hK : Bys w kb ko 32 zk) (hN' : Bys w nb no 12 zn) :
    Calls Tryd.prog 10 #[.slice (some ⟨kb, ko, none⟩) 32 kc, .slice (some ⟨nb, no, none⟩) 12 nc, .int .u32 cnt] w fun e w' => BlkOut w zk zn cnt e w' := by
  have c0 := fitYes (some ⟨kb, ko, none⟩) (some ⟨nb, no, none⟩) kc nc w
  have c1 := block_core kb ko kc nb no nc cnt hkc hnc hcnt zk zn hzk hzn w hT hK hN'
  clear hT hK hN' hzk hzn hcnt
  unfold BlkOut
  generalize lowBy (Ob.chaB (wordAt zk) (wordAt zn) cnt) = D at *
  go_enter Tryd.func10, Tryd.ntmps10
  go_wp2_with (first | (go_at_call 19; with_reducible refine c0.mono ?_; rintro e w' ⟨rfl, rfl⟩) | (go_at_call 20; with_reducible refine c1.mono ?_; rintro e W1 ⟨g, rfl, lg, o1, b1⟩))
  go_ret2
  exact ⟨g, rfl, lg, o1, b1⟩
set_option maxHeartbeats 1000000 in
theorem blockBad (a b : Option Addr) (n m c d : Nat) (h : ¬ (n = 32 ∧ m = 12)) (v : Value) (w : World) :
    Calls Tryd.prog 10 #[.slice a n c, .slice b m d, v] w fun e w' => e = .returned (.tuple #[.slice none 0 0, .iface 30 (.int .i64 1)]) ∧ w = w' := by
  have c0 := fitNo a b n m c d h w
  clear h
  go_enter Tryd.func10, Tryd.ntmps10
  go_wp2_with (go_at_call 19; with_reducible refine c0.mono ?_; rintro e w' ⟨rfl, rfl⟩)
  go_ret2
  exact ⟨rfl, rfl⟩

/-- Sixteen bytes that tell a number. -/
def MarkAt (w : World) (g V : Nat) (w' : World) : Prop :=
  ∃ d, w.heap.size ≤ g ∧ w'.ownsRow g 5 1 (.slice (some ⟨g, 0, none⟩) 16 16) 16 (vals d 16) ∧ (∀ i, d i < 256) ∧ Ob.valD d 16 = V ∧ Below w.heap.size w w'

set_option maxHeartbeats 1000000 in
theorem markX (kb ko kc n c : Nat) (hkc : 32 ≤ kc) (hn : n ≤ 1000000000) (zk z : Nat → Nat) (hzk : ∀ i, zk i < 256) (hz : ∀ i, z i < 256) (a : Option Addr) (w : World) (hK : Bys w kb ko 32 zk) (hS : Src w a n z) :
    Calls Tryd.prog 13 #[.slice (some ⟨kb, ko, none⟩) 32 kc, .slice a n c] w fun e w' => ∃ g, e = .returned (.tuple #[.slice (some ⟨g, 0, none⟩) 16 16, .nilIface]) ∧ MarkAt w g (Ob.markN zk z n) w' := by
  have c1 := summing_core kb ko kc hkc zk z hzk w hK
  have hR := Ob.key_ROk hzk
  have hSl := keyS_lt hzk
  have c2 : ∀ W, Stt W w.heap.size (keyR zk) (keyS zk) (Ob.valD (Ob.clD zk) 16) z 0 → Below w.heap.size w W → Calls Tryd.prog 37 #[.slice a n c, .pointer (some ⟨w.heap.size + 4, 0, none⟩), .pointer (some ⟨w.heap.size + 2, 0, none⟩), .pointer (some ⟨w.heap.size, 0, none⟩)] W fun e w' => e = .returned (.tuple #[]) ∧ Stt w' w.heap.size (keyR zk) (keyS zk) (Ob.valD (Ob.clD zk) 16) z (0 + n) ∧ Below w.heap.size W w' ∧ KpR (w.heap.size + 2) (w.heap.size + 4) W w' := fun W h hb =>
    take_core w.heap.size (Ob.valD (Ob.clD zk) 16) 0 n c (keyR zk) (keyS zk) z z hR hz (fun i _ => by rw [Nat.zero_add]) hn a W h ((SrcO.of_src hS _ (Nat.le_refl _)).on hb)
  have c3 : ∀ W, Stt W w.heap.size (keyR zk) (keyS zk) (Ob.valD (Ob.clD zk) 16) z (0 + n) → _ := fun W h => tell_core w.heap.size (Ob.valD (Ob.clD zk) 16) (0 + n) (keyR zk) (keyS zk) z hR hSl rfl W h
  have hV : (Ob.finV (Ob.valD (Ob.clD zk) 16) z (0 + n) + Ob.valB (keyS zk) 3) % 340282366920938463463374607431768211456 = Ob.markN zk z n := by
    unfold Ob.markN keyS
    rw [Nat.zero_add, Ob.mk_fin, Ob.key_s, Ob.p16_num]
  rw [hV] at c3
  unfold MarkAt
  generalize Ob.markN zk z n = V at *
  generalize keyR zk = r at *
  generalize keyS zk = s at *
  generalize Ob.valD (Ob.clD zk) 16 = R at *
  clear hK hS hz hzk hR hSl hV
  go_enter Tryd.func13, Tryd.ntmps13
  go_upto_region 4 with (go_at_call 24; with_reducible refine c1.mono ?_; rintro e W1 ⟨rfl, t1, b1⟩)
  have t1' : Hid (Stt W1 w.heap.size r s R z 0) := t1
  clear t1
  go_upto_region 5 with (go_at_call 37; go_must (with_reducible refine (c2 _ t1'.out b1).mono ?_); rintro e W2 ⟨rfl, t2, b2, _⟩)
  have t2' : Hid (Stt W2 w.heap.size r s R z (0 + n)) := t2
  clear t2
  go_wp2_with (go_at_call 39; with_reducible refine (c3 _ t2'.out).mono ?_; rintro e W3 ⟨g, d, rfl, lg, o3, hd, hv, b3⟩)
  have hB2 : Below w.heap.size w W2 := b1.trans b2
  go_ret2
  exact ⟨g, rfl, d, Nat.le_trans hB2.size lg, o3, hd, hv, below_via b3 hB2 hB2.size⟩
set_option maxHeartbeats 1000000 in
theorem markBad (a : Option Addr) (n c : Nat) (h : ¬ n = 32) (v : Value) (w : World) :
    Calls Tryd.prog 13 #[.slice a n c, v] w fun e w' => e = .returned (.tuple #[.slice none 0 0, .iface 30 (.int .i64 1)]) ∧ w = w' := by
  have h2 : ¬ (n : Int) = 32 := by omega
  clear h
  go_enter Tryd.func13, Tryd.ntmps13
  go_wp2
  go_ret2
  exact ⟨rfl, rfl⟩
end Go.Proofs.YtdaonbfdcpkipaaDoor

namespace Ob
def lenD (n i : Nat) : Nat := n / 256 ^ i % 256
/-- All that is marked. -/
def allX (z1 : Nat → Nat) (n1 : Nat) (z2 : Nat → Nat) (n2 : Nat) : Nat → Nat := joinX (joinX (joinX (padX z1 n1) (up16 n1) (padX z2 n2)) (up16 n1 + up16 n2) (lenD n1)) (up16 n1 + up16 n2 + 8) (lenD n2)
def allN (n1 n2 : Nat) : Nat := up16 n1 + up16 n2 + 8 + 8
theorem padX_lt {z : Nat → Nat} (h : ∀ i, z i < 256) (n i : Nat) : padX z n i < 256 := by unfold padX; split; exact h i; decide
theorem joinX_lt {z u : Nat → Nat} (h : ∀ i, z i < 256) (h2 : ∀ i, u i < 256) (n i : Nat) : joinX z n u i < 256 := by unfold joinX; split; exact h i; exact h2 _
theorem allX_lt {z1 z2 : Nat → Nat} (h1 : ∀ i, z1 i < 256) (h2 : ∀ i, z2 i < 256) (n1 n2 i : Nat) : allX z1 n1 z2 n2 i < 256 :=
  joinX_lt (joinX_lt (joinX_lt (padX_lt h1 _) (padX_lt h2 _) _) (fun _ => Nat.mod_lt _ (by decide)) _) (fun _ => Nat.mod_lt _ (by decide)) _ _
theorem up16_lt (n : Nat) : up16 n ≤ n + 15 := by unfold up16; omega
end Ob
namespace Go.Proofs.YtdaonbfdcpkipaaDoor
open Go.RowKit Go.Proofs
set_option linter.unusedVariables false
set_option linter.unusedSimpArgs false
attribute [local go_sem ↓] Go.wp_at_zero Go.wp_at_succ

theorem Arr.bys8 {w : World} {b n : Nat} {v : Nat → Nat} (t : Arr w .u8 b n v) : Bys w b 0 n v := ⟨t.lt, fun i hi => by rw [Nat.zero_add]; exact t.c i hi⟩

set_option maxHeartbeats 4000000 in
theorem rboth_core (kb ko kc nb no nc c1 n1 c2 n2 : Nat) (zk zn z1 z2 : Nat → Nat) (hzk : ∀ i, zk i < 256) (hzn : ∀ i, zn i < 256) (h1 : ∀ i, z1 i < 256) (h2 : ∀ i, z2 i < 256) (hn1 : n1 ≤ 1000000) (hn2 : n2 ≤ 1000000) (a1 a2 : Option Addr) (w : World) (hK : Bys w kb ko 32 zk) (hNn : Bys w nb no 12 zn) (hS1 : Src w a1 n1 z1) (hS2 : Src w a2 n2 z2) :
    Calls Tryd.prog 17 #[.slice (some ⟨kb, ko, none⟩) 32 kc, .slice (some ⟨nb, no, none⟩) 12 nc, .slice a1 n1 c1, .slice a2 n2 c2] w fun e w' => ∃ g d, e = .returned (.slice (some ⟨g, 0, none⟩) 16 16) ∧ w.heap.size ≤ g ∧ Arr w' .u8 g 16 d ∧ (∀ i, d i < 256) ∧ Ob.valD d 16 = (Ob.mkN (Ob.valD (Ob.clD (lowBy (Ob.chaB (wordAt zk) (wordAt zn) 0))) 16) (Ob.allX z1 n1 z2 n2) (Ob.allN n1 n2) ((Ob.allN n1 n2 + 15) / 16) + Ob.valD (fun i => lowBy (Ob.chaB (wordAt zk) (wordAt zn) 0) (16 + i)) 16) % 256 ^ 16 ∧ Below w.heap.size w w' := by
  have hU1 := Ob.up16_lt n1
  have hU2 := Ob.up16_lt n2
  have hall : Hid (∀ i, Ob.allX z1 n1 z2 n2 i < 256) := Ob.allX_lt h1 h2 n1 n2
  obtain ⟨N, hN⟩ : ∃ N, Hid (w.heap.size = N) := ⟨_, rfl⟩
  have cf1 := rfull_core c1 n1 z1 hn1 a1 w hS1
  rw [hN.out] at cf1
  have cf2 : ∀ W, Below N w W → Calls Tryd.prog 29 #[.slice a2 n2 c2] W fun e w' => ∃ g cap, e = .returned (.slice (some ⟨g, 0, none⟩) (Ob.up16 n2) cap) ∧ w'.ownsRow W.heap.size 5 1 (.slice (some ⟨g, 0, none⟩) (Ob.up16 n2) cap) (Ob.up16 n2) (vals (Ob.padX z2 n2) (Ob.up16 n2)) ∧ Below W.heap.size W w' := fun W hW => rfull_core c2 n2 z2 hn2 a2 W (hS2.below (by rw [hN.out]; exact hW))
  have cl1 := fun W => rlength_core n1 (by omega) W
  have cl2 := fun W => rlength_core n2 (by omega) W
  have cb : ∀ W, Below N w W → Calls Tryd.prog 12 #[.slice (some ⟨kb, ko, none⟩) 32 kc, .slice (some ⟨nb, no, none⟩) 12 nc, .int .u32 0] W fun e w' => ∃ g cap, e = .returned (.slice (some ⟨g, 0, none⟩) 64 cap) ∧ W.heap.size ≤ g ∧ Bys w' g 0 64 (lowBy (Ob.chaB (wordAt zk) (wordAt zn) 0)) ∧ Below W.heap.size W w' ∧ 64 ≤ cap := fun W hW => rblock_core kb ko kc nb no nc 0 zk zn hzk hzn (by decide) W (hK.below (by rw [hN.out]; exact hW) hK.lt) (hNn.below (by rw [hN.out]; exact hW) hNn.lt)
  clear hS1 hS2 hK hNn hzk hzn h1 h2
  rw [hN.out]
  obtain ⟨M, hM⟩ : ∃ M, Hid (Ob.allN n1 n2 = M) := ⟨_, rfl⟩
  obtain ⟨KK, hKK⟩ : ∃ K, Hid (lowBy (Ob.chaB (wordAt zk) (wordAt zn) 0) = K) := ⟨_, rfl⟩
  obtain ⟨AX, hAX⟩ : ∃ A, Hid (Ob.allX z1 n1 z2 n2 = A) := ⟨_, rfl⟩
  rw [hKK.out] at cb
  rw [hAX.out] at hall
  rw [hM.out, hKK.out, hAX.out]
  go_enter Tryd.func17, Tryd.ntmps17
  go_upto_region 2 with (first
    | (go_at_call 29; with_reducible refine cf1.mono ?_; rintro e W1 ⟨g1, cap1, rfl, o1, b1⟩)
    | (go_at_call 29; with_reducible refine (cf2 _ b1).mono ?_; rintro e W2 ⟨g2, cap2, rfl, o2, b2⟩)
    | (at_builtin; refine wpList_appB rfl _ _ rfl N g1 (Ob.up16 n1) cap1 _ rfl (own_below o1 b2 (fun k h => (o1.lt k h).2)) (by have := hN.out; have := b1.size; have := b2.size; omega) g2 0 (Ob.up16 n2) cap2 _ rfl (bys_of_row o2) (by omega) (by omega) ?_; intro g3 cap3 W3 o3 b3))
  have hB3 : Below N w W3 := (below_via b2 b1 (by have := hN.out; have := b1.size; omega)).trans b3
  clear cf1 cf2 o1 o2 b1 b2 b3
  obtain ⟨U, hU⟩ : ∃ U, Hid (Ob.up16 n1 + Ob.up16 n2 = U) := ⟨_, rfl⟩
  have hUl : U ≤ 2000030 := by have := hU.out; omega
  obtain ⟨Z, hZ⟩ : ∃ Z, Hid (Ob.joinX (Ob.padX z1 n1) (Ob.up16 n1) (Ob.padX z2 n2) = Z) := ⟨_, rfl⟩
  rw [hU.out, hZ.out] at o3
  rw [hU.out]
  go_upto_region 3 with (first
    | (go_at_call 30; with_reducible refine (cl1 W3).mono ?_; rintro e W4 ⟨rfl, t4, b4⟩)
    | (go_at_call 30; with_reducible refine (cl2 W5).mono ?_; rintro e W6 ⟨rfl, t6, b6⟩)
    | (at_builtin; refine wpList_appB rfl _ _ rfl N g3 U cap3 _ rfl (own_below o3 b4 (fun k h => (o3.lt k h).2)) (by have := hN.out; have := hB3.size; have := b4.size; omega) W3.heap.size 0 8 8 _ rfl t4.bys8 (by omega) (by omega) ?_; intro g5 cap5 W5 o5 b5; have hB5 : Below N w W5 := (below_via b4 hB3 (by have := hN.out; have := hB3.size; omega)).trans b5)
    | (at_builtin; refine wpList_appB rfl _ _ rfl N g5 (U + 8) cap5 _ rfl (own_below o5 b6 (fun k h => (o5.lt k h).2)) (by have := hN.out; have := hB5.size; have := b6.size; omega) W5.heap.size 0 8 8 _ rfl t6.bys8 (by omega) (by omega) ?_; intro g7 cap7 W7 o7 b7; have hB7 : Below N w W7 := (below_via b6 hB5 (by have := hN.out; have := hB5.size; omega)).trans b7))
  have y7 : Hid (Bys W7 g7 0 (Ob.allN n1 n2) (Ob.allX z1 n1 z2 n2)) := by
    have q := bys_of_row o7
    rw [← hZ.out, ← hU.out] at q
    exact q
  have eN : U + 8 + 8 = Ob.allN n1 n2 := by rw [← hU.out]; rfl
  rw [hM.out] at y7 eN
  rw [eN]
  have hMl : M ≤ 10000000 := by omega
  have l7 := hB7.size
  have lg7 := y7.out.lt
  clear cl1 cl2 o3 t4 b4 o5 b5 hB3 hB5 t6 b6 o7 b7 eN hU hUl hZ
  have hKl : Hid (∀ i, KK i < 256) := fun i => by rw [← hKK.out]; exact lowBy_lt _ _
  rw [hAX.out] at y7
  have cm : ∀ W g cap, Bys W g 0 64 KK → Bys W g7 0 M AX → Calls Tryd.prog 14 #[.slice (some ⟨g, 0, none⟩) 32 cap, .slice (some ⟨g7, 0, none⟩) M cap7] W fun e w' => ∃ g d, e = .returned (.slice (some ⟨g, 0, none⟩) 16 16) ∧ W.heap.size ≤ g ∧ Arr w' .u8 g 16 d ∧ (∀ i, d i < 256) ∧ Ob.valD d 16 = (Ob.mkN (Ob.valD (Ob.clD KK) 16) AX M ((M + 15) / 16) + Ob.valD (fun i => KK (16 + i)) 16) % 256 ^ 16 ∧ Below W.heap.size W w' := fun W g cap hk hy => rmark_core g 0 cap M cap7 KK AX hKl.out hall.out hMl _ W ⟨hk.lt, fun i hi => hk.at_ i (by omega)⟩ (Or.inr ⟨g7, 0, rfl, hy⟩)
  go_wp2_with (first
    | (go_at_call 12; with_reducible refine (cb _ hB7).mono ?_; rintro e W8 ⟨g8, cap8, rfl, lg8, y8, b8, hc8⟩; have hc32 : (32 : Int) ≤ (cap8 : Int) := (by omega); have hc33 : 32 ≤ cap8 := (by omega))
    | (go_at_call 14; with_reducible refine (cm W8 g8 _ y8 (y7.out.below b8 lg7)).mono ?_; rintro e W9 ⟨g9, d9, rfl, lg9, t9, hd9, hv9, b9⟩))
  go_ret
  have l8 := b8.size
  exact ⟨g9, d9, rfl, by have := hN.out; omega, t9, hd9, hv9, below_via b9 (below_via b8 hB7 (by have := hN.out; omega)) (by have := hN.out; omega)⟩
end Go.Proofs.YtdaonbfdcpkipaaDoor
