/-
  Joined texts: Package blake, walked: a round. Package blake, walked: the sixteen words. Package blake, walked: Press.
-/
import Derived.Test.YtdhbkhmknnlmnaaDoorJ3

namespace Go.Proofs.YtdhbkhmknnlmnaaDoor
open Go.RowKit Go.Proofs
set_option linter.unusedVariables false
set_option linter.unusedSimpArgs false
attribute [local go_sem ↓] Go.wp_at_zero Go.wp_at_succ

set_option maxHeartbeats 4000000 in
set_option maxRecDepth 4000 in
theorem mixed_core (v m : Nat → Nat) (hv : Ob.Words32 v) (hm : Ob.Words32 m) (r : Nat) (hr : r < 10) (w : World) (hT : Tabs w) :
    Calls Tryd.prog 86 #[arrV .u32 v 16, arrV .u32 m 16, .int .i64 r] w fun e w' => e = .returned (arrV .u32 (Ob.roundN v m r 8) 16) ∧ Below w.heap.size w w' := by
  unfold arrV
  have hl := arrL_length .u32 v 16
  have hl' := arrL_length .u32 m 16
  have hT' : Hid (Tabs w) := hT
  have hv' : Hid (Ob.Words32 v) := hv
  have hm' : Hid (Ob.Words32 m) := hm
  clear hT hv hm
  go_enter Tryd.func86, Tryd.ntmps86
  go_upto_region 1 with (fail)
  obtain ⟨W0, hW0⟩ : ∃ W, Hid ((((w.alloc (.cells (arrL .u32 v 16).toArray 81)).alloc (.cells (arrL .u32 m 16).toArray 81)).alloc (.cells (arrL .u32 (fun _ => 0) 16).toArray 81)) = W) := ⟨_, rfl⟩
  have tv0 : Arr W0 .u32 w.heap.size 16 v := by rw [← hW0.out]; exact ((Arr.new rfl).alloc _).alloc _
  have tm0 : Arr W0 .u32 (w.heap.size + 1) 16 m := by rw [← hW0.out]; exact (Arr.new (by simp)).alloc _
  have tr0 : Arr W0 .u32 (w.heap.size + 1 + 1) 16 (fun _ => 0) := by rw [← hW0.out]; exact Arr.new (by simp)
  have hB0 : Below w.heap.size w W0 := by rw [← hW0.out]; (repeat' (first | (with_reducible first | exact Below.refl _ _ | assumption | refine Below.alloc ?_ ?_ _ | refine Below.drew ?_ | refine below_drewN ?_ _ | refine Below.setCell ?_ ?_ _ | refine below_via (by with_reducible assumption) ?_ ?_) | omega | (simp only [szs]; omega) | (simp only [szs] at *; omega)))
  change Code.wp _ _ _ _ (((w.alloc (.cells (arrL .u32 v 16).toArray 81)).alloc (.cells (arrL .u32 m 16).toArray 81)).alloc (.cells (arrL .u32 (fun _ => 0) 16).toArray 81))
  rw [hW0.out]
  clear hW0
  obtain ⟨N, hN⟩ : ∃ N, Hid (w.heap.size = N) := ⟨_, rfl⟩
  rw [hN.out] at tv0 tm0 tr0 hB0 ⊢
  go_wp2
  go_loopw [14] (fun s14 wr => ∃ (i : Nat), i ≤ 8 ∧ s14 = .int .i64 (i : Nat) ∧ Hid (Arr wr .u32 N 16 (Ob.roundN v m r i)) ∧ Hid (Arr wr .u32 (N + 1) 16 m) ∧ Hid (Arr wr .u32 (N + 1 + 1) 16 (fun _ => 0)) ∧ Below N w wr) (fun s14 _ => 8 - (intOf s14).toNat)
  case atStart => exact ⟨0, by omega, rfl, tv0, tm0, tr0, hB0⟩
  case round =>
    clear tv0 tm0 tr0 hB0
    obtain ⟨i, hi, rfl, tv, tm, tr, hB⟩ := hrel
    have l0 := hB.size
    by_cases hlt : i < 8
    · have hT1 := hT'.out.below hB (by have := hT'.out.lt; have := hN.out; omega)
      have q0 := hT1.places i 0 hlt (by decide)
      have q1 := hT1.places i 1 hlt (by decide)
      have q2 := hT1.places i 2 hlt (by decide)
      have q3 := hT1.places i 3 hlt (by decide)
      obtain ⟨a, ha⟩ : ∃ a, Hid (Ob.plc i 0 = a) := ⟨_, rfl⟩
      obtain ⟨b, hb⟩ : ∃ a, Hid (Ob.plc i 1 = a) := ⟨_, rfl⟩
      obtain ⟨c, hc⟩ : ∃ a, Hid (Ob.plc i 2 = a) := ⟨_, rfl⟩
      obtain ⟨d, hd⟩ : ∃ a, Hid (Ob.plc i 3 = a) := ⟨_, rfl⟩
      rw [ha.out] at q0
      rw [hb.out] at q1
      rw [hc.out] at q2
      rw [hd.out] at q3
      clear hT1
      simp only [Nat.add_zero] at q0
      have i0 : (i : Int) < 8 := by omega
      have i1 : (0 : Int) ≤ (i : Int) := by omega
      go_upto_region 4 with (fail)
      go_quiet (fail)
      have tv1 := tv.out.drewN nq
      have tm1 := tm.out.drewN nq
      have tr1 := tr.out.drewN nq
      have hB1 := below_drewN hB nq
      have hT1 := hT'.out.below hB1 (by have := hT'.out.lt; have := hN.out; omega)
      clear tv tm tr hB l0 q0 q1 q2 q3
      generalize wr.drewN nq = W1 at *
      have s0 := hT1.rows r (2 * i) hr (by omega)
      have s1 := hT1.rows r (2 * i + 1) hr (by omega)
      obtain ⟨e, he⟩ : ∃ a, Hid (Ob.sig r (2 * i) = a) := ⟨_, rfl⟩
      obtain ⟨f, hf⟩ : ∃ a, Hid (Ob.sig r (2 * i + 1) = a) := ⟨_, rfl⟩
      have le : e < 16 := by rw [← he.out]; exact Ob.sig_lt hr (by omega)
      have lf : f < 16 := by rw [← hf.out]; exact Ob.sig_lt hr (by omega)
      rw [he.out] at s0
      rw [hf.out] at s1
      have s2 := tm1.c e le
      have s3 := tm1.c f lf
      have r0 : (r : Int) < 10 := by omega
      have r1 : (0 : Int) ≤ (r : Int) := by omega
      have e0 : (e : Int) < 16 := by omega
      have e1 : (0 : Int) ≤ (e : Int) := by omega
      have f0 : (f : Int) < 16 := by omega
      have f1 : (0 : Int) ≤ (f : Int) := by omega
      have j0 : IntKind.i64.wrap (2 * (i : Int)) = ((2 * i : Nat) : Int) := by rw [IntKind.wrap_i64]; omega
      have j1 : IntKind.i64.wrap (((2 * i : Nat) : Int) + 1) = ((2 * i + 1 : Nat) : Int) := by rw [IntKind.wrap_i64]; omega
      have j2 : ((2 * i : Nat) : Int) < 16 := by omega
      have j3 : (0 : Int) ≤ ((2 * i : Nat) : Int) := by omega
      have j4 : ((2 * i + 1 : Nat) : Int) < 16 := by omega
      have j5 : (0 : Int) ≤ ((2 * i + 1 : Nat) : Int) := by omega
      obtain ⟨k, hk⟩ : ∃ k, Hid (2 * i = k) := ⟨_, rfl⟩
      obtain ⟨k1, hk1⟩ : ∃ k1, Hid (k + 1 = k1) := ⟨_, rfl⟩
      rw [hk.out] at s0 s1 j0 j1 j2 j3 j4 j5
      rw [hk1.out] at s1 j1 j4 j5
      go_upto_region 5 with (fail)
      go_quiet (fail)
      have tv2 : Hid (Arr (W1.drewN nq) .u32 N 16 (Ob.roundN v m r i)) := tv1.drewN nq
      have tm2 : Hid (Arr (W1.drewN nq) .u32 (N + 1) 16 m) := tm1.drewN nq
      have tr2 : Hid (Arr (W1.drewN nq) .u32 (N + 1 + 1) 16 (fun _ => 0)) := tr1.drewN nq
      have hB2 := below_drewN hB1 nq
      clear hT1 tv1 tm1 tr1 hB1 s0 s1 s2 s3 j0 j1 j2 j3 j4 j5 e0 e1 f0 f1
      generalize W1.drewN nq = W2 at *
      have hw1 : Hid (Ob.Words32 (Ob.roundN v m r i)) := Ob.roundN_words hv'.out m r i
      have hnext : Hid (Ob.roundN v m r (i + 1) = Ob.half (Ob.half (Ob.roundN v m r i) a b c d (m e) 16 12) a b c d (m f) 8 7) := by
        show _ = _
        rw [← ha.out, ← hb.out, ← hc.out, ← hd.out, ← he.out, ← hf.out]
        rfl
      obtain ⟨V, hV⟩ : ∃ V, Hid (Ob.roundN v m r i = V) := ⟨_, rfl⟩
      rw [hV.out] at tv2 hw1 hnext
      have la : a < 16 := by rw [← ha.out]; exact Ob.plc_lt hlt (by decide)
      have lb : b < 16 := by rw [← hb.out]; exact Ob.plc_lt hlt (by decide)
      have lc : c < 16 := by rw [← hc.out]; exact Ob.plc_lt hlt (by decide)
      have ld : d < 16 := by rw [← hd.out]; exact Ob.plc_lt hlt (by decide)
      have nab : Hid (a ≠ b) := by rw [← ha.out, ← hb.out]; exact Ob.plc_ne hlt (by decide) (by decide) (by decide)
      have nac : Hid (a ≠ c) := by rw [← ha.out, ← hc.out]; exact Ob.plc_ne hlt (by decide) (by decide) (by decide)
      have nad : Hid (a ≠ d) := by rw [← ha.out, ← hd.out]; exact Ob.plc_ne hlt (by decide) (by decide) (by decide)
      have nbc : Hid (b ≠ c) := by rw [← hb.out, ← hc.out]; exact Ob.plc_ne hlt (by decide) (by decide) (by decide)
      have nbd : Hid (b ≠ d) := by rw [← hb.out, ← hd.out]; exact Ob.plc_ne hlt (by decide) (by decide) (by decide)
      have ncd : Hid (c ≠ d) := by rw [← hc.out, ← hd.out]; exact Ob.plc_ne hlt (by decide) (by decide) (by decide)
      have ia : (a : Int) < 16 := by omega
      have ja : (0 : Int) ≤ (a : Int) := by omega
      have ib : (b : Int) < 16 := by omega
      have jb : (0 : Int) ≤ (b : Int) := by omega
      have ic : (c : Int) < 16 := by omega
      have jc : (0 : Int) ≤ (c : Int) := by omega
      have id : (d : Int) < 16 := by omega
      have jd : (0 : Int) ≤ (d : Int) := by omega
      have xa : a ≠ b := nab.out
      have xb : a ≠ c := nac.out
      have xc : a ≠ d := nad.out
      have xd : b ≠ c := nbc.out
      have xe : b ≠ d := nbd.out
      have xf : c ≠ d := ncd.out
      -- half 1
      obtain ⟨A1, hA1⟩ : ∃ z, Hid (Ob.s32 (V a) (Ob.s32 (V b) (m e)) = z) := ⟨_, rfl⟩
      obtain ⟨D1, hD1⟩ : ∃ z, Hid (Ob.rot (V d ^^^ A1) 16 = z) := ⟨_, rfl⟩
      obtain ⟨C1, hC1⟩ : ∃ z, Hid (Ob.s32 (V c) D1 = z) := ⟨_, rfl⟩
      obtain ⟨B1, hB1⟩ : ∃ z, Hid (Ob.rot (V b ^^^ C1) 12 = z) := ⟨_, rfl⟩
      have c1 : ∀ w, Calls Tryd.prog 87 #[.int .u32 (V a : Nat), .int .u32 (V b : Nat), .int .u32 (V c : Nat), .int .u32 (V d : Nat), .int .u32 (m e : Nat), .int .i64 16, .int .i64 12] w fun e w' => e = .returned (.tuple #[.int .u32 A1, .int .u32 B1, .int .u32 C1, .int .u32 D1]) ∧ w = w' := fun w => halfW _ _ _ _ _ 16 12 _ _ _ _ (hw1.out _) (hw1.out _) (hw1.out _) (hw1.out _) (hm'.out _) (by decide) (by decide) (by decide) (by decide) hA1.out hD1.out hC1.out hB1.out w
      have za1 := tv2.out.drew.c a la
      have zb1 := tv2.out.drew.c b lb
      have zc1 := tv2.out.drew.c c lc
      have zd1 := tv2.out.drew.c d ld
      have xa1 := tv2.out.c a la
      have xb1 := tv2.out.c b lb
      have xc1 := tv2.out.c c lc
      have xd1 := tv2.out.c d ld
      have ya1 := tv2.out.f a la
      have yb1 := tv2.out.f b lb
      have yc1 := tv2.out.f c lc
      have yd1 := tv2.out.f d ld
      go_upto_region 6 with (fail)
      refine wp_region_noPanic ?_
      refine region_lastly (S := (fun w' => w'.cell? ⟨N, a, none⟩ = some (.int .u32 (V a : Nat)) ∧ w'.cell? ⟨N, b, none⟩ = some (.int .u32 (V b : Nat)) ∧ w'.cell? ⟨N, c, none⟩ = some (.int .u32 (V c : Nat)) ∧ w'.cell? ⟨N, d, none⟩ = some (.int .u32 (V d : Nat)))) [24, 26, 28, 30] (by kernel_rfl) (by ((try dsimp only); (exact ⟨za1, zb1, zc1, zd1⟩))) (fun hHeld => ?_)
      refine anyZ_free (i := 0) (oi := ?oi_1) (v := ?v_1) ?hi_1 ?hs_1 ?hf_1 ?hr_1 ?hQ_1 (Or.inl ⟨?hw_1, ?hy_1⟩) ?hrest_1
      case hi_1 => (simp only [List.getElem?_toArray, List.getElem?_cons_succ, List.getElem?_cons_zero]; exact rfl)
      case hs_1 => kernel_rfl
      case hf_1 => kernel_rfl
      case hr_1 => kernel_rfl
      case hQ_1 => exact fun _ _ _ h => h
      case hw_1 => rfl
      case hy_1 => (intro w _; go_simp; try with_reducible rfl)
      try simp only [Act.put, List.setIfInBounds_toArray, List.set_cons_zero, List.set_cons_succ]
      refine anyZ_free (i := 1) (oi := ?oi_2) (v := ?v_2) ?hi_2 ?hs_2 ?hf_2 ?hr_2 ?hQ_2 (Or.inl ⟨?hw_2, ?hy_2⟩) ?hrest_2
      case hi_2 => (simp only [List.getElem?_toArray, List.getElem?_cons_succ, List.getElem?_cons_zero]; exact rfl)
      case hs_2 => kernel_rfl
      case hf_2 => kernel_rfl
      case hr_2 => kernel_rfl
      case hQ_2 => exact fun _ _ _ h => h
      case hw_2 => rfl
      case hy_2 => (intro w _; go_simp; try with_reducible rfl)
      try simp only [Act.put, List.setIfInBounds_toArray, List.set_cons_zero, List.set_cons_succ]
      refine anyZ_free (i := 2) (oi := ?oi_3) (v := ?v_3) ?hi_3 ?hs_3 ?hf_3 ?hr_3 ?hQ_3 (Or.inl ⟨?hw_3, ?hy_3⟩) ?hrest_3
      case hi_3 => (simp only [List.getElem?_toArray, List.getElem?_cons_succ, List.getElem?_cons_zero]; exact rfl)
      case hs_3 => kernel_rfl
      case hf_3 => kernel_rfl
      case hr_3 => kernel_rfl
      case hQ_3 => exact fun _ _ _ h => h
      case hw_3 => rfl
      case hy_3 => (intro w _; go_simp; try with_reducible rfl)
      try simp only [Act.put, List.setIfInBounds_toArray, List.set_cons_zero, List.set_cons_succ]
      refine anyZ_free (i := 3) (oi := ?oi_4) (v := ?v_4) ?hi_4 ?hs_4 ?hf_4 ?hr_4 ?hQ_4 (Or.inl ⟨?hw_4, ?hy_4⟩) ?hrest_4
      case hi_4 => (simp only [List.getElem?_toArray, List.getElem?_cons_succ, List.getElem?_cons_zero]; exact rfl)
      case hs_4 => kernel_rfl
      case hf_4 => kernel_rfl
      case hr_4 => kernel_rfl
      case hQ_4 => exact fun _ _ _ h => h
      case hw_4 => rfl
      case hy_4 => (intro w _; go_simp; try with_reducible rfl)
      try simp only [Act.put, List.setIfInBounds_toArray, List.set_cons_zero, List.set_cons_succ]
      refine anyZ_free (i := 4) (oi := ?oi_5) (v := ?v_5) ?hi_5 ?hs_5 ?hf_5 ?hr_5 ?hQ_5 (Or.inl ⟨?hw_5, ?hy_5⟩) ?hrest_5
      case hi_5 => (simp only [List.getElem?_toArray, List.getElem?_cons_succ, List.getElem?_cons_zero]; exact rfl)
      case hs_5 => kernel_rfl
      case hf_5 => kernel_rfl
      case hr_5 => kernel_rfl
      case hQ_5 => exact fun _ _ _ h => h
      case hw_5 => rfl
      case hy_5 => (intro w _; go_simp; try with_reducible rfl)
      try simp only [Act.put, List.setIfInBounds_toArray, List.set_cons_zero, List.set_cons_succ]
      refine anyZ_free (i := 5) (oi := ?oi_6) (v := ?v_6) ?hi_6 ?hs_6 ?hf_6 ?hr_6 ?hQ_6 (Or.inl ⟨?hw_6, ?hy_6⟩) ?hrest_6
      case hi_6 => (simp only [List.getElem?_toArray, List.getElem?_cons_succ, List.getElem?_cons_zero]; exact rfl)
      case hs_6 => kernel_rfl
      case hf_6 => kernel_rfl
      case hr_6 => kernel_rfl
      case hQ_6 => exact fun _ _ _ h => h
      case hw_6 => rfl
      case hy_6 => (intro w _; go_simp; try with_reducible rfl)
      try simp only [Act.put, List.setIfInBounds_toArray, List.set_cons_zero, List.set_cons_succ]
      refine anyZ_take (i := 6) (oi := ?oi_7) (v := ?v_7) ?hi_7 ?hz_7 ?hs_7 ?hf_7 ?hr_7 ?hQ_7 (Or.inl ⟨?hw_7, ?hy_7⟩) ?hS_7 ?hrest_7
      case hi_7 => (simp only [List.getElem?_toArray, List.getElem?_cons_succ, List.getElem?_cons_zero]; exact rfl)
      case hz_7 => kernel_rfl
      case hs_7 => kernel_rfl
      case hf_7 => kernel_rfl
      case hr_7 => kernel_rfl
      case hQ_7 => exact fun _ _ _ h => h
      case hw_7 => rfl
      case hS_7 => assumption
      case hy_7 => (intro w hSw; (try dsimp only at hSw); go_simp; try with_reducible rfl)
      try simp only [Act.put, List.setIfInBounds_toArray, List.set_cons_zero, List.set_cons_succ]
      refine anyZ_free (i := 7) (oi := ?oi_8) (v := ?v_8) ?hi_8 ?hs_8 ?hf_8 ?hr_8 ?hQ_8 (Or.inl ⟨?hw_8, ?hy_8⟩) ?hrest_8
      case hi_8 => (simp only [List.getElem?_toArray, List.getElem?_cons_succ, List.getElem?_cons_zero]; exact rfl)
      case hs_8 => kernel_rfl
      case hf_8 => kernel_rfl
      case hr_8 => kernel_rfl
      case hQ_8 => exact fun _ _ _ h => h
      case hw_8 => rfl
      case hy_8 => (intro w _; go_simp; try with_reducible rfl)
      try simp only [Act.put, List.setIfInBounds_toArray, List.set_cons_zero, List.set_cons_succ]
      refine anyZ_free (i := 8) (oi := ?oi_9) (v := ?v_9) ?hi_9 ?hs_9 ?hf_9 ?hr_9 ?hQ_9 (Or.inl ⟨?hw_9, ?hy_9⟩) ?hrest_9
      case hi_9 => (simp only [List.getElem?_toArray, List.getElem?_cons_succ, List.getElem?_cons_zero]; exact rfl)
      case hs_9 => kernel_rfl
      case hf_9 => kernel_rfl
      case hr_9 => kernel_rfl
      case hQ_9 => exact fun _ _ _ h => h
      case hw_9 => rfl
      case hy_9 => (intro w _; go_simp; try with_reducible rfl)
      try simp only [Act.put, List.setIfInBounds_toArray, List.set_cons_zero, List.set_cons_succ]
      refine anyZ_take (i := 9) (oi := ?oi_10) (v := ?v_10) ?hi_10 ?hz_10 ?hs_10 ?hf_10 ?hr_10 ?hQ_10 (Or.inl ⟨?hw_10, ?hy_10⟩) ?hS_10 ?hrest_10
      case hi_10 => (simp only [List.getElem?_toArray, List.getElem?_cons_succ, List.getElem?_cons_zero]; exact rfl)
      case hz_10 => kernel_rfl
      case hs_10 => kernel_rfl
      case hf_10 => kernel_rfl
      case hr_10 => kernel_rfl
      case hQ_10 => exact fun _ _ _ h => h
      case hw_10 => rfl
      case hS_10 => assumption
      case hy_10 => (intro w hSw; (try dsimp only at hSw); go_simp; try with_reducible rfl)
      try simp only [Act.put, List.setIfInBounds_toArray, List.set_cons_zero, List.set_cons_succ]
      refine anyZ_free (i := 10) (oi := ?oi_11) (v := ?v_11) ?hi_11 ?hs_11 ?hf_11 ?hr_11 ?hQ_11 (Or.inl ⟨?hw_11, ?hy_11⟩) ?hrest_11
      case hi_11 => (simp only [List.getElem?_toArray, List.getElem?_cons_succ, List.getElem?_cons_zero]; exact rfl)
      case hs_11 => kernel_rfl
      case hf_11 => kernel_rfl
      case hr_11 => kernel_rfl
      case hQ_11 => exact fun _ _ _ h => h
      case hw_11 => rfl
      case hy_11 => (intro w _; go_simp; try with_reducible rfl)
      try simp only [Act.put, List.setIfInBounds_toArray, List.set_cons_zero, List.set_cons_succ]
      refine anyZ_free (i := 11) (oi := ?oi_12) (v := ?v_12) ?hi_12 ?hs_12 ?hf_12 ?hr_12 ?hQ_12 (Or.inl ⟨?hw_12, ?hy_12⟩) ?hrest_12
      case hi_12 => (simp only [List.getElem?_toArray, List.getElem?_cons_succ, List.getElem?_cons_zero]; exact rfl)
      case hs_12 => kernel_rfl
      case hf_12 => kernel_rfl
      case hr_12 => kernel_rfl
      case hQ_12 => exact fun _ _ _ h => h
      case hw_12 => rfl
      case hy_12 => (intro w _; go_simp; try with_reducible rfl)
      try simp only [Act.put, List.setIfInBounds_toArray, List.set_cons_zero, List.set_cons_succ]
      refine anyZ_take (i := 12) (oi := ?oi_13) (v := ?v_13) ?hi_13 ?hz_13 ?hs_13 ?hf_13 ?hr_13 ?hQ_13 (Or.inl ⟨?hw_13, ?hy_13⟩) ?hS_13 ?hrest_13
      case hi_13 => (simp only [List.getElem?_toArray, List.getElem?_cons_succ, List.getElem?_cons_zero]; exact rfl)
      case hz_13 => kernel_rfl
      case hs_13 => kernel_rfl
      case hf_13 => kernel_rfl
      case hr_13 => kernel_rfl
      case hQ_13 => exact fun _ _ _ h => h
      case hw_13 => rfl
      case hS_13 => assumption
      case hy_13 => (intro w hSw; (try dsimp only at hSw); go_simp; try with_reducible rfl)
      try simp only [Act.put, List.setIfInBounds_toArray, List.set_cons_zero, List.set_cons_succ]
      refine anyZ_free (i := 13) (oi := ?oi_14) (v := ?v_14) ?hi_14 ?hs_14 ?hf_14 ?hr_14 ?hQ_14 (Or.inl ⟨?hw_14, ?hy_14⟩) ?hrest_14
      case hi_14 => (simp only [List.getElem?_toArray, List.getElem?_cons_succ, List.getElem?_cons_zero]; exact rfl)
      case hs_14 => kernel_rfl
      case hf_14 => kernel_rfl
      case hr_14 => kernel_rfl
      case hQ_14 => exact fun _ _ _ h => h
      case hw_14 => rfl
      case hy_14 => (intro w _; go_simp; try with_reducible rfl)
      try simp only [Act.put, List.setIfInBounds_toArray, List.set_cons_zero, List.set_cons_succ]
      refine anyZ_free (i := 14) (oi := ?oi_15) (v := ?v_15) ?hi_15 ?hs_15 ?hf_15 ?hr_15 ?hQ_15 (Or.inl ⟨?hw_15, ?hy_15⟩) ?hrest_15
      case hi_15 => (simp only [List.getElem?_toArray, List.getElem?_cons_succ, List.getElem?_cons_zero]; exact rfl)
      case hs_15 => kernel_rfl
      case hf_15 => kernel_rfl
      case hr_15 => kernel_rfl
      case hQ_15 => exact fun _ _ _ h => h
      case hw_15 => rfl
      case hy_15 => (intro w _; go_simp; try with_reducible rfl)
      try simp only [Act.put, List.setIfInBounds_toArray, List.set_cons_zero, List.set_cons_succ]
      refine anyZ_take (i := 15) (oi := ?oi_16) (v := ?v_16) ?hi_16 ?hz_16 ?hs_16 ?hf_16 ?hr_16 ?hQ_16 (Or.inl ⟨?hw_16, ?hy_16⟩) ?hS_16 ?hrest_16
      case hi_16 => (simp only [List.getElem?_toArray, List.getElem?_cons_succ, List.getElem?_cons_zero]; exact rfl)
      case hz_16 => kernel_rfl
      case hs_16 => kernel_rfl
      case hf_16 => kernel_rfl
      case hr_16 => kernel_rfl
      case hQ_16 => exact fun _ _ _ h => h
      case hw_16 => rfl
      case hS_16 => assumption
      case hy_16 => (intro w hSw; (try dsimp only at hSw); go_simp; try with_reducible rfl)
      try simp only [Act.put, List.setIfInBounds_toArray, List.set_cons_zero, List.set_cons_succ]
      refine anyZ_free (i := 16) (oi := ?oi_17) (v := ?v_17) ?hi_17 ?hs_17 ?hf_17 ?hr_17 ?hQ_17 (Or.inl ⟨?hw_17, ?hy_17⟩) ?hrest_17
      case hi_17 => (simp only [List.getElem?_toArray, List.getElem?_cons_succ, List.getElem?_cons_zero]; exact rfl)
      case hs_17 => kernel_rfl
      case hf_17 => kernel_rfl
      case hr_17 => kernel_rfl
      case hQ_17 => exact fun _ _ _ h => h
      case hw_17 => rfl
      case hy_17 => (intro w _; go_simp; try with_reducible rfl)
      try simp only [Act.put, List.setIfInBounds_toArray, List.set_cons_zero, List.set_cons_succ]
      refine anyZ_ready (rs := [17]) (by kernel_rfl) (by simp) ?_
      refine (AllZ.cons (o := ?o_18) ?ho_18 (fun K hK => ?st_18) AllZ.nil)
      case ho_18 => (simp only [List.getElem?_toArray, List.getElem?_cons_succ, List.getElem?_cons_zero]; exact rfl)
      case st_18 =>
        go_simp
        (first | (go_at_call 87; first | (with_reducible refine (c1 _).mono ?_; rintro e w' ⟨rfl, rfl⟩)))
        refine hK.out _ _ (by ((try dsimp only); (exact ⟨za1, zb1, zc1, zd1⟩))) (fun hHeld => ?_)
        clear hK K
        try simp only [Act.put, List.setIfInBounds_toArray, List.set_cons_zero, List.set_cons_succ]
        refine anyZ_free (i := 18) (oi := ?oi_19) (v := ?v_19) ?hi_19 ?hs_19 ?hf_19 ?hr_19 ?hQ_19 (Or.inl ⟨?hw_19, ?hy_19⟩) ?hrest_19
        case hi_19 => (simp only [List.getElem?_toArray, List.getElem?_cons_succ, List.getElem?_cons_zero]; exact rfl)
        case hs_19 => kernel_rfl
        case hf_19 => kernel_rfl
        case hr_19 => kernel_rfl
        case hQ_19 => exact fun _ _ _ h => h
        case hw_19 => rfl
        case hy_19 => (intro w _; go_simp; try with_reducible rfl)
        try simp only [Act.put, List.setIfInBounds_toArray, List.set_cons_zero, List.set_cons_succ]
        refine anyZ_free (i := 19) (oi := ?oi_20) (v := ?v_20) ?hi_20 ?hs_20 ?hf_20 ?hr_20 ?hQ_20 (Or.inl ⟨?hw_20, ?hy_20⟩) ?hrest_20
        case hi_20 => (simp only [List.getElem?_toArray, List.getElem?_cons_succ, List.getElem?_cons_zero]; exact rfl)
        case hs_20 => kernel_rfl
        case hf_20 => kernel_rfl
        case hr_20 => kernel_rfl
        case hQ_20 => exact fun _ _ _ h => h
        case hw_20 => rfl
        case hy_20 => (intro w _; go_simp; try with_reducible rfl)
        try simp only [Act.put, List.setIfInBounds_toArray, List.set_cons_zero, List.set_cons_succ]
        refine anyZ_free (i := 20) (oi := ?oi_21) (v := ?v_21) ?hi_21 ?hs_21 ?hf_21 ?hr_21 ?hQ_21 (Or.inl ⟨?hw_21, ?hy_21⟩) ?hrest_21
        case hi_21 => (simp only [List.getElem?_toArray, List.getElem?_cons_succ, List.getElem?_cons_zero]; exact rfl)
        case hs_21 => kernel_rfl
        case hf_21 => kernel_rfl
        case hr_21 => kernel_rfl
        case hQ_21 => exact fun _ _ _ h => h
        case hw_21 => rfl
        case hy_21 => (intro w _; go_simp; try with_reducible rfl)
        try simp only [Act.put, List.setIfInBounds_toArray, List.set_cons_zero, List.set_cons_succ]
        refine anyZ_free (i := 21) (oi := ?oi_22) (v := ?v_22) ?hi_22 ?hs_22 ?hf_22 ?hr_22 ?hQ_22 (Or.inl ⟨?hw_22, ?hy_22⟩) ?hrest_22
        case hi_22 => (simp only [List.getElem?_toArray, List.getElem?_cons_succ, List.getElem?_cons_zero]; exact rfl)
        case hs_22 => kernel_rfl
        case hf_22 => kernel_rfl
        case hr_22 => kernel_rfl
        case hQ_22 => exact fun _ _ _ h => h
        case hw_22 => rfl
        case hy_22 => (intro w _; go_simp; try with_reducible rfl)
        try simp only [Act.put, List.setIfInBounds_toArray, List.set_cons_zero, List.set_cons_succ]
        refine anyZ_free (i := 22) (oi := ?oi_23) (v := ?v_23) ?hi_23 ?hs_23 ?hf_23 ?hr_23 ?hQ_23 (Or.inl ⟨?hw_23, ?hy_23⟩) ?hrest_23
        case hi_23 => (simp only [List.getElem?_toArray, List.getElem?_cons_succ, List.getElem?_cons_zero]; exact rfl)
        case hs_23 => kernel_rfl
        case hf_23 => kernel_rfl
        case hr_23 => kernel_rfl
        case hQ_23 => exact fun _ _ _ h => h
        case hw_23 => rfl
        case hy_23 => (intro w _; go_simp; try with_reducible rfl)
        try simp only [Act.put, List.setIfInBounds_toArray, List.set_cons_zero, List.set_cons_succ]
        refine anyZ_free (i := 23) (oi := ?oi_24) (v := ?v_24) ?hi_24 ?hs_24 ?hf_24 ?hr_24 ?hQ_24 (Or.inl ⟨?hw_24, ?hy_24⟩) ?hrest_24
        case hi_24 => (simp only [List.getElem?_toArray, List.getElem?_cons_succ, List.getElem?_cons_zero]; exact rfl)
        case hs_24 => kernel_rfl
        case hf_24 => kernel_rfl
        case hr_24 => kernel_rfl
        case hQ_24 => exact fun _ _ _ h => h
        case hw_24 => rfl
        case hy_24 => (intro w _; go_simp; try with_reducible rfl)
        try simp only [Act.put, List.setIfInBounds_toArray, List.set_cons_zero, List.set_cons_succ]
        refine anyZ_ready (rs := [24]) (by kernel_rfl) (by simp) ?_
        refine (AllZ.last (o := ?o_25) ?ho_25 (by rfl) (fun K hK => ?st_25) AllZ.nil)
        case ho_25 => (simp only [List.getElem?_toArray, List.getElem?_cons_succ, List.getElem?_cons_zero]; exact rfl)
        case st_25 =>
          go_simp
          refine hK.out _ _ ?_
          clear hK K
          try simp only [Act.put, List.setIfInBounds_toArray, List.set_cons_zero, List.set_cons_succ]
          refine anyZ_free (i := 25) (oi := ?oi_26) (v := ?v_26) ?hi_26 ?hs_26 ?hf_26 ?hr_26 ?hQ_26 (Or.inl ⟨?hw_26, ?hy_26⟩) ?hrest_26
          case hi_26 => (simp only [List.getElem?_toArray, List.getElem?_cons_succ, List.getElem?_cons_zero]; exact rfl)
          case hs_26 => kernel_rfl
          case hf_26 => kernel_rfl
          case hr_26 => kernel_rfl
          case hQ_26 => exact fun _ _ _ h => h
          case hw_26 => rfl
          case hy_26 => (intro w _; go_simp; try with_reducible rfl)
          try simp only [Act.put, List.setIfInBounds_toArray, List.set_cons_zero, List.set_cons_succ]
          refine anyZ_ready (rs := [26]) (by kernel_rfl) (by simp) ?_
          refine (AllZ.last (o := ?o_27) ?ho_27 (by rfl) (fun K hK => ?st_27) AllZ.nil)
          case ho_27 => (simp only [List.getElem?_toArray, List.getElem?_cons_succ, List.getElem?_cons_zero]; exact rfl)
          case st_27 =>
            go_simp
            refine hK.out _ _ ?_
            clear hK K
            try simp only [Act.put, List.setIfInBounds_toArray, List.set_cons_zero, List.set_cons_succ]
            refine anyZ_free (i := 27) (oi := ?oi_28) (v := ?v_28) ?hi_28 ?hs_28 ?hf_28 ?hr_28 ?hQ_28 (Or.inl ⟨?hw_28, ?hy_28⟩) ?hrest_28
            case hi_28 => (simp only [List.getElem?_toArray, List.getElem?_cons_succ, List.getElem?_cons_zero]; exact rfl)
            case hs_28 => kernel_rfl
            case hf_28 => kernel_rfl
            case hr_28 => kernel_rfl
            case hQ_28 => exact fun _ _ _ h => h
            case hw_28 => rfl
            case hy_28 => (intro w _; go_simp; try with_reducible rfl)
            try simp only [Act.put, List.setIfInBounds_toArray, List.set_cons_zero, List.set_cons_succ]
            refine anyZ_ready (rs := [28]) (by kernel_rfl) (by simp) ?_
            refine (AllZ.last (o := ?o_29) ?ho_29 (by rfl) (fun K hK => ?st_29) AllZ.nil)
            case ho_29 => (simp only [List.getElem?_toArray, List.getElem?_cons_succ, List.getElem?_cons_zero]; exact rfl)
            case st_29 =>
              go_simp
              refine hK.out _ _ ?_
              clear hK K
              try simp only [Act.put, List.setIfInBounds_toArray, List.set_cons_zero, List.set_cons_succ]
              refine anyZ_free (i := 29) (oi := ?oi_30) (v := ?v_30) ?hi_30 ?hs_30 ?hf_30 ?hr_30 ?hQ_30 (Or.inl ⟨?hw_30, ?hy_30⟩) ?hrest_30
              case hi_30 => (simp only [List.getElem?_toArray, List.getElem?_cons_succ, List.getElem?_cons_zero]; exact rfl)
              case hs_30 => kernel_rfl
              case hf_30 => kernel_rfl
              case hr_30 => kernel_rfl
              case hQ_30 => exact fun _ _ _ h => h
              case hw_30 => rfl
              case hy_30 => (intro w _; go_simp; try with_reducible rfl)
              try simp only [Act.put, List.setIfInBounds_toArray, List.set_cons_zero, List.set_cons_succ]
              refine anyZ_ready (rs := [30]) (by kernel_rfl) (by simp) ?_
              refine (AllZ.last (o := ?o_31) ?ho_31 (by rfl) (fun K hK => ?st_31) AllZ.nil)
              case ho_31 => (simp only [List.getElem?_toArray, List.getElem?_cons_succ, List.getElem?_cons_zero]; exact rfl)
              case st_31 =>
                go_simp
                refine hK.out _ _ ?_
                clear hK K
                try simp only [Act.put, List.setIfInBounds_toArray, List.set_cons_zero, List.set_cons_succ]
                refine anyZ_done (by kernel_rfl) ?_ _
                refine NoPanic.normal ?_
                have tv3 : Hid (Arr (((((W2.setCell ⟨N, a, none⟩ (.int .u32 (A1 : Nat))).setCell ⟨N, b, none⟩ (.int .u32 (B1 : Nat))).setCell ⟨N, c, none⟩ (.int .u32 (C1 : Nat))).setCell ⟨N, d, none⟩ (.int .u32 (D1 : Nat))).drew) .u32 N 16 (Ob.half V a b c d (m e) 16 12)) := by
                  have h := ((((tv2.out.set (z := A1) la).set (z := B1) lb).set (z := C1) lc).set (z := D1) ld).drew
                  rw [Ob.half_four V xa xb xc xd xe xf (m e) 16 12 A1 B1 C1 D1 hA1.out hD1.out hC1.out hB1.out] at h
                  exact h
                have tm3 : Hid (Arr (((((W2.setCell ⟨N, a, none⟩ (.int .u32 (A1 : Nat))).setCell ⟨N, b, none⟩ (.int .u32 (B1 : Nat))).setCell ⟨N, c, none⟩ (.int .u32 (C1 : Nat))).setCell ⟨N, d, none⟩ (.int .u32 (D1 : Nat))).drew) .u32 (N + 1) 16 m) := ((((tm2.out.far (by omega) _ _).far (by omega) _ _).far (by omega) _ _).far (by omega) _ _).drew
                have tr3 : Hid (Arr (((((W2.setCell ⟨N, a, none⟩ (.int .u32 (A1 : Nat))).setCell ⟨N, b, none⟩ (.int .u32 (B1 : Nat))).setCell ⟨N, c, none⟩ (.int .u32 (C1 : Nat))).setCell ⟨N, d, none⟩ (.int .u32 (D1 : Nat))).drew) .u32 (N + 1 + 1) 16 (fun _ => 0)) := ((((tr2.out.far (by omega) _ _).far (by omega) _ _).far (by omega) _ _).far (by omega) _ _).drew
                have hB3 : Below N w (((((W2.setCell ⟨N, a, none⟩ (.int .u32 (A1 : Nat))).setCell ⟨N, b, none⟩ (.int .u32 (B1 : Nat))).setCell ⟨N, c, none⟩ (.int .u32 (C1 : Nat))).setCell ⟨N, d, none⟩ (.int .u32 (D1 : Nat))).drew) := by (repeat' (first | (with_reducible first | exact Below.refl _ _ | assumption | refine Below.alloc ?_ ?_ _ | refine Below.drew ?_ | refine below_drewN ?_ _ | refine Below.setCell ?_ ?_ _ | refine below_via (by with_reducible assumption) ?_ ?_) | omega | (simp only [szs]; omega) | (simp only [szs] at *; omega)))
                clear hHeld za1 zb1 zc1 zd1 xa1 xb1 xc1 xd1 ya1 yb1 yc1 yd1 c1 tv2 tm2 tr2 hB2
                generalize ((((W2.setCell ⟨N, a, none⟩ (.int .u32 (A1 : Nat))).setCell ⟨N, b, none⟩ (.int .u32 (B1 : Nat))).setCell ⟨N, c, none⟩ (.int .u32 (C1 : Nat))).setCell ⟨N, d, none⟩ (.int .u32 (D1 : Nat))).drew = W3 at *
                have hw2 : Hid (Ob.Words32 (Ob.half V a b c d (m e) 16 12)) := Ob.half_words hw1.out _ _ _ _ _ _ _ (by decide) (by decide)
                obtain ⟨V', hV'⟩ : ∃ V', Hid (Ob.half V a b c d (m e) 16 12 = V') := ⟨_, rfl⟩
                rw [hV'.out] at tv3 hw2 hnext
                clear hA1 hB1 hC1 hD1
                -- half 2
                obtain ⟨A2, hA2⟩ : ∃ z, Hid (Ob.s32 (V' a) (Ob.s32 (V' b) (m f)) = z) := ⟨_, rfl⟩
                obtain ⟨D2, hD2⟩ : ∃ z, Hid (Ob.rot (V' d ^^^ A2) 8 = z) := ⟨_, rfl⟩
                obtain ⟨C2, hC2⟩ : ∃ z, Hid (Ob.s32 (V' c) D2 = z) := ⟨_, rfl⟩
                obtain ⟨B2, hB2⟩ : ∃ z, Hid (Ob.rot (V' b ^^^ C2) 7 = z) := ⟨_, rfl⟩
                have c2 : ∀ w, Calls Tryd.prog 87 #[.int .u32 (V' a : Nat), .int .u32 (V' b : Nat), .int .u32 (V' c : Nat), .int .u32 (V' d : Nat), .int .u32 (m f : Nat), .int .i64 8, .int .i64 7] w fun e w' => e = .returned (.tuple #[.int .u32 A2, .int .u32 B2, .int .u32 C2, .int .u32 D2]) ∧ w = w' := fun w => halfW _ _ _ _ _ 8 7 _ _ _ _ (hw2.out _) (hw2.out _) (hw2.out _) (hw2.out _) (hm'.out _) (by decide) (by decide) (by decide) (by decide) hA2.out hD2.out hC2.out hB2.out w
                have za2 := tv3.out.drew.c a la
                have zb2 := tv3.out.drew.c b lb
                have zc2 := tv3.out.drew.c c lc
                have zd2 := tv3.out.drew.c d ld
                have xa2 := tv3.out.c a la
                have xb2 := tv3.out.c b lb
                have xc2 := tv3.out.c c lc
                have xd2 := tv3.out.c d ld
                have ya2 := tv3.out.f a la
                have yb2 := tv3.out.f b lb
                have yc2 := tv3.out.f c lc
                have yd2 := tv3.out.f d ld
                go_upto_region 7 with (fail)
                refine wp_region_noPanic ?_
                refine region_lastly (S := (fun w' => w'.cell? ⟨N, a, none⟩ = some (.int .u32 (V' a : Nat)) ∧ w'.cell? ⟨N, b, none⟩ = some (.int .u32 (V' b : Nat)) ∧ w'.cell? ⟨N, c, none⟩ = some (.int .u32 (V' c : Nat)) ∧ w'.cell? ⟨N, d, none⟩ = some (.int .u32 (V' d : Nat)))) [24, 26, 28, 30] (by kernel_rfl) (by ((try dsimp only); (exact ⟨za2, zb2, zc2, zd2⟩))) (fun hHeld => ?_)
                refine anyZ_free (i := 0) (oi := ?oi_32) (v := ?v_32) ?hi_32 ?hs_32 ?hf_32 ?hr_32 ?hQ_32 (Or.inl ⟨?hw_32, ?hy_32⟩) ?hrest_32
                case hi_32 => (simp only [List.getElem?_toArray, List.getElem?_cons_succ, List.getElem?_cons_zero]; exact rfl)
                case hs_32 => kernel_rfl
                case hf_32 => kernel_rfl
                case hr_32 => kernel_rfl
                case hQ_32 => exact fun _ _ _ h => h
                case hw_32 => rfl
                case hy_32 => (intro w _; go_simp; try with_reducible rfl)
                try simp only [Act.put, List.setIfInBounds_toArray, List.set_cons_zero, List.set_cons_succ]
                refine anyZ_free (i := 1) (oi := ?oi_33) (v := ?v_33) ?hi_33 ?hs_33 ?hf_33 ?hr_33 ?hQ_33 (Or.inl ⟨?hw_33, ?hy_33⟩) ?hrest_33
                case hi_33 => (simp only [List.getElem?_toArray, List.getElem?_cons_succ, List.getElem?_cons_zero]; exact rfl)
                case hs_33 => kernel_rfl
                case hf_33 => kernel_rfl
                case hr_33 => kernel_rfl
                case hQ_33 => exact fun _ _ _ h => h
                case hw_33 => rfl
                case hy_33 => (intro w _; go_simp; try with_reducible rfl)
                try simp only [Act.put, List.setIfInBounds_toArray, List.set_cons_zero, List.set_cons_succ]
                refine anyZ_free (i := 2) (oi := ?oi_34) (v := ?v_34) ?hi_34 ?hs_34 ?hf_34 ?hr_34 ?hQ_34 (Or.inl ⟨?hw_34, ?hy_34⟩) ?hrest_34
                case hi_34 => (simp only [List.getElem?_toArray, List.getElem?_cons_succ, List.getElem?_cons_zero]; exact rfl)
                case hs_34 => kernel_rfl
                case hf_34 => kernel_rfl
                case hr_34 => kernel_rfl
                case hQ_34 => exact fun _ _ _ h => h
                case hw_34 => rfl
                case hy_34 => (intro w _; go_simp; try with_reducible rfl)
                try simp only [Act.put, List.setIfInBounds_toArray, List.set_cons_zero, List.set_cons_succ]
                refine anyZ_free (i := 3) (oi := ?oi_35) (v := ?v_35) ?hi_35 ?hs_35 ?hf_35 ?hr_35 ?hQ_35 (Or.inl ⟨?hw_35, ?hy_35⟩) ?hrest_35
                case hi_35 => (simp only [List.getElem?_toArray, List.getElem?_cons_succ, List.getElem?_cons_zero]; exact rfl)
                case hs_35 => kernel_rfl
                case hf_35 => kernel_rfl
                case hr_35 => kernel_rfl
                case hQ_35 => exact fun _ _ _ h => h
                case hw_35 => rfl
                case hy_35 => (intro w _; go_simp; try with_reducible rfl)
                try simp only [Act.put, List.setIfInBounds_toArray, List.set_cons_zero, List.set_cons_succ]
                refine anyZ_free (i := 4) (oi := ?oi_36) (v := ?v_36) ?hi_36 ?hs_36 ?hf_36 ?hr_36 ?hQ_36 (Or.inl ⟨?hw_36, ?hy_36⟩) ?hrest_36
                case hi_36 => (simp only [List.getElem?_toArray, List.getElem?_cons_succ, List.getElem?_cons_zero]; exact rfl)
                case hs_36 => kernel_rfl
                case hf_36 => kernel_rfl
                case hr_36 => kernel_rfl
                case hQ_36 => exact fun _ _ _ h => h
                case hw_36 => rfl
                case hy_36 => (intro w _; go_simp; try with_reducible rfl)
                try simp only [Act.put, List.setIfInBounds_toArray, List.set_cons_zero, List.set_cons_succ]
                refine anyZ_free (i := 5) (oi := ?oi_37) (v := ?v_37) ?hi_37 ?hs_37 ?hf_37 ?hr_37 ?hQ_37 (Or.inl ⟨?hw_37, ?hy_37⟩) ?hrest_37
                case hi_37 => (simp only [List.getElem?_toArray, List.getElem?_cons_succ, List.getElem?_cons_zero]; exact rfl)
                case hs_37 => kernel_rfl
                case hf_37 => kernel_rfl
                case hr_37 => kernel_rfl
                case hQ_37 => exact fun _ _ _ h => h
                case hw_37 => rfl
                case hy_37 => (intro w _; go_simp; try with_reducible rfl)
                try simp only [Act.put, List.setIfInBounds_toArray, List.set_cons_zero, List.set_cons_succ]
                refine anyZ_take (i := 6) (oi := ?oi_38) (v := ?v_38) ?hi_38 ?hz_38 ?hs_38 ?hf_38 ?hr_38 ?hQ_38 (Or.inl ⟨?hw_38, ?hy_38⟩) ?hS_38 ?hrest_38
                case hi_38 => (simp only [List.getElem?_toArray, List.getElem?_cons_succ, List.getElem?_cons_zero]; exact rfl)
                case hz_38 => kernel_rfl
                case hs_38 => kernel_rfl
                case hf_38 => kernel_rfl
                case hr_38 => kernel_rfl
                case hQ_38 => exact fun _ _ _ h => h
                case hw_38 => rfl
                case hS_38 => assumption
                case hy_38 => (intro w hSw; (try dsimp only at hSw); go_simp; try with_reducible rfl)
                try simp only [Act.put, List.setIfInBounds_toArray, List.set_cons_zero, List.set_cons_succ]
                refine anyZ_free (i := 7) (oi := ?oi_39) (v := ?v_39) ?hi_39 ?hs_39 ?hf_39 ?hr_39 ?hQ_39 (Or.inl ⟨?hw_39, ?hy_39⟩) ?hrest_39
                case hi_39 => (simp only [List.getElem?_toArray, List.getElem?_cons_succ, List.getElem?_cons_zero]; exact rfl)
                case hs_39 => kernel_rfl
                case hf_39 => kernel_rfl
                case hr_39 => kernel_rfl
                case hQ_39 => exact fun _ _ _ h => h
                case hw_39 => rfl
                case hy_39 => (intro w _; go_simp; try with_reducible rfl)
                try simp only [Act.put, List.setIfInBounds_toArray, List.set_cons_zero, List.set_cons_succ]
                refine anyZ_free (i := 8) (oi := ?oi_40) (v := ?v_40) ?hi_40 ?hs_40 ?hf_40 ?hr_40 ?hQ_40 (Or.inl ⟨?hw_40, ?hy_40⟩) ?hrest_40
                case hi_40 => (simp only [List.getElem?_toArray, List.getElem?_cons_succ, List.getElem?_cons_zero]; exact rfl)
                case hs_40 => kernel_rfl
                case hf_40 => kernel_rfl
                case hr_40 => kernel_rfl
                case hQ_40 => exact fun _ _ _ h => h
                case hw_40 => rfl
                case hy_40 => (intro w _; go_simp; try with_reducible rfl)
                try simp only [Act.put, List.setIfInBounds_toArray, List.set_cons_zero, List.set_cons_succ]
                refine anyZ_take (i := 9) (oi := ?oi_41) (v := ?v_41) ?hi_41 ?hz_41 ?hs_41 ?hf_41 ?hr_41 ?hQ_41 (Or.inl ⟨?hw_41, ?hy_41⟩) ?hS_41 ?hrest_41
                case hi_41 => (simp only [List.getElem?_toArray, List.getElem?_cons_succ, List.getElem?_cons_zero]; exact rfl)
                case hz_41 => kernel_rfl
                case hs_41 => kernel_rfl
                case hf_41 => kernel_rfl
                case hr_41 => kernel_rfl
                case hQ_41 => exact fun _ _ _ h => h
                case hw_41 => rfl
                case hS_41 => assumption
                case hy_41 => (intro w hSw; (try dsimp only at hSw); go_simp; try with_reducible rfl)
                try simp only [Act.put, List.setIfInBounds_toArray, List.set_cons_zero, List.set_cons_succ]
                refine anyZ_free (i := 10) (oi := ?oi_42) (v := ?v_42) ?hi_42 ?hs_42 ?hf_42 ?hr_42 ?hQ_42 (Or.inl ⟨?hw_42, ?hy_42⟩) ?hrest_42
                case hi_42 => (simp only [List.getElem?_toArray, List.getElem?_cons_succ, List.getElem?_cons_zero]; exact rfl)
                case hs_42 => kernel_rfl
                case hf_42 => kernel_rfl
                case hr_42 => kernel_rfl
                case hQ_42 => exact fun _ _ _ h => h
                case hw_42 => rfl
                case hy_42 => (intro w _; go_simp; try with_reducible rfl)
                try simp only [Act.put, List.setIfInBounds_toArray, List.set_cons_zero, List.set_cons_succ]
                refine anyZ_free (i := 11) (oi := ?oi_43) (v := ?v_43) ?hi_43 ?hs_43 ?hf_43 ?hr_43 ?hQ_43 (Or.inl ⟨?hw_43, ?hy_43⟩) ?hrest_43
                case hi_43 => (simp only [List.getElem?_toArray, List.getElem?_cons_succ, List.getElem?_cons_zero]; exact rfl)
                case hs_43 => kernel_rfl
                case hf_43 => kernel_rfl
                case hr_43 => kernel_rfl
                case hQ_43 => exact fun _ _ _ h => h
                case hw_43 => rfl
                case hy_43 => (intro w _; go_simp; try with_reducible rfl)
                try simp only [Act.put, List.setIfInBounds_toArray, List.set_cons_zero, List.set_cons_succ]
                refine anyZ_take (i := 12) (oi := ?oi_44) (v := ?v_44) ?hi_44 ?hz_44 ?hs_44 ?hf_44 ?hr_44 ?hQ_44 (Or.inl ⟨?hw_44, ?hy_44⟩) ?hS_44 ?hrest_44
                case hi_44 => (simp only [List.getElem?_toArray, List.getElem?_cons_succ, List.getElem?_cons_zero]; exact rfl)
                case hz_44 => kernel_rfl
                case hs_44 => kernel_rfl
                case hf_44 => kernel_rfl
                case hr_44 => kernel_rfl
                case hQ_44 => exact fun _ _ _ h => h
                case hw_44 => rfl
                case hS_44 => assumption
                case hy_44 => (intro w hSw; (try dsimp only at hSw); go_simp; try with_reducible rfl)
                try simp only [Act.put, List.setIfInBounds_toArray, List.set_cons_zero, List.set_cons_succ]
                refine anyZ_free (i := 13) (oi := ?oi_45) (v := ?v_45) ?hi_45 ?hs_45 ?hf_45 ?hr_45 ?hQ_45 (Or.inl ⟨?hw_45, ?hy_45⟩) ?hrest_45
                case hi_45 => (simp only [List.getElem?_toArray, List.getElem?_cons_succ, List.getElem?_cons_zero]; exact rfl)
                case hs_45 => kernel_rfl
                case hf_45 => kernel_rfl
                case hr_45 => kernel_rfl
                case hQ_45 => exact fun _ _ _ h => h
                case hw_45 => rfl
                case hy_45 => (intro w _; go_simp; try with_reducible rfl)
                try simp only [Act.put, List.setIfInBounds_toArray, List.set_cons_zero, List.set_cons_succ]
                refine anyZ_free (i := 14) (oi := ?oi_46) (v := ?v_46) ?hi_46 ?hs_46 ?hf_46 ?hr_46 ?hQ_46 (Or.inl ⟨?hw_46, ?hy_46⟩) ?hrest_46
                case hi_46 => (simp only [List.getElem?_toArray, List.getElem?_cons_succ, List.getElem?_cons_zero]; exact rfl)
                case hs_46 => kernel_rfl
                case hf_46 => kernel_rfl
                case hr_46 => kernel_rfl
                case hQ_46 => exact fun _ _ _ h => h
                case hw_46 => rfl
                case hy_46 => (intro w _; go_simp; try with_reducible rfl)
                try simp only [Act.put, List.setIfInBounds_toArray, List.set_cons_zero, List.set_cons_succ]
                refine anyZ_take (i := 15) (oi := ?oi_47) (v := ?v_47) ?hi_47 ?hz_47 ?hs_47 ?hf_47 ?hr_47 ?hQ_47 (Or.inl ⟨?hw_47, ?hy_47⟩) ?hS_47 ?hrest_47
                case hi_47 => (simp only [List.getElem?_toArray, List.getElem?_cons_succ, List.getElem?_cons_zero]; exact rfl)
                case hz_47 => kernel_rfl
                case hs_47 => kernel_rfl
                case hf_47 => kernel_rfl
                case hr_47 => kernel_rfl
                case hQ_47 => exact fun _ _ _ h => h
                case hw_47 => rfl
                case hS_47 => assumption
                case hy_47 => (intro w hSw; (try dsimp only at hSw); go_simp; try with_reducible rfl)
                try simp only [Act.put, List.setIfInBounds_toArray, List.set_cons_zero, List.set_cons_succ]
                refine anyZ_free (i := 16) (oi := ?oi_48) (v := ?v_48) ?hi_48 ?hs_48 ?hf_48 ?hr_48 ?hQ_48 (Or.inl ⟨?hw_48, ?hy_48⟩) ?hrest_48
                case hi_48 => (simp only [List.getElem?_toArray, List.getElem?_cons_succ, List.getElem?_cons_zero]; exact rfl)
                case hs_48 => kernel_rfl
                case hf_48 => kernel_rfl
                case hr_48 => kernel_rfl
                case hQ_48 => exact fun _ _ _ h => h
                case hw_48 => rfl
                case hy_48 => (intro w _; go_simp; try with_reducible rfl)
                try simp only [Act.put, List.setIfInBounds_toArray, List.set_cons_zero, List.set_cons_succ]
                refine anyZ_ready (rs := [17]) (by kernel_rfl) (by simp) ?_
                refine (AllZ.cons (o := ?o_49) ?ho_49 (fun K hK => ?st_49) AllZ.nil)
                case ho_49 => (simp only [List.getElem?_toArray, List.getElem?_cons_succ, List.getElem?_cons_zero]; exact rfl)
                case st_49 =>
                  go_simp
                  (first | (go_at_call 87; first | (with_reducible refine (c2 _).mono ?_; rintro e w' ⟨rfl, rfl⟩)))
                  refine hK.out _ _ (by ((try dsimp only); (exact ⟨za2, zb2, zc2, zd2⟩))) (fun hHeld => ?_)
                  clear hK K
                  try simp only [Act.put, List.setIfInBounds_toArray, List.set_cons_zero, List.set_cons_succ]
                  refine anyZ_free (i := 18) (oi := ?oi_50) (v := ?v_50) ?hi_50 ?hs_50 ?hf_50 ?hr_50 ?hQ_50 (Or.inl ⟨?hw_50, ?hy_50⟩) ?hrest_50
                  case hi_50 => (simp only [List.getElem?_toArray, List.getElem?_cons_succ, List.getElem?_cons_zero]; exact rfl)
                  case hs_50 => kernel_rfl
                  case hf_50 => kernel_rfl
                  case hr_50 => kernel_rfl
                  case hQ_50 => exact fun _ _ _ h => h
                  case hw_50 => rfl
                  case hy_50 => (intro w _; go_simp; try with_reducible rfl)
                  try simp only [Act.put, List.setIfInBounds_toArray, List.set_cons_zero, List.set_cons_succ]
                  refine anyZ_free (i := 19) (oi := ?oi_51) (v := ?v_51) ?hi_51 ?hs_51 ?hf_51 ?hr_51 ?hQ_51 (Or.inl ⟨?hw_51, ?hy_51⟩) ?hrest_51
                  case hi_51 => (simp only [List.getElem?_toArray, List.getElem?_cons_succ, List.getElem?_cons_zero]; exact rfl)
                  case hs_51 => kernel_rfl
                  case hf_51 => kernel_rfl
                  case hr_51 => kernel_rfl
                  case hQ_51 => exact fun _ _ _ h => h
                  case hw_51 => rfl
                  case hy_51 => (intro w _; go_simp; try with_reducible rfl)
                  try simp only [Act.put, List.setIfInBounds_toArray, List.set_cons_zero, List.set_cons_succ]
                  refine anyZ_free (i := 20) (oi := ?oi_52) (v := ?v_52) ?hi_52 ?hs_52 ?hf_52 ?hr_52 ?hQ_52 (Or.inl ⟨?hw_52, ?hy_52⟩) ?hrest_52
                  case hi_52 => (simp only [List.getElem?_toArray, List.getElem?_cons_succ, List.getElem?_cons_zero]; exact rfl)
                  case hs_52 => kernel_rfl
                  case hf_52 => kernel_rfl
                  case hr_52 => kernel_rfl
                  case hQ_52 => exact fun _ _ _ h => h
                  case hw_52 => rfl
                  case hy_52 => (intro w _; go_simp; try with_reducible rfl)
                  try simp only [Act.put, List.setIfInBounds_toArray, List.set_cons_zero, List.set_cons_succ]
                  refine anyZ_free (i := 21) (oi := ?oi_53) (v := ?v_53) ?hi_53 ?hs_53 ?hf_53 ?hr_53 ?hQ_53 (Or.inl ⟨?hw_53, ?hy_53⟩) ?hrest_53
                  case hi_53 => (simp only [List.getElem?_toArray, List.getElem?_cons_succ, List.getElem?_cons_zero]; exact rfl)
                  case hs_53 => kernel_rfl
                  case hf_53 => kernel_rfl
                  case hr_53 => kernel_rfl
                  case hQ_53 => exact fun _ _ _ h => h
                  case hw_53 => rfl
                  case hy_53 => (intro w _; go_simp; try with_reducible rfl)
                  try simp only [Act.put, List.setIfInBounds_toArray, List.set_cons_zero, List.set_cons_succ]
                  refine anyZ_free (i := 22) (oi := ?oi_54) (v := ?v_54) ?hi_54 ?hs_54 ?hf_54 ?hr_54 ?hQ_54 (Or.inl ⟨?hw_54, ?hy_54⟩) ?hrest_54
                  case hi_54 => (simp only [List.getElem?_toArray, List.getElem?_cons_succ, List.getElem?_cons_zero]; exact rfl)
                  case hs_54 => kernel_rfl
                  case hf_54 => kernel_rfl
                  case hr_54 => kernel_rfl
                  case hQ_54 => exact fun _ _ _ h => h
                  case hw_54 => rfl
                  case hy_54 => (intro w _; go_simp; try with_reducible rfl)
                  try simp only [Act.put, List.setIfInBounds_toArray, List.set_cons_zero, List.set_cons_succ]
                  refine anyZ_free (i := 23) (oi := ?oi_55) (v := ?v_55) ?hi_55 ?hs_55 ?hf_55 ?hr_55 ?hQ_55 (Or.inl ⟨?hw_55, ?hy_55⟩) ?hrest_55
                  case hi_55 => (simp only [List.getElem?_toArray, List.getElem?_cons_succ, List.getElem?_cons_zero]; exact rfl)
                  case hs_55 => kernel_rfl
                  case hf_55 => kernel_rfl
                  case hr_55 => kernel_rfl
                  case hQ_55 => exact fun _ _ _ h => h
                  case hw_55 => rfl
                  case hy_55 => (intro w _; go_simp; try with_reducible rfl)
                  try simp only [Act.put, List.setIfInBounds_toArray, List.set_cons_zero, List.set_cons_succ]
                  refine anyZ_ready (rs := [24]) (by kernel_rfl) (by simp) ?_
                  refine (AllZ.last (o := ?o_56) ?ho_56 (by rfl) (fun K hK => ?st_56) AllZ.nil)
                  case ho_56 => (simp only [List.getElem?_toArray, List.getElem?_cons_succ, List.getElem?_cons_zero]; exact rfl)
                  case st_56 =>
                    go_simp
                    refine hK.out _ _ ?_
                    clear hK K
                    try simp only [Act.put, List.setIfInBounds_toArray, List.set_cons_zero, List.set_cons_succ]
                    refine anyZ_free (i := 25) (oi := ?oi_57) (v := ?v_57) ?hi_57 ?hs_57 ?hf_57 ?hr_57 ?hQ_57 (Or.inl ⟨?hw_57, ?hy_57⟩) ?hrest_57
                    case hi_57 => (simp only [List.getElem?_toArray, List.getElem?_cons_succ, List.getElem?_cons_zero]; exact rfl)
                    case hs_57 => kernel_rfl
                    case hf_57 => kernel_rfl
                    case hr_57 => kernel_rfl
                    case hQ_57 => exact fun _ _ _ h => h
                    case hw_57 => rfl
                    case hy_57 => (intro w _; go_simp; try with_reducible rfl)
                    try simp only [Act.put, List.setIfInBounds_toArray, List.set_cons_zero, List.set_cons_succ]
                    refine anyZ_ready (rs := [26]) (by kernel_rfl) (by simp) ?_
                    refine (AllZ.last (o := ?o_58) ?ho_58 (by rfl) (fun K hK => ?st_58) AllZ.nil)
                    case ho_58 => (simp only [List.getElem?_toArray, List.getElem?_cons_succ, List.getElem?_cons_zero]; exact rfl)
                    case st_58 =>
                      go_simp
                      refine hK.out _ _ ?_
                      clear hK K
                      try simp only [Act.put, List.setIfInBounds_toArray, List.set_cons_zero, List.set_cons_succ]
                      refine anyZ_free (i := 27) (oi := ?oi_59) (v := ?v_59) ?hi_59 ?hs_59 ?hf_59 ?hr_59 ?hQ_59 (Or.inl ⟨?hw_59, ?hy_59⟩) ?hrest_59
                      case hi_59 => (simp only [List.getElem?_toArray, List.getElem?_cons_succ, List.getElem?_cons_zero]; exact rfl)
                      case hs_59 => kernel_rfl
                      case hf_59 => kernel_rfl
                      case hr_59 => kernel_rfl
                      case hQ_59 => exact fun _ _ _ h => h
                      case hw_59 => rfl
                      case hy_59 => (intro w _; go_simp; try with_reducible rfl)
                      try simp only [Act.put, List.setIfInBounds_toArray, List.set_cons_zero, List.set_cons_succ]
                      refine anyZ_ready (rs := [28]) (by kernel_rfl) (by simp) ?_
                      refine (AllZ.last (o := ?o_60) ?ho_60 (by rfl) (fun K hK => ?st_60) AllZ.nil)
                      case ho_60 => (simp only [List.getElem?_toArray, List.getElem?_cons_succ, List.getElem?_cons_zero]; exact rfl)
                      case st_60 =>
                        go_simp
                        refine hK.out _ _ ?_
                        clear hK K
                        try simp only [Act.put, List.setIfInBounds_toArray, List.set_cons_zero, List.set_cons_succ]
                        refine anyZ_free (i := 29) (oi := ?oi_61) (v := ?v_61) ?hi_61 ?hs_61 ?hf_61 ?hr_61 ?hQ_61 (Or.inl ⟨?hw_61, ?hy_61⟩) ?hrest_61
                        case hi_61 => (simp only [List.getElem?_toArray, List.getElem?_cons_succ, List.getElem?_cons_zero]; exact rfl)
                        case hs_61 => kernel_rfl
                        case hf_61 => kernel_rfl
                        case hr_61 => kernel_rfl
                        case hQ_61 => exact fun _ _ _ h => h
                        case hw_61 => rfl
                        case hy_61 => (intro w _; go_simp; try with_reducible rfl)
                        try simp only [Act.put, List.setIfInBounds_toArray, List.set_cons_zero, List.set_cons_succ]
                        refine anyZ_ready (rs := [30]) (by kernel_rfl) (by simp) ?_
                        refine (AllZ.last (o := ?o_62) ?ho_62 (by rfl) (fun K hK => ?st_62) AllZ.nil)
                        case ho_62 => (simp only [List.getElem?_toArray, List.getElem?_cons_succ, List.getElem?_cons_zero]; exact rfl)
                        case st_62 =>
                          go_simp
                          refine hK.out _ _ ?_
                          clear hK K
                          try simp only [Act.put, List.setIfInBounds_toArray, List.set_cons_zero, List.set_cons_succ]
                          refine anyZ_done (by kernel_rfl) ?_ _
                          refine NoPanic.normal ?_
                          have tv4 : Hid (Arr (((((W3.setCell ⟨N, a, none⟩ (.int .u32 (A2 : Nat))).setCell ⟨N, b, none⟩ (.int .u32 (B2 : Nat))).setCell ⟨N, c, none⟩ (.int .u32 (C2 : Nat))).setCell ⟨N, d, none⟩ (.int .u32 (D2 : Nat))).drew) .u32 N 16 (Ob.half V' a b c d (m f) 8 7)) := by
                            have h := ((((tv3.out.set (z := A2) la).set (z := B2) lb).set (z := C2) lc).set (z := D2) ld).drew
                            rw [Ob.half_four V' xa xb xc xd xe xf (m f) 8 7 A2 B2 C2 D2 hA2.out hD2.out hC2.out hB2.out] at h
                            exact h
                          have tm4 : Hid (Arr (((((W3.setCell ⟨N, a, none⟩ (.int .u32 (A2 : Nat))).setCell ⟨N, b, none⟩ (.int .u32 (B2 : Nat))).setCell ⟨N, c, none⟩ (.int .u32 (C2 : Nat))).setCell ⟨N, d, none⟩ (.int .u32 (D2 : Nat))).drew) .u32 (N + 1) 16 m) := ((((tm3.out.far (by omega) _ _).far (by omega) _ _).far (by omega) _ _).far (by omega) _ _).drew
                          have tr4 : Hid (Arr (((((W3.setCell ⟨N, a, none⟩ (.int .u32 (A2 : Nat))).setCell ⟨N, b, none⟩ (.int .u32 (B2 : Nat))).setCell ⟨N, c, none⟩ (.int .u32 (C2 : Nat))).setCell ⟨N, d, none⟩ (.int .u32 (D2 : Nat))).drew) .u32 (N + 1 + 1) 16 (fun _ => 0)) := ((((tr3.out.far (by omega) _ _).far (by omega) _ _).far (by omega) _ _).far (by omega) _ _).drew
                          have hB4 : Below N w (((((W3.setCell ⟨N, a, none⟩ (.int .u32 (A2 : Nat))).setCell ⟨N, b, none⟩ (.int .u32 (B2 : Nat))).setCell ⟨N, c, none⟩ (.int .u32 (C2 : Nat))).setCell ⟨N, d, none⟩ (.int .u32 (D2 : Nat))).drew) := by (repeat' (first | (with_reducible first | exact Below.refl _ _ | assumption | refine Below.alloc ?_ ?_ _ | refine Below.drew ?_ | refine below_drewN ?_ _ | refine Below.setCell ?_ ?_ _ | refine below_via (by with_reducible assumption) ?_ ?_) | omega | (simp only [szs]; omega) | (simp only [szs] at *; omega)))
                          clear hHeld za2 zb2 zc2 zd2 xa2 xb2 xc2 xd2 ya2 yb2 yc2 yd2 c2 tv3 tm3 tr3 hB3
                          generalize ((((W3.setCell ⟨N, a, none⟩ (.int .u32 (A2 : Nat))).setCell ⟨N, b, none⟩ (.int .u32 (B2 : Nat))).setCell ⟨N, c, none⟩ (.int .u32 (C2 : Nat))).setCell ⟨N, d, none⟩ (.int .u32 (D2 : Nat))).drew = W4 at *
                          rw [← hnext.out] at tv4
                          clear hw1 hw2 hV hV' hnext hA2 hB2 hC2 hD2 ia ib ic id ja jb jc jd xa xb xc xd xe xf nab nac nad nbc nbd ncd la lb lc ld ha hb hc hd he hf hk hk1 le lf r0 r1
                          go_wp2
                          go_roundw
                          case rel => exact ⟨i + 1, by omega, by go_num, tv4, tm4, tr4, hB4⟩
                          case measure => (simp only [intOf, Int.toNat_natCast]; omega)
    · obtain rfl : i = 8 := by omega
      go_upto_region 9 with (fail)
      go_wp2_with (first | ((with_reducible refine wpList_loadLit tv.out ?_ Tryd.underlying81 ?_ ?_ ?_); (focus rfl); (focus rfl); (focus kernel_rfl); simp only [Act.put, List.setIfInBounds_toArray, List.set_cons_zero, List.set_cons_succ]) | ((with_reducible refine wpList_storeLit (Ob.roundN v m r 8) tr.out ?_ ?_ ?_ ?_); (focus rfl); (focus rfl); (focus kernel_rfl); intro W5 hW5_ tW5_ zW5_; try simp only [Act.put, List.setIfInBounds_toArray, List.set_cons_zero, List.set_cons_succ]))
      have hB5 : Below w.heap.size w W5 := by rw [hW5_.out, hN.out]; exact below_setCells hB (by omega) _ _
      have rv := tW5_.out.loadVar Tryd.underlying81 rfl (by kernel_rfl)
      exact bodyPost_ret (v := .agg (arrL .u32 (Ob.roundN v m r 8) 16).toArray) (by simp [results, Tryd.results86, asAddr, rv]) rfl ⟨rfl, hB5⟩
end Go.Proofs.YtdhbkhmknnlmnaaDoor

namespace Go.Proofs.YtdhbkhmknnlmnaaDoor
open Go.RowKit Go.Proofs
set_option linter.unusedVariables false
set_option linter.unusedSimpArgs false
attribute [local go_sem ↓] Go.wp_at_zero Go.wp_at_succ

set_option maxHeartbeats 4000000 in
theorem sixteen_core (h : Nat → Nat) (hh : Ob.Words32 h) (n : Nat) (hn : n < 18446744073709551616) (last : Bool) (w : World) (hT : Tabs w) :
    Calls Tryd.prog 84 #[arrV .u32 h 8, .int .u64 n, .bool last] w fun e w' => e = .returned (arrV .u32 (Ob.six h n last) 16) ∧ Below w.heap.size w w' := by
  unfold arrV
  have hl := arrL_length .u32 h 8
  have hT' : Hid (Tabs w) := hT
  have hh' : Hid (Ob.Words32 h) := hh
  clear hT hh
  go_enter Tryd.func84, Tryd.ntmps84
  go_upto_region 2 with (fail)
  obtain ⟨W0, hW0⟩ : ∃ W, Hid ((((w.alloc (.cells (arrL .u32 h 8).toArray 65)).alloc (.cells (arrL .u32 (fun _ => 0) 16).toArray 81)).alloc (.cells (arrL .u32 (fun _ => 0) 16).toArray 81)) = W) := ⟨_, rfl⟩
  have th0 : Arr W0 .u32 w.heap.size 8 h := by rw [← hW0.out]; exact ((Arr.new rfl).alloc _).alloc _
  have tr0 : Arr W0 .u32 (w.heap.size + 1) 16 (fun _ => 0) := by rw [← hW0.out]; exact (Arr.new (by simp)).alloc _
  have tv0 : Arr W0 .u32 (w.heap.size + 1 + 1) 16 (Ob.sixI h 0) := by rw [← hW0.out, Ob.sixI_zero]; exact Arr.new (by simp)
  have hB0 : Below w.heap.size w W0 := by rw [← hW0.out]; (repeat' (first | (with_reducible first | exact Below.refl _ _ | assumption | refine Below.alloc ?_ ?_ _ | refine Below.drew ?_ | refine below_drewN ?_ _ | refine Below.setCell ?_ ?_ _ | refine below_via (by with_reducible assumption) ?_ ?_) | omega | (simp only [szs]; omega) | (simp only [szs] at *; omega)))
  change Code.wp _ _ _ _ (((w.alloc (.cells (arrL .u32 h 8).toArray 65)).alloc (.cells (arrL .u32 (fun _ => 0) 16).toArray 81)).alloc (.cells (arrL .u32 (fun _ => 0) 16).toArray 81))
  rw [hW0.out]
  clear hW0
  obtain ⟨N, hN⟩ : ∃ N, Hid (w.heap.size = N) := ⟨_, rfl⟩
  rw [hN.out] at tv0 th0 tr0 hB0 ⊢
  have hlN : 5 ≤ N := by have := hT'.out.lt; have := hN.out; omega
  go_wp2
  go_loopw [9] (fun s9 wr => ∃ (i : Nat), i ≤ 8 ∧ s9 = .int .i64 (i : Nat) ∧ Hid (Arr wr .u32 N 8 h) ∧ Hid (Arr wr .u32 (N + 1) 16 (fun _ => 0)) ∧ Hid (Arr wr .u32 (N + 1 + 1) 16 (Ob.sixI h i)) ∧ Below N w wr) (fun s9 _ => 8 - (intOf s9).toNat)
  case atStart => exact ⟨0, by omega, rfl, th0, tr0, tv0, hB0⟩
  case round =>
    clear tv0 th0 tr0 hB0
    obtain ⟨i, hi, rfl, th, tr, tv, hB⟩ := hrel
    have l0 := hB.size
    by_cases hlt : i < 8
    · have g1 := (hT'.out.below hB hlN).first
      have p0 := th.out.drew.c i hlt
      have p1 := g1.drew.c i hlt
      have p2 := tv.out.c i (by omega)
      have p3 := tv.out.c (i + 8) (by omega)
      have p4 := tv.out.f i (by omega)
      have p5 := tv.out.f (i + 8) (by omega)
      have i0 : (i : Int) < 8 := by omega
      have i1 : (0 : Int) ≤ (i : Int) := by omega
      have i2 : (i : Int) < 16 := by omega
      have i3 : IntKind.i64.wrap ((i : Int) + 8) = ((i + 8 : Nat) : Int) := by rw [IntKind.wrap_i64]; omega
      have i4 : ((i + 8 : Nat) : Int) < 16 := by omega
      have i5 : (0 : Int) ≤ ((i + 8 : Nat) : Int) := by omega
      obtain ⟨k, hk⟩ : ∃ k, Hid (i + 8 = k) := ⟨_, rfl⟩
      rw [hk.out] at i3 i4 i5 p3 p5
      have ik : i ≠ k := by have := hk.out; omega
      go_upto_region 5 with (fail)
      refine wp_region_noPanic ?_
      refine region_lastly (S := (fun w' => w'.cell? ⟨N, i, none⟩ = some (.int .u32 (h i : Nat)) ∧ w'.cell? ⟨2, i, none⟩ = some (.int .u32 (Ob.first i : Nat)))) [12] (by kernel_rfl) (by ((try dsimp only); (first | exact ⟨p0, p1⟩ | exact ⟨(th.out.far (by omega) _ _).drew.c _ hlt, (g1.far (by omega) _ _).drew.c _ hlt⟩))) (fun hHeld => ?_)
      refine anyZ_free (i := 0) (oi := ?oi_1) (v := ?v_1) ?hi_1 ?hs_1 ?hf_1 ?hr_1 ?hQ_1 (Or.inl ⟨?hw_1, ?hy_1⟩) ?hrest_1
      case hi_1 => (simp only [List.getElem?_toArray, List.getElem?_cons_succ, List.getElem?_cons_zero]; exact rfl)
      case hs_1 => kernel_rfl
      case hf_1 => kernel_rfl
      case hr_1 => kernel_rfl
      case hQ_1 => exact fun _ _ _ h => h
      case hw_1 => rfl
      case hy_1 => (intro w _; go_simp; try with_reducible rfl)
      try simp only [Act.put, List.setIfInBounds_toArray, List.set_cons_zero, List.set_cons_succ]
      refine anyZ_free (i := 1) (oi := ?oi_2) (v := ?v_2) ?hi_2 ?hs_2 ?hf_2 ?hr_2 ?hQ_2 (Or.inl ⟨?hw_2, ?hy_2⟩) ?hrest_2
      case hi_2 => (simp only [List.getElem?_toArray, List.getElem?_cons_succ, List.getElem?_cons_zero]; exact rfl)
      case hs_2 => kernel_rfl
      case hf_2 => kernel_rfl
      case hr_2 => kernel_rfl
      case hQ_2 => exact fun _ _ _ h => h
      case hw_2 => rfl
      case hy_2 => (intro w _; go_simp; try with_reducible rfl)
      try simp only [Act.put, List.setIfInBounds_toArray, List.set_cons_zero, List.set_cons_succ]
      refine anyZ_free (i := 2) (oi := ?oi_3) (v := ?v_3) ?hi_3 ?hs_3 ?hf_3 ?hr_3 ?hQ_3 (Or.inl ⟨?hw_3, ?hy_3⟩) ?hrest_3
      case hi_3 => (simp only [List.getElem?_toArray, List.getElem?_cons_succ, List.getElem?_cons_zero]; exact rfl)
      case hs_3 => kernel_rfl
      case hf_3 => kernel_rfl
      case hr_3 => kernel_rfl
      case hQ_3 => exact fun _ _ _ h => h
      case hw_3 => rfl
      case hy_3 => (intro w _; go_simp; try with_reducible rfl)
      try simp only [Act.put, List.setIfInBounds_toArray, List.set_cons_zero, List.set_cons_succ]
      refine anyZ_free (i := 3) (oi := ?oi_4) (v := ?v_4) ?hi_4 ?hs_4 ?hf_4 ?hr_4 ?hQ_4 (Or.inl ⟨?hw_4, ?hy_4⟩) ?hrest_4
      case hi_4 => (simp only [List.getElem?_toArray, List.getElem?_cons_succ, List.getElem?_cons_zero]; exact rfl)
      case hs_4 => kernel_rfl
      case hf_4 => kernel_rfl
      case hr_4 => kernel_rfl
      case hQ_4 => exact fun _ _ _ h => h
      case hw_4 => rfl
      case hy_4 => (intro w _; go_simp; try with_reducible rfl)
      try simp only [Act.put, List.setIfInBounds_toArray, List.set_cons_zero, List.set_cons_succ]
      refine anyZ_free (i := 4) (oi := ?oi_5) (v := ?v_5) ?hi_5 ?hs_5 ?hf_5 ?hr_5 ?hQ_5 (Or.inl ⟨?hw_5, ?hy_5⟩) ?hrest_5
      case hi_5 => (simp only [List.getElem?_toArray, List.getElem?_cons_succ, List.getElem?_cons_zero]; exact rfl)
      case hs_5 => kernel_rfl
      case hf_5 => kernel_rfl
      case hr_5 => kernel_rfl
      case hQ_5 => exact fun _ _ _ h => h
      case hw_5 => rfl
      case hy_5 => (intro w _; go_simp; try with_reducible rfl)
      try simp only [Act.put, List.setIfInBounds_toArray, List.set_cons_zero, List.set_cons_succ]
      refine anyZ_take (i := 5) (oi := ?oi_6) (v := ?v_6) ?hi_6 ?hz_6 ?hs_6 ?hf_6 ?hr_6 ?hQ_6 (Or.inl ⟨?hw_6, ?hy_6⟩) ?hS_6 ?hrest_6
      case hi_6 => (simp only [List.getElem?_toArray, List.getElem?_cons_succ, List.getElem?_cons_zero]; exact rfl)
      case hz_6 => kernel_rfl
      case hs_6 => kernel_rfl
      case hf_6 => kernel_rfl
      case hr_6 => kernel_rfl
      case hQ_6 => exact fun _ _ _ h => h
      case hw_6 => rfl
      case hS_6 => assumption
      case hy_6 => (intro w hSw; (try dsimp only at hSw); go_simp; try with_reducible rfl)
      try simp only [Act.put, List.setIfInBounds_toArray, List.set_cons_zero, List.set_cons_succ]
      refine anyZ_free (i := 6) (oi := ?oi_7) (v := ?v_7) ?hi_7 ?hs_7 ?hf_7 ?hr_7 ?hQ_7 (Or.inl ⟨?hw_7, ?hy_7⟩) ?hrest_7
      case hi_7 => (simp only [List.getElem?_toArray, List.getElem?_cons_succ, List.getElem?_cons_zero]; exact rfl)
      case hs_7 => kernel_rfl
      case hf_7 => kernel_rfl
      case hr_7 => kernel_rfl
      case hQ_7 => exact fun _ _ _ h => h
      case hw_7 => rfl
      case hy_7 => (intro w _; go_simp; try with_reducible rfl)
      try simp only [Act.put, List.setIfInBounds_toArray, List.set_cons_zero, List.set_cons_succ]
      refine anyZ_free (i := 7) (oi := ?oi_8) (v := ?v_8) ?hi_8 ?hs_8 ?hf_8 ?hr_8 ?hQ_8 (Or.inl ⟨?hw_8, ?hy_8⟩) ?hrest_8
      case hi_8 => (simp only [List.getElem?_toArray, List.getElem?_cons_succ, List.getElem?_cons_zero]; exact rfl)
      case hs_8 => kernel_rfl
      case hf_8 => kernel_rfl
      case hr_8 => kernel_rfl
      case hQ_8 => exact fun _ _ _ h => h
      case hw_8 => rfl
      case hy_8 => (intro w _; go_simp; try with_reducible rfl)
      try simp only [Act.put, List.setIfInBounds_toArray, List.set_cons_zero, List.set_cons_succ]
      refine anyZ_take (i := 8) (oi := ?oi_9) (v := ?v_9) ?hi_9 ?hz_9 ?hs_9 ?hf_9 ?hr_9 ?hQ_9 (Or.inl ⟨?hw_9, ?hy_9⟩) ?hS_9 ?hrest_9
      case hi_9 => (simp only [List.getElem?_toArray, List.getElem?_cons_succ, List.getElem?_cons_zero]; exact rfl)
      case hz_9 => kernel_rfl
      case hs_9 => kernel_rfl
      case hf_9 => kernel_rfl
      case hr_9 => kernel_rfl
      case hQ_9 => exact fun _ _ _ h => h
      case hw_9 => rfl
      case hS_9 => assumption
      case hy_9 => (intro w hSw; (try dsimp only at hSw); go_simp; try with_reducible rfl)
      try simp only [Act.put, List.setIfInBounds_toArray, List.set_cons_zero, List.set_cons_succ]
      refine anyZ_free (i := 9) (oi := ?oi_10) (v := ?v_10) ?hi_10 ?hs_10 ?hf_10 ?hr_10 ?hQ_10 (Or.inl ⟨?hw_10, ?hy_10⟩) ?hrest_10
      case hi_10 => (simp only [List.getElem?_toArray, List.getElem?_cons_succ, List.getElem?_cons_zero]; exact rfl)
      case hs_10 => kernel_rfl
      case hf_10 => kernel_rfl
      case hr_10 => kernel_rfl
      case hQ_10 => exact fun _ _ _ h => h
      case hw_10 => rfl
      case hy_10 => (intro w _; go_simp; try with_reducible rfl)
      try simp only [Act.put, List.setIfInBounds_toArray, List.set_cons_zero, List.set_cons_succ]
      refine anyZ_ready (rs := [10]) (by kernel_rfl) (by simp) ?_
      refine (AllZ.cons (o := ?o_11) ?ho_11 (fun K hK => ?st_11) AllZ.nil)
      case ho_11 => (simp only [List.getElem?_toArray, List.getElem?_cons_succ, List.getElem?_cons_zero]; exact rfl)
      case st_11 =>
        go_simp
        refine hK.out _ _ (by ((try dsimp only); (first | exact ⟨p0, p1⟩ | exact ⟨(th.out.far (by omega) _ _).drew.c _ hlt, (g1.far (by omega) _ _).drew.c _ hlt⟩))) (fun hHeld => ?_)
        clear hK K
        try simp only [Act.put, List.setIfInBounds_toArray, List.set_cons_zero, List.set_cons_succ]
        refine anyZ_free (i := 11) (oi := ?oi_12) (v := ?v_12) ?hi_12 ?hs_12 ?hf_12 ?hr_12 ?hQ_12 (Or.inl ⟨?hw_12, ?hy_12⟩) ?hrest_12
        case hi_12 => (simp only [List.getElem?_toArray, List.getElem?_cons_succ, List.getElem?_cons_zero]; exact rfl)
        case hs_12 => kernel_rfl
        case hf_12 => kernel_rfl
        case hr_12 => kernel_rfl
        case hQ_12 => exact fun _ _ _ h => h
        case hw_12 => rfl
        case hy_12 => (intro w _; go_simp; try with_reducible rfl)
        try simp only [Act.put, List.setIfInBounds_toArray, List.set_cons_zero, List.set_cons_succ]
        refine anyZ_ready (rs := [12]) (by kernel_rfl) (by simp) ?_
        refine (AllZ.last (o := ?o_13) ?ho_13 (by rfl) (fun K hK => ?st_13) AllZ.nil)
        case ho_13 => (simp only [List.getElem?_toArray, List.getElem?_cons_succ, List.getElem?_cons_zero]; exact rfl)
        case st_13 =>
          go_simp
          refine hK.out _ _ ?_
          clear hK K
          try simp only [Act.put, List.setIfInBounds_toArray, List.set_cons_zero, List.set_cons_succ]
          refine anyZ_done (by kernel_rfl) ?_ _
          refine NoPanic.normal ?_
          have tv1 : Hid (Arr (((wr.setCell ⟨N + 1 + 1, i, none⟩ (.int .u32 (h i : Nat))).setCell ⟨N + 1 + 1, k, none⟩ (.int .u32 (Ob.first i : Nat))).drew) .u32 (N + 1 + 1) 16 (Ob.sixI h (i + 1))) := by
            have q := ((tv.out.set (i := i) (z := h i) (by omega)).set (i := k) (z := Ob.first i) (by have := hk.out; omega)).drew
            rw [← hk.out, Ob.sixI_succ h hlt, hk.out] at q
            exact q
          have th1 : Hid (Arr (((wr.setCell ⟨N + 1 + 1, i, none⟩ (.int .u32 (h i : Nat))).setCell ⟨N + 1 + 1, k, none⟩ (.int .u32 (Ob.first i : Nat))).drew) .u32 N 8 h) := ((th.out.far (by omega) _ _).far (by omega) _ _).drew
          have tr1 : Hid (Arr (((wr.setCell ⟨N + 1 + 1, i, none⟩ (.int .u32 (h i : Nat))).setCell ⟨N + 1 + 1, k, none⟩ (.int .u32 (Ob.first i : Nat))).drew) .u32 (N + 1) 16 (fun _ => 0)) := ((tr.out.far (by omega) _ _).far (by omega) _ _).drew
          have hB1 : Below N w (((wr.setCell ⟨N + 1 + 1, i, none⟩ (.int .u32 (h i : Nat))).setCell ⟨N + 1 + 1, k, none⟩ (.int .u32 (Ob.first i : Nat))).drew) := by (repeat' (first | (with_reducible first | exact Below.refl _ _ | assumption | refine Below.alloc ?_ ?_ _ | refine Below.drew ?_ | refine below_drewN ?_ _ | refine Below.setCell ?_ ?_ _ | refine below_via (by with_reducible assumption) ?_ ?_) | omega | (simp only [szs]; omega) | (simp only [szs] at *; omega)))
          clear hHeld p0 p1 p2 p3 p4 p5 i2 i3 i4 i5 g1 tv th tr hB
          generalize (((wr.setCell ⟨N + 1 + 1, i, none⟩ (.int .u32 (h i : Nat))).setCell ⟨N + 1 + 1, k, none⟩ (.int .u32 (Ob.first i : Nat))).drew) = W1 at *
          go_wp2
          go_roundw
          case rel => exact ⟨i + 1, by omega, by go_num, th1, tr1, tv1, hB1⟩
          case measure => (simp only [intOf, Int.toNat_natCast]; omega)
    · obtain rfl : i = 8 := by omega
      go_upto_region 7 with (fail)
      have t0 : Arr wr .u32 (N + 1 + 1) 16 (Ob.six0 h) := tv.out.congr (Ob.sixI_end h)
      clear tv
      have hs := Ob.six0_words hh'.out
      obtain ⟨lo, hlo, elo⟩ : ∃ lo : Nat, Hid (n % 4294967296 = lo) ∧ IntKind.u32.wrap (n : Int) = (lo : Int) := ⟨_, rfl, by rw [IntKind.wrap_u32]; omega⟩
      obtain ⟨hi', hhi, ehi⟩ : ∃ lo : Nat, Hid (n / 4294967296 = lo) ∧ IntKind.u32.wrap ((n : Int) / 4294967296) = (lo : Int) := ⟨_, rfl, by rw [IntKind.wrap_u32]; omega⟩
      have elo' : (n : Int) % 4294967296 = (lo : Int) := by have := hlo.out; omega
      have llo : lo < 4294967296 := by have := hlo.out; omega
      have lhi : hi' < 4294967296 := by have := hhi.out; omega
      have x12 := xor_u32 (Ob.six0 h 12) lo (hs 12) llo
      have x13 := xor_u32 (Ob.six0 h 13) hi' (hs 13) lhi
      have c12 := t0.c 12 (by decide)
      have f12 := t0.f 12 (by decide)
      have c13 := t0.c 13 (by decide)
      have f13 := t0.f 13 (by decide)
      have hs14 := hs 14
      clear hs
      obtain ⟨X12, hX12⟩ : ∃ z, Hid (Ob.six0 h 12 ^^^ lo = z) := ⟨_, rfl⟩
      obtain ⟨X13, hX13⟩ : ∃ z, Hid (Ob.six0 h 13 ^^^ hi' = z) := ⟨_, rfl⟩
      rw [hX12.out] at x12
      rw [hX13.out] at x13
      go_upto_region 9 with (fail)
      have t1 : Arr ((wr.setCell ⟨N + 1 + 1, 12, none⟩ (.int .u32 (X12 : Nat))).setCell ⟨N + 1 + 1, 13, none⟩ (.int .u32 (X13 : Nat))) .u32 (N + 1 + 1) 16 (Ob.upd (Ob.upd (Ob.six0 h) 12 X12) 13 X13) := (t0.set (by decide)).set (by decide)
      have tr1 : Hid (Arr ((wr.setCell ⟨N + 1 + 1, 12, none⟩ (.int .u32 (X12 : Nat))).setCell ⟨N + 1 + 1, 13, none⟩ (.int .u32 (X13 : Nat))) .u32 (N + 1) 16 (fun _ => 0)) := (tr.out.far (by omega) _ _).far (by omega) _ _
      have hB1 : Below N w ((wr.setCell ⟨N + 1 + 1, 12, none⟩ (.int .u32 (X12 : Nat))).setCell ⟨N + 1 + 1, 13, none⟩ (.int .u32 (X13 : Nat))) := by (repeat' (first | (with_reducible first | exact Below.refl _ _ | assumption | refine Below.alloc ?_ ?_ _ | refine Below.drew ?_ | refine below_drewN ?_ _ | refine Below.setCell ?_ ?_ _ | refine below_via (by with_reducible assumption) ?_ ?_) | omega | (simp only [szs]; omega) | (simp only [szs] at *; omega)))
      clear t0 th tr hB c12 f12 c13 f13 x12 x13 elo elo' ehi llo lhi
      generalize ((wr.setCell ⟨N + 1 + 1, 12, none⟩ (.int .u32 (X12 : Nat))).setCell ⟨N + 1 + 1, 13, none⟩ (.int .u32 (X13 : Nat))) = W1 at *
      cases last with
      | false =>
        have hV : Hid (Ob.upd (Ob.upd (Ob.six0 h) 12 X12) 13 X13 = Ob.six h n false) := by
          show _ = _
          rw [← hX12.out, ← hX13.out, ← hlo.out, ← hhi.out]
          rfl
        rw [hV.out] at t1
        clear hV hX12 hX13 hlo hhi
        go_upto_region 11 with (fail)
        go_wp2_with (first | ((with_reducible refine wpList_loadLit t1 ?_ Tryd.underlying81 ?_ ?_ ?_); (focus rfl); (focus rfl); (focus kernel_rfl); simp only [Act.put, List.setIfInBounds_toArray, List.set_cons_zero, List.set_cons_succ]) | ((with_reducible refine wpList_storeLit (Ob.six h n false) tr1.out ?_ ?_ ?_ ?_); (focus rfl); (focus rfl); (focus kernel_rfl); intro W5 hW5_ tW5_ zW5_; try simp only [Act.put, List.setIfInBounds_toArray, List.set_cons_zero, List.set_cons_succ]))
        have hB5 : Below w.heap.size w W5 := by rw [hW5_.out, hN.out]; exact below_setCells hB1 (by omega) _ _
        have rv := tW5_.out.loadVar Tryd.underlying81 rfl (by kernel_rfl)
        exact bodyPost_ret (v := .agg (arrL .u32 (Ob.six h n false) 16).toArray) (by simp [results, Tryd.results84, asAddr, rv]) rfl ⟨rfl, hB5⟩
      | true =>
        have c14 := t1.c 14 (by decide)
        have f14 := t1.f 14 (by decide)
        rw [Ob.upd_ne _ _ (by decide), Ob.upd_ne _ _ (by decide)] at c14
        have x14 : bits .xor .u32 (if IntKind.u32.signed = true then -1 else IntKind.u32.max) ((Ob.six0 h 14 : Nat) : Int) = ((4294967295 ^^^ Ob.six0 h 14 : Nat) : Int) := xor_u32 4294967295 _ (by decide) hs14
        obtain ⟨X14, hX14⟩ : ∃ z, Hid (4294967295 ^^^ Ob.six0 h 14 = z) := ⟨_, rfl⟩
        rw [hX14.out] at x14
        go_upto_region 11 with (fail)
        have t2 : Arr (W1.setCell ⟨N + 1 + 1, 14, none⟩ (.int .u32 (X14 : Nat))) .u32 (N + 1 + 1) 16 (Ob.six h n true) := by
          have q := t1.set (i := 14) (z := X14) (by decide)
          rw [← hX12.out, ← hX13.out, ← hlo.out, ← hhi.out, ← hX14.out, Nat.xor_comm 4294967295] at q
          rw [← hX14.out, Nat.xor_comm 4294967295]
          exact q
        have tr2 : Hid (Arr (W1.setCell ⟨N + 1 + 1, 14, none⟩ (.int .u32 (X14 : Nat))) .u32 (N + 1) 16 (fun _ => 0)) := tr1.out.far (by omega) _ _
        have hB2 : Below N w (W1.setCell ⟨N + 1 + 1, 14, none⟩ (.int .u32 (X14 : Nat))) := by (repeat' (first | (with_reducible first | exact Below.refl _ _ | assumption | refine Below.alloc ?_ ?_ _ | refine Below.drew ?_ | refine below_drewN ?_ _ | refine Below.setCell ?_ ?_ _ | refine below_via (by with_reducible assumption) ?_ ?_) | omega | (simp only [szs]; omega) | (simp only [szs] at *; omega)))
        clear t1 tr1 hB1 hX12 hX13 hlo hhi hX14 x14 c14 f14 hs14
        generalize W1.setCell ⟨N + 1 + 1, 14, none⟩ (.int .u32 (X14 : Nat)) = W2 at *
        go_wp2_with (first | ((with_reducible refine wpList_loadLit t2 ?_ Tryd.underlying81 ?_ ?_ ?_); (focus rfl); (focus rfl); (focus kernel_rfl); simp only [Act.put, List.setIfInBounds_toArray, List.set_cons_zero, List.set_cons_succ]) | ((with_reducible refine wpList_storeLit (Ob.six h n true) tr2.out ?_ ?_ ?_ ?_); (focus rfl); (focus rfl); (focus kernel_rfl); intro W5 hW5_ tW5_ zW5_; try simp only [Act.put, List.setIfInBounds_toArray, List.set_cons_zero, List.set_cons_succ]))
        have hB5 : Below w.heap.size w W5 := by rw [hW5_.out, hN.out]; exact below_setCells hB2 (by omega) _ _
        have rv := tW5_.out.loadVar Tryd.underlying81 rfl (by kernel_rfl)
        exact bodyPost_ret (v := .agg (arrL .u32 (Ob.six h n true) 16).toArray) (by simp [results, Tryd.results84, asAddr, rv]) rfl ⟨rfl, hB5⟩
end Go.Proofs.YtdhbkhmknnlmnaaDoor

namespace Go.Proofs.YtdhbkhmknnlmnaaDoor
open Go.RowKit Go.Proofs
set_option linter.unusedVariables false
set_option linter.unusedSimpArgs false
attribute [local go_sem ↓] Go.wp_at_zero Go.wp_at_succ

theorem word_lt {z : Nat → Nat} (hz : ∀ i, z i < 256) : Ob.Words32 (wordAt z) := fun j => by
  have h0 := hz (4 * j)
  have h1 := hz (4 * j + 1)
  have h2 := hz (4 * j + 2)
  have h3 := hz (4 * j + 3)
  unfold wordAt
  omega
/-- h with i of its words pressed. -/
def pressI (h v : Nat → Nat) (i j : Nat) : Nat := if j < i then h j ^^^ (v j ^^^ v (j + 8)) else h j
theorem pressI_zero (h v : Nat → Nat) : pressI h v 0 = h := by funext j; simp [pressI]
theorem pressI_succ (h v : Nat → Nat) (i : Nat) : Ob.upd (pressI h v i) i (h i ^^^ (v i ^^^ v (i + 8))) = pressI h v (i + 1) := by
  funext j
  unfold Ob.upd pressI
  by_cases h1 : j = i
  · subst h1; simp
  · by_cases h2 : j < i
    · simp [h1, h2, Nat.lt_succ_of_lt h2]
    · simp [h1, h2]; omega

set_option maxHeartbeats 4000000 in
theorem press_core (h z : Nat → Nat) (hh : Ob.Words32 h) (hz : ∀ i, z i < 256) (n : Nat) (hn : n < 18446744073709551616) (last : Bool) (w : World) (hT : Tabs w) :
    Calls Tryd.prog 80 #[arrV .u32 h 8, arrV .u8 z 64, .int .u64 n, .bool last] w fun e w' => e = .returned (arrV .u32 (Ob.press h (wordAt z) n last) 8) ∧ Below w.heap.size w w' := by
  unfold arrV
  have hl := arrL_length .u32 h 8
  have hl' := arrL_length .u8 z 64
  have hT' : Hid (Tabs w) := hT
  have hh' : Hid (Ob.Words32 h) := hh
  have hz' : Hid (∀ i, z i < 256) := hz
  clear hT hh hz
  go_enter Tryd.func80, Tryd.ntmps80
  go_upto_region 1 with (fail)
  obtain ⟨W0, hW0⟩ : ∃ W, Hid ((((w.alloc (.cells (arrL .u32 h 8).toArray 65)).alloc (.cells (arrL .u8 z 64).toArray 91)).alloc (.cells (arrL .u32 (fun _ => 0) 8).toArray 65)) = W) := ⟨_, rfl⟩
  have th0 : Arr W0 .u32 w.heap.size 8 h := by rw [← hW0.out]; exact ((Arr.new rfl).alloc _).alloc _
  have tb0 : Arr W0 .u8 (w.heap.size + 1) 64 z := by rw [← hW0.out]; exact (Arr.new (by simp)).alloc _
  have tr0 : Arr W0 .u32 (w.heap.size + 1 + 1) 8 (fun _ => 0) := by rw [← hW0.out]; exact Arr.new (by simp)
  have hB0 : Below w.heap.size w W0 := by rw [← hW0.out]; (repeat' (first | (with_reducible first | exact Below.refl _ _ | assumption | refine Below.alloc ?_ ?_ _ | refine Below.drew ?_ | refine below_drewN ?_ _ | refine Below.setCell ?_ ?_ _ | refine below_via (by with_reducible assumption) ?_ ?_) | omega | (simp only [szs]; omega) | (simp only [szs] at *; omega)))
  change Code.wp _ _ _ _ (((w.alloc (.cells (arrL .u32 h 8).toArray 65)).alloc (.cells (arrL .u8 z 64).toArray 91)).alloc (.cells (arrL .u32 (fun _ => 0) 8).toArray 65))
  rw [hW0.out]
  clear hW0
  obtain ⟨N, hN⟩ : ∃ N, Hid (w.heap.size = N) := ⟨_, rfl⟩
  rw [hN.out] at th0 tb0 tr0 hB0 ⊢
  have hlN : 5 ≤ N := by have := hT'.out.lt; have := hN.out; omega
  have c1 := sixteen_core h hh'.out n hn last W0 (hT'.out.below hB0 hlN)
  unfold arrV at c1
  have l0 := tr0.lt
  go_upto_region 2 with (first | ((with_reducible refine wpList_loadLit th0 ?_ Tryd.underlying65 ?_ ?_ ?_); (focus rfl); (focus rfl); (focus kernel_rfl); simp only [Act.put, List.setIfInBounds_toArray, List.set_cons_zero, List.set_cons_succ]) | ((with_reducible refine wpList_storeLit (Ob.six h n last) Arr.new16 ?_ ?_ ?_ ?_); (focus rfl); (focus rfl); (focus kernel_rfl); intro W2 hW2_ tW2_ zW2_; try simp only [Act.put, List.setIfInBounds_toArray, List.set_cons_zero, List.set_cons_succ]) | (go_at_call 84; with_reducible refine c1.mono ?_; rintro e W1 ⟨rfl, b1⟩))
  have l1 := b1.size
  have th2 : Arr W2 .u32 N 8 h := by rw [hW2_.out]; exact ((th0.below b1 (by omega)).alloc _).farCells (by omega) _ _
  have tb2 : Arr W2 .u8 (N + 1) 64 z := by rw [hW2_.out]; exact ((tb0.below b1 (by omega)).alloc _).farCells (by omega) _ _
  have tr2 : Arr W2 .u32 (N + 1 + 1) 8 (fun _ => 0) := by rw [hW2_.out]; exact ((tr0.below b1 (by omega)).alloc _).farCells (by omega) _ _
  have hB1 : Below N w W1 := below_via b1 hB0 (by omega)
  have hB2 : Below N w W2 := by rw [hW2_.out]; exact below_setCells (hB1.alloc (by omega) _) (by omega) _ _
  have tv2 := tW2_.out
  obtain ⟨V, hV⟩ : ∃ V, Hid (W1.heap.size = V) := ⟨_, rfl⟩
  rw [hV.out] at tv2
  have lV : N + 1 + 1 < V := by have := hV.out; omega
  rw [hV.out]
  clear th0 tb0 tr0 hB0 hB1 hW2_ tW2_ zW2_ l1 b1 c1 l0 hV
  have c2 := blockWords_core z hz'.out W2
  unfold arrV at c2
  have l2 := tr2.lt
  have l2' := tv2.lt
  go_upto_region 3 with (first | ((with_reducible refine wpList_loadLit tb2 ?_ Tryd.underlying91 ?_ ?_ ?_); (focus rfl); (focus rfl); (focus kernel_rfl); simp only [Act.put, List.setIfInBounds_toArray, List.set_cons_zero, List.set_cons_succ]) | ((with_reducible refine wpList_storeLit (wordAt z) Arr.new16 ?_ ?_ ?_ ?_); (focus rfl); (focus rfl); (focus kernel_rfl); intro W4 hW4_ tW4_ zW4_; try simp only [Act.put, List.setIfInBounds_toArray, List.set_cons_zero, List.set_cons_succ]) | (go_at_call 85; with_reducible refine c2.mono ?_; rintro e W3 ⟨rfl, b3⟩))
  have l3 := b3.size
  have th4 : Arr W4 .u32 N 8 h := by rw [hW4_.out]; exact ((th2.below b3 (by omega)).alloc _).farCells (by omega) _ _
  have tr4 : Arr W4 .u32 (N + 1 + 1) 8 (fun _ => 0) := by rw [hW4_.out]; exact ((tr2.below b3 (by omega)).alloc _).farCells (by omega) _ _
  have tv4 : Arr W4 .u32 V 16 (Ob.six h n last) := by rw [hW4_.out]; exact ((tv2.below b3 (by omega)).alloc _).farCells (by omega) _ _
  have hB3 : Below N w W3 := below_via b3 hB2 (by omega)
  have hB4 : Below N w W4 := by rw [hW4_.out]; exact below_setCells (hB3.alloc (by omega) _) (by omega) _ _
  have tm4 := tW4_.out
  obtain ⟨M, hM⟩ : ∃ V, Hid (W3.heap.size = V) := ⟨_, rfl⟩
  rw [hM.out] at tm4
  have lM : V < M := by have := hM.out; omega
  rw [hM.out]
  clear th2 tb2 tr2 tv2 hB2 hB3 hW4_ tW4_ zW4_ l3 b3 c2 l2 l2' hM
  have hs : Hid (Ob.Words32 (Ob.six h n last)) := Ob.six_words hh'.out hn last
  have hm : Hid (Ob.Words32 (wordAt z)) := word_lt hz'.out
  obtain ⟨m, hmE⟩ : ∃ m, Hid (wordAt z = m) := ⟨_, rfl⟩
  obtain ⟨v, hvE⟩ : ∃ m, Hid (Ob.six h n last = m) := ⟨_, rfl⟩
  have hend : Hid (Ob.press h (wordAt z) n last = fun j => h j ^^^ (Ob.rounds v m 10 j ^^^ Ob.rounds v m 10 (j + 8))) := by rw [← hmE.out, ← hvE.out]; rfl
  rw [hmE.out] at tm4 hm ⊢
  rw [hvE.out] at tv4 hs ⊢
  go_wp2
  go_loopw [19] (fun s19 wr => ∃ (r : Nat), r ≤ 10 ∧ s19 = .int .i64 (r : Nat) ∧ Hid (Arr wr .u32 N 8 h) ∧ Hid (Arr wr .u32 (N + 1 + 1) 8 (fun _ => 0)) ∧ Hid (Arr wr .u32 M 16 m) ∧ Hid (Arr wr .u32 V 16 (Ob.rounds v m r)) ∧ Below N w wr) (fun s19 _ => 10 - (intOf s19).toNat)
  case atStart => exact ⟨0, by omega, rfl, th4, tr4, tm4, tv4, hB4⟩
  case round =>
    clear th4 tr4 tm4 tv4 hB4
    obtain ⟨r, hr, rfl, th, tr, tm, tv, hB⟩ := hrel
    have l0 := hB.size
    by_cases hlt : r < 10
    · have c3 := mixed_core (Ob.rounds v m r) m (Ob.rounds_words hs.out m r) hm.out r hlt wr (hT'.out.below hB hlN)
      unfold arrV at c3
      have r0 : (r : Int) < 10 := by omega
      have hnext : Hid (Ob.roundN (Ob.rounds v m r) m r 8 = Ob.rounds v m (r + 1)) := rfl
      rw [hnext.out] at c3
      have l1 := tm.out.lt
      have l2 := tv.out.lt
      have ev : Ob.Words32 v := hs.out
      go_wp2_with (first | ((with_reducible refine wpList_loadLit tv.out ?_ Tryd.underlying81 ?_ ?_ ?_); (focus rfl); (focus rfl); (focus kernel_rfl); simp only [Act.put, List.setIfInBounds_toArray, List.set_cons_zero, List.set_cons_succ]) | ((with_reducible refine wpList_loadLit tm.out ?_ Tryd.underlying81 ?_ ?_ ?_); (focus rfl); (focus rfl); (focus kernel_rfl); simp only [Act.put, List.setIfInBounds_toArray, List.set_cons_zero, List.set_cons_succ]) | ((with_reducible refine wpList_storeLit (Ob.rounds v m (r + 1)) tv6 ?_ ?_ ?_ ?_); (focus rfl); (focus rfl); (focus kernel_rfl); intro W7 hW7_ tW7_ zW7_; try simp only [Act.put, List.setIfInBounds_toArray, List.set_cons_zero, List.set_cons_succ]) | (go_at_call 86; with_reducible refine c3.mono ?_; rintro e W6 ⟨rfl, b6⟩; have tv6 := tv.out.below b6 l2))
      have th7 : Hid (Arr W7 .u32 N 8 h) := by rw [hW7_.out]; exact (th.out.below b6 (by omega)).farCells (by omega) _ _
      have tr7 : Hid (Arr W7 .u32 (N + 1 + 1) 8 (fun _ => 0)) := by rw [hW7_.out]; exact (tr.out.below b6 (by omega)).farCells (by omega) _ _
      have tm7 : Hid (Arr W7 .u32 M 16 m) := by rw [hW7_.out]; exact (tm.out.below b6 (by omega)).farCells (by omega) _ _
      have hB6 : Below N w W6 := below_via b6 hB (by omega)
      have hB7 : Below N w W7 := by rw [hW7_.out]; exact below_setCells hB6 (by omega) _ _
      go_roundw
      case rel => exact ⟨r + 1, by omega, by go_num, th7, tr7, tm7, tW7_, hB7⟩
      case measure => (simp only [intOf, Int.toNat_natCast]; omega)
    · obtain rfl : r = 10 := by omega
      go_upto_region 8 with (fail)
      have hv' : Hid (Ob.Words32 (Ob.rounds v m 10)) := Ob.rounds_words hs.out m 10
      obtain ⟨v', hvE'⟩ : ∃ m', Hid (Ob.rounds v m 10 = m') := ⟨_, rfl⟩
      rw [hvE'.out] at tv hv' hend
      have th' : Hid (Arr wr .u32 N 8 (pressI h v' 0)) := by rw [pressI_zero]; exact th.out
      clear th
      rw [show ((10 : Nat) : Int) = 10 from rfl]
      go_wp2
      go_loopw [27] (fun s27 wr => ∃ (i : Nat), i ≤ 8 ∧ s27 = .int .i64 (i : Nat) ∧ Hid (Arr wr .u32 N 8 (pressI h v' i)) ∧ Hid (Arr wr .u32 (N + 1 + 1) 8 (fun _ => 0)) ∧ Hid (Arr wr .u32 V 16 v') ∧ Below N w wr) (fun s27 _ => 8 - (intOf s27).toNat)
      case atStart => exact ⟨0, by omega, rfl, th', tr, tv, hB⟩
      case round =>
        clear th' tr tv hB tm
        obtain ⟨i, hi, rfl, th, tr, tv, hB⟩ := hrel
        have l1 := hB.size
        by_cases hi8 : i < 8
        · have p0 := th.out.drew.c i hi8
          have p1 := tv.out.drew.c i (by omega)
          have p2 := tv.out.drew.c (i + 8) (by omega)
          have p3 := th.out.c i hi8
          have p4 := th.out.f i hi8
          have e0 : pressI h v' i i = h i := by unfold pressI; rw [if_neg (by omega)]
          rw [e0] at p0 p3
          have x1 := xor_u32 (v' i) (v' (i + 8)) (hv'.out i) (hv'.out (i + 8))
          have x2 := xor_u32 (h i) (v' i ^^^ v' (i + 8)) (hh'.out i) (Ob.xor_lt (hv'.out i) (hv'.out (i + 8)))
          obtain ⟨Y, hY⟩ : ∃ Y, Hid (v' i ^^^ v' (i + 8) = Y) := ⟨_, rfl⟩
          obtain ⟨X, hX⟩ : ∃ X, Hid (h i ^^^ (v' i ^^^ v' (i + 8)) = X) := ⟨_, rfl⟩
          rw [hX.out, hY.out] at x2
          rw [hY.out] at x1
          have i0 : (i : Int) < 8 := by omega
          have i1 : (0 : Int) ≤ (i : Int) := by omega
          have i2 : (i : Int) < 16 := by omega
          have i3 : IntKind.i64.wrap ((i : Int) + 8) = ((i + 8 : Nat) : Int) := by rw [IntKind.wrap_i64]; omega
          have i4 : ((i + 8 : Nat) : Int) < 16 := by omega
          have i5 : (0 : Int) ≤ ((i + 8 : Nat) : Int) := by omega
          obtain ⟨k, hk⟩ : ∃ k, Hid (i + 8 = k) := ⟨_, rfl⟩
          rw [hk.out] at i3 i4 i5 p2 x1
          go_upto_region 11 with (fail)
          refine wp_region_noPanic ?_
          refine region_lastly (S := (fun w' => w'.cell? ⟨N, i, none⟩ = some (.int .u32 (h i : Nat)) ∧ w'.cell? ⟨V, i, none⟩ = some (.int .u32 (v' i : Nat)) ∧ w'.cell? ⟨V, k, none⟩ = some (.int .u32 (v' k : Nat)))) [13] (by kernel_rfl) (by ((try dsimp only); (exact ⟨p0, p1, p2⟩))) (fun hHeld => ?_)
          refine anyZ_free (i := 0) (oi := ?oi_1) (v := ?v_1) ?hi_1 ?hs_1 ?hf_1 ?hr_1 ?hQ_1 (Or.inl ⟨?hw_1, ?hy_1⟩) ?hrest_1
          case hi_1 => (simp only [List.getElem?_toArray, List.getElem?_cons_succ, List.getElem?_cons_zero]; exact rfl)
          case hs_1 => kernel_rfl
          case hf_1 => kernel_rfl
          case hr_1 => kernel_rfl
          case hQ_1 => exact fun _ _ _ h => h
          case hw_1 => rfl
          case hy_1 => (intro w _; go_simp; try with_reducible rfl)
          try simp only [Act.put, List.setIfInBounds_toArray, List.set_cons_zero, List.set_cons_succ]
          refine anyZ_free (i := 1) (oi := ?oi_2) (v := ?v_2) ?hi_2 ?hs_2 ?hf_2 ?hr_2 ?hQ_2 (Or.inl ⟨?hw_2, ?hy_2⟩) ?hrest_2
          case hi_2 => (simp only [List.getElem?_toArray, List.getElem?_cons_succ, List.getElem?_cons_zero]; exact rfl)
          case hs_2 => kernel_rfl
          case hf_2 => kernel_rfl
          case hr_2 => kernel_rfl
          case hQ_2 => exact fun _ _ _ h => h
          case hw_2 => rfl
          case hy_2 => (intro w _; go_simp; try with_reducible rfl)
          try simp only [Act.put, List.setIfInBounds_toArray, List.set_cons_zero, List.set_cons_succ]
          refine anyZ_take (i := 2) (oi := ?oi_3) (v := ?v_3) ?hi_3 ?hz_3 ?hs_3 ?hf_3 ?hr_3 ?hQ_3 (Or.inl ⟨?hw_3, ?hy_3⟩) ?hS_3 ?hrest_3
          case hi_3 => (simp only [List.getElem?_toArray, List.getElem?_cons_succ, List.getElem?_cons_zero]; exact rfl)
          case hz_3 => kernel_rfl
          case hs_3 => kernel_rfl
          case hf_3 => kernel_rfl
          case hr_3 => kernel_rfl
          case hQ_3 => exact fun _ _ _ h => h
          case hw_3 => rfl
          case hS_3 => assumption
          case hy_3 => (intro w hSw; (try dsimp only at hSw); go_simp; try with_reducible rfl)
          try simp only [Act.put, List.setIfInBounds_toArray, List.set_cons_zero, List.set_cons_succ]
          refine anyZ_free (i := 3) (oi := ?oi_4) (v := ?v_4) ?hi_4 ?hs_4 ?hf_4 ?hr_4 ?hQ_4 (Or.inl ⟨?hw_4, ?hy_4⟩) ?hrest_4
          case hi_4 => (simp only [List.getElem?_toArray, List.getElem?_cons_succ, List.getElem?_cons_zero]; exact rfl)
          case hs_4 => kernel_rfl
          case hf_4 => kernel_rfl
          case hr_4 => kernel_rfl
          case hQ_4 => exact fun _ _ _ h => h
          case hw_4 => rfl
          case hy_4 => (intro w _; go_simp; try with_reducible rfl)
          try simp only [Act.put, List.setIfInBounds_toArray, List.set_cons_zero, List.set_cons_succ]
          refine anyZ_free (i := 4) (oi := ?oi_5) (v := ?v_5) ?hi_5 ?hs_5 ?hf_5 ?hr_5 ?hQ_5 (Or.inl ⟨?hw_5, ?hy_5⟩) ?hrest_5
          case hi_5 => (simp only [List.getElem?_toArray, List.getElem?_cons_succ, List.getElem?_cons_zero]; exact rfl)
          case hs_5 => kernel_rfl
          case hf_5 => kernel_rfl
          case hr_5 => kernel_rfl
          case hQ_5 => exact fun _ _ _ h => h
          case hw_5 => rfl
          case hy_5 => (intro w _; go_simp; try with_reducible rfl)
          try simp only [Act.put, List.setIfInBounds_toArray, List.set_cons_zero, List.set_cons_succ]
          refine anyZ_take (i := 5) (oi := ?oi_6) (v := ?v_6) ?hi_6 ?hz_6 ?hs_6 ?hf_6 ?hr_6 ?hQ_6 (Or.inl ⟨?hw_6, ?hy_6⟩) ?hS_6 ?hrest_6
          case hi_6 => (simp only [List.getElem?_toArray, List.getElem?_cons_succ, List.getElem?_cons_zero]; exact rfl)
          case hz_6 => kernel_rfl
          case hs_6 => kernel_rfl
          case hf_6 => kernel_rfl
          case hr_6 => kernel_rfl
          case hQ_6 => exact fun _ _ _ h => h
          case hw_6 => rfl
          case hS_6 => assumption
          case hy_6 => (intro w hSw; (try dsimp only at hSw); go_simp; try with_reducible rfl)
          try simp only [Act.put, List.setIfInBounds_toArray, List.set_cons_zero, List.set_cons_succ]
          refine anyZ_free (i := 6) (oi := ?oi_7) (v := ?v_7) ?hi_7 ?hs_7 ?hf_7 ?hr_7 ?hQ_7 (Or.inl ⟨?hw_7, ?hy_7⟩) ?hrest_7
          case hi_7 => (simp only [List.getElem?_toArray, List.getElem?_cons_succ, List.getElem?_cons_zero]; exact rfl)
          case hs_7 => kernel_rfl
          case hf_7 => kernel_rfl
          case hr_7 => kernel_rfl
          case hQ_7 => exact fun _ _ _ h => h
          case hw_7 => rfl
          case hy_7 => (intro w _; go_simp; try with_reducible rfl)
          try simp only [Act.put, List.setIfInBounds_toArray, List.set_cons_zero, List.set_cons_succ]
          refine anyZ_free (i := 7) (oi := ?oi_8) (v := ?v_8) ?hi_8 ?hs_8 ?hf_8 ?hr_8 ?hQ_8 (Or.inl ⟨?hw_8, ?hy_8⟩) ?hrest_8
          case hi_8 => (simp only [List.getElem?_toArray, List.getElem?_cons_succ, List.getElem?_cons_zero]; exact rfl)
          case hs_8 => kernel_rfl
          case hf_8 => kernel_rfl
          case hr_8 => kernel_rfl
          case hQ_8 => exact fun _ _ _ h => h
          case hw_8 => rfl
          case hy_8 => (intro w _; go_simp; try with_reducible rfl)
          try simp only [Act.put, List.setIfInBounds_toArray, List.set_cons_zero, List.set_cons_succ]
          refine anyZ_free (i := 8) (oi := ?oi_9) (v := ?v_9) ?hi_9 ?hs_9 ?hf_9 ?hr_9 ?hQ_9 (Or.inl ⟨?hw_9, ?hy_9⟩) ?hrest_9
          case hi_9 => (simp only [List.getElem?_toArray, List.getElem?_cons_succ, List.getElem?_cons_zero]; exact rfl)
          case hs_9 => kernel_rfl
          case hf_9 => kernel_rfl
          case hr_9 => kernel_rfl
          case hQ_9 => exact fun _ _ _ h => h
          case hw_9 => rfl
          case hy_9 => (intro w _; go_simp; try with_reducible rfl)
          try simp only [Act.put, List.setIfInBounds_toArray, List.set_cons_zero, List.set_cons_succ]
          refine anyZ_take (i := 9) (oi := ?oi_10) (v := ?v_10) ?hi_10 ?hz_10 ?hs_10 ?hf_10 ?hr_10 ?hQ_10 (Or.inl ⟨?hw_10, ?hy_10⟩) ?hS_10 ?hrest_10
          case hi_10 => (simp only [List.getElem?_toArray, List.getElem?_cons_succ, List.getElem?_cons_zero]; exact rfl)
          case hz_10 => kernel_rfl
          case hs_10 => kernel_rfl
          case hf_10 => kernel_rfl
          case hr_10 => kernel_rfl
          case hQ_10 => exact fun _ _ _ h => h
          case hw_10 => rfl
          case hS_10 => assumption
          case hy_10 => (intro w hSw; (try dsimp only at hSw); go_simp; try with_reducible rfl)
          try simp only [Act.put, List.setIfInBounds_toArray, List.set_cons_zero, List.set_cons_succ]
          refine anyZ_free (i := 10) (oi := ?oi_11) (v := ?v_11) ?hi_11 ?hs_11 ?hf_11 ?hr_11 ?hQ_11 (Or.inl ⟨?hw_11, ?hy_11⟩) ?hrest_11
          case hi_11 => (simp only [List.getElem?_toArray, List.getElem?_cons_succ, List.getElem?_cons_zero]; exact rfl)
          case hs_11 => kernel_rfl
          case hf_11 => kernel_rfl
          case hr_11 => kernel_rfl
          case hQ_11 => exact fun _ _ _ h => h
          case hw_11 => rfl
          case hy_11 => (intro w _; go_simp; try with_reducible rfl)
          try simp only [Act.put, List.setIfInBounds_toArray, List.set_cons_zero, List.set_cons_succ]
          refine anyZ_free (i := 11) (oi := ?oi_12) (v := ?v_12) ?hi_12 ?hs_12 ?hf_12 ?hr_12 ?hQ_12 (Or.inl ⟨?hw_12, ?hy_12⟩) ?hrest_12
          case hi_12 => (simp only [List.getElem?_toArray, List.getElem?_cons_succ, List.getElem?_cons_zero]; exact rfl)
          case hs_12 => kernel_rfl
          case hf_12 => kernel_rfl
          case hr_12 => kernel_rfl
          case hQ_12 => exact fun _ _ _ h => h
          case hw_12 => rfl
          case hy_12 => (intro w _; go_simp; try with_reducible rfl)
          try simp only [Act.put, List.setIfInBounds_toArray, List.set_cons_zero, List.set_cons_succ]
          refine anyZ_free (i := 12) (oi := ?oi_13) (v := ?v_13) ?hi_13 ?hs_13 ?hf_13 ?hr_13 ?hQ_13 (Or.inl ⟨?hw_13, ?hy_13⟩) ?hrest_13
          case hi_13 => (simp only [List.getElem?_toArray, List.getElem?_cons_succ, List.getElem?_cons_zero]; exact rfl)
          case hs_13 => kernel_rfl
          case hf_13 => kernel_rfl
          case hr_13 => kernel_rfl
          case hQ_13 => exact fun _ _ _ h => h
          case hw_13 => rfl
          case hy_13 => (intro w _; go_simp; try with_reducible rfl)
          try simp only [Act.put, List.setIfInBounds_toArray, List.set_cons_zero, List.set_cons_succ]
          refine anyZ_ready (rs := [13]) (by kernel_rfl) (by simp) ?_
          refine (AllZ.last (o := ?o_14) ?ho_14 (by rfl) (fun K hK => ?st_14) AllZ.nil)
          case ho_14 => (simp only [List.getElem?_toArray, List.getElem?_cons_succ, List.getElem?_cons_zero]; exact rfl)
          case st_14 =>
            go_simp
            refine hK.out _ _ ?_
            clear hK K
            try simp only [Act.put, List.setIfInBounds_toArray, List.set_cons_zero, List.set_cons_succ]
            refine anyZ_done (by kernel_rfl) ?_ _
            refine NoPanic.normal ?_
            have q : Hid (Arr ((wr.setCell ⟨N, i, none⟩ (.int .u32 (X : Nat))).drew) .u32 N 8 (pressI h v' (i + 1))) := by
              have q := (th.out.set (i := i) (z := X) hi8).drew
              rw [← hX.out, pressI_succ, hX.out] at q
              exact q
            have tr1 : Hid (Arr ((wr.setCell ⟨N, i, none⟩ (.int .u32 (X : Nat))).drew) .u32 (N + 1 + 1) 8 (fun _ => 0)) := (tr.out.far (by omega) _ _).drew
            have tv1 : Hid (Arr ((wr.setCell ⟨N, i, none⟩ (.int .u32 (X : Nat))).drew) .u32 V 16 v') := (tv.out.far (by omega) _ _).drew
            have hB1 : Below N w ((wr.setCell ⟨N, i, none⟩ (.int .u32 (X : Nat))).drew) := by (repeat' (first | (with_reducible first | exact Below.refl _ _ | assumption | refine Below.alloc ?_ ?_ _ | refine Below.drew ?_ | refine below_drewN ?_ _ | refine Below.setCell ?_ ?_ _ | refine below_via (by with_reducible assumption) ?_ ?_) | omega | (simp only [szs]; omega) | (simp only [szs] at *; omega)))
            clear hHeld p0 p1 p2 p3 p4 i2 i3 i4 i5 tv th tr hB x1 x2
            generalize ((wr.setCell ⟨N, i, none⟩ (.int .u32 (X : Nat))).drew) = W8 at *
            go_wp2
            go_roundw
            case rel => exact ⟨i + 1, by omega, by go_num, q, tr1, tv1, hB1⟩
            case measure => (simp only [intOf, Int.toNat_natCast]; omega)
        · obtain rfl : i = 8 := by omega
          have t0 : Arr wr .u32 N 8 (Ob.press h (wordAt z) n last) := th.out.congr (fun j hj => by rw [hend.out]; unfold pressI; rw [if_pos hj])
          go_upto_region 13 with (fail)
          go_wp2_with (first | ((with_reducible refine wpList_loadLit t0 ?_ Tryd.underlying65 ?_ ?_ ?_); (focus rfl); (focus rfl); (focus kernel_rfl); simp only [Act.put, List.setIfInBounds_toArray, List.set_cons_zero, List.set_cons_succ]) | ((with_reducible refine wpList_storeLit (Ob.press h (wordAt z) n last) tr.out ?_ ?_ ?_ ?_); (focus rfl); (focus rfl); (focus kernel_rfl); intro W5 hW5_ tW5_ zW5_; try simp only [Act.put, List.setIfInBounds_toArray, List.set_cons_zero, List.set_cons_succ]))
          have hB5 : Below w.heap.size w W5 := by rw [hW5_.out, hN.out]; exact below_setCells hB (by omega) _ _
          have rv := tW5_.out.loadVar Tryd.underlying65 rfl (by kernel_rfl)
          exact bodyPost_ret (v := .agg (arrL .u32 (Ob.press h (wordAt z) n last) 8).toArray) (by simp [results, Tryd.results80, asAddr, rv]) rfl ⟨rfl, hB5⟩
end Go.Proofs.YtdhbkhmknnlmnaaDoor
