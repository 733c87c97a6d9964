/-
  Package blake, walked: the sixteen words.
-/
import Derived.Test.YtllgnclbbakliaaDoorBlakeW
import Derived.Test.YtllgnclbbakliaaDoorTabs
namespace Go.Proofs.YtllgnclbbakliaaDoor
open Go.RowKit Go.Proofs
set_option linter.unusedVariables false
set_option linter.unusedSimpArgs false
attribute [local go_sem ↓] Go.wp_at_zero Go.wp_at_succ

set_option maxHeartbeats 4000000 in
theorem sixteen_core (h : Nat → Nat) (hh : Ob.Words32 h) (n : Nat) (hn : n < 18446744073709551616) (last : Bool) (w : World) (hT : Tabs w) :
    Calls Tryd.prog 15 #[arrV .u32 h 8, .int .u64 n, .bool last] w fun e w' => e = .returned (arrV .u32 (Ob.six h n last) 16) ∧ Below w.heap.size w w' := by
  unfold arrV
  have hl := arrL_length .u32 h 8
  have hT' : Hid (Tabs w) := hT
  have hh' : Hid (Ob.Words32 h) := hh
  clear hT hh
  go_enter Tryd.func15, Tryd.ntmps15
  go_upto_region 2 with (fail)
  obtain ⟨W0, hW0⟩ : ∃ W, Hid ((((w.alloc (.cells (arrL .u32 h 8).toArray 23)).alloc (.cells (arrL .u32 (fun _ => 0) 16).toArray 43)).alloc (.cells (arrL .u32 (fun _ => 0) 16).toArray 43)) = W) := ⟨_, rfl⟩
  have th0 : Arr W0 .u32 w.heap.size 8 h := by rw [← hW0.out]; exact ((Arr.new rfl).alloc _).alloc _
  have tr0 : Arr W0 .u32 (w.heap.size + 1) 16 (fun _ => 0) := by rw [← hW0.out]; exact (Arr.new (by simp)).alloc _
  have tv0 : Arr W0 .u32 (w.heap.size + 1 + 1) 16 (Ob.sixI h 0) := by rw [← hW0.out, Ob.sixI_zero]; exact Arr.new (by simp)
  have hB0 : Below w.heap.size w W0 := by rw [← hW0.out]; (repeat' (first | (with_reducible first | exact Below.refl _ _ | assumption | refine Below.alloc ?_ ?_ _ | refine Below.drew ?_ | refine below_drewN ?_ _ | refine Below.setCell ?_ ?_ _ | refine below_via (by with_reducible assumption) ?_ ?_) | omega | (simp only [szs]; omega) | (simp only [szs] at *; omega)))
  change Code.wp _ _ _ _ (((w.alloc (.cells (arrL .u32 h 8).toArray 23)).alloc (.cells (arrL .u32 (fun _ => 0) 16).toArray 43)).alloc (.cells (arrL .u32 (fun _ => 0) 16).toArray 43))
  rw [hW0.out]
  clear hW0
  obtain ⟨N, hN⟩ : ∃ N, Hid (w.heap.size = N) := ⟨_, rfl⟩
  rw [hN.out] at tv0 th0 tr0 hB0 ⊢
  have hlN : 3 ≤ N := by have := hT'.out.lt; have := hN.out; omega
  go_wp2
  go_loopw [9] (fun s9 wr => ∃ (i : Nat), i ≤ 8 ∧ s9 = .int .i64 (i : Nat) ∧ Hid (Arr wr .u32 N 8 h) ∧ Hid (Arr wr .u32 (N + 1) 16 (fun _ => 0)) ∧ Hid (Arr wr .u32 (N + 1 + 1) 16 (Ob.sixI h i)) ∧ Below N w wr) (fun s9 _ => 8 - (intOf s9).toNat)
  case atStart => exact ⟨0, by omega, rfl, th0, tr0, tv0, hB0⟩
  case round =>
    clear tv0 th0 tr0 hB0
    obtain ⟨i, hi, rfl, th, tr, tv, hB⟩ := hrel
    have l0 := hB.size
    by_cases hlt : i < 8
    · have g1 := (hT'.out.below hB hlN).first
      have p0 := th.out.drew.c i hlt
      have p1 := g1.drew.c i hlt
      have p2 := tv.out.c i (by omega)
      have p3 := tv.out.c (i + 8) (by omega)
      have p4 := tv.out.f i (by omega)
      have p5 := tv.out.f (i + 8) (by omega)
      have i0 : (i : Int) < 8 := by omega
      have i1 : (0 : Int) ≤ (i : Int) := by omega
      have i2 : (i : Int) < 16 := by omega
      have i3 : IntKind.i64.wrap ((i : Int) + 8) = ((i + 8 : Nat) : Int) := by rw [IntKind.wrap_i64]; omega
      have i4 : ((i + 8 : Nat) : Int) < 16 := by omega
      have i5 : (0 : Int) ≤ ((i + 8 : Nat) : Int) := by omega
      obtain ⟨k, hk⟩ : ∃ k, Hid (i + 8 = k) := ⟨_, rfl⟩
      rw [hk.out] at i3 i4 i5 p3 p5
      have ik : i ≠ k := by have := hk.out; omega
      go_upto_region 5 with (fail)
      refine wp_region_noPanic ?_
      refine region_lastly (S := (fun w' => w'.cell? ⟨N, i, none⟩ = some (.int .u32 (h i : Nat)) ∧ w'.cell? ⟨0, i, none⟩ = some (.int .u32 (Ob.first i : Nat)))) [12] (by kernel_rfl) (by ((try dsimp only); (first | exact ⟨p0, p1⟩ | exact ⟨(th.out.far (by omega) _ _).drew.c _ hlt, (g1.far (by omega) _ _).drew.c _ hlt⟩))) (fun hHeld => ?_)
      refine anyZ_free (i := 0) (oi := ?oi_1) (v := ?v_1) ?hi_1 ?hs_1 ?hf_1 ?hr_1 ?hQ_1 (Or.inl ⟨?hw_1, ?hy_1⟩) ?hrest_1
      case hi_1 => (simp only [List.getElem?_toArray, List.getElem?_cons_succ, List.getElem?_cons_zero]; exact rfl)
      case hs_1 => kernel_rfl
      case hf_1 => kernel_rfl
      case hr_1 => kernel_rfl
      case hQ_1 => exact fun _ _ _ h => h
      case hw_1 => rfl
      case hy_1 => (intro w _; go_simp; try with_reducible rfl)
      try simp only [Act.put, List.setIfInBounds_toArray, List.set_cons_zero, List.set_cons_succ]
      refine anyZ_free (i := 1) (oi := ?oi_2) (v := ?v_2) ?hi_2 ?hs_2 ?hf_2 ?hr_2 ?hQ_2 (Or.inl ⟨?hw_2, ?hy_2⟩) ?hrest_2
      case hi_2 => (simp only [List.getElem?_toArray, List.getElem?_cons_succ, List.getElem?_cons_zero]; exact rfl)
      case hs_2 => kernel_rfl
      case hf_2 => kernel_rfl
      case hr_2 => kernel_rfl
      case hQ_2 => exact fun _ _ _ h => h
      case hw_2 => rfl
      case hy_2 => (intro w _; go_simp; try with_reducible rfl)
      try simp only [Act.put, List.setIfInBounds_toArray, List.set_cons_zero, List.set_cons_succ]
      refine anyZ_free (i := 2) (oi := ?oi_3) (v := ?v_3) ?hi_3 ?hs_3 ?hf_3 ?hr_3 ?hQ_3 (Or.inl ⟨?hw_3, ?hy_3⟩) ?hrest_3
      case hi_3 => (simp only [List.getElem?_toArray, List.getElem?_cons_succ, List.getElem?_cons_zero]; exact rfl)
      case hs_3 => kernel_rfl
      case hf_3 => kernel_rfl
      case hr_3 => kernel_rfl
      case hQ_3 => exact fun _ _ _ h => h
      case hw_3 => rfl
      case hy_3 => (intro w _; go_simp; try with_reducible rfl)
      try simp only [Act.put, List.setIfInBounds_toArray, List.set_cons_zero, List.set_cons_succ]
      refine anyZ_free (i := 3) (oi := ?oi_4) (v := ?v_4) ?hi_4 ?hs_4 ?hf_4 ?hr_4 ?hQ_4 (Or.inl ⟨?hw_4, ?hy_4⟩) ?hrest_4
      case hi_4 => (simp only [List.getElem?_toArray, List.getElem?_cons_succ, List.getElem?_cons_zero]; exact rfl)
      case hs_4 => kernel_rfl
      case hf_4 => kernel_rfl
      case hr_4 => kernel_rfl
      case hQ_4 => exact fun _ _ _ h => h
      case hw_4 => rfl
      case hy_4 => (intro w _; go_simp; try with_reducible rfl)
      try simp only [Act.put, List.setIfInBounds_toArray, List.set_cons_zero, List.set_cons_succ]
      refine anyZ_free (i := 4) (oi := ?oi_5) (v := ?v_5) ?hi_5 ?hs_5 ?hf_5 ?hr_5 ?hQ_5 (Or.inl ⟨?hw_5, ?hy_5⟩) ?hrest_5
      case hi_5 => (simp only [List.getElem?_toArray, List.getElem?_cons_succ, List.getElem?_cons_zero]; exact rfl)
      case hs_5 => kernel_rfl
      case hf_5 => kernel_rfl
      case hr_5 => kernel_rfl
      case hQ_5 => exact fun _ _ _ h => h
      case hw_5 => rfl
      case hy_5 => (intro w _; go_simp; try with_reducible rfl)
      try simp only [Act.put, List.setIfInBounds_toArray, List.set_cons_zero, List.set_cons_succ]
      refine anyZ_take (i := 5) (oi := ?oi_6) (v := ?v_6) ?hi_6 ?hz_6 ?hs_6 ?hf_6 ?hr_6 ?hQ_6 (Or.inl ⟨?hw_6, ?hy_6⟩) ?hS_6 ?hrest_6
      case hi_6 => (simp only [List.getElem?_toArray, List.getElem?_cons_succ, List.getElem?_cons_zero]; exact rfl)
      case hz_6 => kernel_rfl
      case hs_6 => kernel_rfl
      case hf_6 => kernel_rfl
      case hr_6 => kernel_rfl
      case hQ_6 => exact fun _ _ _ h => h
      case hw_6 => rfl
      case hS_6 => assumption
      case hy_6 => (intro w hSw; (try dsimp only at hSw); go_simp; try with_reducible rfl)
      try simp only [Act.put, List.setIfInBounds_toArray, List.set_cons_zero, List.set_cons_succ]
      refine anyZ_free (i := 6) (oi := ?oi_7) (v := ?v_7) ?hi_7 ?hs_7 ?hf_7 ?hr_7 ?hQ_7 (Or.inl ⟨?hw_7, ?hy_7⟩) ?hrest_7
      case hi_7 => (simp only [List.getElem?_toArray, List.getElem?_cons_succ, List.getElem?_cons_zero]; exact rfl)
      case hs_7 => kernel_rfl
      case hf_7 => kernel_rfl
      case hr_7 => kernel_rfl
      case hQ_7 => exact fun _ _ _ h => h
      case hw_7 => rfl
      case hy_7 => (intro w _; go_simp; try with_reducible rfl)
      try simp only [Act.put, List.setIfInBounds_toArray, List.set_cons_zero, List.set_cons_succ]
      refine anyZ_free (i := 7) (oi := ?oi_8) (v := ?v_8) ?hi_8 ?hs_8 ?hf_8 ?hr_8 ?hQ_8 (Or.inl ⟨?hw_8, ?hy_8⟩) ?hrest_8
      case hi_8 => (simp only [List.getElem?_toArray, List.getElem?_cons_succ, List.getElem?_cons_zero]; exact rfl)
      case hs_8 => kernel_rfl
      case hf_8 => kernel_rfl
      case hr_8 => kernel_rfl
      case hQ_8 => exact fun _ _ _ h => h
      case hw_8 => rfl
      case hy_8 => (intro w _; go_simp; try with_reducible rfl)
      try simp only [Act.put, List.setIfInBounds_toArray, List.set_cons_zero, List.set_cons_succ]
      refine anyZ_take (i := 8) (oi := ?oi_9) (v := ?v_9) ?hi_9 ?hz_9 ?hs_9 ?hf_9 ?hr_9 ?hQ_9 (Or.inl ⟨?hw_9, ?hy_9⟩) ?hS_9 ?hrest_9
      case hi_9 => (simp only [List.getElem?_toArray, List.getElem?_cons_succ, List.getElem?_cons_zero]; exact rfl)
      case hz_9 => kernel_rfl
      case hs_9 => kernel_rfl
      case hf_9 => kernel_rfl
      case hr_9 => kernel_rfl
      case hQ_9 => exact fun _ _ _ h => h
      case hw_9 => rfl
      case hS_9 => assumption
      case hy_9 => (intro w hSw; (try dsimp only at hSw); go_simp; try with_reducible rfl)
      try simp only [Act.put, List.setIfInBounds_toArray, List.set_cons_zero, List.set_cons_succ]
      refine anyZ_free (i := 9) (oi := ?oi_10) (v := ?v_10) ?hi_10 ?hs_10 ?hf_10 ?hr_10 ?hQ_10 (Or.inl ⟨?hw_10, ?hy_10⟩) ?hrest_10
      case hi_10 => (simp only [List.getElem?_toArray, List.getElem?_cons_succ, List.getElem?_cons_zero]; exact rfl)
      case hs_10 => kernel_rfl
      case hf_10 => kernel_rfl
      case hr_10 => kernel_rfl
      case hQ_10 => exact fun _ _ _ h => h
      case hw_10 => rfl
      case hy_10 => (intro w _; go_simp; try with_reducible rfl)
      try simp only [Act.put, List.setIfInBounds_toArray, List.set_cons_zero, List.set_cons_succ]
      refine anyZ_ready (rs := [10]) (by kernel_rfl) (by simp) ?_
      refine (AllZ.cons (o := ?o_11) ?ho_11 (fun K hK => ?st_11) AllZ.nil)
      case ho_11 => (simp only [List.getElem?_toArray, List.getElem?_cons_succ, List.getElem?_cons_zero]; exact rfl)
      case st_11 =>
        go_simp
        refine hK.out _ _ (by ((try dsimp only); (first | exact ⟨p0, p1⟩ | exact ⟨(th.out.far (by omega) _ _).drew.c _ hlt, (g1.far (by omega) _ _).drew.c _ hlt⟩))) (fun hHeld => ?_)
        clear hK K
        try simp only [Act.put, List.setIfInBounds_toArray, List.set_cons_zero, List.set_cons_succ]
        refine anyZ_free (i := 11) (oi := ?oi_12) (v := ?v_12) ?hi_12 ?hs_12 ?hf_12 ?hr_12 ?hQ_12 (Or.inl ⟨?hw_12, ?hy_12⟩) ?hrest_12
        case hi_12 => (simp only [List.getElem?_toArray, List.getElem?_cons_succ, List.getElem?_cons_zero]; exact rfl)
        case hs_12 => kernel_rfl
        case hf_12 => kernel_rfl
        case hr_12 => kernel_rfl
        case hQ_12 => exact fun _ _ _ h => h
        case hw_12 => rfl
        case hy_12 => (intro w _; go_simp; try with_reducible rfl)
        try simp only [Act.put, List.setIfInBounds_toArray, List.set_cons_zero, List.set_cons_succ]
        refine anyZ_ready (rs := [12]) (by kernel_rfl) (by simp) ?_
        refine (AllZ.last (o := ?o_13) ?ho_13 (by rfl) (fun K hK => ?st_13) AllZ.nil)
        case ho_13 => (simp only [List.getElem?_toArray, List.getElem?_cons_succ, List.getElem?_cons_zero]; exact rfl)
        case st_13 =>
          go_simp
          refine hK.out _ _ ?_
          clear hK K
          try simp only [Act.put, List.setIfInBounds_toArray, List.set_cons_zero, List.set_cons_succ]
          refine anyZ_done (by kernel_rfl) ?_ _
          refine NoPanic.normal ?_
          have tv1 : Hid (Arr (((wr.setCell ⟨N + 1 + 1, i, none⟩ (.int .u32 (h i : Nat))).setCell ⟨N + 1 + 1, k, none⟩ (.int .u32 (Ob.first i : Nat))).drew) .u32 (N + 1 + 1) 16 (Ob.sixI h (i + 1))) := by
            have q := ((tv.out.set (i := i) (z := h i) (by omega)).set (i := k) (z := Ob.first i) (by have := hk.out; omega)).drew
            rw [← hk.out, Ob.sixI_succ h hlt, hk.out] at q
            exact q
          have th1 : Hid (Arr (((wr.setCell ⟨N + 1 + 1, i, none⟩ (.int .u32 (h i : Nat))).setCell ⟨N + 1 + 1, k, none⟩ (.int .u32 (Ob.first i : Nat))).drew) .u32 N 8 h) := ((th.out.far (by omega) _ _).far (by omega) _ _).drew
          have tr1 : Hid (Arr (((wr.setCell ⟨N + 1 + 1, i, none⟩ (.int .u32 (h i : Nat))).setCell ⟨N + 1 + 1, k, none⟩ (.int .u32 (Ob.first i : Nat))).drew) .u32 (N + 1) 16 (fun _ => 0)) := ((tr.out.far (by omega) _ _).far (by omega) _ _).drew
          have hB1 : Below N w (((wr.setCell ⟨N + 1 + 1, i, none⟩ (.int .u32 (h i : Nat))).setCell ⟨N + 1 + 1, k, none⟩ (.int .u32 (Ob.first i : Nat))).drew) := by (repeat' (first | (with_reducible first | exact Below.refl _ _ | assumption | refine Below.alloc ?_ ?_ _ | refine Below.drew ?_ | refine below_drewN ?_ _ | refine Below.setCell ?_ ?_ _ | refine below_via (by with_reducible assumption) ?_ ?_) | omega | (simp only [szs]; omega) | (simp only [szs] at *; omega)))
          clear hHeld p0 p1 p2 p3 p4 p5 i2 i3 i4 i5 g1 tv th tr hB
          generalize (((wr.setCell ⟨N + 1 + 1, i, none⟩ (.int .u32 (h i : Nat))).setCell ⟨N + 1 + 1, k, none⟩ (.int .u32 (Ob.first i : Nat))).drew) = W1 at *
          go_wp2
          go_roundw
          case rel => exact ⟨i + 1, by omega, by go_num, th1, tr1, tv1, hB1⟩
          case measure => (simp only [intOf, Int.toNat_natCast]; omega)
    · obtain rfl : i = 8 := by omega
      go_upto_region 7 with (fail)
      have t0 : Arr wr .u32 (N + 1 + 1) 16 (Ob.six0 h) := tv.out.congr (Ob.sixI_end h)
      clear tv
      have hs := Ob.six0_words hh'.out
      obtain ⟨lo, hlo, elo⟩ : ∃ lo : Nat, Hid (n % 4294967296 = lo) ∧ IntKind.u32.wrap (n : Int) = (lo : Int) := ⟨_, rfl, by rw [IntKind.wrap_u32]; omega⟩
      obtain ⟨hi', hhi, ehi⟩ : ∃ lo : Nat, Hid (n / 4294967296 = lo) ∧ IntKind.u32.wrap ((n : Int) / 4294967296) = (lo : Int) := ⟨_, rfl, by rw [IntKind.wrap_u32]; omega⟩
      have elo' : (n : Int) % 4294967296 = (lo : Int) := by have := hlo.out; omega
      have llo : lo < 4294967296 := by have := hlo.out; omega
      have lhi : hi' < 4294967296 := by have := hhi.out; omega
      have x12 := xor_u32 (Ob.six0 h 12) lo (hs 12) llo
      have x13 := xor_u32 (Ob.six0 h 13) hi' (hs 13) lhi
      have c12 := t0.c 12 (by decide)
      have f12 := t0.f 12 (by decide)
      have c13 := t0.c 13 (by decide)
      have f13 := t0.f 13 (by decide)
      have hs14 := hs 14
      clear hs
      obtain ⟨X12, hX12⟩ : ∃ z, Hid (Ob.six0 h 12 ^^^ lo = z) := ⟨_, rfl⟩
      obtain ⟨X13, hX13⟩ : ∃ z, Hid (Ob.six0 h 13 ^^^ hi' = z) := ⟨_, rfl⟩
      rw [hX12.out] at x12
      rw [hX13.out] at x13
      go_upto_region 9 with (fail)
      have t1 : Arr ((wr.setCell ⟨N + 1 + 1, 12, none⟩ (.int .u32 (X12 : Nat))).setCell ⟨N + 1 + 1, 13, none⟩ (.int .u32 (X13 : Nat))) .u32 (N + 1 + 1) 16 (Ob.upd (Ob.upd (Ob.six0 h) 12 X12) 13 X13) := (t0.set (by decide)).set (by decide)
      have tr1 : Hid (Arr ((wr.setCell ⟨N + 1 + 1, 12, none⟩ (.int .u32 (X12 : Nat))).setCell ⟨N + 1 + 1, 13, none⟩ (.int .u32 (X13 : Nat))) .u32 (N + 1) 16 (fun _ => 0)) := (tr.out.far (by omega) _ _).far (by omega) _ _
      have hB1 : Below N w ((wr.setCell ⟨N + 1 + 1, 12, none⟩ (.int .u32 (X12 : Nat))).setCell ⟨N + 1 + 1, 13, none⟩ (.int .u32 (X13 : Nat))) := by (repeat' (first | (with_reducible first | exact Below.refl _ _ | assumption | refine Below.alloc ?_ ?_ _ | refine Below.drew ?_ | refine below_drewN ?_ _ | refine Below.setCell ?_ ?_ _ | refine below_via (by with_reducible assumption) ?_ ?_) | omega | (simp only [szs]; omega) | (simp only [szs] at *; omega)))
      clear t0 th tr hB c12 f12 c13 f13 x12 x13 elo elo' ehi llo lhi
      generalize ((wr.setCell ⟨N + 1 + 1, 12, none⟩ (.int .u32 (X12 : Nat))).setCell ⟨N + 1 + 1, 13, none⟩ (.int .u32 (X13 : Nat))) = W1 at *
      cases last with
      | false =>
        have hV : Hid (Ob.upd (Ob.upd (Ob.six0 h) 12 X12) 13 X13 = Ob.six h n false) := by
          show _ = _
          rw [← hX12.out, ← hX13.out, ← hlo.out, ← hhi.out]
          rfl
        rw [hV.out] at t1
        clear hV hX12 hX13 hlo hhi
        go_upto_region 11 with (fail)
        go_wp2_with (first | ((with_reducible refine wpList_loadLit t1 ?_ Tryd.underlying43 ?_ ?_ ?_); (focus rfl); (focus rfl); (focus kernel_rfl); simp only [Act.put, List.setIfInBounds_toArray, List.set_cons_zero, List.set_cons_succ]) | ((with_reducible refine wpList_storeLit (Ob.six h n false) tr1.out ?_ ?_ ?_ ?_); (focus rfl); (focus rfl); (focus kernel_rfl); intro W5 hW5_ tW5_ zW5_; try simp only [Act.put, List.setIfInBounds_toArray, List.set_cons_zero, List.set_cons_succ]))
        have hB5 : Below w.heap.size w W5 := by rw [hW5_.out, hN.out]; exact below_setCells hB1 (by omega) _ _
        have rv := tW5_.out.loadVar Tryd.underlying43 rfl (by kernel_rfl)
        exact bodyPost_ret (v := .agg (arrL .u32 (Ob.six h n false) 16).toArray) (by simp [results, Tryd.results15, asAddr, rv]) rfl ⟨rfl, hB5⟩
      | true =>
        have c14 := t1.c 14 (by decide)
        have f14 := t1.f 14 (by decide)
        rw [Ob.upd_ne _ _ (by decide), Ob.upd_ne _ _ (by decide)] at c14
        have x14 : bits .xor .u32 (if IntKind.u32.signed = true then -1 else IntKind.u32.max) ((Ob.six0 h 14 : Nat) : Int) = ((4294967295 ^^^ Ob.six0 h 14 : Nat) : Int) := xor_u32 4294967295 _ (by decide) hs14
        obtain ⟨X14, hX14⟩ : ∃ z, Hid (4294967295 ^^^ Ob.six0 h 14 = z) := ⟨_, rfl⟩
        rw [hX14.out] at x14
        go_upto_region 11 with (fail)
        have t2 : Arr (W1.setCell ⟨N + 1 + 1, 14, none⟩ (.int .u32 (X14 : Nat))) .u32 (N + 1 + 1) 16 (Ob.six h n true) := by
          have q := t1.set (i := 14) (z := X14) (by decide)
          rw [← hX12.out, ← hX13.out, ← hlo.out, ← hhi.out, ← hX14.out, Nat.xor_comm 4294967295] at q
          rw [← hX14.out, Nat.xor_comm 4294967295]
          exact q
        have tr2 : Hid (Arr (W1.setCell ⟨N + 1 + 1, 14, none⟩ (.int .u32 (X14 : Nat))) .u32 (N + 1) 16 (fun _ => 0)) := tr1.out.far (by omega) _ _
        have hB2 : Below N w (W1.setCell ⟨N + 1 + 1, 14, none⟩ (.int .u32 (X14 : Nat))) := by (repeat' (first | (with_reducible first | exact Below.refl _ _ | assumption | refine Below.alloc ?_ ?_ _ | refine Below.drew ?_ | refine below_drewN ?_ _ | refine Below.setCell ?_ ?_ _ | refine below_via (by with_reducible assumption) ?_ ?_) | omega | (simp only [szs]; omega) | (simp only [szs] at *; omega)))
        clear t1 tr1 hB1 hX12 hX13 hlo hhi hX14 x14 c14 f14 hs14
        generalize W1.setCell ⟨N + 1 + 1, 14, none⟩ (.int .u32 (X14 : Nat)) = W2 at *
        go_wp2_with (first | ((with_reducible refine wpList_loadLit t2 ?_ Tryd.underlying43 ?_ ?_ ?_); (focus rfl); (focus rfl); (focus kernel_rfl); simp only [Act.put, List.setIfInBounds_toArray, List.set_cons_zero, List.set_cons_succ]) | ((with_reducible refine wpList_storeLit (Ob.six h n true) tr2.out ?_ ?_ ?_ ?_); (focus rfl); (focus rfl); (focus kernel_rfl); intro W5 hW5_ tW5_ zW5_; try simp only [Act.put, List.setIfInBounds_toArray, List.set_cons_zero, List.set_cons_succ]))
        have hB5 : Below w.heap.size w W5 := by rw [hW5_.out, hN.out]; exact below_setCells hB2 (by omega) _ _
        have rv := tW5_.out.loadVar Tryd.underlying43 rfl (by kernel_rfl)
        exact bodyPost_ret (v := .agg (arrL .u32 (Ob.six h n true) 16).toArray) (by simp [results, Tryd.results15, asAddr, rv]) rfl ⟨rfl, hB5⟩
end Go.Proofs.YtllgnclbbakliaaDoor
