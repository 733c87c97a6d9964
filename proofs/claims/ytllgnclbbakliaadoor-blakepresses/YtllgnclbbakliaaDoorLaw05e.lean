/-
  Stage 5's statements: BlakePresses.
-/
import Derived.Test.YtllgnclbbakliaaDoorUpB
import Derived.Test.YtllgnclbbakliaaDoorRefB4
namespace Go.Proofs.YtllgnclbbakliaaDoor
open Go.RowKit Go.Proofs
set_option linter.unusedVariables false
set_option linter.unusedSimpArgs false
attribute [local go_sem ↓] Go.wp_at_zero Go.wp_at_succ
/-- Numbers that came in, 0 behind them. -/
theorem arr_nat {k : IntKind} {n B : Nat} (hB : 0 < B) (hk : ∀ a : Int, (Lit.int k a).wf = true → 0 ≤ a ∧ a < (B : Int)) (f : Nat → Int) (hf : ∀ i, i < n → (Lit.int k (f i)).wf = true) :
    ∃ h : Nat → Nat, (∀ i, h i < B) ∧ Value.agg ((List.range n).map fun i => Value.int k (f i)).toArray = arrV k h n := by
  refine ⟨fun i => if i < n then (f i).toNat else 0, fun i => ?_, ?_⟩
  · show (if i < n then (f i).toNat else 0) < B
    by_cases hi : i < n
    · rw [if_pos hi]; have := hk _ (hf i hi); omega
    · rw [if_neg hi]; exact hB
  · unfold arrV arrL
    congr 2
    refine List.map_congr_left fun i hi => ?_
    have hi' := List.mem_range.1 hi
    have := hk _ (hf i hi')
    simp only [hi', if_true]
    congr 1
    omega

theorem run_make64 (w : World) : (Instr.makeSlice 27 (.int .i64 64) (.int .i64 64)).run Tryd.prog w = .ok (.slice (some ⟨w.heap.size, 0, none⟩) 64 64) (w.alloc (.cells #[.int .u8 0, .int .u8 0, .int .u8 0, .int .u8 0, .int .u8 0, .int .u8 0, .int .u8 0, .int .u8 0, .int .u8 0, .int .u8 0, .int .u8 0, .int .u8 0, .int .u8 0, .int .u8 0, .int .u8 0, .int .u8 0, .int .u8 0, .int .u8 0, .int .u8 0, .int .u8 0, .int .u8 0, .int .u8 0, .int .u8 0, .int .u8 0, .int .u8 0, .int .u8 0, .int .u8 0, .int .u8 0, .int .u8 0, .int .u8 0, .int .u8 0, .int .u8 0, .int .u8 0, .int .u8 0, .int .u8 0, .int .u8 0, .int .u8 0, .int .u8 0, .int .u8 0, .int .u8 0, .int .u8 0, .int .u8 0, .int .u8 0, .int .u8 0, .int .u8 0, .int .u8 0, .int .u8 0, .int .u8 0, .int .u8 0, .int .u8 0, .int .u8 0, .int .u8 0, .int .u8 0, .int .u8 0, .int .u8 0, .int .u8 0, .int .u8 0, .int .u8 0, .int .u8 0, .int .u8 0, .int .u8 0, .int .u8 0, .int .u8 0, .int .u8 0] 5)) := by
  obtain ⟨i0, hi, hz1, hz2, hz0⟩ := byteInfo
  have h := run_make (P := Tryd.prog) w 27 5 i0 _ Tryd.underlying27 hi hz0 .i64 .i64 64 64 (by omega) (by omega) (by rw [hz2]; decide) (by omega)
  rw [hz1] at h
  have e : madeCells (Value.int .u8 0).cells (Int.toNat 64 * 1) = #[.int .u8 0, .int .u8 0, .int .u8 0, .int .u8 0, .int .u8 0, .int .u8 0, .int .u8 0, .int .u8 0, .int .u8 0, .int .u8 0, .int .u8 0, .int .u8 0, .int .u8 0, .int .u8 0, .int .u8 0, .int .u8 0, .int .u8 0, .int .u8 0, .int .u8 0, .int .u8 0, .int .u8 0, .int .u8 0, .int .u8 0, .int .u8 0, .int .u8 0, .int .u8 0, .int .u8 0, .int .u8 0, .int .u8 0, .int .u8 0, .int .u8 0, .int .u8 0, .int .u8 0, .int .u8 0, .int .u8 0, .int .u8 0, .int .u8 0, .int .u8 0, .int .u8 0, .int .u8 0, .int .u8 0, .int .u8 0, .int .u8 0, .int .u8 0, .int .u8 0, .int .u8 0, .int .u8 0, .int .u8 0, .int .u8 0, .int .u8 0, .int .u8 0, .int .u8 0, .int .u8 0, .int .u8 0, .int .u8 0, .int .u8 0, .int .u8 0, .int .u8 0, .int .u8 0, .int .u8 0, .int .u8 0, .int .u8 0, .int .u8 0, .int .u8 0] := by kernel_rfl
  rw [e] at h
  exact h
theorem equal_8 (d : Nat) (w : World) (x0 x1 x2 x3 x4 x5 x6 x7 : Int) : (Op.equalIn (d + 2) 23 (.agg #[.int .u32 x0, .int .u32 x1, .int .u32 x2, .int .u32 x3, .int .u32 x4, .int .u32 x5, .int .u32 x6, .int .u32 x7]) (.agg #[.int .u32 x0, .int .u32 x1, .int .u32 x2, .int .u32 x3, .int .u32 x4, .int .u32 x5, .int .u32 x6, .int .u32 x7])).run Tryd.prog w = .ok true w := by
  have hA : ∀ w : World, (isAgg 22).run Tryd.prog w = .ok false w := fun w => by kernel_rfl
  have hI : ∀ (w : World) (a b : Int), (Op.equalIn (d + 1) 22 (.int .u32 a) (.int .u32 b)).run Tryd.prog w = .ok (a == b) w := fun w a b => run_equalIn_int w d _ _ .u32 a b Tryd.underlying22
  unfold Op.equalIn
  simp only [Sem.run_bind, run_underlying Tryd.underlying23]
  simp [go_sem, hA, hI, List.range']
theorem eql_arr (w : World) (v : Nat → Nat) : (binOp .eql 23 (.agg (arrL .u32 v 8).toArray) (.agg (arrL .u32 v 8).toArray)).run Tryd.prog w = .ok (.bool true) w := by
  have h := equal_8 (Op.maxDepth - 2) w (v 0 : Nat) (v 1 : Nat) (v 2 : Nat) (v 3 : Nat) (v 4 : Nat) (v 5 : Nat) (v 6 : Nat) (v 7 : Nat)
  have e : Op.maxDepth - 2 + 2 = Op.maxDepth := by decide +kernel
  rw [e] at h
  change (binOp .eql 23 (.agg #[.int .u32 (v 0 : Nat), .int .u32 (v 1 : Nat), .int .u32 (v 2 : Nat), .int .u32 (v 3 : Nat), .int .u32 (v 4 : Nat), .int .u32 (v 5 : Nat), .int .u32 (v 6 : Nat), .int .u32 (v 7 : Nat)]) (.agg #[.int .u32 (v 0 : Nat), .int .u32 (v 1 : Nat), .int .u32 (v 2 : Nat), .int .u32 (v 3 : Nat), .int .u32 (v 4 : Nat), .int .u32 (v 5 : Nat), .int .u32 (v 6 : Nat), .int .u32 (v 7 : Nat)])).run Tryd.prog w = .ok (.bool true) w
  simp only [binOp]
  simp [Op.equal, h]
def copyI (z : Nat → Nat) (i j : Nat) : Nat := if j < i then z j else 0
theorem copyI_zero (z : Nat → Nat) : copyI z 0 = fun _ => 0 := by funext j; simp [copyI]
theorem copyI_succ (z : Nat → Nat) (i : Nat) : Ob.upd (copyI z i) i (z i) = copyI z (i + 1) := by
  funext j
  unfold Ob.upd copyI
  by_cases h1 : j = i
  · subst h1; simp
  · by_cases h2 : j < i
    · simp [h1, h2, Nat.lt_succ_of_lt h2]
    · simp [h1, h2]; omega

set_option maxHeartbeats 4000000 in
theorem presses_core (h z : Nat → Nat) (hh : Ob.Words32 h) (hz : ∀ i, z i < 256) (n : Nat) (hn : n < 18446744073709551616) (last : Bool) (w : World) (hT : Tabs w) :
    Calls Tryd.prog 3 #[arrV .u32 h 8, arrV .u8 z 64, .int .u64 n, .bool last] w fun e w' => e = .returned (.bool true) ∧ Below w.heap.size w w' := by
  unfold arrV
  have hl := arrL_length .u32 h 8
  have hl' := arrL_length .u8 z 64
  have hT' : Hid (Tabs w) := hT
  have hh' : Hid (Ob.Words32 h) := hh
  have hz' : Hid (∀ i, z i < 256) := hz
  clear hT hh hz
  go_enter Tryd.func3, Tryd.ntmps3
  go_upto_region 1 with (fail)
  obtain ⟨W0, hW0⟩ : ∃ W, Hid ((w.alloc (.cells (arrL .u32 h 8).toArray 23)).alloc (.cells (arrL .u8 z 64).toArray 24) = W) := ⟨_, rfl⟩
  have th0 : Arr W0 .u32 w.heap.size 8 h := by rw [← hW0.out]; exact (Arr.new rfl).alloc _
  have tb0 : Arr W0 .u8 (w.heap.size + 1) 64 z := by rw [← hW0.out]; exact Arr.new (by simp)
  have hB0 : Below w.heap.size w W0 := by rw [← hW0.out]; (repeat' (first | (with_reducible first | exact Below.refl _ _ | assumption | refine Below.alloc ?_ ?_ _ | refine Below.drew ?_ | refine below_drewN ?_ _ | refine Below.setCell ?_ ?_ _ | refine below_via (by with_reducible assumption) ?_ ?_) | omega | (simp only [szs]; omega) | (simp only [szs] at *; omega)))
  rw [hW0.out]
  clear hW0
  obtain ⟨N, hN⟩ : ∃ N, Hid (w.heap.size = N) := ⟨_, rfl⟩
  rw [hN.out] at th0 tb0 hB0 ⊢
  have hlN : 3 ≤ N := by have := hT'.out.lt; have := hN.out; omega
  have c0 := upW W0 (hT'.out.below hB0 hlN)
  have l0 := tb0.lt
  go_upto_region 2 with (go_at_call 8; with_reducible refine c0.mono ?_; rintro e W1 ⟨rfl, b1⟩)
  have l1 := b1.size
  have hmk := run_make64
  have th1 := th0.below b1 (by omega)
  have tb1 := tb0.below b1 (by omega)
  have hB1 : Below N w W1 := below_via b1 hB0 (by omega)
  clear th0 tb0 hB0 b1 c0
  go_upto_region 3 with (fail)
  obtain ⟨W2, hW2⟩ : ∃ W, Hid (W1.alloc (.cells #[.int .u8 0, .int .u8 0, .int .u8 0, .int .u8 0, .int .u8 0, .int .u8 0, .int .u8 0, .int .u8 0, .int .u8 0, .int .u8 0, .int .u8 0, .int .u8 0, .int .u8 0, .int .u8 0, .int .u8 0, .int .u8 0, .int .u8 0, .int .u8 0, .int .u8 0, .int .u8 0, .int .u8 0, .int .u8 0, .int .u8 0, .int .u8 0, .int .u8 0, .int .u8 0, .int .u8 0, .int .u8 0, .int .u8 0, .int .u8 0, .int .u8 0, .int .u8 0, .int .u8 0, .int .u8 0, .int .u8 0, .int .u8 0, .int .u8 0, .int .u8 0, .int .u8 0, .int .u8 0, .int .u8 0, .int .u8 0, .int .u8 0, .int .u8 0, .int .u8 0, .int .u8 0, .int .u8 0, .int .u8 0, .int .u8 0, .int .u8 0, .int .u8 0, .int .u8 0, .int .u8 0, .int .u8 0, .int .u8 0, .int .u8 0, .int .u8 0, .int .u8 0, .int .u8 0, .int .u8 0, .int .u8 0, .int .u8 0, .int .u8 0, .int .u8 0] 5) = W) := ⟨_, rfl⟩
  have tc2 : Hid (Arr W2 .u8 W1.heap.size 64 (copyI z 0)) := by rw [← hW2.out, copyI_zero]; exact Arr.new64b
  have th2 : Hid (Arr W2 .u32 N 8 h) := by rw [← hW2.out]; exact th1.alloc _
  have tb2 : Hid (Arr W2 .u8 (N + 1) 64 z) := by rw [← hW2.out]; exact tb1.alloc _
  have hB2 : Below N w W2 := by rw [← hW2.out]; exact hB1.alloc (by omega) _
  rw [hW2.out]
  obtain ⟨C, hC⟩ : ∃ C, Hid (W1.heap.size = C) := ⟨_, rfl⟩
  have lC : N + 1 < C := by have := hC.out; omega
  rw [hC.out] at tc2 ⊢
  clear hW2 hB1 th1 tb1 hC hmk l1
  go_wp2
  go_loopw [11] (fun s11 wr => ∃ (i : Nat), i ≤ 64 ∧ s11 = .int .i64 (i : Nat) ∧ Hid (Arr wr .u32 N 8 h) ∧ Hid (Arr wr .u8 (N + 1) 64 z) ∧ Hid (Arr wr .u8 C 64 (copyI z i)) ∧ Below N w wr) (fun s11 _ => 64 - (intOf s11).toNat)
  case atStart => exact ⟨0, by omega, rfl, th2, tb2, tc2, hB2⟩
  case round =>
    clear th2 tb2 tc2 hB2
    obtain ⟨i, hi, rfl, th, tb, tc, hB⟩ := hrel
    by_cases hlt : i < 64
    · have q0 := tb.out.c i hlt
      have q1 := tc.out.c i hlt
      have q2 := tc.out.f i hlt
      have i0 : (i : Int) < 64 := by omega
      have i1 : (0 : Int) ≤ (i : Int) := by omega
      have q := tc.out.set (i := i) (z := z i) hlt
      rw [copyI_succ] at q
      have hB1 : Below N w (wr.setCell ⟨C, i, none⟩ (.int .u8 (z i : Nat))) := by (repeat' (first | (with_reducible first | exact Below.refl _ _ | assumption | refine Below.alloc ?_ ?_ _ | refine Below.drew ?_ | refine below_drewN ?_ _ | refine Below.setCell ?_ ?_ _ | refine below_via (by with_reducible assumption) ?_ ?_) | omega | (simp only [szs]; omega) | (simp only [szs] at *; omega)))
      go_wp2
      go_roundw
      case rel => exact ⟨i + 1, by omega, by go_num, th.out.far (by omega) _ _, tb.out.far (by omega) _ _, q, hB1⟩
      case measure => (simp only [intOf, Int.toNat_natCast]; omega)
    · obtain rfl : i = 64 := by omega
      go_upto_region 7 with (fail)
      have yb : Hid (Bys wr C 0 64 z) := ⟨tc.out.lt, fun j hj => by rw [Nat.zero_add]; have := tc.out.c j hj; unfold copyI at this; rw [if_pos hj] at this; exact this⟩
      have cP := press_core h z hh'.out hz'.out n hn last wr.drew (hT'.out.below hB.drew hlN)
      have cR := fun (W : World) (hY : Bys W C 0 64 z) => rpress_core h hh'.out C 0 64 z hz'.out n hn last W hY
      unfold arrV at cP cR
      obtain ⟨D, hD⟩ : ∃ D, Hid (Ob.press h (wordAt z) n last = D) := ⟨_, rfl⟩
      rw [hD.out] at cP cR
      have eq := fun w => eql_arr w D
      have th' := th.out.drew
      have tb' := tb.out.drew
      clear hD tc th tb
      refine wp_region_noPanic ?_
      refine region_lastly (S := (fun w' => Arr w' .u32 N 8 h ∧ Arr w' .u8 (N + 1) 64 z)) [] (by kernel_rfl) (by ((try dsimp only); (first | exact ⟨th', tb'⟩ | exact ⟨th'.below b6 th'.lt, tb'.below b6 tb'.lt⟩ | exact ⟨(th'.below b6 th'.lt).below b7 (th'.below b6 th'.lt).lt, (tb'.below b6 tb'.lt).below b7 (tb'.below b6 tb'.lt).lt⟩))) (fun hHeld => ?_)
      refine anyZ_free (i := 0) (oi := ?oi_1) (v := ?v_1) ?hi_1 ?hs_1 ?hf_1 ?hr_1 ?hQ_1 (Or.inl ⟨?hw_1, ?hy_1⟩) ?hrest_1
      case hi_1 => (simp only [List.getElem?_toArray, List.getElem?_cons_succ, List.getElem?_cons_zero]; exact rfl)
      case hs_1 => kernel_rfl
      case hf_1 => kernel_rfl
      case hr_1 => kernel_rfl
      case hQ_1 => exact fun _ _ _ h => h
      case hw_1 => rfl
      case hy_1 => (intro w _; go_simp; try with_reducible rfl)
      try simp only [Act.put, List.setIfInBounds_toArray, List.set_cons_zero, List.set_cons_succ]
      refine anyZ_free (i := 1) (oi := ?oi_2) (v := ?v_2) ?hi_2 ?hs_2 ?hf_2 ?hr_2 ?hQ_2 (Or.inl ⟨?hw_2, ?hy_2⟩) ?hrest_2
      case hi_2 => (simp only [List.getElem?_toArray, List.getElem?_cons_succ, List.getElem?_cons_zero]; exact rfl)
      case hs_2 => kernel_rfl
      case hf_2 => kernel_rfl
      case hr_2 => kernel_rfl
      case hQ_2 => exact fun _ _ _ h => h
      case hw_2 => rfl
      case hy_2 => (intro w _; go_simp; try with_reducible rfl)
      try simp only [Act.put, List.setIfInBounds_toArray, List.set_cons_zero, List.set_cons_succ]
      refine anyZ_take (i := 2) (oi := ?oi_3) (v := .agg (arrL .u32 h 8).toArray) ?hi_3 ?hz_3 ?hs_3 ?hf_3 ?hr_3 ?hQ_3 ?hy_3 ?hS_3 ?hrest_3
      case hi_3 => (simp only [List.getElem?_toArray, List.getElem?_cons_succ, List.getElem?_cons_zero]; exact rfl)
      case hz_3 => kernel_rfl
      case hs_3 => kernel_rfl
      case hf_3 => kernel_rfl
      case hr_3 => kernel_rfl
      case hQ_3 => exact fun _ _ _ h => h
      case hS_3 => assumption
      case hy_3 => (refine yieldsArr (k := .u32) (n := 8) (v := h) ?_ 23 (.tmp 4) ?_ N ?_ ?_ Tryd.underlying23 ?_ ?_; (focus rfl); (focus rfl); (focus rfl); (focus exact fun w h => And.left h); (focus rfl); kernel_rfl)
      try simp only [Act.put, List.setIfInBounds_toArray, List.set_cons_zero, List.set_cons_succ]
      refine anyZ_take (i := 3) (oi := ?oi_4) (v := .agg (arrL .u8 z 64).toArray) ?hi_4 ?hz_4 ?hs_4 ?hf_4 ?hr_4 ?hQ_4 ?hy_4 ?hS_4 ?hrest_4
      case hi_4 => (simp only [List.getElem?_toArray, List.getElem?_cons_succ, List.getElem?_cons_zero]; exact rfl)
      case hz_4 => kernel_rfl
      case hs_4 => kernel_rfl
      case hf_4 => kernel_rfl
      case hr_4 => kernel_rfl
      case hQ_4 => exact fun _ _ _ h => h
      case hS_4 => assumption
      case hy_4 => (refine yieldsArr (k := .u8) (n := 64) (v := z) ?_ 24 (.tmp 5) ?_ (N + 1) ?_ ?_ Tryd.underlying24 ?_ ?_; (focus rfl); (focus rfl); (focus rfl); (focus exact fun w h => And.right h); (focus rfl); kernel_rfl)
      try simp only [Act.put, List.setIfInBounds_toArray, List.set_cons_zero, List.set_cons_succ]
      refine anyZ_free (i := 4) (oi := ?oi_5) (v := ?v_5) ?hi_5 ?hs_5 ?hf_5 ?hr_5 ?hQ_5 (Or.inl ⟨?hw_5, ?hy_5⟩) ?hrest_5
      case hi_5 => (simp only [List.getElem?_toArray, List.getElem?_cons_succ, List.getElem?_cons_zero]; exact rfl)
      case hs_5 => kernel_rfl
      case hf_5 => kernel_rfl
      case hr_5 => kernel_rfl
      case hQ_5 => exact fun _ _ _ h => h
      case hw_5 => rfl
      case hy_5 => (intro w _; go_simp; try with_reducible rfl)
      try simp only [Act.put, List.setIfInBounds_toArray, List.set_cons_zero, List.set_cons_succ]
      refine anyZ_free (i := 5) (oi := ?oi_6) (v := ?v_6) ?hi_6 ?hs_6 ?hf_6 ?hr_6 ?hQ_6 (Or.inl ⟨?hw_6, ?hy_6⟩) ?hrest_6
      case hi_6 => (simp only [List.getElem?_toArray, List.getElem?_cons_succ, List.getElem?_cons_zero]; exact rfl)
      case hs_6 => kernel_rfl
      case hf_6 => kernel_rfl
      case hr_6 => kernel_rfl
      case hQ_6 => exact fun _ _ _ h => h
      case hw_6 => rfl
      case hy_6 => (intro w _; go_simp; try with_reducible rfl)
      try simp only [Act.put, List.setIfInBounds_toArray, List.set_cons_zero, List.set_cons_succ]
      refine anyZ_take (i := 7) (oi := ?oi_7) (v := .agg (arrL .u32 h 8).toArray) ?hi_7 ?hz_7 ?hs_7 ?hf_7 ?hr_7 ?hQ_7 ?hy_7 ?hS_7 ?hrest_7
      case hi_7 => (simp only [List.getElem?_toArray, List.getElem?_cons_succ, List.getElem?_cons_zero]; exact rfl)
      case hz_7 => kernel_rfl
      case hs_7 => kernel_rfl
      case hf_7 => kernel_rfl
      case hr_7 => kernel_rfl
      case hQ_7 => exact fun _ _ _ h => h
      case hS_7 => assumption
      case hy_7 => (refine yieldsArr (k := .u32) (n := 8) (v := h) ?_ 23 (.tmp 4) ?_ N ?_ ?_ Tryd.underlying23 ?_ ?_; (focus rfl); (focus rfl); (focus rfl); (focus exact fun w h => And.left h); (focus rfl); kernel_rfl)
      try simp only [Act.put, List.setIfInBounds_toArray, List.set_cons_zero, List.set_cons_succ]
      refine anyZ_free (i := 8) (oi := ?oi_8) (v := ?v_8) ?hi_8 ?hs_8 ?hf_8 ?hr_8 ?hQ_8 (Or.inl ⟨?hw_8, ?hy_8⟩) ?hrest_8
      case hi_8 => (simp only [List.getElem?_toArray, List.getElem?_cons_succ, List.getElem?_cons_zero]; exact rfl)
      case hs_8 => kernel_rfl
      case hf_8 => kernel_rfl
      case hr_8 => kernel_rfl
      case hQ_8 => exact fun _ _ _ h => h
      case hw_8 => rfl
      case hy_8 => (intro w _; go_simp; try with_reducible rfl)
      try simp only [Act.put, List.setIfInBounds_toArray, List.set_cons_zero, List.set_cons_succ]
      refine anyZ_free (i := 9) (oi := ?oi_9) (v := ?v_9) ?hi_9 ?hs_9 ?hf_9 ?hr_9 ?hQ_9 (Or.inl ⟨?hw_9, ?hy_9⟩) ?hrest_9
      case hi_9 => (simp only [List.getElem?_toArray, List.getElem?_cons_succ, List.getElem?_cons_zero]; exact rfl)
      case hs_9 => kernel_rfl
      case hf_9 => kernel_rfl
      case hr_9 => kernel_rfl
      case hQ_9 => exact fun _ _ _ h => h
      case hw_9 => rfl
      case hy_9 => (intro w _; go_simp; try with_reducible rfl)
      try simp only [Act.put, List.setIfInBounds_toArray, List.set_cons_zero, List.set_cons_succ]
      refine anyZ_free (i := 10) (oi := ?oi_10) (v := ?v_10) ?hi_10 ?hs_10 ?hf_10 ?hr_10 ?hQ_10 (Or.inl ⟨?hw_10, ?hy_10⟩) ?hrest_10
      case hi_10 => (simp only [List.getElem?_toArray, List.getElem?_cons_succ, List.getElem?_cons_zero]; exact rfl)
      case hs_10 => kernel_rfl
      case hf_10 => kernel_rfl
      case hr_10 => kernel_rfl
      case hQ_10 => exact fun _ _ _ h => h
      case hw_10 => rfl
      case hy_10 => (intro w _; go_simp; try with_reducible rfl)
      try simp only [Act.put, List.setIfInBounds_toArray, List.set_cons_zero, List.set_cons_succ]
      refine anyZ_ready (rs := [6]) (by kernel_rfl) (by simp) ?_
      refine (AllZ.cons (o := ?o_11) ?ho_11 (fun K hK => ?st_11) AllZ.nil)
      case ho_11 => (simp only [List.getElem?_toArray, List.getElem?_cons_succ, List.getElem?_cons_zero]; exact rfl)
      case st_11 =>
        go_simp
        (go_at_call 9; with_reducible refine cP.mono ?_; rintro e W6 ⟨rfl, b6⟩; have y6 := yb.out.drew.below b6 yb.out.drew.lt)
        refine hK.out _ _ (by ((try dsimp only); (first | exact ⟨th', tb'⟩ | exact ⟨th'.below b6 th'.lt, tb'.below b6 tb'.lt⟩ | exact ⟨(th'.below b6 th'.lt).below b7 (th'.below b6 th'.lt).lt, (tb'.below b6 tb'.lt).below b7 (tb'.below b6 tb'.lt).lt⟩))) (fun hHeld => ?_)
        clear hK K
        try simp only [Act.put, List.setIfInBounds_toArray, List.set_cons_zero, List.set_cons_succ]
        refine anyZ_ready (rs := [11]) (by kernel_rfl) (by simp) ?_
        refine (AllZ.cons (o := ?o_12) ?ho_12 (fun K hK => ?st_12) AllZ.nil)
        case ho_12 => (simp only [List.getElem?_toArray, List.getElem?_cons_succ, List.getElem?_cons_zero]; exact rfl)
        case st_12 =>
          go_simp
          (go_at_call 10; with_reducible refine (cR _ y6).mono ?_; rintro e W7 ⟨rfl, b7⟩)
          refine hK.out _ _ (by ((try dsimp only); (first | exact ⟨th', tb'⟩ | exact ⟨th'.below b6 th'.lt, tb'.below b6 tb'.lt⟩ | exact ⟨(th'.below b6 th'.lt).below b7 (th'.below b6 th'.lt).lt, (tb'.below b6 tb'.lt).below b7 (tb'.below b6 tb'.lt).lt⟩))) (fun hHeld => ?_)
          clear hK K
          try simp only [Act.put, List.setIfInBounds_toArray, List.set_cons_zero, List.set_cons_succ]
          refine anyZ_free (i := 12) (oi := ?oi_13) (v := ?v_13) ?hi_13 ?hs_13 ?hf_13 ?hr_13 ?hQ_13 (Or.inl ⟨?hw_13, ?hy_13⟩) ?hrest_13
          case hi_13 => (simp only [List.getElem?_toArray, List.getElem?_cons_succ, List.getElem?_cons_zero]; exact rfl)
          case hs_13 => kernel_rfl
          case hf_13 => kernel_rfl
          case hr_13 => kernel_rfl
          case hQ_13 => exact fun _ _ _ h => h
          case hw_13 => rfl
          case hy_13 => (intro w _; go_simp; try with_reducible rfl)
          try simp only [Act.put, List.setIfInBounds_toArray, List.set_cons_zero, List.set_cons_succ]
          refine anyZ_free (i := 13) (oi := ?oi_14) (v := ?v_14) ?hi_14 ?hs_14 ?hf_14 ?hr_14 ?hQ_14 (Or.inl ⟨?hw_14, ?hy_14⟩) ?hrest_14
          case hi_14 => (simp only [List.getElem?_toArray, List.getElem?_cons_succ, List.getElem?_cons_zero]; exact rfl)
          case hs_14 => kernel_rfl
          case hf_14 => kernel_rfl
          case hr_14 => kernel_rfl
          case hQ_14 => exact fun _ _ _ h => h
          case hw_14 => rfl
          case hy_14 => (intro w _; go_simp; try with_reducible rfl)
          try simp only [Act.put, List.setIfInBounds_toArray, List.set_cons_zero, List.set_cons_succ]
          refine anyZ_free (i := 14) (oi := ?oi_15) (v := ?v_15) ?hi_15 ?hs_15 ?hf_15 ?hr_15 ?hQ_15 (Or.inl ⟨?hw_15, ?hy_15⟩) ?hrest_15
          case hi_15 => (simp only [List.getElem?_toArray, List.getElem?_cons_succ, List.getElem?_cons_zero]; exact rfl)
          case hs_15 => kernel_rfl
          case hf_15 => kernel_rfl
          case hr_15 => kernel_rfl
          case hQ_15 => exact fun _ _ _ h => h
          case hw_15 => rfl
          case hy_15 => (intro w _; go_simp; try with_reducible rfl)
          try simp only [Act.put, List.setIfInBounds_toArray, List.set_cons_zero, List.set_cons_succ]
          refine anyZ_done (by kernel_rfl) ?_ _
          refine NoPanic.normal ?_
          have hB6 : Below N w W6 := below_via b6 hB.drew (by have := th'.lt; omega)
          have hB7 : Below w.heap.size w W7 := by rw [hN.out]; exact below_via b7 hB6 (by have := (th'.below b6 th'.lt).lt; omega)
          clear hHeld cP cR eq
          go_wp2
          go_ret
          exact ⟨rfl, hB7⟩

theorem blakePresses_walk (f0 f1 : Nat → Int) (a2 : Int) (a3 : Bool) (w : World) (w0 : ∀ i, i < 8 → (Lit.int .u32 (f0 i)).wf = true) (w1 : ∀ i, i < 64 → (Lit.int .u8 (f1 i)).wf = true) (w2 : (Lit.int .u64 a2).wf = true) (hT : Tabs w) :
    Calls Tryd.prog 3 #[.agg ((List.range 8).map fun i => Value.int .u32 (f0 i)).toArray, .agg ((List.range 64).map fun i => Value.int .u8 (f1 i)).toArray, .int .u64 a2, .bool a3] w fun e w' => e = .returned (.bool true) ∧ Below w.heap.size w w' := by
  obtain ⟨n, rfl, hn⟩ := word_of w2
  obtain ⟨h, hh, eh⟩ := arr_nat (k := .u32) (n := 8) (B := 4294967296) (by decide) (fun a ha => by have := bounds_u32 ha; omega) f0 w0
  obtain ⟨z, hz, ez⟩ := arr_nat (k := .u8) (n := 64) (B := 256) (by decide) (fun a ha => by have := bounds_u8 ha; omega) f1 w1
  rw [eh, ez]
  exact presses_core h z hh hz n hn a3 w hT
end Go.Proofs.YtllgnclbbakliaaDoor
