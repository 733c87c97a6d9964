/-
  Joined texts: Package cipher, walked: numbers of three words: sums. The library's contracts on package math/bits (and the like), laid at this seat's program: each an application of what the shelf proves over any program. Package cipher, walked: numbers of three words: products. Package cipher, walked: what stands above bit 130 laid upon what stands below; the sum modulo 2^130 - 5. Numbers out of bytes, the lowest first. Package cipher, walked: the sum modulo 2^130 - 5; a piece's number; a step. Package cipher, walked: a step of a mark's sum. A copy of bytes that came in: append onto an empty row. Rows of bytes that grow byte by byte, whatever mark they bear. Package cipher, walked: what summing's two functions work on.
-/
import Derived.Test.YtdaonbfdcpkipaaDoorJ1
import Derived.Deep.DeepCutAuto
import Derived.Laws.Externs
import Derived.Shelf.Bits.Mul64
import Derived.Shelf.Bytes.SlSearch0
import Derived.Shelf.Bytes.Small
import Derived.Test.YtdaonbfdcpkipaaDoorProg
import Derived.Laws.BitsAllLaws
import Derived.Deep.AppendLies
import Derived.Deep.AppendSrc
import Derived.Laws.IdiomStrings

namespace Go.Proofs.YtdaonbfdcpkipaaDoor
open Go.RowKit Go.Proofs
set_option linter.unusedVariables false
set_option linter.unusedSimpArgs false
attribute [local go_sem ↓] Go.wp_at_zero Go.wp_at_succ

theorem add64W (x y c s d : Nat) (hc : c ≤ 1) (hs : (x + y + c) % 18446744073709551616 = s) (hd : (x + y + c) / 18446744073709551616 = d) (w : World) :
    (callFunc 51 #[.int .u64 (x : Nat), .int .u64 (y : Nat), .int .u64 (c : Nat)]).run Tryd.prog w = .ok (.value (.tuple #[.int .u64 (s : Nat), .int .u64 (d : Nat)])) w := by
  rw [run_callFunc_extern Tryd.func51 (by kernel_rfl) (by kernel_rfl) (by kernel_rfl) (e := add64Entry) (by kernel_rfl), run_add64 x y c (by omega) (by omega) (by omega) (by omega)]
  simp only [Result.andThen]
  subst hs hd
  congr 5 <;> omega

/-- The first i words of a sum. -/
def sumWI (x y : Nat → Nat) (i j : Nat) : Nat := if j < i then Ob.sumW x y j else 0
theorem sumWI_zero (x y : Nat → Nat) : sumWI x y 0 = fun _ => 0 := by funext j; simp [sumWI]
theorem sumWI_succ (x y : Nat → Nat) (i : Nat) : Ob.upd (sumWI x y i) i (Ob.sumW x y i) = sumWI x y (i + 1) := by
  funext j
  unfold Ob.upd sumWI
  by_cases h1 : j = i
  · subst h1; simp
  · by_cases h2 : j < i
    · simp [h1, h2, Nat.lt_succ_of_lt h2]
    · simp [h1, h2]; omega

set_option maxHeartbeats 4000000 in
theorem plus_core (x y : Nat → Nat) (hx : ∀ i, x i < 18446744073709551616) (hy : ∀ i, y i < 18446744073709551616) (w : World) :
    Calls Tryd.prog 40 #[arrV .u64 x 3, arrV .u64 y 3] w fun e w' => e = .returned (arrV .u64 (Ob.sumW x y) 3) ∧ Below w.heap.size w w' := by
  unfold arrV
  have hl := arrL_length .u64 x 3
  have hl' := arrL_length .u64 y 3
  have hx' : Hid (∀ i, x i < 18446744073709551616) := hx
  have hy' : Hid (∀ i, y i < 18446744073709551616) := hy
  clear hx hy
  go_enter Tryd.func40, Tryd.ntmps40
  go_upto_region 2 with (fail)
  obtain ⟨W0, hW0⟩ : ∃ W, Hid (((((w.alloc (.cells (arrL .u64 x 3).toArray 63)).alloc (.cells (arrL .u64 y 3).toArray 63)).alloc (.cells (arrL .u64 (fun _ => 0) 3).toArray 63)).alloc (.cells (arrL .u64 (fun _ => 0) 3).toArray 63)) = W) := ⟨_, rfl⟩
  have tx0 : Arr W0 .u64 w.heap.size 3 x := by rw [← hW0.out]; exact (((Arr.new rfl).alloc _).alloc _).alloc _
  have ty0 : Arr W0 .u64 (w.heap.size + 1) 3 y := by rw [← hW0.out]; exact ((Arr.new (by simp)).alloc _).alloc _
  have tr0 : Arr W0 .u64 (w.heap.size + 1 + 1) 3 (fun _ => 0) := by rw [← hW0.out]; exact (Arr.new (by simp)).alloc _
  have ts0 : Arr W0 .u64 (w.heap.size + 1 + 1 + 1) 3 (sumWI x y 0) := by rw [← hW0.out, sumWI_zero]; exact Arr.new (by simp)
  have hB0 : Below w.heap.size w W0 := by rw [← hW0.out]; (repeat' (first | (with_reducible first | exact Below.refl _ _ | assumption | refine Below.alloc ?_ ?_ _ | refine Below.drew ?_ | refine below_drewN ?_ _ | refine Below.setCell ?_ ?_ _ | refine below_via (by with_reducible assumption) ?_ ?_) | omega | (simp only [szs]; omega) | (simp only [szs] at *; omega)))
  change Code.wp _ _ _ _ ((((w.alloc (.cells (arrL .u64 x 3).toArray 63)).alloc (.cells (arrL .u64 y 3).toArray 63)).alloc (.cells (arrL .u64 (fun _ => 0) 3).toArray 63)).alloc (.cells (arrL .u64 (fun _ => 0) 3).toArray 63))
  rw [hW0.out]
  clear hW0
  obtain ⟨N, hN⟩ : ∃ N, Hid (w.heap.size = N) := ⟨_, rfl⟩
  rw [hN.out] at tx0 ty0 tr0 ts0 hB0 ⊢
  go_wp2
  go_loopw [6, 8] (fun s6 s8 wr => ∃ (i : Nat), i ≤ 3 ∧ s8 = .int .i64 (i : Nat) ∧ s6 = .int .u64 (Ob.carW x y i : Nat) ∧ Hid (Arr wr .u64 N 3 x) ∧ Hid (Arr wr .u64 (N + 1) 3 y) ∧ Hid (Arr wr .u64 (N + 1 + 1) 3 (fun _ => 0)) ∧ Hid (Arr wr .u64 (N + 1 + 1 + 1) 3 (sumWI x y i)) ∧ Below N w wr) (fun _ s8 _ => 3 - (intOf s8).toNat)
  case atStart => exact ⟨0, by omega, rfl, rfl, tx0, ty0, tr0, ts0, hB0⟩
  case round =>
    clear tx0 ty0 tr0 ts0 hB0
    obtain ⟨i, hi, rfl, rfl, tx, ty, tr, ts, hB⟩ := hrel
    by_cases hlt : i < 3
    · have q0 := tx.out.drew.c i hlt
      have q1 := ty.out.drew.c i hlt
      have p1 := ts.out.c i hlt
      have p2 := ts.out.f i hlt
      have i0 : (i : Int) < 3 := by omega
      have i1 : (0 : Int) ≤ (i : Int) := by omega
      have q := ts.out.set (i := i) (z := Ob.sumW x y i) hlt
      rw [sumWI_succ] at q
      have hcar : Hid (Ob.carW x y (i + 1) = (x i + y i + Ob.carW x y i) / 18446744073709551616) := rfl
      have hsum : Hid (Ob.sumW x y i = (x i + y i + Ob.carW x y i) % 18446744073709551616) := rfl
      have hc1 : Hid (Ob.carW x y i ≤ 1) := Ob.carW_le hx'.out hy'.out i
      obtain ⟨a, ha⟩ : ∃ a, Hid (x i = a) := ⟨_, rfl⟩
      obtain ⟨b, hb⟩ : ∃ a, Hid (y i = a) := ⟨_, rfl⟩
      obtain ⟨c, hc⟩ : ∃ a, Hid (Ob.carW x y i = a) := ⟨_, rfl⟩
      obtain ⟨d, hd⟩ : ∃ a, Hid (Ob.carW x y (i + 1) = a) := ⟨_, rfl⟩
      obtain ⟨s, hs⟩ : ∃ a, Hid (Ob.sumW x y i = a) := ⟨_, rfl⟩
      rw [ha.out] at q0
      rw [hb.out] at q1
      rw [hs.out] at q
      rw [ha.out, hb.out, hc.out, hd.out] at hcar
      rw [ha.out, hb.out, hc.out, hs.out] at hsum
      rw [hc.out] at hc1 ⊢
      have hadd := add64W a b c s d hc1.out hsum.out.symm hcar.out.symm
      go_upto_region 6 with (fail)
      refine wp_region_noPanic ?_
      refine region_lastly (S := (fun w' => w'.cell? ⟨N, i, none⟩ = some (.int .u64 (a : Nat)) ∧ w'.cell? ⟨N + 1, i, none⟩ = some (.int .u64 (b : Nat)))) [13] (by kernel_rfl) (by ((try dsimp only); (exact ⟨q0, q1⟩))) (fun hHeld => ?_)
      refine anyZ_free (i := 0) (oi := ?oi_1) (v := ?v_1) ?hi_1 ?hs_1 ?hf_1 ?hr_1 ?hQ_1 (Or.inl ⟨?hw_1, ?hy_1⟩) ?hrest_1
      case hi_1 => (simp only [List.getElem?_toArray, List.getElem?_cons_succ, List.getElem?_cons_zero]; exact rfl)
      case hs_1 => kernel_rfl
      case hf_1 => kernel_rfl
      case hr_1 => kernel_rfl
      case hQ_1 => exact fun _ _ _ h => h
      case hw_1 => rfl
      case hy_1 => (intro w _; go_simp; try with_reducible rfl)
      try simp only [Act.put, List.setIfInBounds_toArray, List.set_cons_zero, List.set_cons_succ]
      refine anyZ_free (i := 1) (oi := ?oi_2) (v := ?v_2) ?hi_2 ?hs_2 ?hf_2 ?hr_2 ?hQ_2 (Or.inl ⟨?hw_2, ?hy_2⟩) ?hrest_2
      case hi_2 => (simp only [List.getElem?_toArray, List.getElem?_cons_succ, List.getElem?_cons_zero]; exact rfl)
      case hs_2 => kernel_rfl
      case hf_2 => kernel_rfl
      case hr_2 => kernel_rfl
      case hQ_2 => exact fun _ _ _ h => h
      case hw_2 => rfl
      case hy_2 => (intro w _; go_simp; try with_reducible rfl)
      try simp only [Act.put, List.setIfInBounds_toArray, List.set_cons_zero, List.set_cons_succ]
      refine anyZ_free (i := 2) (oi := ?oi_3) (v := ?v_3) ?hi_3 ?hs_3 ?hf_3 ?hr_3 ?hQ_3 (Or.inl ⟨?hw_3, ?hy_3⟩) ?hrest_3
      case hi_3 => (simp only [List.getElem?_toArray, List.getElem?_cons_succ, List.getElem?_cons_zero]; exact rfl)
      case hs_3 => kernel_rfl
      case hf_3 => kernel_rfl
      case hr_3 => kernel_rfl
      case hQ_3 => exact fun _ _ _ h => h
      case hw_3 => rfl
      case hy_3 => (intro w _; go_simp; try with_reducible rfl)
      try simp only [Act.put, List.setIfInBounds_toArray, List.set_cons_zero, List.set_cons_succ]
      refine anyZ_take (i := 3) (oi := ?oi_4) (v := ?v_4) ?hi_4 ?hz_4 ?hs_4 ?hf_4 ?hr_4 ?hQ_4 (Or.inl ⟨?hw_4, ?hy_4⟩) ?hS_4 ?hrest_4
      case hi_4 => (simp only [List.getElem?_toArray, List.getElem?_cons_succ, List.getElem?_cons_zero]; exact rfl)
      case hz_4 => kernel_rfl
      case hs_4 => kernel_rfl
      case hf_4 => kernel_rfl
      case hr_4 => kernel_rfl
      case hQ_4 => exact fun _ _ _ h => h
      case hw_4 => rfl
      case hS_4 => assumption
      case hy_4 => (intro w hSw; (try dsimp only at hSw); go_simp; try with_reducible rfl)
      try simp only [Act.put, List.setIfInBounds_toArray, List.set_cons_zero, List.set_cons_succ]
      refine anyZ_free (i := 4) (oi := ?oi_5) (v := ?v_5) ?hi_5 ?hs_5 ?hf_5 ?hr_5 ?hQ_5 (Or.inl ⟨?hw_5, ?hy_5⟩) ?hrest_5
      case hi_5 => (simp only [List.getElem?_toArray, List.getElem?_cons_succ, List.getElem?_cons_zero]; exact rfl)
      case hs_5 => kernel_rfl
      case hf_5 => kernel_rfl
      case hr_5 => kernel_rfl
      case hQ_5 => exact fun _ _ _ h => h
      case hw_5 => rfl
      case hy_5 => (intro w _; go_simp; try with_reducible rfl)
      try simp only [Act.put, List.setIfInBounds_toArray, List.set_cons_zero, List.set_cons_succ]
      refine anyZ_free (i := 5) (oi := ?oi_6) (v := ?v_6) ?hi_6 ?hs_6 ?hf_6 ?hr_6 ?hQ_6 (Or.inl ⟨?hw_6, ?hy_6⟩) ?hrest_6
      case hi_6 => (simp only [List.getElem?_toArray, List.getElem?_cons_succ, List.getElem?_cons_zero]; exact rfl)
      case hs_6 => kernel_rfl
      case hf_6 => kernel_rfl
      case hr_6 => kernel_rfl
      case hQ_6 => exact fun _ _ _ h => h
      case hw_6 => rfl
      case hy_6 => (intro w _; go_simp; try with_reducible rfl)
      try simp only [Act.put, List.setIfInBounds_toArray, List.set_cons_zero, List.set_cons_succ]
      refine anyZ_take (i := 6) (oi := ?oi_7) (v := ?v_7) ?hi_7 ?hz_7 ?hs_7 ?hf_7 ?hr_7 ?hQ_7 (Or.inl ⟨?hw_7, ?hy_7⟩) ?hS_7 ?hrest_7
      case hi_7 => (simp only [List.getElem?_toArray, List.getElem?_cons_succ, List.getElem?_cons_zero]; exact rfl)
      case hz_7 => kernel_rfl
      case hs_7 => kernel_rfl
      case hf_7 => kernel_rfl
      case hr_7 => kernel_rfl
      case hQ_7 => exact fun _ _ _ h => h
      case hw_7 => rfl
      case hS_7 => assumption
      case hy_7 => (intro w hSw; (try dsimp only at hSw); go_simp; try with_reducible rfl)
      try simp only [Act.put, List.setIfInBounds_toArray, List.set_cons_zero, List.set_cons_succ]
      refine anyZ_free (i := 7) (oi := ?oi_8) (v := ?v_8) ?hi_8 ?hs_8 ?hf_8 ?hr_8 ?hQ_8 (Or.inl ⟨?hw_8, ?hy_8⟩) ?hrest_8
      case hi_8 => (simp only [List.getElem?_toArray, List.getElem?_cons_succ, List.getElem?_cons_zero]; exact rfl)
      case hs_8 => kernel_rfl
      case hf_8 => kernel_rfl
      case hr_8 => kernel_rfl
      case hQ_8 => exact fun _ _ _ h => h
      case hw_8 => rfl
      case hy_8 => (intro w _; go_simp; try with_reducible rfl)
      try simp only [Act.put, List.setIfInBounds_toArray, List.set_cons_zero, List.set_cons_succ]
      refine anyZ_free (i := 8) (oi := ?oi_9) (v := ?v_9) ?hi_9 ?hs_9 ?hf_9 ?hr_9 ?hQ_9 (Or.inl ⟨?hw_9, ?hy_9⟩) ?hrest_9
      case hi_9 => (simp only [List.getElem?_toArray, List.getElem?_cons_succ, List.getElem?_cons_zero]; exact rfl)
      case hs_9 => kernel_rfl
      case hf_9 => kernel_rfl
      case hr_9 => kernel_rfl
      case hQ_9 => exact fun _ _ _ h => h
      case hw_9 => rfl
      case hy_9 => (intro w _; go_simp; try with_reducible rfl)
      try simp only [Act.put, List.setIfInBounds_toArray, List.set_cons_zero, List.set_cons_succ]
      refine anyZ_free (i := 9) (oi := ?oi_10) (v := ?v_10) ?hi_10 ?hs_10 ?hf_10 ?hr_10 ?hQ_10 (Or.inl ⟨?hw_10, ?hy_10⟩) ?hrest_10
      case hi_10 => (simp only [List.getElem?_toArray, List.getElem?_cons_succ, List.getElem?_cons_zero]; exact rfl)
      case hs_10 => kernel_rfl
      case hf_10 => kernel_rfl
      case hr_10 => kernel_rfl
      case hQ_10 => exact fun _ _ _ h => h
      case hw_10 => rfl
      case hy_10 => (intro w _; go_simp; try with_reducible rfl)
      try simp only [Act.put, List.setIfInBounds_toArray, List.set_cons_zero, List.set_cons_succ]
      refine anyZ_free (i := 10) (oi := ?oi_11) (v := ?v_11) ?hi_11 ?hs_11 ?hf_11 ?hr_11 ?hQ_11 (Or.inl ⟨?hw_11, ?hy_11⟩) ?hrest_11
      case hi_11 => (simp only [List.getElem?_toArray, List.getElem?_cons_succ, List.getElem?_cons_zero]; exact rfl)
      case hs_11 => kernel_rfl
      case hf_11 => kernel_rfl
      case hr_11 => kernel_rfl
      case hQ_11 => exact fun _ _ _ h => h
      case hw_11 => rfl
      case hy_11 => (intro w _; go_simp; try with_reducible rfl)
      try simp only [Act.put, List.setIfInBounds_toArray, List.set_cons_zero, List.set_cons_succ]
      refine anyZ_free (i := 11) (oi := ?oi_12) (v := ?v_12) ?hi_12 ?hs_12 ?hf_12 ?hr_12 ?hQ_12 (Or.inl ⟨?hw_12, ?hy_12⟩) ?hrest_12
      case hi_12 => (simp only [List.getElem?_toArray, List.getElem?_cons_succ, List.getElem?_cons_zero]; exact rfl)
      case hs_12 => kernel_rfl
      case hf_12 => kernel_rfl
      case hr_12 => kernel_rfl
      case hQ_12 => exact fun _ _ _ h => h
      case hw_12 => rfl
      case hy_12 => (intro w _; go_simp; try with_reducible rfl)
      try simp only [Act.put, List.setIfInBounds_toArray, List.set_cons_zero, List.set_cons_succ]
      refine anyZ_free (i := 12) (oi := ?oi_13) (v := ?v_13) ?hi_13 ?hs_13 ?hf_13 ?hr_13 ?hQ_13 (Or.inl ⟨?hw_13, ?hy_13⟩) ?hrest_13
      case hi_13 => (simp only [List.getElem?_toArray, List.getElem?_cons_succ, List.getElem?_cons_zero]; exact rfl)
      case hs_13 => kernel_rfl
      case hf_13 => kernel_rfl
      case hr_13 => kernel_rfl
      case hQ_13 => exact fun _ _ _ h => h
      case hw_13 => rfl
      case hy_13 => (intro w _; go_simp; try with_reducible rfl)
      try simp only [Act.put, List.setIfInBounds_toArray, List.set_cons_zero, List.set_cons_succ]
      refine anyZ_ready (rs := [13]) (by kernel_rfl) (by simp) ?_
      refine (AllZ.last (o := ?o_14) ?ho_14 (by rfl) (fun K hK => ?st_14) AllZ.nil)
      case ho_14 => (simp only [List.getElem?_toArray, List.getElem?_cons_succ, List.getElem?_cons_zero]; exact rfl)
      case st_14 =>
        go_simp
        refine hK.out _ _ ?_
        clear hK K
        try simp only [Act.put, List.setIfInBounds_toArray, List.set_cons_zero, List.set_cons_succ]
        refine anyZ_free (i := 14) (oi := ?oi_15) (v := ?v_15) ?hi_15 ?hs_15 ?hf_15 ?hr_15 ?hQ_15 (Or.inl ⟨?hw_15, ?hy_15⟩) ?hrest_15
        case hi_15 => (simp only [List.getElem?_toArray, List.getElem?_cons_succ, List.getElem?_cons_zero]; exact rfl)
        case hs_15 => kernel_rfl
        case hf_15 => kernel_rfl
        case hr_15 => kernel_rfl
        case hQ_15 => exact fun _ _ _ h => h
        case hw_15 => rfl
        case hy_15 => (intro w _; go_simp; try with_reducible rfl)
        try simp only [Act.put, List.setIfInBounds_toArray, List.set_cons_zero, List.set_cons_succ]
        refine anyZ_done (by kernel_rfl) ?_ _
        refine NoPanic.normal ?_
        have hB1 : Below N w (wr.setCell ⟨N + 1 + 1 + 1, i, none⟩ (.int .u64 (s : Nat))).drew := by (repeat' (first | (with_reducible first | exact Below.refl _ _ | assumption | refine Below.alloc ?_ ?_ _ | refine Below.drew ?_ | refine below_drewN ?_ _ | refine Below.setCell ?_ ?_ _ | refine below_via (by with_reducible assumption) ?_ ?_) | omega | (simp only [szs]; omega) | (simp only [szs] at *; omega)))
        have tx1 : Hid (Arr (wr.setCell ⟨N + 1 + 1 + 1, i, none⟩ (.int .u64 (s : Nat))).drew .u64 N 3 x) := (tx.out.far (by omega) _ _).drew
        have ty1 : Hid (Arr (wr.setCell ⟨N + 1 + 1 + 1, i, none⟩ (.int .u64 (s : Nat))).drew .u64 (N + 1) 3 y) := (ty.out.far (by omega) _ _).drew
        have tr1 : Hid (Arr (wr.setCell ⟨N + 1 + 1 + 1, i, none⟩ (.int .u64 (s : Nat))).drew .u64 (N + 1 + 1) 3 (fun _ => 0)) := (tr.out.far (by omega) _ _).drew
        have ts1 : Hid (Arr (wr.setCell ⟨N + 1 + 1 + 1, i, none⟩ (.int .u64 (s : Nat))).drew .u64 (N + 1 + 1 + 1) 3 (sumWI x y (i + 1))) := q.drew
        clear hHeld q0 q1 p1 p2 q tx ty tr ts hB hadd
        generalize (wr.setCell ⟨N + 1 + 1 + 1, i, none⟩ (.int .u64 (s : Nat))).drew = W5 at *
        go_wp2
        go_roundw
        case rel => exact ⟨i + 1, by omega, by go_num, by rw [hd.out], tx1, ty1, tr1, ts1, hB1⟩
        case measure => (simp only [intOf, Int.toNat_natCast]; omega)
    · obtain rfl : i = 3 := by omega
      have t0 : Arr wr .u64 (N + 1 + 1 + 1) 3 (Ob.sumW x y) := ts.out.congr (fun j hj => by unfold sumWI; rw [if_pos hj])
      go_upto_region 8 with (fail)
      rw [show ((3 : Nat) : Int) = 3 from rfl]
      go_wp2_with (first | ((with_reducible refine wpList_loadLit t0 ?_ Tryd.underlying63 ?_ ?_ ?_); (focus rfl); (focus rfl); (focus kernel_rfl); simp only [Act.put, List.setIfInBounds_toArray, List.set_cons_zero, List.set_cons_succ]) | ((with_reducible refine wpList_storeLit (Ob.sumW x y) tr.out ?_ ?_ ?_ ?_); (focus rfl); (focus rfl); (focus kernel_rfl); intro W5 hW5_ tW5_ zW5_; try simp only [Act.put, List.setIfInBounds_toArray, List.set_cons_zero, List.set_cons_succ]))
      have hB5 : Below w.heap.size w W5 := by rw [hW5_.out, hN.out]; exact below_setCells hB (by omega) _ _
      have rv := tW5_.out.loadVar Tryd.underlying63 rfl (by kernel_rfl)
      exact bodyPost_ret (v := .agg (arrL .u64 (Ob.sumW x y) 3).toArray) (by simp [results, Tryd.results40, asAddr, rv]) rfl ⟨rfl, hB5⟩
end Go.Proofs.YtdaonbfdcpkipaaDoor

namespace Go.Proofs
open Go.Shelf
def Tryd.lays264_ren : Go.Shelf.Ren := ⟨fun | 264 => 54 | n => n, fun | 53 => 59 | 46 => 58 | n => n, fun | n => n⟩
theorem Tryd.lays264 : Go.Proofs.Lays.n264 Tryd.prog Tryd.lays264_ren := {
  mixed := by kernel_rfl
  f264 := Tryd.func54.trans (congrArg some (by kernel_rfl))
  t46 := Tryd.underlying58
  a46 := Tryd.isAgg58
  z46 := Tryd.sizeOf58
  v46 := Tryd.zeroValue58
  t53 := Tryd.underlying59
  a53 := Tryd.isAgg59
  z53 := Tryd.sizeOf59
  v53 := Tryd.zeroValue59 }
open Go.RowKit Go.Lib in
theorem Tryd.bits_Mul64 (x y : Nat) (hx : x < 18446744073709551616) (hy : y < 18446744073709551616) (w : World) :
    Calls Tryd.prog 54 #[.int .u64 x, .int .u64 y] w fun e w' => e = .returned (.tuple #[.int .u64 ((x * y / 18446744073709551616 : Nat) : Int), .int .u64 ((x * y % 18446744073709551616 : Nat) : Int)]) ∧ w' = w := Any.bits_Mul64 Tryd.lays264 x y hx hy w
def Tryd.lays115_ren : Go.Shelf.Ren := ⟨fun | 115 => 31 | n => n, fun | 37 => 22 | 4 => 4 | 9 => 9 | 5 => 5 | n => n, fun | n => n⟩
theorem Tryd.lays115 : Go.Proofs.Lays.n115 Tryd.prog Tryd.lays115_ren := {
  mixed := by kernel_rfl
  f115 := Tryd.func31.trans (congrArg some (by kernel_rfl))
  t4 := Tryd.underlying4
  a4 := Tryd.isAgg4
  z4 := Tryd.sizeOf4
  v4 := Tryd.zeroValue4
  t9 := Tryd.underlying9
  a9 := Tryd.isAgg9
  z9 := Tryd.sizeOf9
  v9 := Tryd.zeroValue9
  t37 := Tryd.underlying22
  a37 := Tryd.isAgg22
  z37 := Tryd.sizeOf22
  v37 := Tryd.zeroValue22 }
open Go.Proofs Go.RowKit Go.Lib in
theorem Tryd.bytes_Equal_strs (v1 v2 : Value) (t1 t2 : ByteArray) (w : World) (h1 : (convert 22 9 v1).run Tryd.prog w = .ok (.string t1) w) (h2 : (convert 22 9 v2).run Tryd.prog w = .ok (.string t2) w) :
    Calls Tryd.prog 31 #[v1, v2] w fun e w' => e = .returned (.bool (t1.toList == t2.toList)) ∧ w' = w := Any.bytes_Equal_strs Tryd.lays115 v1 v2 t1 t2 w h1 h2
theorem Tryd.bytes_Equal (v1 v2 : Value) (xs ys : List Int) (w : World) (h1 : (convert 22 9 v1).run Tryd.prog w = .ok (.string (strOfNums xs)) w) (h2 : (convert 22 9 v2).run Tryd.prog w = .ok (.string (strOfNums ys)) w) :
    Calls Tryd.prog 31 #[v1, v2] w fun e w' => e = .returned (.bool (Lib.bytesOf xs == Lib.bytesOf ys)) ∧ w' = w := Any.bytes_Equal Tryd.lays115 v1 v2 xs ys w h1 h2
end Go.Proofs

namespace Go.Proofs.YtdaonbfdcpkipaaDoor
open Go.RowKit Go.Proofs
set_option linter.unusedVariables false
set_option linter.unusedSimpArgs false
attribute [local go_sem ↓] Go.wp_at_zero Go.wp_at_succ

theorem quiet_same {f : FuncId} {args : Array Value} {w : World} {n : Nat} {v : Value} (h : ∀ w, Calls Tryd.prog f args w fun e w' => e = .returned v ∧ w = w') :
    Calls Tryd.prog f args (w.drewN n) fun e w'' => e = .returned v ∧ ∃ m, w'' = w.drewN m := (h _).mono fun e w' ⟨he, hw⟩ => ⟨he, n, hw.symm⟩
theorem add64Z (x y s d : Nat) (hs : (x + y) % 18446744073709551616 = s) (hd : (x + y) / 18446744073709551616 = d) (w : World) :
    (callFunc 51 #[.int .u64 (x : Nat), .int .u64 (y : Nat), .int .u64 0]).run Tryd.prog w = .ok (.value (.tuple #[.int .u64 (s : Nat), .int .u64 (d : Nat)])) w :=
  add64W x y 0 s d (by decide) hs hd w

set_option maxHeartbeats 8000000 in
set_option maxRecDepth 4000 in
theorem times_core (x r : Nat → Nat) (hx : ∀ i, x i < 18446744073709551616) (hr : ∀ i, r i < 18446744073709551616) (hb : Ob.TFit x r) (w : World) :
    Calls Tryd.prog 49 #[arrV .u64 x 3, arrV .u64 r 2] w fun e w' => ∃ v : Nat → Nat, e = .returned (arrV .u64 v 4) ∧ (∀ i, v i < 18446744073709551616) ∧ Ob.TOut x r v 2 ∧ Below w.heap.size w w' := by
  unfold arrV
  have hl := arrL_length .u64 x 3
  have hl' := arrL_length .u64 r 2
  have hx' : Hid (∀ i, x i < 18446744073709551616) := hx
  have hr' : Hid (∀ i, r i < 18446744073709551616) := hr
  have hb' : Hid (Ob.TFit x r) := hb
  clear hx hr hb
  go_enter Tryd.func49, Tryd.ntmps49
  go_upto_region 2 with (fail)
  obtain ⟨W0, hW0⟩ : ∃ W, Hid (((((w.alloc (.cells (arrL .u64 x 3).toArray 63)).alloc (.cells (arrL .u64 r 2).toArray 61)).alloc (.cells (arrL .u64 (fun _ => 0) 4).toArray 79)).alloc (.cells (arrL .u64 (fun _ => 0) 4).toArray 79)) = W) := ⟨_, rfl⟩
  have tx0 : Arr W0 .u64 w.heap.size 3 x := by rw [← hW0.out]; exact (((Arr.new rfl).alloc _).alloc _).alloc _
  have ty0 : Arr W0 .u64 (w.heap.size + 1) 2 r := by rw [← hW0.out]; exact ((Arr.new (by simp)).alloc _).alloc _
  have tr0 : Arr W0 .u64 (w.heap.size + 1 + 1) 4 (fun _ => 0) := by rw [← hW0.out]; exact (Arr.new (by simp)).alloc _
  have ts0 : Arr W0 .u64 (w.heap.size + 1 + 1 + 1) 4 (fun _ => 0) := by rw [← hW0.out]; exact Arr.new (by simp)
  have hB0 : Below w.heap.size w W0 := by rw [← hW0.out]; (repeat' (first | (with_reducible first | exact Below.refl _ _ | assumption | refine Below.alloc ?_ ?_ _ | refine Below.drew ?_ | refine below_drewN ?_ _ | refine Below.setCell ?_ ?_ _ | refine below_via (by with_reducible assumption) ?_ ?_) | omega | (simp only [szs]; omega) | (simp only [szs] at *; omega)))
  change Code.wp _ _ _ _ ((((w.alloc (.cells (arrL .u64 x 3).toArray 63)).alloc (.cells (arrL .u64 r 2).toArray 61)).alloc (.cells (arrL .u64 (fun _ => 0) 4).toArray 79)).alloc (.cells (arrL .u64 (fun _ => 0) 4).toArray 79))
  rw [hW0.out]
  clear hW0
  obtain ⟨N, hN⟩ : ∃ N, Hid (w.heap.size = N) := ⟨_, rfl⟩
  rw [hN.out] at tx0 ty0 tr0 ts0 hB0 ⊢
  go_wp2
  go_loopw [12] (fun s12 wr => ∃ (j : Nat) (v : Nat → Nat), j ≤ 2 ∧ s12 = .int .i64 (j : Nat) ∧ Hid (Arr wr .u64 N 3 x) ∧ Hid (Arr wr .u64 (N + 1) 2 r) ∧ Hid (Arr wr .u64 (N + 1 + 1) 4 (fun _ => 0)) ∧ Hid (Arr wr .u64 (N + 1 + 1 + 1) 4 v) ∧ Hid (∀ i, v i < 18446744073709551616) ∧ Hid (Ob.TOut x r v j) ∧ Below N w wr) (fun s12 _ => 2 - (intOf s12).toNat)
  case atStart => exact ⟨0, fun _ => 0, by omega, rfl, tx0, ty0, tr0, ts0, fun _ => Nat.zero_lt_succ _, Ob.TOut.zero x r, hB0⟩
  case round =>
    clear tx0 ty0 tr0 ts0 hB0
    obtain ⟨j, v0, hj, rfl, tx, ty, tr, ts, hv, hval, hB⟩ := hrel
    by_cases hlt : j < 2
    · have j0 : (j : Int) < 2 := by omega
      have j1 : (0 : Int) ≤ (j : Int) := by omega
      go_upto_region 6 with (fail)
      go_wp2
      go_loopw [7, 15] (fun s7 s15 wr => ∃ (i ov : Nat) (v : Nat → Nat), i ≤ 3 ∧ s15 = .int .i64 (i : Nat) ∧ s7 = .int .u64 (ov : Nat) ∧ ov < 18446744073709551616 ∧ Hid (Arr wr .u64 N 3 x) ∧ Hid (Arr wr .u64 (N + 1) 2 r) ∧ Hid (Arr wr .u64 (N + 1 + 1) 4 (fun _ => 0)) ∧ Hid (Arr wr .u64 (N + 1 + 1 + 1) 4 v) ∧ Hid (∀ i, v i < 18446744073709551616) ∧ Hid (Ob.TIn x r v0 v i j ov) ∧ Below N w wr) (fun _ s15 _ => 3 - (intOf s15).toNat)
      case atStart => exact ⟨0, 0, v0, by omega, rfl, rfl, by decide, tx, ty, tr, ts, hv, Ob.TIn.zero x r v0 j, hB⟩
      case round =>
        clear tx ty tr ts hv hB
        obtain ⟨i, ov, v, hi, rfl, rfl, hov, tx, ty, tr, ts, hv, hval2, hB⟩ := hrel
        by_cases hlt2 : i < 3
        · have q0 := tx.out.c i hlt2
          have q1 := ty.out.c j hlt
          have i0 : (i : Int) < 3 := by omega
          have i1 : (0 : Int) ≤ (i : Int) := by omega
          have hxl := hx'.out i
          have hrl := hr'.out j
          have hvl := hv.out (i + j)
          have p0 := ts.out.c (i + j) (by omega)
          have p2 := ts.out.f (i + j) (by omega)
          have hstep : Hid (∀ o' ov2 : Nat, ov2 * 18446744073709551616 + o' = x i * r j + ov + v (i + j) → Ob.TIn x r v0 (Ob.upd v (i + j) o') (i + 1) j ov2) := fun o' ov2 h => hval2.out.next (by omega) h
          obtain ⟨k, hk, k0⟩ : ∃ k : Nat, Hid (i + j = k) ∧ IntKind.i64.wrap ((i : Int) + (j : Int)) = (k : Int) := ⟨i + j, rfl, by rw [IntKind.wrap_i64]; omega⟩
          have k1 : (k : Int) < 4 := by have := hk.out; omega
          have k2 : (0 : Int) ≤ (k : Int) := by omega
          have k3 : Hid (k < 4) := by have := hk.out; show _ < _; omega
          rw [hk.out] at p0 p2 hvl hstep
          obtain ⟨a, ha⟩ : ∃ a, Hid (x i = a) := ⟨_, rfl⟩
          obtain ⟨b, hb⟩ : ∃ a, Hid (r j = a) := ⟨_, rfl⟩
          obtain ⟨o, ho⟩ : ∃ a, Hid (v k = a) := ⟨_, rfl⟩
          rw [ha.out] at q0 hxl
          rw [hb.out] at q1 hrl
          rw [ho.out] at p0 hvl
          obtain ⟨hi_, hhi⟩ : ∃ z, Hid (a * b / 18446744073709551616 = z) := ⟨_, rfl⟩
          obtain ⟨lo, hlo⟩ : ∃ z, Hid (a * b % 18446744073709551616 = z) := ⟨_, rfl⟩
          obtain ⟨l1, hl1⟩ : ∃ z, Hid ((lo + ov) % 18446744073709551616 = z) := ⟨_, rfl⟩
          obtain ⟨c1, hc1⟩ : ∃ z, Hid ((lo + ov) / 18446744073709551616 = z) := ⟨_, rfl⟩
          obtain ⟨o', ho'⟩ : ∃ z, Hid ((o + l1) % 18446744073709551616 = z) := ⟨_, rfl⟩
          obtain ⟨c2, hc2⟩ : ∃ z, Hid ((o + l1) / 18446744073709551616 = z) := ⟨_, rfl⟩
          have hsw := Ob.step_words hxl hrl hov hvl hhi.out hlo.out hl1.out hc1.out ho'.out hc2.out
          have hfull : Hid ((hi_ + c1 + c2) * 18446744073709551616 + o' = a * b + ov + o) := hsw.1
          have hfit : hi_ + c1 + c2 < 18446744073709551616 := hsw.2.1
          have ho'l : Hid (o' < 18446744073709551616) := hsw.2.2
          clear hsw
          have cm : ∀ w, Calls Tryd.prog 54 #[.int .u64 a, .int .u64 b] w fun e w' => e = .returned (.tuple #[.int .u64 (hi_ : Nat), .int .u64 (lo : Nat)]) ∧ w = w' := fun w => (Tryd.bits_Mul64 a b hxl hrl w).mono fun e w' ⟨he, hw⟩ => ⟨by rw [he, hhi.out, hlo.out], hw.symm⟩
          have hadd1 := add64Z lo ov l1 c1 hl1.out hc1.out
          have hadd2 := add64Z o l1 o' c2 ho'.out hc2.out
          obtain ⟨ov1, e1, n1⟩ : ∃ z : Nat, Hid (hi_ + c1 = z) ∧ IntKind.u64.wrap ((hi_ : Int) + (c1 : Int)) = (z : Int) := ⟨hi_ + c1, rfl, by rw [IntKind.wrap_u64]; omega⟩
          obtain ⟨ov2, e2, n2⟩ : ∃ z : Nat, Hid (hi_ + c1 + c2 = z) ∧ IntKind.u64.wrap ((ov1 : Int) + (c2 : Int)) = (z : Int) := ⟨hi_ + c1 + c2, rfl, by rw [IntKind.wrap_u64]; have := e1.out; omega⟩
          have hov2 : Hid (ov2 < 18446744073709551616) := by rw [← e2.out]; exact hfit
          have hst : Hid (Ob.TIn x r v0 (Ob.upd v k o') (i + 1) j ov2) := hstep.out o' ov2 (by rw [← e2.out, ha.out, hb.out, ho.out]; exact hfull.out)
          have hv2 : Hid (∀ t, Ob.upd v k o' t < 18446744073709551616) := Ob.upd_words hv.out ho'l.out
          clear hfull hfit ho'l hxl hrl hvl hstep hval2 hov hhi hlo hl1 hc1 ho' hc2 e1 e2
          go_upto_region 9 with (fail)
          go_quiet ((go_at_call 54; exact quiet_same cm))
          have tx1 : Hid (Arr (wr.drewN nq) .u64 N 3 x) := tx.out.drewN nq
          have ty1 : Hid (Arr (wr.drewN nq) .u64 (N + 1) 2 r) := ty.out.drewN nq
          have tr1 : Hid (Arr (wr.drewN nq) .u64 (N + 1 + 1) 4 (fun _ => 0)) := tr.out.drewN nq
          have ts1 : Hid (Arr (wr.drewN nq) .u64 (N + 1 + 1 + 1) 4 v) := ts.out.drewN nq
          have hB1 := below_drewN hB nq
          clear tx ty tr ts hB q0 q1 p0 p2
          generalize wr.drewN nq = W1 at *
          have p1 := ts1.out.c k k3.out
          have p2 := ts1.out.f k k3.out
          rw [ho.out] at p1
          have q := ts1.out.set (i := k) (z := o') k3.out
          go_upto_region 13 with (fail)
          have hB2 : Below N w (W1.setCell ⟨N + 1 + 1 + 1, k, none⟩ (.int .u64 (o' : Nat))) := by (repeat' (first | (with_reducible first | exact Below.refl _ _ | assumption | refine Below.alloc ?_ ?_ _ | refine Below.drew ?_ | refine below_drewN ?_ _ | refine Below.setCell ?_ ?_ _ | refine below_via (by with_reducible assumption) ?_ ?_) | omega | (simp only [szs]; omega) | (simp only [szs] at *; omega)))
          have tx2 : Hid (Arr (W1.setCell ⟨N + 1 + 1 + 1, k, none⟩ (.int .u64 (o' : Nat))) .u64 N 3 x) := tx1.out.far (by omega) _ _
          have ty2 : Hid (Arr (W1.setCell ⟨N + 1 + 1 + 1, k, none⟩ (.int .u64 (o' : Nat))) .u64 (N + 1) 2 r) := (ty1.out.far (by omega) _ _)
          have tr2 : Hid (Arr (W1.setCell ⟨N + 1 + 1 + 1, k, none⟩ (.int .u64 (o' : Nat))) .u64 (N + 1 + 1) 4 (fun _ => 0)) := (tr1.out.far (by omega) _ _)
          have ts2 : Hid (Arr (W1.setCell ⟨N + 1 + 1 + 1, k, none⟩ (.int .u64 (o' : Nat))) .u64 (N + 1 + 1 + 1) 4 (Ob.upd v k o')) := q
          clear p1 p2 q tx1 ty1 tr1 ts1 hB1 hadd1 hadd2 cm
          generalize (W1.setCell ⟨N + 1 + 1 + 1, k, none⟩ (.int .u64 (o' : Nat))) = W5 at *
          go_wp2
          go_roundw
          case rel => exact ⟨i + 1, ov2, Ob.upd v k o', by omega, by go_num, rfl, hov2.out, tx2, ty2, tr2, ts2, hv2, hst, hB2⟩
          case measure => (simp only [intOf, Int.toNat_natCast]; omega)
        · obtain rfl : i = 3 := by omega
          have hval3 : Hid (Ob.TOut x r v (j + 1)) := hval2.out.over hval.out hb'.out hlt
          clear hval hval2
          go_upto_region 15 with (fail)
          rw [show ((3 : Nat) : Int) = 3 from rfl]
          go_wp2
          go_roundw
          case rel => exact ⟨j + 1, v, by omega, by go_num, tx, ty, tr, ts, hv, hval3, hB⟩
          case measure => (simp only [intOf, Int.toNat_natCast]; omega)
    · obtain rfl : j = 2 := by omega
      go_upto_region 16 with (fail)
      rw [show ((2 : Nat) : Int) = 2 from rfl]
      go_wp2_with (first | ((with_reducible refine wpList_loadLit ts.out ?_ Tryd.underlying79 ?_ ?_ ?_); (focus rfl); (focus rfl); (focus kernel_rfl); simp only [Act.put, List.setIfInBounds_toArray, List.set_cons_zero, List.set_cons_succ]) | ((with_reducible refine wpList_storeLit (v0) tr.out ?_ ?_ ?_ ?_); (focus rfl); (focus rfl); (focus kernel_rfl); intro W5 hW5_ tW5_ zW5_; try simp only [Act.put, List.setIfInBounds_toArray, List.set_cons_zero, List.set_cons_succ]))
      have hB5 : Below w.heap.size w W5 := by rw [hW5_.out, hN.out]; exact below_setCells hB (by omega) _ _
      have rv := tW5_.out.loadVar Tryd.underlying79 rfl (by kernel_rfl)
      exact bodyPost_ret (v := .agg (arrL .u64 v0 4).toArray) (by simp [results, Tryd.results49, asAddr, rv]) rfl ⟨v0, rfl, hv.out, hval.out, hB5⟩
end Go.Proofs.YtdaonbfdcpkipaaDoor

namespace Ob
set_option linter.unusedVariables false
set_option linter.unusedSimpArgs false
theorem cube_num : (18446744073709551616 : Nat) ^ 3 = 6277101735386680763835789423207666416102355444464034512896 := by decide
theorem fold_e1 (a b c : Nat) : valB (w3 a b (c % 4)) 3 = a + b * 18446744073709551616 + c % 4 * 340282366920938463463374607431768211456 := by rw [valB3]; rfl
theorem fold_e2 (c d : Nat) : valB (w3 (c - c % 4) d 0) 3 = 4 * ((c + d * 18446744073709551616) / 4) := by
  rw [valB3]
  show c - c % 4 + d * 18446744073709551616 + 0 * 340282366920938463463374607431768211456 = _
  omega
theorem fold_e3 (c d : Nat) : valB (w3 (c / 4 + d % 4 * 4611686018427387904) (d / 4) 0) 3 = (c + d * 18446744073709551616) / 4 := by
  rw [valB3]
  show c / 4 + d % 4 * 4611686018427387904 + d / 4 * 18446744073709551616 + 0 * 340282366920938463463374607431768211456 = _
  omega
theorem fold_rest (L H : Nat) : (L + 5 * H) % PP = (L + H * 1361129467683753853853498429727072845824) % PP := by
  have e : H * 1361129467683753853853498429727072845824 = 5 * H + H * PP := by rw [PP_num]; omega
  rw [e, ← Nat.add_assoc, Nat.add_mul_mod_self_right]
theorem folded_val (v : Nat → Nat) (hv : ∀ i, v i < 18446744073709551616) (hV : valB v 4 < 57896044618658097711785492504343953926634992332820282019728792003956564819968) (f1 f2 f3 : Nat → Nat)
    (h1 : f1 = w3 (v 0) (v 1) (v 2 % 4)) (h2 : f2 = w3 (v 2 - v 2 % 4) (v 3) 0) (h3 : f3 = w3 (v 2 / 4 + v 3 % 4 * 4611686018427387904) (v 3 / 4) 0) :
    valB (sumW f1 (sumW f2 f3)) 3 % PP = valB v 4 % PP ∧ valB (sumW f1 (sumW f2 f3)) 3 < 1701411834604692317316873037158841057280 := by
  have a0 := hv 0
  have a1 := hv 1
  have a2 := hv 2
  have a3 := hv 3
  rw [valB4] at hV
  obtain ⟨hf1, hf2⟩ := fold5 (v 0) (v 1) (v 2) (v 3) _ _ a0 a1 a2 a3 hV rfl rfl
  have e1 := fold_e1 (v 0) (v 1) (v 2)
  have e2 := fold_e2 (v 2) (v 3)
  have e3 := fold_e3 (v 2) (v 3)
  rw [← h1] at e1
  rw [← h2] at e2
  rw [← h3] at e3
  rw [valB4, hf1]
  rw [← e1] at hf2 ⊢
  clear hf1 hV h1 h2 h3 a0 a1 a2 a3 e1
  generalize (v 2 + v 3 * 18446744073709551616) / 4 = H at *
  have s1 : valB (sumW f2 f3) 3 = 5 * H := by rw [sum_fits (by rw [e2, e3, cube_num]; omega), e2, e3]; omega
  have s2 : valB (sumW f1 (sumW f2 f3)) 3 = valB f1 3 + 5 * H := by rw [sum_fits (by rw [s1, cube_num]; omega), s1]
  rw [s2]
  exact ⟨fold_rest _ _, hf2⟩
end Ob
namespace Go.Proofs.YtdaonbfdcpkipaaDoor
open Go.RowKit Go.Proofs
set_option linter.unusedVariables false
set_option linter.unusedSimpArgs false
attribute [local go_sem ↓] Go.wp_at_zero Go.wp_at_succ

theorem Arr.new3 {w : World} {t : TypeId} {a b c : Nat} : Arr (w.alloc (.cells #[.int .u64 (a : Nat), .int .u64 (b : Nat), .int .u64 (c : Nat)] t)) .u64 w.heap.size 3 (Ob.w3 a b c) := Arr.new (k := .u64) (n := 3) (v := Ob.w3 a b c) rfl

theorem Arr.new3z {w : World} {t : TypeId} : Arr (w.alloc (.cells #[.int .u64 0, .int .u64 0, .int .u64 0] t)) .u64 w.heap.size 3 (fun _ => 0) := Arr.new (k := .u64) (n := 3) (v := fun _ => 0) rfl

set_option maxHeartbeats 4000000 in
theorem folded_core (v : Nat → Nat) (hv : ∀ i, v i < 18446744073709551616) (w : World) :
    Calls Tryd.prog 48 #[arrV .u64 v 4] w fun e w' => e = .returned (arrV .u64 (Ob.sumW (Ob.w3 (v 0) (v 1) (v 2 % 4)) (Ob.sumW (Ob.w3 (v 2 - v 2 % 4) (v 3) 0) (Ob.w3 (v 2 / 4 + v 3 % 4 * 4611686018427387904) (v 3 / 4) 0))) 3) ∧ Below w.heap.size w w' := by
  unfold arrV
  have hl := arrL_length .u64 v 4
  have a0 := hv 0
  have a1 := hv 1
  have a2 := hv 2
  have a3 := hv 3
  have b1 : bits .and .u64 ((v 2 : Nat) : Int) 3 = ((v 2 % 4 : Nat) : Int) := by
    have := bits_and_u64_nat (v 2) 3 a2 (by decide)
    rw [Ob.and3] at this
    exact this
  have b2 : bits .andNot .u64 ((v 2 : Nat) : Int) 3 = ((v 2 - v 2 % 4 : Nat) : Int) := by
    have := u64_andNot_nat (v 2) 3 a2 (by decide)
    rw [show 18446744073709551615 - 3 = 18446744073709551612 from rfl, Ob.andNot3 _ a2] at this
    exact this
  have b3 : bits .or .u64 (((v 2 / 4 : Nat)) : Int) ((v 3 * 4611686018427387904 % 18446744073709551616 : Nat) : Int) = ((v 2 / 4 + v 3 % 4 * 4611686018427387904 : Nat) : Int) := by
    have := bits_or_u64_nat (v 2 / 4) (v 3 * 4611686018427387904 % 18446744073709551616) (by omega) (Nat.mod_lt _ (by decide))
    rw [Ob.or62 _ _ a2] at this
    exact this
  have hm4 : v 2 % 4 < 18446744073709551616 := by omega
  have hm5 : v 2 - v 2 % 4 < 18446744073709551616 := by omega
  have hm6 : v 2 / 4 + v 3 % 4 * 4611686018427387904 < 18446744073709551616 := by omega
  have hm7 : v 3 / 4 < 18446744073709551616 := by omega
  have c2 := plus_core (Ob.w3 (v 2 - v 2 % 4) (v 3) 0) (Ob.w3 (v 2 / 4 + v 3 % 4 * 4611686018427387904) (v 3 / 4) 0) (Ob.w3_lt hm5 a3 (by decide)) (Ob.w3_lt hm6 hm7 (by decide))
  have c1 := plus_core (Ob.w3 (v 0) (v 1) (v 2 % 4)) (Ob.sumW (Ob.w3 (v 2 - v 2 % 4) (v 3) 0) (Ob.w3 (v 2 / 4 + v 3 % 4 * 4611686018427387904) (v 3 / 4) 0)) (Ob.w3_lt a0 a1 hm4) (Ob.sumW_lt _ _)
  unfold arrV at c1 c2
  clear hv
  obtain ⟨x0, hx0⟩ : ∃ x, Hid (v 0 = x) := ⟨_, rfl⟩
  obtain ⟨x1, hx1⟩ : ∃ x, Hid (v 1 = x) := ⟨_, rfl⟩
  obtain ⟨x2, hx2⟩ : ∃ x, Hid (v 2 = x) := ⟨_, rfl⟩
  obtain ⟨x3, hx3⟩ : ∃ x, Hid (v 3 = x) := ⟨_, rfl⟩
  rw [hx0.out, hx1.out, hx2.out, hx3.out]
  rw [hx0.out] at a0 c1
  rw [hx1.out] at a1 c1
  rw [hx2.out] at a2 b1 b2 b3 hm4 hm5 hm6 c1 c2
  rw [hx3.out] at a3 b3 hm6 hm7 c1 c2
  obtain ⟨y0, hy0⟩ : ∃ x, Hid (x2 % 4 = x) := ⟨_, rfl⟩
  obtain ⟨y1, hy1⟩ : ∃ x, Hid (x2 - x2 % 4 = x) := ⟨_, rfl⟩
  obtain ⟨y2, hy2, n2⟩ : ∃ x : Nat, Hid (x2 / 4 = x) ∧ (x2 : Int) / 4 = (x : Int) := ⟨x2 / 4, rfl, by omega⟩
  obtain ⟨y3, hy3, n3⟩ : ∃ x : Nat, Hid (x3 * 4611686018427387904 % 18446744073709551616 = x) ∧ IntKind.u64.wrap ((x3 : Int) * 4611686018427387904) = (x : Int) := ⟨x3 * 4611686018427387904 % 18446744073709551616, rfl, by rw [IntKind.wrap_u64]; omega⟩
  obtain ⟨y4, hy4⟩ : ∃ x, Hid (x2 / 4 + x3 % 4 * 4611686018427387904 = x) := ⟨_, rfl⟩
  obtain ⟨y5, hy5, n5⟩ : ∃ x : Nat, Hid (x3 / 4 = x) ∧ (x3 : Int) / 4 = (x : Int) := ⟨x3 / 4, rfl, by omega⟩
  rw [hy1.out, hy4.out, hy5.out] at c1 c2
  rw [hy0.out] at c1 b1
  rw [hy1.out] at b2
  rw [hy4.out, hy2.out, hy3.out] at b3
  rw [hy1.out, hy4.out, hy0.out, hy5.out]
  clear a0 a1 a2 a3 hm4 hm5 hm6 hm7 hy0 hy1 hy2 hy3 hy4 hy5
  obtain ⟨g1, hg1⟩ : ∃ g, Hid (Ob.w3 x0 x1 y0 = g) := ⟨_, rfl⟩
  obtain ⟨g2, hg2⟩ : ∃ g, Hid (Ob.w3 y1 x3 0 = g) := ⟨_, rfl⟩
  obtain ⟨g3, hg3⟩ : ∃ g, Hid (Ob.w3 y4 y5 0 = g) := ⟨_, rfl⟩
  rw [hg1.out, hg2.out, hg3.out]
  rw [hg1.out] at c1
  rw [hg2.out, hg3.out] at c1 c2
  obtain ⟨s1, hs1⟩ : ∃ g, Hid (Ob.sumW g2 g3 = g) := ⟨_, rfl⟩
  obtain ⟨s2, hs2⟩ : ∃ g, Hid (Ob.sumW g1 s1 = g) := ⟨_, rfl⟩
  rw [hs1.out] at c1 c2 ⊢
  rw [hs2.out] at c1 ⊢
  clear hs1 hs2
  go_enter Tryd.func48, Tryd.ntmps48
  go_upto_region 1 with (fail)
  obtain ⟨W0, hW0⟩ : ∃ W, Hid (((w.alloc (.cells (arrL .u64 v 4).toArray 79)).alloc (.cells (arrL .u64 (fun _ => 0) 3).toArray 63)) = W) := ⟨_, rfl⟩
  have tv0 : Arr W0 .u64 w.heap.size 4 v := by rw [← hW0.out]; exact (Arr.new rfl).alloc _
  have tr0 : Arr W0 .u64 (w.heap.size + 1) 3 (fun _ => 0) := by rw [← hW0.out]; exact Arr.new (by simp)
  have hB0 : Below w.heap.size w W0 := by rw [← hW0.out]; (repeat' (first | (with_reducible first | exact Below.refl _ _ | assumption | refine Below.alloc ?_ ?_ _ | refine Below.drew ?_ | refine below_drewN ?_ _ | refine Below.setCell ?_ ?_ _ | refine below_via (by with_reducible assumption) ?_ ?_) | omega | (simp only [szs]; omega) | (simp only [szs] at *; omega)))
  change Code.wp _ _ _ _ ((w.alloc (.cells (arrL .u64 v 4).toArray 79)).alloc (.cells (arrL .u64 (fun _ => 0) 3).toArray 63))
  rw [hW0.out]
  clear hW0
  obtain ⟨N, hN⟩ : ∃ N, Hid (w.heap.size = N) := ⟨_, rfl⟩
  rw [hN.out] at tv0 tr0 hB0 ⊢
  have hcell : Hid (∀ W, Below N w W → Arr W .u64 N 4 v → W.cell? ⟨N, 0, none⟩ = some (.int .u64 (x0 : Nat)) ∧ W.cell? ⟨N, 1, none⟩ = some (.int .u64 (x1 : Nat)) ∧ W.cell? ⟨N, 2, none⟩ = some (.int .u64 (x2 : Nat)) ∧ W.cell? ⟨N, 3, none⟩ = some (.int .u64 (x3 : Nat))) := fun W _ t => ⟨by rw [← hx0.out]; exact t.c 0 (by decide), by rw [← hx1.out]; exact t.c 1 (by decide), by rw [← hx2.out]; exact t.c 2 (by decide), by rw [← hx3.out]; exact t.c 3 (by decide)⟩
  obtain ⟨q0, q1, q2, q3⟩ := hcell.out W0 hB0 tv0
  go_upto_region 2 with (fail)
  have hsz : Hid (∀ W, Below N w W → N ≤ W.heap.size) := fun W h => by have := h.size; have := hN.out; omega
  have tg1 : Arr (W0.alloc (.cells #[.int .u64 (x0 : Nat), .int .u64 (x1 : Nat), .int .u64 (y0 : Nat)] 63)) .u64 W0.heap.size 3 g1 := by rw [← hg1.out]; exact Arr.new3
  have tv1 := tv0.alloc (.cells #[.int .u64 (x0 : Nat), .int .u64 (x1 : Nat), .int .u64 (y0 : Nat)] 63)
  have tr1 := tr0.alloc (.cells #[.int .u64 (x0 : Nat), .int .u64 (x1 : Nat), .int .u64 (y0 : Nat)] 63)
  have hB1 := hB0.alloc (hsz.out _ hB0) (.cells #[.int .u64 (x0 : Nat), .int .u64 (x1 : Nat), .int .u64 (y0 : Nat)] 63)
  have l1 := tr0.lt
  clear q0 q1 q2 q3 hB0 tv0 tr0 b1
  obtain ⟨X1, hX1⟩ : ∃ X, Hid (W0.heap.size = X) := ⟨_, rfl⟩
  rw [hX1.out] at tg1 l1 ⊢
  generalize W0.alloc (.cells #[.int .u64 (x0 : Nat), .int .u64 (x1 : Nat), .int .u64 (y0 : Nat)] 63) = W1 at *
  obtain ⟨q0, q1, q2, q3⟩ := hcell.out W1 hB1 tv1
  go_upto_region 3 with (fail)
  have tg2 : Arr (W1.alloc (.cells #[.int .u64 (y1 : Nat), .int .u64 (x3 : Nat), .int .u64 0] 63)) .u64 W1.heap.size 3 g2 := by rw [← hg2.out]; exact Arr.new3
  have tv2 := tv1.alloc (.cells #[.int .u64 (y1 : Nat), .int .u64 (x3 : Nat), .int .u64 0] 63)
  have tr2 := tr1.alloc (.cells #[.int .u64 (y1 : Nat), .int .u64 (x3 : Nat), .int .u64 0] 63)
  have tg12 := tg1.alloc (.cells #[.int .u64 (y1 : Nat), .int .u64 (x3 : Nat), .int .u64 0] 63)
  have hB2 := hB1.alloc (hsz.out _ hB1) (.cells #[.int .u64 (y1 : Nat), .int .u64 (x3 : Nat), .int .u64 0] 63)
  have l2 := tg1.lt
  clear q0 q1 q2 q3 hB1 tv1 tr1 tg1 b2
  obtain ⟨X2, hX2⟩ : ∃ X, Hid (W1.heap.size = X) := ⟨_, rfl⟩
  rw [hX2.out] at tg2 l2 ⊢
  generalize W1.alloc (.cells #[.int .u64 (y1 : Nat), .int .u64 (x3 : Nat), .int .u64 0] 63) = W2 at *
  obtain ⟨q0, q1, q2, q3⟩ := hcell.out W2 hB2 tv2
  go_upto_region 4 with (fail)
  have tg3 : Arr (W2.alloc (.cells #[.int .u64 (y4 : Nat), .int .u64 (y5 : Nat), .int .u64 0] 63)) .u64 W2.heap.size 3 g3 := by rw [← hg3.out]; exact Arr.new3
  have tr3 := tr2.alloc (.cells #[.int .u64 (y4 : Nat), .int .u64 (y5 : Nat), .int .u64 0] 63)
  have tg13 := tg12.alloc (.cells #[.int .u64 (y4 : Nat), .int .u64 (y5 : Nat), .int .u64 0] 63)
  have tg23 := tg2.alloc (.cells #[.int .u64 (y4 : Nat), .int .u64 (y5 : Nat), .int .u64 0] 63)
  have hB3 := hB2.alloc (hsz.out _ hB2) (.cells #[.int .u64 (y4 : Nat), .int .u64 (y5 : Nat), .int .u64 0] 63)
  have l3 := tg2.lt
  clear q0 q1 q2 q3 hB2 tv2 tr2 tg12 tg2 b3
  obtain ⟨X3, hX3⟩ : ∃ X, Hid (W2.heap.size = X) := ⟨_, rfl⟩
  rw [hX3.out] at tg3 l3 ⊢
  generalize W2.alloc (.cells #[.int .u64 (y4 : Nat), .int .u64 (y5 : Nat), .int .u64 0] 63) = W3 at *
  have hkeep : Hid (∀ W, Below W3.heap.size W3 W → Arr W .u64 X1 3 g1 ∧ Arr W .u64 X2 3 g2 ∧ Arr W .u64 X3 3 g3) := fun W h => ⟨tg13.below h tg13.lt, tg23.below h tg23.lt, tg3.below h tg3.lt⟩
  have tr3' : Hid (Arr W3 .u64 (N + 1) 3 (fun _ => 0)) := tr3
  have hB3' : Hid (Below N w W3) := hB3
  clear tg13 tg23 tg3 tr3 hB3 hcell hl
  refine wp_region_noPanic ?_
  refine region_lastly (S := (fun w' => Arr w' .u64 X1 3 g1 ∧ Arr w' .u64 X2 3 g2 ∧ Arr w' .u64 X3 3 g3)) [5] (by kernel_rfl) (by ((try dsimp only); (exact hkeep.out _ (by (repeat' (first | (with_reducible first | exact Below.refl _ _ | assumption | refine Below.alloc ?_ ?_ _ | refine Below.drew ?_ | refine below_drewN ?_ _ | refine Below.setCell ?_ ?_ _ | refine below_via (by with_reducible assumption) ?_ ?_) | omega | (simp only [szs]; omega) | (simp only [szs] at *; omega))))))) (fun hHeld => ?_)
  refine anyZ_take (i := 0) (oi := ?oi_1) (v := .agg (arrL .u64 g1 3).toArray) ?hi_1 ?hz_1 ?hs_1 ?hf_1 ?hr_1 ?hQ_1 ?hy_1 ?hS_1 ?hrest_1
  case hi_1 => (simp only [List.getElem?_toArray, List.getElem?_cons_succ, List.getElem?_cons_zero]; exact rfl)
  case hz_1 => kernel_rfl
  case hs_1 => kernel_rfl
  case hf_1 => kernel_rfl
  case hr_1 => kernel_rfl
  case hQ_1 => exact fun _ _ _ h => h
  case hS_1 => assumption
  case hy_1 => (refine yieldsArr (k := .u64) (n := 3) (v := g1) ?_ 63 (.tmp 3) ?_ X1 ?_ ?_ Tryd.underlying63 ?_ ?_; (focus rfl); (focus rfl); (focus rfl); (focus exact fun w h => h.1); (focus rfl); kernel_rfl)
  try simp only [Act.put, List.setIfInBounds_toArray, List.set_cons_zero, List.set_cons_succ]
  refine anyZ_take (i := 1) (oi := ?oi_2) (v := .agg (arrL .u64 g2 3).toArray) ?hi_2 ?hz_2 ?hs_2 ?hf_2 ?hr_2 ?hQ_2 ?hy_2 ?hS_2 ?hrest_2
  case hi_2 => (simp only [List.getElem?_toArray, List.getElem?_cons_succ, List.getElem?_cons_zero]; exact rfl)
  case hz_2 => kernel_rfl
  case hs_2 => kernel_rfl
  case hf_2 => kernel_rfl
  case hr_2 => kernel_rfl
  case hQ_2 => exact fun _ _ _ h => h
  case hS_2 => assumption
  case hy_2 => (refine yieldsArr (k := .u64) (n := 3) (v := g2) ?_ 63 (.tmp 4) ?_ X2 ?_ ?_ Tryd.underlying63 ?_ ?_; (focus rfl); (focus rfl); (focus rfl); (focus exact fun w h => h.2.1); (focus rfl); kernel_rfl)
  try simp only [Act.put, List.setIfInBounds_toArray, List.set_cons_zero, List.set_cons_succ]
  refine anyZ_take (i := 2) (oi := ?oi_3) (v := .agg (arrL .u64 g3 3).toArray) ?hi_3 ?hz_3 ?hs_3 ?hf_3 ?hr_3 ?hQ_3 ?hy_3 ?hS_3 ?hrest_3
  case hi_3 => (simp only [List.getElem?_toArray, List.getElem?_cons_succ, List.getElem?_cons_zero]; exact rfl)
  case hz_3 => kernel_rfl
  case hs_3 => kernel_rfl
  case hf_3 => kernel_rfl
  case hr_3 => kernel_rfl
  case hQ_3 => exact fun _ _ _ h => h
  case hS_3 => assumption
  case hy_3 => (refine yieldsArr (k := .u64) (n := 3) (v := g3) ?_ 63 (.tmp 5) ?_ X3 ?_ ?_ Tryd.underlying63 ?_ ?_; (focus rfl); (focus rfl); (focus rfl); (focus exact fun w h => h.2.2); (focus rfl); kernel_rfl)
  try simp only [Act.put, List.setIfInBounds_toArray, List.set_cons_zero, List.set_cons_succ]
  refine anyZ_ready (rs := [3]) (by kernel_rfl) (by simp) ?_
  refine (AllZ.cons (o := ?o_4) ?ho_4 (fun K hK => ?st_4) AllZ.nil)
  case ho_4 => (simp only [List.getElem?_toArray, List.getElem?_cons_succ, List.getElem?_cons_zero]; exact rfl)
  case st_4 =>
    go_simp
    (first | (go_at_call 40; first | (with_reducible refine (c2 _).mono ?_; rintro e w_c2 ⟨rfl, b_c2⟩; have z_c2 := b_c2.size; (try simp only [szs] at z_c2))))
    refine hK.out _ _ (by ((try dsimp only); (exact hkeep.out _ (by (repeat' (first | (with_reducible first | exact Below.refl _ _ | assumption | refine Below.alloc ?_ ?_ _ | refine Below.drew ?_ | refine below_drewN ?_ _ | refine Below.setCell ?_ ?_ _ | refine below_via (by with_reducible assumption) ?_ ?_) | omega | (simp only [szs]; omega) | (simp only [szs] at *; omega))))))) (fun hHeld => ?_)
    clear hK K
    try simp only [Act.put, List.setIfInBounds_toArray, List.set_cons_zero, List.set_cons_succ]
    refine anyZ_ready (rs := [4]) (by kernel_rfl) (by simp) ?_
    refine (AllZ.cons (o := ?o_5) ?ho_5 (fun K hK => ?st_5) AllZ.nil)
    case ho_5 => (simp only [List.getElem?_toArray, List.getElem?_cons_succ, List.getElem?_cons_zero]; exact rfl)
    case st_5 =>
      go_simp
      (first | (go_at_call 40; first | (with_reducible refine (c1 _).mono ?_; rintro e w_c1 ⟨rfl, b_c1⟩; have z_c1 := b_c1.size; (try simp only [szs] at z_c1))))
      refine hK.out _ _ (by ((try dsimp only); (exact hkeep.out _ (by (repeat' (first | (with_reducible first | exact Below.refl _ _ | assumption | refine Below.alloc ?_ ?_ _ | refine Below.drew ?_ | refine below_drewN ?_ _ | refine Below.setCell ?_ ?_ _ | refine below_via (by with_reducible assumption) ?_ ?_) | omega | (simp only [szs]; omega) | (simp only [szs] at *; omega))))))) (fun hHeld => ?_)
      clear hK K
      try simp only [Act.put, List.setIfInBounds_toArray, List.set_cons_zero, List.set_cons_succ]
      refine anyZ_ready (rs := [5]) (by kernel_rfl) (by simp) ?_
      refine (AllZ.last (o := ?o_6) ?ho_6 (by rfl) (fun K hK => ?st_6) AllZ.nil)
      case ho_6 => (simp only [List.getElem?_toArray, List.getElem?_cons_succ, List.getElem?_cons_zero]; exact rfl)
      case st_6 =>
        rw [if_pos (by rfl)]; refine wp_storeArr 63 _ _ rfl (N + 1) rfl s2 rfl ((tr3'.out.drew.below b_c2 tr3'.out.drew.lt).below b_c1 (by have := tr3'.out.lt; omega)) (by kernel_rfl) ?_; intro W7 hWn t7 zWn
        refine hK.out _ _ ?_
        clear hK K
        try simp only [Act.put, List.setIfInBounds_toArray, List.set_cons_zero, List.set_cons_succ]
        refine anyZ_done (by kernel_rfl) ?_ _
        refine NoPanic.normal ?_
        have hB7 : Below w.heap.size w W7 := by
          rw [hWn.out, hN.out]
          refine below_setCells ?_ (by omega) _ _
          have hB3 := hB3'.out
          have := hsz.out _ hB3
          (repeat' (first | (with_reducible first | exact Below.refl _ _ | assumption | refine Below.alloc ?_ ?_ _ | refine Below.drew ?_ | refine below_drewN ?_ _ | refine Below.setCell ?_ ?_ _ | refine below_via (by with_reducible assumption) ?_ ?_) | omega | (simp only [szs]; omega) | (simp only [szs] at *; omega)))
        go_wp2
        have rv := t7.out.loadVar Tryd.underlying63 rfl (by kernel_rfl)
        exact bodyPost_ret (v := .agg (arrL .u64 s2 3).toArray) (by simp [results, Tryd.results48, asAddr, rv]) rfl ⟨rfl, hB7⟩
end Go.Proofs.YtdaonbfdcpkipaaDoor

namespace Go.Proofs.YtdaonbfdcpkipaaDoor
open Go.RowKit Go.Proofs
set_option linter.unusedVariables false
set_option linter.unusedSimpArgs false
attribute [local go_sem ↓] Go.wp_at_zero Go.wp_at_succ

theorem or_low (n x k : Nat) (hn : n < 2 ^ (8 * k)) (hx : x < 256) (hk : k < 8) : bits .or .u64 (n : Int) (IntKind.u64.wrap ((x : Int) * 2 ^ (8 * k))) = ((n + x * 2 ^ (8 * k) : Nat) : Int) := by
  have h8 : 2 ^ (8 * k) * 256 ≤ 2 ^ 64 := by
    have : (2 : Nat) ^ (8 * k + 8) ≤ 2 ^ 64 := Nat.pow_le_pow_right (by decide) (by omega)
    rwa [Nat.pow_add] at this
  have h1 : x * 2 ^ (8 * k) < 2 ^ 64 := by
    have : (x + 1) * 2 ^ (8 * k) ≤ 256 * 2 ^ (8 * k) := Nat.mul_le_mul_right _ hx
    have hp : 0 < 2 ^ (8 * k) := Nat.two_pow_pos _
    rw [Nat.add_mul, Nat.one_mul] at this
    rw [Nat.mul_comm] at h8
    omega
  have h2 : n < 2 ^ 64 := by omega
  have e : IntKind.u64.wrap ((x : Int) * 2 ^ (8 * k)) = ((x * 2 ^ (8 * k) : Nat) : Int) := by
    rw [IntKind.wrap_u64]
    have : (x : Int) * 2 ^ (8 * k) = ((x * 2 ^ (8 * k) : Nat) : Int) := by simp
    rw [this]
    generalize x * 2 ^ (8 * k) = y at *
    omega
  rw [e, bits_or_u64_nat _ _ h2 h1, Nat.mul_comm x, Nat.or_comm, ← Nat.two_pow_add_eq_or_of_lt hn x, Nat.add_comm]

set_option maxHeartbeats 400000 in
theorem lowNumberW (b off L cap : Nat) (hL : L ≤ 8) (z : Nat → Nat) (hz : ∀ i, z i < 256) (w : World) (hB : Bys w b off L z) :
    Calls Tryd.prog 36 #[.slice (some ⟨b, off, none⟩) L cap] w fun e w' => e = .returned (.int .u64 (Ob.lowN z L : Nat)) ∧ w = w' := by
  have hc := hB.at_
  clear hB
  go_enter Tryd.func36, Tryd.ntmps36
  go_wp2
  go_loop [3, 8] (fun sn si => ∃ k : Nat, k ≤ L ∧ si = .int .i64 k ∧ sn = .int .u64 (Ob.lowN z k : Nat)) (fun _ si => L - (intOf si).toNat)
  case atStart => exact ⟨0, by omega, rfl, rfl⟩
  case round =>
    obtain ⟨k, hk, rfl, rfl⟩ := hrel
    by_cases hlt : k < L
    · have hck := hc k hlt
      clear hc
      have hzk := hz k
      have hor := or_low (Ob.lowN z k) (z k) k (Ob.lowN_lt hz k) hzk (by omega)
      have hn : Hid (Ob.lowN z (k + 1) = Ob.lowN z k + z k * 2 ^ (8 * k)) := rfl
      obtain ⟨N', hN'⟩ : ∃ N', Hid (Ob.lowN z (k + 1) = N') := ⟨_, rfl⟩
      rw [← hn.out, hN'.out] at hor
      have i0 : (k : Int) < (L : Int) := by omega
      have i1 : (0 : Int) ≤ (k : Int) := by omega
      have i2 : IntKind.i64.wrap (8 * (k : Int)) = ((8 * k : Nat) : Int) := by rw [IntKind.wrap_i64]; omega
      obtain ⟨s, hs⟩ : ∃ s, Hid (8 * k = s) := ⟨_, rfl⟩
      rw [hs.out] at hor i2
      have i3 : (0 : Int) ≤ (s : Int) := by omega
      generalize Ob.lowN z k = N at hor ⊢
      have hmin : min s 64 = s := by have := hs.out; omega
      generalize z k = zk at hck hzk hor
      clear hz
      go_wp2
      go_round
      case rel => exact ⟨k + 1, by omega, by go_num, by rw [hN'.out]⟩
      case measure => simp [intOf]; omega
    · obtain rfl : k = L := by omega
      clear hc
      go_wp2
      go_ret
      exact ⟨rfl, rfl⟩

theorem lowN_four (z : Nat → Nat) : Ob.lowN z 4 = z 0 + 256 * z 1 + 65536 * z 2 + 16777216 * z 3 := by
  simp only [Ob.lowN]
  omega
end Go.Proofs.YtdaonbfdcpkipaaDoor

namespace Ob
set_option linter.unusedVariables false
set_option linter.unusedSimpArgs false
def w5 : Nat → Nat := w3 5 0 0
theorem w5_lt (i : Nat) : w5 i < 18446744073709551616 := w3_lt (by decide) (by decide) (by decide) i
theorem w5_val : valB w5 3 = 5 := rfl
/-- The sum modulo 2^130 - 5, in its lowest 128 bits. -/
def leastW (x : Nat → Nat) : Nat → Nat := if 3 < sumW x w5 2 then sumW x w5 else x
theorem leastW_lt {x : Nat → Nat} (hx : ∀ i, x i < 18446744073709551616) (i : Nat) : leastW x i < 18446744073709551616 := by
  unfold leastW
  split
  · exact sumW_lt _ _ i
  · exact hx i
theorem least_val {x : Nat → Nat} (hx : ∀ i, x i < 18446744073709551616) (hS : valB x 3 < 1701411834604692317316873037158841057280) : valB (leastW x) 2 % 340282366920938463463374607431768211456 = valB x 3 % PP % 340282366920938463463374607431768211456 := by
  have hs : valB (sumW x w5) 3 = valB x 3 + 5 := by rw [sum_fits (by rw [w5_val, cube_num]; omega), w5_val]
  have e3 : ∀ f : Nat → Nat, valB f 3 = valB f 2 + f 2 * 340282366920938463463374607431768211456 := fun f => by rw [valB3, valB2]
  have hl : ∀ f : Nat → Nat, (∀ i, f i < 18446744073709551616) → valB f 2 < 340282366920938463463374607431768211456 := fun f h => by have := h 0; have := h 1; rw [valB2]; omega
  have h2 := hl _ hx
  have h3 := hl _ (sumW_lt x w5)
  have e4 := e3 x
  have e5 := e3 (sumW x w5)
  unfold leastW
  rw [PP_num]
  split
  · rename_i h
    generalize valB (sumW x w5) 2 = A at *
    generalize sumW x w5 2 = B at *
    rw [hs] at e5
    generalize valB x 3 = S at *
    obtain ⟨k, rfl⟩ : ∃ k, B = 4 + k := ⟨B - 4, by omega⟩
    have e6 : S % 1361129467683753853853498429727072845819 = A + k * 340282366920938463463374607431768211456 := by
      rw [Nat.mod_eq_sub_mod (by omega), Nat.mod_eq_of_lt (by omega)]
      omega
    rw [e6, Nat.add_mul_mod_self_right]
  · rename_i h
    generalize valB (sumW x w5) 2 = A at *
    generalize sumW x w5 2 = B at *
    rw [hs] at e5
    rw [e4] at e5 hS ⊢
    generalize valB x 2 = C at *
    generalize x 2 = D at *
    rw [Nat.mod_eq_of_lt (show C + D * 340282366920938463463374607431768211456 < 1361129467683753853853498429727072845819 by omega), Nat.add_mul_mod_self_right]
end Ob
namespace Go.Proofs.YtdaonbfdcpkipaaDoor
open Go.RowKit Go.Proofs
set_option linter.unusedVariables false
set_option linter.unusedSimpArgs false
attribute [local go_sem ↓] Go.wp_at_zero Go.wp_at_succ

set_option maxHeartbeats 4000000 in
theorem least_core (x : Nat → Nat) (hx : ∀ i, x i < 18446744073709551616) (w : World) :
    Calls Tryd.prog 41 #[arrV .u64 x 3] w fun e w' => e = .returned (arrV .u64 (Ob.leastW x) 3) ∧ Below w.heap.size w w' := by
  unfold arrV
  have hl := arrL_length .u64 x 3
  have c1 := plus_core x Ob.w5 hx Ob.w5_lt
  unfold arrV at c1
  have e5 : Hid ((arrL .u64 Ob.w5 3).toArray = #[.int .u64 5, .int .u64 0, .int .u64 0]) := rfl
  rw [e5.out] at c1
  have hL : Hid (Ob.leastW x = if 3 < Ob.sumW x Ob.w5 2 then Ob.sumW x Ob.w5 else x) := rfl
  obtain ⟨s, hs⟩ : ∃ s, Hid (Ob.sumW x Ob.w5 = s) := ⟨_, rfl⟩
  rw [hs.out] at c1 hL
  clear hs hx
  go_enter Tryd.func41, Tryd.ntmps41
  go_upto_region 1 with (fail)
  obtain ⟨W0, hW0⟩ : ∃ W, Hid (((w.alloc (.cells (arrL .u64 x 3).toArray 63)).alloc (.cells (arrL .u64 (fun _ => 0) 3).toArray 63)) = W) := ⟨_, rfl⟩
  have tv0 : Arr W0 .u64 w.heap.size 3 x := by rw [← hW0.out]; exact (Arr.new rfl).alloc _
  have tr0 : Arr W0 .u64 (w.heap.size + 1) 3 (fun _ => 0) := by rw [← hW0.out]; exact Arr.new (by simp)
  have hB0 : Below w.heap.size w W0 := by rw [← hW0.out]; (repeat' (first | (with_reducible first | exact Below.refl _ _ | assumption | refine Below.alloc ?_ ?_ _ | refine Below.drew ?_ | refine below_drewN ?_ _ | refine Below.setCell ?_ ?_ _ | refine below_via (by with_reducible assumption) ?_ ?_) | omega | (simp only [szs]; omega) | (simp only [szs] at *; omega)))
  change Code.wp _ _ _ _ ((w.alloc (.cells (arrL .u64 x 3).toArray 63)).alloc (.cells (arrL .u64 (fun _ => 0) 3).toArray 63))
  rw [hW0.out]
  clear hW0
  obtain ⟨N, hN⟩ : ∃ N, Hid (w.heap.size = N) := ⟨_, rfl⟩
  rw [hN.out] at tv0 tr0 hB0 ⊢
  have hsz : Hid (∀ W, Below N w W → N ≤ W.heap.size) := fun W h => by have := h.size; have := hN.out; omega
  go_upto_region 2 with (first | ((with_reducible refine wpList_loadLit tv0 ?_ Tryd.underlying63 ?_ ?_ ?_); (focus rfl); (focus rfl); (focus kernel_rfl); simp only [Act.put, List.setIfInBounds_toArray, List.set_cons_zero, List.set_cons_succ]) | (go_at_call 40; with_reducible refine (c1 _).mono ?_; rintro e W1 ⟨rfl, b1⟩) | ((with_reducible refine wpList_storeLit (s) Arr.new3z ?_ ?_ ?_ ?_); (focus rfl); (focus rfl); (focus kernel_rfl); intro W2 hW2_ tW2_ zW2_; try simp only [Act.put, List.setIfInBounds_toArray, List.set_cons_zero, List.set_cons_succ]))
  have hB1 : Below N w W1 := below_via b1 hB0 (hsz.out _ hB0)
  have tv2 : Arr W2 .u64 N 3 x := by rw [hW2_.out]; exact ((tv0.below b1 tv0.lt).alloc _).farCells (by have := tv0.lt; have := b1.size; omega) _ _
  have tr2 : Arr W2 .u64 (N + 1) 3 (fun _ => 0) := by rw [hW2_.out]; exact ((tr0.below b1 tr0.lt).alloc _).farCells (by have := tr0.lt; have := b1.size; omega) _ _
  have hB2 : Below N w W2 := by rw [hW2_.out]; exact below_setCells (hB1.alloc (hsz.out _ hB1) _) (hsz.out _ hB1) _ _
  have ts2 := tW2_.out
  have q2 := ts2.c 2 (by decide)
  clear hW2_ tW2_ zW2_ tv0 tr0 hB0 b1 c1
  by_cases h3 : 3 < s 2
  · have g1 : (3 : Int) < (s 2 : Int) := by omega
    rw [if_pos h3] at hL
    go_wp2_with (first | ((with_reducible refine wpList_loadLit ts2 ?_ Tryd.underlying63 ?_ ?_ ?_); (focus rfl); (focus rfl); (focus kernel_rfl); simp only [Act.put, List.setIfInBounds_toArray, List.set_cons_zero, List.set_cons_succ]) | ((with_reducible refine wpList_storeLit (s) tr2 ?_ ?_ ?_ ?_); (focus rfl); (focus rfl); (focus kernel_rfl); intro W5 hW5_ tW5_ zW5_; try simp only [Act.put, List.setIfInBounds_toArray, List.set_cons_zero, List.set_cons_succ]))
    have hB5 : Below w.heap.size w W5 := by rw [hW5_.out, hN.out]; exact below_setCells hB2 (by omega) _ _
    have rv := tW5_.out.loadVar Tryd.underlying63 rfl (by kernel_rfl)
    exact bodyPost_ret (v := .agg (arrL .u64 s 3).toArray) (by simp [results, Tryd.results41, asAddr, rv]) rfl ⟨by rw [hL.out], hB5⟩
  · have g1 : ¬ (3 : Int) < (s 2 : Int) := by omega
    rw [if_neg h3] at hL
    go_wp2_with (first | ((with_reducible refine wpList_loadLit tv2 ?_ Tryd.underlying63 ?_ ?_ ?_); (focus rfl); (focus rfl); (focus kernel_rfl); simp only [Act.put, List.setIfInBounds_toArray, List.set_cons_zero, List.set_cons_succ]) | ((with_reducible refine wpList_storeLit (x) tr2 ?_ ?_ ?_ ?_); (focus rfl); (focus rfl); (focus kernel_rfl); intro W5 hW5_ tW5_ zW5_; try simp only [Act.put, List.setIfInBounds_toArray, List.set_cons_zero, List.set_cons_succ]))
    have hB5 : Below w.heap.size w W5 := by rw [hW5_.out, hN.out]; exact below_setCells hB2 (by omega) _ _
    have rv := tW5_.out.loadVar Tryd.underlying63 rfl (by kernel_rfl)
    exact bodyPost_ret (v := .agg (arrL .u64 x 3).toArray) (by simp [results, Tryd.results41, asAddr, rv]) rfl ⟨by rw [hL.out], hB5⟩

/-- The number of a piece: its bytes and a 1 behind them. -/
def pcB (z : Nat → Nat) (n j : Nat) : Nat := if j < n then z j else if j = n then 1 else 0
theorem pcB_lt {z : Nat → Nat} (hz : ∀ i, z i < 256) (n j : Nat) : pcB z n j < 256 := by
  unfold pcB
  split
  · exact hz j
  · split <;> decide
def pcW (z : Nat → Nat) (n : Nat) : Nat → Nat := Ob.w3 (Ob.lowN (pcB z n) 8) (Ob.lowN (fun j => pcB z n (8 + j)) 8) (pcB z n 16)
theorem low64 {z : Nat → Nat} (hz : ∀ i, z i < 256) : Ob.lowN z 8 < 18446744073709551616 := Ob.lowN_lt hz 8
theorem pcW_lt {z : Nat → Nat} (hz : ∀ i, z i < 256) (n i : Nat) : pcW z n i < 18446744073709551616 := Ob.w3_lt (low64 (pcB_lt hz n)) (low64 fun j => pcB_lt hz n (8 + j)) (by have := pcB_lt hz n 16; omega) i
theorem valD_pc (z : Nat → Nat) (n : Nat) (hn : n ≤ 16) : Ob.valD (pcB z n) 17 = Ob.valD z n + 256 ^ n := by
  have h := Ob.valD_more (f := pcB z n) (m := n + 1) (16 - n) (fun i hi => by unfold pcB; rw [if_neg (by omega), if_neg (by omega)])
  rw [show n + 1 + (16 - n) = 17 by omega] at h
  rw [h, Ob.valD, Ob.valD_congr (f := pcB z n) (g := z) (fun i hi => by unfold pcB; rw [if_pos hi]), show pcB z n n = 1 by unfold pcB; simp, Nat.one_mul]
theorem pcW_val (z : Nat → Nat) (n : Nat) (hn : n ≤ 16) : Ob.valB (pcW z n) 3 = Ob.valD z n + 256 ^ n := by
  rw [← valD_pc z n hn, Ob.valB3]
  show Ob.lowN (pcB z n) 8 + Ob.lowN (fun j => pcB z n (8 + j)) 8 * 18446744073709551616 + pcB z n 16 * 340282366920938463463374607431768211456 = _
  have e : Ob.valD (pcB z n) 17 = Ob.valD (pcB z n) (8 + 8) + pcB z n 16 * 256 ^ 16 := rfl
  rw [Ob.lowN_valD, Ob.lowN_valD, e, Ob.valD_split (pcB z n) 8 8, show (256 : Nat) ^ 16 = 340282366920938463463374607431768211456 by decide, show (256 : Nat) ^ 8 = 18446744073709551616 by decide, Nat.mul_comm 18446744073709551616]

theorem Arr.new17 {w : World} {t : TypeId} : Arr (w.alloc (.cells #[.int .u8 0, .int .u8 0, .int .u8 0, .int .u8 0, .int .u8 0, .int .u8 0, .int .u8 0, .int .u8 0, .int .u8 0, .int .u8 0, .int .u8 0, .int .u8 0, .int .u8 0, .int .u8 0, .int .u8 0, .int .u8 0, .int .u8 0] t)) .u8 w.heap.size 17 (fun _ => 0) := Arr.new (k := .u8) (n := 17) (v := fun _ => 0) rfl

set_option maxHeartbeats 4000000 in
theorem pieceNumber_core (n c : Nat) (hn : n ≤ 16) (z : Nat → Nat) (hz : ∀ i, z i < 256) (a : Option Addr) (w : World) (hS : Src w a n z) :
    Calls Tryd.prog 50 #[.slice a n c] w fun e w' => e = .returned (arrV .u64 (pcW z n) 3) ∧ Below w.heap.size w w' := by
  unfold arrV
  have hS' : Hid (Src w a n z) := hS
  have hz' : Hid (∀ i, z i < 256) := hz
  clear hS hz
  go_enter Tryd.func50, Tryd.ntmps50
  go_upto_region 2 with (fail)
  obtain ⟨W0, hW0⟩ : ∃ W, Hid (((w.alloc (.cells (arrL .u64 (fun _ => 0) 3).toArray 63)).alloc (.cells (arrL .u8 (fun _ => 0) 17).toArray 85)) = W) := ⟨_, rfl⟩
  have tr0 : Arr W0 .u64 w.heap.size 3 (fun _ => 0) := by rw [← hW0.out]; exact (Arr.new rfl).alloc _
  have tb0 : Arr W0 .u8 (w.heap.size + 1) 17 (fun _ => 0) := by rw [← hW0.out]; exact Arr.new (by simp)
  have hB0 : Below w.heap.size w W0 := by rw [← hW0.out]; (repeat' (first | (with_reducible first | exact Below.refl _ _ | assumption | refine Below.alloc ?_ ?_ _ | refine Below.drew ?_ | refine below_drewN ?_ _ | refine Below.setCell ?_ ?_ _ | refine below_via (by with_reducible assumption) ?_ ?_) | omega | (simp only [szs]; omega) | (simp only [szs] at *; omega)))
  change Code.wp _ _ _ _ ((w.alloc (.cells (arrL .u64 (fun _ => 0) 3).toArray 63)).alloc (.cells (arrL .u8 (fun _ => 0) 17).toArray 85))
  rw [hW0.out]
  clear hW0
  have hS0 : Src W0 a n z := hS'.out.below hB0
  obtain ⟨N, hN⟩ : ∃ N, Hid (w.heap.size = N) := ⟨_, rfl⟩
  rw [hN.out] at tr0 tb0 hB0 ⊢
  obtain ⟨W4, h4, hW4, tb4, z4⟩ := tb0.copyBys hS0 17 c 3 (T := n) (by omega)
  have hB4 : Below N w W4 := by rw [hW4.out]; exact below_setCells hB0 (by omega) _ _
  have tr4 : Arr W4 .u64 N 3 (fun _ => 0) := by rw [hW4.out]; exact tr0.farCells (by omega) _ _
  have n0 : (n : Int) < 17 := by omega
  have n1 : (0 : Int) ≤ (n : Int) := by omega
  have p0 := tb4.out.c n (by omega)
  have p1 := tb4.out.f n (by omega)
  have tb5 := tb4.out.set (i := n) (z := 1) (by omega)
  have tb6 : Arr (W4.setCell ⟨N + 1, n, none⟩ (.int .u8 1)) .u8 (N + 1) 17 (pcB z n) := tb5.congr fun j hj => by
    unfold Ob.upd pcB
    by_cases h1 : j = n
    · subst h1; simp
    · simp [h1]
  clear hW4 z4 tb0 tr0 hB0 hS0
  go_upto_region 3 with (fail)
  have tr6 : Arr (W4.setCell ⟨N + 1, n, none⟩ (.int .u8 1)) .u64 N 3 (fun _ => 0) := tr4.far (by omega) _ _
  have hB6 : Below N w (W4.setCell ⟨N + 1, n, none⟩ (.int .u8 1)) := by (repeat' (first | (with_reducible first | exact Below.refl _ _ | assumption | refine Below.alloc ?_ ?_ _ | refine Below.drew ?_ | refine below_drewN ?_ _ | refine Below.setCell ?_ ?_ _ | refine below_via (by with_reducible assumption) ?_ ?_) | omega | (simp only [szs]; omega) | (simp only [szs] at *; omega)))
  clear h4 tb4 tb5 hB4 tr4 p0 p1
  generalize W4.setCell ⟨N + 1, n, none⟩ (.int .u8 1) = W6 at *
  have tb7 := tb6.drew
  have y1 : Bys W6.drew (N + 1) 0 8 (pcB z n) := ⟨tb7.lt, fun j hj => by rw [Nat.zero_add]; exact tb7.c j (by omega)⟩
  have y2 : Bys W6.drew (N + 1) 8 8 (fun j => pcB z n (8 + j)) := ⟨tb7.lt, fun j hj => tb7.c (8 + j) (by omega)⟩
  have c1 := fun cp => lowNumberW (N + 1) 0 8 cp (by decide) _ (pcB_lt hz'.out n) W6.drew y1
  have c2 := fun cp => lowNumberW (N + 1) 8 8 cp (by decide) _ (fun j => pcB_lt hz'.out n (8 + j)) W6.drew y2
  have hfin : Hid ((arrL .u64 (pcW z n) 3).toArray = #[.int .u64 (Ob.lowN (pcB z n) 8 : Nat), .int .u64 (Ob.lowN (fun j => pcB z n (8 + j)) 8 : Nat), .int .u64 (pcB z n 16 : Nat)]) := rfl
  have p16 := tb7.c 16 (by decide)
  have hl16 : pcB z n 16 < 256 := pcB_lt hz'.out n 16
  obtain ⟨A, hA⟩ : ∃ A, Hid (Ob.lowN (pcB z n) 8 = A) := ⟨_, rfl⟩
  obtain ⟨B, hBB⟩ : ∃ A, Hid (Ob.lowN (fun j => pcB z n (8 + j)) 8 = A) := ⟨_, rfl⟩
  obtain ⟨C, hC⟩ : ∃ A, Hid (pcB z n 16 = A) := ⟨_, rfl⟩
  rw [hA.out] at c1
  rw [hBB.out] at c2
  rw [hC.out] at p16 hl16
  rw [hA.out, hBB.out, hC.out] at hfin
  have w16 : IntKind.u64.wrap (C : Int) = (C : Int) := by rw [IntKind.wrap_u64]; omega
  have tr6' : Hid (Arr W6 .u64 N 3 (fun _ => 0)) := tr6
  clear y1 y2 tb6 tb7 tr6
  refine wp_region_noPanic ?_
  refine region_lastly (S := (fun w' => w'.cell? ⟨N + 1, 16, none⟩ = some (.int .u8 (C : Nat)))) [8] (by kernel_rfl) (by ((try dsimp only); (exact p16))) (fun hHeld => ?_)
  refine anyZ_free (i := 0) (oi := ?oi_1) (v := ?v_1) ?hi_1 ?hs_1 ?hf_1 ?hr_1 ?hQ_1 (Or.inl ⟨?hw_1, ?hy_1⟩) ?hrest_1
  case hi_1 => (simp only [List.getElem?_toArray, List.getElem?_cons_succ, List.getElem?_cons_zero]; exact rfl)
  case hs_1 => kernel_rfl
  case hf_1 => kernel_rfl
  case hr_1 => kernel_rfl
  case hQ_1 => exact fun _ _ _ h => h
  case hw_1 => rfl
  case hy_1 => (intro w _; go_simp; try with_reducible rfl)
  try simp only [Act.put, List.setIfInBounds_toArray, List.set_cons_zero, List.set_cons_succ]
  refine anyZ_free (i := 2) (oi := ?oi_2) (v := ?v_2) ?hi_2 ?hs_2 ?hf_2 ?hr_2 ?hQ_2 (Or.inl ⟨?hw_2, ?hy_2⟩) ?hrest_2
  case hi_2 => (simp only [List.getElem?_toArray, List.getElem?_cons_succ, List.getElem?_cons_zero]; exact rfl)
  case hs_2 => kernel_rfl
  case hf_2 => kernel_rfl
  case hr_2 => kernel_rfl
  case hQ_2 => exact fun _ _ _ h => h
  case hw_2 => rfl
  case hy_2 => (intro w _; go_simp; try with_reducible rfl)
  try simp only [Act.put, List.setIfInBounds_toArray, List.set_cons_zero, List.set_cons_succ]
  refine anyZ_free (i := 4) (oi := ?oi_3) (v := ?v_3) ?hi_3 ?hs_3 ?hf_3 ?hr_3 ?hQ_3 (Or.inl ⟨?hw_3, ?hy_3⟩) ?hrest_3
  case hi_3 => (simp only [List.getElem?_toArray, List.getElem?_cons_succ, List.getElem?_cons_zero]; exact rfl)
  case hs_3 => kernel_rfl
  case hf_3 => kernel_rfl
  case hr_3 => kernel_rfl
  case hQ_3 => exact fun _ _ _ h => h
  case hw_3 => rfl
  case hy_3 => (intro w _; go_simp; try with_reducible rfl)
  try simp only [Act.put, List.setIfInBounds_toArray, List.set_cons_zero, List.set_cons_succ]
  refine anyZ_take (i := 5) (oi := ?oi_4) (v := ?v_4) ?hi_4 ?hz_4 ?hs_4 ?hf_4 ?hr_4 ?hQ_4 (Or.inl ⟨?hw_4, ?hy_4⟩) ?hS_4 ?hrest_4
  case hi_4 => (simp only [List.getElem?_toArray, List.getElem?_cons_succ, List.getElem?_cons_zero]; exact rfl)
  case hz_4 => kernel_rfl
  case hs_4 => kernel_rfl
  case hf_4 => kernel_rfl
  case hr_4 => kernel_rfl
  case hQ_4 => exact fun _ _ _ h => h
  case hw_4 => rfl
  case hS_4 => assumption
  case hy_4 => (intro w hSw; (try dsimp only at hSw); go_simp; try with_reducible rfl)
  try simp only [Act.put, List.setIfInBounds_toArray, List.set_cons_zero, List.set_cons_succ]
  refine anyZ_free (i := 6) (oi := ?oi_5) (v := ?v_5) ?hi_5 ?hs_5 ?hf_5 ?hr_5 ?hQ_5 (Or.inl ⟨?hw_5, ?hy_5⟩) ?hrest_5
  case hi_5 => (simp only [List.getElem?_toArray, List.getElem?_cons_succ, List.getElem?_cons_zero]; exact rfl)
  case hs_5 => kernel_rfl
  case hf_5 => kernel_rfl
  case hr_5 => kernel_rfl
  case hQ_5 => exact fun _ _ _ h => h
  case hw_5 => rfl
  case hy_5 => (intro w _; go_simp; try with_reducible rfl)
  try simp only [Act.put, List.setIfInBounds_toArray, List.set_cons_zero, List.set_cons_succ]
  refine anyZ_ready (rs := [1]) (by kernel_rfl) (by simp) ?_
  refine (AllZ.cons (o := ?o_6) ?ho_6 (fun K hK => ?st_6) AllZ.nil)
  case ho_6 => (simp only [List.getElem?_toArray, List.getElem?_cons_succ, List.getElem?_cons_zero]; exact rfl)
  case st_6 =>
    go_simp
    (go_at_call 36; with_reducible refine (c1 _).mono ?_; rintro e w' ⟨rfl, rfl⟩)
    refine hK.out _ _ (by ((try dsimp only); (exact p16))) (fun hHeld => ?_)
    clear hK K
    try simp only [Act.put, List.setIfInBounds_toArray, List.set_cons_zero, List.set_cons_succ]
    refine anyZ_ready (rs := [3]) (by kernel_rfl) (by simp) ?_
    refine (AllZ.cons (o := ?o_7) ?ho_7 (fun K hK => ?st_7) AllZ.nil)
    case ho_7 => (simp only [List.getElem?_toArray, List.getElem?_cons_succ, List.getElem?_cons_zero]; exact rfl)
    case st_7 =>
      go_simp
      (go_at_call 36; with_reducible refine (c2 _).mono ?_; rintro e w' ⟨rfl, rfl⟩)
      refine hK.out _ _ (by ((try dsimp only); (exact p16))) (fun hHeld => ?_)
      clear hK K
      try simp only [Act.put, List.setIfInBounds_toArray, List.set_cons_zero, List.set_cons_succ]
      refine anyZ_free (i := 7) (oi := ?oi_8) (v := ?v_8) ?hi_8 ?hs_8 ?hf_8 ?hr_8 ?hQ_8 (Or.inl ⟨?hw_8, ?hy_8⟩) ?hrest_8
      case hi_8 => (simp only [List.getElem?_toArray, List.getElem?_cons_succ, List.getElem?_cons_zero]; exact rfl)
      case hs_8 => kernel_rfl
      case hf_8 => kernel_rfl
      case hr_8 => kernel_rfl
      case hQ_8 => exact fun _ _ _ h => h
      case hw_8 => rfl
      case hy_8 => (intro w _; go_simp; try with_reducible rfl)
      try simp only [Act.put, List.setIfInBounds_toArray, List.set_cons_zero, List.set_cons_succ]
      refine anyZ_ready (rs := [8]) (by kernel_rfl) (by simp) ?_
      refine (AllZ.last (o := ?o_9) ?ho_9 (by rfl) (fun K hK => ?st_9) AllZ.nil)
      case ho_9 => (simp only [List.getElem?_toArray, List.getElem?_cons_succ, List.getElem?_cons_zero]; exact rfl)
      case st_9 =>
        rw [if_pos (by rfl)]; refine wp_storeArr 63 _ _ rfl N rfl (pcW z n) (by rw [hfin.out]; rfl) tr6'.out.drew (by kernel_rfl) ?_; intro W7 hWn t7 zWn
        refine hK.out _ _ ?_
        clear hK K
        try simp only [Act.put, List.setIfInBounds_toArray, List.set_cons_zero, List.set_cons_succ]
        refine anyZ_done (by kernel_rfl) ?_ _
        refine NoPanic.normal ?_
        have hB7 : Below w.heap.size w W7 := by
          rw [hWn.out, hN.out]
          exact below_setCells hB6.drew (by omega) _ _
        go_wp2
        have rv := t7.out.loadVar Tryd.underlying63 rfl (by kernel_rfl)
        exact bodyPost_ret (v := .agg (arrL .u64 (pcW z n) 3).toArray) (by simp [results, Tryd.results50, asAddr, rv]) rfl ⟨rfl, hB7⟩
end Go.Proofs.YtdaonbfdcpkipaaDoor

namespace Ob
set_option linter.unusedVariables false
set_option linter.unusedSimpArgs false
/-- A sum of three words that is kept low. -/
def SumOk (s : Nat → Nat) (V : Nat) : Prop := (∀ i, s i < 18446744073709551616) ∧ valB s 3 < 1701411834604692317316873037158841057280 ∧ valB s 3 % PP = V
/-- The two words of r. -/
def ROk (r : Nat → Nat) (R : Nat) : Prop := (∀ i, r i < 1152921504606846976) ∧ valB r 2 = R
theorem step_fit {x r : Nat → Nat} {P : Nat} (hx : valB x 3 = P) (hP : P < 2381976568446569244243622252022377480192) (hr : ∀ i, r i < 1152921504606846976) : TFit x r := by
  have r0 := hr 0
  have r1 := hr 1
  have e1 : valB r 1 = r 0 := by simp [valB]
  have e2 : valB r 2 = r 0 + r 1 * 18446744073709551616 := valB2 r
  intro j hj
  rw [hx]
  rcases (show j = 0 ∨ j = 1 by omega) with rfl | rfl
  · rw [e1]
    exact Nat.lt_of_le_of_lt (Nat.mul_le_mul (Nat.le_of_lt hP) (Nat.le_of_lt r0)) (by decide)
  · rw [e2]
    exact Nat.lt_of_le_of_lt (Nat.mul_le_mul (Nat.le_of_lt hP) (show r 0 + r 1 * 18446744073709551616 ≤ 21267647932558653966460912964485513216 by omega)) (by decide)
theorem step_small {r : Nat → Nat} {P : Nat} (hP : P < 2381976568446569244243622252022377480192) (hr : ∀ i, r i < 1152921504606846976) : P * valB r 2 < 57896044618658097711785492504343953926634992332820282019728792003956564819968 := by
  have r0 := hr 0
  have r1 := hr 1
  rw [valB2]
  exact Nat.lt_of_le_of_lt (Nat.mul_le_mul (Nat.le_of_lt hP) (show r 0 + r 1 * 18446744073709551616 ≤ 21267647932558653966460912964485513216 by omega)) (by decide)
theorem piece_small {z : Nat → Nat} (hz : ∀ i, z i < 256) {n : Nat} (hn : n ≤ 16) : valD z n + 256 ^ n < 680564733841876926926749214863536422912 := by
  have h1 := valD_lt (f := z) (n := n) (fun i _ => hz i)
  have h2 : (256 : Nat) ^ n ≤ 256 ^ 16 := Nat.pow_le_pow_right (by decide) hn
  rw [show (256 : Nat) ^ 16 = 340282366920938463463374607431768211456 by decide] at h2
  omega
theorem mul_mod_left' (a b r m : Nat) (h : a % m = b % m) : a * r % m = b * r % m := by rw [Nat.mul_mod, h, ← Nat.mul_mod]
end Ob
namespace Go.Proofs.YtdaonbfdcpkipaaDoor
open Go.RowKit Go.Proofs
set_option linter.unusedVariables false
set_option linter.unusedSimpArgs false
attribute [local go_sem ↓] Go.wp_at_zero Go.wp_at_succ

set_option maxHeartbeats 4000000 in
theorem stepped_core (x r : Nat → Nat) (V R n c : Nat) (hx : Ob.SumOk x V) (hr : Ob.ROk r R) (hn : n ≤ 16) (z : Nat → Nat) (hz : ∀ i, z i < 256) (a : Option Addr) (w : World) (hS : Src w a n z) :
    Calls Tryd.prog 38 #[arrV .u64 x 3, .slice a n c, arrV .u64 r 2] w fun e w' => ∃ s, e = .returned (arrV .u64 s 3) ∧ Ob.SumOk s ((V + (Ob.valD z n + 256 ^ n)) * R % Ob.PP) ∧ Below w.heap.size w w' := by
  have hps := Ob.piece_small hz hn
  have hpv := pcW_val z n hn
  have hs1 : Ob.valB (Ob.sumW x (pcW z n)) 3 = Ob.valB x 3 + (Ob.valD z n + 256 ^ n) := by rw [← hpv]; exact Ob.sum_fits (by have := hx.2.1; rw [hpv, Ob.cube_num]; omega)
  have hP : Ob.valB x 3 + (Ob.valD z n + 256 ^ n) < 2381976568446569244243622252022377480192 := by have := hx.2.1; omega
  have hfit := Ob.step_fit hs1 hP hr.1
  have hbig := Ob.step_small hP hr.1
  have hmod : Hid (∀ v : Nat → Nat, Ob.TOut (Ob.sumW x (pcW z n)) r v 2 → Ob.valB v 4 < 57896044618658097711785492504343953926634992332820282019728792003956564819968 ∧ Ob.valB v 4 % Ob.PP = (V + (Ob.valD z n + 256 ^ n)) * R % Ob.PP) := fun v hv => by
    unfold Ob.TOut at hv
    rw [hv, hs1]
    refine ⟨hbig, ?_⟩
    rw [hr.2]
    exact Ob.mul_mod_left' _ _ _ _ (by rw [← hx.2.2, Nat.mod_add_mod])
  have c2 := pieceNumber_core n c hn z hz a
  have c3 := plus_core x (pcW z n) hx.1 (pcW_lt hz n)
  have c5 := times_core (Ob.sumW x (pcW z n)) r (Ob.sumW_lt _ _) (fun i => Nat.lt_trans (hr.1 i) (by decide)) hfit
  have c6 := fun (v : Nat → Nat) (hv : ∀ i, v i < 18446744073709551616) => folded_core v hv
  obtain ⟨p, hp⟩ : ∃ p, Hid (pcW z n = p) := ⟨_, rfl⟩
  rw [hp.out] at c2 c3 c5 hmod
  obtain ⟨q, hq⟩ : ∃ q, Hid (Ob.sumW x p = q) := ⟨_, rfl⟩
  rw [hq.out] at c3 c5 hmod
  unfold arrV at c2 c3 c5 c6 ⊢
  obtain ⟨U, hU⟩ : ∃ U, Hid ((V + (Ob.valD z n + 256 ^ n)) * R % Ob.PP = U) := ⟨_, rfl⟩
  rw [hU.out] at hmod ⊢
  have hl := arrL_length .u64 x 3
  have hl' := arrL_length .u64 r 2
  have hS' : Hid (Src w a n z) := hS
  clear hps hpv hs1 hP hfit hbig hx hr hz hp hq hU hS
  go_enter Tryd.func38, Tryd.ntmps38
  go_upto_region 1 with (fail)
  obtain ⟨W0, hW0⟩ : ∃ W, Hid ((((w.alloc (.cells (arrL .u64 x 3).toArray 63)).alloc (.cells (arrL .u64 r 2).toArray 61)).alloc (.cells (arrL .u64 (fun _ => 0) 3).toArray 63)) = W) := ⟨_, rfl⟩
  have tx0 : Arr W0 .u64 w.heap.size 3 x := by rw [← hW0.out]; exact ((Arr.new rfl).alloc _).alloc _
  have ty0 : Arr W0 .u64 (w.heap.size + 1) 2 r := by rw [← hW0.out]; exact (Arr.new (by simp)).alloc _
  have tr0 : Arr W0 .u64 (w.heap.size + 1 + 1) 3 (fun _ => 0) := by rw [← hW0.out]; exact Arr.new (by simp)
  have hB0 : Below w.heap.size w W0 := by rw [← hW0.out]; (repeat' (first | (with_reducible first | exact Below.refl _ _ | assumption | refine Below.alloc ?_ ?_ _ | refine Below.drew ?_ | refine below_drewN ?_ _ | refine Below.setCell ?_ ?_ _ | refine below_via (by with_reducible assumption) ?_ ?_) | omega | (simp only [szs]; omega) | (simp only [szs] at *; omega)))
  change Code.wp _ _ _ _ (((w.alloc (.cells (arrL .u64 x 3).toArray 63)).alloc (.cells (arrL .u64 r 2).toArray 61)).alloc (.cells (arrL .u64 (fun _ => 0) 3).toArray 63))
  rw [hW0.out]
  clear hW0
  have c2' := c2 W0.drew (hS'.out.below hB0.drew)
  obtain ⟨N, hN⟩ : ∃ N, Hid (w.heap.size = N) := ⟨_, rfl⟩
  rw [hN.out] at tx0 ty0 tr0 hB0 ⊢
  have hkeep : Hid (∀ W, Below W0.heap.size W0 W → Arr W .u64 N 3 x ∧ Arr W .u64 (N + 1) 2 r) := fun W h => ⟨tx0.below h tx0.lt, ty0.below h ty0.lt⟩
  have tr0' : Hid (Arr W0 .u64 (N + 1 + 1) 3 (fun _ => 0)) := tr0
  have hB0' : Hid (Below N w W0) := hB0
  have hl0 := tr0.lt
  clear c2 tx0 ty0 tr0 hB0 hl hl'
  refine wp_region_noPanic ?_
  refine region_lastly (S := (fun w' => Arr w' .u64 N 3 x ∧ Arr w' .u64 (N + 1) 2 r)) [7] (by kernel_rfl) (by ((try dsimp only); (exact hkeep.out _ (by (repeat' (first | (with_reducible first | exact Below.refl _ _ | assumption | refine Below.alloc ?_ ?_ _ | refine Below.drew ?_ | refine below_drewN ?_ _ | refine Below.setCell ?_ ?_ _ | refine below_via (by with_reducible assumption) ?_ ?_) | omega | (simp only [szs]; omega) | (simp only [szs] at *; omega))))))) (fun hHeld => ?_)
  refine anyZ_take (i := 0) (oi := ?oi_1) (v := .agg (arrL .u64 x 3).toArray) ?hi_1 ?hz_1 ?hs_1 ?hf_1 ?hr_1 ?hQ_1 ?hy_1 ?hS_1 ?hrest_1
  case hi_1 => (simp only [List.getElem?_toArray, List.getElem?_cons_succ, List.getElem?_cons_zero]; exact rfl)
  case hz_1 => kernel_rfl
  case hs_1 => kernel_rfl
  case hf_1 => kernel_rfl
  case hr_1 => kernel_rfl
  case hQ_1 => exact fun _ _ _ h => h
  case hS_1 => assumption
  case hy_1 => (refine yieldsArr (k := .u64) (n := 3) (v := x) ?_ 63 (.tmp 3) ?_ N ?_ ?_ Tryd.underlying63 ?_ ?_; (focus rfl); (focus rfl); (focus rfl); (focus exact fun w h => h.1); (focus rfl); kernel_rfl)
  try simp only [Act.put, List.setIfInBounds_toArray, List.set_cons_zero, List.set_cons_succ]
  refine anyZ_free (i := 1) (oi := ?oi_2) (v := ?v_2) ?hi_2 ?hs_2 ?hf_2 ?hr_2 ?hQ_2 (Or.inl ⟨?hw_2, ?hy_2⟩) ?hrest_2
  case hi_2 => (simp only [List.getElem?_toArray, List.getElem?_cons_succ, List.getElem?_cons_zero]; exact rfl)
  case hs_2 => kernel_rfl
  case hf_2 => kernel_rfl
  case hr_2 => kernel_rfl
  case hQ_2 => exact fun _ _ _ h => h
  case hw_2 => rfl
  case hy_2 => (intro w _; go_simp; try with_reducible rfl)
  try simp only [Act.put, List.setIfInBounds_toArray, List.set_cons_zero, List.set_cons_succ]
  refine anyZ_take (i := 4) (oi := ?oi_3) (v := .agg (arrL .u64 r 2).toArray) ?hi_3 ?hz_3 ?hs_3 ?hf_3 ?hr_3 ?hQ_3 ?hy_3 ?hS_3 ?hrest_3
  case hi_3 => (simp only [List.getElem?_toArray, List.getElem?_cons_succ, List.getElem?_cons_zero]; exact rfl)
  case hz_3 => kernel_rfl
  case hs_3 => kernel_rfl
  case hf_3 => kernel_rfl
  case hr_3 => kernel_rfl
  case hQ_3 => exact fun _ _ _ h => h
  case hS_3 => assumption
  case hy_3 => (refine yieldsArr (k := .u64) (n := 2) (v := r) ?_ 61 (.tmp 5) ?_ (N + 1) ?_ ?_ Tryd.underlying61 ?_ ?_; (focus rfl); (focus rfl); (focus rfl); (focus exact fun w h => h.2); (focus rfl); kernel_rfl)
  try simp only [Act.put, List.setIfInBounds_toArray, List.set_cons_zero, List.set_cons_succ]
  refine anyZ_ready (rs := [2]) (by kernel_rfl) (by simp) ?_
  refine (AllZ.cons (o := ?o_4) ?ho_4 (fun K hK => ?st_4) AllZ.nil)
  case ho_4 => (simp only [List.getElem?_toArray, List.getElem?_cons_succ, List.getElem?_cons_zero]; exact rfl)
  case st_4 =>
    go_simp
    (go_at_call 50; with_reducible refine c2'.mono ?_; rintro e w_c2 ⟨rfl, b_c2⟩; have z_c2 := b_c2.size; (try simp only [szs] at z_c2))
    refine hK.out _ _ (by ((try dsimp only); (exact hkeep.out _ (by (repeat' (first | (with_reducible first | exact Below.refl _ _ | assumption | refine Below.alloc ?_ ?_ _ | refine Below.drew ?_ | refine below_drewN ?_ _ | refine Below.setCell ?_ ?_ _ | refine below_via (by with_reducible assumption) ?_ ?_) | omega | (simp only [szs]; omega) | (simp only [szs] at *; omega))))))) (fun hHeld => ?_)
    clear hK K
    try simp only [Act.put, List.setIfInBounds_toArray, List.set_cons_zero, List.set_cons_succ]
    refine anyZ_ready (rs := [3]) (by kernel_rfl) (by simp) ?_
    refine (AllZ.cons (o := ?o_5) ?ho_5 (fun K hK => ?st_5) AllZ.nil)
    case ho_5 => (simp only [List.getElem?_toArray, List.getElem?_cons_succ, List.getElem?_cons_zero]; exact rfl)
    case st_5 =>
      go_simp
      (first | (go_at_call 40; first | (with_reducible refine (c3 _).mono ?_; rintro e w_c3 ⟨rfl, b_c3⟩; have z_c3 := b_c3.size; (try simp only [szs] at z_c3))))
      refine hK.out _ _ (by ((try dsimp only); (exact hkeep.out _ (by (repeat' (first | (with_reducible first | exact Below.refl _ _ | assumption | refine Below.alloc ?_ ?_ _ | refine Below.drew ?_ | refine below_drewN ?_ _ | refine Below.setCell ?_ ?_ _ | refine below_via (by with_reducible assumption) ?_ ?_) | omega | (simp only [szs]; omega) | (simp only [szs] at *; omega))))))) (fun hHeld => ?_)
      clear hK K
      try simp only [Act.put, List.setIfInBounds_toArray, List.set_cons_zero, List.set_cons_succ]
      refine anyZ_ready (rs := [5]) (by kernel_rfl) (by simp) ?_
      refine (AllZ.cons (o := ?o_6) ?ho_6 (fun K hK => ?st_6) AllZ.nil)
      case ho_6 => (simp only [List.getElem?_toArray, List.getElem?_cons_succ, List.getElem?_cons_zero]; exact rfl)
      case st_6 =>
        go_simp
        (go_at_call 49; with_reducible refine (c5 _).mono ?_; rintro e w_c5 ⟨v, rfl, hv, hval, b_c5⟩; have z_c5 := b_c5.size; (try simp only [szs] at z_c5))
        refine hK.out _ _ (by ((try dsimp only); (exact hkeep.out _ (by (repeat' (first | (with_reducible first | exact Below.refl _ _ | assumption | refine Below.alloc ?_ ?_ _ | refine Below.drew ?_ | refine below_drewN ?_ _ | refine Below.setCell ?_ ?_ _ | refine below_via (by with_reducible assumption) ?_ ?_) | omega | (simp only [szs]; omega) | (simp only [szs] at *; omega))))))) (fun hHeld => ?_)
        clear hK K
        try simp only [Act.put, List.setIfInBounds_toArray, List.set_cons_zero, List.set_cons_succ]
        refine anyZ_ready (rs := [6]) (by kernel_rfl) (by simp) ?_
        refine (AllZ.cons (o := ?o_7) ?ho_7 (fun K hK => ?st_7) AllZ.nil)
        case ho_7 => (simp only [List.getElem?_toArray, List.getElem?_cons_succ, List.getElem?_cons_zero]; exact rfl)
        case st_7 =>
          go_simp
          (go_at_call 48; with_reducible refine (c6 v hv _).mono ?_; rintro e w_c6 ⟨rfl, b_c6⟩; have z_c6 := b_c6.size; (try simp only [szs] at z_c6))
          refine hK.out _ _ (by ((try dsimp only); (exact hkeep.out _ (by (repeat' (first | (with_reducible first | exact Below.refl _ _ | assumption | refine Below.alloc ?_ ?_ _ | refine Below.drew ?_ | refine below_drewN ?_ _ | refine Below.setCell ?_ ?_ _ | refine below_via (by with_reducible assumption) ?_ ?_) | omega | (simp only [szs]; omega) | (simp only [szs] at *; omega))))))) (fun hHeld => ?_)
          clear hK K
          try simp only [Act.put, List.setIfInBounds_toArray, List.set_cons_zero, List.set_cons_succ]
          refine anyZ_ready (rs := [7]) (by kernel_rfl) (by simp) ?_
          refine (AllZ.last (o := ?o_8) ?ho_8 (by rfl) (fun K hK => ?st_8) AllZ.nil)
          case ho_8 => (simp only [List.getElem?_toArray, List.getElem?_cons_succ, List.getElem?_cons_zero]; exact rfl)
          case st_8 =>
            rw [if_pos (by rfl)]; refine wp_storeArr 63 _ _ rfl (N + 1 + 1) rfl (Ob.sumW (Ob.w3 (v 0) (v 1) (v 2 % 4)) (Ob.sumW (Ob.w3 (v 2 - v 2 % 4) (v 3) 0) (Ob.w3 (v 2 / 4 + v 3 % 4 * 4611686018427387904) (v 3 / 4) 0))) rfl (tr0'.out.below (B := W0.heap.size) (by (repeat' (first | (with_reducible first | exact Below.refl _ _ | assumption | refine Below.alloc ?_ ?_ _ | refine Below.drew ?_ | refine below_drewN ?_ _ | refine Below.setCell ?_ ?_ _ | refine below_via (by with_reducible assumption) ?_ ?_) | omega | (simp only [szs]; omega) | (simp only [szs] at *; omega)))) hl0) (by kernel_rfl) ?_; intro W7 hWn t7 zWn
            refine hK.out _ _ ?_
            clear hK K
            try simp only [Act.put, List.setIfInBounds_toArray, List.set_cons_zero, List.set_cons_succ]
            refine anyZ_done (by kernel_rfl) ?_ _
            refine NoPanic.normal ?_
            have hB7 : Below w.heap.size w W7 := by
              rw [hWn.out, hN.out]
              refine below_setCells ?_ (by omega) _ _
              have hB0 := hB0'.out
              (repeat' (first | (with_reducible first | exact Below.refl _ _ | assumption | refine Below.alloc ?_ ?_ _ | refine Below.drew ?_ | refine below_drewN ?_ _ | refine Below.setCell ?_ ?_ _ | refine below_via (by with_reducible assumption) ?_ ?_) | omega | (simp only [szs]; omega) | (simp only [szs] at *; omega)))
            have hfv := Ob.folded_val v hv (hmod.out v hval).1 _ _ _ rfl rfl rfl
            have hfin : Hid (Ob.SumOk (Ob.sumW (Ob.w3 (v 0) (v 1) (v 2 % 4)) (Ob.sumW (Ob.w3 (v 2 - v 2 % 4) (v 3) 0) (Ob.w3 (v 2 / 4 + v 3 % 4 * 4611686018427387904) (v 3 / 4) 0))) U) := ⟨Ob.sumW_lt _ _, hfv.2, hfv.1.trans (hmod.out v hval).2⟩
            generalize Ob.sumW (Ob.w3 (v 0) (v 1) (v 2 % 4)) (Ob.sumW (Ob.w3 (v 2 - v 2 % 4) (v 3) 0) (Ob.w3 (v 2 / 4 + v 3 % 4 * 4611686018427387904) (v 3 / 4) 0)) = s at *
            clear hfv hval hv
            go_wp2
            have rv := t7.out.loadVar Tryd.underlying63 rfl (by kernel_rfl)
            exact bodyPost_ret (v := .agg (arrL .u64 s 3).toArray) (by simp [results, Tryd.results38, asAddr, rv]) rfl ⟨s, rfl, hfin.out, hB7⟩
end Go.Proofs.YtdaonbfdcpkipaaDoor

namespace Go.Proofs.YtdaonbfdcpkipaaDoor
open Go.RowKit Go.Proofs
set_option linter.unusedVariables false
set_option linter.unusedSimpArgs false

theorem wpList_copyB {ops : Array Oper} {rest : List Oper} {o : Oper} {a : Act} {w : World} {Q : Exit → Act → World → Prop} (hgd : o.guard = none) (s x : Operand)
    (ho : o.op = .call { callee := .builtin .append, args := #[s, x], argTypes := #[22, 22] }) (base b0 : Nat) (hs : a.eval s = .slice (some ⟨b0, 0, none⟩) 0 0)
    (hown0 : w.ownsRow base 5 1 (.slice (some ⟨b0, 0, none⟩) 0 0) 0 []) (hbase : base ≤ w.heap.size) (ad : Option Addr) (n c : Nat) (z : Nat → Nat) (hx : a.eval x = .slice ad n c) (hS : Src w ad n z) (hn : n ≤ 1000000)
    (h : ∀ g cap w', w'.ownsRow base 5 1 (.slice (some ⟨g, 0, none⟩) n cap) n (vals z n) → Below base w w' → wpList Tryd.prog ops Q rest (a.put o.dst (.slice (some ⟨g, 0, none⟩) n cap)) w') : wpList Tryd.prog ops Q (o :: rest) a w := by
  obtain ⟨i0, hi, hz1, hz2, hz0⟩ := byteInfo
  by_cases h0 : n = 0
  · subst h0
    have src : Go.Src Tryd.prog i0.size 22 (.slice ad 0 c) 0 [] w := by
      cases ad with
      | none => exact Go.Src.ofNil w Tryd.underlying22 c
      | some a => exact Go.Src.ofSlice w Tryd.underlying22 a 0 c [] (by simp) (fun j u h => by simp at h) (fun u h => by cases h)
    have hr := run_append_room_src w 22 22 o.type 5 i0 Tryd.underlying22 hi b0 0 0 0 (.slice ad 0 c) 0 [] src (by omega) (fun j h => by simp at h) (fun j h => by simp at h)
    refine wpList_plain hgd fun K hK => ?_
    unfold Oper.wp execOp
    simp only [ho, resolve, invoke, builtin, Sem.run_bind, Sem.run_pure, Result.andThen_ok, List.map_toArray, List.map_cons, List.map_nil, hs, hx, hr]
    exact hK _ _ (h b0 0 w hown0 (Below.refl _ _))
  · rcases hS with h1 | ⟨b, off, rfl, hB⟩
    · exact absurd h1 h0
    refine wpList_append_lies _ hgd s x 22 ho base 5 i0 _ 1 1 Tryd.underlying22 hi hz0 hz1 hz2 rfl (by decide) _ 0 [] hs hown0 ⟨b, off, none⟩ n c (vals z n) hx (by simp [vals]) (bys_news hB) (vals_one z n) (by omega) (by unfold maxLen; omega) (by omega) hbase w.heap.size rfl ?_
    intro g cap w' hown hg _ _
    rw [Nat.zero_add, List.nil_append] at hown
    rw [Nat.zero_add]
    exact h g cap w' hown ((Below.refl base w).grown hg hbase (fun k hk => (hown0.lt k hk).1))
end Go.Proofs.YtdaonbfdcpkipaaDoor

namespace Go.Proofs.YtdaonbfdcpkipaaDoor
open Go.RowKit Go.Proofs
set_option linter.unusedVariables false
set_option linter.unusedSimpArgs false

/-- A row of the call's own: its first len cells are the bytes z, the others up to cap may be written. -/
structure PRow (w : World) (base g len cap : Nat) (z : Nat → Nat) : Prop where
  lb : base ≤ g
  lt : g < w.heap.size
  le : len ≤ cap
  c : ∀ j, j < len → w.cell? ⟨g, j, none⟩ = some (.int .u8 (z j : Nat))
  room : ∀ j, len ≤ j → j < cap → (w.cell? ⟨g, j, none⟩).isSome = true ∧ w.frozen? ⟨g, j, none⟩ = false
theorem PRow.below {w w1 : World} {B base g len cap : Nat} {z : Nat → Nat} (t : PRow w base g len cap z) (hb : Below B w w1) (h : g < B) : PRow w1 base g len cap z :=
  ⟨t.lb, Nat.lt_of_lt_of_le t.lt hb.size, t.le, fun j hj => by rw [(bcell hb).1 g j h]; exact t.c j hj, fun j h1 h2 => by rw [(bcell hb).1 g j h, (bcell hb).2 g j h]; exact t.room j h1 h2⟩
theorem PRow.bys {w : World} {base g len cap : Nat} {z : Nat → Nat} (t : PRow w base g len cap z) : Bys w g 0 len z := ⟨t.lt, fun i hi => by rw [Nat.zero_add]; exact t.c i hi⟩
theorem PRow.of_row {w : World} {base n cap g : Nat} {z : Nat → Nat} (h : w.ownsRow base 5 1 (.slice (some ⟨g, 0, none⟩) n cap) n (vals z n)) : PRow w base g n cap z := by
  have hb := bys_of_row h
  have hf := free_of_row h
  refine ⟨(h.lt g rfl).1, hb.lt, (cap_of_row h).1, fun j hj => by have := hb.at_ j hj; rwa [Nat.zero_add] at this, fun j h1 h2 => ⟨?_, hf j⟩⟩
  rcases h.2 with ⟨h0, _⟩ | ⟨g', cap', cur, hv, _, hg, _, _, hs, _⟩
  · cases h0
  · cases hv
    have : w.cell? ⟨g, j, none⟩ = cur[j]? := by simp [World.cell?, hg]
    rw [this, Array.getElem?_eq_getElem (by omega)]
    rfl

/-- A string's bytes. -/
theorem prow_str (w : World) (s : ByteArray) : ∃ cap w', (convert 9 22 (.string s)).run Tryd.prog w = .ok (.slice (some ⟨w.heap.size, 0, none⟩) s.size cap) w' ∧ PRow w' w.heap.size w.heap.size s.size cap (sby s) ∧ Below w.heap.size w w' := by
  have h := run_bytes_of_string (P := Tryd.prog) w 9 22 5 s Tryd.underlying9 Tryd.underlying22 Tryd.underlying5
  have hge := grownCap_ge w s.size 0 5
  generalize grownCap w s.size 0 5 = cap at h hge
  refine ⟨cap, _, h, ⟨Nat.le_refl _, by simp, hge, fun j hj => ?_, fun j h1 h2 => ?_⟩, ((Below.refl w.heap.size w).drew).alloc (by simp) _⟩
  · have hc : (w.drew.alloc (.cells (bytesRow s cap) 5 ((bytesRow s cap).size, (bytesRow s cap).size + 1))).cell? ⟨w.heap.size, j, none⟩ = (bytesRow s cap)[j]? := by
      have hs : w.drew.heap.size = w.heap.size := World.size_drew w
      simp only [World.cell?, World.alloc]
      rw [← hs, Array.getElem?_push_size]
      rfl
    rw [hc]
    have hj' : j < s.data.size := hj
    unfold bytesRow sby
    rw [Array.getElem?_append_left (by simpa using hj'), Array.getElem?_map, ← Array.getElem?_toList, List.getElem?_eq_getElem (by simpa using hj')]
    rfl
  · have hc : (w.drew.alloc (.cells (bytesRow s cap) 5 ((bytesRow s cap).size, (bytesRow s cap).size + 1))).cell? ⟨w.heap.size, j, none⟩ = (bytesRow s cap)[j]? := by
      have hs : w.drew.heap.size = w.heap.size := World.size_drew w
      simp only [World.cell?, World.alloc]
      rw [← hs, Array.getElem?_push_size]
      rfl
    have hsz : (bytesRow s cap).size = cap := by
      have : s.data.size = s.size := rfl
      unfold bytesRow
      rw [Array.size_append, Array.size_map, Array.size_replicate]
      omega
    refine ⟨by rw [hc, Array.getElem?_eq_getElem (by omega)]; rfl, ?_⟩
    have hs : w.drew.heap.size = w.heap.size := World.size_drew w
    simp only [World.frozen?, World.alloc]
    rw [← hs, Array.getElem?_push_size]
    simp [hsz]
    omega
theorem nextcap_one (n : Nat) (hn : n ≤ 1000000) : Builtin.nextslicecap (n + 1) n * 1 ≤ 281474976710656 := growslice_fits (by omega) (by omega)
/-- One byte more. -/
theorem prow_append {w : World} {base g len cap : Nat} {z : Nat → Nat} (t : PRow w base g len cap z) (hbase : base ≤ w.heap.size) (hn : len ≤ 1000000) (b1 c1 x : Nat) (hx : w.cell? ⟨b1, 0, none⟩ = some (.int .u8 (x : Nat))) (ty : TypeId) :
    ∃ g' cap' w', (Builtin.append_ #[22, 22] ty #[.slice (some ⟨g, 0, none⟩) len cap, .slice (some ⟨b1, 0, none⟩) 1 c1]).run Tryd.prog w = .ok (.slice (some ⟨g', 0, none⟩) (len + 1) cap') w' ∧ PRow w' base g' (len + 1) cap' (Ob.upd z len x) ∧ Below base w w' := by
  obtain ⟨i0, hi, hz1, hz2, hz0⟩ := byteInfo
  have src : Go.Src Tryd.prog i0.size 22 (.slice (some ⟨b1, 0, none⟩) 1 c1) 1 [.int .u8 (x : Nat)] w :=
    Go.Src.ofSlice w Tryd.underlying22 _ 1 c1 _ (by rw [hz1]; rfl) (fun j u h => by
      cases j with
      | zero => simp at h; subst h; rw [Addr.add_mid]; exact hx
      | succ j => simp at h) (fun u hu => by simp at hu; subst hu; rfl)
  by_cases hc : len < cap
  · have h := run_append_room_src w 22 22 ty 5 i0 Tryd.underlying22 hi g 0 len cap _ 1 _ src (by omega)
      (fun j hj => by
        have : j = 0 := by simp at hj; omega
        subst this
        rw [hz1, Nat.zero_add, Nat.mul_one, Nat.add_zero]
        exact (t.room len (Nat.le_refl _) hc).1)
      (fun j hj => by
        have : j = 0 := by simp at hj; omega
        subst this
        rw [hz1, Nat.zero_add, Nat.mul_one, Nat.add_zero]
        exact (t.room len (Nat.le_refl _) hc).2)
    rw [hz1, Nat.zero_add, Nat.mul_one] at h
    refine ⟨g, cap, _, h, ⟨t.lb, by simp [World.setCells, t.lt], by omega, fun j hj => ?_, fun j h1 h2 => ?_⟩, ?_⟩
    · by_cases e : j = len
      · subst e
        rw [Ob.upd_same]
        obtain ⟨u, hu⟩ := Option.isSome_iff_exists.1 (t.room j (Nat.le_refl _) hc).1
        exact World.cell?_setCell_same _ _ _ hu
      · rw [Ob.upd_ne _ _ e]
        show (w.setCell ⟨g, len, none⟩ _).cell? _ = _
        rw [World.cell?_setCell_other _ _ _ _ (by first | (simp; done) | (simp; omega))]
        exact t.c j (by omega)
    · show ((w.setCell ⟨g, len, none⟩ _).cell? _).isSome = true ∧ (w.setCell ⟨g, len, none⟩ _).frozen? _ = false
      rw [World.cell?_setCell_other _ _ _ _ (by first | (simp; done) | (simp; omega)), World.frozen?_setCell]
      exact t.room j (by omega) h2
    · exact (Below.refl base w).setCell t.lb _
  · have e : cap = len := by have := t.le; omega
    subst e
    have hold := run_firstCells_some (P := Tryd.prog) w.drew i0.size cap ⟨g, 0, none⟩ cap cap (vals z cap) (by rw [hz1]; simp [vals]) (fun j u h => by
      have := bys_news t.bys j u h
      exact this)
    have h := run_append_grow_src w 22 22 ty 5 i0 _ Tryd.underlying22 hi hz0 (some ⟨g, 0, none⟩) cap cap (vals z cap) hold _ 1 _ src (by omega) (by omega) (by rw [hz2]; exact nextcap_one cap hn)
    have hge := grownCap_ge w (cap + 1) cap 5
    generalize grownCap w (cap + 1) cap 5 = C at h hge
    have hsz : ((vals z cap ++ [Value.int .u8 (x : Nat)]).toArray ++ Builtin.zeroCells (Value.int IntKind.u8 0).cells (C - (cap + 1))).size = C := by
      rw [Array.size_append, size_zeroCells]
      simp [vals, Value.cells]
      omega
    have hcell : ∀ j, (w.drew.alloc (.cells ((vals z cap ++ [Value.int .u8 (x : Nat)]).toArray ++ Builtin.zeroCells (Value.int IntKind.u8 0).cells (C - (cap + 1))) 5)).cell? ⟨w.heap.size, j, none⟩ = ((vals z cap ++ [Value.int .u8 (x : Nat)]).toArray ++ Builtin.zeroCells (Value.int IntKind.u8 0).cells (C - (cap + 1)))[j]? := fun j =>
      World.cell?_alloc_at _ _ _ _ (by simp)
    refine ⟨w.heap.size, C, _, h, ⟨hbase, by simp, hge, fun j hj => ?_, fun j h1 h2 => ?_⟩, ((Below.refl base w).drew).alloc (by simpa using hbase) _⟩
    · rw [hcell, Array.getElem?_append_left (by simp [vals]; omega), List.getElem?_toArray]
      by_cases e : j = cap
      · subst e
        rw [Ob.upd_same, List.getElem?_append_right (by simp [vals])]
        simp [vals]
      · rw [Ob.upd_ne _ _ e, List.getElem?_append_left (by simp [vals]; omega)]
        exact vals_get z cap j (by omega)
    · refine ⟨by rw [hcell, Array.getElem?_eq_getElem (by omega)]; rfl, ?_⟩
      exact World.frozen?_alloc_at _ _ _ _ (by simp)
theorem wpList_prow {ops : Array Oper} {rest : List Oper} {o : Oper} {a : Act} {w : World} {Q : Exit → Act → World → Prop} (hgd : o.guard = none) (s x : Operand)
    (ho : o.op = .call { callee := .builtin .append, args := #[s, x], argTypes := #[22, 22] }) {base g len cap : Nat} {z : Nat → Nat} (t : PRow w base g len cap z) (hbase : base ≤ w.heap.size) (hn : len ≤ 1000000) (b1 c1 v : Nat)
    (hx : w.cell? ⟨b1, 0, none⟩ = some (.int .u8 (v : Nat))) (hs : a.eval s = .slice (some ⟨g, 0, none⟩) len cap) (hx' : a.eval x = .slice (some ⟨b1, 0, none⟩) 1 c1)
    (h : ∀ g' cap' w', PRow w' base g' (len + 1) cap' (Ob.upd z len v) → Below base w w' → wpList Tryd.prog ops Q rest (a.put o.dst (.slice (some ⟨g', 0, none⟩) (len + 1) cap')) w') : wpList Tryd.prog ops Q (o :: rest) a w := by
  refine wpList_plain hgd fun K hK => ?_
  obtain ⟨g', cap', w', hr, h1, h2⟩ := prow_append t hbase hn b1 c1 v hx o.type
  unfold Oper.wp execOp
  simp only [ho, resolve, invoke, builtin, Sem.run_bind, Sem.run_pure, Result.andThen_ok, List.map_toArray, List.map_cons, List.map_nil, hs, hx', hr]
  exact hK _ _ (h g' cap' w' h1 h2)
end Go.Proofs.YtdaonbfdcpkipaaDoor

namespace Ob
set_option linter.unusedVariables false
set_option linter.unusedSimpArgs false
/-- The sum behind q whole pieces. -/
def accV (R : Nat) (Z : Nat → Nat) : Nat → Nat
  | 0 => 0
  | q + 1 => (accV R Z q + (valD (fun i => Z (16 * q + i)) 16 + 256 ^ 16)) * R % PP
end Ob
namespace Go.Proofs.YtdaonbfdcpkipaaDoor
open Go.RowKit Go.Proofs
set_option linter.unusedVariables false
set_option linter.unusedSimpArgs false
attribute [local go_sem ↓] Go.wp_at_zero Go.wp_at_succ

/-- A byte behind a row that has room for it. -/
theorem wpList_appRoom {ops : Array Oper} {rest : List Oper} {o : Oper} {a : Act} {w : World} {Q : Exit → Act → World → Prop} (hgd : o.guard = none) (s x : Operand)
    (ho : o.op = .call { callee := .builtin .append, args := #[s, x], argTypes := #[22, 22] }) {g len len' cap : Nat} {z : Nat → Nat} (t : Arr w .u8 g cap z) (hl : len < cap) (hl' : len + 1 = len') (b1 c1 v : Nat)
    (hx : w.cell? ⟨b1, 0, none⟩ = some (.int .u8 (v : Nat))) (hs : a.eval s = .slice (some ⟨g, 0, none⟩) len cap) (hx' : a.eval x = .slice (some ⟨b1, 0, none⟩) 1 c1)
    (h : wpList Tryd.prog ops Q rest (a.put o.dst (.slice (some ⟨g, 0, none⟩) len' cap)) (w.setCell ⟨g, len, none⟩ (.int .u8 (v : Nat)))) : wpList Tryd.prog ops Q (o :: rest) a w := by
  refine wpList_plain hgd fun K hK => ?_
  obtain ⟨i0, hi, hz1, hz2, hz0⟩ := byteInfo
  have src : Go.Src Tryd.prog i0.size 22 (.slice (some ⟨b1, 0, none⟩) 1 c1) 1 [.int .u8 (v : Nat)] w :=
    Go.Src.ofSlice w Tryd.underlying22 _ 1 c1 _ (by rw [hz1]; rfl) (fun j u h => by
      cases j with
      | zero => simp at h; subst h; rw [Addr.add_mid]; exact hx
      | succ j => simp at h) (fun u hu => by simp at hu; subst hu; rfl)
  have hr := run_append_room_src w 22 22 o.type 5 i0 Tryd.underlying22 hi g 0 len cap _ 1 _ src (by omega)
      (fun j hj => by
        have : j = 0 := by simp at hj; omega
        subst this
        rw [hz1, Nat.zero_add, Nat.mul_one, Nat.add_zero, t.c len hl]
        rfl)
      (fun j hj => by
        have : j = 0 := by simp at hj; omega
        subst this
        rw [hz1, Nat.zero_add, Nat.mul_one, Nat.add_zero]
        exact t.f len hl)
  rw [hz1, Nat.zero_add, Nat.mul_one] at hr
  unfold Oper.wp execOp
  simp only [ho, resolve, invoke, builtin, Sem.run_bind, Sem.run_pure, Result.andThen_ok, List.map_toArray, List.map_cons, List.map_nil, hs, hx', hr]
  subst hl'
  exact hK _ _ h

/-- What the two functions work on: r, s, the sum, the piece and its bytes lie in five blocks, N and those behind it. -/
structure Smg (w : World) (N : Nat) (r s x f : Nat → Nat) (n : Nat) : Prop where
  tR : Arr w .u64 N 2 r
  tS : Arr w .u64 (N + 1) 3 s
  tQ : Arr w .u64 (N + 2) 3 x
  tG : Arr w .u8 (N + 3) 16 f
  pc : w.cell? ⟨N + 4, 0, none⟩ = some (.slice (some ⟨N + 3, 0, none⟩) n 16)
  pf : w.frozen? ⟨N + 4, 0, none⟩ = false
  lt : N + 4 < w.heap.size
theorem Smg.below {w w1 : World} {B N n : Nat} {r s x f : Nat → Nat} (t : Smg w N r s x f n) (hb : Below B w w1) (h : N + 4 < B) : Smg w1 N r s x f n :=
  ⟨t.tR.below hb (by omega), t.tS.below hb (by omega), t.tQ.below hb (by omega), t.tG.below hb (by omega), by rw [(bcell hb).1 _ _ h]; exact t.pc, by rw [(bcell hb).2 _ _ h]; exact t.pf, Nat.lt_of_lt_of_le t.lt hb.size⟩
theorem Smg.via {w w1 : World} {B N n : Nat} {r s x f : Nat → Nat} (hb : Below B w w1) (t : Smg w N r s x f n) (h : N + 4 < B) : Smg w1 N r s x f n := t.below hb h
theorem Smg.on {w w1 : World} {N n : Nat} {r s x f : Nat → Nat} (t : Smg w N r s x f n) (hb : Below w.heap.size w w1) : Smg w1 N r s x f n := t.below hb t.lt
theorem Smg.alloc {w : World} {N n : Nat} {r s x f : Nat → Nat} (t : Smg w N r s x f n) (o : Obj) : Smg (w.alloc o) N r s x f n := t.on ((Below.refl w.heap.size w).alloc (Nat.le_refl _) o)
theorem Smg.drew {w : World} {N n : Nat} {r s x f : Nat → Nat} (t : Smg w N r s x f n) : Smg w.drew N r s x f n := t.on ((Below.refl w.heap.size w).drew)
theorem Smg.setG {w : World} {N n : Nat} {r s x f : Nat → Nat} (t : Smg w N r s x f n) {i v : Nat} (hi : i < 16) : Smg (w.setCell ⟨N + 3, i, none⟩ (.int .u8 (v : Nat))) N r s x (Ob.upd f i v) n :=
  ⟨t.tR.far (by omega) _ _, t.tS.far (by omega) _ _, t.tQ.far (by omega) _ _, t.tG.set hi, by rw [World.cell?_setCell_other _ _ _ _ (by simp)]; exact t.pc, by simp [t.pf], by simp [t.lt]⟩
theorem Smg.setP {w : World} {N n : Nat} {r s x f : Nat → Nat} (t : Smg w N r s x f n) (n' : Nat) : Smg (w.setCell ⟨N + 4, 0, none⟩ (.slice (some ⟨N + 3, 0, none⟩) n' 16)) N r s x f n' :=
  ⟨t.tR.far (by omega) _ _, t.tS.far (by omega) _ _, t.tQ.far (by omega) _ _, t.tG.far (by omega) _ _, World.cell?_setCell_same _ _ _ t.pc, by simp [t.pf], by simp [t.lt]⟩
theorem Smg.setQ {w : World} {N n : Nat} {r s x f : Nat → Nat} (t : Smg w N r s x f n) (x' : Nat → Nat) : Smg (w.setCells (N + 2) 0 (arrL .u64 x' 3)) N r s x' f n := by
  refine ⟨t.tR.farCells (by omega) _ _, t.tS.farCells (by omega) _ _, t.tQ.whole x', t.tG.farCells (by omega) _ _, ?_, ?_, by rw [setCells_size]; exact t.lt⟩
  · have e : w.setCells (N + 2) 0 (arrL .u64 x' 3) = ((w.setCell ⟨N + 2, 0, none⟩ (.int .u64 (x' 0 : Nat))).setCell ⟨N + 2, 1, none⟩ (.int .u64 (x' 1 : Nat))).setCell ⟨N + 2, 2, none⟩ (.int .u64 (x' 2 : Nat)) := rfl
    rw [e, World.cell?_setCell_other _ _ _ _ (by simp), World.cell?_setCell_other _ _ _ _ (by simp), World.cell?_setCell_other _ _ _ _ (by simp)]
    exact t.pc
  · have e : w.setCells (N + 2) 0 (arrL .u64 x' 3) = ((w.setCell ⟨N + 2, 0, none⟩ (.int .u64 (x' 0 : Nat))).setCell ⟨N + 2, 1, none⟩ (.int .u64 (x' 1 : Nat))).setCell ⟨N + 2, 2, none⟩ (.int .u64 (x' 2 : Nat)) := rfl
    rw [e]
    simp [t.pf]

/-- All but some blocks stays. -/
structure KpR (lo hi : Nat) (w w' : World) : Prop where
  size : w.heap.size ≤ w'.heap.size
  c : ∀ b o, b < w.heap.size → (b < lo ∨ hi < b) → w'.cell? ⟨b, o, none⟩ = w.cell? ⟨b, o, none⟩
  f : ∀ b o, b < w.heap.size → (b < lo ∨ hi < b) → w'.frozen? ⟨b, o, none⟩ = w.frozen? ⟨b, o, none⟩
theorem KpR.refl (lo hi : Nat) (w : World) : KpR lo hi w w := ⟨Nat.le_refl _, fun _ _ _ _ => rfl, fun _ _ _ _ => rfl⟩
theorem KpR.set {lo hi : Nat} {w w' : World} (h : KpR lo hi w w') {b : Nat} (hb : lo ≤ b ∧ b ≤ hi) (o' : Nat) (v : Value) : KpR lo hi w (w'.setCell ⟨b, o', none⟩ v) := by
  refine ⟨by simp [h.size], fun b' o hl h2 => ?_, fun b' o hl h2 => by rw [World.frozen?_setCell]; exact h.f b' o hl h2⟩
  have hne : b ≠ b' := by omega
  rw [World.cell?_setCell_other _ _ _ _ (by simp [hne])]
  exact h.c b' o hl h2
theorem KpR.below {lo hi : Nat} {w w' w2 : World} (h : KpR lo hi w w') (hb : Below w'.heap.size w' w2) : KpR lo hi w w2 :=
  ⟨Nat.le_trans h.size hb.size, fun b o hl h2 => by rw [(bcell hb).1 b o (Nat.lt_of_lt_of_le hl h.size)]; exact h.c b o hl h2, fun b o hl h2 => by rw [(bcell hb).2 b o (Nat.lt_of_lt_of_le hl h.size)]; exact h.f b o hl h2⟩
theorem KpR.alloc {lo hi : Nat} {w w' : World} (h : KpR lo hi w w') (o : Obj) : KpR lo hi w (w'.alloc o) := h.below ((Below.refl w'.heap.size w').alloc (Nat.le_refl _) o)
theorem KpR.trans {lo hi : Nat} {w w' w2 : World} (h : KpR lo hi w w') (h2 : KpR lo hi w' w2) : KpR lo hi w w2 :=
  ⟨Nat.le_trans h.size h2.size, fun b o hl hb => by rw [h2.c b o (Nat.lt_of_lt_of_le hl h.size) hb]; exact h.c b o hl hb, fun b o hl hb => by rw [h2.f b o (Nat.lt_of_lt_of_le hl h.size) hb]; exact h.f b o hl hb⟩
theorem KpR.setQ {N : Nat} {w w' : World} (h : KpR (N + 2) (N + 4) w w') (x' : Nat → Nat) : KpR (N + 2) (N + 4) w (w'.setCells (N + 2) 0 (arrL .u64 x' 3)) := by
  have e : w'.setCells (N + 2) 0 (arrL .u64 x' 3) = ((w'.setCell ⟨N + 2, 0, none⟩ (.int .u64 (x' 0 : Nat))).setCell ⟨N + 2, 1, none⟩ (.int .u64 (x' 1 : Nat))).setCell ⟨N + 2, 2, none⟩ (.int .u64 (x' 2 : Nat)) := rfl
  rw [e]
  exact ((h.set (by omega) _ _).set (by omega) _ _).set (by omega) _ _

/-- Bytes that lie outside of them. -/
def SrcO (w : World) (N : Nat) (a : Option Addr) (n : Nat) (z : Nat → Nat) : Prop := n = 0 ∨ ∃ b off, a = some ⟨b, off, none⟩ ∧ (b < N ∨ N + 4 < b) ∧ Bys w b off n z
theorem SrcO.src {w : World} {N n : Nat} {a : Option Addr} {z : Nat → Nat} (h : SrcO w N a n z) : Src w a n z := by
  rcases h with h | ⟨b, off, ha, _, hb⟩
  · exact Or.inl h
  · exact Or.inr ⟨b, off, ha, hb⟩
theorem SrcO.at_ {w : World} {N n i : Nat} {a : Option Addr} {z : Nat → Nat} (h : SrcO w N a n z) (hi : i < n) : ∃ b off, a = some ⟨b, off, none⟩ ∧ (b < N ∨ N + 4 < b) ∧ Bys w b off n z := by
  rcases h with h | h
  · omega
  · exact h
theorem SrcO.on {w w1 : World} {N n : Nat} {a : Option Addr} {z : Nat → Nat} (h : SrcO w N a n z) (hb : Below w.heap.size w w1) : SrcO w1 N a n z := by
  rcases h with h | ⟨b, off, ha, hn, hB⟩
  · exact Or.inl h
  · exact Or.inr ⟨b, off, ha, hn, hB.below hb hB.lt⟩
theorem SrcO.alloc {w : World} {N n : Nat} {a : Option Addr} {z : Nat → Nat} (h : SrcO w N a n z) (o : Obj) : SrcO (w.alloc o) N a n z := h.on ((Below.refl w.heap.size w).alloc (Nat.le_refl _) o)
theorem SrcO.far {w : World} {N n : Nat} {a : Option Addr} {z : Nat → Nat} (h : SrcO w N a n z) {b' : Nat} (hb : N ≤ b' ∧ b' ≤ N + 4) (o : Nat) (v : Value) : SrcO (w.setCell ⟨b', o, none⟩ v) N a n z := by
  rcases h with h | ⟨b, off, ha, hn, hB⟩
  · exact Or.inl h
  · exact Or.inr ⟨b, off, ha, hn, hB.far (by omega) _ _⟩
theorem SrcO.farQ {w : World} {N n : Nat} {a : Option Addr} {z : Nat → Nat} (h : SrcO w N a n z) (x' : Nat → Nat) : SrcO (w.setCells (N + 2) 0 (arrL .u64 x' 3)) N a n z := by
  have e : w.setCells (N + 2) 0 (arrL .u64 x' 3) = ((w.setCell ⟨N + 2, 0, none⟩ (.int .u64 (x' 0 : Nat))).setCell ⟨N + 2, 1, none⟩ (.int .u64 (x' 1 : Nat))).setCell ⟨N + 2, 2, none⟩ (.int .u64 (x' 2 : Nat)) := rfl
  rw [e]
  exact ((h.far (by omega) _ _).far (by omega) _ _).far (by omega) _ _

/-- The two functions' state behind the first k bytes of Z. -/
def Stt (w : World) (N : Nat) (r s : Nat → Nat) (R : Nat) (Z : Nat → Nat) (k : Nat) : Prop :=
  ∃ x f : Nat → Nat, Smg w N r s x f (k % 16) ∧ Ob.SumOk x (Ob.accV R Z (k / 16)) ∧ (∀ i, f i < 256) ∧ ∀ i, i < k % 16 → f i = Z (16 * (k / 16) + i)
theorem Stt.on {w w1 : World} {N R k : Nat} {r s Z : Nat → Nat} (t : Stt w N r s R Z k) (hb : Below w.heap.size w w1) : Stt w1 N r s R Z k := by
  obtain ⟨x, f, h1, h2, h3, h4⟩ := t
  exact ⟨x, f, h1.on hb, h2, h3, h4⟩
theorem Stt.lt {w : World} {N R k : Nat} {r s Z : Nat → Nat} (t : Stt w N r s R Z k) : N + 4 < w.heap.size := by
  obtain ⟨x, f, h1, _⟩ := t
  exact h1.lt
end Go.Proofs.YtdaonbfdcpkipaaDoor
