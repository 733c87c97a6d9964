/-
  Joined texts: The document's own digest, walked: rolling and mixing. The document's own digest, walked: the words of the beginning, the rows. The document's own digest, walked: bytes as words.
-/
import Derived.Test.YtdhbkhmknnlmnaaDoorJ2
import Derived.Test.YtdhbkhmknnlmnaaDoorJ3
import Derived.Deep.DeepCutAuto
import Derived.Test.YtdhbkhmknnlmnaaDoorJ1
import Derived.OwnWalk

namespace Go.Proofs.YtdhbkhmknnlmnaaDoor
open Go.RowKit Go.Proofs
set_option linter.unusedVariables false
set_option linter.unusedSimpArgs false
attribute [local go_sem ↓] Go.wp_at_zero Go.wp_at_succ

theorem roll_num (x n : Nat) (hx : x < 4294967296) (hn : n ≤ 32) : bits .or .u32 ((x / 2 ^ n : Nat) : Int) (((x * 2 ^ (32 - n)) % 4294967296 : Nat) : Int) = ((Ob.rot x n : Nat) : Int) := by
  have e : (2 : Nat) ^ n * 2 ^ (32 - n) = 4294967296 := by rw [← Nat.pow_add, Nat.add_sub_cancel' hn]
  have e1 : x * 2 ^ (32 - n) % 4294967296 = x % 2 ^ n * 2 ^ (32 - n) := by rw [← e, Nat.mul_mod_mul_right]
  have h1 : x / 2 ^ n < 2 ^ (32 - n) := Nat.div_lt_of_lt_mul (by rw [e]; exact hx)
  have h2 : x % 2 ^ n < 2 ^ (32 - (32 - n)) := by rw [show 32 - (32 - n) = n by omega]; exact Nat.mod_lt _ (Nat.two_pow_pos n)
  rw [e1, or_u32 _ _ (32 - n) (by omega) h1 h2]
  rfl
set_option maxHeartbeats 1000000 in
theorem rrollW (x n : Nat) (hx : x < 4294967296) (hn : n ≤ 32) (w : World) :
    Calls Tryd.prog 76 #[.int .u32 x, .int .i64 n] w fun e w' => e = .returned (.int .u32 (Ob.rot x n : Nat)) ∧ ∃ nd, w' = w.drewN nd := by
  have h : bits .or .u32 ((x : Int) / 2 ^ n) (IntKind.u32.wrap ((x : Int) * 2 ^ (32 - n))) = ((Ob.rot x n : Nat) : Int) := by
    rw [← roll_num x n hx hn, IntKind.wrap_u32]
    simp
  go_enter Tryd.func76, Tryd.ntmps76
  have h0 : (0 : Int) ≤ (n : Int) := by omega
  have h1 : ¬ (n : Int) < 0 := by omega
  have h2 : (n : Int) ≤ 32 := by omega
  have h3 : ¬ (32 : Int) < (n : Int) := by omega
  have h4 : IntKind.i64.wrap (32 - (n : Int)) = ((32 - n : Nat) : Int) := by rw [IntKind.wrap_i64]; omega
  go_wp2
  go_region_held3 (fun w' => True) (exact True.intro) (fail)
  go_wp2
  go_ret
  exact ⟨rfl, 1, rfl⟩

set_option maxHeartbeats 4000000 in
theorem rmix_core (v : Nat → Nat) (hv : Ob.Words32 v) (a b c d x y : Nat) (ha : a < 16) (hb : b < 16) (hc : c < 16) (hd : d < 16) (hx : x < 4294967296) (hy : y < 4294967296) (w : World) :
    Calls Tryd.prog 68 #[arrV .u32 v 16, .int .i64 a, .int .i64 b, .int .i64 c, .int .i64 d, .int .u32 x, .int .u32 y] w fun e w' => e = .returned (arrV .u32 (Ob.mixN v a b c d x y) 16) ∧ Below w.heap.size w w' := by
  unfold arrV
  have hl := arrL_length .u32 v 16
  go_enter Tryd.func68, Tryd.ntmps68
  go_upto_region 1 with (fail)
  have ia : (a : Int) < 16 := by omega
  have ja : (0 : Int) ≤ (a : Int) := by omega
  have ib : (b : Int) < 16 := by omega
  have jb : (0 : Int) ≤ (b : Int) := by omega
  have ic : (c : Int) < 16 := by omega
  have jc : (0 : Int) ≤ (c : Int) := by omega
  have id : (d : Int) < 16 := by omega
  have jd : (0 : Int) ≤ (d : Int) := by omega
  have tv0 : Arr ((w.alloc (.cells (arrL .u32 v 16).toArray 81)).alloc (.cells (arrL .u32 (fun _ => 0) 16).toArray 81)) .u32 w.heap.size 16 v := (Arr.new rfl).alloc _
  have tr0 : Arr ((w.alloc (.cells (arrL .u32 v 16).toArray 81)).alloc (.cells (arrL .u32 (fun _ => 0) 16).toArray 81)) .u32 (w.heap.size + 1) 16 (fun _ => 0) := Arr.new (by simp)
  have hB0 : Below w.heap.size w ((w.alloc (.cells (arrL .u32 v 16).toArray 81)).alloc (.cells (arrL .u32 (fun _ => 0) 16).toArray 81)) := by (repeat' (first | (with_reducible first | exact Below.refl _ _ | assumption | refine Below.alloc ?_ ?_ _ | refine Below.drew ?_ | refine below_drewN ?_ _ | refine Below.setCell ?_ ?_ _ | refine below_via (by with_reducible assumption) ?_ ?_) | omega | (simp only [szs]; omega) | (simp only [szs] at *; omega)))
  change Code.wp _ _ _ _ ((w.alloc (.cells (arrL .u32 v 16).toArray 81)).alloc (.cells (arrL .u32 (fun _ => 0) 16).toArray 81))
  generalize ((w.alloc (.cells (arrL .u32 v 16).toArray 81)).alloc (.cells (arrL .u32 (fun _ => 0) 16).toArray 81)) = W0 at *
  have e0 : Hid (v = v) := rfl
  have hv0 := hv
  generalize hV0 : v = V0 at tv0 hv0
  -- statement 1
  obtain ⟨z0, hz0⟩ : ∃ z, Hid (Ob.s32 (Ob.s32 (V0 a) (V0 b)) x = z) := ⟨_, rfl⟩
  obtain ⟨y0, hy0⟩ : ∃ y, Hid (Ob.s32 (V0 a) (V0 b) = y) := ⟨_, rfl⟩
  have f0 : IntKind.u32.wrap (((V0 a : Nat) : Int) + ((V0 b : Nat) : Int)) = ((y0 : Nat) : Int) := by rw [← hy0.out, IntKind.wrap_u32]; unfold Ob.s32; omega
  have g0 : IntKind.u32.wrap (((y0 : Nat) : Int) + ((x : Nat) : Int)) = ((z0 : Nat) : Int) := by rw [← hz0.out, hy0.out, IntKind.wrap_u32]; unfold Ob.s32; omega
  have p0 := tv0.c a ha
  have q0 := tv0.f a ha
  refine wp_region_noPanic ?_
  refine region_lastly (S := (fun w' => w'.cell? ⟨w.heap.size, a, none⟩ = some (.int .u32 (V0 a : Nat)) ∧ w'.cell? ⟨w.heap.size, b, none⟩ = some (.int .u32 (V0 b : Nat)))) [11] (by kernel_rfl) (by ((try dsimp only); (first | exact ⟨tv0.drew.c _ ha, tv0.drew.c _ hb⟩ | exact ⟨(tv0.drew.drewN _).c _ ha, (tv0.drew.drewN _).c _ hb⟩ | exact ⟨(tv0.drewN _).c _ ha, (tv0.drewN _).c _ hb⟩))) (fun hHeld => ?_)
  refine anyZ_take (i := 0) (oi := ?oi_1) (v := ?v_1) ?hi_1 ?hz_1 ?hs_1 ?hf_1 ?hr_1 ?hQ_1 (Or.inl ⟨?hw_1, ?hy_1⟩) ?hS_1 ?hrest_1
  case hi_1 => (simp only [List.getElem?_toArray, List.getElem?_cons_succ, List.getElem?_cons_zero]; exact rfl)
  case hz_1 => kernel_rfl
  case hs_1 => kernel_rfl
  case hf_1 => kernel_rfl
  case hr_1 => kernel_rfl
  case hQ_1 => exact fun _ _ _ h => h
  case hw_1 => rfl
  case hS_1 => assumption
  case hy_1 => (intro w hSw; (try dsimp only at hSw); go_simp; try with_reducible rfl)
  try simp only [Act.put, List.setIfInBounds_toArray, List.set_cons_zero, List.set_cons_succ]
  refine anyZ_take (i := 1) (oi := ?oi_2) (v := ?v_2) ?hi_2 ?hz_2 ?hs_2 ?hf_2 ?hr_2 ?hQ_2 (Or.inl ⟨?hw_2, ?hy_2⟩) ?hS_2 ?hrest_2
  case hi_2 => (simp only [List.getElem?_toArray, List.getElem?_cons_succ, List.getElem?_cons_zero]; exact rfl)
  case hz_2 => kernel_rfl
  case hs_2 => kernel_rfl
  case hf_2 => kernel_rfl
  case hr_2 => kernel_rfl
  case hQ_2 => exact fun _ _ _ h => h
  case hw_2 => rfl
  case hS_2 => assumption
  case hy_2 => (intro w hSw; (try dsimp only at hSw); go_simp; try with_reducible rfl)
  try simp only [Act.put, List.setIfInBounds_toArray, List.set_cons_zero, List.set_cons_succ]
  refine anyZ_take (i := 2) (oi := ?oi_3) (v := ?v_3) ?hi_3 ?hz_3 ?hs_3 ?hf_3 ?hr_3 ?hQ_3 (Or.inl ⟨?hw_3, ?hy_3⟩) ?hS_3 ?hrest_3
  case hi_3 => (simp only [List.getElem?_toArray, List.getElem?_cons_succ, List.getElem?_cons_zero]; exact rfl)
  case hz_3 => kernel_rfl
  case hs_3 => kernel_rfl
  case hf_3 => kernel_rfl
  case hr_3 => kernel_rfl
  case hQ_3 => exact fun _ _ _ h => h
  case hw_3 => rfl
  case hS_3 => assumption
  case hy_3 => (intro w hSw; (try dsimp only at hSw); go_simp; try with_reducible rfl)
  try simp only [Act.put, List.setIfInBounds_toArray, List.set_cons_zero, List.set_cons_succ]
  refine anyZ_take (i := 3) (oi := ?oi_4) (v := ?v_4) ?hi_4 ?hz_4 ?hs_4 ?hf_4 ?hr_4 ?hQ_4 (Or.inl ⟨?hw_4, ?hy_4⟩) ?hS_4 ?hrest_4
  case hi_4 => (simp only [List.getElem?_toArray, List.getElem?_cons_succ, List.getElem?_cons_zero]; exact rfl)
  case hz_4 => kernel_rfl
  case hs_4 => kernel_rfl
  case hf_4 => kernel_rfl
  case hr_4 => kernel_rfl
  case hQ_4 => exact fun _ _ _ h => h
  case hw_4 => rfl
  case hS_4 => assumption
  case hy_4 => (intro w hSw; (try dsimp only at hSw); go_simp; try with_reducible rfl)
  try simp only [Act.put, List.setIfInBounds_toArray, List.set_cons_zero, List.set_cons_succ]
  refine anyZ_take (i := 4) (oi := ?oi_5) (v := ?v_5) ?hi_5 ?hz_5 ?hs_5 ?hf_5 ?hr_5 ?hQ_5 (Or.inl ⟨?hw_5, ?hy_5⟩) ?hS_5 ?hrest_5
  case hi_5 => (simp only [List.getElem?_toArray, List.getElem?_cons_succ, List.getElem?_cons_zero]; exact rfl)
  case hz_5 => kernel_rfl
  case hs_5 => kernel_rfl
  case hf_5 => kernel_rfl
  case hr_5 => kernel_rfl
  case hQ_5 => exact fun _ _ _ h => h
  case hw_5 => rfl
  case hS_5 => assumption
  case hy_5 => (intro w hSw; (try dsimp only at hSw); go_simp; try with_reducible rfl)
  try simp only [Act.put, List.setIfInBounds_toArray, List.set_cons_zero, List.set_cons_succ]
  refine anyZ_take (i := 5) (oi := ?oi_6) (v := ?v_6) ?hi_6 ?hz_6 ?hs_6 ?hf_6 ?hr_6 ?hQ_6 (Or.inl ⟨?hw_6, ?hy_6⟩) ?hS_6 ?hrest_6
  case hi_6 => (simp only [List.getElem?_toArray, List.getElem?_cons_succ, List.getElem?_cons_zero]; exact rfl)
  case hz_6 => kernel_rfl
  case hs_6 => kernel_rfl
  case hf_6 => kernel_rfl
  case hr_6 => kernel_rfl
  case hQ_6 => exact fun _ _ _ h => h
  case hw_6 => rfl
  case hS_6 => assumption
  case hy_6 => (intro w hSw; (try dsimp only at hSw); go_simp; try with_reducible rfl)
  try simp only [Act.put, List.setIfInBounds_toArray, List.set_cons_zero, List.set_cons_succ]
  refine anyZ_take (i := 6) (oi := ?oi_7) (v := ?v_7) ?hi_7 ?hz_7 ?hs_7 ?hf_7 ?hr_7 ?hQ_7 (Or.inl ⟨?hw_7, ?hy_7⟩) ?hS_7 ?hrest_7
  case hi_7 => (simp only [List.getElem?_toArray, List.getElem?_cons_succ, List.getElem?_cons_zero]; exact rfl)
  case hz_7 => kernel_rfl
  case hs_7 => kernel_rfl
  case hf_7 => kernel_rfl
  case hr_7 => kernel_rfl
  case hQ_7 => exact fun _ _ _ h => h
  case hw_7 => rfl
  case hS_7 => assumption
  case hy_7 => (intro w hSw; (try dsimp only at hSw); go_simp; try with_reducible rfl)
  try simp only [Act.put, List.setIfInBounds_toArray, List.set_cons_zero, List.set_cons_succ]
  refine anyZ_take (i := 7) (oi := ?oi_8) (v := ?v_8) ?hi_8 ?hz_8 ?hs_8 ?hf_8 ?hr_8 ?hQ_8 (Or.inl ⟨?hw_8, ?hy_8⟩) ?hS_8 ?hrest_8
  case hi_8 => (simp only [List.getElem?_toArray, List.getElem?_cons_succ, List.getElem?_cons_zero]; exact rfl)
  case hz_8 => kernel_rfl
  case hs_8 => kernel_rfl
  case hf_8 => kernel_rfl
  case hr_8 => kernel_rfl
  case hQ_8 => exact fun _ _ _ h => h
  case hw_8 => rfl
  case hS_8 => assumption
  case hy_8 => (intro w hSw; (try dsimp only at hSw); go_simp; try with_reducible rfl)
  try simp only [Act.put, List.setIfInBounds_toArray, List.set_cons_zero, List.set_cons_succ]
  refine anyZ_take (i := 8) (oi := ?oi_9) (v := ?v_9) ?hi_9 ?hz_9 ?hs_9 ?hf_9 ?hr_9 ?hQ_9 (Or.inl ⟨?hw_9, ?hy_9⟩) ?hS_9 ?hrest_9
  case hi_9 => (simp only [List.getElem?_toArray, List.getElem?_cons_succ, List.getElem?_cons_zero]; exact rfl)
  case hz_9 => kernel_rfl
  case hs_9 => kernel_rfl
  case hf_9 => kernel_rfl
  case hr_9 => kernel_rfl
  case hQ_9 => exact fun _ _ _ h => h
  case hw_9 => rfl
  case hS_9 => assumption
  case hy_9 => (intro w hSw; (try dsimp only at hSw); go_simp; try with_reducible rfl)
  try simp only [Act.put, List.setIfInBounds_toArray, List.set_cons_zero, List.set_cons_succ]
  refine anyZ_take (i := 9) (oi := ?oi_10) (v := ?v_10) ?hi_10 ?hz_10 ?hs_10 ?hf_10 ?hr_10 ?hQ_10 (Or.inl ⟨?hw_10, ?hy_10⟩) ?hS_10 ?hrest_10
  case hi_10 => (simp only [List.getElem?_toArray, List.getElem?_cons_succ, List.getElem?_cons_zero]; exact rfl)
  case hz_10 => kernel_rfl
  case hs_10 => kernel_rfl
  case hf_10 => kernel_rfl
  case hr_10 => kernel_rfl
  case hQ_10 => exact fun _ _ _ h => h
  case hw_10 => rfl
  case hS_10 => assumption
  case hy_10 => (intro w hSw; (try dsimp only at hSw); go_simp; try with_reducible rfl)
  try simp only [Act.put, List.setIfInBounds_toArray, List.set_cons_zero, List.set_cons_succ]
  refine anyZ_take (i := 10) (oi := ?oi_11) (v := ?v_11) ?hi_11 ?hz_11 ?hs_11 ?hf_11 ?hr_11 ?hQ_11 (Or.inl ⟨?hw_11, ?hy_11⟩) ?hS_11 ?hrest_11
  case hi_11 => (simp only [List.getElem?_toArray, List.getElem?_cons_succ, List.getElem?_cons_zero]; exact rfl)
  case hz_11 => kernel_rfl
  case hs_11 => kernel_rfl
  case hf_11 => kernel_rfl
  case hr_11 => kernel_rfl
  case hQ_11 => exact fun _ _ _ h => h
  case hw_11 => rfl
  case hS_11 => assumption
  case hy_11 => (intro w hSw; (try dsimp only at hSw); go_simp; try with_reducible rfl)
  try simp only [Act.put, List.setIfInBounds_toArray, List.set_cons_zero, List.set_cons_succ]
  refine anyZ_ready (rs := [11]) (by kernel_rfl) (by simp) ?_
  refine (AllZ.last (o := ?o_12) ?ho_12 (by rfl) (fun K hK => ?st_12) AllZ.nil)
  case ho_12 => (simp only [List.getElem?_toArray, List.getElem?_cons_succ, List.getElem?_cons_zero]; exact rfl)
  case st_12 =>
    go_simp
    refine hK.out _ _ ?_
    clear hK K
    try simp only [Act.put, List.setIfInBounds_toArray, List.set_cons_zero, List.set_cons_succ]
    refine anyZ_done (by kernel_rfl) ?_ _
    refine NoPanic.normal ?_
    have tv1 : Arr ((W0.setCell ⟨w.heap.size, a, none⟩ (.int .u32 (z0 : Nat))).drew) .u32 w.heap.size 16 (Ob.upd V0 a z0) := (tv0.set ha).drew
    have tr1 : Arr ((W0.setCell ⟨w.heap.size, a, none⟩ (.int .u32 (z0 : Nat))).drew) .u32 (w.heap.size + 1) 16 (fun _ => 0) := (tr0.far (by omega) _ _).drew
    have hB1 : Below w.heap.size w ((W0.setCell ⟨w.heap.size, a, none⟩ (.int .u32 (z0 : Nat))).drew) := by (repeat' (first | (with_reducible first | exact Below.refl _ _ | assumption | refine Below.alloc ?_ ?_ _ | refine Below.drew ?_ | refine below_drewN ?_ _ | refine Below.setCell ?_ ?_ _ | refine below_via (by with_reducible assumption) ?_ ?_) | omega | (simp only [szs]; omega) | (simp only [szs] at *; omega)))
    have hv1 : Ob.Words32 (Ob.upd V0 a z0) := hv0.upd _ (by rw [← hz0.out]; exact Ob.s32_lt _ _)
    clear hHeld
    generalize ((W0.setCell ⟨w.heap.size, a, none⟩ (.int .u32 (z0 : Nat))).drew) = W1 at *
    obtain ⟨V1, hV1⟩ : ∃ V, Hid (Ob.upd V0 a z0 = V) := ⟨_, rfl⟩
    rw [hV1.out] at tv1 hv1
    clear p0 q0 tv0 tr0 hB0 f0 g0
    go_upto_region 2 with (fail)
    -- statement 2
    obtain ⟨z1, hz1⟩ : ∃ z, Hid (Ob.rot (V1 d ^^^ V1 a) 16 = z) := ⟨_, rfl⟩
    have f1 := xor_u32 (V1 d) (V1 a) (hv1 _) (hv1 _)
    have g1 : ∀ w, Calls Tryd.prog 76 #[.int .u32 ((V1 d ^^^ V1 a : Nat) : Int), .int .i64 16] w fun e w' => e = .returned (.int .u32 (z1 : Nat)) ∧ ∃ nd, w' = w.drewN nd := by rw [← hz1.out]; exact rrollW _ 16 (Ob.xor_lt (hv1 _) (hv1 _)) (by decide)
    have p1 := tv1.c d hd
    have q1 := tv1.f d hd
    refine wp_region_noPanic ?_
    refine region_lastly (S := (fun w' => w'.cell? ⟨w.heap.size, d, none⟩ = some (.int .u32 (V1 d : Nat)) ∧ w'.cell? ⟨w.heap.size, a, none⟩ = some (.int .u32 (V1 a : Nat)))) [10] (by kernel_rfl) (by ((try dsimp only); (first | exact ⟨tv1.drew.c _ hd, tv1.drew.c _ ha⟩ | exact ⟨(tv1.drew.drewN _).c _ hd, (tv1.drew.drewN _).c _ ha⟩ | exact ⟨(tv1.drewN _).c _ hd, (tv1.drewN _).c _ ha⟩))) (fun hHeld => ?_)
    refine anyZ_take (i := 0) (oi := ?oi_13) (v := ?v_13) ?hi_13 ?hz_13 ?hs_13 ?hf_13 ?hr_13 ?hQ_13 (Or.inl ⟨?hw_13, ?hy_13⟩) ?hS_13 ?hrest_13
    case hi_13 => (simp only [List.getElem?_toArray, List.getElem?_cons_succ, List.getElem?_cons_zero]; exact rfl)
    case hz_13 => kernel_rfl
    case hs_13 => kernel_rfl
    case hf_13 => kernel_rfl
    case hr_13 => kernel_rfl
    case hQ_13 => exact fun _ _ _ h => h
    case hw_13 => rfl
    case hS_13 => assumption
    case hy_13 => (intro w hSw; (try dsimp only at hSw); go_simp; try with_reducible rfl)
    try simp only [Act.put, List.setIfInBounds_toArray, List.set_cons_zero, List.set_cons_succ]
    refine anyZ_take (i := 1) (oi := ?oi_14) (v := ?v_14) ?hi_14 ?hz_14 ?hs_14 ?hf_14 ?hr_14 ?hQ_14 (Or.inl ⟨?hw_14, ?hy_14⟩) ?hS_14 ?hrest_14
    case hi_14 => (simp only [List.getElem?_toArray, List.getElem?_cons_succ, List.getElem?_cons_zero]; exact rfl)
    case hz_14 => kernel_rfl
    case hs_14 => kernel_rfl
    case hf_14 => kernel_rfl
    case hr_14 => kernel_rfl
    case hQ_14 => exact fun _ _ _ h => h
    case hw_14 => rfl
    case hS_14 => assumption
    case hy_14 => (intro w hSw; (try dsimp only at hSw); go_simp; try with_reducible rfl)
    try simp only [Act.put, List.setIfInBounds_toArray, List.set_cons_zero, List.set_cons_succ]
    refine anyZ_take (i := 2) (oi := ?oi_15) (v := ?v_15) ?hi_15 ?hz_15 ?hs_15 ?hf_15 ?hr_15 ?hQ_15 (Or.inl ⟨?hw_15, ?hy_15⟩) ?hS_15 ?hrest_15
    case hi_15 => (simp only [List.getElem?_toArray, List.getElem?_cons_succ, List.getElem?_cons_zero]; exact rfl)
    case hz_15 => kernel_rfl
    case hs_15 => kernel_rfl
    case hf_15 => kernel_rfl
    case hr_15 => kernel_rfl
    case hQ_15 => exact fun _ _ _ h => h
    case hw_15 => rfl
    case hS_15 => assumption
    case hy_15 => (intro w hSw; (try dsimp only at hSw); go_simp; try with_reducible rfl)
    try simp only [Act.put, List.setIfInBounds_toArray, List.set_cons_zero, List.set_cons_succ]
    refine anyZ_take (i := 3) (oi := ?oi_16) (v := ?v_16) ?hi_16 ?hz_16 ?hs_16 ?hf_16 ?hr_16 ?hQ_16 (Or.inl ⟨?hw_16, ?hy_16⟩) ?hS_16 ?hrest_16
    case hi_16 => (simp only [List.getElem?_toArray, List.getElem?_cons_succ, List.getElem?_cons_zero]; exact rfl)
    case hz_16 => kernel_rfl
    case hs_16 => kernel_rfl
    case hf_16 => kernel_rfl
    case hr_16 => kernel_rfl
    case hQ_16 => exact fun _ _ _ h => h
    case hw_16 => rfl
    case hS_16 => assumption
    case hy_16 => (intro w hSw; (try dsimp only at hSw); go_simp; try with_reducible rfl)
    try simp only [Act.put, List.setIfInBounds_toArray, List.set_cons_zero, List.set_cons_succ]
    refine anyZ_take (i := 4) (oi := ?oi_17) (v := ?v_17) ?hi_17 ?hz_17 ?hs_17 ?hf_17 ?hr_17 ?hQ_17 (Or.inl ⟨?hw_17, ?hy_17⟩) ?hS_17 ?hrest_17
    case hi_17 => (simp only [List.getElem?_toArray, List.getElem?_cons_succ, List.getElem?_cons_zero]; exact rfl)
    case hz_17 => kernel_rfl
    case hs_17 => kernel_rfl
    case hf_17 => kernel_rfl
    case hr_17 => kernel_rfl
    case hQ_17 => exact fun _ _ _ h => h
    case hw_17 => rfl
    case hS_17 => assumption
    case hy_17 => (intro w hSw; (try dsimp only at hSw); go_simp; try with_reducible rfl)
    try simp only [Act.put, List.setIfInBounds_toArray, List.set_cons_zero, List.set_cons_succ]
    refine anyZ_take (i := 5) (oi := ?oi_18) (v := ?v_18) ?hi_18 ?hz_18 ?hs_18 ?hf_18 ?hr_18 ?hQ_18 (Or.inl ⟨?hw_18, ?hy_18⟩) ?hS_18 ?hrest_18
    case hi_18 => (simp only [List.getElem?_toArray, List.getElem?_cons_succ, List.getElem?_cons_zero]; exact rfl)
    case hz_18 => kernel_rfl
    case hs_18 => kernel_rfl
    case hf_18 => kernel_rfl
    case hr_18 => kernel_rfl
    case hQ_18 => exact fun _ _ _ h => h
    case hw_18 => rfl
    case hS_18 => assumption
    case hy_18 => (intro w hSw; (try dsimp only at hSw); go_simp; try with_reducible rfl)
    try simp only [Act.put, List.setIfInBounds_toArray, List.set_cons_zero, List.set_cons_succ]
    refine anyZ_take (i := 6) (oi := ?oi_19) (v := ?v_19) ?hi_19 ?hz_19 ?hs_19 ?hf_19 ?hr_19 ?hQ_19 (Or.inl ⟨?hw_19, ?hy_19⟩) ?hS_19 ?hrest_19
    case hi_19 => (simp only [List.getElem?_toArray, List.getElem?_cons_succ, List.getElem?_cons_zero]; exact rfl)
    case hz_19 => kernel_rfl
    case hs_19 => kernel_rfl
    case hf_19 => kernel_rfl
    case hr_19 => kernel_rfl
    case hQ_19 => exact fun _ _ _ h => h
    case hw_19 => rfl
    case hS_19 => assumption
    case hy_19 => (intro w hSw; (try dsimp only at hSw); go_simp; try with_reducible rfl)
    try simp only [Act.put, List.setIfInBounds_toArray, List.set_cons_zero, List.set_cons_succ]
    refine anyZ_take (i := 7) (oi := ?oi_20) (v := ?v_20) ?hi_20 ?hz_20 ?hs_20 ?hf_20 ?hr_20 ?hQ_20 (Or.inl ⟨?hw_20, ?hy_20⟩) ?hS_20 ?hrest_20
    case hi_20 => (simp only [List.getElem?_toArray, List.getElem?_cons_succ, List.getElem?_cons_zero]; exact rfl)
    case hz_20 => kernel_rfl
    case hs_20 => kernel_rfl
    case hf_20 => kernel_rfl
    case hr_20 => kernel_rfl
    case hQ_20 => exact fun _ _ _ h => h
    case hw_20 => rfl
    case hS_20 => assumption
    case hy_20 => (intro w hSw; (try dsimp only at hSw); go_simp; try with_reducible rfl)
    try simp only [Act.put, List.setIfInBounds_toArray, List.set_cons_zero, List.set_cons_succ]
    refine anyZ_ready (rs := [8]) (by kernel_rfl) (by simp) ?_
    refine (AllZ.cons (o := ?o_21) ?ho_21 (fun K hK => ?st_21) AllZ.nil)
    case ho_21 => (simp only [List.getElem?_toArray, List.getElem?_cons_succ, List.getElem?_cons_zero]; exact rfl)
    case st_21 =>
      go_simp
      (first | (go_at_call 76; first | (with_reducible refine (g1 _).mono ?_; rintro e w' ⟨rfl, nd, rfl⟩)))
      refine hK.out _ _ (by ((try dsimp only); (first | exact ⟨tv1.drew.c _ hd, tv1.drew.c _ ha⟩ | exact ⟨(tv1.drew.drewN _).c _ hd, (tv1.drew.drewN _).c _ ha⟩ | exact ⟨(tv1.drewN _).c _ hd, (tv1.drewN _).c _ ha⟩))) (fun hHeld => ?_)
      clear hK K
      try simp only [Act.put, List.setIfInBounds_toArray, List.set_cons_zero, List.set_cons_succ]
      refine anyZ_take (i := 9) (oi := ?oi_22) (v := ?v_22) ?hi_22 ?hz_22 ?hs_22 ?hf_22 ?hr_22 ?hQ_22 (Or.inl ⟨?hw_22, ?hy_22⟩) ?hS_22 ?hrest_22
      case hi_22 => (simp only [List.getElem?_toArray, List.getElem?_cons_succ, List.getElem?_cons_zero]; exact rfl)
      case hz_22 => kernel_rfl
      case hs_22 => kernel_rfl
      case hf_22 => kernel_rfl
      case hr_22 => kernel_rfl
      case hQ_22 => exact fun _ _ _ h => h
      case hw_22 => rfl
      case hS_22 => assumption
      case hy_22 => (intro w hSw; (try dsimp only at hSw); go_simp; try with_reducible rfl)
      try simp only [Act.put, List.setIfInBounds_toArray, List.set_cons_zero, List.set_cons_succ]
      refine anyZ_ready (rs := [10]) (by kernel_rfl) (by simp) ?_
      refine (AllZ.last (o := ?o_23) ?ho_23 (by rfl) (fun K hK => ?st_23) AllZ.nil)
      case ho_23 => (simp only [List.getElem?_toArray, List.getElem?_cons_succ, List.getElem?_cons_zero]; exact rfl)
      case st_23 =>
        go_simp
        refine hK.out _ _ ?_
        clear hK K
        try simp only [Act.put, List.setIfInBounds_toArray, List.set_cons_zero, List.set_cons_succ]
        refine anyZ_done (by kernel_rfl) ?_ _
        refine NoPanic.normal ?_
        have tv2 : Arr (((W1.drewN (1 + nd)).setCell ⟨w.heap.size, d, none⟩ (.int .u32 (z1 : Nat)))) .u32 w.heap.size 16 (Ob.upd V1 d z1) := (tv1.drewN _).set hd
        have tr2 : Arr (((W1.drewN (1 + nd)).setCell ⟨w.heap.size, d, none⟩ (.int .u32 (z1 : Nat)))) .u32 (w.heap.size + 1) 16 (fun _ => 0) := (tr1.drewN _).far (by omega) _ _
        have hB2 : Below w.heap.size w (((W1.drewN (1 + nd)).setCell ⟨w.heap.size, d, none⟩ (.int .u32 (z1 : Nat)))) := by (repeat' (first | (with_reducible first | exact Below.refl _ _ | assumption | refine Below.alloc ?_ ?_ _ | refine Below.drew ?_ | refine below_drewN ?_ _ | refine Below.setCell ?_ ?_ _ | refine below_via (by with_reducible assumption) ?_ ?_) | omega | (simp only [szs]; omega) | (simp only [szs] at *; omega)))
        have hv2 : Ob.Words32 (Ob.upd V1 d z1) := hv1.upd _ (by rw [← hz1.out]; exact Ob.rot_lt (Ob.xor_lt (hv1 _) (hv1 _)) (by decide))
        clear hHeld
        generalize (((W1.drewN (1 + nd)).setCell ⟨w.heap.size, d, none⟩ (.int .u32 (z1 : Nat)))) = W2 at *
        obtain ⟨V2, hV2⟩ : ∃ V, Hid (Ob.upd V1 d z1 = V) := ⟨_, rfl⟩
        rw [hV2.out] at tv2 hv2
        clear p1 q1 tv1 tr1 hB1 f1 g1
        go_upto_region 3 with (fail)
        -- statement 3
        obtain ⟨z2, hz2⟩ : ∃ z, Hid (Ob.s32 (V2 c) (V2 d) = z) := ⟨_, rfl⟩
        have f2 : IntKind.u32.wrap (((V2 c : Nat) : Int) + ((V2 d : Nat) : Int)) = ((z2 : Nat) : Int) := by rw [← hz2.out, IntKind.wrap_u32]; unfold Ob.s32; omega
        have p2 := tv2.c c hc
        have q2 := tv2.f c hc
        refine wp_region_noPanic ?_
        refine region_lastly (S := (fun w' => w'.cell? ⟨w.heap.size, c, none⟩ = some (.int .u32 (V2 c : Nat)) ∧ w'.cell? ⟨w.heap.size, d, none⟩ = some (.int .u32 (V2 d : Nat)))) [9] (by kernel_rfl) (by ((try dsimp only); (first | exact ⟨tv2.drew.c _ hc, tv2.drew.c _ hd⟩ | exact ⟨(tv2.drew.drewN _).c _ hc, (tv2.drew.drewN _).c _ hd⟩ | exact ⟨(tv2.drewN _).c _ hc, (tv2.drewN _).c _ hd⟩))) (fun hHeld => ?_)
        refine anyZ_take (i := 0) (oi := ?oi_24) (v := ?v_24) ?hi_24 ?hz_24 ?hs_24 ?hf_24 ?hr_24 ?hQ_24 (Or.inl ⟨?hw_24, ?hy_24⟩) ?hS_24 ?hrest_24
        case hi_24 => (simp only [List.getElem?_toArray, List.getElem?_cons_succ, List.getElem?_cons_zero]; exact rfl)
        case hz_24 => kernel_rfl
        case hs_24 => kernel_rfl
        case hf_24 => kernel_rfl
        case hr_24 => kernel_rfl
        case hQ_24 => exact fun _ _ _ h => h
        case hw_24 => rfl
        case hS_24 => assumption
        case hy_24 => (intro w hSw; (try dsimp only at hSw); go_simp; try with_reducible rfl)
        try simp only [Act.put, List.setIfInBounds_toArray, List.set_cons_zero, List.set_cons_succ]
        refine anyZ_take (i := 1) (oi := ?oi_25) (v := ?v_25) ?hi_25 ?hz_25 ?hs_25 ?hf_25 ?hr_25 ?hQ_25 (Or.inl ⟨?hw_25, ?hy_25⟩) ?hS_25 ?hrest_25
        case hi_25 => (simp only [List.getElem?_toArray, List.getElem?_cons_succ, List.getElem?_cons_zero]; exact rfl)
        case hz_25 => kernel_rfl
        case hs_25 => kernel_rfl
        case hf_25 => kernel_rfl
        case hr_25 => kernel_rfl
        case hQ_25 => exact fun _ _ _ h => h
        case hw_25 => rfl
        case hS_25 => assumption
        case hy_25 => (intro w hSw; (try dsimp only at hSw); go_simp; try with_reducible rfl)
        try simp only [Act.put, List.setIfInBounds_toArray, List.set_cons_zero, List.set_cons_succ]
        refine anyZ_take (i := 2) (oi := ?oi_26) (v := ?v_26) ?hi_26 ?hz_26 ?hs_26 ?hf_26 ?hr_26 ?hQ_26 (Or.inl ⟨?hw_26, ?hy_26⟩) ?hS_26 ?hrest_26
        case hi_26 => (simp only [List.getElem?_toArray, List.getElem?_cons_succ, List.getElem?_cons_zero]; exact rfl)
        case hz_26 => kernel_rfl
        case hs_26 => kernel_rfl
        case hf_26 => kernel_rfl
        case hr_26 => kernel_rfl
        case hQ_26 => exact fun _ _ _ h => h
        case hw_26 => rfl
        case hS_26 => assumption
        case hy_26 => (intro w hSw; (try dsimp only at hSw); go_simp; try with_reducible rfl)
        try simp only [Act.put, List.setIfInBounds_toArray, List.set_cons_zero, List.set_cons_succ]
        refine anyZ_take (i := 3) (oi := ?oi_27) (v := ?v_27) ?hi_27 ?hz_27 ?hs_27 ?hf_27 ?hr_27 ?hQ_27 (Or.inl ⟨?hw_27, ?hy_27⟩) ?hS_27 ?hrest_27
        case hi_27 => (simp only [List.getElem?_toArray, List.getElem?_cons_succ, List.getElem?_cons_zero]; exact rfl)
        case hz_27 => kernel_rfl
        case hs_27 => kernel_rfl
        case hf_27 => kernel_rfl
        case hr_27 => kernel_rfl
        case hQ_27 => exact fun _ _ _ h => h
        case hw_27 => rfl
        case hS_27 => assumption
        case hy_27 => (intro w hSw; (try dsimp only at hSw); go_simp; try with_reducible rfl)
        try simp only [Act.put, List.setIfInBounds_toArray, List.set_cons_zero, List.set_cons_succ]
        refine anyZ_take (i := 4) (oi := ?oi_28) (v := ?v_28) ?hi_28 ?hz_28 ?hs_28 ?hf_28 ?hr_28 ?hQ_28 (Or.inl ⟨?hw_28, ?hy_28⟩) ?hS_28 ?hrest_28
        case hi_28 => (simp only [List.getElem?_toArray, List.getElem?_cons_succ, List.getElem?_cons_zero]; exact rfl)
        case hz_28 => kernel_rfl
        case hs_28 => kernel_rfl
        case hf_28 => kernel_rfl
        case hr_28 => kernel_rfl
        case hQ_28 => exact fun _ _ _ h => h
        case hw_28 => rfl
        case hS_28 => assumption
        case hy_28 => (intro w hSw; (try dsimp only at hSw); go_simp; try with_reducible rfl)
        try simp only [Act.put, List.setIfInBounds_toArray, List.set_cons_zero, List.set_cons_succ]
        refine anyZ_take (i := 5) (oi := ?oi_29) (v := ?v_29) ?hi_29 ?hz_29 ?hs_29 ?hf_29 ?hr_29 ?hQ_29 (Or.inl ⟨?hw_29, ?hy_29⟩) ?hS_29 ?hrest_29
        case hi_29 => (simp only [List.getElem?_toArray, List.getElem?_cons_succ, List.getElem?_cons_zero]; exact rfl)
        case hz_29 => kernel_rfl
        case hs_29 => kernel_rfl
        case hf_29 => kernel_rfl
        case hr_29 => kernel_rfl
        case hQ_29 => exact fun _ _ _ h => h
        case hw_29 => rfl
        case hS_29 => assumption
        case hy_29 => (intro w hSw; (try dsimp only at hSw); go_simp; try with_reducible rfl)
        try simp only [Act.put, List.setIfInBounds_toArray, List.set_cons_zero, List.set_cons_succ]
        refine anyZ_take (i := 6) (oi := ?oi_30) (v := ?v_30) ?hi_30 ?hz_30 ?hs_30 ?hf_30 ?hr_30 ?hQ_30 (Or.inl ⟨?hw_30, ?hy_30⟩) ?hS_30 ?hrest_30
        case hi_30 => (simp only [List.getElem?_toArray, List.getElem?_cons_succ, List.getElem?_cons_zero]; exact rfl)
        case hz_30 => kernel_rfl
        case hs_30 => kernel_rfl
        case hf_30 => kernel_rfl
        case hr_30 => kernel_rfl
        case hQ_30 => exact fun _ _ _ h => h
        case hw_30 => rfl
        case hS_30 => assumption
        case hy_30 => (intro w hSw; (try dsimp only at hSw); go_simp; try with_reducible rfl)
        try simp only [Act.put, List.setIfInBounds_toArray, List.set_cons_zero, List.set_cons_succ]
        refine anyZ_take (i := 7) (oi := ?oi_31) (v := ?v_31) ?hi_31 ?hz_31 ?hs_31 ?hf_31 ?hr_31 ?hQ_31 (Or.inl ⟨?hw_31, ?hy_31⟩) ?hS_31 ?hrest_31
        case hi_31 => (simp only [List.getElem?_toArray, List.getElem?_cons_succ, List.getElem?_cons_zero]; exact rfl)
        case hz_31 => kernel_rfl
        case hs_31 => kernel_rfl
        case hf_31 => kernel_rfl
        case hr_31 => kernel_rfl
        case hQ_31 => exact fun _ _ _ h => h
        case hw_31 => rfl
        case hS_31 => assumption
        case hy_31 => (intro w hSw; (try dsimp only at hSw); go_simp; try with_reducible rfl)
        try simp only [Act.put, List.setIfInBounds_toArray, List.set_cons_zero, List.set_cons_succ]
        refine anyZ_take (i := 8) (oi := ?oi_32) (v := ?v_32) ?hi_32 ?hz_32 ?hs_32 ?hf_32 ?hr_32 ?hQ_32 (Or.inl ⟨?hw_32, ?hy_32⟩) ?hS_32 ?hrest_32
        case hi_32 => (simp only [List.getElem?_toArray, List.getElem?_cons_succ, List.getElem?_cons_zero]; exact rfl)
        case hz_32 => kernel_rfl
        case hs_32 => kernel_rfl
        case hf_32 => kernel_rfl
        case hr_32 => kernel_rfl
        case hQ_32 => exact fun _ _ _ h => h
        case hw_32 => rfl
        case hS_32 => assumption
        case hy_32 => (intro w hSw; (try dsimp only at hSw); go_simp; try with_reducible rfl)
        try simp only [Act.put, List.setIfInBounds_toArray, List.set_cons_zero, List.set_cons_succ]
        refine anyZ_ready (rs := [9]) (by kernel_rfl) (by simp) ?_
        refine (AllZ.last (o := ?o_33) ?ho_33 (by rfl) (fun K hK => ?st_33) AllZ.nil)
        case ho_33 => (simp only [List.getElem?_toArray, List.getElem?_cons_succ, List.getElem?_cons_zero]; exact rfl)
        case st_33 =>
          go_simp
          refine hK.out _ _ ?_
          clear hK K
          try simp only [Act.put, List.setIfInBounds_toArray, List.set_cons_zero, List.set_cons_succ]
          refine anyZ_done (by kernel_rfl) ?_ _
          refine NoPanic.normal ?_
          have tv3 : Arr ((W2.setCell ⟨w.heap.size, c, none⟩ (.int .u32 (z2 : Nat))).drew) .u32 w.heap.size 16 (Ob.upd V2 c z2) := (tv2.set hc).drew
          have tr3 : Arr ((W2.setCell ⟨w.heap.size, c, none⟩ (.int .u32 (z2 : Nat))).drew) .u32 (w.heap.size + 1) 16 (fun _ => 0) := (tr2.far (by omega) _ _).drew
          have hB3 : Below w.heap.size w ((W2.setCell ⟨w.heap.size, c, none⟩ (.int .u32 (z2 : Nat))).drew) := by (repeat' (first | (with_reducible first | exact Below.refl _ _ | assumption | refine Below.alloc ?_ ?_ _ | refine Below.drew ?_ | refine below_drewN ?_ _ | refine Below.setCell ?_ ?_ _ | refine below_via (by with_reducible assumption) ?_ ?_) | omega | (simp only [szs]; omega) | (simp only [szs] at *; omega)))
          have hv3 : Ob.Words32 (Ob.upd V2 c z2) := hv2.upd _ (by rw [← hz2.out]; exact Ob.s32_lt _ _)
          clear hHeld
          generalize ((W2.setCell ⟨w.heap.size, c, none⟩ (.int .u32 (z2 : Nat))).drew) = W3 at *
          obtain ⟨V3, hV3⟩ : ∃ V, Hid (Ob.upd V2 c z2 = V) := ⟨_, rfl⟩
          rw [hV3.out] at tv3 hv3
          clear p2 q2 tv2 tr2 hB2 f2
          go_upto_region 4 with (fail)
          -- statement 4
          obtain ⟨z3, hz3⟩ : ∃ z, Hid (Ob.rot (V3 b ^^^ V3 c) 12 = z) := ⟨_, rfl⟩
          have f3 := xor_u32 (V3 b) (V3 c) (hv3 _) (hv3 _)
          have g3 : ∀ w, Calls Tryd.prog 76 #[.int .u32 ((V3 b ^^^ V3 c : Nat) : Int), .int .i64 12] w fun e w' => e = .returned (.int .u32 (z3 : Nat)) ∧ ∃ nd, w' = w.drewN nd := by rw [← hz3.out]; exact rrollW _ 12 (Ob.xor_lt (hv3 _) (hv3 _)) (by decide)
          have p3 := tv3.c b hb
          have q3 := tv3.f b hb
          refine wp_region_noPanic ?_
          refine region_lastly (S := (fun w' => w'.cell? ⟨w.heap.size, b, none⟩ = some (.int .u32 (V3 b : Nat)) ∧ w'.cell? ⟨w.heap.size, c, none⟩ = some (.int .u32 (V3 c : Nat)))) [10] (by kernel_rfl) (by ((try dsimp only); (first | exact ⟨tv3.drew.c _ hb, tv3.drew.c _ hc⟩ | exact ⟨(tv3.drew.drewN _).c _ hb, (tv3.drew.drewN _).c _ hc⟩ | exact ⟨(tv3.drewN _).c _ hb, (tv3.drewN _).c _ hc⟩))) (fun hHeld => ?_)
          refine anyZ_take (i := 0) (oi := ?oi_34) (v := ?v_34) ?hi_34 ?hz_34 ?hs_34 ?hf_34 ?hr_34 ?hQ_34 (Or.inl ⟨?hw_34, ?hy_34⟩) ?hS_34 ?hrest_34
          case hi_34 => (simp only [List.getElem?_toArray, List.getElem?_cons_succ, List.getElem?_cons_zero]; exact rfl)
          case hz_34 => kernel_rfl
          case hs_34 => kernel_rfl
          case hf_34 => kernel_rfl
          case hr_34 => kernel_rfl
          case hQ_34 => exact fun _ _ _ h => h
          case hw_34 => rfl
          case hS_34 => assumption
          case hy_34 => (intro w hSw; (try dsimp only at hSw); go_simp; try with_reducible rfl)
          try simp only [Act.put, List.setIfInBounds_toArray, List.set_cons_zero, List.set_cons_succ]
          refine anyZ_take (i := 1) (oi := ?oi_35) (v := ?v_35) ?hi_35 ?hz_35 ?hs_35 ?hf_35 ?hr_35 ?hQ_35 (Or.inl ⟨?hw_35, ?hy_35⟩) ?hS_35 ?hrest_35
          case hi_35 => (simp only [List.getElem?_toArray, List.getElem?_cons_succ, List.getElem?_cons_zero]; exact rfl)
          case hz_35 => kernel_rfl
          case hs_35 => kernel_rfl
          case hf_35 => kernel_rfl
          case hr_35 => kernel_rfl
          case hQ_35 => exact fun _ _ _ h => h
          case hw_35 => rfl
          case hS_35 => assumption
          case hy_35 => (intro w hSw; (try dsimp only at hSw); go_simp; try with_reducible rfl)
          try simp only [Act.put, List.setIfInBounds_toArray, List.set_cons_zero, List.set_cons_succ]
          refine anyZ_take (i := 2) (oi := ?oi_36) (v := ?v_36) ?hi_36 ?hz_36 ?hs_36 ?hf_36 ?hr_36 ?hQ_36 (Or.inl ⟨?hw_36, ?hy_36⟩) ?hS_36 ?hrest_36
          case hi_36 => (simp only [List.getElem?_toArray, List.getElem?_cons_succ, List.getElem?_cons_zero]; exact rfl)
          case hz_36 => kernel_rfl
          case hs_36 => kernel_rfl
          case hf_36 => kernel_rfl
          case hr_36 => kernel_rfl
          case hQ_36 => exact fun _ _ _ h => h
          case hw_36 => rfl
          case hS_36 => assumption
          case hy_36 => (intro w hSw; (try dsimp only at hSw); go_simp; try with_reducible rfl)
          try simp only [Act.put, List.setIfInBounds_toArray, List.set_cons_zero, List.set_cons_succ]
          refine anyZ_take (i := 3) (oi := ?oi_37) (v := ?v_37) ?hi_37 ?hz_37 ?hs_37 ?hf_37 ?hr_37 ?hQ_37 (Or.inl ⟨?hw_37, ?hy_37⟩) ?hS_37 ?hrest_37
          case hi_37 => (simp only [List.getElem?_toArray, List.getElem?_cons_succ, List.getElem?_cons_zero]; exact rfl)
          case hz_37 => kernel_rfl
          case hs_37 => kernel_rfl
          case hf_37 => kernel_rfl
          case hr_37 => kernel_rfl
          case hQ_37 => exact fun _ _ _ h => h
          case hw_37 => rfl
          case hS_37 => assumption
          case hy_37 => (intro w hSw; (try dsimp only at hSw); go_simp; try with_reducible rfl)
          try simp only [Act.put, List.setIfInBounds_toArray, List.set_cons_zero, List.set_cons_succ]
          refine anyZ_take (i := 4) (oi := ?oi_38) (v := ?v_38) ?hi_38 ?hz_38 ?hs_38 ?hf_38 ?hr_38 ?hQ_38 (Or.inl ⟨?hw_38, ?hy_38⟩) ?hS_38 ?hrest_38
          case hi_38 => (simp only [List.getElem?_toArray, List.getElem?_cons_succ, List.getElem?_cons_zero]; exact rfl)
          case hz_38 => kernel_rfl
          case hs_38 => kernel_rfl
          case hf_38 => kernel_rfl
          case hr_38 => kernel_rfl
          case hQ_38 => exact fun _ _ _ h => h
          case hw_38 => rfl
          case hS_38 => assumption
          case hy_38 => (intro w hSw; (try dsimp only at hSw); go_simp; try with_reducible rfl)
          try simp only [Act.put, List.setIfInBounds_toArray, List.set_cons_zero, List.set_cons_succ]
          refine anyZ_take (i := 5) (oi := ?oi_39) (v := ?v_39) ?hi_39 ?hz_39 ?hs_39 ?hf_39 ?hr_39 ?hQ_39 (Or.inl ⟨?hw_39, ?hy_39⟩) ?hS_39 ?hrest_39
          case hi_39 => (simp only [List.getElem?_toArray, List.getElem?_cons_succ, List.getElem?_cons_zero]; exact rfl)
          case hz_39 => kernel_rfl
          case hs_39 => kernel_rfl
          case hf_39 => kernel_rfl
          case hr_39 => kernel_rfl
          case hQ_39 => exact fun _ _ _ h => h
          case hw_39 => rfl
          case hS_39 => assumption
          case hy_39 => (intro w hSw; (try dsimp only at hSw); go_simp; try with_reducible rfl)
          try simp only [Act.put, List.setIfInBounds_toArray, List.set_cons_zero, List.set_cons_succ]
          refine anyZ_take (i := 6) (oi := ?oi_40) (v := ?v_40) ?hi_40 ?hz_40 ?hs_40 ?hf_40 ?hr_40 ?hQ_40 (Or.inl ⟨?hw_40, ?hy_40⟩) ?hS_40 ?hrest_40
          case hi_40 => (simp only [List.getElem?_toArray, List.getElem?_cons_succ, List.getElem?_cons_zero]; exact rfl)
          case hz_40 => kernel_rfl
          case hs_40 => kernel_rfl
          case hf_40 => kernel_rfl
          case hr_40 => kernel_rfl
          case hQ_40 => exact fun _ _ _ h => h
          case hw_40 => rfl
          case hS_40 => assumption
          case hy_40 => (intro w hSw; (try dsimp only at hSw); go_simp; try with_reducible rfl)
          try simp only [Act.put, List.setIfInBounds_toArray, List.set_cons_zero, List.set_cons_succ]
          refine anyZ_take (i := 7) (oi := ?oi_41) (v := ?v_41) ?hi_41 ?hz_41 ?hs_41 ?hf_41 ?hr_41 ?hQ_41 (Or.inl ⟨?hw_41, ?hy_41⟩) ?hS_41 ?hrest_41
          case hi_41 => (simp only [List.getElem?_toArray, List.getElem?_cons_succ, List.getElem?_cons_zero]; exact rfl)
          case hz_41 => kernel_rfl
          case hs_41 => kernel_rfl
          case hf_41 => kernel_rfl
          case hr_41 => kernel_rfl
          case hQ_41 => exact fun _ _ _ h => h
          case hw_41 => rfl
          case hS_41 => assumption
          case hy_41 => (intro w hSw; (try dsimp only at hSw); go_simp; try with_reducible rfl)
          try simp only [Act.put, List.setIfInBounds_toArray, List.set_cons_zero, List.set_cons_succ]
          refine anyZ_ready (rs := [8]) (by kernel_rfl) (by simp) ?_
          refine (AllZ.cons (o := ?o_42) ?ho_42 (fun K hK => ?st_42) AllZ.nil)
          case ho_42 => (simp only [List.getElem?_toArray, List.getElem?_cons_succ, List.getElem?_cons_zero]; exact rfl)
          case st_42 =>
            go_simp
            (first | (go_at_call 76; first | (with_reducible refine (g3 _).mono ?_; rintro e w' ⟨rfl, nd, rfl⟩)))
            refine hK.out _ _ (by ((try dsimp only); (first | exact ⟨tv3.drew.c _ hb, tv3.drew.c _ hc⟩ | exact ⟨(tv3.drew.drewN _).c _ hb, (tv3.drew.drewN _).c _ hc⟩ | exact ⟨(tv3.drewN _).c _ hb, (tv3.drewN _).c _ hc⟩))) (fun hHeld => ?_)
            clear hK K
            try simp only [Act.put, List.setIfInBounds_toArray, List.set_cons_zero, List.set_cons_succ]
            refine anyZ_take (i := 9) (oi := ?oi_43) (v := ?v_43) ?hi_43 ?hz_43 ?hs_43 ?hf_43 ?hr_43 ?hQ_43 (Or.inl ⟨?hw_43, ?hy_43⟩) ?hS_43 ?hrest_43
            case hi_43 => (simp only [List.getElem?_toArray, List.getElem?_cons_succ, List.getElem?_cons_zero]; exact rfl)
            case hz_43 => kernel_rfl
            case hs_43 => kernel_rfl
            case hf_43 => kernel_rfl
            case hr_43 => kernel_rfl
            case hQ_43 => exact fun _ _ _ h => h
            case hw_43 => rfl
            case hS_43 => assumption
            case hy_43 => (intro w hSw; (try dsimp only at hSw); go_simp; try with_reducible rfl)
            try simp only [Act.put, List.setIfInBounds_toArray, List.set_cons_zero, List.set_cons_succ]
            refine anyZ_ready (rs := [10]) (by kernel_rfl) (by simp) ?_
            refine (AllZ.last (o := ?o_44) ?ho_44 (by rfl) (fun K hK => ?st_44) AllZ.nil)
            case ho_44 => (simp only [List.getElem?_toArray, List.getElem?_cons_succ, List.getElem?_cons_zero]; exact rfl)
            case st_44 =>
              go_simp
              refine hK.out _ _ ?_
              clear hK K
              try simp only [Act.put, List.setIfInBounds_toArray, List.set_cons_zero, List.set_cons_succ]
              refine anyZ_done (by kernel_rfl) ?_ _
              refine NoPanic.normal ?_
              have tv4 : Arr (((W3.drewN (1 + nd)).setCell ⟨w.heap.size, b, none⟩ (.int .u32 (z3 : Nat)))) .u32 w.heap.size 16 (Ob.upd V3 b z3) := (tv3.drewN _).set hb
              have tr4 : Arr (((W3.drewN (1 + nd)).setCell ⟨w.heap.size, b, none⟩ (.int .u32 (z3 : Nat)))) .u32 (w.heap.size + 1) 16 (fun _ => 0) := (tr3.drewN _).far (by omega) _ _
              have hB4 : Below w.heap.size w (((W3.drewN (1 + nd)).setCell ⟨w.heap.size, b, none⟩ (.int .u32 (z3 : Nat)))) := by (repeat' (first | (with_reducible first | exact Below.refl _ _ | assumption | refine Below.alloc ?_ ?_ _ | refine Below.drew ?_ | refine below_drewN ?_ _ | refine Below.setCell ?_ ?_ _ | refine below_via (by with_reducible assumption) ?_ ?_) | omega | (simp only [szs]; omega) | (simp only [szs] at *; omega)))
              have hv4 : Ob.Words32 (Ob.upd V3 b z3) := hv3.upd _ (by rw [← hz3.out]; exact Ob.rot_lt (Ob.xor_lt (hv3 _) (hv3 _)) (by decide))
              clear hHeld
              generalize (((W3.drewN (1 + nd)).setCell ⟨w.heap.size, b, none⟩ (.int .u32 (z3 : Nat)))) = W4 at *
              obtain ⟨V4, hV4⟩ : ∃ V, Hid (Ob.upd V3 b z3 = V) := ⟨_, rfl⟩
              rw [hV4.out] at tv4 hv4
              clear p3 q3 tv3 tr3 hB3 f3 g3
              go_upto_region 5 with (fail)
              -- statement 5
              obtain ⟨z4, hz4⟩ : ∃ z, Hid (Ob.s32 (Ob.s32 (V4 a) (V4 b)) y = z) := ⟨_, rfl⟩
              obtain ⟨y4, hy4⟩ : ∃ y, Hid (Ob.s32 (V4 a) (V4 b) = y) := ⟨_, rfl⟩
              have f4 : IntKind.u32.wrap (((V4 a : Nat) : Int) + ((V4 b : Nat) : Int)) = ((y4 : Nat) : Int) := by rw [← hy4.out, IntKind.wrap_u32]; unfold Ob.s32; omega
              have g4 : IntKind.u32.wrap (((y4 : Nat) : Int) + ((y : Nat) : Int)) = ((z4 : Nat) : Int) := by rw [← hz4.out, hy4.out, IntKind.wrap_u32]; unfold Ob.s32; omega
              have p4 := tv4.c a ha
              have q4 := tv4.f a ha
              refine wp_region_noPanic ?_
              refine region_lastly (S := (fun w' => w'.cell? ⟨w.heap.size, a, none⟩ = some (.int .u32 (V4 a : Nat)) ∧ w'.cell? ⟨w.heap.size, b, none⟩ = some (.int .u32 (V4 b : Nat)))) [11] (by kernel_rfl) (by ((try dsimp only); (first | exact ⟨tv4.drew.c _ ha, tv4.drew.c _ hb⟩ | exact ⟨(tv4.drew.drewN _).c _ ha, (tv4.drew.drewN _).c _ hb⟩ | exact ⟨(tv4.drewN _).c _ ha, (tv4.drewN _).c _ hb⟩))) (fun hHeld => ?_)
              refine anyZ_take (i := 0) (oi := ?oi_45) (v := ?v_45) ?hi_45 ?hz_45 ?hs_45 ?hf_45 ?hr_45 ?hQ_45 (Or.inl ⟨?hw_45, ?hy_45⟩) ?hS_45 ?hrest_45
              case hi_45 => (simp only [List.getElem?_toArray, List.getElem?_cons_succ, List.getElem?_cons_zero]; exact rfl)
              case hz_45 => kernel_rfl
              case hs_45 => kernel_rfl
              case hf_45 => kernel_rfl
              case hr_45 => kernel_rfl
              case hQ_45 => exact fun _ _ _ h => h
              case hw_45 => rfl
              case hS_45 => assumption
              case hy_45 => (intro w hSw; (try dsimp only at hSw); go_simp; try with_reducible rfl)
              try simp only [Act.put, List.setIfInBounds_toArray, List.set_cons_zero, List.set_cons_succ]
              refine anyZ_take (i := 1) (oi := ?oi_46) (v := ?v_46) ?hi_46 ?hz_46 ?hs_46 ?hf_46 ?hr_46 ?hQ_46 (Or.inl ⟨?hw_46, ?hy_46⟩) ?hS_46 ?hrest_46
              case hi_46 => (simp only [List.getElem?_toArray, List.getElem?_cons_succ, List.getElem?_cons_zero]; exact rfl)
              case hz_46 => kernel_rfl
              case hs_46 => kernel_rfl
              case hf_46 => kernel_rfl
              case hr_46 => kernel_rfl
              case hQ_46 => exact fun _ _ _ h => h
              case hw_46 => rfl
              case hS_46 => assumption
              case hy_46 => (intro w hSw; (try dsimp only at hSw); go_simp; try with_reducible rfl)
              try simp only [Act.put, List.setIfInBounds_toArray, List.set_cons_zero, List.set_cons_succ]
              refine anyZ_take (i := 2) (oi := ?oi_47) (v := ?v_47) ?hi_47 ?hz_47 ?hs_47 ?hf_47 ?hr_47 ?hQ_47 (Or.inl ⟨?hw_47, ?hy_47⟩) ?hS_47 ?hrest_47
              case hi_47 => (simp only [List.getElem?_toArray, List.getElem?_cons_succ, List.getElem?_cons_zero]; exact rfl)
              case hz_47 => kernel_rfl
              case hs_47 => kernel_rfl
              case hf_47 => kernel_rfl
              case hr_47 => kernel_rfl
              case hQ_47 => exact fun _ _ _ h => h
              case hw_47 => rfl
              case hS_47 => assumption
              case hy_47 => (intro w hSw; (try dsimp only at hSw); go_simp; try with_reducible rfl)
              try simp only [Act.put, List.setIfInBounds_toArray, List.set_cons_zero, List.set_cons_succ]
              refine anyZ_take (i := 3) (oi := ?oi_48) (v := ?v_48) ?hi_48 ?hz_48 ?hs_48 ?hf_48 ?hr_48 ?hQ_48 (Or.inl ⟨?hw_48, ?hy_48⟩) ?hS_48 ?hrest_48
              case hi_48 => (simp only [List.getElem?_toArray, List.getElem?_cons_succ, List.getElem?_cons_zero]; exact rfl)
              case hz_48 => kernel_rfl
              case hs_48 => kernel_rfl
              case hf_48 => kernel_rfl
              case hr_48 => kernel_rfl
              case hQ_48 => exact fun _ _ _ h => h
              case hw_48 => rfl
              case hS_48 => assumption
              case hy_48 => (intro w hSw; (try dsimp only at hSw); go_simp; try with_reducible rfl)
              try simp only [Act.put, List.setIfInBounds_toArray, List.set_cons_zero, List.set_cons_succ]
              refine anyZ_take (i := 4) (oi := ?oi_49) (v := ?v_49) ?hi_49 ?hz_49 ?hs_49 ?hf_49 ?hr_49 ?hQ_49 (Or.inl ⟨?hw_49, ?hy_49⟩) ?hS_49 ?hrest_49
              case hi_49 => (simp only [List.getElem?_toArray, List.getElem?_cons_succ, List.getElem?_cons_zero]; exact rfl)
              case hz_49 => kernel_rfl
              case hs_49 => kernel_rfl
              case hf_49 => kernel_rfl
              case hr_49 => kernel_rfl
              case hQ_49 => exact fun _ _ _ h => h
              case hw_49 => rfl
              case hS_49 => assumption
              case hy_49 => (intro w hSw; (try dsimp only at hSw); go_simp; try with_reducible rfl)
              try simp only [Act.put, List.setIfInBounds_toArray, List.set_cons_zero, List.set_cons_succ]
              refine anyZ_take (i := 5) (oi := ?oi_50) (v := ?v_50) ?hi_50 ?hz_50 ?hs_50 ?hf_50 ?hr_50 ?hQ_50 (Or.inl ⟨?hw_50, ?hy_50⟩) ?hS_50 ?hrest_50
              case hi_50 => (simp only [List.getElem?_toArray, List.getElem?_cons_succ, List.getElem?_cons_zero]; exact rfl)
              case hz_50 => kernel_rfl
              case hs_50 => kernel_rfl
              case hf_50 => kernel_rfl
              case hr_50 => kernel_rfl
              case hQ_50 => exact fun _ _ _ h => h
              case hw_50 => rfl
              case hS_50 => assumption
              case hy_50 => (intro w hSw; (try dsimp only at hSw); go_simp; try with_reducible rfl)
              try simp only [Act.put, List.setIfInBounds_toArray, List.set_cons_zero, List.set_cons_succ]
              refine anyZ_take (i := 6) (oi := ?oi_51) (v := ?v_51) ?hi_51 ?hz_51 ?hs_51 ?hf_51 ?hr_51 ?hQ_51 (Or.inl ⟨?hw_51, ?hy_51⟩) ?hS_51 ?hrest_51
              case hi_51 => (simp only [List.getElem?_toArray, List.getElem?_cons_succ, List.getElem?_cons_zero]; exact rfl)
              case hz_51 => kernel_rfl
              case hs_51 => kernel_rfl
              case hf_51 => kernel_rfl
              case hr_51 => kernel_rfl
              case hQ_51 => exact fun _ _ _ h => h
              case hw_51 => rfl
              case hS_51 => assumption
              case hy_51 => (intro w hSw; (try dsimp only at hSw); go_simp; try with_reducible rfl)
              try simp only [Act.put, List.setIfInBounds_toArray, List.set_cons_zero, List.set_cons_succ]
              refine anyZ_take (i := 7) (oi := ?oi_52) (v := ?v_52) ?hi_52 ?hz_52 ?hs_52 ?hf_52 ?hr_52 ?hQ_52 (Or.inl ⟨?hw_52, ?hy_52⟩) ?hS_52 ?hrest_52
              case hi_52 => (simp only [List.getElem?_toArray, List.getElem?_cons_succ, List.getElem?_cons_zero]; exact rfl)
              case hz_52 => kernel_rfl
              case hs_52 => kernel_rfl
              case hf_52 => kernel_rfl
              case hr_52 => kernel_rfl
              case hQ_52 => exact fun _ _ _ h => h
              case hw_52 => rfl
              case hS_52 => assumption
              case hy_52 => (intro w hSw; (try dsimp only at hSw); go_simp; try with_reducible rfl)
              try simp only [Act.put, List.setIfInBounds_toArray, List.set_cons_zero, List.set_cons_succ]
              refine anyZ_take (i := 8) (oi := ?oi_53) (v := ?v_53) ?hi_53 ?hz_53 ?hs_53 ?hf_53 ?hr_53 ?hQ_53 (Or.inl ⟨?hw_53, ?hy_53⟩) ?hS_53 ?hrest_53
              case hi_53 => (simp only [List.getElem?_toArray, List.getElem?_cons_succ, List.getElem?_cons_zero]; exact rfl)
              case hz_53 => kernel_rfl
              case hs_53 => kernel_rfl
              case hf_53 => kernel_rfl
              case hr_53 => kernel_rfl
              case hQ_53 => exact fun _ _ _ h => h
              case hw_53 => rfl
              case hS_53 => assumption
              case hy_53 => (intro w hSw; (try dsimp only at hSw); go_simp; try with_reducible rfl)
              try simp only [Act.put, List.setIfInBounds_toArray, List.set_cons_zero, List.set_cons_succ]
              refine anyZ_take (i := 9) (oi := ?oi_54) (v := ?v_54) ?hi_54 ?hz_54 ?hs_54 ?hf_54 ?hr_54 ?hQ_54 (Or.inl ⟨?hw_54, ?hy_54⟩) ?hS_54 ?hrest_54
              case hi_54 => (simp only [List.getElem?_toArray, List.getElem?_cons_succ, List.getElem?_cons_zero]; exact rfl)
              case hz_54 => kernel_rfl
              case hs_54 => kernel_rfl
              case hf_54 => kernel_rfl
              case hr_54 => kernel_rfl
              case hQ_54 => exact fun _ _ _ h => h
              case hw_54 => rfl
              case hS_54 => assumption
              case hy_54 => (intro w hSw; (try dsimp only at hSw); go_simp; try with_reducible rfl)
              try simp only [Act.put, List.setIfInBounds_toArray, List.set_cons_zero, List.set_cons_succ]
              refine anyZ_take (i := 10) (oi := ?oi_55) (v := ?v_55) ?hi_55 ?hz_55 ?hs_55 ?hf_55 ?hr_55 ?hQ_55 (Or.inl ⟨?hw_55, ?hy_55⟩) ?hS_55 ?hrest_55
              case hi_55 => (simp only [List.getElem?_toArray, List.getElem?_cons_succ, List.getElem?_cons_zero]; exact rfl)
              case hz_55 => kernel_rfl
              case hs_55 => kernel_rfl
              case hf_55 => kernel_rfl
              case hr_55 => kernel_rfl
              case hQ_55 => exact fun _ _ _ h => h
              case hw_55 => rfl
              case hS_55 => assumption
              case hy_55 => (intro w hSw; (try dsimp only at hSw); go_simp; try with_reducible rfl)
              try simp only [Act.put, List.setIfInBounds_toArray, List.set_cons_zero, List.set_cons_succ]
              refine anyZ_ready (rs := [11]) (by kernel_rfl) (by simp) ?_
              refine (AllZ.last (o := ?o_56) ?ho_56 (by rfl) (fun K hK => ?st_56) AllZ.nil)
              case ho_56 => (simp only [List.getElem?_toArray, List.getElem?_cons_succ, List.getElem?_cons_zero]; exact rfl)
              case st_56 =>
                go_simp
                refine hK.out _ _ ?_
                clear hK K
                try simp only [Act.put, List.setIfInBounds_toArray, List.set_cons_zero, List.set_cons_succ]
                refine anyZ_done (by kernel_rfl) ?_ _
                refine NoPanic.normal ?_
                have tv5 : Arr ((W4.setCell ⟨w.heap.size, a, none⟩ (.int .u32 (z4 : Nat))).drew) .u32 w.heap.size 16 (Ob.upd V4 a z4) := (tv4.set ha).drew
                have tr5 : Arr ((W4.setCell ⟨w.heap.size, a, none⟩ (.int .u32 (z4 : Nat))).drew) .u32 (w.heap.size + 1) 16 (fun _ => 0) := (tr4.far (by omega) _ _).drew
                have hB5 : Below w.heap.size w ((W4.setCell ⟨w.heap.size, a, none⟩ (.int .u32 (z4 : Nat))).drew) := by (repeat' (first | (with_reducible first | exact Below.refl _ _ | assumption | refine Below.alloc ?_ ?_ _ | refine Below.drew ?_ | refine below_drewN ?_ _ | refine Below.setCell ?_ ?_ _ | refine below_via (by with_reducible assumption) ?_ ?_) | omega | (simp only [szs]; omega) | (simp only [szs] at *; omega)))
                have hv5 : Ob.Words32 (Ob.upd V4 a z4) := hv4.upd _ (by rw [← hz4.out]; exact Ob.s32_lt _ _)
                clear hHeld
                generalize ((W4.setCell ⟨w.heap.size, a, none⟩ (.int .u32 (z4 : Nat))).drew) = W5 at *
                obtain ⟨V5, hV5⟩ : ∃ V, Hid (Ob.upd V4 a z4 = V) := ⟨_, rfl⟩
                rw [hV5.out] at tv5 hv5
                clear p4 q4 tv4 tr4 hB4 f4 g4
                go_upto_region 6 with (fail)
                -- statement 6
                obtain ⟨z5, hz5⟩ : ∃ z, Hid (Ob.rot (V5 d ^^^ V5 a) 8 = z) := ⟨_, rfl⟩
                have f5 := xor_u32 (V5 d) (V5 a) (hv5 _) (hv5 _)
                have g5 : ∀ w, Calls Tryd.prog 76 #[.int .u32 ((V5 d ^^^ V5 a : Nat) : Int), .int .i64 8] w fun e w' => e = .returned (.int .u32 (z5 : Nat)) ∧ ∃ nd, w' = w.drewN nd := by rw [← hz5.out]; exact rrollW _ 8 (Ob.xor_lt (hv5 _) (hv5 _)) (by decide)
                have p5 := tv5.c d hd
                have q5 := tv5.f d hd
                refine wp_region_noPanic ?_
                refine region_lastly (S := (fun w' => w'.cell? ⟨w.heap.size, d, none⟩ = some (.int .u32 (V5 d : Nat)) ∧ w'.cell? ⟨w.heap.size, a, none⟩ = some (.int .u32 (V5 a : Nat)))) [10] (by kernel_rfl) (by ((try dsimp only); (first | exact ⟨tv5.drew.c _ hd, tv5.drew.c _ ha⟩ | exact ⟨(tv5.drew.drewN _).c _ hd, (tv5.drew.drewN _).c _ ha⟩ | exact ⟨(tv5.drewN _).c _ hd, (tv5.drewN _).c _ ha⟩))) (fun hHeld => ?_)
                refine anyZ_take (i := 0) (oi := ?oi_57) (v := ?v_57) ?hi_57 ?hz_57 ?hs_57 ?hf_57 ?hr_57 ?hQ_57 (Or.inl ⟨?hw_57, ?hy_57⟩) ?hS_57 ?hrest_57
                case hi_57 => (simp only [List.getElem?_toArray, List.getElem?_cons_succ, List.getElem?_cons_zero]; exact rfl)
                case hz_57 => kernel_rfl
                case hs_57 => kernel_rfl
                case hf_57 => kernel_rfl
                case hr_57 => kernel_rfl
                case hQ_57 => exact fun _ _ _ h => h
                case hw_57 => rfl
                case hS_57 => assumption
                case hy_57 => (intro w hSw; (try dsimp only at hSw); go_simp; try with_reducible rfl)
                try simp only [Act.put, List.setIfInBounds_toArray, List.set_cons_zero, List.set_cons_succ]
                refine anyZ_take (i := 1) (oi := ?oi_58) (v := ?v_58) ?hi_58 ?hz_58 ?hs_58 ?hf_58 ?hr_58 ?hQ_58 (Or.inl ⟨?hw_58, ?hy_58⟩) ?hS_58 ?hrest_58
                case hi_58 => (simp only [List.getElem?_toArray, List.getElem?_cons_succ, List.getElem?_cons_zero]; exact rfl)
                case hz_58 => kernel_rfl
                case hs_58 => kernel_rfl
                case hf_58 => kernel_rfl
                case hr_58 => kernel_rfl
                case hQ_58 => exact fun _ _ _ h => h
                case hw_58 => rfl
                case hS_58 => assumption
                case hy_58 => (intro w hSw; (try dsimp only at hSw); go_simp; try with_reducible rfl)
                try simp only [Act.put, List.setIfInBounds_toArray, List.set_cons_zero, List.set_cons_succ]
                refine anyZ_take (i := 2) (oi := ?oi_59) (v := ?v_59) ?hi_59 ?hz_59 ?hs_59 ?hf_59 ?hr_59 ?hQ_59 (Or.inl ⟨?hw_59, ?hy_59⟩) ?hS_59 ?hrest_59
                case hi_59 => (simp only [List.getElem?_toArray, List.getElem?_cons_succ, List.getElem?_cons_zero]; exact rfl)
                case hz_59 => kernel_rfl
                case hs_59 => kernel_rfl
                case hf_59 => kernel_rfl
                case hr_59 => kernel_rfl
                case hQ_59 => exact fun _ _ _ h => h
                case hw_59 => rfl
                case hS_59 => assumption
                case hy_59 => (intro w hSw; (try dsimp only at hSw); go_simp; try with_reducible rfl)
                try simp only [Act.put, List.setIfInBounds_toArray, List.set_cons_zero, List.set_cons_succ]
                refine anyZ_take (i := 3) (oi := ?oi_60) (v := ?v_60) ?hi_60 ?hz_60 ?hs_60 ?hf_60 ?hr_60 ?hQ_60 (Or.inl ⟨?hw_60, ?hy_60⟩) ?hS_60 ?hrest_60
                case hi_60 => (simp only [List.getElem?_toArray, List.getElem?_cons_succ, List.getElem?_cons_zero]; exact rfl)
                case hz_60 => kernel_rfl
                case hs_60 => kernel_rfl
                case hf_60 => kernel_rfl
                case hr_60 => kernel_rfl
                case hQ_60 => exact fun _ _ _ h => h
                case hw_60 => rfl
                case hS_60 => assumption
                case hy_60 => (intro w hSw; (try dsimp only at hSw); go_simp; try with_reducible rfl)
                try simp only [Act.put, List.setIfInBounds_toArray, List.set_cons_zero, List.set_cons_succ]
                refine anyZ_take (i := 4) (oi := ?oi_61) (v := ?v_61) ?hi_61 ?hz_61 ?hs_61 ?hf_61 ?hr_61 ?hQ_61 (Or.inl ⟨?hw_61, ?hy_61⟩) ?hS_61 ?hrest_61
                case hi_61 => (simp only [List.getElem?_toArray, List.getElem?_cons_succ, List.getElem?_cons_zero]; exact rfl)
                case hz_61 => kernel_rfl
                case hs_61 => kernel_rfl
                case hf_61 => kernel_rfl
                case hr_61 => kernel_rfl
                case hQ_61 => exact fun _ _ _ h => h
                case hw_61 => rfl
                case hS_61 => assumption
                case hy_61 => (intro w hSw; (try dsimp only at hSw); go_simp; try with_reducible rfl)
                try simp only [Act.put, List.setIfInBounds_toArray, List.set_cons_zero, List.set_cons_succ]
                refine anyZ_take (i := 5) (oi := ?oi_62) (v := ?v_62) ?hi_62 ?hz_62 ?hs_62 ?hf_62 ?hr_62 ?hQ_62 (Or.inl ⟨?hw_62, ?hy_62⟩) ?hS_62 ?hrest_62
                case hi_62 => (simp only [List.getElem?_toArray, List.getElem?_cons_succ, List.getElem?_cons_zero]; exact rfl)
                case hz_62 => kernel_rfl
                case hs_62 => kernel_rfl
                case hf_62 => kernel_rfl
                case hr_62 => kernel_rfl
                case hQ_62 => exact fun _ _ _ h => h
                case hw_62 => rfl
                case hS_62 => assumption
                case hy_62 => (intro w hSw; (try dsimp only at hSw); go_simp; try with_reducible rfl)
                try simp only [Act.put, List.setIfInBounds_toArray, List.set_cons_zero, List.set_cons_succ]
                refine anyZ_take (i := 6) (oi := ?oi_63) (v := ?v_63) ?hi_63 ?hz_63 ?hs_63 ?hf_63 ?hr_63 ?hQ_63 (Or.inl ⟨?hw_63, ?hy_63⟩) ?hS_63 ?hrest_63
                case hi_63 => (simp only [List.getElem?_toArray, List.getElem?_cons_succ, List.getElem?_cons_zero]; exact rfl)
                case hz_63 => kernel_rfl
                case hs_63 => kernel_rfl
                case hf_63 => kernel_rfl
                case hr_63 => kernel_rfl
                case hQ_63 => exact fun _ _ _ h => h
                case hw_63 => rfl
                case hS_63 => assumption
                case hy_63 => (intro w hSw; (try dsimp only at hSw); go_simp; try with_reducible rfl)
                try simp only [Act.put, List.setIfInBounds_toArray, List.set_cons_zero, List.set_cons_succ]
                refine anyZ_take (i := 7) (oi := ?oi_64) (v := ?v_64) ?hi_64 ?hz_64 ?hs_64 ?hf_64 ?hr_64 ?hQ_64 (Or.inl ⟨?hw_64, ?hy_64⟩) ?hS_64 ?hrest_64
                case hi_64 => (simp only [List.getElem?_toArray, List.getElem?_cons_succ, List.getElem?_cons_zero]; exact rfl)
                case hz_64 => kernel_rfl
                case hs_64 => kernel_rfl
                case hf_64 => kernel_rfl
                case hr_64 => kernel_rfl
                case hQ_64 => exact fun _ _ _ h => h
                case hw_64 => rfl
                case hS_64 => assumption
                case hy_64 => (intro w hSw; (try dsimp only at hSw); go_simp; try with_reducible rfl)
                try simp only [Act.put, List.setIfInBounds_toArray, List.set_cons_zero, List.set_cons_succ]
                refine anyZ_ready (rs := [8]) (by kernel_rfl) (by simp) ?_
                refine (AllZ.cons (o := ?o_65) ?ho_65 (fun K hK => ?st_65) AllZ.nil)
                case ho_65 => (simp only [List.getElem?_toArray, List.getElem?_cons_succ, List.getElem?_cons_zero]; exact rfl)
                case st_65 =>
                  go_simp
                  (first | (go_at_call 76; first | (with_reducible refine (g5 _).mono ?_; rintro e w' ⟨rfl, nd, rfl⟩)))
                  refine hK.out _ _ (by ((try dsimp only); (first | exact ⟨tv5.drew.c _ hd, tv5.drew.c _ ha⟩ | exact ⟨(tv5.drew.drewN _).c _ hd, (tv5.drew.drewN _).c _ ha⟩ | exact ⟨(tv5.drewN _).c _ hd, (tv5.drewN _).c _ ha⟩))) (fun hHeld => ?_)
                  clear hK K
                  try simp only [Act.put, List.setIfInBounds_toArray, List.set_cons_zero, List.set_cons_succ]
                  refine anyZ_take (i := 9) (oi := ?oi_66) (v := ?v_66) ?hi_66 ?hz_66 ?hs_66 ?hf_66 ?hr_66 ?hQ_66 (Or.inl ⟨?hw_66, ?hy_66⟩) ?hS_66 ?hrest_66
                  case hi_66 => (simp only [List.getElem?_toArray, List.getElem?_cons_succ, List.getElem?_cons_zero]; exact rfl)
                  case hz_66 => kernel_rfl
                  case hs_66 => kernel_rfl
                  case hf_66 => kernel_rfl
                  case hr_66 => kernel_rfl
                  case hQ_66 => exact fun _ _ _ h => h
                  case hw_66 => rfl
                  case hS_66 => assumption
                  case hy_66 => (intro w hSw; (try dsimp only at hSw); go_simp; try with_reducible rfl)
                  try simp only [Act.put, List.setIfInBounds_toArray, List.set_cons_zero, List.set_cons_succ]
                  refine anyZ_ready (rs := [10]) (by kernel_rfl) (by simp) ?_
                  refine (AllZ.last (o := ?o_67) ?ho_67 (by rfl) (fun K hK => ?st_67) AllZ.nil)
                  case ho_67 => (simp only [List.getElem?_toArray, List.getElem?_cons_succ, List.getElem?_cons_zero]; exact rfl)
                  case st_67 =>
                    go_simp
                    refine hK.out _ _ ?_
                    clear hK K
                    try simp only [Act.put, List.setIfInBounds_toArray, List.set_cons_zero, List.set_cons_succ]
                    refine anyZ_done (by kernel_rfl) ?_ _
                    refine NoPanic.normal ?_
                    have tv6 : Arr (((W5.drewN (1 + nd)).setCell ⟨w.heap.size, d, none⟩ (.int .u32 (z5 : Nat)))) .u32 w.heap.size 16 (Ob.upd V5 d z5) := (tv5.drewN _).set hd
                    have tr6 : Arr (((W5.drewN (1 + nd)).setCell ⟨w.heap.size, d, none⟩ (.int .u32 (z5 : Nat)))) .u32 (w.heap.size + 1) 16 (fun _ => 0) := (tr5.drewN _).far (by omega) _ _
                    have hB6 : Below w.heap.size w (((W5.drewN (1 + nd)).setCell ⟨w.heap.size, d, none⟩ (.int .u32 (z5 : Nat)))) := by (repeat' (first | (with_reducible first | exact Below.refl _ _ | assumption | refine Below.alloc ?_ ?_ _ | refine Below.drew ?_ | refine below_drewN ?_ _ | refine Below.setCell ?_ ?_ _ | refine below_via (by with_reducible assumption) ?_ ?_) | omega | (simp only [szs]; omega) | (simp only [szs] at *; omega)))
                    have hv6 : Ob.Words32 (Ob.upd V5 d z5) := hv5.upd _ (by rw [← hz5.out]; exact Ob.rot_lt (Ob.xor_lt (hv5 _) (hv5 _)) (by decide))
                    clear hHeld
                    generalize (((W5.drewN (1 + nd)).setCell ⟨w.heap.size, d, none⟩ (.int .u32 (z5 : Nat)))) = W6 at *
                    obtain ⟨V6, hV6⟩ : ∃ V, Hid (Ob.upd V5 d z5 = V) := ⟨_, rfl⟩
                    rw [hV6.out] at tv6 hv6
                    clear p5 q5 tv5 tr5 hB5 f5 g5
                    go_upto_region 7 with (fail)
                    -- statement 7
                    obtain ⟨z6, hz6⟩ : ∃ z, Hid (Ob.s32 (V6 c) (V6 d) = z) := ⟨_, rfl⟩
                    have f6 : IntKind.u32.wrap (((V6 c : Nat) : Int) + ((V6 d : Nat) : Int)) = ((z6 : Nat) : Int) := by rw [← hz6.out, IntKind.wrap_u32]; unfold Ob.s32; omega
                    have p6 := tv6.c c hc
                    have q6 := tv6.f c hc
                    refine wp_region_noPanic ?_
                    refine region_lastly (S := (fun w' => w'.cell? ⟨w.heap.size, c, none⟩ = some (.int .u32 (V6 c : Nat)) ∧ w'.cell? ⟨w.heap.size, d, none⟩ = some (.int .u32 (V6 d : Nat)))) [9] (by kernel_rfl) (by ((try dsimp only); (first | exact ⟨tv6.drew.c _ hc, tv6.drew.c _ hd⟩ | exact ⟨(tv6.drew.drewN _).c _ hc, (tv6.drew.drewN _).c _ hd⟩ | exact ⟨(tv6.drewN _).c _ hc, (tv6.drewN _).c _ hd⟩))) (fun hHeld => ?_)
                    refine anyZ_take (i := 0) (oi := ?oi_68) (v := ?v_68) ?hi_68 ?hz_68 ?hs_68 ?hf_68 ?hr_68 ?hQ_68 (Or.inl ⟨?hw_68, ?hy_68⟩) ?hS_68 ?hrest_68
                    case hi_68 => (simp only [List.getElem?_toArray, List.getElem?_cons_succ, List.getElem?_cons_zero]; exact rfl)
                    case hz_68 => kernel_rfl
                    case hs_68 => kernel_rfl
                    case hf_68 => kernel_rfl
                    case hr_68 => kernel_rfl
                    case hQ_68 => exact fun _ _ _ h => h
                    case hw_68 => rfl
                    case hS_68 => assumption
                    case hy_68 => (intro w hSw; (try dsimp only at hSw); go_simp; try with_reducible rfl)
                    try simp only [Act.put, List.setIfInBounds_toArray, List.set_cons_zero, List.set_cons_succ]
                    refine anyZ_take (i := 1) (oi := ?oi_69) (v := ?v_69) ?hi_69 ?hz_69 ?hs_69 ?hf_69 ?hr_69 ?hQ_69 (Or.inl ⟨?hw_69, ?hy_69⟩) ?hS_69 ?hrest_69
                    case hi_69 => (simp only [List.getElem?_toArray, List.getElem?_cons_succ, List.getElem?_cons_zero]; exact rfl)
                    case hz_69 => kernel_rfl
                    case hs_69 => kernel_rfl
                    case hf_69 => kernel_rfl
                    case hr_69 => kernel_rfl
                    case hQ_69 => exact fun _ _ _ h => h
                    case hw_69 => rfl
                    case hS_69 => assumption
                    case hy_69 => (intro w hSw; (try dsimp only at hSw); go_simp; try with_reducible rfl)
                    try simp only [Act.put, List.setIfInBounds_toArray, List.set_cons_zero, List.set_cons_succ]
                    refine anyZ_take (i := 2) (oi := ?oi_70) (v := ?v_70) ?hi_70 ?hz_70 ?hs_70 ?hf_70 ?hr_70 ?hQ_70 (Or.inl ⟨?hw_70, ?hy_70⟩) ?hS_70 ?hrest_70
                    case hi_70 => (simp only [List.getElem?_toArray, List.getElem?_cons_succ, List.getElem?_cons_zero]; exact rfl)
                    case hz_70 => kernel_rfl
                    case hs_70 => kernel_rfl
                    case hf_70 => kernel_rfl
                    case hr_70 => kernel_rfl
                    case hQ_70 => exact fun _ _ _ h => h
                    case hw_70 => rfl
                    case hS_70 => assumption
                    case hy_70 => (intro w hSw; (try dsimp only at hSw); go_simp; try with_reducible rfl)
                    try simp only [Act.put, List.setIfInBounds_toArray, List.set_cons_zero, List.set_cons_succ]
                    refine anyZ_take (i := 3) (oi := ?oi_71) (v := ?v_71) ?hi_71 ?hz_71 ?hs_71 ?hf_71 ?hr_71 ?hQ_71 (Or.inl ⟨?hw_71, ?hy_71⟩) ?hS_71 ?hrest_71
                    case hi_71 => (simp only [List.getElem?_toArray, List.getElem?_cons_succ, List.getElem?_cons_zero]; exact rfl)
                    case hz_71 => kernel_rfl
                    case hs_71 => kernel_rfl
                    case hf_71 => kernel_rfl
                    case hr_71 => kernel_rfl
                    case hQ_71 => exact fun _ _ _ h => h
                    case hw_71 => rfl
                    case hS_71 => assumption
                    case hy_71 => (intro w hSw; (try dsimp only at hSw); go_simp; try with_reducible rfl)
                    try simp only [Act.put, List.setIfInBounds_toArray, List.set_cons_zero, List.set_cons_succ]
                    refine anyZ_take (i := 4) (oi := ?oi_72) (v := ?v_72) ?hi_72 ?hz_72 ?hs_72 ?hf_72 ?hr_72 ?hQ_72 (Or.inl ⟨?hw_72, ?hy_72⟩) ?hS_72 ?hrest_72
                    case hi_72 => (simp only [List.getElem?_toArray, List.getElem?_cons_succ, List.getElem?_cons_zero]; exact rfl)
                    case hz_72 => kernel_rfl
                    case hs_72 => kernel_rfl
                    case hf_72 => kernel_rfl
                    case hr_72 => kernel_rfl
                    case hQ_72 => exact fun _ _ _ h => h
                    case hw_72 => rfl
                    case hS_72 => assumption
                    case hy_72 => (intro w hSw; (try dsimp only at hSw); go_simp; try with_reducible rfl)
                    try simp only [Act.put, List.setIfInBounds_toArray, List.set_cons_zero, List.set_cons_succ]
                    refine anyZ_take (i := 5) (oi := ?oi_73) (v := ?v_73) ?hi_73 ?hz_73 ?hs_73 ?hf_73 ?hr_73 ?hQ_73 (Or.inl ⟨?hw_73, ?hy_73⟩) ?hS_73 ?hrest_73
                    case hi_73 => (simp only [List.getElem?_toArray, List.getElem?_cons_succ, List.getElem?_cons_zero]; exact rfl)
                    case hz_73 => kernel_rfl
                    case hs_73 => kernel_rfl
                    case hf_73 => kernel_rfl
                    case hr_73 => kernel_rfl
                    case hQ_73 => exact fun _ _ _ h => h
                    case hw_73 => rfl
                    case hS_73 => assumption
                    case hy_73 => (intro w hSw; (try dsimp only at hSw); go_simp; try with_reducible rfl)
                    try simp only [Act.put, List.setIfInBounds_toArray, List.set_cons_zero, List.set_cons_succ]
                    refine anyZ_take (i := 6) (oi := ?oi_74) (v := ?v_74) ?hi_74 ?hz_74 ?hs_74 ?hf_74 ?hr_74 ?hQ_74 (Or.inl ⟨?hw_74, ?hy_74⟩) ?hS_74 ?hrest_74
                    case hi_74 => (simp only [List.getElem?_toArray, List.getElem?_cons_succ, List.getElem?_cons_zero]; exact rfl)
                    case hz_74 => kernel_rfl
                    case hs_74 => kernel_rfl
                    case hf_74 => kernel_rfl
                    case hr_74 => kernel_rfl
                    case hQ_74 => exact fun _ _ _ h => h
                    case hw_74 => rfl
                    case hS_74 => assumption
                    case hy_74 => (intro w hSw; (try dsimp only at hSw); go_simp; try with_reducible rfl)
                    try simp only [Act.put, List.setIfInBounds_toArray, List.set_cons_zero, List.set_cons_succ]
                    refine anyZ_take (i := 7) (oi := ?oi_75) (v := ?v_75) ?hi_75 ?hz_75 ?hs_75 ?hf_75 ?hr_75 ?hQ_75 (Or.inl ⟨?hw_75, ?hy_75⟩) ?hS_75 ?hrest_75
                    case hi_75 => (simp only [List.getElem?_toArray, List.getElem?_cons_succ, List.getElem?_cons_zero]; exact rfl)
                    case hz_75 => kernel_rfl
                    case hs_75 => kernel_rfl
                    case hf_75 => kernel_rfl
                    case hr_75 => kernel_rfl
                    case hQ_75 => exact fun _ _ _ h => h
                    case hw_75 => rfl
                    case hS_75 => assumption
                    case hy_75 => (intro w hSw; (try dsimp only at hSw); go_simp; try with_reducible rfl)
                    try simp only [Act.put, List.setIfInBounds_toArray, List.set_cons_zero, List.set_cons_succ]
                    refine anyZ_take (i := 8) (oi := ?oi_76) (v := ?v_76) ?hi_76 ?hz_76 ?hs_76 ?hf_76 ?hr_76 ?hQ_76 (Or.inl ⟨?hw_76, ?hy_76⟩) ?hS_76 ?hrest_76
                    case hi_76 => (simp only [List.getElem?_toArray, List.getElem?_cons_succ, List.getElem?_cons_zero]; exact rfl)
                    case hz_76 => kernel_rfl
                    case hs_76 => kernel_rfl
                    case hf_76 => kernel_rfl
                    case hr_76 => kernel_rfl
                    case hQ_76 => exact fun _ _ _ h => h
                    case hw_76 => rfl
                    case hS_76 => assumption
                    case hy_76 => (intro w hSw; (try dsimp only at hSw); go_simp; try with_reducible rfl)
                    try simp only [Act.put, List.setIfInBounds_toArray, List.set_cons_zero, List.set_cons_succ]
                    refine anyZ_ready (rs := [9]) (by kernel_rfl) (by simp) ?_
                    refine (AllZ.last (o := ?o_77) ?ho_77 (by rfl) (fun K hK => ?st_77) AllZ.nil)
                    case ho_77 => (simp only [List.getElem?_toArray, List.getElem?_cons_succ, List.getElem?_cons_zero]; exact rfl)
                    case st_77 =>
                      go_simp
                      refine hK.out _ _ ?_
                      clear hK K
                      try simp only [Act.put, List.setIfInBounds_toArray, List.set_cons_zero, List.set_cons_succ]
                      refine anyZ_done (by kernel_rfl) ?_ _
                      refine NoPanic.normal ?_
                      have tv7 : Arr ((W6.setCell ⟨w.heap.size, c, none⟩ (.int .u32 (z6 : Nat))).drew) .u32 w.heap.size 16 (Ob.upd V6 c z6) := (tv6.set hc).drew
                      have tr7 : Arr ((W6.setCell ⟨w.heap.size, c, none⟩ (.int .u32 (z6 : Nat))).drew) .u32 (w.heap.size + 1) 16 (fun _ => 0) := (tr6.far (by omega) _ _).drew
                      have hB7 : Below w.heap.size w ((W6.setCell ⟨w.heap.size, c, none⟩ (.int .u32 (z6 : Nat))).drew) := by (repeat' (first | (with_reducible first | exact Below.refl _ _ | assumption | refine Below.alloc ?_ ?_ _ | refine Below.drew ?_ | refine below_drewN ?_ _ | refine Below.setCell ?_ ?_ _ | refine below_via (by with_reducible assumption) ?_ ?_) | omega | (simp only [szs]; omega) | (simp only [szs] at *; omega)))
                      have hv7 : Ob.Words32 (Ob.upd V6 c z6) := hv6.upd _ (by rw [← hz6.out]; exact Ob.s32_lt _ _)
                      clear hHeld
                      generalize ((W6.setCell ⟨w.heap.size, c, none⟩ (.int .u32 (z6 : Nat))).drew) = W7 at *
                      obtain ⟨V7, hV7⟩ : ∃ V, Hid (Ob.upd V6 c z6 = V) := ⟨_, rfl⟩
                      rw [hV7.out] at tv7 hv7
                      clear p6 q6 tv6 tr6 hB6 f6
                      go_upto_region 8 with (fail)
                      -- statement 8
                      obtain ⟨z7, hz7⟩ : ∃ z, Hid (Ob.rot (V7 b ^^^ V7 c) 7 = z) := ⟨_, rfl⟩
                      have f7 := xor_u32 (V7 b) (V7 c) (hv7 _) (hv7 _)
                      have g7 : ∀ w, Calls Tryd.prog 76 #[.int .u32 ((V7 b ^^^ V7 c : Nat) : Int), .int .i64 7] w fun e w' => e = .returned (.int .u32 (z7 : Nat)) ∧ ∃ nd, w' = w.drewN nd := by rw [← hz7.out]; exact rrollW _ 7 (Ob.xor_lt (hv7 _) (hv7 _)) (by decide)
                      have p7 := tv7.c b hb
                      have q7 := tv7.f b hb
                      refine wp_region_noPanic ?_
                      refine region_lastly (S := (fun w' => w'.cell? ⟨w.heap.size, b, none⟩ = some (.int .u32 (V7 b : Nat)) ∧ w'.cell? ⟨w.heap.size, c, none⟩ = some (.int .u32 (V7 c : Nat)))) [10] (by kernel_rfl) (by ((try dsimp only); (first | exact ⟨tv7.drew.c _ hb, tv7.drew.c _ hc⟩ | exact ⟨(tv7.drew.drewN _).c _ hb, (tv7.drew.drewN _).c _ hc⟩ | exact ⟨(tv7.drewN _).c _ hb, (tv7.drewN _).c _ hc⟩))) (fun hHeld => ?_)
                      refine anyZ_take (i := 0) (oi := ?oi_78) (v := ?v_78) ?hi_78 ?hz_78 ?hs_78 ?hf_78 ?hr_78 ?hQ_78 (Or.inl ⟨?hw_78, ?hy_78⟩) ?hS_78 ?hrest_78
                      case hi_78 => (simp only [List.getElem?_toArray, List.getElem?_cons_succ, List.getElem?_cons_zero]; exact rfl)
                      case hz_78 => kernel_rfl
                      case hs_78 => kernel_rfl
                      case hf_78 => kernel_rfl
                      case hr_78 => kernel_rfl
                      case hQ_78 => exact fun _ _ _ h => h
                      case hw_78 => rfl
                      case hS_78 => assumption
                      case hy_78 => (intro w hSw; (try dsimp only at hSw); go_simp; try with_reducible rfl)
                      try simp only [Act.put, List.setIfInBounds_toArray, List.set_cons_zero, List.set_cons_succ]
                      refine anyZ_take (i := 1) (oi := ?oi_79) (v := ?v_79) ?hi_79 ?hz_79 ?hs_79 ?hf_79 ?hr_79 ?hQ_79 (Or.inl ⟨?hw_79, ?hy_79⟩) ?hS_79 ?hrest_79
                      case hi_79 => (simp only [List.getElem?_toArray, List.getElem?_cons_succ, List.getElem?_cons_zero]; exact rfl)
                      case hz_79 => kernel_rfl
                      case hs_79 => kernel_rfl
                      case hf_79 => kernel_rfl
                      case hr_79 => kernel_rfl
                      case hQ_79 => exact fun _ _ _ h => h
                      case hw_79 => rfl
                      case hS_79 => assumption
                      case hy_79 => (intro w hSw; (try dsimp only at hSw); go_simp; try with_reducible rfl)
                      try simp only [Act.put, List.setIfInBounds_toArray, List.set_cons_zero, List.set_cons_succ]
                      refine anyZ_take (i := 2) (oi := ?oi_80) (v := ?v_80) ?hi_80 ?hz_80 ?hs_80 ?hf_80 ?hr_80 ?hQ_80 (Or.inl ⟨?hw_80, ?hy_80⟩) ?hS_80 ?hrest_80
                      case hi_80 => (simp only [List.getElem?_toArray, List.getElem?_cons_succ, List.getElem?_cons_zero]; exact rfl)
                      case hz_80 => kernel_rfl
                      case hs_80 => kernel_rfl
                      case hf_80 => kernel_rfl
                      case hr_80 => kernel_rfl
                      case hQ_80 => exact fun _ _ _ h => h
                      case hw_80 => rfl
                      case hS_80 => assumption
                      case hy_80 => (intro w hSw; (try dsimp only at hSw); go_simp; try with_reducible rfl)
                      try simp only [Act.put, List.setIfInBounds_toArray, List.set_cons_zero, List.set_cons_succ]
                      refine anyZ_take (i := 3) (oi := ?oi_81) (v := ?v_81) ?hi_81 ?hz_81 ?hs_81 ?hf_81 ?hr_81 ?hQ_81 (Or.inl ⟨?hw_81, ?hy_81⟩) ?hS_81 ?hrest_81
                      case hi_81 => (simp only [List.getElem?_toArray, List.getElem?_cons_succ, List.getElem?_cons_zero]; exact rfl)
                      case hz_81 => kernel_rfl
                      case hs_81 => kernel_rfl
                      case hf_81 => kernel_rfl
                      case hr_81 => kernel_rfl
                      case hQ_81 => exact fun _ _ _ h => h
                      case hw_81 => rfl
                      case hS_81 => assumption
                      case hy_81 => (intro w hSw; (try dsimp only at hSw); go_simp; try with_reducible rfl)
                      try simp only [Act.put, List.setIfInBounds_toArray, List.set_cons_zero, List.set_cons_succ]
                      refine anyZ_take (i := 4) (oi := ?oi_82) (v := ?v_82) ?hi_82 ?hz_82 ?hs_82 ?hf_82 ?hr_82 ?hQ_82 (Or.inl ⟨?hw_82, ?hy_82⟩) ?hS_82 ?hrest_82
                      case hi_82 => (simp only [List.getElem?_toArray, List.getElem?_cons_succ, List.getElem?_cons_zero]; exact rfl)
                      case hz_82 => kernel_rfl
                      case hs_82 => kernel_rfl
                      case hf_82 => kernel_rfl
                      case hr_82 => kernel_rfl
                      case hQ_82 => exact fun _ _ _ h => h
                      case hw_82 => rfl
                      case hS_82 => assumption
                      case hy_82 => (intro w hSw; (try dsimp only at hSw); go_simp; try with_reducible rfl)
                      try simp only [Act.put, List.setIfInBounds_toArray, List.set_cons_zero, List.set_cons_succ]
                      refine anyZ_take (i := 5) (oi := ?oi_83) (v := ?v_83) ?hi_83 ?hz_83 ?hs_83 ?hf_83 ?hr_83 ?hQ_83 (Or.inl ⟨?hw_83, ?hy_83⟩) ?hS_83 ?hrest_83
                      case hi_83 => (simp only [List.getElem?_toArray, List.getElem?_cons_succ, List.getElem?_cons_zero]; exact rfl)
                      case hz_83 => kernel_rfl
                      case hs_83 => kernel_rfl
                      case hf_83 => kernel_rfl
                      case hr_83 => kernel_rfl
                      case hQ_83 => exact fun _ _ _ h => h
                      case hw_83 => rfl
                      case hS_83 => assumption
                      case hy_83 => (intro w hSw; (try dsimp only at hSw); go_simp; try with_reducible rfl)
                      try simp only [Act.put, List.setIfInBounds_toArray, List.set_cons_zero, List.set_cons_succ]
                      refine anyZ_take (i := 6) (oi := ?oi_84) (v := ?v_84) ?hi_84 ?hz_84 ?hs_84 ?hf_84 ?hr_84 ?hQ_84 (Or.inl ⟨?hw_84, ?hy_84⟩) ?hS_84 ?hrest_84
                      case hi_84 => (simp only [List.getElem?_toArray, List.getElem?_cons_succ, List.getElem?_cons_zero]; exact rfl)
                      case hz_84 => kernel_rfl
                      case hs_84 => kernel_rfl
                      case hf_84 => kernel_rfl
                      case hr_84 => kernel_rfl
                      case hQ_84 => exact fun _ _ _ h => h
                      case hw_84 => rfl
                      case hS_84 => assumption
                      case hy_84 => (intro w hSw; (try dsimp only at hSw); go_simp; try with_reducible rfl)
                      try simp only [Act.put, List.setIfInBounds_toArray, List.set_cons_zero, List.set_cons_succ]
                      refine anyZ_take (i := 7) (oi := ?oi_85) (v := ?v_85) ?hi_85 ?hz_85 ?hs_85 ?hf_85 ?hr_85 ?hQ_85 (Or.inl ⟨?hw_85, ?hy_85⟩) ?hS_85 ?hrest_85
                      case hi_85 => (simp only [List.getElem?_toArray, List.getElem?_cons_succ, List.getElem?_cons_zero]; exact rfl)
                      case hz_85 => kernel_rfl
                      case hs_85 => kernel_rfl
                      case hf_85 => kernel_rfl
                      case hr_85 => kernel_rfl
                      case hQ_85 => exact fun _ _ _ h => h
                      case hw_85 => rfl
                      case hS_85 => assumption
                      case hy_85 => (intro w hSw; (try dsimp only at hSw); go_simp; try with_reducible rfl)
                      try simp only [Act.put, List.setIfInBounds_toArray, List.set_cons_zero, List.set_cons_succ]
                      refine anyZ_ready (rs := [8]) (by kernel_rfl) (by simp) ?_
                      refine (AllZ.cons (o := ?o_86) ?ho_86 (fun K hK => ?st_86) AllZ.nil)
                      case ho_86 => (simp only [List.getElem?_toArray, List.getElem?_cons_succ, List.getElem?_cons_zero]; exact rfl)
                      case st_86 =>
                        go_simp
                        (first | (go_at_call 76; first | (with_reducible refine (g7 _).mono ?_; rintro e w' ⟨rfl, nd, rfl⟩)))
                        refine hK.out _ _ (by ((try dsimp only); (first | exact ⟨tv7.drew.c _ hb, tv7.drew.c _ hc⟩ | exact ⟨(tv7.drew.drewN _).c _ hb, (tv7.drew.drewN _).c _ hc⟩ | exact ⟨(tv7.drewN _).c _ hb, (tv7.drewN _).c _ hc⟩))) (fun hHeld => ?_)
                        clear hK K
                        try simp only [Act.put, List.setIfInBounds_toArray, List.set_cons_zero, List.set_cons_succ]
                        refine anyZ_take (i := 9) (oi := ?oi_87) (v := ?v_87) ?hi_87 ?hz_87 ?hs_87 ?hf_87 ?hr_87 ?hQ_87 (Or.inl ⟨?hw_87, ?hy_87⟩) ?hS_87 ?hrest_87
                        case hi_87 => (simp only [List.getElem?_toArray, List.getElem?_cons_succ, List.getElem?_cons_zero]; exact rfl)
                        case hz_87 => kernel_rfl
                        case hs_87 => kernel_rfl
                        case hf_87 => kernel_rfl
                        case hr_87 => kernel_rfl
                        case hQ_87 => exact fun _ _ _ h => h
                        case hw_87 => rfl
                        case hS_87 => assumption
                        case hy_87 => (intro w hSw; (try dsimp only at hSw); go_simp; try with_reducible rfl)
                        try simp only [Act.put, List.setIfInBounds_toArray, List.set_cons_zero, List.set_cons_succ]
                        refine anyZ_ready (rs := [10]) (by kernel_rfl) (by simp) ?_
                        refine (AllZ.last (o := ?o_88) ?ho_88 (by rfl) (fun K hK => ?st_88) AllZ.nil)
                        case ho_88 => (simp only [List.getElem?_toArray, List.getElem?_cons_succ, List.getElem?_cons_zero]; exact rfl)
                        case st_88 =>
                          go_simp
                          refine hK.out _ _ ?_
                          clear hK K
                          try simp only [Act.put, List.setIfInBounds_toArray, List.set_cons_zero, List.set_cons_succ]
                          refine anyZ_done (by kernel_rfl) ?_ _
                          refine NoPanic.normal ?_
                          have tv8 : Arr (((W7.drewN (1 + nd)).setCell ⟨w.heap.size, b, none⟩ (.int .u32 (z7 : Nat)))) .u32 w.heap.size 16 (Ob.upd V7 b z7) := (tv7.drewN _).set hb
                          have tr8 : Arr (((W7.drewN (1 + nd)).setCell ⟨w.heap.size, b, none⟩ (.int .u32 (z7 : Nat)))) .u32 (w.heap.size + 1) 16 (fun _ => 0) := (tr7.drewN _).far (by omega) _ _
                          have hB8 : Below w.heap.size w (((W7.drewN (1 + nd)).setCell ⟨w.heap.size, b, none⟩ (.int .u32 (z7 : Nat)))) := by (repeat' (first | (with_reducible first | exact Below.refl _ _ | assumption | refine Below.alloc ?_ ?_ _ | refine Below.drew ?_ | refine below_drewN ?_ _ | refine Below.setCell ?_ ?_ _ | refine below_via (by with_reducible assumption) ?_ ?_) | omega | (simp only [szs]; omega) | (simp only [szs] at *; omega)))
                          have hv8 : Ob.Words32 (Ob.upd V7 b z7) := hv7.upd _ (by rw [← hz7.out]; exact Ob.rot_lt (Ob.xor_lt (hv7 _) (hv7 _)) (by decide))
                          clear hHeld
                          generalize (((W7.drewN (1 + nd)).setCell ⟨w.heap.size, b, none⟩ (.int .u32 (z7 : Nat)))) = W8 at *
                          obtain ⟨V8, hV8⟩ : ∃ V, Hid (Ob.upd V7 b z7 = V) := ⟨_, rfl⟩
                          rw [hV8.out] at tv8 hv8
                          clear p7 q7 tv7 tr7 hB7 f7 g7
                          go_upto_region 9 with (fail)
                          have hi : (Tryd.prog.info? 81).map (·.size) = some (arrL .u32 V8 16).length := by rw [arrL_length]; kernel_rfl
                          have hs : (arrL .u32 V8 16).toArray.size = 16 := by simp [arrL_length]
                          have hi' : (Tryd.prog.info? 81).map (·.size) = some (arrL .u32 V8 16).toArray.size := by rw [hs]; kernel_rfl
                          have ht : W8.there (w.heap.size + 1) 0 (arrL .u32 V8 16).toArray.size := by rw [hs]; exact tr8.there
                          have h1 := all_oneCell_toArray (arrL_one .u32 V8 16)
                          have t9 : Arr (W8.setCells (w.heap.size + 1) 0 (arrL .u32 V8 16)) .u32 (w.heap.size + 1) 16 V8 := tr8.whole V8
                          have hB9 : Below w.heap.size w (W8.setCells (w.heap.size + 1) 0 (arrL .u32 V8 16)) := below_setCells hB8 (by omega) _ _
                          have lv := run_loadVar_mid (P := Tryd.prog) _ (w.heap.size + 1) 0 81 _ _ t9.range Tryd.underlying81 rfl hi
                          refine wp_region_lit ?_
                          refine wpList_load_mid rfl 81 (.tmp 7) rfl w.heap.size 0 rfl (arrL .u32 V8 16) _ tv8.range Tryd.underlying81 rfl hi ?_
                          simp only [Act.put, List.setIfInBounds_toArray, List.set_cons_zero, List.set_cons_succ]
                          refine wpList_store_mid rfl 81 (.tmp 14) (.tmp 95) rfl (w.heap.size + 1) 0 (arrL .u32 V8 16).toArray rfl rfl ht hi' h1 ?_
                          refine wpList_nil ?_
                          simp only [Act.put, List.toList_toArray]
                          have hend : Hid (V8 = Ob.mixN v a b c d x y) := by
                            show V8 = Ob.mixN v a b c d x y
                            rw [← hV8.out, ← hz7.out, ← hV7.out, ← hz6.out, ← hV6.out, ← hz5.out, ← hV5.out, ← hz4.out, ← hV4.out, ← hz3.out, ← hV3.out, ← hz2.out, ← hV2.out, ← hz1.out, ← hV1.out, ← hz0.out, hV0]
                            rfl
                          generalize W8.setCells (w.heap.size + 1) 0 (arrL .u32 V8 16) = W9 at *
                          clear hi hi' hs ht h1 t9 tv8 tr8 hB8
                          clear hV1 hV2 hV3 hV4 hV5 hV6 hV7 hV8 hz0 hz1 hz2 hz3 hz4 hz5 hz6 hz7 hy0 hy4 hv0 hv1 hv2 hv3 hv4 hv5 hv6 hv7 hv8
                          go_wp2
                          exact bodyPost_ret (v := .agg (arrL .u32 V8 16).toArray) (by simp [results, Tryd.results68, asAddr, lv]) rfl ⟨by rw [hend.out, hV0], hB9⟩
end Go.Proofs.YtdhbkhmknnlmnaaDoor

namespace Go.Proofs.YtdhbkhmknnlmnaaDoor
open Go.RowKit Go.Proofs
set_option linter.unusedVariables false
set_option linter.unusedSimpArgs false
attribute [local go_sem ↓] Go.wp_at_zero Go.wp_at_succ

set_option maxHeartbeats 1000000 in
theorem rfirstW (w : World) : Calls Tryd.prog 51 #[] w fun e w' => e = .returned (arrV .u32 Ob.first 8) ∧ Below w.heap.size w w' := by
  go_enter Tryd.func51, Tryd.ntmps51
  go_wp2
  exact bodyPost_ret (v := .agg #[.int .u32 1779033703, .int .u32 3144134277, .int .u32 1013904242, .int .u32 2773480762, .int .u32 1359893119, .int .u32 2600822924, .int .u32 528734635, .int .u32 1541459225]) (by simp [results, Tryd.results51, go_sem]) rfl ⟨rfl, by (repeat' (first | (with_reducible first | exact Below.refl _ _ | assumption | refine Below.alloc ?_ ?_ _ | refine Below.drew ?_ | refine below_drewN ?_ _ | refine Below.setCell ?_ ?_ _ | refine below_via (by with_reducible assumption) ?_ ?_) | omega | (simp only [szs]; omega) | (simp only [szs] at *; omega)))⟩

set_option maxHeartbeats 4000000 in
theorem rrow0 (w : World) : Calls Tryd.prog 67 #[.int .i64 0] w fun e w' => e = .returned (.slice (some ⟨w.heap.size, 0, none⟩) 16 16) ∧ Arr w' .i64 w.heap.size 16 (Ob.sig 0) ∧ Below w.heap.size w w' := by
  go_enter Tryd.func67, Tryd.ntmps67
  go_wp2
  go_ret
  exact ⟨rfl, Arr.new (k := .i64) (v := Ob.sig 0) (n := 16) rfl, by (repeat' (first | (with_reducible first | exact Below.refl _ _ | assumption | refine Below.alloc ?_ ?_ _ | refine Below.drew ?_ | refine below_drewN ?_ _ | refine Below.setCell ?_ ?_ _ | refine below_via (by with_reducible assumption) ?_ ?_) | omega | (simp only [szs]; omega) | (simp only [szs] at *; omega)))⟩
set_option maxHeartbeats 4000000 in
theorem rrow1 (w : World) : Calls Tryd.prog 67 #[.int .i64 1] w fun e w' => e = .returned (.slice (some ⟨w.heap.size, 0, none⟩) 16 16) ∧ Arr w' .i64 w.heap.size 16 (Ob.sig 1) ∧ Below w.heap.size w w' := by
  go_enter Tryd.func67, Tryd.ntmps67
  go_wp2
  go_ret
  exact ⟨rfl, Arr.new (k := .i64) (v := Ob.sig 1) (n := 16) rfl, by (repeat' (first | (with_reducible first | exact Below.refl _ _ | assumption | refine Below.alloc ?_ ?_ _ | refine Below.drew ?_ | refine below_drewN ?_ _ | refine Below.setCell ?_ ?_ _ | refine below_via (by with_reducible assumption) ?_ ?_) | omega | (simp only [szs]; omega) | (simp only [szs] at *; omega)))⟩
set_option maxHeartbeats 4000000 in
theorem rrow2 (w : World) : Calls Tryd.prog 67 #[.int .i64 2] w fun e w' => e = .returned (.slice (some ⟨w.heap.size, 0, none⟩) 16 16) ∧ Arr w' .i64 w.heap.size 16 (Ob.sig 2) ∧ Below w.heap.size w w' := by
  go_enter Tryd.func67, Tryd.ntmps67
  go_wp2
  go_ret
  exact ⟨rfl, Arr.new (k := .i64) (v := Ob.sig 2) (n := 16) rfl, by (repeat' (first | (with_reducible first | exact Below.refl _ _ | assumption | refine Below.alloc ?_ ?_ _ | refine Below.drew ?_ | refine below_drewN ?_ _ | refine Below.setCell ?_ ?_ _ | refine below_via (by with_reducible assumption) ?_ ?_) | omega | (simp only [szs]; omega) | (simp only [szs] at *; omega)))⟩
set_option maxHeartbeats 4000000 in
theorem rrow3 (w : World) : Calls Tryd.prog 67 #[.int .i64 3] w fun e w' => e = .returned (.slice (some ⟨w.heap.size, 0, none⟩) 16 16) ∧ Arr w' .i64 w.heap.size 16 (Ob.sig 3) ∧ Below w.heap.size w w' := by
  go_enter Tryd.func67, Tryd.ntmps67
  go_wp2
  go_ret
  exact ⟨rfl, Arr.new (k := .i64) (v := Ob.sig 3) (n := 16) rfl, by (repeat' (first | (with_reducible first | exact Below.refl _ _ | assumption | refine Below.alloc ?_ ?_ _ | refine Below.drew ?_ | refine below_drewN ?_ _ | refine Below.setCell ?_ ?_ _ | refine below_via (by with_reducible assumption) ?_ ?_) | omega | (simp only [szs]; omega) | (simp only [szs] at *; omega)))⟩
set_option maxHeartbeats 4000000 in
theorem rrow4 (w : World) : Calls Tryd.prog 67 #[.int .i64 4] w fun e w' => e = .returned (.slice (some ⟨w.heap.size, 0, none⟩) 16 16) ∧ Arr w' .i64 w.heap.size 16 (Ob.sig 4) ∧ Below w.heap.size w w' := by
  go_enter Tryd.func67, Tryd.ntmps67
  go_wp2
  go_ret
  exact ⟨rfl, Arr.new (k := .i64) (v := Ob.sig 4) (n := 16) rfl, by (repeat' (first | (with_reducible first | exact Below.refl _ _ | assumption | refine Below.alloc ?_ ?_ _ | refine Below.drew ?_ | refine below_drewN ?_ _ | refine Below.setCell ?_ ?_ _ | refine below_via (by with_reducible assumption) ?_ ?_) | omega | (simp only [szs]; omega) | (simp only [szs] at *; omega)))⟩
set_option maxHeartbeats 4000000 in
theorem rrow5 (w : World) : Calls Tryd.prog 67 #[.int .i64 5] w fun e w' => e = .returned (.slice (some ⟨w.heap.size, 0, none⟩) 16 16) ∧ Arr w' .i64 w.heap.size 16 (Ob.sig 5) ∧ Below w.heap.size w w' := by
  go_enter Tryd.func67, Tryd.ntmps67
  go_wp2
  go_ret
  exact ⟨rfl, Arr.new (k := .i64) (v := Ob.sig 5) (n := 16) rfl, by (repeat' (first | (with_reducible first | exact Below.refl _ _ | assumption | refine Below.alloc ?_ ?_ _ | refine Below.drew ?_ | refine below_drewN ?_ _ | refine Below.setCell ?_ ?_ _ | refine below_via (by with_reducible assumption) ?_ ?_) | omega | (simp only [szs]; omega) | (simp only [szs] at *; omega)))⟩
set_option maxHeartbeats 4000000 in
theorem rrow6 (w : World) : Calls Tryd.prog 67 #[.int .i64 6] w fun e w' => e = .returned (.slice (some ⟨w.heap.size, 0, none⟩) 16 16) ∧ Arr w' .i64 w.heap.size 16 (Ob.sig 6) ∧ Below w.heap.size w w' := by
  go_enter Tryd.func67, Tryd.ntmps67
  go_wp2
  go_ret
  exact ⟨rfl, Arr.new (k := .i64) (v := Ob.sig 6) (n := 16) rfl, by (repeat' (first | (with_reducible first | exact Below.refl _ _ | assumption | refine Below.alloc ?_ ?_ _ | refine Below.drew ?_ | refine below_drewN ?_ _ | refine Below.setCell ?_ ?_ _ | refine below_via (by with_reducible assumption) ?_ ?_) | omega | (simp only [szs]; omega) | (simp only [szs] at *; omega)))⟩
set_option maxHeartbeats 4000000 in
theorem rrow7 (w : World) : Calls Tryd.prog 67 #[.int .i64 7] w fun e w' => e = .returned (.slice (some ⟨w.heap.size, 0, none⟩) 16 16) ∧ Arr w' .i64 w.heap.size 16 (Ob.sig 7) ∧ Below w.heap.size w w' := by
  go_enter Tryd.func67, Tryd.ntmps67
  go_wp2
  go_ret
  exact ⟨rfl, Arr.new (k := .i64) (v := Ob.sig 7) (n := 16) rfl, by (repeat' (first | (with_reducible first | exact Below.refl _ _ | assumption | refine Below.alloc ?_ ?_ _ | refine Below.drew ?_ | refine below_drewN ?_ _ | refine Below.setCell ?_ ?_ _ | refine below_via (by with_reducible assumption) ?_ ?_) | omega | (simp only [szs]; omega) | (simp only [szs] at *; omega)))⟩
set_option maxHeartbeats 4000000 in
theorem rrow8 (w : World) : Calls Tryd.prog 67 #[.int .i64 8] w fun e w' => e = .returned (.slice (some ⟨w.heap.size, 0, none⟩) 16 16) ∧ Arr w' .i64 w.heap.size 16 (Ob.sig 8) ∧ Below w.heap.size w w' := by
  go_enter Tryd.func67, Tryd.ntmps67
  go_wp2
  go_ret
  exact ⟨rfl, Arr.new (k := .i64) (v := Ob.sig 8) (n := 16) rfl, by (repeat' (first | (with_reducible first | exact Below.refl _ _ | assumption | refine Below.alloc ?_ ?_ _ | refine Below.drew ?_ | refine below_drewN ?_ _ | refine Below.setCell ?_ ?_ _ | refine below_via (by with_reducible assumption) ?_ ?_) | omega | (simp only [szs]; omega) | (simp only [szs] at *; omega)))⟩
set_option maxHeartbeats 4000000 in
theorem rrow9 (w : World) : Calls Tryd.prog 67 #[.int .i64 9] w fun e w' => e = .returned (.slice (some ⟨w.heap.size, 0, none⟩) 16 16) ∧ Arr w' .i64 w.heap.size 16 (Ob.sig 9) ∧ Below w.heap.size w w' := by
  go_enter Tryd.func67, Tryd.ntmps67
  go_wp2
  go_ret
  exact ⟨rfl, Arr.new (k := .i64) (v := Ob.sig 9) (n := 16) rfl, by (repeat' (first | (with_reducible first | exact Below.refl _ _ | assumption | refine Below.alloc ?_ ?_ _ | refine Below.drew ?_ | refine below_drewN ?_ _ | refine Below.setCell ?_ ?_ _ | refine below_via (by with_reducible assumption) ?_ ?_) | omega | (simp only [szs]; omega) | (simp only [szs] at *; omega)))⟩
theorem rrowW (i : Nat) (hi : i < 10) (w : World) : Calls Tryd.prog 67 #[.int .i64 (i : Nat)] w fun e w' => e = .returned (.slice (some ⟨w.heap.size, 0, none⟩) 16 16) ∧ Arr w' .i64 w.heap.size 16 (Ob.sig i) ∧ Below w.heap.size w w' := by
  match i, hi with
  | 0, _ => exact rrow0 w
  | 1, _ => exact rrow1 w
  | 2, _ => exact rrow2 w
  | 3, _ => exact rrow3 w
  | 4, _ => exact rrow4 w
  | 5, _ => exact rrow5 w
  | 6, _ => exact rrow6 w
  | 7, _ => exact rrow7 w
  | 8, _ => exact rrow8 w
  | 9, _ => exact rrow9 w
end Go.Proofs.YtdhbkhmknnlmnaaDoor

namespace Go.Proofs.YtdhbkhmknnlmnaaDoor
open Go.RowKit Go.Proofs
set_option linter.unusedVariables false
set_option linter.unusedSimpArgs false
attribute [local go_sem ↓] Go.wp_at_zero Go.wp_at_succ

theorem wordInfo : ∃ i, Tryd.prog.info? 64 = some i ∧ i.size = 1 ∧ i.bytes = 4 ∧ i.zero = some (.int .u32 0) := by
  have h : (Tryd.prog.info? 64).map (fun i => (i.size, i.bytes, i.zero)) = some (1, 4, some (.int .u32 0)) := by kernel_rfl
  cases hi : Tryd.prog.info? 64 with
  | none => rw [hi] at h; cases h
  | some i =>
    rw [hi] at h
    simp only [Option.map_some, Option.some.injEq, Prod.mk.injEq] at h
    exact ⟨i, rfl, h.1, h.2.1, h.2.2⟩

set_option maxHeartbeats 4000000 in
theorem rwords_core (b off n k c : Nat) (hnk : 4 * k = n) (z : Nat → Nat) (hz : ∀ i, z i < 256) (hk : k ≤ 1000000) (w : World) (hY : Bys w b off n z) :
    Calls Tryd.prog 50 #[.slice (some ⟨b, off, none⟩) n c] w fun e w' => ∃ v, e = .returned v ∧ w'.ownsRow w.heap.size 64 1 v k (arrL .u32 (wordAt z) k) ∧ Below w.heap.size w w' := by
  obtain ⟨i0, hi, hz1, hz2, hz0⟩ := wordInfo
  have hY' : Hid (Bys w b off n z) := hY
  have hn' : Hid (4 * k = n) := hnk
  have ln : (n : Int) ≤ 4000000 := by omega
  clear hnk
  have hz' : Hid (∀ i, z i < 256) := hz
  clear hY hz
  have hown0 : w.ownsRow w.heap.size 64 1 (.slice none 0 0) 0 (arrL .u32 (wordAt z) 0) := ⟨rfl, Or.inl ⟨rfl, rfl⟩⟩
  go_enter Tryd.func50, Tryd.ntmps50
  go_wp2
  go_loopw [3, 4] (fun s3 s4 wr => ∃ (j : Nat), j ≤ k ∧ s4 = .int .i64 ((4 * j : Nat) : Int) ∧ Hid (wr.ownsRow w.heap.size 64 1 s3 j (arrL .u32 (wordAt z) j)) ∧ Below w.heap.size w wr) (fun _ s4 _ => n - (intOf s4).toNat)
  case atStart => exact ⟨0, by omega, rfl, hown0, Below.refl _ _⟩
  case round =>
    clear hown0
    obtain ⟨j, hj, rfl, hown, hB⟩ := hrel
    have l0 := hB.size
    have hnk := hn'.out
    by_cases hlt : j < k
    · have y := hY'.out.below hB hY'.out.lt
      have y0 := y.at_ (4 * j) (by omega)
      have y1 := y.at_ (4 * j + 1) (by omega)
      have y2 := y.at_ (4 * j + 2) (by omega)
      have y3 := y.at_ (4 * j + 3) (by omega)
      have b0 := hz'.out (4 * j)
      have b1 := hz'.out (4 * j + 1)
      have b2 := hz'.out (4 * j + 2)
      have b3 := hz'.out (4 * j + 3)
      have hw : Hid (arrL .u32 (wordAt z) j ++ [.int .u32 ((z (4 * j) + 256 * z (4 * j + 1) + 65536 * z (4 * j + 2) + 16777216 * z (4 * j + 3) : Nat) : Int)] = arrL .u32 (wordAt z) (j + 1)) := by
        show _ = _
        unfold arrL
        rw [List.range_succ, List.map_append]
        rfl
      obtain ⟨i, hi4⟩ : ∃ i, Hid (4 * j = i) := ⟨_, rfl⟩
      rw [hi4.out] at y0 y1 y2 y3 b0 b1 b2 b3 hw
      have li : i + 3 < n := by have := hi4.out; omega
      rw [hi4.out]
      clear hnk
      have hkeep : Hid (∀ w1, Below w.heap.size w w1 → w1.cell? ⟨b, off + i, none⟩ = some (.int .u8 (z i : Nat)) ∧ w1.cell? ⟨b, off + (i + 1), none⟩ = some (.int .u8 (z (i + 1) : Nat)) ∧ w1.cell? ⟨b, off + (i + 2), none⟩ = some (.int .u8 (z (i + 2) : Nat)) ∧ w1.cell? ⟨b, off + (i + 3), none⟩ = some (.int .u8 (z (i + 3) : Nat))) := fun w1 h => by
        have y' := hY'.out.below h hY'.out.lt
        exact ⟨y'.at_ i (by omega), y'.at_ (i + 1) (by omega), y'.at_ (i + 2) (by omega), y'.at_ (i + 3) (by omega)⟩
      generalize z i = q0 at *
      generalize z (i + 1) = q1 at *
      generalize z (i + 2) = q2 at *
      generalize z (i + 3) = q3 at *
      obtain ⟨i1, hi1⟩ : ∃ i1, Hid (i + 1 = i1) := ⟨_, rfl⟩
      obtain ⟨i2, hi2⟩ : ∃ i2, Hid (i + 2 = i2) := ⟨_, rfl⟩
      obtain ⟨i3, hi3⟩ : ∃ i3, Hid (i + 3 = i3) := ⟨_, rfl⟩
      rw [hi1.out, hi2.out, hi3.out] at hkeep
      rw [hi1.out] at y1
      rw [hi2.out] at y2
      rw [hi3.out] at y3
      have e1 : (i : Int) + 1 = (i1 : Int) := by have := hi1.out; omega
      have e2 : (i : Int) + 2 = (i2 : Int) := by have := hi2.out; omega
      have e3 : (i : Int) + 3 = (i3 : Int) := by have := hi3.out; omega
      have f0 : (i3 : Int) < (n : Int) := by omega
      have f1 : (i2 : Int) < (n : Int) := by omega
      have f2 : (i1 : Int) < (n : Int) := by omega
      have f3 : (i : Int) < (n : Int) := by omega
      have w1 : IntKind.i64.wrap (i1 : Int) = (i1 : Int) := by rw [IntKind.wrap_i64]; omega
      have w2 : IntKind.i64.wrap (i2 : Int) = (i2 : Int) := by rw [IntKind.wrap_i64]; omega
      have w3 : IntKind.i64.wrap (i3 : Int) = (i3 : Int) := by rw [IntKind.wrap_i64]; omega
      have g0 : (0 : Int) ≤ (i : Int) := by omega
      have g1 : (0 : Int) ≤ (i1 : Int) := by omega
      have g2 : (0 : Int) ≤ (i2 : Int) := by omega
      have g3 : (0 : Int) ≤ (i3 : Int) := by omega
      have c0 : IntKind.u32.wrap (q0 : Int) = (q0 : Int) := by rw [IntKind.wrap_u32]; omega
      have c1 : IntKind.u32.wrap (q1 : Int) = (q1 : Int) := by rw [IntKind.wrap_u32]; omega
      have c2 : IntKind.u32.wrap (q2 : Int) = (q2 : Int) := by rw [IntKind.wrap_u32]; omega
      have c3 : IntKind.u32.wrap (q3 : Int) = (q3 : Int) := by rw [IntKind.wrap_u32]; omega
      obtain ⟨r1, p1, k1⟩ : ∃ r : Nat, IntKind.u32.wrap (256 * (q1 : Int)) = (r : Int) ∧ Hid (r = 256 * q1) := ⟨256 * q1, by rw [IntKind.wrap_u32]; omega, rfl⟩
      obtain ⟨r2, p2, k2⟩ : ∃ r : Nat, IntKind.u32.wrap (65536 * (q2 : Int)) = (r : Int) ∧ Hid (r = 65536 * q2) := ⟨65536 * q2, by rw [IntKind.wrap_u32]; omega, rfl⟩
      obtain ⟨r3, p3, k3⟩ : ∃ r : Nat, IntKind.u32.wrap (16777216 * (q3 : Int)) = (r : Int) ∧ Hid (r = 16777216 * q3) := ⟨16777216 * q3, by rw [IntKind.wrap_u32]; omega, rfl⟩
      have m1 := k1.out
      have m2 := k2.out
      have m3 := k3.out
      obtain ⟨t1, s1, n1⟩ : ∃ r : Nat, IntKind.u32.wrap ((q0 : Int) + (r1 : Int)) = (r : Int) ∧ Hid (r = q0 + r1) := ⟨q0 + r1, by rw [IntKind.wrap_u32]; omega, rfl⟩
      have m4 := n1.out
      obtain ⟨t2, s2, n2⟩ : ∃ r : Nat, IntKind.u32.wrap ((t1 : Int) + (r2 : Int)) = (r : Int) ∧ Hid (r = t1 + r2) := ⟨t1 + r2, by rw [IntKind.wrap_u32]; omega, rfl⟩
      have m5 := n2.out
      obtain ⟨X, s3, n3⟩ : ∃ r : Nat, IntKind.u32.wrap ((t2 : Int) + (r3 : Int)) = (r : Int) ∧ Hid (r = t2 + r3) := ⟨t2 + r3, by rw [IntKind.wrap_u32]; omega, rfl⟩
      have hX : Hid (q0 + 256 * q1 + 65536 * q2 + 16777216 * q3 = X) := by show _ = _; have := n3.out; omega
      rw [hX.out] at hw
      clear m1 m2 m3 m4 m5
      have hb1 : Below wr.heap.size wr (wr.alloc (.cells #[.int .u32 (X : Nat)] 64)).drew := by clear hB; (repeat' (first | (with_reducible first | exact Below.refl _ _ | assumption | refine Below.alloc ?_ ?_ _ | refine Below.drew ?_ | refine below_drewN ?_ _ | refine Below.setCell ?_ ?_ _ | refine below_via (by with_reducible assumption) ?_ ?_) | omega | (simp only [szs]; omega) | (simp only [szs] at *; omega)))
      have hb0 : Below w.heap.size w (wr.alloc (.cells #[.int .u32 (X : Nat)] 64)).drew := by clear hb1; (repeat' (first | (with_reducible first | exact Below.refl _ _ | assumption | refine Below.alloc ?_ ?_ _ | refine Below.drew ?_ | refine below_drewN ?_ _ | refine Below.setCell ?_ ?_ _ | refine below_via (by with_reducible assumption) ?_ ?_) | omega | (simp only [szs]; omega) | (simp only [szs] at *; omega)))
      have hown1 : Hid ((wr.alloc (.cells #[.int .u32 (X : Nat)] 64)).drew.ownsRow w.heap.size 64 1 u3 j (arrL .u32 (wordAt z) j)) := own_below hown.out hb1 (fun k h => (hown.out.lt k h).2)
      go_wp2
      go_region_held3 (fun w' => w'.cell? ⟨b, off + i, none⟩ = some (.int .u8 (q0 : Nat)) ∧ w'.cell? ⟨b, off + i1, none⟩ = some (.int .u8 (q1 : Nat)) ∧ w'.cell? ⟨b, off + i2, none⟩ = some (.int .u8 (q2 : Nat)) ∧ w'.cell? ⟨b, off + i3, none⟩ = some (.int .u8 (q3 : Nat))) (first | exact hkeep.out _ hBw | exact hkeep.out _ (by (repeat' (first | (with_reducible first | exact Below.refl _ _ | assumption | refine Below.alloc ?_ ?_ _ | refine Below.drew ?_ | refine below_drewN ?_ _ | refine Below.setCell ?_ ?_ _ | refine below_via (by with_reducible assumption) ?_ ?_) | omega | (simp only [szs]; omega) | (simp only [szs] at *; omega)))))
        ((rw [if_pos (by rfl)]; (refine wp_append_own _ _ _ 62 rfl w.heap.size 64 i0 _ 1 4 Tryd.underlying62 hi hz0 hz1 hz2 rfl (by decide) _ j _ rfl hown1.out ⟨wr.heap.size, 0, none⟩ 1 1 [.int .u32 (X : Nat)] rfl rfl (fun j u h => by cases j with | zero => (simp at h; subst h; simp [Addr.add]) | succ j => simp at h) (by simp [Value.oneCell']) (by unfold maxLen; omega) (by omega) (by first | (simp; done) | (simp; omega)) ?_); intro v' w1 ho hg hnil; have hBw : Below w.heap.size w w1 := hb0.grown hg hb0.size (fun k h => (hown.out.lt k h).1); have ho' : Hid (w1.ownsRow w.heap.size 64 1 v' (j + 1) (arrL .u32 (wordAt z) (j + 1))) := (by rw [← hw.out]; exact ho); clear ho hg hnil))
      go_wp2
      go_roundw
      case rel => exact ⟨j + 1, by omega, by have := hi4.out; go_num, ho', hBw⟩
      case measure => first | (simp [intOf]; done) | (simp [intOf]; omega)
    · have hjk : j = k := by omega
      subst hjk
      have hend : ¬ (((4 * j : Nat) : Int) + 3 < (n : Int)) := by omega
      obtain ⟨i, hi4⟩ : ∃ i, Hid (4 * j = i) := ⟨_, rfl⟩
      rw [hi4.out] at hend ⊢
      have li : (i : Int) ≤ 4000000 := by have := hi4.out; omega
      go_wp2
      go_ret
      exact ⟨_, rfl, hown.out, by (repeat' (first | (with_reducible first | exact Below.refl _ _ | assumption | refine Below.alloc ?_ ?_ _ | refine Below.drew ?_ | refine below_drewN ?_ _ | refine Below.setCell ?_ ?_ _ | refine below_via (by with_reducible assumption) ?_ ?_) | omega | (simp only [szs]; omega) | (simp only [szs] at *; omega)))⟩

theorem arr_of_row {w : World} {k : IntKind} {e : TypeId} {base n cap g : Nat} {v : Nat → Nat} (h : w.ownsRow base e 1 (.slice (some ⟨g, 0, none⟩) n cap) n (arrL k v n)) : Arr w k g n v := by
  refine ⟨(h.lt g rfl).2, fun i hi => ?_, fun i hi => ?_⟩
  · have := h.cells (g := g) rfl i _ (arrL_get k v n i hi)
    have hadd : (⟨g, 0, none⟩ : Addr).add i = ⟨g, i, none⟩ := by unfold Addr.add; split <;> simp_all
    rw [hadd] at this
    exact this
  · rcases h.2 with ⟨h0, _⟩ | ⟨g', cap', cur, hv, _, hg, _⟩
    · cases h0
    · cases hv
      simp [World.frozen?, hg]
/-- The words of 4 k bytes. -/
theorem rwordsW (b off n k c : Nat) (hnk : 4 * k = n) (h0 : 0 < k) (z : Nat → Nat) (hz : ∀ i, z i < 256) (hk : k ≤ 1000000) (w : World) (hY : Bys w b off n z) :
    Calls Tryd.prog 50 #[.slice (some ⟨b, off, none⟩) n c] w fun e w' => ∃ g cap, e = .returned (.slice (some ⟨g, 0, none⟩) k cap) ∧ w.heap.size ≤ g ∧ Arr w' .u32 g k (wordAt z) ∧ Below w.heap.size w w' := by
  refine (rwords_core b off n k c hnk z hz hk w hY).mono fun e w' ⟨v, he, ho, hb⟩ => ?_
  rcases ho.2 with ⟨_, h⟩ | ⟨g, cap, cur, rfl, hg, _⟩
  · omega
  · exact ⟨g, cap, he, hg, arr_of_row ho, hb⟩
end Go.Proofs.YtdhbkhmknnlmnaaDoor
