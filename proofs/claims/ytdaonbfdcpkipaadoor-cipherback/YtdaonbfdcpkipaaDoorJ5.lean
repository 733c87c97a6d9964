/-
  Joined texts: The document's own stream, walked: rolling, a quarter. The document's own digest, walked: words as bytes; the number of bytes.
-/
import Derived.Test.YtdaonbfdcpkipaaDoorJ1
import Derived.Deep.DeepCutAuto
import Derived.Test.YtdaonbfdcpkipaaDoorJ3

namespace Ob
/-- Half a quarter of four words, rolled to the right by p and q. -/
def qhalf (v : Nat → Nat) (a b c d p q : Nat) : Nat → Nat :=
  let v1 := upd v a (s32 (v a) (v b))
  let v2 := upd v1 d (rot (v1 d ^^^ v1 a) p)
  let v3 := upd v2 c (s32 (v2 c) (v2 d))
  upd v3 b (rot (v3 b ^^^ v3 c) q)
def quarN (v : Nat → Nat) (a b c d : Nat) : Nat → Nat := qhalf (qhalf v a b c d 16 20) a b c d 24 25
theorem qhalf_words {v : Nat → Nat} (h : Words32 v) (a b c d p q : Nat) (hp : p ≤ 32) (hq : q ≤ 32) : Words32 (qhalf v a b c d p q) := by
  have h1 : Words32 (upd v a (s32 (v a) (v b))) := h.upd a (s32_lt _ _)
  have h2 := h1.upd d (rot_lt (xor_lt (h1 d) (h1 a)) hp)
  have h3 := h2.upd c (s32_lt ((upd (upd v a (s32 (v a) (v b))) d (rot (upd v a (s32 (v a) (v b)) d ^^^ upd v a (s32 (v a) (v b)) a) p)) c) ((upd (upd v a (s32 (v a) (v b))) d (rot (upd v a (s32 (v a) (v b)) d ^^^ upd v a (s32 (v a) (v b)) a) p)) d))
  exact h3.upd b (rot_lt (xor_lt (h3 b) (h3 c)) hq)
theorem quarN_words {v : Nat → Nat} (h : Words32 v) (a b c d : Nat) : Words32 (quarN v a b c d) := qhalf_words (qhalf_words h _ _ _ _ _ _ (by decide) (by decide)) _ _ _ _ _ _ (by decide) (by decide)
end Ob
namespace Go.Proofs.YtdaonbfdcpkipaaDoor
open Go.RowKit Go.Proofs
set_option linter.unusedVariables false
set_option linter.unusedSimpArgs false
attribute [local go_sem ↓] Go.wp_at_zero Go.wp_at_succ

theorem rollX_num (x n : Nat) (hx : x < 4294967296) (hn : n ≤ 32) : bits .or .u32 (((x * 2 ^ (32 - n)) % 4294967296 : Nat) : Int) ((x / 2 ^ n : Nat) : Int) = ((Ob.rot x n : Nat) : Int) := by
  have e : (2 : Nat) ^ n * 2 ^ (32 - n) = 4294967296 := by rw [← Nat.pow_add, Nat.add_sub_cancel' hn]
  have e1 : x * 2 ^ (32 - n) % 4294967296 = x % 2 ^ n * 2 ^ (32 - n) := by rw [← e, Nat.mul_mod_mul_right]
  have h1 : x / 2 ^ n < 2 ^ (32 - n) := Nat.div_lt_of_lt_mul (by rw [e]; exact hx)
  have h3 := Ob.rot_lt hx hn
  unfold Ob.rot at h3
  have ha : x % 2 ^ n * 2 ^ (32 - n) < 2 ^ 32 := by omega
  have hb : x / 2 ^ n < 2 ^ 32 := by omega
  rw [e1, (bits_nat .u32 32 (by decide) wraps_u32 _ _ ha hb).2, Nat.mul_comm (x % 2 ^ n), ← Nat.two_pow_add_eq_or_of_lt h1 (x % 2 ^ n)]
  unfold Ob.rot
  rw [Nat.mul_comm (2 ^ (32 - n)), Nat.add_comm]
set_option maxHeartbeats 1000000 in
/-- Rolled to the left by n: to the right by 32 - n. -/
theorem rollXW (x n : Nat) (hx : x < 4294967296) (hn : n ≤ 32) (w : World) :
    Calls Tryd.prog 35 #[.int .u32 x, .int .i64 n] w fun e w' => e = .returned (.int .u32 (Ob.rot x (32 - n) : Nat)) ∧ ∃ nd, w' = w.drewN nd := by
  have hnn : 32 - (32 - n) = n := by omega
  have h := rollX_num x (32 - n) hx (by omega)
  rw [hnn] at h
  have h' : bits .or .u32 (IntKind.u32.wrap ((x : Int) * 2 ^ n)) ((x : Int) / 2 ^ (32 - n)) = ((Ob.rot x (32 - n) : Nat) : Int) := by
    rw [← h, IntKind.wrap_u32]
    simp
  go_enter Tryd.func35, Tryd.ntmps35
  have h0 : (0 : Int) ≤ (n : Int) := by omega
  have h1 : ¬ (n : Int) < 0 := by omega
  have h2 : (n : Int) ≤ 32 := by omega
  have h3 : ¬ (32 : Int) < (n : Int) := by omega
  have h4 : IntKind.i64.wrap (32 - (n : Int)) = ((32 - n : Nat) : Int) := by rw [IntKind.wrap_i64]; omega
  go_wp2
  go_region_held3 (fun w' => True) (exact True.intro) (fail)
  go_wp2
  go_ret
  exact ⟨rfl, 1, rfl⟩

set_option maxHeartbeats 4000000 in
theorem quarter_core (v : Nat → Nat) (hv : Ob.Words32 v) (a b c d : Nat) (ha : a < 16) (hb : b < 16) (hc : c < 16) (hd : d < 16) (w : World) :
    Calls Tryd.prog 22 #[arrV .u32 v 16, .int .i64 a, .int .i64 b, .int .i64 c, .int .i64 d] w fun e w' => e = .returned (arrV .u32 (Ob.quarN v a b c d) 16) ∧ Below w.heap.size w w' := by
  unfold arrV
  have hl := arrL_length .u32 v 16
  go_enter Tryd.func22, Tryd.ntmps22
  go_upto_region 1 with (fail)
  have ia : (a : Int) < 16 := by omega
  have ja : (0 : Int) ≤ (a : Int) := by omega
  have ib : (b : Int) < 16 := by omega
  have jb : (0 : Int) ≤ (b : Int) := by omega
  have ic : (c : Int) < 16 := by omega
  have jc : (0 : Int) ≤ (c : Int) := by omega
  have id' : (d : Int) < 16 := by omega
  have jd : (0 : Int) ≤ (d : Int) := by omega
  obtain ⟨W0, hW0⟩ : ∃ W, Hid ((w.alloc (.cells (arrL .u32 v 16).toArray 40)).alloc (.cells (arrL .u32 (fun _ => 0) 16).toArray 40) = W) := ⟨_, rfl⟩
  have tv0 : Arr W0 .u32 w.heap.size 16 v := by rw [← hW0.out]; exact (Arr.new rfl).alloc _
  have tr0 : Arr W0 .u32 (w.heap.size + 1) 16 (fun _ => 0) := by rw [← hW0.out]; exact Arr.new (by simp)
  have hB0 : Below w.heap.size w W0 := by rw [← hW0.out]; (repeat' (first | (with_reducible first | exact Below.refl _ _ | assumption | refine Below.alloc ?_ ?_ _ | refine Below.drew ?_ | refine below_drewN ?_ _ | refine Below.setCell ?_ ?_ _ | refine below_via (by with_reducible assumption) ?_ ?_) | omega | (simp only [szs]; omega) | (simp only [szs] at *; omega)))
  change Code.wp _ _ _ _ ((w.alloc (.cells (arrL .u32 v 16).toArray 40)).alloc (.cells (arrL .u32 (fun _ => 0) 16).toArray 40))
  rw [hW0.out]
  clear hW0
  obtain ⟨N, hN⟩ : ∃ N, Hid (w.heap.size = N) := ⟨_, rfl⟩
  rw [hN.out] at tv0 tr0 hB0 ⊢
  have hv0 := hv
  obtain ⟨V0, hV0⟩ : ∃ V, Hid (v = V) := ⟨_, rfl⟩
  rw [hV0.out] at tv0 hv0
  -- statement 1
  obtain ⟨z0, hz0⟩ : ∃ z, Hid (Ob.s32 (V0 a) (V0 b) = z) := ⟨_, rfl⟩
  have f0 : IntKind.u32.wrap (((V0 a : Nat) : Int) + ((V0 b : Nat) : Int)) = ((z0 : Nat) : Int) := by rw [← hz0.out, IntKind.wrap_u32]; unfold Ob.s32; omega
  have zl0 : z0 < 4294967296 := by rw [← hz0.out]; exact Ob.s32_lt _ _
  have p0 := tv0.c a ha
  have q0 := tv0.f a ha
  have m0 := tv0.drew.c a ha
  have n0 := tv0.drew.c b hb
  refine wp_region_noPanic ?_
  refine region_lastly (S := (fun w' => w'.cell? ⟨N, a, none⟩ = some (.int .u32 (V0 a : Nat)) ∧ w'.cell? ⟨N, b, none⟩ = some (.int .u32 (V0 b : Nat)))) [9] (by kernel_rfl) (by ((try dsimp only); (first | exact ⟨m0, n0⟩ | exact ⟨(tv0.drewN _).c _ ha, (tv0.drewN _).c _ hb⟩ | exact ⟨(tv0.drew.drewN _).c _ ha, (tv0.drew.drewN _).c _ hb⟩))) (fun hHeld => ?_)
  refine anyZ_free (i := 0) (oi := ?oi_1) (v := ?v_1) ?hi_1 ?hs_1 ?hf_1 ?hr_1 ?hQ_1 (Or.inl ⟨?hw_1, ?hy_1⟩) ?hrest_1
  case hi_1 => (simp only [List.getElem?_toArray, List.getElem?_cons_succ, List.getElem?_cons_zero]; exact rfl)
  case hs_1 => kernel_rfl
  case hf_1 => kernel_rfl
  case hr_1 => kernel_rfl
  case hQ_1 => exact fun _ _ _ h => h
  case hw_1 => rfl
  case hy_1 => (intro w _; go_simp; try with_reducible rfl)
  try simp only [Act.put, List.setIfInBounds_toArray, List.set_cons_zero, List.set_cons_succ]
  refine anyZ_free (i := 1) (oi := ?oi_2) (v := ?v_2) ?hi_2 ?hs_2 ?hf_2 ?hr_2 ?hQ_2 (Or.inl ⟨?hw_2, ?hy_2⟩) ?hrest_2
  case hi_2 => (simp only [List.getElem?_toArray, List.getElem?_cons_succ, List.getElem?_cons_zero]; exact rfl)
  case hs_2 => kernel_rfl
  case hf_2 => kernel_rfl
  case hr_2 => kernel_rfl
  case hQ_2 => exact fun _ _ _ h => h
  case hw_2 => rfl
  case hy_2 => (intro w _; go_simp; try with_reducible rfl)
  try simp only [Act.put, List.setIfInBounds_toArray, List.set_cons_zero, List.set_cons_succ]
  refine anyZ_free (i := 2) (oi := ?oi_3) (v := ?v_3) ?hi_3 ?hs_3 ?hf_3 ?hr_3 ?hQ_3 (Or.inl ⟨?hw_3, ?hy_3⟩) ?hrest_3
  case hi_3 => (simp only [List.getElem?_toArray, List.getElem?_cons_succ, List.getElem?_cons_zero]; exact rfl)
  case hs_3 => kernel_rfl
  case hf_3 => kernel_rfl
  case hr_3 => kernel_rfl
  case hQ_3 => exact fun _ _ _ h => h
  case hw_3 => rfl
  case hy_3 => (intro w _; go_simp; try with_reducible rfl)
  try simp only [Act.put, List.setIfInBounds_toArray, List.set_cons_zero, List.set_cons_succ]
  refine anyZ_take (i := 3) (oi := ?oi_4) (v := ?v_4) ?hi_4 ?hz_4 ?hs_4 ?hf_4 ?hr_4 ?hQ_4 (Or.inl ⟨?hw_4, ?hy_4⟩) ?hS_4 ?hrest_4
  case hi_4 => (simp only [List.getElem?_toArray, List.getElem?_cons_succ, List.getElem?_cons_zero]; exact rfl)
  case hz_4 => kernel_rfl
  case hs_4 => kernel_rfl
  case hf_4 => kernel_rfl
  case hr_4 => kernel_rfl
  case hQ_4 => exact fun _ _ _ h => h
  case hw_4 => rfl
  case hS_4 => assumption
  case hy_4 => (intro w hSw; (try dsimp only at hSw); go_simp; try with_reducible rfl)
  try simp only [Act.put, List.setIfInBounds_toArray, List.set_cons_zero, List.set_cons_succ]
  refine anyZ_free (i := 4) (oi := ?oi_5) (v := ?v_5) ?hi_5 ?hs_5 ?hf_5 ?hr_5 ?hQ_5 (Or.inl ⟨?hw_5, ?hy_5⟩) ?hrest_5
  case hi_5 => (simp only [List.getElem?_toArray, List.getElem?_cons_succ, List.getElem?_cons_zero]; exact rfl)
  case hs_5 => kernel_rfl
  case hf_5 => kernel_rfl
  case hr_5 => kernel_rfl
  case hQ_5 => exact fun _ _ _ h => h
  case hw_5 => rfl
  case hy_5 => (intro w _; go_simp; try with_reducible rfl)
  try simp only [Act.put, List.setIfInBounds_toArray, List.set_cons_zero, List.set_cons_succ]
  refine anyZ_free (i := 5) (oi := ?oi_6) (v := ?v_6) ?hi_6 ?hs_6 ?hf_6 ?hr_6 ?hQ_6 (Or.inl ⟨?hw_6, ?hy_6⟩) ?hrest_6
  case hi_6 => (simp only [List.getElem?_toArray, List.getElem?_cons_succ, List.getElem?_cons_zero]; exact rfl)
  case hs_6 => kernel_rfl
  case hf_6 => kernel_rfl
  case hr_6 => kernel_rfl
  case hQ_6 => exact fun _ _ _ h => h
  case hw_6 => rfl
  case hy_6 => (intro w _; go_simp; try with_reducible rfl)
  try simp only [Act.put, List.setIfInBounds_toArray, List.set_cons_zero, List.set_cons_succ]
  refine anyZ_take (i := 6) (oi := ?oi_7) (v := ?v_7) ?hi_7 ?hz_7 ?hs_7 ?hf_7 ?hr_7 ?hQ_7 (Or.inl ⟨?hw_7, ?hy_7⟩) ?hS_7 ?hrest_7
  case hi_7 => (simp only [List.getElem?_toArray, List.getElem?_cons_succ, List.getElem?_cons_zero]; exact rfl)
  case hz_7 => kernel_rfl
  case hs_7 => kernel_rfl
  case hf_7 => kernel_rfl
  case hr_7 => kernel_rfl
  case hQ_7 => exact fun _ _ _ h => h
  case hw_7 => rfl
  case hS_7 => assumption
  case hy_7 => (intro w hSw; (try dsimp only at hSw); go_simp; try with_reducible rfl)
  try simp only [Act.put, List.setIfInBounds_toArray, List.set_cons_zero, List.set_cons_succ]
  refine anyZ_free (i := 7) (oi := ?oi_8) (v := ?v_8) ?hi_8 ?hs_8 ?hf_8 ?hr_8 ?hQ_8 (Or.inl ⟨?hw_8, ?hy_8⟩) ?hrest_8
  case hi_8 => (simp only [List.getElem?_toArray, List.getElem?_cons_succ, List.getElem?_cons_zero]; exact rfl)
  case hs_8 => kernel_rfl
  case hf_8 => kernel_rfl
  case hr_8 => kernel_rfl
  case hQ_8 => exact fun _ _ _ h => h
  case hw_8 => rfl
  case hy_8 => (intro w _; go_simp; try with_reducible rfl)
  try simp only [Act.put, List.setIfInBounds_toArray, List.set_cons_zero, List.set_cons_succ]
  refine anyZ_free (i := 8) (oi := ?oi_9) (v := ?v_9) ?hi_9 ?hs_9 ?hf_9 ?hr_9 ?hQ_9 (Or.inl ⟨?hw_9, ?hy_9⟩) ?hrest_9
  case hi_9 => (simp only [List.getElem?_toArray, List.getElem?_cons_succ, List.getElem?_cons_zero]; exact rfl)
  case hs_9 => kernel_rfl
  case hf_9 => kernel_rfl
  case hr_9 => kernel_rfl
  case hQ_9 => exact fun _ _ _ h => h
  case hw_9 => rfl
  case hy_9 => (intro w _; go_simp; try with_reducible rfl)
  try simp only [Act.put, List.setIfInBounds_toArray, List.set_cons_zero, List.set_cons_succ]
  refine anyZ_ready (rs := [9]) (by kernel_rfl) (by simp) ?_
  refine (AllZ.last (o := ?o_10) ?ho_10 (by rfl) (fun K hK => ?st_10) AllZ.nil)
  case ho_10 => (simp only [List.getElem?_toArray, List.getElem?_cons_succ, List.getElem?_cons_zero]; exact rfl)
  case st_10 =>
    go_simp
    refine hK.out _ _ ?_
    clear hK K
    try simp only [Act.put, List.setIfInBounds_toArray, List.set_cons_zero, List.set_cons_succ]
    refine anyZ_done (by kernel_rfl) ?_ _
    refine NoPanic.normal ?_
    have tv1 : Arr ((W0.setCell ⟨N, a, none⟩ (.int .u32 (z0 : Nat))).drew) .u32 N 16 (Ob.upd V0 a z0) := (tv0.set ha).drew
    have tr1 : Arr ((W0.setCell ⟨N, a, none⟩ (.int .u32 (z0 : Nat))).drew) .u32 (N + 1) 16 (fun _ => 0) := (tr0.far (by omega) _ _).drew
    have hB1 : Below N w ((W0.setCell ⟨N, a, none⟩ (.int .u32 (z0 : Nat))).drew) := by (repeat' (first | (with_reducible first | exact Below.refl _ _ | assumption | refine Below.alloc ?_ ?_ _ | refine Below.drew ?_ | refine below_drewN ?_ _ | refine Below.setCell ?_ ?_ _ | refine below_via (by with_reducible assumption) ?_ ?_) | omega | (simp only [szs]; omega) | (simp only [szs] at *; omega)))
    have hv1 : Ob.Words32 (Ob.upd V0 a z0) := hv0.upd _ zl0
    clear hHeld
    generalize ((W0.setCell ⟨N, a, none⟩ (.int .u32 (z0 : Nat))).drew) = W1 at *
    obtain ⟨V1, hV1⟩ : ∃ V, Hid (Ob.upd V0 a z0 = V) := ⟨_, rfl⟩
    rw [hV1.out] at tv1 hv1
    clear p0 q0 m0 n0 tv0 tr0 hB0 f0 zl0
    go_upto_region 2 with (fail)
    -- statement 2
    obtain ⟨z1, hz1⟩ : ∃ z, Hid (Ob.rot (V1 d ^^^ V1 a) 16 = z) := ⟨_, rfl⟩
    have f1 := xor_u32 (V1 d) (V1 a) (hv1 _) (hv1 _)
    have g1 : ∀ w, Calls Tryd.prog 35 #[.int .u32 ((V1 d ^^^ V1 a : Nat) : Int), .int .i64 16] w fun e w' => e = .returned (.int .u32 (z1 : Nat)) ∧ ∃ nd, w' = w.drewN nd := by rw [← hz1.out]; exact rollXW _ 16 (Ob.xor_lt (hv1 _) (hv1 _)) (by decide)
    have zl1 : z1 < 4294967296 := by rw [← hz1.out]; exact Ob.rot_lt (Ob.xor_lt (hv1 _) (hv1 _)) (by decide)
    have p1 := tv1.c d hd
    have q1 := tv1.f d hd
    have m1 := tv1.drew.c d hd
    have n1 := tv1.drew.c a ha
    refine wp_region_noPanic ?_
    refine region_lastly (S := (fun w' => w'.cell? ⟨N, d, none⟩ = some (.int .u32 (V1 d : Nat)) ∧ w'.cell? ⟨N, a, none⟩ = some (.int .u32 (V1 a : Nat)))) [10] (by kernel_rfl) (by ((try dsimp only); (first | exact ⟨m1, n1⟩ | exact ⟨(tv1.drewN _).c _ hd, (tv1.drewN _).c _ ha⟩ | exact ⟨(tv1.drew.drewN _).c _ hd, (tv1.drew.drewN _).c _ ha⟩))) (fun hHeld => ?_)
    refine anyZ_free (i := 0) (oi := ?oi_11) (v := ?v_11) ?hi_11 ?hs_11 ?hf_11 ?hr_11 ?hQ_11 (Or.inl ⟨?hw_11, ?hy_11⟩) ?hrest_11
    case hi_11 => (simp only [List.getElem?_toArray, List.getElem?_cons_succ, List.getElem?_cons_zero]; exact rfl)
    case hs_11 => kernel_rfl
    case hf_11 => kernel_rfl
    case hr_11 => kernel_rfl
    case hQ_11 => exact fun _ _ _ h => h
    case hw_11 => rfl
    case hy_11 => (intro w _; go_simp; try with_reducible rfl)
    try simp only [Act.put, List.setIfInBounds_toArray, List.set_cons_zero, List.set_cons_succ]
    refine anyZ_free (i := 1) (oi := ?oi_12) (v := ?v_12) ?hi_12 ?hs_12 ?hf_12 ?hr_12 ?hQ_12 (Or.inl ⟨?hw_12, ?hy_12⟩) ?hrest_12
    case hi_12 => (simp only [List.getElem?_toArray, List.getElem?_cons_succ, List.getElem?_cons_zero]; exact rfl)
    case hs_12 => kernel_rfl
    case hf_12 => kernel_rfl
    case hr_12 => kernel_rfl
    case hQ_12 => exact fun _ _ _ h => h
    case hw_12 => rfl
    case hy_12 => (intro w _; go_simp; try with_reducible rfl)
    try simp only [Act.put, List.setIfInBounds_toArray, List.set_cons_zero, List.set_cons_succ]
    refine anyZ_free (i := 2) (oi := ?oi_13) (v := ?v_13) ?hi_13 ?hs_13 ?hf_13 ?hr_13 ?hQ_13 (Or.inl ⟨?hw_13, ?hy_13⟩) ?hrest_13
    case hi_13 => (simp only [List.getElem?_toArray, List.getElem?_cons_succ, List.getElem?_cons_zero]; exact rfl)
    case hs_13 => kernel_rfl
    case hf_13 => kernel_rfl
    case hr_13 => kernel_rfl
    case hQ_13 => exact fun _ _ _ h => h
    case hw_13 => rfl
    case hy_13 => (intro w _; go_simp; try with_reducible rfl)
    try simp only [Act.put, List.setIfInBounds_toArray, List.set_cons_zero, List.set_cons_succ]
    refine anyZ_take (i := 3) (oi := ?oi_14) (v := ?v_14) ?hi_14 ?hz_14 ?hs_14 ?hf_14 ?hr_14 ?hQ_14 (Or.inl ⟨?hw_14, ?hy_14⟩) ?hS_14 ?hrest_14
    case hi_14 => (simp only [List.getElem?_toArray, List.getElem?_cons_succ, List.getElem?_cons_zero]; exact rfl)
    case hz_14 => kernel_rfl
    case hs_14 => kernel_rfl
    case hf_14 => kernel_rfl
    case hr_14 => kernel_rfl
    case hQ_14 => exact fun _ _ _ h => h
    case hw_14 => rfl
    case hS_14 => assumption
    case hy_14 => (intro w hSw; (try dsimp only at hSw); go_simp; try with_reducible rfl)
    try simp only [Act.put, List.setIfInBounds_toArray, List.set_cons_zero, List.set_cons_succ]
    refine anyZ_free (i := 4) (oi := ?oi_15) (v := ?v_15) ?hi_15 ?hs_15 ?hf_15 ?hr_15 ?hQ_15 (Or.inl ⟨?hw_15, ?hy_15⟩) ?hrest_15
    case hi_15 => (simp only [List.getElem?_toArray, List.getElem?_cons_succ, List.getElem?_cons_zero]; exact rfl)
    case hs_15 => kernel_rfl
    case hf_15 => kernel_rfl
    case hr_15 => kernel_rfl
    case hQ_15 => exact fun _ _ _ h => h
    case hw_15 => rfl
    case hy_15 => (intro w _; go_simp; try with_reducible rfl)
    try simp only [Act.put, List.setIfInBounds_toArray, List.set_cons_zero, List.set_cons_succ]
    refine anyZ_free (i := 5) (oi := ?oi_16) (v := ?v_16) ?hi_16 ?hs_16 ?hf_16 ?hr_16 ?hQ_16 (Or.inl ⟨?hw_16, ?hy_16⟩) ?hrest_16
    case hi_16 => (simp only [List.getElem?_toArray, List.getElem?_cons_succ, List.getElem?_cons_zero]; exact rfl)
    case hs_16 => kernel_rfl
    case hf_16 => kernel_rfl
    case hr_16 => kernel_rfl
    case hQ_16 => exact fun _ _ _ h => h
    case hw_16 => rfl
    case hy_16 => (intro w _; go_simp; try with_reducible rfl)
    try simp only [Act.put, List.setIfInBounds_toArray, List.set_cons_zero, List.set_cons_succ]
    refine anyZ_take (i := 6) (oi := ?oi_17) (v := ?v_17) ?hi_17 ?hz_17 ?hs_17 ?hf_17 ?hr_17 ?hQ_17 (Or.inl ⟨?hw_17, ?hy_17⟩) ?hS_17 ?hrest_17
    case hi_17 => (simp only [List.getElem?_toArray, List.getElem?_cons_succ, List.getElem?_cons_zero]; exact rfl)
    case hz_17 => kernel_rfl
    case hs_17 => kernel_rfl
    case hf_17 => kernel_rfl
    case hr_17 => kernel_rfl
    case hQ_17 => exact fun _ _ _ h => h
    case hw_17 => rfl
    case hS_17 => assumption
    case hy_17 => (intro w hSw; (try dsimp only at hSw); go_simp; try with_reducible rfl)
    try simp only [Act.put, List.setIfInBounds_toArray, List.set_cons_zero, List.set_cons_succ]
    refine anyZ_free (i := 7) (oi := ?oi_18) (v := ?v_18) ?hi_18 ?hs_18 ?hf_18 ?hr_18 ?hQ_18 (Or.inl ⟨?hw_18, ?hy_18⟩) ?hrest_18
    case hi_18 => (simp only [List.getElem?_toArray, List.getElem?_cons_succ, List.getElem?_cons_zero]; exact rfl)
    case hs_18 => kernel_rfl
    case hf_18 => kernel_rfl
    case hr_18 => kernel_rfl
    case hQ_18 => exact fun _ _ _ h => h
    case hw_18 => rfl
    case hy_18 => (intro w _; go_simp; try with_reducible rfl)
    try simp only [Act.put, List.setIfInBounds_toArray, List.set_cons_zero, List.set_cons_succ]
    refine anyZ_ready (rs := [8]) (by kernel_rfl) (by simp) ?_
    refine (AllZ.cons (o := ?o_19) ?ho_19 (fun K hK => ?st_19) AllZ.nil)
    case ho_19 => (simp only [List.getElem?_toArray, List.getElem?_cons_succ, List.getElem?_cons_zero]; exact rfl)
    case st_19 =>
      go_simp
      (first | (go_at_call 35; first | (with_reducible refine (g1 _).mono ?_; rintro e w' ⟨rfl, nd, rfl⟩)))
      refine hK.out _ _ (by ((try dsimp only); (first | exact ⟨m1, n1⟩ | exact ⟨(tv1.drewN _).c _ hd, (tv1.drewN _).c _ ha⟩ | exact ⟨(tv1.drew.drewN _).c _ hd, (tv1.drew.drewN _).c _ ha⟩))) (fun hHeld => ?_)
      clear hK K
      try simp only [Act.put, List.setIfInBounds_toArray, List.set_cons_zero, List.set_cons_succ]
      refine anyZ_free (i := 9) (oi := ?oi_20) (v := ?v_20) ?hi_20 ?hs_20 ?hf_20 ?hr_20 ?hQ_20 (Or.inl ⟨?hw_20, ?hy_20⟩) ?hrest_20
      case hi_20 => (simp only [List.getElem?_toArray, List.getElem?_cons_succ, List.getElem?_cons_zero]; exact rfl)
      case hs_20 => kernel_rfl
      case hf_20 => kernel_rfl
      case hr_20 => kernel_rfl
      case hQ_20 => exact fun _ _ _ h => h
      case hw_20 => rfl
      case hy_20 => (intro w _; go_simp; try with_reducible rfl)
      try simp only [Act.put, List.setIfInBounds_toArray, List.set_cons_zero, List.set_cons_succ]
      refine anyZ_ready (rs := [10]) (by kernel_rfl) (by simp) ?_
      refine (AllZ.last (o := ?o_21) ?ho_21 (by rfl) (fun K hK => ?st_21) AllZ.nil)
      case ho_21 => (simp only [List.getElem?_toArray, List.getElem?_cons_succ, List.getElem?_cons_zero]; exact rfl)
      case st_21 =>
        go_simp
        refine hK.out _ _ ?_
        clear hK K
        try simp only [Act.put, List.setIfInBounds_toArray, List.set_cons_zero, List.set_cons_succ]
        refine anyZ_done (by kernel_rfl) ?_ _
        refine NoPanic.normal ?_
        have tv2 : Arr ((W1.drewN (1 + nd)).setCell ⟨N, d, none⟩ (.int .u32 (z1 : Nat))) .u32 N 16 (Ob.upd V1 d z1) := (tv1.drewN _).set hd
        have tr2 : Arr ((W1.drewN (1 + nd)).setCell ⟨N, d, none⟩ (.int .u32 (z1 : Nat))) .u32 (N + 1) 16 (fun _ => 0) := (tr1.drewN _).far (by omega) _ _
        have hB2 : Below N w ((W1.drewN (1 + nd)).setCell ⟨N, d, none⟩ (.int .u32 (z1 : Nat))) := by (repeat' (first | (with_reducible first | exact Below.refl _ _ | assumption | refine Below.alloc ?_ ?_ _ | refine Below.drew ?_ | refine below_drewN ?_ _ | refine Below.setCell ?_ ?_ _ | refine below_via (by with_reducible assumption) ?_ ?_) | omega | (simp only [szs]; omega) | (simp only [szs] at *; omega)))
        have hv2 : Ob.Words32 (Ob.upd V1 d z1) := hv1.upd _ zl1
        clear hHeld
        generalize ((W1.drewN (1 + nd)).setCell ⟨N, d, none⟩ (.int .u32 (z1 : Nat))) = W2 at *
        obtain ⟨V2, hV2⟩ : ∃ V, Hid (Ob.upd V1 d z1 = V) := ⟨_, rfl⟩
        rw [hV2.out] at tv2 hv2
        clear p1 q1 m1 n1 tv1 tr1 hB1 f1 g1 zl1
        go_upto_region 3 with (fail)
        -- statement 3
        obtain ⟨z2, hz2⟩ : ∃ z, Hid (Ob.s32 (V2 c) (V2 d) = z) := ⟨_, rfl⟩
        have f2 : IntKind.u32.wrap (((V2 c : Nat) : Int) + ((V2 d : Nat) : Int)) = ((z2 : Nat) : Int) := by rw [← hz2.out, IntKind.wrap_u32]; unfold Ob.s32; omega
        have zl2 : z2 < 4294967296 := by rw [← hz2.out]; exact Ob.s32_lt _ _
        have p2 := tv2.c c hc
        have q2 := tv2.f c hc
        have m2 := tv2.drew.c c hc
        have n2 := tv2.drew.c d hd
        refine wp_region_noPanic ?_
        refine region_lastly (S := (fun w' => w'.cell? ⟨N, c, none⟩ = some (.int .u32 (V2 c : Nat)) ∧ w'.cell? ⟨N, d, none⟩ = some (.int .u32 (V2 d : Nat)))) [9] (by kernel_rfl) (by ((try dsimp only); (first | exact ⟨m2, n2⟩ | exact ⟨(tv2.drewN _).c _ hc, (tv2.drewN _).c _ hd⟩ | exact ⟨(tv2.drew.drewN _).c _ hc, (tv2.drew.drewN _).c _ hd⟩))) (fun hHeld => ?_)
        refine anyZ_free (i := 0) (oi := ?oi_22) (v := ?v_22) ?hi_22 ?hs_22 ?hf_22 ?hr_22 ?hQ_22 (Or.inl ⟨?hw_22, ?hy_22⟩) ?hrest_22
        case hi_22 => (simp only [List.getElem?_toArray, List.getElem?_cons_succ, List.getElem?_cons_zero]; exact rfl)
        case hs_22 => kernel_rfl
        case hf_22 => kernel_rfl
        case hr_22 => kernel_rfl
        case hQ_22 => exact fun _ _ _ h => h
        case hw_22 => rfl
        case hy_22 => (intro w _; go_simp; try with_reducible rfl)
        try simp only [Act.put, List.setIfInBounds_toArray, List.set_cons_zero, List.set_cons_succ]
        refine anyZ_free (i := 1) (oi := ?oi_23) (v := ?v_23) ?hi_23 ?hs_23 ?hf_23 ?hr_23 ?hQ_23 (Or.inl ⟨?hw_23, ?hy_23⟩) ?hrest_23
        case hi_23 => (simp only [List.getElem?_toArray, List.getElem?_cons_succ, List.getElem?_cons_zero]; exact rfl)
        case hs_23 => kernel_rfl
        case hf_23 => kernel_rfl
        case hr_23 => kernel_rfl
        case hQ_23 => exact fun _ _ _ h => h
        case hw_23 => rfl
        case hy_23 => (intro w _; go_simp; try with_reducible rfl)
        try simp only [Act.put, List.setIfInBounds_toArray, List.set_cons_zero, List.set_cons_succ]
        refine anyZ_free (i := 2) (oi := ?oi_24) (v := ?v_24) ?hi_24 ?hs_24 ?hf_24 ?hr_24 ?hQ_24 (Or.inl ⟨?hw_24, ?hy_24⟩) ?hrest_24
        case hi_24 => (simp only [List.getElem?_toArray, List.getElem?_cons_succ, List.getElem?_cons_zero]; exact rfl)
        case hs_24 => kernel_rfl
        case hf_24 => kernel_rfl
        case hr_24 => kernel_rfl
        case hQ_24 => exact fun _ _ _ h => h
        case hw_24 => rfl
        case hy_24 => (intro w _; go_simp; try with_reducible rfl)
        try simp only [Act.put, List.setIfInBounds_toArray, List.set_cons_zero, List.set_cons_succ]
        refine anyZ_take (i := 3) (oi := ?oi_25) (v := ?v_25) ?hi_25 ?hz_25 ?hs_25 ?hf_25 ?hr_25 ?hQ_25 (Or.inl ⟨?hw_25, ?hy_25⟩) ?hS_25 ?hrest_25
        case hi_25 => (simp only [List.getElem?_toArray, List.getElem?_cons_succ, List.getElem?_cons_zero]; exact rfl)
        case hz_25 => kernel_rfl
        case hs_25 => kernel_rfl
        case hf_25 => kernel_rfl
        case hr_25 => kernel_rfl
        case hQ_25 => exact fun _ _ _ h => h
        case hw_25 => rfl
        case hS_25 => assumption
        case hy_25 => (intro w hSw; (try dsimp only at hSw); go_simp; try with_reducible rfl)
        try simp only [Act.put, List.setIfInBounds_toArray, List.set_cons_zero, List.set_cons_succ]
        refine anyZ_free (i := 4) (oi := ?oi_26) (v := ?v_26) ?hi_26 ?hs_26 ?hf_26 ?hr_26 ?hQ_26 (Or.inl ⟨?hw_26, ?hy_26⟩) ?hrest_26
        case hi_26 => (simp only [List.getElem?_toArray, List.getElem?_cons_succ, List.getElem?_cons_zero]; exact rfl)
        case hs_26 => kernel_rfl
        case hf_26 => kernel_rfl
        case hr_26 => kernel_rfl
        case hQ_26 => exact fun _ _ _ h => h
        case hw_26 => rfl
        case hy_26 => (intro w _; go_simp; try with_reducible rfl)
        try simp only [Act.put, List.setIfInBounds_toArray, List.set_cons_zero, List.set_cons_succ]
        refine anyZ_free (i := 5) (oi := ?oi_27) (v := ?v_27) ?hi_27 ?hs_27 ?hf_27 ?hr_27 ?hQ_27 (Or.inl ⟨?hw_27, ?hy_27⟩) ?hrest_27
        case hi_27 => (simp only [List.getElem?_toArray, List.getElem?_cons_succ, List.getElem?_cons_zero]; exact rfl)
        case hs_27 => kernel_rfl
        case hf_27 => kernel_rfl
        case hr_27 => kernel_rfl
        case hQ_27 => exact fun _ _ _ h => h
        case hw_27 => rfl
        case hy_27 => (intro w _; go_simp; try with_reducible rfl)
        try simp only [Act.put, List.setIfInBounds_toArray, List.set_cons_zero, List.set_cons_succ]
        refine anyZ_take (i := 6) (oi := ?oi_28) (v := ?v_28) ?hi_28 ?hz_28 ?hs_28 ?hf_28 ?hr_28 ?hQ_28 (Or.inl ⟨?hw_28, ?hy_28⟩) ?hS_28 ?hrest_28
        case hi_28 => (simp only [List.getElem?_toArray, List.getElem?_cons_succ, List.getElem?_cons_zero]; exact rfl)
        case hz_28 => kernel_rfl
        case hs_28 => kernel_rfl
        case hf_28 => kernel_rfl
        case hr_28 => kernel_rfl
        case hQ_28 => exact fun _ _ _ h => h
        case hw_28 => rfl
        case hS_28 => assumption
        case hy_28 => (intro w hSw; (try dsimp only at hSw); go_simp; try with_reducible rfl)
        try simp only [Act.put, List.setIfInBounds_toArray, List.set_cons_zero, List.set_cons_succ]
        refine anyZ_free (i := 7) (oi := ?oi_29) (v := ?v_29) ?hi_29 ?hs_29 ?hf_29 ?hr_29 ?hQ_29 (Or.inl ⟨?hw_29, ?hy_29⟩) ?hrest_29
        case hi_29 => (simp only [List.getElem?_toArray, List.getElem?_cons_succ, List.getElem?_cons_zero]; exact rfl)
        case hs_29 => kernel_rfl
        case hf_29 => kernel_rfl
        case hr_29 => kernel_rfl
        case hQ_29 => exact fun _ _ _ h => h
        case hw_29 => rfl
        case hy_29 => (intro w _; go_simp; try with_reducible rfl)
        try simp only [Act.put, List.setIfInBounds_toArray, List.set_cons_zero, List.set_cons_succ]
        refine anyZ_free (i := 8) (oi := ?oi_30) (v := ?v_30) ?hi_30 ?hs_30 ?hf_30 ?hr_30 ?hQ_30 (Or.inl ⟨?hw_30, ?hy_30⟩) ?hrest_30
        case hi_30 => (simp only [List.getElem?_toArray, List.getElem?_cons_succ, List.getElem?_cons_zero]; exact rfl)
        case hs_30 => kernel_rfl
        case hf_30 => kernel_rfl
        case hr_30 => kernel_rfl
        case hQ_30 => exact fun _ _ _ h => h
        case hw_30 => rfl
        case hy_30 => (intro w _; go_simp; try with_reducible rfl)
        try simp only [Act.put, List.setIfInBounds_toArray, List.set_cons_zero, List.set_cons_succ]
        refine anyZ_ready (rs := [9]) (by kernel_rfl) (by simp) ?_
        refine (AllZ.last (o := ?o_31) ?ho_31 (by rfl) (fun K hK => ?st_31) AllZ.nil)
        case ho_31 => (simp only [List.getElem?_toArray, List.getElem?_cons_succ, List.getElem?_cons_zero]; exact rfl)
        case st_31 =>
          go_simp
          refine hK.out _ _ ?_
          clear hK K
          try simp only [Act.put, List.setIfInBounds_toArray, List.set_cons_zero, List.set_cons_succ]
          refine anyZ_done (by kernel_rfl) ?_ _
          refine NoPanic.normal ?_
          have tv3 : Arr ((W2.setCell ⟨N, c, none⟩ (.int .u32 (z2 : Nat))).drew) .u32 N 16 (Ob.upd V2 c z2) := (tv2.set hc).drew
          have tr3 : Arr ((W2.setCell ⟨N, c, none⟩ (.int .u32 (z2 : Nat))).drew) .u32 (N + 1) 16 (fun _ => 0) := (tr2.far (by omega) _ _).drew
          have hB3 : Below N w ((W2.setCell ⟨N, c, none⟩ (.int .u32 (z2 : Nat))).drew) := by (repeat' (first | (with_reducible first | exact Below.refl _ _ | assumption | refine Below.alloc ?_ ?_ _ | refine Below.drew ?_ | refine below_drewN ?_ _ | refine Below.setCell ?_ ?_ _ | refine below_via (by with_reducible assumption) ?_ ?_) | omega | (simp only [szs]; omega) | (simp only [szs] at *; omega)))
          have hv3 : Ob.Words32 (Ob.upd V2 c z2) := hv2.upd _ zl2
          clear hHeld
          generalize ((W2.setCell ⟨N, c, none⟩ (.int .u32 (z2 : Nat))).drew) = W3 at *
          obtain ⟨V3, hV3⟩ : ∃ V, Hid (Ob.upd V2 c z2 = V) := ⟨_, rfl⟩
          rw [hV3.out] at tv3 hv3
          clear p2 q2 m2 n2 tv2 tr2 hB2 f2 zl2
          go_upto_region 4 with (fail)
          -- statement 4
          obtain ⟨z3, hz3⟩ : ∃ z, Hid (Ob.rot (V3 b ^^^ V3 c) 20 = z) := ⟨_, rfl⟩
          have f3 := xor_u32 (V3 b) (V3 c) (hv3 _) (hv3 _)
          have g3 : ∀ w, Calls Tryd.prog 35 #[.int .u32 ((V3 b ^^^ V3 c : Nat) : Int), .int .i64 12] w fun e w' => e = .returned (.int .u32 (z3 : Nat)) ∧ ∃ nd, w' = w.drewN nd := by rw [← hz3.out]; exact rollXW _ 12 (Ob.xor_lt (hv3 _) (hv3 _)) (by decide)
          have zl3 : z3 < 4294967296 := by rw [← hz3.out]; exact Ob.rot_lt (Ob.xor_lt (hv3 _) (hv3 _)) (by decide)
          have p3 := tv3.c b hb
          have q3 := tv3.f b hb
          have m3 := tv3.drew.c b hb
          have n3 := tv3.drew.c c hc
          refine wp_region_noPanic ?_
          refine region_lastly (S := (fun w' => w'.cell? ⟨N, b, none⟩ = some (.int .u32 (V3 b : Nat)) ∧ w'.cell? ⟨N, c, none⟩ = some (.int .u32 (V3 c : Nat)))) [10] (by kernel_rfl) (by ((try dsimp only); (first | exact ⟨m3, n3⟩ | exact ⟨(tv3.drewN _).c _ hb, (tv3.drewN _).c _ hc⟩ | exact ⟨(tv3.drew.drewN _).c _ hb, (tv3.drew.drewN _).c _ hc⟩))) (fun hHeld => ?_)
          refine anyZ_free (i := 0) (oi := ?oi_32) (v := ?v_32) ?hi_32 ?hs_32 ?hf_32 ?hr_32 ?hQ_32 (Or.inl ⟨?hw_32, ?hy_32⟩) ?hrest_32
          case hi_32 => (simp only [List.getElem?_toArray, List.getElem?_cons_succ, List.getElem?_cons_zero]; exact rfl)
          case hs_32 => kernel_rfl
          case hf_32 => kernel_rfl
          case hr_32 => kernel_rfl
          case hQ_32 => exact fun _ _ _ h => h
          case hw_32 => rfl
          case hy_32 => (intro w _; go_simp; try with_reducible rfl)
          try simp only [Act.put, List.setIfInBounds_toArray, List.set_cons_zero, List.set_cons_succ]
          refine anyZ_free (i := 1) (oi := ?oi_33) (v := ?v_33) ?hi_33 ?hs_33 ?hf_33 ?hr_33 ?hQ_33 (Or.inl ⟨?hw_33, ?hy_33⟩) ?hrest_33
          case hi_33 => (simp only [List.getElem?_toArray, List.getElem?_cons_succ, List.getElem?_cons_zero]; exact rfl)
          case hs_33 => kernel_rfl
          case hf_33 => kernel_rfl
          case hr_33 => kernel_rfl
          case hQ_33 => exact fun _ _ _ h => h
          case hw_33 => rfl
          case hy_33 => (intro w _; go_simp; try with_reducible rfl)
          try simp only [Act.put, List.setIfInBounds_toArray, List.set_cons_zero, List.set_cons_succ]
          refine anyZ_free (i := 2) (oi := ?oi_34) (v := ?v_34) ?hi_34 ?hs_34 ?hf_34 ?hr_34 ?hQ_34 (Or.inl ⟨?hw_34, ?hy_34⟩) ?hrest_34
          case hi_34 => (simp only [List.getElem?_toArray, List.getElem?_cons_succ, List.getElem?_cons_zero]; exact rfl)
          case hs_34 => kernel_rfl
          case hf_34 => kernel_rfl
          case hr_34 => kernel_rfl
          case hQ_34 => exact fun _ _ _ h => h
          case hw_34 => rfl
          case hy_34 => (intro w _; go_simp; try with_reducible rfl)
          try simp only [Act.put, List.setIfInBounds_toArray, List.set_cons_zero, List.set_cons_succ]
          refine anyZ_take (i := 3) (oi := ?oi_35) (v := ?v_35) ?hi_35 ?hz_35 ?hs_35 ?hf_35 ?hr_35 ?hQ_35 (Or.inl ⟨?hw_35, ?hy_35⟩) ?hS_35 ?hrest_35
          case hi_35 => (simp only [List.getElem?_toArray, List.getElem?_cons_succ, List.getElem?_cons_zero]; exact rfl)
          case hz_35 => kernel_rfl
          case hs_35 => kernel_rfl
          case hf_35 => kernel_rfl
          case hr_35 => kernel_rfl
          case hQ_35 => exact fun _ _ _ h => h
          case hw_35 => rfl
          case hS_35 => assumption
          case hy_35 => (intro w hSw; (try dsimp only at hSw); go_simp; try with_reducible rfl)
          try simp only [Act.put, List.setIfInBounds_toArray, List.set_cons_zero, List.set_cons_succ]
          refine anyZ_free (i := 4) (oi := ?oi_36) (v := ?v_36) ?hi_36 ?hs_36 ?hf_36 ?hr_36 ?hQ_36 (Or.inl ⟨?hw_36, ?hy_36⟩) ?hrest_36
          case hi_36 => (simp only [List.getElem?_toArray, List.getElem?_cons_succ, List.getElem?_cons_zero]; exact rfl)
          case hs_36 => kernel_rfl
          case hf_36 => kernel_rfl
          case hr_36 => kernel_rfl
          case hQ_36 => exact fun _ _ _ h => h
          case hw_36 => rfl
          case hy_36 => (intro w _; go_simp; try with_reducible rfl)
          try simp only [Act.put, List.setIfInBounds_toArray, List.set_cons_zero, List.set_cons_succ]
          refine anyZ_free (i := 5) (oi := ?oi_37) (v := ?v_37) ?hi_37 ?hs_37 ?hf_37 ?hr_37 ?hQ_37 (Or.inl ⟨?hw_37, ?hy_37⟩) ?hrest_37
          case hi_37 => (simp only [List.getElem?_toArray, List.getElem?_cons_succ, List.getElem?_cons_zero]; exact rfl)
          case hs_37 => kernel_rfl
          case hf_37 => kernel_rfl
          case hr_37 => kernel_rfl
          case hQ_37 => exact fun _ _ _ h => h
          case hw_37 => rfl
          case hy_37 => (intro w _; go_simp; try with_reducible rfl)
          try simp only [Act.put, List.setIfInBounds_toArray, List.set_cons_zero, List.set_cons_succ]
          refine anyZ_take (i := 6) (oi := ?oi_38) (v := ?v_38) ?hi_38 ?hz_38 ?hs_38 ?hf_38 ?hr_38 ?hQ_38 (Or.inl ⟨?hw_38, ?hy_38⟩) ?hS_38 ?hrest_38
          case hi_38 => (simp only [List.getElem?_toArray, List.getElem?_cons_succ, List.getElem?_cons_zero]; exact rfl)
          case hz_38 => kernel_rfl
          case hs_38 => kernel_rfl
          case hf_38 => kernel_rfl
          case hr_38 => kernel_rfl
          case hQ_38 => exact fun _ _ _ h => h
          case hw_38 => rfl
          case hS_38 => assumption
          case hy_38 => (intro w hSw; (try dsimp only at hSw); go_simp; try with_reducible rfl)
          try simp only [Act.put, List.setIfInBounds_toArray, List.set_cons_zero, List.set_cons_succ]
          refine anyZ_free (i := 7) (oi := ?oi_39) (v := ?v_39) ?hi_39 ?hs_39 ?hf_39 ?hr_39 ?hQ_39 (Or.inl ⟨?hw_39, ?hy_39⟩) ?hrest_39
          case hi_39 => (simp only [List.getElem?_toArray, List.getElem?_cons_succ, List.getElem?_cons_zero]; exact rfl)
          case hs_39 => kernel_rfl
          case hf_39 => kernel_rfl
          case hr_39 => kernel_rfl
          case hQ_39 => exact fun _ _ _ h => h
          case hw_39 => rfl
          case hy_39 => (intro w _; go_simp; try with_reducible rfl)
          try simp only [Act.put, List.setIfInBounds_toArray, List.set_cons_zero, List.set_cons_succ]
          refine anyZ_ready (rs := [8]) (by kernel_rfl) (by simp) ?_
          refine (AllZ.cons (o := ?o_40) ?ho_40 (fun K hK => ?st_40) AllZ.nil)
          case ho_40 => (simp only [List.getElem?_toArray, List.getElem?_cons_succ, List.getElem?_cons_zero]; exact rfl)
          case st_40 =>
            go_simp
            (first | (go_at_call 35; first | (with_reducible refine (g3 _).mono ?_; rintro e w' ⟨rfl, nd, rfl⟩)))
            refine hK.out _ _ (by ((try dsimp only); (first | exact ⟨m3, n3⟩ | exact ⟨(tv3.drewN _).c _ hb, (tv3.drewN _).c _ hc⟩ | exact ⟨(tv3.drew.drewN _).c _ hb, (tv3.drew.drewN _).c _ hc⟩))) (fun hHeld => ?_)
            clear hK K
            try simp only [Act.put, List.setIfInBounds_toArray, List.set_cons_zero, List.set_cons_succ]
            refine anyZ_free (i := 9) (oi := ?oi_41) (v := ?v_41) ?hi_41 ?hs_41 ?hf_41 ?hr_41 ?hQ_41 (Or.inl ⟨?hw_41, ?hy_41⟩) ?hrest_41
            case hi_41 => (simp only [List.getElem?_toArray, List.getElem?_cons_succ, List.getElem?_cons_zero]; exact rfl)
            case hs_41 => kernel_rfl
            case hf_41 => kernel_rfl
            case hr_41 => kernel_rfl
            case hQ_41 => exact fun _ _ _ h => h
            case hw_41 => rfl
            case hy_41 => (intro w _; go_simp; try with_reducible rfl)
            try simp only [Act.put, List.setIfInBounds_toArray, List.set_cons_zero, List.set_cons_succ]
            refine anyZ_ready (rs := [10]) (by kernel_rfl) (by simp) ?_
            refine (AllZ.last (o := ?o_42) ?ho_42 (by rfl) (fun K hK => ?st_42) AllZ.nil)
            case ho_42 => (simp only [List.getElem?_toArray, List.getElem?_cons_succ, List.getElem?_cons_zero]; exact rfl)
            case st_42 =>
              go_simp
              refine hK.out _ _ ?_
              clear hK K
              try simp only [Act.put, List.setIfInBounds_toArray, List.set_cons_zero, List.set_cons_succ]
              refine anyZ_done (by kernel_rfl) ?_ _
              refine NoPanic.normal ?_
              have tv4 : Arr ((W3.drewN (1 + nd)).setCell ⟨N, b, none⟩ (.int .u32 (z3 : Nat))) .u32 N 16 (Ob.upd V3 b z3) := (tv3.drewN _).set hb
              have tr4 : Arr ((W3.drewN (1 + nd)).setCell ⟨N, b, none⟩ (.int .u32 (z3 : Nat))) .u32 (N + 1) 16 (fun _ => 0) := (tr3.drewN _).far (by omega) _ _
              have hB4 : Below N w ((W3.drewN (1 + nd)).setCell ⟨N, b, none⟩ (.int .u32 (z3 : Nat))) := by (repeat' (first | (with_reducible first | exact Below.refl _ _ | assumption | refine Below.alloc ?_ ?_ _ | refine Below.drew ?_ | refine below_drewN ?_ _ | refine Below.setCell ?_ ?_ _ | refine below_via (by with_reducible assumption) ?_ ?_) | omega | (simp only [szs]; omega) | (simp only [szs] at *; omega)))
              have hv4 : Ob.Words32 (Ob.upd V3 b z3) := hv3.upd _ zl3
              clear hHeld
              generalize ((W3.drewN (1 + nd)).setCell ⟨N, b, none⟩ (.int .u32 (z3 : Nat))) = W4 at *
              obtain ⟨V4, hV4⟩ : ∃ V, Hid (Ob.upd V3 b z3 = V) := ⟨_, rfl⟩
              rw [hV4.out] at tv4 hv4
              clear p3 q3 m3 n3 tv3 tr3 hB3 f3 g3 zl3
              go_upto_region 5 with (fail)
              -- statement 5
              obtain ⟨z4, hz4⟩ : ∃ z, Hid (Ob.s32 (V4 a) (V4 b) = z) := ⟨_, rfl⟩
              have f4 : IntKind.u32.wrap (((V4 a : Nat) : Int) + ((V4 b : Nat) : Int)) = ((z4 : Nat) : Int) := by rw [← hz4.out, IntKind.wrap_u32]; unfold Ob.s32; omega
              have zl4 : z4 < 4294967296 := by rw [← hz4.out]; exact Ob.s32_lt _ _
              have p4 := tv4.c a ha
              have q4 := tv4.f a ha
              have m4 := tv4.drew.c a ha
              have n4 := tv4.drew.c b hb
              refine wp_region_noPanic ?_
              refine region_lastly (S := (fun w' => w'.cell? ⟨N, a, none⟩ = some (.int .u32 (V4 a : Nat)) ∧ w'.cell? ⟨N, b, none⟩ = some (.int .u32 (V4 b : Nat)))) [9] (by kernel_rfl) (by ((try dsimp only); (first | exact ⟨m4, n4⟩ | exact ⟨(tv4.drewN _).c _ ha, (tv4.drewN _).c _ hb⟩ | exact ⟨(tv4.drew.drewN _).c _ ha, (tv4.drew.drewN _).c _ hb⟩))) (fun hHeld => ?_)
              refine anyZ_free (i := 0) (oi := ?oi_43) (v := ?v_43) ?hi_43 ?hs_43 ?hf_43 ?hr_43 ?hQ_43 (Or.inl ⟨?hw_43, ?hy_43⟩) ?hrest_43
              case hi_43 => (simp only [List.getElem?_toArray, List.getElem?_cons_succ, List.getElem?_cons_zero]; exact rfl)
              case hs_43 => kernel_rfl
              case hf_43 => kernel_rfl
              case hr_43 => kernel_rfl
              case hQ_43 => exact fun _ _ _ h => h
              case hw_43 => rfl
              case hy_43 => (intro w _; go_simp; try with_reducible rfl)
              try simp only [Act.put, List.setIfInBounds_toArray, List.set_cons_zero, List.set_cons_succ]
              refine anyZ_free (i := 1) (oi := ?oi_44) (v := ?v_44) ?hi_44 ?hs_44 ?hf_44 ?hr_44 ?hQ_44 (Or.inl ⟨?hw_44, ?hy_44⟩) ?hrest_44
              case hi_44 => (simp only [List.getElem?_toArray, List.getElem?_cons_succ, List.getElem?_cons_zero]; exact rfl)
              case hs_44 => kernel_rfl
              case hf_44 => kernel_rfl
              case hr_44 => kernel_rfl
              case hQ_44 => exact fun _ _ _ h => h
              case hw_44 => rfl
              case hy_44 => (intro w _; go_simp; try with_reducible rfl)
              try simp only [Act.put, List.setIfInBounds_toArray, List.set_cons_zero, List.set_cons_succ]
              refine anyZ_free (i := 2) (oi := ?oi_45) (v := ?v_45) ?hi_45 ?hs_45 ?hf_45 ?hr_45 ?hQ_45 (Or.inl ⟨?hw_45, ?hy_45⟩) ?hrest_45
              case hi_45 => (simp only [List.getElem?_toArray, List.getElem?_cons_succ, List.getElem?_cons_zero]; exact rfl)
              case hs_45 => kernel_rfl
              case hf_45 => kernel_rfl
              case hr_45 => kernel_rfl
              case hQ_45 => exact fun _ _ _ h => h
              case hw_45 => rfl
              case hy_45 => (intro w _; go_simp; try with_reducible rfl)
              try simp only [Act.put, List.setIfInBounds_toArray, List.set_cons_zero, List.set_cons_succ]
              refine anyZ_take (i := 3) (oi := ?oi_46) (v := ?v_46) ?hi_46 ?hz_46 ?hs_46 ?hf_46 ?hr_46 ?hQ_46 (Or.inl ⟨?hw_46, ?hy_46⟩) ?hS_46 ?hrest_46
              case hi_46 => (simp only [List.getElem?_toArray, List.getElem?_cons_succ, List.getElem?_cons_zero]; exact rfl)
              case hz_46 => kernel_rfl
              case hs_46 => kernel_rfl
              case hf_46 => kernel_rfl
              case hr_46 => kernel_rfl
              case hQ_46 => exact fun _ _ _ h => h
              case hw_46 => rfl
              case hS_46 => assumption
              case hy_46 => (intro w hSw; (try dsimp only at hSw); go_simp; try with_reducible rfl)
              try simp only [Act.put, List.setIfInBounds_toArray, List.set_cons_zero, List.set_cons_succ]
              refine anyZ_free (i := 4) (oi := ?oi_47) (v := ?v_47) ?hi_47 ?hs_47 ?hf_47 ?hr_47 ?hQ_47 (Or.inl ⟨?hw_47, ?hy_47⟩) ?hrest_47
              case hi_47 => (simp only [List.getElem?_toArray, List.getElem?_cons_succ, List.getElem?_cons_zero]; exact rfl)
              case hs_47 => kernel_rfl
              case hf_47 => kernel_rfl
              case hr_47 => kernel_rfl
              case hQ_47 => exact fun _ _ _ h => h
              case hw_47 => rfl
              case hy_47 => (intro w _; go_simp; try with_reducible rfl)
              try simp only [Act.put, List.setIfInBounds_toArray, List.set_cons_zero, List.set_cons_succ]
              refine anyZ_free (i := 5) (oi := ?oi_48) (v := ?v_48) ?hi_48 ?hs_48 ?hf_48 ?hr_48 ?hQ_48 (Or.inl ⟨?hw_48, ?hy_48⟩) ?hrest_48
              case hi_48 => (simp only [List.getElem?_toArray, List.getElem?_cons_succ, List.getElem?_cons_zero]; exact rfl)
              case hs_48 => kernel_rfl
              case hf_48 => kernel_rfl
              case hr_48 => kernel_rfl
              case hQ_48 => exact fun _ _ _ h => h
              case hw_48 => rfl
              case hy_48 => (intro w _; go_simp; try with_reducible rfl)
              try simp only [Act.put, List.setIfInBounds_toArray, List.set_cons_zero, List.set_cons_succ]
              refine anyZ_take (i := 6) (oi := ?oi_49) (v := ?v_49) ?hi_49 ?hz_49 ?hs_49 ?hf_49 ?hr_49 ?hQ_49 (Or.inl ⟨?hw_49, ?hy_49⟩) ?hS_49 ?hrest_49
              case hi_49 => (simp only [List.getElem?_toArray, List.getElem?_cons_succ, List.getElem?_cons_zero]; exact rfl)
              case hz_49 => kernel_rfl
              case hs_49 => kernel_rfl
              case hf_49 => kernel_rfl
              case hr_49 => kernel_rfl
              case hQ_49 => exact fun _ _ _ h => h
              case hw_49 => rfl
              case hS_49 => assumption
              case hy_49 => (intro w hSw; (try dsimp only at hSw); go_simp; try with_reducible rfl)
              try simp only [Act.put, List.setIfInBounds_toArray, List.set_cons_zero, List.set_cons_succ]
              refine anyZ_free (i := 7) (oi := ?oi_50) (v := ?v_50) ?hi_50 ?hs_50 ?hf_50 ?hr_50 ?hQ_50 (Or.inl ⟨?hw_50, ?hy_50⟩) ?hrest_50
              case hi_50 => (simp only [List.getElem?_toArray, List.getElem?_cons_succ, List.getElem?_cons_zero]; exact rfl)
              case hs_50 => kernel_rfl
              case hf_50 => kernel_rfl
              case hr_50 => kernel_rfl
              case hQ_50 => exact fun _ _ _ h => h
              case hw_50 => rfl
              case hy_50 => (intro w _; go_simp; try with_reducible rfl)
              try simp only [Act.put, List.setIfInBounds_toArray, List.set_cons_zero, List.set_cons_succ]
              refine anyZ_free (i := 8) (oi := ?oi_51) (v := ?v_51) ?hi_51 ?hs_51 ?hf_51 ?hr_51 ?hQ_51 (Or.inl ⟨?hw_51, ?hy_51⟩) ?hrest_51
              case hi_51 => (simp only [List.getElem?_toArray, List.getElem?_cons_succ, List.getElem?_cons_zero]; exact rfl)
              case hs_51 => kernel_rfl
              case hf_51 => kernel_rfl
              case hr_51 => kernel_rfl
              case hQ_51 => exact fun _ _ _ h => h
              case hw_51 => rfl
              case hy_51 => (intro w _; go_simp; try with_reducible rfl)
              try simp only [Act.put, List.setIfInBounds_toArray, List.set_cons_zero, List.set_cons_succ]
              refine anyZ_ready (rs := [9]) (by kernel_rfl) (by simp) ?_
              refine (AllZ.last (o := ?o_52) ?ho_52 (by rfl) (fun K hK => ?st_52) AllZ.nil)
              case ho_52 => (simp only [List.getElem?_toArray, List.getElem?_cons_succ, List.getElem?_cons_zero]; exact rfl)
              case st_52 =>
                go_simp
                refine hK.out _ _ ?_
                clear hK K
                try simp only [Act.put, List.setIfInBounds_toArray, List.set_cons_zero, List.set_cons_succ]
                refine anyZ_done (by kernel_rfl) ?_ _
                refine NoPanic.normal ?_
                have tv5 : Arr ((W4.setCell ⟨N, a, none⟩ (.int .u32 (z4 : Nat))).drew) .u32 N 16 (Ob.upd V4 a z4) := (tv4.set ha).drew
                have tr5 : Arr ((W4.setCell ⟨N, a, none⟩ (.int .u32 (z4 : Nat))).drew) .u32 (N + 1) 16 (fun _ => 0) := (tr4.far (by omega) _ _).drew
                have hB5 : Below N w ((W4.setCell ⟨N, a, none⟩ (.int .u32 (z4 : Nat))).drew) := by (repeat' (first | (with_reducible first | exact Below.refl _ _ | assumption | refine Below.alloc ?_ ?_ _ | refine Below.drew ?_ | refine below_drewN ?_ _ | refine Below.setCell ?_ ?_ _ | refine below_via (by with_reducible assumption) ?_ ?_) | omega | (simp only [szs]; omega) | (simp only [szs] at *; omega)))
                have hv5 : Ob.Words32 (Ob.upd V4 a z4) := hv4.upd _ zl4
                clear hHeld
                generalize ((W4.setCell ⟨N, a, none⟩ (.int .u32 (z4 : Nat))).drew) = W5 at *
                obtain ⟨V5, hV5⟩ : ∃ V, Hid (Ob.upd V4 a z4 = V) := ⟨_, rfl⟩
                rw [hV5.out] at tv5 hv5
                clear p4 q4 m4 n4 tv4 tr4 hB4 f4 zl4
                go_upto_region 6 with (fail)
                -- statement 6
                obtain ⟨z5, hz5⟩ : ∃ z, Hid (Ob.rot (V5 d ^^^ V5 a) 24 = z) := ⟨_, rfl⟩
                have f5 := xor_u32 (V5 d) (V5 a) (hv5 _) (hv5 _)
                have g5 : ∀ w, Calls Tryd.prog 35 #[.int .u32 ((V5 d ^^^ V5 a : Nat) : Int), .int .i64 8] w fun e w' => e = .returned (.int .u32 (z5 : Nat)) ∧ ∃ nd, w' = w.drewN nd := by rw [← hz5.out]; exact rollXW _ 8 (Ob.xor_lt (hv5 _) (hv5 _)) (by decide)
                have zl5 : z5 < 4294967296 := by rw [← hz5.out]; exact Ob.rot_lt (Ob.xor_lt (hv5 _) (hv5 _)) (by decide)
                have p5 := tv5.c d hd
                have q5 := tv5.f d hd
                have m5 := tv5.drew.c d hd
                have n5 := tv5.drew.c a ha
                refine wp_region_noPanic ?_
                refine region_lastly (S := (fun w' => w'.cell? ⟨N, d, none⟩ = some (.int .u32 (V5 d : Nat)) ∧ w'.cell? ⟨N, a, none⟩ = some (.int .u32 (V5 a : Nat)))) [10] (by kernel_rfl) (by ((try dsimp only); (first | exact ⟨m5, n5⟩ | exact ⟨(tv5.drewN _).c _ hd, (tv5.drewN _).c _ ha⟩ | exact ⟨(tv5.drew.drewN _).c _ hd, (tv5.drew.drewN _).c _ ha⟩))) (fun hHeld => ?_)
                refine anyZ_free (i := 0) (oi := ?oi_53) (v := ?v_53) ?hi_53 ?hs_53 ?hf_53 ?hr_53 ?hQ_53 (Or.inl ⟨?hw_53, ?hy_53⟩) ?hrest_53
                case hi_53 => (simp only [List.getElem?_toArray, List.getElem?_cons_succ, List.getElem?_cons_zero]; exact rfl)
                case hs_53 => kernel_rfl
                case hf_53 => kernel_rfl
                case hr_53 => kernel_rfl
                case hQ_53 => exact fun _ _ _ h => h
                case hw_53 => rfl
                case hy_53 => (intro w _; go_simp; try with_reducible rfl)
                try simp only [Act.put, List.setIfInBounds_toArray, List.set_cons_zero, List.set_cons_succ]
                refine anyZ_free (i := 1) (oi := ?oi_54) (v := ?v_54) ?hi_54 ?hs_54 ?hf_54 ?hr_54 ?hQ_54 (Or.inl ⟨?hw_54, ?hy_54⟩) ?hrest_54
                case hi_54 => (simp only [List.getElem?_toArray, List.getElem?_cons_succ, List.getElem?_cons_zero]; exact rfl)
                case hs_54 => kernel_rfl
                case hf_54 => kernel_rfl
                case hr_54 => kernel_rfl
                case hQ_54 => exact fun _ _ _ h => h
                case hw_54 => rfl
                case hy_54 => (intro w _; go_simp; try with_reducible rfl)
                try simp only [Act.put, List.setIfInBounds_toArray, List.set_cons_zero, List.set_cons_succ]
                refine anyZ_free (i := 2) (oi := ?oi_55) (v := ?v_55) ?hi_55 ?hs_55 ?hf_55 ?hr_55 ?hQ_55 (Or.inl ⟨?hw_55, ?hy_55⟩) ?hrest_55
                case hi_55 => (simp only [List.getElem?_toArray, List.getElem?_cons_succ, List.getElem?_cons_zero]; exact rfl)
                case hs_55 => kernel_rfl
                case hf_55 => kernel_rfl
                case hr_55 => kernel_rfl
                case hQ_55 => exact fun _ _ _ h => h
                case hw_55 => rfl
                case hy_55 => (intro w _; go_simp; try with_reducible rfl)
                try simp only [Act.put, List.setIfInBounds_toArray, List.set_cons_zero, List.set_cons_succ]
                refine anyZ_take (i := 3) (oi := ?oi_56) (v := ?v_56) ?hi_56 ?hz_56 ?hs_56 ?hf_56 ?hr_56 ?hQ_56 (Or.inl ⟨?hw_56, ?hy_56⟩) ?hS_56 ?hrest_56
                case hi_56 => (simp only [List.getElem?_toArray, List.getElem?_cons_succ, List.getElem?_cons_zero]; exact rfl)
                case hz_56 => kernel_rfl
                case hs_56 => kernel_rfl
                case hf_56 => kernel_rfl
                case hr_56 => kernel_rfl
                case hQ_56 => exact fun _ _ _ h => h
                case hw_56 => rfl
                case hS_56 => assumption
                case hy_56 => (intro w hSw; (try dsimp only at hSw); go_simp; try with_reducible rfl)
                try simp only [Act.put, List.setIfInBounds_toArray, List.set_cons_zero, List.set_cons_succ]
                refine anyZ_free (i := 4) (oi := ?oi_57) (v := ?v_57) ?hi_57 ?hs_57 ?hf_57 ?hr_57 ?hQ_57 (Or.inl ⟨?hw_57, ?hy_57⟩) ?hrest_57
                case hi_57 => (simp only [List.getElem?_toArray, List.getElem?_cons_succ, List.getElem?_cons_zero]; exact rfl)
                case hs_57 => kernel_rfl
                case hf_57 => kernel_rfl
                case hr_57 => kernel_rfl
                case hQ_57 => exact fun _ _ _ h => h
                case hw_57 => rfl
                case hy_57 => (intro w _; go_simp; try with_reducible rfl)
                try simp only [Act.put, List.setIfInBounds_toArray, List.set_cons_zero, List.set_cons_succ]
                refine anyZ_free (i := 5) (oi := ?oi_58) (v := ?v_58) ?hi_58 ?hs_58 ?hf_58 ?hr_58 ?hQ_58 (Or.inl ⟨?hw_58, ?hy_58⟩) ?hrest_58
                case hi_58 => (simp only [List.getElem?_toArray, List.getElem?_cons_succ, List.getElem?_cons_zero]; exact rfl)
                case hs_58 => kernel_rfl
                case hf_58 => kernel_rfl
                case hr_58 => kernel_rfl
                case hQ_58 => exact fun _ _ _ h => h
                case hw_58 => rfl
                case hy_58 => (intro w _; go_simp; try with_reducible rfl)
                try simp only [Act.put, List.setIfInBounds_toArray, List.set_cons_zero, List.set_cons_succ]
                refine anyZ_take (i := 6) (oi := ?oi_59) (v := ?v_59) ?hi_59 ?hz_59 ?hs_59 ?hf_59 ?hr_59 ?hQ_59 (Or.inl ⟨?hw_59, ?hy_59⟩) ?hS_59 ?hrest_59
                case hi_59 => (simp only [List.getElem?_toArray, List.getElem?_cons_succ, List.getElem?_cons_zero]; exact rfl)
                case hz_59 => kernel_rfl
                case hs_59 => kernel_rfl
                case hf_59 => kernel_rfl
                case hr_59 => kernel_rfl
                case hQ_59 => exact fun _ _ _ h => h
                case hw_59 => rfl
                case hS_59 => assumption
                case hy_59 => (intro w hSw; (try dsimp only at hSw); go_simp; try with_reducible rfl)
                try simp only [Act.put, List.setIfInBounds_toArray, List.set_cons_zero, List.set_cons_succ]
                refine anyZ_free (i := 7) (oi := ?oi_60) (v := ?v_60) ?hi_60 ?hs_60 ?hf_60 ?hr_60 ?hQ_60 (Or.inl ⟨?hw_60, ?hy_60⟩) ?hrest_60
                case hi_60 => (simp only [List.getElem?_toArray, List.getElem?_cons_succ, List.getElem?_cons_zero]; exact rfl)
                case hs_60 => kernel_rfl
                case hf_60 => kernel_rfl
                case hr_60 => kernel_rfl
                case hQ_60 => exact fun _ _ _ h => h
                case hw_60 => rfl
                case hy_60 => (intro w _; go_simp; try with_reducible rfl)
                try simp only [Act.put, List.setIfInBounds_toArray, List.set_cons_zero, List.set_cons_succ]
                refine anyZ_ready (rs := [8]) (by kernel_rfl) (by simp) ?_
                refine (AllZ.cons (o := ?o_61) ?ho_61 (fun K hK => ?st_61) AllZ.nil)
                case ho_61 => (simp only [List.getElem?_toArray, List.getElem?_cons_succ, List.getElem?_cons_zero]; exact rfl)
                case st_61 =>
                  go_simp
                  (first | (go_at_call 35; first | (with_reducible refine (g5 _).mono ?_; rintro e w' ⟨rfl, nd, rfl⟩)))
                  refine hK.out _ _ (by ((try dsimp only); (first | exact ⟨m5, n5⟩ | exact ⟨(tv5.drewN _).c _ hd, (tv5.drewN _).c _ ha⟩ | exact ⟨(tv5.drew.drewN _).c _ hd, (tv5.drew.drewN _).c _ ha⟩))) (fun hHeld => ?_)
                  clear hK K
                  try simp only [Act.put, List.setIfInBounds_toArray, List.set_cons_zero, List.set_cons_succ]
                  refine anyZ_free (i := 9) (oi := ?oi_62) (v := ?v_62) ?hi_62 ?hs_62 ?hf_62 ?hr_62 ?hQ_62 (Or.inl ⟨?hw_62, ?hy_62⟩) ?hrest_62
                  case hi_62 => (simp only [List.getElem?_toArray, List.getElem?_cons_succ, List.getElem?_cons_zero]; exact rfl)
                  case hs_62 => kernel_rfl
                  case hf_62 => kernel_rfl
                  case hr_62 => kernel_rfl
                  case hQ_62 => exact fun _ _ _ h => h
                  case hw_62 => rfl
                  case hy_62 => (intro w _; go_simp; try with_reducible rfl)
                  try simp only [Act.put, List.setIfInBounds_toArray, List.set_cons_zero, List.set_cons_succ]
                  refine anyZ_ready (rs := [10]) (by kernel_rfl) (by simp) ?_
                  refine (AllZ.last (o := ?o_63) ?ho_63 (by rfl) (fun K hK => ?st_63) AllZ.nil)
                  case ho_63 => (simp only [List.getElem?_toArray, List.getElem?_cons_succ, List.getElem?_cons_zero]; exact rfl)
                  case st_63 =>
                    go_simp
                    refine hK.out _ _ ?_
                    clear hK K
                    try simp only [Act.put, List.setIfInBounds_toArray, List.set_cons_zero, List.set_cons_succ]
                    refine anyZ_done (by kernel_rfl) ?_ _
                    refine NoPanic.normal ?_
                    have tv6 : Arr ((W5.drewN (1 + nd)).setCell ⟨N, d, none⟩ (.int .u32 (z5 : Nat))) .u32 N 16 (Ob.upd V5 d z5) := (tv5.drewN _).set hd
                    have tr6 : Arr ((W5.drewN (1 + nd)).setCell ⟨N, d, none⟩ (.int .u32 (z5 : Nat))) .u32 (N + 1) 16 (fun _ => 0) := (tr5.drewN _).far (by omega) _ _
                    have hB6 : Below N w ((W5.drewN (1 + nd)).setCell ⟨N, d, none⟩ (.int .u32 (z5 : Nat))) := by (repeat' (first | (with_reducible first | exact Below.refl _ _ | assumption | refine Below.alloc ?_ ?_ _ | refine Below.drew ?_ | refine below_drewN ?_ _ | refine Below.setCell ?_ ?_ _ | refine below_via (by with_reducible assumption) ?_ ?_) | omega | (simp only [szs]; omega) | (simp only [szs] at *; omega)))
                    have hv6 : Ob.Words32 (Ob.upd V5 d z5) := hv5.upd _ zl5
                    clear hHeld
                    generalize ((W5.drewN (1 + nd)).setCell ⟨N, d, none⟩ (.int .u32 (z5 : Nat))) = W6 at *
                    obtain ⟨V6, hV6⟩ : ∃ V, Hid (Ob.upd V5 d z5 = V) := ⟨_, rfl⟩
                    rw [hV6.out] at tv6 hv6
                    clear p5 q5 m5 n5 tv5 tr5 hB5 f5 g5 zl5
                    go_upto_region 7 with (fail)
                    -- statement 7
                    obtain ⟨z6, hz6⟩ : ∃ z, Hid (Ob.s32 (V6 c) (V6 d) = z) := ⟨_, rfl⟩
                    have f6 : IntKind.u32.wrap (((V6 c : Nat) : Int) + ((V6 d : Nat) : Int)) = ((z6 : Nat) : Int) := by rw [← hz6.out, IntKind.wrap_u32]; unfold Ob.s32; omega
                    have zl6 : z6 < 4294967296 := by rw [← hz6.out]; exact Ob.s32_lt _ _
                    have p6 := tv6.c c hc
                    have q6 := tv6.f c hc
                    have m6 := tv6.drew.c c hc
                    have n6 := tv6.drew.c d hd
                    refine wp_region_noPanic ?_
                    refine region_lastly (S := (fun w' => w'.cell? ⟨N, c, none⟩ = some (.int .u32 (V6 c : Nat)) ∧ w'.cell? ⟨N, d, none⟩ = some (.int .u32 (V6 d : Nat)))) [9] (by kernel_rfl) (by ((try dsimp only); (first | exact ⟨m6, n6⟩ | exact ⟨(tv6.drewN _).c _ hc, (tv6.drewN _).c _ hd⟩ | exact ⟨(tv6.drew.drewN _).c _ hc, (tv6.drew.drewN _).c _ hd⟩))) (fun hHeld => ?_)
                    refine anyZ_free (i := 0) (oi := ?oi_64) (v := ?v_64) ?hi_64 ?hs_64 ?hf_64 ?hr_64 ?hQ_64 (Or.inl ⟨?hw_64, ?hy_64⟩) ?hrest_64
                    case hi_64 => (simp only [List.getElem?_toArray, List.getElem?_cons_succ, List.getElem?_cons_zero]; exact rfl)
                    case hs_64 => kernel_rfl
                    case hf_64 => kernel_rfl
                    case hr_64 => kernel_rfl
                    case hQ_64 => exact fun _ _ _ h => h
                    case hw_64 => rfl
                    case hy_64 => (intro w _; go_simp; try with_reducible rfl)
                    try simp only [Act.put, List.setIfInBounds_toArray, List.set_cons_zero, List.set_cons_succ]
                    refine anyZ_free (i := 1) (oi := ?oi_65) (v := ?v_65) ?hi_65 ?hs_65 ?hf_65 ?hr_65 ?hQ_65 (Or.inl ⟨?hw_65, ?hy_65⟩) ?hrest_65
                    case hi_65 => (simp only [List.getElem?_toArray, List.getElem?_cons_succ, List.getElem?_cons_zero]; exact rfl)
                    case hs_65 => kernel_rfl
                    case hf_65 => kernel_rfl
                    case hr_65 => kernel_rfl
                    case hQ_65 => exact fun _ _ _ h => h
                    case hw_65 => rfl
                    case hy_65 => (intro w _; go_simp; try with_reducible rfl)
                    try simp only [Act.put, List.setIfInBounds_toArray, List.set_cons_zero, List.set_cons_succ]
                    refine anyZ_free (i := 2) (oi := ?oi_66) (v := ?v_66) ?hi_66 ?hs_66 ?hf_66 ?hr_66 ?hQ_66 (Or.inl ⟨?hw_66, ?hy_66⟩) ?hrest_66
                    case hi_66 => (simp only [List.getElem?_toArray, List.getElem?_cons_succ, List.getElem?_cons_zero]; exact rfl)
                    case hs_66 => kernel_rfl
                    case hf_66 => kernel_rfl
                    case hr_66 => kernel_rfl
                    case hQ_66 => exact fun _ _ _ h => h
                    case hw_66 => rfl
                    case hy_66 => (intro w _; go_simp; try with_reducible rfl)
                    try simp only [Act.put, List.setIfInBounds_toArray, List.set_cons_zero, List.set_cons_succ]
                    refine anyZ_take (i := 3) (oi := ?oi_67) (v := ?v_67) ?hi_67 ?hz_67 ?hs_67 ?hf_67 ?hr_67 ?hQ_67 (Or.inl ⟨?hw_67, ?hy_67⟩) ?hS_67 ?hrest_67
                    case hi_67 => (simp only [List.getElem?_toArray, List.getElem?_cons_succ, List.getElem?_cons_zero]; exact rfl)
                    case hz_67 => kernel_rfl
                    case hs_67 => kernel_rfl
                    case hf_67 => kernel_rfl
                    case hr_67 => kernel_rfl
                    case hQ_67 => exact fun _ _ _ h => h
                    case hw_67 => rfl
                    case hS_67 => assumption
                    case hy_67 => (intro w hSw; (try dsimp only at hSw); go_simp; try with_reducible rfl)
                    try simp only [Act.put, List.setIfInBounds_toArray, List.set_cons_zero, List.set_cons_succ]
                    refine anyZ_free (i := 4) (oi := ?oi_68) (v := ?v_68) ?hi_68 ?hs_68 ?hf_68 ?hr_68 ?hQ_68 (Or.inl ⟨?hw_68, ?hy_68⟩) ?hrest_68
                    case hi_68 => (simp only [List.getElem?_toArray, List.getElem?_cons_succ, List.getElem?_cons_zero]; exact rfl)
                    case hs_68 => kernel_rfl
                    case hf_68 => kernel_rfl
                    case hr_68 => kernel_rfl
                    case hQ_68 => exact fun _ _ _ h => h
                    case hw_68 => rfl
                    case hy_68 => (intro w _; go_simp; try with_reducible rfl)
                    try simp only [Act.put, List.setIfInBounds_toArray, List.set_cons_zero, List.set_cons_succ]
                    refine anyZ_free (i := 5) (oi := ?oi_69) (v := ?v_69) ?hi_69 ?hs_69 ?hf_69 ?hr_69 ?hQ_69 (Or.inl ⟨?hw_69, ?hy_69⟩) ?hrest_69
                    case hi_69 => (simp only [List.getElem?_toArray, List.getElem?_cons_succ, List.getElem?_cons_zero]; exact rfl)
                    case hs_69 => kernel_rfl
                    case hf_69 => kernel_rfl
                    case hr_69 => kernel_rfl
                    case hQ_69 => exact fun _ _ _ h => h
                    case hw_69 => rfl
                    case hy_69 => (intro w _; go_simp; try with_reducible rfl)
                    try simp only [Act.put, List.setIfInBounds_toArray, List.set_cons_zero, List.set_cons_succ]
                    refine anyZ_take (i := 6) (oi := ?oi_70) (v := ?v_70) ?hi_70 ?hz_70 ?hs_70 ?hf_70 ?hr_70 ?hQ_70 (Or.inl ⟨?hw_70, ?hy_70⟩) ?hS_70 ?hrest_70
                    case hi_70 => (simp only [List.getElem?_toArray, List.getElem?_cons_succ, List.getElem?_cons_zero]; exact rfl)
                    case hz_70 => kernel_rfl
                    case hs_70 => kernel_rfl
                    case hf_70 => kernel_rfl
                    case hr_70 => kernel_rfl
                    case hQ_70 => exact fun _ _ _ h => h
                    case hw_70 => rfl
                    case hS_70 => assumption
                    case hy_70 => (intro w hSw; (try dsimp only at hSw); go_simp; try with_reducible rfl)
                    try simp only [Act.put, List.setIfInBounds_toArray, List.set_cons_zero, List.set_cons_succ]
                    refine anyZ_free (i := 7) (oi := ?oi_71) (v := ?v_71) ?hi_71 ?hs_71 ?hf_71 ?hr_71 ?hQ_71 (Or.inl ⟨?hw_71, ?hy_71⟩) ?hrest_71
                    case hi_71 => (simp only [List.getElem?_toArray, List.getElem?_cons_succ, List.getElem?_cons_zero]; exact rfl)
                    case hs_71 => kernel_rfl
                    case hf_71 => kernel_rfl
                    case hr_71 => kernel_rfl
                    case hQ_71 => exact fun _ _ _ h => h
                    case hw_71 => rfl
                    case hy_71 => (intro w _; go_simp; try with_reducible rfl)
                    try simp only [Act.put, List.setIfInBounds_toArray, List.set_cons_zero, List.set_cons_succ]
                    refine anyZ_free (i := 8) (oi := ?oi_72) (v := ?v_72) ?hi_72 ?hs_72 ?hf_72 ?hr_72 ?hQ_72 (Or.inl ⟨?hw_72, ?hy_72⟩) ?hrest_72
                    case hi_72 => (simp only [List.getElem?_toArray, List.getElem?_cons_succ, List.getElem?_cons_zero]; exact rfl)
                    case hs_72 => kernel_rfl
                    case hf_72 => kernel_rfl
                    case hr_72 => kernel_rfl
                    case hQ_72 => exact fun _ _ _ h => h
                    case hw_72 => rfl
                    case hy_72 => (intro w _; go_simp; try with_reducible rfl)
                    try simp only [Act.put, List.setIfInBounds_toArray, List.set_cons_zero, List.set_cons_succ]
                    refine anyZ_ready (rs := [9]) (by kernel_rfl) (by simp) ?_
                    refine (AllZ.last (o := ?o_73) ?ho_73 (by rfl) (fun K hK => ?st_73) AllZ.nil)
                    case ho_73 => (simp only [List.getElem?_toArray, List.getElem?_cons_succ, List.getElem?_cons_zero]; exact rfl)
                    case st_73 =>
                      go_simp
                      refine hK.out _ _ ?_
                      clear hK K
                      try simp only [Act.put, List.setIfInBounds_toArray, List.set_cons_zero, List.set_cons_succ]
                      refine anyZ_done (by kernel_rfl) ?_ _
                      refine NoPanic.normal ?_
                      have tv7 : Arr ((W6.setCell ⟨N, c, none⟩ (.int .u32 (z6 : Nat))).drew) .u32 N 16 (Ob.upd V6 c z6) := (tv6.set hc).drew
                      have tr7 : Arr ((W6.setCell ⟨N, c, none⟩ (.int .u32 (z6 : Nat))).drew) .u32 (N + 1) 16 (fun _ => 0) := (tr6.far (by omega) _ _).drew
                      have hB7 : Below N w ((W6.setCell ⟨N, c, none⟩ (.int .u32 (z6 : Nat))).drew) := by (repeat' (first | (with_reducible first | exact Below.refl _ _ | assumption | refine Below.alloc ?_ ?_ _ | refine Below.drew ?_ | refine below_drewN ?_ _ | refine Below.setCell ?_ ?_ _ | refine below_via (by with_reducible assumption) ?_ ?_) | omega | (simp only [szs]; omega) | (simp only [szs] at *; omega)))
                      have hv7 : Ob.Words32 (Ob.upd V6 c z6) := hv6.upd _ zl6
                      clear hHeld
                      generalize ((W6.setCell ⟨N, c, none⟩ (.int .u32 (z6 : Nat))).drew) = W7 at *
                      obtain ⟨V7, hV7⟩ : ∃ V, Hid (Ob.upd V6 c z6 = V) := ⟨_, rfl⟩
                      rw [hV7.out] at tv7 hv7
                      clear p6 q6 m6 n6 tv6 tr6 hB6 f6 zl6
                      go_upto_region 8 with (fail)
                      -- statement 8
                      obtain ⟨z7, hz7⟩ : ∃ z, Hid (Ob.rot (V7 b ^^^ V7 c) 25 = z) := ⟨_, rfl⟩
                      have f7 := xor_u32 (V7 b) (V7 c) (hv7 _) (hv7 _)
                      have g7 : ∀ w, Calls Tryd.prog 35 #[.int .u32 ((V7 b ^^^ V7 c : Nat) : Int), .int .i64 7] w fun e w' => e = .returned (.int .u32 (z7 : Nat)) ∧ ∃ nd, w' = w.drewN nd := by rw [← hz7.out]; exact rollXW _ 7 (Ob.xor_lt (hv7 _) (hv7 _)) (by decide)
                      have zl7 : z7 < 4294967296 := by rw [← hz7.out]; exact Ob.rot_lt (Ob.xor_lt (hv7 _) (hv7 _)) (by decide)
                      have p7 := tv7.c b hb
                      have q7 := tv7.f b hb
                      have m7 := tv7.drew.c b hb
                      have n7 := tv7.drew.c c hc
                      refine wp_region_noPanic ?_
                      refine region_lastly (S := (fun w' => w'.cell? ⟨N, b, none⟩ = some (.int .u32 (V7 b : Nat)) ∧ w'.cell? ⟨N, c, none⟩ = some (.int .u32 (V7 c : Nat)))) [10] (by kernel_rfl) (by ((try dsimp only); (first | exact ⟨m7, n7⟩ | exact ⟨(tv7.drewN _).c _ hb, (tv7.drewN _).c _ hc⟩ | exact ⟨(tv7.drew.drewN _).c _ hb, (tv7.drew.drewN _).c _ hc⟩))) (fun hHeld => ?_)
                      refine anyZ_free (i := 0) (oi := ?oi_74) (v := ?v_74) ?hi_74 ?hs_74 ?hf_74 ?hr_74 ?hQ_74 (Or.inl ⟨?hw_74, ?hy_74⟩) ?hrest_74
                      case hi_74 => (simp only [List.getElem?_toArray, List.getElem?_cons_succ, List.getElem?_cons_zero]; exact rfl)
                      case hs_74 => kernel_rfl
                      case hf_74 => kernel_rfl
                      case hr_74 => kernel_rfl
                      case hQ_74 => exact fun _ _ _ h => h
                      case hw_74 => rfl
                      case hy_74 => (intro w _; go_simp; try with_reducible rfl)
                      try simp only [Act.put, List.setIfInBounds_toArray, List.set_cons_zero, List.set_cons_succ]
                      refine anyZ_free (i := 1) (oi := ?oi_75) (v := ?v_75) ?hi_75 ?hs_75 ?hf_75 ?hr_75 ?hQ_75 (Or.inl ⟨?hw_75, ?hy_75⟩) ?hrest_75
                      case hi_75 => (simp only [List.getElem?_toArray, List.getElem?_cons_succ, List.getElem?_cons_zero]; exact rfl)
                      case hs_75 => kernel_rfl
                      case hf_75 => kernel_rfl
                      case hr_75 => kernel_rfl
                      case hQ_75 => exact fun _ _ _ h => h
                      case hw_75 => rfl
                      case hy_75 => (intro w _; go_simp; try with_reducible rfl)
                      try simp only [Act.put, List.setIfInBounds_toArray, List.set_cons_zero, List.set_cons_succ]
                      refine anyZ_free (i := 2) (oi := ?oi_76) (v := ?v_76) ?hi_76 ?hs_76 ?hf_76 ?hr_76 ?hQ_76 (Or.inl ⟨?hw_76, ?hy_76⟩) ?hrest_76
                      case hi_76 => (simp only [List.getElem?_toArray, List.getElem?_cons_succ, List.getElem?_cons_zero]; exact rfl)
                      case hs_76 => kernel_rfl
                      case hf_76 => kernel_rfl
                      case hr_76 => kernel_rfl
                      case hQ_76 => exact fun _ _ _ h => h
                      case hw_76 => rfl
                      case hy_76 => (intro w _; go_simp; try with_reducible rfl)
                      try simp only [Act.put, List.setIfInBounds_toArray, List.set_cons_zero, List.set_cons_succ]
                      refine anyZ_take (i := 3) (oi := ?oi_77) (v := ?v_77) ?hi_77 ?hz_77 ?hs_77 ?hf_77 ?hr_77 ?hQ_77 (Or.inl ⟨?hw_77, ?hy_77⟩) ?hS_77 ?hrest_77
                      case hi_77 => (simp only [List.getElem?_toArray, List.getElem?_cons_succ, List.getElem?_cons_zero]; exact rfl)
                      case hz_77 => kernel_rfl
                      case hs_77 => kernel_rfl
                      case hf_77 => kernel_rfl
                      case hr_77 => kernel_rfl
                      case hQ_77 => exact fun _ _ _ h => h
                      case hw_77 => rfl
                      case hS_77 => assumption
                      case hy_77 => (intro w hSw; (try dsimp only at hSw); go_simp; try with_reducible rfl)
                      try simp only [Act.put, List.setIfInBounds_toArray, List.set_cons_zero, List.set_cons_succ]
                      refine anyZ_free (i := 4) (oi := ?oi_78) (v := ?v_78) ?hi_78 ?hs_78 ?hf_78 ?hr_78 ?hQ_78 (Or.inl ⟨?hw_78, ?hy_78⟩) ?hrest_78
                      case hi_78 => (simp only [List.getElem?_toArray, List.getElem?_cons_succ, List.getElem?_cons_zero]; exact rfl)
                      case hs_78 => kernel_rfl
                      case hf_78 => kernel_rfl
                      case hr_78 => kernel_rfl
                      case hQ_78 => exact fun _ _ _ h => h
                      case hw_78 => rfl
                      case hy_78 => (intro w _; go_simp; try with_reducible rfl)
                      try simp only [Act.put, List.setIfInBounds_toArray, List.set_cons_zero, List.set_cons_succ]
                      refine anyZ_free (i := 5) (oi := ?oi_79) (v := ?v_79) ?hi_79 ?hs_79 ?hf_79 ?hr_79 ?hQ_79 (Or.inl ⟨?hw_79, ?hy_79⟩) ?hrest_79
                      case hi_79 => (simp only [List.getElem?_toArray, List.getElem?_cons_succ, List.getElem?_cons_zero]; exact rfl)
                      case hs_79 => kernel_rfl
                      case hf_79 => kernel_rfl
                      case hr_79 => kernel_rfl
                      case hQ_79 => exact fun _ _ _ h => h
                      case hw_79 => rfl
                      case hy_79 => (intro w _; go_simp; try with_reducible rfl)
                      try simp only [Act.put, List.setIfInBounds_toArray, List.set_cons_zero, List.set_cons_succ]
                      refine anyZ_take (i := 6) (oi := ?oi_80) (v := ?v_80) ?hi_80 ?hz_80 ?hs_80 ?hf_80 ?hr_80 ?hQ_80 (Or.inl ⟨?hw_80, ?hy_80⟩) ?hS_80 ?hrest_80
                      case hi_80 => (simp only [List.getElem?_toArray, List.getElem?_cons_succ, List.getElem?_cons_zero]; exact rfl)
                      case hz_80 => kernel_rfl
                      case hs_80 => kernel_rfl
                      case hf_80 => kernel_rfl
                      case hr_80 => kernel_rfl
                      case hQ_80 => exact fun _ _ _ h => h
                      case hw_80 => rfl
                      case hS_80 => assumption
                      case hy_80 => (intro w hSw; (try dsimp only at hSw); go_simp; try with_reducible rfl)
                      try simp only [Act.put, List.setIfInBounds_toArray, List.set_cons_zero, List.set_cons_succ]
                      refine anyZ_free (i := 7) (oi := ?oi_81) (v := ?v_81) ?hi_81 ?hs_81 ?hf_81 ?hr_81 ?hQ_81 (Or.inl ⟨?hw_81, ?hy_81⟩) ?hrest_81
                      case hi_81 => (simp only [List.getElem?_toArray, List.getElem?_cons_succ, List.getElem?_cons_zero]; exact rfl)
                      case hs_81 => kernel_rfl
                      case hf_81 => kernel_rfl
                      case hr_81 => kernel_rfl
                      case hQ_81 => exact fun _ _ _ h => h
                      case hw_81 => rfl
                      case hy_81 => (intro w _; go_simp; try with_reducible rfl)
                      try simp only [Act.put, List.setIfInBounds_toArray, List.set_cons_zero, List.set_cons_succ]
                      refine anyZ_ready (rs := [8]) (by kernel_rfl) (by simp) ?_
                      refine (AllZ.cons (o := ?o_82) ?ho_82 (fun K hK => ?st_82) AllZ.nil)
                      case ho_82 => (simp only [List.getElem?_toArray, List.getElem?_cons_succ, List.getElem?_cons_zero]; exact rfl)
                      case st_82 =>
                        go_simp
                        (first | (go_at_call 35; first | (with_reducible refine (g7 _).mono ?_; rintro e w' ⟨rfl, nd, rfl⟩)))
                        refine hK.out _ _ (by ((try dsimp only); (first | exact ⟨m7, n7⟩ | exact ⟨(tv7.drewN _).c _ hb, (tv7.drewN _).c _ hc⟩ | exact ⟨(tv7.drew.drewN _).c _ hb, (tv7.drew.drewN _).c _ hc⟩))) (fun hHeld => ?_)
                        clear hK K
                        try simp only [Act.put, List.setIfInBounds_toArray, List.set_cons_zero, List.set_cons_succ]
                        refine anyZ_free (i := 9) (oi := ?oi_83) (v := ?v_83) ?hi_83 ?hs_83 ?hf_83 ?hr_83 ?hQ_83 (Or.inl ⟨?hw_83, ?hy_83⟩) ?hrest_83
                        case hi_83 => (simp only [List.getElem?_toArray, List.getElem?_cons_succ, List.getElem?_cons_zero]; exact rfl)
                        case hs_83 => kernel_rfl
                        case hf_83 => kernel_rfl
                        case hr_83 => kernel_rfl
                        case hQ_83 => exact fun _ _ _ h => h
                        case hw_83 => rfl
                        case hy_83 => (intro w _; go_simp; try with_reducible rfl)
                        try simp only [Act.put, List.setIfInBounds_toArray, List.set_cons_zero, List.set_cons_succ]
                        refine anyZ_ready (rs := [10]) (by kernel_rfl) (by simp) ?_
                        refine (AllZ.last (o := ?o_84) ?ho_84 (by rfl) (fun K hK => ?st_84) AllZ.nil)
                        case ho_84 => (simp only [List.getElem?_toArray, List.getElem?_cons_succ, List.getElem?_cons_zero]; exact rfl)
                        case st_84 =>
                          go_simp
                          refine hK.out _ _ ?_
                          clear hK K
                          try simp only [Act.put, List.setIfInBounds_toArray, List.set_cons_zero, List.set_cons_succ]
                          refine anyZ_done (by kernel_rfl) ?_ _
                          refine NoPanic.normal ?_
                          have tv8 : Arr ((W7.drewN (1 + nd)).setCell ⟨N, b, none⟩ (.int .u32 (z7 : Nat))) .u32 N 16 (Ob.upd V7 b z7) := (tv7.drewN _).set hb
                          have tr8 : Arr ((W7.drewN (1 + nd)).setCell ⟨N, b, none⟩ (.int .u32 (z7 : Nat))) .u32 (N + 1) 16 (fun _ => 0) := (tr7.drewN _).far (by omega) _ _
                          have hB8 : Below N w ((W7.drewN (1 + nd)).setCell ⟨N, b, none⟩ (.int .u32 (z7 : Nat))) := by (repeat' (first | (with_reducible first | exact Below.refl _ _ | assumption | refine Below.alloc ?_ ?_ _ | refine Below.drew ?_ | refine below_drewN ?_ _ | refine Below.setCell ?_ ?_ _ | refine below_via (by with_reducible assumption) ?_ ?_) | omega | (simp only [szs]; omega) | (simp only [szs] at *; omega)))
                          have hv8 : Ob.Words32 (Ob.upd V7 b z7) := hv7.upd _ zl7
                          clear hHeld
                          generalize ((W7.drewN (1 + nd)).setCell ⟨N, b, none⟩ (.int .u32 (z7 : Nat))) = W8 at *
                          obtain ⟨V8, hV8⟩ : ∃ V, Hid (Ob.upd V7 b z7 = V) := ⟨_, rfl⟩
                          rw [hV8.out] at tv8 hv8
                          clear p7 q7 m7 n7 tv7 tr7 hB7 f7 g7 zl7
                          go_upto_region 9 with (fail)
                          have hend : Hid (V8 = Ob.quarN v a b c d) := by
                            show V8 = Ob.quarN v a b c d
                            rw [← hV8.out, ← hz7.out, ← hV7.out, ← hz6.out, ← hV6.out, ← hz5.out, ← hV5.out, ← hz4.out, ← hV4.out, ← hz3.out, ← hV3.out, ← hz2.out, ← hV2.out, ← hz1.out, ← hV1.out, ← hz0.out, ← hV0.out]
                            rfl
                          clear hV1 hV2 hV3 hV4 hV5 hV6 hV7 hV8 hz0 hz1 hz2 hz3 hz4 hz5 hz6 hz7 hv0 hv1 hv2 hv3 hv4 hv5 hv6 hv7 hv8
                          go_wp2_with (first | ((with_reducible refine wpList_loadLit tv8 ?_ Tryd.underlying40 ?_ ?_ ?_); (focus rfl); (focus rfl); (focus kernel_rfl); simp only [Act.put, List.setIfInBounds_toArray, List.set_cons_zero, List.set_cons_succ]) | ((with_reducible refine wpList_storeLit (V8) tr8 ?_ ?_ ?_ ?_); (focus rfl); (focus rfl); (focus kernel_rfl); intro W9 hW9_ tW9_ zW9_; try simp only [Act.put, List.setIfInBounds_toArray, List.set_cons_zero, List.set_cons_succ]))
                          have hB9 : Below w.heap.size w W9 := by rw [hW9_.out, hN.out]; exact below_setCells hB8 (by omega) _ _
                          have rv := tW9_.out.loadVar Tryd.underlying40 rfl (by kernel_rfl)
                          exact bodyPost_ret (v := .agg (arrL .u32 V8 16).toArray) (by simp [results, Tryd.results22, asAddr, rv]) rfl ⟨by rw [hend.out], hB9⟩
end Go.Proofs.YtdaonbfdcpkipaaDoor

namespace Go.Proofs.YtdaonbfdcpkipaaDoor
open Go.RowKit Go.Proofs
set_option linter.unusedVariables false
set_option linter.unusedSimpArgs false
attribute [local go_sem ↓] Go.wp_at_zero Go.wp_at_succ

set_option maxHeartbeats 4000000 in
theorem rbytes_core (b k c : Nat) (ns : Nat → Nat) (hns : Ob.Words32 ns) (hk : k ≤ 1000000) (w : World) (hc : Rd w .u32 b k ns) :
    Calls Tryd.prog 23 #[.slice (some ⟨b, 0, none⟩) k c] w fun e w' => ∃ v, e = .returned v ∧ w'.ownsRow w.heap.size 5 1 v (4 * k) (vals (lowBy ns) (4 * k)) ∧ Below w.heap.size w w' := by
  obtain ⟨i0, hi, hz1, hz2, hz0⟩ := byteInfo
  have hc' : Hid (Rd w .u32 b k ns) := hc
  have hn' : Hid (Ob.Words32 ns) := hns
  clear hc hns
  have hown0 : w.ownsRow w.heap.size 5 1 (.slice none 0 0) 0 (vals (lowBy ns) 0) := ⟨rfl, Or.inl ⟨rfl, rfl⟩⟩
  go_enter Tryd.func23, Tryd.ntmps23
  go_wp2
  go_loopw [3, 4] (fun s3 s4 wr => ∃ (i : Nat), i ≤ k ∧ s4 = .int .i64 (i : Nat) ∧ Hid (wr.ownsRow w.heap.size 5 1 s3 (4 * i) (vals (lowBy ns) (4 * i))) ∧ Below w.heap.size w wr) (fun _ s4 _ => k - (intOf s4).toNat)
  case atStart => exact ⟨0, by omega, rfl, hown0, Below.refl _ _⟩
  case round =>
    clear hown0
    obtain ⟨i, hik, rfl, hown, hB⟩ := hrel
    have l0 := hB.size
    by_cases hlt : i < k
    · have hni := hn'.out i
      have e0 : Hid (lowBy ns (4 * i) = ns i % 256) := by have := lowBy_at ns i 0 (by decide); rw [Nat.add_zero, Nat.pow_zero, Nat.div_one] at this; exact this
      have e1 : Hid (lowBy ns (4 * i + 1) = ns i / 256 % 256) := lowBy_at ns i 1 (by decide)
      have e2 : Hid (lowBy ns (4 * i + 2) = ns i / 65536 % 256) := lowBy_at ns i 2 (by decide)
      have e3 : Hid (lowBy ns (4 * i + 3) = ns i / 16777216 % 256) := lowBy_at ns i 3 (by decide)
      have hkeep : Hid (∀ w1, Below w.heap.size w w1 → w1.cell? ⟨b, i, none⟩ = some (.int .u32 (ns i : Nat))) := fun w1 h => (hc'.out.below h hc'.out.lt).c i hlt
      obtain ⟨n, hn⟩ : ∃ n, Hid (ns i = n) := ⟨_, rfl⟩
      rw [hn.out] at hni e0 e1 e2 e3 hkeep
      obtain ⟨b0, f0, g0⟩ : ∃ x : Nat, Hid (n % 256 = x) ∧ IntKind.u8.wrap (n : Int) = (x : Int) := ⟨_, rfl, by rw [IntKind.wrap_u8]; omega⟩
      obtain ⟨b1, f1, g1⟩ : ∃ x : Nat, Hid (n / 256 % 256 = x) ∧ IntKind.u8.wrap ((n : Int) / 256) = (x : Int) := ⟨_, rfl, by rw [IntKind.wrap_u8]; omega⟩
      obtain ⟨b2, f2, g2⟩ : ∃ x : Nat, Hid (n / 65536 % 256 = x) ∧ IntKind.u8.wrap ((n : Int) / 65536) = (x : Int) := ⟨_, rfl, by rw [IntKind.wrap_u8]; omega⟩
      obtain ⟨b3, f3, g3⟩ : ∃ x : Nat, Hid (n / 16777216 % 256 = x) ∧ IntKind.u8.wrap ((n : Int) / 16777216) = (x : Int) := ⟨_, rfl, by rw [IntKind.wrap_u8]; omega⟩
      rw [f0.out] at e0
      rw [f1.out] at e1
      rw [f2.out] at e2
      rw [f3.out] at e3
      have i0' : (i : Int) < (k : Int) := by omega
      have i1' : (0 : Int) ≤ (i : Int) := by omega
      have hv : Hid (vals (lowBy ns) (4 * i) ++ [.int .u8 (b0 : Nat), .int .u8 (b1 : Nat), .int .u8 (b2 : Nat), .int .u8 (b3 : Nat)] = vals (lowBy ns) (4 * (i + 1))) := by
        show _ = _
        rw [show 4 * (i + 1) = 4 * i + 1 + 1 + 1 + 1 by omega, vals_succ, vals_succ, vals_succ, vals_succ, e0.out, e1.out, show 4 * i + 1 + 1 = 4 * i + 2 by omega, e2.out, show 4 * i + 2 + 1 = 4 * i + 3 by omega, e3.out]
        simp
      have hb1 : Below wr.heap.size wr (wr.alloc (.cells #[.int .u8 (b0 : Nat), .int .u8 (b1 : Nat), .int .u8 (b2 : Nat), .int .u8 (b3 : Nat)] 5)).drew := by clear hB; (repeat' (first | (with_reducible first | exact Below.refl _ _ | assumption | refine Below.alloc ?_ ?_ _ | refine Below.drew ?_ | refine below_drewN ?_ _ | refine Below.setCell ?_ ?_ _ | refine below_via (by with_reducible assumption) ?_ ?_) | omega | (simp only [szs]; omega) | (simp only [szs] at *; omega)))
      have hb0 : Below w.heap.size w (wr.alloc (.cells #[.int .u8 (b0 : Nat), .int .u8 (b1 : Nat), .int .u8 (b2 : Nat), .int .u8 (b3 : Nat)] 5)).drew := by clear hb1; (repeat' (first | (with_reducible first | exact Below.refl _ _ | assumption | refine Below.alloc ?_ ?_ _ | refine Below.drew ?_ | refine below_drewN ?_ _ | refine Below.setCell ?_ ?_ _ | refine below_via (by with_reducible assumption) ?_ ?_) | omega | (simp only [szs]; omega) | (simp only [szs] at *; omega)))
      have hown1 : Hid ((wr.alloc (.cells #[.int .u8 (b0 : Nat), .int .u8 (b1 : Nat), .int .u8 (b2 : Nat), .int .u8 (b3 : Nat)] 5)).drew.ownsRow w.heap.size 5 1 u3 (4 * i) (vals (lowBy ns) (4 * i))) := own_below hown.out hb1 (fun k h => (hown.out.lt k h).2)
      have hnews : Hid (∀ (j : Nat) (u : Value), [Value.int .u8 (b0 : Nat), .int .u8 (b1 : Nat), .int .u8 (b2 : Nat), .int .u8 (b3 : Nat)][j]? = some u → (wr.alloc (.cells #[.int .u8 (b0 : Nat), .int .u8 (b1 : Nat), .int .u8 (b2 : Nat), .int .u8 (b3 : Nat)] 5)).drew.cell? ((⟨wr.heap.size, 0, none⟩ : Addr).add j) = some u) := fun j u h => by
        rw [Addr.add_mid, Nat.zero_add]
        show (wr.alloc (.cells #[.int .u8 (b0 : Nat), .int .u8 (b1 : Nat), .int .u8 (b2 : Nat), .int .u8 (b3 : Nat)] 5)).cell? ⟨wr.heap.size, j, none⟩ = some u
        rw [World.cell?_alloc_new, List.getElem?_toArray]
        exact h
      go_wp2
      go_region_held3 (fun w' => w'.cell? ⟨b, i, none⟩ = some (.int .u32 (n : Nat))) (first | exact hkeep.out _ hBw | exact hkeep.out _ (by (repeat' (first | (with_reducible first | exact Below.refl _ _ | assumption | refine Below.alloc ?_ ?_ _ | refine Below.drew ?_ | refine below_drewN ?_ _ | refine Below.setCell ?_ ?_ _ | refine below_via (by with_reducible assumption) ?_ ?_) | omega | (simp only [szs]; omega) | (simp only [szs] at *; omega)))))
        ((rw [if_pos (by rfl)]; (refine wp_append_own _ _ _ 22 rfl w.heap.size 5 i0 _ 1 1 Tryd.underlying22 hi hz0 hz1 hz2 rfl (by decide) _ (4 * i) _ rfl hown1.out ⟨wr.heap.size, 0, none⟩ 4 4 [.int .u8 (b0 : Nat), .int .u8 (b1 : Nat), .int .u8 (b2 : Nat), .int .u8 (b3 : Nat)] rfl rfl hnews.out (by simp [Value.oneCell']) (by unfold maxLen; omega) (by omega) (by first | (simp; done) | (simp; omega)) ?_); intro v' w1 ho hg hnil; have hBw : Below w.heap.size w w1 := hb0.grown hg hb0.size (fun k h => (hown.out.lt k h).1); have ho' : Hid (w1.ownsRow w.heap.size 5 1 v' (4 * i + 4) (vals (lowBy ns) (4 * (i + 1)))) := (by rw [← hv.out]; exact ho); clear ho hg hnil))
      go_wp2
      go_roundw
      case rel => exact ⟨i + 1, by omega, by go_num, ho', hBw⟩
      case measure => first | (simp [intOf]; done) | (simp [intOf]; omega)
    · obtain rfl : i = k := by omega
      go_wp2
      go_ret
      exact ⟨_, rfl, hown.out, by (repeat' (first | (with_reducible first | exact Below.refl _ _ | assumption | refine Below.alloc ?_ ?_ _ | refine Below.drew ?_ | refine below_drewN ?_ _ | refine Below.setCell ?_ ?_ _ | refine below_via (by with_reducible assumption) ?_ ?_) | omega | (simp only [szs]; omega) | (simp only [szs] at *; omega)))⟩
/-- The bytes of words. -/
theorem rbytes32W (b k c : Nat) (ns : Nat → Nat) (hns : Ob.Words32 ns) (h0 : 0 < k) (hk : k ≤ 1000000) (w : World) (hc : Rd w .u32 b k ns) :
    Calls Tryd.prog 23 #[.slice (some ⟨b, 0, none⟩) k c] w fun e w' => ∃ g cap, e = .returned (.slice (some ⟨g, 0, none⟩) (4 * k) cap) ∧ w.heap.size ≤ g ∧ Bys w' g 0 (4 * k) (lowBy ns) ∧ Below w.heap.size w w' := by
  refine (rbytes_core b k c ns hns hk w hc).mono fun e w' ⟨v, he, ho, hb⟩ => ?_
  rcases ho.2 with ⟨_, h⟩ | ⟨g, cap, cur, rfl, hg, _⟩
  · omega
  · exact ⟨g, cap, he, hg, bys_of_row ho, hb⟩

/-- The same, and that there is room for them. -/
theorem rbytes32C (b k c : Nat) (ns : Nat → Nat) (hns : Ob.Words32 ns) (h0 : 0 < k) (hk : k ≤ 1000000) (w : World) (hc : Rd w .u32 b k ns) :
    Calls Tryd.prog 23 #[.slice (some ⟨b, 0, none⟩) k c] w fun e w' => ∃ g cap, e = .returned (.slice (some ⟨g, 0, none⟩) (4 * k) cap) ∧ w.heap.size ≤ g ∧ Bys w' g 0 (4 * k) (lowBy ns) ∧ Below w.heap.size w w' ∧ 4 * k ≤ cap := by
  refine (rbytes_core b k c ns hns hk w hc).mono fun e w' ⟨v, he, ho, hb⟩ => ?_
  rcases ho.2 with ⟨_, h⟩ | ⟨g, cap, cur, rfl, hg, _⟩
  · omega
  · exact ⟨g, cap, he, hg, bys_of_row ho, hb, (cap_of_row ho).1⟩

end Go.Proofs.YtdaonbfdcpkipaaDoor
