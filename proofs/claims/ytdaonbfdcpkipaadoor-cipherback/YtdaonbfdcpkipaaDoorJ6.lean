/-
  Joined texts: The document's own stream, walked: a block. The document's own stream, walked. The document's own rows for a mark, walked: full and length.
-/
import Derived.Test.YtdaonbfdcpkipaaDoorJ5
import Derived.Test.YtdaonbfdcpkipaaDoorJ3
import Derived.Test.YtdaonbfdcpkipaaDoorJ1
import Derived.Deep.CutRange
import Derived.Test.YtdaonbfdcpkipaaDoorJ2
import Derived.Deep.DeepCutAuto

namespace Ob
def cha0T : List Nat := [1634760805, 857760878, 2036477234, 1797285236]
def cha0 (j : Nat) : Nat := cha0T.getD j 0
/-- i numbers laid from place o on. -/
def layI (f s : Nat → Nat) (o i j : Nat) : Nat := if o ≤ j ∧ j < o + i then s (j - o) else f j
theorem layI_zero (f s : Nat → Nat) (o : Nat) : layI f s o 0 = f := by funext j; unfold layI; rw [if_neg (by omega)]
theorem layI_succ (f s : Nat → Nat) (o i : Nat) : upd (layI f s o i) (o + i) (s i) = layI f s o (i + 1) := by
  funext j
  unfold upd layI
  by_cases h : j = o + i
  · subst h
    rw [if_pos rfl, if_pos (by omega), Nat.add_sub_cancel_left]
  · rw [if_neg h]
    by_cases h1 : o ≤ j ∧ j < o + i
    · rw [if_pos h1, if_pos (by omega)]
    · rw [if_neg h1, if_neg (by omega)]
theorem layI_words {f s : Nat → Nat} (hf : Words32 f) (hs : Words32 s) (o i : Nat) : Words32 (layI f s o i) := fun j => by
  unfold layI
  split
  · exact hs _
  · exact hf j
/-- The sixteen words of a block, by the words of the key and of the nonce. -/
def chaF (k n : Nat → Nat) (c : Nat) : Nat → Nat := layI (upd (layI cha0 k 4 8) 12 c) n 13 3
theorem cha0_words : Words32 cha0 := fun j => by
  have h : ∀ j : Fin 4, cha0 j.val < 4294967296 := by decide
  rcases Nat.lt_or_ge j 4 with hj | hj
  · exact h ⟨j, hj⟩
  · have : cha0 j = 0 := by
      unfold cha0
      rw [List.getD_eq_getElem?_getD, List.getElem?_eq_none (by simpa [cha0T] using hj)]
      rfl
    rw [this]; decide
theorem chaF_words {k n : Nat → Nat} (hk : Words32 k) (hn : Words32 n) {c : Nat} (hc : c < 4294967296) : Words32 (chaF k n c) := layI_words ((layI_words cha0_words hk 4 8).upd 12 hc) hn 13 3
def chaR (v : Nat → Nat) : Nat → Nat := quarN (quarN (quarN (quarN (quarN (quarN (quarN (quarN v 0 4 8 12) 1 5 9 13) 2 6 10 14) 3 7 11 15) 0 5 10 15) 1 6 11 12) 2 7 8 13) 3 4 9 14
def chaN (v : Nat → Nat) : Nat → Nat → Nat
  | 0 => v
  | i + 1 => chaR (chaN v i)
theorem chaR_words {v : Nat → Nat} (h : Words32 v) : Words32 (chaR v) := quarN_words (quarN_words (quarN_words (quarN_words (quarN_words (quarN_words (quarN_words (quarN_words h _ _ _ _) _ _ _ _) _ _ _ _) _ _ _ _) _ _ _ _) _ _ _ _) _ _ _ _) _ _ _ _
theorem chaN_words {v : Nat → Nat} (h : Words32 v) : ∀ i, Words32 (chaN v i)
  | 0 => h
  | i + 1 => chaR_words (chaN_words h i)
/-- The words of a block. -/
def chaB (k n : Nat → Nat) (c j : Nat) : Nat := s32 (chaN (chaF k n c) 10 j) (chaF k n c j)
theorem chaB_words (k n : Nat → Nat) (c : Nat) : Words32 (chaB k n c) := fun _ => s32_lt _ _
end Ob
namespace Go.Proofs.YtdaonbfdcpkipaaDoor
open Go.RowKit Go.Proofs
set_option linter.unusedVariables false
set_option linter.unusedSimpArgs false
attribute [local go_sem ↓] Go.wp_at_zero Go.wp_at_succ

theorem wordX_lt {z : Nat → Nat} (hz : ∀ i, z i < 256) : Ob.Words32 (wordAt z) := fun j => by
  have h0 := hz (4 * j)
  have h1 := hz (4 * j + 1)
  have h2 := hz (4 * j + 2)
  have h3 := hz (4 * j + 3)
  unfold wordAt
  omega

set_option maxHeartbeats 8000000 in
set_option maxRecDepth 4000 in
theorem rblock_core (kb ko kc nb no nc cnt : Nat) (zk zn : Nat → Nat) (hzk : ∀ i, zk i < 256) (hzn : ∀ i, zn i < 256) (hcnt : cnt < 4294967296) (w : World) (hK : Bys w kb ko 32 zk) (hN' : Bys w nb no 12 zn) :
    Calls Tryd.prog 12 #[.slice (some ⟨kb, ko, none⟩) 32 kc, .slice (some ⟨nb, no, none⟩) 12 nc, .int .u32 cnt] w fun e w' => ∃ g cap, e = .returned (.slice (some ⟨g, 0, none⟩) 64 cap) ∧ w.heap.size ≤ g ∧ Bys w' g 0 64 (lowBy (Ob.chaB (wordAt zk) (wordAt zn) cnt)) ∧ Below w.heap.size w w' ∧ 64 ≤ cap := by
  have hK0 : Hid (Bys w kb ko 32 zk) := hK
  have hN0 : Hid (Bys w nb no 12 zn) := hN'
  have hk' : Hid (∀ i, zk i < 256) := hzk
  have hn' : Hid (∀ i, zn i < 256) := hzn
  have wk : Hid (Ob.Words32 (wordAt zk)) := wordX_lt hzk
  have wn : Hid (Ob.Words32 (wordAt zn)) := wordX_lt hzn
  clear hK hN' hzk hzn
  go_enter Tryd.func12, Tryd.ntmps12
  go_upto_region 2 with (first | ((with_reducible refine wpList_storeLit (Ob.cha0) Arr.new16 ?_ ?_ ?_ ?_); (focus rfl); (focus rfl); (focus kernel_rfl); intro W1 hW1_ tW1_ zW1_; try simp only [Act.put, List.setIfInBounds_toArray, List.set_cons_zero, List.set_cons_succ]))
  obtain ⟨N, hN⟩ : ∃ N, Hid (w.heap.size = N) := ⟨_, rfl⟩
  have hB1 : Below w.heap.size w W1 := by rw [hW1_.out]; exact below_setCells ((Below.refl _ _).alloc (Nat.le_refl _) _) (Nat.le_refl _) _ _
  have tf1 := tW1_.out
  have c1 := rwordsW kb ko 32 8 kc (by decide) (by decide) zk hk'.out (by decide) W1 (hK0.out.below hB1 hK0.out.lt)
  rw [hN.out] at hB1 tf1 ⊢
  have l1 := tf1.lt
  clear hW1_ tW1_ zW1_
  go_upto_region 3 with (go_at_call 21; with_reducible refine c1.mono ?_; rintro e W2 ⟨K, kcap, rfl, lK, tk2, b2⟩)
  have l2 := b2.size
  have tf2 := tf1.below b2 l1
  have hB2 : Below N w W2 := below_via b2 hB1 (by omega)
  have lk2 := tk2.lt
  have lNK : N < K := by omega
  clear c1 b2 tf1 hB1
  have c2 := rwordsW nb no 12 3 nc (by decide) (by decide) zn hn'.out (by decide) W2 (hN0.out.below (by rw [hN.out]; exact hB2) hN0.out.lt)
  go_upto_region 4 with (go_at_call 21; with_reducible refine c2.mono ?_; rintro e W3 ⟨M, mcap, rfl, lM, tn3, b3⟩)
  have l3 := b3.size
  have tf3 : Hid (Arr W3 .u32 N 16 (Ob.layI Ob.cha0 (wordAt zk) 4 0)) := by rw [Ob.layI_zero]; exact tf2.below b3 (by omega)
  have tk3 : Hid (Arr W3 .u32 K 8 (wordAt zk)) := tk2.below b3 lk2
  have tn3' : Hid (Arr W3 .u32 M 3 (wordAt zn)) := tn3
  have hB3 : Below N w W3 := below_via b3 hB2 (by omega)
  have lKM : K < M := by omega
  clear c2 b3 tf2 tk2 tn3 hB2 l1 l2 l3 lk2 lM lK
  go_wp2
  go_loopw [10] (fun s10 wr => ∃ (i : Nat), i ≤ 8 ∧ s10 = .int .i64 (i : Nat) ∧ Hid (Arr wr .u32 N 16 (Ob.layI Ob.cha0 (wordAt zk) 4 i)) ∧ Hid (Arr wr .u32 K 8 (wordAt zk)) ∧ Hid (Arr wr .u32 M 3 (wordAt zn)) ∧ Below N w wr) (fun s10 _ => 8 - (intOf s10).toNat)
  case atStart => exact ⟨0, by omega, rfl, tf3, tk3, tn3', hB3⟩
  case round =>
    clear tf3 tk3 tn3' hB3
    obtain ⟨i, hi, rfl, tf, tk, tn, hB⟩ := hrel
    by_cases hlt : i < 8
    · have q0 := tk.out.c i hlt
      have q1 := tf.out.c (4 + i) (by omega)
      have q2 := tf.out.f (4 + i) (by omega)
      have i0 : (i : Int) < 8 := by omega
      have i1 : (0 : Int) ≤ (i : Int) := by omega
      have i3 : IntKind.i64.wrap (4 + (i : Int)) = ((4 + i : Nat) : Int) := by rw [IntKind.wrap_i64]; omega
      have i4 : ((4 + i : Nat) : Int) < 16 := by omega
      have i5 : (0 : Int) ≤ ((4 + i : Nat) : Int) := by omega
      have q := tf.out.set (i := 4 + i) (z := wordAt zk i) (by omega)
      rw [Ob.layI_succ] at q
      obtain ⟨k, hk⟩ : ∃ k, Hid (4 + i = k) := ⟨_, rfl⟩
      rw [hk.out] at i3 i4 i5 q1 q2 q
      have hB1 : Below N w (wr.setCell ⟨N, k, none⟩ (.int .u32 (wordAt zk i : Nat))) := by (repeat' (first | (with_reducible first | exact Below.refl _ _ | assumption | refine Below.alloc ?_ ?_ _ | refine Below.drew ?_ | refine below_drewN ?_ _ | refine Below.setCell ?_ ?_ _ | refine below_via (by with_reducible assumption) ?_ ?_) | omega | (simp only [szs]; omega) | (simp only [szs] at *; omega)))
      go_wp2
      go_roundw
      case rel => exact ⟨i + 1, by omega, by go_num, q, tk.out.far (by omega) _ _, tn.out.far (by omega) _ _, hB1⟩
      case measure => (simp only [intOf, Int.toNat_natCast]; omega)
    · obtain rfl : i = 8 := by omega
      go_upto_region 8 with (fail)
      rw [show ((8 : Nat) : Int) = 8 from rfl]
      have q1 := tf.out.c 12 (by decide)
      have q2 := tf.out.f 12 (by decide)
      have tf4 : Hid (Arr (wr.setCell ⟨N, 12, none⟩ (.int .u32 (cnt : Nat))) .u32 N 16 (Ob.layI (Ob.upd (Ob.layI Ob.cha0 (wordAt zk) 4 8) 12 cnt) (wordAt zn) 13 0)) := by rw [Ob.layI_zero]; exact tf.out.set (by decide)
      have tn4 : Hid (Arr (wr.setCell ⟨N, 12, none⟩ (.int .u32 (cnt : Nat))) .u32 M 3 (wordAt zn)) := tn.out.far (by omega) _ _
      have hB4 : Below N w (wr.setCell ⟨N, 12, none⟩ (.int .u32 (cnt : Nat))) := by (repeat' (first | (with_reducible first | exact Below.refl _ _ | assumption | refine Below.alloc ?_ ?_ _ | refine Below.drew ?_ | refine below_drewN ?_ _ | refine Below.setCell ?_ ?_ _ | refine below_via (by with_reducible assumption) ?_ ?_) | omega | (simp only [szs]; omega) | (simp only [szs] at *; omega)))
      go_upto_region 9 with (fail)
      clear q1 q2 tf tk tn hB
      generalize (wr.setCell ⟨N, 12, none⟩ (.int .u32 (cnt : Nat))) = W4 at *
      obtain ⟨F1, hF1⟩ : ∃ F, Hid (Ob.upd (Ob.layI Ob.cha0 (wordAt zk) 4 8) 12 cnt = F) := ⟨_, rfl⟩
      rw [hF1.out] at tf4
      go_wp2
      go_loopw [11] (fun s11 wr => ∃ (i : Nat), i ≤ 3 ∧ s11 = .int .i64 (i : Nat) ∧ Hid (Arr wr .u32 N 16 (Ob.layI F1 (wordAt zn) 13 i)) ∧ Hid (Arr wr .u32 M 3 (wordAt zn)) ∧ Below N w wr) (fun s11 _ => 3 - (intOf s11).toNat)
      case atStart => exact ⟨0, by omega, rfl, tf4, tn4, hB4⟩
      case round =>
        clear tf4 tn4 hB4
        obtain ⟨i, hi, rfl, tf, tn, hB⟩ := hrel
        by_cases hlt : i < 3
        · have q0 := tn.out.c i hlt
          have q1 := tf.out.c (13 + i) (by omega)
          have q2 := tf.out.f (13 + i) (by omega)
          have i0 : (i : Int) < 3 := by omega
          have i1 : (0 : Int) ≤ (i : Int) := by omega
          have i3 : IntKind.i64.wrap (13 + (i : Int)) = ((13 + i : Nat) : Int) := by rw [IntKind.wrap_i64]; omega
          have i4 : ((13 + i : Nat) : Int) < 16 := by omega
          have i5 : (0 : Int) ≤ ((13 + i : Nat) : Int) := by omega
          have q := tf.out.set (i := 13 + i) (z := wordAt zn i) (by omega)
          rw [Ob.layI_succ] at q
          obtain ⟨k, hk⟩ : ∃ k, Hid (13 + i = k) := ⟨_, rfl⟩
          rw [hk.out] at i3 i4 i5 q1 q2 q
          have hB1 : Below N w (wr.setCell ⟨N, k, none⟩ (.int .u32 (wordAt zn i : Nat))) := by (repeat' (first | (with_reducible first | exact Below.refl _ _ | assumption | refine Below.alloc ?_ ?_ _ | refine Below.drew ?_ | refine below_drewN ?_ _ | refine Below.setCell ?_ ?_ _ | refine below_via (by with_reducible assumption) ?_ ?_) | omega | (simp only [szs]; omega) | (simp only [szs] at *; omega)))
          go_wp2
          go_roundw
          case rel => exact ⟨i + 1, by omega, by go_num, q, tn.out.far (by omega) _ _, hB1⟩
          case measure => (simp only [intOf, Int.toNat_natCast]; omega)
        · obtain rfl : i = 3 := by omega
          go_upto_region 13 with (fail)
          rw [show ((3 : Nat) : Int) = 3 from rfl]
          have hF : Hid (Ob.layI F1 (wordAt zn) 13 3 = Ob.chaF (wordAt zk) (wordAt zn) cnt) := by rw [← hF1.out]; rfl
          rw [hF.out] at tf
          have hres : Hid (Ob.chaB (wordAt zk) (wordAt zn) cnt = fun j => Ob.s32 (Ob.chaN (Ob.chaF (wordAt zk) (wordAt zn) cnt) 10 j) (Ob.chaF (wordAt zk) (wordAt zn) cnt j)) := rfl
          have wF : Hid (Ob.Words32 (Ob.chaF (wordAt zk) (wordAt zn) cnt)) := Ob.chaF_words wk.out wn.out hcnt
          obtain ⟨F, hFE⟩ : ∃ F, Hid (Ob.chaF (wordAt zk) (wordAt zn) cnt = F) := ⟨_, rfl⟩
          rw [hFE.out] at tf hres wF
          have lf := tf.out.lt
          clear hF hF1 tn
          go_upto_region 14 with (first | ((with_reducible refine wpList_loadLit tf.out ?_ Tryd.underlying40 ?_ ?_ ?_); (focus rfl); (focus rfl); (focus kernel_rfl); simp only [Act.put, List.setIfInBounds_toArray, List.set_cons_zero, List.set_cons_succ]) | ((with_reducible refine wpList_storeLit (F) Arr.new16 ?_ ?_ ?_ ?_); (focus rfl); (focus rfl); (focus kernel_rfl); intro W5 hW5_ tW5_ zW5_; try simp only [Act.put, List.setIfInBounds_toArray, List.set_cons_zero, List.set_cons_succ]))
          have tf5 : Hid (Arr W5 .u32 N 16 F) := by rw [hW5_.out]; exact (tf.out.alloc _).farCells (by omega) _ _
          have hB5 : Below N w W5 := by rw [hW5_.out]; exact below_setCells (hB.alloc (by omega) _) (by omega) _ _
          have tv5 : Hid (Arr W5 .u32 wr.heap.size 16 (Ob.chaN F 0)) := tW5_
          obtain ⟨V, hV⟩ : ∃ V, Hid (wr.heap.size = V) := ⟨_, rfl⟩
          rw [hV.out] at tv5 lf ⊢
          clear hW5_ tW5_ zW5_ tf hB hV
          go_wp2
          go_loopw [13] (fun s13 wr => ∃ (r : Nat), r ≤ 10 ∧ s13 = .int .i64 (r : Nat) ∧ Hid (Arr wr .u32 N 16 F) ∧ Hid (Arr wr .u32 V 16 (Ob.chaN F r)) ∧ Below N w wr) (fun s13 _ => 10 - (intOf s13).toNat)
          case atStart => exact ⟨0, by omega, rfl, tf5, tv5, hB5⟩
          case round =>
            clear tf5 tv5 hB5
            obtain ⟨r, hr, rfl, tf, tv0, hB0⟩ := hrel
            by_cases hlt : r < 10
            · have r0 : (r : Int) < 10 := by omega
              have tf0 := tf
              have hv0 : Hid (Ob.Words32 (Ob.chaN F r)) := Ob.chaN_words wF.out r
              have hnext : Hid (Ob.chaN F (r + 1) = Ob.chaR (Ob.chaN F r)) := rfl
              obtain ⟨V0, hV0⟩ : ∃ V, Hid (Ob.chaN F r = V) := ⟨_, rfl⟩
              rw [hV0.out] at tv0 hv0 hnext
              have W6 := wr
              clear tf W6
              obtain ⟨V1, hq1⟩ : ∃ V, Hid (Ob.quarN V0 0 4 8 12 = V) := ⟨_, rfl⟩
              have cq : Calls Tryd.prog 22 #[.agg (arrL .u32 V0 16).toArray, .int .i64 0, .int .i64 4, .int .i64 8, .int .i64 12] wr fun e w' => e = .returned (.agg (arrL .u32 V1 16).toArray) ∧ Below wr.heap.size wr w' := by
                have q := quarter_core V0 hv0.out 0 4 8 12 (by decide) (by decide) (by decide) (by decide) wr
                rw [hq1.out] at q
                exact q
              have hv1 : Hid (Ob.Words32 V1) := by rw [← hq1.out]; exact Ob.quarN_words hv0.out _ _ _ _
              go_upto_region 18 with (first | ((with_reducible refine wpList_loadLit tv0.out ?_ Tryd.underlying40 ?_ ?_ ?_); (focus rfl); (focus rfl); (focus kernel_rfl); simp only [Act.put, List.setIfInBounds_toArray, List.set_cons_zero, List.set_cons_succ]) | ((with_reducible refine wpList_storeLit (V1) tvq ?_ ?_ ?_ ?_); (focus rfl); (focus rfl); (focus kernel_rfl); intro X1 hX1_ tX1_ zX1_; try simp only [Act.put, List.setIfInBounds_toArray, List.set_cons_zero, List.set_cons_succ]) | (go_at_call 22; with_reducible refine cq.mono ?_; rintro e Y ⟨rfl, bq⟩; have tvq := tv0.out.below bq tv0.out.lt))
              have tv1 : Hid (Arr X1 .u32 V 16 V1) := tX1_
              have tf1 : Hid (Arr X1 .u32 N 16 F) := by rw [hX1_.out]; exact (tf0.out.below bq tf0.out.lt).farCells (by omega) _ _
              have hB1 : Below N w X1 := by rw [hX1_.out]; exact below_setCells (below_via bq hB0 (by have := tf0.out.lt; omega)) (by omega) _ _
              clear tvq cq bq hX1_ tX1_ zX1_ tv0 tf0 hB0 hv0
              obtain ⟨V2, hq2⟩ : ∃ V, Hid (Ob.quarN V1 1 5 9 13 = V) := ⟨_, rfl⟩
              have cq : Calls Tryd.prog 22 #[.agg (arrL .u32 V1 16).toArray, .int .i64 1, .int .i64 5, .int .i64 9, .int .i64 13] X1 fun e w' => e = .returned (.agg (arrL .u32 V2 16).toArray) ∧ Below X1.heap.size X1 w' := by
                have q := quarter_core V1 hv1.out 1 5 9 13 (by decide) (by decide) (by decide) (by decide) X1
                rw [hq2.out] at q
                exact q
              have hv2 : Hid (Ob.Words32 V2) := by rw [← hq2.out]; exact Ob.quarN_words hv1.out _ _ _ _
              go_upto_region 19 with (first | ((with_reducible refine wpList_loadLit tv1.out ?_ Tryd.underlying40 ?_ ?_ ?_); (focus rfl); (focus rfl); (focus kernel_rfl); simp only [Act.put, List.setIfInBounds_toArray, List.set_cons_zero, List.set_cons_succ]) | ((with_reducible refine wpList_storeLit (V2) tvq ?_ ?_ ?_ ?_); (focus rfl); (focus rfl); (focus kernel_rfl); intro X2 hX2_ tX2_ zX2_; try simp only [Act.put, List.setIfInBounds_toArray, List.set_cons_zero, List.set_cons_succ]) | (go_at_call 22; with_reducible refine cq.mono ?_; rintro e Y ⟨rfl, bq⟩; have tvq := tv1.out.below bq tv1.out.lt))
              have tv2 : Hid (Arr X2 .u32 V 16 V2) := tX2_
              have tf2 : Hid (Arr X2 .u32 N 16 F) := by rw [hX2_.out]; exact (tf1.out.below bq tf1.out.lt).farCells (by omega) _ _
              have hB2 : Below N w X2 := by rw [hX2_.out]; exact below_setCells (below_via bq hB1 (by have := tf1.out.lt; omega)) (by omega) _ _
              clear tvq cq bq hX2_ tX2_ zX2_ tv1 tf1 hB1 hv1
              obtain ⟨V3, hq3⟩ : ∃ V, Hid (Ob.quarN V2 2 6 10 14 = V) := ⟨_, rfl⟩
              have cq : Calls Tryd.prog 22 #[.agg (arrL .u32 V2 16).toArray, .int .i64 2, .int .i64 6, .int .i64 10, .int .i64 14] X2 fun e w' => e = .returned (.agg (arrL .u32 V3 16).toArray) ∧ Below X2.heap.size X2 w' := by
                have q := quarter_core V2 hv2.out 2 6 10 14 (by decide) (by decide) (by decide) (by decide) X2
                rw [hq3.out] at q
                exact q
              have hv3 : Hid (Ob.Words32 V3) := by rw [← hq3.out]; exact Ob.quarN_words hv2.out _ _ _ _
              go_upto_region 20 with (first | ((with_reducible refine wpList_loadLit tv2.out ?_ Tryd.underlying40 ?_ ?_ ?_); (focus rfl); (focus rfl); (focus kernel_rfl); simp only [Act.put, List.setIfInBounds_toArray, List.set_cons_zero, List.set_cons_succ]) | ((with_reducible refine wpList_storeLit (V3) tvq ?_ ?_ ?_ ?_); (focus rfl); (focus rfl); (focus kernel_rfl); intro X3 hX3_ tX3_ zX3_; try simp only [Act.put, List.setIfInBounds_toArray, List.set_cons_zero, List.set_cons_succ]) | (go_at_call 22; with_reducible refine cq.mono ?_; rintro e Y ⟨rfl, bq⟩; have tvq := tv2.out.below bq tv2.out.lt))
              have tv3 : Hid (Arr X3 .u32 V 16 V3) := tX3_
              have tf3 : Hid (Arr X3 .u32 N 16 F) := by rw [hX3_.out]; exact (tf2.out.below bq tf2.out.lt).farCells (by omega) _ _
              have hB3 : Below N w X3 := by rw [hX3_.out]; exact below_setCells (below_via bq hB2 (by have := tf2.out.lt; omega)) (by omega) _ _
              clear tvq cq bq hX3_ tX3_ zX3_ tv2 tf2 hB2 hv2
              obtain ⟨V4, hq4⟩ : ∃ V, Hid (Ob.quarN V3 3 7 11 15 = V) := ⟨_, rfl⟩
              have cq : Calls Tryd.prog 22 #[.agg (arrL .u32 V3 16).toArray, .int .i64 3, .int .i64 7, .int .i64 11, .int .i64 15] X3 fun e w' => e = .returned (.agg (arrL .u32 V4 16).toArray) ∧ Below X3.heap.size X3 w' := by
                have q := quarter_core V3 hv3.out 3 7 11 15 (by decide) (by decide) (by decide) (by decide) X3
                rw [hq4.out] at q
                exact q
              have hv4 : Hid (Ob.Words32 V4) := by rw [← hq4.out]; exact Ob.quarN_words hv3.out _ _ _ _
              go_upto_region 21 with (first | ((with_reducible refine wpList_loadLit tv3.out ?_ Tryd.underlying40 ?_ ?_ ?_); (focus rfl); (focus rfl); (focus kernel_rfl); simp only [Act.put, List.setIfInBounds_toArray, List.set_cons_zero, List.set_cons_succ]) | ((with_reducible refine wpList_storeLit (V4) tvq ?_ ?_ ?_ ?_); (focus rfl); (focus rfl); (focus kernel_rfl); intro X4 hX4_ tX4_ zX4_; try simp only [Act.put, List.setIfInBounds_toArray, List.set_cons_zero, List.set_cons_succ]) | (go_at_call 22; with_reducible refine cq.mono ?_; rintro e Y ⟨rfl, bq⟩; have tvq := tv3.out.below bq tv3.out.lt))
              have tv4 : Hid (Arr X4 .u32 V 16 V4) := tX4_
              have tf4 : Hid (Arr X4 .u32 N 16 F) := by rw [hX4_.out]; exact (tf3.out.below bq tf3.out.lt).farCells (by omega) _ _
              have hB4 : Below N w X4 := by rw [hX4_.out]; exact below_setCells (below_via bq hB3 (by have := tf3.out.lt; omega)) (by omega) _ _
              clear tvq cq bq hX4_ tX4_ zX4_ tv3 tf3 hB3 hv3
              obtain ⟨V5, hq5⟩ : ∃ V, Hid (Ob.quarN V4 0 5 10 15 = V) := ⟨_, rfl⟩
              have cq : Calls Tryd.prog 22 #[.agg (arrL .u32 V4 16).toArray, .int .i64 0, .int .i64 5, .int .i64 10, .int .i64 15] X4 fun e w' => e = .returned (.agg (arrL .u32 V5 16).toArray) ∧ Below X4.heap.size X4 w' := by
                have q := quarter_core V4 hv4.out 0 5 10 15 (by decide) (by decide) (by decide) (by decide) X4
                rw [hq5.out] at q
                exact q
              have hv5 : Hid (Ob.Words32 V5) := by rw [← hq5.out]; exact Ob.quarN_words hv4.out _ _ _ _
              go_upto_region 22 with (first | ((with_reducible refine wpList_loadLit tv4.out ?_ Tryd.underlying40 ?_ ?_ ?_); (focus rfl); (focus rfl); (focus kernel_rfl); simp only [Act.put, List.setIfInBounds_toArray, List.set_cons_zero, List.set_cons_succ]) | ((with_reducible refine wpList_storeLit (V5) tvq ?_ ?_ ?_ ?_); (focus rfl); (focus rfl); (focus kernel_rfl); intro X5 hX5_ tX5_ zX5_; try simp only [Act.put, List.setIfInBounds_toArray, List.set_cons_zero, List.set_cons_succ]) | (go_at_call 22; with_reducible refine cq.mono ?_; rintro e Y ⟨rfl, bq⟩; have tvq := tv4.out.below bq tv4.out.lt))
              have tv5 : Hid (Arr X5 .u32 V 16 V5) := tX5_
              have tf5 : Hid (Arr X5 .u32 N 16 F) := by rw [hX5_.out]; exact (tf4.out.below bq tf4.out.lt).farCells (by omega) _ _
              have hB5 : Below N w X5 := by rw [hX5_.out]; exact below_setCells (below_via bq hB4 (by have := tf4.out.lt; omega)) (by omega) _ _
              clear tvq cq bq hX5_ tX5_ zX5_ tv4 tf4 hB4 hv4
              obtain ⟨V6, hq6⟩ : ∃ V, Hid (Ob.quarN V5 1 6 11 12 = V) := ⟨_, rfl⟩
              have cq : Calls Tryd.prog 22 #[.agg (arrL .u32 V5 16).toArray, .int .i64 1, .int .i64 6, .int .i64 11, .int .i64 12] X5 fun e w' => e = .returned (.agg (arrL .u32 V6 16).toArray) ∧ Below X5.heap.size X5 w' := by
                have q := quarter_core V5 hv5.out 1 6 11 12 (by decide) (by decide) (by decide) (by decide) X5
                rw [hq6.out] at q
                exact q
              have hv6 : Hid (Ob.Words32 V6) := by rw [← hq6.out]; exact Ob.quarN_words hv5.out _ _ _ _
              go_upto_region 23 with (first | ((with_reducible refine wpList_loadLit tv5.out ?_ Tryd.underlying40 ?_ ?_ ?_); (focus rfl); (focus rfl); (focus kernel_rfl); simp only [Act.put, List.setIfInBounds_toArray, List.set_cons_zero, List.set_cons_succ]) | ((with_reducible refine wpList_storeLit (V6) tvq ?_ ?_ ?_ ?_); (focus rfl); (focus rfl); (focus kernel_rfl); intro X6 hX6_ tX6_ zX6_; try simp only [Act.put, List.setIfInBounds_toArray, List.set_cons_zero, List.set_cons_succ]) | (go_at_call 22; with_reducible refine cq.mono ?_; rintro e Y ⟨rfl, bq⟩; have tvq := tv5.out.below bq tv5.out.lt))
              have tv6 : Hid (Arr X6 .u32 V 16 V6) := tX6_
              have tf6 : Hid (Arr X6 .u32 N 16 F) := by rw [hX6_.out]; exact (tf5.out.below bq tf5.out.lt).farCells (by omega) _ _
              have hB6 : Below N w X6 := by rw [hX6_.out]; exact below_setCells (below_via bq hB5 (by have := tf5.out.lt; omega)) (by omega) _ _
              clear tvq cq bq hX6_ tX6_ zX6_ tv5 tf5 hB5 hv5
              obtain ⟨V7, hq7⟩ : ∃ V, Hid (Ob.quarN V6 2 7 8 13 = V) := ⟨_, rfl⟩
              have cq : Calls Tryd.prog 22 #[.agg (arrL .u32 V6 16).toArray, .int .i64 2, .int .i64 7, .int .i64 8, .int .i64 13] X6 fun e w' => e = .returned (.agg (arrL .u32 V7 16).toArray) ∧ Below X6.heap.size X6 w' := by
                have q := quarter_core V6 hv6.out 2 7 8 13 (by decide) (by decide) (by decide) (by decide) X6
                rw [hq7.out] at q
                exact q
              have hv7 : Hid (Ob.Words32 V7) := by rw [← hq7.out]; exact Ob.quarN_words hv6.out _ _ _ _
              go_upto_region 24 with (first | ((with_reducible refine wpList_loadLit tv6.out ?_ Tryd.underlying40 ?_ ?_ ?_); (focus rfl); (focus rfl); (focus kernel_rfl); simp only [Act.put, List.setIfInBounds_toArray, List.set_cons_zero, List.set_cons_succ]) | ((with_reducible refine wpList_storeLit (V7) tvq ?_ ?_ ?_ ?_); (focus rfl); (focus rfl); (focus kernel_rfl); intro X7 hX7_ tX7_ zX7_; try simp only [Act.put, List.setIfInBounds_toArray, List.set_cons_zero, List.set_cons_succ]) | (go_at_call 22; with_reducible refine cq.mono ?_; rintro e Y ⟨rfl, bq⟩; have tvq := tv6.out.below bq tv6.out.lt))
              have tv7 : Hid (Arr X7 .u32 V 16 V7) := tX7_
              have tf7 : Hid (Arr X7 .u32 N 16 F) := by rw [hX7_.out]; exact (tf6.out.below bq tf6.out.lt).farCells (by omega) _ _
              have hB7 : Below N w X7 := by rw [hX7_.out]; exact below_setCells (below_via bq hB6 (by have := tf6.out.lt; omega)) (by omega) _ _
              clear tvq cq bq hX7_ tX7_ zX7_ tv6 tf6 hB6 hv6
              obtain ⟨V8, hq8⟩ : ∃ V, Hid (Ob.quarN V7 3 4 9 14 = V) := ⟨_, rfl⟩
              have cq : Calls Tryd.prog 22 #[.agg (arrL .u32 V7 16).toArray, .int .i64 3, .int .i64 4, .int .i64 9, .int .i64 14] X7 fun e w' => e = .returned (.agg (arrL .u32 V8 16).toArray) ∧ Below X7.heap.size X7 w' := by
                have q := quarter_core V7 hv7.out 3 4 9 14 (by decide) (by decide) (by decide) (by decide) X7
                rw [hq8.out] at q
                exact q
              have hv8 : Hid (Ob.Words32 V8) := by rw [← hq8.out]; exact Ob.quarN_words hv7.out _ _ _ _
              go_upto_region 16 with (first | ((with_reducible refine wpList_loadLit tv7.out ?_ Tryd.underlying40 ?_ ?_ ?_); (focus rfl); (focus rfl); (focus kernel_rfl); simp only [Act.put, List.setIfInBounds_toArray, List.set_cons_zero, List.set_cons_succ]) | ((with_reducible refine wpList_storeLit (V8) tvq ?_ ?_ ?_ ?_); (focus rfl); (focus rfl); (focus kernel_rfl); intro X8 hX8_ tX8_ zX8_; try simp only [Act.put, List.setIfInBounds_toArray, List.set_cons_zero, List.set_cons_succ]) | (go_at_call 22; with_reducible refine cq.mono ?_; rintro e Y ⟨rfl, bq⟩; have tvq := tv7.out.below bq tv7.out.lt))
              have tv8 : Hid (Arr X8 .u32 V 16 V8) := tX8_
              have tf8 : Hid (Arr X8 .u32 N 16 F) := by rw [hX8_.out]; exact (tf7.out.below bq tf7.out.lt).farCells (by omega) _ _
              have hB8 : Below N w X8 := by rw [hX8_.out]; exact below_setCells (below_via bq hB7 (by have := tf7.out.lt; omega)) (by omega) _ _
              clear tvq cq bq hX8_ tX8_ zX8_ tv7 tf7 hB7 hv7
              have hV8 : Hid (V8 = Ob.chaR V0) := by
                show V8 = _
                rw [← hq8.out, ← hq7.out, ← hq6.out, ← hq5.out, ← hq4.out, ← hq3.out, ← hq2.out, ← hq1.out]
                rfl
              rw [hV8.out, ← hnext.out] at tv8
              go_wp2
              go_roundw
              case rel => exact ⟨r + 1, by omega, by go_num, tf8, tv8, hB8⟩
              case measure => (simp only [intOf, Int.toNat_natCast]; omega)
            · obtain rfl : r = 10 := by omega
              go_upto_region 25 with (fail)
              rw [show ((10 : Nat) : Int) = 10 from rfl]
              obtain ⟨i1, hi1, y1, y2, y0⟩ := wordInfo
              obtain ⟨R, hR⟩ : ∃ R, Hid (Ob.chaN F 10 = R) := ⟨_, rfl⟩
              rw [hR.out] at tv0 hres
              obtain ⟨D, hD⟩ : ∃ D, Hid (Ob.chaB (wordAt zk) (wordAt zn) cnt = D) := ⟨_, rfl⟩
              rw [hD.out] at hres
              have lV0 := tv0.out.lt
              obtain ⟨B, hBE⟩ : ∃ B, Hid (wr.heap.size = B) := ⟨_, rfl⟩
              have hown0 : Hid (wr.ownsRow B 23 1 (.slice none 0 0) 0 (arrL .u32 D 0)) := ⟨rfl, Or.inl ⟨rfl, rfl⟩⟩
              have lB : B ≤ wr.heap.size := by rw [hBE.out]; exact Nat.le_refl _
              rw [hBE.out] at lV0
              have lNB : N ≤ B := by omega
              clear hBE
              go_wp2
              go_loopw [14, 15] (fun s14 s15 wr => ∃ (j : Nat), j ≤ 16 ∧ s15 = .int .i64 (j : Nat) ∧ Hid (wr.ownsRow B 23 1 s14 j (arrL .u32 D j)) ∧ Hid (Arr wr .u32 N 16 F) ∧ Hid (Arr wr .u32 V 16 R) ∧ B ≤ wr.heap.size ∧ Below N w wr) (fun _ s15 _ => 16 - (intOf s15).toNat)
              case atStart => exact ⟨0, by omega, rfl, hown0, tf, tv0, lB, hB0⟩
              case round =>
                clear hown0 tf tv0 lB hB0
                obtain ⟨j, hj, rfl, hown, tf, tv, lB, hB⟩ := hrel
                by_cases hj8 : j < 16
                · have j0 : (j : Int) < 16 := by omega
                  have j1 : (0 : Int) ≤ (j : Int) := by omega
                  have hDj : D j = Ob.s32 (R j) (F j) := by rw [hres.out]
                  obtain ⟨x, hx⟩ : ∃ x, Hid (R j = x) := ⟨_, rfl⟩
                  obtain ⟨y, hy⟩ : ∃ x, Hid (F j = x) := ⟨_, rfl⟩
                  rw [hx.out, hy.out] at hDj
                  obtain ⟨X, hX⟩ : ∃ X, Hid (Ob.s32 x y = X) := ⟨_, rfl⟩
                  rw [hX.out] at hDj
                  have sX : IntKind.u32.wrap ((x : Int) + (y : Int)) = (X : Int) := by rw [← hX.out, IntKind.wrap_u32]; unfold Ob.s32; omega
                  have hkeep : Hid (∀ w1, Below B wr w1 → w1.cell? ⟨V, j, none⟩ = some (.int .u32 (x : Nat)) ∧ w1.cell? ⟨N, j, none⟩ = some (.int .u32 (y : Nat))) := fun w1 h => by
                    rw [← hx.out, ← hy.out]
                    exact ⟨(tv.out.below h lV0).c j hj8, (tf.out.below h (by omega)).c j hj8⟩
                  have hwj : Hid (arrL .u32 D j ++ [.int .u32 (X : Nat)] = arrL .u32 D (j + 1)) := by
                    show _ = _
                    rw [← hDj]
                    unfold arrL
                    rw [List.range_succ, List.map_append]
                    rfl
                  clear hDj
                  have hb1 : Below wr.heap.size wr (wr.alloc (.cells #[.int .u32 (X : Nat)] 23)).drew := by clear hB; (repeat' (first | (with_reducible first | exact Below.refl _ _ | assumption | refine Below.alloc ?_ ?_ _ | refine Below.drew ?_ | refine below_drewN ?_ _ | refine Below.setCell ?_ ?_ _ | refine below_via (by with_reducible assumption) ?_ ?_) | omega | (simp only [szs]; omega) | (simp only [szs] at *; omega)))
                  have hb0 : Below B wr (wr.alloc (.cells #[.int .u32 (X : Nat)] 23)).drew := hb1.mono lB
                  have hown1 : Hid ((wr.alloc (.cells #[.int .u32 (X : Nat)] 23)).drew.ownsRow B 23 1 u14 j (arrL .u32 D j)) := own_below hown.out hb1 (fun k h => (hown.out.lt k h).2)
                  have hnews : Hid (∀ (t : Nat) (u : Value), [Value.int .u32 (X : Nat)][t]? = some u → (wr.alloc (.cells #[.int .u32 (X : Nat)] 23)).drew.cell? ((⟨wr.heap.size, 0, none⟩ : Addr).add t) = some u) := fun t u h => by
                    rw [Addr.add_mid, Nat.zero_add]
                    show (wr.alloc (.cells #[.int .u32 (X : Nat)] 23)).cell? ⟨wr.heap.size, t, none⟩ = some u
                    rw [World.cell?_alloc_new, List.getElem?_toArray]
                    exact h
                  have hb00 : Below B wr wr.drew := (Below.refl B wr).drew
                  go_wp2
                  go_region_held3 (fun w' => w'.cell? ⟨V, j, none⟩ = some (.int .u32 (x : Nat)) ∧ w'.cell? ⟨N, j, none⟩ = some (.int .u32 (y : Nat))) (first | exact hkeep.out _ hBw | exact hkeep.out _ hb0 | exact hkeep.out _ hb00 | exact hkeep.out _ (by (repeat' (first | (with_reducible first | exact Below.refl _ _ | assumption | refine Below.alloc ?_ ?_ _ | refine Below.drew ?_ | refine below_drewN ?_ _ | refine Below.setCell ?_ ?_ _ | refine below_via (by with_reducible assumption) ?_ ?_) | omega | (simp only [szs]; omega) | (simp only [szs] at *; omega)))))
                    ((rw [if_pos (by rfl)]; (refine wp_append_own _ _ _ 41 rfl B 23 i1 _ 1 4 Tryd.underlying41 hi1 y0 y1 y2 rfl (by decide) _ j _ rfl hown1.out ⟨wr.heap.size, 0, none⟩ 1 1 [.int .u32 (X : Nat)] rfl rfl hnews.out (by simp [Value.oneCell']) (by unfold maxLen; omega) (by omega) (by first | (simp; done) | (simp; omega)) ?_); intro v' w1 ho hg hnil; have hBw : Below B wr w1 := hb0.grown hg (by first | (simp; done) | (simp; omega)) (fun k h => (hown.out.lt k h).1); have ho' : Hid (w1.ownsRow B 23 1 v' (j + 1) (arrL .u32 D (j + 1))) := (by rw [← hwj.out]; exact ho); clear ho hg hnil))
                  have tf' : Hid (Arr w1 .u32 N 16 F) := tf.out.below hBw (by omega)
                  have tv' : Hid (Arr w1 .u32 V 16 R) := tv.out.below hBw lV0
                  have hB' : Below N w w1 := hB.trans (hBw.mono lNB)
                  have lB' : B ≤ w1.heap.size := Nat.le_trans lB hBw.size
                  clear hkeep hb1 hb0 hb00 hown1 hnews
                  go_wp2
                  go_roundw
                  case rel => exact ⟨j + 1, by omega, by go_num, ho', tf', tv', lB', hB'⟩
                  case measure => first | (simp [intOf]; done) | (simp [intOf]; omega)
                · obtain rfl : j = 16 := by omega
                  rcases hown.out.2 with ⟨_, h8⟩ | ⟨gl, capl, cur, rfl, hgl, _⟩
                  · omega
                  have hDw : Ob.Words32 D := by rw [← hD.out]; exact Ob.chaB_words _ _ _
                  have cB := rbytes32C gl 16 capl D hDw (by decide) (by decide) wr (arr_of_row hown.out).rd
                  go_wp2_with (go_at_call 23; with_reducible refine cB.mono ?_; rintro e W12 ⟨g12, cap12, rfl, lg12, y12, b12, l12⟩)
                  go_ret
                  exact ⟨g12, cap12, rfl, by have := hN.out; omega, by rw [hD.out]; exact y12, by rw [hN.out]; exact below_via b12 hB (by omega), l12⟩
end Go.Proofs.YtdaonbfdcpkipaaDoor

namespace Ob
/-- A byte of a text, with the stream's. -/
def strX (zk zn z : Nat → Nat) (i : Nat) : Nat := z i ^^^ Go.Proofs.YtdaonbfdcpkipaaDoor.lowBy (chaB (Go.Proofs.YtdaonbfdcpkipaaDoor.wordAt zk) (Go.Proofs.YtdaonbfdcpkipaaDoor.wordAt zn) (1 + i / 64)) (i % 64)
end Ob
namespace Go.Proofs.YtdaonbfdcpkipaaDoor
open Go.RowKit Go.Proofs
set_option linter.unusedVariables false
set_option linter.unusedSimpArgs false
attribute [local go_sem ↓] Go.wp_at_zero Go.wp_at_succ

theorem xor_lt8 {x y : Nat} (hx : x < 256) (hy : y < 256) : x ^^^ y < 256 := Nat.xor_lt_two_pow (n := 8) hx hy
theorem xor_u8 (a b : Nat) (ha : a < 256) (hb : b < 256) : bits .xor .u8 (a : Int) (b : Int) = ((a ^^^ b : Nat) : Int) := by
  have ha' : a % 2 ^ 8 = a := Nat.mod_eq_of_lt ha
  have hb' : b % 2 ^ 8 = b := Nat.mod_eq_of_lt hb
  have hk : IntKind.u8.bits = 8 := rfl
  simp only [bits, BitVec.ofInt_natCast, BitVec.toNat_xor, BitVec.toNat_ofNat, hk, ha', hb']
  have := xor_lt8 ha hb
  rw [IntKind.wrap_u8]
  omega
/-- make([]byte, n). -/
theorem make_bytes (n : Nat) (hn : n ≤ 10000000) (w : World) : ∃ w', (Instr.makeSlice 22 (.int .i64 (n : Nat)) (.int .i64 (n : Nat))).run Tryd.prog w = .ok (.slice (some ⟨w.heap.size, 0, none⟩) n n) w' ∧ Arr w' .u8 w.heap.size n (fun _ => 0) ∧ Below w.heap.size w w' ∧ w'.heap.size = w.heap.size + 1 := by
  obtain ⟨i0, hi, hz1, hz2, hz0⟩ := byteInfo
  have h := run_make (P := Tryd.prog) w 22 5 i0 _ Tryd.underlying22 hi hz0 .i64 .i64 (n : Nat) (n : Nat) (by omega) (by omega) (by rw [hz2]; omega) (by omega)
  rw [hz1] at h
  have e : madeCells (Value.int .u8 0).cells (Int.toNat (n : Nat) * 1) = (arrL .u8 (fun _ => 0) n).toArray := by
    rw [Int.toNat_natCast, Nat.mul_one]
    apply Array.ext'
    simp [madeCells, Value.cells, Nat.mod_one, arrL]
  rw [e] at h
  simp only [Int.toNat_natCast] at h
  exact ⟨_, h, Arr.new rfl, (Below.refl _ _).alloc (Nat.le_refl _) _, World.size_alloc _ _⟩
/-- The first i of a row laid, 0 behind. -/
def layI (f : Nat → Nat) (i j : Nat) : Nat := if j < i then f j else 0
theorem layI_zero (f : Nat → Nat) : layI f 0 = fun _ => 0 := by funext j; simp [layI]
theorem layI_succ (f : Nat → Nat) (i : Nat) : Ob.upd (layI f i) i (f i) = layI f (i + 1) := by
  funext j
  unfold Ob.upd layI
  by_cases h1 : j = i
  · subst h1; simp
  · by_cases h2 : j < i
    · simp [h1, h2, Nat.lt_succ_of_lt h2]
    · simp [h1, h2]; omega

set_option maxHeartbeats 4000000 in
theorem rstream_core (kb ko kc nb no nc c n : Nat) (zk zn z : Nat → Nat) (hzk : ∀ i, zk i < 256) (hzn : ∀ i, zn i < 256) (hzt : ∀ i, z i < 256) (hn : n ≤ 1000000) (a : Option Addr) (w : World) (hK : Bys w kb ko 32 zk) (hN' : Bys w nb no 12 zn) (hS : Src w a n z) :
    Calls Tryd.prog 16 #[.slice (some ⟨kb, ko, none⟩) 32 kc, .slice (some ⟨nb, no, none⟩) 12 nc, .slice a n c] w fun e w' => e = .returned (.slice (some ⟨w.heap.size, 0, none⟩) n n) ∧ Arr w' .u8 w.heap.size n (Ob.strX zk zn z) ∧ Below w.heap.size w w' := by
  have hK0 : Hid (Bys w kb ko 32 zk) := hK
  have hN0 : Hid (Bys w nb no 12 zn) := hN'
  have hS0 : Hid (Src w a n z) := hS
  have hk' : Hid (∀ i, zk i < 256) := hzk
  have hn' : Hid (∀ i, zn i < 256) := hzn
  have ht' : Hid (∀ i, z i < 256) := hzt
  clear hK hN' hS hzk hzn hzt
  obtain ⟨W0, hmk, ta0, hB0, z0⟩ := make_bytes n (by omega) w
  obtain ⟨N, hN⟩ : ∃ N, Hid (w.heap.size = N) := ⟨_, rfl⟩
  rw [hN.out] at hmk ta0 hB0
  rw [hN.out]
  obtain ⟨F, hF⟩ : ∃ F, Hid (Ob.strX zk zn z = F) := ⟨_, rfl⟩
  rw [hF.out]
  have ta0' : Hid (Arr W0 .u8 N n (layI F 0)) := by rw [layI_zero]; exact ta0
  clear ta0
  go_enter Tryd.func16, Tryd.ntmps16
  go_wp2
  go_loopw [8, 9] (fun s8 s9 wr => ∃ i : Nat, i ≤ n ∧ s9 = .int .i64 (i : Nat) ∧ Hid (i % 64 = 0 ∨ ∃ gb cap, s8 = .slice (some ⟨gb, 0, none⟩) 64 cap ∧ N < gb ∧ Bys wr gb 0 64 (lowBy (Ob.chaB (wordAt zk) (wordAt zn) (1 + i / 64)))) ∧ Hid (Arr wr .u8 N n (layI F i)) ∧ Below N w wr) (fun _ s9 _ => n - (intOf s9).toNat)
  case atStart => exact ⟨0, by omega, rfl, Or.inl rfl, ta0', hB0⟩
  case round =>
    clear ta0' hB0 hmk
    obtain ⟨i, hi, rfl, hb, ta, hB⟩ := hrel
    by_cases hlt : i < n
    · obtain ⟨tb, tf, rfl, hT⟩ : ∃ tb tf, a = some ⟨tb, tf, none⟩ ∧ Hid (Bys w tb tf n z) := by
        rcases hS0.out with h | ⟨b, off, h, hB'⟩
        · omega
        · exact ⟨b, off, h, hB'⟩
      have i0 : (i : Int) < (n : Int) := by omega
      have i1 : (0 : Int) ≤ (i : Int) := by omega
      obtain ⟨m, hm, em⟩ : ∃ m : Nat, Hid (i % 64 = m) ∧ (i : Int) % 64 = (m : Int) := ⟨i % 64, rfl, by omega⟩
      have em' : Int.tmod (i : Int) 64 = (m : Int) := by rw [Int.tmod_eq_emod_of_nonneg (by omega)]; exact em
      obtain ⟨q, hq, eq⟩ : ∃ q : Nat, Hid (i / 64 = q) ∧ (i : Int) / 64 = (q : Int) := ⟨i / 64, rfl, by omega⟩
      have eq' : Int.tdiv (i : Int) 64 = (q : Int) := by rw [Int.tdiv_eq_ediv_of_nonneg (by omega)]; exact eq
      obtain ⟨r, hr, er⟩ : ∃ r : Nat, Hid (1 + q = r) ∧ IntKind.i64.wrap (1 + (q : Int)) = (r : Int) := ⟨1 + q, rfl, by rw [IntKind.wrap_i64]; have := hq.out; omega⟩
      have hrl : r < 4294967296 := by have := hr.out; have := hq.out; omega
      have er' : IntKind.u32.wrap (r : Int) = (r : Int) := wraps_u32 _ (by omega) (by omega)
      have hml : m < 64 := by have := hm.out; omega
      have ml : (m : Int) < 64 := by omega
      have m1 : (0 : Int) ≤ (m : Int) := by omega
      rw [hm.out, hq.out, hr.out] at hb
      have lN := ta.out.lt
      go_upto_if 21 with (fail)
      go_cut [8] from 13 to 41 (fun s8 w6 => ∃ gb cap, s8 = .slice (some ⟨gb, 0, none⟩) 64 cap ∧ N < gb ∧ Hid (Bys w6 gb 0 64 (lowBy (Ob.chaB (wordAt zk) (wordAt zn) r))) ∧ Hid (Arr w6 .u8 N n (layI F i)) ∧ Below N w w6)
      case first =>
        by_cases h0 : m = 0
        · have h0' : (m : Int) = 0 := by omega
          have cb := rblock_core kb ko kc nb no nc r zk zn hk'.out hn'.out hrl wr (hK0.out.below (by rw [hN.out]; exact hB) hK0.out.lt) (hN0.out.below (by rw [hN.out]; exact hB) hN0.out.lt)
          go_wp2_with (go_at_call 12; with_reducible refine cb.mono ?_; rintro e W3 ⟨gb, cap, rfl, lgb, tb3, b3, _⟩)
          go_meet
          case rel => exact ⟨gb, cap, rfl, by omega, tb3, ta.out.below b3 lN, below_via b3 hB (by omega)⟩
        · have h0' : ¬ (m : Int) = 0 := by omega
          obtain ⟨gb, cap, rfl, lgb, tb3⟩ := hb.out.resolve_left h0
          go_wp2
          go_meet
          case rel => exact ⟨gb, cap, rfl, lgb, tb3, ta, hB⟩
      case rest =>
        clear hb ta hB er er' eq eq'
        obtain ⟨gb, cap, rfl, lgb, tb3, ta, hB⟩ := hcut
        have lN' := ta.out.lt
        obtain ⟨t, ht⟩ : ∃ t, Hid (z i = t) := ⟨_, rfl⟩
        obtain ⟨k, hk⟩ : ∃ k, Hid (lowBy (Ob.chaB (wordAt zk) (wordAt zn) r) m = k) := ⟨_, rfl⟩
        have htl : t < 256 := by rw [← ht.out]; exact ht'.out i
        have hkl : k < 256 := by rw [← hk.out]; exact lowBy_lt _ _
        obtain ⟨v, hv, ev⟩ : ∃ v : Nat, Hid (t ^^^ k = v) ∧ bits .xor .u8 (t : Int) (k : Int) = (v : Int) := ⟨_, rfl, xor_u8 t k htl hkl⟩
        have hvE : F i = v := by
          rw [← hF.out, ← hv.out, ← ht.out, ← hk.out, ← hr.out, ← hq.out, ← hm.out]; rfl
        have hTw := hT.out.below (by rw [hN.out]; exact hB) hT.out.lt
        have p0 := hTw.drew.at_ i hlt
        have p1 := tb3.out.drew.at_ m hml
        rw [ht.out] at p0
        rw [hk.out, Nat.zero_add] at p1
        have p2 := ta.out.c i hlt
        have p3 := ta.out.f i hlt
        have hlt' : Hid (i < n) := hlt
        clear hlt hTw
        go_upto_region 8 with (fail)
        refine wp_region_noPanic ?_
        refine region_lastly (S := (fun w' => w'.cell? ⟨tb, tf + i, none⟩ = some (.int .u8 (t : Nat)) ∧ w'.cell? ⟨gb, m, none⟩ = some (.int .u8 (k : Nat)))) [13] (by kernel_rfl) (by ((try dsimp only); (exact ⟨p0, p1⟩))) (fun hHeld => ?_)
        refine anyZ_free (i := 0) (oi := ?oi_1) (v := ?v_1) ?hi_1 ?hs_1 ?hf_1 ?hr_1 ?hQ_1 (Or.inl ⟨?hw_1, ?hy_1⟩) ?hrest_1
        case hi_1 => (simp only [List.getElem?_toArray, List.getElem?_cons_succ, List.getElem?_cons_zero]; exact rfl)
        case hs_1 => kernel_rfl
        case hf_1 => kernel_rfl
        case hr_1 => kernel_rfl
        case hQ_1 => exact fun _ _ _ h => h
        case hw_1 => rfl
        case hy_1 => (intro w _; go_simp; try with_reducible rfl)
        try simp only [Act.put, List.setIfInBounds_toArray, List.set_cons_zero, List.set_cons_succ]
        refine anyZ_free (i := 1) (oi := ?oi_2) (v := ?v_2) ?hi_2 ?hs_2 ?hf_2 ?hr_2 ?hQ_2 (Or.inl ⟨?hw_2, ?hy_2⟩) ?hrest_2
        case hi_2 => (simp only [List.getElem?_toArray, List.getElem?_cons_succ, List.getElem?_cons_zero]; exact rfl)
        case hs_2 => kernel_rfl
        case hf_2 => kernel_rfl
        case hr_2 => kernel_rfl
        case hQ_2 => exact fun _ _ _ h => h
        case hw_2 => rfl
        case hy_2 => (intro w _; go_simp; try with_reducible rfl)
        try simp only [Act.put, List.setIfInBounds_toArray, List.set_cons_zero, List.set_cons_succ]
        refine anyZ_free (i := 2) (oi := ?oi_3) (v := ?v_3) ?hi_3 ?hs_3 ?hf_3 ?hr_3 ?hQ_3 (Or.inl ⟨?hw_3, ?hy_3⟩) ?hrest_3
        case hi_3 => (simp only [List.getElem?_toArray, List.getElem?_cons_succ, List.getElem?_cons_zero]; exact rfl)
        case hs_3 => kernel_rfl
        case hf_3 => kernel_rfl
        case hr_3 => kernel_rfl
        case hQ_3 => exact fun _ _ _ h => h
        case hw_3 => rfl
        case hy_3 => (intro w _; go_simp; try with_reducible rfl)
        try simp only [Act.put, List.setIfInBounds_toArray, List.set_cons_zero, List.set_cons_succ]
        refine anyZ_free (i := 3) (oi := ?oi_4) (v := ?v_4) ?hi_4 ?hs_4 ?hf_4 ?hr_4 ?hQ_4 (Or.inl ⟨?hw_4, ?hy_4⟩) ?hrest_4
        case hi_4 => (simp only [List.getElem?_toArray, List.getElem?_cons_succ, List.getElem?_cons_zero]; exact rfl)
        case hs_4 => kernel_rfl
        case hf_4 => kernel_rfl
        case hr_4 => kernel_rfl
        case hQ_4 => exact fun _ _ _ h => h
        case hw_4 => rfl
        case hy_4 => (intro w _; go_simp; try with_reducible rfl)
        try simp only [Act.put, List.setIfInBounds_toArray, List.set_cons_zero, List.set_cons_succ]
        refine anyZ_free (i := 4) (oi := ?oi_5) (v := ?v_5) ?hi_5 ?hs_5 ?hf_5 ?hr_5 ?hQ_5 (Or.inl ⟨?hw_5, ?hy_5⟩) ?hrest_5
        case hi_5 => (simp only [List.getElem?_toArray, List.getElem?_cons_succ, List.getElem?_cons_zero]; exact rfl)
        case hs_5 => kernel_rfl
        case hf_5 => kernel_rfl
        case hr_5 => kernel_rfl
        case hQ_5 => exact fun _ _ _ h => h
        case hw_5 => rfl
        case hy_5 => (intro w _; go_simp; try with_reducible rfl)
        try simp only [Act.put, List.setIfInBounds_toArray, List.set_cons_zero, List.set_cons_succ]
        refine anyZ_take (i := 5) (oi := ?oi_6) (v := ?v_6) ?hi_6 ?hz_6 ?hs_6 ?hf_6 ?hr_6 ?hQ_6 (Or.inl ⟨?hw_6, ?hy_6⟩) ?hS_6 ?hrest_6
        case hi_6 => (simp only [List.getElem?_toArray, List.getElem?_cons_succ, List.getElem?_cons_zero]; exact rfl)
        case hz_6 => kernel_rfl
        case hs_6 => kernel_rfl
        case hf_6 => kernel_rfl
        case hr_6 => kernel_rfl
        case hQ_6 => exact fun _ _ _ h => h
        case hw_6 => rfl
        case hS_6 => assumption
        case hy_6 => (intro w hSw; (try dsimp only at hSw); go_simp; try with_reducible rfl)
        try simp only [Act.put, List.setIfInBounds_toArray, List.set_cons_zero, List.set_cons_succ]
        refine anyZ_free (i := 6) (oi := ?oi_7) (v := ?v_7) ?hi_7 ?hs_7 ?hf_7 ?hr_7 ?hQ_7 (Or.inl ⟨?hw_7, ?hy_7⟩) ?hrest_7
        case hi_7 => (simp only [List.getElem?_toArray, List.getElem?_cons_succ, List.getElem?_cons_zero]; exact rfl)
        case hs_7 => kernel_rfl
        case hf_7 => kernel_rfl
        case hr_7 => kernel_rfl
        case hQ_7 => exact fun _ _ _ h => h
        case hw_7 => rfl
        case hy_7 => (intro w _; go_simp; try with_reducible rfl)
        try simp only [Act.put, List.setIfInBounds_toArray, List.set_cons_zero, List.set_cons_succ]
        refine anyZ_free (i := 7) (oi := ?oi_8) (v := ?v_8) ?hi_8 ?hs_8 ?hf_8 ?hr_8 ?hQ_8 (Or.inl ⟨?hw_8, ?hy_8⟩) ?hrest_8
        case hi_8 => (simp only [List.getElem?_toArray, List.getElem?_cons_succ, List.getElem?_cons_zero]; exact rfl)
        case hs_8 => kernel_rfl
        case hf_8 => kernel_rfl
        case hr_8 => kernel_rfl
        case hQ_8 => exact fun _ _ _ h => h
        case hw_8 => rfl
        case hy_8 => (intro w _; go_simp; try with_reducible rfl)
        try simp only [Act.put, List.setIfInBounds_toArray, List.set_cons_zero, List.set_cons_succ]
        refine anyZ_free (i := 8) (oi := ?oi_9) (v := ?v_9) ?hi_9 ?hs_9 ?hf_9 ?hr_9 ?hQ_9 (Or.inl ⟨?hw_9, ?hy_9⟩) ?hrest_9
        case hi_9 => (simp only [List.getElem?_toArray, List.getElem?_cons_succ, List.getElem?_cons_zero]; exact rfl)
        case hs_9 => kernel_rfl
        case hf_9 => kernel_rfl
        case hr_9 => kernel_rfl
        case hQ_9 => exact fun _ _ _ h => h
        case hw_9 => rfl
        case hy_9 => (intro w _; go_simp; try with_reducible rfl)
        try simp only [Act.put, List.setIfInBounds_toArray, List.set_cons_zero, List.set_cons_succ]
        refine anyZ_free (i := 9) (oi := ?oi_10) (v := ?v_10) ?hi_10 ?hs_10 ?hf_10 ?hr_10 ?hQ_10 (Or.inl ⟨?hw_10, ?hy_10⟩) ?hrest_10
        case hi_10 => (simp only [List.getElem?_toArray, List.getElem?_cons_succ, List.getElem?_cons_zero]; exact rfl)
        case hs_10 => kernel_rfl
        case hf_10 => kernel_rfl
        case hr_10 => kernel_rfl
        case hQ_10 => exact fun _ _ _ h => h
        case hw_10 => rfl
        case hy_10 => (intro w _; go_simp; try with_reducible rfl)
        try simp only [Act.put, List.setIfInBounds_toArray, List.set_cons_zero, List.set_cons_succ]
        refine anyZ_take (i := 10) (oi := ?oi_11) (v := ?v_11) ?hi_11 ?hz_11 ?hs_11 ?hf_11 ?hr_11 ?hQ_11 (Or.inl ⟨?hw_11, ?hy_11⟩) ?hS_11 ?hrest_11
        case hi_11 => (simp only [List.getElem?_toArray, List.getElem?_cons_succ, List.getElem?_cons_zero]; exact rfl)
        case hz_11 => kernel_rfl
        case hs_11 => kernel_rfl
        case hf_11 => kernel_rfl
        case hr_11 => kernel_rfl
        case hQ_11 => exact fun _ _ _ h => h
        case hw_11 => rfl
        case hS_11 => assumption
        case hy_11 => (intro w hSw; (try dsimp only at hSw); go_simp; try with_reducible rfl)
        try simp only [Act.put, List.setIfInBounds_toArray, List.set_cons_zero, List.set_cons_succ]
        refine anyZ_free (i := 11) (oi := ?oi_12) (v := ?v_12) ?hi_12 ?hs_12 ?hf_12 ?hr_12 ?hQ_12 (Or.inl ⟨?hw_12, ?hy_12⟩) ?hrest_12
        case hi_12 => (simp only [List.getElem?_toArray, List.getElem?_cons_succ, List.getElem?_cons_zero]; exact rfl)
        case hs_12 => kernel_rfl
        case hf_12 => kernel_rfl
        case hr_12 => kernel_rfl
        case hQ_12 => exact fun _ _ _ h => h
        case hw_12 => rfl
        case hy_12 => (intro w _; go_simp; try with_reducible rfl)
        try simp only [Act.put, List.setIfInBounds_toArray, List.set_cons_zero, List.set_cons_succ]
        refine anyZ_free (i := 12) (oi := ?oi_13) (v := ?v_13) ?hi_13 ?hs_13 ?hf_13 ?hr_13 ?hQ_13 (Or.inl ⟨?hw_13, ?hy_13⟩) ?hrest_13
        case hi_13 => (simp only [List.getElem?_toArray, List.getElem?_cons_succ, List.getElem?_cons_zero]; exact rfl)
        case hs_13 => kernel_rfl
        case hf_13 => kernel_rfl
        case hr_13 => kernel_rfl
        case hQ_13 => exact fun _ _ _ h => h
        case hw_13 => rfl
        case hy_13 => (intro w _; go_simp; try with_reducible rfl)
        try simp only [Act.put, List.setIfInBounds_toArray, List.set_cons_zero, List.set_cons_succ]
        refine anyZ_ready (rs := [13]) (by kernel_rfl) (by simp) ?_
        refine (AllZ.last (o := ?o_14) ?ho_14 (by rfl) (fun K hK => ?st_14) AllZ.nil)
        case ho_14 => (simp only [List.getElem?_toArray, List.getElem?_cons_succ, List.getElem?_cons_zero]; exact rfl)
        case st_14 =>
          go_simp
          refine hK.out _ _ ?_
          clear hK K
          try simp only [Act.put, List.setIfInBounds_toArray, List.set_cons_zero, List.set_cons_succ]
          refine anyZ_done (by kernel_rfl) ?_ _
          refine NoPanic.normal ?_
          have ta4 : Hid (Arr ((wc.setCell ⟨N, i, none⟩ (.int .u8 (v : Nat))).drew) .u8 N n (layI F (i + 1))) := by
            have q := (ta.out.set (i := i) (z := v) hlt'.out).drew
            rw [← hvE, layI_succ, hvE] at q
            exact q
          have hB4 : Below N w ((wc.setCell ⟨N, i, none⟩ (.int .u8 (v : Nat))).drew) := by (repeat' (first | (with_reducible first | exact Below.refl _ _ | assumption | refine Below.alloc ?_ ?_ _ | refine Below.drew ?_ | refine below_drewN ?_ _ | refine Below.setCell ?_ ?_ _ | refine below_via (by with_reducible assumption) ?_ ?_) | omega | (simp only [szs]; omega) | (simp only [szs] at *; omega)))
          have tb4 : Bys ((wc.setCell ⟨N, i, none⟩ (.int .u8 (v : Nat))).drew) gb 0 64 (lowBy (Ob.chaB (wordAt zk) (wordAt zn) r)) := by
            have h0 : Bys (wc.setCell ⟨N, i, none⟩ (.int .u8 (v : Nat))) gb 0 64 (lowBy (Ob.chaB (wordAt zk) (wordAt zn) r)) := ⟨by simp [tb3.out.lt], fun j hj => by rw [World.cell?_setCell_other _ _ _ _ (by first | (simp; done) | (simp; omega))]; exact tb3.out.at_ j hj⟩
            exact h0.drew
          clear hHeld p0 p1 p2 p3
          go_wp2
          go_roundw
          case rel =>
            refine ⟨i + 1, by have := hlt'.out; omega, by go_num, ?_, ta4, hB4⟩
            show _ ∨ _
            by_cases h1 : (i + 1) % 64 = 0
            · exact Or.inl h1
            · refine Or.inr ⟨gb, cap, rfl, lgb, ?_⟩
              rw [show 1 + (i + 1) / 64 = r by have := hr.out; have := hq.out; omega]
              exact tb4
          case measure => (have := hlt'.out; simp only [intOf, Int.toNat_natCast]; omega)
    · obtain rfl : i = n := by omega
      go_wp2
      go_ret
      exact ⟨rfl, ta.out.congr (fun j hj => by unfold layI; rw [if_pos hj]), hB⟩
end Go.Proofs.YtdaonbfdcpkipaaDoor

namespace Ob
/-- n bytes, 0 behind them. -/
def padX (z : Nat → Nat) (n j : Nat) : Nat := if j < n then z j else 0
/-- n bytes, others behind them. -/
def joinX (z : Nat → Nat) (n : Nat) (u : Nat → Nat) (j : Nat) : Nat := if j < n then z j else u (j - n)
/-- The least multiple of 16 that is not below n. -/
def up16 (n : Nat) : Nat := (n + 15) / 16 * 16
end Ob
namespace Go.Proofs.YtdaonbfdcpkipaaDoor
open Go.RowKit Go.Proofs
set_option linter.unusedVariables false
set_option linter.unusedSimpArgs false
attribute [local go_sem ↓] Go.wp_at_zero Go.wp_at_succ

theorem valsX_congr (y z : Nat → Nat) (n : Nat) (h : ∀ i, i < n → y i = z i) : vals y n = vals z n := by
  unfold vals
  exact List.map_congr_left fun i hi => by rw [h i (List.mem_range.1 hi)]
theorem vals_join (z u : Nat → Nat) (n : Nat) : ∀ m, vals z n ++ vals u m = vals (Ob.joinX z n u) (n + m)
  | 0 => by rw [vals_zero, List.append_nil]; exact valsX_congr _ _ _ fun i hi => by unfold Ob.joinX; rw [if_pos hi]
  | m + 1 => by
    rw [vals_succ, ← List.append_assoc, vals_join z u n m, ← Nat.add_assoc, vals_succ]
    have e : Ob.joinX z n u (n + m) = u m := by unfold Ob.joinX; rw [if_neg (by omega), Nat.add_sub_cancel_left]
    rw [e]
/-- Bytes behind a row of one's own. -/
theorem wpList_appB {ops : Array Oper} {rest : List Oper} {o : Oper} {a : Act} {w : World} {Q : Exit → Act → World → Prop} (hgd : o.guard = none) (s x : Operand)
    (ho : o.op = .call { callee := .builtin .append, args := #[s, x], argTypes := #[22, 22] }) (base g n cap : Nat) (z : Nat → Nat) (hs : a.eval s = .slice (some ⟨g, 0, none⟩) n cap)
    (hown : w.ownsRow base 5 1 (.slice (some ⟨g, 0, none⟩) n cap) n (vals z n)) (hbase : base ≤ w.heap.size) (b off m c : Nat) (u : Nat → Nat) (hx : a.eval x = .slice (some ⟨b, off, none⟩) m c) (hB : Bys w b off m u) (hn : n ≤ 10000000) (hm : m ≤ 10000000)
    (h : ∀ g' cap' w', w'.ownsRow base 5 1 (.slice (some ⟨g', 0, none⟩) (n + m) cap') (n + m) (vals (Ob.joinX z n u) (n + m)) → Below base w w' → wpList Tryd.prog ops Q rest (a.put o.dst (.slice (some ⟨g', 0, none⟩) (n + m) cap')) w') : wpList Tryd.prog ops Q (o :: rest) a w := by
  obtain ⟨i0, hi, hz1, hz2, hz0⟩ := byteInfo
  refine wpList_append_own _ hgd s x 22 ho base 5 i0 _ 1 1 Tryd.underlying22 hi hz0 hz1 hz2 rfl (by decide) _ n _ hs hown ⟨b, off, none⟩ m c (vals u m) hx (by simp [vals]) (bys_news hB) (vals_one u m) (by unfold maxLen; omega) (by omega) hbase ?_
  intro v' w' ho' hg hnil
  rw [vals_join] at ho'
  have hb := (Below.refl base w).grown hg hbase (fun k hk => (hown.lt k hk).1)
  rcases ho'.2 with ⟨h0, _⟩ | ⟨g', cap', cur, rfl, _⟩
  · have := (hnil.1 h0).1
    cases this
  · exact h g' cap' w' ho' hb

theorem up16_le (n : Nat) : n ≤ Ob.up16 n := by unfold Ob.up16; omega
theorem up16_small {n k : Nat} (h : n ≤ k) (h2 : k ≤ Ob.up16 n) (h3 : k % 16 = 0) : k = Ob.up16 n := by unfold Ob.up16 at *; omega
theorem up16_more {n k : Nat} (h2 : k ≤ Ob.up16 n) (h3 : k % 16 ≠ 0) : k + 1 ≤ Ob.up16 n := by unfold Ob.up16 at *; omega
def lenX : Value → Nat | .slice _ n _ => n | _ => 0

set_option maxHeartbeats 4000000 in
theorem rfull_core (c n : Nat) (z : Nat → Nat) (hn : n ≤ 1000000) (a : Option Addr) (w : World) (hS : Src w a n z) :
    Calls Tryd.prog 29 #[.slice a n c] w fun e w' => ∃ g cap, e = .returned (.slice (some ⟨g, 0, none⟩) (Ob.up16 n) cap) ∧ w'.ownsRow w.heap.size 5 1 (.slice (some ⟨g, 0, none⟩) (Ob.up16 n) cap) (Ob.up16 n) (vals (Ob.padX z n) (Ob.up16 n)) ∧ Below w.heap.size w w' := by
  have hS0 : Hid (Src w a n z) := hS
  clear hS
  obtain ⟨N, hN⟩ : ∃ N, Hid (w.heap.size = N) := ⟨_, rfl⟩
  have hown0 : (w.alloc (.cells #[] 5)).ownsRow N 5 1 (.slice (some ⟨w.heap.size, 0, none⟩) 0 0) 0 [] := World.ownsRow_made w #[] 0 (by rw [hN.out]; exact Nat.le_refl _) (by decide) rfl
  have hBa : Below N w (w.alloc (.cells #[] 5)) := (Below.refl N w).alloc (by rw [hN.out]; exact Nat.le_refl _) _
  have hS1 := hS0.out.below (by rw [hN.out]; exact hBa)
  obtain ⟨U, hU⟩ : ∃ U, Hid (Ob.up16 n = U) := ⟨_, rfl⟩
  rw [hU.out, hN.out]
  have hU1 : U ≤ 1000016 := by have := hU.out; unfold Ob.up16 at this; omega
  have hU0 : n ≤ U := by rw [← hU.out]; exact up16_le n
  go_enter Tryd.func29, Tryd.ntmps29
  go_upto_region 2 with (at_builtin; refine wpList_copyB rfl _ _ rfl N _ rfl hown0 (by have := hN.out; simp; omega) a n c z rfl hS1 (by omega) ?_; intro ga capa W1 hown1 b1)
  have hB1 : Below N w W1 := hBa.trans b1
  have hown1' : Hid (W1.ownsRow N 5 1 (.slice (some ⟨ga, 0, none⟩) n capa) n (vals (Ob.padX z n) n)) := by
    rw [valsX_congr (Ob.padX z n) z n (fun i hi => by unfold Ob.padX; rw [if_pos hi])]; exact hown1
  clear hown0 hBa hS1 hown1 b1
  go_loopw [3] (fun s3 wr => ∃ k g cap : Nat, n ≤ k ∧ k ≤ U ∧ s3 = .slice (some ⟨g, 0, none⟩) k cap ∧ Hid (wr.ownsRow N 5 1 (.slice (some ⟨g, 0, none⟩) k cap) k (vals (Ob.padX z n) k)) ∧ Below N w wr) (fun s3 _ => U - lenX s3)
  case atStart => exact ⟨n, ga, capa, Nat.le_refl _, hU0, rfl, hown1', hB1⟩
  case round =>
    clear hown1' hB1
    obtain ⟨k, g, cap, hnk, hk, rfl, p, hB⟩ := hrel
    have l0 := hB.size
    obtain ⟨r, hr, er⟩ : ∃ r : Nat, Hid (k % 16 = r) ∧ (k : Int) % 16 = (r : Int) := ⟨k % 16, rfl, by omega⟩
    have er' : Int.tmod (k : Int) 16 = (r : Int) := by rw [Int.tmod_eq_emod_of_nonneg (by omega)]; exact er
    by_cases h0 : r = 0
    · subst h0
      obtain rfl : k = U := by rw [← hU.out]; exact up16_small hnk (by rw [hU.out]; exact hk) hr.out
      go_wp2
      go_ret
      exact ⟨g, cap, rfl, p.out, hB⟩
    · have r1 : ((r : Int) == 0) = false := by simpa using h0
      have r2 : (r : Int) ≠ 0 := by omega
      have hk1 : k + 1 ≤ U := by rw [← hU.out]; exact up16_more (by rw [hU.out]; exact hk) (by rw [hr.out]; exact h0)
      have p1 := p.out.alloc (.cells #[.int .u8 0] 5)
      have y1 : Bys (wr.alloc (.cells #[.int .u8 0] 5)) wr.heap.size 0 1 (fun _ => 0) := ⟨by simp, fun i hi => by (have e : i = 0 := by omega); subst e; rw [World.cell?_alloc_new]; rfl⟩
      have hB1 : Below N w (wr.alloc (.cells #[.int .u8 0] 5)) := hB.alloc (by have := hN.out; omega) _
      go_wp2_with (at_builtin; refine wpList_appB rfl _ _ rfl N g k cap _ rfl p1 (by have := hN.out; simp; omega) wr.heap.size 0 1 1 _ rfl y1 (by omega) (by omega) ?_; intro g' cap' W2 p2 b2)
      have p2' : Hid (W2.ownsRow N 5 1 (.slice (some ⟨g', 0, none⟩) (k + 1) cap') (k + 1) (vals (Ob.padX z n) (k + 1))) := by
        rw [valsX_congr (Ob.padX z n) (Ob.joinX (Ob.padX z n) k fun _ => 0) (k + 1) (fun i hi => by
          unfold Ob.joinX
          by_cases e : i < k
          · rw [if_pos e]
          · rw [if_neg e]; unfold Ob.padX; rw [if_neg (by omega)])]
        exact p2
      have hB2 : Below N w W2 := hB1.trans b2
      clear p2 b2 hB1 y1 p1
      go_roundw
      case rel => exact ⟨k + 1, g', cap', by omega, hk1, rfl, p2', hB2⟩
      case measure => (show U - (k + 1) < U - k; omega)
/-- A length, in 8 bytes. -/
theorem len_step (n i : Nat) : n / 256 ^ i / 256 = n / 256 ^ (i + 1) := by rw [Nat.div_div_eq_div_mul, Nat.pow_succ]
set_option maxHeartbeats 2000000 in
theorem rlength_core (n : Nat) (hn : n ≤ 1000000000) (w : World) :
    Calls Tryd.prog 30 #[.int .i64 (n : Nat)] w fun e w' => e = .returned (.slice (some ⟨w.heap.size, 0, none⟩) 8 8) ∧ Arr w' .u8 w.heap.size 8 (fun i => n / 256 ^ i % 256) ∧ Below w.heap.size w w' := by
  obtain ⟨W0, hmk, ta0, hB0, z0⟩ := make_bytes 8 (by decide) w
  obtain ⟨N, hN⟩ : ∃ N, Hid (w.heap.size = N) := ⟨_, rfl⟩
  rw [hN.out] at hmk ta0 hB0
  rw [hN.out]
  obtain ⟨F, hF⟩ : ∃ F : Nat → Nat, Hid ((fun i => n / 256 ^ i % 256) = F) := ⟨_, rfl⟩
  rw [hF.out]
  have hmk' : (Instr.makeSlice 22 (.int .i64 8) (.int .i64 8)).run Tryd.prog w = .ok (.slice (some ⟨N, 0, none⟩) 8 8) W0 := hmk
  have ta0' : Hid (Arr W0 .u8 N 8 (layI F 0)) := by rw [layI_zero]; exact ta0
  clear ta0 hmk
  go_enter Tryd.func30, Tryd.ntmps30
  go_wp2
  go_loopw [0, 4] (fun s0 s4 wr => ∃ i m : Nat, i ≤ 8 ∧ m ≤ 1000000000 ∧ Hid (n / 256 ^ i = m) ∧ s4 = .int .i64 (i : Nat) ∧ s0 = .int .i64 (m : Nat) ∧ Hid (Arr wr .u8 N 8 (layI F i)) ∧ Below N w wr) (fun _ s4 _ => 8 - (intOf s4).toNat)
  case atStart => exact ⟨0, n, by omega, hn, by show n / 256 ^ 0 = n; rw [Nat.pow_zero, Nat.div_one], rfl, rfl, ta0', hB0⟩
  case round =>
    clear ta0' hB0 hmk'
    obtain ⟨i, m, hi, hm, hmE, rfl, rfl, ta, hB⟩ := hrel
    by_cases hlt : i < 8
    · have i0 : (i : Int) < 8 := by omega
      have i1 : (0 : Int) ≤ (i : Int) := by omega
      have q1 := ta.out.c i hlt
      have q2 := ta.out.f i hlt
      obtain ⟨o, ho, eo⟩ : ∃ o : Nat, Hid (m % 256 = o) ∧ (m : Int) % 256 = (o : Int) := ⟨m % 256, rfl, by omega⟩
      have eo' : Int.tmod (m : Int) 256 = (o : Int) := by rw [Int.tmod_eq_emod_of_nonneg (by omega)]; exact eo
      have ew : IntKind.u8.wrap (o : Int) = (o : Int) := by rw [IntKind.wrap_u8]; have := ho.out; omega
      obtain ⟨u, hu, eu⟩ : ∃ u : Nat, Hid (m / 256 = u) ∧ (m : Int) / 256 = (u : Int) := ⟨m / 256, rfl, by omega⟩
      have eu' : Int.tdiv (m : Int) 256 = (u : Int) := by rw [Int.tdiv_eq_ediv_of_nonneg (by omega)]; exact eu
      have hoE : F i = o := by rw [← hF.out, ← ho.out, ← hmE.out]
      have ta1 : Hid (Arr (wr.setCell ⟨N, i, none⟩ (.int .u8 (o : Nat))) .u8 N 8 (layI F (i + 1))) := by
        have q := ta.out.set (i := i) (z := o) hlt
        rw [← hoE, layI_succ, hoE] at q
        exact q
      have hB1 : Below N w (wr.setCell ⟨N, i, none⟩ (.int .u8 (o : Nat))) := by (repeat' (first | (with_reducible first | exact Below.refl _ _ | assumption | refine Below.alloc ?_ ?_ _ | refine Below.drew ?_ | refine below_drewN ?_ _ | refine Below.setCell ?_ ?_ _ | refine below_via (by with_reducible assumption) ?_ ?_) | omega | (simp only [szs]; omega) | (simp only [szs] at *; omega)))
      have huE : Hid (n / 256 ^ (i + 1) = u) := by show _ = _; rw [← len_step, hmE.out, hu.out]
      have hul : u ≤ 1000000000 := by have := hu.out; omega
      clear hoE
      go_wp2
      go_roundw
      case rel => exact ⟨i + 1, u, by omega, hul, huE, by go_num, rfl, ta1, hB1⟩
      case measure => (simp only [intOf, Int.toNat_natCast]; omega)
    · obtain rfl : i = 8 := by omega
      go_wp2
      go_ret
      exact ⟨rfl, ta.out.congr (fun j hj => by unfold layI; rw [if_pos hj]), hB⟩
end Go.Proofs.YtdaonbfdcpkipaaDoor
