/-
  Package blake, walked: the words of a digest.
-/
import Derived.Test.YtllgnclbbakliaaDoorBlakeO
import Derived.Test.YtllgnclbbakliaaDoorBlakeP
namespace Go.Proofs.YtllgnclbbakliaaDoor
open Go.RowKit Go.Proofs
set_option linter.unusedVariables false
set_option linter.unusedSimpArgs false
attribute [local go_sem ↓] Go.wp_at_zero Go.wp_at_succ

/-- The words of a digest, by the words of a person. -/
def digW (x y : Nat) (z : Nat → Nat) (n : Nat) : Nat → Nat → Nat := Ob.digI (Ob.open0 x y) (fun i => wordAt (Ob.blk z n i)) n
def lenV : Value → Nat
  | .slice _ n _ => n
  | _ => 0
def flagV : Value → Nat
  | .bool false => 1
  | _ => 0
theorem nblk_eq {i n : Nat} (hi : i ≤ Ob.nblk n) (h : 0 < i ∧ n ≤ 64 * i) : i = Ob.nblk n := by
  unfold Ob.nblk at hi ⊢
  by_cases h0 : n = 0
  · rw [if_pos h0] at hi ⊢; omega
  · rw [if_neg h0] at hi ⊢; omega
theorem blk_part (z : Nat → Nat) (n k i : Nat) (hk : min (64 * i) n = k) : ∀ j, j < 64 → (if j < n - k then z (k + j) else 0) = Ob.blk z n i j := by
  intro j hj
  unfold Ob.blk
  by_cases h : 64 * i ≤ n
  · have : k = 64 * i := by omega
    subst this
    by_cases h1 : j < n - 64 * i
    · rw [if_pos h1, if_pos (by omega)]
    · rw [if_neg h1, if_neg (by omega)]
  · rw [if_neg (by omega), if_neg (by omega)]

set_option maxHeartbeats 4000000 in
theorem pressed_core (s : ByteArray) (hs : s.size ≤ 8) (a : Option Addr) (n c : Nat) (hn : n ≤ 4611686018427387904) (hc : n ≤ c) (z : Nat → Nat) (hz : ∀ i, z i < 256) (w : World) (hT : Tabs w) (hS : Src w a n z) :
    Calls Tryd.prog 22 #[.string s, .slice a n c] w fun e w' => e = .returned (arrV .u32 (digW (wordAt (sby s) 0) (wordAt (sby s) 1) z n (Ob.nblk n)) 8) ∧ Below w.heap.size w w' := by
  unfold arrV
  have hT' : Hid (Tabs w) := hT
  have hz' : Hid (∀ i, z i < 256) := hz
  have hS' : Hid (Src w a n z) := hS
  clear hT hz hS
  obtain ⟨x, hx⟩ : ∃ x, Hid (wordAt (sby s) 0 = x) := ⟨_, rfl⟩
  obtain ⟨y, hy⟩ : ∃ x, Hid (wordAt (sby s) 1 = x) := ⟨_, rfl⟩
  rw [hx.out, hy.out]
  go_enter Tryd.func22, Tryd.ntmps22
  go_upto_region 1 with (fail)
  obtain ⟨W0, hW0⟩ : ∃ W, Hid (w.alloc (.cells (arrL .u32 (fun _ => 0) 8).toArray 23) = W) := ⟨_, rfl⟩
  have tr0 : Arr W0 .u32 w.heap.size 8 (fun _ => 0) := by rw [← hW0.out]; exact Arr.new rfl
  have hB0 : Below w.heap.size w W0 := by rw [← hW0.out]; (repeat' (first | (with_reducible first | exact Below.refl _ _ | assumption | refine Below.alloc ?_ ?_ _ | refine Below.drew ?_ | refine below_drewN ?_ _ | refine Below.setCell ?_ ?_ _ | refine below_via (by with_reducible assumption) ?_ ?_) | omega | (simp only [szs]; omega) | (simp only [szs] at *; omega)))
  change Code.wp _ _ _ _ (w.alloc (.cells (arrL .u32 (fun _ => 0) 8).toArray 23))
  rw [hW0.out]
  clear hW0
  obtain ⟨N, hN⟩ : ∃ N, Hid (w.heap.size = N) := ⟨_, rfl⟩
  rw [hN.out] at tr0 hB0 ⊢
  have hlN : 3 ≤ N := by have := hT'.out.lt; have := hN.out; omega
  have c1 := opened_core s hs W0 (hT'.out.below hB0 hlN)
  have hw : Hid (Ob.Words32 (Ob.open0 (wordAt (sby s) 0) (wordAt (sby s) 1))) := Ob.open0_words (word_lt (sby_lt s) 0) (word_lt (sby_lt s) 1)
  unfold arrV at c1
  rw [hx.out, hy.out] at c1 hw
  clear hx hy
  have l0 := tr0.lt
  go_upto_region 2 with (first | ((with_reducible refine wpList_storeLit (Ob.open0 x y) Arr.new8 ?_ ?_ ?_ ?_); (focus rfl); (focus rfl); (focus kernel_rfl); intro W2 hW2_ tW2_ zW2_; try simp only [Act.put, List.setIfInBounds_toArray, List.set_cons_zero, List.set_cons_succ]) | (go_at_call 29; with_reducible refine c1.mono ?_; rintro e W1 ⟨rfl, b1⟩))
  have l1 := b1.size
  have tr2 : Arr W2 .u32 N 8 (fun _ => 0) := by rw [hW2_.out]; exact ((tr0.below b1 (by omega)).alloc _).farCells (by omega) _ _
  have hB1 : Below N w W1 := below_via b1 hB0 (by omega)
  have hB2 : Below N w W2 := by rw [hW2_.out]; exact below_setCells (hB1.alloc (by omega) _) (by omega) _ _
  have th2 := tW2_.out
  obtain ⟨H, hH⟩ : ∃ V, Hid (W1.heap.size = V) := ⟨_, rfl⟩
  rw [hH.out] at th2
  have lH : N < H := by have := hH.out; omega
  rw [hH.out]
  clear tr0 hB0 hB1 hW2_ tW2_ zW2_ l1 b1 c1 l0 hH
  go_wp2
  go_loopw [1, 6, 7] (fun s1 s6 s7 wr => ∃ (i k : Nat) (p : Option Addr) (q : Nat), i ≤ Ob.nblk n ∧ Hid (min (64 * i) n = k) ∧ s1 = .slice p (n - k) q ∧ n - k ≤ q ∧ Hid (Src w p (n - k) (fun j => z (k + j))) ∧ s6 = .int .u64 (k : Nat) ∧ s7 = .bool (decide (0 < i ∧ n ≤ 64 * i)) ∧ Hid (Arr wr .u32 H 8 (digW x y z n i)) ∧ Hid (Arr wr .u32 N 8 (fun _ => 0)) ∧ Below N w wr) (fun s1 _ s7 _ => 2 * lenV s1 + flagV s7)
  case atStart => exact ⟨0, 0, a, c, by unfold Ob.nblk; split <;> omega, by show min (64 * 0) n = 0; omega, rfl, hc, by show Src w a (n - 0) (fun j => z (0 + j)); simpa using hS'.out, rfl, rfl, th2, tr2, hB2⟩
  case round =>
    clear th2 tr2 hB2
    obtain ⟨i, k, p, q, hi, hk, rfl, hq, hSp, rfl, rfl, th, tr, hB⟩ := hrel
    have l0 := hB.size
    by_cases hlast : 0 < i ∧ n ≤ 64 * i
    · have e7 : decide (0 < i ∧ n ≤ 64 * i) = true := decide_eq_true hlast
      rw [e7]
      obtain rfl := nblk_eq hi hlast
      go_upto_region 10 with (fail)
      go_wp2_with (first | ((with_reducible refine wpList_loadLit th.out ?_ Tryd.underlying23 ?_ ?_ ?_); (focus rfl); (focus rfl); (focus kernel_rfl); simp only [Act.put, List.setIfInBounds_toArray, List.set_cons_zero, List.set_cons_succ]) | ((with_reducible refine wpList_storeLit (digW x y z n (Ob.nblk n)) tr.out ?_ ?_ ?_ ?_); (focus rfl); (focus rfl); (focus kernel_rfl); intro W6 hW6_ tW6_ zW6_; try simp only [Act.put, List.setIfInBounds_toArray, List.set_cons_zero, List.set_cons_succ]))
      have hB5 : Below w.heap.size w W6 := by rw [hW6_.out, hN.out]; exact below_setCells hB (by omega) _ _
      have rv := tW6_.out.loadVar Tryd.underlying23 rfl (by kernel_rfl)
      exact bodyPost_ret (v := .agg (arrL .u32 (digW x y z n (Ob.nblk n)) 8).toArray) (by simp [results, Tryd.results22, asAddr, rv]) rfl ⟨rfl, hB5⟩
    · have e7 : decide (0 < i ∧ n ≤ 64 * i) = false := decide_eq_false hlast
      rw [e7]
      go_upto_region 5 with (fail)
      obtain ⟨W3, hW3⟩ : ∃ W, Hid (wr.alloc (.cells #[.int .u8 0, .int .u8 0, .int .u8 0, .int .u8 0, .int .u8 0, .int .u8 0, .int .u8 0, .int .u8 0, .int .u8 0, .int .u8 0, .int .u8 0, .int .u8 0, .int .u8 0, .int .u8 0, .int .u8 0, .int .u8 0, .int .u8 0, .int .u8 0, .int .u8 0, .int .u8 0, .int .u8 0, .int .u8 0, .int .u8 0, .int .u8 0, .int .u8 0, .int .u8 0, .int .u8 0, .int .u8 0, .int .u8 0, .int .u8 0, .int .u8 0, .int .u8 0, .int .u8 0, .int .u8 0, .int .u8 0, .int .u8 0, .int .u8 0, .int .u8 0, .int .u8 0, .int .u8 0, .int .u8 0, .int .u8 0, .int .u8 0, .int .u8 0, .int .u8 0, .int .u8 0, .int .u8 0, .int .u8 0, .int .u8 0, .int .u8 0, .int .u8 0, .int .u8 0, .int .u8 0, .int .u8 0, .int .u8 0, .int .u8 0, .int .u8 0, .int .u8 0, .int .u8 0, .int .u8 0, .int .u8 0, .int .u8 0, .int .u8 0, .int .u8 0] 24) = W) := ⟨_, rfl⟩
      have tb3 : Arr W3 .u8 wr.heap.size 64 (fun _ => 0) := by rw [← hW3.out]; exact Arr.new64b
      have lH' := th.out.lt
      have th3 : Hid (Arr W3 .u32 H 8 (digW x y z n i)) := by rw [← hW3.out]; exact th.out.alloc _
      have tr3 : Hid (Arr W3 .u32 N 8 (fun _ => 0)) := by rw [← hW3.out]; exact tr.out.alloc _
      have hB3 : Below N w W3 := by rw [← hW3.out]; exact hB.alloc (by omega) _
      rw [hW3.out]
      obtain ⟨B, hB'⟩ : ∃ H, Hid (wr.heap.size = H) := ⟨_, rfl⟩
      rw [hB'.out] at tb3 lH' ⊢
      clear hW3 hB tr th hB' l0
      obtain ⟨m, hm⟩ : ∃ m, Hid (n - k = m) := ⟨_, rfl⟩
      obtain ⟨T, hTT⟩ : ∃ T, Hid (min m 64 = T) := ⟨_, rfl⟩
      rw [hm.out] at hSp hq ⊢
      have hSw : Src W3 p m (fun j => z (k + j)) := hSp.out.below (by rw [hN.out]; exact hB3)
      obtain ⟨W4, h4, hW4, tb4, z4⟩ := tb3.copyBys hSw 64 q 3 hTT.out
      have th4 : Hid (Arr W4 .u32 H 8 (digW x y z n i)) := by rw [hW4.out]; exact th3.out.farCells (by omega) _ _
      have tr4 : Hid (Arr W4 .u32 N 8 (fun _ => 0)) := by rw [hW4.out]; exact tr3.out.farCells (by omega) _ _
      have hB4 : Below N w W4 := by rw [hW4.out]; exact below_setCells hB3 (by omega) _ _
      have tb5 : Hid (Arr W4 .u8 B 64 (Ob.blk z n i)) := tb4.out.congr (fun j hj => by rw [← hm.out]; exact blk_part z n k i hk.out j hj)
      clear hW4 th3 tr3 hB3 tb3 tb4 hSw z4
      go_upto_region 6 with (at_builtin; refine Lib.wpList_copy_run _ rfl _ _ 27 27 rfl _ _ rfl rfl h4 ?_)
      have hTm : T ≤ m := by have := hTT.out; omega
      obtain ⟨m', hm'⟩ : ∃ m', Hid (m - T = m') := ⟨_, rfl⟩
      obtain ⟨k', hk'⟩ : ∃ k', Hid (k + T = k') := ⟨_, rfl⟩
      obtain ⟨L, hL⟩ : ∃ L, Hid (decide (n ≤ 64 * (i + 1)) = L) := ⟨_, rfl⟩
      have hk1 : Hid (min (64 * (i + 1)) n = k') := by show _ = _; have := hk.out; have := hk'.out; have := hTT.out; have := hm.out; omega
      have a0 : IntKind.u64.wrap (T : Int) = (T : Int) := by rw [IntKind.wrap_u64]; have := hTT.out; omega
      have a1 : IntKind.u64.wrap ((k : Int) + (T : Int)) = (k' : Int) := by rw [IntKind.wrap_u64]; have := hk'.out; have := hk1.out; omega
      have a2 : decide ((m' : Int) = 0) = L := by
        rw [← hL.out]
        refine decide_eq_decide.2 ?_
        have := hm'.out; have := hm.out; have := hTT.out; have := hk.out
        omega
      have a3 : ((m' : Int) == 0) = L := by rw [← a2]; rfl
      have c5 := press_core (digW x y z n i) (Ob.blk z n i) (Ob.digI_words hw.out _ (by omega) i) (Ob.blk_lt hz'.out n i) k' (by have := hk1.out; omega) L W4 (hT'.out.below hB4 hlN)
      have hnext : Hid (Ob.press (digW x y z n i) (wordAt (Ob.blk z n i)) k' L = digW x y z n (i + 1)) := by rw [← hk1.out, ← hL.out]; rfl
      rw [hnext.out] at c5
      unfold arrV at c5
      go_wp2_with (first | ((with_reducible refine wpList_tail (p := p) (c := q) hTm ?_ ?_ ?_ ?_); (focus rfl); (focus rfl); (focus rfl); intro p' hp'; rw [hm'.out]; simp only [Act.put, List.setIfInBounds_toArray, List.set_cons_zero, List.set_cons_succ]) | ((with_reducible refine wpList_loadLit th4.out ?_ Tryd.underlying23 ?_ ?_ ?_); (focus rfl); (focus rfl); (focus kernel_rfl); simp only [Act.put, List.setIfInBounds_toArray, List.set_cons_zero, List.set_cons_succ]) | ((with_reducible refine wpList_loadLit tb5.out ?_ Tryd.underlying24 ?_ ?_ ?_); (focus rfl); (focus rfl); (focus kernel_rfl); simp only [Act.put, List.setIfInBounds_toArray, List.set_cons_zero, List.set_cons_succ]) | ((with_reducible refine wpList_storeLit (digW x y z n (i + 1)) th5 ?_ ?_ ?_ ?_); (focus rfl); (focus rfl); (focus kernel_rfl); intro W6 hW6_ tW6_ zW6_; try simp only [Act.put, List.setIfInBounds_toArray, List.set_cons_zero, List.set_cons_succ]) | (go_at_call 9; with_reducible refine c5.mono ?_; rintro e W5 ⟨rfl, b5⟩; have th5 := th4.out.below b5 th4.out.lt))
      have tr6 : Hid (Arr W6 .u32 N 8 (fun _ => 0)) := by rw [hW6_.out]; exact (tr4.out.below b5 tr4.out.lt).farCells (by omega) _ _
      have l4 := hB4.size
      have hB5 : Below N w W5 := below_via b5 hB4 (by have := tr4.out.lt; omega)
      have hB6 : Below N w W6 := by rw [hW6_.out]; exact below_setCells hB5 (by omega) _ _
      have hnk : n - k' = m' := by have := hm'.out; have := hm.out; have := hk'.out; omega
      have hS6 : Hid (Src w p' (n - k') (fun j => z (k' + j))) := by
        have := hSp.out.tail hTm hq hp'.out
        rw [hm'.out] at this
        show Src w p' (n - k') (fun j => z (k' + j))
        rw [hnk, ← hk'.out]
        simpa only [Nat.add_assoc] using this
      have hi1 : i + 1 ≤ Ob.nblk n := by
        unfold Ob.nblk
        by_cases h0 : n = 0
        · rw [if_pos h0]; omega
        · rw [if_neg h0]; omega
      have hLd : L = decide (0 < i + 1 ∧ n ≤ 64 * (i + 1)) := by
        rw [← hL.out]
        refine decide_eq_decide.2 ?_
        omega
      have hmm : 2 * m' + flagV (.bool L) < 2 * (n - k) + 1 := by
        have h1 := hm'.out; have h2 := hm.out; have h3 := hTT.out; have h5 := hk.out
        by_cases h0 : m = 0
        · have hLt : L = true := by rw [hLd]; refine decide_eq_true ?_; omega
          rw [hLt]
          show 2 * m' + 0 < _
          omega
        · have : flagV (.bool L) ≤ 1 := by cases L <;> decide
          omega
      go_roundw
      case rel => exact ⟨i + 1, k', p', q - T, hi1, hk1, by rw [hnk], by have := hm'.out; omega, hS6, rfl, by rw [hLd], tW6_, tr6, hB6⟩
      case measure => exact hmm
end Go.Proofs.YtllgnclbbakliaaDoor
