/-
  Joined texts: Package blake, walked: the words of a digest. Package blake, walked: Sum and Number. The document's examples of layer 9: two questions, reckoned. Bytes of several slices laid one behind the other: what package schnorr's question lays. Points with a third number beneath both coordinates, and their sums. The walks of package edwards: numbers modulo R, points, their sums. The walks of package edwards: sums, opposites, multiples, points of order S. The walk of package edwards' multiples. Sums and multiples of points that are told by their fields. Two points compared. The walk of package edwards' In. The walks of package edwards: the points of one Y, a point's bytes. The walks of package schnorr: its small functions, the question, the first point so often.
-/
import Derived.Test.YtdhbkhmknnlmnaaDoorJ3
import Derived.Test.YtdhbkhmknnlmnaaDoorJ4
import Derived.Test.YtdhbkhmknnlmnaaDoorJ2
import Derived.Test.YtdhbkhmknnlmnaaDoorJ1
import Derived.Laws.BitsAllLaws

namespace Go.Proofs.YtdhbkhmknnlmnaaDoor
open Go.RowKit Go.Proofs
set_option linter.unusedVariables false
set_option linter.unusedSimpArgs false
attribute [local go_sem ↓] Go.wp_at_zero Go.wp_at_succ

/-- The words of a digest, by the words of a person. -/
def digW (x y : Nat) (z : Nat → Nat) (n : Nat) : Nat → Nat → Nat := Ob.digI (Ob.open0 x y) (fun i => wordAt (Ob.blk z n i)) n
def lenV : Value → Nat
  | .slice _ n _ => n
  | _ => 0
def flagV : Value → Nat
  | .bool false => 1
  | _ => 0
theorem nblk_eq {i n : Nat} (hi : i ≤ Ob.nblk n) (h : 0 < i ∧ n ≤ 64 * i) : i = Ob.nblk n := by
  unfold Ob.nblk at hi ⊢
  by_cases h0 : n = 0
  · rw [if_pos h0] at hi ⊢; omega
  · rw [if_neg h0] at hi ⊢; omega
theorem blk_part (z : Nat → Nat) (n k i : Nat) (hk : min (64 * i) n = k) : ∀ j, j < 64 → (if j < n - k then z (k + j) else 0) = Ob.blk z n i j := by
  intro j hj
  unfold Ob.blk
  by_cases h : 64 * i ≤ n
  · have : k = 64 * i := by omega
    subst this
    by_cases h1 : j < n - 64 * i
    · rw [if_pos h1, if_pos (by omega)]
    · rw [if_neg h1, if_neg (by omega)]
  · rw [if_neg (by omega), if_neg (by omega)]

set_option maxHeartbeats 4000000 in
theorem pressed_core (s : ByteArray) (hs : s.size ≤ 8) (a : Option Addr) (n c : Nat) (hn : n ≤ 4611686018427387904) (hc : n ≤ c) (z : Nat → Nat) (hz : ∀ i, z i < 256) (w : World) (hT : Tabs w) (hS : Src w a n z) :
    Calls Tryd.prog 73 #[.string s, .slice a n c] w fun e w' => e = .returned (arrV .u32 (digW (wordAt (sby s) 0) (wordAt (sby s) 1) z n (Ob.nblk n)) 8) ∧ Below w.heap.size w w' := by
  unfold arrV
  have hT' : Hid (Tabs w) := hT
  have hz' : Hid (∀ i, z i < 256) := hz
  have hS' : Hid (Src w a n z) := hS
  clear hT hz hS
  obtain ⟨x, hx⟩ : ∃ x, Hid (wordAt (sby s) 0 = x) := ⟨_, rfl⟩
  obtain ⟨y, hy⟩ : ∃ x, Hid (wordAt (sby s) 1 = x) := ⟨_, rfl⟩
  rw [hx.out, hy.out]
  go_enter Tryd.func73, Tryd.ntmps73
  go_upto_region 1 with (fail)
  obtain ⟨W0, hW0⟩ : ∃ W, Hid (w.alloc (.cells (arrL .u32 (fun _ => 0) 8).toArray 65) = W) := ⟨_, rfl⟩
  have tr0 : Arr W0 .u32 w.heap.size 8 (fun _ => 0) := by rw [← hW0.out]; exact Arr.new rfl
  have hB0 : Below w.heap.size w W0 := by rw [← hW0.out]; (repeat' (first | (with_reducible first | exact Below.refl _ _ | assumption | refine Below.alloc ?_ ?_ _ | refine Below.drew ?_ | refine below_drewN ?_ _ | refine Below.setCell ?_ ?_ _ | refine below_via (by with_reducible assumption) ?_ ?_) | omega | (simp only [szs]; omega) | (simp only [szs] at *; omega)))
  change Code.wp _ _ _ _ (w.alloc (.cells (arrL .u32 (fun _ => 0) 8).toArray 65))
  rw [hW0.out]
  clear hW0
  obtain ⟨N, hN⟩ : ∃ N, Hid (w.heap.size = N) := ⟨_, rfl⟩
  rw [hN.out] at tr0 hB0 ⊢
  have hlN : 5 ≤ N := by have := hT'.out.lt; have := hN.out; omega
  have c1 := opened_core s hs W0 (hT'.out.below hB0 hlN)
  have hw : Hid (Ob.Words32 (Ob.open0 (wordAt (sby s) 0) (wordAt (sby s) 1))) := Ob.open0_words (word_lt (sby_lt s) 0) (word_lt (sby_lt s) 1)
  unfold arrV at c1
  rw [hx.out, hy.out] at c1 hw
  clear hx hy
  have l0 := tr0.lt
  go_upto_region 2 with (first | ((with_reducible refine wpList_storeLit (Ob.open0 x y) Arr.new8 ?_ ?_ ?_ ?_); (focus rfl); (focus rfl); (focus kernel_rfl); intro W2 hW2_ tW2_ zW2_; try simp only [Act.put, List.setIfInBounds_toArray, List.set_cons_zero, List.set_cons_succ]) | (go_at_call 79; with_reducible refine c1.mono ?_; rintro e W1 ⟨rfl, b1⟩))
  have l1 := b1.size
  have tr2 : Arr W2 .u32 N 8 (fun _ => 0) := by rw [hW2_.out]; exact ((tr0.below b1 (by omega)).alloc _).farCells (by omega) _ _
  have hB1 : Below N w W1 := below_via b1 hB0 (by omega)
  have hB2 : Below N w W2 := by rw [hW2_.out]; exact below_setCells (hB1.alloc (by omega) _) (by omega) _ _
  have th2 := tW2_.out
  obtain ⟨H, hH⟩ : ∃ V, Hid (W1.heap.size = V) := ⟨_, rfl⟩
  rw [hH.out] at th2
  have lH : N < H := by have := hH.out; omega
  rw [hH.out]
  clear tr0 hB0 hB1 hW2_ tW2_ zW2_ l1 b1 c1 l0 hH
  go_wp2
  go_loopw [1, 6, 7] (fun s1 s6 s7 wr => ∃ (i k : Nat) (p : Option Addr) (q : Nat), i ≤ Ob.nblk n ∧ Hid (min (64 * i) n = k) ∧ s1 = .slice p (n - k) q ∧ n - k ≤ q ∧ Hid (Src w p (n - k) (fun j => z (k + j))) ∧ s6 = .int .u64 (k : Nat) ∧ s7 = .bool (decide (0 < i ∧ n ≤ 64 * i)) ∧ Hid (Arr wr .u32 H 8 (digW x y z n i)) ∧ Hid (Arr wr .u32 N 8 (fun _ => 0)) ∧ Below N w wr) (fun s1 _ s7 _ => 2 * lenV s1 + flagV s7)
  case atStart => exact ⟨0, 0, a, c, by unfold Ob.nblk; split <;> omega, by show min (64 * 0) n = 0; omega, rfl, hc, by show Src w a (n - 0) (fun j => z (0 + j)); simpa using hS'.out, rfl, rfl, th2, tr2, hB2⟩
  case round =>
    clear th2 tr2 hB2
    obtain ⟨i, k, p, q, hi, hk, rfl, hq, hSp, rfl, rfl, th, tr, hB⟩ := hrel
    have l0 := hB.size
    by_cases hlast : 0 < i ∧ n ≤ 64 * i
    · have e7 : decide (0 < i ∧ n ≤ 64 * i) = true := decide_eq_true hlast
      rw [e7]
      obtain rfl := nblk_eq hi hlast
      go_upto_region 10 with (fail)
      go_wp2_with (first | ((with_reducible refine wpList_loadLit th.out ?_ Tryd.underlying65 ?_ ?_ ?_); (focus rfl); (focus rfl); (focus kernel_rfl); simp only [Act.put, List.setIfInBounds_toArray, List.set_cons_zero, List.set_cons_succ]) | ((with_reducible refine wpList_storeLit (digW x y z n (Ob.nblk n)) tr.out ?_ ?_ ?_ ?_); (focus rfl); (focus rfl); (focus kernel_rfl); intro W6 hW6_ tW6_ zW6_; try simp only [Act.put, List.setIfInBounds_toArray, List.set_cons_zero, List.set_cons_succ]))
      have hB5 : Below w.heap.size w W6 := by rw [hW6_.out, hN.out]; exact below_setCells hB (by omega) _ _
      have rv := tW6_.out.loadVar Tryd.underlying65 rfl (by kernel_rfl)
      exact bodyPost_ret (v := .agg (arrL .u32 (digW x y z n (Ob.nblk n)) 8).toArray) (by simp [results, Tryd.results73, asAddr, rv]) rfl ⟨rfl, hB5⟩
    · have e7 : decide (0 < i ∧ n ≤ 64 * i) = false := decide_eq_false hlast
      rw [e7]
      go_upto_region 5 with (fail)
      obtain ⟨W3, hW3⟩ : ∃ W, Hid (wr.alloc (.cells #[.int .u8 0, .int .u8 0, .int .u8 0, .int .u8 0, .int .u8 0, .int .u8 0, .int .u8 0, .int .u8 0, .int .u8 0, .int .u8 0, .int .u8 0, .int .u8 0, .int .u8 0, .int .u8 0, .int .u8 0, .int .u8 0, .int .u8 0, .int .u8 0, .int .u8 0, .int .u8 0, .int .u8 0, .int .u8 0, .int .u8 0, .int .u8 0, .int .u8 0, .int .u8 0, .int .u8 0, .int .u8 0, .int .u8 0, .int .u8 0, .int .u8 0, .int .u8 0, .int .u8 0, .int .u8 0, .int .u8 0, .int .u8 0, .int .u8 0, .int .u8 0, .int .u8 0, .int .u8 0, .int .u8 0, .int .u8 0, .int .u8 0, .int .u8 0, .int .u8 0, .int .u8 0, .int .u8 0, .int .u8 0, .int .u8 0, .int .u8 0, .int .u8 0, .int .u8 0, .int .u8 0, .int .u8 0, .int .u8 0, .int .u8 0, .int .u8 0, .int .u8 0, .int .u8 0, .int .u8 0, .int .u8 0, .int .u8 0, .int .u8 0, .int .u8 0] 91) = W) := ⟨_, rfl⟩
      have tb3 : Arr W3 .u8 wr.heap.size 64 (fun _ => 0) := by rw [← hW3.out]; exact Arr.new64b
      have lH' := th.out.lt
      have th3 : Hid (Arr W3 .u32 H 8 (digW x y z n i)) := by rw [← hW3.out]; exact th.out.alloc _
      have tr3 : Hid (Arr W3 .u32 N 8 (fun _ => 0)) := by rw [← hW3.out]; exact tr.out.alloc _
      have hB3 : Below N w W3 := by rw [← hW3.out]; exact hB.alloc (by omega) _
      rw [hW3.out]
      obtain ⟨B, hB'⟩ : ∃ H, Hid (wr.heap.size = H) := ⟨_, rfl⟩
      rw [hB'.out] at tb3 lH' ⊢
      clear hW3 hB tr th hB' l0
      obtain ⟨m, hm⟩ : ∃ m, Hid (n - k = m) := ⟨_, rfl⟩
      obtain ⟨T, hTT⟩ : ∃ T, Hid (min m 64 = T) := ⟨_, rfl⟩
      rw [hm.out] at hSp hq ⊢
      have hSw : Src W3 p m (fun j => z (k + j)) := hSp.out.below (by rw [hN.out]; exact hB3)
      obtain ⟨W4, h4, hW4, tb4, z4⟩ := tb3.copyBys hSw 64 q 3 hTT.out
      have th4 : Hid (Arr W4 .u32 H 8 (digW x y z n i)) := by rw [hW4.out]; exact th3.out.farCells (by omega) _ _
      have tr4 : Hid (Arr W4 .u32 N 8 (fun _ => 0)) := by rw [hW4.out]; exact tr3.out.farCells (by omega) _ _
      have hB4 : Below N w W4 := by rw [hW4.out]; exact below_setCells hB3 (by omega) _ _
      have tb5 : Hid (Arr W4 .u8 B 64 (Ob.blk z n i)) := tb4.out.congr (fun j hj => by rw [← hm.out]; exact blk_part z n k i hk.out j hj)
      clear hW4 th3 tr3 hB3 tb3 tb4 hSw z4
      go_upto_region 6 with (at_builtin; refine Lib.wpList_copy_run _ rfl _ _ 34 34 rfl _ _ rfl rfl h4 ?_)
      have hTm : T ≤ m := by have := hTT.out; omega
      obtain ⟨m', hm'⟩ : ∃ m', Hid (m - T = m') := ⟨_, rfl⟩
      obtain ⟨k', hk'⟩ : ∃ k', Hid (k + T = k') := ⟨_, rfl⟩
      obtain ⟨L, hL⟩ : ∃ L, Hid (decide (n ≤ 64 * (i + 1)) = L) := ⟨_, rfl⟩
      have hk1 : Hid (min (64 * (i + 1)) n = k') := by show _ = _; have := hk.out; have := hk'.out; have := hTT.out; have := hm.out; omega
      have a0 : IntKind.u64.wrap (T : Int) = (T : Int) := by rw [IntKind.wrap_u64]; have := hTT.out; omega
      have a1 : IntKind.u64.wrap ((k : Int) + (T : Int)) = (k' : Int) := by rw [IntKind.wrap_u64]; have := hk'.out; have := hk1.out; omega
      have a2 : decide ((m' : Int) = 0) = L := by
        rw [← hL.out]
        refine decide_eq_decide.2 ?_
        have := hm'.out; have := hm.out; have := hTT.out; have := hk.out
        omega
      have a3 : ((m' : Int) == 0) = L := by rw [← a2]; rfl
      have c5 := press_core (digW x y z n i) (Ob.blk z n i) (Ob.digI_words hw.out _ (by omega) i) (Ob.blk_lt hz'.out n i) k' (by have := hk1.out; omega) L W4 (hT'.out.below hB4 hlN)
      have hnext : Hid (Ob.press (digW x y z n i) (wordAt (Ob.blk z n i)) k' L = digW x y z n (i + 1)) := by rw [← hk1.out, ← hL.out]; rfl
      rw [hnext.out] at c5
      unfold arrV at c5
      go_wp2_with (first | ((with_reducible refine wpList_tail (p := p) (c := q) hTm ?_ ?_ ?_ ?_); (focus rfl); (focus rfl); (focus rfl); intro p' hp'; rw [hm'.out]; simp only [Act.put, List.setIfInBounds_toArray, List.set_cons_zero, List.set_cons_succ]) | ((with_reducible refine wpList_loadLit th4.out ?_ Tryd.underlying65 ?_ ?_ ?_); (focus rfl); (focus rfl); (focus kernel_rfl); simp only [Act.put, List.setIfInBounds_toArray, List.set_cons_zero, List.set_cons_succ]) | ((with_reducible refine wpList_loadLit tb5.out ?_ Tryd.underlying91 ?_ ?_ ?_); (focus rfl); (focus rfl); (focus kernel_rfl); simp only [Act.put, List.setIfInBounds_toArray, List.set_cons_zero, List.set_cons_succ]) | ((with_reducible refine wpList_storeLit (digW x y z n (i + 1)) th5 ?_ ?_ ?_ ?_); (focus rfl); (focus rfl); (focus kernel_rfl); intro W6 hW6_ tW6_ zW6_; try simp only [Act.put, List.setIfInBounds_toArray, List.set_cons_zero, List.set_cons_succ]) | (go_at_call 80; with_reducible refine c5.mono ?_; rintro e W5 ⟨rfl, b5⟩; have th5 := th4.out.below b5 th4.out.lt))
      have tr6 : Hid (Arr W6 .u32 N 8 (fun _ => 0)) := by rw [hW6_.out]; exact (tr4.out.below b5 tr4.out.lt).farCells (by omega) _ _
      have l4 := hB4.size
      have hB5 : Below N w W5 := below_via b5 hB4 (by have := tr4.out.lt; omega)
      have hB6 : Below N w W6 := by rw [hW6_.out]; exact below_setCells hB5 (by omega) _ _
      have hnk : n - k' = m' := by have := hm'.out; have := hm.out; have := hk'.out; omega
      have hS6 : Hid (Src w p' (n - k') (fun j => z (k' + j))) := by
        have := hSp.out.tail hTm hq hp'.out
        rw [hm'.out] at this
        show Src w p' (n - k') (fun j => z (k' + j))
        rw [hnk, ← hk'.out]
        simpa only [Nat.add_assoc] using this
      have hi1 : i + 1 ≤ Ob.nblk n := by
        unfold Ob.nblk
        by_cases h0 : n = 0
        · rw [if_pos h0]; omega
        · rw [if_neg h0]; omega
      have hLd : L = decide (0 < i + 1 ∧ n ≤ 64 * (i + 1)) := by
        rw [← hL.out]
        refine decide_eq_decide.2 ?_
        omega
      have hmm : 2 * m' + flagV (.bool L) < 2 * (n - k) + 1 := by
        have h1 := hm'.out; have h2 := hm.out; have h3 := hTT.out; have h5 := hk.out
        by_cases h0 : m = 0
        · have hLt : L = true := by rw [hLd]; refine decide_eq_true ?_; omega
          rw [hLt]
          show 2 * m' + 0 < _
          omega
        · have : flagV (.bool L) ≤ 1 := by cases L <;> decide
          omega
      go_roundw
      case rel => exact ⟨i + 1, k', p', q - T, hi1, hk1, by rw [hnk], by have := hm'.out; omega, hS6, rfl, by rw [hLd], tW6_, tr6, hB6⟩
      case measure => exact hmm
end Go.Proofs.YtdhbkhmknnlmnaaDoor

namespace Go.Proofs.YtdhbkhmknnlmnaaDoor
open Go.RowKit Go.Proofs
set_option linter.unusedVariables false
set_option linter.unusedSimpArgs false
attribute [local go_sem ↓] Go.wp_at_zero Go.wp_at_succ

/-- The words of the digest of n bytes for a person. -/
def digS (s : ByteArray) (z : Nat → Nat) (n : Nat) : Nat → Nat := digW (wordAt (sby s) 0) (wordAt (sby s) 1) z n (Ob.nblk n)
theorem digS_words (s : ByteArray) (z : Nat → Nat) (n : Nat) (hn : n ≤ 4611686018427387904) : Ob.Words32 (digS s z n) :=
  Ob.digI_words (Ob.open0_words (word_lt (sby_lt s) 0) (word_lt (sby_lt s) 1)) _ (by omega) _

set_option maxHeartbeats 1000000 in
theorem sumW (s : ByteArray) (hs : s.size ≤ 8) (a : Option Addr) (n c : Nat) (hn : n ≤ 4611686018427387904) (hc : n ≤ c) (z : Nat → Nat) (hz : ∀ i, z i < 256) (w : World) (hT : Tabs w) (hS : Src w a n z) :
    Calls Tryd.prog 62 #[.string s, .slice a n c] w fun e w' => ∃ g, e = .returned (.tuple #[.slice (some ⟨g, 0, none⟩) 32 32, .nilIface]) ∧ w.heap.size ≤ g ∧ w'.ownsRow g 5 1 (.slice (some ⟨g, 0, none⟩) 32 32) 32 (vals (lowBy (digS s z n)) 32) ∧ Below w.heap.size w w' := by
  have c1 := pressed_core s hs a n c hn hc z hz w hT hS
  have hd : Hid (Ob.Words32 (digS s z n)) := digS_words s z n hn
  have e0 : digW (wordAt (sby s) 0) (wordAt (sby s) 1) z n (Ob.nblk n) = digS s z n := rfl
  rw [e0] at c1
  unfold arrV at c1
  obtain ⟨D, hD⟩ : ∃ D, Hid (digS s z n = D) := ⟨_, rfl⟩
  rw [hD.out] at c1 hd
  rw [hD.out]
  have hs' : (s.size : Int) ≤ 8 := by omega
  have hs2 : ¬ (8 : Int) < (s.size : Int) := by omega
  clear hT hS hz e0 hD
  go_enter Tryd.func62, Tryd.ntmps62
  go_upto_region 4 with (first | ((with_reducible refine wpList_storeLit (D) Arr.new8 ?_ ?_ ?_ ?_); (focus rfl); (focus rfl); (focus kernel_rfl); intro W2 hW2_ tW2_ zW2_; try simp only [Act.put, List.setIfInBounds_toArray, List.set_cons_zero, List.set_cons_succ]) | (go_at_call 73; with_reducible refine c1.mono ?_; rintro e W1 ⟨rfl, b1⟩))
  have hB2 : Below w.heap.size w W2 := by rw [hW2_.out]; exact below_setCells (b1.alloc b1.size _) b1.size _ _
  have l2 := hB2.size
  have c2 := lowBytesW W1.heap.size 8 8 D hd.out W2 (by decide) tW2_.out.rd
  clear hW2_ zW2_ tW2_ c1 b1
  go_wp2_with (go_at_call 74; with_reducible refine c2.mono ?_; rintro e W3 ⟨rfl, o3, b3⟩)
  go_ret2
  exact ⟨W2.heap.size, rfl, l2, o3, below_via b3 hB2 l2⟩

set_option maxHeartbeats 1000000 in
theorem sumLong (s : ByteArray) (hs : 8 < s.size) (v : Value) (w : World) :
    Calls Tryd.prog 62 #[.string s, v] w fun e w' => e = .returned (.tuple #[.slice none 0 0, .iface 31 (.int .i64 5)]) ∧ w = w' := by
  have hs2 : (8 : Int) < (s.size : Int) := by omega
  go_enter Tryd.func62, Tryd.ntmps62
  go_wp2
  go_ret2
  exact ⟨rfl, rfl⟩

set_option maxHeartbeats 1000000 in
theorem numW (s : ByteArray) (hs : s.size ≤ 8) (a : Option Addr) (n c : Nat) (hn : n ≤ 4611686018427387904) (hc : n ≤ c) (z : Nat → Nat) (hz : ∀ i, z i < 256) (m : Nat) (hm : 0 < m) (w : World) (hT : Tabs w) (hS : Src w a n z) :
    Calls Tryd.prog 43 #[.string s, .slice a n c, .int .u64 m] w fun e w' => e = .returned (.tuple #[.int .u64 (Ob.lowN (lowBy (digS s z n)) 8 % m : Nat), .nilIface]) ∧ Below w.heap.size w w' := by
  have c1 := sumW s hs a n c hn hc z hz w hT hS
  obtain ⟨D, hD⟩ : ∃ D, Hid (digS s z n = D) := ⟨_, rfl⟩
  rw [hD.out] at c1
  rw [hD.out]
  have hm0 : (m : Int) ≠ 0 := by omega
  have hm1 : ((m : Int) == 0) = false := by simpa using hm0
  clear hT hS hz hD
  go_enter Tryd.func43, Tryd.ntmps43
  go_upto_region 6 with (go_at_call 62; with_reducible refine c1.mono ?_; rintro e W1 ⟨g, rfl, lg, o1, b1⟩)
  have hb := bys_of_row o1
  have c2 := lowNumberW g 0 8 32 (by decide) (lowBy D) (lowBy_lt D) W1 (hb.less (by decide))
  obtain ⟨x, hx⟩ : ∃ x, Hid (Ob.lowN (lowBy D) 8 = x) := ⟨_, rfl⟩
  rw [hx.out] at c2
  clear c1 o1 hb
  go_wp2_with (go_at_call 63; with_reducible refine c2.mono ?_; rintro e W2 ⟨rfl, rfl⟩)
  go_ret2
  exact ⟨by rw [hx.out]; rfl, b1⟩
set_option maxHeartbeats 1000000 in
theorem numZero (s : ByteArray) (hs : s.size ≤ 8) (a : Option Addr) (n c : Nat) (hn : n ≤ 4611686018427387904) (hc : n ≤ c) (z : Nat → Nat) (hz : ∀ i, z i < 256) (w : World) (hT : Tabs w) (hS : Src w a n z) :
    Calls Tryd.prog 43 #[.string s, .slice a n c, .int .u64 0] w fun e w' => e = .returned (.tuple #[.int .u64 0, .iface 31 (.int .i64 1)]) ∧ Below w.heap.size w w' := by
  have c1 := sumW s hs a n c hn hc z hz w hT hS
  clear hT hS hz
  go_enter Tryd.func43, Tryd.ntmps43
  go_wp2_with (go_at_call 62; with_reducible refine c1.mono ?_; rintro e W1 ⟨g, rfl, lg, o1, b1⟩)
  go_ret2
  exact ⟨rfl, b1⟩
set_option maxHeartbeats 1000000 in
theorem numLong (s : ByteArray) (hs : 8 < s.size) (v : Value) (m : Nat) (w : World) :
    Calls Tryd.prog 43 #[.string s, v, .int .u64 m] w fun e w' => e = .returned (.tuple #[.int .u64 0, .iface 31 (.int .i64 5)]) ∧ w = w' := by
  have c1 := sumLong s hs v w
  go_enter Tryd.func43, Tryd.ntmps43
  go_wp2_with (go_at_call 62; with_reducible refine c1.mono ?_; rintro e W1 ⟨rfl, rfl⟩)
  go_ret2
  exact ⟨rfl, rfl⟩
end Go.Proofs.YtdhbkhmknnlmnaaDoor

namespace Go.Proofs.YtdhbkhmknnlmnaaDoor
open Go.RowKit Go.Proofs
set_option linter.unusedVariables false
set_option linter.unusedSimpArgs false

/-- The bytes of two numbers, and a message behind them. -/
def askZ (a k : Nat) (u : Nat → Nat) (i : Nat) : Nat := if i < 16 then byteOf (pair a k) i else u (i - 16)
theorem askZ_lt (a k : Nat) (u : Nat → Nat) (hu : ∀ i, u i < 256) (i : Nat) : askZ a k u i < 256 := by
  unfold askZ
  split
  · exact Ob.byteAt_lt _ _
  · exact hu _
/-- The person of questions. -/
def schS : ByteArray := ⟨#[115, 99, 104, 110, 111, 114, 114]⟩
/-- The question of two points' numbers and a message of m bytes. -/
def askN (a k : Nat) (u : Nat → Nat) (m : Nat) : Nat := Ob.lowN (lowBy (digS schS (askZ a k u) (16 + m))) 8 % 72057593894066549
theorem askN_lt (a k : Nat) (u : Nat → Nat) (m : Nat) : askN a k u m < Ob.SE := Nat.mod_lt _ (by decide)
theorem gen_5 : Ob.gmul Ob.gGen 5 = (54216708281467337, 66297777173597027) := by
  have := Ob.chk_mul [((215313104986860010, 182547805408397888), none), ((102079033001587460, 266919760672381183), some (54216708281467337, 66297777173597027))] Ob.gGen (54216708281467337, 66297777173597027) 1 (Ob.gmul_one Ob.onG_gen) (by decide +kernel)
  exact this
theorem gen_7 : Ob.gmul Ob.gGen 7 = (252582691122900600, 251385050685503184) := by
  have := Ob.chk_mul [((215313104986860010, 182547805408397888), some (137793467179215122, 116235547721284618)), ((170317750279325719, 34670886643523254), some (252582691122900600, 251385050685503184))] Ob.gGen (252582691122900600, 251385050685503184) 1 (Ob.gmul_one Ob.onG_gen) (by decide +kernel)
  exact this
theorem edN_5 : Ob.edN (Ob.gmul Ob.gGen 5) = 9289669814028372835 := by rw [gen_5]; decide +kernel
theorem edN_7 : Ob.edN (Ob.gmul Ob.gGen 7) = 251385050685503184 := by rw [gen_7]; decide +kernel
set_option maxRecDepth 100000 in
theorem ask_m : askN 251385050685503184 9289669814028372835 (fun _ => 109) 1 = 23806203171127720 := by decide +kernel
set_option maxRecDepth 100000 in
theorem ask_n : askN 251385050685503184 9289669814028372835 (fun _ => 110) 1 = 17944889861085676 := by decide +kernel
end Go.Proofs.YtdhbkhmknnlmnaaDoor

namespace Go.Proofs.YtdhbkhmknnlmnaaDoor
open Go.RowKit Go.Proofs
set_option linter.unusedVariables false
set_option linter.unusedSimpArgs false
attribute [local go_sem ↓] Go.wp_at_zero Go.wp_at_succ

/-- append of bytes behind a row of one's own that may be none yet. -/
theorem run_appZ (w : World) (ty : TypeId) (base : Nat) (v : Value) (n : Nat) (z : Nat → Nat) (hown : w.ownsRow base 5 1 v n (vals z n)) (hbase : base ≤ w.heap.size) (B : Nat) (ad : Option Addr) (m c : Nat) (u : Nat → Nat) (hB : SrcY B w ad m u) (hnm : 0 < n ∨ 0 < m) (hn : n ≤ 10000000) (hm : n + m ≤ 140737488355328) :
    ∃ v' w', (Builtin.append_ #[34, 34] ty #[v, .slice ad m c]).run Tryd.prog w = .ok v' w' ∧ w'.ownsRow base 5 1 v' (n + m) (vals (joinB z n u) (n + m)) ∧ Below base w w' := by
  by_cases h0 : m = 0
  · subst h0
    rcases hown.2 with ⟨rfl, rfl⟩ | ⟨g, cap, cur, rfl, _⟩
    · omega
    · obtain ⟨g', cap', w', hr, h1, h2⟩ := run_appY w ty base g n cap z hown hbase B ad 0 c u hB hn (by decide)
      exact ⟨_, w', hr, h1, h2⟩
  · rcases hB with rfl | ⟨b, off, rfl, hl, hB⟩
    · omega
    · obtain ⟨i0, hi, hz1, hz2, hz0⟩ := byteInfo
      obtain ⟨v', w', hr, ho', hg, hnil⟩ := run_append_own (P := Tryd.prog) w base 34 ty 5 i0 _ 1 1 Tryd.underlying34 hi hz0 hz1 hz2 rfl (by decide) _ n _ hown ⟨b, off, none⟩ m c (vals u m) (by simp [vals]) (bys_news hB) (vals_one u m) (by unfold maxLen; omega) (by omega) hbase
      rw [vals_joinB] at ho'
      exact ⟨v', w', hr, ho', (Below.refl base w).grown hg hbase (fun k hk => (hown.lt k hk).1)⟩
theorem wpList_appZ {ops : Array Oper} {rest : List Oper} {o : Oper} {a : Act} {w : World} {Q : Exit → Act → World → Prop} (hgd : o.guard = none) (s x : Operand)
    (ho : o.op = .call { callee := .builtin .append, args := #[s, x], argTypes := #[34, 34] }) (base : Nat) (v : Value) (n : Nat) (z : Nat → Nat) (hs : a.eval s = v)
    (hown : w.ownsRow base 5 1 v n (vals z n)) (hbase : base ≤ w.heap.size) (B : Nat) (ad : Option Addr) (m c : Nat) (u : Nat → Nat) (hx : a.eval x = .slice ad m c) (hB : SrcY B w ad m u) (hnm : 0 < n ∨ 0 < m) (hn : n ≤ 10000000) (hm : n + m ≤ 140737488355328)
    (h : ∀ v' w', w'.ownsRow base 5 1 v' (n + m) (vals (joinB z n u) (n + m)) → Below base w w' → wpList Tryd.prog ops Q rest (a.put o.dst v') w') : wpList Tryd.prog ops Q (o :: rest) a w := by
  refine wpList_plain hgd fun K hK => ?_
  obtain ⟨v', w', hr, h1, h2⟩ := run_appZ w o.type base v n z hown hbase B ad m c u hB hnm hn hm
  unfold Oper.wp execOp
  simp only [ho, resolve, invoke, builtin, Sem.run_bind, Sem.run_pure, Result.andThen_ok, List.map_toArray, List.map_cons, List.map_nil, hs, hx, hr]
  exact hK _ _ (h v' w' h1 h2)
/-- The lengths of the first k parts together. -/
def laidLen (m : Nat) : Nat → Nat
  | 0 => 0
  | 1 => 8
  | 2 => 16
  | _ => 16 + m
theorem askZ_0 (p q : Nat) (u : Nat → Nat) (j : Nat) (hj : j < 8) : Ob.byteAt p j = askZ p q u j := by
  unfold askZ
  rw [if_pos (by omega), ← joinB_pair p q j (by omega)]
  unfold joinB
  rw [if_pos hj]
theorem askZ_1 (p q : Nat) (u : Nat → Nat) (j : Nat) (hj : j < 16) : joinB (askZ p q u) 8 (Ob.byteAt q) j = askZ p q u j := by
  rw [show askZ p q u j = byteOf (pair p q) j from by unfold askZ; rw [if_pos hj], ← joinB_pair p q j hj]
  unfold joinB
  by_cases h : j < 8
  · rw [if_pos h, if_pos h, ← askZ_0 p q u j h]
  · rw [if_neg h, if_neg h]
theorem askZ_2 (p q : Nat) (u : Nat → Nat) (j : Nat) : joinB (askZ p q u) 16 u j = askZ p q u j := by
  unfold joinB
  by_cases h : j < 16
  · rw [if_pos h]
  · rw [if_neg h]
    unfold askZ
    rw [if_neg h]
set_option maxHeartbeats 4000000 in
theorem laidW (p q m c : Nat) (u : Nat → Nat) (ad : Option Addr) (hm : m ≤ 140737488351232) (g b1 b2 : Nat) (w : World)
   (h0 : w.cell? ⟨g, 0, none⟩ = some (.slice (some ⟨b1, 0, none⟩) 8 8)) (h1 : w.cell? ⟨g, 1, none⟩ = some (.slice (some ⟨b2, 0, none⟩) 8 8)) (h2 : w.cell? ⟨g, 2, none⟩ = some (.slice ad m c)) (hg : g < w.heap.size)
   (y1 : Bys w b1 0 8 (Ob.byteAt p)) (y2 : Bys w b2 0 8 (Ob.byteAt q)) (hS : SrcY w.heap.size w ad m u) :
    Calls Tryd.prog 44 #[.slice (some ⟨g, 0, none⟩) 3 3] w fun e w' => ∃ g' cap, e = .returned (.slice (some ⟨g', 0, none⟩) (16 + m) cap) ∧ 16 + m ≤ cap ∧ Bys w' g' 0 (16 + m) (askZ p q u) ∧ Below w.heap.size w w' := by
  have hS' : Hid (SrcY w.heap.size w ad m u) := hS
  have y1' : Hid (Bys w b1 0 8 (Ob.byteAt p)) := y1
  have y2' : Hid (Bys w b2 0 8 (Ob.byteAt q)) := y2
  clear hS y1 y2
  go_enter Tryd.func44, Tryd.ntmps44
  go_wp2
  go_loopw [8, 3] (fun sk sb wr => ∃ k : Nat, k ≤ 3 ∧ sk = .int .i64 k ∧ Below w.heap.size w wr ∧ Hid (wr.ownsRow w.heap.size 5 1 sb (laidLen m k) (vals (askZ p q u) (laidLen m k)))) (fun sk _ _ => 3 - (intOf sk).toNat)
  case atStart => exact ⟨0, by omega, rfl, by (repeat' (first | (with_reducible first | exact Below.refl _ _ | assumption | refine Below.alloc ?_ ?_ _ | refine Below.drew ?_ | refine below_drewN ?_ _ | refine Below.setCell ?_ ?_ _ | refine below_via (by with_reducible assumption) ?_ ?_) | omega | (simp only [szs]; omega) | (simp only [szs] at *; omega))), World.ownsRow_nil _ _ _ _⟩
  case round =>
    obtain ⟨k, hk, rfl, hB, hO⟩ := hrel
    have hz := hB.size
    by_cases hlk : k < 3
    · have hlk' : (k : Int) < 3 := by omega
      have e0 : wr.cell? ⟨g, 0, none⟩ = some (.slice (some ⟨b1, 0, none⟩) 8 8) := by rw [(bcell hB).1 g _ hg]; exact h0
      have e1 : wr.cell? ⟨g, 1, none⟩ = some (.slice (some ⟨b2, 0, none⟩) 8 8) := by rw [(bcell hB).1 g _ hg]; exact h1
      have e2 : wr.cell? ⟨g, 2, none⟩ = some (.slice ad m c) := by rw [(bcell hB).1 g _ hg]; exact h2
      obtain rfl | rfl | rfl : k = 0 ∨ k = 1 ∨ k = 2 := by omega
      · go_wp2_with (at_builtin; refine wpList_appZ rfl _ _ rfl w.heap.size _ 0 (askZ p q u) rfl hO.out (by omega) w.heap.size (some ⟨b1, 0, none⟩) 8 8 (Ob.byteAt p) rfl (Or.inr ⟨b1, 0, rfl, y1'.out.lt, y1'.out.below hB y1'.out.lt⟩) (Or.inr (by decide)) (by decide) (by decide) ?_; intro v3 w3 ho3 hb3)
        go_roundw
        case rel => exact ⟨1, by omega, by go_num, by (repeat' (first | (with_reducible first | exact Below.refl _ _ | assumption | refine Below.alloc ?_ ?_ _ | refine Below.drew ?_ | refine below_drewN ?_ _ | refine Below.setCell ?_ ?_ _ | refine below_via (by with_reducible assumption) ?_ ?_) | omega | (simp only [szs]; omega) | (simp only [szs] at *; omega))), by
          show w3.ownsRow w.heap.size 5 1 v3 8 (vals (askZ p q u) 8)
          have := ho3
          rw [vals_congr (joinB (askZ p q u) 0 (Ob.byteAt p)) (askZ p q u) (0 + 8) (fun i hi => by show Ob.byteAt p i = _; exact askZ_0 p q u i (by omega))] at this
          exact this⟩
        case measure => simp [intOf]
      · go_wp2_with (at_builtin; refine wpList_appZ rfl _ _ rfl w.heap.size _ 8 (askZ p q u) rfl hO.out (by omega) w.heap.size (some ⟨b2, 0, none⟩) 8 8 (Ob.byteAt q) rfl (Or.inr ⟨b2, 0, rfl, y2'.out.lt, y2'.out.below hB y2'.out.lt⟩) (Or.inr (by decide)) (by decide) (by decide) ?_; intro v3 w3 ho3 hb3)
        go_roundw
        case rel => exact ⟨2, by omega, by go_num, by (repeat' (first | (with_reducible first | exact Below.refl _ _ | assumption | refine Below.alloc ?_ ?_ _ | refine Below.drew ?_ | refine below_drewN ?_ _ | refine Below.setCell ?_ ?_ _ | refine below_via (by with_reducible assumption) ?_ ?_) | omega | (simp only [szs]; omega) | (simp only [szs] at *; omega))), by
          show w3.ownsRow w.heap.size 5 1 v3 16 (vals (askZ p q u) 16)
          have := ho3
          rw [vals_congr (joinB (askZ p q u) 8 (Ob.byteAt q)) (askZ p q u) (8 + 8) (fun i hi => askZ_1 p q u i (by omega))] at this
          exact this⟩
        case measure => simp [intOf]
      · go_wp2_with (at_builtin; refine wpList_appZ rfl _ _ rfl w.heap.size _ 16 (askZ p q u) rfl hO.out (by omega) w.heap.size ad m c u rfl (hS'.out.below hB) (Or.inl (by decide)) (by decide) (by omega) ?_; intro v3 w3 ho3 hb3)
        go_roundw
        case rel => exact ⟨3, by omega, by go_num, by (repeat' (first | (with_reducible first | exact Below.refl _ _ | assumption | refine Below.alloc ?_ ?_ _ | refine Below.drew ?_ | refine below_drewN ?_ _ | refine Below.setCell ?_ ?_ _ | refine below_via (by with_reducible assumption) ?_ ?_) | omega | (simp only [szs]; omega) | (simp only [szs] at *; omega))), by
          show w3.ownsRow w.heap.size 5 1 v3 (16 + m) (vals (askZ p q u) (16 + m))
          have := ho3
          rw [vals_congr (joinB (askZ p q u) 16 u) (askZ p q u) (16 + m) (fun i hi => askZ_2 p q u i)] at this
          exact this⟩
        case measure => simp [intOf]
    · obtain rfl : k = 3 := by omega
      go_wp2
      go_ret
      have ho := hO.out
      rw [show laidLen m 3 = 16 + m from rfl] at ho
      rcases ho.2 with ⟨_, h⟩ | ⟨g', cap, cur, rfl, h3, h4, h5, h6, h7⟩
      · omega
      · exact ⟨g', cap, rfl, h5, bys_of_row ho, hB⟩
end Go.Proofs.YtdhbkhmknnlmnaaDoor

namespace Ob
set_option linter.unusedVariables false
set_option linter.unusedSimpArgs false

abbrev Wt : Type := Fin RE × Fin RE × Fin RE
/-- It stands for that point. -/
def Wide (a : Wt) (u : Ep) : Prop := a.2.2 ≠ 0 ∧ a.1 = u.1 * a.2.2 ∧ a.2.1 = u.2 * a.2.2
def wz (a b : Wt) : Fin RE := a.2.2 * b.2.2
def wk (a b : Wt) : Fin RE := 439 * (a.1 * b.1) * (a.2.1 * b.2.1)
def wless (a b : Wt) : Fin RE := wz a b * wz a b - wk a b
def wmore (a b : Wt) : Fin RE := wz a b * wz a b + wk a b
def wsum (a b : Wt) : Wt := (wz a b * (a.1 * b.2.1 + a.2.1 * b.1) * wless a b, wz a b * (a.2.1 * b.2.1 + a.1 * b.1) * wmore a b, wless a b * wmore a b)
theorem Gmul_ne {a b : Fin RE} (ha : a ≠ 0) (hb : b ≠ 0) : a * b ≠ 0 := fun e => by
  rcases Gmul_zero e with h | h
  · exact ha h
  · exact hb h
theorem Wide.sum {a b : Wt} {u v : Ep} (ha : Wide a u) (hb : Wide b v) (hu : onG u) (hv : onG v) : Wide (wsum a b) (gadd u v) := by
  obtain ⟨h1, h2⟩ := Gsum_add hu hv
  have n1 := gden1 hu hv
  have n2 := gden2 hu hv
  obtain ⟨x1, y1, z1⟩ := a
  obtain ⟨x2, y2, z2⟩ := b
  obtain ⟨a0, a1, a2⟩ := ha
  obtain ⟨b0, b1, b2⟩ := hb
  simp only at a0 a1 a2 b0 b1 b2
  subst a1 a2 b1 b2
  have zz := Gmul_ne a0 b0
  unfold gk at *
  generalize gadd u v = t at *
  clear hu hv
  obtain ⟨u1, u2⟩ := u
  obtain ⟨v1, v2⟩ := v
  obtain ⟨t1, t2⟩ := t
  simp only at *
  have el : wless (u1 * z1, u2 * z1, z1) (v1 * z2, v2 * z2, z2) = z1 * z2 * (z1 * z2) * (1 - 439 * (u1 * v1 * (u2 * v2))) := by
    simp only [wless, wz, wk]; generalize (439 : Fin RE) = d; grobner
  have em : wmore (u1 * z1, u2 * z1, z1) (v1 * z2, v2 * z2, z2) = z1 * z2 * (z1 * z2) * (1 + 439 * (u1 * v1 * (u2 * v2))) := by
    simp only [wmore, wz, wk]; generalize (439 : Fin RE) = d; grobner
  refine ⟨?_, ?_, ?_⟩
  · show wless _ _ * wmore _ _ ≠ 0
    rw [el, em]
    exact Gmul_ne (Gmul_ne (Gmul_ne zz zz) n2) (Gmul_ne (Gmul_ne zz zz) n1)
  · show z1 * z2 * (u1 * z1 * (v2 * z2) + u2 * z1 * (v1 * z2)) * wless _ _ = t1 * (wless _ _ * wmore _ _)
    rw [em]
    clear el em n1 n2 zz a0 b0 h2
    generalize wless (u1 * z1, u2 * z1, z1) (v1 * z2, v2 * z2, z2) = l
    generalize (439 : Fin RE) = d at *
    grobner
  · show z1 * z2 * (u2 * z1 * (v2 * z2) + u1 * z1 * (v1 * z2)) * wmore _ _ = t2 * (wless _ _ * wmore _ _)
    rw [el]
    clear el em n1 n2 zz a0 b0 h1
    generalize wmore (u1 * z1, u2 * z1, z1) (v1 * z2, v2 * z2, z2) = l
    generalize (439 : Fin RE) = d at *
    grobner
theorem Wide.of (u : Ep) : Wide (u.1, u.2, 1) u := ⟨g1_ne, by show u.1 = u.1 * 1; grobner, by show u.2 = u.2 * 1; grobner⟩
theorem Wide.out {a : Wt} {u : Ep} (h : Wide a u) : a.1 * ginv a.2.2 = u.1 ∧ a.2.1 * ginv a.2.2 = u.2 := by
  obtain ⟨h0, h1, h2⟩ := h
  have := ginv_mul h0
  rw [h1, h2]
  generalize a.2.2 = z at *
  generalize ginv z = j at *
  clear h0 h1 h2
  constructor <;> grobner
theorem gmul_odd {p A : Ep} (hp : onG p) (hA : onG A) (E : Nat) (h : E % 2 = 1) : gadd (gadd p A) (gmul (gadd A A) (E / 2)) = gadd p (gmul A E) := by
  have e : E = 1 + 2 * (E / 2) := by omega
  have hm := onG_mul (onG_add hA hA) (E / 2)
  rw [gadd_assoc hp hA hm]
  congr 1
  conv => rhs; rw [e, gmul_add hA, gmul_one hA, ← gmul_mul hA, gmul_two hA]
theorem gmul_even {A : Ep} (hA : onG A) (E : Nat) (h : E % 2 = 0) : gmul (gadd A A) (E / 2) = gmul A E := by
  have e : E = 2 * (E / 2) := by omega
  conv => rhs; rw [e, ← gmul_mul hA, gmul_two hA]
end Ob

namespace Go.Proofs.YtdhbkhmknnlmnaaDoor
open Go.RowKit Go.Proofs
set_option linter.unusedVariables false
set_option linter.unusedSimpArgs false
attribute [local go_sem ↓] Go.wp_at_zero Go.wp_at_succ

/-! Numbers modulo R -/

theorem eplusW (a b : Nat) (ha : a < 18446744073709551616) (hb : b < 18446744073709551616) (w : World) :
    Calls Tryd.prog 72 #[.int .u64 a, .int .u64 b] w fun e w' => e = .returned (.int .u64 ((Ob.toG a + Ob.toG b).val : Nat)) ∧ w = w' := by
  have c0 : ∀ w, Calls Tryd.prog 45 #[.int .u64 288230376287764481, .int .u64 a, .int .u64 b] w fun e w' => e = .returned (.int .u64 ((Ob.toG a + Ob.toG b).val : Nat)) ∧ w = w' := fun w => by
    rw [← Ob.addG]
    exact add_any Ob.RE a b w (by decide) ha hb
  generalize (Ob.toG a + Ob.toG b).val = r at *
  go_enter Tryd.func72, Tryd.ntmps72
  go_wp2_with (first | (go_at_call 45; first | (with_reducible refine (c0 _).mono ?_; rintro e w' ⟨rfl, rfl⟩)))
  go_ret
  exact ⟨rfl, rfl⟩
theorem eminusW (a b : Nat) (ha : a < 18446744073709551616) (hb : b < 18446744073709551616) (w : World) :
    Calls Tryd.prog 71 #[.int .u64 a, .int .u64 b] w fun e w' => e = .returned (.int .u64 ((Ob.toG a - Ob.toG b).val : Nat)) ∧ w = w' := by
  have c0 : ∀ w, Calls Tryd.prog 78 #[.int .u64 288230376287764481, .int .u64 a, .int .u64 b] w fun e w' => e = .returned (.int .u64 ((Ob.toG a - Ob.toG b).val : Nat)) ∧ w = w' := fun w => by
    rw [← Ob.subG]
    exact sub_any Ob.RE a b w (by decide) ha hb
  generalize (Ob.toG a - Ob.toG b).val = r at *
  go_enter Tryd.func71, Tryd.ntmps71
  go_wp2_with (first | (go_at_call 78; first | (with_reducible refine (c0 _).mono ?_; rintro e w' ⟨rfl, rfl⟩)))
  go_ret
  exact ⟨rfl, rfl⟩
theorem etimesW (a b : Nat) (ha : a < 18446744073709551616) (hb : b < 18446744073709551616) (w : World) :
    Calls Tryd.prog 70 #[.int .u64 a, .int .u64 b] w fun e w' => e = .returned (.int .u64 ((Ob.toG a * Ob.toG b).val : Nat)) ∧ ∃ n, w' = w.drewN n := by
  have c0 : ∀ w, Calls Tryd.prog 28 #[.int .u64 288230376287764481, .int .u64 a, .int .u64 b] w fun e w' => e = .returned (.int .u64 ((Ob.toG a * Ob.toG b).val : Nat)) ∧ ∃ n, w' = w.drewN n := fun w => by
    rw [← Ob.mulG]
    exact mul_any Ob.RE a b w (by decide) ha hb
  generalize (Ob.toG a * Ob.toG b).val = r at *
  go_enter Tryd.func70, Tryd.ntmps70
  go_wp2_with (first | (go_at_call 28; first | (with_reducible refine (c0 _).mono ?_; rintro e w' ⟨rfl, nd, rfl⟩)))
  go_ret
  exact ⟨rfl, _, rfl⟩
/-- The same on elements. -/
theorem eplusF (a b : Fin Ob.RE) (w : World) :
    Calls Tryd.prog 72 #[.int .u64 (a.val : Nat), .int .u64 (b.val : Nat)] w fun e w' => e = .returned (.int .u64 ((a + b).val : Nat)) ∧ w = w' := by
  have := eplusW a.val b.val (Ob.G_word _) (Ob.G_word _) w
  rw [Ob.toG_of_val, Ob.toG_of_val] at this
  exact this
theorem eminusF (a b : Fin Ob.RE) (w : World) :
    Calls Tryd.prog 71 #[.int .u64 (a.val : Nat), .int .u64 (b.val : Nat)] w fun e w' => e = .returned (.int .u64 ((a - b).val : Nat)) ∧ w = w' := by
  have := eminusW a.val b.val (Ob.G_word _) (Ob.G_word _) w
  rw [Ob.toG_of_val, Ob.toG_of_val] at this
  exact this
theorem etimesF (a b : Fin Ob.RE) (w : World) :
    Calls Tryd.prog 70 #[.int .u64 (a.val : Nat), .int .u64 (b.val : Nat)] w fun e w' => e = .returned (.int .u64 ((a * b).val : Nat)) ∧ ∃ n, w' = w.drewN n := by
  have := etimesW a.val b.val (Ob.G_word _) (Ob.G_word _) w
  rw [Ob.toG_of_val, Ob.toG_of_val] at this
  exact this
theorem eover_core (a b i r : Int) (er : Value) (w : World)
   (c0 : ∀ w, Calls Tryd.prog 77 #[.int .u64 288230376287764481, .int .u64 b] w fun e w' => e = .returned (.tuple #[.int .u64 i, er]) ∧ w = w')
   (c1 : ∀ w, Calls Tryd.prog 70 #[.int .u64 a, .int .u64 i] w fun e w' => e = .returned (.int .u64 r) ∧ ∃ n, w' = w.drewN n) :
    Calls Tryd.prog 69 #[.int .u64 a, .int .u64 b] w fun e w' => e = .returned (.int .u64 r) ∧ ∃ n, w' = w.drewN n := by
  go_enter Tryd.func69, Tryd.ntmps69
  go_wp2_with (first | (go_at_call 77; first | (with_reducible refine (c0 _).mono ?_; rintro e w' ⟨rfl, rfl⟩)) | (go_at_call 70; first | (with_reducible refine (c1 _).mono ?_; rintro e w' ⟨rfl, nd, rfl⟩)))
  go_ret
  exact ⟨rfl, _, rfl⟩
theorem eoverF (a b : Fin Ob.RE) (h : b ≠ 0) (w : World) :
    Calls Tryd.prog 69 #[.int .u64 (a.val : Nat), .int .u64 (b.val : Nat)] w fun e w' => e = .returned (.int .u64 ((a * Ob.ginv b).val : Nat)) ∧ ∃ n, w' = w.drewN n := by
  have hg : Nat.gcd Ob.RE b.val = 1 := by
    rcases Ob.primeR.2 (Nat.gcd Ob.RE b.val) (Nat.gcd_dvd_left _ _) with h1 | h1
    · exact h1
    · exact absurd (Nat.mod_eq_zero_of_dvd (show Ob.R ∣ b.val from h1 ▸ Nat.gcd_dvd_right Ob.RE b.val)) (Ob.G_ne h)
  obtain ⟨Y, hY, hYY⟩ := Ob.inverse_exists Ob.modRE.1 hg
  have hi := Ob.inv_ok_of hY hYY
  have c2 := fun w => inv_some Ob.RE b.val w Ob.modRE (Ob.G_word _) hg
  generalize Ob.inv Ob.RE b.val = X at hi c2
  have hX : ∃ Z : Fin Ob.RE, Z.val = X := ⟨⟨X, hi.1⟩, rfl⟩
  obtain ⟨Z, rfl⟩ := hX
  have hZ : b * Z = 1 := Fin.ext (by rw [Fin.val_mul, Nat.mul_comm]; exact hi.2)
  rw [Ob.ginv_unique hZ]
  exact eover_core _ _ _ _ _ w c2 (etimesF a Z)

/-! Whether it is a point -/

/-- A point, as a value. -/
def edV (u : Ob.Ep) : Value := .agg #[.int .u64 (u.1.val : Nat), .int .u64 (u.2.val : Nat)]
/-- One with a third number, as a value. -/
def wtV (a : Ob.Wt) : Value := .agg #[.int .u64 (a.1.val : Nat), .int .u64 (a.2.1.val : Nat), .int .u64 (a.2.2.val : Nat)]

set_option maxHeartbeats 1000000 in
theorem eis_core (x y a b c d f g : Int) (hx : x < 288230376287764481) (hy : y < 288230376287764481) (w : World)
   (c0 : ∀ w, Calls Tryd.prog 70 #[.int .u64 x, .int .u64 x] w fun e w' => e = .returned (.int .u64 a) ∧ ∃ n, w' = w.drewN n)
   (c1 : ∀ w, Calls Tryd.prog 70 #[.int .u64 y, .int .u64 y] w fun e w' => e = .returned (.int .u64 b) ∧ ∃ n, w' = w.drewN n)
   (c2 : ∀ w, Calls Tryd.prog 71 #[.int .u64 b, .int .u64 a] w fun e w' => e = .returned (.int .u64 c) ∧ w = w')
   (c3 : ∀ w, Calls Tryd.prog 70 #[.int .u64 a, .int .u64 b] w fun e w' => e = .returned (.int .u64 d) ∧ ∃ n, w' = w.drewN n)
   (c4 : ∀ w, Calls Tryd.prog 70 #[.int .u64 439, .int .u64 d] w fun e w' => e = .returned (.int .u64 f) ∧ ∃ n, w' = w.drewN n)
   (c5 : ∀ w, Calls Tryd.prog 72 #[.int .u64 1, .int .u64 f] w fun e w' => e = .returned (.int .u64 g) ∧ w = w') :
    Calls Tryd.prog 59 #[.agg #[.int .u64 x, .int .u64 y]] w fun e w' => e = .returned (.bool (c == g)) ∧ Below w.heap.size w w' := by
  have hx' : ¬ (288230376287764481 ≤ x) := by omega
  have hy' : ¬ (288230376287764481 ≤ y) := by omega
  go_enter Tryd.func59, Tryd.ntmps59
  go_wp2
  go_region_held3 (fun w' => w'.cell? ⟨w.heap.size, 0, none⟩ = some (.int .u64 x) ∧ w'.cell? ⟨w.heap.size, 1, none⟩ = some (.int .u64 y)) (go_keep)
    ((first | (go_at_call 70; first | (with_reducible refine (c0 _).mono ?_; rintro e w' ⟨rfl, nd, rfl⟩) | (with_reducible refine (c1 _).mono ?_; rintro e w' ⟨rfl, nd, rfl⟩))))
  go_wp2_with (first | (go_at_call 71; first | (with_reducible refine (c2 _).mono ?_; rintro e w' ⟨rfl, rfl⟩)) | (go_at_call 70; first | (with_reducible refine (c3 _).mono ?_; rintro e w' ⟨rfl, nd, rfl⟩) | (with_reducible refine (c4 _).mono ?_; rintro e w' ⟨rfl, nd, rfl⟩)) | (go_at_call 72; first | (with_reducible refine (c5 _).mono ?_; rintro e w' ⟨rfl, rfl⟩)))
  go_ret
  exact ⟨rfl, by (repeat' (first | (with_reducible first | exact Below.refl _ _ | assumption | refine Below.alloc ?_ ?_ _ | refine Below.drew ?_ | refine below_drewN ?_ _ | refine Below.setCell ?_ ?_ _ | refine below_via (by with_reducible assumption) ?_ ?_) | omega | (simp only [szs]; omega) | (simp only [szs] at *; omega)))⟩
set_option maxHeartbeats 1000000 in
theorem eis_big (x y : Int) (h : ¬ (x < 288230376287764481 ∧ y < 288230376287764481)) (w : World) :
    Calls Tryd.prog 59 #[.agg #[.int .u64 x, .int .u64 y]] w fun e w' => e = .returned (.bool false) ∧ Below w.heap.size w w' := by
  by_cases hx : x < 288230376287764481
  · have hx' : ¬ (288230376287764481 ≤ x) := by omega
    have hy' : 288230376287764481 ≤ y := by omega
    clear h
    go_enter Tryd.func59, Tryd.ntmps59
    go_wp2
    go_ret
    exact ⟨rfl, by (repeat' (first | (with_reducible first | exact Below.refl _ _ | assumption | refine Below.alloc ?_ ?_ _ | refine Below.drew ?_ | refine below_drewN ?_ _ | refine Below.setCell ?_ ?_ _ | refine below_via (by with_reducible assumption) ?_ ?_) | omega | (simp only [szs]; omega) | (simp only [szs] at *; omega)))⟩
  · have hx' : 288230376287764481 ≤ x := by omega
    clear h hx
    go_enter Tryd.func59, Tryd.ntmps59
    go_wp2
    go_ret
    exact ⟨rfl, by (repeat' (first | (with_reducible first | exact Below.refl _ _ | assumption | refine Below.alloc ?_ ?_ _ | refine Below.drew ?_ | refine below_drewN ?_ _ | refine Below.setCell ?_ ?_ _ | refine below_via (by with_reducible assumption) ?_ ?_) | omega | (simp only [szs]; omega) | (simp only [szs] at *; omega)))⟩
theorem beq_valG (a b : Fin Ob.RE) : (((a.val : Nat) : Int) == ((b.val : Nat) : Int)) = decide (a = b) := by
  by_cases h : a = b
  · subst h; simp
  · simp [h]
    intro e
    exact h (Fin.ext (by omega))
theorem isG_big {x y : Nat} (h : ¬ (x < Ob.RE ∧ y < Ob.RE)) : Ob.isG x y = false := by
  cases hc : Ob.isG x y with
  | false => rfl
  | true => simp [Ob.isG] at hc; exact absurd hc.1 h
theorem eisW (x y : Nat) (hx : x < 18446744073709551616) (hy : y < 18446744073709551616) (w : World) :
    Calls Tryd.prog 59 #[.agg #[.int .u64 x, .int .u64 y]] w fun e w' => e = .returned (.bool (Ob.isG x y)) ∧ Below w.heap.size w w' := by
  by_cases hp : x < Ob.RE ∧ y < Ob.RE
  · have c4 := etimesW 439 (Ob.toG x * Ob.toG x * (Ob.toG y * Ob.toG y)).val (by decide) (Ob.G_word _)
    have c5 := eplusW 1 (439 * (Ob.toG x * Ob.toG x * (Ob.toG y * Ob.toG y))).val (by decide) (Ob.G_word _)
    rw [Ob.toG_of_val] at c4 c5
    have := eis_core x y _ _ _ _ _ _ (by have := hp.1; simp only [Ob.RE] at this; omega) (by have := hp.2; simp only [Ob.RE] at this; omega) w (etimesW x x hx hx) (etimesW y y hy hy) (eminusF _ _) (etimesF _ _) c4 c5
    refine this.mono fun e w' ⟨h, hb⟩ => ⟨h.trans ?_, hb⟩
    rw [beq_valG]
    have e1 : (Ob.toG y * Ob.toG y - Ob.toG x * Ob.toG x = Ob.toG 1 + 439 * (Ob.toG x * Ob.toG x * (Ob.toG y * Ob.toG y))) ↔ (Ob.toG y * Ob.toG y = Ob.toG x * Ob.toG x + (1 + 439 * (Ob.toG x * Ob.toG x * (Ob.toG y * Ob.toG y)))) := by
      rw [Ob.toG_1]
      generalize (439 : Fin Ob.RE) = d
      generalize Ob.toG x * Ob.toG x = p
      generalize Ob.toG y * Ob.toG y = q
      constructor
      · intro h; grobner
      · intro h; grobner
    simp only [Ob.isG, hp.1, hp.2, decide_true, Bool.true_and, e1]
  · refine (eis_big x y (fun h => hp ⟨by simp only [Ob.RE]; omega, by simp only [Ob.RE]; omega⟩) w).mono fun e w' ⟨h, hb⟩ => ⟨h.trans ?_, hb⟩
    rw [isG_big hp]

theorem ezeroW (w : World) : Calls Tryd.prog 58 #[] w fun e w' => e = .returned (.agg #[.int .u64 0, .int .u64 1]) ∧ Below w.heap.size w w' := by
  go_enter Tryd.func58, Tryd.ntmps58
  go_wp2
  exact bodyPost_ret (v := .agg #[.int .u64 0, .int .u64 1]) (by simp [results, Tryd.results58, go_sem]) rfl ⟨rfl, by (repeat' (first | (with_reducible first | exact Below.refl _ _ | assumption | refine Below.alloc ?_ ?_ _ | refine Below.drew ?_ | refine below_drewN ?_ _ | refine Below.setCell ?_ ?_ _ | refine below_via (by with_reducible assumption) ?_ ?_) | omega | (simp only [szs]; omega) | (simp only [szs] at *; omega)))⟩
theorem egenW (w : World) : Calls Tryd.prog 41 #[] w fun e w' => e = .returned (.agg #[.int .u64 223588670687113535, .int .u64 82055451961885530]) ∧ Below w.heap.size w w' := by
  go_enter Tryd.func41, Tryd.ntmps41
  go_wp2
  exact bodyPost_ret (v := .agg #[.int .u64 223588670687113535, .int .u64 82055451961885530]) (by simp [results, Tryd.results41, go_sem]) rfl ⟨rfl, by (repeat' (first | (with_reducible first | exact Below.refl _ _ | assumption | refine Below.alloc ?_ ?_ _ | refine Below.drew ?_ | refine below_drewN ?_ _ | refine Below.setCell ?_ ?_ _ | refine below_via (by with_reducible assumption) ?_ ?_) | omega | (simp only [szs]; omega) | (simp only [szs] at *; omega)))⟩

/-! Wide ones -/

set_option maxHeartbeats 1000000 in
theorem ewiden_yes (x y : Int) (w : World)
   (c0 : ∀ w, Calls Tryd.prog 59 #[.agg #[.int .u64 x, .int .u64 y]] w fun e w' => e = .returned (.bool true) ∧ Below w.heap.size w w') :
    Calls Tryd.prog 57 #[.agg #[.int .u64 x, .int .u64 y]] w fun e w' => e = .returned (.agg #[.int .u64 x, .int .u64 y, .int .u64 1]) ∧ Below w.heap.size w w' := by
  go_enter Tryd.func57, Tryd.ntmps57
  go_wp2_with (first | (go_at_call 59; first | (with_reducible refine (c0 _).mono ?_; rintro e w_c0 ⟨rfl, b_c0⟩; have z_c0 := b_c0.size; (try simp only [szs] at z_c0); (try (have q_c0_0 := own2 b_c0 (w.heap.size) (by first | omega | (simp only [szs]; omega)))); (try (have q_c0_1 := own3 b_c0 (w.heap.size + 1) (by first | omega | (simp only [szs]; omega)))))))
  exact bodyPost_ret (v := .agg #[.int .u64 x, .int .u64 y, .int .u64 1]) (by simp [results, Tryd.results57, go_sem, *]) rfl ⟨rfl, by (repeat' (first | (with_reducible first | exact Below.refl _ _ | assumption | refine Below.alloc ?_ ?_ _ | refine Below.drew ?_ | refine below_drewN ?_ _ | refine Below.setCell ?_ ?_ _ | refine below_via (by with_reducible assumption) ?_ ?_) | omega | (simp only [szs]; omega) | (simp only [szs] at *; omega)))⟩
set_option maxHeartbeats 1000000 in
theorem ewiden_no (x y : Int) (w : World)
   (c0 : ∀ w, Calls Tryd.prog 59 #[.agg #[.int .u64 x, .int .u64 y]] w fun e w' => e = .returned (.bool false) ∧ Below w.heap.size w w')
   (c1 : ∀ w, Calls Tryd.prog 58 #[] w fun e w' => e = .returned (.agg #[.int .u64 0, .int .u64 1]) ∧ Below w.heap.size w w') :
    Calls Tryd.prog 57 #[.agg #[.int .u64 x, .int .u64 y]] w fun e w' => e = .returned (.agg #[.int .u64 0, .int .u64 1, .int .u64 1]) ∧ Below w.heap.size w w' := by
  go_enter Tryd.func57, Tryd.ntmps57
  go_wp2_with (first | (go_at_call 59; first | (with_reducible refine (c0 _).mono ?_; rintro e w_c0 ⟨rfl, b_c0⟩; have z_c0 := b_c0.size; (try simp only [szs] at z_c0); (try (have q_c0_0 := own2 b_c0 (w.heap.size) (by first | omega | (simp only [szs]; omega)))); (try (have q_c0_1 := own3 b_c0 (w.heap.size + 1) (by first | omega | (simp only [szs]; omega)))))) | (go_at_call 58; first | (with_reducible refine (c1 _).mono ?_; rintro e w_c1 ⟨rfl, b_c1⟩; have z_c1 := b_c1.size; (try simp only [szs] at z_c1); (try (have q_c1_0 := own2 b_c1 (w.heap.size) (by first | omega | (simp only [szs]; omega)))); (try (have q_c1_1 := own3 b_c1 (w.heap.size + 1) (by first | omega | (simp only [szs]; omega)))))))
  exact bodyPost_ret (v := .agg #[.int .u64 0, .int .u64 1, .int .u64 1]) (by simp [results, Tryd.results57, go_sem, *]) rfl ⟨rfl, by (repeat' (first | (with_reducible first | exact Below.refl _ _ | assumption | refine Below.alloc ?_ ?_ _ | refine Below.drew ?_ | refine below_drewN ?_ _ | refine Below.setCell ?_ ?_ _ | refine below_via (by with_reducible assumption) ?_ ?_) | omega | (simp only [szs]; omega) | (simp only [szs] at *; omega)))⟩
theorem ewidenW (x y : Nat) (hx : x < 18446744073709551616) (hy : y < 18446744073709551616) (w : World) :
    Calls Tryd.prog 57 #[.agg #[.int .u64 x, .int .u64 y]] w fun e w' => e = .returned (wtV ((Ob.ofG x y).1, (Ob.ofG x y).2, 1)) ∧ Below w.heap.size w w' := by
  have c0 := eisW x y hx hy
  cases h : Ob.isG x y with
  | true =>
    rw [h] at c0
    obtain ⟨h1, h2⟩ := Ob.ofG_yes h
    have := ewiden_yes x y w c0
    unfold wtV
    simp only
    rw [← h1, ← h2]
    exact this
  | false =>
    rw [h] at c0
    rw [Ob.ofG_no h]
    exact ewiden_no x y w c0 ezeroW

set_option maxHeartbeats 1000000 in
theorem enarrow_core (x y z i r s : Int) (w : World)
   (c0 : ∀ w, Calls Tryd.prog 69 #[.int .u64 1, .int .u64 z] w fun e w' => e = .returned (.int .u64 i) ∧ ∃ n, w' = w.drewN n)
   (c1 : ∀ w, Calls Tryd.prog 70 #[.int .u64 x, .int .u64 i] w fun e w' => e = .returned (.int .u64 r) ∧ ∃ n, w' = w.drewN n)
   (c2 : ∀ w, Calls Tryd.prog 70 #[.int .u64 y, .int .u64 i] w fun e w' => e = .returned (.int .u64 s) ∧ ∃ n, w' = w.drewN n) :
    Calls Tryd.prog 55 #[.agg #[.int .u64 x, .int .u64 y, .int .u64 z]] w fun e w' => e = .returned (.agg #[.int .u64 r, .int .u64 s]) ∧ Below w.heap.size w w' := by
  go_enter Tryd.func55, Tryd.ntmps55
  go_wp2_with (first | (go_at_call 69; first | (with_reducible refine (c0 _).mono ?_; rintro e w' ⟨rfl, nd, rfl⟩)))
  go_region_held3 (fun w' => w'.cell? ⟨w.heap.size, 0, none⟩ = some (.int .u64 x) ∧ w'.cell? ⟨w.heap.size, 1, none⟩ = some (.int .u64 y) ∧ w'.cell? ⟨w.heap.size, 2, none⟩ = some (.int .u64 z)) (go_keep)
    ((first | (go_at_call 70; first | (with_reducible refine (c1 _).mono ?_; rintro e w' ⟨rfl, nd, rfl⟩) | (with_reducible refine (c2 _).mono ?_; rintro e w' ⟨rfl, nd, rfl⟩))))
  go_wp2
  exact bodyPost_ret (v := .agg #[.int .u64 r, .int .u64 s]) (by simp [results, Tryd.results55, go_sem, *]) rfl ⟨rfl, by (repeat' (first | (with_reducible first | exact Below.refl _ _ | assumption | refine Below.alloc ?_ ?_ _ | refine Below.drew ?_ | refine below_drewN ?_ _ | refine Below.setCell ?_ ?_ _ | refine below_via (by with_reducible assumption) ?_ ?_) | omega | (simp only [szs]; omega) | (simp only [szs] at *; omega)))⟩
theorem enarrowW {a : Ob.Wt} {u : Ob.Ep} (h : Ob.Wide a u) (w : World) :
    Calls Tryd.prog 55 #[wtV a] w fun e w' => e = .returned (edV u) ∧ Below w.heap.size w w' := by
  obtain ⟨h1, h2⟩ := h.out
  have c0 := eoverF 1 a.2.2 h.1
  have c1 := etimesF a.1 (1 * Ob.ginv a.2.2)
  have c2 := etimesF a.2.1 (1 * Ob.ginv a.2.2)
  have e1 : 1 * Ob.ginv a.2.2 = Ob.ginv a.2.2 := by generalize Ob.ginv a.2.2 = q; grobner
  rw [e1] at c0 c1 c2
  rw [h1] at c1
  rw [h2] at c2
  exact enarrow_core _ _ _ _ _ _ w c0 c1 c2

set_option maxHeartbeats 4000000 in
theorem esum_core (x1 y1 z1 x2 y2 z2 z q p1 p2 p3 k l m a1 a2 x y r1 r2 s1 s2 t : Int) (w : World)
   (c0 : ∀ w, Calls Tryd.prog 70 #[.int .u64 z1, .int .u64 z2] w fun e w' => e = .returned (.int .u64 z) ∧ ∃ n, w' = w.drewN n)
   (c1 : ∀ w, Calls Tryd.prog 70 #[.int .u64 z, .int .u64 z] w fun e w' => e = .returned (.int .u64 q) ∧ ∃ n, w' = w.drewN n)
   (c2 : ∀ w, Calls Tryd.prog 70 #[.int .u64 x1, .int .u64 x2] w fun e w' => e = .returned (.int .u64 p1) ∧ ∃ n, w' = w.drewN n)
   (c3 : ∀ w, Calls Tryd.prog 70 #[.int .u64 439, .int .u64 p1] w fun e w' => e = .returned (.int .u64 p2) ∧ ∃ n, w' = w.drewN n)
   (c4 : ∀ w, Calls Tryd.prog 70 #[.int .u64 y1, .int .u64 y2] w fun e w' => e = .returned (.int .u64 p3) ∧ ∃ n, w' = w.drewN n)
   (c5 : ∀ w, Calls Tryd.prog 70 #[.int .u64 p2, .int .u64 p3] w fun e w' => e = .returned (.int .u64 k) ∧ ∃ n, w' = w.drewN n)
   (c6 : ∀ w, Calls Tryd.prog 71 #[.int .u64 q, .int .u64 k] w fun e w' => e = .returned (.int .u64 l) ∧ w = w')
   (c7 : ∀ w, Calls Tryd.prog 72 #[.int .u64 q, .int .u64 k] w fun e w' => e = .returned (.int .u64 m) ∧ w = w')
   (c8 : ∀ w, Calls Tryd.prog 70 #[.int .u64 x1, .int .u64 y2] w fun e w' => e = .returned (.int .u64 a1) ∧ ∃ n, w' = w.drewN n)
   (c9 : ∀ w, Calls Tryd.prog 70 #[.int .u64 y1, .int .u64 x2] w fun e w' => e = .returned (.int .u64 a2) ∧ ∃ n, w' = w.drewN n)
   (c10 : ∀ w, Calls Tryd.prog 72 #[.int .u64 a1, .int .u64 a2] w fun e w' => e = .returned (.int .u64 x) ∧ w = w')
   (c11 : ∀ w, Calls Tryd.prog 72 #[.int .u64 p3, .int .u64 p1] w fun e w' => e = .returned (.int .u64 y) ∧ w = w')
   (c12 : ∀ w, Calls Tryd.prog 70 #[.int .u64 z, .int .u64 x] w fun e w' => e = .returned (.int .u64 r1) ∧ ∃ n, w' = w.drewN n)
   (c13 : ∀ w, Calls Tryd.prog 70 #[.int .u64 r1, .int .u64 l] w fun e w' => e = .returned (.int .u64 r2) ∧ ∃ n, w' = w.drewN n)
   (c14 : ∀ w, Calls Tryd.prog 70 #[.int .u64 z, .int .u64 y] w fun e w' => e = .returned (.int .u64 s1) ∧ ∃ n, w' = w.drewN n)
   (c15 : ∀ w, Calls Tryd.prog 70 #[.int .u64 s1, .int .u64 m] w fun e w' => e = .returned (.int .u64 s2) ∧ ∃ n, w' = w.drewN n)
   (c16 : ∀ w, Calls Tryd.prog 70 #[.int .u64 l, .int .u64 m] w fun e w' => e = .returned (.int .u64 t) ∧ ∃ n, w' = w.drewN n) :
    Calls Tryd.prog 56 #[.agg #[.int .u64 x1, .int .u64 y1, .int .u64 z1], .agg #[.int .u64 x2, .int .u64 y2, .int .u64 z2]] w fun e w' => e = .returned (.agg #[.int .u64 r2, .int .u64 s2, .int .u64 t]) ∧ Below w.heap.size w w' := by
  go_enter Tryd.func56, Tryd.ntmps56
  go_wp2_with (first | (go_at_call 70; first | (with_reducible refine (c0 _).mono ?_; rintro e w' ⟨rfl, nd, rfl⟩) | (with_reducible refine (c1 _).mono ?_; rintro e w' ⟨rfl, nd, rfl⟩)))
  go_region_held3 (fun w' => w'.cell? ⟨w.heap.size, 0, none⟩ = some (.int .u64 x1) ∧ w'.cell? ⟨w.heap.size, 1, none⟩ = some (.int .u64 y1) ∧ w'.cell? ⟨w.heap.size, 2, none⟩ = some (.int .u64 z1) ∧ w'.cell? ⟨w.heap.size + 1, 0, none⟩ = some (.int .u64 x2) ∧ w'.cell? ⟨w.heap.size + 1, 1, none⟩ = some (.int .u64 y2) ∧ w'.cell? ⟨w.heap.size + 1, 2, none⟩ = some (.int .u64 z2)) (go_keep)
    ((first | (go_at_call 70; first | (with_reducible refine (c2 _).mono ?_; rintro e w' ⟨rfl, nd, rfl⟩) | (with_reducible refine (c3 _).mono ?_; rintro e w' ⟨rfl, nd, rfl⟩) | (with_reducible refine (c4 _).mono ?_; rintro e w' ⟨rfl, nd, rfl⟩) | (with_reducible refine (c5 _).mono ?_; rintro e w' ⟨rfl, nd, rfl⟩))))
  go_wp2_with (first | (go_at_call 71; first | (with_reducible refine (c6 _).mono ?_; rintro e w' ⟨rfl, rfl⟩)) | (go_at_call 72; first | (with_reducible refine (c7 _).mono ?_; rintro e w' ⟨rfl, rfl⟩)))
  go_region_held3 (fun w' => w'.cell? ⟨w.heap.size, 0, none⟩ = some (.int .u64 x1) ∧ w'.cell? ⟨w.heap.size, 1, none⟩ = some (.int .u64 y1) ∧ w'.cell? ⟨w.heap.size, 2, none⟩ = some (.int .u64 z1) ∧ w'.cell? ⟨w.heap.size + 1, 0, none⟩ = some (.int .u64 x2) ∧ w'.cell? ⟨w.heap.size + 1, 1, none⟩ = some (.int .u64 y2) ∧ w'.cell? ⟨w.heap.size + 1, 2, none⟩ = some (.int .u64 z2)) (go_keep)
    ((first | (go_at_call 70; first | (with_reducible refine (c8 _).mono ?_; rintro e w' ⟨rfl, nd, rfl⟩) | (with_reducible refine (c9 _).mono ?_; rintro e w' ⟨rfl, nd, rfl⟩)) | (go_at_call 72; first | (with_reducible refine (c10 _).mono ?_; rintro e w' ⟨rfl, rfl⟩))))
  go_wp2
  go_region_held3 (fun w' => w'.cell? ⟨w.heap.size, 0, none⟩ = some (.int .u64 x1) ∧ w'.cell? ⟨w.heap.size, 1, none⟩ = some (.int .u64 y1) ∧ w'.cell? ⟨w.heap.size, 2, none⟩ = some (.int .u64 z1) ∧ w'.cell? ⟨w.heap.size + 1, 0, none⟩ = some (.int .u64 x2) ∧ w'.cell? ⟨w.heap.size + 1, 1, none⟩ = some (.int .u64 y2) ∧ w'.cell? ⟨w.heap.size + 1, 2, none⟩ = some (.int .u64 z2)) (go_keep)
    ((first | (go_at_call 70; first | (with_reducible refine (c4 _).mono ?_; rintro e w' ⟨rfl, nd, rfl⟩) | (with_reducible refine (c2 _).mono ?_; rintro e w' ⟨rfl, nd, rfl⟩)) | (go_at_call 72; first | (with_reducible refine (c11 _).mono ?_; rintro e w' ⟨rfl, rfl⟩))))
  go_wp2_with (first | (go_at_call 70; first | (with_reducible refine (c12 _).mono ?_; rintro e w' ⟨rfl, nd, rfl⟩) | (with_reducible refine (c13 _).mono ?_; rintro e w' ⟨rfl, nd, rfl⟩) | (with_reducible refine (c14 _).mono ?_; rintro e w' ⟨rfl, nd, rfl⟩) | (with_reducible refine (c15 _).mono ?_; rintro e w' ⟨rfl, nd, rfl⟩) | (with_reducible refine (c16 _).mono ?_; rintro e w' ⟨rfl, nd, rfl⟩)))
  exact bodyPost_ret (v := .agg #[.int .u64 r2, .int .u64 s2, .int .u64 t]) (by simp [results, Tryd.results56, go_sem, *]) rfl ⟨rfl, by (repeat' (first | (with_reducible first | exact Below.refl _ _ | assumption | refine Below.alloc ?_ ?_ _ | refine Below.drew ?_ | refine below_drewN ?_ _ | refine Below.setCell ?_ ?_ _ | refine below_via (by with_reducible assumption) ?_ ?_) | omega | (simp only [szs]; omega) | (simp only [szs] at *; omega)))⟩
theorem esumW (a b : Ob.Wt) (w : World) :
    Calls Tryd.prog 56 #[wtV a, wtV b] w fun e w' => e = .returned (wtV (Ob.wsum a b)) ∧ Below w.heap.size w w' := by
  have c3 := etimesW 439 (a.1 * b.1).val (by decide) (Ob.G_word _)
  rw [Ob.toG_of_val, Ob.toG_439] at c3
  exact esum_core _ _ _ _ _ _ _ _ _ _ _ _ _ _ _ _ _ _ _ _ _ _ _ w (etimesF _ _) (etimesF _ _) (etimesF _ _) c3 (etimesF _ _) (etimesF _ _) (eminusF _ _) (eplusF _ _) (etimesF _ _) (etimesF _ _) (eplusF _ _) (eplusF _ _) (etimesF _ _) (etimesF _ _) (etimesF _ _) (etimesF _ _) (etimesF _ _)
end Go.Proofs.YtdhbkhmknnlmnaaDoor

namespace Go.Proofs.YtdhbkhmknnlmnaaDoor
open Go.RowKit Go.Proofs
set_option linter.unusedVariables false
set_option linter.unusedSimpArgs false
attribute [local go_sem ↓] Go.wp_at_zero Go.wp_at_succ

theorem edV_yes {x y : Nat} (h : Ob.isG x y = true) : Value.agg #[.int .u64 (x : Nat), .int .u64 (y : Nat)] = edV (Ob.ofG x y) := by
  obtain ⟨h1, h2⟩ := Ob.ofG_yes h
  unfold edV
  rw [← h1, ← h2]

set_option maxHeartbeats 2000000 in
theorem eadd_core (x1 y1 x2 y2 u1 v1 t1 u2 v2 t2 u v t x y : Int) (w : World)
   (c0 : ∀ w, Calls Tryd.prog 57 #[.agg #[.int .u64 x1, .int .u64 y1]] w fun e w' => e = .returned (.agg #[.int .u64 u1, .int .u64 v1, .int .u64 t1]) ∧ Below w.heap.size w w')
   (c1 : ∀ w, Calls Tryd.prog 57 #[.agg #[.int .u64 x2, .int .u64 y2]] w fun e w' => e = .returned (.agg #[.int .u64 u2, .int .u64 v2, .int .u64 t2]) ∧ Below w.heap.size w w')
   (c2 : ∀ w, Calls Tryd.prog 56 #[.agg #[.int .u64 u1, .int .u64 v1, .int .u64 t1], .agg #[.int .u64 u2, .int .u64 v2, .int .u64 t2]] w fun e w' => e = .returned (.agg #[.int .u64 u, .int .u64 v, .int .u64 t]) ∧ Below w.heap.size w w')
   (c3 : ∀ w, Calls Tryd.prog 55 #[.agg #[.int .u64 u, .int .u64 v, .int .u64 t]] w fun e w' => e = .returned (.agg #[.int .u64 x, .int .u64 y]) ∧ Below w.heap.size w w') :
    Calls Tryd.prog 33 #[.agg #[.int .u64 x1, .int .u64 y1], .agg #[.int .u64 x2, .int .u64 y2]] w fun e w' => e = .returned (.agg #[.int .u64 x, .int .u64 y]) ∧ Below w.heap.size w w' := by
  have n1 : ¬ (w.heap.size = w.heap.size + 1 + 1) := by omega
  have n2 : ¬ (w.heap.size + 1 + 1 = w.heap.size) := by omega
  go_enter Tryd.func33, Tryd.ntmps33
  go_wp2
  go_region_held3 (fun w' => w'.cell? ⟨w.heap.size, 0, none⟩ = some (.int .u64 x1) ∧ w'.cell? ⟨w.heap.size, 1, none⟩ = some (.int .u64 y1) ∧ w'.cell? ⟨w.heap.size + 1, 0, none⟩ = some (.int .u64 x2) ∧ w'.cell? ⟨w.heap.size + 1, 1, none⟩ = some (.int .u64 y2)) (go_keep)
    ((first | (go_at_call 57; first | (with_reducible refine (c0 _).mono ?_; rintro e w_c0 ⟨rfl, b_c0⟩; have z_c0 := b_c0.size; (try simp only [szs] at z_c0); (try (have q_c0_0 := own2 b_c0 (w.heap.size) (by first | omega | (simp only [szs]; omega)))); (try (have q_c0_1 := own2 b_c0 (w.heap.size + 1) (by first | omega | (simp only [szs]; omega)))); (try (have q_c0_2 := own2 b_c0 (w.heap.size + 1 + 1) (by first | omega | (simp only [szs]; omega))))) | (with_reducible refine (c1 _).mono ?_; rintro e w_c1 ⟨rfl, b_c1⟩; have z_c1 := b_c1.size; (try simp only [szs] at z_c1); (try (have q_c1_0 := own2 b_c1 (w.heap.size) (by first | omega | (simp only [szs]; omega)))); (try (have q_c1_1 := own2 b_c1 (w.heap.size + 1) (by first | omega | (simp only [szs]; omega)))); (try (have q_c1_2 := own2 b_c1 (w.heap.size + 1 + 1) (by first | omega | (simp only [szs]; omega)))))) | (go_at_call 56; first | (with_reducible refine (c2 _).mono ?_; rintro e w_c2 ⟨rfl, b_c2⟩; have z_c2 := b_c2.size; (try simp only [szs] at z_c2); (try (have q_c2_0 := own2 b_c2 (w.heap.size) (by first | omega | (simp only [szs]; omega)))); (try (have q_c2_1 := own2 b_c2 (w.heap.size + 1) (by first | omega | (simp only [szs]; omega)))); (try (have q_c2_2 := own2 b_c2 (w.heap.size + 1 + 1) (by first | omega | (simp only [szs]; omega)))))) | (go_at_call 55; first | (with_reducible refine (c3 _).mono ?_; rintro e w_c3 ⟨rfl, b_c3⟩; have z_c3 := b_c3.size; (try simp only [szs] at z_c3); (try (have q_c3_0 := own2 b_c3 (w.heap.size) (by first | omega | (simp only [szs]; omega)))); (try (have q_c3_1 := own2 b_c3 (w.heap.size + 1) (by first | omega | (simp only [szs]; omega)))); (try (have q_c3_2 := own2 b_c3 (w.heap.size + 1 + 1) (by first | omega | (simp only [szs]; omega))))))))
  go_wp2
  exact bodyPost_ret (v := .agg #[.int .u64 x, .int .u64 y]) (by simp [results, Tryd.results33, go_sem, *]) rfl ⟨rfl, by (repeat' (first | (with_reducible first | exact Below.refl _ _ | assumption | refine Below.alloc ?_ ?_ _ | refine Below.drew ?_ | refine below_drewN ?_ _ | refine Below.setCell ?_ ?_ _ | refine below_via (by with_reducible assumption) ?_ ?_) | omega | (simp only [szs]; omega) | (simp only [szs] at *; omega)))⟩
theorem eaddW (x1 y1 x2 y2 : Nat) (hx1 : x1 < 18446744073709551616) (hy1 : y1 < 18446744073709551616) (hx2 : x2 < 18446744073709551616) (hy2 : y2 < 18446744073709551616) (w : World) :
    Calls Tryd.prog 33 #[.agg #[.int .u64 x1, .int .u64 y1], .agg #[.int .u64 x2, .int .u64 y2]] w fun e w' => e = .returned (edV (Ob.gadd (Ob.ofG x1 y1) (Ob.ofG x2 y2))) ∧ Below w.heap.size w w' :=
  eadd_core x1 y1 x2 y2 _ _ _ _ _ _ _ _ _ _ _ w (ewidenW x1 y1 hx1 hy1) (ewidenW x2 y2 hx2 hy2) (esumW _ _) (enarrowW ((Ob.Wide.of _).sum (Ob.Wide.of _) (Ob.ofG_on _ _) (Ob.ofG_on _ _)))


end Go.Proofs.YtdhbkhmknnlmnaaDoor

namespace Go.Proofs.YtdhbkhmknnlmnaaDoor
open Go.RowKit Go.Proofs
set_option linter.unusedVariables false
set_option linter.unusedSimpArgs false
attribute [local go_sem ↓] Go.wp_at_zero Go.wp_at_succ

theorem zero_of : Ob.ofG 0 1 = Ob.gzero := Ob.ofG_val Ob.onG_zero

set_option maxHeartbeats 8000000 in
theorem emulW (x y k : Nat) (hx : x < 18446744073709551616) (hy : y < 18446744073709551616) (hk : k < 18446744073709551616) (w : World) :
    Calls Tryd.prog 34 #[.agg #[.int .u64 x, .int .u64 y], .int .u64 k] w fun e w' => e = .returned (edV (Ob.gmul (Ob.ofG x y) k)) ∧ Below w.heap.size w w' := by
  have c1 := ewidenW x y hx hy
  have c0 := ewidenW 0 1 (by decide) (by decide)
  rw [zero_of] at c0
  have ca : ∀ w, Calls Tryd.prog 57 #[.agg #[.int .u64 0, .int .u64 1]] w fun e w' => e = .returned (.agg #[.int .u64 0, .int .u64 1, .int .u64 1]) ∧ Below w.heap.size w w' := c0
  clear c0
  have cz := ezeroW
  have on0 : Hid (Ob.onG (Ob.ofG x y)) := Ob.ofG_on x y
  obtain ⟨u, hu⟩ : ∃ u, Hid (Ob.ofG x y = u) := ⟨_, rfl⟩
  rw [hu.out] at c1 on0 ⊢
  obtain ⟨T, hT⟩ : ∃ T, Hid (T = Ob.gmul u k) := ⟨_, rfl⟩
  have hstart : Hid (Ob.gadd Ob.gzero (Ob.gmul u k) = T) := by rw [hT.out]; exact Ob.zero_gadd (Ob.onG_mul on0.out k)
  rw [← hT.out]
  have hwu : Hid (Ob.Wide (u.1, u.2, 1) u) := Ob.Wide.of u
  obtain ⟨a, ha⟩ : ∃ a : Ob.Wt, Hid ((u.1, u.2, 1) = a) := ⟨_, rfl⟩
  rw [ha.out] at c1 hwu
  clear hT hu ha hx hy
  unfold wtV at c1
  go_enter Tryd.func34, Tryd.ntmps34
  go_upto_region 1 with (fail)
  have ta : Two ((w.alloc (.cells #[.int .u64 x, .int .u64 y] 25)).alloc (.cells #[.int .u64 0, .int .u64 0] 25)) w.heap.size (.int .u64 x) (.int .u64 y) := by (repeat' (first | (with_reducible first | assumption | exact Two.own (by with_reducible assumption) | refine Two.set ?_ _ _ | refine Own2.set ?_ _ _ | refine Two.drew ?_ | refine Two.drewN ?_ _ | refine Own2.drew ?_ | refine Own2.drewN ?_ _ | (refine Two.new ?_; simp only [szs]; done) | (refine Own2.new ?_; simp only [szs]; done) | refine Two.alloc ?_ _ | refine Own2.alloc ?_ _ | refine Two.far ?_ ?_ _ _ | refine Own2.far ?_ ?_ _ _ | refine Two.via (by with_reducible assumption) ?_ ?_ | refine Own2.via (by with_reducible assumption) ?_ ?_) | omega | (simp only [szs]; omega)))
  go_cut [5, 6] (fun s5 s6 wx => ∃ b5 b6 : Nat, s5 = .pointer (some ⟨b5, 0, none⟩) ∧ s6 = .pointer (some ⟨b6, 0, none⟩) ∧ b5 ≠ b6 ∧ w.heap.size + 1 < b5 ∧ w.heap.size + 1 < b6 ∧
    Two wx (w.heap.size + 1) (.int .u64 0) (.int .u64 0) ∧ Three wx b5 (.int .u64 0) (.int .u64 1) (.int .u64 1) ∧ Three wx b6 (.int .u64 (a.1.val : Nat)) (.int .u64 (a.2.1.val : Nat)) (.int .u64 (a.2.2.val : Nat)) ∧ Below w.heap.size w wx)
  case first =>
    have n1 : ¬ (w.heap.size + 1 + 1 = w.heap.size) := by omega
    have n2 : ¬ (w.heap.size = w.heap.size + 1 + 1) := by omega
    have n3 : ¬ (w.heap.size + 1 + 1 + 1 = w.heap.size) := by omega
    have n4 : ¬ (w.heap.size = w.heap.size + 1 + 1 + 1) := by omega
    go_region_held3 (fun w' => w'.cell? ⟨w.heap.size, 0, none⟩ = some (.int .u64 x) ∧ w'.cell? ⟨w.heap.size, 1, none⟩ = some (.int .u64 y)) (go_keep)
      ((first | (go_at_call 58; first | (with_reducible refine (cz _).mono ?_; rintro e w_cz ⟨rfl, b_cz⟩; have z_cz := b_cz.size; (try simp only [szs] at z_cz); (try (have q_cz_0 := own2 b_cz (w.heap.size) (by first | omega | (simp only [szs]; omega)))); (try (have q_cz_1 := own2 b_cz (w.heap.size + 1) (by first | omega | (simp only [szs]; omega)))); (try (have q_cz_2 := own3 b_cz (w.heap.size + 1 + 1) (by first | omega | (simp only [szs]; omega)))); (try (have q_cz_3 := own3 b_cz (w.heap.size + 1 + 1 + 1) (by first | omega | (simp only [szs]; omega)))); (try (have q_cz_4 := own3 b_cz (w_cz.heap.size) (by first | omega | (simp only [szs]; omega)))); (try (have q_cz_5 := own3 b_cz (w_cz.heap.size + 1) (by first | omega | (simp only [szs]; omega)))); (try (have q_cz_6 := own3 b_cz (w_ca.heap.size) (by first | omega | (simp only [szs]; omega)))); (try (have q_cz_7 := own3 b_cz (w_ca.heap.size + 1) (by first | omega | (simp only [szs]; omega)))); (try ((try have k1 : ¬ (w_ca.heap.size + 1 = w.heap.size) := by omega); (try have k2 : ¬ (w_cz.heap.size + 1 = w.heap.size) := by omega); (try have k3 : ¬ (w_ca.heap.size + 1 = w_cz.heap.size) := by omega); (try have k4 : ¬ (w_ca.heap.size + 1 = w.heap.size + 1 + 1) := by omega); (try have k5 : ¬ (w_cz.heap.size + 1 = w.heap.size + 1 + 1) := by omega))))) | (go_at_call 57; first | (with_reducible refine (ca _).mono ?_; rintro e w_ca ⟨rfl, b_ca⟩; have z_ca := b_ca.size; (try simp only [szs] at z_ca); (try (have q_ca_0 := own2 b_ca (w.heap.size) (by first | omega | (simp only [szs]; omega)))); (try (have q_ca_1 := own2 b_ca (w.heap.size + 1) (by first | omega | (simp only [szs]; omega)))); (try (have q_ca_2 := own3 b_ca (w.heap.size + 1 + 1) (by first | omega | (simp only [szs]; omega)))); (try (have q_ca_3 := own3 b_ca (w.heap.size + 1 + 1 + 1) (by first | omega | (simp only [szs]; omega)))); (try (have q_ca_4 := own3 b_ca (w_cz.heap.size) (by first | omega | (simp only [szs]; omega)))); (try (have q_ca_5 := own3 b_ca (w_cz.heap.size + 1) (by first | omega | (simp only [szs]; omega)))); (try (have q_ca_6 := own3 b_ca (w_ca.heap.size) (by first | omega | (simp only [szs]; omega)))); (try (have q_ca_7 := own3 b_ca (w_ca.heap.size + 1) (by first | omega | (simp only [szs]; omega)))); (try ((try have k1 : ¬ (w_ca.heap.size + 1 = w.heap.size) := by omega); (try have k2 : ¬ (w_cz.heap.size + 1 = w.heap.size) := by omega); (try have k3 : ¬ (w_ca.heap.size + 1 = w_cz.heap.size) := by omega); (try have k4 : ¬ (w_ca.heap.size + 1 = w.heap.size + 1 + 1) := by omega); (try have k5 : ¬ (w_cz.heap.size + 1 = w.heap.size + 1 + 1) := by omega)))) | (with_reducible refine (c1 _).mono ?_; rintro e w_c1 ⟨rfl, b_c1⟩; have z_c1 := b_c1.size; (try simp only [szs] at z_c1); (try (have q_c1_0 := own2 b_c1 (w.heap.size) (by first | omega | (simp only [szs]; omega)))); (try (have q_c1_1 := own2 b_c1 (w.heap.size + 1) (by first | omega | (simp only [szs]; omega)))); (try (have q_c1_2 := own3 b_c1 (w.heap.size + 1 + 1) (by first | omega | (simp only [szs]; omega)))); (try (have q_c1_3 := own3 b_c1 (w.heap.size + 1 + 1 + 1) (by first | omega | (simp only [szs]; omega)))); (try (have q_c1_4 := own3 b_c1 (w_cz.heap.size) (by first | omega | (simp only [szs]; omega)))); (try (have q_c1_5 := own3 b_c1 (w_cz.heap.size + 1) (by first | omega | (simp only [szs]; omega)))); (try (have q_c1_6 := own3 b_c1 (w_ca.heap.size) (by first | omega | (simp only [szs]; omega)))); (try (have q_c1_7 := own3 b_c1 (w_ca.heap.size + 1) (by first | omega | (simp only [szs]; omega)))); (try ((try have k1 : ¬ (w_ca.heap.size + 1 = w.heap.size) := by omega); (try have k2 : ¬ (w_cz.heap.size + 1 = w.heap.size) := by omega); (try have k3 : ¬ (w_ca.heap.size + 1 = w_cz.heap.size) := by omega); (try have k4 : ¬ (w_ca.heap.size + 1 = w.heap.size + 1 + 1) := by omega); (try have k5 : ¬ (w_cz.heap.size + 1 = w.heap.size + 1 + 1) := by omega)))))))
    all_goals
      go_wp2
      go_meet
      case rel => exact ⟨_, _, rfl, rfl, by omega, by omega, by omega, by (repeat' (first | (with_reducible first | assumption | exact Two.own (by with_reducible assumption) | refine Two.set ?_ _ _ | refine Own2.set ?_ _ _ | refine Two.drew ?_ | refine Two.drewN ?_ _ | refine Own2.drew ?_ | refine Own2.drewN ?_ _ | (refine Two.new ?_; simp only [szs]; done) | (refine Own2.new ?_; simp only [szs]; done) | refine Two.alloc ?_ _ | refine Own2.alloc ?_ _ | refine Two.far ?_ ?_ _ _ | refine Own2.far ?_ ?_ _ _ | refine Two.via (by with_reducible assumption) ?_ ?_ | refine Own2.via (by with_reducible assumption) ?_ ?_) | omega | (simp only [szs]; omega))), by (repeat' (first | (with_reducible first | assumption | exact Three.own (by with_reducible assumption) | refine Three.set ?_ _ _ _ | refine Own3.set ?_ _ _ _ | refine Three.drew ?_ | refine Three.drewN ?_ _ | refine Own3.drew ?_ | refine Own3.drewN ?_ _ | (refine Three.new ?_; simp only [szs]; done) | (refine Own3.new ?_; simp only [szs]; done) | refine Three.alloc ?_ _ | refine Own3.alloc ?_ _ | refine Three.far ?_ ?_ _ _ | refine Own3.far ?_ ?_ _ _ | refine Three.via (by with_reducible assumption) ?_ ?_ | refine Own3.via (by with_reducible assumption) ?_ ?_) | omega | (simp only [szs]; omega))), by (repeat' (first | (with_reducible first | assumption | exact Three.own (by with_reducible assumption) | refine Three.set ?_ _ _ _ | refine Own3.set ?_ _ _ _ | refine Three.drew ?_ | refine Three.drewN ?_ _ | refine Own3.drew ?_ | refine Own3.drewN ?_ _ | (refine Three.new ?_; simp only [szs]; done) | (refine Own3.new ?_; simp only [szs]; done) | refine Three.alloc ?_ _ | refine Own3.alloc ?_ _ | refine Three.far ?_ ?_ _ _ | refine Own3.far ?_ ?_ _ _ | refine Three.via (by with_reducible assumption) ?_ ?_ | refine Own3.via (by with_reducible assumption) ?_ ?_) | omega | (simp only [szs]; omega))), by (repeat' (first | (with_reducible first | exact Below.refl _ _ | assumption | refine Below.alloc ?_ ?_ _ | refine Below.drew ?_ | refine below_drewN ?_ _ | refine Below.setCell ?_ ?_ _ | refine below_via (by with_reducible assumption) ?_ ?_) | omega | (simp only [szs]; omega) | (simp only [szs] at *; omega)))⟩
  case rest =>
    obtain ⟨b5, b6, rfl, rfl, hne, l5, l6, tR, t5, t6, hB⟩ := hcut
    clear c1 ca cz ta
    have m1 : ¬ (b6 = b5) := fun h => hne h.symm
    have m2 : ¬ (b5 = w.heap.size + 1) := by omega
    have m3 : ¬ (b6 = w.heap.size + 1) := by omega
    have m4 : ¬ (w.heap.size + 1 = b5) := by omega
    have m5 : ¬ (w.heap.size + 1 = b6) := by omega
    go_wp2
    go_loopw [1] (fun se wr => ∃ (A B : Ob.Wt) (p q : Ob.Ep) (E : Nat), Hid (Ob.Wide A p) ∧ Hid (Ob.Wide B q) ∧ Hid (Ob.onG p) ∧ Hid (Ob.onG q) ∧ E < 18446744073709551616 ∧ se = .int .u64 E ∧
      Two wr (w.heap.size + 1) (.int .u64 0) (.int .u64 0) ∧ Three wr b5 (.int .u64 (A.1.val : Nat)) (.int .u64 (A.2.1.val : Nat)) (.int .u64 (A.2.2.val : Nat)) ∧ Three wr b6 (.int .u64 (B.1.val : Nat)) (.int .u64 (B.2.1.val : Nat)) (.int .u64 (B.2.2.val : Nat)) ∧ Below w.heap.size w wr ∧ Hid (Ob.gadd p (Ob.gmul q E) = T)) (fun se _ => (intOf se).toNat)
    case atStart =>
      exact ⟨(Ob.gzero.1, Ob.gzero.2, 1), a, Ob.gzero, u, k, Ob.Wide.of Ob.gzero, hwu, Ob.onG_zero, on0, hk, rfl, tR, t5, t6, hB, hstart⟩
    case round =>
      obtain ⟨A, B, p, q, E, hA, hBq, op, oq, hE, rfl, tR, t5, t6, hB, hI⟩ := hrel
      clear hstart hk hwu on0
      have ⟨d1, d2, d3, d4, d5⟩ := tR
      have ⟨e1, e2, e3, e4, e5, e6, e7⟩ := t5
      have ⟨g1, g2, g3, g4, g5, g6, g7⟩ := t6
      by_cases h0 : 0 < E
      · have hand := and_one E hE
        have sq := esumW B B
        have wq : Hid (Ob.Wide (Ob.wsum B B) (Ob.gadd q q)) := hBq.out.sum hBq.out oq.out oq.out
        have onq : Hid (Ob.onG (Ob.gadd q q)) := Ob.onG_add oq.out oq.out
        obtain ⟨B', hB'⟩ : ∃ B', Hid (B' = Ob.wsum B B) := ⟨_, rfl⟩
        rw [← hB'.out] at sq wq
        unfold wtV at sq
        by_cases h1 : E % 2 = 1
        · have h1' : ((E % 2 : Nat) : Int) = 1 := by omega
          rw [h1'] at hand
          clear h1'
          have ml := esumW A B
          have wp : Hid (Ob.Wide (Ob.wsum A B) (Ob.gadd p q)) := hA.out.sum hBq.out op.out oq.out
          have onp : Hid (Ob.onG (Ob.gadd p q)) := Ob.onG_add op.out oq.out
          obtain ⟨A', hA'⟩ : ∃ A', Hid (A' = Ob.wsum A B) := ⟨_, rfl⟩
          rw [← hA'.out] at ml wp
          unfold wtV at ml
          have hn : Hid (Ob.gadd (Ob.gadd p q) (Ob.gmul (Ob.gadd q q) (E / 2)) = T) := by rw [Ob.gmul_odd op.out oq.out _ h1]; exact hI
          clear h1 hI
          go_wp2_with (first | (go_at_call 56; first | (with_reducible refine (ml _).mono ?_; rintro e w_ml ⟨rfl, b_ml⟩; have z_ml := b_ml.size; (try simp only [szs] at z_ml); (try (have q_ml_0 := own2 b_ml (w.heap.size + 1) (by first | omega | (simp only [szs]; omega)))); (try (have q_ml_1 := own3 b_ml (b5) (by first | omega | (simp only [szs]; omega)))); (try (have q_ml_2 := own3 b_ml (b6) (by first | omega | (simp only [szs]; omega))))) | (with_reducible refine (sq _).mono ?_; rintro e w_sq ⟨rfl, b_sq⟩; have z_sq := b_sq.size; (try simp only [szs] at z_sq); (try (have q_sq_0 := own2 b_sq (w.heap.size + 1) (by first | omega | (simp only [szs]; omega)))); (try (have q_sq_1 := own3 b_sq (b5) (by first | omega | (simp only [szs]; omega)))); (try (have q_sq_2 := own3 b_sq (b6) (by first | omega | (simp only [szs]; omega)))))))
          go_roundw
          case rel => exact ⟨A', B', _, _, E / 2, wp, wq, onp, onq, by omega, by go_num, by (repeat' (first | (with_reducible first | assumption | exact Two.own (by with_reducible assumption) | refine Two.set ?_ _ _ | refine Own2.set ?_ _ _ | refine Two.drew ?_ | refine Two.drewN ?_ _ | refine Own2.drew ?_ | refine Own2.drewN ?_ _ | (refine Two.new ?_; simp only [szs]; done) | (refine Own2.new ?_; simp only [szs]; done) | refine Two.alloc ?_ _ | refine Own2.alloc ?_ _ | refine Two.far ?_ ?_ _ _ | refine Own2.far ?_ ?_ _ _ | refine Two.via (by with_reducible assumption) ?_ ?_ | refine Own2.via (by with_reducible assumption) ?_ ?_) | omega | (simp only [szs]; omega))), by (repeat' (first | (with_reducible first | assumption | exact Three.own (by with_reducible assumption) | refine Three.set ?_ _ _ _ | refine Own3.set ?_ _ _ _ | refine Three.drew ?_ | refine Three.drewN ?_ _ | refine Own3.drew ?_ | refine Own3.drewN ?_ _ | (refine Three.new ?_; simp only [szs]; done) | (refine Own3.new ?_; simp only [szs]; done) | refine Three.alloc ?_ _ | refine Own3.alloc ?_ _ | refine Three.far ?_ ?_ _ _ | refine Own3.far ?_ ?_ _ _ | refine Three.via (by with_reducible assumption) ?_ ?_ | refine Own3.via (by with_reducible assumption) ?_ ?_) | omega | (simp only [szs]; omega))), by (repeat' (first | (with_reducible first | assumption | exact Three.own (by with_reducible assumption) | refine Three.set ?_ _ _ _ | refine Own3.set ?_ _ _ _ | refine Three.drew ?_ | refine Three.drewN ?_ _ | refine Own3.drew ?_ | refine Own3.drewN ?_ _ | (refine Three.new ?_; simp only [szs]; done) | (refine Own3.new ?_; simp only [szs]; done) | refine Three.alloc ?_ _ | refine Own3.alloc ?_ _ | refine Three.far ?_ ?_ _ _ | refine Own3.far ?_ ?_ _ _ | refine Three.via (by with_reducible assumption) ?_ ?_ | refine Own3.via (by with_reducible assumption) ?_ ?_) | omega | (simp only [szs]; omega))), by (repeat' (first | (with_reducible first | exact Below.refl _ _ | assumption | refine Below.alloc ?_ ?_ _ | refine Below.drew ?_ | refine below_drewN ?_ _ | refine Below.setCell ?_ ?_ _ | refine below_via (by with_reducible assumption) ?_ ?_) | omega | (simp only [szs]; omega) | (simp only [szs] at *; omega))), hn⟩
          case measure => simp [intOf]; omega
        · have h1' : ((E % 2 : Nat) : Int) = 0 := by omega
          rw [h1'] at hand
          clear h1'
          have hn : Hid (Ob.gadd p (Ob.gmul (Ob.gadd q q) (E / 2)) = T) := by rw [Ob.gmul_even oq.out _ (by omega)]; exact hI
          clear h1 hI
          go_wp2_with (first | (go_at_call 56; first | (with_reducible refine (sq _).mono ?_; rintro e w_sq ⟨rfl, b_sq⟩; have z_sq := b_sq.size; (try simp only [szs] at z_sq); (try (have q_sq_0 := own2 b_sq (w.heap.size + 1) (by first | omega | (simp only [szs]; omega)))); (try (have q_sq_1 := own3 b_sq (b5) (by first | omega | (simp only [szs]; omega)))); (try (have q_sq_2 := own3 b_sq (b6) (by first | omega | (simp only [szs]; omega)))))))
          go_roundw
          case rel => exact ⟨A, B', p, _, E / 2, hA, wq, op, onq, by omega, by go_num, by (repeat' (first | (with_reducible first | assumption | exact Two.own (by with_reducible assumption) | refine Two.set ?_ _ _ | refine Own2.set ?_ _ _ | refine Two.drew ?_ | refine Two.drewN ?_ _ | refine Own2.drew ?_ | refine Own2.drewN ?_ _ | (refine Two.new ?_; simp only [szs]; done) | (refine Own2.new ?_; simp only [szs]; done) | refine Two.alloc ?_ _ | refine Own2.alloc ?_ _ | refine Two.far ?_ ?_ _ _ | refine Own2.far ?_ ?_ _ _ | refine Two.via (by with_reducible assumption) ?_ ?_ | refine Own2.via (by with_reducible assumption) ?_ ?_) | omega | (simp only [szs]; omega))), by (repeat' (first | (with_reducible first | assumption | exact Three.own (by with_reducible assumption) | refine Three.set ?_ _ _ _ | refine Own3.set ?_ _ _ _ | refine Three.drew ?_ | refine Three.drewN ?_ _ | refine Own3.drew ?_ | refine Own3.drewN ?_ _ | (refine Three.new ?_; simp only [szs]; done) | (refine Own3.new ?_; simp only [szs]; done) | refine Three.alloc ?_ _ | refine Own3.alloc ?_ _ | refine Three.far ?_ ?_ _ _ | refine Own3.far ?_ ?_ _ _ | refine Three.via (by with_reducible assumption) ?_ ?_ | refine Own3.via (by with_reducible assumption) ?_ ?_) | omega | (simp only [szs]; omega))), by (repeat' (first | (with_reducible first | assumption | exact Three.own (by with_reducible assumption) | refine Three.set ?_ _ _ _ | refine Own3.set ?_ _ _ _ | refine Three.drew ?_ | refine Three.drewN ?_ _ | refine Own3.drew ?_ | refine Own3.drewN ?_ _ | (refine Three.new ?_; simp only [szs]; done) | (refine Own3.new ?_; simp only [szs]; done) | refine Three.alloc ?_ _ | refine Own3.alloc ?_ _ | refine Three.far ?_ ?_ _ _ | refine Own3.far ?_ ?_ _ _ | refine Three.via (by with_reducible assumption) ?_ ?_ | refine Own3.via (by with_reducible assumption) ?_ ?_) | omega | (simp only [szs]; omega))), by (repeat' (first | (with_reducible first | exact Below.refl _ _ | assumption | refine Below.alloc ?_ ?_ _ | refine Below.drew ?_ | refine below_drewN ?_ _ | refine Below.setCell ?_ ?_ _ | refine below_via (by with_reducible assumption) ?_ ?_) | omega | (simp only [szs]; omega) | (simp only [szs] at *; omega))), hn⟩
          case measure => simp [intOf]; omega
      · have hn : Hid (p = T) := by
          have := hI.out
          have hE0 : E = 0 := by omega
          rw [hE0] at this
          exact (Ob.gadd_zero op.out).symm.trans this
        have cn := enarrowW hA.out
        unfold wtV edV at cn
        go_wp2_with (first | (go_at_call 55; first | (with_reducible refine (cn _).mono ?_; rintro e w_cn ⟨rfl, b_cn⟩; have z_cn := b_cn.size; (try simp only [szs] at z_cn); (try (have q_cn_0 := own2 b_cn (w.heap.size + 1) (by first | omega | (simp only [szs]; omega)))); (try (have q_cn_1 := own3 b_cn (b5) (by first | omega | (simp only [szs]; omega)))); (try (have q_cn_2 := own3 b_cn (b6) (by first | omega | (simp only [szs]; omega)))))))
        exact bodyPost_ret (v := .agg #[.int .u64 (p.1.val : Nat), .int .u64 (p.2.val : Nat)]) (by simp [results, Tryd.results34, go_sem, *]) rfl ⟨by rw [← hn.out]; rfl, by (repeat' (first | (with_reducible first | exact Below.refl _ _ | assumption | refine Below.alloc ?_ ?_ _ | refine Below.drew ?_ | refine below_drewN ?_ _ | refine Below.setCell ?_ ?_ _ | refine below_via (by with_reducible assumption) ?_ ?_) | omega | (simp only [szs]; omega) | (simp only [szs] at *; omega)))⟩
end Go.Proofs.YtdhbkhmknnlmnaaDoor

namespace Go.Proofs.YtdhbkhmknnlmnaaDoor
open Go.RowKit Go.Proofs
set_option linter.unusedVariables false
set_option linter.unusedSimpArgs false

theorem eaddE {a b : Ob.Ep} (ha : Ob.onG a) (hb : Ob.onG b) (w : World) :
    Calls Tryd.prog 33 #[edV a, edV b] w fun e w' => e = .returned (edV (Ob.gadd a b)) ∧ Below w.heap.size w w' := by
  have := eaddW a.1.val a.2.val b.1.val b.2.val (Ob.G_word _) (Ob.G_word _) (Ob.G_word _) (Ob.G_word _) w
  rw [Ob.ofG_val ha, Ob.ofG_val hb] at this
  exact this
theorem emulE {a : Ob.Ep} (ha : Ob.onG a) (n : Nat) (hn : n < 18446744073709551616) (w : World) :
    Calls Tryd.prog 34 #[edV a, .int .u64 n] w fun e w' => e = .returned (edV (Ob.gmul a n)) ∧ Below w.heap.size w w' := by
  have := emulW a.1.val a.2.val n (Ob.G_word _) (Ob.G_word _) hn w
  rw [Ob.ofG_val ha] at this
  exact this
end Go.Proofs.YtdhbkhmknnlmnaaDoor

namespace Go.Proofs.YtdhbkhmknnlmnaaDoor
open Go.RowKit Go.Proofs
set_option linter.unusedVariables false
set_option linter.unusedSimpArgs false

theorem equalIn_Ed (d : Nat) (w : World) (x y x' y' : Int) : (Op.equalIn (d + 2) 25 (.agg #[.int .u64 x, .int .u64 y]) (.agg #[.int .u64 x', .int .u64 y'])).run Tryd.prog w = .ok (x == x' && y == y') w := by
  have hA : ∀ w : World, (isAgg 22).run Tryd.prog w = .ok false w := fun w => by kernel_rfl
  have hI : ∀ (w : World) (a b : Int), (Op.equalIn (d + 1) 22 (.int .u64 a) (.int .u64 b)).run Tryd.prog w = .ok (a == b) w := fun w a b => run_equalIn_int w d _ _ .u64 a b Tryd.underlying22
  unfold Op.equalIn
  simp only [Sem.run_bind, run_underlying Tryd.underlying25]
  cases h : (x == x') with
  | true =>
    cases h2 : (y == y') with
    | true => simp [go_sem, hA, hI, List.range', h, h2]
    | false => simp [go_sem, hA, hI, List.range', h, h2]
  | false => simp [go_sem, hA, hI, List.range', h]
theorem equal_Ed (w : World) (x y x' y' : Int) : (Op.equalIn 10000 25 (.agg #[.int .u64 x, .int .u64 y]) (.agg #[.int .u64 x', .int .u64 y'])).run Tryd.prog w = .ok (x == x' && y == y') w := equalIn_Ed 9998 w x y x' y'
/-- Whether it is 0. -/
def isZ (u : Ob.Ep) : Bool := decide (u = Ob.gzero)
theorem isZ_eq (u : Ob.Ep) : ((((u.1.val : Nat) : Int) == 0) && (((u.2.val : Nat) : Int) == 1)) = isZ u := by
  unfold isZ
  by_cases h : u = Ob.gzero
  · subst h; decide +kernel
  · rw [decide_eq_false h]
    rw [Bool.and_eq_false_iff]
    by_cases h1 : u.1.val = 0
    · refine Or.inr ?_
      have : u.2.val ≠ 1 := fun h2 => h (Prod.ext (Fin.ext h1) (Fin.ext h2))
      exact beq_eq_false_iff_ne.mpr (fun e => this (by omega))
    · refine Or.inl ?_
      exact beq_eq_false_iff_ne.mpr (fun e => h1 (by omega))
/-- Is a point told by these fields? -/
def isP (u : Ob.Ep) (p q : Int) : Bool := (((u.1.val : Nat) : Int) == p) && (((u.2.val : Nat) : Int) == q)
theorem eq_isP (w : World) (u : Ob.Ep) (p q : Int) : (Op.equalIn 10000 25 (.agg #[.int .u64 (u.1.val : Nat), .int .u64 (u.2.val : Nat)]) (.agg #[.int .u64 p, .int .u64 q])).run Tryd.prog w = .ok (isP u p q) w := by rw [equal_Ed]; rfl
end Go.Proofs.YtdhbkhmknnlmnaaDoor

namespace Go.Proofs.YtdhbkhmknnlmnaaDoor
open Go.RowKit Go.Proofs
set_option linter.unusedVariables false
set_option linter.unusedSimpArgs false
attribute [local go_sem ↓] Go.wp_at_zero Go.wp_at_succ

/-- Whether it is a point of order S. -/
def inS (x y : Nat) : Bool := Ob.isG x y && isZ (Ob.gmul (Ob.ofG x y) 72057593894066549)
set_option maxHeartbeats 1000000 in
theorem ein_yes (x y r s : Int) (w : World)
   (c0 : ∀ w, Calls Tryd.prog 59 #[.agg #[.int .u64 x, .int .u64 y]] w fun e w' => e = .returned (.bool true) ∧ Below w.heap.size w w')
   (c1 : ∀ w, Calls Tryd.prog 34 #[.agg #[.int .u64 x, .int .u64 y], .int .u64 72057593894066549] w fun e w' => e = .returned (.agg #[.int .u64 r, .int .u64 s]) ∧ Below w.heap.size w w')
   (c2 : ∀ w, Calls Tryd.prog 58 #[] w fun e w' => e = .returned (.agg #[.int .u64 0, .int .u64 1]) ∧ Below w.heap.size w w') :
    Calls Tryd.prog 40 #[.agg #[.int .u64 x, .int .u64 y]] w fun e w' => e = .returned (.bool (r == 0 && s == 1)) ∧ Below w.heap.size w w' := by
  have he := fun w => equal_Ed w r s 0 1
  obtain ⟨q, hq⟩ : ∃ q, Hid ((r == 0 && s == 1) = q) := ⟨_, rfl⟩
  rw [hq.out] at he ⊢
  go_enter Tryd.func40, Tryd.ntmps40
  go_wp2_with (first | (go_at_call 59; first | (with_reducible refine (c0 _).mono ?_; rintro e w_c0 ⟨rfl, b_c0⟩; have z_c0 := b_c0.size; (try simp only [szs] at z_c0); (try (have q_c0_0 := own2 b_c0 (w.heap.size) (by first | omega | (simp only [szs]; omega)))))) | (go_at_call 34; first | (with_reducible refine (c1 _).mono ?_; rintro e w_c1 ⟨rfl, b_c1⟩; have z_c1 := b_c1.size; (try simp only [szs] at z_c1); (try (have q_c1_0 := own2 b_c1 (w.heap.size) (by first | omega | (simp only [szs]; omega)))))) | (go_at_call 58; first | (with_reducible refine (c2 _).mono ?_; rintro e w_c2 ⟨rfl, b_c2⟩; have z_c2 := b_c2.size; (try simp only [szs] at z_c2); (try (have q_c2_0 := own2 b_c2 (w.heap.size) (by first | omega | (simp only [szs]; omega)))))))
  go_ret -- @HERE@
  exact ⟨rfl, by (repeat' (first | (with_reducible first | exact Below.refl _ _ | assumption | refine Below.alloc ?_ ?_ _ | refine Below.drew ?_ | refine below_drewN ?_ _ | refine Below.setCell ?_ ?_ _ | refine below_via (by with_reducible assumption) ?_ ?_) | omega | (simp only [szs]; omega) | (simp only [szs] at *; omega)))⟩
set_option maxHeartbeats 1000000 in
theorem ein_no (x y : Int) (w : World)
   (c0 : ∀ w, Calls Tryd.prog 59 #[.agg #[.int .u64 x, .int .u64 y]] w fun e w' => e = .returned (.bool false) ∧ Below w.heap.size w w') :
    Calls Tryd.prog 40 #[.agg #[.int .u64 x, .int .u64 y]] w fun e w' => e = .returned (.bool false) ∧ Below w.heap.size w w' := by
  go_enter Tryd.func40, Tryd.ntmps40
  go_wp2_with (first | (go_at_call 59; first | (with_reducible refine (c0 _).mono ?_; rintro e w_c0 ⟨rfl, b_c0⟩; have z_c0 := b_c0.size; (try simp only [szs] at z_c0); (try (have q_c0_0 := own2 b_c0 (w.heap.size) (by first | omega | (simp only [szs]; omega)))))))
  go_ret
  exact ⟨rfl, by (repeat' (first | (with_reducible first | exact Below.refl _ _ | assumption | refine Below.alloc ?_ ?_ _ | refine Below.drew ?_ | refine below_drewN ?_ _ | refine Below.setCell ?_ ?_ _ | refine below_via (by with_reducible assumption) ?_ ?_) | omega | (simp only [szs]; omega) | (simp only [szs] at *; omega)))⟩
theorem einW (x y : Nat) (hx : x < 18446744073709551616) (hy : y < 18446744073709551616) (w : World) :
    Calls Tryd.prog 40 #[.agg #[.int .u64 x, .int .u64 y]] w fun e w' => e = .returned (.bool (inS x y)) ∧ Below w.heap.size w w' := by
  have c0 := eisW x y hx hy
  unfold inS
  cases h : Ob.isG x y with
  | true =>
    rw [h] at c0
    rw [Bool.true_and, ← isZ_eq]
    exact ein_yes x y _ _ w c0 (emulW x y 72057593894066549 hx hy (by decide)) ezeroW
  | false =>
    rw [h] at c0
    exact ein_no x y w c0
end Go.Proofs.YtdhbkhmknnlmnaaDoor

namespace Go.Proofs.YtdhbkhmknnlmnaaDoor
open Go.RowKit Go.Proofs
set_option linter.unusedVariables false
set_option linter.unusedSimpArgs false
attribute [local go_sem ↓] Go.wp_at_zero Go.wp_at_succ

/-! Bytes -/

theorem eoddW (n : Nat) (hn : n < 18446744073709551616) (w : World) :
    Calls Tryd.prog 60 #[.int .u64 n] w fun e w' => e = .returned (.bool (decide (n % 2 = 1))) ∧ w = w' := by
  have hand := and_one n hn
  by_cases h : n % 2 = 1
  · rw [h] at hand
    rw [decide_eq_true h]
    clear h
    go_enter Tryd.func60, Tryd.ntmps60
    go_wp2
    go_ret
    exact ⟨rfl, rfl⟩
  · rw [show n % 2 = 0 by omega] at hand
    rw [decide_eq_false h]
    clear h
    go_enter Tryd.func60, Tryd.ntmps60
    go_wp2
    go_ret
    exact ⟨rfl, rfl⟩
theorem or_top (y : Nat) (hy : y < 9223372036854775808) : bits .or .u64 (y : Int) 9223372036854775808 = ((y + 9223372036854775808 : Nat) : Int) := by
  have h := bits_or_u64_nat y 9223372036854775808 (by omega) (by omega)
  have e : y ||| 9223372036854775808 = y + 9223372036854775808 := by
    have := Nat.two_pow_add_eq_or_of_lt (i := 63) (show y < 2 ^ 63 from hy) 1
    rw [Nat.mul_one] at this
    rw [Nat.or_comm, show (9223372036854775808 : Nat) = 2 ^ 63 from rfl, ← this, Nat.add_comm]
  rw [e] at h
  exact h
theorem andNot_top (n : Nat) (hn : n < 18446744073709551616) : bits .andNot .u64 (n : Int) 9223372036854775808 = ((Ob.lowY n : Nat) : Int) := by
  have h := u64_andNot_nat n 9223372036854775808 hn (by omega)
  have e : n &&& (18446744073709551615 - 9223372036854775808) = Ob.lowY n := Nat.and_two_pow_sub_one_eq_mod n 63
  rw [e] at h
  exact h
theorem and_top (n : Nat) (hn : n < 18446744073709551616) : bits .and .u64 (n : Int) 9223372036854775808 = ((9223372036854775808 * Ob.topO n : Nat) : Int) := by
  have h := bits_and_u64_nat n 9223372036854775808 hn (by omega)
  have e : n &&& 9223372036854775808 = 9223372036854775808 * Ob.topO n := by
    have ho : Ob.topO n < 2 := by unfold Ob.topO; omega
    have hl : Ob.lowY n < 2 ^ 63 := by unfold Ob.lowY; omega
    rcases (show Ob.topO n = 0 ∨ Ob.topO n = 1 by omega) with h | h
    · have e1 : n = Ob.lowY n := by unfold Ob.topO Ob.lowY at *; omega
      rw [h, e1]
      apply Nat.eq_of_testBit_eq
      intro i
      rw [Nat.testBit_and, show (9223372036854775808 : Nat) = 2 ^ 63 from rfl, Nat.testBit_two_pow]
      by_cases hi : 63 = i
      · subst hi; rw [Nat.testBit_lt_two_pow hl]; simp
      · simp [hi]
    · have e1 : n = 2 ^ 63 * 1 ||| Ob.lowY n := by
        rw [← Nat.two_pow_add_eq_or_of_lt (i := 63) hl 1]
        unfold Ob.topO Ob.lowY at *; omega
      rw [h]
      conv => lhs; rw [e1]
      apply Nat.eq_of_testBit_eq
      intro i
      rw [Nat.testBit_and, Nat.testBit_or, Nat.mul_one, show (9223372036854775808 : Nat) = 2 ^ 63 from rfl, Nat.testBit_two_pow]
      by_cases hi : 63 = i
      · subst hi; simp
      · simp [hi]
  rw [e] at h
  exact h

theorem one_lt (n : Nat) (hn : n < 18446744073709551616) (i : Nat) : (fun _ : Nat => n) i < 18446744073709551616 := hn
theorem byteOf_one (n i : Nat) (hi : i < 8) : byteOf (fun _ => n) i = Ob.byteAt n i := by
  unfold byteOf
  have : i % 8 = i := by omega
  rw [this]
theorem one_cell (W : World) (n : Nat) (t : TypeId) : ∀ i, i < 1 → (W.alloc (.cells #[.int .u64 n] t)).cell? ⟨W.heap.size, 0 + i, none⟩ = some (.int .u64 ((fun _ : Nat => n) i : Nat)) := by
  intro i hi
  obtain rfl : i = 0 := by omega
  simp [go_sem]
set_option maxHeartbeats 1000000 in
theorem ewrite_core (x y n : Nat) (o : Bool) (hn : n < 18446744073709551616) (w : World)
   (c0 : ∀ w, Calls Tryd.prog 59 #[.agg #[.int .u64 x, .int .u64 y]] w fun e w' => e = .returned (.bool true) ∧ Below w.heap.size w w')
   (c1 : ∀ w, Calls Tryd.prog 60 #[.int .u64 x] w fun e w' => e = .returned (.bool o) ∧ w = w')
   (ho : (o = true ∧ bits .or .u64 (y : Int) 9223372036854775808 = (n : Int)) ∨ (o = false ∧ n = y)) :
    Calls Tryd.prog 42 #[.agg #[.int .u64 x, .int .u64 y]] w fun e w' => ∃ g, e = .returned (.tuple #[.slice (some ⟨g, 0, none⟩) 8 8, .nilIface]) ∧ w.heap.size ≤ g ∧ w'.ownsRow g 5 1 (.slice (some ⟨g, 0, none⟩) 8 8) 8 (vals (Ob.byteAt n) 8) ∧ Below w.heap.size w w' := by
  have ev := vals_congr (byteOf fun _ => n) (Ob.byteAt n) 8 (fun i hi => byteOf_one n i hi)
  have c2 := fun (W : World) => bytesW W.heap.size 0 1 1 (fun _ => n) (one_lt n hn) (W.alloc (.cells #[.int .u64 n] 22)) (by decide) (one_cell W n _) (by simp)
  rw [show 8 * 1 = 8 from rfl, ev] at c2
  clear ev
  rcases ho with ⟨rfl, hb⟩ | ⟨rfl, rfl⟩
  · go_enter Tryd.func42, Tryd.ntmps42
    go_wp2_with (first | (first | (go_at_call 59; first | (with_reducible refine (c0 _).mono ?_; rintro e w_c0 ⟨rfl, b_c0⟩; have z_c0 := b_c0.size; (try simp only [szs] at z_c0); (try (have q_c0_0 := own2 b_c0 (w.heap.size) (by first | omega | (simp only [szs]; omega)))))) | (go_at_call 60; first | (with_reducible refine (c1 _).mono ?_; rintro e w' ⟨rfl, rfl⟩))) | (go_at_call 61; with_reducible refine (c2 _).mono ?_; rintro e W2 ⟨rfl, o2, b2⟩; have z2 := b2.size; simp only [szs] at z2))
    go_ret2
    simp only [World.size_alloc] at o2 b2
    exact ⟨_, rfl, by omega, o2, by (repeat' (first | (with_reducible first | exact Below.refl _ _ | assumption | refine Below.alloc ?_ ?_ _ | refine Below.drew ?_ | refine below_drewN ?_ _ | refine Below.setCell ?_ ?_ _ | refine below_via (by with_reducible assumption) ?_ ?_) | omega | (simp only [szs]; omega) | (simp only [szs] at *; omega)))⟩
  · go_enter Tryd.func42, Tryd.ntmps42
    go_wp2_with (first | (first | (go_at_call 59; first | (with_reducible refine (c0 _).mono ?_; rintro e w_c0 ⟨rfl, b_c0⟩; have z_c0 := b_c0.size; (try simp only [szs] at z_c0); (try (have q_c0_0 := own2 b_c0 (w.heap.size) (by first | omega | (simp only [szs]; omega)))))) | (go_at_call 60; first | (with_reducible refine (c1 _).mono ?_; rintro e w' ⟨rfl, rfl⟩))) | (go_at_call 61; with_reducible refine (c2 _).mono ?_; rintro e W2 ⟨rfl, o2, b2⟩; have z2 := b2.size; simp only [szs] at z2))
    go_ret2
    simp only [World.size_alloc] at o2 b2
    exact ⟨_, rfl, by omega, o2, by (repeat' (first | (with_reducible first | exact Below.refl _ _ | assumption | refine Below.alloc ?_ ?_ _ | refine Below.drew ?_ | refine below_drewN ?_ _ | refine Below.setCell ?_ ?_ _ | refine below_via (by with_reducible assumption) ?_ ?_) | omega | (simp only [szs]; omega) | (simp only [szs] at *; omega)))⟩
theorem ewriteW {u : Ob.Ep} (hu : Ob.onG u) (w : World) :
    Calls Tryd.prog 42 #[edV u] w fun e w' => ∃ g, e = .returned (.tuple #[.slice (some ⟨g, 0, none⟩) 8 8, .nilIface]) ∧ w.heap.size ≤ g ∧ w'.ownsRow g 5 1 (.slice (some ⟨g, 0, none⟩) 8 8) 8 (vals (Ob.byteAt (Ob.edN u)) 8) ∧ Below w.heap.size w w' := by
  have c0 := eisW u.1.val u.2.val (Ob.G_word _) (Ob.G_word _)
  rw [Ob.on_isG hu] at c0
  refine ewrite_core u.1.val u.2.val (Ob.edN u) _ (Ob.edN_lt u) w c0 (eoddW u.1.val (Ob.G_word _)) ?_
  by_cases h : u.1.val % 2 = 1
  · refine Or.inl ⟨decide_eq_true h, ?_⟩
    rw [or_top _ (Nat.lt_trans (Ob.RE_small u.2) (by decide)), Ob.edN, if_pos h]
  · exact Or.inr ⟨decide_eq_false h, by rw [Ob.edN, if_neg h]⟩
set_option maxHeartbeats 1000000 in
theorem ewrite_no (x y : Int) (w : World)
   (c0 : ∀ w, Calls Tryd.prog 59 #[.agg #[.int .u64 x, .int .u64 y]] w fun e w' => e = .returned (.bool false) ∧ Below w.heap.size w w') :
    Calls Tryd.prog 42 #[.agg #[.int .u64 x, .int .u64 y]] w fun e w' => e = .returned (.tuple #[.slice none 0 0, .iface 31 (.int .i64 1)]) ∧ Below w.heap.size w w' := by
  go_enter Tryd.func42, Tryd.ntmps42
  go_wp2_with (first | (go_at_call 59; first | (with_reducible refine (c0 _).mono ?_; rintro e w_c0 ⟨rfl, b_c0⟩; have z_c0 := b_c0.size; (try simp only [szs] at z_c0); (try (have q_c0_0 := own2 b_c0 (w.heap.size) (by first | omega | (simp only [szs]; omega)))))))
  go_ret2
  exact ⟨rfl, by (repeat' (first | (with_reducible first | exact Below.refl _ _ | assumption | refine Below.alloc ?_ ?_ _ | refine Below.drew ?_ | refine below_drewN ?_ _ | refine Below.setCell ?_ ?_ _ | refine below_via (by with_reducible assumption) ?_ ?_) | omega | (simp only [szs]; omega) | (simp only [szs] at *; omega)))⟩
end Go.Proofs.YtdhbkhmknnlmnaaDoor

namespace Go.Proofs.YtdhbkhmknnlmnaaDoor
open Go.RowKit Go.Proofs
set_option linter.unusedVariables false
set_option linter.unusedSimpArgs false
attribute [local go_sem ↓] Go.wp_at_zero Go.wp_at_succ

def isKey (k : Nat) : Bool := decide (0 < k ∧ k < 72057593894066549)
theorem isKey_or (k : Nat) : (0 < (k : Int) ∧ decide ((k : Int) < 72057593894066549) = isKey k) ∨ (¬ 0 < (k : Int) ∧ isKey k = false) := by
  unfold isKey
  by_cases h0 : 0 < k
  · refine Or.inl ⟨by omega, ?_⟩
    by_cases h1 : k < 72057593894066549
    · rw [decide_eq_true (by omega), decide_eq_true ⟨h0, h1⟩]
    · rw [decide_eq_false (by omega), decide_eq_false (fun h => h1 h.2)]
  · exact Or.inr ⟨by omega, decide_eq_false (fun h => h0 h.1)⟩
theorem skey_core (k : Int) (q : Bool) (w : World) (h : (0 < k ∧ decide (k < 72057593894066549) = q) ∨ (¬ 0 < k ∧ q = false)) : Calls Tryd.prog 24 #[.int .u64 k] w fun e w' => e = .returned (.bool q) ∧ w = w' := by
  rcases h with ⟨h0, h1⟩ | ⟨h0, rfl⟩
  · go_enter Tryd.func24, Tryd.ntmps24
    go_wp2
    go_ret
    exact ⟨rfl, rfl⟩
  · go_enter Tryd.func24, Tryd.ntmps24
    go_wp2
    go_ret
    exact ⟨rfl, rfl⟩
theorem skeyW (k : Nat) (w : World) : Calls Tryd.prog 24 #[.int .u64 k] w fun e w' => e = .returned (.bool (isKey k)) ∧ w = w' := skey_core k _ w (isKey_or k)
theorem szeroW (w : World) : Calls Tryd.prog 54 #[] w fun e w' => e = .returned (.agg #[.int .u64 0, .int .u64 1]) ∧ Below w.heap.size w w' := by
  go_enter Tryd.func54, Tryd.ntmps54
  go_wp2
  exact bodyPost_ret (v := .agg #[.int .u64 0, .int .u64 1]) (by simp [results, Tryd.results54, go_sem]) rfl ⟨rfl, by (repeat' (first | (with_reducible first | exact Below.refl _ _ | assumption | refine Below.alloc ?_ ?_ _ | refine Below.drew ?_ | refine below_drewN ?_ _ | refine Below.setCell ?_ ?_ _ | refine below_via (by with_reducible assumption) ?_ ?_) | omega | (simp only [szs]; omega) | (simp only [szs] at *; omega)))⟩
theorem splus_core (a b r : Int) (w : World)
   (c : ∀ w, Calls Tryd.prog 45 #[.int .u64 72057593894066549, .int .u64 a, .int .u64 b] w fun e w' => e = .returned (.int .u64 r) ∧ w = w') :
    Calls Tryd.prog 27 #[.int .u64 a, .int .u64 b] w fun e w' => e = .returned (.int .u64 r) ∧ w = w' := by
  go_enter Tryd.func27, Tryd.ntmps27
  go_wp2_with (first | (go_at_call 45; first | (with_reducible refine (c _).mono ?_; rintro e w' ⟨rfl, rfl⟩)))
  go_ret
  exact ⟨rfl, rfl⟩
theorem splusW (a b : Nat) (ha : a < 18446744073709551616) (hb : b < 18446744073709551616) (w : World) :
    Calls Tryd.prog 27 #[.int .u64 a, .int .u64 b] w fun e w' => e = .returned (.int .u64 ((a + b) % 72057593894066549 : Nat)) ∧ w = w' := by
  have c := fun w => add_any 72057593894066549 a b w (by decide) ha hb
  rw [Ob.add_yes ⟨by decide, by decide⟩] at c
  exact splus_core _ _ _ w c
set_option maxHeartbeats 1000000 in
theorem sfirst_core (k x y : Int) (w : World)
   (c1 : ∀ w, Calls Tryd.prog 34 #[.agg #[.int .u64 223588670687113535, .int .u64 82055451961885530], .int .u64 k] w fun e w' => e = .returned (.agg #[.int .u64 x, .int .u64 y]) ∧ Below w.heap.size w w') :
    Calls Tryd.prog 25 #[.int .u64 k] w fun e w' => e = .returned (.agg #[.int .u64 x, .int .u64 y]) ∧ Below w.heap.size w w' := by
  have c0 := egenW
  go_enter Tryd.func25, Tryd.ntmps25
  go_wp2_with (first | (go_at_call 41; first | (with_reducible refine (c0 _).mono ?_; rintro e w_c0 ⟨rfl, b_c0⟩; have z_c0 := b_c0.size; (try simp only [szs] at z_c0); (try (have q_c0_0 := own2 b_c0 (w.heap.size) (by first | omega | (simp only [szs]; omega)))))) | (go_at_call 34; first | (with_reducible refine (c1 _).mono ?_; rintro e w_c1 ⟨rfl, b_c1⟩; have z_c1 := b_c1.size; (try simp only [szs] at z_c1); (try (have q_c1_0 := own2 b_c1 (w.heap.size) (by first | omega | (simp only [szs]; omega)))))))
  exact bodyPost_ret (v := .agg #[.int .u64 x, .int .u64 y]) (by simp [results, Tryd.results25, go_sem, *]) rfl ⟨rfl, by (repeat' (first | (with_reducible first | exact Below.refl _ _ | assumption | refine Below.alloc ?_ ?_ _ | refine Below.drew ?_ | refine below_drewN ?_ _ | refine Below.setCell ?_ ?_ _ | refine below_via (by with_reducible assumption) ?_ ?_) | omega | (simp only [szs]; omega) | (simp only [szs] at *; omega)))⟩
theorem sfirstW (k : Nat) (hk : k < 18446744073709551616) (w : World) :
    Calls Tryd.prog 25 #[.int .u64 k] w fun e w' => e = .returned (edV (Ob.gmul Ob.gGen k)) ∧ Below w.heap.size w w' :=
  sfirst_core _ _ _ w (emulE Ob.onG_gen k hk)
set_option maxHeartbeats 4000000 in
theorem squest_core (ax ay kx ky : Int) (p q m c : Nat) (ad : Option Addr) (u : Nat → Nat) (r : Int) (w : World) (hS : SrcY w.heap.size w ad m u)
   (cU : ∀ w, Calls Tryd.prog 42 #[.agg #[.int .u64 ax, .int .u64 ay]] w fun e w' => ∃ g, e = .returned (.tuple #[.slice (some ⟨g, 0, none⟩) 8 8, .nilIface]) ∧ w.heap.size ≤ g ∧ Bys w' g 0 8 (Ob.byteAt p) ∧ Below w.heap.size w w')
   (cV : ∀ w, Calls Tryd.prog 42 #[.agg #[.int .u64 kx, .int .u64 ky]] w fun e w' => ∃ g, e = .returned (.tuple #[.slice (some ⟨g, 0, none⟩) 8 8, .nilIface]) ∧ w.heap.size ≤ g ∧ Bys w' g 0 8 (Ob.byteAt q) ∧ Below w.heap.size w w')
   (cL : ∀ (g b1 b2 : Nat) (W : World), W.cell? ⟨g, 0, none⟩ = some (.slice (some ⟨b1, 0, none⟩) 8 8) → W.cell? ⟨g, 1, none⟩ = some (.slice (some ⟨b2, 0, none⟩) 8 8) → W.cell? ⟨g, 2, none⟩ = some (.slice ad m c) → g < W.heap.size →
      Bys W b1 0 8 (Ob.byteAt p) → Bys W b2 0 8 (Ob.byteAt q) → SrcY W.heap.size W ad m u →
      Calls Tryd.prog 44 #[.slice (some ⟨g, 0, none⟩) 3 3] W fun e w' => ∃ g' cap, e = .returned (.slice (some ⟨g', 0, none⟩) (16 + m) cap) ∧ 16 + m ≤ cap ∧ Bys w' g' 0 (16 + m) (askZ p q u) ∧ Below W.heap.size W w')
   (cN : ∀ (g cap : Nat) (W : World), Below w.heap.size w W → 16 + m ≤ cap → Bys W g 0 (16 + m) (askZ p q u) → Calls Tryd.prog 43 #[.string ⟨#[115, 99, 104, 110, 111, 114, 114]⟩, .slice (some ⟨g, 0, none⟩) (16 + m) cap, .int .u64 72057593894066549] W fun e w' => e = .returned (.tuple #[.int .u64 r, .nilIface]) ∧ Below W.heap.size W w') :
    Calls Tryd.prog 26 #[.agg #[.int .u64 ax, .int .u64 ay], .agg #[.int .u64 kx, .int .u64 ky], .slice ad m c] w fun e w' => e = .returned (.int .u64 r) ∧ Below w.heap.size w w' := by
  have hS' : Hid (SrcY w.heap.size w ad m u) := hS
  clear hS
  go_enter Tryd.func26, Tryd.ntmps26
  go_upto_region 2 with (go_at_call 42; (with_reducible refine (cU _).mono ?_); rintro e w1 ⟨g1, rfl, l1, y1, b1⟩; have z1 := b1.size; (try simp only [szs] at z1 l1); have q1 := own2 b1 (w.heap.size + 1) (by first | omega | (simp only [szs]; omega)))
  go_upto_region 3 with (go_at_call 42; (with_reducible refine (cV _).mono ?_); rintro e w2 ⟨g2, rfl, l2, y2, b2⟩; have z2 := b2.size; (try simp only [szs] at z2 l2))
  have y1' : Hid (Bys w2 g1 0 8 (Ob.byteAt p)) := y1.below b2 y1.lt
  have y2' : Hid (Bys w2 g2 0 8 (Ob.byteAt q)) := y2
  have hB2 : Below w.heap.size w w2 := by (repeat' (first | (with_reducible first | exact Below.refl _ _ | assumption | refine Below.alloc ?_ ?_ _ | refine Below.drew ?_ | refine below_drewN ?_ _ | refine Below.setCell ?_ ?_ _ | refine below_via (by with_reducible assumption) ?_ ?_) | omega | (simp only [szs]; omega) | (simp only [szs] at *; omega)))
  clear y1 y2 q1 b1 b2 cU cV l1 l2
  go_wp2_with (first
    | (go_at_call 44; (with_reducible refine (cL _ _ _ _ (by simp [go_sem]) (by simp [go_sem]) (by simp [go_sem]) (by simp [go_sem]) (y1'.out.alloc _) (y2'.out.alloc _) (hS'.out.to (hB2.alloc (by omega) _) (Nat.le_refl _))).mono ?_); rintro e w3 ⟨g3, c3, rfl, l3, y3, b3⟩; have z3 := b3.size; (try simp only [szs] at z3); have hB3 : Below w.heap.size w w3 := (by (repeat' (first | (with_reducible first | exact Below.refl _ _ | assumption | refine Below.alloc ?_ ?_ _ | refine Below.drew ?_ | refine below_drewN ?_ _ | refine Below.setCell ?_ ?_ _ | refine below_via (by with_reducible assumption) ?_ ?_) | omega | (simp only [szs]; omega) | (simp only [szs] at *; omega)))))
    | (go_at_call 43; (with_reducible refine (cN _ _ _ hB3 l3 y3).mono ?_); rintro e w4 ⟨rfl, b4⟩; have z4 := b4.size))
  go_ret -- @HERE@
  exact ⟨rfl, by (repeat' (first | (with_reducible first | exact Below.refl _ _ | assumption | refine Below.alloc ?_ ?_ _ | refine Below.drew ?_ | refine below_drewN ?_ _ | refine Below.setCell ?_ ?_ _ | refine below_via (by with_reducible assumption) ?_ ?_) | omega | (simp only [szs]; omega) | (simp only [szs] at *; omega)))⟩
theorem squestW {a k : Ob.Ep} (ha : Ob.onG a) (hk : Ob.onG k) (ad : Option Addr) (m c : Nat) (hm : m ≤ 140737488351232) (u : Nat → Nat) (hu : ∀ i, u i < 256) (w : World) (hT : Tabs w) (hS : SrcY w.heap.size w ad m u) :
    Calls Tryd.prog 26 #[edV a, edV k, .slice ad m c] w fun e w' => e = .returned (.int .u64 (askN (Ob.edN a) (Ob.edN k) u m : Nat)) ∧ Below w.heap.size w w' :=
  squest_core _ _ _ _ (Ob.edN a) (Ob.edN k) m c ad u _ w hS
    (fun w => (ewriteW ha w).mono fun e w' ⟨g, h1, h2, h3, h4⟩ => ⟨g, h1, h2, bys_of_row h3, h4⟩)
    (fun w => (ewriteW hk w).mono fun e w' ⟨g, h1, h2, h3, h4⟩ => ⟨g, h1, h2, bys_of_row h3, h4⟩)
    (fun g b1 b2 W e0 e1 e2 hg y1 y2 hs => laidW (Ob.edN a) (Ob.edN k) m c u ad hm g b1 b2 W e0 e1 e2 hg y1 y2 hs)
    (fun g cap W hB hc hy => numW schS (by decide) (some ⟨g, 0, none⟩) (16 + m) cap (by omega) hc _ (fun i => askZ_lt _ _ _ hu i) 72057593894066549 (by decide) W (hT.below hB hT.lt) (Or.inr ⟨g, 0, rfl, hy⟩))
end Go.Proofs.YtdhbkhmknnlmnaaDoor
