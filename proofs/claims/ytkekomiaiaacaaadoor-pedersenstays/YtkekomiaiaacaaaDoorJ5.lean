/-
  Joined texts: Package blake, walked: Press. Package blake, walked: the words of a digest. Package blake, walked: Sum and Number. The walks of package edwards: found points. The bases of the first places are there. Sums of multiples of points of order S: they add up. What the rows of this seat share: how arguments are opened. Rows of words of 64 bits: read, joined, copied.
-/
import Derived.Test.YtkekomiaiaacaaaDoorJ4
import Derived.Test.YtkekomiaiaacaaaDoorJ3
import Derived.Test.YtkekomiaiaacaaaDoorJ2
import Derived.Test.YtkekomiaiaacaaaDoorRows
import Derived.WalkKit
import Derived.ProofKit
import Derived.OpenShut
import Derived.ShutString
import Derived.ChangeOld
import Derived.Below
import Derived.SizedLaws
import Derived.Test.YtkekomiaiaacaaaDoorJ1
import Derived.Deep.AppendSrc
import Derived.Deep.AppendLies
import Derived.Deep.DeepAppendRoom
import Derived.Laws.AppendOwn
import Derived.OwnWalk

namespace Go.Proofs.YtkekomiaiaacaaaDoor
open Go.RowKit Go.Proofs
set_option linter.unusedVariables false
set_option linter.unusedSimpArgs false
attribute [local go_sem ↓] Go.wp_at_zero Go.wp_at_succ

theorem word_lt {z : Nat → Nat} (hz : ∀ i, z i < 256) : Ob.Words32 (wordAt z) := fun j => by
  have h0 := hz (4 * j)
  have h1 := hz (4 * j + 1)
  have h2 := hz (4 * j + 2)
  have h3 := hz (4 * j + 3)
  unfold wordAt
  omega
/-- h with i of its words pressed. -/
def pressI (h v : Nat → Nat) (i j : Nat) : Nat := if j < i then h j ^^^ (v j ^^^ v (j + 8)) else h j
theorem pressI_zero (h v : Nat → Nat) : pressI h v 0 = h := by funext j; simp [pressI]
theorem pressI_succ (h v : Nat → Nat) (i : Nat) : Ob.upd (pressI h v i) i (h i ^^^ (v i ^^^ v (i + 8))) = pressI h v (i + 1) := by
  funext j
  unfold Ob.upd pressI
  by_cases h1 : j = i
  · subst h1; simp
  · by_cases h2 : j < i
    · simp [h1, h2, Nat.lt_succ_of_lt h2]
    · simp [h1, h2]; omega

set_option maxHeartbeats 4000000 in
theorem press_core (h z : Nat → Nat) (hh : Ob.Words32 h) (hz : ∀ i, z i < 256) (n : Nat) (hn : n < 18446744073709551616) (last : Bool) (w : World) (hT : Tabs w) :
    Calls Tryd.prog 69 #[arrV .u32 h 8, arrV .u8 z 64, .int .u64 n, .bool last] w fun e w' => e = .returned (arrV .u32 (Ob.press h (wordAt z) n last) 8) ∧ Below w.heap.size w w' := by
  unfold arrV
  have hl := arrL_length .u32 h 8
  have hl' := arrL_length .u8 z 64
  have hT' : Hid (Tabs w) := hT
  have hh' : Hid (Ob.Words32 h) := hh
  have hz' : Hid (∀ i, z i < 256) := hz
  clear hT hh hz
  go_enter Tryd.func69, Tryd.ntmps69
  go_upto_region 1 with (fail)
  obtain ⟨W0, hW0⟩ : ∃ W, Hid ((((w.alloc (.cells (arrL .u32 h 8).toArray 65)).alloc (.cells (arrL .u8 z 64).toArray 87)).alloc (.cells (arrL .u32 (fun _ => 0) 8).toArray 65)) = W) := ⟨_, rfl⟩
  have th0 : Arr W0 .u32 w.heap.size 8 h := by rw [← hW0.out]; exact ((Arr.new rfl).alloc _).alloc _
  have tb0 : Arr W0 .u8 (w.heap.size + 1) 64 z := by rw [← hW0.out]; exact (Arr.new (by simp)).alloc _
  have tr0 : Arr W0 .u32 (w.heap.size + 1 + 1) 8 (fun _ => 0) := by rw [← hW0.out]; exact Arr.new (by simp)
  have hB0 : Below w.heap.size w W0 := by rw [← hW0.out]; (repeat' (first | (with_reducible first | exact Below.refl _ _ | assumption | refine Below.alloc ?_ ?_ _ | refine Below.drew ?_ | refine below_drewN ?_ _ | refine Below.setCell ?_ ?_ _ | refine below_via (by with_reducible assumption) ?_ ?_) | omega | (simp only [szs]; omega) | (simp only [szs] at *; omega)))
  change Code.wp _ _ _ _ (((w.alloc (.cells (arrL .u32 h 8).toArray 65)).alloc (.cells (arrL .u8 z 64).toArray 87)).alloc (.cells (arrL .u32 (fun _ => 0) 8).toArray 65))
  rw [hW0.out]
  clear hW0
  obtain ⟨N, hN⟩ : ∃ N, Hid (w.heap.size = N) := ⟨_, rfl⟩
  rw [hN.out] at th0 tb0 tr0 hB0 ⊢
  have hlN : 5 ≤ N := by have := hT'.out.lt; have := hN.out; omega
  have c1 := sixteen_core h hh'.out n hn last W0 (hT'.out.below hB0 hlN)
  unfold arrV at c1
  have l0 := tr0.lt
  go_upto_region 2 with (first | ((with_reducible refine wpList_loadLit th0 ?_ Tryd.underlying65 ?_ ?_ ?_); (focus rfl); (focus rfl); (focus kernel_rfl); simp only [Act.put, List.setIfInBounds_toArray, List.set_cons_zero, List.set_cons_succ]) | ((with_reducible refine wpList_storeLit (Ob.six h n last) Arr.new16 ?_ ?_ ?_ ?_); (focus rfl); (focus rfl); (focus kernel_rfl); intro W2 hW2_ tW2_ zW2_; try simp only [Act.put, List.setIfInBounds_toArray, List.set_cons_zero, List.set_cons_succ]) | (go_at_call 75; with_reducible refine c1.mono ?_; rintro e W1 ⟨rfl, b1⟩))
  have l1 := b1.size
  have th2 : Arr W2 .u32 N 8 h := by rw [hW2_.out]; exact ((th0.below b1 (by omega)).alloc _).farCells (by omega) _ _
  have tb2 : Arr W2 .u8 (N + 1) 64 z := by rw [hW2_.out]; exact ((tb0.below b1 (by omega)).alloc _).farCells (by omega) _ _
  have tr2 : Arr W2 .u32 (N + 1 + 1) 8 (fun _ => 0) := by rw [hW2_.out]; exact ((tr0.below b1 (by omega)).alloc _).farCells (by omega) _ _
  have hB1 : Below N w W1 := below_via b1 hB0 (by omega)
  have hB2 : Below N w W2 := by rw [hW2_.out]; exact below_setCells (hB1.alloc (by omega) _) (by omega) _ _
  have tv2 := tW2_.out
  obtain ⟨V, hV⟩ : ∃ V, Hid (W1.heap.size = V) := ⟨_, rfl⟩
  rw [hV.out] at tv2
  have lV : N + 1 + 1 < V := by have := hV.out; omega
  rw [hV.out]
  clear th0 tb0 tr0 hB0 hB1 hW2_ tW2_ zW2_ l1 b1 c1 l0 hV
  have c2 := blockWords_core z hz'.out W2
  unfold arrV at c2
  have l2 := tr2.lt
  have l2' := tv2.lt
  go_upto_region 3 with (first | ((with_reducible refine wpList_loadLit tb2 ?_ Tryd.underlying87 ?_ ?_ ?_); (focus rfl); (focus rfl); (focus kernel_rfl); simp only [Act.put, List.setIfInBounds_toArray, List.set_cons_zero, List.set_cons_succ]) | ((with_reducible refine wpList_storeLit (wordAt z) Arr.new16 ?_ ?_ ?_ ?_); (focus rfl); (focus rfl); (focus kernel_rfl); intro W4 hW4_ tW4_ zW4_; try simp only [Act.put, List.setIfInBounds_toArray, List.set_cons_zero, List.set_cons_succ]) | (go_at_call 76; with_reducible refine c2.mono ?_; rintro e W3 ⟨rfl, b3⟩))
  have l3 := b3.size
  have th4 : Arr W4 .u32 N 8 h := by rw [hW4_.out]; exact ((th2.below b3 (by omega)).alloc _).farCells (by omega) _ _
  have tr4 : Arr W4 .u32 (N + 1 + 1) 8 (fun _ => 0) := by rw [hW4_.out]; exact ((tr2.below b3 (by omega)).alloc _).farCells (by omega) _ _
  have tv4 : Arr W4 .u32 V 16 (Ob.six h n last) := by rw [hW4_.out]; exact ((tv2.below b3 (by omega)).alloc _).farCells (by omega) _ _
  have hB3 : Below N w W3 := below_via b3 hB2 (by omega)
  have hB4 : Below N w W4 := by rw [hW4_.out]; exact below_setCells (hB3.alloc (by omega) _) (by omega) _ _
  have tm4 := tW4_.out
  obtain ⟨M, hM⟩ : ∃ V, Hid (W3.heap.size = V) := ⟨_, rfl⟩
  rw [hM.out] at tm4
  have lM : V < M := by have := hM.out; omega
  rw [hM.out]
  clear th2 tb2 tr2 tv2 hB2 hB3 hW4_ tW4_ zW4_ l3 b3 c2 l2 l2' hM
  have hs : Hid (Ob.Words32 (Ob.six h n last)) := Ob.six_words hh'.out hn last
  have hm : Hid (Ob.Words32 (wordAt z)) := word_lt hz'.out
  obtain ⟨m, hmE⟩ : ∃ m, Hid (wordAt z = m) := ⟨_, rfl⟩
  obtain ⟨v, hvE⟩ : ∃ m, Hid (Ob.six h n last = m) := ⟨_, rfl⟩
  have hend : Hid (Ob.press h (wordAt z) n last = fun j => h j ^^^ (Ob.rounds v m 10 j ^^^ Ob.rounds v m 10 (j + 8))) := by rw [← hmE.out, ← hvE.out]; rfl
  rw [hmE.out] at tm4 hm ⊢
  rw [hvE.out] at tv4 hs ⊢
  go_wp2
  go_loopw [19] (fun s19 wr => ∃ (r : Nat), r ≤ 10 ∧ s19 = .int .i64 (r : Nat) ∧ Hid (Arr wr .u32 N 8 h) ∧ Hid (Arr wr .u32 (N + 1 + 1) 8 (fun _ => 0)) ∧ Hid (Arr wr .u32 M 16 m) ∧ Hid (Arr wr .u32 V 16 (Ob.rounds v m r)) ∧ Below N w wr) (fun s19 _ => 10 - (intOf s19).toNat)
  case atStart => exact ⟨0, by omega, rfl, th4, tr4, tm4, tv4, hB4⟩
  case round =>
    clear th4 tr4 tm4 tv4 hB4
    obtain ⟨r, hr, rfl, th, tr, tm, tv, hB⟩ := hrel
    have l0 := hB.size
    by_cases hlt : r < 10
    · have c3 := mixed_core (Ob.rounds v m r) m (Ob.rounds_words hs.out m r) hm.out r hlt wr (hT'.out.below hB hlN)
      unfold arrV at c3
      have r0 : (r : Int) < 10 := by omega
      have hnext : Hid (Ob.roundN (Ob.rounds v m r) m r 8 = Ob.rounds v m (r + 1)) := rfl
      rw [hnext.out] at c3
      have l1 := tm.out.lt
      have l2 := tv.out.lt
      have ev : Ob.Words32 v := hs.out
      go_wp2_with (first | ((with_reducible refine wpList_loadLit tv.out ?_ Tryd.underlying74 ?_ ?_ ?_); (focus rfl); (focus rfl); (focus kernel_rfl); simp only [Act.put, List.setIfInBounds_toArray, List.set_cons_zero, List.set_cons_succ]) | ((with_reducible refine wpList_loadLit tm.out ?_ Tryd.underlying74 ?_ ?_ ?_); (focus rfl); (focus rfl); (focus kernel_rfl); simp only [Act.put, List.setIfInBounds_toArray, List.set_cons_zero, List.set_cons_succ]) | ((with_reducible refine wpList_storeLit (Ob.rounds v m (r + 1)) tv6 ?_ ?_ ?_ ?_); (focus rfl); (focus rfl); (focus kernel_rfl); intro W7 hW7_ tW7_ zW7_; try simp only [Act.put, List.setIfInBounds_toArray, List.set_cons_zero, List.set_cons_succ]) | (go_at_call 77; with_reducible refine c3.mono ?_; rintro e W6 ⟨rfl, b6⟩; have tv6 := tv.out.below b6 l2))
      have th7 : Hid (Arr W7 .u32 N 8 h) := by rw [hW7_.out]; exact (th.out.below b6 (by omega)).farCells (by omega) _ _
      have tr7 : Hid (Arr W7 .u32 (N + 1 + 1) 8 (fun _ => 0)) := by rw [hW7_.out]; exact (tr.out.below b6 (by omega)).farCells (by omega) _ _
      have tm7 : Hid (Arr W7 .u32 M 16 m) := by rw [hW7_.out]; exact (tm.out.below b6 (by omega)).farCells (by omega) _ _
      have hB6 : Below N w W6 := below_via b6 hB (by omega)
      have hB7 : Below N w W7 := by rw [hW7_.out]; exact below_setCells hB6 (by omega) _ _
      go_roundw
      case rel => exact ⟨r + 1, by omega, by go_num, th7, tr7, tm7, tW7_, hB7⟩
      case measure => (simp only [intOf, Int.toNat_natCast]; omega)
    · obtain rfl : r = 10 := by omega
      go_upto_region 8 with (fail)
      have hv' : Hid (Ob.Words32 (Ob.rounds v m 10)) := Ob.rounds_words hs.out m 10
      obtain ⟨v', hvE'⟩ : ∃ m', Hid (Ob.rounds v m 10 = m') := ⟨_, rfl⟩
      rw [hvE'.out] at tv hv' hend
      have th' : Hid (Arr wr .u32 N 8 (pressI h v' 0)) := by rw [pressI_zero]; exact th.out
      clear th
      rw [show ((10 : Nat) : Int) = 10 from rfl]
      go_wp2
      go_loopw [27] (fun s27 wr => ∃ (i : Nat), i ≤ 8 ∧ s27 = .int .i64 (i : Nat) ∧ Hid (Arr wr .u32 N 8 (pressI h v' i)) ∧ Hid (Arr wr .u32 (N + 1 + 1) 8 (fun _ => 0)) ∧ Hid (Arr wr .u32 V 16 v') ∧ Below N w wr) (fun s27 _ => 8 - (intOf s27).toNat)
      case atStart => exact ⟨0, by omega, rfl, th', tr, tv, hB⟩
      case round =>
        clear th' tr tv hB tm
        obtain ⟨i, hi, rfl, th, tr, tv, hB⟩ := hrel
        have l1 := hB.size
        by_cases hi8 : i < 8
        · have p0 := th.out.drew.c i hi8
          have p1 := tv.out.drew.c i (by omega)
          have p2 := tv.out.drew.c (i + 8) (by omega)
          have p3 := th.out.c i hi8
          have p4 := th.out.f i hi8
          have e0 : pressI h v' i i = h i := by unfold pressI; rw [if_neg (by omega)]
          rw [e0] at p0 p3
          have x1 := xor_u32 (v' i) (v' (i + 8)) (hv'.out i) (hv'.out (i + 8))
          have x2 := xor_u32 (h i) (v' i ^^^ v' (i + 8)) (hh'.out i) (Ob.xor_lt (hv'.out i) (hv'.out (i + 8)))
          obtain ⟨Y, hY⟩ : ∃ Y, Hid (v' i ^^^ v' (i + 8) = Y) := ⟨_, rfl⟩
          obtain ⟨X, hX⟩ : ∃ X, Hid (h i ^^^ (v' i ^^^ v' (i + 8)) = X) := ⟨_, rfl⟩
          rw [hX.out, hY.out] at x2
          rw [hY.out] at x1
          have i0 : (i : Int) < 8 := by omega
          have i1 : (0 : Int) ≤ (i : Int) := by omega
          have i2 : (i : Int) < 16 := by omega
          have i3 : IntKind.i64.wrap ((i : Int) + 8) = ((i + 8 : Nat) : Int) := by rw [IntKind.wrap_i64]; omega
          have i4 : ((i + 8 : Nat) : Int) < 16 := by omega
          have i5 : (0 : Int) ≤ ((i + 8 : Nat) : Int) := by omega
          obtain ⟨k, hk⟩ : ∃ k, Hid (i + 8 = k) := ⟨_, rfl⟩
          rw [hk.out] at i3 i4 i5 p2 x1
          go_upto_region 11 with (fail)
          refine wp_region_noPanic ?_
          refine region_lastly (S := (fun w' => w'.cell? ⟨N, i, none⟩ = some (.int .u32 (h i : Nat)) ∧ w'.cell? ⟨V, i, none⟩ = some (.int .u32 (v' i : Nat)) ∧ w'.cell? ⟨V, k, none⟩ = some (.int .u32 (v' k : Nat)))) [13] (by kernel_rfl) (by ((try dsimp only); (exact ⟨p0, p1, p2⟩))) (fun hHeld => ?_)
          refine anyZ_free (i := 0) (oi := ?oi_1) (v := ?v_1) ?hi_1 ?hs_1 ?hf_1 ?hr_1 ?hQ_1 (Or.inl ⟨?hw_1, ?hy_1⟩) ?hrest_1
          case hi_1 => (simp only [List.getElem?_toArray, List.getElem?_cons_succ, List.getElem?_cons_zero]; exact rfl)
          case hs_1 => kernel_rfl
          case hf_1 => kernel_rfl
          case hr_1 => kernel_rfl
          case hQ_1 => exact fun _ _ _ h => h
          case hw_1 => rfl
          case hy_1 => (intro w _; go_simp; try with_reducible rfl)
          try simp only [Act.put, List.setIfInBounds_toArray, List.set_cons_zero, List.set_cons_succ]
          refine anyZ_free (i := 1) (oi := ?oi_2) (v := ?v_2) ?hi_2 ?hs_2 ?hf_2 ?hr_2 ?hQ_2 (Or.inl ⟨?hw_2, ?hy_2⟩) ?hrest_2
          case hi_2 => (simp only [List.getElem?_toArray, List.getElem?_cons_succ, List.getElem?_cons_zero]; exact rfl)
          case hs_2 => kernel_rfl
          case hf_2 => kernel_rfl
          case hr_2 => kernel_rfl
          case hQ_2 => exact fun _ _ _ h => h
          case hw_2 => rfl
          case hy_2 => (intro w _; go_simp; try with_reducible rfl)
          try simp only [Act.put, List.setIfInBounds_toArray, List.set_cons_zero, List.set_cons_succ]
          refine anyZ_take (i := 2) (oi := ?oi_3) (v := ?v_3) ?hi_3 ?hz_3 ?hs_3 ?hf_3 ?hr_3 ?hQ_3 (Or.inl ⟨?hw_3, ?hy_3⟩) ?hS_3 ?hrest_3
          case hi_3 => (simp only [List.getElem?_toArray, List.getElem?_cons_succ, List.getElem?_cons_zero]; exact rfl)
          case hz_3 => kernel_rfl
          case hs_3 => kernel_rfl
          case hf_3 => kernel_rfl
          case hr_3 => kernel_rfl
          case hQ_3 => exact fun _ _ _ h => h
          case hw_3 => rfl
          case hS_3 => assumption
          case hy_3 => (intro w hSw; (try dsimp only at hSw); go_simp; try with_reducible rfl)
          try simp only [Act.put, List.setIfInBounds_toArray, List.set_cons_zero, List.set_cons_succ]
          refine anyZ_free (i := 3) (oi := ?oi_4) (v := ?v_4) ?hi_4 ?hs_4 ?hf_4 ?hr_4 ?hQ_4 (Or.inl ⟨?hw_4, ?hy_4⟩) ?hrest_4
          case hi_4 => (simp only [List.getElem?_toArray, List.getElem?_cons_succ, List.getElem?_cons_zero]; exact rfl)
          case hs_4 => kernel_rfl
          case hf_4 => kernel_rfl
          case hr_4 => kernel_rfl
          case hQ_4 => exact fun _ _ _ h => h
          case hw_4 => rfl
          case hy_4 => (intro w _; go_simp; try with_reducible rfl)
          try simp only [Act.put, List.setIfInBounds_toArray, List.set_cons_zero, List.set_cons_succ]
          refine anyZ_free (i := 4) (oi := ?oi_5) (v := ?v_5) ?hi_5 ?hs_5 ?hf_5 ?hr_5 ?hQ_5 (Or.inl ⟨?hw_5, ?hy_5⟩) ?hrest_5
          case hi_5 => (simp only [List.getElem?_toArray, List.getElem?_cons_succ, List.getElem?_cons_zero]; exact rfl)
          case hs_5 => kernel_rfl
          case hf_5 => kernel_rfl
          case hr_5 => kernel_rfl
          case hQ_5 => exact fun _ _ _ h => h
          case hw_5 => rfl
          case hy_5 => (intro w _; go_simp; try with_reducible rfl)
          try simp only [Act.put, List.setIfInBounds_toArray, List.set_cons_zero, List.set_cons_succ]
          refine anyZ_take (i := 5) (oi := ?oi_6) (v := ?v_6) ?hi_6 ?hz_6 ?hs_6 ?hf_6 ?hr_6 ?hQ_6 (Or.inl ⟨?hw_6, ?hy_6⟩) ?hS_6 ?hrest_6
          case hi_6 => (simp only [List.getElem?_toArray, List.getElem?_cons_succ, List.getElem?_cons_zero]; exact rfl)
          case hz_6 => kernel_rfl
          case hs_6 => kernel_rfl
          case hf_6 => kernel_rfl
          case hr_6 => kernel_rfl
          case hQ_6 => exact fun _ _ _ h => h
          case hw_6 => rfl
          case hS_6 => assumption
          case hy_6 => (intro w hSw; (try dsimp only at hSw); go_simp; try with_reducible rfl)
          try simp only [Act.put, List.setIfInBounds_toArray, List.set_cons_zero, List.set_cons_succ]
          refine anyZ_free (i := 6) (oi := ?oi_7) (v := ?v_7) ?hi_7 ?hs_7 ?hf_7 ?hr_7 ?hQ_7 (Or.inl ⟨?hw_7, ?hy_7⟩) ?hrest_7
          case hi_7 => (simp only [List.getElem?_toArray, List.getElem?_cons_succ, List.getElem?_cons_zero]; exact rfl)
          case hs_7 => kernel_rfl
          case hf_7 => kernel_rfl
          case hr_7 => kernel_rfl
          case hQ_7 => exact fun _ _ _ h => h
          case hw_7 => rfl
          case hy_7 => (intro w _; go_simp; try with_reducible rfl)
          try simp only [Act.put, List.setIfInBounds_toArray, List.set_cons_zero, List.set_cons_succ]
          refine anyZ_free (i := 7) (oi := ?oi_8) (v := ?v_8) ?hi_8 ?hs_8 ?hf_8 ?hr_8 ?hQ_8 (Or.inl ⟨?hw_8, ?hy_8⟩) ?hrest_8
          case hi_8 => (simp only [List.getElem?_toArray, List.getElem?_cons_succ, List.getElem?_cons_zero]; exact rfl)
          case hs_8 => kernel_rfl
          case hf_8 => kernel_rfl
          case hr_8 => kernel_rfl
          case hQ_8 => exact fun _ _ _ h => h
          case hw_8 => rfl
          case hy_8 => (intro w _; go_simp; try with_reducible rfl)
          try simp only [Act.put, List.setIfInBounds_toArray, List.set_cons_zero, List.set_cons_succ]
          refine anyZ_free (i := 8) (oi := ?oi_9) (v := ?v_9) ?hi_9 ?hs_9 ?hf_9 ?hr_9 ?hQ_9 (Or.inl ⟨?hw_9, ?hy_9⟩) ?hrest_9
          case hi_9 => (simp only [List.getElem?_toArray, List.getElem?_cons_succ, List.getElem?_cons_zero]; exact rfl)
          case hs_9 => kernel_rfl
          case hf_9 => kernel_rfl
          case hr_9 => kernel_rfl
          case hQ_9 => exact fun _ _ _ h => h
          case hw_9 => rfl
          case hy_9 => (intro w _; go_simp; try with_reducible rfl)
          try simp only [Act.put, List.setIfInBounds_toArray, List.set_cons_zero, List.set_cons_succ]
          refine anyZ_take (i := 9) (oi := ?oi_10) (v := ?v_10) ?hi_10 ?hz_10 ?hs_10 ?hf_10 ?hr_10 ?hQ_10 (Or.inl ⟨?hw_10, ?hy_10⟩) ?hS_10 ?hrest_10
          case hi_10 => (simp only [List.getElem?_toArray, List.getElem?_cons_succ, List.getElem?_cons_zero]; exact rfl)
          case hz_10 => kernel_rfl
          case hs_10 => kernel_rfl
          case hf_10 => kernel_rfl
          case hr_10 => kernel_rfl
          case hQ_10 => exact fun _ _ _ h => h
          case hw_10 => rfl
          case hS_10 => assumption
          case hy_10 => (intro w hSw; (try dsimp only at hSw); go_simp; try with_reducible rfl)
          try simp only [Act.put, List.setIfInBounds_toArray, List.set_cons_zero, List.set_cons_succ]
          refine anyZ_free (i := 10) (oi := ?oi_11) (v := ?v_11) ?hi_11 ?hs_11 ?hf_11 ?hr_11 ?hQ_11 (Or.inl ⟨?hw_11, ?hy_11⟩) ?hrest_11
          case hi_11 => (simp only [List.getElem?_toArray, List.getElem?_cons_succ, List.getElem?_cons_zero]; exact rfl)
          case hs_11 => kernel_rfl
          case hf_11 => kernel_rfl
          case hr_11 => kernel_rfl
          case hQ_11 => exact fun _ _ _ h => h
          case hw_11 => rfl
          case hy_11 => (intro w _; go_simp; try with_reducible rfl)
          try simp only [Act.put, List.setIfInBounds_toArray, List.set_cons_zero, List.set_cons_succ]
          refine anyZ_free (i := 11) (oi := ?oi_12) (v := ?v_12) ?hi_12 ?hs_12 ?hf_12 ?hr_12 ?hQ_12 (Or.inl ⟨?hw_12, ?hy_12⟩) ?hrest_12
          case hi_12 => (simp only [List.getElem?_toArray, List.getElem?_cons_succ, List.getElem?_cons_zero]; exact rfl)
          case hs_12 => kernel_rfl
          case hf_12 => kernel_rfl
          case hr_12 => kernel_rfl
          case hQ_12 => exact fun _ _ _ h => h
          case hw_12 => rfl
          case hy_12 => (intro w _; go_simp; try with_reducible rfl)
          try simp only [Act.put, List.setIfInBounds_toArray, List.set_cons_zero, List.set_cons_succ]
          refine anyZ_free (i := 12) (oi := ?oi_13) (v := ?v_13) ?hi_13 ?hs_13 ?hf_13 ?hr_13 ?hQ_13 (Or.inl ⟨?hw_13, ?hy_13⟩) ?hrest_13
          case hi_13 => (simp only [List.getElem?_toArray, List.getElem?_cons_succ, List.getElem?_cons_zero]; exact rfl)
          case hs_13 => kernel_rfl
          case hf_13 => kernel_rfl
          case hr_13 => kernel_rfl
          case hQ_13 => exact fun _ _ _ h => h
          case hw_13 => rfl
          case hy_13 => (intro w _; go_simp; try with_reducible rfl)
          try simp only [Act.put, List.setIfInBounds_toArray, List.set_cons_zero, List.set_cons_succ]
          refine anyZ_ready (rs := [13]) (by kernel_rfl) (by simp) ?_
          refine (AllZ.last (o := ?o_14) ?ho_14 (by rfl) (fun K hK => ?st_14) AllZ.nil)
          case ho_14 => (simp only [List.getElem?_toArray, List.getElem?_cons_succ, List.getElem?_cons_zero]; exact rfl)
          case st_14 =>
            go_simp
            refine hK.out _ _ ?_
            clear hK K
            try simp only [Act.put, List.setIfInBounds_toArray, List.set_cons_zero, List.set_cons_succ]
            refine anyZ_done (by kernel_rfl) ?_ _
            refine NoPanic.normal ?_
            have q : Hid (Arr ((wr.setCell ⟨N, i, none⟩ (.int .u32 (X : Nat))).drew) .u32 N 8 (pressI h v' (i + 1))) := by
              have q := (th.out.set (i := i) (z := X) hi8).drew
              rw [← hX.out, pressI_succ, hX.out] at q
              exact q
            have tr1 : Hid (Arr ((wr.setCell ⟨N, i, none⟩ (.int .u32 (X : Nat))).drew) .u32 (N + 1 + 1) 8 (fun _ => 0)) := (tr.out.far (by omega) _ _).drew
            have tv1 : Hid (Arr ((wr.setCell ⟨N, i, none⟩ (.int .u32 (X : Nat))).drew) .u32 V 16 v') := (tv.out.far (by omega) _ _).drew
            have hB1 : Below N w ((wr.setCell ⟨N, i, none⟩ (.int .u32 (X : Nat))).drew) := by (repeat' (first | (with_reducible first | exact Below.refl _ _ | assumption | refine Below.alloc ?_ ?_ _ | refine Below.drew ?_ | refine below_drewN ?_ _ | refine Below.setCell ?_ ?_ _ | refine below_via (by with_reducible assumption) ?_ ?_) | omega | (simp only [szs]; omega) | (simp only [szs] at *; omega)))
            clear hHeld p0 p1 p2 p3 p4 i2 i3 i4 i5 tv th tr hB x1 x2
            generalize ((wr.setCell ⟨N, i, none⟩ (.int .u32 (X : Nat))).drew) = W8 at *
            go_wp2
            go_roundw
            case rel => exact ⟨i + 1, by omega, by go_num, q, tr1, tv1, hB1⟩
            case measure => (simp only [intOf, Int.toNat_natCast]; omega)
        · obtain rfl : i = 8 := by omega
          have t0 : Arr wr .u32 N 8 (Ob.press h (wordAt z) n last) := th.out.congr (fun j hj => by rw [hend.out]; unfold pressI; rw [if_pos hj])
          go_upto_region 13 with (fail)
          go_wp2_with (first | ((with_reducible refine wpList_loadLit t0 ?_ Tryd.underlying65 ?_ ?_ ?_); (focus rfl); (focus rfl); (focus kernel_rfl); simp only [Act.put, List.setIfInBounds_toArray, List.set_cons_zero, List.set_cons_succ]) | ((with_reducible refine wpList_storeLit (Ob.press h (wordAt z) n last) tr.out ?_ ?_ ?_ ?_); (focus rfl); (focus rfl); (focus kernel_rfl); intro W5 hW5_ tW5_ zW5_; try simp only [Act.put, List.setIfInBounds_toArray, List.set_cons_zero, List.set_cons_succ]))
          have hB5 : Below w.heap.size w W5 := by rw [hW5_.out, hN.out]; exact below_setCells hB (by omega) _ _
          have rv := tW5_.out.loadVar Tryd.underlying65 rfl (by kernel_rfl)
          exact bodyPost_ret (v := .agg (arrL .u32 (Ob.press h (wordAt z) n last) 8).toArray) (by simp [results, Tryd.results69, asAddr, rv]) rfl ⟨rfl, hB5⟩
end Go.Proofs.YtkekomiaiaacaaaDoor

namespace Go.Proofs.YtkekomiaiaacaaaDoor
open Go.RowKit Go.Proofs
set_option linter.unusedVariables false
set_option linter.unusedSimpArgs false
attribute [local go_sem ↓] Go.wp_at_zero Go.wp_at_succ

/-- The words of a digest, by the words of a person. -/
def digW (x y : Nat) (z : Nat → Nat) (n : Nat) : Nat → Nat → Nat := Ob.digI (Ob.open0 x y) (fun i => wordAt (Ob.blk z n i)) n
def lenV : Value → Nat
  | .slice _ n _ => n
  | _ => 0
def flagV : Value → Nat
  | .bool false => 1
  | _ => 0
theorem nblk_eq {i n : Nat} (hi : i ≤ Ob.nblk n) (h : 0 < i ∧ n ≤ 64 * i) : i = Ob.nblk n := by
  unfold Ob.nblk at hi ⊢
  by_cases h0 : n = 0
  · rw [if_pos h0] at hi ⊢; omega
  · rw [if_neg h0] at hi ⊢; omega
theorem blk_part (z : Nat → Nat) (n k i : Nat) (hk : min (64 * i) n = k) : ∀ j, j < 64 → (if j < n - k then z (k + j) else 0) = Ob.blk z n i j := by
  intro j hj
  unfold Ob.blk
  by_cases h : 64 * i ≤ n
  · have : k = 64 * i := by omega
    subst this
    by_cases h1 : j < n - 64 * i
    · rw [if_pos h1, if_pos (by omega)]
    · rw [if_neg h1, if_neg (by omega)]
  · rw [if_neg (by omega), if_neg (by omega)]

set_option maxHeartbeats 4000000 in
theorem pressed_core (s : ByteArray) (hs : s.size ≤ 8) (a : Option Addr) (n c : Nat) (hn : n ≤ 4611686018427387904) (hc : n ≤ c) (z : Nat → Nat) (hz : ∀ i, z i < 256) (w : World) (hT : Tabs w) (hS : Src w a n z) :
    Calls Tryd.prog 59 #[.string s, .slice a n c] w fun e w' => e = .returned (arrV .u32 (digW (wordAt (sby s) 0) (wordAt (sby s) 1) z n (Ob.nblk n)) 8) ∧ Below w.heap.size w w' := by
  unfold arrV
  have hT' : Hid (Tabs w) := hT
  have hz' : Hid (∀ i, z i < 256) := hz
  have hS' : Hid (Src w a n z) := hS
  clear hT hz hS
  obtain ⟨x, hx⟩ : ∃ x, Hid (wordAt (sby s) 0 = x) := ⟨_, rfl⟩
  obtain ⟨y, hy⟩ : ∃ x, Hid (wordAt (sby s) 1 = x) := ⟨_, rfl⟩
  rw [hx.out, hy.out]
  go_enter Tryd.func59, Tryd.ntmps59
  go_upto_region 1 with (fail)
  obtain ⟨W0, hW0⟩ : ∃ W, Hid (w.alloc (.cells (arrL .u32 (fun _ => 0) 8).toArray 65) = W) := ⟨_, rfl⟩
  have tr0 : Arr W0 .u32 w.heap.size 8 (fun _ => 0) := by rw [← hW0.out]; exact Arr.new rfl
  have hB0 : Below w.heap.size w W0 := by rw [← hW0.out]; (repeat' (first | (with_reducible first | exact Below.refl _ _ | assumption | refine Below.alloc ?_ ?_ _ | refine Below.drew ?_ | refine below_drewN ?_ _ | refine Below.setCell ?_ ?_ _ | refine below_via (by with_reducible assumption) ?_ ?_) | omega | (simp only [szs]; omega) | (simp only [szs] at *; omega)))
  change Code.wp _ _ _ _ (w.alloc (.cells (arrL .u32 (fun _ => 0) 8).toArray 65))
  rw [hW0.out]
  clear hW0
  obtain ⟨N, hN⟩ : ∃ N, Hid (w.heap.size = N) := ⟨_, rfl⟩
  rw [hN.out] at tr0 hB0 ⊢
  have hlN : 5 ≤ N := by have := hT'.out.lt; have := hN.out; omega
  have c1 := opened_core s hs W0 (hT'.out.below hB0 hlN)
  have hw : Hid (Ob.Words32 (Ob.open0 (wordAt (sby s) 0) (wordAt (sby s) 1))) := Ob.open0_words (word_lt (sby_lt s) 0) (word_lt (sby_lt s) 1)
  unfold arrV at c1
  rw [hx.out, hy.out] at c1 hw
  clear hx hy
  have l0 := tr0.lt
  go_upto_region 2 with (first | ((with_reducible refine wpList_storeLit (Ob.open0 x y) Arr.new8 ?_ ?_ ?_ ?_); (focus rfl); (focus rfl); (focus kernel_rfl); intro W2 hW2_ tW2_ zW2_; try simp only [Act.put, List.setIfInBounds_toArray, List.set_cons_zero, List.set_cons_succ]) | (go_at_call 68; with_reducible refine c1.mono ?_; rintro e W1 ⟨rfl, b1⟩))
  have l1 := b1.size
  have tr2 : Arr W2 .u32 N 8 (fun _ => 0) := by rw [hW2_.out]; exact ((tr0.below b1 (by omega)).alloc _).farCells (by omega) _ _
  have hB1 : Below N w W1 := below_via b1 hB0 (by omega)
  have hB2 : Below N w W2 := by rw [hW2_.out]; exact below_setCells (hB1.alloc (by omega) _) (by omega) _ _
  have th2 := tW2_.out
  obtain ⟨H, hH⟩ : ∃ V, Hid (W1.heap.size = V) := ⟨_, rfl⟩
  rw [hH.out] at th2
  have lH : N < H := by have := hH.out; omega
  rw [hH.out]
  clear tr0 hB0 hB1 hW2_ tW2_ zW2_ l1 b1 c1 l0 hH
  go_wp2
  go_loopw [1, 6, 7] (fun s1 s6 s7 wr => ∃ (i k : Nat) (p : Option Addr) (q : Nat), i ≤ Ob.nblk n ∧ Hid (min (64 * i) n = k) ∧ s1 = .slice p (n - k) q ∧ n - k ≤ q ∧ Hid (Src w p (n - k) (fun j => z (k + j))) ∧ s6 = .int .u64 (k : Nat) ∧ s7 = .bool (decide (0 < i ∧ n ≤ 64 * i)) ∧ Hid (Arr wr .u32 H 8 (digW x y z n i)) ∧ Hid (Arr wr .u32 N 8 (fun _ => 0)) ∧ Below N w wr) (fun s1 _ s7 _ => 2 * lenV s1 + flagV s7)
  case atStart => exact ⟨0, 0, a, c, by unfold Ob.nblk; split <;> omega, by show min (64 * 0) n = 0; omega, rfl, hc, by show Src w a (n - 0) (fun j => z (0 + j)); simpa using hS'.out, rfl, rfl, th2, tr2, hB2⟩
  case round =>
    clear th2 tr2 hB2
    obtain ⟨i, k, p, q, hi, hk, rfl, hq, hSp, rfl, rfl, th, tr, hB⟩ := hrel
    have l0 := hB.size
    by_cases hlast : 0 < i ∧ n ≤ 64 * i
    · have e7 : decide (0 < i ∧ n ≤ 64 * i) = true := decide_eq_true hlast
      rw [e7]
      obtain rfl := nblk_eq hi hlast
      go_upto_region 10 with (fail)
      go_wp2_with (first | ((with_reducible refine wpList_loadLit th.out ?_ Tryd.underlying65 ?_ ?_ ?_); (focus rfl); (focus rfl); (focus kernel_rfl); simp only [Act.put, List.setIfInBounds_toArray, List.set_cons_zero, List.set_cons_succ]) | ((with_reducible refine wpList_storeLit (digW x y z n (Ob.nblk n)) tr.out ?_ ?_ ?_ ?_); (focus rfl); (focus rfl); (focus kernel_rfl); intro W6 hW6_ tW6_ zW6_; try simp only [Act.put, List.setIfInBounds_toArray, List.set_cons_zero, List.set_cons_succ]))
      have hB5 : Below w.heap.size w W6 := by rw [hW6_.out, hN.out]; exact below_setCells hB (by omega) _ _
      have rv := tW6_.out.loadVar Tryd.underlying65 rfl (by kernel_rfl)
      exact bodyPost_ret (v := .agg (arrL .u32 (digW x y z n (Ob.nblk n)) 8).toArray) (by simp [results, Tryd.results59, asAddr, rv]) rfl ⟨rfl, hB5⟩
    · have e7 : decide (0 < i ∧ n ≤ 64 * i) = false := decide_eq_false hlast
      rw [e7]
      go_upto_region 5 with (fail)
      obtain ⟨W3, hW3⟩ : ∃ W, Hid (wr.alloc (.cells #[.int .u8 0, .int .u8 0, .int .u8 0, .int .u8 0, .int .u8 0, .int .u8 0, .int .u8 0, .int .u8 0, .int .u8 0, .int .u8 0, .int .u8 0, .int .u8 0, .int .u8 0, .int .u8 0, .int .u8 0, .int .u8 0, .int .u8 0, .int .u8 0, .int .u8 0, .int .u8 0, .int .u8 0, .int .u8 0, .int .u8 0, .int .u8 0, .int .u8 0, .int .u8 0, .int .u8 0, .int .u8 0, .int .u8 0, .int .u8 0, .int .u8 0, .int .u8 0, .int .u8 0, .int .u8 0, .int .u8 0, .int .u8 0, .int .u8 0, .int .u8 0, .int .u8 0, .int .u8 0, .int .u8 0, .int .u8 0, .int .u8 0, .int .u8 0, .int .u8 0, .int .u8 0, .int .u8 0, .int .u8 0, .int .u8 0, .int .u8 0, .int .u8 0, .int .u8 0, .int .u8 0, .int .u8 0, .int .u8 0, .int .u8 0, .int .u8 0, .int .u8 0, .int .u8 0, .int .u8 0, .int .u8 0, .int .u8 0, .int .u8 0, .int .u8 0] 87) = W) := ⟨_, rfl⟩
      have tb3 : Arr W3 .u8 wr.heap.size 64 (fun _ => 0) := by rw [← hW3.out]; exact Arr.new64b
      have lH' := th.out.lt
      have th3 : Hid (Arr W3 .u32 H 8 (digW x y z n i)) := by rw [← hW3.out]; exact th.out.alloc _
      have tr3 : Hid (Arr W3 .u32 N 8 (fun _ => 0)) := by rw [← hW3.out]; exact tr.out.alloc _
      have hB3 : Below N w W3 := by rw [← hW3.out]; exact hB.alloc (by omega) _
      rw [hW3.out]
      obtain ⟨B, hB'⟩ : ∃ H, Hid (wr.heap.size = H) := ⟨_, rfl⟩
      rw [hB'.out] at tb3 lH' ⊢
      clear hW3 hB tr th hB' l0
      obtain ⟨m, hm⟩ : ∃ m, Hid (n - k = m) := ⟨_, rfl⟩
      obtain ⟨T, hTT⟩ : ∃ T, Hid (min m 64 = T) := ⟨_, rfl⟩
      rw [hm.out] at hSp hq ⊢
      have hSw : Src W3 p m (fun j => z (k + j)) := hSp.out.below (by rw [hN.out]; exact hB3)
      obtain ⟨W4, h4, hW4, tb4, z4⟩ := tb3.copyBys hSw 64 q 3 hTT.out
      have th4 : Hid (Arr W4 .u32 H 8 (digW x y z n i)) := by rw [hW4.out]; exact th3.out.farCells (by omega) _ _
      have tr4 : Hid (Arr W4 .u32 N 8 (fun _ => 0)) := by rw [hW4.out]; exact tr3.out.farCells (by omega) _ _
      have hB4 : Below N w W4 := by rw [hW4.out]; exact below_setCells hB3 (by omega) _ _
      have tb5 : Hid (Arr W4 .u8 B 64 (Ob.blk z n i)) := tb4.out.congr (fun j hj => by rw [← hm.out]; exact blk_part z n k i hk.out j hj)
      clear hW4 th3 tr3 hB3 tb3 tb4 hSw z4
      go_upto_region 6 with (at_builtin; refine Lib.wpList_copy_run _ rfl _ _ 46 46 rfl _ _ rfl rfl h4 ?_)
      have hTm : T ≤ m := by have := hTT.out; omega
      obtain ⟨m', hm'⟩ : ∃ m', Hid (m - T = m') := ⟨_, rfl⟩
      obtain ⟨k', hk'⟩ : ∃ k', Hid (k + T = k') := ⟨_, rfl⟩
      obtain ⟨L, hL⟩ : ∃ L, Hid (decide (n ≤ 64 * (i + 1)) = L) := ⟨_, rfl⟩
      have hk1 : Hid (min (64 * (i + 1)) n = k') := by show _ = _; have := hk.out; have := hk'.out; have := hTT.out; have := hm.out; omega
      have a0 : IntKind.u64.wrap (T : Int) = (T : Int) := by rw [IntKind.wrap_u64]; have := hTT.out; omega
      have a1 : IntKind.u64.wrap ((k : Int) + (T : Int)) = (k' : Int) := by rw [IntKind.wrap_u64]; have := hk'.out; have := hk1.out; omega
      have a2 : decide ((m' : Int) = 0) = L := by
        rw [← hL.out]
        refine decide_eq_decide.2 ?_
        have := hm'.out; have := hm.out; have := hTT.out; have := hk.out
        omega
      have a3 : ((m' : Int) == 0) = L := by rw [← a2]; rfl
      have c5 := press_core (digW x y z n i) (Ob.blk z n i) (Ob.digI_words hw.out _ (by omega) i) (Ob.blk_lt hz'.out n i) k' (by have := hk1.out; omega) L W4 (hT'.out.below hB4 hlN)
      have hnext : Hid (Ob.press (digW x y z n i) (wordAt (Ob.blk z n i)) k' L = digW x y z n (i + 1)) := by rw [← hk1.out, ← hL.out]; rfl
      rw [hnext.out] at c5
      unfold arrV at c5
      go_wp2_with (first | ((with_reducible refine wpList_tail (p := p) (c := q) hTm ?_ ?_ ?_ ?_); (focus rfl); (focus rfl); (focus rfl); intro p' hp'; rw [hm'.out]; simp only [Act.put, List.setIfInBounds_toArray, List.set_cons_zero, List.set_cons_succ]) | ((with_reducible refine wpList_loadLit th4.out ?_ Tryd.underlying65 ?_ ?_ ?_); (focus rfl); (focus rfl); (focus kernel_rfl); simp only [Act.put, List.setIfInBounds_toArray, List.set_cons_zero, List.set_cons_succ]) | ((with_reducible refine wpList_loadLit tb5.out ?_ Tryd.underlying87 ?_ ?_ ?_); (focus rfl); (focus rfl); (focus kernel_rfl); simp only [Act.put, List.setIfInBounds_toArray, List.set_cons_zero, List.set_cons_succ]) | ((with_reducible refine wpList_storeLit (digW x y z n (i + 1)) th5 ?_ ?_ ?_ ?_); (focus rfl); (focus rfl); (focus kernel_rfl); intro W6 hW6_ tW6_ zW6_; try simp only [Act.put, List.setIfInBounds_toArray, List.set_cons_zero, List.set_cons_succ]) | (go_at_call 69; with_reducible refine c5.mono ?_; rintro e W5 ⟨rfl, b5⟩; have th5 := th4.out.below b5 th4.out.lt))
      have tr6 : Hid (Arr W6 .u32 N 8 (fun _ => 0)) := by rw [hW6_.out]; exact (tr4.out.below b5 tr4.out.lt).farCells (by omega) _ _
      have l4 := hB4.size
      have hB5 : Below N w W5 := below_via b5 hB4 (by have := tr4.out.lt; omega)
      have hB6 : Below N w W6 := by rw [hW6_.out]; exact below_setCells hB5 (by omega) _ _
      have hnk : n - k' = m' := by have := hm'.out; have := hm.out; have := hk'.out; omega
      have hS6 : Hid (Src w p' (n - k') (fun j => z (k' + j))) := by
        have := hSp.out.tail hTm hq hp'.out
        rw [hm'.out] at this
        show Src w p' (n - k') (fun j => z (k' + j))
        rw [hnk, ← hk'.out]
        simpa only [Nat.add_assoc] using this
      have hi1 : i + 1 ≤ Ob.nblk n := by
        unfold Ob.nblk
        by_cases h0 : n = 0
        · rw [if_pos h0]; omega
        · rw [if_neg h0]; omega
      have hLd : L = decide (0 < i + 1 ∧ n ≤ 64 * (i + 1)) := by
        rw [← hL.out]
        refine decide_eq_decide.2 ?_
        omega
      have hmm : 2 * m' + flagV (.bool L) < 2 * (n - k) + 1 := by
        have h1 := hm'.out; have h2 := hm.out; have h3 := hTT.out; have h5 := hk.out
        by_cases h0 : m = 0
        · have hLt : L = true := by rw [hLd]; refine decide_eq_true ?_; omega
          rw [hLt]
          show 2 * m' + 0 < _
          omega
        · have : flagV (.bool L) ≤ 1 := by cases L <;> decide
          omega
      go_roundw
      case rel => exact ⟨i + 1, k', p', q - T, hi1, hk1, by rw [hnk], by have := hm'.out; omega, hS6, rfl, by rw [hLd], tW6_, tr6, hB6⟩
      case measure => exact hmm
end Go.Proofs.YtkekomiaiaacaaaDoor

namespace Go.Proofs.YtkekomiaiaacaaaDoor
open Go.RowKit Go.Proofs
set_option linter.unusedVariables false
set_option linter.unusedSimpArgs false
attribute [local go_sem ↓] Go.wp_at_zero Go.wp_at_succ

/-- The words of the digest of n bytes for a person. -/
def digS (s : ByteArray) (z : Nat → Nat) (n : Nat) : Nat → Nat := digW (wordAt (sby s) 0) (wordAt (sby s) 1) z n (Ob.nblk n)
theorem digS_words (s : ByteArray) (z : Nat → Nat) (n : Nat) (hn : n ≤ 4611686018427387904) : Ob.Words32 (digS s z n) :=
  Ob.digI_words (Ob.open0_words (word_lt (sby_lt s) 0) (word_lt (sby_lt s) 1)) _ (by omega) _

set_option maxHeartbeats 1000000 in
theorem sumW (s : ByteArray) (hs : s.size ≤ 8) (a : Option Addr) (n c : Nat) (hn : n ≤ 4611686018427387904) (hc : n ≤ c) (z : Nat → Nat) (hz : ∀ i, z i < 256) (w : World) (hT : Tabs w) (hS : Src w a n z) :
    Calls Tryd.prog 49 #[.string s, .slice a n c] w fun e w' => ∃ g, e = .returned (.tuple #[.slice (some ⟨g, 0, none⟩) 32 32, .nilIface]) ∧ w.heap.size ≤ g ∧ w'.ownsRow g 5 1 (.slice (some ⟨g, 0, none⟩) 32 32) 32 (vals (lowBy (digS s z n)) 32) ∧ Below w.heap.size w w' := by
  have c1 := pressed_core s hs a n c hn hc z hz w hT hS
  have hd : Hid (Ob.Words32 (digS s z n)) := digS_words s z n hn
  have e0 : digW (wordAt (sby s) 0) (wordAt (sby s) 1) z n (Ob.nblk n) = digS s z n := rfl
  rw [e0] at c1
  unfold arrV at c1
  obtain ⟨D, hD⟩ : ∃ D, Hid (digS s z n = D) := ⟨_, rfl⟩
  rw [hD.out] at c1 hd
  rw [hD.out]
  have hs' : (s.size : Int) ≤ 8 := by omega
  have hs2 : ¬ (8 : Int) < (s.size : Int) := by omega
  clear hT hS hz e0 hD
  go_enter Tryd.func49, Tryd.ntmps49
  go_upto_region 4 with (first | ((with_reducible refine wpList_storeLit (D) Arr.new8 ?_ ?_ ?_ ?_); (focus rfl); (focus rfl); (focus kernel_rfl); intro W2 hW2_ tW2_ zW2_; try simp only [Act.put, List.setIfInBounds_toArray, List.set_cons_zero, List.set_cons_succ]) | (go_at_call 59; with_reducible refine c1.mono ?_; rintro e W1 ⟨rfl, b1⟩))
  have hB2 : Below w.heap.size w W2 := by rw [hW2_.out]; exact below_setCells (b1.alloc b1.size _) b1.size _ _
  have l2 := hB2.size
  have c2 := lowBytesW W1.heap.size 8 8 D hd.out W2 (by decide) tW2_.out.rd
  clear hW2_ zW2_ tW2_ c1 b1
  go_wp2_with (go_at_call 60; with_reducible refine c2.mono ?_; rintro e W3 ⟨rfl, o3, b3⟩)
  go_ret2
  exact ⟨W2.heap.size, rfl, l2, o3, below_via b3 hB2 l2⟩

set_option maxHeartbeats 1000000 in
theorem sumLong (s : ByteArray) (hs : 8 < s.size) (v : Value) (w : World) :
    Calls Tryd.prog 49 #[.string s, v] w fun e w' => e = .returned (.tuple #[.slice none 0 0, .iface 33 (.int .i64 5)]) ∧ w = w' := by
  have hs2 : (8 : Int) < (s.size : Int) := by omega
  go_enter Tryd.func49, Tryd.ntmps49
  go_wp2
  go_ret2
  exact ⟨rfl, rfl⟩

set_option maxHeartbeats 1000000 in
theorem numW (s : ByteArray) (hs : s.size ≤ 8) (a : Option Addr) (n c : Nat) (hn : n ≤ 4611686018427387904) (hc : n ≤ c) (z : Nat → Nat) (hz : ∀ i, z i < 256) (m : Nat) (hm : 0 < m) (w : World) (hT : Tabs w) (hS : Src w a n z) :
    Calls Tryd.prog 29 #[.string s, .slice a n c, .int .u64 m] w fun e w' => e = .returned (.tuple #[.int .u64 (Ob.lowN (lowBy (digS s z n)) 8 % m : Nat), .nilIface]) ∧ Below w.heap.size w w' := by
  have c1 := sumW s hs a n c hn hc z hz w hT hS
  obtain ⟨D, hD⟩ : ∃ D, Hid (digS s z n = D) := ⟨_, rfl⟩
  rw [hD.out] at c1
  rw [hD.out]
  have hm0 : (m : Int) ≠ 0 := by omega
  have hm1 : ((m : Int) == 0) = false := by simpa using hm0
  clear hT hS hz hD
  go_enter Tryd.func29, Tryd.ntmps29
  go_upto_region 6 with (go_at_call 49; with_reducible refine c1.mono ?_; rintro e W1 ⟨g, rfl, lg, o1, b1⟩)
  have hb := bys_of_row o1
  have c2 := lowNumberW g 0 8 32 (by decide) (lowBy D) (lowBy_lt D) W1 (hb.less (by decide))
  obtain ⟨x, hx⟩ : ∃ x, Hid (Ob.lowN (lowBy D) 8 = x) := ⟨_, rfl⟩
  rw [hx.out] at c2
  clear c1 o1 hb
  go_wp2_with (go_at_call 50; with_reducible refine c2.mono ?_; rintro e W2 ⟨rfl, rfl⟩)
  go_ret2
  exact ⟨by rw [hx.out]; rfl, b1⟩
set_option maxHeartbeats 1000000 in
theorem numZero (s : ByteArray) (hs : s.size ≤ 8) (a : Option Addr) (n c : Nat) (hn : n ≤ 4611686018427387904) (hc : n ≤ c) (z : Nat → Nat) (hz : ∀ i, z i < 256) (w : World) (hT : Tabs w) (hS : Src w a n z) :
    Calls Tryd.prog 29 #[.string s, .slice a n c, .int .u64 0] w fun e w' => e = .returned (.tuple #[.int .u64 0, .iface 33 (.int .i64 1)]) ∧ Below w.heap.size w w' := by
  have c1 := sumW s hs a n c hn hc z hz w hT hS
  clear hT hS hz
  go_enter Tryd.func29, Tryd.ntmps29
  go_wp2_with (go_at_call 49; with_reducible refine c1.mono ?_; rintro e W1 ⟨g, rfl, lg, o1, b1⟩)
  go_ret2
  exact ⟨rfl, b1⟩
set_option maxHeartbeats 1000000 in
theorem numLong (s : ByteArray) (hs : 8 < s.size) (v : Value) (m : Nat) (w : World) :
    Calls Tryd.prog 29 #[.string s, v, .int .u64 m] w fun e w' => e = .returned (.tuple #[.int .u64 0, .iface 33 (.int .i64 5)]) ∧ w = w' := by
  have c1 := sumLong s hs v w
  go_enter Tryd.func29, Tryd.ntmps29
  go_wp2_with (go_at_call 49; with_reducible refine c1.mono ?_; rintro e W1 ⟨rfl, rfl⟩)
  go_ret2
  exact ⟨rfl, rfl⟩
end Go.Proofs.YtkekomiaiaacaaaDoor

namespace Go.Proofs.YtkekomiaiaacaaaDoor
open Go.RowKit Go.Proofs
set_option linter.unusedVariables false
set_option linter.unusedSimpArgs false
attribute [local go_sem ↓] Go.wp_at_zero Go.wp_at_succ

set_option maxHeartbeats 2000000 in
theorem efour_yes (y x r s : Int) (q : Bool) (w : World)
   (c0 : Calls Tryd.prog 51 #[.int .u64 y] (w.alloc (.cells #[.int .u64 0, .int .u64 0] 25)) fun e w' => e = .returned (.tuple #[.agg #[.int .u64 x, .int .u64 y], .nilIface]) ∧ Below (w.alloc (.cells #[.int .u64 0, .int .u64 0] 25)).heap.size (w.alloc (.cells #[.int .u64 0, .int .u64 0] 25)) w')
   (c1 : ∀ w, Calls Tryd.prog 41 #[.agg #[.int .u64 x, .int .u64 y], .int .u64 4] w fun e w' => e = .returned (.agg #[.int .u64 r, .int .u64 s]) ∧ Below w.heap.size w w')
   (cz : ∀ w, Calls Tryd.prog 48 #[] w fun e w' => e = .returned (.agg #[.int .u64 0, .int .u64 1]) ∧ Below w.heap.size w w')
   (he : ∀ w, (Op.equalIn 10000 25 (.agg #[.int .u64 r, .int .u64 s]) (.agg #[.int .u64 0, .int .u64 1])).run Tryd.prog w = .ok q w) :
    Calls Tryd.prog 31 #[.int .u64 y] w fun e w' => e = .returned (.tuple #[.agg #[.int .u64 r, .int .u64 s], .bool (!q)]) ∧ Below w.heap.size w w' := by
  go_enter Tryd.func31, Tryd.ntmps31
  go_upto_region 2 with (go_at_call 51; with_reducible refine c0.mono ?_; rintro e w1 ⟨rfl, b1⟩)
  have z1 := b1.size
  simp only [szs] at z1
  have t1 : Two (w1.alloc (.cells #[.int .u64 x, .int .u64 y] 25)) w.heap.size (.int .u64 0) (.int .u64 0) := by (repeat' (first | (with_reducible first | assumption | exact Two.own (by with_reducible assumption) | refine Two.set ?_ _ _ | refine Own2.set ?_ _ _ | refine Two.drew ?_ | refine Two.drewN ?_ _ | refine Own2.drew ?_ | refine Own2.drewN ?_ _ | (refine Two.new ?_; simp only [szs]; done) | (refine Own2.new ?_; simp only [szs]; done) | refine Two.alloc ?_ _ | refine Own2.alloc ?_ _ | refine Two.far ?_ ?_ _ _ | refine Own2.far ?_ ?_ _ _ | refine Two.via (by with_reducible assumption) ?_ ?_ | refine Own2.via (by with_reducible assumption) ?_ ?_) | omega | (simp only [szs]; omega)))
  have t2 : Two (w1.alloc (.cells #[.int .u64 x, .int .u64 y] 25)) w1.heap.size (.int .u64 x) (.int .u64 y) := by (repeat' (first | (with_reducible first | assumption | exact Two.own (by with_reducible assumption) | refine Two.set ?_ _ _ | refine Own2.set ?_ _ _ | refine Two.drew ?_ | refine Two.drewN ?_ _ | refine Own2.drew ?_ | refine Own2.drewN ?_ _ | (refine Two.new ?_; simp only [szs]; done) | (refine Own2.new ?_; simp only [szs]; done) | refine Two.alloc ?_ _ | refine Own2.alloc ?_ _ | refine Two.far ?_ ?_ _ _ | refine Own2.far ?_ ?_ _ _ | refine Two.via (by with_reducible assumption) ?_ ?_ | refine Own2.via (by with_reducible assumption) ?_ ?_) | omega | (simp only [szs]; omega)))
  have hB : Below w.heap.size w (w1.alloc (.cells #[.int .u64 x, .int .u64 y] 25)) := by (repeat' (first | (with_reducible first | exact Below.refl _ _ | assumption | refine Below.alloc ?_ ?_ _ | refine Below.drew ?_ | refine below_drewN ?_ _ | refine Below.setCell ?_ ?_ _ | refine below_via (by with_reducible assumption) ?_ ?_) | omega | (simp only [szs]; omega) | (simp only [szs] at *; omega)))
  have n1 : ¬ (w.heap.size = w1.heap.size) := by omega
  have n2 : ¬ (w1.heap.size = w.heap.size) := by omega
  have n3 : w.heap.size ≤ w1.heap.size := by omega
  generalize (w1.alloc (.cells #[.int .u64 x, .int .u64 y] 25)) = W at *
  generalize w1.heap.size = bx at *
  clear b1 z1 c0
  have ⟨d1, d2, d3, d4, d5⟩ := t1
  have ⟨e1, e2, e3, e4, e5⟩ := t2
  go_upto_region 5 with (first | (go_at_call 41; first | (with_reducible refine (c1 _).mono ?_; rintro e w_c1 ⟨rfl, b_c1⟩; have z_c1 := b_c1.size; (try simp only [szs] at z_c1); (try (have q_c1_0 := own2 b_c1 (w.heap.size) (by first | omega | (simp only [szs]; omega)))); (try (have q_c1_1 := own2 b_c1 (bx) (by first | omega | (simp only [szs]; omega)))))))
  have t3 : Two ((w_c1.setCell ⟨bx, 0, none⟩ (.int .u64 r)).setCell ⟨bx, 1, none⟩ (.int .u64 s)) w.heap.size (.int .u64 0) (.int .u64 0) := by (repeat' (first | (with_reducible first | assumption | exact Two.own (by with_reducible assumption) | refine Two.set ?_ _ _ | refine Own2.set ?_ _ _ | refine Two.drew ?_ | refine Two.drewN ?_ _ | refine Own2.drew ?_ | refine Own2.drewN ?_ _ | (refine Two.new ?_; simp only [szs]; done) | (refine Own2.new ?_; simp only [szs]; done) | refine Two.alloc ?_ _ | refine Own2.alloc ?_ _ | refine Two.far ?_ ?_ _ _ | refine Own2.far ?_ ?_ _ _ | refine Two.via (by with_reducible assumption) ?_ ?_ | refine Own2.via (by with_reducible assumption) ?_ ?_) | omega | (simp only [szs]; omega)))
  have t4 : Two ((w_c1.setCell ⟨bx, 0, none⟩ (.int .u64 r)).setCell ⟨bx, 1, none⟩ (.int .u64 s)) bx (.int .u64 r) (.int .u64 s) := by (repeat' (first | (with_reducible first | assumption | exact Two.own (by with_reducible assumption) | refine Two.set ?_ _ _ | refine Own2.set ?_ _ _ | refine Two.drew ?_ | refine Two.drewN ?_ _ | refine Own2.drew ?_ | refine Own2.drewN ?_ _ | (refine Two.new ?_; simp only [szs]; done) | (refine Own2.new ?_; simp only [szs]; done) | refine Two.alloc ?_ _ | refine Own2.alloc ?_ _ | refine Two.far ?_ ?_ _ _ | refine Own2.far ?_ ?_ _ _ | refine Two.via (by with_reducible assumption) ?_ ?_ | refine Own2.via (by with_reducible assumption) ?_ ?_) | omega | (simp only [szs]; omega)))
  have hB2 : Below w.heap.size w ((w_c1.setCell ⟨bx, 0, none⟩ (.int .u64 r)).setCell ⟨bx, 1, none⟩ (.int .u64 s)) := by (repeat' (first | (with_reducible first | exact Below.refl _ _ | assumption | refine Below.alloc ?_ ?_ _ | refine Below.drew ?_ | refine below_drewN ?_ _ | refine Below.setCell ?_ ?_ _ | refine below_via (by with_reducible assumption) ?_ ?_) | omega | (simp only [szs]; omega) | (simp only [szs] at *; omega)))
  ((try clear q_c1_0); (try clear q_c1_1))
  clear b_c1 z_c1 c1 d1 d2 d3 d4 d5 e1 e2 e3 e4 e5 t1 t2 hB
  generalize ((w_c1.setCell ⟨bx, 0, none⟩ (.int .u64 r)).setCell ⟨bx, 1, none⟩ (.int .u64 s)) = W2 at *
  have ⟨d1, d2, d3, d4, d5⟩ := t3
  have ⟨e1, e2, e3, e4, e5⟩ := t4
  go_region_held3 (fun w' => w'.cell? ⟨bx, 0, none⟩ = some (.int .u64 r) ∧ w'.cell? ⟨bx, 1, none⟩ = some (.int .u64 s)) (go_keep)
    ((first | (go_at_call 48; first | (with_reducible refine (cz _).mono ?_; rintro e w_cz ⟨rfl, b_cz⟩; have z_cz := b_cz.size; (try simp only [szs] at z_cz); (try (have q_cz_0 := own2 b_cz (w.heap.size) (by first | omega | (simp only [szs]; omega)))); (try (have q_cz_1 := own2 b_cz (bx) (by first | omega | (simp only [szs]; omega))))))))
  go_wp2
  exact bodyPost_ret (v := .tuple #[.agg #[.int .u64 r, .int .u64 s], .bool (!q)]) (by simp [results, Tryd.results31, go_sem, *]) rfl ⟨rfl, by (repeat' (first | (with_reducible first | exact Below.refl _ _ | assumption | refine Below.alloc ?_ ?_ _ | refine Below.drew ?_ | refine below_drewN ?_ _ | refine Below.setCell ?_ ?_ _ | refine below_via (by with_reducible assumption) ?_ ?_) | omega | (simp only [szs]; omega) | (simp only [szs] at *; omega)))⟩
set_option maxHeartbeats 2000000 in
theorem efour_no (y : Int) (w : World)
   (c0 : ∀ w, Calls Tryd.prog 51 #[.int .u64 y] w fun e w' => e = .returned (.tuple #[.agg #[.int .u64 0, .int .u64 0], .iface 33 (.int .i64 2)]) ∧ Below w.heap.size w w') :
    Calls Tryd.prog 31 #[.int .u64 y] w fun e w' => e = .returned (.tuple #[.agg #[.int .u64 0, .int .u64 0], .bool false]) ∧ Below w.heap.size w w' := by
  go_enter Tryd.func31, Tryd.ntmps31
  go_wp2_with (first | (go_at_call 51; first | (with_reducible refine (c0 _).mono ?_; rintro e w_c0 ⟨rfl, b_c0⟩; have z_c0 := b_c0.size; (try simp only [szs] at z_c0); (try (have q_c0_0 := own2 b_c0 (w.heap.size) (by first | omega | (simp only [szs]; omega)))))))
  exact bodyPost_ret (v := .tuple #[.agg #[.int .u64 0, .int .u64 0], .bool false]) (by simp [results, Tryd.results31, go_sem, *]) rfl ⟨rfl, by (repeat' (first | (with_reducible first | exact Below.refl _ _ | assumption | refine Below.alloc ?_ ?_ _ | refine Below.drew ?_ | refine below_drewN ?_ _ | refine Below.setCell ?_ ?_ _ | refine below_via (by with_reducible assumption) ?_ ?_) | omega | (simp only [szs]; omega) | (simp only [szs] at *; omega)))⟩
theorem lowP_val {y : Nat} (hy : y < Ob.RE) (hs : Ob.Sq (Ob.gsqr (Ob.toG y)).val) : Ob.ofG (Ob.rtX y) y = Ob.lowP y ∧ Ob.isG (Ob.rtX y) y = true := by
  have e1 : (Ob.toG (Ob.rtX y)).val = Ob.rtX y := Nat.mod_eq_of_lt (Ob.rtX_lt hs)
  have e2 : (Ob.toG y).val = y := Nat.mod_eq_of_lt hy
  have := Ob.ofG_val (Ob.rtX_on hs)
  have h2 := Ob.on_isG (Ob.rtX_on hs)
  simp only [e1, e2] at this h2
  exact ⟨this, h2⟩
/-- What is there, four times. -/
theorem efour_good (y : Nat) (hy : y < Ob.RE) (hg : Ob.goodB y = true) (w : World) (hT : TabOk w) :
    Calls Tryd.prog 31 #[.int .u64 y] w fun e w' => e = .returned (.tuple #[edV (Ob.gmul (Ob.lowP y) 4), .bool true]) ∧ Below w.heap.size w w' := by
  have g := Ob.good_of hg
  have hy' : y < 18446744073709551616 := Nat.lt_trans hy (by decide)
  have hx' : Ob.rtX y < 18446744073709551616 := Nat.lt_trans (Ob.rtX_lt g.1) (by decide)
  have c0 := eat_yes y hy' g.1 (w.alloc (.cells #[.int .u64 0, .int .u64 0] 25)) (hT.below ((Below.refl w.heap.size w).alloc (Nat.le_refl _) _) hT.lt)
  have c1 := emulW (Ob.rtX y) y 4 hx' hy' (by decide)
  rw [(lowP_val hy g.1).1] at c1
  have hz : isZ (Ob.gmul (Ob.lowP y) 4) = false := decide_eq_false ((Ob.good_four g.1).mpr g)
  exact efour_yes y (Ob.rtX y) _ _ false w c0 c1 ezeroW (fun w => by rw [equal_Ed, isZ_eq, hz])
/-- Otherwise. -/
theorem efour_bad (y : Nat) (hy : y < Ob.RE) (hg : Ob.goodB y = false) (w : World) (hT : TabOk w) :
    Calls Tryd.prog 31 #[.int .u64 y] w fun e w' => (∃ r s : Int, e = .returned (.tuple #[.agg #[.int .u64 r, .int .u64 s], .bool false])) ∧ Below w.heap.size w w' := by
  have g := Ob.good_not hg
  have hy' : y < 18446744073709551616 := Nat.lt_trans hy (by decide)
  by_cases hs : Ob.Sq (Ob.gsqr (Ob.toG y)).val
  · have hx' : Ob.rtX y < 18446744073709551616 := Nat.lt_trans (Ob.rtX_lt hs) (by decide)
    have c0 := eat_yes y hy' hs (w.alloc (.cells #[.int .u64 0, .int .u64 0] 25)) (hT.below ((Below.refl w.heap.size w).alloc (Nat.le_refl _) _) hT.lt)
    have c1 := emulW (Ob.rtX y) y 4 hx' hy' (by decide)
    rw [(lowP_val hy hs).1] at c1
    have hz : isZ (Ob.gmul (Ob.lowP y) 4) = true := decide_eq_true (Classical.byContradiction fun h => g ((Ob.good_four hs).mp h))
    exact (efour_yes y (Ob.rtX y) _ _ true w c0 c1 ezeroW (fun w => by rw [equal_Ed, isZ_eq, hz])).mono fun e w' ⟨h, hb⟩ => ⟨⟨_, _, h⟩, hb⟩
  · exact (efour_no y w (eat_no y hy' hs)).mono fun e w' ⟨h, hb⟩ => ⟨⟨_, _, h⟩, hb⟩

/-- The Y of a person, a number and a k. -/
def findY (s : ByteArray) (n k : Nat) : Nat := Ob.lowN (lowBy (digS s (byteOf (pair n k)) 16)) 8 % 288230376287764481
theorem findY_lt (s : ByteArray) (n k : Nat) : findY s n k < Ob.RE := Nat.mod_lt _ (by decide)
/-- What is told of a found point. -/
def fndV (Y : Nat → Nat) : Option Nat → Value
  | some k => .tuple #[edV (Ob.gmul (Ob.lowP (Y k)) 4), .nilIface]
  | none => .tuple #[.agg #[.int .u64 0, .int .u64 0], .iface 33 (.int .i64 2)]
set_option maxHeartbeats 4000000 in
theorem esearchW (s : ByteArray) (hs : s.size ≤ 8) (n : Nat) (hn : n < 18446744073709551616) (w : World) (hT : TabOk w) (hTs : Tabs w) :
    Calls Tryd.prog 17 #[.string s, .int .u64 n, .int .u64 128] w fun e w' => e = .returned (fndV (findY s n) (Ob.firstG (findY s n) 128 0)) ∧ Below w.heap.size w w' := by
  have hT' : Hid (TabOk w ∧ Tabs w) := ⟨hT, hTs⟩
  clear hT hTs
  obtain ⟨Y, hY⟩ : ∃ Y, Hid (findY s n = Y) := ⟨_, rfl⟩
  rw [hY.out]
  obtain ⟨T, hF⟩ : ∃ T, Hid (Ob.firstG Y 128 0 = T) := ⟨_, rfl⟩
  rw [hF.out]
  have hs' : Hid (s.size ≤ 8) := hs
  have hn' : Hid (n < 18446744073709551616) := hn
  clear hs hn
  go_enter Tryd.func17, Tryd.ntmps17
  go_wp2
  go_loopw [14] (fun sk wr => ∃ k : Nat, k ≤ 128 ∧ sk = .int .u64 k ∧ Two wr w.heap.size (.int .u64 0) (.int .u64 0) ∧ Below w.heap.size w wr ∧ Hid (Ob.firstG Y (128 - k) k = T)) (fun sk _ => 128 - (intOf sk).toNat)
  case atStart => exact ⟨0, by omega, rfl, by (repeat' (first | (with_reducible first | assumption | exact Two.own (by with_reducible assumption) | refine Two.set ?_ _ _ | refine Own2.set ?_ _ _ | refine Two.drew ?_ | refine Two.drewN ?_ _ | refine Own2.drew ?_ | refine Own2.drewN ?_ _ | (refine Two.new ?_; simp only [szs]; done) | (refine Own2.new ?_; simp only [szs]; done) | refine Two.alloc ?_ _ | refine Own2.alloc ?_ _ | refine Two.far ?_ ?_ _ _ | refine Own2.far ?_ ?_ _ _ | refine Two.via (by with_reducible assumption) ?_ ?_ | refine Own2.via (by with_reducible assumption) ?_ ?_) | omega | (simp only [szs]; omega))), by (repeat' (first | (with_reducible first | exact Below.refl _ _ | assumption | refine Below.alloc ?_ ?_ _ | refine Below.drew ?_ | refine below_drewN ?_ _ | refine Below.setCell ?_ ?_ _ | refine below_via (by with_reducible assumption) ?_ ?_) | omega | (simp only [szs]; omega) | (simp only [szs] at *; omega))), hF⟩
  case round =>
    obtain ⟨k, hk, rfl, t1, hB, hI⟩ := hrel
    have ⟨d1, d2, d3, d4, d5⟩ := t1
    by_cases hlt : k < 128
    · have b0 := bytesW wr.heap.size 0 2 2 (pair n k) (pair_lt n k hn'.out (by omega)) (wr.alloc (.cells #[.int .u64 n, .int .u64 k] 22)) (by decide) (pair_cells wr n k 22) (by simp)
      rw [show 8 * 2 = 16 from rfl] at b0
      have hlk : (k : Int) < 128 := by omega
      obtain ⟨y, hy⟩ : ∃ y, Hid (Y k = y) := ⟨_, rfl⟩
      have hyl : y < Ob.RE := by rw [← hy.out, ← hY.out]; exact findY_lt s n k
      have e1 : Ob.lowN (lowBy (digS s (byteOf (pair n k)) 16)) 8 % 288230376287764481 = y := by rw [← hy.out, ← hY.out]; rfl
      have c1 : ∀ (W : World) (g : Nat), Below w.heap.size w W → Bys W g 0 16 (byteOf (pair n k)) → Calls Tryd.prog 29 #[.string s, .slice (some ⟨g, 0, none⟩) 16 16, .int .u64 288230376287764481] W fun e w' => e = .returned (.tuple #[.int .u64 y, .nilIface]) ∧ Below W.heap.size W w' := fun W g hb hc => by
        rw [← e1]
        exact numW s hs'.out (some ⟨g, 0, none⟩) 16 16 (by decide) (by decide) (byteOf (pair n k)) (fun i => Ob.byteAt_lt _ _) 288230376287764481 (by decide) W (hT'.out.2.below hb hT'.out.2.lt) (Or.inr ⟨g, 0, rfl, hc⟩)
      clear e1
      go_upto_region 5 with (first | (go_at_call 30; (with_reducible refine Calls.mono b0 ?_); rintro e w2 ⟨rfl, hown, hB2⟩; have hBw2 : Below w.heap.size w w2 := (by (repeat' (first | (with_reducible first | exact Below.refl _ _ | assumption | refine Below.alloc ?_ ?_ _ | refine Below.drew ?_ | refine below_drewN ?_ _ | refine Below.setCell ?_ ?_ _ | refine below_via (by with_reducible assumption) ?_ ?_) | omega | (simp only [szs]; omega) | (simp only [szs] at *; omega)))); simp only [World.size_alloc] at hown hB2; have hy16 := bys_of_row hown) | (go_at_call 29; (with_reducible refine (c1 _ _ hBw2 hy16).mono ?_); rintro e w3 ⟨rfl, hB3⟩))
      have z2 := hBw2.size
      have z3 := hB3.size
      have l0 : w.heap.size < w2.heap.size := by have := hB2.size; simp only [szs] at this; omega
      have t2 : Two w2 w.heap.size (.int .u64 0) (.int .u64 0) := by (repeat' (first | (with_reducible first | assumption | exact Two.own (by with_reducible assumption) | refine Two.set ?_ _ _ | refine Own2.set ?_ _ _ | refine Two.drew ?_ | refine Two.drewN ?_ _ | refine Own2.drew ?_ | refine Own2.drewN ?_ _ | (refine Two.new ?_; simp only [szs]; done) | (refine Own2.new ?_; simp only [szs]; done) | refine Two.alloc ?_ _ | refine Own2.alloc ?_ _ | refine Two.far ?_ ?_ _ _ | refine Own2.far ?_ ?_ _ _ | refine Two.via (by with_reducible assumption) ?_ ?_ | refine Own2.via (by with_reducible assumption) ?_ ?_) | omega | (simp only [szs]; omega)))
      have t3 : Two w3 w.heap.size (.int .u64 0) (.int .u64 0) := by (repeat' (first | (with_reducible first | assumption | exact Two.own (by with_reducible assumption) | refine Two.set ?_ _ _ | refine Own2.set ?_ _ _ | refine Two.drew ?_ | refine Two.drewN ?_ _ | refine Own2.drew ?_ | refine Own2.drewN ?_ _ | (refine Two.new ?_; simp only [szs]; done) | (refine Own2.new ?_; simp only [szs]; done) | refine Two.alloc ?_ _ | refine Own2.alloc ?_ _ | refine Two.far ?_ ?_ _ _ | refine Own2.far ?_ ?_ _ _ | refine Two.via (by with_reducible assumption) ?_ ?_ | refine Own2.via (by with_reducible assumption) ?_ ?_) | omega | (simp only [szs]; omega)))
      have hBw3 : Below w.heap.size w w3 := below_via hB3 hBw2 z2
      have hTk : TabOk w3 := hT'.out.1.below hBw3 hT'.out.1.lt
      have l3 : w.heap.size < w3.heap.size := by omega
      clear b0 c1 hown hB2 hBw2 hy16 hB3 z2 z3 l0 t2 t1 d1 d2 d3 d4 d5 hB
      have ⟨d1, d2, d3, d4, d5⟩ := t3
      cases hg : Ob.goodB y with
      | true =>
        have hI' : Hid (some k = T) := by
          have := hI.out
          rw [Ob.firstG_yes Y (128 - k) k (by omega) (by rw [hy.out]; exact hg)] at this
          exact this
        have c2 := efour_good y hyl hg w3 hTk
        unfold edV at c2
        obtain ⟨P, hP⟩ : ∃ P, Hid (Ob.gmul (Ob.lowP y) 4 = P) := ⟨_, rfl⟩
        rw [hP.out] at c2
        go_wp2_with (go_at_call 31; (with_reducible refine c2.mono ?_); rintro e w4 ⟨rfl, b4⟩; have z4 := b4.size; have q4 := own2 b4 w.heap.size (by omega))
        exact bodyPost_ret (v := .tuple #[.agg #[.int .u64 (P.1.val : Nat), .int .u64 (P.2.val : Nat)], .nilIface]) (by simp [results, Tryd.results17, go_sem, *]) rfl ⟨by rw [← hI'.out]; show _ = Ending.returned (.tuple #[edV (Ob.gmul (Ob.lowP (Y k)) 4), .nilIface]); rw [hy.out, hP.out]; rfl, by (repeat' (first | (with_reducible first | exact Below.refl _ _ | assumption | refine Below.alloc ?_ ?_ _ | refine Below.drew ?_ | refine below_drewN ?_ _ | refine Below.setCell ?_ ?_ _ | refine below_via (by with_reducible assumption) ?_ ?_) | omega | (simp only [szs]; omega) | (simp only [szs] at *; omega)))⟩
      | false =>
        have hI' : Hid (Ob.firstG Y (128 - (k + 1)) (k + 1) = T) := by
          have := hI.out
          rw [Ob.firstG_no Y (128 - k) k (by omega) (by rw [hy.out]; exact hg), show 128 - k - 1 = 128 - (k + 1) by omega] at this
          exact this
        have c2 := efour_bad y hyl hg w3 hTk
        go_wp2_with (go_at_call 31; (with_reducible refine c2.mono ?_); rintro e w4 ⟨⟨r, s2, rfl⟩, b4⟩; have z4 := b4.size; have q4 := own2 b4 w.heap.size (by omega))
        go_roundw
        case rel => exact ⟨k + 1, by omega, by go_num, by (repeat' (first | (with_reducible first | assumption | exact Two.own (by with_reducible assumption) | refine Two.set ?_ _ _ | refine Own2.set ?_ _ _ | refine Two.drew ?_ | refine Two.drewN ?_ _ | refine Own2.drew ?_ | refine Own2.drewN ?_ _ | (refine Two.new ?_; simp only [szs]; done) | (refine Own2.new ?_; simp only [szs]; done) | refine Two.alloc ?_ _ | refine Own2.alloc ?_ _ | refine Two.far ?_ ?_ _ _ | refine Own2.far ?_ ?_ _ _ | refine Two.via (by with_reducible assumption) ?_ ?_ | refine Own2.via (by with_reducible assumption) ?_ ?_) | omega | (simp only [szs]; omega))), by (repeat' (first | (with_reducible first | exact Below.refl _ _ | assumption | refine Below.alloc ?_ ?_ _ | refine Below.drew ?_ | refine below_drewN ?_ _ | refine Below.setCell ?_ ?_ _ | refine below_via (by with_reducible assumption) ?_ ?_) | omega | (simp only [szs]; omega) | (simp only [szs] at *; omega))), hI'⟩
        case measure => simp [intOf]; omega
    · have hI' : Hid (none = T) := by
        have := hI.out
        rw [show 128 - k = 0 by omega] at this
        exact this
      have hlk : ¬ (k : Int) < 128 := by omega
      go_wp2
      exact bodyPost_ret (v := .tuple #[.agg #[.int .u64 0, .int .u64 0], .iface 33 (.int .i64 2)]) (by simp [results, Tryd.results17, go_sem, *]) rfl ⟨by rw [← hI'.out]; rfl, by (repeat' (first | (with_reducible first | exact Below.refl _ _ | assumption | refine Below.alloc ?_ ?_ _ | refine Below.drew ?_ | refine below_drewN ?_ _ | refine Below.setCell ?_ ?_ _ | refine below_via (by with_reducible assumption) ?_ ?_) | omega | (simp only [szs]; omega) | (simp only [szs] at *; omega)))⟩
set_option maxHeartbeats 2000000 in
theorem esearch_long (s : ByteArray) (hs : 8 < s.size) (n : Nat) (hn : n < 18446744073709551616) (w : World) :
    Calls Tryd.prog 17 #[.string s, .int .u64 n, .int .u64 128] w fun e w' => e = .returned (.tuple #[.agg #[.int .u64 0, .int .u64 0], .iface 33 (.int .i64 5)]) ∧ Below w.heap.size w w' := by
  have c1 : ∀ (v : Value) (w : World), Calls Tryd.prog 29 #[.string s, v, .int .u64 288230376287764481] w fun e w' => e = .returned (.tuple #[.int .u64 0, .iface 33 (.int .i64 5)]) ∧ w = w' := fun v w => numLong s hs v 288230376287764481 w
  have b0 := fun (W : World) => bytesW W.heap.size 0 2 2 (pair n 0) (pair_lt n 0 hn (by decide)) (W.alloc (.cells #[.int .u64 n, .int .u64 (0 : Nat)] 22)) (by decide) (pair_cells W n 0 22) (by simp)
  rw [show 8 * 2 = 16 from rfl] at b0
  rw [show ((0 : Nat) : Int) = 0 from rfl] at b0
  clear hs hn
  go_enter Tryd.func17, Tryd.ntmps17
  go_wp2
  go_loopw [14] (fun sk wr => sk = .int .u64 0 ∧ Two wr w.heap.size (.int .u64 0) (.int .u64 0) ∧ Below w.heap.size w wr) (fun sk _ => 0)
  case atStart => exact ⟨rfl, by (repeat' (first | (with_reducible first | assumption | exact Two.own (by with_reducible assumption) | refine Two.set ?_ _ _ | refine Own2.set ?_ _ _ | refine Two.drew ?_ | refine Two.drewN ?_ _ | refine Own2.drew ?_ | refine Own2.drewN ?_ _ | (refine Two.new ?_; simp only [szs]; done) | (refine Own2.new ?_; simp only [szs]; done) | refine Two.alloc ?_ _ | refine Own2.alloc ?_ _ | refine Two.far ?_ ?_ _ _ | refine Own2.far ?_ ?_ _ _ | refine Two.via (by with_reducible assumption) ?_ ?_ | refine Own2.via (by with_reducible assumption) ?_ ?_) | omega | (simp only [szs]; omega))), by (repeat' (first | (with_reducible first | exact Below.refl _ _ | assumption | refine Below.alloc ?_ ?_ _ | refine Below.drew ?_ | refine below_drewN ?_ _ | refine Below.setCell ?_ ?_ _ | refine below_via (by with_reducible assumption) ?_ ?_) | omega | (simp only [szs]; omega) | (simp only [szs] at *; omega)))⟩
  case round =>
    obtain ⟨rfl, t1, hB⟩ := hrel
    have ⟨d1, d2, d3, d4, d5⟩ := t1
    go_wp2_with (first | (go_at_call 30; (with_reducible refine Calls.mono (b0 _) ?_); rintro e w2 ⟨rfl, hown, hB2⟩; have z2 := hB2.size; (try simp only [szs] at z2); have q2 := own2 hB2 w.heap.size (by simp only [szs]; omega)) | (go_at_call 29; (with_reducible refine (c1 _ _).mono ?_); rintro e w3 ⟨rfl, rfl⟩))
    exact bodyPost_ret (v := .tuple #[.agg #[.int .u64 0, .int .u64 0], .iface 33 (.int .i64 5)]) (by simp [results, Tryd.results17, go_sem, *]) rfl ⟨rfl, by (repeat' (first | (with_reducible first | exact Below.refl _ _ | assumption | refine Below.alloc ?_ ?_ _ | refine Below.drew ?_ | refine below_drewN ?_ _ | refine Below.setCell ?_ ?_ _ | refine below_via (by with_reducible assumption) ?_ ?_) | omega | (simp only [szs]; omega) | (simp only [szs] at *; omega)))⟩

set_option maxHeartbeats 1000000 in
theorem efind_core (s : ByteArray) (n x y : Int) (er : Value) (w : World)
   (c0 : Calls Tryd.prog 17 #[.string s, .int .u64 n, .int .u64 128] (w.alloc (.cells #[.int .u64 0, .int .u64 0] 25)) fun e w' => e = .returned (.tuple #[.agg #[.int .u64 x, .int .u64 y], er]) ∧ Below (w.heap.size + 1) (w.alloc (.cells #[.int .u64 0, .int .u64 0] 25)) w') :
    Calls Tryd.prog 10 #[.string s, .int .u64 n] w fun e w' => e = .returned (.tuple #[.agg #[.int .u64 x, .int .u64 y], er]) ∧ Below w.heap.size w w' := by
  go_enter Tryd.func10, Tryd.ntmps10
  go_wp2_with (go_at_call 17; (with_reducible refine c0.mono ?_); rintro e w1 ⟨rfl, b1⟩; have z1 := b1.size; (try simp only [szs] at z1); have q1 := own2 b1 w.heap.size (by omega) (by simp only [szs]; omega))
  exact bodyPost_ret (v := .tuple #[.agg #[.int .u64 x, .int .u64 y], er]) (by simp [results, Tryd.results10, go_sem, *]) rfl ⟨rfl, by (repeat' (first | (with_reducible first | exact Below.refl _ _ | assumption | refine Below.alloc ?_ ?_ _ | refine Below.drew ?_ | refine below_drewN ?_ _ | refine Below.setCell ?_ ?_ _ | refine below_via (by with_reducible assumption) ?_ ?_) | omega | (simp only [szs]; omega) | (simp only [szs] at *; omega)))⟩
theorem fndV_eq (Y : Nat → Nat) (T : Option Nat) : ∃ (x y : Int) (er : Value), fndV Y T = .tuple #[.agg #[.int .u64 x, .int .u64 y], er] := by
  cases T with
  | none => exact ⟨_, _, _, rfl⟩
  | some k => exact ⟨_, _, _, rfl⟩
theorem efindW (s : ByteArray) (hs : s.size ≤ 8) (n : Nat) (hn : n < 18446744073709551616) (w : World) (hT : TabOk w) (hTs : Tabs w) :
    Calls Tryd.prog 10 #[.string s, .int .u64 n] w fun e w' => e = .returned (fndV (findY s n) (Ob.firstG (findY s n) 128 0)) ∧ Below w.heap.size w w' := by
  have hb : Below w.heap.size w (w.alloc (.cells #[.int .u64 0, .int .u64 0] 25)) := (Below.refl w.heap.size w).alloc (Nat.le_refl _) _
  have c0 := esearchW s hs n hn (w.alloc (.cells #[.int .u64 0, .int .u64 0] 25)) (hT.below hb hT.lt) (hTs.below hb hTs.lt)
  obtain ⟨x, y, er, h⟩ := fndV_eq (findY s n) (Ob.firstG (findY s n) 128 0)
  rw [h] at c0 ⊢
  rw [World.size_alloc] at c0
  exact efind_core s n x y er w c0
theorem efind_long (s : ByteArray) (hs : 8 < s.size) (n : Nat) (hn : n < 18446744073709551616) (w : World) :
    Calls Tryd.prog 10 #[.string s, .int .u64 n] w fun e w' => e = .returned (.tuple #[.agg #[.int .u64 0, .int .u64 0], .iface 33 (.int .i64 5)]) ∧ Below w.heap.size w w' := by
  have c0 := esearch_long s hs n hn (w.alloc (.cells #[.int .u64 0, .int .u64 0] 25))
  rw [World.size_alloc] at c0
  exact efind_core s n 0 0 _ w c0
end Go.Proofs.YtkekomiaiaacaaaDoor

namespace Go.Proofs.YtkekomiaiaacaaaDoor
open Go.RowKit Go.Proofs
set_option linter.unusedVariables false
set_option linter.unusedSimpArgs false

/-- A point that is found: told by its X. -/
theorem good_wit {y : Nat} (x : Fin Ob.RE) (h : Ob.onG (x, Ob.toG y)) (hx : x ≠ 0) (hy : Ob.toG y ≠ 0) : Ob.goodB y = true := by
  refine (Ob.goodB_iff y).mpr ⟨(Ob.Sq_on _).mpr ⟨x, h⟩, fun e => hx (Ob.no_odd e h), hy⟩
/-- The tag of bases. -/
def pedS : ByteArray := ⟨#[112, 101, 100, 101, 114, 115, 101, 110]⟩
set_option maxRecDepth 100000 in
theorem ped_0 : findY pedS 0 2 = 87125116063156689 := by decide +kernel
set_option maxRecDepth 100000 in
theorem ped_1 : findY pedS 1 0 = 157158592383990474 := by decide +kernel
set_option maxRecDepth 100000 in
theorem ped_2 : findY pedS 2 1 = 186176376157046915 := by decide +kernel
set_option maxRecDepth 100000 in
theorem ped_3 : findY pedS 3 1 = 77520286453575136 := by decide +kernel
set_option maxRecDepth 100000 in
theorem ped_4 : findY pedS 4 0 = 24123346653617175 := by decide +kernel
set_option maxRecDepth 100000 in
theorem ped_5 : findY pedS 5 0 = 94747003931995715 := by decide +kernel
theorem on_dec (x y : Fin Ob.RE) (h : decide (y * y = 1 + x * x + 439 * (x * x * (y * y))) = true) : Ob.onG (x, y) := by
  have := of_decide_eq_true h
  exact this
theorem good_0 : Ob.goodB (findY pedS 0 2) = true := by
  rw [ped_0]; exact good_wit 103715507559946268 (on_dec _ _ (by decide +kernel)) (by decide +kernel) (by decide +kernel)
theorem good_1 : Ob.goodB (findY pedS 1 0) = true := by
  rw [ped_1]; exact good_wit 76671410150327662 (on_dec _ _ (by decide +kernel)) (by decide +kernel) (by decide +kernel)
theorem good_2 : Ob.goodB (findY pedS 2 1) = true := by
  rw [ped_2]; exact good_wit 39441225863687278 (on_dec _ _ (by decide +kernel)) (by decide +kernel) (by decide +kernel)
theorem good_3 : Ob.goodB (findY pedS 3 1) = true := by
  rw [ped_3]; exact good_wit 101247746332252749 (on_dec _ _ (by decide +kernel)) (by decide +kernel) (by decide +kernel)
theorem good_4 : Ob.goodB (findY pedS 4 0) = true := by
  rw [ped_4]; exact good_wit 52407769246147993 (on_dec _ _ (by decide +kernel)) (by decide +kernel) (by decide +kernel)
theorem good_5 : Ob.goodB (findY pedS 5 0) = true := by
  rw [ped_5]; exact good_wit 52028787725269462 (on_dec _ _ (by decide +kernel)) (by decide +kernel) (by decide +kernel)
theorem firstG_some (Y : Nat → Nat) : ∀ m k j, k ≤ j → j < k + m → Ob.goodB (Y j) = true → ∃ i, Ob.firstG Y m k = some i
  | 0, k, j, h1, h2, _ => by omega
  | m + 1, k, j, h1, h2, hg => by
    rw [Ob.firstG]
    by_cases h : Ob.goodB (Y k) = true
    · rw [if_pos h]; exact ⟨k, rfl⟩
    · rw [if_neg h]
      have : k ≠ j := fun e => h (by rw [e]; exact hg)
      exact firstG_some Y m (k + 1) j (by omega) (by omega) hg
/-- The bases of places up to 5 are there. -/
theorem base_some (n : Nat) (hn : n ≤ 5) : ∃ i, Ob.firstG (findY pedS n) 128 0 = some i := by
  rcases (show n = 0 ∨ n = 1 ∨ n = 2 ∨ n = 3 ∨ n = 4 ∨ n = 5 by omega) with rfl | rfl | rfl | rfl | rfl | rfl
  · exact firstG_some _ 128 0 2 (by decide) (by decide) good_0
  · exact firstG_some _ 128 0 0 (by decide) (by decide) good_1
  · exact firstG_some _ 128 0 1 (by decide) (by decide) good_2
  · exact firstG_some _ 128 0 1 (by decide) (by decide) good_3
  · exact firstG_some _ 128 0 0 (by decide) (by decide) good_4
  · exact firstG_some _ 128 0 0 (by decide) (by decide) good_5
/-- A found point, where there is one. -/
def fndP (Y : Nat → Nat) : Option Nat → Ob.Ep
  | some k => Ob.gmul (Ob.lowP (Y k)) 4
  | none => Ob.gzero
theorem fndP_on {Y : Nat → Nat} {T : Option Nat} (h : ∀ k, T = some k → Ob.goodB (Y k) = true) : Ob.onG (fndP Y T) := by
  cases T with
  | none => exact Ob.onG_zero
  | some k => exact Ob.onG_mul (Ob.rtX_on (Ob.good_of (h k rfl)).1) 4
theorem fndP_S {Y : Nat → Nat} {T : Option Nat} (h : ∀ k, T = some k → Ob.goodB (Y k) = true) (N : Nat) (hN : N = Ob.SE) : Ob.gmul (fndP Y T) N = Ob.gzero := by
  cases T with
  | none => exact Ob.gmul_zero _
  | some k => rw [hN]; exact Ob.S_four (u := Ob.lowP (Y k)) (Ob.rtX_on (Ob.good_of (h k rfl)).1)
theorem fndP_ne {Y : Nat → Nat} {T : Option Nat} (h : ∀ k, T = some k → Ob.goodB (Y k) = true) (hT : ∃ k, T = some k) : fndP Y T ≠ Ob.gzero := by
  obtain ⟨k, rfl⟩ := hT
  have hg := Ob.good_of (h k rfl)
  exact (Ob.good_four hg.1).mpr hg
/-- The base of a place, where there is one. -/
def baseP (n : Nat) : Ob.Ep := fndP (findY pedS n) (Ob.firstG (findY pedS n) 128 0)
theorem baseP_on (n : Nat) : Ob.onG (baseP n) := fndP_on fun k hk => Ob.firstG_good _ _ _ _ hk
/-- It is of order S. -/
theorem baseP_S (n N : Nat) (hN : N = Ob.SE) : Ob.gmul (baseP n) N = Ob.gzero := fndP_S (fun k hk => Ob.firstG_good _ _ _ _ hk) N hN
theorem baseP_ne {n : Nat} (hn : n ≤ 5) : baseP n ≠ Ob.gzero := fndP_ne (fun k hk => Ob.firstG_good _ _ _ _ hk) (base_some n hn)
/-- Multiples of what is of order S go by the rest. -/
theorem gmul_rest {u : Ob.Ep} (hu : Ob.onG u) {N : Nat} (h : Ob.gmul u N = Ob.gzero) (n : Nat) : Ob.gmul u (n % N) = Ob.gmul u n := by
  have e : n = N * (n / N) + n % N := (Nat.div_add_mod n _).symm
  conv => rhs; rw [e, Ob.gmul_add hu, ← Ob.gmul_mul hu, h, Ob.gmul_zero, Ob.zero_gadd (Ob.onG_mul hu _)]
end Go.Proofs.YtkekomiaiaacaaaDoor

namespace Ob
set_option linter.unusedVariables false
set_option linter.unusedSimpArgs false

/-- The sum of the first m bases, so often each. -/
def gcom (B : Nat → Ep) (v : Nat → Nat) : Nat → Ep
  | 0 => gzero
  | m + 1 => gadd (gcom B v m) (gmul (B m) (v m))
theorem gcom_on {B : Nat → Ep} (hB : ∀ i, onG (B i)) (v : Nat → Nat) : ∀ m, onG (gcom B v m)
  | 0 => onG_zero
  | m + 1 => onG_add (gcom_on hB v m) (onG_mul (hB m) _)
theorem gcom_congr (B : Nat → Ep) {v u : Nat → Nat} : ∀ m, (∀ i, i < m → v i = u i) → gcom B v m = gcom B u m
  | 0, _ => rfl
  | m + 1, h => by rw [gcom, gcom, gcom_congr B m (fun i hi => h i (by omega)), h m (by omega)]
theorem gmul_by {u : Ep} (hu : onG u) {N : Nat} (h : gmul u N = gzero) (n : Nat) : gmul u (n % N) = gmul u n := by
  have e : n = N * (n / N) + n % N := (Nat.div_add_mod n _).symm
  conv => rhs; rw [e, gmul_add hu, ← gmul_mul hu, h, gmul_zero, zero_gadd (onG_mul hu _)]
theorem gcom_rest {B : Nat → Ep} (hB : ∀ i, onG (B i)) {N : Nat} (hN : ∀ i, gmul (B i) N = gzero) (v : Nat → Nat) : ∀ m, gcom B (fun i => v i % N) m = gcom B v m
  | 0 => rfl
  | m + 1 => by rw [gcom, gcom, gcom_rest hB hN v m, gmul_by (hB m) (hN m)]
theorem gadd_swap {a b c d : Ep} (ha : onG a) (hb : onG b) (hc : onG c) (hd : onG d) : gadd (gadd a b) (gadd c d) = gadd (gadd a c) (gadd b d) := by
  rw [gadd_assoc ha hb (onG_add hc hd), ← gadd_assoc hb hc hd, gadd_comm b c, gadd_assoc hc hb hd, ← gadd_assoc ha hc (onG_add hb hd)]
theorem gcom_sum {B : Nat → Ep} (hB : ∀ i, onG (B i)) (v u : Nat → Nat) : ∀ m, gadd (gcom B v m) (gcom B u m) = gcom B (fun i => v i + u i) m
  | 0 => gadd_zero onG_zero
  | m + 1 => by
    rw [gcom, gcom, gcom, gadd_swap (gcom_on hB v m) (onG_mul (hB m) _) (gcom_on hB u m) (onG_mul (hB m) _), gcom_sum hB v u m, ← gmul_add (hB m)]
/-- Commitments add up. -/
theorem gcom_add {B : Nat → Ep} (hB : ∀ i, onG (B i)) {N : Nat} (hN : ∀ i, gmul (B i) N = gzero) (v u : Nat → Nat) (m : Nat) : gadd (gcom B v m) (gcom B u m) = gcom B (fun i => (v i + u i) % N) m := by
  rw [gcom_rest hB hN (fun i => v i + u i), gcom_sum hB]
/-- Two openings of one commitment: a sum of bases that is 0. -/
theorem gcom_two {B : Nat → Ep} (hB : ∀ i, onG (B i)) {N : Nat} (h0 : 0 < N) (hN : ∀ i, gmul (B i) N = gzero) (v u : Nat → Nat) (m : Nat) (h : gcom B v m = gcom B u m) : gcom B (fun i => (v i + (N - u i % N)) % N) m = gzero := by
  have e : gadd (gcom B u m) (gcom B (fun i => (v i + (N - u i % N)) % N) m) = gadd (gcom B u m) gzero := by
    rw [gadd_zero (gcom_on hB u m), gcom_add hB hN, ← h, ← gcom_rest hB hN v]
    refine gcom_congr B m fun i _ => ?_
    have hl := Nat.mod_lt (u i) h0
    rw [Nat.add_mod_mod]
    have e2 : u i + (v i + (N - u i % N)) = v i + N * (u i / N) + N := by
      have := Nat.div_add_mod (u i) N
      omega
    rw [e2, Nat.add_mod_right, Nat.add_mul_mod_self_left]
  exact gadd_left (gcom_on hB u m) (gcom_on hB _ m) onG_zero e
end Ob

namespace Go.Proofs.YtkekomiaiaacaaaDoor
open Go.ChangeShapes Go.WideShapes Go.ChangeAt Go.RowKit
set_option linter.unusedVariables false
set_option linter.unusedSimpArgs false

theorem own : ownKnob Tryd.prog.godebug = none := by kernel_rfl
theorem laidOut : laidOutB Tryd.prog = true := by kernel_rfl

/-- A slice of integers that came in: nil; or it leads to a row of 'cap' cells, the numbers zs (the first 'len' are its elements), each fitting its kind. -/
def IsRow (k : IntKind) (w : World) (a : Option Addr) (len cap : Nat) (zs : List Int) : Prop :=
  (a = none ∧ len = 0 ∧ cap = 0 ∧ zs = []) ∨
  ∃ x, a = some x ∧ len ≤ cap ∧ cap ≤ maxLen ∧ zs.length = cap ∧ (∀ i, i < zs.length → w.cell? (x.add i) = some (.int k (zs.getD i 0))) ∧ ∀ n ∈ zs, (Lit.int k n).wf = true

theorem isRow_of {H : Type} {enc : TypeId × Value → H} {k : IntKind} {t e : TypeId} {W : World} {a : Option Addr} {len cap : Nat} {d : DataW H} {p : List MemPlace} (ht : Tryd.prog.underlying t = some (.slice e)) (he : Tryd.prog.underlying e = some (.int k)) (hc : Tryd.prog.cellsOf e = 1)
    (h : DataW.Trod enc Tryd.prog W 0 (fun _ => true) true t (.slice a len cap) d p) : ∃ zs, IsRow k W a len cap zs := by
  obtain ⟨fuel, hf⟩ := h
  rcases open_ints ht he hc hf with ⟨hcs, _⟩ | ⟨x, l, c, zs, hcs, _, hl, hm, hz, _, hcell, hwz⟩
  · simp [Value.cells] at hcs
    obtain ⟨rfl, rfl, rfl⟩ := hcs
    exact ⟨[], .inl ⟨rfl, rfl, rfl, rfl⟩⟩
  · simp [Value.cells] at hcs
    obtain ⟨rfl, rfl, rfl⟩ := hcs
    exact ⟨zs, .inr ⟨_, rfl, hl, hm, by simpa using hz, hcell, hwz⟩⟩

/-- The same, with the form's own reach. -/
theorem isRow_sized {H : Type} {enc : TypeId × Value → H} {k : IntKind} {t e : TypeId} {W : World} {a : Option Addr} {len cap B j : Nat} {d : DataW H} {p : List MemPlace} {ts : List TypeId} {ds : List (DataW H)}
    (hsz : (DataW.weightsEach Tryd.prog ts ds).all (· ≤ reachBytes) = true) (hj : ts[j]? = some t) (hd : ds[j]? = some d) (ht : Tryd.prog.underlying t = some (.slice e)) (he : Tryd.prog.underlying e = some (.int k)) (hc : Tryd.prog.cellsOf e = 1) (hb : Tryd.prog.bytesOf e = B)
    (h : DataW.Trod enc Tryd.prog W 0 (fun _ => true) true t (.slice a len cap) d p) : ∃ zs, IsRow k W a len cap zs ∧ cap * B ≤ 140737488351232 := by
  obtain ⟨fuel, hf⟩ := h
  rcases open_ints ht he hc hf with ⟨hcs, _⟩ | ⟨x, l, c, zs, hcs, _, hl, hm, hz, hx, hcell, hwz⟩
  · simp [Value.cells] at hcs
    obtain ⟨rfl, rfl, rfl⟩ := hcs
    exact ⟨[], .inl ⟨rfl, rfl, rfl, rfl⟩, by omega⟩
  · simp [Value.cells] at hcs
    obtain ⟨rfl, rfl, rfl⟩ := hcs
    refine ⟨zs, .inr ⟨_, rfl, hl, hm, by simpa using hz, hcell, hwz⟩, ?_⟩
    simp only [Prod.mk.injEq] at hx
    rw [hx.1] at hd
    have hs := sized_slice hsz hj hd ht
    have hz' : zs.length = cap := by simpa using hz
    have e1 : (lits k (zs.take len) : List (DataW H)).length + (lits k (zs.drop len) : List (DataW H)).length = cap := by
      simp only [lits, List.length_map, List.length_take, List.length_drop]
      omega
    rw [e1, hb] at hs
    exact hs

end Go.Proofs.YtkekomiaiaacaaaDoor

namespace Go.Proofs.YtkekomiaiaacaaaDoor
open Go.RowKit Go.Proofs
set_option linter.unusedVariables false
set_option linter.unusedSimpArgs false

theorem add_none (b off i : Nat) : (⟨b, off, none⟩ : Addr).add i = ⟨b, off + i, none⟩ := by unfold Addr.add; split <;> simp_all
/-- n words, from a place on. -/
structure Wds (w : World) (b off n : Nat) (z : Nat → Nat) : Prop where
  lt : b < w.heap.size
  at_ : ∀ i, i < n → w.cell? ⟨b, off + i, none⟩ = some (.int .u64 (z i : Nat))
theorem Wds.below {w w1 : World} {B b off n : Nat} {z : Nat → Nat} (t : Wds w b off n z) (hb : Below B w w1) (h : b < B) : Wds w1 b off n z :=
  ⟨Nat.lt_of_lt_of_le t.lt hb.size, fun i hi => by rw [(bcell hb).1 b _ h]; exact t.at_ i hi⟩
theorem Wds.via {w w1 : World} {B b off n : Nat} {z : Nat → Nat} (hb : Below B w w1) (t : Wds w b off n z) (h : b < B) : Wds w1 b off n z := t.below hb h
theorem Wds.drew {w : World} {b off n : Nat} {z : Nat → Nat} (t : Wds w b off n z) : Wds w.drew b off n z := ⟨t.lt, t.at_⟩
theorem Wds.drewN {w : World} {b off n : Nat} {z : Nat → Nat} (t : Wds w b off n z) (k : Nat) : Wds (w.drewN k) b off n z := ⟨t.lt, t.at_⟩
theorem Wds.alloc {w : World} {b off n : Nat} {z : Nat → Nat} (t : Wds w b off n z) (o : Obj) : Wds (w.alloc o) b off n z := t.below ((Below.refl w.heap.size w).alloc (Nat.le_refl _) o) t.lt
theorem Wds.far {w : World} {b off n b' : Nat} {z : Nat → Nat} (t : Wds w b off n z) (h : b' ≠ b) (o : Nat) (v : Value) : Wds (w.setCell ⟨b', o, none⟩ v) b off n z :=
  ⟨by simp [t.lt], fun i hi => by rw [World.cell?_setCell_other _ _ _ _ (by simp [h]), t.at_ i hi]⟩
theorem Wds.less {w : World} {b off n m : Nat} {z : Nat → Nat} (t : Wds w b off n z) (h : m ≤ n) : Wds w b off m z := ⟨t.lt, fun i hi => t.at_ i (by omega)⟩
theorem Wds.more {w : World} {b off n : Nat} {z : Nat → Nat} (t : Wds w b off n z) (k m : Nat) (h : k + m ≤ n) : Wds w b (off + k) m (fun i => z (k + i)) :=
  ⟨t.lt, fun i hi => by rw [Nat.add_assoc]; exact t.at_ (k + i) (by omega)⟩
theorem Wds.congr {w : World} {b off n : Nat} {y z : Nat → Nat} (t : Wds w b off n y) (h : ∀ i, i < n → y i = z i) : Wds w b off n z := ⟨t.lt, fun i hi => by rw [← h i hi]; exact t.at_ i hi⟩
theorem Wds.one {w : World} {n : Nat} {t : TypeId} {b : Nat} (h : b = w.heap.size) : Wds (w.alloc (.cells #[.int .u64 (n : Nat)] t)) b 0 1 (fun _ => n) := by
  subst h
  exact ⟨by simp, fun i hi => by obtain rfl : i = 0 := by omega
                                 simp [go_sem]⟩

/-- A slice of n words that lies below block B, or has none. -/
def SrcW (B : Nat) (w : World) (a : Option Addr) (n : Nat) (z : Nat → Nat) : Prop := n = 0 ∨ ∃ b off, a = some ⟨b, off, none⟩ ∧ b < B ∧ Wds w b off n z
theorem SrcW.below {B : Nat} {w w1 : World} {a : Option Addr} {n : Nat} {z : Nat → Nat} (h : SrcW B w a n z) (hb : Below B w w1) : SrcW B w1 a n z := by
  rcases h with h | ⟨b, off, e, hl, h⟩
  · exact Or.inl h
  · exact Or.inr ⟨b, off, e, hl, h.below hb hl⟩
theorem SrcW.mono {B C : Nat} {w : World} {a : Option Addr} {n : Nat} {z : Nat → Nat} (h : SrcW B w a n z) (hc : B ≤ C) : SrcW C w a n z := by
  rcases h with h | ⟨b, off, e, hl, h⟩
  · exact Or.inl h
  · exact Or.inr ⟨b, off, e, by omega, h⟩
theorem SrcW.to {B : Nat} {w w1 : World} {a : Option Addr} {n : Nat} {z : Nat → Nat} (h : SrcW B w a n z) (hb : Below B w w1) (hB : B ≤ w.heap.size) : SrcW w1.heap.size w1 a n z := (h.below hb).mono (Nat.le_trans hB hb.size)
theorem SrcW.of {w : World} {b off n : Nat} {z : Nat → Nat} (h : Wds w b off n z) : SrcW w.heap.size w (some ⟨b, off, none⟩) n z := Or.inr ⟨b, off, rfl, h.lt, h⟩
theorem SrcW.nil (B : Nat) (w : World) (a : Option Addr) (z : Nat → Nat) : SrcW B w a 0 z := Or.inl rfl
theorem SrcW.less {B : Nat} {w : World} {a : Option Addr} {n m : Nat} {z : Nat → Nat} (h : SrcW B w a n z) (hm : m ≤ n) : SrcW B w a m z := by
  rcases h with h | ⟨b, off, e, hl, h⟩
  · exact Or.inl (by omega)
  · exact Or.inr ⟨b, off, e, hl, h.less hm⟩
theorem SrcW.congr {B : Nat} {w : World} {a : Option Addr} {n : Nat} {y z : Nat → Nat} (h : SrcW B w a n y) (e : ∀ i, i < n → y i = z i) : SrcW B w a n z := by
  rcases h with h | ⟨b, off, e', hl, h⟩
  · exact Or.inl h
  · exact Or.inr ⟨b, off, e', hl, h.congr e⟩

theorem wdInfo : ∃ i, Tryd.prog.info? 22 = some i ∧ i.size = 1 ∧ i.bytes = 8 ∧ i.zero = some (.int .u64 0) := by
  have h : (Tryd.prog.info? 22).map (fun i => (i.size, i.bytes, i.zero)) = some (1, 8, some (.int .u64 0)) := by kernel_rfl
  cases hi : Tryd.prog.info? 22 with
  | none => rw [hi] at h; cases h
  | some i =>
    rw [hi] at h
    simp only [Option.map_some, Option.some.injEq, Prod.mk.injEq] at h
    exact ⟨i, rfl, h.1, h.2.1, h.2.2⟩
/-- The values of words. -/
def wals (z : Nat → Nat) (n : Nat) : List Value := (List.range n).map fun i => .int .u64 (z i : Nat)
theorem wals_zero (z : Nat → Nat) : wals z 0 = [] := rfl
theorem wals_succ (z : Nat → Nat) (n : Nat) : wals z (n + 1) = wals z n ++ [.int .u64 (z n : Nat)] := by simp [wals, List.range_succ]
theorem wals_length (z : Nat → Nat) (n : Nat) : (wals z n).length = n := by simp [wals]
theorem wals_get (z : Nat → Nat) (n i : Nat) (h : i < n) : (wals z n)[i]? = some (.int .u64 (z i : Nat)) := by simp [wals, h]
theorem wals_one (z : Nat → Nat) (n : Nat) : ∀ u ∈ wals z n, u.oneCell' = true := by
  intro u hu
  simp only [wals, List.mem_map] at hu
  obtain ⟨i, _, rfl⟩ := hu
  rfl
theorem wals_congr (y z : Nat → Nat) (n : Nat) (h : ∀ i, i < n → y i = z i) : wals y n = wals z n := by
  induction n with
  | zero => rfl
  | succ n ih => rw [wals_succ, wals_succ, ih (fun i hi => h i (by omega)), h n (by omega)]
theorem wds_news {w : World} {b off n : Nat} {z : Nat → Nat} (h : Wds w b off n z) : ∀ j u, (wals z n)[j]? = some u → w.cell? ((⟨b, off, none⟩ : Addr).add j) = some u := by
  intro j u hu
  have hj : j < n := by rw [← wals_length z n]; exact (List.getElem?_eq_some_iff.1 hu).1
  rw [wals_get z n j hj] at hu
  cases hu
  rw [add_none]
  exact h.at_ j hj
theorem wds_of_row {w : World} {base n cap g : Nat} {z : Nat → Nat} (h : w.ownsRow base 22 1 (.slice (some ⟨g, 0, none⟩) n cap) n (wals z n)) : Wds w g 0 n z := by
  refine ⟨(h.lt g rfl).2, fun i hi => ?_⟩
  have := h.cells (g := g) rfl i _ (wals_get z n i hi)
  rw [add_none] at this
  exact this

/-- A slice of words that came in. -/
theorem srcW_of_isRow {w : World} {a : Option Addr} {len cap : Nat} {zs : List Int} (h : IsRow .u64 w a len cap zs) :
    ∃ z : Nat → Nat, len ≤ cap ∧ cap ≤ maxLen ∧ (∀ i, z i < 18446744073709551616) ∧ SrcW w.heap.size w a len z ∧ (a = none → len = 0 ∧ cap = 0) ∧ ∀ i, i < len → (z i : Int) = zs.getD i 0 := by
  rcases h with ⟨rfl, rfl, rfl, rfl⟩ | ⟨x, rfl, h1, h2, h3, hcell, hwz⟩
  · exact ⟨fun _ => 0, by omega, by omega, fun i => (by show 0 < _; decide), Or.inl rfl, fun _ => ⟨rfl, rfl⟩, fun i hi => by omega⟩
  · have hb : ∀ i, 0 ≤ zs.getD i 0 ∧ zs.getD i 0 < 18446744073709551616 := fun i => by
      rcases Nat.lt_or_ge i zs.length with hi | hi
      · have hm : zs.getD i 0 ∈ zs := by simp [List.getD, List.getElem?_eq_getElem hi]
        have := bounds_u64 (hwz _ hm)
        omega
      · simp [List.getD, List.getElem?_eq_none hi]
    refine ⟨fun i => (zs.getD i 0).toNat, h1, h2, fun i => (by have := hb i; show (zs.getD i 0).toNat < _; omega), ?_, (fun h => by cases h), fun i hi => (by have := hb i; show ((zs.getD i 0).toNat : Int) = _; omega)⟩
    by_cases hl : len = 0
    · exact Or.inl hl
    · obtain ⟨b, off, spot⟩ := x
      have hc := hcell 0 (by omega)
      have hspot : spot = none := by simpa [Addr.add] using World.cell?_spot hc
      subst hspot
      have hbl : b < w.heap.size := by have := World.block_lt_of_cell? _ _ hc; simpa [Addr.add] using this
      refine Or.inr ⟨b, off, rfl, hbl, hbl, fun i hi => ?_⟩
      have h := hcell i (by omega)
      rw [add_none] at h
      rw [h]
      exact congrArg (fun n => some (Value.int .u64 n)) (by have := hb i; show _ = ((zs.getD i 0).toNat : Int); omega)

/-- n words, others behind them. -/
def joinW (z : Nat → Nat) (n : Nat) (u : Nat → Nat) (j : Nat) : Nat := if j < n then z j else u (j - n)
theorem wals_joinW (z u : Nat → Nat) (n : Nat) : ∀ m, wals z n ++ wals u m = wals (joinW z n u) (n + m)
  | 0 => by rw [wals_zero, List.append_nil]; exact wals_congr _ _ _ fun i hi => by unfold joinW; rw [if_pos hi]
  | m + 1 => by
    rw [wals_succ, ← List.append_assoc, wals_joinW z u n m, ← Nat.add_assoc, wals_succ]
    have e : joinW z n u (n + m) = u m := by unfold joinW; rw [if_neg (by omega), Nat.add_sub_cancel_left]
    rw [e]
theorem srcOf {B : Nat} {w : World} {ad : Option Addr} {m c : Nat} {u : Nat → Nat} (h : SrcW B w ad m u) : ∃ i, Tryd.prog.info? 22 = some i ∧ i.size = 1 ∧ i.bytes = 8 ∧ i.zero = some (.int .u64 0) ∧ Go.Src Tryd.prog i.size 35 (.slice ad m c) m (wals u m) w := by
  obtain ⟨i0, hi, hz1, hz2, hz0⟩ := wdInfo
  refine ⟨i0, hi, hz1, hz2, hz0, ?_⟩
  rcases h with rfl | ⟨b, off, rfl, hl, h⟩
  · cases ad with
    | none => exact Go.Src.ofNil w Tryd.underlying35 c
    | some a => exact Go.Src.ofSlice w Tryd.underlying35 a 0 c [] (by simp) (fun j u h => by simp at h) (fun u h => by cases h)
  · exact Go.Src.ofSlice w Tryd.underlying35 _ m c _ (by rw [hz1]; simp [wals]) (wds_news h) (wals_one u m)

/-- append of words behind words that fill their room (or of none). -/
theorem run_joinW (w : World) (ty : TypeId) (g n : Nat) (z : Nat → Nat) (hz : Wds w g 0 n z) (B : Nat) (ad : Option Addr) (m c : Nat) (u : Nat → Nat) (hu : SrcW B w ad m u) (hn : n ≤ 1000000) (hm : m ≤ 1000000) :
    ∃ g' cap' w', (Builtin.append_ #[35, 35] ty #[.slice (some ⟨g, 0, none⟩) n n, .slice ad m c]).run Tryd.prog w = .ok (.slice (some ⟨g', 0, none⟩) (n + m) cap') w' ∧ n + m ≤ cap' ∧ Wds w' g' 0 (n + m) (joinW z n u) ∧ (g' = g ∨ g' = w.heap.size) ∧ Below w.heap.size w w' := by
  obtain ⟨i0, hi, hz1, hz2, hz0, src⟩ := srcOf (c := c) hu
  by_cases h0 : m = 0
  · subst h0
    have hr := run_append_room_src w 35 35 ty 22 i0 Tryd.underlying35 hi g 0 n n _ 0 _ src (by omega) (fun j h => by simp [wals] at h) (fun j h => by simp [wals] at h)
    exact ⟨g, n, w, hr, by omega, hz.congr fun i h => by unfold joinW; rw [if_pos h], Or.inl rfl, Below.refl _ _⟩
  · have hold := run_firstCells_some (P := Tryd.prog) w.drew i0.size n ⟨g, 0, none⟩ n n (wals z n) (by rw [hz1]; simp [wals]) (fun j v hv => wds_news hz j v hv)
    have hr := run_append_grow_src w 35 35 ty 22 i0 _ Tryd.underlying35 hi hz0 (some ⟨g, 0, none⟩) n n (wals z n) hold _ m _ src (by omega) (by omega) (by rw [hz2]; exact growslice_fits (by omega) (by omega))
    rw [wals_joinW] at hr
    have hge := grownCap_ge w (n + m) n 22
    generalize grownCap w (n + m) n 22 = C at hr hge
    refine ⟨w.heap.size, C, _, hr, hge, ⟨by simp, fun j hj => ?_⟩, Or.inr rfl, (((Below.refl w.heap.size w).drew).alloc (Nat.le_refl _) _)⟩
    rw [Nat.zero_add, World.cell?_alloc_at _ _ _ _ (by simp), Array.getElem?_append_left (by simp [wals]; omega), List.getElem?_toArray]
    exact wals_get _ _ j hj
theorem wpList_joinW {ops : Array Oper} {rest : List Oper} {o : Oper} {a : Act} {w : World} {Q : Exit → Act → World → Prop} (hgd : o.guard = none) (s x : Operand)
    (ho : o.op = .call { callee := .builtin .append, args := #[s, x], argTypes := #[35, 35] }) (g n : Nat) (z : Nat → Nat) (hz : Wds w g 0 n z) (B : Nat) (ad : Option Addr) (m c : Nat) (u : Nat → Nat) (hu : SrcW B w ad m u) (hn : n ≤ 1000000) (hm : m ≤ 1000000)
    (hs : a.eval s = .slice (some ⟨g, 0, none⟩) n n) (hx : a.eval x = .slice ad m c)
    (h : ∀ g' cap' w', n + m ≤ cap' → Wds w' g' 0 (n + m) (joinW z n u) → (g' = g ∨ g' = w.heap.size) → Below w.heap.size w w' → wpList Tryd.prog ops Q rest (a.put o.dst (.slice (some ⟨g', 0, none⟩) (n + m) cap')) w') : wpList Tryd.prog ops Q (o :: rest) a w := by
  refine wpList_plain hgd fun K hK => ?_
  obtain ⟨g', cap', w', hr, h1, h2, h3, h4⟩ := run_joinW w o.type g n z hz B ad m c u hu hn hm
  unfold Oper.wp execOp
  simp only [ho, resolve, invoke, builtin, Sem.run_bind, Sem.run_pure, Result.andThen_ok, List.map_toArray, List.map_cons, List.map_nil, hs, hx, hr]
  exact hK _ _ (h g' cap' w' h1 h2 h3 h4)
/-- append onto an empty row: a copy of one's own. -/
theorem wpList_copyW {ops : Array Oper} {rest : List Oper} {o : Oper} {a : Act} {w : World} {Q : Exit → Act → World → Prop} (hgd : o.guard = none) (s x : Operand)
    (ho : o.op = .call { callee := .builtin .append, args := #[s, x], argTypes := #[35, 35] }) (base b0 : Nat) (hs : a.eval s = .slice (some ⟨b0, 0, none⟩) 0 0)
    (hown0 : w.ownsRow base 22 1 (.slice (some ⟨b0, 0, none⟩) 0 0) 0 []) (hbase : base ≤ w.heap.size) (B : Nat) (ad : Option Addr) (n c : Nat) (z : Nat → Nat) (hx : a.eval x = .slice ad n c) (hS : SrcW B w ad n z) (hn : n ≤ 1000000)
    (h : ∀ g cap w', w'.ownsRow base 22 1 (.slice (some ⟨g, 0, none⟩) n cap) n (wals z n) → Below base w w' → wpList Tryd.prog ops Q rest (a.put o.dst (.slice (some ⟨g, 0, none⟩) n cap)) w') : wpList Tryd.prog ops Q (o :: rest) a w := by
  obtain ⟨i0, hi, hz1, hz2, hz0, src⟩ := srcOf (c := c) hS
  by_cases h0 : n = 0
  · subst h0
    have hr := run_append_room_src w 35 35 o.type 22 i0 Tryd.underlying35 hi b0 0 0 0 (.slice ad 0 c) 0 _ src (by omega) (fun j h => by simp [wals] at h) (fun j h => by simp [wals] at h)
    refine wpList_plain hgd fun K hK => ?_
    unfold Oper.wp execOp
    simp only [ho, resolve, invoke, builtin, Sem.run_bind, Sem.run_pure, Result.andThen_ok, List.map_toArray, List.map_cons, List.map_nil, hs, hx, hr]
    exact hK _ _ (h b0 0 w hown0 (Below.refl _ _))
  · rcases hS with h1 | ⟨b, off, rfl, hl, hB⟩
    · exact absurd h1 h0
    refine wpList_append_lies _ hgd s x 35 ho base 22 i0 _ 1 8 Tryd.underlying35 hi hz0 hz1 hz2 rfl (by decide) _ 0 [] hs hown0 ⟨b, off, none⟩ n c (wals z n) hx (by simp [wals]) (wds_news hB) (wals_one z n) (by omega) (by unfold maxLen; omega) (by omega) hbase w.heap.size rfl ?_
    intro g cap w' hown hg _ _
    rw [Nat.zero_add, List.nil_append] at hown
    rw [Nat.zero_add]
    exact h g cap w' hown ((Below.refl base w).grown hg hbase (fun k hk => (hown0.lt k hk).1))
end Go.Proofs.YtkekomiaiaacaaaDoor
