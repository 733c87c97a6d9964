/-
  Joined texts: Package blake, walked: Press. Bytes copied into arrays of one's own.
-/
import Derived.Test.YtoigpjaffggekaaDoorJ6
import Derived.Test.YtoigpjaffggekaaDoorJ4
import Derived.Test.YtoigpjaffggekaaDoorJ3
import Derived.Lib.LazyBuf
import Derived.Lib.SlBuf

namespace Go.Proofs.YtoigpjaffggekaaDoor
open Go.RowKit Go.Proofs
set_option linter.unusedVariables false
set_option linter.unusedSimpArgs false
attribute [local go_sem ↓] Go.wp_at_zero Go.wp_at_succ

theorem word_lt {z : Nat → Nat} (hz : ∀ i, z i < 256) : Ob.Words32 (wordAt z) := fun j => by
  have h0 := hz (4 * j)
  have h1 := hz (4 * j + 1)
  have h2 := hz (4 * j + 2)
  have h3 := hz (4 * j + 3)
  unfold wordAt
  omega
/-- h with i of its words pressed. -/
def pressI (h v : Nat → Nat) (i j : Nat) : Nat := if j < i then h j ^^^ (v j ^^^ v (j + 8)) else h j
theorem pressI_zero (h v : Nat → Nat) : pressI h v 0 = h := by funext j; simp [pressI]
theorem pressI_succ (h v : Nat → Nat) (i : Nat) : Ob.upd (pressI h v i) i (h i ^^^ (v i ^^^ v (i + 8))) = pressI h v (i + 1) := by
  funext j
  unfold Ob.upd pressI
  by_cases h1 : j = i
  · subst h1; simp
  · by_cases h2 : j < i
    · simp [h1, h2, Nat.lt_succ_of_lt h2]
    · simp [h1, h2]; omega

set_option maxHeartbeats 4000000 in
theorem press_core (h z : Nat → Nat) (hh : Ob.Words32 h) (hz : ∀ i, z i < 256) (n : Nat) (hn : n < 18446744073709551616) (last : Bool) (w : World) (hT : Tabs w) :
    Calls Tryd.prog 76 #[arrV .u32 h 8, arrV .u8 z 64, .int .u64 n, .bool last] w fun e w' => e = .returned (arrV .u32 (Ob.press h (wordAt z) n last) 8) ∧ Below w.heap.size w w' := by
  unfold arrV
  have hl := arrL_length .u32 h 8
  have hl' := arrL_length .u8 z 64
  have hT' : Hid (Tabs w) := hT
  have hh' : Hid (Ob.Words32 h) := hh
  have hz' : Hid (∀ i, z i < 256) := hz
  clear hT hh hz
  go_enter Tryd.func76, Tryd.ntmps76
  go_upto_region 1 with (fail)
  obtain ⟨W0, hW0⟩ : ∃ W, Hid ((((w.alloc (.cells (arrL .u32 h 8).toArray 68)).alloc (.cells (arrL .u8 z 64).toArray 88)).alloc (.cells (arrL .u32 (fun _ => 0) 8).toArray 68)) = W) := ⟨_, rfl⟩
  have th0 : Arr W0 .u32 w.heap.size 8 h := by rw [← hW0.out]; exact ((Arr.new rfl).alloc _).alloc _
  have tb0 : Arr W0 .u8 (w.heap.size + 1) 64 z := by rw [← hW0.out]; exact (Arr.new (by simp)).alloc _
  have tr0 : Arr W0 .u32 (w.heap.size + 1 + 1) 8 (fun _ => 0) := by rw [← hW0.out]; exact Arr.new (by simp)
  have hB0 : Below w.heap.size w W0 := by rw [← hW0.out]; (repeat' (first | (with_reducible first | exact Below.refl _ _ | assumption | refine Below.alloc ?_ ?_ _ | refine Below.drew ?_ | refine below_drewN ?_ _ | refine Below.setCell ?_ ?_ _ | refine below_via (by with_reducible assumption) ?_ ?_) | omega | (simp only [szs]; omega) | (simp only [szs] at *; omega)))
  change Code.wp _ _ _ _ (((w.alloc (.cells (arrL .u32 h 8).toArray 68)).alloc (.cells (arrL .u8 z 64).toArray 88)).alloc (.cells (arrL .u32 (fun _ => 0) 8).toArray 68))
  rw [hW0.out]
  clear hW0
  obtain ⟨N, hN⟩ : ∃ N, Hid (w.heap.size = N) := ⟨_, rfl⟩
  rw [hN.out] at th0 tb0 tr0 hB0 ⊢
  have hlN : 6 ≤ N := by have := hT'.out.lt; have := hN.out; omega
  have c1 := sixteen_core h hh'.out n hn last W0 (hT'.out.below hB0 hlN)
  unfold arrV at c1
  have l0 := tr0.lt
  go_upto_region 2 with (first | ((with_reducible refine wpList_loadLit th0 ?_ Tryd.underlying68 ?_ ?_ ?_); (focus rfl); (focus rfl); (focus kernel_rfl); simp only [Act.put, List.setIfInBounds_toArray, List.set_cons_zero, List.set_cons_succ]) | ((with_reducible refine wpList_storeLit (Ob.six h n last) Arr.new16 ?_ ?_ ?_ ?_); (focus rfl); (focus rfl); (focus kernel_rfl); intro W2 hW2_ tW2_ zW2_; try simp only [Act.put, List.setIfInBounds_toArray, List.set_cons_zero, List.set_cons_succ]) | (go_at_call 79; with_reducible refine c1.mono ?_; rintro e W1 ⟨rfl, b1⟩))
  have l1 := b1.size
  have th2 : Arr W2 .u32 N 8 h := by rw [hW2_.out]; exact ((th0.below b1 (by omega)).alloc _).farCells (by omega) _ _
  have tb2 : Arr W2 .u8 (N + 1) 64 z := by rw [hW2_.out]; exact ((tb0.below b1 (by omega)).alloc _).farCells (by omega) _ _
  have tr2 : Arr W2 .u32 (N + 1 + 1) 8 (fun _ => 0) := by rw [hW2_.out]; exact ((tr0.below b1 (by omega)).alloc _).farCells (by omega) _ _
  have hB1 : Below N w W1 := below_via b1 hB0 (by omega)
  have hB2 : Below N w W2 := by rw [hW2_.out]; exact below_setCells (hB1.alloc (by omega) _) (by omega) _ _
  have tv2 := tW2_.out
  obtain ⟨V, hV⟩ : ∃ V, Hid (W1.heap.size = V) := ⟨_, rfl⟩
  rw [hV.out] at tv2
  have lV : N + 1 + 1 < V := by have := hV.out; omega
  rw [hV.out]
  clear th0 tb0 tr0 hB0 hB1 hW2_ tW2_ zW2_ l1 b1 c1 l0 hV
  have c2 := blockWords_core z hz'.out W2
  unfold arrV at c2
  have l2 := tr2.lt
  have l2' := tv2.lt
  go_upto_region 3 with (first | ((with_reducible refine wpList_loadLit tb2 ?_ Tryd.underlying88 ?_ ?_ ?_); (focus rfl); (focus rfl); (focus kernel_rfl); simp only [Act.put, List.setIfInBounds_toArray, List.set_cons_zero, List.set_cons_succ]) | ((with_reducible refine wpList_storeLit (wordAt z) Arr.new16 ?_ ?_ ?_ ?_); (focus rfl); (focus rfl); (focus kernel_rfl); intro W4 hW4_ tW4_ zW4_; try simp only [Act.put, List.setIfInBounds_toArray, List.set_cons_zero, List.set_cons_succ]) | (go_at_call 80; with_reducible refine c2.mono ?_; rintro e W3 ⟨rfl, b3⟩))
  have l3 := b3.size
  have th4 : Arr W4 .u32 N 8 h := by rw [hW4_.out]; exact ((th2.below b3 (by omega)).alloc _).farCells (by omega) _ _
  have tr4 : Arr W4 .u32 (N + 1 + 1) 8 (fun _ => 0) := by rw [hW4_.out]; exact ((tr2.below b3 (by omega)).alloc _).farCells (by omega) _ _
  have tv4 : Arr W4 .u32 V 16 (Ob.six h n last) := by rw [hW4_.out]; exact ((tv2.below b3 (by omega)).alloc _).farCells (by omega) _ _
  have hB3 : Below N w W3 := below_via b3 hB2 (by omega)
  have hB4 : Below N w W4 := by rw [hW4_.out]; exact below_setCells (hB3.alloc (by omega) _) (by omega) _ _
  have tm4 := tW4_.out
  obtain ⟨M, hM⟩ : ∃ V, Hid (W3.heap.size = V) := ⟨_, rfl⟩
  rw [hM.out] at tm4
  have lM : V < M := by have := hM.out; omega
  rw [hM.out]
  clear th2 tb2 tr2 tv2 hB2 hB3 hW4_ tW4_ zW4_ l3 b3 c2 l2 l2' hM
  have hs : Hid (Ob.Words32 (Ob.six h n last)) := Ob.six_words hh'.out hn last
  have hm : Hid (Ob.Words32 (wordAt z)) := word_lt hz'.out
  obtain ⟨m, hmE⟩ : ∃ m, Hid (wordAt z = m) := ⟨_, rfl⟩
  obtain ⟨v, hvE⟩ : ∃ m, Hid (Ob.six h n last = m) := ⟨_, rfl⟩
  have hend : Hid (Ob.press h (wordAt z) n last = fun j => h j ^^^ (Ob.rounds v m 10 j ^^^ Ob.rounds v m 10 (j + 8))) := by rw [← hmE.out, ← hvE.out]; rfl
  rw [hmE.out] at tm4 hm ⊢
  rw [hvE.out] at tv4 hs ⊢
  go_wp2
  go_loopw [19] (fun s19 wr => ∃ (r : Nat), r ≤ 10 ∧ s19 = .int .i64 (r : Nat) ∧ Hid (Arr wr .u32 N 8 h) ∧ Hid (Arr wr .u32 (N + 1 + 1) 8 (fun _ => 0)) ∧ Hid (Arr wr .u32 M 16 m) ∧ Hid (Arr wr .u32 V 16 (Ob.rounds v m r)) ∧ Below N w wr) (fun s19 _ => 10 - (intOf s19).toNat)
  case atStart => exact ⟨0, by omega, rfl, th4, tr4, tm4, tv4, hB4⟩
  case round =>
    clear th4 tr4 tm4 tv4 hB4
    obtain ⟨r, hr, rfl, th, tr, tm, tv, hB⟩ := hrel
    have l0 := hB.size
    by_cases hlt : r < 10
    · have c3 := mixed_core (Ob.rounds v m r) m (Ob.rounds_words hs.out m r) hm.out r hlt wr (hT'.out.below hB hlN)
      unfold arrV at c3
      have r0 : (r : Int) < 10 := by omega
      have hnext : Hid (Ob.roundN (Ob.rounds v m r) m r 8 = Ob.rounds v m (r + 1)) := rfl
      rw [hnext.out] at c3
      have l1 := tm.out.lt
      have l2 := tv.out.lt
      have ev : Ob.Words32 v := hs.out
      go_wp2_with (first | ((with_reducible refine wpList_loadLit tv.out ?_ Tryd.underlying75 ?_ ?_ ?_); (focus rfl); (focus rfl); (focus kernel_rfl); simp only [Act.put, List.setIfInBounds_toArray, List.set_cons_zero, List.set_cons_succ]) | ((with_reducible refine wpList_loadLit tm.out ?_ Tryd.underlying75 ?_ ?_ ?_); (focus rfl); (focus rfl); (focus kernel_rfl); simp only [Act.put, List.setIfInBounds_toArray, List.set_cons_zero, List.set_cons_succ]) | ((with_reducible refine wpList_storeLit (Ob.rounds v m (r + 1)) tv6 ?_ ?_ ?_ ?_); (focus rfl); (focus rfl); (focus kernel_rfl); intro W7 hW7_ tW7_ zW7_; try simp only [Act.put, List.setIfInBounds_toArray, List.set_cons_zero, List.set_cons_succ]) | (go_at_call 81; with_reducible refine c3.mono ?_; rintro e W6 ⟨rfl, b6⟩; have tv6 := tv.out.below b6 l2))
      have th7 : Hid (Arr W7 .u32 N 8 h) := by rw [hW7_.out]; exact (th.out.below b6 (by omega)).farCells (by omega) _ _
      have tr7 : Hid (Arr W7 .u32 (N + 1 + 1) 8 (fun _ => 0)) := by rw [hW7_.out]; exact (tr.out.below b6 (by omega)).farCells (by omega) _ _
      have tm7 : Hid (Arr W7 .u32 M 16 m) := by rw [hW7_.out]; exact (tm.out.below b6 (by omega)).farCells (by omega) _ _
      have hB6 : Below N w W6 := below_via b6 hB (by omega)
      have hB7 : Below N w W7 := by rw [hW7_.out]; exact below_setCells hB6 (by omega) _ _
      go_roundw
      case rel => exact ⟨r + 1, by omega, by go_num, th7, tr7, tm7, tW7_, hB7⟩
      case measure => (simp only [intOf, Int.toNat_natCast]; omega)
    · obtain rfl : r = 10 := by omega
      go_upto_region 8 with (fail)
      have hv' : Hid (Ob.Words32 (Ob.rounds v m 10)) := Ob.rounds_words hs.out m 10
      obtain ⟨v', hvE'⟩ : ∃ m', Hid (Ob.rounds v m 10 = m') := ⟨_, rfl⟩
      rw [hvE'.out] at tv hv' hend
      have th' : Hid (Arr wr .u32 N 8 (pressI h v' 0)) := by rw [pressI_zero]; exact th.out
      clear th
      rw [show ((10 : Nat) : Int) = 10 from rfl]
      go_wp2
      go_loopw [27] (fun s27 wr => ∃ (i : Nat), i ≤ 8 ∧ s27 = .int .i64 (i : Nat) ∧ Hid (Arr wr .u32 N 8 (pressI h v' i)) ∧ Hid (Arr wr .u32 (N + 1 + 1) 8 (fun _ => 0)) ∧ Hid (Arr wr .u32 V 16 v') ∧ Below N w wr) (fun s27 _ => 8 - (intOf s27).toNat)
      case atStart => exact ⟨0, by omega, rfl, th', tr, tv, hB⟩
      case round =>
        clear th' tr tv hB tm
        obtain ⟨i, hi, rfl, th, tr, tv, hB⟩ := hrel
        have l1 := hB.size
        by_cases hi8 : i < 8
        · have p0 := th.out.drew.c i hi8
          have p1 := tv.out.drew.c i (by omega)
          have p2 := tv.out.drew.c (i + 8) (by omega)
          have p3 := th.out.c i hi8
          have p4 := th.out.f i hi8
          have e0 : pressI h v' i i = h i := by unfold pressI; rw [if_neg (by omega)]
          rw [e0] at p0 p3
          have x1 := xor_u32 (v' i) (v' (i + 8)) (hv'.out i) (hv'.out (i + 8))
          have x2 := xor_u32 (h i) (v' i ^^^ v' (i + 8)) (hh'.out i) (Ob.xor_lt (hv'.out i) (hv'.out (i + 8)))
          obtain ⟨Y, hY⟩ : ∃ Y, Hid (v' i ^^^ v' (i + 8) = Y) := ⟨_, rfl⟩
          obtain ⟨X, hX⟩ : ∃ X, Hid (h i ^^^ (v' i ^^^ v' (i + 8)) = X) := ⟨_, rfl⟩
          rw [hX.out, hY.out] at x2
          rw [hY.out] at x1
          have i0 : (i : Int) < 8 := by omega
          have i1 : (0 : Int) ≤ (i : Int) := by omega
          have i2 : (i : Int) < 16 := by omega
          have i3 : IntKind.i64.wrap ((i : Int) + 8) = ((i + 8 : Nat) : Int) := by rw [IntKind.wrap_i64]; omega
          have i4 : ((i + 8 : Nat) : Int) < 16 := by omega
          have i5 : (0 : Int) ≤ ((i + 8 : Nat) : Int) := by omega
          obtain ⟨k, hk⟩ : ∃ k, Hid (i + 8 = k) := ⟨_, rfl⟩
          rw [hk.out] at i3 i4 i5 p2 x1
          go_upto_region 11 with (fail)
          refine wp_region_noPanic ?_
          refine region_lastly (S := (fun w' => w'.cell? ⟨N, i, none⟩ = some (.int .u32 (h i : Nat)) ∧ w'.cell? ⟨V, i, none⟩ = some (.int .u32 (v' i : Nat)) ∧ w'.cell? ⟨V, k, none⟩ = some (.int .u32 (v' k : Nat)))) [13] (by kernel_rfl) (by ((try dsimp only); (exact ⟨p0, p1, p2⟩))) (fun hHeld => ?_)
          refine anyZ_free (i := 0) (oi := ?oi_1) (v := ?v_1) ?hi_1 ?hs_1 ?hf_1 ?hr_1 ?hQ_1 (Or.inl ⟨?hw_1, ?hy_1⟩) ?hrest_1
          case hi_1 => (simp only [List.getElem?_toArray, List.getElem?_cons_succ, List.getElem?_cons_zero]; exact rfl)
          case hs_1 => kernel_rfl
          case hf_1 => kernel_rfl
          case hr_1 => kernel_rfl
          case hQ_1 => exact fun _ _ _ h => h
          case hw_1 => rfl
          case hy_1 => (intro w _; go_simp; try with_reducible rfl)
          try simp only [Act.put, List.setIfInBounds_toArray, List.set_cons_zero, List.set_cons_succ]
          refine anyZ_free (i := 1) (oi := ?oi_2) (v := ?v_2) ?hi_2 ?hs_2 ?hf_2 ?hr_2 ?hQ_2 (Or.inl ⟨?hw_2, ?hy_2⟩) ?hrest_2
          case hi_2 => (simp only [List.getElem?_toArray, List.getElem?_cons_succ, List.getElem?_cons_zero]; exact rfl)
          case hs_2 => kernel_rfl
          case hf_2 => kernel_rfl
          case hr_2 => kernel_rfl
          case hQ_2 => exact fun _ _ _ h => h
          case hw_2 => rfl
          case hy_2 => (intro w _; go_simp; try with_reducible rfl)
          try simp only [Act.put, List.setIfInBounds_toArray, List.set_cons_zero, List.set_cons_succ]
          refine anyZ_take (i := 2) (oi := ?oi_3) (v := ?v_3) ?hi_3 ?hz_3 ?hs_3 ?hf_3 ?hr_3 ?hQ_3 (Or.inl ⟨?hw_3, ?hy_3⟩) ?hS_3 ?hrest_3
          case hi_3 => (simp only [List.getElem?_toArray, List.getElem?_cons_succ, List.getElem?_cons_zero]; exact rfl)
          case hz_3 => kernel_rfl
          case hs_3 => kernel_rfl
          case hf_3 => kernel_rfl
          case hr_3 => kernel_rfl
          case hQ_3 => exact fun _ _ _ h => h
          case hw_3 => rfl
          case hS_3 => assumption
          case hy_3 => (intro w hSw; (try dsimp only at hSw); go_simp; try with_reducible rfl)
          try simp only [Act.put, List.setIfInBounds_toArray, List.set_cons_zero, List.set_cons_succ]
          refine anyZ_free (i := 3) (oi := ?oi_4) (v := ?v_4) ?hi_4 ?hs_4 ?hf_4 ?hr_4 ?hQ_4 (Or.inl ⟨?hw_4, ?hy_4⟩) ?hrest_4
          case hi_4 => (simp only [List.getElem?_toArray, List.getElem?_cons_succ, List.getElem?_cons_zero]; exact rfl)
          case hs_4 => kernel_rfl
          case hf_4 => kernel_rfl
          case hr_4 => kernel_rfl
          case hQ_4 => exact fun _ _ _ h => h
          case hw_4 => rfl
          case hy_4 => (intro w _; go_simp; try with_reducible rfl)
          try simp only [Act.put, List.setIfInBounds_toArray, List.set_cons_zero, List.set_cons_succ]
          refine anyZ_free (i := 4) (oi := ?oi_5) (v := ?v_5) ?hi_5 ?hs_5 ?hf_5 ?hr_5 ?hQ_5 (Or.inl ⟨?hw_5, ?hy_5⟩) ?hrest_5
          case hi_5 => (simp only [List.getElem?_toArray, List.getElem?_cons_succ, List.getElem?_cons_zero]; exact rfl)
          case hs_5 => kernel_rfl
          case hf_5 => kernel_rfl
          case hr_5 => kernel_rfl
          case hQ_5 => exact fun _ _ _ h => h
          case hw_5 => rfl
          case hy_5 => (intro w _; go_simp; try with_reducible rfl)
          try simp only [Act.put, List.setIfInBounds_toArray, List.set_cons_zero, List.set_cons_succ]
          refine anyZ_take (i := 5) (oi := ?oi_6) (v := ?v_6) ?hi_6 ?hz_6 ?hs_6 ?hf_6 ?hr_6 ?hQ_6 (Or.inl ⟨?hw_6, ?hy_6⟩) ?hS_6 ?hrest_6
          case hi_6 => (simp only [List.getElem?_toArray, List.getElem?_cons_succ, List.getElem?_cons_zero]; exact rfl)
          case hz_6 => kernel_rfl
          case hs_6 => kernel_rfl
          case hf_6 => kernel_rfl
          case hr_6 => kernel_rfl
          case hQ_6 => exact fun _ _ _ h => h
          case hw_6 => rfl
          case hS_6 => assumption
          case hy_6 => (intro w hSw; (try dsimp only at hSw); go_simp; try with_reducible rfl)
          try simp only [Act.put, List.setIfInBounds_toArray, List.set_cons_zero, List.set_cons_succ]
          refine anyZ_free (i := 6) (oi := ?oi_7) (v := ?v_7) ?hi_7 ?hs_7 ?hf_7 ?hr_7 ?hQ_7 (Or.inl ⟨?hw_7, ?hy_7⟩) ?hrest_7
          case hi_7 => (simp only [List.getElem?_toArray, List.getElem?_cons_succ, List.getElem?_cons_zero]; exact rfl)
          case hs_7 => kernel_rfl
          case hf_7 => kernel_rfl
          case hr_7 => kernel_rfl
          case hQ_7 => exact fun _ _ _ h => h
          case hw_7 => rfl
          case hy_7 => (intro w _; go_simp; try with_reducible rfl)
          try simp only [Act.put, List.setIfInBounds_toArray, List.set_cons_zero, List.set_cons_succ]
          refine anyZ_free (i := 7) (oi := ?oi_8) (v := ?v_8) ?hi_8 ?hs_8 ?hf_8 ?hr_8 ?hQ_8 (Or.inl ⟨?hw_8, ?hy_8⟩) ?hrest_8
          case hi_8 => (simp only [List.getElem?_toArray, List.getElem?_cons_succ, List.getElem?_cons_zero]; exact rfl)
          case hs_8 => kernel_rfl
          case hf_8 => kernel_rfl
          case hr_8 => kernel_rfl
          case hQ_8 => exact fun _ _ _ h => h
          case hw_8 => rfl
          case hy_8 => (intro w _; go_simp; try with_reducible rfl)
          try simp only [Act.put, List.setIfInBounds_toArray, List.set_cons_zero, List.set_cons_succ]
          refine anyZ_free (i := 8) (oi := ?oi_9) (v := ?v_9) ?hi_9 ?hs_9 ?hf_9 ?hr_9 ?hQ_9 (Or.inl ⟨?hw_9, ?hy_9⟩) ?hrest_9
          case hi_9 => (simp only [List.getElem?_toArray, List.getElem?_cons_succ, List.getElem?_cons_zero]; exact rfl)
          case hs_9 => kernel_rfl
          case hf_9 => kernel_rfl
          case hr_9 => kernel_rfl
          case hQ_9 => exact fun _ _ _ h => h
          case hw_9 => rfl
          case hy_9 => (intro w _; go_simp; try with_reducible rfl)
          try simp only [Act.put, List.setIfInBounds_toArray, List.set_cons_zero, List.set_cons_succ]
          refine anyZ_take (i := 9) (oi := ?oi_10) (v := ?v_10) ?hi_10 ?hz_10 ?hs_10 ?hf_10 ?hr_10 ?hQ_10 (Or.inl ⟨?hw_10, ?hy_10⟩) ?hS_10 ?hrest_10
          case hi_10 => (simp only [List.getElem?_toArray, List.getElem?_cons_succ, List.getElem?_cons_zero]; exact rfl)
          case hz_10 => kernel_rfl
          case hs_10 => kernel_rfl
          case hf_10 => kernel_rfl
          case hr_10 => kernel_rfl
          case hQ_10 => exact fun _ _ _ h => h
          case hw_10 => rfl
          case hS_10 => assumption
          case hy_10 => (intro w hSw; (try dsimp only at hSw); go_simp; try with_reducible rfl)
          try simp only [Act.put, List.setIfInBounds_toArray, List.set_cons_zero, List.set_cons_succ]
          refine anyZ_free (i := 10) (oi := ?oi_11) (v := ?v_11) ?hi_11 ?hs_11 ?hf_11 ?hr_11 ?hQ_11 (Or.inl ⟨?hw_11, ?hy_11⟩) ?hrest_11
          case hi_11 => (simp only [List.getElem?_toArray, List.getElem?_cons_succ, List.getElem?_cons_zero]; exact rfl)
          case hs_11 => kernel_rfl
          case hf_11 => kernel_rfl
          case hr_11 => kernel_rfl
          case hQ_11 => exact fun _ _ _ h => h
          case hw_11 => rfl
          case hy_11 => (intro w _; go_simp; try with_reducible rfl)
          try simp only [Act.put, List.setIfInBounds_toArray, List.set_cons_zero, List.set_cons_succ]
          refine anyZ_free (i := 11) (oi := ?oi_12) (v := ?v_12) ?hi_12 ?hs_12 ?hf_12 ?hr_12 ?hQ_12 (Or.inl ⟨?hw_12, ?hy_12⟩) ?hrest_12
          case hi_12 => (simp only [List.getElem?_toArray, List.getElem?_cons_succ, List.getElem?_cons_zero]; exact rfl)
          case hs_12 => kernel_rfl
          case hf_12 => kernel_rfl
          case hr_12 => kernel_rfl
          case hQ_12 => exact fun _ _ _ h => h
          case hw_12 => rfl
          case hy_12 => (intro w _; go_simp; try with_reducible rfl)
          try simp only [Act.put, List.setIfInBounds_toArray, List.set_cons_zero, List.set_cons_succ]
          refine anyZ_free (i := 12) (oi := ?oi_13) (v := ?v_13) ?hi_13 ?hs_13 ?hf_13 ?hr_13 ?hQ_13 (Or.inl ⟨?hw_13, ?hy_13⟩) ?hrest_13
          case hi_13 => (simp only [List.getElem?_toArray, List.getElem?_cons_succ, List.getElem?_cons_zero]; exact rfl)
          case hs_13 => kernel_rfl
          case hf_13 => kernel_rfl
          case hr_13 => kernel_rfl
          case hQ_13 => exact fun _ _ _ h => h
          case hw_13 => rfl
          case hy_13 => (intro w _; go_simp; try with_reducible rfl)
          try simp only [Act.put, List.setIfInBounds_toArray, List.set_cons_zero, List.set_cons_succ]
          refine anyZ_ready (rs := [13]) (by kernel_rfl) (by simp) ?_
          refine (AllZ.last (o := ?o_14) ?ho_14 (by rfl) (fun K hK => ?st_14) AllZ.nil)
          case ho_14 => (simp only [List.getElem?_toArray, List.getElem?_cons_succ, List.getElem?_cons_zero]; exact rfl)
          case st_14 =>
            go_simp
            refine hK.out _ _ ?_
            clear hK K
            try simp only [Act.put, List.setIfInBounds_toArray, List.set_cons_zero, List.set_cons_succ]
            refine anyZ_done (by kernel_rfl) ?_ _
            refine NoPanic.normal ?_
            have q : Hid (Arr ((wr.setCell ⟨N, i, none⟩ (.int .u32 (X : Nat))).drew) .u32 N 8 (pressI h v' (i + 1))) := by
              have q := (th.out.set (i := i) (z := X) hi8).drew
              rw [← hX.out, pressI_succ, hX.out] at q
              exact q
            have tr1 : Hid (Arr ((wr.setCell ⟨N, i, none⟩ (.int .u32 (X : Nat))).drew) .u32 (N + 1 + 1) 8 (fun _ => 0)) := (tr.out.far (by omega) _ _).drew
            have tv1 : Hid (Arr ((wr.setCell ⟨N, i, none⟩ (.int .u32 (X : Nat))).drew) .u32 V 16 v') := (tv.out.far (by omega) _ _).drew
            have hB1 : Below N w ((wr.setCell ⟨N, i, none⟩ (.int .u32 (X : Nat))).drew) := by (repeat' (first | (with_reducible first | exact Below.refl _ _ | assumption | refine Below.alloc ?_ ?_ _ | refine Below.drew ?_ | refine below_drewN ?_ _ | refine Below.setCell ?_ ?_ _ | refine below_via (by with_reducible assumption) ?_ ?_) | omega | (simp only [szs]; omega) | (simp only [szs] at *; omega)))
            clear hHeld p0 p1 p2 p3 p4 i2 i3 i4 i5 tv th tr hB x1 x2
            generalize ((wr.setCell ⟨N, i, none⟩ (.int .u32 (X : Nat))).drew) = W8 at *
            go_wp2
            go_roundw
            case rel => exact ⟨i + 1, by omega, by go_num, q, tr1, tv1, hB1⟩
            case measure => (simp only [intOf, Int.toNat_natCast]; omega)
        · obtain rfl : i = 8 := by omega
          have t0 : Arr wr .u32 N 8 (Ob.press h (wordAt z) n last) := th.out.congr (fun j hj => by rw [hend.out]; unfold pressI; rw [if_pos hj])
          go_upto_region 13 with (fail)
          go_wp2_with (first | ((with_reducible refine wpList_loadLit t0 ?_ Tryd.underlying68 ?_ ?_ ?_); (focus rfl); (focus rfl); (focus kernel_rfl); simp only [Act.put, List.setIfInBounds_toArray, List.set_cons_zero, List.set_cons_succ]) | ((with_reducible refine wpList_storeLit (Ob.press h (wordAt z) n last) tr.out ?_ ?_ ?_ ?_); (focus rfl); (focus rfl); (focus kernel_rfl); intro W5 hW5_ tW5_ zW5_; try simp only [Act.put, List.setIfInBounds_toArray, List.set_cons_zero, List.set_cons_succ]))
          have hB5 : Below w.heap.size w W5 := by rw [hW5_.out, hN.out]; exact below_setCells hB (by omega) _ _
          have rv := tW5_.out.loadVar Tryd.underlying68 rfl (by kernel_rfl)
          exact bodyPost_ret (v := .agg (arrL .u32 (Ob.press h (wordAt z) n last) 8).toArray) (by simp [results, Tryd.results76, asAddr, rv]) rfl ⟨rfl, hB5⟩
end Go.Proofs.YtoigpjaffggekaaDoor

namespace Go.Proofs.YtoigpjaffggekaaDoor
open Go.RowKit Go.Proofs
set_option linter.unusedVariables false
set_option linter.unusedSimpArgs false

/-- The bytes of a string, 0 behind them. -/
def sby (s : ByteArray) (i : Nat) : Nat := ((s.data.toList[i]?).map UInt8.toNat).getD 0
theorem sby_lt (s : ByteArray) (i : Nat) : sby s i < 256 := by
  unfold sby
  cases s.data.toList[i]? with
  | none => decide
  | some x => exact x.toNat_lt
theorem sby_out (s : ByteArray) {i : Nat} (h : s.size ≤ i) : sby s i = 0 := by
  unfold sby
  rw [List.getElem?_eq_none (by rw [Array.length_toList]; exact h)]
  rfl
theorem sby_cells (s : ByteArray) : (s.data.toList.map fun x => Value.int .u8 (x.toNat : Int)) = arrL .u8 (sby s) s.size := by
  apply List.ext_getElem?
  intro i
  by_cases h : i < s.size
  · rw [arrL_get _ _ _ _ h]
    have h' : i < s.data.toList.length := by rw [Array.length_toList]; exact h
    unfold sby
    rw [List.getElem?_map, List.getElem?_eq_getElem h']
    rfl
  · rw [List.getElem?_eq_none (by rw [List.length_map, Array.length_toList]; exact Nat.le_of_not_lt h), List.getElem?_eq_none (by rw [arrL_length]; omega)]
/-- The first k of an array's cells stored. -/
theorem Arr.part {w : World} {k : IntKind} {b n m : Nat} {v : Nat → Nat} (t : Arr w k b n v) (u : Nat → Nat) (hm : m ≤ n) : Arr (w.setCells b 0 (arrL k u m)) k b n (fun i => if i < m then u i else v i) := by
  refine ⟨by rw [setCells_size]; exact t.lt, fun i hi => ?_, fun i hi => by rw [World.frozen?_setCells]; exact t.f i hi⟩
  by_cases h : i < m
  · have hin := World.cell?_setCells_in b (arrL k u m) 0 w (fun j hj => by rw [Nat.zero_add, t.c j (by rw [arrL_length] at hj; omega)]; rfl) i (by rw [arrL_length]; exact h)
    rw [Nat.zero_add] at hin
    rw [hin, if_pos h]
    have := arrL_get k u m i h
    rw [List.getElem?_eq_getElem (by rw [arrL_length]; exact h)] at this
    exact this
  · rw [World.cell?_setCells_out b _ 0 w _ (fun _ _ => Or.inr (by rw [arrL_length]; show 0 + m ≤ i; omega)), if_neg h]
    exact t.c i hi
theorem sizeByte : ∀ w, (Go.sizeOf 5).run Tryd.prog w = .ok 1 w := by
  obtain ⟨i, hi, h1, _⟩ := byteInfo
  intro w
  simp [sizeOf, typeInfo, hi, h1]
theorem sizeByte' : (Tryd.prog.info? 5).map (·.size) = some 1 := by kernel_rfl
/-- A string copied into bytes that are 0. -/
theorem Arr.copyStr {w : World} {b n : Nat} (t : Arr w .u8 b n (fun _ => 0)) (s : ByteArray) (hs : s.size ≤ n) (c : Nat) (ty : TypeId) :
    ∃ w', (Builtin.copy_ #[34, 9] ty #[.slice (some ⟨b, 0, none⟩) n c, .string s]).run Tryd.prog w = .ok (goInt s.size) w' ∧ Hid (w' = w.setCells b 0 (arrL .u8 (sby s) s.size)) ∧ Hid (Arr w' .u8 b n (sby s)) ∧ w'.heap.size = w.heap.size := by
  have h := run_copy_string (P := Tryd.prog) w 34 9 ty 5 b 0 n c s Tryd.underlying34 sizeByte hs (fun j hj => by rw [Nat.zero_add, t.c j (by omega)]; rfl) (fun j hj => by rw [Nat.zero_add]; exact t.f j (by omega))
  rw [sby_cells] at h
  refine ⟨_, h, rfl, ?_, setCells_size _ _ _ _⟩
  exact (t.part (sby s) hs).congr fun i hi => by
    by_cases hh : i < s.size
    · rw [if_pos hh]
    · rw [if_neg hh, sby_out s (by omega)]
/-- The whole of an array, in a region that draws its order. -/
theorem yieldsArr {ops : Array Oper} {S : World → Prop} {op : Oper} {a : Act} (hw : Region.wanted op (yielded ops a.tmps) = true) (ty : TypeId) (x : Operand) (ho : op.op = .load ty x)
    (b : Nat) (hx : a.eval x = .pointer (some ⟨b, 0, none⟩)) {k : IntKind} {n : Nat} {v : Nat → Nat} {d : TypeDesc} (hS : ∀ w, S w → Arr w k b n v)
    (hu : Tryd.prog.underlying ty = some d) (hd : d.isRow = true) (hi : (Tryd.prog.info? ty).map (·.size) = some n) : YieldsIf Tryd.prog ops S op (.agg (arrL k v n).toArray) a :=
  yieldsIf_load_mid hw ty x ho b 0 hx (arrL k v n) d (fun w h => (hS w h).range) hu hd (by rw [arrL_length]; exact hi)
theorem wp_storeArr {op : Oper} {a : Act} {w : World} {K : Act → World → Prop} {Q : Exit → Act → World → Prop} (ty : TypeId) (x y : Operand) (ho : op.op = .store ty x y)
    (b : Nat) (hx : a.eval x = .pointer (some ⟨b, 0, none⟩)) {k : IntKind} {n : Nat} {v : Nat → Nat} (v' : Nat → Nat) (hy : a.eval y = .agg (arrL k v' n).toArray) (t : Arr w k b n v)
    (hi : (Tryd.prog.info? ty).map (·.size) = some n)
    (h : ∀ w', Hid (w' = w.setCells b 0 (arrL k v' n)) → Hid (Arr w' k b n v') → w'.heap.size = w.heap.size → K (a.put op.dst undef) w') : op.wp Tryd.prog a w K Q := by
  have hs : (arrL k v' n).toArray.size = n := by simp [arrL_length]
  exact wp_store_mid ty x y ho b 0 (arrL k v' n).toArray hx hy (by rw [hs]; exact t.there) (by rw [hs]; exact hi) (all_oneCell_toArray (arrL_one k v' n))
    (by rw [List.toList_toArray]; exact h _ rfl (t.whole v') (setCells_size _ _ _ _))
/-- n bytes that may be read at an address. -/
def Src (w : World) (a : Option Addr) (n : Nat) (z : Nat → Nat) : Prop := n = 0 ∨ ∃ b off, a = some ⟨b, off, none⟩ ∧ Bys w b off n z
theorem Src.below {w w1 : World} {a : Option Addr} {n : Nat} {z : Nat → Nat} (h : Src w a n z) (hb : Below w.heap.size w w1) : Src w1 a n z := by
  rcases h with h | ⟨b, off, ha, hB⟩
  · exact Or.inl h
  · exact Or.inr ⟨b, off, ha, hB.below hb hB.lt⟩
theorem Src.tail {w : World} {p : Option Addr} {m c T : Nat} {u : Nat → Nat} (h : Src w p m u) (hT : T ≤ m) (hc : m ≤ c) {p' : Option Addr} (hp : p' = if c = T then p else p.map (·.add T)) : Src w p' (m - T) (fun j => u (T + j)) := by
  by_cases e : m - T = 0
  · exact Or.inl e
  · rcases h with h | ⟨b, off, rfl, hB⟩
    · omega
    · right
      rw [if_neg (by omega)] at hp
      refine ⟨b, off + T, by rw [hp, Option.map_some, Addr.add_mid], hB.more T (m - T) (by omega)⟩
theorem Arr.copyBys {w : World} {B n : Nat} (t : Arr w .u8 B n (fun _ => 0)) {a : Option Addr} {m : Nat} {u : Nat → Nat} (hS : Src w a m u) (c c' : Nat) (ty : TypeId) {T : Nat} (hT : min m n = T) :
    ∃ w', (Builtin.copy_ #[34, 34] ty #[.slice (some ⟨B, 0, none⟩) n c, .slice a m c']).run Tryd.prog w = .ok (.int .i64 (T : Nat)) w' ∧ Hid (w' = w.setCells B 0 (arrL .u8 u T)) ∧ Hid (Arr w' .u8 B n (fun j => if j < m then u j else 0)) ∧ w'.heap.size = w.heap.size := by
  have ht : T ≤ n := by omega
  have hA : Arr (w.setCells B 0 (arrL .u8 u T)) .u8 B n (fun j => if j < m then u j else 0) := (t.part u ht).congr fun i hi => by
    by_cases h : i < T
    · rw [if_pos h, if_pos (by omega)]
    · rw [if_neg h, if_neg (by omega)]
  rcases hS with h0 | ⟨b, off, rfl, hB⟩
  · have hT0 : T = 0 := by omega
    subst hT0
    refine ⟨_, ?_, rfl, hA, setCells_size _ _ _ _⟩
    exact run_copy_none (P := Tryd.prog) w 34 34 ty 5 _ _ n c m c' Tryd.underlying34 sizeByte' (by rw [h0]; exact Nat.zero_min _)
  · refine ⟨_, ?_, rfl, hA, setCells_size _ _ _ _⟩
    have := run_copy_cells (P := Tryd.prog) w 34 34 ty 5 B 0 n c ⟨b, off, none⟩ m c' (arrL .u8 u T) Tryd.underlying34 sizeByte' (by rw [arrL_length]; exact hT.symm)
      (fun j v hv => by
        have hj : j < T := by have := (List.getElem?_eq_some_iff.1 hv).1; rwa [arrL_length] at this
        rw [arrL_get _ _ _ _ hj] at hv
        rw [Addr.add_mid, hB.at_ j (by omega)]
        exact hv)
      (fun j hj => by rw [arrL_length] at hj; rw [Nat.zero_add, t.c j (by omega)]; rfl) (fun j hj => by rw [arrL_length] at hj; rw [Nat.zero_add]; exact t.f j (by omega)) (arrL_one _ _ _)
    rw [arrL_length] at this
    exact this
theorem wpList_tail {ops : Array Oper} {rest : List Oper} {dst : Option Tmp} {ty' : TypeId} {x l : Operand} {ps : String} {af : Array Edge} {a : Act} {w : World} {Q : Exit → Act → World → Prop}
    {ty : TypeId} {p : Option Addr} {m c T : Nat} (hT : T ≤ m) (hty : ty = 34) (hx : a.eval x = .slice p m c) (hl : a.eval l = .int .i64 (T : Nat))
    (h : ∀ p', Hid (p' = if c = T then p else p.map (·.add T)) → wpList Tryd.prog ops Q rest (a.put dst (.slice p' (m - T) (c - T))) w) : wpList Tryd.prog ops Q (⟨dst, .slice ty x (some l) none none, ty', ps, af, none⟩ :: rest) a w :=
  wpList_plain rfl fun K hK => by
    subst hty
    have hr : (Instr.sliceAt 34 (.slice p m c) (some (.int .i64 (T : Nat))) none none).run Tryd.prog w = .ok (.slice (if c = T then p else p.map (·.add T)) (m - T) (c - T)) w := by
      rw [run_sliceAt_slice w _ _ _ _ _ (show Tryd.prog.underlying 34 = some (.slice (Tryd.prog.elem 34)) by kernel_rfl), run_slice_l w _ _ _ _ (show Tryd.prog.underlying 34 = some (.slice (Tryd.prog.elem 34)) by kernel_rfl) .i64 (T : Nat) (by omega) (by omega)]
      have he : Tryd.prog.elem 34 = 5 := by kernel_rfl
      rw [he, sizeByte]
      simp [Result.andThen, sliced]
    unfold Oper.wp
    simp only [execOp, hx, hl, Option.map_some, Option.map_none, hr, Sem.run_bind, Sem.run_pure, Result.andThen_ok]
    exact hK _ _ (h _ rfl)
end Go.Proofs.YtoigpjaffggekaaDoor
