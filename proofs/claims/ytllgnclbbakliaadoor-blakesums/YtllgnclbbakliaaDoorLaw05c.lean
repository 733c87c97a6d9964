/-
  Stage 5's statements: BlakeSums.
-/
import Derived.Test.YtllgnclbbakliaaDoorLaw05b
import Derived.Test.YtllgnclbbakliaaDoorRefB6
import Derived.Test.YtllgnclbbakliaaDoorCodeEq
namespace Go.Proofs.YtllgnclbbakliaaDoor
open Go.RowKit Go.Proofs
set_option linter.unusedVariables false
set_option linter.unusedSimpArgs false
attribute [local go_sem ↓] Go.wp_at_zero Go.wp_at_succ

theorem Src.less {w : World} {a : Option Addr} {n m : Nat} {z : Nat → Nat} (h : Src w a n z) (hm : m ≤ n) : Src w a m z := by
  rcases h with h | ⟨b, off, ha, hB⟩
  · exact Or.inl (by omega)
  · exact Or.inr ⟨b, off, ha, hB.less hm⟩

set_option maxHeartbeats 2000000 in
theorem sums_small_long (s : ByteArray) (a : Option Addr) (len cap : Nat) (w : World) (hs : 8 < s.size) (hl : len ≤ 20000) (hcap : len ≤ cap)
    (c0 : Calls Tryd.prog 8 #[] w fun e w' => e = .returned (.bool true) ∧ Below w.heap.size w w') :
    Calls Tryd.prog 4 #[.string s, .slice a len cap] w fun e w' => e = .returned (.bool true) ∧ Below w.heap.size w w' := by
  have h1 : (8 : Int) < (s.size : Int) := by omega
  have h2 : ¬ (20000 : Int) < (len : Int) := by omega
  have ec := fun w => eql_code w 5 5
  have c1 := fun v W => sumLong s hs v W
  go_enter Tryd.func4, Tryd.ntmps4
  go_wp2_with (first | (go_at_call 8; with_reducible refine c0.mono ?_; rintro e W0 ⟨rfl, b0'⟩) | (go_at_call 11; with_reducible refine (c1 _ _).mono ?_; rintro e W1 ⟨rfl, rfl⟩))
  go_ret
  exact ⟨rfl, b0'⟩

set_option maxHeartbeats 2000000 in
theorem sums_small_ok (s : ByteArray) (a : Option Addr) (len cap : Nat) (w : World) (hs : s.size ≤ 8) (hl : len ≤ 20000) (hcap : len ≤ cap) (z : Nat → Nat) (hz : ∀ i, z i < 256) (hT : Tabs w) (hS : Src w a len z)
    (c0 : Calls Tryd.prog 8 #[] w fun e w' => e = .returned (.bool true) ∧ Below w.heap.size w w') :
    Calls Tryd.prog 4 #[.string s, .slice a len cap] w fun e w' => e = .returned (.bool true) ∧ Below w.heap.size w w' := by
  have h1 : ¬ (8 : Int) < (s.size : Int) := by omega
  have h2 : ¬ (20000 : Int) < (len : Int) := by omega
  have hS1 : Src w a len z := hS
  have c1 := fun (W : World) (hb : Below w.heap.size w W) => sumW s hs a len cap (by omega) (by omega) z hz W (hT.below hb hT.lt) (hS1.below hb)
  have c2 := fun (W : World) (hb : Below w.heap.size w W) => rsum_core s hs a len cap (by omega) (by omega) z hz W (hS1.below hb)
  obtain ⟨D, hD⟩ : ∃ D, Hid (lowBy (digS s z len) = D) := ⟨_, rfl⟩
  rw [hD.out] at c1 c2
  clear hD hT hS hS1 hz
  go_enter Tryd.func4, Tryd.ntmps4
  go_upto_region 7 with (first | (go_at_call 8; with_reducible refine c0.mono ?_; rintro e W0 ⟨rfl, b0'⟩) | (go_at_call 11; with_reducible refine (c1 _ b0').mono ?_; rintro e W1 ⟨g1, rfl, lg1, o1, b1⟩))
  have l0 := b0'.size
  have hB1 : Below w.heap.size w W1 := below_via b1 b0' l0
  have l1 := hB1.size
  have q1 := (o1.lt g1 rfl).2
  have y1 := bys_of_row o1
  have hBd : Below w.heap.size w W1.drew := hB1.drew
  have v1 := fun (W : World) (hb : Below W1.heap.size W1 W) => bys_str g1 0 32 32 D W (y1.below hb q1)
  have v2 := fun (W : World) (g cap : Nat) (hb : Bys W g 0 32 D) => bys_str g 0 32 cap D W hb
  generalize strOfNums (nums D 32) = S at v1 v2
  clear c0 c1 o1 b0' b1 y1
  have vk := fun (W : World) (hb : Below W1.heap.size W1 W) => v1 W hb
  refine wp_region_noPanic ?_
  refine region_lastly (S := (fun w' => (convert 27 9 (.slice (some ⟨g1, 0, none⟩) 32 32)).run Tryd.prog w' = .ok (.string S) w')) [] (by kernel_rfl) (by ((try dsimp only); (first | exact vk _ ((Below.refl _ _).drew) | exact vk _ (((Below.refl _ _).drew).trans b2)))) (fun hHeld => ?_)
  refine anyZ_free (i := 0) (oi := ?oi_1) (v := ?v_1) ?hi_1 ?hs_1 ?hf_1 ?hr_1 ?hQ_1 (Or.inl ⟨?hw_1, ?hy_1⟩) ?hrest_1
  case hi_1 => (simp only [List.getElem?_toArray, List.getElem?_cons_succ, List.getElem?_cons_zero]; exact rfl)
  case hs_1 => kernel_rfl
  case hf_1 => kernel_rfl
  case hr_1 => kernel_rfl
  case hQ_1 => exact fun _ _ _ h => h
  case hw_1 => rfl
  case hy_1 => (intro w _; go_simp; try with_reducible rfl)
  try simp only [Act.put, List.setIfInBounds_toArray, List.set_cons_zero, List.set_cons_succ]
  refine anyZ_free (i := 1) (oi := ?oi_2) (v := ?v_2) ?hi_2 ?hs_2 ?hf_2 ?hr_2 ?hQ_2 (Or.inl ⟨?hw_2, ?hy_2⟩) ?hrest_2
  case hi_2 => (simp only [List.getElem?_toArray, List.getElem?_cons_succ, List.getElem?_cons_zero]; exact rfl)
  case hs_2 => kernel_rfl
  case hf_2 => kernel_rfl
  case hr_2 => kernel_rfl
  case hQ_2 => exact fun _ _ _ h => h
  case hw_2 => rfl
  case hy_2 => (intro w _; go_simp; try with_reducible rfl)
  try simp only [Act.put, List.setIfInBounds_toArray, List.set_cons_zero, List.set_cons_succ]
  refine anyZ_free (i := 2) (oi := ?oi_3) (v := ?v_3) ?hi_3 ?hs_3 ?hf_3 ?hr_3 ?hQ_3 (Or.inl ⟨?hw_3, ?hy_3⟩) ?hrest_3
  case hi_3 => (simp only [List.getElem?_toArray, List.getElem?_cons_succ, List.getElem?_cons_zero]; exact rfl)
  case hs_3 => kernel_rfl
  case hf_3 => kernel_rfl
  case hr_3 => kernel_rfl
  case hQ_3 => exact fun _ _ _ h => h
  case hw_3 => rfl
  case hy_3 => (intro w _; go_simp; try with_reducible rfl)
  try simp only [Act.put, List.setIfInBounds_toArray, List.set_cons_zero, List.set_cons_succ]
  refine anyZ_free (i := 3) (oi := ?oi_4) (v := ?v_4) ?hi_4 ?hs_4 ?hf_4 ?hr_4 ?hQ_4 (Or.inl ⟨?hw_4, ?hy_4⟩) ?hrest_4
  case hi_4 => (simp only [List.getElem?_toArray, List.getElem?_cons_succ, List.getElem?_cons_zero]; exact rfl)
  case hs_4 => kernel_rfl
  case hf_4 => kernel_rfl
  case hr_4 => kernel_rfl
  case hQ_4 => exact fun _ _ _ h => h
  case hw_4 => rfl
  case hy_4 => (intro w _; go_simp; try with_reducible rfl)
  try simp only [Act.put, List.setIfInBounds_toArray, List.set_cons_zero, List.set_cons_succ]
  refine anyZ_free (i := 4) (oi := ?oi_5) (v := ?v_5) ?hi_5 ?hs_5 ?hf_5 ?hr_5 ?hQ_5 (Or.inl ⟨?hw_5, ?hy_5⟩) ?hrest_5
  case hi_5 => (simp only [List.getElem?_toArray, List.getElem?_cons_succ, List.getElem?_cons_zero]; exact rfl)
  case hs_5 => kernel_rfl
  case hf_5 => kernel_rfl
  case hr_5 => kernel_rfl
  case hQ_5 => exact fun _ _ _ h => h
  case hw_5 => rfl
  case hy_5 => (intro w _; go_simp; try with_reducible rfl)
  try simp only [Act.put, List.setIfInBounds_toArray, List.set_cons_zero, List.set_cons_succ]
  refine anyZ_free (i := 5) (oi := ?oi_6) (v := ?v_6) ?hi_6 ?hs_6 ?hf_6 ?hr_6 ?hQ_6 (Or.inl ⟨?hw_6, ?hy_6⟩) ?hrest_6
  case hi_6 => (simp only [List.getElem?_toArray, List.getElem?_cons_succ, List.getElem?_cons_zero]; exact rfl)
  case hs_6 => kernel_rfl
  case hf_6 => kernel_rfl
  case hr_6 => kernel_rfl
  case hQ_6 => exact fun _ _ _ h => h
  case hw_6 => rfl
  case hy_6 => (intro w _; go_simp; try with_reducible rfl)
  try simp only [Act.put, List.setIfInBounds_toArray, List.set_cons_zero, List.set_cons_succ]
  refine anyZ_free (i := 6) (oi := ?oi_7) (v := ?v_7) ?hi_7 ?hs_7 ?hf_7 ?hr_7 ?hQ_7 (Or.inl ⟨?hw_7, ?hy_7⟩) ?hrest_7
  case hi_7 => (simp only [List.getElem?_toArray, List.getElem?_cons_succ, List.getElem?_cons_zero]; exact rfl)
  case hs_7 => kernel_rfl
  case hf_7 => kernel_rfl
  case hr_7 => kernel_rfl
  case hQ_7 => exact fun _ _ _ h => h
  case hw_7 => rfl
  case hy_7 => (intro w _; go_simp; try with_reducible rfl)
  try simp only [Act.put, List.setIfInBounds_toArray, List.set_cons_zero, List.set_cons_succ]
  refine anyZ_take (i := 7) (oi := ?oi_8) (v := ?v_8) ?hi_8 ?hz_8 ?hs_8 ?hf_8 ?hr_8 ?hQ_8 (Or.inl ⟨?hw_8, ?hy_8⟩) ?hS_8 ?hrest_8
  case hi_8 => (simp only [List.getElem?_toArray, List.getElem?_cons_succ, List.getElem?_cons_zero]; exact rfl)
  case hz_8 => kernel_rfl
  case hs_8 => kernel_rfl
  case hf_8 => kernel_rfl
  case hr_8 => kernel_rfl
  case hQ_8 => exact fun _ _ _ h => h
  case hw_8 => rfl
  case hS_8 => assumption
  case hy_8 => (intro w hSw; (try dsimp only at hSw); go_simp; try with_reducible rfl)
  try simp only [Act.put, List.setIfInBounds_toArray, List.set_cons_zero, List.set_cons_succ]
  refine anyZ_free (i := 8) (oi := ?oi_9) (v := ?v_9) ?hi_9 ?hs_9 ?hf_9 ?hr_9 ?hQ_9 (Or.inl ⟨?hw_9, ?hy_9⟩) ?hrest_9
  case hi_9 => (simp only [List.getElem?_toArray, List.getElem?_cons_succ, List.getElem?_cons_zero]; exact rfl)
  case hs_9 => kernel_rfl
  case hf_9 => kernel_rfl
  case hr_9 => kernel_rfl
  case hQ_9 => exact fun _ _ _ h => h
  case hw_9 => rfl
  case hy_9 => (intro w _; go_simp; try with_reducible rfl)
  try simp only [Act.put, List.setIfInBounds_toArray, List.set_cons_zero, List.set_cons_succ]
  refine anyZ_free (i := 9) (oi := ?oi_10) (v := ?v_10) ?hi_10 ?hs_10 ?hf_10 ?hr_10 ?hQ_10 (Or.inl ⟨?hw_10, ?hy_10⟩) ?hrest_10
  case hi_10 => (simp only [List.getElem?_toArray, List.getElem?_cons_succ, List.getElem?_cons_zero]; exact rfl)
  case hs_10 => kernel_rfl
  case hf_10 => kernel_rfl
  case hr_10 => kernel_rfl
  case hQ_10 => exact fun _ _ _ h => h
  case hw_10 => rfl
  case hy_10 => (intro w _; go_simp; try with_reducible rfl)
  try simp only [Act.put, List.setIfInBounds_toArray, List.set_cons_zero, List.set_cons_succ]
  refine anyZ_ready (rs := [10]) (by kernel_rfl) (by simp) ?_
  refine (AllZ.cons (o := ?o_11) ?ho_11 (fun K hK => ?st_11) AllZ.nil)
  case ho_11 => (simp only [List.getElem?_toArray, List.getElem?_cons_succ, List.getElem?_cons_zero]; exact rfl)
  case st_11 =>
    go_simp
    (go_at_call 12; with_reducible refine (c2 _ hBd).mono ?_; rintro e W2 ⟨g2, cap2, rfl, lg2, y2, b2⟩; have e2 := v2 W2 g2 cap2 y2)
    refine hK.out _ _ (by ((try dsimp only); (first | exact vk _ ((Below.refl _ _).drew) | exact vk _ (((Below.refl _ _).drew).trans b2)))) (fun hHeld => ?_)
    clear hK K
    try simp only [Act.put, List.setIfInBounds_toArray, List.set_cons_zero, List.set_cons_succ]
    refine anyZ_ready (rs := [11]) (by kernel_rfl) (by simp) ?_
    refine (AllZ.cons (o := ?o_12) ?ho_12 (fun K hK => ?st_12) AllZ.nil)
    case ho_12 => (simp only [List.getElem?_toArray, List.getElem?_cons_succ, List.getElem?_cons_zero]; exact rfl)
    case st_12 =>
      go_simp
      refine hK.out _ _ (by ((try dsimp only); (first | exact vk _ ((Below.refl _ _).drew) | exact vk _ (((Below.refl _ _).drew).trans b2)))) (fun hHeld => ?_)
      clear hK K
      try simp only [Act.put, List.setIfInBounds_toArray, List.set_cons_zero, List.set_cons_succ]
      refine anyZ_free (i := 12) (oi := ?oi_13) (v := ?v_13) ?hi_13 ?hs_13 ?hf_13 ?hr_13 ?hQ_13 (Or.inl ⟨?hw_13, ?hy_13⟩) ?hrest_13
      case hi_13 => (simp only [List.getElem?_toArray, List.getElem?_cons_succ, List.getElem?_cons_zero]; exact rfl)
      case hs_13 => kernel_rfl
      case hf_13 => kernel_rfl
      case hr_13 => kernel_rfl
      case hQ_13 => exact fun _ _ _ h => h
      case hw_13 => rfl
      case hy_13 => (intro w _; go_simp; try with_reducible rfl)
      try simp only [Act.put, List.setIfInBounds_toArray, List.set_cons_zero, List.set_cons_succ]
      refine anyZ_free (i := 13) (oi := ?oi_14) (v := ?v_14) ?hi_14 ?hs_14 ?hf_14 ?hr_14 ?hQ_14 (Or.inl ⟨?hw_14, ?hy_14⟩) ?hrest_14
      case hi_14 => (simp only [List.getElem?_toArray, List.getElem?_cons_succ, List.getElem?_cons_zero]; exact rfl)
      case hs_14 => kernel_rfl
      case hf_14 => kernel_rfl
      case hr_14 => kernel_rfl
      case hQ_14 => exact fun _ _ _ h => h
      case hw_14 => rfl
      case hy_14 => (intro w _; go_simp; try with_reducible rfl)
      try simp only [Act.put, List.setIfInBounds_toArray, List.set_cons_zero, List.set_cons_succ]
      refine anyZ_free (i := 14) (oi := ?oi_15) (v := ?v_15) ?hi_15 ?hs_15 ?hf_15 ?hr_15 ?hQ_15 (Or.inl ⟨?hw_15, ?hy_15⟩) ?hrest_15
      case hi_15 => (simp only [List.getElem?_toArray, List.getElem?_cons_succ, List.getElem?_cons_zero]; exact rfl)
      case hs_15 => kernel_rfl
      case hf_15 => kernel_rfl
      case hr_15 => kernel_rfl
      case hQ_15 => exact fun _ _ _ h => h
      case hw_15 => rfl
      case hy_15 => (intro w _; go_simp; try with_reducible rfl)
      try simp only [Act.put, List.setIfInBounds_toArray, List.set_cons_zero, List.set_cons_succ]
      refine anyZ_done (by kernel_rfl) ?_ _
      refine NoPanic.normal ?_
      have hB2 : Below w.heap.size w W2 := below_via b2 hBd l1
      clear v1 v2 vk c2 hHeld y2 e2
      go_wp2
      go_ret
      exact ⟨rfl, hB2⟩

set_option maxHeartbeats 2000000 in
theorem sums_big_long (s : ByteArray) (b0 off0 : Nat) (len cap : Nat) (w : World) (hs : 8 < s.size) (hl : 20000 < len) (hcap : len ≤ cap)
    (c0 : Calls Tryd.prog 8 #[] w fun e w' => e = .returned (.bool true) ∧ Below w.heap.size w w') :
    Calls Tryd.prog 4 #[.string s, .slice (some ⟨b0, off0, none⟩) len cap] w fun e w' => e = .returned (.bool true) ∧ Below w.heap.size w w' := by
  have h1 : (8 : Int) < (s.size : Int) := by omega
  have h2 : (20000 : Int) < (len : Int) := by omega
  have h3 : (20000 : Int) ≤ (cap : Int) := by omega
  have h4 : cap ≠ 0 := by omega
  have ec := fun w => eql_code w 5 5
  have c1 := fun v W => sumLong s hs v W
  go_enter Tryd.func4, Tryd.ntmps4
  go_wp2_with (first | (go_at_call 8; with_reducible refine c0.mono ?_; rintro e W0 ⟨rfl, b0'⟩) | (go_at_call 11; with_reducible refine (c1 _ _).mono ?_; rintro e W1 ⟨rfl, rfl⟩))
  go_ret
  exact ⟨rfl, b0'⟩

set_option maxHeartbeats 2000000 in
theorem sums_big_ok (s : ByteArray) (b0 off0 : Nat) (len cap : Nat) (w : World) (hs : s.size ≤ 8) (hl : 20000 < len) (hcap : len ≤ cap) (z : Nat → Nat) (hz : ∀ i, z i < 256) (hT : Tabs w) (hS : Src w (some ⟨b0, off0, none⟩) len z)
    (c0 : Calls Tryd.prog 8 #[] w fun e w' => e = .returned (.bool true) ∧ Below w.heap.size w w') :
    Calls Tryd.prog 4 #[.string s, .slice (some ⟨b0, off0, none⟩) len cap] w fun e w' => e = .returned (.bool true) ∧ Below w.heap.size w w' := by
  have h1 : ¬ (8 : Int) < (s.size : Int) := by omega
  have h2 : (20000 : Int) < (len : Int) := by omega
  have h3 : (20000 : Int) ≤ (cap : Int) := by omega
  have h4 : cap ≠ 0 := by omega
  have hS1 : Src w (some ⟨b0, off0, none⟩) 20000 z := hS.less (m := 20000) (by omega)
  have c1 := fun (W : World) (hb : Below w.heap.size w W) => sumW s hs (some ⟨b0, off0, none⟩) 20000 cap (by omega) (by omega) z hz W (hT.below hb hT.lt) (hS1.below hb)
  have c2 := fun (W : World) (hb : Below w.heap.size w W) => rsum_core s hs (some ⟨b0, off0, none⟩) 20000 cap (by omega) (by omega) z hz W (hS1.below hb)
  obtain ⟨D, hD⟩ : ∃ D, Hid (lowBy (digS s z 20000) = D) := ⟨_, rfl⟩
  rw [hD.out] at c1 c2
  clear hD hT hS hS1 hz
  go_enter Tryd.func4, Tryd.ntmps4
  go_upto_region 7 with (first | (go_at_call 8; with_reducible refine c0.mono ?_; rintro e W0 ⟨rfl, b0'⟩) | (go_at_call 11; with_reducible refine (c1 _ b0').mono ?_; rintro e W1 ⟨g1, rfl, lg1, o1, b1⟩))
  have l0 := b0'.size
  have hB1 : Below w.heap.size w W1 := below_via b1 b0' l0
  have l1 := hB1.size
  have q1 := (o1.lt g1 rfl).2
  have y1 := bys_of_row o1
  have hBd : Below w.heap.size w W1.drew := hB1.drew
  have v1 := fun (W : World) (hb : Below W1.heap.size W1 W) => bys_str g1 0 32 32 D W (y1.below hb q1)
  have v2 := fun (W : World) (g cap : Nat) (hb : Bys W g 0 32 D) => bys_str g 0 32 cap D W hb
  generalize strOfNums (nums D 32) = S at v1 v2
  clear c0 c1 o1 b0' b1 y1
  have vk := fun (W : World) (hb : Below W1.heap.size W1 W) => v1 W hb
  refine wp_region_noPanic ?_
  refine region_lastly (S := (fun w' => (convert 27 9 (.slice (some ⟨g1, 0, none⟩) 32 32)).run Tryd.prog w' = .ok (.string S) w')) [] (by kernel_rfl) (by ((try dsimp only); (first | exact vk _ ((Below.refl _ _).drew) | exact vk _ (((Below.refl _ _).drew).trans b2)))) (fun hHeld => ?_)
  refine anyZ_free (i := 0) (oi := ?oi_16) (v := ?v_16) ?hi_16 ?hs_16 ?hf_16 ?hr_16 ?hQ_16 (Or.inl ⟨?hw_16, ?hy_16⟩) ?hrest_16
  case hi_16 => (simp only [List.getElem?_toArray, List.getElem?_cons_succ, List.getElem?_cons_zero]; exact rfl)
  case hs_16 => kernel_rfl
  case hf_16 => kernel_rfl
  case hr_16 => kernel_rfl
  case hQ_16 => exact fun _ _ _ h => h
  case hw_16 => rfl
  case hy_16 => (intro w _; go_simp; try with_reducible rfl)
  try simp only [Act.put, List.setIfInBounds_toArray, List.set_cons_zero, List.set_cons_succ]
  refine anyZ_free (i := 1) (oi := ?oi_17) (v := ?v_17) ?hi_17 ?hs_17 ?hf_17 ?hr_17 ?hQ_17 (Or.inl ⟨?hw_17, ?hy_17⟩) ?hrest_17
  case hi_17 => (simp only [List.getElem?_toArray, List.getElem?_cons_succ, List.getElem?_cons_zero]; exact rfl)
  case hs_17 => kernel_rfl
  case hf_17 => kernel_rfl
  case hr_17 => kernel_rfl
  case hQ_17 => exact fun _ _ _ h => h
  case hw_17 => rfl
  case hy_17 => (intro w _; go_simp; try with_reducible rfl)
  try simp only [Act.put, List.setIfInBounds_toArray, List.set_cons_zero, List.set_cons_succ]
  refine anyZ_free (i := 2) (oi := ?oi_18) (v := ?v_18) ?hi_18 ?hs_18 ?hf_18 ?hr_18 ?hQ_18 (Or.inl ⟨?hw_18, ?hy_18⟩) ?hrest_18
  case hi_18 => (simp only [List.getElem?_toArray, List.getElem?_cons_succ, List.getElem?_cons_zero]; exact rfl)
  case hs_18 => kernel_rfl
  case hf_18 => kernel_rfl
  case hr_18 => kernel_rfl
  case hQ_18 => exact fun _ _ _ h => h
  case hw_18 => rfl
  case hy_18 => (intro w _; go_simp; try with_reducible rfl)
  try simp only [Act.put, List.setIfInBounds_toArray, List.set_cons_zero, List.set_cons_succ]
  refine anyZ_free (i := 3) (oi := ?oi_19) (v := ?v_19) ?hi_19 ?hs_19 ?hf_19 ?hr_19 ?hQ_19 (Or.inl ⟨?hw_19, ?hy_19⟩) ?hrest_19
  case hi_19 => (simp only [List.getElem?_toArray, List.getElem?_cons_succ, List.getElem?_cons_zero]; exact rfl)
  case hs_19 => kernel_rfl
  case hf_19 => kernel_rfl
  case hr_19 => kernel_rfl
  case hQ_19 => exact fun _ _ _ h => h
  case hw_19 => rfl
  case hy_19 => (intro w _; go_simp; try with_reducible rfl)
  try simp only [Act.put, List.setIfInBounds_toArray, List.set_cons_zero, List.set_cons_succ]
  refine anyZ_free (i := 4) (oi := ?oi_20) (v := ?v_20) ?hi_20 ?hs_20 ?hf_20 ?hr_20 ?hQ_20 (Or.inl ⟨?hw_20, ?hy_20⟩) ?hrest_20
  case hi_20 => (simp only [List.getElem?_toArray, List.getElem?_cons_succ, List.getElem?_cons_zero]; exact rfl)
  case hs_20 => kernel_rfl
  case hf_20 => kernel_rfl
  case hr_20 => kernel_rfl
  case hQ_20 => exact fun _ _ _ h => h
  case hw_20 => rfl
  case hy_20 => (intro w _; go_simp; try with_reducible rfl)
  try simp only [Act.put, List.setIfInBounds_toArray, List.set_cons_zero, List.set_cons_succ]
  refine anyZ_free (i := 5) (oi := ?oi_21) (v := ?v_21) ?hi_21 ?hs_21 ?hf_21 ?hr_21 ?hQ_21 (Or.inl ⟨?hw_21, ?hy_21⟩) ?hrest_21
  case hi_21 => (simp only [List.getElem?_toArray, List.getElem?_cons_succ, List.getElem?_cons_zero]; exact rfl)
  case hs_21 => kernel_rfl
  case hf_21 => kernel_rfl
  case hr_21 => kernel_rfl
  case hQ_21 => exact fun _ _ _ h => h
  case hw_21 => rfl
  case hy_21 => (intro w _; go_simp; try with_reducible rfl)
  try simp only [Act.put, List.setIfInBounds_toArray, List.set_cons_zero, List.set_cons_succ]
  refine anyZ_free (i := 6) (oi := ?oi_22) (v := ?v_22) ?hi_22 ?hs_22 ?hf_22 ?hr_22 ?hQ_22 (Or.inl ⟨?hw_22, ?hy_22⟩) ?hrest_22
  case hi_22 => (simp only [List.getElem?_toArray, List.getElem?_cons_succ, List.getElem?_cons_zero]; exact rfl)
  case hs_22 => kernel_rfl
  case hf_22 => kernel_rfl
  case hr_22 => kernel_rfl
  case hQ_22 => exact fun _ _ _ h => h
  case hw_22 => rfl
  case hy_22 => (intro w _; go_simp; try with_reducible rfl)
  try simp only [Act.put, List.setIfInBounds_toArray, List.set_cons_zero, List.set_cons_succ]
  refine anyZ_take (i := 7) (oi := ?oi_23) (v := ?v_23) ?hi_23 ?hz_23 ?hs_23 ?hf_23 ?hr_23 ?hQ_23 (Or.inl ⟨?hw_23, ?hy_23⟩) ?hS_23 ?hrest_23
  case hi_23 => (simp only [List.getElem?_toArray, List.getElem?_cons_succ, List.getElem?_cons_zero]; exact rfl)
  case hz_23 => kernel_rfl
  case hs_23 => kernel_rfl
  case hf_23 => kernel_rfl
  case hr_23 => kernel_rfl
  case hQ_23 => exact fun _ _ _ h => h
  case hw_23 => rfl
  case hS_23 => assumption
  case hy_23 => (intro w hSw; (try dsimp only at hSw); go_simp; try with_reducible rfl)
  try simp only [Act.put, List.setIfInBounds_toArray, List.set_cons_zero, List.set_cons_succ]
  refine anyZ_free (i := 8) (oi := ?oi_24) (v := ?v_24) ?hi_24 ?hs_24 ?hf_24 ?hr_24 ?hQ_24 (Or.inl ⟨?hw_24, ?hy_24⟩) ?hrest_24
  case hi_24 => (simp only [List.getElem?_toArray, List.getElem?_cons_succ, List.getElem?_cons_zero]; exact rfl)
  case hs_24 => kernel_rfl
  case hf_24 => kernel_rfl
  case hr_24 => kernel_rfl
  case hQ_24 => exact fun _ _ _ h => h
  case hw_24 => rfl
  case hy_24 => (intro w _; go_simp; try with_reducible rfl)
  try simp only [Act.put, List.setIfInBounds_toArray, List.set_cons_zero, List.set_cons_succ]
  refine anyZ_free (i := 9) (oi := ?oi_25) (v := ?v_25) ?hi_25 ?hs_25 ?hf_25 ?hr_25 ?hQ_25 (Or.inl ⟨?hw_25, ?hy_25⟩) ?hrest_25
  case hi_25 => (simp only [List.getElem?_toArray, List.getElem?_cons_succ, List.getElem?_cons_zero]; exact rfl)
  case hs_25 => kernel_rfl
  case hf_25 => kernel_rfl
  case hr_25 => kernel_rfl
  case hQ_25 => exact fun _ _ _ h => h
  case hw_25 => rfl
  case hy_25 => (intro w _; go_simp; try with_reducible rfl)
  try simp only [Act.put, List.setIfInBounds_toArray, List.set_cons_zero, List.set_cons_succ]
  refine anyZ_ready (rs := [10]) (by kernel_rfl) (by simp) ?_
  refine (AllZ.cons (o := ?o_26) ?ho_26 (fun K hK => ?st_26) AllZ.nil)
  case ho_26 => (simp only [List.getElem?_toArray, List.getElem?_cons_succ, List.getElem?_cons_zero]; exact rfl)
  case st_26 =>
    go_simp
    (go_at_call 12; with_reducible refine (c2 _ hBd).mono ?_; rintro e W2 ⟨g2, cap2, rfl, lg2, y2, b2⟩; have e2 := v2 W2 g2 cap2 y2)
    refine hK.out _ _ (by ((try dsimp only); (first | exact vk _ ((Below.refl _ _).drew) | exact vk _ (((Below.refl _ _).drew).trans b2)))) (fun hHeld => ?_)
    clear hK K
    try simp only [Act.put, List.setIfInBounds_toArray, List.set_cons_zero, List.set_cons_succ]
    refine anyZ_ready (rs := [11]) (by kernel_rfl) (by simp) ?_
    refine (AllZ.cons (o := ?o_27) ?ho_27 (fun K hK => ?st_27) AllZ.nil)
    case ho_27 => (simp only [List.getElem?_toArray, List.getElem?_cons_succ, List.getElem?_cons_zero]; exact rfl)
    case st_27 =>
      go_simp
      refine hK.out _ _ (by ((try dsimp only); (first | exact vk _ ((Below.refl _ _).drew) | exact vk _ (((Below.refl _ _).drew).trans b2)))) (fun hHeld => ?_)
      clear hK K
      try simp only [Act.put, List.setIfInBounds_toArray, List.set_cons_zero, List.set_cons_succ]
      refine anyZ_free (i := 12) (oi := ?oi_28) (v := ?v_28) ?hi_28 ?hs_28 ?hf_28 ?hr_28 ?hQ_28 (Or.inl ⟨?hw_28, ?hy_28⟩) ?hrest_28
      case hi_28 => (simp only [List.getElem?_toArray, List.getElem?_cons_succ, List.getElem?_cons_zero]; exact rfl)
      case hs_28 => kernel_rfl
      case hf_28 => kernel_rfl
      case hr_28 => kernel_rfl
      case hQ_28 => exact fun _ _ _ h => h
      case hw_28 => rfl
      case hy_28 => (intro w _; go_simp; try with_reducible rfl)
      try simp only [Act.put, List.setIfInBounds_toArray, List.set_cons_zero, List.set_cons_succ]
      refine anyZ_free (i := 13) (oi := ?oi_29) (v := ?v_29) ?hi_29 ?hs_29 ?hf_29 ?hr_29 ?hQ_29 (Or.inl ⟨?hw_29, ?hy_29⟩) ?hrest_29
      case hi_29 => (simp only [List.getElem?_toArray, List.getElem?_cons_succ, List.getElem?_cons_zero]; exact rfl)
      case hs_29 => kernel_rfl
      case hf_29 => kernel_rfl
      case hr_29 => kernel_rfl
      case hQ_29 => exact fun _ _ _ h => h
      case hw_29 => rfl
      case hy_29 => (intro w _; go_simp; try with_reducible rfl)
      try simp only [Act.put, List.setIfInBounds_toArray, List.set_cons_zero, List.set_cons_succ]
      refine anyZ_free (i := 14) (oi := ?oi_30) (v := ?v_30) ?hi_30 ?hs_30 ?hf_30 ?hr_30 ?hQ_30 (Or.inl ⟨?hw_30, ?hy_30⟩) ?hrest_30
      case hi_30 => (simp only [List.getElem?_toArray, List.getElem?_cons_succ, List.getElem?_cons_zero]; exact rfl)
      case hs_30 => kernel_rfl
      case hf_30 => kernel_rfl
      case hr_30 => kernel_rfl
      case hQ_30 => exact fun _ _ _ h => h
      case hw_30 => rfl
      case hy_30 => (intro w _; go_simp; try with_reducible rfl)
      try simp only [Act.put, List.setIfInBounds_toArray, List.set_cons_zero, List.set_cons_succ]
      refine anyZ_done (by kernel_rfl) ?_ _
      refine NoPanic.normal ?_
      have hB2 : Below w.heap.size w W2 := below_via b2 hBd l1
      clear v1 v2 vk c2 hHeld y2 e2
      go_wp2
      go_ret
      exact ⟨rfl, hB2⟩

theorem blakeSums_walk (s : ByteArray) (a : Option Addr) (len cap : Nat) (zs : List Int) (w : World) (hs : s.size ≤ maxLen) (h : IsRow .u8 w a len cap zs) (hT : Tabs w) :
    Calls Tryd.prog 4 #[.string s, .slice a len cap] w fun e w' => e = .returned (.bool true) ∧ Below w.heap.size w w' := by
  obtain ⟨z, hz, hS, h1, h2⟩ := src_of_isRow h
  have hu := upW w hT
  by_cases hl : len ≤ 20000
  · by_cases h8 : s.size ≤ 8
    · exact sums_small_ok s a len cap w h8 hl h1 z hz hT hS hu
    · exact sums_small_long s a len cap w (by omega) hl h1 hu
  · have hS' := hS
    rcases hS' with h0 | ⟨b, off, rfl, _⟩
    · omega
    · by_cases h8 : s.size ≤ 8
      · exact sums_big_ok s b off len cap w h8 (by omega) h1 z hz hT hS hu
      · exact sums_big_long s b off len cap w (by omega) (by omega) h1 hu
end Go.Proofs.YtllgnclbbakliaaDoor
