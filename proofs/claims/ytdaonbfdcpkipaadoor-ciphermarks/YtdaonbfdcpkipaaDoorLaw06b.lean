/-
  CipherMarks, walked.
-/
import Derived.Test.YtdaonbfdcpkipaaDoorJ10
import Derived.Test.YtdaonbfdcpkipaaDoorJ7
namespace Go.Proofs.YtdaonbfdcpkipaaDoor
open Go.RowKit Go.Proofs
set_option linter.unusedVariables false
set_option linter.unusedSimpArgs false
attribute [local go_sem ↓] Go.wp_at_zero Go.wp_at_succ

set_option maxHeartbeats 2000000 in
theorem marks_long (a b : Option Addr) (n m c d : Nat) (h : 3000 < m) (w : World)
    (c0 : Calls Tryd.prog 9 #[] w fun e w' => e = .returned (.bool true) ∧ Below w.heap.size w w') :
    Calls Tryd.prog 4 #[.slice a n c, .slice b m d] w fun e w' => e = .returned (.bool true) ∧ Below w.heap.size w w' := by
  have h1 : (3000 : Int) < (m : Int) := by omega
  clear h
  go_enter Tryd.func4, Tryd.ntmps4
  go_wp2_with (go_at_call 9; with_reducible refine c0.mono ?_; rintro e W0 ⟨rfl, b0⟩)
  go_ret
  exact ⟨rfl, b0⟩
set_option maxHeartbeats 2000000 in
theorem marks_no (a b : Option Addr) (n m c d : Nat) (hm : m ≤ 3000) (h : ¬ n = 32) (w : World)
    (c0 : Calls Tryd.prog 9 #[] w fun e w' => e = .returned (.bool true) ∧ Below w.heap.size w w') :
    Calls Tryd.prog 4 #[.slice a n c, .slice b m d] w fun e w' => e = .returned (.bool true) ∧ Below w.heap.size w w' := by
  have c1 := markBad a n c h (.slice b m d)
  have h1 : ¬ (3000 : Int) < (m : Int) := by omega
  have h2 : ¬ (n : Int) = 32 := by omega
  have ec : ∀ w, (binOp .eql 26 (.iface 30 (.int .i64 1)) (.iface 30 (.int .i64 1))).run Tryd.prog w = .ok (.bool true) w := fun w => eql_code w 1 1
  clear h hm
  go_enter Tryd.func4, Tryd.ntmps4
  go_wp2_with (first | (go_at_call 9; with_reducible refine c0.mono ?_; rintro e W0 ⟨rfl, b0⟩) | (go_at_call 13; with_reducible refine (c1 _).mono ?_; rintro e W1 ⟨rfl, rfl⟩))
  go_ret
  exact ⟨rfl, b0⟩

set_option maxHeartbeats 2000000 in
theorem marks_yes (kb ko kc m d : Nat) (hkc : 32 ≤ kc) (hm : m ≤ 3000) (zk z : Nat → Nat) (hzk : ∀ i, zk i < 256) (hz : ∀ i, z i < 256) (b : Option Addr) (w : World) (hK : Bys w kb ko 32 zk) (hS : Src w b m z)
    (c0 : Calls Tryd.prog 9 #[] w fun e w' => e = .returned (.bool true) ∧ Below w.heap.size w w') :
    Calls Tryd.prog 4 #[.slice (some ⟨kb, ko, none⟩) 32 kc, .slice b m d] w fun e w' => e = .returned (.bool true) ∧ Below w.heap.size w w' := by
  have c1 := fun (W : World) (hb : Below w.heap.size w W) => markX kb ko kc m d hkc (by omega) zk z hzk hz b W (hK.below hb hK.lt) (hS.below hb)
  have c3 : ∀ W, Below w.heap.size w W → Calls Tryd.prog 14 #[.slice (some ⟨kb, ko, none⟩) 32 kc, .slice b m d] W fun e w' => ∃ g d, e = .returned (.slice (some ⟨g, 0, none⟩) 16 16) ∧ W.heap.size ≤ g ∧ Arr w' .u8 g 16 d ∧ (∀ i, d i < 256) ∧ Ob.valD d 16 = Ob.markN zk z m ∧ Below W.heap.size W w' := fun W hb => rmark_core kb ko kc m d zk z hzk hz (by omega) b W (hK.below hb hK.lt) (hS.below hb)
  have hVl := Ob.markN_lt zk z m
  have h1 : ¬ (3000 : Int) < (m : Int) := by omega
  obtain ⟨V, hV⟩ : ∃ D, Hid (Ob.markN zk z m = D) := ⟨_, rfl⟩
  rw [hV.out] at c1 c3 hVl
  unfold MarkAt at c1
  have hVl' : Hid (V < 256 ^ 16) := hVl
  clear hV hK hS hzk hz hm hVl
  go_enter Tryd.func4, Tryd.ntmps4
  go_upto_region 7 with (first | (go_at_call 9; with_reducible refine c0.mono ?_; rintro e W0 ⟨rfl, b0'⟩) | (go_at_call 13; with_reducible refine (c1 _ b0').mono ?_; rintro e W1 ⟨g1, rfl, d1, lg1, o1, hd1, hv1, b1⟩))
  have l0 := b0'.size
  have hB1 : Below w.heap.size w W1 := below_via b1 b0' l0
  have l1 := hB1.size
  have q1 := (o1.lt g1 rfl).2
  have y1 := bys_of_row o1
  have hBd : Below w.heap.size w W1.drew := hB1.drew
  have v1 : ∀ (W : World) (hb : Below W1.heap.size W1 W), (convert 22 9 (.slice (some ⟨g1, 0, none⟩) 16 16)).run Tryd.prog W = .ok (.string (bst (Ob.lenD V) 16)) W := fun W hb => by
    have := bys_str g1 0 16 16 d1 W (y1.below hb q1)
    rw [← bst_congr (Ob.mark_digits hd1 hVl'.out hv1)]
    exact this
  have v2 : ∀ (W : World) (g : Nat) (d : Nat → Nat), Arr W .u8 g 16 d → (∀ i, d i < 256) → Ob.valD d 16 = V → (convert 22 9 (.slice (some ⟨g, 0, none⟩) 16 16)).run Tryd.prog W = .ok (.string (bst (Ob.lenD V) 16)) W := fun W g d ht hd hv => by
    have := bys_str g 0 16 16 d W ht.bys8
    rw [← bst_congr (Ob.mark_digits hd hVl'.out hv)]
    exact this
  generalize bst (Ob.lenD V) 16 = S at v1 v2
  clear c0 c1 o1 b0' b1 y1 hd1 hv1
  have vk := fun (W : World) (hb : Below W1.heap.size W1 W) => v1 W hb
  refine wp_region_noPanic ?_
  refine region_lastly (S := (fun w' => (convert 22 9 (.slice (some ⟨g1, 0, none⟩) 16 16)).run Tryd.prog w' = .ok (.string S) w')) [] (by kernel_rfl) (by ((try dsimp only); (first | exact vk _ ((Below.refl _ _).drew) | exact vk _ (((Below.refl _ _).drew).trans b2)))) (fun hHeld => ?_)
  refine anyZ_free (i := 0) (oi := ?oi_1) (v := ?v_1) ?hi_1 ?hs_1 ?hf_1 ?hr_1 ?hQ_1 (Or.inl ⟨?hw_1, ?hy_1⟩) ?hrest_1
  case hi_1 => (simp only [List.getElem?_toArray, List.getElem?_cons_succ, List.getElem?_cons_zero]; exact rfl)
  case hs_1 => kernel_rfl
  case hf_1 => kernel_rfl
  case hr_1 => kernel_rfl
  case hQ_1 => exact fun _ _ _ h => h
  case hw_1 => rfl
  case hy_1 => (intro w _; go_simp; try with_reducible rfl)
  try simp only [Act.put, List.setIfInBounds_toArray, List.set_cons_zero, List.set_cons_succ]
  refine anyZ_free (i := 1) (oi := ?oi_2) (v := ?v_2) ?hi_2 ?hs_2 ?hf_2 ?hr_2 ?hQ_2 (Or.inl ⟨?hw_2, ?hy_2⟩) ?hrest_2
  case hi_2 => (simp only [List.getElem?_toArray, List.getElem?_cons_succ, List.getElem?_cons_zero]; exact rfl)
  case hs_2 => kernel_rfl
  case hf_2 => kernel_rfl
  case hr_2 => kernel_rfl
  case hQ_2 => exact fun _ _ _ h => h
  case hw_2 => rfl
  case hy_2 => (intro w _; go_simp; try with_reducible rfl)
  try simp only [Act.put, List.setIfInBounds_toArray, List.set_cons_zero, List.set_cons_succ]
  refine anyZ_free (i := 2) (oi := ?oi_3) (v := ?v_3) ?hi_3 ?hs_3 ?hf_3 ?hr_3 ?hQ_3 (Or.inl ⟨?hw_3, ?hy_3⟩) ?hrest_3
  case hi_3 => (simp only [List.getElem?_toArray, List.getElem?_cons_succ, List.getElem?_cons_zero]; exact rfl)
  case hs_3 => kernel_rfl
  case hf_3 => kernel_rfl
  case hr_3 => kernel_rfl
  case hQ_3 => exact fun _ _ _ h => h
  case hw_3 => rfl
  case hy_3 => (intro w _; go_simp; try with_reducible rfl)
  try simp only [Act.put, List.setIfInBounds_toArray, List.set_cons_zero, List.set_cons_succ]
  refine anyZ_free (i := 3) (oi := ?oi_4) (v := ?v_4) ?hi_4 ?hs_4 ?hf_4 ?hr_4 ?hQ_4 (Or.inl ⟨?hw_4, ?hy_4⟩) ?hrest_4
  case hi_4 => (simp only [List.getElem?_toArray, List.getElem?_cons_succ, List.getElem?_cons_zero]; exact rfl)
  case hs_4 => kernel_rfl
  case hf_4 => kernel_rfl
  case hr_4 => kernel_rfl
  case hQ_4 => exact fun _ _ _ h => h
  case hw_4 => rfl
  case hy_4 => (intro w _; go_simp; try with_reducible rfl)
  try simp only [Act.put, List.setIfInBounds_toArray, List.set_cons_zero, List.set_cons_succ]
  refine anyZ_free (i := 4) (oi := ?oi_5) (v := ?v_5) ?hi_5 ?hs_5 ?hf_5 ?hr_5 ?hQ_5 (Or.inl ⟨?hw_5, ?hy_5⟩) ?hrest_5
  case hi_5 => (simp only [List.getElem?_toArray, List.getElem?_cons_succ, List.getElem?_cons_zero]; exact rfl)
  case hs_5 => kernel_rfl
  case hf_5 => kernel_rfl
  case hr_5 => kernel_rfl
  case hQ_5 => exact fun _ _ _ h => h
  case hw_5 => rfl
  case hy_5 => (intro w _; go_simp; try with_reducible rfl)
  try simp only [Act.put, List.setIfInBounds_toArray, List.set_cons_zero, List.set_cons_succ]
  refine anyZ_free (i := 5) (oi := ?oi_6) (v := ?v_6) ?hi_6 ?hs_6 ?hf_6 ?hr_6 ?hQ_6 (Or.inl ⟨?hw_6, ?hy_6⟩) ?hrest_6
  case hi_6 => (simp only [List.getElem?_toArray, List.getElem?_cons_succ, List.getElem?_cons_zero]; exact rfl)
  case hs_6 => kernel_rfl
  case hf_6 => kernel_rfl
  case hr_6 => kernel_rfl
  case hQ_6 => exact fun _ _ _ h => h
  case hw_6 => rfl
  case hy_6 => (intro w _; go_simp; try with_reducible rfl)
  try simp only [Act.put, List.setIfInBounds_toArray, List.set_cons_zero, List.set_cons_succ]
  refine anyZ_free (i := 6) (oi := ?oi_7) (v := ?v_7) ?hi_7 ?hs_7 ?hf_7 ?hr_7 ?hQ_7 (Or.inl ⟨?hw_7, ?hy_7⟩) ?hrest_7
  case hi_7 => (simp only [List.getElem?_toArray, List.getElem?_cons_succ, List.getElem?_cons_zero]; exact rfl)
  case hs_7 => kernel_rfl
  case hf_7 => kernel_rfl
  case hr_7 => kernel_rfl
  case hQ_7 => exact fun _ _ _ h => h
  case hw_7 => rfl
  case hy_7 => (intro w _; go_simp; try with_reducible rfl)
  try simp only [Act.put, List.setIfInBounds_toArray, List.set_cons_zero, List.set_cons_succ]
  refine anyZ_take (i := 7) (oi := ?oi_8) (v := ?v_8) ?hi_8 ?hz_8 ?hs_8 ?hf_8 ?hr_8 ?hQ_8 (Or.inl ⟨?hw_8, ?hy_8⟩) ?hS_8 ?hrest_8
  case hi_8 => (simp only [List.getElem?_toArray, List.getElem?_cons_succ, List.getElem?_cons_zero]; exact rfl)
  case hz_8 => kernel_rfl
  case hs_8 => kernel_rfl
  case hf_8 => kernel_rfl
  case hr_8 => kernel_rfl
  case hQ_8 => exact fun _ _ _ h => h
  case hw_8 => rfl
  case hS_8 => assumption
  case hy_8 => (intro w hSw; (try dsimp only at hSw); go_simp; try with_reducible rfl)
  try simp only [Act.put, List.setIfInBounds_toArray, List.set_cons_zero, List.set_cons_succ]
  refine anyZ_free (i := 8) (oi := ?oi_9) (v := ?v_9) ?hi_9 ?hs_9 ?hf_9 ?hr_9 ?hQ_9 (Or.inl ⟨?hw_9, ?hy_9⟩) ?hrest_9
  case hi_9 => (simp only [List.getElem?_toArray, List.getElem?_cons_succ, List.getElem?_cons_zero]; exact rfl)
  case hs_9 => kernel_rfl
  case hf_9 => kernel_rfl
  case hr_9 => kernel_rfl
  case hQ_9 => exact fun _ _ _ h => h
  case hw_9 => rfl
  case hy_9 => (intro w _; go_simp; try with_reducible rfl)
  try simp only [Act.put, List.setIfInBounds_toArray, List.set_cons_zero, List.set_cons_succ]
  refine anyZ_free (i := 9) (oi := ?oi_10) (v := ?v_10) ?hi_10 ?hs_10 ?hf_10 ?hr_10 ?hQ_10 (Or.inl ⟨?hw_10, ?hy_10⟩) ?hrest_10
  case hi_10 => (simp only [List.getElem?_toArray, List.getElem?_cons_succ, List.getElem?_cons_zero]; exact rfl)
  case hs_10 => kernel_rfl
  case hf_10 => kernel_rfl
  case hr_10 => kernel_rfl
  case hQ_10 => exact fun _ _ _ h => h
  case hw_10 => rfl
  case hy_10 => (intro w _; go_simp; try with_reducible rfl)
  try simp only [Act.put, List.setIfInBounds_toArray, List.set_cons_zero, List.set_cons_succ]
  refine anyZ_ready (rs := [10]) (by kernel_rfl) (by simp) ?_
  refine (AllZ.cons (o := ?o_11) ?ho_11 (fun K hK => ?st_11) AllZ.nil)
  case ho_11 => (simp only [List.getElem?_toArray, List.getElem?_cons_succ, List.getElem?_cons_zero]; exact rfl)
  case st_11 =>
    go_simp
    (go_at_call 14; with_reducible refine (c3 _ hBd).mono ?_; rintro e W2 ⟨g2, d2, rfl, lg2, t2, hd2, hv2, b2⟩; have e2 := v2 W2 g2 d2 t2 hd2 hv2)
    refine hK.out _ _ (by ((try dsimp only); (first | exact vk _ ((Below.refl _ _).drew) | exact vk _ (((Below.refl _ _).drew).trans b2)))) (fun hHeld => ?_)
    clear hK K
    try simp only [Act.put, List.setIfInBounds_toArray, List.set_cons_zero, List.set_cons_succ]
    refine anyZ_ready (rs := [11]) (by kernel_rfl) (by simp) ?_
    refine (AllZ.cons (o := ?o_12) ?ho_12 (fun K hK => ?st_12) AllZ.nil)
    case ho_12 => (simp only [List.getElem?_toArray, List.getElem?_cons_succ, List.getElem?_cons_zero]; exact rfl)
    case st_12 =>
      go_simp
      refine hK.out _ _ (by ((try dsimp only); (first | exact vk _ ((Below.refl _ _).drew) | exact vk _ (((Below.refl _ _).drew).trans b2)))) (fun hHeld => ?_)
      clear hK K
      try simp only [Act.put, List.setIfInBounds_toArray, List.set_cons_zero, List.set_cons_succ]
      refine anyZ_free (i := 12) (oi := ?oi_13) (v := ?v_13) ?hi_13 ?hs_13 ?hf_13 ?hr_13 ?hQ_13 (Or.inl ⟨?hw_13, ?hy_13⟩) ?hrest_13
      case hi_13 => (simp only [List.getElem?_toArray, List.getElem?_cons_succ, List.getElem?_cons_zero]; exact rfl)
      case hs_13 => kernel_rfl
      case hf_13 => kernel_rfl
      case hr_13 => kernel_rfl
      case hQ_13 => exact fun _ _ _ h => h
      case hw_13 => rfl
      case hy_13 => (intro w _; go_simp; try with_reducible rfl)
      try simp only [Act.put, List.setIfInBounds_toArray, List.set_cons_zero, List.set_cons_succ]
      refine anyZ_free (i := 13) (oi := ?oi_14) (v := ?v_14) ?hi_14 ?hs_14 ?hf_14 ?hr_14 ?hQ_14 (Or.inl ⟨?hw_14, ?hy_14⟩) ?hrest_14
      case hi_14 => (simp only [List.getElem?_toArray, List.getElem?_cons_succ, List.getElem?_cons_zero]; exact rfl)
      case hs_14 => kernel_rfl
      case hf_14 => kernel_rfl
      case hr_14 => kernel_rfl
      case hQ_14 => exact fun _ _ _ h => h
      case hw_14 => rfl
      case hy_14 => (intro w _; go_simp; try with_reducible rfl)
      try simp only [Act.put, List.setIfInBounds_toArray, List.set_cons_zero, List.set_cons_succ]
      refine anyZ_free (i := 14) (oi := ?oi_15) (v := ?v_15) ?hi_15 ?hs_15 ?hf_15 ?hr_15 ?hQ_15 (Or.inl ⟨?hw_15, ?hy_15⟩) ?hrest_15
      case hi_15 => (simp only [List.getElem?_toArray, List.getElem?_cons_succ, List.getElem?_cons_zero]; exact rfl)
      case hs_15 => kernel_rfl
      case hf_15 => kernel_rfl
      case hr_15 => kernel_rfl
      case hQ_15 => exact fun _ _ _ h => h
      case hw_15 => rfl
      case hy_15 => (intro w _; go_simp; try with_reducible rfl)
      try simp only [Act.put, List.setIfInBounds_toArray, List.set_cons_zero, List.set_cons_succ]
      refine anyZ_done (by kernel_rfl) ?_ _
      refine NoPanic.normal ?_
      have hB2 : Below w.heap.size w W2 := below_via b2 hBd l1
      clear v1 v2 vk hHeld t2 hd2 hv2 e2 c3
      go_wp2
      go_ret
      exact ⟨rfl, hB2⟩

theorem cipherMarks_walk (a : Option Addr) (n c : Nat) (zs : List Int) (b : Option Addr) (m d : Nat) (ys : List Int) (w : World) (h : IsRow .u8 w a n c zs) (h2 : IsRow .u8 w b m d ys) (hT : Tabs w) :
    Calls Tryd.prog 4 #[.slice a n c, .slice b m d] w fun e w' => e = .returned (.bool true) ∧ Below w.heap.size w w' := by
  obtain ⟨z, hz, hS, g1, _⟩ := src_of_isRow h
  obtain ⟨y, hy, hS2, g2, _⟩ := src_of_isRow h2
  have hu := upW w hT
  by_cases hl : 3000 < m
  · exact marks_long a b n m c d hl w hu
  · by_cases hok : n = 32
    · subst hok
      obtain ⟨b1, o1, rfl, y1⟩ := hS.some (by decide)
      exact marks_yes b1 o1 c m d g1 (by omega) z y hz hy b w y1 hS2 hu
    · exact marks_no a b n m c d (by omega) hok w hu
end Go.Proofs.YtdaonbfdcpkipaaDoor
