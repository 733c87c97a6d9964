/-
  CipherSeals, walked.
-/
import Derived.Test.YtdaonbfdcpkipaaDoorJ10
import Derived.Test.YtdaonbfdcpkipaaDoorJ9
namespace Go.Proofs.YtdaonbfdcpkipaaDoor
open Go.RowKit Go.Proofs
set_option linter.unusedVariables false
set_option linter.unusedSimpArgs false
attribute [local go_sem ↓] Go.wp_at_zero Go.wp_at_succ

set_option maxHeartbeats 2000000 in
theorem seals_long (a b a1 a2 : Option Addr) (n m c d n1 c1 n2 c2 : Nat) (h : ¬ (n1 ≤ 1000 ∧ n2 ≤ 1000)) (w : World)
    (c0 : Calls Tryd.prog 9 #[] w fun e w' => e = .returned (.bool true) ∧ Below w.heap.size w w') :
    Calls Tryd.prog 5 #[.slice a n c, .slice b m d, .slice a1 n1 c1, .slice a2 n2 c2] w fun e w' => e = .returned (.bool true) ∧ Below w.heap.size w w' := by
  by_cases h1 : 1000 < n1
  · have g1 : (1000 : Int) < (n1 : Int) := by omega
    clear h
    go_enter Tryd.func5, Tryd.ntmps5
    go_wp2_with (go_at_call 9; with_reducible refine c0.mono ?_; rintro e W0 ⟨rfl, b0⟩)
    go_ret
    exact ⟨rfl, b0⟩
  · have g1 : ¬ (1000 : Int) < (n1 : Int) := by omega
    have g2 : (1000 : Int) < (n2 : Int) := by omega
    clear h
    go_enter Tryd.func5, Tryd.ntmps5
    go_wp2_with (go_at_call 9; with_reducible refine c0.mono ?_; rintro e W0 ⟨rfl, b0⟩)
    go_ret
    exact ⟨rfl, b0⟩
set_option maxHeartbeats 2000000 in
theorem seals_no (a b a1 a2 : Option Addr) (n m c d n1 c1 n2 c2 : Nat) (hn1 : n1 ≤ 1000) (hn2 : n2 ≤ 1000) (h : ¬ (n = 32 ∧ m = 12)) (w : World)
    (c0 : Calls Tryd.prog 9 #[] w fun e w' => e = .returned (.bool true) ∧ Below w.heap.size w w') :
    Calls Tryd.prog 5 #[.slice a n c, .slice b m d, .slice a1 n1 c1, .slice a2 n2 c2] w fun e w' => e = .returned (.bool true) ∧ Below w.heap.size w w' := by
  have cs := sealBad a b n m c d h (.slice a1 n1 c1) (.slice a2 n2 c2)
  have cf := fitsNo a b n m c d h
  have g1 : ¬ (1000 : Int) < (n1 : Int) := by omega
  have g2 : ¬ (1000 : Int) < (n2 : Int) := by omega
  have ec : ∀ w, (binOp .eql 26 (.iface 30 (.int .i64 1)) (.iface 30 (.int .i64 1))).run Tryd.prog w = .ok (.bool true) w := fun w => eql_code w 1 1
  clear h hn1 hn2
  go_enter Tryd.func5, Tryd.ntmps5
  go_wp2_with (first | (go_at_call 9; with_reducible refine c0.mono ?_; rintro e W0 ⟨rfl, b0⟩) | (go_at_call 15; with_reducible refine (cs _).mono ?_; rintro e W1 ⟨rfl, rfl⟩) | (go_at_call 11; with_reducible refine (cf _).mono ?_; rintro e W2 ⟨rfl, rfl⟩))
  go_ret
  exact ⟨rfl, b0⟩

set_option maxHeartbeats 4000000 in
theorem seals_yes (kb ko kc nb no nc c1 n1 c2 n2 : Nat) (hkc : 32 ≤ kc) (hnc : 12 ≤ nc) (hn1 : n1 ≤ 1000) (hn2 : n2 ≤ 1000) (zk zn z1 z2 : Nat → Nat) (hzk : ∀ i, zk i < 256) (hzn : ∀ i, zn i < 256) (hz1 : ∀ i, z1 i < 256) (hz2 : ∀ i, z2 i < 256) (a1 a2 : Option Addr) (w : World) (hT : Tabs w) (hK : Bys w kb ko 32 zk) (hNn : Bys w nb no 12 zn) (hS1 : Src w a1 n1 z1) (hS2 : Src w a2 n2 z2)
    (c0 : Calls Tryd.prog 9 #[] w fun e w' => e = .returned (.bool true) ∧ Below w.heap.size w w') :
    Calls Tryd.prog 5 #[.slice (some ⟨kb, ko, none⟩) 32 kc, .slice (some ⟨nb, no, none⟩) 12 nc, .slice a1 n1 c1, .slice a2 n2 c2] w fun e w' => e = .returned (.bool true) ∧ Below w.heap.size w w' := by
  have cs := fun (W : World) (hb : Below w.heap.size w W) => sealW kb ko kc nb no nc c1 n1 c2 n2 hkc hnc zk zn z1 z2 hzk hzn hz1 hz2 (by omega) (by omega) a1 a2 W (hT.on hb) (hK.below hb hK.lt) (hNn.below hb hNn.lt) (hS1.below hb) (hS2.below hb)
  have cf := fitsYes (some ⟨kb, ko, none⟩) (some ⟨nb, no, none⟩) kc nc
  have cr := fun (W : World) (hb : Below w.heap.size w W) => rstream_core kb ko kc nb no nc c2 n2 zk zn z2 hzk hzn hz2 (by omega) a2 W (hK.below hb hK.lt) (hNn.below hb hNn.lt) (hS2.below hb)
  have cb : ∀ (W : World) (g : Nat), Below w.heap.size w W → Arr W .u8 g n2 (Ob.strX zk zn z2) → Calls Tryd.prog 17 #[.slice (some ⟨kb, ko, none⟩) 32 kc, .slice (some ⟨nb, no, none⟩) 12 nc, .slice a1 n1 c1, .slice (some ⟨g, 0, none⟩) n2 n2] W fun e w' => ∃ g d, e = .returned (.slice (some ⟨g, 0, none⟩) 16 16) ∧ W.heap.size ≤ g ∧ Arr w' .u8 g 16 d ∧ (∀ i, d i < 256) ∧ Ob.valD d 16 = Ob.sealN zk zn z1 n1 (Ob.strX zk zn z2) n2 ∧ Below W.heap.size W w' := fun W g hb ht =>
    rboth_core kb ko kc nb no nc c1 n1 n2 n2 zk zn z1 (Ob.strX zk zn z2) hzk hzn hz1 (strX_lt hz2) (by omega) (by omega) a1 (some ⟨g, 0, none⟩) W (hK.below hb hK.lt) (hNn.below hb hNn.lt) (hS1.below hb) (Or.inr ⟨g, 0, rfl, ht.bys8⟩)
  have hcat : bst (Ob.strX zk zn z2) n2 ++ bst (Ob.lenD (Ob.sealN zk zn z1 n1 (Ob.strX zk zn z2) n2)) 16 = bst (Ob.sealX zk zn z1 n1 z2 n2) (n2 + 16) := bst_join _ _ _ _
  have hVl : Hid (Ob.sealN zk zn z1 n1 (Ob.strX zk zn z2) n2 < 256 ^ 16) := Ob.markN_lt _ _ _
  have g1 : ¬ (1000 : Int) < (n1 : Int) := by omega
  have g2 : ¬ (1000 : Int) < (n2 : Int) := by omega
  obtain ⟨V, hV⟩ : ∃ D, Hid (Ob.sealN zk zn z1 n1 (Ob.strX zk zn z2) n2 = D) := ⟨_, rfl⟩
  obtain ⟨F, hF⟩ : ∃ D, Hid (Ob.strX zk zn z2 = D) := ⟨_, rfl⟩
  obtain ⟨G, hG⟩ : ∃ D, Hid (Ob.sealX zk zn z1 n1 z2 n2 = D) := ⟨_, rfl⟩
  rw [hV.out] at cb hVl hcat
  rw [hF.out] at cr cb hcat
  rw [hG.out] at cs hcat
  have nl : ¬ 9223372036854775807 < n2 + 16 := by omega
  have z0 := bst_size F n2
  have zV := bst_size (Ob.lenD V) 16
  obtain ⟨m, hm⟩ : ∃ m, Hid (n2 + 16 = m) := ⟨_, rfl⟩
  rw [hm.out] at cs hcat
  clear hV hF hG hT hK hNn hS1 hS2 hzk hzn hz1 hz2 hn1
  go_enter Tryd.func5, Tryd.ntmps5
  go_upto_region 8 with (first | (go_at_call 9; with_reducible refine c0.mono ?_; rintro e W0 ⟨rfl, b0'⟩) | (go_at_call 15; with_reducible refine (cs _ b0').mono ?_; rintro e W1 ⟨g1', rfl, lg1, t1, b1⟩) | (go_at_call 11; with_reducible refine (cf _).mono ?_; rintro e W2 ⟨rfl, rfl⟩))
  have hB1 : Below w.heap.size w W1 := below_via b1 b0' b0'.size
  have cr1 := cr _ hB1
  clear cs cf cr c0
  go_upto_region 9 with (go_at_call 16; with_reducible refine cr1.mono ?_; rintro e W3 ⟨rfl, t3, b3⟩)
  have hB3 : Below w.heap.size w W3 := below_via b3 hB1 hB1.size
  have l3 := hB3.size
  obtain ⟨X, hX⟩ : ∃ X, Hid (W1.heap.size = X) := ⟨_, rfl⟩
  have t1' := t1.below b3 t1.lt
  rw [hX.out] at t3 ⊢
  have hBd : Below w.heap.size w W3.drew := hB3.drew
  have v1 : ∀ (W : World) (hb : Below W3.heap.size W3 W), (convert 22 9 (.slice (some ⟨g1', 0, none⟩) m m)).run Tryd.prog W = .ok (.string (bst G m)) W := fun W hb => bys_str g1' 0 m m G W (t1'.below hb t1'.lt).bys8
  have v3 : ∀ (W : World) (hb : Below W3.heap.size W3 W), (convert 22 9 (.slice (some ⟨X, 0, none⟩) n2 n2)).run Tryd.prog W = .ok (.string (bst F n2)) W := fun W hb => bys_str X 0 n2 n2 F W (t3.below hb t3.lt).bys8
  have v2 : ∀ (W : World) (g : Nat) (d : Nat → Nat), Arr W .u8 g 16 d → (∀ i, d i < 256) → Ob.valD d 16 = V → (convert 22 9 (.slice (some ⟨g, 0, none⟩) 16 16)).run Tryd.prog W = .ok (.string (bst (Ob.lenD V) 16)) W := fun W g d ht hd hv => by
    have := bys_str g 0 16 16 d W ht.bys8
    rw [← bst_congr (Ob.mark_digits hd hVl.out hv)]
    exact this
  have cb1 := cb W3.drew X hBd (t3.drew)
  generalize bst (Ob.lenD V) 16 = SV at *
  generalize bst F n2 = SF at *
  generalize bst G m = SG at *
  clear t1 t1' t3 b0' b1 b3 cr1 cb
  have vk : Hid (∀ (W : World) (hb : Below W3.heap.size W3 W), (convert 22 9 (.slice (some ⟨g1', 0, none⟩) m m)).run Tryd.prog W = .ok (.string SG) W ∧ (convert 22 9 (.slice (some ⟨X, 0, none⟩) n2 n2)).run Tryd.prog W = .ok (.string SF) W) := fun W hb => ⟨v1 W hb, v3 W hb⟩
  clear v1 v3
  refine wp_region_noPanic ?_
  refine region_lastly (S := (fun w' => (convert 22 9 (.slice (some ⟨g1', 0, none⟩) m m)).run Tryd.prog w' = .ok (.string SG) w' ∧ (convert 22 9 (.slice (some ⟨X, 0, none⟩) n2 n2)).run Tryd.prog w' = .ok (.string SF) w')) [] (by kernel_rfl) (by ((try dsimp only); (first | exact vk.out _ ((Below.refl _ _).drew) | exact vk.out _ (((Below.refl _ _).drew).trans b2)))) (fun hHeld => ?_)
  refine anyZ_free (i := 0) (oi := ?oi_1) (v := ?v_1) ?hi_1 ?hs_1 ?hf_1 ?hr_1 ?hQ_1 (Or.inl ⟨?hw_1, ?hy_1⟩) ?hrest_1
  case hi_1 => (simp only [List.getElem?_toArray, List.getElem?_cons_succ, List.getElem?_cons_zero]; exact rfl)
  case hs_1 => kernel_rfl
  case hf_1 => kernel_rfl
  case hr_1 => kernel_rfl
  case hQ_1 => exact fun _ _ _ h => h
  case hw_1 => rfl
  case hy_1 => (intro w _; go_simp; try with_reducible rfl)
  try simp only [Act.put, List.setIfInBounds_toArray, List.set_cons_zero, List.set_cons_succ]
  refine anyZ_free (i := 1) (oi := ?oi_2) (v := ?v_2) ?hi_2 ?hs_2 ?hf_2 ?hr_2 ?hQ_2 (Or.inl ⟨?hw_2, ?hy_2⟩) ?hrest_2
  case hi_2 => (simp only [List.getElem?_toArray, List.getElem?_cons_succ, List.getElem?_cons_zero]; exact rfl)
  case hs_2 => kernel_rfl
  case hf_2 => kernel_rfl
  case hr_2 => kernel_rfl
  case hQ_2 => exact fun _ _ _ h => h
  case hw_2 => rfl
  case hy_2 => (intro w _; go_simp; try with_reducible rfl)
  try simp only [Act.put, List.setIfInBounds_toArray, List.set_cons_zero, List.set_cons_succ]
  refine anyZ_free (i := 2) (oi := ?oi_3) (v := ?v_3) ?hi_3 ?hs_3 ?hf_3 ?hr_3 ?hQ_3 (Or.inl ⟨?hw_3, ?hy_3⟩) ?hrest_3
  case hi_3 => (simp only [List.getElem?_toArray, List.getElem?_cons_succ, List.getElem?_cons_zero]; exact rfl)
  case hs_3 => kernel_rfl
  case hf_3 => kernel_rfl
  case hr_3 => kernel_rfl
  case hQ_3 => exact fun _ _ _ h => h
  case hw_3 => rfl
  case hy_3 => (intro w _; go_simp; try with_reducible rfl)
  try simp only [Act.put, List.setIfInBounds_toArray, List.set_cons_zero, List.set_cons_succ]
  refine anyZ_free (i := 3) (oi := ?oi_4) (v := ?v_4) ?hi_4 ?hs_4 ?hf_4 ?hr_4 ?hQ_4 (Or.inl ⟨?hw_4, ?hy_4⟩) ?hrest_4
  case hi_4 => (simp only [List.getElem?_toArray, List.getElem?_cons_succ, List.getElem?_cons_zero]; exact rfl)
  case hs_4 => kernel_rfl
  case hf_4 => kernel_rfl
  case hr_4 => kernel_rfl
  case hQ_4 => exact fun _ _ _ h => h
  case hw_4 => rfl
  case hy_4 => (intro w _; go_simp; try with_reducible rfl)
  try simp only [Act.put, List.setIfInBounds_toArray, List.set_cons_zero, List.set_cons_succ]
  refine anyZ_free (i := 4) (oi := ?oi_5) (v := ?v_5) ?hi_5 ?hs_5 ?hf_5 ?hr_5 ?hQ_5 (Or.inl ⟨?hw_5, ?hy_5⟩) ?hrest_5
  case hi_5 => (simp only [List.getElem?_toArray, List.getElem?_cons_succ, List.getElem?_cons_zero]; exact rfl)
  case hs_5 => kernel_rfl
  case hf_5 => kernel_rfl
  case hr_5 => kernel_rfl
  case hQ_5 => exact fun _ _ _ h => h
  case hw_5 => rfl
  case hy_5 => (intro w _; go_simp; try with_reducible rfl)
  try simp only [Act.put, List.setIfInBounds_toArray, List.set_cons_zero, List.set_cons_succ]
  refine anyZ_free (i := 5) (oi := ?oi_6) (v := ?v_6) ?hi_6 ?hs_6 ?hf_6 ?hr_6 ?hQ_6 (Or.inl ⟨?hw_6, ?hy_6⟩) ?hrest_6
  case hi_6 => (simp only [List.getElem?_toArray, List.getElem?_cons_succ, List.getElem?_cons_zero]; exact rfl)
  case hs_6 => kernel_rfl
  case hf_6 => kernel_rfl
  case hr_6 => kernel_rfl
  case hQ_6 => exact fun _ _ _ h => h
  case hw_6 => rfl
  case hy_6 => (intro w _; go_simp; try with_reducible rfl)
  try simp only [Act.put, List.setIfInBounds_toArray, List.set_cons_zero, List.set_cons_succ]
  refine anyZ_free (i := 6) (oi := ?oi_7) (v := ?v_7) ?hi_7 ?hs_7 ?hf_7 ?hr_7 ?hQ_7 (Or.inl ⟨?hw_7, ?hy_7⟩) ?hrest_7
  case hi_7 => (simp only [List.getElem?_toArray, List.getElem?_cons_succ, List.getElem?_cons_zero]; exact rfl)
  case hs_7 => kernel_rfl
  case hf_7 => kernel_rfl
  case hr_7 => kernel_rfl
  case hQ_7 => exact fun _ _ _ h => h
  case hw_7 => rfl
  case hy_7 => (intro w _; go_simp; try with_reducible rfl)
  try simp only [Act.put, List.setIfInBounds_toArray, List.set_cons_zero, List.set_cons_succ]
  refine anyZ_take (i := 7) (oi := ?oi_8) (v := ?v_8) ?hi_8 ?hz_8 ?hs_8 ?hf_8 ?hr_8 ?hQ_8 (Or.inl ⟨?hw_8, ?hy_8⟩) ?hS_8 ?hrest_8
  case hi_8 => (simp only [List.getElem?_toArray, List.getElem?_cons_succ, List.getElem?_cons_zero]; exact rfl)
  case hz_8 => kernel_rfl
  case hs_8 => kernel_rfl
  case hf_8 => kernel_rfl
  case hr_8 => kernel_rfl
  case hQ_8 => exact fun _ _ _ h => h
  case hw_8 => rfl
  case hS_8 => assumption
  case hy_8 => (intro w hSw; (try dsimp only at hSw); go_simp; try with_reducible rfl)
  try simp only [Act.put, List.setIfInBounds_toArray, List.set_cons_zero, List.set_cons_succ]
  refine anyZ_free (i := 8) (oi := ?oi_9) (v := ?v_9) ?hi_9 ?hs_9 ?hf_9 ?hr_9 ?hQ_9 (Or.inl ⟨?hw_9, ?hy_9⟩) ?hrest_9
  case hi_9 => (simp only [List.getElem?_toArray, List.getElem?_cons_succ, List.getElem?_cons_zero]; exact rfl)
  case hs_9 => kernel_rfl
  case hf_9 => kernel_rfl
  case hr_9 => kernel_rfl
  case hQ_9 => exact fun _ _ _ h => h
  case hw_9 => rfl
  case hy_9 => (intro w _; go_simp; try with_reducible rfl)
  try simp only [Act.put, List.setIfInBounds_toArray, List.set_cons_zero, List.set_cons_succ]
  refine anyZ_take (i := 9) (oi := ?oi_10) (v := ?v_10) ?hi_10 ?hz_10 ?hs_10 ?hf_10 ?hr_10 ?hQ_10 (Or.inl ⟨?hw_10, ?hy_10⟩) ?hS_10 ?hrest_10
  case hi_10 => (simp only [List.getElem?_toArray, List.getElem?_cons_succ, List.getElem?_cons_zero]; exact rfl)
  case hz_10 => kernel_rfl
  case hs_10 => kernel_rfl
  case hf_10 => kernel_rfl
  case hr_10 => kernel_rfl
  case hQ_10 => exact fun _ _ _ h => h
  case hw_10 => rfl
  case hS_10 => assumption
  case hy_10 => (intro w hSw; (try dsimp only at hSw); go_simp; try with_reducible rfl)
  try simp only [Act.put, List.setIfInBounds_toArray, List.set_cons_zero, List.set_cons_succ]
  refine anyZ_free (i := 10) (oi := ?oi_11) (v := ?v_11) ?hi_11 ?hs_11 ?hf_11 ?hr_11 ?hQ_11 (Or.inl ⟨?hw_11, ?hy_11⟩) ?hrest_11
  case hi_11 => (simp only [List.getElem?_toArray, List.getElem?_cons_succ, List.getElem?_cons_zero]; exact rfl)
  case hs_11 => kernel_rfl
  case hf_11 => kernel_rfl
  case hr_11 => kernel_rfl
  case hQ_11 => exact fun _ _ _ h => h
  case hw_11 => rfl
  case hy_11 => (intro w _; go_simp; try with_reducible rfl)
  try simp only [Act.put, List.setIfInBounds_toArray, List.set_cons_zero, List.set_cons_succ]
  refine anyZ_free (i := 11) (oi := ?oi_12) (v := ?v_12) ?hi_12 ?hs_12 ?hf_12 ?hr_12 ?hQ_12 (Or.inl ⟨?hw_12, ?hy_12⟩) ?hrest_12
  case hi_12 => (simp only [List.getElem?_toArray, List.getElem?_cons_succ, List.getElem?_cons_zero]; exact rfl)
  case hs_12 => kernel_rfl
  case hf_12 => kernel_rfl
  case hr_12 => kernel_rfl
  case hQ_12 => exact fun _ _ _ h => h
  case hw_12 => rfl
  case hy_12 => (intro w _; go_simp; try with_reducible rfl)
  try simp only [Act.put, List.setIfInBounds_toArray, List.set_cons_zero, List.set_cons_succ]
  refine anyZ_free (i := 12) (oi := ?oi_13) (v := ?v_13) ?hi_13 ?hs_13 ?hf_13 ?hr_13 ?hQ_13 (Or.inl ⟨?hw_13, ?hy_13⟩) ?hrest_13
  case hi_13 => (simp only [List.getElem?_toArray, List.getElem?_cons_succ, List.getElem?_cons_zero]; exact rfl)
  case hs_13 => kernel_rfl
  case hf_13 => kernel_rfl
  case hr_13 => kernel_rfl
  case hQ_13 => exact fun _ _ _ h => h
  case hw_13 => rfl
  case hy_13 => (intro w _; go_simp; try with_reducible rfl)
  try simp only [Act.put, List.setIfInBounds_toArray, List.set_cons_zero, List.set_cons_succ]
  refine anyZ_free (i := 13) (oi := ?oi_14) (v := ?v_14) ?hi_14 ?hs_14 ?hf_14 ?hr_14 ?hQ_14 (Or.inl ⟨?hw_14, ?hy_14⟩) ?hrest_14
  case hi_14 => (simp only [List.getElem?_toArray, List.getElem?_cons_succ, List.getElem?_cons_zero]; exact rfl)
  case hs_14 => kernel_rfl
  case hf_14 => kernel_rfl
  case hr_14 => kernel_rfl
  case hQ_14 => exact fun _ _ _ h => h
  case hw_14 => rfl
  case hy_14 => (intro w _; go_simp; try with_reducible rfl)
  try simp only [Act.put, List.setIfInBounds_toArray, List.set_cons_zero, List.set_cons_succ]
  refine anyZ_ready (rs := [14]) (by kernel_rfl) (by simp) ?_
  refine (AllZ.cons (o := ?o_15) ?ho_15 (fun K hK => ?st_15) AllZ.nil)
  case ho_15 => (simp only [List.getElem?_toArray, List.getElem?_cons_succ, List.getElem?_cons_zero]; exact rfl)
  case st_15 =>
    go_simp
    (go_at_call 17; with_reducible refine cb1.mono ?_; rintro e W2 ⟨g2, d2, rfl, lg2, t2, hd2, hv2, b2⟩; have e2 := v2 W2 g2 d2 t2 hd2 hv2)
    refine hK.out _ _ (by ((try dsimp only); (first | exact vk.out _ ((Below.refl _ _).drew) | exact vk.out _ (((Below.refl _ _).drew).trans b2)))) (fun hHeld => ?_)
    clear hK K
    try simp only [Act.put, List.setIfInBounds_toArray, List.set_cons_zero, List.set_cons_succ]
    refine anyZ_ready (rs := [15]) (by kernel_rfl) (by simp) ?_
    refine (AllZ.cons (o := ?o_16) ?ho_16 (fun K hK => ?st_16) AllZ.nil)
    case ho_16 => (simp only [List.getElem?_toArray, List.getElem?_cons_succ, List.getElem?_cons_zero]; exact rfl)
    case st_16 =>
      go_simp
      refine hK.out _ _ (by ((try dsimp only); (first | exact vk.out _ ((Below.refl _ _).drew) | exact vk.out _ (((Below.refl _ _).drew).trans b2)))) (fun hHeld => ?_)
      clear hK K
      try simp only [Act.put, List.setIfInBounds_toArray, List.set_cons_zero, List.set_cons_succ]
      refine anyZ_free (i := 16) (oi := ?oi_17) (v := ?v_17) ?hi_17 ?hs_17 ?hf_17 ?hr_17 ?hQ_17 (Or.inl ⟨?hw_17, ?hy_17⟩) ?hrest_17
      case hi_17 => (simp only [List.getElem?_toArray, List.getElem?_cons_succ, List.getElem?_cons_zero]; exact rfl)
      case hs_17 => kernel_rfl
      case hf_17 => kernel_rfl
      case hr_17 => kernel_rfl
      case hQ_17 => exact fun _ _ _ h => h
      case hw_17 => rfl
      case hy_17 => (intro w _; go_simp; try with_reducible rfl)
      try simp only [Act.put, List.setIfInBounds_toArray, List.set_cons_zero, List.set_cons_succ]
      refine anyZ_free (i := 17) (oi := ?oi_18) (v := ?v_18) ?hi_18 ?hs_18 ?hf_18 ?hr_18 ?hQ_18 (Or.inl ⟨?hw_18, ?hy_18⟩) ?hrest_18
      case hi_18 => (simp only [List.getElem?_toArray, List.getElem?_cons_succ, List.getElem?_cons_zero]; exact rfl)
      case hs_18 => kernel_rfl
      case hf_18 => kernel_rfl
      case hr_18 => kernel_rfl
      case hQ_18 => exact fun _ _ _ h => h
      case hw_18 => rfl
      case hy_18 => (intro w _; go_simp; try with_reducible rfl)
      try simp only [Act.put, List.setIfInBounds_toArray, List.set_cons_zero, List.set_cons_succ]
      refine anyZ_free (i := 18) (oi := ?oi_19) (v := ?v_19) ?hi_19 ?hs_19 ?hf_19 ?hr_19 ?hQ_19 (Or.inl ⟨?hw_19, ?hy_19⟩) ?hrest_19
      case hi_19 => (simp only [List.getElem?_toArray, List.getElem?_cons_succ, List.getElem?_cons_zero]; exact rfl)
      case hs_19 => kernel_rfl
      case hf_19 => kernel_rfl
      case hr_19 => kernel_rfl
      case hQ_19 => exact fun _ _ _ h => h
      case hw_19 => rfl
      case hy_19 => (intro w _; go_simp; try with_reducible rfl)
      try simp only [Act.put, List.setIfInBounds_toArray, List.set_cons_zero, List.set_cons_succ]
      refine anyZ_free (i := 19) (oi := ?oi_20) (v := ?v_20) ?hi_20 ?hs_20 ?hf_20 ?hr_20 ?hQ_20 (Or.inl ⟨?hw_20, ?hy_20⟩) ?hrest_20
      case hi_20 => (simp only [List.getElem?_toArray, List.getElem?_cons_succ, List.getElem?_cons_zero]; exact rfl)
      case hs_20 => kernel_rfl
      case hf_20 => kernel_rfl
      case hr_20 => kernel_rfl
      case hQ_20 => exact fun _ _ _ h => h
      case hw_20 => rfl
      case hy_20 => (intro w _; go_simp; try with_reducible rfl)
      try simp only [Act.put, List.setIfInBounds_toArray, List.set_cons_zero, List.set_cons_succ]
      refine anyZ_done (by kernel_rfl) ?_ _
      refine NoPanic.normal ?_
      have hB2 : Below w.heap.size w W2 := below_via b2 hBd l3
      clear v2 vk hHeld t2 hd2 hv2 e2 cb1
      go_wp2
      go_ret
      exact ⟨rfl, hB2⟩

theorem cipherSeals_walk (a : Option Addr) (n c : Nat) (zs : List Int) (b : Option Addr) (m d : Nat) (ys : List Int) (a1 : Option Addr) (n1 c1 : Nat) (zs1 : List Int) (a2 : Option Addr) (n2 c2 : Nat) (zs2 : List Int) (w : World) (h : IsRow .u8 w a n c zs) (h2 : IsRow .u8 w b m d ys) (h3 : IsRow .u8 w a1 n1 c1 zs1) (h4 : IsRow .u8 w a2 n2 c2 zs2) (hT : Tabs w) :
    Calls Tryd.prog 5 #[.slice a n c, .slice b m d, .slice a1 n1 c1, .slice a2 n2 c2] w fun e w' => e = .returned (.bool true) ∧ Below w.heap.size w w' := by
  obtain ⟨z, hz, hS, g1, _⟩ := src_of_isRow h
  obtain ⟨y, hy, hS2, g2, _⟩ := src_of_isRow h2
  obtain ⟨z1, hz1, hS3, _, _⟩ := src_of_isRow h3
  obtain ⟨z2, hz2, hS4, _, _⟩ := src_of_isRow h4
  have hu := upW w hT
  by_cases hl : n1 ≤ 1000 ∧ n2 ≤ 1000
  · by_cases hok : n = 32 ∧ m = 12
    · obtain ⟨rfl, rfl⟩ := hok
      obtain ⟨b1, o1, rfl, y1⟩ := hS.some (by decide)
      obtain ⟨b2, o2, rfl, y2⟩ := hS2.some (by decide)
      exact seals_yes b1 o1 c b2 o2 d c1 n1 c2 n2 g1 g2 hl.1 hl.2 z y z1 z2 hz hy hz1 hz2 a1 a2 w hT y1 y2 hS3 hS4 hu
    · exact seals_no a b a1 a2 n m c d n1 c1 n2 c2 hl.1 hl.2 hok w hu
  · exact seals_long a b a1 a2 n m c d n1 c1 n2 c2 hl w hu
end Go.Proofs.YtdaonbfdcpkipaaDoor
