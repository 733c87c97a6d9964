/-
  CipherOpens, walked.
-/
import Derived.Test.YtdaonbfdcpkipaaDoorJ10
import Derived.Test.YtdaonbfdcpkipaaDoorJ9
namespace Go.Proofs.YtdaonbfdcpkipaaDoor
open Go.RowKit Go.Proofs
set_option linter.unusedVariables false
set_option linter.unusedSimpArgs false
attribute [local go_sem ↓] Go.wp_at_zero Go.wp_at_succ

set_option maxHeartbeats 2000000 in
theorem opens_long (a b a1 a2 : Option Addr) (n m c d n1 c1 n2 c2 : Nat) (h : ¬ (n1 ≤ 1000 ∧ n2 ≤ 1000)) (w : World)
    (c0 : Calls Tryd.prog 9 #[] w fun e w' => e = .returned (.bool true) ∧ Below w.heap.size w w') :
    Calls Tryd.prog 6 #[.slice a n c, .slice b m d, .slice a1 n1 c1, .slice a2 n2 c2] w fun e w' => e = .returned (.bool true) ∧ Below w.heap.size w w' := by
  by_cases h1 : 1000 < n1
  · have g1 : (1000 : Int) < (n1 : Int) := by omega
    clear h
    go_enter Tryd.func6, Tryd.ntmps6
    go_wp2_with (go_at_call 9; with_reducible refine c0.mono ?_; rintro e W0 ⟨rfl, b0⟩)
    go_ret
    exact ⟨rfl, b0⟩
  · have g1 : ¬ (1000 : Int) < (n1 : Int) := by omega
    have g2 : (1000 : Int) < (n2 : Int) := by omega
    clear h
    go_enter Tryd.func6, Tryd.ntmps6
    go_wp2_with (go_at_call 9; with_reducible refine c0.mono ?_; rintro e W0 ⟨rfl, b0⟩)
    go_ret
    exact ⟨rfl, b0⟩
set_option maxHeartbeats 2000000 in
theorem opens_no (a b a1 a2 : Option Addr) (n m c d n1 c1 n2 c2 : Nat) (hn1 : n1 ≤ 1000) (hn2 : n2 ≤ 1000) (h : ¬ (n = 32 ∧ m = 12)) (w : World)
    (c0 : Calls Tryd.prog 9 #[] w fun e w' => e = .returned (.bool true) ∧ Below w.heap.size w w') :
    Calls Tryd.prog 6 #[.slice a n c, .slice b m d, .slice a1 n1 c1, .slice a2 n2 c2] w fun e w' => e = .returned (.bool true) ∧ Below w.heap.size w w' := by
  have cs := openBad a b n m c d h (.slice a1 n1 c1) (.slice a2 n2 c2)
  have cf := fitsNo a b n m c d h
  have g1 : ¬ (1000 : Int) < (n1 : Int) := by omega
  have g2 : ¬ (1000 : Int) < (n2 : Int) := by omega
  have ec : ∀ w, (binOp .eql 26 (.iface 30 (.int .i64 1)) (.iface 30 (.int .i64 1))).run Tryd.prog w = .ok (.bool true) w := fun w => eql_code w 1 1
  clear h hn1 hn2
  go_enter Tryd.func6, Tryd.ntmps6
  go_wp2_with (first | (go_at_call 9; with_reducible refine c0.mono ?_; rintro e W0 ⟨rfl, b0⟩) | (go_at_call 18; with_reducible refine (cs _).mono ?_; rintro e W1 ⟨rfl, rfl⟩) | (go_at_call 11; with_reducible refine (cf _).mono ?_; rintro e W2 ⟨rfl, rfl⟩))
  go_ret
  exact ⟨rfl, b0⟩

set_option maxHeartbeats 2000000 in
theorem opens_short (a b a1 a3 : Option Addr) (c d n1 c1 n c3 : Nat) (hn1 : n1 ≤ 1000) (hn : n < 16) (w : World)
    (c0 : Calls Tryd.prog 9 #[] w fun e w' => e = .returned (.bool true) ∧ Below w.heap.size w w') :
    Calls Tryd.prog 6 #[.slice a 32 c, .slice b 12 d, .slice a1 n1 c1, .slice a3 n c3] w fun e w' => e = .returned (.bool true) ∧ Below w.heap.size w w' := by
  have cs := openShort a b a3 c d n c3 hn (.slice a1 n1 c1)
  have cf := fitsYes a b c d
  have g1 : ¬ (1000 : Int) < (n1 : Int) := by omega
  have g2 : ¬ (1000 : Int) < (n : Int) := by omega
  obtain ⟨k, hk, ek⟩ : ∃ k : Int, k < 0 ∧ IntKind.i64.wrap ((n : Int) - 16) = k := ⟨(n : Int) - 16, by omega, by rw [IntKind.wrap_i64]; omega⟩
  have ec : ∀ w, (binOp .eql 26 (.iface 30 (.int .i64 6)) (.iface 30 (.int .i64 6))).run Tryd.prog w = .ok (.bool true) w := fun w => eql_code w 6 6
  clear hn1 hn
  go_enter Tryd.func6, Tryd.ntmps6
  go_upto_region 9 with (first | (go_at_call 9; with_reducible refine c0.mono ?_; rintro e W0 ⟨rfl, b0⟩) | (go_at_call 18; with_reducible refine (cs _).mono ?_; rintro e W1 ⟨rfl, rfl⟩) | (go_at_call 11; with_reducible refine (cf _).mono ?_; rintro e W2 ⟨rfl, rfl⟩))
  go_quiet (fail)
  go_wp2
  go_ret
  exact ⟨rfl, below_drewN b0 _⟩

set_option maxHeartbeats 4000000 in
theorem opens_bad (kb ko kc nb no nc c1 n1 sb so c3 n : Nat) (hkc : 32 ≤ kc) (hnc : 12 ≤ nc) (hc3 : n + 16 ≤ c3) (hn1 : n1 ≤ 1000) (hn : n + 16 ≤ 1000) (zk zn z1 y : Nat → Nat) (hzk : ∀ i, zk i < 256) (hzn : ∀ i, zn i < 256) (hz1 : ∀ i, z1 i < 256) (hy : ∀ i, y i < 256) (a1 : Option Addr) (w : World) (hT : Tabs w) (hK : Bys w kb ko 32 zk) (hNn : Bys w nb no 12 zn) (hS1 : Src w a1 n1 z1) (hS3 : Bys w sb so (n + 16) y) (hop : ¬ Opens zk zn z1 n1 y n)
    (c0 : Calls Tryd.prog 9 #[] w fun e w' => e = .returned (.bool true) ∧ Below w.heap.size w w') :
    Calls Tryd.prog 6 #[.slice (some ⟨kb, ko, none⟩) 32 kc, .slice (some ⟨nb, no, none⟩) 12 nc, .slice a1 n1 c1, .slice (some ⟨sb, so, none⟩) (n + 16) c3] w fun e w' => e = .returned (.bool true) ∧ Below w.heap.size w w' := by
  have co : ∀ (W : World), Below w.heap.size w W → Calls Tryd.prog 18 #[.slice (some ⟨kb, ko, none⟩) 32 kc, .slice (some ⟨nb, no, none⟩) 12 nc, .slice a1 n1 c1, .slice (some ⟨sb, so, none⟩) (n + 16) c3] W fun e w' => e = .returned (.tuple #[.slice none 0 0, .iface 30 (.int .i64 6)]) ∧ Below W.heap.size W w' := fun W hb =>
    (open_core kb ko kc nb no nc c1 n1 sb so c3 n hkc hnc hc3 zk zn z1 y hzk hzn hz1 hy (by omega) (by omega) a1 W (hT.on hb) (hK.below hb hK.lt) (hNn.below hb hNn.lt) (hS1.below hb) (hS3.below hb hS3.lt)).mono fun e w' h => by
      rcases h with ⟨h, _⟩ | ⟨_, he, hB⟩
      · exact absurd h hop
      · exact ⟨he, hB⟩
  have cf := fitsYes (some ⟨kb, ko, none⟩) (some ⟨nb, no, none⟩) kc nc
  have cb : ∀ (W : World), Below w.heap.size w W → Calls Tryd.prog 17 #[.slice (some ⟨kb, ko, none⟩) 32 kc, .slice (some ⟨nb, no, none⟩) 12 nc, .slice a1 n1 c1, .slice (some ⟨sb, so, none⟩) n c3] W fun e w' => ∃ g d, e = .returned (.slice (some ⟨g, 0, none⟩) 16 16) ∧ W.heap.size ≤ g ∧ Arr w' .u8 g 16 d ∧ (∀ i, d i < 256) ∧ Ob.valD d 16 = Ob.sealN zk zn z1 n1 y n ∧ Below W.heap.size W w' := fun W hb =>
    rboth_core kb ko kc nb no nc c1 n1 c3 n zk zn z1 y hzk hzn hz1 hy (by omega) (by omega) a1 (some ⟨sb, so, none⟩) W (hK.below hb hK.lt) (hNn.below hb hNn.lt) (hS1.below hb) (Or.inr ⟨sb, so, rfl, (hS3.below hb hS3.lt).less (by omega)⟩)
  have hstr : Hid (∀ W, Below w.heap.size w W → (convert 22 9 (.slice (some ⟨sb, so + n, none⟩) 16 (c3 - n))).run Tryd.prog W = .ok (.string (bst (fun i => y (n + i)) 16)) W) := fun W hb => bys_str sb (so + n) 16 (c3 - n) _ W ((hS3.below hb hS3.lt).more n 16 (Nat.le_refl _))
  have hVl : Hid (Ob.sealN zk zn z1 n1 y n < 256 ^ 16) := Ob.markN_lt _ _ _
  have hne : ((bst (Ob.lenD (Ob.sealN zk zn z1 n1 y n)) 16).toList == (bst (fun i => y (n + i)) 16).toList) = false := by
    unfold bst
    rw [Lib.strOfNums_toList, Lib.strOfNums_toList]
    exact eqb_no (fun i _ => Ob.lenD_lt _ i) (fun i _ => hy _) (fun h => hop fun i hi => (h i hi).symm)
  have ec : ∀ w, (binOp .eql 26 (.iface 30 (.int .i64 6)) (.iface 30 (.int .i64 6))).run Tryd.prog w = .ok (.bool true) w := fun w => eql_code w 6 6
  obtain ⟨V, hV⟩ : ∃ D, Hid (Ob.sealN zk zn z1 n1 y n = D) := ⟨_, rfl⟩
  rw [hV.out] at cb hVl hne
  have v2 : ∀ (W : World) (g : Nat) (d : Nat → Nat), Arr W .u8 g 16 d → (∀ i, d i < 256) → Ob.valD d 16 = V → (convert 22 9 (.slice (some ⟨g, 0, none⟩) 16 16)).run Tryd.prog W = .ok (.string (bst (Ob.lenD V) 16)) W := fun W g d ht hd hv => by
    have := bys_str g 0 16 16 d W ht.bys8
    rw [← bst_congr (Ob.mark_digits hd hVl.out hv)]
    exact this
  generalize bst (Ob.lenD V) 16 = SV at *
  generalize bst (fun i => y (n + i)) 16 = SY at *
  obtain ⟨m, hm⟩ : ∃ m, Hid (n + 16 = m) := ⟨_, rfl⟩
  rw [hm.out] at co ⊢
  have g1 : ¬ (1000 : Int) < (n1 : Int) := by omega
  have g2 : ¬ (1000 : Int) < (m : Int) := by have := hm.out; omega
  have i1 : IntKind.i64.wrap ((m : Int) - 16) = (n : Int) := by rw [IntKind.wrap_i64]; have := hm.out; omega
  have i2 : (0 : Int) ≤ (n : Int) := by omega
  have i9 : ¬ (n : Int) < 0 := by omega
  have i3 : (n : Int) ≤ (m : Int) := by have := hm.out; omega
  have i4 : (m : Int) ≤ (c3 : Int) := by have := hm.out; omega
  have i5 : (n : Int) ≤ (c3 : Int) := by omega
  have i6 : c3 ≠ n := by omega
  have i7 : m - n = 16 := by have := hm.out; omega
  have i8 : n ≤ m := by have := hm.out; omega
  clear hV hT hK hNn hS1 hS3 hzk hzn hz1 hy hn1 hn hop hc3
  go_enter Tryd.func6, Tryd.ntmps6
  go_upto_region 9 with (first | (go_at_call 9; with_reducible refine c0.mono ?_; rintro e W0 ⟨rfl, b0'⟩) | (go_at_call 18; with_reducible refine (co _ b0').mono ?_; rintro e W1 ⟨rfl, b1⟩) | (go_at_call 11; with_reducible refine (cf _).mono ?_; rintro e W2 ⟨rfl, rfl⟩))
  have hB1 : Below w.heap.size w W1 := below_via b1 b0' b0'.size
  have l1 := hB1.size
  have hBd : Below w.heap.size w W1.drew := hB1.drew
  have cb1 := cb _ hBd
  clear co cf c0 cb b1 b0'
  refine wp_region_noPanic ?_
  refine region_lastly (S := (fun w' => (convert 22 9 (.slice (some ⟨sb, so + n, none⟩) 16 (c3 - n))).run Tryd.prog w' = .ok (.string SY) w')) [] (by kernel_rfl) (by ((try dsimp only); (first | exact hstr.out _ hBd | exact hstr.out _ (below_via b2 hBd l1)))) (fun hHeld => ?_)
  refine anyZ_free (i := 0) (oi := ?oi_1) (v := ?v_1) ?hi_1 ?hs_1 ?hf_1 ?hr_1 ?hQ_1 (Or.inl ⟨?hw_1, ?hy_1⟩) ?hrest_1
  case hi_1 => (simp only [List.getElem?_toArray, List.getElem?_cons_succ, List.getElem?_cons_zero]; exact rfl)
  case hs_1 => kernel_rfl
  case hf_1 => kernel_rfl
  case hr_1 => kernel_rfl
  case hQ_1 => exact fun _ _ _ h => h
  case hw_1 => rfl
  case hy_1 => (intro w _; go_simp; try with_reducible rfl)
  try simp only [Act.put, List.setIfInBounds_toArray, List.set_cons_zero, List.set_cons_succ]
  refine anyZ_free (i := 1) (oi := ?oi_2) (v := ?v_2) ?hi_2 ?hs_2 ?hf_2 ?hr_2 ?hQ_2 (Or.inl ⟨?hw_2, ?hy_2⟩) ?hrest_2
  case hi_2 => (simp only [List.getElem?_toArray, List.getElem?_cons_succ, List.getElem?_cons_zero]; exact rfl)
  case hs_2 => kernel_rfl
  case hf_2 => kernel_rfl
  case hr_2 => kernel_rfl
  case hQ_2 => exact fun _ _ _ h => h
  case hw_2 => rfl
  case hy_2 => (intro w _; go_simp; try with_reducible rfl)
  try simp only [Act.put, List.setIfInBounds_toArray, List.set_cons_zero, List.set_cons_succ]
  refine anyZ_free (i := 2) (oi := ?oi_3) (v := ?v_3) ?hi_3 ?hs_3 ?hf_3 ?hr_3 ?hQ_3 (Or.inl ⟨?hw_3, ?hy_3⟩) ?hrest_3
  case hi_3 => (simp only [List.getElem?_toArray, List.getElem?_cons_succ, List.getElem?_cons_zero]; exact rfl)
  case hs_3 => kernel_rfl
  case hf_3 => kernel_rfl
  case hr_3 => kernel_rfl
  case hQ_3 => exact fun _ _ _ h => h
  case hw_3 => rfl
  case hy_3 => (intro w _; go_simp; try with_reducible rfl)
  try simp only [Act.put, List.setIfInBounds_toArray, List.set_cons_zero, List.set_cons_succ]
  refine anyZ_free (i := 3) (oi := ?oi_4) (v := ?v_4) ?hi_4 ?hs_4 ?hf_4 ?hr_4 ?hQ_4 (Or.inl ⟨?hw_4, ?hy_4⟩) ?hrest_4
  case hi_4 => (simp only [List.getElem?_toArray, List.getElem?_cons_succ, List.getElem?_cons_zero]; exact rfl)
  case hs_4 => kernel_rfl
  case hf_4 => kernel_rfl
  case hr_4 => kernel_rfl
  case hQ_4 => exact fun _ _ _ h => h
  case hw_4 => rfl
  case hy_4 => (intro w _; go_simp; try with_reducible rfl)
  try simp only [Act.put, List.setIfInBounds_toArray, List.set_cons_zero, List.set_cons_succ]
  refine anyZ_free (i := 4) (oi := ?oi_5) (v := ?v_5) ?hi_5 ?hs_5 ?hf_5 ?hr_5 ?hQ_5 (Or.inl ⟨?hw_5, ?hy_5⟩) ?hrest_5
  case hi_5 => (simp only [List.getElem?_toArray, List.getElem?_cons_succ, List.getElem?_cons_zero]; exact rfl)
  case hs_5 => kernel_rfl
  case hf_5 => kernel_rfl
  case hr_5 => kernel_rfl
  case hQ_5 => exact fun _ _ _ h => h
  case hw_5 => rfl
  case hy_5 => (intro w _; go_simp; try with_reducible rfl)
  try simp only [Act.put, List.setIfInBounds_toArray, List.set_cons_zero, List.set_cons_succ]
  refine anyZ_free (i := 5) (oi := ?oi_6) (v := ?v_6) ?hi_6 ?hs_6 ?hf_6 ?hr_6 ?hQ_6 (Or.inl ⟨?hw_6, ?hy_6⟩) ?hrest_6
  case hi_6 => (simp only [List.getElem?_toArray, List.getElem?_cons_succ, List.getElem?_cons_zero]; exact rfl)
  case hs_6 => kernel_rfl
  case hf_6 => kernel_rfl
  case hr_6 => kernel_rfl
  case hQ_6 => exact fun _ _ _ h => h
  case hw_6 => rfl
  case hy_6 => (intro w _; go_simp; try with_reducible rfl)
  try simp only [Act.put, List.setIfInBounds_toArray, List.set_cons_zero, List.set_cons_succ]
  refine anyZ_free (i := 6) (oi := ?oi_7) (v := ?v_7) ?hi_7 ?hs_7 ?hf_7 ?hr_7 ?hQ_7 (Or.inl ⟨?hw_7, ?hy_7⟩) ?hrest_7
  case hi_7 => (simp only [List.getElem?_toArray, List.getElem?_cons_succ, List.getElem?_cons_zero]; exact rfl)
  case hs_7 => kernel_rfl
  case hf_7 => kernel_rfl
  case hr_7 => kernel_rfl
  case hQ_7 => exact fun _ _ _ h => h
  case hw_7 => rfl
  case hy_7 => (intro w _; go_simp; try with_reducible rfl)
  try simp only [Act.put, List.setIfInBounds_toArray, List.set_cons_zero, List.set_cons_succ]
  refine anyZ_free (i := 7) (oi := ?oi_8) (v := ?v_8) ?hi_8 ?hs_8 ?hf_8 ?hr_8 ?hQ_8 (Or.inl ⟨?hw_8, ?hy_8⟩) ?hrest_8
  case hi_8 => (simp only [List.getElem?_toArray, List.getElem?_cons_succ, List.getElem?_cons_zero]; exact rfl)
  case hs_8 => kernel_rfl
  case hf_8 => kernel_rfl
  case hr_8 => kernel_rfl
  case hQ_8 => exact fun _ _ _ h => h
  case hw_8 => rfl
  case hy_8 => (intro w _; go_simp; try with_reducible rfl)
  try simp only [Act.put, List.setIfInBounds_toArray, List.set_cons_zero, List.set_cons_succ]
  refine anyZ_free (i := 8) (oi := ?oi_9) (v := ?v_9) ?hi_9 ?hs_9 ?hf_9 ?hr_9 ?hQ_9 (Or.inl ⟨?hw_9, ?hy_9⟩) ?hrest_9
  case hi_9 => (simp only [List.getElem?_toArray, List.getElem?_cons_succ, List.getElem?_cons_zero]; exact rfl)
  case hs_9 => kernel_rfl
  case hf_9 => kernel_rfl
  case hr_9 => kernel_rfl
  case hQ_9 => exact fun _ _ _ h => h
  case hw_9 => rfl
  case hy_9 => (intro w _; go_simp; try with_reducible rfl)
  try simp only [Act.put, List.setIfInBounds_toArray, List.set_cons_zero, List.set_cons_succ]
  refine anyZ_free (i := 11) (oi := ?oi_10) (v := ?v_10) ?hi_10 ?hs_10 ?hf_10 ?hr_10 ?hQ_10 (Or.inl ⟨?hw_10, ?hy_10⟩) ?hrest_10
  case hi_10 => (simp only [List.getElem?_toArray, List.getElem?_cons_succ, List.getElem?_cons_zero]; exact rfl)
  case hs_10 => kernel_rfl
  case hf_10 => kernel_rfl
  case hr_10 => kernel_rfl
  case hQ_10 => exact fun _ _ _ h => h
  case hw_10 => rfl
  case hy_10 => (intro w _; go_simp; try with_reducible rfl)
  try simp only [Act.put, List.setIfInBounds_toArray, List.set_cons_zero, List.set_cons_succ]
  refine anyZ_free (i := 12) (oi := ?oi_11) (v := ?v_11) ?hi_11 ?hs_11 ?hf_11 ?hr_11 ?hQ_11 (Or.inl ⟨?hw_11, ?hy_11⟩) ?hrest_11
  case hi_11 => (simp only [List.getElem?_toArray, List.getElem?_cons_succ, List.getElem?_cons_zero]; exact rfl)
  case hs_11 => kernel_rfl
  case hf_11 => kernel_rfl
  case hr_11 => kernel_rfl
  case hQ_11 => exact fun _ _ _ h => h
  case hw_11 => rfl
  case hy_11 => (intro w _; go_simp; try with_reducible rfl)
  try simp only [Act.put, List.setIfInBounds_toArray, List.set_cons_zero, List.set_cons_succ]
  refine anyZ_free (i := 13) (oi := ?oi_12) (v := ?v_12) ?hi_12 ?hs_12 ?hf_12 ?hr_12 ?hQ_12 (Or.inl ⟨?hw_12, ?hy_12⟩) ?hrest_12
  case hi_12 => (simp only [List.getElem?_toArray, List.getElem?_cons_succ, List.getElem?_cons_zero]; exact rfl)
  case hs_12 => kernel_rfl
  case hf_12 => kernel_rfl
  case hr_12 => kernel_rfl
  case hQ_12 => exact fun _ _ _ h => h
  case hw_12 => rfl
  case hy_12 => (intro w _; go_simp; try with_reducible rfl)
  try simp only [Act.put, List.setIfInBounds_toArray, List.set_cons_zero, List.set_cons_succ]
  refine anyZ_take (i := 14) (oi := ?oi_13) (v := ?v_13) ?hi_13 ?hz_13 ?hs_13 ?hf_13 ?hr_13 ?hQ_13 (Or.inl ⟨?hw_13, ?hy_13⟩) ?hS_13 ?hrest_13
  case hi_13 => (simp only [List.getElem?_toArray, List.getElem?_cons_succ, List.getElem?_cons_zero]; exact rfl)
  case hz_13 => kernel_rfl
  case hs_13 => kernel_rfl
  case hf_13 => kernel_rfl
  case hr_13 => kernel_rfl
  case hQ_13 => exact fun _ _ _ h => h
  case hw_13 => rfl
  case hS_13 => assumption
  case hy_13 => (intro w hSw; (try dsimp only at hSw); go_simp; try with_reducible rfl)
  try simp only [Act.put, List.setIfInBounds_toArray, List.set_cons_zero, List.set_cons_succ]
  refine anyZ_ready (rs := [9]) (by kernel_rfl) (by simp) ?_
  refine (AllZ.cons (o := ?o_14) ?ho_14 (fun K hK => ?st_14) AllZ.nil)
  case ho_14 => (simp only [List.getElem?_toArray, List.getElem?_cons_succ, List.getElem?_cons_zero]; exact rfl)
  case st_14 =>
    go_simp
    (go_at_call 17; with_reducible refine cb1.mono ?_; rintro e W2 ⟨g2, d2, rfl, lg2, t2, hd2, hv2, b2⟩; have e2 := v2 W2 g2 d2 t2 hd2 hv2)
    refine hK.out _ _ (by ((try dsimp only); (first | exact hstr.out _ hBd | exact hstr.out _ (below_via b2 hBd l1)))) (fun hHeld => ?_)
    clear hK K
    try simp only [Act.put, List.setIfInBounds_toArray, List.set_cons_zero, List.set_cons_succ]
    refine anyZ_ready (rs := [10]) (by kernel_rfl) (by simp) ?_
    refine (AllZ.cons (o := ?o_15) ?ho_15 (fun K hK => ?st_15) AllZ.nil)
    case ho_15 => (simp only [List.getElem?_toArray, List.getElem?_cons_succ, List.getElem?_cons_zero]; exact rfl)
    case st_15 =>
      go_simp
      refine hK.out _ _ (by ((try dsimp only); (first | exact hstr.out _ hBd | exact hstr.out _ (below_via b2 hBd l1)))) (fun hHeld => ?_)
      clear hK K
      try simp only [Act.put, List.setIfInBounds_toArray, List.set_cons_zero, List.set_cons_succ]
      refine anyZ_free (i := 15) (oi := ?oi_16) (v := ?v_16) ?hi_16 ?hs_16 ?hf_16 ?hr_16 ?hQ_16 (Or.inl ⟨?hw_16, ?hy_16⟩) ?hrest_16
      case hi_16 => (simp only [List.getElem?_toArray, List.getElem?_cons_succ, List.getElem?_cons_zero]; exact rfl)
      case hs_16 => kernel_rfl
      case hf_16 => kernel_rfl
      case hr_16 => kernel_rfl
      case hQ_16 => exact fun _ _ _ h => h
      case hw_16 => rfl
      case hy_16 => (intro w _; go_simp; try with_reducible rfl)
      try simp only [Act.put, List.setIfInBounds_toArray, List.set_cons_zero, List.set_cons_succ]
      refine anyZ_free (i := 16) (oi := ?oi_17) (v := ?v_17) ?hi_17 ?hs_17 ?hf_17 ?hr_17 ?hQ_17 (Or.inl ⟨?hw_17, ?hy_17⟩) ?hrest_17
      case hi_17 => (simp only [List.getElem?_toArray, List.getElem?_cons_succ, List.getElem?_cons_zero]; exact rfl)
      case hs_17 => kernel_rfl
      case hf_17 => kernel_rfl
      case hr_17 => kernel_rfl
      case hQ_17 => exact fun _ _ _ h => h
      case hw_17 => rfl
      case hy_17 => (intro w _; go_simp; try with_reducible rfl)
      try simp only [Act.put, List.setIfInBounds_toArray, List.set_cons_zero, List.set_cons_succ]
      refine anyZ_done (by kernel_rfl) ?_ _
      refine NoPanic.normal ?_
      have hB2 : Below w.heap.size w W2 := below_via b2 hBd l1
      clear v2 hstr hHeld t2 hd2 hv2 e2 cb1
      go_wp2
      go_ret
      exact ⟨rfl, hB2⟩

set_option maxHeartbeats 4000000 in
theorem opens_ok (kb ko kc nb no nc c1 n1 sb so c3 n : Nat) (hkc : 32 ≤ kc) (hnc : 12 ≤ nc) (hc3 : n + 16 ≤ c3) (hn1 : n1 ≤ 1000) (hn : n + 16 ≤ 1000) (zk zn z1 y : Nat → Nat) (hzk : ∀ i, zk i < 256) (hzn : ∀ i, zn i < 256) (hz1 : ∀ i, z1 i < 256) (hy : ∀ i, y i < 256) (a1 : Option Addr) (w : World) (hT : Tabs w) (hK : Bys w kb ko 32 zk) (hNn : Bys w nb no 12 zn) (hS1 : Src w a1 n1 z1) (hS3 : Bys w sb so (n + 16) y) (hop : Opens zk zn z1 n1 y n)
    (c0 : Calls Tryd.prog 9 #[] w fun e w' => e = .returned (.bool true) ∧ Below w.heap.size w w') :
    Calls Tryd.prog 6 #[.slice (some ⟨kb, ko, none⟩) 32 kc, .slice (some ⟨nb, no, none⟩) 12 nc, .slice a1 n1 c1, .slice (some ⟨sb, so, none⟩) (n + 16) c3] w fun e w' => e = .returned (.bool true) ∧ Below w.heap.size w w' := by
  have co : ∀ (W : World), Below w.heap.size w W → Calls Tryd.prog 18 #[.slice (some ⟨kb, ko, none⟩) 32 kc, .slice (some ⟨nb, no, none⟩) 12 nc, .slice a1 n1 c1, .slice (some ⟨sb, so, none⟩) (n + 16) c3] W fun e w' => ∃ g f, e = .returned (.tuple #[.slice (some ⟨g, 0, none⟩) n (n + 16), .nilIface]) ∧ W.heap.size ≤ g ∧ Arr w' .u8 g (n + 16) f ∧ (∀ i, i < n → f i = Ob.strX zk zn y i) ∧ Below W.heap.size W w' := fun W hb =>
    (open_core kb ko kc nb no nc c1 n1 sb so c3 n hkc hnc hc3 zk zn z1 y hzk hzn hz1 hy (by omega) (by omega) a1 W (hT.on hb) (hK.below hb hK.lt) (hNn.below hb hNn.lt) (hS1.below hb) (hS3.below hb hS3.lt)).mono fun e w' h => by
      rcases h with ⟨_, h⟩ | ⟨hno, _⟩
      · exact h
      · exact absurd hop hno
  have cf := fitsYes (some ⟨kb, ko, none⟩) (some ⟨nb, no, none⟩) kc nc
  have cb : ∀ (W : World), Below w.heap.size w W → Calls Tryd.prog 17 #[.slice (some ⟨kb, ko, none⟩) 32 kc, .slice (some ⟨nb, no, none⟩) 12 nc, .slice a1 n1 c1, .slice (some ⟨sb, so, none⟩) n c3] W fun e w' => ∃ g d, e = .returned (.slice (some ⟨g, 0, none⟩) 16 16) ∧ W.heap.size ≤ g ∧ Arr w' .u8 g 16 d ∧ (∀ i, d i < 256) ∧ Ob.valD d 16 = Ob.sealN zk zn z1 n1 y n ∧ Below W.heap.size W w' := fun W hb =>
    rboth_core kb ko kc nb no nc c1 n1 c3 n zk zn z1 y hzk hzn hz1 hy (by omega) (by omega) a1 (some ⟨sb, so, none⟩) W (hK.below hb hK.lt) (hNn.below hb hNn.lt) (hS1.below hb) (Or.inr ⟨sb, so, rfl, (hS3.below hb hS3.lt).less (by omega)⟩)
  have hstr : Hid (∀ W, Below w.heap.size w W → (convert 22 9 (.slice (some ⟨sb, so + n, none⟩) 16 (c3 - n))).run Tryd.prog W = .ok (.string (bst (fun i => y (n + i)) 16)) W) := fun W hb => bys_str sb (so + n) 16 (c3 - n) _ W ((hS3.below hb hS3.lt).more n 16 (Nat.le_refl _))
  have hVl : Hid (Ob.sealN zk zn z1 n1 y n < 256 ^ 16) := Ob.markN_lt _ _ _
  have hye : bst (fun i => y (n + i)) 16 = bst (Ob.lenD (Ob.sealN zk zn z1 n1 y n)) 16 := bst_congr hop
  have cr := fun (W : World) (hb : Below w.heap.size w W) => rstream_core kb ko kc nb no nc c3 n zk zn y hzk hzn hy (by omega) (some ⟨sb, so, none⟩) W (hK.below hb hK.lt) (hNn.below hb hNn.lt) (Or.inr ⟨sb, so, rfl, (hS3.below hb hS3.lt).less (by omega)⟩)
  obtain ⟨V, hV⟩ : ∃ D, Hid (Ob.sealN zk zn z1 n1 y n = D) := ⟨_, rfl⟩
  obtain ⟨F, hF⟩ : ∃ D, Hid (Ob.strX zk zn y = D) := ⟨_, rfl⟩
  rw [hV.out] at cb hVl hye
  rw [hF.out] at co cr
  rw [hye] at hstr
  have v2 : ∀ (W : World) (g : Nat) (d : Nat → Nat), Arr W .u8 g 16 d → (∀ i, d i < 256) → Ob.valD d 16 = V → (convert 22 9 (.slice (some ⟨g, 0, none⟩) 16 16)).run Tryd.prog W = .ok (.string (bst (Ob.lenD V) 16)) W := fun W g d ht hd hv => by
    have := bys_str g 0 16 16 d W ht.bys8
    rw [← bst_congr (Ob.mark_digits hd hVl.out hv)]
    exact this
  generalize bst (Ob.lenD V) 16 = SV at *
  obtain ⟨m, hm⟩ : ∃ m, Hid (n + 16 = m) := ⟨_, rfl⟩
  rw [hm.out] at co ⊢
  have g1 : ¬ (1000 : Int) < (n1 : Int) := by omega
  have g2 : ¬ (1000 : Int) < (m : Int) := by have := hm.out; omega
  have i1 : IntKind.i64.wrap ((m : Int) - 16) = (n : Int) := by rw [IntKind.wrap_i64]; have := hm.out; omega
  have i2 : (0 : Int) ≤ (n : Int) := by omega
  have i9 : ¬ (n : Int) < 0 := by omega
  have i3 : (n : Int) ≤ (m : Int) := by have := hm.out; omega
  have i4 : (m : Int) ≤ (c3 : Int) := by have := hm.out; omega
  have i5 : (n : Int) ≤ (c3 : Int) := by omega
  have i6 : c3 ≠ n := by omega
  have i7 : m - n = 16 := by have := hm.out; omega
  have i8 : n ≤ m := by have := hm.out; omega
  clear hV hF hT hK hNn hS1 hS3 hzk hzn hz1 hy hn1 hn hop hc3 hye
  go_enter Tryd.func6, Tryd.ntmps6
  go_upto_region 9 with (first | (go_at_call 9; with_reducible refine c0.mono ?_; rintro e W0 ⟨rfl, b0'⟩) | (go_at_call 18; with_reducible refine (co _ b0').mono ?_; rintro e W1 ⟨g1', f1, rfl, lg1, t1, hf1, b1⟩) | (go_at_call 11; with_reducible refine (cf _).mono ?_; rintro e W2 ⟨rfl, rfl⟩))
  have hB1 : Below w.heap.size w W1 := below_via b1 b0' b0'.size
  have l1 := hB1.size
  have hBd : Below w.heap.size w W1.drew := hB1.drew
  have cb1 := cb _ hBd
  have y1 : Bys W1 g1' 0 n F := ⟨t1.lt, fun i hi => by rw [Nat.zero_add, ← hf1 i hi]; exact t1.c i (by have := hm.out; omega)⟩
  have y1' : Hid (Bys W1 g1' 0 n F) := y1
  clear co cf c0 cb b1 b0' t1 hf1 y1
  refine wp_region_noPanic ?_
  refine region_lastly (S := (fun w' => (convert 22 9 (.slice (some ⟨sb, so + n, none⟩) 16 (c3 - n))).run Tryd.prog w' = .ok (.string SV) w')) [] (by kernel_rfl) (by ((try dsimp only); (first | exact hstr.out _ hBd | exact hstr.out _ (below_via b2 hBd l1)))) (fun hHeld => ?_)
  refine anyZ_free (i := 0) (oi := ?oi_18) (v := ?v_18) ?hi_18 ?hs_18 ?hf_18 ?hr_18 ?hQ_18 (Or.inl ⟨?hw_18, ?hy_18⟩) ?hrest_18
  case hi_18 => (simp only [List.getElem?_toArray, List.getElem?_cons_succ, List.getElem?_cons_zero]; exact rfl)
  case hs_18 => kernel_rfl
  case hf_18 => kernel_rfl
  case hr_18 => kernel_rfl
  case hQ_18 => exact fun _ _ _ h => h
  case hw_18 => rfl
  case hy_18 => (intro w _; go_simp; try with_reducible rfl)
  try simp only [Act.put, List.setIfInBounds_toArray, List.set_cons_zero, List.set_cons_succ]
  refine anyZ_free (i := 1) (oi := ?oi_19) (v := ?v_19) ?hi_19 ?hs_19 ?hf_19 ?hr_19 ?hQ_19 (Or.inl ⟨?hw_19, ?hy_19⟩) ?hrest_19
  case hi_19 => (simp only [List.getElem?_toArray, List.getElem?_cons_succ, List.getElem?_cons_zero]; exact rfl)
  case hs_19 => kernel_rfl
  case hf_19 => kernel_rfl
  case hr_19 => kernel_rfl
  case hQ_19 => exact fun _ _ _ h => h
  case hw_19 => rfl
  case hy_19 => (intro w _; go_simp; try with_reducible rfl)
  try simp only [Act.put, List.setIfInBounds_toArray, List.set_cons_zero, List.set_cons_succ]
  refine anyZ_free (i := 2) (oi := ?oi_20) (v := ?v_20) ?hi_20 ?hs_20 ?hf_20 ?hr_20 ?hQ_20 (Or.inl ⟨?hw_20, ?hy_20⟩) ?hrest_20
  case hi_20 => (simp only [List.getElem?_toArray, List.getElem?_cons_succ, List.getElem?_cons_zero]; exact rfl)
  case hs_20 => kernel_rfl
  case hf_20 => kernel_rfl
  case hr_20 => kernel_rfl
  case hQ_20 => exact fun _ _ _ h => h
  case hw_20 => rfl
  case hy_20 => (intro w _; go_simp; try with_reducible rfl)
  try simp only [Act.put, List.setIfInBounds_toArray, List.set_cons_zero, List.set_cons_succ]
  refine anyZ_free (i := 3) (oi := ?oi_21) (v := ?v_21) ?hi_21 ?hs_21 ?hf_21 ?hr_21 ?hQ_21 (Or.inl ⟨?hw_21, ?hy_21⟩) ?hrest_21
  case hi_21 => (simp only [List.getElem?_toArray, List.getElem?_cons_succ, List.getElem?_cons_zero]; exact rfl)
  case hs_21 => kernel_rfl
  case hf_21 => kernel_rfl
  case hr_21 => kernel_rfl
  case hQ_21 => exact fun _ _ _ h => h
  case hw_21 => rfl
  case hy_21 => (intro w _; go_simp; try with_reducible rfl)
  try simp only [Act.put, List.setIfInBounds_toArray, List.set_cons_zero, List.set_cons_succ]
  refine anyZ_free (i := 4) (oi := ?oi_22) (v := ?v_22) ?hi_22 ?hs_22 ?hf_22 ?hr_22 ?hQ_22 (Or.inl ⟨?hw_22, ?hy_22⟩) ?hrest_22
  case hi_22 => (simp only [List.getElem?_toArray, List.getElem?_cons_succ, List.getElem?_cons_zero]; exact rfl)
  case hs_22 => kernel_rfl
  case hf_22 => kernel_rfl
  case hr_22 => kernel_rfl
  case hQ_22 => exact fun _ _ _ h => h
  case hw_22 => rfl
  case hy_22 => (intro w _; go_simp; try with_reducible rfl)
  try simp only [Act.put, List.setIfInBounds_toArray, List.set_cons_zero, List.set_cons_succ]
  refine anyZ_free (i := 5) (oi := ?oi_23) (v := ?v_23) ?hi_23 ?hs_23 ?hf_23 ?hr_23 ?hQ_23 (Or.inl ⟨?hw_23, ?hy_23⟩) ?hrest_23
  case hi_23 => (simp only [List.getElem?_toArray, List.getElem?_cons_succ, List.getElem?_cons_zero]; exact rfl)
  case hs_23 => kernel_rfl
  case hf_23 => kernel_rfl
  case hr_23 => kernel_rfl
  case hQ_23 => exact fun _ _ _ h => h
  case hw_23 => rfl
  case hy_23 => (intro w _; go_simp; try with_reducible rfl)
  try simp only [Act.put, List.setIfInBounds_toArray, List.set_cons_zero, List.set_cons_succ]
  refine anyZ_free (i := 6) (oi := ?oi_24) (v := ?v_24) ?hi_24 ?hs_24 ?hf_24 ?hr_24 ?hQ_24 (Or.inl ⟨?hw_24, ?hy_24⟩) ?hrest_24
  case hi_24 => (simp only [List.getElem?_toArray, List.getElem?_cons_succ, List.getElem?_cons_zero]; exact rfl)
  case hs_24 => kernel_rfl
  case hf_24 => kernel_rfl
  case hr_24 => kernel_rfl
  case hQ_24 => exact fun _ _ _ h => h
  case hw_24 => rfl
  case hy_24 => (intro w _; go_simp; try with_reducible rfl)
  try simp only [Act.put, List.setIfInBounds_toArray, List.set_cons_zero, List.set_cons_succ]
  refine anyZ_free (i := 7) (oi := ?oi_25) (v := ?v_25) ?hi_25 ?hs_25 ?hf_25 ?hr_25 ?hQ_25 (Or.inl ⟨?hw_25, ?hy_25⟩) ?hrest_25
  case hi_25 => (simp only [List.getElem?_toArray, List.getElem?_cons_succ, List.getElem?_cons_zero]; exact rfl)
  case hs_25 => kernel_rfl
  case hf_25 => kernel_rfl
  case hr_25 => kernel_rfl
  case hQ_25 => exact fun _ _ _ h => h
  case hw_25 => rfl
  case hy_25 => (intro w _; go_simp; try with_reducible rfl)
  try simp only [Act.put, List.setIfInBounds_toArray, List.set_cons_zero, List.set_cons_succ]
  refine anyZ_free (i := 8) (oi := ?oi_26) (v := ?v_26) ?hi_26 ?hs_26 ?hf_26 ?hr_26 ?hQ_26 (Or.inl ⟨?hw_26, ?hy_26⟩) ?hrest_26
  case hi_26 => (simp only [List.getElem?_toArray, List.getElem?_cons_succ, List.getElem?_cons_zero]; exact rfl)
  case hs_26 => kernel_rfl
  case hf_26 => kernel_rfl
  case hr_26 => kernel_rfl
  case hQ_26 => exact fun _ _ _ h => h
  case hw_26 => rfl
  case hy_26 => (intro w _; go_simp; try with_reducible rfl)
  try simp only [Act.put, List.setIfInBounds_toArray, List.set_cons_zero, List.set_cons_succ]
  refine anyZ_free (i := 11) (oi := ?oi_27) (v := ?v_27) ?hi_27 ?hs_27 ?hf_27 ?hr_27 ?hQ_27 (Or.inl ⟨?hw_27, ?hy_27⟩) ?hrest_27
  case hi_27 => (simp only [List.getElem?_toArray, List.getElem?_cons_succ, List.getElem?_cons_zero]; exact rfl)
  case hs_27 => kernel_rfl
  case hf_27 => kernel_rfl
  case hr_27 => kernel_rfl
  case hQ_27 => exact fun _ _ _ h => h
  case hw_27 => rfl
  case hy_27 => (intro w _; go_simp; try with_reducible rfl)
  try simp only [Act.put, List.setIfInBounds_toArray, List.set_cons_zero, List.set_cons_succ]
  refine anyZ_free (i := 12) (oi := ?oi_28) (v := ?v_28) ?hi_28 ?hs_28 ?hf_28 ?hr_28 ?hQ_28 (Or.inl ⟨?hw_28, ?hy_28⟩) ?hrest_28
  case hi_28 => (simp only [List.getElem?_toArray, List.getElem?_cons_succ, List.getElem?_cons_zero]; exact rfl)
  case hs_28 => kernel_rfl
  case hf_28 => kernel_rfl
  case hr_28 => kernel_rfl
  case hQ_28 => exact fun _ _ _ h => h
  case hw_28 => rfl
  case hy_28 => (intro w _; go_simp; try with_reducible rfl)
  try simp only [Act.put, List.setIfInBounds_toArray, List.set_cons_zero, List.set_cons_succ]
  refine anyZ_free (i := 13) (oi := ?oi_29) (v := ?v_29) ?hi_29 ?hs_29 ?hf_29 ?hr_29 ?hQ_29 (Or.inl ⟨?hw_29, ?hy_29⟩) ?hrest_29
  case hi_29 => (simp only [List.getElem?_toArray, List.getElem?_cons_succ, List.getElem?_cons_zero]; exact rfl)
  case hs_29 => kernel_rfl
  case hf_29 => kernel_rfl
  case hr_29 => kernel_rfl
  case hQ_29 => exact fun _ _ _ h => h
  case hw_29 => rfl
  case hy_29 => (intro w _; go_simp; try with_reducible rfl)
  try simp only [Act.put, List.setIfInBounds_toArray, List.set_cons_zero, List.set_cons_succ]
  refine anyZ_take (i := 14) (oi := ?oi_30) (v := ?v_30) ?hi_30 ?hz_30 ?hs_30 ?hf_30 ?hr_30 ?hQ_30 (Or.inl ⟨?hw_30, ?hy_30⟩) ?hS_30 ?hrest_30
  case hi_30 => (simp only [List.getElem?_toArray, List.getElem?_cons_succ, List.getElem?_cons_zero]; exact rfl)
  case hz_30 => kernel_rfl
  case hs_30 => kernel_rfl
  case hf_30 => kernel_rfl
  case hr_30 => kernel_rfl
  case hQ_30 => exact fun _ _ _ h => h
  case hw_30 => rfl
  case hS_30 => assumption
  case hy_30 => (intro w hSw; (try dsimp only at hSw); go_simp; try with_reducible rfl)
  try simp only [Act.put, List.setIfInBounds_toArray, List.set_cons_zero, List.set_cons_succ]
  refine anyZ_ready (rs := [9]) (by kernel_rfl) (by simp) ?_
  refine (AllZ.cons (o := ?o_31) ?ho_31 (fun K hK => ?st_31) AllZ.nil)
  case ho_31 => (simp only [List.getElem?_toArray, List.getElem?_cons_succ, List.getElem?_cons_zero]; exact rfl)
  case st_31 =>
    go_simp
    (go_at_call 17; with_reducible refine cb1.mono ?_; rintro e W2 ⟨g2, d2, rfl, lg2, t2, hd2, hv2, b2⟩; have e2 := v2 W2 g2 d2 t2 hd2 hv2)
    refine hK.out _ _ (by ((try dsimp only); (first | exact hstr.out _ hBd | exact hstr.out _ (below_via b2 hBd l1)))) (fun hHeld => ?_)
    clear hK K
    try simp only [Act.put, List.setIfInBounds_toArray, List.set_cons_zero, List.set_cons_succ]
    refine anyZ_ready (rs := [10]) (by kernel_rfl) (by simp) ?_
    refine (AllZ.cons (o := ?o_32) ?ho_32 (fun K hK => ?st_32) AllZ.nil)
    case ho_32 => (simp only [List.getElem?_toArray, List.getElem?_cons_succ, List.getElem?_cons_zero]; exact rfl)
    case st_32 =>
      go_simp
      refine hK.out _ _ (by ((try dsimp only); (first | exact hstr.out _ hBd | exact hstr.out _ (below_via b2 hBd l1)))) (fun hHeld => ?_)
      clear hK K
      try simp only [Act.put, List.setIfInBounds_toArray, List.set_cons_zero, List.set_cons_succ]
      refine anyZ_free (i := 15) (oi := ?oi_33) (v := ?v_33) ?hi_33 ?hs_33 ?hf_33 ?hr_33 ?hQ_33 (Or.inl ⟨?hw_33, ?hy_33⟩) ?hrest_33
      case hi_33 => (simp only [List.getElem?_toArray, List.getElem?_cons_succ, List.getElem?_cons_zero]; exact rfl)
      case hs_33 => kernel_rfl
      case hf_33 => kernel_rfl
      case hr_33 => kernel_rfl
      case hQ_33 => exact fun _ _ _ h => h
      case hw_33 => rfl
      case hy_33 => (intro w _; go_simp; try with_reducible rfl)
      try simp only [Act.put, List.setIfInBounds_toArray, List.set_cons_zero, List.set_cons_succ]
      refine anyZ_free (i := 16) (oi := ?oi_34) (v := ?v_34) ?hi_34 ?hs_34 ?hf_34 ?hr_34 ?hQ_34 (Or.inl ⟨?hw_34, ?hy_34⟩) ?hrest_34
      case hi_34 => (simp only [List.getElem?_toArray, List.getElem?_cons_succ, List.getElem?_cons_zero]; exact rfl)
      case hs_34 => kernel_rfl
      case hf_34 => kernel_rfl
      case hr_34 => kernel_rfl
      case hQ_34 => exact fun _ _ _ h => h
      case hw_34 => rfl
      case hy_34 => (intro w _; go_simp; try with_reducible rfl)
      try simp only [Act.put, List.setIfInBounds_toArray, List.set_cons_zero, List.set_cons_succ]
      refine anyZ_done (by kernel_rfl) ?_ _
      refine NoPanic.normal ?_
      have hB2 : Below w.heap.size w W2 := below_via b2 hBd l1
      have l2 := hB2.size
      have y2 : Bys W2 g1' 0 n F := y1'.out.drew.below b2 y1'.out.lt
      have hBd2 : Below w.heap.size w W2.drew := hB2.drew
      have cr1 := cr _ hBd2
      have v1 : Hid (∀ (W : World) (hb : Below W2.heap.size W2 W), (convert 22 9 (.slice (some ⟨g1', 0, none⟩) n m)).run Tryd.prog W = .ok (.string (bst F n)) W) := fun W hb => bys_str g1' 0 n m F W (y2.below hb y2.lt)
      have v3 : ∀ (W : World) (g : Nat), Arr W .u8 g n F → (convert 22 9 (.slice (some ⟨g, 0, none⟩) n n)).run Tryd.prog W = .ok (.string (bst F n)) W := fun W g ht => bys_str g 0 n n F W ht.bys8
      generalize bst F n = SF at *
      clear v2 hstr hHeld t2 hd2 hv2 e2 cb1 y2 y1' cr
      go_upto_region 11 with (fail)
      refine wp_region_noPanic ?_
      refine region_lastly (S := (fun w' => (convert 22 9 (.slice (some ⟨g1', 0, none⟩) n m)).run Tryd.prog w' = .ok (.string SF) w')) [] (by kernel_rfl) (by ((try dsimp only); (first | exact v1.out _ ((Below.refl _ _).drew) | exact v1.out _ (((Below.refl _ _).drew).trans b4)))) (fun hHeld => ?_)
      refine anyZ_free (i := 0) (oi := ?oi_35) (v := ?v_35) ?hi_35 ?hs_35 ?hf_35 ?hr_35 ?hQ_35 (Or.inl ⟨?hw_35, ?hy_35⟩) ?hrest_35
      case hi_35 => (simp only [List.getElem?_toArray, List.getElem?_cons_succ, List.getElem?_cons_zero]; exact rfl)
      case hs_35 => kernel_rfl
      case hf_35 => kernel_rfl
      case hr_35 => kernel_rfl
      case hQ_35 => exact fun _ _ _ h => h
      case hw_35 => rfl
      case hy_35 => (intro w _; go_simp; try with_reducible rfl)
      try simp only [Act.put, List.setIfInBounds_toArray, List.set_cons_zero, List.set_cons_succ]
      refine anyZ_free (i := 1) (oi := ?oi_36) (v := ?v_36) ?hi_36 ?hs_36 ?hf_36 ?hr_36 ?hQ_36 (Or.inl ⟨?hw_36, ?hy_36⟩) ?hrest_36
      case hi_36 => (simp only [List.getElem?_toArray, List.getElem?_cons_succ, List.getElem?_cons_zero]; exact rfl)
      case hs_36 => kernel_rfl
      case hf_36 => kernel_rfl
      case hr_36 => kernel_rfl
      case hQ_36 => exact fun _ _ _ h => h
      case hw_36 => rfl
      case hy_36 => (intro w _; go_simp; try with_reducible rfl)
      try simp only [Act.put, List.setIfInBounds_toArray, List.set_cons_zero, List.set_cons_succ]
      refine anyZ_free (i := 2) (oi := ?oi_37) (v := ?v_37) ?hi_37 ?hs_37 ?hf_37 ?hr_37 ?hQ_37 (Or.inl ⟨?hw_37, ?hy_37⟩) ?hrest_37
      case hi_37 => (simp only [List.getElem?_toArray, List.getElem?_cons_succ, List.getElem?_cons_zero]; exact rfl)
      case hs_37 => kernel_rfl
      case hf_37 => kernel_rfl
      case hr_37 => kernel_rfl
      case hQ_37 => exact fun _ _ _ h => h
      case hw_37 => rfl
      case hy_37 => (intro w _; go_simp; try with_reducible rfl)
      try simp only [Act.put, List.setIfInBounds_toArray, List.set_cons_zero, List.set_cons_succ]
      refine anyZ_free (i := 3) (oi := ?oi_38) (v := ?v_38) ?hi_38 ?hs_38 ?hf_38 ?hr_38 ?hQ_38 (Or.inl ⟨?hw_38, ?hy_38⟩) ?hrest_38
      case hi_38 => (simp only [List.getElem?_toArray, List.getElem?_cons_succ, List.getElem?_cons_zero]; exact rfl)
      case hs_38 => kernel_rfl
      case hf_38 => kernel_rfl
      case hr_38 => kernel_rfl
      case hQ_38 => exact fun _ _ _ h => h
      case hw_38 => rfl
      case hy_38 => (intro w _; go_simp; try with_reducible rfl)
      try simp only [Act.put, List.setIfInBounds_toArray, List.set_cons_zero, List.set_cons_succ]
      refine anyZ_free (i := 4) (oi := ?oi_39) (v := ?v_39) ?hi_39 ?hs_39 ?hf_39 ?hr_39 ?hQ_39 (Or.inl ⟨?hw_39, ?hy_39⟩) ?hrest_39
      case hi_39 => (simp only [List.getElem?_toArray, List.getElem?_cons_succ, List.getElem?_cons_zero]; exact rfl)
      case hs_39 => kernel_rfl
      case hf_39 => kernel_rfl
      case hr_39 => kernel_rfl
      case hQ_39 => exact fun _ _ _ h => h
      case hw_39 => rfl
      case hy_39 => (intro w _; go_simp; try with_reducible rfl)
      try simp only [Act.put, List.setIfInBounds_toArray, List.set_cons_zero, List.set_cons_succ]
      refine anyZ_free (i := 5) (oi := ?oi_40) (v := ?v_40) ?hi_40 ?hs_40 ?hf_40 ?hr_40 ?hQ_40 (Or.inl ⟨?hw_40, ?hy_40⟩) ?hrest_40
      case hi_40 => (simp only [List.getElem?_toArray, List.getElem?_cons_succ, List.getElem?_cons_zero]; exact rfl)
      case hs_40 => kernel_rfl
      case hf_40 => kernel_rfl
      case hr_40 => kernel_rfl
      case hQ_40 => exact fun _ _ _ h => h
      case hw_40 => rfl
      case hy_40 => (intro w _; go_simp; try with_reducible rfl)
      try simp only [Act.put, List.setIfInBounds_toArray, List.set_cons_zero, List.set_cons_succ]
      refine anyZ_free (i := 6) (oi := ?oi_41) (v := ?v_41) ?hi_41 ?hs_41 ?hf_41 ?hr_41 ?hQ_41 (Or.inl ⟨?hw_41, ?hy_41⟩) ?hrest_41
      case hi_41 => (simp only [List.getElem?_toArray, List.getElem?_cons_succ, List.getElem?_cons_zero]; exact rfl)
      case hs_41 => kernel_rfl
      case hf_41 => kernel_rfl
      case hr_41 => kernel_rfl
      case hQ_41 => exact fun _ _ _ h => h
      case hw_41 => rfl
      case hy_41 => (intro w _; go_simp; try with_reducible rfl)
      try simp only [Act.put, List.setIfInBounds_toArray, List.set_cons_zero, List.set_cons_succ]
      refine anyZ_take (i := 7) (oi := ?oi_42) (v := ?v_42) ?hi_42 ?hz_42 ?hs_42 ?hf_42 ?hr_42 ?hQ_42 (Or.inl ⟨?hw_42, ?hy_42⟩) ?hS_42 ?hrest_42
      case hi_42 => (simp only [List.getElem?_toArray, List.getElem?_cons_succ, List.getElem?_cons_zero]; exact rfl)
      case hz_42 => kernel_rfl
      case hs_42 => kernel_rfl
      case hf_42 => kernel_rfl
      case hr_42 => kernel_rfl
      case hQ_42 => exact fun _ _ _ h => h
      case hw_42 => rfl
      case hS_42 => assumption
      case hy_42 => (intro w hSw; (try dsimp only at hSw); go_simp; try with_reducible rfl)
      try simp only [Act.put, List.setIfInBounds_toArray, List.set_cons_zero, List.set_cons_succ]
      refine anyZ_free (i := 8) (oi := ?oi_43) (v := ?v_43) ?hi_43 ?hs_43 ?hf_43 ?hr_43 ?hQ_43 (Or.inl ⟨?hw_43, ?hy_43⟩) ?hrest_43
      case hi_43 => (simp only [List.getElem?_toArray, List.getElem?_cons_succ, List.getElem?_cons_zero]; exact rfl)
      case hs_43 => kernel_rfl
      case hf_43 => kernel_rfl
      case hr_43 => kernel_rfl
      case hQ_43 => exact fun _ _ _ h => h
      case hw_43 => rfl
      case hy_43 => (intro w _; go_simp; try with_reducible rfl)
      try simp only [Act.put, List.setIfInBounds_toArray, List.set_cons_zero, List.set_cons_succ]
      refine anyZ_free (i := 9) (oi := ?oi_44) (v := ?v_44) ?hi_44 ?hs_44 ?hf_44 ?hr_44 ?hQ_44 (Or.inl ⟨?hw_44, ?hy_44⟩) ?hrest_44
      case hi_44 => (simp only [List.getElem?_toArray, List.getElem?_cons_succ, List.getElem?_cons_zero]; exact rfl)
      case hs_44 => kernel_rfl
      case hf_44 => kernel_rfl
      case hr_44 => kernel_rfl
      case hQ_44 => exact fun _ _ _ h => h
      case hw_44 => rfl
      case hy_44 => (intro w _; go_simp; try with_reducible rfl)
      try simp only [Act.put, List.setIfInBounds_toArray, List.set_cons_zero, List.set_cons_succ]
      refine anyZ_free (i := 10) (oi := ?oi_45) (v := ?v_45) ?hi_45 ?hs_45 ?hf_45 ?hr_45 ?hQ_45 (Or.inl ⟨?hw_45, ?hy_45⟩) ?hrest_45
      case hi_45 => (simp only [List.getElem?_toArray, List.getElem?_cons_succ, List.getElem?_cons_zero]; exact rfl)
      case hs_45 => kernel_rfl
      case hf_45 => kernel_rfl
      case hr_45 => kernel_rfl
      case hQ_45 => exact fun _ _ _ h => h
      case hw_45 => rfl
      case hy_45 => (intro w _; go_simp; try with_reducible rfl)
      try simp only [Act.put, List.setIfInBounds_toArray, List.set_cons_zero, List.set_cons_succ]
      refine anyZ_free (i := 11) (oi := ?oi_46) (v := ?v_46) ?hi_46 ?hs_46 ?hf_46 ?hr_46 ?hQ_46 (Or.inl ⟨?hw_46, ?hy_46⟩) ?hrest_46
      case hi_46 => (simp only [List.getElem?_toArray, List.getElem?_cons_succ, List.getElem?_cons_zero]; exact rfl)
      case hs_46 => kernel_rfl
      case hf_46 => kernel_rfl
      case hr_46 => kernel_rfl
      case hQ_46 => exact fun _ _ _ h => h
      case hw_46 => rfl
      case hy_46 => (intro w _; go_simp; try with_reducible rfl)
      try simp only [Act.put, List.setIfInBounds_toArray, List.set_cons_zero, List.set_cons_succ]
      refine anyZ_free (i := 12) (oi := ?oi_47) (v := ?v_47) ?hi_47 ?hs_47 ?hf_47 ?hr_47 ?hQ_47 (Or.inl ⟨?hw_47, ?hy_47⟩) ?hrest_47
      case hi_47 => (simp only [List.getElem?_toArray, List.getElem?_cons_succ, List.getElem?_cons_zero]; exact rfl)
      case hs_47 => kernel_rfl
      case hf_47 => kernel_rfl
      case hr_47 => kernel_rfl
      case hQ_47 => exact fun _ _ _ h => h
      case hw_47 => rfl
      case hy_47 => (intro w _; go_simp; try with_reducible rfl)
      try simp only [Act.put, List.setIfInBounds_toArray, List.set_cons_zero, List.set_cons_succ]
      refine anyZ_ready (rs := [13]) (by kernel_rfl) (by simp) ?_
      refine (AllZ.cons (o := ?o_48) ?ho_48 (fun K hK => ?st_48) AllZ.nil)
      case ho_48 => (simp only [List.getElem?_toArray, List.getElem?_cons_succ, List.getElem?_cons_zero]; exact rfl)
      case st_48 =>
        go_simp
        (go_at_call 16; with_reducible refine cr1.mono ?_; rintro e W4 ⟨rfl, t4, b4⟩; have e4 := v3 _ _ t4; simp only [World.size_drew] at e4)
        refine hK.out _ _ (by ((try dsimp only); (first | exact v1.out _ ((Below.refl _ _).drew) | exact v1.out _ (((Below.refl _ _).drew).trans b4)))) (fun hHeld => ?_)
        clear hK K
        try simp only [Act.put, List.setIfInBounds_toArray, List.set_cons_zero, List.set_cons_succ]
        refine anyZ_ready (rs := [14]) (by kernel_rfl) (by simp) ?_
        refine (AllZ.cons (o := ?o_49) ?ho_49 (fun K hK => ?st_49) AllZ.nil)
        case ho_49 => (simp only [List.getElem?_toArray, List.getElem?_cons_succ, List.getElem?_cons_zero]; exact rfl)
        case st_49 =>
          go_simp
          refine hK.out _ _ (by ((try dsimp only); (first | exact v1.out _ ((Below.refl _ _).drew) | exact v1.out _ (((Below.refl _ _).drew).trans b4)))) (fun hHeld => ?_)
          clear hK K
          try simp only [Act.put, List.setIfInBounds_toArray, List.set_cons_zero, List.set_cons_succ]
          refine anyZ_free (i := 15) (oi := ?oi_50) (v := ?v_50) ?hi_50 ?hs_50 ?hf_50 ?hr_50 ?hQ_50 (Or.inl ⟨?hw_50, ?hy_50⟩) ?hrest_50
          case hi_50 => (simp only [List.getElem?_toArray, List.getElem?_cons_succ, List.getElem?_cons_zero]; exact rfl)
          case hs_50 => kernel_rfl
          case hf_50 => kernel_rfl
          case hr_50 => kernel_rfl
          case hQ_50 => exact fun _ _ _ h => h
          case hw_50 => rfl
          case hy_50 => (intro w _; go_simp; try with_reducible rfl)
          try simp only [Act.put, List.setIfInBounds_toArray, List.set_cons_zero, List.set_cons_succ]
          refine anyZ_free (i := 16) (oi := ?oi_51) (v := ?v_51) ?hi_51 ?hs_51 ?hf_51 ?hr_51 ?hQ_51 (Or.inl ⟨?hw_51, ?hy_51⟩) ?hrest_51
          case hi_51 => (simp only [List.getElem?_toArray, List.getElem?_cons_succ, List.getElem?_cons_zero]; exact rfl)
          case hs_51 => kernel_rfl
          case hf_51 => kernel_rfl
          case hr_51 => kernel_rfl
          case hQ_51 => exact fun _ _ _ h => h
          case hw_51 => rfl
          case hy_51 => (intro w _; go_simp; try with_reducible rfl)
          try simp only [Act.put, List.setIfInBounds_toArray, List.set_cons_zero, List.set_cons_succ]
          refine anyZ_free (i := 17) (oi := ?oi_52) (v := ?v_52) ?hi_52 ?hs_52 ?hf_52 ?hr_52 ?hQ_52 (Or.inl ⟨?hw_52, ?hy_52⟩) ?hrest_52
          case hi_52 => (simp only [List.getElem?_toArray, List.getElem?_cons_succ, List.getElem?_cons_zero]; exact rfl)
          case hs_52 => kernel_rfl
          case hf_52 => kernel_rfl
          case hr_52 => kernel_rfl
          case hQ_52 => exact fun _ _ _ h => h
          case hw_52 => rfl
          case hy_52 => (intro w _; go_simp; try with_reducible rfl)
          try simp only [Act.put, List.setIfInBounds_toArray, List.set_cons_zero, List.set_cons_succ]
          refine anyZ_done (by kernel_rfl) ?_ _
          refine NoPanic.normal ?_
          have hB4 : Below w.heap.size w W4 := below_via b4 hBd2 l2
          clear v1 v3 hHeld t4 e4 cr1
          go_wp2
          go_ret
          exact ⟨rfl, hB4⟩

theorem cipherOpens_walk (a : Option Addr) (n c : Nat) (zs : List Int) (b : Option Addr) (m d : Nat) (ys : List Int) (a1 : Option Addr) (n1 c1 : Nat) (zs1 : List Int) (a2 : Option Addr) (n2 c2 : Nat) (zs2 : List Int) (w : World) (h : IsRow .u8 w a n c zs) (h2 : IsRow .u8 w b m d ys) (h3 : IsRow .u8 w a1 n1 c1 zs1) (h4 : IsRow .u8 w a2 n2 c2 zs2) (hT : Tabs w) :
    Calls Tryd.prog 6 #[.slice a n c, .slice b m d, .slice a1 n1 c1, .slice a2 n2 c2] w fun e w' => e = .returned (.bool true) ∧ Below w.heap.size w w' := by
  obtain ⟨z, hz, hS, g1, _⟩ := src_of_isRow h
  obtain ⟨y, hy, hS2, g2, _⟩ := src_of_isRow h2
  obtain ⟨z1, hz1, hS3, _, _⟩ := src_of_isRow h3
  obtain ⟨z2, hz2, hS4, g4, _⟩ := src_of_isRow h4
  have hu := upW w hT
  by_cases hl : n1 ≤ 1000 ∧ n2 ≤ 1000
  · by_cases hok : n = 32 ∧ m = 12
    · obtain ⟨rfl, rfl⟩ := hok
      by_cases h16 : n2 < 16
      · exact opens_short a b a1 a2 c d n1 c1 n2 c2 hl.1 h16 w hu
      · obtain ⟨b1, o1, rfl, y1⟩ := hS.some (by decide)
        obtain ⟨b2, o2, rfl, y2⟩ := hS2.some (by decide)
        obtain ⟨b4, o4, rfl, y4⟩ := hS4.some (by omega)
        obtain ⟨k, rfl⟩ : ∃ k, n2 = k + 16 := ⟨n2 - 16, by omega⟩
        by_cases hop : Opens z y z1 n1 z2 k
        · exact opens_ok b1 o1 c b2 o2 d c1 n1 b4 o4 c2 k g1 g2 g4 hl.1 hl.2 z y z1 z2 hz hy hz1 hz2 a1 w hT y1 y2 hS3 y4 hop hu
        · exact opens_bad b1 o1 c b2 o2 d c1 n1 b4 o4 c2 k g1 g2 g4 hl.1 hl.2 z y z1 z2 hz hy hz1 hz2 a1 w hT y1 y2 hS3 y4 hop hu
    · exact opens_no a b a1 a2 n m c d n1 c1 n2 c2 hl.1 hl.2 hok w hu
  · exact opens_long a b a1 a2 n m c d n1 c1 n2 c2 hl w hu
end Go.Proofs.YtdaonbfdcpkipaaDoor
