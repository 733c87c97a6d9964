/-
  CipherBlocks, walked.
-/
import Derived.Test.YtdaonbfdcpkipaaDoorJ10
import Derived.Test.YtdaonbfdcpkipaaDoorJ6
namespace Go.Proofs.YtdaonbfdcpkipaaDoor
open Go.RowKit Go.Proofs
set_option linter.unusedVariables false
set_option linter.unusedSimpArgs false
attribute [local go_sem ↓] Go.wp_at_zero Go.wp_at_succ

set_option maxHeartbeats 2000000 in
theorem blocks_no (a b : Option Addr) (n m c d cnt : Nat) (h : ¬ (n = 32 ∧ m = 12)) (w : World)
    (c0 : Calls Tryd.prog 9 #[] w fun e w' => e = .returned (.bool true) ∧ Below w.heap.size w w') :
    Calls Tryd.prog 3 #[.slice a n c, .slice b m d, .int .u32 cnt] w fun e w' => e = .returned (.bool true) ∧ Below w.heap.size w w' := by
  have c1 := blockBad a b n m c d h (.int .u32 cnt)
  have c2 := fitsNo a b n m c d h
  have ec : ∀ w, (binOp .eql 26 (.iface 30 (.int .i64 1)) (.iface 30 (.int .i64 1))).run Tryd.prog w = .ok (.bool true) w := fun w => eql_code w 1 1
  clear h
  go_enter Tryd.func3, Tryd.ntmps3
  go_wp2_with (first | (go_at_call 9; with_reducible refine c0.mono ?_; rintro e W0 ⟨rfl, b0⟩) | (go_at_call 10; with_reducible refine (c1 _).mono ?_; rintro e W1 ⟨rfl, rfl⟩) | (go_at_call 11; with_reducible refine (c2 _).mono ?_; rintro e W2 ⟨rfl, rfl⟩))
  go_ret
  exact ⟨rfl, b0⟩

set_option maxHeartbeats 2000000 in
theorem blocks_yes (kb ko kc nb no nc cnt : Nat) (hkc : 32 ≤ kc) (hnc : 12 ≤ nc) (hcnt : cnt < 4294967296) (zk zn : Nat → Nat) (hzk : ∀ i, zk i < 256) (hzn : ∀ i, zn i < 256) (w : World) (hT : Tabs w) (hK : Bys w kb ko 32 zk) (hNn : Bys w nb no 12 zn)
    (c0 : Calls Tryd.prog 9 #[] w fun e w' => e = .returned (.bool true) ∧ Below w.heap.size w w') :
    Calls Tryd.prog 3 #[.slice (some ⟨kb, ko, none⟩) 32 kc, .slice (some ⟨nb, no, none⟩) 12 nc, .int .u32 cnt] w fun e w' => e = .returned (.bool true) ∧ Below w.heap.size w w' := by
  have c1 := fun (W : World) (hb : Below w.heap.size w W) => blockX kb ko kc nb no nc cnt hkc hnc hcnt zk zn hzk hzn W (hT.on hb) (hK.below hb hK.lt) (hNn.below hb hNn.lt)
  have c3 := fun (W : World) (hb : Below w.heap.size w W) => rblock_core kb ko kc nb no nc cnt zk zn hzk hzn hcnt W (hK.below hb hK.lt) (hNn.below hb hNn.lt)
  have c2 := fitsYes (some ⟨kb, ko, none⟩) (some ⟨nb, no, none⟩) kc nc
  unfold BlkOut at c1
  obtain ⟨D, hD⟩ : ∃ D, Hid (lowBy (Ob.chaB (wordAt zk) (wordAt zn) cnt) = D) := ⟨_, rfl⟩
  rw [hD.out] at c1 c3
  clear hD hT hK hNn hzk hzn
  go_enter Tryd.func3, Tryd.ntmps3
  go_upto_region 6 with (first | (go_at_call 9; with_reducible refine c0.mono ?_; rintro e W0 ⟨rfl, b0'⟩) | (go_at_call 10; with_reducible refine (c1 _ b0').mono ?_; rintro e W1 ⟨g1, rfl, lg1, o1, b1⟩) | (go_at_call 11; with_reducible refine (c2 _).mono ?_; rintro e W2 ⟨rfl, rfl⟩))
  have l0 := b0'.size
  have hB1 : Below w.heap.size w W1 := below_via b1 b0' l0
  have l1 := hB1.size
  have q1 := (o1.lt g1 rfl).2
  have y1 := bys_of_row o1
  have hBd : Below w.heap.size w W1.drew := hB1.drew
  have v1 := fun (W : World) (hb : Below W1.heap.size W1 W) => bys_str g1 0 64 64 D W (y1.below hb q1)
  have v2 := fun (W : World) (g cap : Nat) (hb : Bys W g 0 64 D) => bys_str g 0 64 cap D W hb
  generalize strOfNums (nums D 64) = S at v1 v2
  clear c0 c1 o1 b0' b1 y1
  have vk := fun (W : World) (hb : Below W1.heap.size W1 W) => v1 W hb
  refine wp_region_noPanic ?_
  refine region_lastly (S := (fun w' => (convert 22 9 (.slice (some ⟨g1, 0, none⟩) 64 64)).run Tryd.prog w' = .ok (.string S) w')) [] (by kernel_rfl) (by ((try dsimp only); (first | exact vk _ ((Below.refl _ _).drew) | exact vk _ (((Below.refl _ _).drew).trans b2)))) (fun hHeld => ?_)
  refine anyZ_free (i := 0) (oi := ?oi_1) (v := ?v_1) ?hi_1 ?hs_1 ?hf_1 ?hr_1 ?hQ_1 (Or.inl ⟨?hw_1, ?hy_1⟩) ?hrest_1
  case hi_1 => (simp only [List.getElem?_toArray, List.getElem?_cons_succ, List.getElem?_cons_zero]; exact rfl)
  case hs_1 => kernel_rfl
  case hf_1 => kernel_rfl
  case hr_1 => kernel_rfl
  case hQ_1 => exact fun _ _ _ h => h
  case hw_1 => rfl
  case hy_1 => (intro w _; go_simp; try with_reducible rfl)
  try simp only [Act.put, List.setIfInBounds_toArray, List.set_cons_zero, List.set_cons_succ]
  refine anyZ_free (i := 1) (oi := ?oi_2) (v := ?v_2) ?hi_2 ?hs_2 ?hf_2 ?hr_2 ?hQ_2 (Or.inl ⟨?hw_2, ?hy_2⟩) ?hrest_2
  case hi_2 => (simp only [List.getElem?_toArray, List.getElem?_cons_succ, List.getElem?_cons_zero]; exact rfl)
  case hs_2 => kernel_rfl
  case hf_2 => kernel_rfl
  case hr_2 => kernel_rfl
  case hQ_2 => exact fun _ _ _ h => h
  case hw_2 => rfl
  case hy_2 => (intro w _; go_simp; try with_reducible rfl)
  try simp only [Act.put, List.setIfInBounds_toArray, List.set_cons_zero, List.set_cons_succ]
  refine anyZ_free (i := 2) (oi := ?oi_3) (v := ?v_3) ?hi_3 ?hs_3 ?hf_3 ?hr_3 ?hQ_3 (Or.inl ⟨?hw_3, ?hy_3⟩) ?hrest_3
  case hi_3 => (simp only [List.getElem?_toArray, List.getElem?_cons_succ, List.getElem?_cons_zero]; exact rfl)
  case hs_3 => kernel_rfl
  case hf_3 => kernel_rfl
  case hr_3 => kernel_rfl
  case hQ_3 => exact fun _ _ _ h => h
  case hw_3 => rfl
  case hy_3 => (intro w _; go_simp; try with_reducible rfl)
  try simp only [Act.put, List.setIfInBounds_toArray, List.set_cons_zero, List.set_cons_succ]
  refine anyZ_free (i := 3) (oi := ?oi_4) (v := ?v_4) ?hi_4 ?hs_4 ?hf_4 ?hr_4 ?hQ_4 (Or.inl ⟨?hw_4, ?hy_4⟩) ?hrest_4
  case hi_4 => (simp only [List.getElem?_toArray, List.getElem?_cons_succ, List.getElem?_cons_zero]; exact rfl)
  case hs_4 => kernel_rfl
  case hf_4 => kernel_rfl
  case hr_4 => kernel_rfl
  case hQ_4 => exact fun _ _ _ h => h
  case hw_4 => rfl
  case hy_4 => (intro w _; go_simp; try with_reducible rfl)
  try simp only [Act.put, List.setIfInBounds_toArray, List.set_cons_zero, List.set_cons_succ]
  refine anyZ_free (i := 4) (oi := ?oi_5) (v := ?v_5) ?hi_5 ?hs_5 ?hf_5 ?hr_5 ?hQ_5 (Or.inl ⟨?hw_5, ?hy_5⟩) ?hrest_5
  case hi_5 => (simp only [List.getElem?_toArray, List.getElem?_cons_succ, List.getElem?_cons_zero]; exact rfl)
  case hs_5 => kernel_rfl
  case hf_5 => kernel_rfl
  case hr_5 => kernel_rfl
  case hQ_5 => exact fun _ _ _ h => h
  case hw_5 => rfl
  case hy_5 => (intro w _; go_simp; try with_reducible rfl)
  try simp only [Act.put, List.setIfInBounds_toArray, List.set_cons_zero, List.set_cons_succ]
  refine anyZ_free (i := 5) (oi := ?oi_6) (v := ?v_6) ?hi_6 ?hs_6 ?hf_6 ?hr_6 ?hQ_6 (Or.inl ⟨?hw_6, ?hy_6⟩) ?hrest_6
  case hi_6 => (simp only [List.getElem?_toArray, List.getElem?_cons_succ, List.getElem?_cons_zero]; exact rfl)
  case hs_6 => kernel_rfl
  case hf_6 => kernel_rfl
  case hr_6 => kernel_rfl
  case hQ_6 => exact fun _ _ _ h => h
  case hw_6 => rfl
  case hy_6 => (intro w _; go_simp; try with_reducible rfl)
  try simp only [Act.put, List.setIfInBounds_toArray, List.set_cons_zero, List.set_cons_succ]
  refine anyZ_free (i := 6) (oi := ?oi_7) (v := ?v_7) ?hi_7 ?hs_7 ?hf_7 ?hr_7 ?hQ_7 (Or.inl ⟨?hw_7, ?hy_7⟩) ?hrest_7
  case hi_7 => (simp only [List.getElem?_toArray, List.getElem?_cons_succ, List.getElem?_cons_zero]; exact rfl)
  case hs_7 => kernel_rfl
  case hf_7 => kernel_rfl
  case hr_7 => kernel_rfl
  case hQ_7 => exact fun _ _ _ h => h
  case hw_7 => rfl
  case hy_7 => (intro w _; go_simp; try with_reducible rfl)
  try simp only [Act.put, List.setIfInBounds_toArray, List.set_cons_zero, List.set_cons_succ]
  refine anyZ_take (i := 7) (oi := ?oi_8) (v := ?v_8) ?hi_8 ?hz_8 ?hs_8 ?hf_8 ?hr_8 ?hQ_8 (Or.inl ⟨?hw_8, ?hy_8⟩) ?hS_8 ?hrest_8
  case hi_8 => (simp only [List.getElem?_toArray, List.getElem?_cons_succ, List.getElem?_cons_zero]; exact rfl)
  case hz_8 => kernel_rfl
  case hs_8 => kernel_rfl
  case hf_8 => kernel_rfl
  case hr_8 => kernel_rfl
  case hQ_8 => exact fun _ _ _ h => h
  case hw_8 => rfl
  case hS_8 => assumption
  case hy_8 => (intro w hSw; (try dsimp only at hSw); go_simp; try with_reducible rfl)
  try simp only [Act.put, List.setIfInBounds_toArray, List.set_cons_zero, List.set_cons_succ]
  refine anyZ_free (i := 8) (oi := ?oi_9) (v := ?v_9) ?hi_9 ?hs_9 ?hf_9 ?hr_9 ?hQ_9 (Or.inl ⟨?hw_9, ?hy_9⟩) ?hrest_9
  case hi_9 => (simp only [List.getElem?_toArray, List.getElem?_cons_succ, List.getElem?_cons_zero]; exact rfl)
  case hs_9 => kernel_rfl
  case hf_9 => kernel_rfl
  case hr_9 => kernel_rfl
  case hQ_9 => exact fun _ _ _ h => h
  case hw_9 => rfl
  case hy_9 => (intro w _; go_simp; try with_reducible rfl)
  try simp only [Act.put, List.setIfInBounds_toArray, List.set_cons_zero, List.set_cons_succ]
  refine anyZ_free (i := 9) (oi := ?oi_10) (v := ?v_10) ?hi_10 ?hs_10 ?hf_10 ?hr_10 ?hQ_10 (Or.inl ⟨?hw_10, ?hy_10⟩) ?hrest_10
  case hi_10 => (simp only [List.getElem?_toArray, List.getElem?_cons_succ, List.getElem?_cons_zero]; exact rfl)
  case hs_10 => kernel_rfl
  case hf_10 => kernel_rfl
  case hr_10 => kernel_rfl
  case hQ_10 => exact fun _ _ _ h => h
  case hw_10 => rfl
  case hy_10 => (intro w _; go_simp; try with_reducible rfl)
  try simp only [Act.put, List.setIfInBounds_toArray, List.set_cons_zero, List.set_cons_succ]
  refine anyZ_free (i := 10) (oi := ?oi_11) (v := ?v_11) ?hi_11 ?hs_11 ?hf_11 ?hr_11 ?hQ_11 (Or.inl ⟨?hw_11, ?hy_11⟩) ?hrest_11
  case hi_11 => (simp only [List.getElem?_toArray, List.getElem?_cons_succ, List.getElem?_cons_zero]; exact rfl)
  case hs_11 => kernel_rfl
  case hf_11 => kernel_rfl
  case hr_11 => kernel_rfl
  case hQ_11 => exact fun _ _ _ h => h
  case hw_11 => rfl
  case hy_11 => (intro w _; go_simp; try with_reducible rfl)
  try simp only [Act.put, List.setIfInBounds_toArray, List.set_cons_zero, List.set_cons_succ]
  refine anyZ_ready (rs := [11]) (by kernel_rfl) (by simp) ?_
  refine (AllZ.cons (o := ?o_12) ?ho_12 (fun K hK => ?st_12) AllZ.nil)
  case ho_12 => (simp only [List.getElem?_toArray, List.getElem?_cons_succ, List.getElem?_cons_zero]; exact rfl)
  case st_12 =>
    go_simp
    (go_at_call 12; with_reducible refine (c3 _ hBd).mono ?_; rintro e W2 ⟨g2, cap2, rfl, lg2, y2, b2, _⟩; have e2 := v2 W2 g2 cap2 y2)
    refine hK.out _ _ (by ((try dsimp only); (first | exact vk _ ((Below.refl _ _).drew) | exact vk _ (((Below.refl _ _).drew).trans b2)))) (fun hHeld => ?_)
    clear hK K
    try simp only [Act.put, List.setIfInBounds_toArray, List.set_cons_zero, List.set_cons_succ]
    refine anyZ_ready (rs := [12]) (by kernel_rfl) (by simp) ?_
    refine (AllZ.cons (o := ?o_13) ?ho_13 (fun K hK => ?st_13) AllZ.nil)
    case ho_13 => (simp only [List.getElem?_toArray, List.getElem?_cons_succ, List.getElem?_cons_zero]; exact rfl)
    case st_13 =>
      go_simp
      refine hK.out _ _ (by ((try dsimp only); (first | exact vk _ ((Below.refl _ _).drew) | exact vk _ (((Below.refl _ _).drew).trans b2)))) (fun hHeld => ?_)
      clear hK K
      try simp only [Act.put, List.setIfInBounds_toArray, List.set_cons_zero, List.set_cons_succ]
      refine anyZ_free (i := 13) (oi := ?oi_14) (v := ?v_14) ?hi_14 ?hs_14 ?hf_14 ?hr_14 ?hQ_14 (Or.inl ⟨?hw_14, ?hy_14⟩) ?hrest_14
      case hi_14 => (simp only [List.getElem?_toArray, List.getElem?_cons_succ, List.getElem?_cons_zero]; exact rfl)
      case hs_14 => kernel_rfl
      case hf_14 => kernel_rfl
      case hr_14 => kernel_rfl
      case hQ_14 => exact fun _ _ _ h => h
      case hw_14 => rfl
      case hy_14 => (intro w _; go_simp; try with_reducible rfl)
      try simp only [Act.put, List.setIfInBounds_toArray, List.set_cons_zero, List.set_cons_succ]
      refine anyZ_free (i := 14) (oi := ?oi_15) (v := ?v_15) ?hi_15 ?hs_15 ?hf_15 ?hr_15 ?hQ_15 (Or.inl ⟨?hw_15, ?hy_15⟩) ?hrest_15
      case hi_15 => (simp only [List.getElem?_toArray, List.getElem?_cons_succ, List.getElem?_cons_zero]; exact rfl)
      case hs_15 => kernel_rfl
      case hf_15 => kernel_rfl
      case hr_15 => kernel_rfl
      case hQ_15 => exact fun _ _ _ h => h
      case hw_15 => rfl
      case hy_15 => (intro w _; go_simp; try with_reducible rfl)
      try simp only [Act.put, List.setIfInBounds_toArray, List.set_cons_zero, List.set_cons_succ]
      refine anyZ_free (i := 15) (oi := ?oi_16) (v := ?v_16) ?hi_16 ?hs_16 ?hf_16 ?hr_16 ?hQ_16 (Or.inl ⟨?hw_16, ?hy_16⟩) ?hrest_16
      case hi_16 => (simp only [List.getElem?_toArray, List.getElem?_cons_succ, List.getElem?_cons_zero]; exact rfl)
      case hs_16 => kernel_rfl
      case hf_16 => kernel_rfl
      case hr_16 => kernel_rfl
      case hQ_16 => exact fun _ _ _ h => h
      case hw_16 => rfl
      case hy_16 => (intro w _; go_simp; try with_reducible rfl)
      try simp only [Act.put, List.setIfInBounds_toArray, List.set_cons_zero, List.set_cons_succ]
      refine anyZ_done (by kernel_rfl) ?_ _
      refine NoPanic.normal ?_
      have hB2 : Below w.heap.size w W2 := below_via b2 hBd l1
      clear v1 v2 vk c2 hHeld y2 e2
      go_wp2
      go_ret
      exact ⟨rfl, hB2⟩

theorem cipherBlocks_walk (a : Option Addr) (n c : Nat) (zs : List Int) (b : Option Addr) (m d : Nat) (ys : List Int) (x : Int) (w : World) (h : IsRow .u8 w a n c zs) (h2 : IsRow .u8 w b m d ys) (hx : (Lit.int .u32 x).wf = true) (hT : Tabs w) :
    Calls Tryd.prog 3 #[.slice a n c, .slice b m d, .int .u32 x] w fun e w' => e = .returned (.bool true) ∧ Below w.heap.size w w' := by
  obtain ⟨z, hz, hS, g1, _⟩ := src_of_isRow h
  obtain ⟨y, hy, hS2, g2, _⟩ := src_of_isRow h2
  obtain ⟨cnt, rfl, hcnt⟩ : ∃ k : Nat, x = (k : Int) ∧ k < 4294967296 := by
    have := bounds_u32 hx
    exact ⟨x.toNat, by omega, by omega⟩
  have hu := upW w hT
  by_cases hok : n = 32 ∧ m = 12
  · obtain ⟨rfl, rfl⟩ := hok
    obtain ⟨b1, o1, rfl, y1⟩ := hS.some (by decide)
    obtain ⟨b2, o2, rfl, y2⟩ := hS2.some (by decide)
    exact blocks_yes b1 o1 c b2 o2 d cnt g1 g2 hcnt z y hz hy w hT y1 y2 hu
  · exact blocks_no a b n m c d cnt hok w hu
end Go.Proofs.YtdaonbfdcpkipaaDoor
