/-
  Joined texts: Package cipher, walked: summing. Package cipher's tables. Package cipher, walked: rolling, half a quarter, all quarters once.
-/
import Derived.Test.YtdaonbfdcpkipaaDoorJ7
import Derived.Test.YtdaonbfdcpkipaaDoorJ6

namespace Go.Proofs.YtdaonbfdcpkipaaDoor
open Go.RowKit Go.Proofs
set_option linter.unusedVariables false
set_option linter.unusedSimpArgs false
attribute [local go_sem ↓] Go.wp_at_zero Go.wp_at_succ

/-- make([]byte, 0, 16). -/
theorem make_room16 (w : World) : ∃ w', (Instr.makeSlice 22 (.int .i64 0) (.int .i64 16)).run Tryd.prog w = .ok (.slice (some ⟨w.heap.size, 0, none⟩) 0 16) w' ∧ Hid (Arr w' .u8 w.heap.size 16 (fun _ => 0)) ∧ Below w.heap.size w w' ∧ w'.heap.size = w.heap.size + 1 := by
  obtain ⟨i0, hi, hz1, hz2, hz0⟩ := byteInfo
  have h := run_make (P := Tryd.prog) w 22 5 i0 _ Tryd.underlying22 hi hz0 .i64 .i64 0 16 (by omega) (by omega) (by rw [hz2]; omega) (by omega)
  rw [hz1] at h
  have e : madeCells (Value.int .u8 0).cells (Int.toNat 16 * 1) = (arrL .u8 (fun _ => 0) 16).toArray := by
    apply Array.ext'
    simp [madeCells, Value.cells, Nat.mod_one, arrL]
  rw [e] at h
  exact ⟨_, h, Arr.new rfl, (Below.refl _ _).alloc (Nat.le_refl _) _, World.size_alloc _ _⟩
theorem Arr.new2z {w : World} {t : TypeId} : Arr (w.alloc (.cells #[.int .u64 0, .int .u64 0] t)) .u64 w.heap.size 2 (fun _ => 0) := Arr.new (k := .u64) (n := 2) (v := fun _ => 0) rfl

def keyR (z : Nat → Nat) : Nat → Nat := Ob.w2 (Ob.lowN (Ob.clD z) 8) (Ob.lowN (fun j => Ob.clD z (8 + j)) 8)
def keyS (z : Nat → Nat) : Nat → Nat := Ob.w3 (Ob.lowN (fun j => z (16 + j)) 8) (Ob.lowN (fun j => z (24 + j)) 8) 0
theorem keyS_lt {z : Nat → Nat} (hz : ∀ i, z i < 256) (i : Nat) : keyS z i < 18446744073709551616 := Ob.w3_lt (low64 fun j => hz _) (low64 fun j => hz _) (by decide) i

set_option maxHeartbeats 4000000 in
theorem summing_core (kb ko kc : Nat) (hkc : 32 ≤ kc) (zk Z : Nat → Nat) (hzk : ∀ i, zk i < 256) (w : World) (hK : Bys w kb ko 32 zk) :
    Calls Tryd.prog 24 #[.slice (some ⟨kb, ko, none⟩) 32 kc] w fun e w' => e = .returned (.tuple #[.func (.func 37) #[] #[.pointer (some ⟨w.heap.size + 4, 0, none⟩), .pointer (some ⟨w.heap.size + 2, 0, none⟩), .pointer (some ⟨w.heap.size, 0, none⟩)], .func (.func 39) #[] #[.pointer (some ⟨w.heap.size + 2, 0, none⟩), .pointer (some ⟨w.heap.size + 4, 0, none⟩), .pointer (some ⟨w.heap.size, 0, none⟩), .pointer (some ⟨w.heap.size + 1, 0, none⟩)]]) ∧ Stt w' w.heap.size (keyR zk) (keyS zk) (Ob.valD (Ob.clD zk) 16) Z 0 ∧ Below w.heap.size w w' := by
  have hkeyB : ∀ o, o + 8 ≤ 32 → ∀ W, Below w.heap.size w W → Bys W kb (ko + o) 8 (fun j => zk (o + j)) := fun o ho W h => (hK.below h hK.lt).more o 8 ho
  have c0 : ∀ W, Below w.heap.size w W → ∀ cp, Calls Tryd.prog 36 #[.slice (some ⟨kb, ko, none⟩) 8 cp] W fun e w' => e = .returned (.int .u64 (Ob.lowN zk 8 : Nat)) ∧ W = w' := fun W h cp => by
    have := lowNumberW kb ko 8 cp (by decide) zk hzk W ((hK.below h hK.lt).less (by decide))
    exact this
  have c1 : ∀ W, Below w.heap.size w W → ∀ cp, Calls Tryd.prog 36 #[.slice (some ⟨kb, ko + 8, none⟩) 8 cp] W fun e w' => e = .returned (.int .u64 (Ob.lowN (fun j => zk (8 + j)) 8 : Nat)) ∧ W = w' := fun W h cp => lowNumberW kb (ko + 8) 8 cp (by decide) _ (fun j => hzk _) W (hkeyB 8 (by decide) W h)
  have c2 : ∀ W, Below w.heap.size w W → ∀ cp, Calls Tryd.prog 36 #[.slice (some ⟨kb, ko + 16, none⟩) 8 cp] W fun e w' => e = .returned (.int .u64 (Ob.lowN (fun j => zk (16 + j)) 8 : Nat)) ∧ W = w' := fun W h cp => lowNumberW kb (ko + 16) 8 cp (by decide) _ (fun j => hzk _) W (hkeyB 16 (by decide) W h)
  have c3 : ∀ W, Below w.heap.size w W → ∀ cp, Calls Tryd.prog 36 #[.slice (some ⟨kb, ko + 24, none⟩) 8 cp] W fun e w' => e = .returned (.int .u64 (Ob.lowN (fun j => zk (24 + j)) 8 : Nat)) ∧ W = w' := fun W h cp => lowNumberW kb (ko + 24) 8 cp (by decide) _ (fun j => hzk _) W (hkeyB 24 (by decide) W h)
  have a0 : bits .and .u64 ((Ob.lowN zk 8 : Nat) : Int) 1152921487695413247 = ((Ob.lowN (Ob.clD zk) 8 : Nat) : Int) := by
    have := bits_and_u64_nat (Ob.lowN zk 8) 1152921487695413247 (low64 hzk) (by decide)
    rw [Ob.key_low hzk] at this
    exact this
  have a1 : bits .and .u64 ((Ob.lowN (fun j => zk (8 + j)) 8 : Nat) : Int) 1152921487695413244 = ((Ob.lowN (fun j => Ob.clD zk (8 + j)) 8 : Nat) : Int) := by
    have := bits_and_u64_nat (Ob.lowN (fun j => zk (8 + j)) 8) 1152921487695413244 (low64 fun j => hzk _) (by decide)
    rw [Ob.key_high hzk] at this
    exact this
  have hrl : Hid ((arrL .u64 (keyR zk) 2).toArray = #[.int .u64 (Ob.lowN (Ob.clD zk) 8 : Nat), .int .u64 (Ob.lowN (fun j => Ob.clD zk (8 + j)) 8 : Nat)]) := rfl
  have hsl : Hid ((arrL .u64 (keyS zk) 3).toArray = #[.int .u64 (Ob.lowN (fun j => zk (16 + j)) 8 : Nat), .int .u64 (Ob.lowN (fun j => zk (24 + j)) 8 : Nat), .int .u64 0]) := rfl
  have k0 : (32 : Int) ≤ (kc : Int) := by omega
  have k1 : (8 : Int) ≤ (kc : Int) := by omega
  have k2 : (16 : Int) ≤ (kc : Int) := by omega
  have k3 : (24 : Int) ≤ (kc : Int) := by omega
  have k4 : kc ≠ 8 := by omega
  have k5 : kc ≠ 16 := by omega
  have k6 : kc ≠ 24 := by omega
  obtain ⟨x0, hx0⟩ : ∃ x, Hid (Ob.lowN zk 8 = x) := ⟨_, rfl⟩
  obtain ⟨x1, hx1⟩ : ∃ x, Hid (Ob.lowN (fun j => zk (8 + j)) 8 = x) := ⟨_, rfl⟩
  obtain ⟨x2, hx2⟩ : ∃ x, Hid (Ob.lowN (fun j => zk (16 + j)) 8 = x) := ⟨_, rfl⟩
  obtain ⟨x3, hx3⟩ : ∃ x, Hid (Ob.lowN (fun j => zk (24 + j)) 8 = x) := ⟨_, rfl⟩
  obtain ⟨y0, hy0⟩ : ∃ x, Hid (Ob.lowN (Ob.clD zk) 8 = x) := ⟨_, rfl⟩
  obtain ⟨y1, hy1⟩ : ∃ x, Hid (Ob.lowN (fun j => Ob.clD zk (8 + j)) 8 = x) := ⟨_, rfl⟩
  rw [hx0.out] at c0 a0
  rw [hx1.out] at c1 a1
  rw [hx2.out] at c2 hsl
  rw [hx3.out] at c3 hsl
  rw [hy0.out] at a0 hrl
  rw [hy1.out] at a1 hrl
  clear hx0 hx1 hx2 hx3 hy0 hy1 hkeyB hzk hK
  obtain ⟨R, hR⟩ : ∃ R, Hid (Ob.valD (Ob.clD zk) 16 = R) := ⟨_, rfl⟩
  obtain ⟨r, hr⟩ : ∃ R, Hid (keyR zk = R) := ⟨_, rfl⟩
  obtain ⟨s, hs⟩ : ∃ R, Hid (keyS zk = R) := ⟨_, rfl⟩
  rw [hr.out] at hrl
  rw [hs.out] at hsl
  rw [hR.out, hr.out, hs.out]
  clear hR hr hs
  have hBr : Below w.heap.size w w := Below.refl _ _
  go_enter Tryd.func24, Tryd.ntmps24
  go_upto_region 1 with (fail)
  refine wp_region_noPanic ?_
  refine region_lastly (S := (fun w' => True)) [10] (by kernel_rfl) (by ((try dsimp only); (all_goals exact True.intro))) (fun hHeld => ?_)
  refine anyZ_free (i := 0) (oi := ?oi_1) (v := ?v_1) ?hi_1 ?hs_1 ?hf_1 ?hr_1 ?hQ_1 (Or.inl ⟨?hw_1, ?hy_1⟩) ?hrest_1
  case hi_1 => (simp only [List.getElem?_toArray, List.getElem?_cons_succ, List.getElem?_cons_zero]; exact rfl)
  case hs_1 => kernel_rfl
  case hf_1 => kernel_rfl
  case hr_1 => kernel_rfl
  case hQ_1 => exact fun _ _ _ h => h
  case hw_1 => rfl
  case hy_1 => (intro w _; go_simp; try with_reducible rfl)
  try simp only [Act.put, List.setIfInBounds_toArray, List.set_cons_zero, List.set_cons_succ]
  refine anyZ_free (i := 1) (oi := ?oi_2) (v := ?v_2) ?hi_2 ?hs_2 ?hf_2 ?hr_2 ?hQ_2 (Or.inl ⟨?hw_2, ?hy_2⟩) ?hrest_2
  case hi_2 => (simp only [List.getElem?_toArray, List.getElem?_cons_succ, List.getElem?_cons_zero]; exact rfl)
  case hs_2 => kernel_rfl
  case hf_2 => kernel_rfl
  case hr_2 => kernel_rfl
  case hQ_2 => exact fun _ _ _ h => h
  case hw_2 => rfl
  case hy_2 => (intro w _; go_simp; try with_reducible rfl)
  try simp only [Act.put, List.setIfInBounds_toArray, List.set_cons_zero, List.set_cons_succ]
  refine anyZ_free (i := 4) (oi := ?oi_3) (v := ?v_3) ?hi_3 ?hs_3 ?hf_3 ?hr_3 ?hQ_3 (Or.inl ⟨?hw_3, ?hy_3⟩) ?hrest_3
  case hi_3 => (simp only [List.getElem?_toArray, List.getElem?_cons_succ, List.getElem?_cons_zero]; exact rfl)
  case hs_3 => kernel_rfl
  case hf_3 => kernel_rfl
  case hr_3 => kernel_rfl
  case hQ_3 => exact fun _ _ _ h => h
  case hw_3 => rfl
  case hy_3 => (intro w _; go_simp; try with_reducible rfl)
  try simp only [Act.put, List.setIfInBounds_toArray, List.set_cons_zero, List.set_cons_succ]
  refine anyZ_free (i := 5) (oi := ?oi_4) (v := ?v_4) ?hi_4 ?hs_4 ?hf_4 ?hr_4 ?hQ_4 (Or.inl ⟨?hw_4, ?hy_4⟩) ?hrest_4
  case hi_4 => (simp only [List.getElem?_toArray, List.getElem?_cons_succ, List.getElem?_cons_zero]; exact rfl)
  case hs_4 => kernel_rfl
  case hf_4 => kernel_rfl
  case hr_4 => kernel_rfl
  case hQ_4 => exact fun _ _ _ h => h
  case hw_4 => rfl
  case hy_4 => (intro w _; go_simp; try with_reducible rfl)
  try simp only [Act.put, List.setIfInBounds_toArray, List.set_cons_zero, List.set_cons_succ]
  refine anyZ_ready (rs := [2, 9]) (by kernel_rfl) (by simp) ?_
  refine (AllZ.cons (o := ?o_6) ?ho_6 (fun K hK => ?st_6) (AllZ.cons (o := ?o_5) ?ho_5 (fun K hK => ?st_5) AllZ.nil))
  case ho_6 => (simp only [List.getElem?_toArray, List.getElem?_cons_succ, List.getElem?_cons_zero]; exact rfl)
  case ho_5 => (simp only [List.getElem?_toArray, List.getElem?_cons_succ, List.getElem?_cons_zero]; exact rfl)
  case st_6 =>
    go_simp
    (go_at_call 36; with_reducible refine (c0 _ (by (repeat' (first | (with_reducible first | exact Below.refl _ _ | assumption | refine Below.alloc ?_ ?_ _ | refine Below.drew ?_ | refine below_drewN ?_ _ | refine Below.setCell ?_ ?_ _ | refine below_via (by with_reducible assumption) ?_ ?_) | omega | (simp only [szs]; omega) | (simp only [szs] at *; omega)))) _).mono ?_; rintro e w' ⟨rfl, rfl⟩)
    refine hK.out _ _ (by ((try dsimp only); (all_goals exact True.intro))) (fun hHeld => ?_)
    clear hK K
    try simp only [Act.put, List.setIfInBounds_toArray, List.set_cons_zero, List.set_cons_succ]
    refine anyZ_free (i := 3) (oi := ?oi_7) (v := ?v_7) ?hi_7 ?hs_7 ?hf_7 ?hr_7 ?hQ_7 (Or.inl ⟨?hw_7, ?hy_7⟩) ?hrest_7
    case hi_7 => (simp only [List.getElem?_toArray, List.getElem?_cons_succ, List.getElem?_cons_zero]; exact rfl)
    case hs_7 => kernel_rfl
    case hf_7 => kernel_rfl
    case hr_7 => kernel_rfl
    case hQ_7 => exact fun _ _ _ h => h
    case hw_7 => rfl
    case hy_7 => (intro w _; go_simp; try with_reducible rfl)
    try simp only [Act.put, List.setIfInBounds_toArray, List.set_cons_zero, List.set_cons_succ]
    refine anyZ_ready (rs := [6, 9]) (by kernel_rfl) (by simp) ?_
    refine (AllZ.cons (o := ?o_9) ?ho_9 (fun K hK => ?st_9) (AllZ.cons (o := ?o_8) ?ho_8 (fun K hK => ?st_8) AllZ.nil))
    case ho_9 => (simp only [List.getElem?_toArray, List.getElem?_cons_succ, List.getElem?_cons_zero]; exact rfl)
    case ho_8 => (simp only [List.getElem?_toArray, List.getElem?_cons_succ, List.getElem?_cons_zero]; exact rfl)
    case st_9 =>
      go_simp
      (go_at_call 36; with_reducible refine (c1 _ (by (repeat' (first | (with_reducible first | exact Below.refl _ _ | assumption | refine Below.alloc ?_ ?_ _ | refine Below.drew ?_ | refine below_drewN ?_ _ | refine Below.setCell ?_ ?_ _ | refine below_via (by with_reducible assumption) ?_ ?_) | omega | (simp only [szs]; omega) | (simp only [szs] at *; omega)))) _).mono ?_; rintro e w' ⟨rfl, rfl⟩)
      refine hK.out _ _ (by ((try dsimp only); (all_goals exact True.intro))) (fun hHeld => ?_)
      clear hK K
      try simp only [Act.put, List.setIfInBounds_toArray, List.set_cons_zero, List.set_cons_succ]
      refine anyZ_free (i := 7) (oi := ?oi_10) (v := ?v_10) ?hi_10 ?hs_10 ?hf_10 ?hr_10 ?hQ_10 (Or.inl ⟨?hw_10, ?hy_10⟩) ?hrest_10
      case hi_10 => (simp only [List.getElem?_toArray, List.getElem?_cons_succ, List.getElem?_cons_zero]; exact rfl)
      case hs_10 => kernel_rfl
      case hf_10 => kernel_rfl
      case hr_10 => kernel_rfl
      case hQ_10 => exact fun _ _ _ h => h
      case hw_10 => rfl
      case hy_10 => (intro w _; go_simp; try with_reducible rfl)
      try simp only [Act.put, List.setIfInBounds_toArray, List.set_cons_zero, List.set_cons_succ]
      refine anyZ_free (i := 8) (oi := ?oi_11) (v := ?v_11) ?hi_11 ?hs_11 ?hf_11 ?hr_11 ?hQ_11 (Or.inl ⟨?hw_11, ?hy_11⟩) ?hrest_11
      case hi_11 => (simp only [List.getElem?_toArray, List.getElem?_cons_succ, List.getElem?_cons_zero]; exact rfl)
      case hs_11 => kernel_rfl
      case hf_11 => kernel_rfl
      case hr_11 => kernel_rfl
      case hQ_11 => exact fun _ _ _ h => h
      case hw_11 => rfl
      case hy_11 => (intro w _; go_simp; try with_reducible rfl)
      try simp only [Act.put, List.setIfInBounds_toArray, List.set_cons_zero, List.set_cons_succ]
      refine anyZ_ready (rs := [9]) (by kernel_rfl) (by simp) ?_
      refine (AllZ.cons (o := ?o_12) ?ho_12 (fun K hK => ?st_12) AllZ.nil)
      case ho_12 => (simp only [List.getElem?_toArray, List.getElem?_cons_succ, List.getElem?_cons_zero]; exact rfl)
      case st_12 =>
        go_simp
        refine hK.out _ _ (by ((try dsimp only); (all_goals exact True.intro))) (fun hHeld => ?_)
        clear hK K
        try simp only [Act.put, List.setIfInBounds_toArray, List.set_cons_zero, List.set_cons_succ]
        refine anyZ_ready (rs := [10]) (by kernel_rfl) (by simp) ?_
        refine (AllZ.last (o := ?o_13) ?ho_13 (by rfl) (fun K hK => ?st_13) AllZ.nil)
        case ho_13 => (simp only [List.getElem?_toArray, List.getElem?_cons_succ, List.getElem?_cons_zero]; exact rfl)
        case st_13 =>
          rw [if_pos (by rfl)]; refine wp_storeArr 61 _ _ rfl _ rfl r (by rw [hrl.out]; rfl) (v := fun _ => 0) (by (repeat' (first | exact Arr.new2z | (with_reducible refine Arr.drew ?_)))) (by kernel_rfl) ?_; intro W1 hWn tR1 zWn
          refine hK.out _ _ ?_
          clear hK K
          try simp only [Act.put, List.setIfInBounds_toArray, List.set_cons_zero, List.set_cons_succ]
          refine anyZ_done (by kernel_rfl) ?_ _
          refine NoPanic.normal ?_
          have hB1 : Below w.heap.size w W1 := by
            rw [hWn.out]
            refine below_setCells ?_ (Nat.le_refl _) _ _
            (repeat' (first | (with_reducible first | exact Below.refl _ _ | assumption | refine Below.alloc ?_ ?_ _ | refine Below.drew ?_ | refine below_drewN ?_ _ | refine Below.setCell ?_ ?_ _ | refine below_via (by with_reducible assumption) ?_ ?_) | omega | (simp only [szs]; omega) | (simp only [szs] at *; omega)))
          have l1 : Hid (W1.heap.size = w.heap.size + 1) := by show _ = _; rw [zWn]; simp
          have t1 : Hid (Arr W1 .u64 w.heap.size 2 r) := tR1
          have lw1 : w.heap.size ≤ W1.heap.size := by have := l1.out; omega
          clear hWn zWn tR1 hHeld
          go_upto_region 2 with (fail)
          refine wp_region_noPanic ?_
          refine region_lastly (S := (fun w' => True)) [8] (by kernel_rfl) (by ((try dsimp only); (all_goals exact True.intro))) (fun hHeld => ?_)
          refine anyZ_free (i := 0) (oi := ?oi_24) (v := ?v_24) ?hi_24 ?hs_24 ?hf_24 ?hr_24 ?hQ_24 (Or.inl ⟨?hw_24, ?hy_24⟩) ?hrest_24
          case hi_24 => (simp only [List.getElem?_toArray, List.getElem?_cons_succ, List.getElem?_cons_zero]; exact rfl)
          case hs_24 => kernel_rfl
          case hf_24 => kernel_rfl
          case hr_24 => kernel_rfl
          case hQ_24 => exact fun _ _ _ h => h
          case hw_24 => rfl
          case hy_24 => (intro w _; go_simp; try with_reducible rfl)
          try simp only [Act.put, List.setIfInBounds_toArray, List.set_cons_zero, List.set_cons_succ]
          refine anyZ_free (i := 1) (oi := ?oi_25) (v := ?v_25) ?hi_25 ?hs_25 ?hf_25 ?hr_25 ?hQ_25 (Or.inl ⟨?hw_25, ?hy_25⟩) ?hrest_25
          case hi_25 => (simp only [List.getElem?_toArray, List.getElem?_cons_succ, List.getElem?_cons_zero]; exact rfl)
          case hs_25 => kernel_rfl
          case hf_25 => kernel_rfl
          case hr_25 => kernel_rfl
          case hQ_25 => exact fun _ _ _ h => h
          case hw_25 => rfl
          case hy_25 => (intro w _; go_simp; try with_reducible rfl)
          try simp only [Act.put, List.setIfInBounds_toArray, List.set_cons_zero, List.set_cons_succ]
          refine anyZ_free (i := 3) (oi := ?oi_26) (v := ?v_26) ?hi_26 ?hs_26 ?hf_26 ?hr_26 ?hQ_26 (Or.inl ⟨?hw_26, ?hy_26⟩) ?hrest_26
          case hi_26 => (simp only [List.getElem?_toArray, List.getElem?_cons_succ, List.getElem?_cons_zero]; exact rfl)
          case hs_26 => kernel_rfl
          case hf_26 => kernel_rfl
          case hr_26 => kernel_rfl
          case hQ_26 => exact fun _ _ _ h => h
          case hw_26 => rfl
          case hy_26 => (intro w _; go_simp; try with_reducible rfl)
          try simp only [Act.put, List.setIfInBounds_toArray, List.set_cons_zero, List.set_cons_succ]
          refine anyZ_free (i := 4) (oi := ?oi_27) (v := ?v_27) ?hi_27 ?hs_27 ?hf_27 ?hr_27 ?hQ_27 (Or.inl ⟨?hw_27, ?hy_27⟩) ?hrest_27
          case hi_27 => (simp only [List.getElem?_toArray, List.getElem?_cons_succ, List.getElem?_cons_zero]; exact rfl)
          case hs_27 => kernel_rfl
          case hf_27 => kernel_rfl
          case hr_27 => kernel_rfl
          case hQ_27 => exact fun _ _ _ h => h
          case hw_27 => rfl
          case hy_27 => (intro w _; go_simp; try with_reducible rfl)
          try simp only [Act.put, List.setIfInBounds_toArray, List.set_cons_zero, List.set_cons_succ]
          refine anyZ_ready (rs := [2, 7]) (by kernel_rfl) (by simp) ?_
          refine (AllZ.cons (o := ?o_29) ?ho_29 (fun K hK => ?st_29) (AllZ.cons (o := ?o_28) ?ho_28 (fun K hK => ?st_28) AllZ.nil))
          case ho_29 => (simp only [List.getElem?_toArray, List.getElem?_cons_succ, List.getElem?_cons_zero]; exact rfl)
          case ho_28 => (simp only [List.getElem?_toArray, List.getElem?_cons_succ, List.getElem?_cons_zero]; exact rfl)
          case st_29 =>
            go_simp
            (go_at_call 36; with_reducible refine (c2 _ (by (repeat' (first | (with_reducible first | exact Below.refl _ _ | assumption | refine Below.alloc ?_ ?_ _ | refine Below.drew ?_ | refine below_drewN ?_ _ | refine Below.setCell ?_ ?_ _ | refine below_via (by with_reducible assumption) ?_ ?_) | omega | (simp only [szs]; omega) | (simp only [szs] at *; omega)))) _).mono ?_; rintro e w' ⟨rfl, rfl⟩)
            refine hK.out _ _ (by ((try dsimp only); (all_goals exact True.intro))) (fun hHeld => ?_)
            clear hK K
            try simp only [Act.put, List.setIfInBounds_toArray, List.set_cons_zero, List.set_cons_succ]
            refine anyZ_ready (rs := [5, 7]) (by kernel_rfl) (by simp) ?_
            refine (AllZ.cons (o := ?o_31) ?ho_31 (fun K hK => ?st_31) (AllZ.cons (o := ?o_30) ?ho_30 (fun K hK => ?st_30) AllZ.nil))
            case ho_31 => (simp only [List.getElem?_toArray, List.getElem?_cons_succ, List.getElem?_cons_zero]; exact rfl)
            case ho_30 => (simp only [List.getElem?_toArray, List.getElem?_cons_succ, List.getElem?_cons_zero]; exact rfl)
            case st_31 =>
              go_simp
              (go_at_call 36; with_reducible refine (c3 _ (by (repeat' (first | (with_reducible first | exact Below.refl _ _ | assumption | refine Below.alloc ?_ ?_ _ | refine Below.drew ?_ | refine below_drewN ?_ _ | refine Below.setCell ?_ ?_ _ | refine below_via (by with_reducible assumption) ?_ ?_) | omega | (simp only [szs]; omega) | (simp only [szs] at *; omega)))) _).mono ?_; rintro e w' ⟨rfl, rfl⟩)
              refine hK.out _ _ (by ((try dsimp only); (all_goals exact True.intro))) (fun hHeld => ?_)
              clear hK K
              try simp only [Act.put, List.setIfInBounds_toArray, List.set_cons_zero, List.set_cons_succ]
              refine anyZ_free (i := 6) (oi := ?oi_32) (v := ?v_32) ?hi_32 ?hs_32 ?hf_32 ?hr_32 ?hQ_32 (Or.inl ⟨?hw_32, ?hy_32⟩) ?hrest_32
              case hi_32 => (simp only [List.getElem?_toArray, List.getElem?_cons_succ, List.getElem?_cons_zero]; exact rfl)
              case hs_32 => kernel_rfl
              case hf_32 => kernel_rfl
              case hr_32 => kernel_rfl
              case hQ_32 => exact fun _ _ _ h => h
              case hw_32 => rfl
              case hy_32 => (intro w _; go_simp; try with_reducible rfl)
              try simp only [Act.put, List.setIfInBounds_toArray, List.set_cons_zero, List.set_cons_succ]
              refine anyZ_ready (rs := [7]) (by kernel_rfl) (by simp) ?_
              refine (AllZ.cons (o := ?o_33) ?ho_33 (fun K hK => ?st_33) AllZ.nil)
              case ho_33 => (simp only [List.getElem?_toArray, List.getElem?_cons_succ, List.getElem?_cons_zero]; exact rfl)
              case st_33 =>
                go_simp
                refine hK.out _ _ (by ((try dsimp only); (all_goals exact True.intro))) (fun hHeld => ?_)
                clear hK K
                try simp only [Act.put, List.setIfInBounds_toArray, List.set_cons_zero, List.set_cons_succ]
                refine anyZ_ready (rs := [8]) (by kernel_rfl) (by simp) ?_
                refine (AllZ.last (o := ?o_34) ?ho_34 (by rfl) (fun K hK => ?st_34) AllZ.nil)
                case ho_34 => (simp only [List.getElem?_toArray, List.getElem?_cons_succ, List.getElem?_cons_zero]; exact rfl)
                case st_34 =>
                  rw [if_pos (by rfl)]; refine wp_storeArr 63 _ _ rfl _ rfl s (by rw [hsl.out]; rfl) (v := fun _ => 0) (by (repeat' (first | exact Arr.new3z | (with_reducible refine Arr.drew ?_)))) (by kernel_rfl) ?_; intro W2 hWn tS2 zWn
                  refine hK.out _ _ ?_
                  clear hK K
                  try simp only [Act.put, List.setIfInBounds_toArray, List.set_cons_zero, List.set_cons_succ]
                  refine anyZ_done (by kernel_rfl) ?_ _
                  refine NoPanic.normal ?_
                  have hB2 : Below w.heap.size w W2 := by
                    rw [hWn.out]
                    refine below_setCells ?_ (by have := l1.out; omega) _ _
                    have := l1.out
                    (repeat' (first | (with_reducible first | exact Below.refl _ _ | assumption | refine Below.alloc ?_ ?_ _ | refine Below.drew ?_ | refine below_drewN ?_ _ | refine Below.setCell ?_ ?_ _ | refine below_via (by with_reducible assumption) ?_ ?_) | omega | (simp only [szs]; omega) | (simp only [szs] at *; omega)))
                  have l2 : Hid (W2.heap.size = w.heap.size + 2) := by show _ = _; rw [zWn]; have := l1.out; simp; omega
                  have t2 : Arr W2 .u64 w.heap.size 2 r := by
                    rw [hWn.out]
                    refine Arr.farCells ?_ (by have := l1.out; omega) _ _
                    exact (t1.out.alloc _).drew
                  have s2 : Arr W2 .u64 (w.heap.size + 1) 3 s := by rw [← l1.out]; exact tS2.out
                  rw [l1.out]
                  clear hWn zWn tS2 hHeld t1 l1 hB1 lw1
                  go_upto_region 4 with (fail)
                  have hQ : Arr (W2.alloc (.cells #[.int .u64 0, .int .u64 0, .int .u64 0] 63)) .u64 (w.heap.size + 2) 3 (fun _ => 0) := by rw [← l2.out]; exact Arr.new3z
                  have hR3 := t2.alloc (.cells #[.int .u64 0, .int .u64 0, .int .u64 0] 63)
                  have hS3 := s2.alloc (.cells #[.int .u64 0, .int .u64 0, .int .u64 0] 63)
                  have hB3 := hB2.alloc (by have := l2.out; omega) (.cells #[.int .u64 0, .int .u64 0, .int .u64 0] 63)
                  have l3 : Hid ((W2.alloc (.cells #[.int .u64 0, .int .u64 0, .int .u64 0] 63)).heap.size = w.heap.size + 3) := by show _ = _; rw [World.size_alloc, l2.out]
                  rw [l2.out]
                  clear t2 s2 hB2 l2
                  generalize W2.alloc (.cells #[.int .u64 0, .int .u64 0, .int .u64 0] 63) = W3 at *
                  obtain ⟨W4, hmk, tG4, b4, z4⟩ := make_room16 W3
                  rw [l3.out] at hmk tG4 z4
                  have l4 : Hid (W4.heap.size = w.heap.size + 4) := z4
                  have hR4 := hR3.below b4 hR3.lt
                  have hS4 := hS3.below b4 hS3.lt
                  have hQ4 := hQ.below b4 hQ.lt
                  have hB4 := below_via b4 hB3 (by have := l3.out; omega)
                  clear hR3 hS3 hQ hB3 b4 z4
                  go_upto_region 5 with (fail)
                  have hfinal : Hid (Stt (W4.alloc (.cells #[.slice (some ⟨w.heap.size + 3, 0, none⟩) 0 16] 22)) w.heap.size r s R Z 0) := by
                    refine ⟨fun _ => 0, fun _ => 0, ⟨hR4.alloc _, hS4.alloc _, hQ4.alloc _, tG4.out.alloc _, ?_, ?_, by rw [World.size_alloc, l4.out]; omega⟩, ⟨fun _ => Nat.zero_lt_succ _, by decide, rfl⟩, fun _ => Nat.zero_lt_succ _, fun i hi => by simp at hi⟩
                    · exact World.cell?_alloc_at _ _ _ _ (by rw [l4.out])
                    · exact World.frozen?_alloc_at _ _ _ _ (by rw [l4.out])
                  have hB5 : Below w.heap.size w (W4.alloc (.cells #[.slice (some ⟨w.heap.size + 3, 0, none⟩) 0 16] 22)) := hB4.alloc (by have := l4.out; omega) _
                  rw [l4.out]
                  clear hmk hR4 hS4 hQ4 tG4 hB4 l4 l3
                  generalize W4.alloc (.cells #[.slice (some ⟨w.heap.size + 3, 0, none⟩) 0 16] 22) = W5 at *
                  go_wp2
                  go_ret2
                  exact ⟨rfl, hfinal.out, hB5⟩
            case st_30 =>
              go_simp
              refine hK.out _ _ (by ((try dsimp only); (all_goals exact True.intro))) (fun hHeld => ?_)
              clear hK K
              try simp only [Act.put, List.setIfInBounds_toArray, List.set_cons_zero, List.set_cons_succ]
              refine anyZ_ready (rs := [5]) (by kernel_rfl) (by simp) ?_
              refine (AllZ.cons (o := ?o_35) ?ho_35 (fun K hK => ?st_35) AllZ.nil)
              case ho_35 => (simp only [List.getElem?_toArray, List.getElem?_cons_succ, List.getElem?_cons_zero]; exact rfl)
              case st_35 =>
                go_simp
                (go_at_call 36; with_reducible refine (c3 _ (by (repeat' (first | (with_reducible first | exact Below.refl _ _ | assumption | refine Below.alloc ?_ ?_ _ | refine Below.drew ?_ | refine below_drewN ?_ _ | refine Below.setCell ?_ ?_ _ | refine below_via (by with_reducible assumption) ?_ ?_) | omega | (simp only [szs]; omega) | (simp only [szs] at *; omega)))) _).mono ?_; rintro e w' ⟨rfl, rfl⟩)
                refine hK.out _ _ (by ((try dsimp only); (all_goals exact True.intro))) (fun hHeld => ?_)
                clear hK K
                try simp only [Act.put, List.setIfInBounds_toArray, List.set_cons_zero, List.set_cons_succ]
                refine anyZ_free (i := 6) (oi := ?oi_36) (v := ?v_36) ?hi_36 ?hs_36 ?hf_36 ?hr_36 ?hQ_36 (Or.inl ⟨?hw_36, ?hy_36⟩) ?hrest_36
                case hi_36 => (simp only [List.getElem?_toArray, List.getElem?_cons_succ, List.getElem?_cons_zero]; exact rfl)
                case hs_36 => kernel_rfl
                case hf_36 => kernel_rfl
                case hr_36 => kernel_rfl
                case hQ_36 => exact fun _ _ _ h => h
                case hw_36 => rfl
                case hy_36 => (intro w _; go_simp; try with_reducible rfl)
                try simp only [Act.put, List.setIfInBounds_toArray, List.set_cons_zero, List.set_cons_succ]
                refine anyZ_ready (rs := [8]) (by kernel_rfl) (by simp) ?_
                refine (AllZ.last (o := ?o_37) ?ho_37 (by rfl) (fun K hK => ?st_37) AllZ.nil)
                case ho_37 => (simp only [List.getElem?_toArray, List.getElem?_cons_succ, List.getElem?_cons_zero]; exact rfl)
                case st_37 =>
                  rw [if_pos (by rfl)]; refine wp_storeArr 63 _ _ rfl _ rfl s (by rw [hsl.out]; rfl) (v := fun _ => 0) (by (repeat' (first | exact Arr.new3z | (with_reducible refine Arr.drew ?_)))) (by kernel_rfl) ?_; intro W2 hWn tS2 zWn
                  refine hK.out _ _ ?_
                  clear hK K
                  try simp only [Act.put, List.setIfInBounds_toArray, List.set_cons_zero, List.set_cons_succ]
                  refine anyZ_done (by kernel_rfl) ?_ _
                  refine NoPanic.normal ?_
                  have hB2 : Below w.heap.size w W2 := by
                    rw [hWn.out]
                    refine below_setCells ?_ (by have := l1.out; omega) _ _
                    have := l1.out
                    (repeat' (first | (with_reducible first | exact Below.refl _ _ | assumption | refine Below.alloc ?_ ?_ _ | refine Below.drew ?_ | refine below_drewN ?_ _ | refine Below.setCell ?_ ?_ _ | refine below_via (by with_reducible assumption) ?_ ?_) | omega | (simp only [szs]; omega) | (simp only [szs] at *; omega)))
                  have l2 : Hid (W2.heap.size = w.heap.size + 2) := by show _ = _; rw [zWn]; have := l1.out; simp; omega
                  have t2 : Arr W2 .u64 w.heap.size 2 r := by
                    rw [hWn.out]
                    refine Arr.farCells ?_ (by have := l1.out; omega) _ _
                    exact (t1.out.alloc _).drew
                  have s2 : Arr W2 .u64 (w.heap.size + 1) 3 s := by rw [← l1.out]; exact tS2.out
                  rw [l1.out]
                  clear hWn zWn tS2 hHeld t1 l1 hB1 lw1
                  go_upto_region 4 with (fail)
                  have hQ : Arr (W2.alloc (.cells #[.int .u64 0, .int .u64 0, .int .u64 0] 63)) .u64 (w.heap.size + 2) 3 (fun _ => 0) := by rw [← l2.out]; exact Arr.new3z
                  have hR3 := t2.alloc (.cells #[.int .u64 0, .int .u64 0, .int .u64 0] 63)
                  have hS3 := s2.alloc (.cells #[.int .u64 0, .int .u64 0, .int .u64 0] 63)
                  have hB3 := hB2.alloc (by have := l2.out; omega) (.cells #[.int .u64 0, .int .u64 0, .int .u64 0] 63)
                  have l3 : Hid ((W2.alloc (.cells #[.int .u64 0, .int .u64 0, .int .u64 0] 63)).heap.size = w.heap.size + 3) := by show _ = _; rw [World.size_alloc, l2.out]
                  rw [l2.out]
                  clear t2 s2 hB2 l2
                  generalize W2.alloc (.cells #[.int .u64 0, .int .u64 0, .int .u64 0] 63) = W3 at *
                  obtain ⟨W4, hmk, tG4, b4, z4⟩ := make_room16 W3
                  rw [l3.out] at hmk tG4 z4
                  have l4 : Hid (W4.heap.size = w.heap.size + 4) := z4
                  have hR4 := hR3.below b4 hR3.lt
                  have hS4 := hS3.below b4 hS3.lt
                  have hQ4 := hQ.below b4 hQ.lt
                  have hB4 := below_via b4 hB3 (by have := l3.out; omega)
                  clear hR3 hS3 hQ hB3 b4 z4
                  go_upto_region 5 with (fail)
                  have hfinal : Hid (Stt (W4.alloc (.cells #[.slice (some ⟨w.heap.size + 3, 0, none⟩) 0 16] 22)) w.heap.size r s R Z 0) := by
                    refine ⟨fun _ => 0, fun _ => 0, ⟨hR4.alloc _, hS4.alloc _, hQ4.alloc _, tG4.out.alloc _, ?_, ?_, by rw [World.size_alloc, l4.out]; omega⟩, ⟨fun _ => Nat.zero_lt_succ _, by decide, rfl⟩, fun _ => Nat.zero_lt_succ _, fun i hi => by simp at hi⟩
                    · exact World.cell?_alloc_at _ _ _ _ (by rw [l4.out])
                    · exact World.frozen?_alloc_at _ _ _ _ (by rw [l4.out])
                  have hB5 : Below w.heap.size w (W4.alloc (.cells #[.slice (some ⟨w.heap.size + 3, 0, none⟩) 0 16] 22)) := hB4.alloc (by have := l4.out; omega) _
                  rw [l4.out]
                  clear hmk hR4 hS4 hQ4 tG4 hB4 l4 l3
                  generalize W4.alloc (.cells #[.slice (some ⟨w.heap.size + 3, 0, none⟩) 0 16] 22) = W5 at *
                  go_wp2
                  go_ret2
                  exact ⟨rfl, hfinal.out, hB5⟩
          case st_28 =>
            go_simp
            refine hK.out _ _ (by ((try dsimp only); (all_goals exact True.intro))) (fun hHeld => ?_)
            clear hK K
            try simp only [Act.put, List.setIfInBounds_toArray, List.set_cons_zero, List.set_cons_succ]
            refine anyZ_ready (rs := [2]) (by kernel_rfl) (by simp) ?_
            refine (AllZ.cons (o := ?o_38) ?ho_38 (fun K hK => ?st_38) AllZ.nil)
            case ho_38 => (simp only [List.getElem?_toArray, List.getElem?_cons_succ, List.getElem?_cons_zero]; exact rfl)
            case st_38 =>
              go_simp
              (go_at_call 36; with_reducible refine (c2 _ (by (repeat' (first | (with_reducible first | exact Below.refl _ _ | assumption | refine Below.alloc ?_ ?_ _ | refine Below.drew ?_ | refine below_drewN ?_ _ | refine Below.setCell ?_ ?_ _ | refine below_via (by with_reducible assumption) ?_ ?_) | omega | (simp only [szs]; omega) | (simp only [szs] at *; omega)))) _).mono ?_; rintro e w' ⟨rfl, rfl⟩)
              refine hK.out _ _ (by ((try dsimp only); (all_goals exact True.intro))) (fun hHeld => ?_)
              clear hK K
              try simp only [Act.put, List.setIfInBounds_toArray, List.set_cons_zero, List.set_cons_succ]
              refine anyZ_ready (rs := [5]) (by kernel_rfl) (by simp) ?_
              refine (AllZ.cons (o := ?o_39) ?ho_39 (fun K hK => ?st_39) AllZ.nil)
              case ho_39 => (simp only [List.getElem?_toArray, List.getElem?_cons_succ, List.getElem?_cons_zero]; exact rfl)
              case st_39 =>
                go_simp
                (go_at_call 36; with_reducible refine (c3 _ (by (repeat' (first | (with_reducible first | exact Below.refl _ _ | assumption | refine Below.alloc ?_ ?_ _ | refine Below.drew ?_ | refine below_drewN ?_ _ | refine Below.setCell ?_ ?_ _ | refine below_via (by with_reducible assumption) ?_ ?_) | omega | (simp only [szs]; omega) | (simp only [szs] at *; omega)))) _).mono ?_; rintro e w' ⟨rfl, rfl⟩)
                refine hK.out _ _ (by ((try dsimp only); (all_goals exact True.intro))) (fun hHeld => ?_)
                clear hK K
                try simp only [Act.put, List.setIfInBounds_toArray, List.set_cons_zero, List.set_cons_succ]
                refine anyZ_free (i := 6) (oi := ?oi_40) (v := ?v_40) ?hi_40 ?hs_40 ?hf_40 ?hr_40 ?hQ_40 (Or.inl ⟨?hw_40, ?hy_40⟩) ?hrest_40
                case hi_40 => (simp only [List.getElem?_toArray, List.getElem?_cons_succ, List.getElem?_cons_zero]; exact rfl)
                case hs_40 => kernel_rfl
                case hf_40 => kernel_rfl
                case hr_40 => kernel_rfl
                case hQ_40 => exact fun _ _ _ h => h
                case hw_40 => rfl
                case hy_40 => (intro w _; go_simp; try with_reducible rfl)
                try simp only [Act.put, List.setIfInBounds_toArray, List.set_cons_zero, List.set_cons_succ]
                refine anyZ_ready (rs := [8]) (by kernel_rfl) (by simp) ?_
                refine (AllZ.last (o := ?o_41) ?ho_41 (by rfl) (fun K hK => ?st_41) AllZ.nil)
                case ho_41 => (simp only [List.getElem?_toArray, List.getElem?_cons_succ, List.getElem?_cons_zero]; exact rfl)
                case st_41 =>
                  rw [if_pos (by rfl)]; refine wp_storeArr 63 _ _ rfl _ rfl s (by rw [hsl.out]; rfl) (v := fun _ => 0) (by (repeat' (first | exact Arr.new3z | (with_reducible refine Arr.drew ?_)))) (by kernel_rfl) ?_; intro W2 hWn tS2 zWn
                  refine hK.out _ _ ?_
                  clear hK K
                  try simp only [Act.put, List.setIfInBounds_toArray, List.set_cons_zero, List.set_cons_succ]
                  refine anyZ_done (by kernel_rfl) ?_ _
                  refine NoPanic.normal ?_
                  have hB2 : Below w.heap.size w W2 := by
                    rw [hWn.out]
                    refine below_setCells ?_ (by have := l1.out; omega) _ _
                    have := l1.out
                    (repeat' (first | (with_reducible first | exact Below.refl _ _ | assumption | refine Below.alloc ?_ ?_ _ | refine Below.drew ?_ | refine below_drewN ?_ _ | refine Below.setCell ?_ ?_ _ | refine below_via (by with_reducible assumption) ?_ ?_) | omega | (simp only [szs]; omega) | (simp only [szs] at *; omega)))
                  have l2 : Hid (W2.heap.size = w.heap.size + 2) := by show _ = _; rw [zWn]; have := l1.out; simp; omega
                  have t2 : Arr W2 .u64 w.heap.size 2 r := by
                    rw [hWn.out]
                    refine Arr.farCells ?_ (by have := l1.out; omega) _ _
                    exact (t1.out.alloc _).drew
                  have s2 : Arr W2 .u64 (w.heap.size + 1) 3 s := by rw [← l1.out]; exact tS2.out
                  rw [l1.out]
                  clear hWn zWn tS2 hHeld t1 l1 hB1 lw1
                  go_upto_region 4 with (fail)
                  have hQ : Arr (W2.alloc (.cells #[.int .u64 0, .int .u64 0, .int .u64 0] 63)) .u64 (w.heap.size + 2) 3 (fun _ => 0) := by rw [← l2.out]; exact Arr.new3z
                  have hR3 := t2.alloc (.cells #[.int .u64 0, .int .u64 0, .int .u64 0] 63)
                  have hS3 := s2.alloc (.cells #[.int .u64 0, .int .u64 0, .int .u64 0] 63)
                  have hB3 := hB2.alloc (by have := l2.out; omega) (.cells #[.int .u64 0, .int .u64 0, .int .u64 0] 63)
                  have l3 : Hid ((W2.alloc (.cells #[.int .u64 0, .int .u64 0, .int .u64 0] 63)).heap.size = w.heap.size + 3) := by show _ = _; rw [World.size_alloc, l2.out]
                  rw [l2.out]
                  clear t2 s2 hB2 l2
                  generalize W2.alloc (.cells #[.int .u64 0, .int .u64 0, .int .u64 0] 63) = W3 at *
                  obtain ⟨W4, hmk, tG4, b4, z4⟩ := make_room16 W3
                  rw [l3.out] at hmk tG4 z4
                  have l4 : Hid (W4.heap.size = w.heap.size + 4) := z4
                  have hR4 := hR3.below b4 hR3.lt
                  have hS4 := hS3.below b4 hS3.lt
                  have hQ4 := hQ.below b4 hQ.lt
                  have hB4 := below_via b4 hB3 (by have := l3.out; omega)
                  clear hR3 hS3 hQ hB3 b4 z4
                  go_upto_region 5 with (fail)
                  have hfinal : Hid (Stt (W4.alloc (.cells #[.slice (some ⟨w.heap.size + 3, 0, none⟩) 0 16] 22)) w.heap.size r s R Z 0) := by
                    refine ⟨fun _ => 0, fun _ => 0, ⟨hR4.alloc _, hS4.alloc _, hQ4.alloc _, tG4.out.alloc _, ?_, ?_, by rw [World.size_alloc, l4.out]; omega⟩, ⟨fun _ => Nat.zero_lt_succ _, by decide, rfl⟩, fun _ => Nat.zero_lt_succ _, fun i hi => by simp at hi⟩
                    · exact World.cell?_alloc_at _ _ _ _ (by rw [l4.out])
                    · exact World.frozen?_alloc_at _ _ _ _ (by rw [l4.out])
                  have hB5 : Below w.heap.size w (W4.alloc (.cells #[.slice (some ⟨w.heap.size + 3, 0, none⟩) 0 16] 22)) := hB4.alloc (by have := l4.out; omega) _
                  rw [l4.out]
                  clear hmk hR4 hS4 hQ4 tG4 hB4 l4 l3
                  generalize W4.alloc (.cells #[.slice (some ⟨w.heap.size + 3, 0, none⟩) 0 16] 22) = W5 at *
                  go_wp2
                  go_ret2
                  exact ⟨rfl, hfinal.out, hB5⟩
    case st_8 =>
      go_simp
      refine hK.out _ _ (by ((try dsimp only); (all_goals exact True.intro))) (fun hHeld => ?_)
      clear hK K
      try simp only [Act.put, List.setIfInBounds_toArray, List.set_cons_zero, List.set_cons_succ]
      refine anyZ_ready (rs := [6]) (by kernel_rfl) (by simp) ?_
      refine (AllZ.cons (o := ?o_14) ?ho_14 (fun K hK => ?st_14) AllZ.nil)
      case ho_14 => (simp only [List.getElem?_toArray, List.getElem?_cons_succ, List.getElem?_cons_zero]; exact rfl)
      case st_14 =>
        go_simp
        (go_at_call 36; with_reducible refine (c1 _ (by (repeat' (first | (with_reducible first | exact Below.refl _ _ | assumption | refine Below.alloc ?_ ?_ _ | refine Below.drew ?_ | refine below_drewN ?_ _ | refine Below.setCell ?_ ?_ _ | refine below_via (by with_reducible assumption) ?_ ?_) | omega | (simp only [szs]; omega) | (simp only [szs] at *; omega)))) _).mono ?_; rintro e w' ⟨rfl, rfl⟩)
        refine hK.out _ _ (by ((try dsimp only); (all_goals exact True.intro))) (fun hHeld => ?_)
        clear hK K
        try simp only [Act.put, List.setIfInBounds_toArray, List.set_cons_zero, List.set_cons_succ]
        refine anyZ_free (i := 7) (oi := ?oi_15) (v := ?v_15) ?hi_15 ?hs_15 ?hf_15 ?hr_15 ?hQ_15 (Or.inl ⟨?hw_15, ?hy_15⟩) ?hrest_15
        case hi_15 => (simp only [List.getElem?_toArray, List.getElem?_cons_succ, List.getElem?_cons_zero]; exact rfl)
        case hs_15 => kernel_rfl
        case hf_15 => kernel_rfl
        case hr_15 => kernel_rfl
        case hQ_15 => exact fun _ _ _ h => h
        case hw_15 => rfl
        case hy_15 => (intro w _; go_simp; try with_reducible rfl)
        try simp only [Act.put, List.setIfInBounds_toArray, List.set_cons_zero, List.set_cons_succ]
        refine anyZ_free (i := 8) (oi := ?oi_16) (v := ?v_16) ?hi_16 ?hs_16 ?hf_16 ?hr_16 ?hQ_16 (Or.inl ⟨?hw_16, ?hy_16⟩) ?hrest_16
        case hi_16 => (simp only [List.getElem?_toArray, List.getElem?_cons_succ, List.getElem?_cons_zero]; exact rfl)
        case hs_16 => kernel_rfl
        case hf_16 => kernel_rfl
        case hr_16 => kernel_rfl
        case hQ_16 => exact fun _ _ _ h => h
        case hw_16 => rfl
        case hy_16 => (intro w _; go_simp; try with_reducible rfl)
        try simp only [Act.put, List.setIfInBounds_toArray, List.set_cons_zero, List.set_cons_succ]
        refine anyZ_ready (rs := [10]) (by kernel_rfl) (by simp) ?_
        refine (AllZ.last (o := ?o_17) ?ho_17 (by rfl) (fun K hK => ?st_17) AllZ.nil)
        case ho_17 => (simp only [List.getElem?_toArray, List.getElem?_cons_succ, List.getElem?_cons_zero]; exact rfl)
        case st_17 =>
          rw [if_pos (by rfl)]; refine wp_storeArr 61 _ _ rfl _ rfl r (by rw [hrl.out]; rfl) (v := fun _ => 0) (by (repeat' (first | exact Arr.new2z | (with_reducible refine Arr.drew ?_)))) (by kernel_rfl) ?_; intro W1 hWn tR1 zWn
          refine hK.out _ _ ?_
          clear hK K
          try simp only [Act.put, List.setIfInBounds_toArray, List.set_cons_zero, List.set_cons_succ]
          refine anyZ_done (by kernel_rfl) ?_ _
          refine NoPanic.normal ?_
          have hB1 : Below w.heap.size w W1 := by
            rw [hWn.out]
            refine below_setCells ?_ (Nat.le_refl _) _ _
            (repeat' (first | (with_reducible first | exact Below.refl _ _ | assumption | refine Below.alloc ?_ ?_ _ | refine Below.drew ?_ | refine below_drewN ?_ _ | refine Below.setCell ?_ ?_ _ | refine below_via (by with_reducible assumption) ?_ ?_) | omega | (simp only [szs]; omega) | (simp only [szs] at *; omega)))
          have l1 : Hid (W1.heap.size = w.heap.size + 1) := by show _ = _; rw [zWn]; simp
          have t1 : Hid (Arr W1 .u64 w.heap.size 2 r) := tR1
          have lw1 : w.heap.size ≤ W1.heap.size := by have := l1.out; omega
          clear hWn zWn tR1 hHeld
          go_upto_region 2 with (fail)
          refine wp_region_noPanic ?_
          refine region_lastly (S := (fun w' => True)) [8] (by kernel_rfl) (by ((try dsimp only); (all_goals exact True.intro))) (fun hHeld => ?_)
          refine anyZ_free (i := 0) (oi := ?oi_42) (v := ?v_42) ?hi_42 ?hs_42 ?hf_42 ?hr_42 ?hQ_42 (Or.inl ⟨?hw_42, ?hy_42⟩) ?hrest_42
          case hi_42 => (simp only [List.getElem?_toArray, List.getElem?_cons_succ, List.getElem?_cons_zero]; exact rfl)
          case hs_42 => kernel_rfl
          case hf_42 => kernel_rfl
          case hr_42 => kernel_rfl
          case hQ_42 => exact fun _ _ _ h => h
          case hw_42 => rfl
          case hy_42 => (intro w _; go_simp; try with_reducible rfl)
          try simp only [Act.put, List.setIfInBounds_toArray, List.set_cons_zero, List.set_cons_succ]
          refine anyZ_free (i := 1) (oi := ?oi_43) (v := ?v_43) ?hi_43 ?hs_43 ?hf_43 ?hr_43 ?hQ_43 (Or.inl ⟨?hw_43, ?hy_43⟩) ?hrest_43
          case hi_43 => (simp only [List.getElem?_toArray, List.getElem?_cons_succ, List.getElem?_cons_zero]; exact rfl)
          case hs_43 => kernel_rfl
          case hf_43 => kernel_rfl
          case hr_43 => kernel_rfl
          case hQ_43 => exact fun _ _ _ h => h
          case hw_43 => rfl
          case hy_43 => (intro w _; go_simp; try with_reducible rfl)
          try simp only [Act.put, List.setIfInBounds_toArray, List.set_cons_zero, List.set_cons_succ]
          refine anyZ_free (i := 3) (oi := ?oi_44) (v := ?v_44) ?hi_44 ?hs_44 ?hf_44 ?hr_44 ?hQ_44 (Or.inl ⟨?hw_44, ?hy_44⟩) ?hrest_44
          case hi_44 => (simp only [List.getElem?_toArray, List.getElem?_cons_succ, List.getElem?_cons_zero]; exact rfl)
          case hs_44 => kernel_rfl
          case hf_44 => kernel_rfl
          case hr_44 => kernel_rfl
          case hQ_44 => exact fun _ _ _ h => h
          case hw_44 => rfl
          case hy_44 => (intro w _; go_simp; try with_reducible rfl)
          try simp only [Act.put, List.setIfInBounds_toArray, List.set_cons_zero, List.set_cons_succ]
          refine anyZ_free (i := 4) (oi := ?oi_45) (v := ?v_45) ?hi_45 ?hs_45 ?hf_45 ?hr_45 ?hQ_45 (Or.inl ⟨?hw_45, ?hy_45⟩) ?hrest_45
          case hi_45 => (simp only [List.getElem?_toArray, List.getElem?_cons_succ, List.getElem?_cons_zero]; exact rfl)
          case hs_45 => kernel_rfl
          case hf_45 => kernel_rfl
          case hr_45 => kernel_rfl
          case hQ_45 => exact fun _ _ _ h => h
          case hw_45 => rfl
          case hy_45 => (intro w _; go_simp; try with_reducible rfl)
          try simp only [Act.put, List.setIfInBounds_toArray, List.set_cons_zero, List.set_cons_succ]
          refine anyZ_ready (rs := [2, 7]) (by kernel_rfl) (by simp) ?_
          refine (AllZ.cons (o := ?o_47) ?ho_47 (fun K hK => ?st_47) (AllZ.cons (o := ?o_46) ?ho_46 (fun K hK => ?st_46) AllZ.nil))
          case ho_47 => (simp only [List.getElem?_toArray, List.getElem?_cons_succ, List.getElem?_cons_zero]; exact rfl)
          case ho_46 => (simp only [List.getElem?_toArray, List.getElem?_cons_succ, List.getElem?_cons_zero]; exact rfl)
          case st_47 =>
            go_simp
            (go_at_call 36; with_reducible refine (c2 _ (by (repeat' (first | (with_reducible first | exact Below.refl _ _ | assumption | refine Below.alloc ?_ ?_ _ | refine Below.drew ?_ | refine below_drewN ?_ _ | refine Below.setCell ?_ ?_ _ | refine below_via (by with_reducible assumption) ?_ ?_) | omega | (simp only [szs]; omega) | (simp only [szs] at *; omega)))) _).mono ?_; rintro e w' ⟨rfl, rfl⟩)
            refine hK.out _ _ (by ((try dsimp only); (all_goals exact True.intro))) (fun hHeld => ?_)
            clear hK K
            try simp only [Act.put, List.setIfInBounds_toArray, List.set_cons_zero, List.set_cons_succ]
            refine anyZ_ready (rs := [5, 7]) (by kernel_rfl) (by simp) ?_
            refine (AllZ.cons (o := ?o_49) ?ho_49 (fun K hK => ?st_49) (AllZ.cons (o := ?o_48) ?ho_48 (fun K hK => ?st_48) AllZ.nil))
            case ho_49 => (simp only [List.getElem?_toArray, List.getElem?_cons_succ, List.getElem?_cons_zero]; exact rfl)
            case ho_48 => (simp only [List.getElem?_toArray, List.getElem?_cons_succ, List.getElem?_cons_zero]; exact rfl)
            case st_49 =>
              go_simp
              (go_at_call 36; with_reducible refine (c3 _ (by (repeat' (first | (with_reducible first | exact Below.refl _ _ | assumption | refine Below.alloc ?_ ?_ _ | refine Below.drew ?_ | refine below_drewN ?_ _ | refine Below.setCell ?_ ?_ _ | refine below_via (by with_reducible assumption) ?_ ?_) | omega | (simp only [szs]; omega) | (simp only [szs] at *; omega)))) _).mono ?_; rintro e w' ⟨rfl, rfl⟩)
              refine hK.out _ _ (by ((try dsimp only); (all_goals exact True.intro))) (fun hHeld => ?_)
              clear hK K
              try simp only [Act.put, List.setIfInBounds_toArray, List.set_cons_zero, List.set_cons_succ]
              refine anyZ_free (i := 6) (oi := ?oi_50) (v := ?v_50) ?hi_50 ?hs_50 ?hf_50 ?hr_50 ?hQ_50 (Or.inl ⟨?hw_50, ?hy_50⟩) ?hrest_50
              case hi_50 => (simp only [List.getElem?_toArray, List.getElem?_cons_succ, List.getElem?_cons_zero]; exact rfl)
              case hs_50 => kernel_rfl
              case hf_50 => kernel_rfl
              case hr_50 => kernel_rfl
              case hQ_50 => exact fun _ _ _ h => h
              case hw_50 => rfl
              case hy_50 => (intro w _; go_simp; try with_reducible rfl)
              try simp only [Act.put, List.setIfInBounds_toArray, List.set_cons_zero, List.set_cons_succ]
              refine anyZ_ready (rs := [7]) (by kernel_rfl) (by simp) ?_
              refine (AllZ.cons (o := ?o_51) ?ho_51 (fun K hK => ?st_51) AllZ.nil)
              case ho_51 => (simp only [List.getElem?_toArray, List.getElem?_cons_succ, List.getElem?_cons_zero]; exact rfl)
              case st_51 =>
                go_simp
                refine hK.out _ _ (by ((try dsimp only); (all_goals exact True.intro))) (fun hHeld => ?_)
                clear hK K
                try simp only [Act.put, List.setIfInBounds_toArray, List.set_cons_zero, List.set_cons_succ]
                refine anyZ_ready (rs := [8]) (by kernel_rfl) (by simp) ?_
                refine (AllZ.last (o := ?o_52) ?ho_52 (by rfl) (fun K hK => ?st_52) AllZ.nil)
                case ho_52 => (simp only [List.getElem?_toArray, List.getElem?_cons_succ, List.getElem?_cons_zero]; exact rfl)
                case st_52 =>
                  rw [if_pos (by rfl)]; refine wp_storeArr 63 _ _ rfl _ rfl s (by rw [hsl.out]; rfl) (v := fun _ => 0) (by (repeat' (first | exact Arr.new3z | (with_reducible refine Arr.drew ?_)))) (by kernel_rfl) ?_; intro W2 hWn tS2 zWn
                  refine hK.out _ _ ?_
                  clear hK K
                  try simp only [Act.put, List.setIfInBounds_toArray, List.set_cons_zero, List.set_cons_succ]
                  refine anyZ_done (by kernel_rfl) ?_ _
                  refine NoPanic.normal ?_
                  have hB2 : Below w.heap.size w W2 := by
                    rw [hWn.out]
                    refine below_setCells ?_ (by have := l1.out; omega) _ _
                    have := l1.out
                    (repeat' (first | (with_reducible first | exact Below.refl _ _ | assumption | refine Below.alloc ?_ ?_ _ | refine Below.drew ?_ | refine below_drewN ?_ _ | refine Below.setCell ?_ ?_ _ | refine below_via (by with_reducible assumption) ?_ ?_) | omega | (simp only [szs]; omega) | (simp only [szs] at *; omega)))
                  have l2 : Hid (W2.heap.size = w.heap.size + 2) := by show _ = _; rw [zWn]; have := l1.out; simp; omega
                  have t2 : Arr W2 .u64 w.heap.size 2 r := by
                    rw [hWn.out]
                    refine Arr.farCells ?_ (by have := l1.out; omega) _ _
                    exact (t1.out.alloc _).drew
                  have s2 : Arr W2 .u64 (w.heap.size + 1) 3 s := by rw [← l1.out]; exact tS2.out
                  rw [l1.out]
                  clear hWn zWn tS2 hHeld t1 l1 hB1 lw1
                  go_upto_region 4 with (fail)
                  have hQ : Arr (W2.alloc (.cells #[.int .u64 0, .int .u64 0, .int .u64 0] 63)) .u64 (w.heap.size + 2) 3 (fun _ => 0) := by rw [← l2.out]; exact Arr.new3z
                  have hR3 := t2.alloc (.cells #[.int .u64 0, .int .u64 0, .int .u64 0] 63)
                  have hS3 := s2.alloc (.cells #[.int .u64 0, .int .u64 0, .int .u64 0] 63)
                  have hB3 := hB2.alloc (by have := l2.out; omega) (.cells #[.int .u64 0, .int .u64 0, .int .u64 0] 63)
                  have l3 : Hid ((W2.alloc (.cells #[.int .u64 0, .int .u64 0, .int .u64 0] 63)).heap.size = w.heap.size + 3) := by show _ = _; rw [World.size_alloc, l2.out]
                  rw [l2.out]
                  clear t2 s2 hB2 l2
                  generalize W2.alloc (.cells #[.int .u64 0, .int .u64 0, .int .u64 0] 63) = W3 at *
                  obtain ⟨W4, hmk, tG4, b4, z4⟩ := make_room16 W3
                  rw [l3.out] at hmk tG4 z4
                  have l4 : Hid (W4.heap.size = w.heap.size + 4) := z4
                  have hR4 := hR3.below b4 hR3.lt
                  have hS4 := hS3.below b4 hS3.lt
                  have hQ4 := hQ.below b4 hQ.lt
                  have hB4 := below_via b4 hB3 (by have := l3.out; omega)
                  clear hR3 hS3 hQ hB3 b4 z4
                  go_upto_region 5 with (fail)
                  have hfinal : Hid (Stt (W4.alloc (.cells #[.slice (some ⟨w.heap.size + 3, 0, none⟩) 0 16] 22)) w.heap.size r s R Z 0) := by
                    refine ⟨fun _ => 0, fun _ => 0, ⟨hR4.alloc _, hS4.alloc _, hQ4.alloc _, tG4.out.alloc _, ?_, ?_, by rw [World.size_alloc, l4.out]; omega⟩, ⟨fun _ => Nat.zero_lt_succ _, by decide, rfl⟩, fun _ => Nat.zero_lt_succ _, fun i hi => by simp at hi⟩
                    · exact World.cell?_alloc_at _ _ _ _ (by rw [l4.out])
                    · exact World.frozen?_alloc_at _ _ _ _ (by rw [l4.out])
                  have hB5 : Below w.heap.size w (W4.alloc (.cells #[.slice (some ⟨w.heap.size + 3, 0, none⟩) 0 16] 22)) := hB4.alloc (by have := l4.out; omega) _
                  rw [l4.out]
                  clear hmk hR4 hS4 hQ4 tG4 hB4 l4 l3
                  generalize W4.alloc (.cells #[.slice (some ⟨w.heap.size + 3, 0, none⟩) 0 16] 22) = W5 at *
                  go_wp2
                  go_ret2
                  exact ⟨rfl, hfinal.out, hB5⟩
            case st_48 =>
              go_simp
              refine hK.out _ _ (by ((try dsimp only); (all_goals exact True.intro))) (fun hHeld => ?_)
              clear hK K
              try simp only [Act.put, List.setIfInBounds_toArray, List.set_cons_zero, List.set_cons_succ]
              refine anyZ_ready (rs := [5]) (by kernel_rfl) (by simp) ?_
              refine (AllZ.cons (o := ?o_53) ?ho_53 (fun K hK => ?st_53) AllZ.nil)
              case ho_53 => (simp only [List.getElem?_toArray, List.getElem?_cons_succ, List.getElem?_cons_zero]; exact rfl)
              case st_53 =>
                go_simp
                (go_at_call 36; with_reducible refine (c3 _ (by (repeat' (first | (with_reducible first | exact Below.refl _ _ | assumption | refine Below.alloc ?_ ?_ _ | refine Below.drew ?_ | refine below_drewN ?_ _ | refine Below.setCell ?_ ?_ _ | refine below_via (by with_reducible assumption) ?_ ?_) | omega | (simp only [szs]; omega) | (simp only [szs] at *; omega)))) _).mono ?_; rintro e w' ⟨rfl, rfl⟩)
                refine hK.out _ _ (by ((try dsimp only); (all_goals exact True.intro))) (fun hHeld => ?_)
                clear hK K
                try simp only [Act.put, List.setIfInBounds_toArray, List.set_cons_zero, List.set_cons_succ]
                refine anyZ_free (i := 6) (oi := ?oi_54) (v := ?v_54) ?hi_54 ?hs_54 ?hf_54 ?hr_54 ?hQ_54 (Or.inl ⟨?hw_54, ?hy_54⟩) ?hrest_54
                case hi_54 => (simp only [List.getElem?_toArray, List.getElem?_cons_succ, List.getElem?_cons_zero]; exact rfl)
                case hs_54 => kernel_rfl
                case hf_54 => kernel_rfl
                case hr_54 => kernel_rfl
                case hQ_54 => exact fun _ _ _ h => h
                case hw_54 => rfl
                case hy_54 => (intro w _; go_simp; try with_reducible rfl)
                try simp only [Act.put, List.setIfInBounds_toArray, List.set_cons_zero, List.set_cons_succ]
                refine anyZ_ready (rs := [8]) (by kernel_rfl) (by simp) ?_
                refine (AllZ.last (o := ?o_55) ?ho_55 (by rfl) (fun K hK => ?st_55) AllZ.nil)
                case ho_55 => (simp only [List.getElem?_toArray, List.getElem?_cons_succ, List.getElem?_cons_zero]; exact rfl)
                case st_55 =>
                  rw [if_pos (by rfl)]; refine wp_storeArr 63 _ _ rfl _ rfl s (by rw [hsl.out]; rfl) (v := fun _ => 0) (by (repeat' (first | exact Arr.new3z | (with_reducible refine Arr.drew ?_)))) (by kernel_rfl) ?_; intro W2 hWn tS2 zWn
                  refine hK.out _ _ ?_
                  clear hK K
                  try simp only [Act.put, List.setIfInBounds_toArray, List.set_cons_zero, List.set_cons_succ]
                  refine anyZ_done (by kernel_rfl) ?_ _
                  refine NoPanic.normal ?_
                  have hB2 : Below w.heap.size w W2 := by
                    rw [hWn.out]
                    refine below_setCells ?_ (by have := l1.out; omega) _ _
                    have := l1.out
                    (repeat' (first | (with_reducible first | exact Below.refl _ _ | assumption | refine Below.alloc ?_ ?_ _ | refine Below.drew ?_ | refine below_drewN ?_ _ | refine Below.setCell ?_ ?_ _ | refine below_via (by with_reducible assumption) ?_ ?_) | omega | (simp only [szs]; omega) | (simp only [szs] at *; omega)))
                  have l2 : Hid (W2.heap.size = w.heap.size + 2) := by show _ = _; rw [zWn]; have := l1.out; simp; omega
                  have t2 : Arr W2 .u64 w.heap.size 2 r := by
                    rw [hWn.out]
                    refine Arr.farCells ?_ (by have := l1.out; omega) _ _
                    exact (t1.out.alloc _).drew
                  have s2 : Arr W2 .u64 (w.heap.size + 1) 3 s := by rw [← l1.out]; exact tS2.out
                  rw [l1.out]
                  clear hWn zWn tS2 hHeld t1 l1 hB1 lw1
                  go_upto_region 4 with (fail)
                  have hQ : Arr (W2.alloc (.cells #[.int .u64 0, .int .u64 0, .int .u64 0] 63)) .u64 (w.heap.size + 2) 3 (fun _ => 0) := by rw [← l2.out]; exact Arr.new3z
                  have hR3 := t2.alloc (.cells #[.int .u64 0, .int .u64 0, .int .u64 0] 63)
                  have hS3 := s2.alloc (.cells #[.int .u64 0, .int .u64 0, .int .u64 0] 63)
                  have hB3 := hB2.alloc (by have := l2.out; omega) (.cells #[.int .u64 0, .int .u64 0, .int .u64 0] 63)
                  have l3 : Hid ((W2.alloc (.cells #[.int .u64 0, .int .u64 0, .int .u64 0] 63)).heap.size = w.heap.size + 3) := by show _ = _; rw [World.size_alloc, l2.out]
                  rw [l2.out]
                  clear t2 s2 hB2 l2
                  generalize W2.alloc (.cells #[.int .u64 0, .int .u64 0, .int .u64 0] 63) = W3 at *
                  obtain ⟨W4, hmk, tG4, b4, z4⟩ := make_room16 W3
                  rw [l3.out] at hmk tG4 z4
                  have l4 : Hid (W4.heap.size = w.heap.size + 4) := z4
                  have hR4 := hR3.below b4 hR3.lt
                  have hS4 := hS3.below b4 hS3.lt
                  have hQ4 := hQ.below b4 hQ.lt
                  have hB4 := below_via b4 hB3 (by have := l3.out; omega)
                  clear hR3 hS3 hQ hB3 b4 z4
                  go_upto_region 5 with (fail)
                  have hfinal : Hid (Stt (W4.alloc (.cells #[.slice (some ⟨w.heap.size + 3, 0, none⟩) 0 16] 22)) w.heap.size r s R Z 0) := by
                    refine ⟨fun _ => 0, fun _ => 0, ⟨hR4.alloc _, hS4.alloc _, hQ4.alloc _, tG4.out.alloc _, ?_, ?_, by rw [World.size_alloc, l4.out]; omega⟩, ⟨fun _ => Nat.zero_lt_succ _, by decide, rfl⟩, fun _ => Nat.zero_lt_succ _, fun i hi => by simp at hi⟩
                    · exact World.cell?_alloc_at _ _ _ _ (by rw [l4.out])
                    · exact World.frozen?_alloc_at _ _ _ _ (by rw [l4.out])
                  have hB5 : Below w.heap.size w (W4.alloc (.cells #[.slice (some ⟨w.heap.size + 3, 0, none⟩) 0 16] 22)) := hB4.alloc (by have := l4.out; omega) _
                  rw [l4.out]
                  clear hmk hR4 hS4 hQ4 tG4 hB4 l4 l3
                  generalize W4.alloc (.cells #[.slice (some ⟨w.heap.size + 3, 0, none⟩) 0 16] 22) = W5 at *
                  go_wp2
                  go_ret2
                  exact ⟨rfl, hfinal.out, hB5⟩
          case st_46 =>
            go_simp
            refine hK.out _ _ (by ((try dsimp only); (all_goals exact True.intro))) (fun hHeld => ?_)
            clear hK K
            try simp only [Act.put, List.setIfInBounds_toArray, List.set_cons_zero, List.set_cons_succ]
            refine anyZ_ready (rs := [2]) (by kernel_rfl) (by simp) ?_
            refine (AllZ.cons (o := ?o_56) ?ho_56 (fun K hK => ?st_56) AllZ.nil)
            case ho_56 => (simp only [List.getElem?_toArray, List.getElem?_cons_succ, List.getElem?_cons_zero]; exact rfl)
            case st_56 =>
              go_simp
              (go_at_call 36; with_reducible refine (c2 _ (by (repeat' (first | (with_reducible first | exact Below.refl _ _ | assumption | refine Below.alloc ?_ ?_ _ | refine Below.drew ?_ | refine below_drewN ?_ _ | refine Below.setCell ?_ ?_ _ | refine below_via (by with_reducible assumption) ?_ ?_) | omega | (simp only [szs]; omega) | (simp only [szs] at *; omega)))) _).mono ?_; rintro e w' ⟨rfl, rfl⟩)
              refine hK.out _ _ (by ((try dsimp only); (all_goals exact True.intro))) (fun hHeld => ?_)
              clear hK K
              try simp only [Act.put, List.setIfInBounds_toArray, List.set_cons_zero, List.set_cons_succ]
              refine anyZ_ready (rs := [5]) (by kernel_rfl) (by simp) ?_
              refine (AllZ.cons (o := ?o_57) ?ho_57 (fun K hK => ?st_57) AllZ.nil)
              case ho_57 => (simp only [List.getElem?_toArray, List.getElem?_cons_succ, List.getElem?_cons_zero]; exact rfl)
              case st_57 =>
                go_simp
                (go_at_call 36; with_reducible refine (c3 _ (by (repeat' (first | (with_reducible first | exact Below.refl _ _ | assumption | refine Below.alloc ?_ ?_ _ | refine Below.drew ?_ | refine below_drewN ?_ _ | refine Below.setCell ?_ ?_ _ | refine below_via (by with_reducible assumption) ?_ ?_) | omega | (simp only [szs]; omega) | (simp only [szs] at *; omega)))) _).mono ?_; rintro e w' ⟨rfl, rfl⟩)
                refine hK.out _ _ (by ((try dsimp only); (all_goals exact True.intro))) (fun hHeld => ?_)
                clear hK K
                try simp only [Act.put, List.setIfInBounds_toArray, List.set_cons_zero, List.set_cons_succ]
                refine anyZ_free (i := 6) (oi := ?oi_58) (v := ?v_58) ?hi_58 ?hs_58 ?hf_58 ?hr_58 ?hQ_58 (Or.inl ⟨?hw_58, ?hy_58⟩) ?hrest_58
                case hi_58 => (simp only [List.getElem?_toArray, List.getElem?_cons_succ, List.getElem?_cons_zero]; exact rfl)
                case hs_58 => kernel_rfl
                case hf_58 => kernel_rfl
                case hr_58 => kernel_rfl
                case hQ_58 => exact fun _ _ _ h => h
                case hw_58 => rfl
                case hy_58 => (intro w _; go_simp; try with_reducible rfl)
                try simp only [Act.put, List.setIfInBounds_toArray, List.set_cons_zero, List.set_cons_succ]
                refine anyZ_ready (rs := [8]) (by kernel_rfl) (by simp) ?_
                refine (AllZ.last (o := ?o_59) ?ho_59 (by rfl) (fun K hK => ?st_59) AllZ.nil)
                case ho_59 => (simp only [List.getElem?_toArray, List.getElem?_cons_succ, List.getElem?_cons_zero]; exact rfl)
                case st_59 =>
                  rw [if_pos (by rfl)]; refine wp_storeArr 63 _ _ rfl _ rfl s (by rw [hsl.out]; rfl) (v := fun _ => 0) (by (repeat' (first | exact Arr.new3z | (with_reducible refine Arr.drew ?_)))) (by kernel_rfl) ?_; intro W2 hWn tS2 zWn
                  refine hK.out _ _ ?_
                  clear hK K
                  try simp only [Act.put, List.setIfInBounds_toArray, List.set_cons_zero, List.set_cons_succ]
                  refine anyZ_done (by kernel_rfl) ?_ _
                  refine NoPanic.normal ?_
                  have hB2 : Below w.heap.size w W2 := by
                    rw [hWn.out]
                    refine below_setCells ?_ (by have := l1.out; omega) _ _
                    have := l1.out
                    (repeat' (first | (with_reducible first | exact Below.refl _ _ | assumption | refine Below.alloc ?_ ?_ _ | refine Below.drew ?_ | refine below_drewN ?_ _ | refine Below.setCell ?_ ?_ _ | refine below_via (by with_reducible assumption) ?_ ?_) | omega | (simp only [szs]; omega) | (simp only [szs] at *; omega)))
                  have l2 : Hid (W2.heap.size = w.heap.size + 2) := by show _ = _; rw [zWn]; have := l1.out; simp; omega
                  have t2 : Arr W2 .u64 w.heap.size 2 r := by
                    rw [hWn.out]
                    refine Arr.farCells ?_ (by have := l1.out; omega) _ _
                    exact (t1.out.alloc _).drew
                  have s2 : Arr W2 .u64 (w.heap.size + 1) 3 s := by rw [← l1.out]; exact tS2.out
                  rw [l1.out]
                  clear hWn zWn tS2 hHeld t1 l1 hB1 lw1
                  go_upto_region 4 with (fail)
                  have hQ : Arr (W2.alloc (.cells #[.int .u64 0, .int .u64 0, .int .u64 0] 63)) .u64 (w.heap.size + 2) 3 (fun _ => 0) := by rw [← l2.out]; exact Arr.new3z
                  have hR3 := t2.alloc (.cells #[.int .u64 0, .int .u64 0, .int .u64 0] 63)
                  have hS3 := s2.alloc (.cells #[.int .u64 0, .int .u64 0, .int .u64 0] 63)
                  have hB3 := hB2.alloc (by have := l2.out; omega) (.cells #[.int .u64 0, .int .u64 0, .int .u64 0] 63)
                  have l3 : Hid ((W2.alloc (.cells #[.int .u64 0, .int .u64 0, .int .u64 0] 63)).heap.size = w.heap.size + 3) := by show _ = _; rw [World.size_alloc, l2.out]
                  rw [l2.out]
                  clear t2 s2 hB2 l2
                  generalize W2.alloc (.cells #[.int .u64 0, .int .u64 0, .int .u64 0] 63) = W3 at *
                  obtain ⟨W4, hmk, tG4, b4, z4⟩ := make_room16 W3
                  rw [l3.out] at hmk tG4 z4
                  have l4 : Hid (W4.heap.size = w.heap.size + 4) := z4
                  have hR4 := hR3.below b4 hR3.lt
                  have hS4 := hS3.below b4 hS3.lt
                  have hQ4 := hQ.below b4 hQ.lt
                  have hB4 := below_via b4 hB3 (by have := l3.out; omega)
                  clear hR3 hS3 hQ hB3 b4 z4
                  go_upto_region 5 with (fail)
                  have hfinal : Hid (Stt (W4.alloc (.cells #[.slice (some ⟨w.heap.size + 3, 0, none⟩) 0 16] 22)) w.heap.size r s R Z 0) := by
                    refine ⟨fun _ => 0, fun _ => 0, ⟨hR4.alloc _, hS4.alloc _, hQ4.alloc _, tG4.out.alloc _, ?_, ?_, by rw [World.size_alloc, l4.out]; omega⟩, ⟨fun _ => Nat.zero_lt_succ _, by decide, rfl⟩, fun _ => Nat.zero_lt_succ _, fun i hi => by simp at hi⟩
                    · exact World.cell?_alloc_at _ _ _ _ (by rw [l4.out])
                    · exact World.frozen?_alloc_at _ _ _ _ (by rw [l4.out])
                  have hB5 : Below w.heap.size w (W4.alloc (.cells #[.slice (some ⟨w.heap.size + 3, 0, none⟩) 0 16] 22)) := hB4.alloc (by have := l4.out; omega) _
                  rw [l4.out]
                  clear hmk hR4 hS4 hQ4 tG4 hB4 l4 l3
                  generalize W4.alloc (.cells #[.slice (some ⟨w.heap.size + 3, 0, none⟩) 0 16] 22) = W5 at *
                  go_wp2
                  go_ret2
                  exact ⟨rfl, hfinal.out, hB5⟩
  case st_5 =>
    go_simp
    refine hK.out _ _ (by ((try dsimp only); (all_goals exact True.intro))) (fun hHeld => ?_)
    clear hK K
    try simp only [Act.put, List.setIfInBounds_toArray, List.set_cons_zero, List.set_cons_succ]
    refine anyZ_ready (rs := [2]) (by kernel_rfl) (by simp) ?_
    refine (AllZ.cons (o := ?o_18) ?ho_18 (fun K hK => ?st_18) AllZ.nil)
    case ho_18 => (simp only [List.getElem?_toArray, List.getElem?_cons_succ, List.getElem?_cons_zero]; exact rfl)
    case st_18 =>
      go_simp
      (go_at_call 36; with_reducible refine (c0 _ (by (repeat' (first | (with_reducible first | exact Below.refl _ _ | assumption | refine Below.alloc ?_ ?_ _ | refine Below.drew ?_ | refine below_drewN ?_ _ | refine Below.setCell ?_ ?_ _ | refine below_via (by with_reducible assumption) ?_ ?_) | omega | (simp only [szs]; omega) | (simp only [szs] at *; omega)))) _).mono ?_; rintro e w' ⟨rfl, rfl⟩)
      refine hK.out _ _ (by ((try dsimp only); (all_goals exact True.intro))) (fun hHeld => ?_)
      clear hK K
      try simp only [Act.put, List.setIfInBounds_toArray, List.set_cons_zero, List.set_cons_succ]
      refine anyZ_free (i := 3) (oi := ?oi_19) (v := ?v_19) ?hi_19 ?hs_19 ?hf_19 ?hr_19 ?hQ_19 (Or.inl ⟨?hw_19, ?hy_19⟩) ?hrest_19
      case hi_19 => (simp only [List.getElem?_toArray, List.getElem?_cons_succ, List.getElem?_cons_zero]; exact rfl)
      case hs_19 => kernel_rfl
      case hf_19 => kernel_rfl
      case hr_19 => kernel_rfl
      case hQ_19 => exact fun _ _ _ h => h
      case hw_19 => rfl
      case hy_19 => (intro w _; go_simp; try with_reducible rfl)
      try simp only [Act.put, List.setIfInBounds_toArray, List.set_cons_zero, List.set_cons_succ]
      refine anyZ_ready (rs := [6]) (by kernel_rfl) (by simp) ?_
      refine (AllZ.cons (o := ?o_20) ?ho_20 (fun K hK => ?st_20) AllZ.nil)
      case ho_20 => (simp only [List.getElem?_toArray, List.getElem?_cons_succ, List.getElem?_cons_zero]; exact rfl)
      case st_20 =>
        go_simp
        (go_at_call 36; with_reducible refine (c1 _ (by (repeat' (first | (with_reducible first | exact Below.refl _ _ | assumption | refine Below.alloc ?_ ?_ _ | refine Below.drew ?_ | refine below_drewN ?_ _ | refine Below.setCell ?_ ?_ _ | refine below_via (by with_reducible assumption) ?_ ?_) | omega | (simp only [szs]; omega) | (simp only [szs] at *; omega)))) _).mono ?_; rintro e w' ⟨rfl, rfl⟩)
        refine hK.out _ _ (by ((try dsimp only); (all_goals exact True.intro))) (fun hHeld => ?_)
        clear hK K
        try simp only [Act.put, List.setIfInBounds_toArray, List.set_cons_zero, List.set_cons_succ]
        refine anyZ_free (i := 7) (oi := ?oi_21) (v := ?v_21) ?hi_21 ?hs_21 ?hf_21 ?hr_21 ?hQ_21 (Or.inl ⟨?hw_21, ?hy_21⟩) ?hrest_21
        case hi_21 => (simp only [List.getElem?_toArray, List.getElem?_cons_succ, List.getElem?_cons_zero]; exact rfl)
        case hs_21 => kernel_rfl
        case hf_21 => kernel_rfl
        case hr_21 => kernel_rfl
        case hQ_21 => exact fun _ _ _ h => h
        case hw_21 => rfl
        case hy_21 => (intro w _; go_simp; try with_reducible rfl)
        try simp only [Act.put, List.setIfInBounds_toArray, List.set_cons_zero, List.set_cons_succ]
        refine anyZ_free (i := 8) (oi := ?oi_22) (v := ?v_22) ?hi_22 ?hs_22 ?hf_22 ?hr_22 ?hQ_22 (Or.inl ⟨?hw_22, ?hy_22⟩) ?hrest_22
        case hi_22 => (simp only [List.getElem?_toArray, List.getElem?_cons_succ, List.getElem?_cons_zero]; exact rfl)
        case hs_22 => kernel_rfl
        case hf_22 => kernel_rfl
        case hr_22 => kernel_rfl
        case hQ_22 => exact fun _ _ _ h => h
        case hw_22 => rfl
        case hy_22 => (intro w _; go_simp; try with_reducible rfl)
        try simp only [Act.put, List.setIfInBounds_toArray, List.set_cons_zero, List.set_cons_succ]
        refine anyZ_ready (rs := [10]) (by kernel_rfl) (by simp) ?_
        refine (AllZ.last (o := ?o_23) ?ho_23 (by rfl) (fun K hK => ?st_23) AllZ.nil)
        case ho_23 => (simp only [List.getElem?_toArray, List.getElem?_cons_succ, List.getElem?_cons_zero]; exact rfl)
        case st_23 =>
          rw [if_pos (by rfl)]; refine wp_storeArr 61 _ _ rfl _ rfl r (by rw [hrl.out]; rfl) (v := fun _ => 0) (by (repeat' (first | exact Arr.new2z | (with_reducible refine Arr.drew ?_)))) (by kernel_rfl) ?_; intro W1 hWn tR1 zWn
          refine hK.out _ _ ?_
          clear hK K
          try simp only [Act.put, List.setIfInBounds_toArray, List.set_cons_zero, List.set_cons_succ]
          refine anyZ_done (by kernel_rfl) ?_ _
          refine NoPanic.normal ?_
          have hB1 : Below w.heap.size w W1 := by
            rw [hWn.out]
            refine below_setCells ?_ (Nat.le_refl _) _ _
            (repeat' (first | (with_reducible first | exact Below.refl _ _ | assumption | refine Below.alloc ?_ ?_ _ | refine Below.drew ?_ | refine below_drewN ?_ _ | refine Below.setCell ?_ ?_ _ | refine below_via (by with_reducible assumption) ?_ ?_) | omega | (simp only [szs]; omega) | (simp only [szs] at *; omega)))
          have l1 : Hid (W1.heap.size = w.heap.size + 1) := by show _ = _; rw [zWn]; simp
          have t1 : Hid (Arr W1 .u64 w.heap.size 2 r) := tR1
          have lw1 : w.heap.size ≤ W1.heap.size := by have := l1.out; omega
          clear hWn zWn tR1 hHeld
          go_upto_region 2 with (fail)
          refine wp_region_noPanic ?_
          refine region_lastly (S := (fun w' => True)) [8] (by kernel_rfl) (by ((try dsimp only); (all_goals exact True.intro))) (fun hHeld => ?_)
          refine anyZ_free (i := 0) (oi := ?oi_60) (v := ?v_60) ?hi_60 ?hs_60 ?hf_60 ?hr_60 ?hQ_60 (Or.inl ⟨?hw_60, ?hy_60⟩) ?hrest_60
          case hi_60 => (simp only [List.getElem?_toArray, List.getElem?_cons_succ, List.getElem?_cons_zero]; exact rfl)
          case hs_60 => kernel_rfl
          case hf_60 => kernel_rfl
          case hr_60 => kernel_rfl
          case hQ_60 => exact fun _ _ _ h => h
          case hw_60 => rfl
          case hy_60 => (intro w _; go_simp; try with_reducible rfl)
          try simp only [Act.put, List.setIfInBounds_toArray, List.set_cons_zero, List.set_cons_succ]
          refine anyZ_free (i := 1) (oi := ?oi_61) (v := ?v_61) ?hi_61 ?hs_61 ?hf_61 ?hr_61 ?hQ_61 (Or.inl ⟨?hw_61, ?hy_61⟩) ?hrest_61
          case hi_61 => (simp only [List.getElem?_toArray, List.getElem?_cons_succ, List.getElem?_cons_zero]; exact rfl)
          case hs_61 => kernel_rfl
          case hf_61 => kernel_rfl
          case hr_61 => kernel_rfl
          case hQ_61 => exact fun _ _ _ h => h
          case hw_61 => rfl
          case hy_61 => (intro w _; go_simp; try with_reducible rfl)
          try simp only [Act.put, List.setIfInBounds_toArray, List.set_cons_zero, List.set_cons_succ]
          refine anyZ_free (i := 3) (oi := ?oi_62) (v := ?v_62) ?hi_62 ?hs_62 ?hf_62 ?hr_62 ?hQ_62 (Or.inl ⟨?hw_62, ?hy_62⟩) ?hrest_62
          case hi_62 => (simp only [List.getElem?_toArray, List.getElem?_cons_succ, List.getElem?_cons_zero]; exact rfl)
          case hs_62 => kernel_rfl
          case hf_62 => kernel_rfl
          case hr_62 => kernel_rfl
          case hQ_62 => exact fun _ _ _ h => h
          case hw_62 => rfl
          case hy_62 => (intro w _; go_simp; try with_reducible rfl)
          try simp only [Act.put, List.setIfInBounds_toArray, List.set_cons_zero, List.set_cons_succ]
          refine anyZ_free (i := 4) (oi := ?oi_63) (v := ?v_63) ?hi_63 ?hs_63 ?hf_63 ?hr_63 ?hQ_63 (Or.inl ⟨?hw_63, ?hy_63⟩) ?hrest_63
          case hi_63 => (simp only [List.getElem?_toArray, List.getElem?_cons_succ, List.getElem?_cons_zero]; exact rfl)
          case hs_63 => kernel_rfl
          case hf_63 => kernel_rfl
          case hr_63 => kernel_rfl
          case hQ_63 => exact fun _ _ _ h => h
          case hw_63 => rfl
          case hy_63 => (intro w _; go_simp; try with_reducible rfl)
          try simp only [Act.put, List.setIfInBounds_toArray, List.set_cons_zero, List.set_cons_succ]
          refine anyZ_ready (rs := [2, 7]) (by kernel_rfl) (by simp) ?_
          refine (AllZ.cons (o := ?o_65) ?ho_65 (fun K hK => ?st_65) (AllZ.cons (o := ?o_64) ?ho_64 (fun K hK => ?st_64) AllZ.nil))
          case ho_65 => (simp only [List.getElem?_toArray, List.getElem?_cons_succ, List.getElem?_cons_zero]; exact rfl)
          case ho_64 => (simp only [List.getElem?_toArray, List.getElem?_cons_succ, List.getElem?_cons_zero]; exact rfl)
          case st_65 =>
            go_simp
            (go_at_call 36; with_reducible refine (c2 _ (by (repeat' (first | (with_reducible first | exact Below.refl _ _ | assumption | refine Below.alloc ?_ ?_ _ | refine Below.drew ?_ | refine below_drewN ?_ _ | refine Below.setCell ?_ ?_ _ | refine below_via (by with_reducible assumption) ?_ ?_) | omega | (simp only [szs]; omega) | (simp only [szs] at *; omega)))) _).mono ?_; rintro e w' ⟨rfl, rfl⟩)
            refine hK.out _ _ (by ((try dsimp only); (all_goals exact True.intro))) (fun hHeld => ?_)
            clear hK K
            try simp only [Act.put, List.setIfInBounds_toArray, List.set_cons_zero, List.set_cons_succ]
            refine anyZ_ready (rs := [5, 7]) (by kernel_rfl) (by simp) ?_
            refine (AllZ.cons (o := ?o_67) ?ho_67 (fun K hK => ?st_67) (AllZ.cons (o := ?o_66) ?ho_66 (fun K hK => ?st_66) AllZ.nil))
            case ho_67 => (simp only [List.getElem?_toArray, List.getElem?_cons_succ, List.getElem?_cons_zero]; exact rfl)
            case ho_66 => (simp only [List.getElem?_toArray, List.getElem?_cons_succ, List.getElem?_cons_zero]; exact rfl)
            case st_67 =>
              go_simp
              (go_at_call 36; with_reducible refine (c3 _ (by (repeat' (first | (with_reducible first | exact Below.refl _ _ | assumption | refine Below.alloc ?_ ?_ _ | refine Below.drew ?_ | refine below_drewN ?_ _ | refine Below.setCell ?_ ?_ _ | refine below_via (by with_reducible assumption) ?_ ?_) | omega | (simp only [szs]; omega) | (simp only [szs] at *; omega)))) _).mono ?_; rintro e w' ⟨rfl, rfl⟩)
              refine hK.out _ _ (by ((try dsimp only); (all_goals exact True.intro))) (fun hHeld => ?_)
              clear hK K
              try simp only [Act.put, List.setIfInBounds_toArray, List.set_cons_zero, List.set_cons_succ]
              refine anyZ_free (i := 6) (oi := ?oi_68) (v := ?v_68) ?hi_68 ?hs_68 ?hf_68 ?hr_68 ?hQ_68 (Or.inl ⟨?hw_68, ?hy_68⟩) ?hrest_68
              case hi_68 => (simp only [List.getElem?_toArray, List.getElem?_cons_succ, List.getElem?_cons_zero]; exact rfl)
              case hs_68 => kernel_rfl
              case hf_68 => kernel_rfl
              case hr_68 => kernel_rfl
              case hQ_68 => exact fun _ _ _ h => h
              case hw_68 => rfl
              case hy_68 => (intro w _; go_simp; try with_reducible rfl)
              try simp only [Act.put, List.setIfInBounds_toArray, List.set_cons_zero, List.set_cons_succ]
              refine anyZ_ready (rs := [7]) (by kernel_rfl) (by simp) ?_
              refine (AllZ.cons (o := ?o_69) ?ho_69 (fun K hK => ?st_69) AllZ.nil)
              case ho_69 => (simp only [List.getElem?_toArray, List.getElem?_cons_succ, List.getElem?_cons_zero]; exact rfl)
              case st_69 =>
                go_simp
                refine hK.out _ _ (by ((try dsimp only); (all_goals exact True.intro))) (fun hHeld => ?_)
                clear hK K
                try simp only [Act.put, List.setIfInBounds_toArray, List.set_cons_zero, List.set_cons_succ]
                refine anyZ_ready (rs := [8]) (by kernel_rfl) (by simp) ?_
                refine (AllZ.last (o := ?o_70) ?ho_70 (by rfl) (fun K hK => ?st_70) AllZ.nil)
                case ho_70 => (simp only [List.getElem?_toArray, List.getElem?_cons_succ, List.getElem?_cons_zero]; exact rfl)
                case st_70 =>
                  rw [if_pos (by rfl)]; refine wp_storeArr 63 _ _ rfl _ rfl s (by rw [hsl.out]; rfl) (v := fun _ => 0) (by (repeat' (first | exact Arr.new3z | (with_reducible refine Arr.drew ?_)))) (by kernel_rfl) ?_; intro W2 hWn tS2 zWn
                  refine hK.out _ _ ?_
                  clear hK K
                  try simp only [Act.put, List.setIfInBounds_toArray, List.set_cons_zero, List.set_cons_succ]
                  refine anyZ_done (by kernel_rfl) ?_ _
                  refine NoPanic.normal ?_
                  have hB2 : Below w.heap.size w W2 := by
                    rw [hWn.out]
                    refine below_setCells ?_ (by have := l1.out; omega) _ _
                    have := l1.out
                    (repeat' (first | (with_reducible first | exact Below.refl _ _ | assumption | refine Below.alloc ?_ ?_ _ | refine Below.drew ?_ | refine below_drewN ?_ _ | refine Below.setCell ?_ ?_ _ | refine below_via (by with_reducible assumption) ?_ ?_) | omega | (simp only [szs]; omega) | (simp only [szs] at *; omega)))
                  have l2 : Hid (W2.heap.size = w.heap.size + 2) := by show _ = _; rw [zWn]; have := l1.out; simp; omega
                  have t2 : Arr W2 .u64 w.heap.size 2 r := by
                    rw [hWn.out]
                    refine Arr.farCells ?_ (by have := l1.out; omega) _ _
                    exact (t1.out.alloc _).drew
                  have s2 : Arr W2 .u64 (w.heap.size + 1) 3 s := by rw [← l1.out]; exact tS2.out
                  rw [l1.out]
                  clear hWn zWn tS2 hHeld t1 l1 hB1 lw1
                  go_upto_region 4 with (fail)
                  have hQ : Arr (W2.alloc (.cells #[.int .u64 0, .int .u64 0, .int .u64 0] 63)) .u64 (w.heap.size + 2) 3 (fun _ => 0) := by rw [← l2.out]; exact Arr.new3z
                  have hR3 := t2.alloc (.cells #[.int .u64 0, .int .u64 0, .int .u64 0] 63)
                  have hS3 := s2.alloc (.cells #[.int .u64 0, .int .u64 0, .int .u64 0] 63)
                  have hB3 := hB2.alloc (by have := l2.out; omega) (.cells #[.int .u64 0, .int .u64 0, .int .u64 0] 63)
                  have l3 : Hid ((W2.alloc (.cells #[.int .u64 0, .int .u64 0, .int .u64 0] 63)).heap.size = w.heap.size + 3) := by show _ = _; rw [World.size_alloc, l2.out]
                  rw [l2.out]
                  clear t2 s2 hB2 l2
                  generalize W2.alloc (.cells #[.int .u64 0, .int .u64 0, .int .u64 0] 63) = W3 at *
                  obtain ⟨W4, hmk, tG4, b4, z4⟩ := make_room16 W3
                  rw [l3.out] at hmk tG4 z4
                  have l4 : Hid (W4.heap.size = w.heap.size + 4) := z4
                  have hR4 := hR3.below b4 hR3.lt
                  have hS4 := hS3.below b4 hS3.lt
                  have hQ4 := hQ.below b4 hQ.lt
                  have hB4 := below_via b4 hB3 (by have := l3.out; omega)
                  clear hR3 hS3 hQ hB3 b4 z4
                  go_upto_region 5 with (fail)
                  have hfinal : Hid (Stt (W4.alloc (.cells #[.slice (some ⟨w.heap.size + 3, 0, none⟩) 0 16] 22)) w.heap.size r s R Z 0) := by
                    refine ⟨fun _ => 0, fun _ => 0, ⟨hR4.alloc _, hS4.alloc _, hQ4.alloc _, tG4.out.alloc _, ?_, ?_, by rw [World.size_alloc, l4.out]; omega⟩, ⟨fun _ => Nat.zero_lt_succ _, by decide, rfl⟩, fun _ => Nat.zero_lt_succ _, fun i hi => by simp at hi⟩
                    · exact World.cell?_alloc_at _ _ _ _ (by rw [l4.out])
                    · exact World.frozen?_alloc_at _ _ _ _ (by rw [l4.out])
                  have hB5 : Below w.heap.size w (W4.alloc (.cells #[.slice (some ⟨w.heap.size + 3, 0, none⟩) 0 16] 22)) := hB4.alloc (by have := l4.out; omega) _
                  rw [l4.out]
                  clear hmk hR4 hS4 hQ4 tG4 hB4 l4 l3
                  generalize W4.alloc (.cells #[.slice (some ⟨w.heap.size + 3, 0, none⟩) 0 16] 22) = W5 at *
                  go_wp2
                  go_ret2
                  exact ⟨rfl, hfinal.out, hB5⟩
            case st_66 =>
              go_simp
              refine hK.out _ _ (by ((try dsimp only); (all_goals exact True.intro))) (fun hHeld => ?_)
              clear hK K
              try simp only [Act.put, List.setIfInBounds_toArray, List.set_cons_zero, List.set_cons_succ]
              refine anyZ_ready (rs := [5]) (by kernel_rfl) (by simp) ?_
              refine (AllZ.cons (o := ?o_71) ?ho_71 (fun K hK => ?st_71) AllZ.nil)
              case ho_71 => (simp only [List.getElem?_toArray, List.getElem?_cons_succ, List.getElem?_cons_zero]; exact rfl)
              case st_71 =>
                go_simp
                (go_at_call 36; with_reducible refine (c3 _ (by (repeat' (first | (with_reducible first | exact Below.refl _ _ | assumption | refine Below.alloc ?_ ?_ _ | refine Below.drew ?_ | refine below_drewN ?_ _ | refine Below.setCell ?_ ?_ _ | refine below_via (by with_reducible assumption) ?_ ?_) | omega | (simp only [szs]; omega) | (simp only [szs] at *; omega)))) _).mono ?_; rintro e w' ⟨rfl, rfl⟩)
                refine hK.out _ _ (by ((try dsimp only); (all_goals exact True.intro))) (fun hHeld => ?_)
                clear hK K
                try simp only [Act.put, List.setIfInBounds_toArray, List.set_cons_zero, List.set_cons_succ]
                refine anyZ_free (i := 6) (oi := ?oi_72) (v := ?v_72) ?hi_72 ?hs_72 ?hf_72 ?hr_72 ?hQ_72 (Or.inl ⟨?hw_72, ?hy_72⟩) ?hrest_72
                case hi_72 => (simp only [List.getElem?_toArray, List.getElem?_cons_succ, List.getElem?_cons_zero]; exact rfl)
                case hs_72 => kernel_rfl
                case hf_72 => kernel_rfl
                case hr_72 => kernel_rfl
                case hQ_72 => exact fun _ _ _ h => h
                case hw_72 => rfl
                case hy_72 => (intro w _; go_simp; try with_reducible rfl)
                try simp only [Act.put, List.setIfInBounds_toArray, List.set_cons_zero, List.set_cons_succ]
                refine anyZ_ready (rs := [8]) (by kernel_rfl) (by simp) ?_
                refine (AllZ.last (o := ?o_73) ?ho_73 (by rfl) (fun K hK => ?st_73) AllZ.nil)
                case ho_73 => (simp only [List.getElem?_toArray, List.getElem?_cons_succ, List.getElem?_cons_zero]; exact rfl)
                case st_73 =>
                  rw [if_pos (by rfl)]; refine wp_storeArr 63 _ _ rfl _ rfl s (by rw [hsl.out]; rfl) (v := fun _ => 0) (by (repeat' (first | exact Arr.new3z | (with_reducible refine Arr.drew ?_)))) (by kernel_rfl) ?_; intro W2 hWn tS2 zWn
                  refine hK.out _ _ ?_
                  clear hK K
                  try simp only [Act.put, List.setIfInBounds_toArray, List.set_cons_zero, List.set_cons_succ]
                  refine anyZ_done (by kernel_rfl) ?_ _
                  refine NoPanic.normal ?_
                  have hB2 : Below w.heap.size w W2 := by
                    rw [hWn.out]
                    refine below_setCells ?_ (by have := l1.out; omega) _ _
                    have := l1.out
                    (repeat' (first | (with_reducible first | exact Below.refl _ _ | assumption | refine Below.alloc ?_ ?_ _ | refine Below.drew ?_ | refine below_drewN ?_ _ | refine Below.setCell ?_ ?_ _ | refine below_via (by with_reducible assumption) ?_ ?_) | omega | (simp only [szs]; omega) | (simp only [szs] at *; omega)))
                  have l2 : Hid (W2.heap.size = w.heap.size + 2) := by show _ = _; rw [zWn]; have := l1.out; simp; omega
                  have t2 : Arr W2 .u64 w.heap.size 2 r := by
                    rw [hWn.out]
                    refine Arr.farCells ?_ (by have := l1.out; omega) _ _
                    exact (t1.out.alloc _).drew
                  have s2 : Arr W2 .u64 (w.heap.size + 1) 3 s := by rw [← l1.out]; exact tS2.out
                  rw [l1.out]
                  clear hWn zWn tS2 hHeld t1 l1 hB1 lw1
                  go_upto_region 4 with (fail)
                  have hQ : Arr (W2.alloc (.cells #[.int .u64 0, .int .u64 0, .int .u64 0] 63)) .u64 (w.heap.size + 2) 3 (fun _ => 0) := by rw [← l2.out]; exact Arr.new3z
                  have hR3 := t2.alloc (.cells #[.int .u64 0, .int .u64 0, .int .u64 0] 63)
                  have hS3 := s2.alloc (.cells #[.int .u64 0, .int .u64 0, .int .u64 0] 63)
                  have hB3 := hB2.alloc (by have := l2.out; omega) (.cells #[.int .u64 0, .int .u64 0, .int .u64 0] 63)
                  have l3 : Hid ((W2.alloc (.cells #[.int .u64 0, .int .u64 0, .int .u64 0] 63)).heap.size = w.heap.size + 3) := by show _ = _; rw [World.size_alloc, l2.out]
                  rw [l2.out]
                  clear t2 s2 hB2 l2
                  generalize W2.alloc (.cells #[.int .u64 0, .int .u64 0, .int .u64 0] 63) = W3 at *
                  obtain ⟨W4, hmk, tG4, b4, z4⟩ := make_room16 W3
                  rw [l3.out] at hmk tG4 z4
                  have l4 : Hid (W4.heap.size = w.heap.size + 4) := z4
                  have hR4 := hR3.below b4 hR3.lt
                  have hS4 := hS3.below b4 hS3.lt
                  have hQ4 := hQ.below b4 hQ.lt
                  have hB4 := below_via b4 hB3 (by have := l3.out; omega)
                  clear hR3 hS3 hQ hB3 b4 z4
                  go_upto_region 5 with (fail)
                  have hfinal : Hid (Stt (W4.alloc (.cells #[.slice (some ⟨w.heap.size + 3, 0, none⟩) 0 16] 22)) w.heap.size r s R Z 0) := by
                    refine ⟨fun _ => 0, fun _ => 0, ⟨hR4.alloc _, hS4.alloc _, hQ4.alloc _, tG4.out.alloc _, ?_, ?_, by rw [World.size_alloc, l4.out]; omega⟩, ⟨fun _ => Nat.zero_lt_succ _, by decide, rfl⟩, fun _ => Nat.zero_lt_succ _, fun i hi => by simp at hi⟩
                    · exact World.cell?_alloc_at _ _ _ _ (by rw [l4.out])
                    · exact World.frozen?_alloc_at _ _ _ _ (by rw [l4.out])
                  have hB5 : Below w.heap.size w (W4.alloc (.cells #[.slice (some ⟨w.heap.size + 3, 0, none⟩) 0 16] 22)) := hB4.alloc (by have := l4.out; omega) _
                  rw [l4.out]
                  clear hmk hR4 hS4 hQ4 tG4 hB4 l4 l3
                  generalize W4.alloc (.cells #[.slice (some ⟨w.heap.size + 3, 0, none⟩) 0 16] 22) = W5 at *
                  go_wp2
                  go_ret2
                  exact ⟨rfl, hfinal.out, hB5⟩
          case st_64 =>
            go_simp
            refine hK.out _ _ (by ((try dsimp only); (all_goals exact True.intro))) (fun hHeld => ?_)
            clear hK K
            try simp only [Act.put, List.setIfInBounds_toArray, List.set_cons_zero, List.set_cons_succ]
            refine anyZ_ready (rs := [2]) (by kernel_rfl) (by simp) ?_
            refine (AllZ.cons (o := ?o_74) ?ho_74 (fun K hK => ?st_74) AllZ.nil)
            case ho_74 => (simp only [List.getElem?_toArray, List.getElem?_cons_succ, List.getElem?_cons_zero]; exact rfl)
            case st_74 =>
              go_simp
              (go_at_call 36; with_reducible refine (c2 _ (by (repeat' (first | (with_reducible first | exact Below.refl _ _ | assumption | refine Below.alloc ?_ ?_ _ | refine Below.drew ?_ | refine below_drewN ?_ _ | refine Below.setCell ?_ ?_ _ | refine below_via (by with_reducible assumption) ?_ ?_) | omega | (simp only [szs]; omega) | (simp only [szs] at *; omega)))) _).mono ?_; rintro e w' ⟨rfl, rfl⟩)
              refine hK.out _ _ (by ((try dsimp only); (all_goals exact True.intro))) (fun hHeld => ?_)
              clear hK K
              try simp only [Act.put, List.setIfInBounds_toArray, List.set_cons_zero, List.set_cons_succ]
              refine anyZ_ready (rs := [5]) (by kernel_rfl) (by simp) ?_
              refine (AllZ.cons (o := ?o_75) ?ho_75 (fun K hK => ?st_75) AllZ.nil)
              case ho_75 => (simp only [List.getElem?_toArray, List.getElem?_cons_succ, List.getElem?_cons_zero]; exact rfl)
              case st_75 =>
                go_simp
                (go_at_call 36; with_reducible refine (c3 _ (by (repeat' (first | (with_reducible first | exact Below.refl _ _ | assumption | refine Below.alloc ?_ ?_ _ | refine Below.drew ?_ | refine below_drewN ?_ _ | refine Below.setCell ?_ ?_ _ | refine below_via (by with_reducible assumption) ?_ ?_) | omega | (simp only [szs]; omega) | (simp only [szs] at *; omega)))) _).mono ?_; rintro e w' ⟨rfl, rfl⟩)
                refine hK.out _ _ (by ((try dsimp only); (all_goals exact True.intro))) (fun hHeld => ?_)
                clear hK K
                try simp only [Act.put, List.setIfInBounds_toArray, List.set_cons_zero, List.set_cons_succ]
                refine anyZ_free (i := 6) (oi := ?oi_76) (v := ?v_76) ?hi_76 ?hs_76 ?hf_76 ?hr_76 ?hQ_76 (Or.inl ⟨?hw_76, ?hy_76⟩) ?hrest_76
                case hi_76 => (simp only [List.getElem?_toArray, List.getElem?_cons_succ, List.getElem?_cons_zero]; exact rfl)
                case hs_76 => kernel_rfl
                case hf_76 => kernel_rfl
                case hr_76 => kernel_rfl
                case hQ_76 => exact fun _ _ _ h => h
                case hw_76 => rfl
                case hy_76 => (intro w _; go_simp; try with_reducible rfl)
                try simp only [Act.put, List.setIfInBounds_toArray, List.set_cons_zero, List.set_cons_succ]
                refine anyZ_ready (rs := [8]) (by kernel_rfl) (by simp) ?_
                refine (AllZ.last (o := ?o_77) ?ho_77 (by rfl) (fun K hK => ?st_77) AllZ.nil)
                case ho_77 => (simp only [List.getElem?_toArray, List.getElem?_cons_succ, List.getElem?_cons_zero]; exact rfl)
                case st_77 =>
                  rw [if_pos (by rfl)]; refine wp_storeArr 63 _ _ rfl _ rfl s (by rw [hsl.out]; rfl) (v := fun _ => 0) (by (repeat' (first | exact Arr.new3z | (with_reducible refine Arr.drew ?_)))) (by kernel_rfl) ?_; intro W2 hWn tS2 zWn
                  refine hK.out _ _ ?_
                  clear hK K
                  try simp only [Act.put, List.setIfInBounds_toArray, List.set_cons_zero, List.set_cons_succ]
                  refine anyZ_done (by kernel_rfl) ?_ _
                  refine NoPanic.normal ?_
                  have hB2 : Below w.heap.size w W2 := by
                    rw [hWn.out]
                    refine below_setCells ?_ (by have := l1.out; omega) _ _
                    have := l1.out
                    (repeat' (first | (with_reducible first | exact Below.refl _ _ | assumption | refine Below.alloc ?_ ?_ _ | refine Below.drew ?_ | refine below_drewN ?_ _ | refine Below.setCell ?_ ?_ _ | refine below_via (by with_reducible assumption) ?_ ?_) | omega | (simp only [szs]; omega) | (simp only [szs] at *; omega)))
                  have l2 : Hid (W2.heap.size = w.heap.size + 2) := by show _ = _; rw [zWn]; have := l1.out; simp; omega
                  have t2 : Arr W2 .u64 w.heap.size 2 r := by
                    rw [hWn.out]
                    refine Arr.farCells ?_ (by have := l1.out; omega) _ _
                    exact (t1.out.alloc _).drew
                  have s2 : Arr W2 .u64 (w.heap.size + 1) 3 s := by rw [← l1.out]; exact tS2.out
                  rw [l1.out]
                  clear hWn zWn tS2 hHeld t1 l1 hB1 lw1
                  go_upto_region 4 with (fail)
                  have hQ : Arr (W2.alloc (.cells #[.int .u64 0, .int .u64 0, .int .u64 0] 63)) .u64 (w.heap.size + 2) 3 (fun _ => 0) := by rw [← l2.out]; exact Arr.new3z
                  have hR3 := t2.alloc (.cells #[.int .u64 0, .int .u64 0, .int .u64 0] 63)
                  have hS3 := s2.alloc (.cells #[.int .u64 0, .int .u64 0, .int .u64 0] 63)
                  have hB3 := hB2.alloc (by have := l2.out; omega) (.cells #[.int .u64 0, .int .u64 0, .int .u64 0] 63)
                  have l3 : Hid ((W2.alloc (.cells #[.int .u64 0, .int .u64 0, .int .u64 0] 63)).heap.size = w.heap.size + 3) := by show _ = _; rw [World.size_alloc, l2.out]
                  rw [l2.out]
                  clear t2 s2 hB2 l2
                  generalize W2.alloc (.cells #[.int .u64 0, .int .u64 0, .int .u64 0] 63) = W3 at *
                  obtain ⟨W4, hmk, tG4, b4, z4⟩ := make_room16 W3
                  rw [l3.out] at hmk tG4 z4
                  have l4 : Hid (W4.heap.size = w.heap.size + 4) := z4
                  have hR4 := hR3.below b4 hR3.lt
                  have hS4 := hS3.below b4 hS3.lt
                  have hQ4 := hQ.below b4 hQ.lt
                  have hB4 := below_via b4 hB3 (by have := l3.out; omega)
                  clear hR3 hS3 hQ hB3 b4 z4
                  go_upto_region 5 with (fail)
                  have hfinal : Hid (Stt (W4.alloc (.cells #[.slice (some ⟨w.heap.size + 3, 0, none⟩) 0 16] 22)) w.heap.size r s R Z 0) := by
                    refine ⟨fun _ => 0, fun _ => 0, ⟨hR4.alloc _, hS4.alloc _, hQ4.alloc _, tG4.out.alloc _, ?_, ?_, by rw [World.size_alloc, l4.out]; omega⟩, ⟨fun _ => Nat.zero_lt_succ _, by decide, rfl⟩, fun _ => Nat.zero_lt_succ _, fun i hi => by simp at hi⟩
                    · exact World.cell?_alloc_at _ _ _ _ (by rw [l4.out])
                    · exact World.frozen?_alloc_at _ _ _ _ (by rw [l4.out])
                  have hB5 : Below w.heap.size w (W4.alloc (.cells #[.slice (some ⟨w.heap.size + 3, 0, none⟩) 0 16] 22)) := hB4.alloc (by have := l4.out; omega) _
                  rw [l4.out]
                  clear hmk hR4 hS4 hQ4 tG4 hB4 l4 l3
                  generalize W4.alloc (.cells #[.slice (some ⟨w.heap.size + 3, 0, none⟩) 0 16] 22) = W5 at *
                  go_wp2
                  go_ret2
                  exact ⟨rfl, hfinal.out, hB5⟩
end Go.Proofs.YtdaonbfdcpkipaaDoor

namespace Go.Proofs.YtdaonbfdcpkipaaDoor
open Go.RowKit Go.Proofs

/-- The tables lie as the program lays them. -/
structure Tabs (w : World) : Prop where
  lt : 2 ≤ w.heap.size
  first : Rd w .u32 0 4 Ob.cha0
  places : ∀ i j, i < 8 → j < 4 → w.cell? ⟨1, i * 4 + j, none⟩ = some (.int .u8 (Ob.plc i j : Nat))
theorem Tabs.below {w w1 : World} {B : Nat} (t : Tabs w) (hb : Below B w w1) (h : 2 ≤ B) : Tabs w1 :=
  ⟨Nat.le_trans t.lt hb.size, t.first.below hb (by omega), fun i j hi hj => by rw [(bcell hb).1 _ _ (by omega)]; exact t.places i j hi hj⟩
theorem Tabs.on {w w1 : World} (t : Tabs w) (hb : Below w.heap.size w w1) : Tabs w1 := t.below hb t.lt
end Go.Proofs.YtdaonbfdcpkipaaDoor

namespace Ob
set_option linter.unusedSimpArgs false
theorem qhalf_four (v : Nat → Nat) {a b c d : Nat} (hab : a ≠ b) (hac : a ≠ c) (had : a ≠ d) (hbc : b ≠ c) (hbd : b ≠ d) (hcd : c ≠ d) (p q A B C D : Nat)
    (hA : s32 (v a) (v b) = A) (hD : rot (v d ^^^ A) p = D) (hC : s32 (v c) D = C) (hB : rot (v b ^^^ C) q = B) :
    upd (upd (upd (upd v a A) b B) c C) d D = qhalf v a b c d p q := by
  unfold qhalf
  simp only [hA]
  have e1 : upd v a A d = v d := upd_ne v A (Ne.symm had)
  have e2 : upd v a A a = A := upd_same v a A
  rw [e1, e2, hD]
  have e3 : upd (upd v a A) d D c = v c := by rw [upd_ne _ _ hcd, upd_ne _ _ (Ne.symm hac)]
  have e4 : upd (upd v a A) d D d = D := upd_same _ _ _
  rw [e3, e4, hC]
  have e5 : upd (upd (upd v a A) d D) c C b = v b := by rw [upd_ne _ _ hbc, upd_ne _ _ hbd, upd_ne _ _ (Ne.symm hab)]
  have e6 : upd (upd (upd v a A) d D) c C c = C := upd_same _ _ _
  rw [e5, e6, hB]
  funext j
  unfold upd
  by_cases h1 : j = a
  · subst h1; simp [hab, hac, had]
  · by_cases h2 : j = b
    · subst h2; simp [hbc, hbd, h1]
    · by_cases h3 : j = c
      · subst h3; simp [hcd, h1, h2]
      · by_cases h4 : j = d
        · subst h4; simp [h1, h2, h3]
        · simp [h1, h2, h3, h4]
/-- The first i quarters. -/
def chaI (v : Nat → Nat) : Nat → Nat → Nat
  | 0 => v
  | i + 1 => quarN (chaI v i) (plc i 0) (plc i 1) (plc i 2) (plc i 3)
theorem chaI_words {v : Nat → Nat} (h : Words32 v) : ∀ i, Words32 (chaI v i)
  | 0 => h
  | i + 1 => quarN_words (chaI_words h i) _ _ _ _
theorem chaI_all (v : Nat → Nat) : chaI v 8 = chaR v := rfl
end Ob
namespace Go.Proofs.YtdaonbfdcpkipaaDoor
open Go.RowKit Go.Proofs
set_option linter.unusedVariables false
set_option linter.unusedSimpArgs false
attribute [local go_sem ↓] Go.wp_at_zero Go.wp_at_succ

theorem turn_num : ∀ p : Fin 32, bits .and .u64 (IntKind.u64.wrap (p.val : Int)) 31 = ((p.val : Nat) : Int) := by decide +kernel

set_option maxHeartbeats 1000000 in
/-- Rolled to the left by s: to the right by 32 - s. -/
theorem rotLW (x s : Nat) (hx : x < 4294967296) (hs : s < 32) (w : World) :
    Calls Tryd.prog 53 #[.int .u32 x, .int .i64 s] w fun e w' => e = .returned (.int .u32 (Ob.rot x (32 - s) : Nat)) ∧ w = w' := by
  obtain ⟨p, hp⟩ : ∃ p, Hid (32 - s = p) := ⟨_, rfl⟩
  have h1 : bits .and .u64 (IntKind.u64.wrap (s : Int)) 31 = (s : Int) := turn_num ⟨s, hs⟩
  have h4 : IntKind.u64.wrap (32 - (s : Int)) = ((p : Nat) : Int) := by rw [IntKind.wrap_u64]; have := hp.out; omega
  have hs0 : Hid (32 - p = s) := by have := hp.out; show _ = _; omega
  have h5 : bits .or .u32 ((x : Int) * 2 ^ s % 4294967296) ((x : Int) / 2 ^ p) = ((Ob.rot x p : Nat) : Int) := by
    rw [← rollX_num x p hx (by have := hp.out; omega), hs0.out]
    simp
  rw [hp.out]
  go_enter Tryd.func53, Tryd.ntmps53
  have g0 : (0 : Int) ≤ (s : Int) := by omega
  have g1 : ¬ (s : Int) < 0 := by omega
  have g2 : (s : Int) ≤ 32 := by omega
  have g3 : ¬ (32 : Int) < (s : Int) := by omega
  have g4 : (0 : Int) ≤ (p : Int) := by omega
  have g5 : IntKind.u64.wrap (s : Int) = (s : Int) := by rw [IntKind.wrap_u64]; omega
  rw [g5] at h1
  have g6 : min p 32 = p := by have := hp.out; omega
  go_wp2
  go_ret
  exact ⟨rfl, rfl⟩

set_option maxHeartbeats 1000000 in
theorem halfC_core (a b c d p q A B C D s t : Nat) (w : World)
    (h2 : IntKind.u32.wrap ((a : Int) + (b : Int)) = (A : Int))
    (h3 : bits .xor .u32 (d : Int) (A : Int) = (s : Int)) (h4 : IntKind.u32.wrap ((c : Int) + (D : Int)) = (C : Int)) (h5 : bits .xor .u32 (b : Int) (C : Int) = (t : Int))
    (c1 : ∀ w, Calls Tryd.prog 53 #[.int .u32 s, .int .i64 p] w fun e w' => e = .returned (.int .u32 D) ∧ w = w')
    (c2 : ∀ w, Calls Tryd.prog 53 #[.int .u32 t, .int .i64 q] w fun e w' => e = .returned (.int .u32 B) ∧ w = w') :
    Calls Tryd.prog 47 #[.int .u32 a, .int .u32 b, .int .u32 c, .int .u32 d, .int .i64 p, .int .i64 q] w fun e w' => e = .returned (.tuple #[.int .u32 A, .int .u32 B, .int .u32 C, .int .u32 D]) ∧ w = w' := by
  go_enter Tryd.func47, Tryd.ntmps47
  go_wp2_with (first | (go_at_call 53; first | (with_reducible refine (c1 _).mono ?_; rintro e w' ⟨rfl, rfl⟩) | (with_reducible refine (c2 _).mono ?_; rintro e w' ⟨rfl, rfl⟩)))
  exact bodyPost_ret (v := .tuple #[.int .u32 A, .int .u32 B, .int .u32 C, .int .u32 D]) (by simp [results, Tryd.results47, go_sem]) rfl ⟨rfl, rfl⟩
theorem halfCW (a b c d p q A B C D : Nat) (ha : a < 4294967296) (hb : b < 4294967296) (hc : c < 4294967296) (hd : d < 4294967296) (hp : p < 32) (hq : q < 32)
    (hA : Ob.s32 a b = A) (hD : Ob.rot (d ^^^ A) (32 - p) = D) (hC : Ob.s32 c D = C) (hB : Ob.rot (b ^^^ C) (32 - q) = B) (w : World) :
    Calls Tryd.prog 47 #[.int .u32 a, .int .u32 b, .int .u32 c, .int .u32 d, .int .i64 p, .int .i64 q] w fun e w' => e = .returned (.tuple #[.int .u32 A, .int .u32 B, .int .u32 C, .int .u32 D]) ∧ w = w' := by
  have lA : A < 4294967296 := by rw [← hA]; exact Ob.s32_lt _ _
  have lC : C < 4294967296 := by rw [← hC]; exact Ob.s32_lt _ _
  refine halfC_core a b c d p q A B C D (d ^^^ A) (b ^^^ C) w ?_ (xor_u32 _ _ hd lA) ?_ (xor_u32 _ _ hb lC) ?_ ?_
  · rw [← hA, IntKind.wrap_u32]; unfold Ob.s32; omega
  · rw [← hC, IntKind.wrap_u32]; unfold Ob.s32; omega
  · rw [← hD]; exact rotLW _ p (Ob.xor_lt hd lA) hp
  · rw [← hB]; exact rotLW _ q (Ob.xor_lt hb lC) hq
end Go.Proofs.YtdaonbfdcpkipaaDoor
