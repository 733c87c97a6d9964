/-
  The document's own answers of layer 10: hashes of lists, and the heads that the statements reckon.
-/
import Derived.Test.YtgjpdamojfkpiaaRefK
import Derived.Test.YtgjpdamojfkpiaaWdsA
import Derived.Test.YtgjpdamojfkpiaaLast
namespace Go.Proofs.Ytgjpdamojfkpiaa
open Go.RowKit Go.Proofs
set_option linter.unusedVariables false
set_option linter.unusedSimpArgs false
attribute [local go_sem ↓] Go.wp_at_zero Go.wp_at_succ
attribute [local irreducible] Ob.twoG

set_option maxHeartbeats 2000000 in
theorem kmanyW (ad : Option Addr) (m c : Nat) (hm : m ≤ 1000000) (l : Nat → Nat) (hl : ∀ i, l i < 18446744073709551616) (w : World) (hs : SrcW w.heap.size w ad m l) :
    Calls Try.prog 16 #[.slice ad m c] w fun e w' => e = .returned (.int .u64 (hdN m l m : Nat)) ∧ w = w' := by
  have hs' : Hid (SrcW w.heap.size w ad m l) := hs
  have hl' : Hid (∀ i, l i < 18446744073709551616) := hl
  have wm : IntKind.u64.wrap (m : Int) = (m : Int) := wrapNat m (by omega)
  have rm : Hid ((m : Int) % 288230376287764481 = (m : Int)) := Int.emod_eq_of_lt (by omega) (by omega)
  have h0 : Hid (hdN m l 0 = m) := hdN_zero m l (by omega)
  obtain ⟨T, hT⟩ : ∃ T, Hid (hdN m l m = T) := ⟨_, rfl⟩
  rw [hT.out]
  clear hs hl
  go_enter Try.func16, Try.ntmps16
  go_wp2
  go_loopw [3, 4] (fun sh si wr => ∃ (i h : Nat), i ≤ m ∧ sh = .int .u64 h ∧ si = .int .i64 i ∧ w = wr ∧ Hid (hdN m l i = h)) (fun sh si _ => m - (intOf si).toNat)
  case atStart => exact ⟨0, m, by omega, by rw [rm.out], rfl, rfl, h0⟩
  case round =>
    obtain ⟨i, h, hi, rfl, rfl, rfl, hI⟩ := hrel
    by_cases hlt : i < m
    · have hlt' : (i : Int) < (m : Int) := by omega
      rcases hs'.out with hn | ⟨b, off, rfl, lb, wb⟩
      · omega
      have hc := wb.at_ i hlt
      have ct := ktwoW h (l i) (by rw [← hI.out]; exact hdN_lt _ _ _) (hl'.out i)
      have e : Hid (hdN m l (i + 1) = (Ob.twoG (Ob.toG h) (Ob.toG (l i))).val) := by show _ = _; rw [hdN_succ, hI.out]
      generalize (Ob.twoG (Ob.toG h) (Ob.toG (l i))).val = h2 at *
      generalize l i = li at *
      clear hI lb wb
      go_wp2_with (first | (go_at_call 14; first | (with_reducible refine (ct _).mono ?_; rintro e w' ⟨rfl, rfl⟩)))
      go_roundw
      case rel => exact ⟨i + 1, h2, by omega, by first | rfl | trivial, by go_num, by first | rfl | trivial, e⟩
      case measure => (simp [intOf]; omega)
    · obtain rfl : i = m := by omega
      have hlt' : ¬ (i : Int) < (i : Int) := by omega
      obtain rfl : h = T := hI.out.symm.trans hT.out
      go_wp2
      go_ret
      exact ⟨rfl, rfl⟩
theorem ownW_one (w : World) (X : Nat) (z : Nat → Nat) (h : z 0 = X) : OwnW (w.alloc (.cells #[.int .u64 (X : Nat)] 22)) w.heap.size (.slice (some ⟨w.heap.size, 0, none⟩) 1 1) 1 z := by
  refine ⟨by simp [wals], Or.inr ⟨w.heap.size, 1, #[.int .u64 (X : Nat)], rfl, Nat.le_refl _, heap_alloc_new w _, Nat.le_refl _, by decide, rfl, ?_⟩⟩
  simp [wals, h]
set_option maxHeartbeats 4000000 in
theorem kheadsW (ad : Option Addr) (m c : Nat) (hm : m ≤ 1000000) (l : Nat → Nat) (hl : ∀ i, l i < 18446744073709551616) (w : World) (hs : SrcW w.heap.size w ad m l) :
    Calls Try.prog 18 #[.slice ad m c] w fun e w' => ∃ v, e = .returned v ∧ OwnW w' w.heap.size v (m + 1) (hdN m l) ∧ Below w.heap.size w w' := by
  have hs' : Hid (SrcW w.heap.size w ad m l) := hs
  have hl' : Hid (∀ i, l i < 18446744073709551616) := hl
  have wm : IntKind.u64.wrap (m : Int) = (m : Int) := wrapNat m (by omega)
  have h0 := hdN_zero m l (by omega)
  obtain ⟨Z, hZ⟩ : ∃ Z, Hid (hdN m l = Z) := ⟨_, rfl⟩
  have hZ2 : Hid (∀ i, Z (i + 1) = (Ob.twoG (Ob.toG (Z i)) (Ob.toG (l i))).val) := by
    intro i
    have := hdN_succ m l i
    rw [hZ.out] at this
    exact this
  have hZ3 : Hid (∀ i, Z i < 18446744073709551616) := by rw [← hZ.out]; exact hdN_lt m l
  rw [hZ.out] at h0 ⊢
  have hstart : Hid (OwnW (w.alloc (.cells #[.int .u64 (m : Nat)] 22)) w.heap.size (.slice (some ⟨w.heap.size, 0, none⟩) 1 1) 1 Z) := ownW_one w m Z h0
  clear hs hl h0 hZ
  go_enter Try.func18, Try.ntmps18
  go_wp2
  go_loopw [3, 4] (fun sv si wr => ∃ i : Nat, i ≤ m ∧ si = .int .i64 i ∧ Hid (OwnW wr w.heap.size sv (i + 1) Z) ∧ Below w.heap.size w wr) (fun sv si _ => m - (intOf si).toNat)
  case atStart => exact ⟨0, by omega, rfl, hstart, by (repeat' (first | (with_reducible first | exact Below.refl _ _ | assumption | refine Below.alloc ?_ ?_ _ | refine Below.drew ?_ | refine below_drewN ?_ _ | refine Below.setCell ?_ ?_ _ | refine below_via (by with_reducible assumption) ?_ ?_) | omega | (simp only [szs]; omega) | (simp only [szs] at *; omega)))⟩
  case round =>
    clear hstart
    obtain ⟨i, hi, rfl, hown, hB⟩ := hrel
    obtain ⟨f, h, rfl, hc1, hc2, hsrc⟩ := hown.out.src
    by_cases hlt : i < m
    · have hlt' : (i : Int) < (m : Int) := by omega
      rcases hs'.out with hn | ⟨b, off, rfl, lb, wb⟩
      · omega
      rcases hsrc with hn | ⟨g, o, rfl, lg, wg⟩
      · omega
      have hc := (wb.below hB lb).at_ i hlt
      have hd := wg.at_ i (by omega)
      have hk1 : (i : Int) < (i : Int) + 1 := by omega
      have ct := ktwoW (Z i) (l i) (hZ3.out i) (hl'.out i)
      obtain ⟨X, hX⟩ : ∃ X, Hid (Z (i + 1) = X) := ⟨_, rfl⟩
      rw [← hZ2.out i, hX.out] at ct
      have hzB := hB.size
      have hown1 : Hid (OwnW (wr.drew.alloc (.cells #[.int .u64 (X : Nat)] 22)) w.heap.size (.slice (some ⟨g, o, none⟩) (i + 1) h) (i + 1) Z) := hown.out.on (by clear hB; (repeat' (first | (with_reducible first | exact Below.refl _ _ | assumption | refine Below.alloc ?_ ?_ _ | refine Below.drew ?_ | refine below_drewN ?_ _ | refine Below.setCell ?_ ?_ _ | refine below_via (by with_reducible assumption) ?_ ?_) | omega | (simp only [szs]; omega) | (simp only [szs] at *; omega))))
      generalize Z i = Zi at *
      generalize l i = li at *
      clear lb wb lg wg hc1 hc2
      go_wp2
      refine wp_region_noPanic ?_
      refine region_lastly (S := (fun w' => True)) [] (by kernel_rfl) (by ((try dsimp only); (all_goals exact True.intro))) (fun hHeld => ?_)
      refine anyZ_free (i := 0) (oi := ?oi_1) (v := ?v_1) ?hi_1 ?hs_1 ?hf_1 ?hr_1 ?hQ_1 (Or.inl ⟨?hw_1, ?hy_1⟩) ?hrest_1
      case hi_1 => (simp only [List.getElem?_toArray, List.getElem?_cons_succ, List.getElem?_cons_zero]; exact rfl)
      case hs_1 => kernel_rfl
      case hf_1 => kernel_rfl
      case hr_1 => kernel_rfl
      case hQ_1 => exact fun _ _ _ h => h
      case hw_1 => rfl
      case hy_1 => (intro w _; go_simp; try with_reducible rfl)
      try simp only [Act.put, List.setIfInBounds_toArray, List.set_cons_zero, List.set_cons_succ]
      refine anyZ_free (i := 1) (oi := ?oi_2) (v := ?v_2) ?hi_2 ?hs_2 ?hf_2 ?hr_2 ?hQ_2 (Or.inl ⟨?hw_2, ?hy_2⟩) ?hrest_2
      case hi_2 => (simp only [List.getElem?_toArray, List.getElem?_cons_succ, List.getElem?_cons_zero]; exact rfl)
      case hs_2 => kernel_rfl
      case hf_2 => kernel_rfl
      case hr_2 => kernel_rfl
      case hQ_2 => exact fun _ _ _ h => h
      case hw_2 => rfl
      case hy_2 => (intro w _; go_simp; try with_reducible rfl)
      try simp only [Act.put, List.setIfInBounds_toArray, List.set_cons_zero, List.set_cons_succ]
      refine anyZ_free (i := 2) (oi := ?oi_3) (v := ?v_3) ?hi_3 ?hs_3 ?hf_3 ?hr_3 ?hQ_3 (Or.inl ⟨?hw_3, ?hy_3⟩) ?hrest_3
      case hi_3 => (simp only [List.getElem?_toArray, List.getElem?_cons_succ, List.getElem?_cons_zero]; exact rfl)
      case hs_3 => kernel_rfl
      case hf_3 => kernel_rfl
      case hr_3 => kernel_rfl
      case hQ_3 => exact fun _ _ _ h => h
      case hw_3 => rfl
      case hy_3 => (intro w _; go_simp; try with_reducible rfl)
      try simp only [Act.put, List.setIfInBounds_toArray, List.set_cons_zero, List.set_cons_succ]
      refine anyZ_free (i := 3) (oi := ?oi_4) (v := ?v_4) ?hi_4 ?hs_4 ?hf_4 ?hr_4 ?hQ_4 (Or.inl ⟨?hw_4, ?hy_4⟩) ?hrest_4
      case hi_4 => (simp only [List.getElem?_toArray, List.getElem?_cons_succ, List.getElem?_cons_zero]; exact rfl)
      case hs_4 => kernel_rfl
      case hf_4 => kernel_rfl
      case hr_4 => kernel_rfl
      case hQ_4 => exact fun _ _ _ h => h
      case hw_4 => rfl
      case hy_4 => (intro w _; go_simp; try with_reducible rfl)
      try simp only [Act.put, List.setIfInBounds_toArray, List.set_cons_zero, List.set_cons_succ]
      refine anyZ_free (i := 5) (oi := ?oi_5) (v := ?v_5) ?hi_5 ?hs_5 ?hf_5 ?hr_5 ?hQ_5 (Or.inl ⟨?hw_5, ?hy_5⟩) ?hrest_5
      case hi_5 => (simp only [List.getElem?_toArray, List.getElem?_cons_succ, List.getElem?_cons_zero]; exact rfl)
      case hs_5 => kernel_rfl
      case hf_5 => kernel_rfl
      case hr_5 => kernel_rfl
      case hQ_5 => exact fun _ _ _ h => h
      case hw_5 => rfl
      case hy_5 => (intro w _; go_simp; try with_reducible rfl)
      try simp only [Act.put, List.setIfInBounds_toArray, List.set_cons_zero, List.set_cons_succ]
      refine anyZ_free (i := 6) (oi := ?oi_6) (v := ?v_6) ?hi_6 ?hs_6 ?hf_6 ?hr_6 ?hQ_6 (Or.inl ⟨?hw_6, ?hy_6⟩) ?hrest_6
      case hi_6 => (simp only [List.getElem?_toArray, List.getElem?_cons_succ, List.getElem?_cons_zero]; exact rfl)
      case hs_6 => kernel_rfl
      case hf_6 => kernel_rfl
      case hr_6 => kernel_rfl
      case hQ_6 => exact fun _ _ _ h => h
      case hw_6 => rfl
      case hy_6 => (intro w _; go_simp; try with_reducible rfl)
      try simp only [Act.put, List.setIfInBounds_toArray, List.set_cons_zero, List.set_cons_succ]
      refine anyZ_free (i := 7) (oi := ?oi_7) (v := ?v_7) ?hi_7 ?hs_7 ?hf_7 ?hr_7 ?hQ_7 (Or.inl ⟨?hw_7, ?hy_7⟩) ?hrest_7
      case hi_7 => (simp only [List.getElem?_toArray, List.getElem?_cons_succ, List.getElem?_cons_zero]; exact rfl)
      case hs_7 => kernel_rfl
      case hf_7 => kernel_rfl
      case hr_7 => kernel_rfl
      case hQ_7 => exact fun _ _ _ h => h
      case hw_7 => rfl
      case hy_7 => (intro w _; go_simp; try with_reducible rfl)
      try simp only [Act.put, List.setIfInBounds_toArray, List.set_cons_zero, List.set_cons_succ]
      refine anyZ_ready (rs := [4, 8]) (by kernel_rfl) (by simp) ?_
      refine (AllZ.cons (o := ?o_9) ?ho_9 (fun K hK => ?st_9) (AllZ.cons (o := ?o_8) ?ho_8 (fun K hK => ?st_8) AllZ.nil))
      case ho_9 => (simp only [List.getElem?_toArray, List.getElem?_cons_succ, List.getElem?_cons_zero]; exact rfl)
      case ho_8 => (simp only [List.getElem?_toArray, List.getElem?_cons_succ, List.getElem?_cons_zero]; exact rfl)
      case st_9 =>
        go_simp
        refine hK.out _ _ (by ((try dsimp only); (all_goals exact True.intro))) (fun hHeld => ?_)
        clear hK K
        try simp only [Act.put, List.setIfInBounds_toArray, List.set_cons_zero, List.set_cons_succ]
        refine anyZ_ready (rs := [8]) (by kernel_rfl) (by simp) ?_
        refine (AllZ.cons (o := ?o_10) ?ho_10 (fun K hK => ?st_10) AllZ.nil)
        case ho_10 => (simp only [List.getElem?_toArray, List.getElem?_cons_succ, List.getElem?_cons_zero]; exact rfl)
        case st_10 =>
          go_simp
          refine hK.out _ _ (by ((try dsimp only); (all_goals exact True.intro))) (fun hHeld => ?_)
          clear hK K
          try simp only [Act.put, List.setIfInBounds_toArray, List.set_cons_zero, List.set_cons_succ]
          refine anyZ_ready (rs := [9]) (by kernel_rfl) (by simp) ?_
          refine (AllZ.cons (o := ?o_11) ?ho_11 (fun K hK => ?st_11) AllZ.nil)
          case ho_11 => (simp only [List.getElem?_toArray, List.getElem?_cons_succ, List.getElem?_cons_zero]; exact rfl)
          case st_11 =>
            go_simp
            (first | (go_at_call 14; first | (with_reducible refine (ct _).mono ?_; rintro e w' ⟨rfl, rfl⟩)))
            refine hK.out _ _ (by ((try dsimp only); (all_goals exact True.intro))) (fun hHeld => ?_)
            clear hK K
            try simp only [Act.put, List.setIfInBounds_toArray, List.set_cons_zero, List.set_cons_succ]
            refine anyZ_ready (rs := [10]) (by kernel_rfl) (by simp) ?_
            refine (AllZ.cons (o := ?o_12) ?ho_12 (fun K hK => ?st_12) AllZ.nil)
            case ho_12 => (simp only [List.getElem?_toArray, List.getElem?_cons_succ, List.getElem?_cons_zero]; exact rfl)
            case st_12 =>
              go_simp
              refine hK.out _ _ (by ((try dsimp only); (all_goals exact True.intro))) (fun hHeld => ?_)
              clear hK K
              try simp only [Act.put, List.setIfInBounds_toArray, List.set_cons_zero, List.set_cons_succ]
              refine anyZ_ready (rs := [11]) (by kernel_rfl) (by simp) ?_
              refine (AllZ.cons (o := ?o_13) ?ho_13 (fun K hK => ?st_13) AllZ.nil)
              case ho_13 => (simp only [List.getElem?_toArray, List.getElem?_cons_succ, List.getElem?_cons_zero]; exact rfl)
              case st_13 =>
                rw [if_pos (by rfl)]; (refine wp_app1W _ _ rfl w.heap.size _ (i + 1) _ rfl hown1.out wr.heap.size X rfl (by simp [go_sem]) (by omega) (by first | (simp; done) | (simp; omega)) hX.out ?_); intro v' w1 ho hg; have hBw : Below w.heap.size w w1 := below_via hg (by (repeat' (first | (with_reducible first | exact Below.refl _ _ | assumption | refine Below.alloc ?_ ?_ _ | refine Below.drew ?_ | refine below_drewN ?_ _ | refine Below.setCell ?_ ?_ _ | refine below_via (by with_reducible assumption) ?_ ?_) | omega | (simp only [szs]; omega) | (simp only [szs] at *; omega)))) (Nat.le_refl _); have ho' : Hid (OwnW w1 w.heap.size v' (i + 1 + 1) Z) := ho; clear ho hg
                refine hK.out _ _ (by ((try dsimp only); (all_goals exact True.intro))) (fun hHeld => ?_)
                clear hK K
                try simp only [Act.put, List.setIfInBounds_toArray, List.set_cons_zero, List.set_cons_succ]
                refine anyZ_ready (rs := [12]) (by kernel_rfl) (by simp) ?_
                refine (AllZ.cons (o := ?o_14) ?ho_14 (fun K hK => ?st_14) AllZ.nil)
                case ho_14 => (simp only [List.getElem?_toArray, List.getElem?_cons_succ, List.getElem?_cons_zero]; exact rfl)
                case st_14 =>
                  go_simp
                  refine hK.out _ _ (by ((try dsimp only); (all_goals exact True.intro))) (fun hHeld => ?_)
                  clear hK K
                  try simp only [Act.put, List.setIfInBounds_toArray, List.set_cons_zero, List.set_cons_succ]
                  refine anyZ_done (by kernel_rfl) ?_ _
                  refine NoPanic.normal ?_
                  go_wp2
                  go_roundw
                  case rel => exact ⟨i + 1, by omega, by go_num, ho', hBw⟩
                  case measure => first | (simp [intOf]; done) | (simp [intOf]; omega)
      case st_8 =>
        go_simp
        refine hK.out _ _ (by ((try dsimp only); (all_goals exact True.intro))) (fun hHeld => ?_)
        clear hK K
        try simp only [Act.put, List.setIfInBounds_toArray, List.set_cons_zero, List.set_cons_succ]
        refine anyZ_ready (rs := [4]) (by kernel_rfl) (by simp) ?_
        refine (AllZ.cons (o := ?o_15) ?ho_15 (fun K hK => ?st_15) AllZ.nil)
        case ho_15 => (simp only [List.getElem?_toArray, List.getElem?_cons_succ, List.getElem?_cons_zero]; exact rfl)
        case st_15 =>
          go_simp
          refine hK.out _ _ (by ((try dsimp only); (all_goals exact True.intro))) (fun hHeld => ?_)
          clear hK K
          try simp only [Act.put, List.setIfInBounds_toArray, List.set_cons_zero, List.set_cons_succ]
          refine anyZ_ready (rs := [9]) (by kernel_rfl) (by simp) ?_
          refine (AllZ.cons (o := ?o_16) ?ho_16 (fun K hK => ?st_16) AllZ.nil)
          case ho_16 => (simp only [List.getElem?_toArray, List.getElem?_cons_succ, List.getElem?_cons_zero]; exact rfl)
          case st_16 =>
            go_simp
            (first | (go_at_call 14; first | (with_reducible refine (ct _).mono ?_; rintro e w' ⟨rfl, rfl⟩)))
            refine hK.out _ _ (by ((try dsimp only); (all_goals exact True.intro))) (fun hHeld => ?_)
            clear hK K
            try simp only [Act.put, List.setIfInBounds_toArray, List.set_cons_zero, List.set_cons_succ]
            refine anyZ_ready (rs := [10]) (by kernel_rfl) (by simp) ?_
            refine (AllZ.cons (o := ?o_17) ?ho_17 (fun K hK => ?st_17) AllZ.nil)
            case ho_17 => (simp only [List.getElem?_toArray, List.getElem?_cons_succ, List.getElem?_cons_zero]; exact rfl)
            case st_17 =>
              go_simp
              refine hK.out _ _ (by ((try dsimp only); (all_goals exact True.intro))) (fun hHeld => ?_)
              clear hK K
              try simp only [Act.put, List.setIfInBounds_toArray, List.set_cons_zero, List.set_cons_succ]
              refine anyZ_ready (rs := [11]) (by kernel_rfl) (by simp) ?_
              refine (AllZ.cons (o := ?o_18) ?ho_18 (fun K hK => ?st_18) AllZ.nil)
              case ho_18 => (simp only [List.getElem?_toArray, List.getElem?_cons_succ, List.getElem?_cons_zero]; exact rfl)
              case st_18 =>
                rw [if_pos (by rfl)]; (refine wp_app1W _ _ rfl w.heap.size _ (i + 1) _ rfl hown1.out wr.heap.size X rfl (by simp [go_sem]) (by omega) (by first | (simp; done) | (simp; omega)) hX.out ?_); intro v' w1 ho hg; have hBw : Below w.heap.size w w1 := below_via hg (by (repeat' (first | (with_reducible first | exact Below.refl _ _ | assumption | refine Below.alloc ?_ ?_ _ | refine Below.drew ?_ | refine below_drewN ?_ _ | refine Below.setCell ?_ ?_ _ | refine below_via (by with_reducible assumption) ?_ ?_) | omega | (simp only [szs]; omega) | (simp only [szs] at *; omega)))) (Nat.le_refl _); have ho' : Hid (OwnW w1 w.heap.size v' (i + 1 + 1) Z) := ho; clear ho hg
                refine hK.out _ _ (by ((try dsimp only); (all_goals exact True.intro))) (fun hHeld => ?_)
                clear hK K
                try simp only [Act.put, List.setIfInBounds_toArray, List.set_cons_zero, List.set_cons_succ]
                refine anyZ_ready (rs := [12]) (by kernel_rfl) (by simp) ?_
                refine (AllZ.cons (o := ?o_19) ?ho_19 (fun K hK => ?st_19) AllZ.nil)
                case ho_19 => (simp only [List.getElem?_toArray, List.getElem?_cons_succ, List.getElem?_cons_zero]; exact rfl)
                case st_19 =>
                  go_simp
                  refine hK.out _ _ (by ((try dsimp only); (all_goals exact True.intro))) (fun hHeld => ?_)
                  clear hK K
                  try simp only [Act.put, List.setIfInBounds_toArray, List.set_cons_zero, List.set_cons_succ]
                  refine anyZ_done (by kernel_rfl) ?_ _
                  refine NoPanic.normal ?_
                  go_wp2
                  go_roundw
                  case rel => exact ⟨i + 1, by omega, by go_num, ho', hBw⟩
                  case measure => first | (simp [intOf]; done) | (simp [intOf]; omega)
    · obtain rfl : i = m := by omega
      have hlt' : ¬ (i : Int) < (i : Int) := by omega
      go_wp2
      go_ret
      exact ⟨_, rfl, hown.out, hB⟩
end Go.Proofs.Ytgjpdamojfkpiaa
