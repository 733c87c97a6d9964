/-
  Package blake, walked: what the first block is pressed into.
-/
import Derived.Test.YtllgnclbbakliaaDoorArr2
import Derived.Test.YtllgnclbbakliaaDoorBlakeN
import Derived.Test.YtllgnclbbakliaaDoorBlakeW
import Derived.Test.YtllgnclbbakliaaDoorTabs
namespace Go.Proofs.YtllgnclbbakliaaDoor
open Go.RowKit Go.Proofs
set_option linter.unusedVariables false
set_option linter.unusedSimpArgs false
attribute [local go_sem ↓] Go.wp_at_zero Go.wp_at_succ

def beginI (i j : Nat) : Nat := if j < i then Ob.first j else 0
theorem beginI_zero : beginI 0 = fun _ => 0 := by funext j; simp [beginI]
theorem beginI_succ (i : Nat) : Ob.upd (beginI i) i (Ob.first i) = beginI (i + 1) := by
  funext j
  unfold Ob.upd beginI
  by_cases h1 : j = i
  · subst h1; simp
  · by_cases h2 : j < i
    · simp [h1, h2, Nat.lt_succ_of_lt h2]
    · simp [h1, h2]; omega
theorem lowN_word0 (z : Nat → Nat) : Ob.lowN z 4 = wordAt z 0 := lowN_four z
theorem lowN_word1 (z : Nat → Nat) : Ob.lowN (fun i => z (4 + i)) 4 = wordAt z 1 := lowN_four _

set_option maxHeartbeats 4000000 in
theorem opened_core (s : ByteArray) (hs : s.size ≤ 8) (w : World) (hT : Tabs w) :
    Calls Tryd.prog 29 #[.string s] w fun e w' => e = .returned (arrV .u32 (Ob.open0 (wordAt (sby s) 0) (wordAt (sby s) 1)) 8) ∧ Below w.heap.size w w' := by
  unfold arrV
  have hT' : Hid (Tabs w) := hT
  clear hT
  go_enter Tryd.func29, Tryd.ntmps29
  go_upto_region 2 with (fail)
  obtain ⟨W0, hW0⟩ : ∃ W, Hid (((w.alloc (.cells (arrL .u32 (fun _ => 0) 8).toArray 23)).alloc (.cells (arrL .u8 (fun _ => 0) 8).toArray 66)) = W) := ⟨_, rfl⟩
  have tr0 : Arr W0 .u32 w.heap.size 8 (fun _ => 0) := by rw [← hW0.out]; exact (Arr.new rfl).alloc _
  have tn0 : Arr W0 .u8 (w.heap.size + 1) 8 (fun _ => 0) := by rw [← hW0.out]; exact Arr.new (by simp)
  have hB0 : Below w.heap.size w W0 := by rw [← hW0.out]; (repeat' (first | (with_reducible first | exact Below.refl _ _ | assumption | refine Below.alloc ?_ ?_ _ | refine Below.drew ?_ | refine below_drewN ?_ _ | refine Below.setCell ?_ ?_ _ | refine below_via (by with_reducible assumption) ?_ ?_) | omega | (simp only [szs]; omega) | (simp only [szs] at *; omega)))
  change Code.wp _ _ _ _ ((w.alloc (.cells (arrL .u32 (fun _ => 0) 8).toArray 23)).alloc (.cells (arrL .u8 (fun _ => 0) 8).toArray 66))
  rw [hW0.out]
  clear hW0
  obtain ⟨N, hN⟩ : ∃ N, Hid (w.heap.size = N) := ⟨_, rfl⟩
  rw [hN.out] at tn0 tr0 hB0 ⊢
  have hlN : 3 ≤ N := by have := hT'.out.lt; have := hN.out; omega
  obtain ⟨W1, h1, hW1, tn1, z1⟩ := tn0.copyStr s hs 8 3
  have tr1 : Hid (Arr W1 .u32 N 8 (fun _ => 0)) := by rw [hW1.out]; exact tr0.farCells (by omega) _ _
  have hB1 : Below N w W1 := by rw [hW1.out]; exact below_setCells hB0 (by omega) _ _
  have l1 := tn1.out.lt
  clear hW1 tr0 tn0 hB0 z1
  go_upto_region 4 with (at_builtin; refine Lib.wpList_copy_run _ rfl _ _ 27 9 rfl _ _ rfl rfl h1 ?_)
  obtain ⟨W2, hW2⟩ : ∃ W, Hid (W1.alloc (.cells #[.int .u32 0, .int .u32 0, .int .u32 0, .int .u32 0, .int .u32 0, .int .u32 0, .int .u32 0, .int .u32 0] 23) = W) := ⟨_, rfl⟩
  have th2 : Arr W2 .u32 W1.heap.size 8 (beginI 0) := by rw [← hW2.out, beginI_zero]; exact Arr.new8
  have tn2 : Arr W2 .u8 (N + 1) 8 (sby s) := by rw [← hW2.out]; exact tn1.out.alloc _
  have tr2 : Arr W2 .u32 N 8 (fun _ => 0) := by rw [← hW2.out]; exact tr1.out.alloc _
  have hB2 : Below N w W2 := by rw [← hW2.out]; exact hB1.alloc (by omega) _
  rw [hW2.out]
  obtain ⟨H, hH⟩ : ∃ H, Hid (W1.heap.size = H) := ⟨_, rfl⟩
  rw [hH.out] at th2 l1 ⊢
  clear hW2 hB1 tr1 tn1 hH h1
  go_wp2
  go_loopw [9] (fun s9 wr => ∃ (i : Nat), i ≤ 8 ∧ s9 = .int .i64 (i : Nat) ∧ Hid (Arr wr .u32 H 8 (beginI i)) ∧ Hid (Arr wr .u8 (N + 1) 8 (sby s)) ∧ Hid (Arr wr .u32 N 8 (fun _ => 0)) ∧ Below N w wr) (fun s9 _ => 8 - (intOf s9).toNat)
  case atStart => exact ⟨0, by omega, rfl, th2, tn2, tr2, hB2⟩
  case round =>
    clear th2 tn2 tr2 hB2
    obtain ⟨i, hi, rfl, th, tn, tr, hB⟩ := hrel
    have l0 := hB.size
    by_cases hlt : i < 8
    · have g1 := (hT'.out.below hB hlN).first.c i hlt
      have p2 := th.out.c i hlt
      have p4 := th.out.f i hlt
      have i0 : (i : Int) < 8 := by omega
      have i1 : (0 : Int) ≤ (i : Int) := by omega
      have q := th.out.set (i := i) (z := Ob.first i) hlt
      rw [beginI_succ] at q
      have hB1 : Below N w (wr.setCell ⟨H, i, none⟩ (.int .u32 (Ob.first i : Nat))) := by (repeat' (first | (with_reducible first | exact Below.refl _ _ | assumption | refine Below.alloc ?_ ?_ _ | refine Below.drew ?_ | refine below_drewN ?_ _ | refine Below.setCell ?_ ?_ _ | refine below_via (by with_reducible assumption) ?_ ?_) | omega | (simp only [szs]; omega) | (simp only [szs] at *; omega)))
      go_wp2
      go_roundw
      case rel => exact ⟨i + 1, by omega, by go_num, q, tn.out.far (by omega) _ _, tr.out.far (by omega) _ _, hB1⟩
      case measure => (simp only [intOf, Int.toNat_natCast]; omega)
    · obtain rfl : i = 8 := by omega
      have t0 : Arr wr .u32 H 8 Ob.first := th.out.congr (fun j hj => by unfold beginI; rw [if_pos hj])
      have x0 := xor_u32 (Ob.first 0) 16842784 (Ob.first_lt 0) (by decide)
      obtain ⟨X0, hX0⟩ : ∃ X, Hid (Ob.first 0 ^^^ 16842784 = X) := ⟨_, rfl⟩
      rw [hX0.out] at x0
      have x0' : bits .xor .u32 ((Ob.first 0 : Nat) : Int) 16842784 = (X0 : Int) := x0
      have c0 := t0.c 0 (by decide)
      have f0 := t0.f 0 (by decide)
      go_upto_region 10 with (fail)
      have th1 : Hid (Arr (wr.setCell ⟨H, 0, none⟩ (.int .u32 (X0 : Nat))) .u32 H 8 (Ob.upd Ob.first 0 X0)) := t0.set (by decide)
      have tn1 : Hid (Arr (wr.setCell ⟨H, 0, none⟩ (.int .u32 (X0 : Nat))) .u8 (N + 1) 8 (sby s)) := tn.out.far (by omega) _ _
      have tr1 : Hid (Arr (wr.setCell ⟨H, 0, none⟩ (.int .u32 (X0 : Nat))) .u32 N 8 (fun _ => 0)) := tr.out.far (by omega) _ _
      have hB1 : Below N w (wr.setCell ⟨H, 0, none⟩ (.int .u32 (X0 : Nat))) := by (repeat' (first | (with_reducible first | exact Below.refl _ _ | assumption | refine Below.alloc ?_ ?_ _ | refine Below.drew ?_ | refine below_drewN ?_ _ | refine Below.setCell ?_ ?_ _ | refine below_via (by with_reducible assumption) ?_ ?_) | omega | (simp only [szs]; omega) | (simp only [szs] at *; omega)))
      clear t0 th tn tr hB c0 f0 x0 x0'
      generalize (wr.setCell ⟨H, 0, none⟩ (.int .u32 (X0 : Nat))) = W3 at *
      have hv1 : Hid (Ob.Words32 (Ob.upd Ob.first 0 X0)) := Ob.Words32.upd (fun j => Ob.first_lt j) 0 (by rw [← hX0.out]; exact Ob.xor_lt (Ob.first_lt 0) (by decide))
      have hw1 : Hid (Ob.lowN (sby s) 4 = wordAt (sby s) 0) := lowN_word0 _
      have hw2 : Hid (Ob.lowN (fun i => sby s (4 + i)) 4 = wordAt (sby s) 1) := lowN_word1 _
      have hend : Hid (Ob.open0 (wordAt (sby s) 0) (wordAt (sby s) 1) = Ob.upd (Ob.upd (Ob.upd Ob.first 0 X0) 6 (Ob.upd Ob.first 0 X0 6 ^^^ wordAt (sby s) 0)) 7 (Ob.upd (Ob.upd Ob.first 0 X0) 6 (Ob.upd Ob.first 0 X0 6 ^^^ wordAt (sby s) 0) 7 ^^^ wordAt (sby s) 1)) := by
        rw [← hX0.out]; rfl
      have lw1 : wordAt (sby s) 0 < 4294967296 := by rw [← hw1.out]; exact Ob.lowN_lt (sby_lt s) 4
      have lw2 : wordAt (sby s) 1 < 4294967296 := by rw [← hw2.out]; exact Ob.lowN_lt (fun i => sby_lt s _) 4
      obtain ⟨x, hx⟩ : ∃ x, Hid (wordAt (sby s) 0 = x) := ⟨_, rfl⟩
      obtain ⟨y, hy⟩ : ∃ x, Hid (wordAt (sby s) 1 = x) := ⟨_, rfl⟩
      obtain ⟨V, hV⟩ : ∃ V, Hid (Ob.upd Ob.first 0 X0 = V) := ⟨_, rfl⟩
      rw [hx.out] at hw1 lw1
      rw [hy.out] at hw2 lw2
      rw [hx.out, hy.out, hV.out] at hend
      rw [hV.out] at hv1 th1
      have xw1 := xor_u32 (V 6) x (hv1.out _) lw1
      obtain ⟨X1, hX1⟩ : ∃ X, Hid (V 6 ^^^ x = X) := ⟨_, rfl⟩
      rw [hX1.out] at xw1
      have p1 := th1.out.drew.c 6 (by decide)
      have c1 := th1.out.c 6 (by decide)
      have f1 := th1.out.f 6 (by decide)
      have y1 : Hid (Bys W3.drew (N + 1) 0 4 (sby s)) := ⟨tn1.out.drew.lt, fun j hj => by have := tn1.out.drew.c (0 + j) (by omega); simpa using this⟩
      have cw1 := wordW (N + 1) 0 8 (sby s) (fun j => sby_lt s _) W3.drew y1.out
      rw [hw1.out] at cw1
      go_upto_region 10 with (fail)
      refine wp_region_noPanic ?_
      refine region_lastly (S := (fun w' => w'.cell? ⟨H, 6, none⟩ = some (.int .u32 (V 6 : Nat)))) [6] (by kernel_rfl) (by ((try dsimp only); (exact p1))) (fun hHeld => ?_)
      refine anyZ_free (i := 0) (oi := ?oi_1) (v := ?v_1) ?hi_1 ?hs_1 ?hf_1 ?hr_1 ?hQ_1 (Or.inl ⟨?hw_1, ?hy_1⟩) ?hrest_1
      case hi_1 => (simp only [List.getElem?_toArray, List.getElem?_cons_succ, List.getElem?_cons_zero]; exact rfl)
      case hs_1 => kernel_rfl
      case hf_1 => kernel_rfl
      case hr_1 => kernel_rfl
      case hQ_1 => exact fun _ _ _ h => h
      case hw_1 => rfl
      case hy_1 => (intro w _; go_simp; try with_reducible rfl)
      try simp only [Act.put, List.setIfInBounds_toArray, List.set_cons_zero, List.set_cons_succ]
      refine anyZ_take (i := 1) (oi := ?oi_2) (v := ?v_2) ?hi_2 ?hz_2 ?hs_2 ?hf_2 ?hr_2 ?hQ_2 (Or.inl ⟨?hw_2, ?hy_2⟩) ?hS_2 ?hrest_2
      case hi_2 => (simp only [List.getElem?_toArray, List.getElem?_cons_succ, List.getElem?_cons_zero]; exact rfl)
      case hz_2 => kernel_rfl
      case hs_2 => kernel_rfl
      case hf_2 => kernel_rfl
      case hr_2 => kernel_rfl
      case hQ_2 => exact fun _ _ _ h => h
      case hw_2 => rfl
      case hS_2 => assumption
      case hy_2 => (intro w hSw; (try dsimp only at hSw); go_simp; try with_reducible rfl)
      try simp only [Act.put, List.setIfInBounds_toArray, List.set_cons_zero, List.set_cons_succ]
      refine anyZ_free (i := 2) (oi := ?oi_3) (v := ?v_3) ?hi_3 ?hs_3 ?hf_3 ?hr_3 ?hQ_3 (Or.inl ⟨?hw_3, ?hy_3⟩) ?hrest_3
      case hi_3 => (simp only [List.getElem?_toArray, List.getElem?_cons_succ, List.getElem?_cons_zero]; exact rfl)
      case hs_3 => kernel_rfl
      case hf_3 => kernel_rfl
      case hr_3 => kernel_rfl
      case hQ_3 => exact fun _ _ _ h => h
      case hw_3 => rfl
      case hy_3 => (intro w _; go_simp; try with_reducible rfl)
      try simp only [Act.put, List.setIfInBounds_toArray, List.set_cons_zero, List.set_cons_succ]
      refine anyZ_ready (rs := [3]) (by kernel_rfl) (by simp) ?_
      refine (AllZ.cons (o := ?o_4) ?ho_4 (fun K hK => ?st_4) AllZ.nil)
      case ho_4 => (simp only [List.getElem?_toArray, List.getElem?_cons_succ, List.getElem?_cons_zero]; exact rfl)
      case st_4 =>
        go_simp
        (go_at_call 26; with_reducible refine cw1.mono ?_; rintro e w' ⟨rfl, rfl⟩)
        refine hK.out _ _ (by ((try dsimp only); (exact p1))) (fun hHeld => ?_)
        clear hK K
        try simp only [Act.put, List.setIfInBounds_toArray, List.set_cons_zero, List.set_cons_succ]
        refine anyZ_free (i := 4) (oi := ?oi_5) (v := ?v_5) ?hi_5 ?hs_5 ?hf_5 ?hr_5 ?hQ_5 (Or.inl ⟨?hw_5, ?hy_5⟩) ?hrest_5
        case hi_5 => (simp only [List.getElem?_toArray, List.getElem?_cons_succ, List.getElem?_cons_zero]; exact rfl)
        case hs_5 => kernel_rfl
        case hf_5 => kernel_rfl
        case hr_5 => kernel_rfl
        case hQ_5 => exact fun _ _ _ h => h
        case hw_5 => rfl
        case hy_5 => (intro w _; go_simp; try with_reducible rfl)
        try simp only [Act.put, List.setIfInBounds_toArray, List.set_cons_zero, List.set_cons_succ]
        refine anyZ_free (i := 5) (oi := ?oi_6) (v := ?v_6) ?hi_6 ?hs_6 ?hf_6 ?hr_6 ?hQ_6 (Or.inl ⟨?hw_6, ?hy_6⟩) ?hrest_6
        case hi_6 => (simp only [List.getElem?_toArray, List.getElem?_cons_succ, List.getElem?_cons_zero]; exact rfl)
        case hs_6 => kernel_rfl
        case hf_6 => kernel_rfl
        case hr_6 => kernel_rfl
        case hQ_6 => exact fun _ _ _ h => h
        case hw_6 => rfl
        case hy_6 => (intro w _; go_simp; try with_reducible rfl)
        try simp only [Act.put, List.setIfInBounds_toArray, List.set_cons_zero, List.set_cons_succ]
        refine anyZ_ready (rs := [6]) (by kernel_rfl) (by simp) ?_
        refine (AllZ.last (o := ?o_7) ?ho_7 (by rfl) (fun K hK => ?st_7) AllZ.nil)
        case ho_7 => (simp only [List.getElem?_toArray, List.getElem?_cons_succ, List.getElem?_cons_zero]; exact rfl)
        case st_7 =>
          go_simp
          refine hK.out _ _ ?_
          clear hK K
          try simp only [Act.put, List.setIfInBounds_toArray, List.set_cons_zero, List.set_cons_succ]
          refine anyZ_done (by kernel_rfl) ?_ _
          refine NoPanic.normal ?_
          have th2 : Hid (Arr ((W3.setCell ⟨H, 6, none⟩ (.int .u32 (X1 : Nat))).drew) .u32 H 8 (Ob.upd (V) 6 X1)) := (th1.out.set (i := 6) (z := X1) (by decide)).drew
          have tn2 : Hid (Arr ((W3.setCell ⟨H, 6, none⟩ (.int .u32 (X1 : Nat))).drew) .u8 (N + 1) 8 (sby s)) := (tn1.out.far (by omega) _ _).drew
          have tr2 : Hid (Arr ((W3.setCell ⟨H, 6, none⟩ (.int .u32 (X1 : Nat))).drew) .u32 N 8 (fun _ => 0)) := (tr1.out.far (by omega) _ _).drew
          have hB2 : Below N w ((W3.setCell ⟨H, 6, none⟩ (.int .u32 (X1 : Nat))).drew) := by (repeat' (first | (with_reducible first | exact Below.refl _ _ | assumption | refine Below.alloc ?_ ?_ _ | refine Below.drew ?_ | refine below_drewN ?_ _ | refine Below.setCell ?_ ?_ _ | refine below_via (by with_reducible assumption) ?_ ?_) | omega | (simp only [szs]; omega) | (simp only [szs] at *; omega)))
          clear hHeld th1 tn1 tr1 hB1 p1 c1 f1 y1 cw1 xw1
          generalize ((W3.setCell ⟨H, 6, none⟩ (.int .u32 (X1 : Nat))).drew) = W4 at *
          have hv2 : Hid (Ob.Words32 (Ob.upd V 6 X1)) := hv1.out.upd 6 (by rw [← hX1.out]; exact Ob.xor_lt (hv1.out _) lw1)
          rw [hX1.out] at hend
          obtain ⟨V', hV'⟩ : ∃ V', Hid (Ob.upd V 6 X1 = V') := ⟨_, rfl⟩
          rw [hV'.out] at hend hv2 th2
          have xw2 := xor_u32 (V' 7) y (hv2.out _) lw2
          obtain ⟨X2, hX2⟩ : ∃ X, Hid (V' 7 ^^^ y = X) := ⟨_, rfl⟩
          rw [hX2.out] at xw2
          have p2 := th2.out.drew.c 7 (by decide)
          have c2 := th2.out.c 7 (by decide)
          have f2 := th2.out.f 7 (by decide)
          have y2 : Hid (Bys W4.drew (N + 1) 4 4 (fun i => sby s (4 + i))) := ⟨tn2.out.drew.lt, fun j hj => by have := tn2.out.drew.c (4 + j) (by omega); simpa using this⟩
          have cw2 := wordW (N + 1) 4 4 (fun i => sby s (4 + i)) (fun j => sby_lt s _) W4.drew y2.out
          rw [hw2.out] at cw2
          go_upto_region 11 with (fail)
          refine wp_region_noPanic ?_
          refine region_lastly (S := (fun w' => w'.cell? ⟨H, 7, none⟩ = some (.int .u32 (V' 7 : Nat)))) [6] (by kernel_rfl) (by ((try dsimp only); (exact p2))) (fun hHeld => ?_)
          refine anyZ_free (i := 0) (oi := ?oi_8) (v := ?v_8) ?hi_8 ?hs_8 ?hf_8 ?hr_8 ?hQ_8 (Or.inl ⟨?hw_8, ?hy_8⟩) ?hrest_8
          case hi_8 => (simp only [List.getElem?_toArray, List.getElem?_cons_succ, List.getElem?_cons_zero]; exact rfl)
          case hs_8 => kernel_rfl
          case hf_8 => kernel_rfl
          case hr_8 => kernel_rfl
          case hQ_8 => exact fun _ _ _ h => h
          case hw_8 => rfl
          case hy_8 => (intro w _; go_simp; try with_reducible rfl)
          try simp only [Act.put, List.setIfInBounds_toArray, List.set_cons_zero, List.set_cons_succ]
          refine anyZ_take (i := 1) (oi := ?oi_9) (v := ?v_9) ?hi_9 ?hz_9 ?hs_9 ?hf_9 ?hr_9 ?hQ_9 (Or.inl ⟨?hw_9, ?hy_9⟩) ?hS_9 ?hrest_9
          case hi_9 => (simp only [List.getElem?_toArray, List.getElem?_cons_succ, List.getElem?_cons_zero]; exact rfl)
          case hz_9 => kernel_rfl
          case hs_9 => kernel_rfl
          case hf_9 => kernel_rfl
          case hr_9 => kernel_rfl
          case hQ_9 => exact fun _ _ _ h => h
          case hw_9 => rfl
          case hS_9 => assumption
          case hy_9 => (intro w hSw; (try dsimp only at hSw); go_simp; try with_reducible rfl)
          try simp only [Act.put, List.setIfInBounds_toArray, List.set_cons_zero, List.set_cons_succ]
          refine anyZ_free (i := 2) (oi := ?oi_10) (v := ?v_10) ?hi_10 ?hs_10 ?hf_10 ?hr_10 ?hQ_10 (Or.inl ⟨?hw_10, ?hy_10⟩) ?hrest_10
          case hi_10 => (simp only [List.getElem?_toArray, List.getElem?_cons_succ, List.getElem?_cons_zero]; exact rfl)
          case hs_10 => kernel_rfl
          case hf_10 => kernel_rfl
          case hr_10 => kernel_rfl
          case hQ_10 => exact fun _ _ _ h => h
          case hw_10 => rfl
          case hy_10 => (intro w _; go_simp; try with_reducible rfl)
          try simp only [Act.put, List.setIfInBounds_toArray, List.set_cons_zero, List.set_cons_succ]
          refine anyZ_ready (rs := [3]) (by kernel_rfl) (by simp) ?_
          refine (AllZ.cons (o := ?o_11) ?ho_11 (fun K hK => ?st_11) AllZ.nil)
          case ho_11 => (simp only [List.getElem?_toArray, List.getElem?_cons_succ, List.getElem?_cons_zero]; exact rfl)
          case st_11 =>
            go_simp
            (go_at_call 26; with_reducible refine cw2.mono ?_; rintro e w' ⟨rfl, rfl⟩)
            refine hK.out _ _ (by ((try dsimp only); (exact p2))) (fun hHeld => ?_)
            clear hK K
            try simp only [Act.put, List.setIfInBounds_toArray, List.set_cons_zero, List.set_cons_succ]
            refine anyZ_free (i := 4) (oi := ?oi_12) (v := ?v_12) ?hi_12 ?hs_12 ?hf_12 ?hr_12 ?hQ_12 (Or.inl ⟨?hw_12, ?hy_12⟩) ?hrest_12
            case hi_12 => (simp only [List.getElem?_toArray, List.getElem?_cons_succ, List.getElem?_cons_zero]; exact rfl)
            case hs_12 => kernel_rfl
            case hf_12 => kernel_rfl
            case hr_12 => kernel_rfl
            case hQ_12 => exact fun _ _ _ h => h
            case hw_12 => rfl
            case hy_12 => (intro w _; go_simp; try with_reducible rfl)
            try simp only [Act.put, List.setIfInBounds_toArray, List.set_cons_zero, List.set_cons_succ]
            refine anyZ_free (i := 5) (oi := ?oi_13) (v := ?v_13) ?hi_13 ?hs_13 ?hf_13 ?hr_13 ?hQ_13 (Or.inl ⟨?hw_13, ?hy_13⟩) ?hrest_13
            case hi_13 => (simp only [List.getElem?_toArray, List.getElem?_cons_succ, List.getElem?_cons_zero]; exact rfl)
            case hs_13 => kernel_rfl
            case hf_13 => kernel_rfl
            case hr_13 => kernel_rfl
            case hQ_13 => exact fun _ _ _ h => h
            case hw_13 => rfl
            case hy_13 => (intro w _; go_simp; try with_reducible rfl)
            try simp only [Act.put, List.setIfInBounds_toArray, List.set_cons_zero, List.set_cons_succ]
            refine anyZ_ready (rs := [6]) (by kernel_rfl) (by simp) ?_
            refine (AllZ.last (o := ?o_14) ?ho_14 (by rfl) (fun K hK => ?st_14) AllZ.nil)
            case ho_14 => (simp only [List.getElem?_toArray, List.getElem?_cons_succ, List.getElem?_cons_zero]; exact rfl)
            case st_14 =>
              go_simp
              refine hK.out _ _ ?_
              clear hK K
              try simp only [Act.put, List.setIfInBounds_toArray, List.set_cons_zero, List.set_cons_succ]
              refine anyZ_done (by kernel_rfl) ?_ _
              refine NoPanic.normal ?_
              have th3 : Hid (Arr ((W4.setCell ⟨H, 7, none⟩ (.int .u32 (X2 : Nat))).drew) .u32 H 8 (Ob.upd (V') 7 X2)) := (th2.out.set (i := 7) (z := X2) (by decide)).drew
              have tn3 : Hid (Arr ((W4.setCell ⟨H, 7, none⟩ (.int .u32 (X2 : Nat))).drew) .u8 (N + 1) 8 (sby s)) := (tn2.out.far (by omega) _ _).drew
              have tr3 : Hid (Arr ((W4.setCell ⟨H, 7, none⟩ (.int .u32 (X2 : Nat))).drew) .u32 N 8 (fun _ => 0)) := (tr2.out.far (by omega) _ _).drew
              have hB3 : Below N w ((W4.setCell ⟨H, 7, none⟩ (.int .u32 (X2 : Nat))).drew) := by (repeat' (first | (with_reducible first | exact Below.refl _ _ | assumption | refine Below.alloc ?_ ?_ _ | refine Below.drew ?_ | refine below_drewN ?_ _ | refine Below.setCell ?_ ?_ _ | refine below_via (by with_reducible assumption) ?_ ?_) | omega | (simp only [szs]; omega) | (simp only [szs] at *; omega)))
              clear hHeld th2 tn2 tr2 hB2 p2 c2 f2 y2 cw2 xw2
              generalize ((W4.setCell ⟨H, 7, none⟩ (.int .u32 (X2 : Nat))).drew) = W5 at *
              rw [hX2.out] at hend
              rw [← hend.out, ← hx.out, ← hy.out] at th3
              clear hend hV hV' hX0 hX1 hX2 hv1 hv2 hw1 hw2 lw1 lw2 hx hy
              go_upto_region 12 with (fail)
              go_wp2_with (first | ((with_reducible refine wpList_loadLit th3.out ?_ Tryd.underlying23 ?_ ?_ ?_); (focus rfl); (focus rfl); (focus kernel_rfl); simp only [Act.put, List.setIfInBounds_toArray, List.set_cons_zero, List.set_cons_succ]) | ((with_reducible refine wpList_storeLit (Ob.open0 (wordAt (sby s) 0) (wordAt (sby s) 1)) tr3.out ?_ ?_ ?_ ?_); (focus rfl); (focus rfl); (focus kernel_rfl); intro W6 hW6_ tW6_ zW6_; try simp only [Act.put, List.setIfInBounds_toArray, List.set_cons_zero, List.set_cons_succ]))
              have hB5 : Below w.heap.size w W6 := by rw [hW6_.out, hN.out]; exact below_setCells hB3 (by omega) _ _
              have rv := tW6_.out.loadVar Tryd.underlying23 rfl (by kernel_rfl)
              exact bodyPost_ret (v := .agg (arrL .u32 (Ob.open0 (wordAt (sby s) 0) (wordAt (sby s) 1)) 8).toArray) (by simp [results, Tryd.results29, asAddr, rv]) rfl ⟨rfl, hB5⟩
end Go.Proofs.YtllgnclbbakliaaDoor
