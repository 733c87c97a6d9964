/-
  The document's own digest, walked: the head of Sum.
-/
import Derived.Test.YtkekomiaiaacaaaDoorRefB4
import Derived.Test.YtkekomiaiaacaaaDoorRefB5
import Derived.Test.YtkekomiaiaacaaaDoorPRow
import Derived.Test.YtkekomiaiaacaaaDoorJ5
namespace Go.Proofs.YtkekomiaiaacaaaDoor
open Go.RowKit Go.Proofs
set_option linter.unusedVariables false
set_option linter.unusedSimpArgs false
attribute [local go_sem ↓] Go.wp_at_zero Go.wp_at_succ

theorem upd_self {z : Nat → Nat} {k x : Nat} (h : z k = x) : Ob.upd z k x = z := by
  funext j
  unfold Ob.upd
  by_cases e : j = k
  · subst e; simp [h]
  · simp [e]
/-- n bytes, 0 behind them. -/
def padZ (z : Nat → Nat) (n j : Nat) : Nat := if j < n then z j else 0
theorem padZ_blk (z : Nat → Nat) (n i j : Nat) : padZ z n (64 * i + j) = Ob.blk z n i j := rfl
theorem PRow.congr {w : World} {base g len cap : Nat} {z z' : Nat → Nat} (t : PRow w base g len cap z) (h : ∀ j, j < len → z j = z' j) : PRow w base g len cap z' := ⟨t.lb, t.lt, t.le, fun j hj => by rw [← h j hj]; exact t.c j hj, t.room⟩

theorem le_nblk (n : Nat) : n ≤ 64 * Ob.nblk n := by unfold Ob.nblk; split <;> omega
theorem nblk_le (n : Nat) (hn : n ≤ 20000) : Ob.nblk n ≤ 400 := by unfold Ob.nblk; split <;> omega
theorem nblk_more {k n : Nat} (hk : k ≤ 64 * Ob.nblk n) (hn : n ≤ k) (h : k % 64 ≠ 0 ∨ k = 0) : k + 1 ≤ 64 * Ob.nblk n := by
  have hp : 0 < Ob.nblk n := by unfold Ob.nblk; split <;> omega
  omega
theorem nblk_end {k n : Nat} (hk : k ≤ 64 * Ob.nblk n) (hn : n ≤ k) (h0 : k ≠ 0) (h : k % 64 = 0) : k = 64 * Ob.nblk n := by
  unfold Ob.nblk at *
  by_cases e : n = 0
  · rw [if_pos e] at hk ⊢; omega
  · rw [if_neg e] at hk ⊢; omega

theorem nblk_last {i k n t : Nat} (hi : i < Ob.nblk n) (hk : k = 64 * Ob.nblk n) (ht : t = 64 * (i + 1)) : t = k ↔ n ≤ 64 * (i + 1) := by
  unfold Ob.nblk at *
  by_cases e : n = 0
  · rw [if_pos e] at hi hk; omega
  · rw [if_neg e] at hi hk; omega
theorem PRow.farCells {w : World} {base g len cap b : Nat} {z : Nat → Nat} (t : PRow w base g len cap z) (h : g ≠ b) (o : Nat) (cs : List Value) : PRow (w.setCells b o cs) base g len cap z :=
  have hc : ∀ j, (w.setCells b o cs).cell? ⟨g, j, none⟩ = w.cell? ⟨g, j, none⟩ := fun j => World.cell?_setCells_out b cs o w _ (fun e _ => absurd e h)
  ⟨t.lb, by rw [setCells_size]; exact t.lt, t.le, fun j hj => by rw [hc]; exact t.c j hj, fun j h1 h2 => by rw [hc, World.frozen?_setCells]; exact t.room j h1 h2⟩

set_option maxHeartbeats 8000000 in
set_option maxRecDepth 8000 in
theorem rsum_core (s : ByteArray) (hs : s.size ≤ 8) (a : Option Addr) (n c : Nat) (hn : n ≤ 20000) (hc : n ≤ c) (z : Nat → Nat) (hz : ∀ i, z i < 256) (w : World) (hS : Src w a n z) :
    Calls Tryd.prog 20 #[.string s, .slice a n c] w fun e w' => ∃ g cap, e = .returned (.slice (some ⟨g, 0, none⟩) 32 cap) ∧ w.heap.size ≤ g ∧ Bys w' g 0 32 (lowBy (digS s z n)) ∧ Below w.heap.size w w' := by
  have hz' : Hid (∀ i, z i < 256) := hz
  have hS' : Hid (Src w a n z) := hS
  clear hz hS
  obtain ⟨pc, W0, h0, p0, b0⟩ := prow_str w s
  obtain ⟨N, hN⟩ : ∃ N, Hid (w.heap.size = N) := ⟨_, rfl⟩
  rw [hN.out] at h0 p0 b0
  go_enter Tryd.func20, Tryd.ntmps20
  go_wp2
  clear h0
  go_loopw [5] (fun s5 wr => ∃ (k g cap : Nat), k ≤ 8 ∧ s.size ≤ k ∧ s5 = .slice (some ⟨g, 0, none⟩) k cap ∧ Hid (PRow wr N g k cap (sby s)) ∧ Below N w wr) (fun s5 _ => 8 - lenV s5)
  case atStart => exact ⟨s.size, N, pc, hs, Nat.le_refl _, rfl, p0, b0⟩
  case round =>
    clear p0 b0
    obtain ⟨k, g, cap, hk, hsk, rfl, p, hB⟩ := hrel
    have l0 := hB.size
    by_cases hlt : k < 8
    · have k0 : (k : Int) < 8 := by omega
      have lN : N ≤ wr.heap.size := by have := hN.out; omega
      have p1 : PRow (wr.alloc (.cells #[.int .u8 0] 5)) N g k cap (sby s) := p.out.below ((Below.refl wr.heap.size wr).alloc (Nat.le_refl _) _) p.out.lt
      have hB1 : Below N w (wr.alloc (.cells #[.int .u8 0] 5)) := hB.alloc lN _
      go_wp2_with (at_builtin; refine wpList_prow rfl _ _ rfl p1 (by simp; omega) (by omega) wr.heap.size 1 0 (by rw [World.cell?_alloc_new]; rfl) rfl rfl ?_; intro g' cap' W1 p2 b2)
      rw [upd_self (sby_out s hsk)] at p2
      have hB2 : Below N w W1 := hB1.trans b2
      go_roundw
      case rel => exact ⟨k + 1, g', cap', by omega, by omega, rfl, p2, hB2⟩
      case measure => (show 8 - (k + 1) < 8 - k; omega)
    · obtain rfl : k = 8 := by omega
      have lN : N ≤ wr.heap.size := by have := hN.out; omega
      have c1 := rwordsW g 0 8 2 cap (by decide) (by decide) (sby s) (sby_lt s) (by decide) wr p.out.bys
      go_upto_region 5 with (go_at_call 32; with_reducible refine c1.mono ?_; rintro e W1 ⟨G, gc, rfl, lG, tg1, b1⟩)
      have l1 := b1.size
      have hB1 : Below N w W1 := below_via b1 hB lN
      clear p hB c1 b1
      have lg1 := tg1.lt
      have c2 := rfirstW W1
      unfold arrV at c2
      go_upto_region 6 with (first | ((with_reducible refine wpList_storeLit (Ob.first) Arr.new8 ?_ ?_ ?_ ?_); (focus rfl); (focus rfl); (focus kernel_rfl); intro W3 hW3_ tW3_ zW3_; try simp only [Act.put, List.setIfInBounds_toArray, List.set_cons_zero, List.set_cons_succ]) | (go_at_call 33; with_reducible refine c2.mono ?_; rintro e W2 ⟨rfl, b2⟩))
      have l2 := b2.size
      have tg3 : Hid (Arr W3 .u32 G 2 (wordAt (sby s))) := by rw [hW3_.out]; exact ((tg1.below b2 (by omega)).alloc _).farCells (by omega) _ _
      have hB2 : Below N w W2 := below_via b2 hB1 (by omega)
      have hB3 : Below N w W3 := by rw [hW3_.out]; exact below_setCells (hB2.alloc (by omega) _) (by omega) _ _
      have th3 := tW3_.out
      obtain ⟨H, hH⟩ : ∃ V, Hid (W2.heap.size = V) := ⟨_, rfl⟩
      rw [hH.out] at th3
      have lH : G < H := by have := hH.out; omega
      have lNH : N ≤ G := by omega
      rw [hH.out]
      clear tg1 hB1 hB2 hW3_ tW3_ zW3_ l2 b2 c2 hH lg1 l1 lG
      have x0 := xor_u32 (Ob.first 0) 16842784 (Ob.first_lt 0) (by decide)
      obtain ⟨X0, hX0⟩ : ∃ X, Hid (Ob.first 0 ^^^ 16842784 = X) := ⟨_, rfl⟩
      rw [hX0.out] at x0
      have x0' : bits .xor .u32 ((Ob.first 0 : Nat) : Int) 16842784 = (X0 : Int) := x0
      have c0 := th3.c 0 (by decide)
      have f0 := th3.f 0 (by decide)
      go_upto_region 7 with (fail)
      have th1 : Hid (Arr (W3.setCell ⟨H, 0, none⟩ (.int .u32 (X0 : Nat))) .u32 H 8 (Ob.upd Ob.first 0 X0)) := th3.set (by decide)
      have tg1 : Hid (Arr (W3.setCell ⟨H, 0, none⟩ (.int .u32 (X0 : Nat))) .u32 G 2 (wordAt (sby s))) := tg3.out.far (by omega) _ _
      have hB1 : Below N w (W3.setCell ⟨H, 0, none⟩ (.int .u32 (X0 : Nat))) := by (repeat' (first | (with_reducible first | exact Below.refl _ _ | assumption | refine Below.alloc ?_ ?_ _ | refine Below.drew ?_ | refine below_drewN ?_ _ | refine Below.setCell ?_ ?_ _ | refine below_via (by with_reducible assumption) ?_ ?_) | omega | (simp only [szs]; omega) | (simp only [szs] at *; omega)))
      clear th3 tg3 hB3 c0 f0 x0 x0'
      generalize (W3.setCell ⟨H, 0, none⟩ (.int .u32 (X0 : Nat))) = W4 at *
      have hv1 : Hid (Ob.Words32 (Ob.upd Ob.first 0 X0)) := Ob.Words32.upd (fun j => Ob.first_lt j) 0 (by rw [← hX0.out]; exact Ob.xor_lt (Ob.first_lt 0) (by decide))
      have hend : Hid (Ob.open0 (wordAt (sby s) 0) (wordAt (sby s) 1) = Ob.upd (Ob.upd (Ob.upd Ob.first 0 X0) 6 (Ob.upd Ob.first 0 X0 6 ^^^ wordAt (sby s) 0)) 7 (Ob.upd (Ob.upd Ob.first 0 X0) 6 (Ob.upd Ob.first 0 X0 6 ^^^ wordAt (sby s) 0) 7 ^^^ wordAt (sby s) 1)) := by
        rw [← hX0.out]; rfl
      have hdig : Hid (digS s z n = digW (wordAt (sby s) 0) (wordAt (sby s) 1) z n (Ob.nblk n)) := rfl
      have lw1 : wordAt (sby s) 0 < 4294967296 := word_lt (sby_lt s) 0
      have lw2 : wordAt (sby s) 1 < 4294967296 := word_lt (sby_lt s) 1
      obtain ⟨x, hw1⟩ : ∃ x, Hid (wordAt (sby s) 0 = x) := ⟨_, rfl⟩
      obtain ⟨y, hw2⟩ : ∃ x, Hid (wordAt (sby s) 1 = x) := ⟨_, rfl⟩
      obtain ⟨V, hV⟩ : ∃ V, Hid (Ob.upd Ob.first 0 X0 = V) := ⟨_, rfl⟩
      have hwo : Hid (Ob.Words32 (Ob.open0 x y)) := by rw [← hw1.out, ← hw2.out]; exact Ob.open0_words lw1 lw2
      rw [hw1.out] at lw1
      rw [hw2.out] at lw2
      rw [hw1.out, hw2.out, hV.out] at hend
      rw [hw1.out, hw2.out] at hdig
      rw [hV.out] at hv1 th1
      have xw1 := xor_u32 (V 6) x (hv1.out _) lw1
      obtain ⟨X1, hX1⟩ : ∃ X, Hid (V 6 ^^^ x = X) := ⟨_, rfl⟩
      rw [hX1.out] at xw1
      have p1 := th1.out.drew.c 6 (by decide)
      have c1 := th1.out.c 6 (by decide)
      have f1 := th1.out.f 6 (by decide)
      have g1 := tg1.out.drew.c 0 (by decide)
      rw [hw1.out] at g1
      go_upto_region 7 with (fail)
      refine wp_region_noPanic ?_
      refine region_lastly (S := (fun w' => w'.cell? ⟨H, 6, none⟩ = some (.int .u32 (V 6 : Nat)) ∧ w'.cell? ⟨G, 0, none⟩ = some (.int .u32 (x : Nat)))) [7] (by kernel_rfl) (by ((try dsimp only); (exact ⟨p1, g1⟩))) (fun hHeld => ?_)
      refine anyZ_free (i := 0) (oi := ?oi_1) (v := ?v_1) ?hi_1 ?hs_1 ?hf_1 ?hr_1 ?hQ_1 (Or.inl ⟨?hw_1, ?hy_1⟩) ?hrest_1
      case hi_1 => (simp only [List.getElem?_toArray, List.getElem?_cons_succ, List.getElem?_cons_zero]; exact rfl)
      case hs_1 => kernel_rfl
      case hf_1 => kernel_rfl
      case hr_1 => kernel_rfl
      case hQ_1 => exact fun _ _ _ h => h
      case hw_1 => rfl
      case hy_1 => (intro w _; go_simp; try with_reducible rfl)
      try simp only [Act.put, List.setIfInBounds_toArray, List.set_cons_zero, List.set_cons_succ]
      refine anyZ_take (i := 1) (oi := ?oi_2) (v := ?v_2) ?hi_2 ?hz_2 ?hs_2 ?hf_2 ?hr_2 ?hQ_2 (Or.inl ⟨?hw_2, ?hy_2⟩) ?hS_2 ?hrest_2
      case hi_2 => (simp only [List.getElem?_toArray, List.getElem?_cons_succ, List.getElem?_cons_zero]; exact rfl)
      case hz_2 => kernel_rfl
      case hs_2 => kernel_rfl
      case hf_2 => kernel_rfl
      case hr_2 => kernel_rfl
      case hQ_2 => exact fun _ _ _ h => h
      case hw_2 => rfl
      case hS_2 => assumption
      case hy_2 => (intro w hSw; (try dsimp only at hSw); go_simp; try with_reducible rfl)
      try simp only [Act.put, List.setIfInBounds_toArray, List.set_cons_zero, List.set_cons_succ]
      refine anyZ_free (i := 2) (oi := ?oi_3) (v := ?v_3) ?hi_3 ?hs_3 ?hf_3 ?hr_3 ?hQ_3 (Or.inl ⟨?hw_3, ?hy_3⟩) ?hrest_3
      case hi_3 => (simp only [List.getElem?_toArray, List.getElem?_cons_succ, List.getElem?_cons_zero]; exact rfl)
      case hs_3 => kernel_rfl
      case hf_3 => kernel_rfl
      case hr_3 => kernel_rfl
      case hQ_3 => exact fun _ _ _ h => h
      case hw_3 => rfl
      case hy_3 => (intro w _; go_simp; try with_reducible rfl)
      try simp only [Act.put, List.setIfInBounds_toArray, List.set_cons_zero, List.set_cons_succ]
      refine anyZ_free (i := 3) (oi := ?oi_4) (v := ?v_4) ?hi_4 ?hs_4 ?hf_4 ?hr_4 ?hQ_4 (Or.inl ⟨?hw_4, ?hy_4⟩) ?hrest_4
      case hi_4 => (simp only [List.getElem?_toArray, List.getElem?_cons_succ, List.getElem?_cons_zero]; exact rfl)
      case hs_4 => kernel_rfl
      case hf_4 => kernel_rfl
      case hr_4 => kernel_rfl
      case hQ_4 => exact fun _ _ _ h => h
      case hw_4 => rfl
      case hy_4 => (intro w _; go_simp; try with_reducible rfl)
      try simp only [Act.put, List.setIfInBounds_toArray, List.set_cons_zero, List.set_cons_succ]
      refine anyZ_take (i := 4) (oi := ?oi_5) (v := ?v_5) ?hi_5 ?hz_5 ?hs_5 ?hf_5 ?hr_5 ?hQ_5 (Or.inl ⟨?hw_5, ?hy_5⟩) ?hS_5 ?hrest_5
      case hi_5 => (simp only [List.getElem?_toArray, List.getElem?_cons_succ, List.getElem?_cons_zero]; exact rfl)
      case hz_5 => kernel_rfl
      case hs_5 => kernel_rfl
      case hf_5 => kernel_rfl
      case hr_5 => kernel_rfl
      case hQ_5 => exact fun _ _ _ h => h
      case hw_5 => rfl
      case hS_5 => assumption
      case hy_5 => (intro w hSw; (try dsimp only at hSw); go_simp; try with_reducible rfl)
      try simp only [Act.put, List.setIfInBounds_toArray, List.set_cons_zero, List.set_cons_succ]
      refine anyZ_free (i := 5) (oi := ?oi_6) (v := ?v_6) ?hi_6 ?hs_6 ?hf_6 ?hr_6 ?hQ_6 (Or.inl ⟨?hw_6, ?hy_6⟩) ?hrest_6
      case hi_6 => (simp only [List.getElem?_toArray, List.getElem?_cons_succ, List.getElem?_cons_zero]; exact rfl)
      case hs_6 => kernel_rfl
      case hf_6 => kernel_rfl
      case hr_6 => kernel_rfl
      case hQ_6 => exact fun _ _ _ h => h
      case hw_6 => rfl
      case hy_6 => (intro w _; go_simp; try with_reducible rfl)
      try simp only [Act.put, List.setIfInBounds_toArray, List.set_cons_zero, List.set_cons_succ]
      refine anyZ_free (i := 6) (oi := ?oi_7) (v := ?v_7) ?hi_7 ?hs_7 ?hf_7 ?hr_7 ?hQ_7 (Or.inl ⟨?hw_7, ?hy_7⟩) ?hrest_7
      case hi_7 => (simp only [List.getElem?_toArray, List.getElem?_cons_succ, List.getElem?_cons_zero]; exact rfl)
      case hs_7 => kernel_rfl
      case hf_7 => kernel_rfl
      case hr_7 => kernel_rfl
      case hQ_7 => exact fun _ _ _ h => h
      case hw_7 => rfl
      case hy_7 => (intro w _; go_simp; try with_reducible rfl)
      try simp only [Act.put, List.setIfInBounds_toArray, List.set_cons_zero, List.set_cons_succ]
      refine anyZ_ready (rs := [7]) (by kernel_rfl) (by simp) ?_
      refine (AllZ.last (o := ?o_8) ?ho_8 (by rfl) (fun K hK => ?st_8) AllZ.nil)
      case ho_8 => (simp only [List.getElem?_toArray, List.getElem?_cons_succ, List.getElem?_cons_zero]; exact rfl)
      case st_8 =>
        go_simp
        refine hK.out _ _ ?_
        clear hK K
        try simp only [Act.put, List.setIfInBounds_toArray, List.set_cons_zero, List.set_cons_succ]
        refine anyZ_done (by kernel_rfl) ?_ _
        refine NoPanic.normal ?_
        have th2 : Hid (Arr ((W4.setCell ⟨H, 6, none⟩ (.int .u32 (X1 : Nat))).drew) .u32 H 8 (Ob.upd (V) 6 X1)) := (th1.out.set (i := 6) (z := X1) (by decide)).drew
        have tg2 : Hid (Arr ((W4.setCell ⟨H, 6, none⟩ (.int .u32 (X1 : Nat))).drew) .u32 G 2 (wordAt (sby s))) := (tg1.out.far (by omega) _ _).drew
        have hB2 : Below N w ((W4.setCell ⟨H, 6, none⟩ (.int .u32 (X1 : Nat))).drew) := by (repeat' (first | (with_reducible first | exact Below.refl _ _ | assumption | refine Below.alloc ?_ ?_ _ | refine Below.drew ?_ | refine below_drewN ?_ _ | refine Below.setCell ?_ ?_ _ | refine below_via (by with_reducible assumption) ?_ ?_) | omega | (simp only [szs]; omega) | (simp only [szs] at *; omega)))
        clear hHeld th1 tg1 hB1 p1 c1 f1 g1 xw1
        generalize ((W4.setCell ⟨H, 6, none⟩ (.int .u32 (X1 : Nat))).drew) = W5 at *
        have hv2 : Hid (Ob.Words32 (Ob.upd V 6 X1)) := hv1.out.upd 6 (by rw [← hX1.out]; exact Ob.xor_lt (hv1.out _) lw1)
        rw [hX1.out] at hend
        obtain ⟨V', hV'⟩ : ∃ V', Hid (Ob.upd V 6 X1 = V') := ⟨_, rfl⟩
        rw [hV'.out] at hend hv2 th2
        have xw2 := xor_u32 (V' 7) y (hv2.out _) lw2
        obtain ⟨X2, hX2⟩ : ∃ X, Hid (V' 7 ^^^ y = X) := ⟨_, rfl⟩
        rw [hX2.out] at xw2
        have p2 := th2.out.drew.c 7 (by decide)
        have c2 := th2.out.c 7 (by decide)
        have f2 := th2.out.f 7 (by decide)
        have g2 := tg2.out.drew.c 1 (by decide)
        rw [hw2.out] at g2
        go_upto_region 8 with (fail)
        refine wp_region_noPanic ?_
        refine region_lastly (S := (fun w' => w'.cell? ⟨H, 7, none⟩ = some (.int .u32 (V' 7 : Nat)) ∧ w'.cell? ⟨G, 1, none⟩ = some (.int .u32 (y : Nat)))) [7] (by kernel_rfl) (by ((try dsimp only); (exact ⟨p2, g2⟩))) (fun hHeld => ?_)
        refine anyZ_free (i := 0) (oi := ?oi_9) (v := ?v_9) ?hi_9 ?hs_9 ?hf_9 ?hr_9 ?hQ_9 (Or.inl ⟨?hw_9, ?hy_9⟩) ?hrest_9
        case hi_9 => (simp only [List.getElem?_toArray, List.getElem?_cons_succ, List.getElem?_cons_zero]; exact rfl)
        case hs_9 => kernel_rfl
        case hf_9 => kernel_rfl
        case hr_9 => kernel_rfl
        case hQ_9 => exact fun _ _ _ h => h
        case hw_9 => rfl
        case hy_9 => (intro w _; go_simp; try with_reducible rfl)
        try simp only [Act.put, List.setIfInBounds_toArray, List.set_cons_zero, List.set_cons_succ]
        refine anyZ_take (i := 1) (oi := ?oi_10) (v := ?v_10) ?hi_10 ?hz_10 ?hs_10 ?hf_10 ?hr_10 ?hQ_10 (Or.inl ⟨?hw_10, ?hy_10⟩) ?hS_10 ?hrest_10
        case hi_10 => (simp only [List.getElem?_toArray, List.getElem?_cons_succ, List.getElem?_cons_zero]; exact rfl)
        case hz_10 => kernel_rfl
        case hs_10 => kernel_rfl
        case hf_10 => kernel_rfl
        case hr_10 => kernel_rfl
        case hQ_10 => exact fun _ _ _ h => h
        case hw_10 => rfl
        case hS_10 => assumption
        case hy_10 => (intro w hSw; (try dsimp only at hSw); go_simp; try with_reducible rfl)
        try simp only [Act.put, List.setIfInBounds_toArray, List.set_cons_zero, List.set_cons_succ]
        refine anyZ_free (i := 2) (oi := ?oi_11) (v := ?v_11) ?hi_11 ?hs_11 ?hf_11 ?hr_11 ?hQ_11 (Or.inl ⟨?hw_11, ?hy_11⟩) ?hrest_11
        case hi_11 => (simp only [List.getElem?_toArray, List.getElem?_cons_succ, List.getElem?_cons_zero]; exact rfl)
        case hs_11 => kernel_rfl
        case hf_11 => kernel_rfl
        case hr_11 => kernel_rfl
        case hQ_11 => exact fun _ _ _ h => h
        case hw_11 => rfl
        case hy_11 => (intro w _; go_simp; try with_reducible rfl)
        try simp only [Act.put, List.setIfInBounds_toArray, List.set_cons_zero, List.set_cons_succ]
        refine anyZ_free (i := 3) (oi := ?oi_12) (v := ?v_12) ?hi_12 ?hs_12 ?hf_12 ?hr_12 ?hQ_12 (Or.inl ⟨?hw_12, ?hy_12⟩) ?hrest_12
        case hi_12 => (simp only [List.getElem?_toArray, List.getElem?_cons_succ, List.getElem?_cons_zero]; exact rfl)
        case hs_12 => kernel_rfl
        case hf_12 => kernel_rfl
        case hr_12 => kernel_rfl
        case hQ_12 => exact fun _ _ _ h => h
        case hw_12 => rfl
        case hy_12 => (intro w _; go_simp; try with_reducible rfl)
        try simp only [Act.put, List.setIfInBounds_toArray, List.set_cons_zero, List.set_cons_succ]
        refine anyZ_take (i := 4) (oi := ?oi_13) (v := ?v_13) ?hi_13 ?hz_13 ?hs_13 ?hf_13 ?hr_13 ?hQ_13 (Or.inl ⟨?hw_13, ?hy_13⟩) ?hS_13 ?hrest_13
        case hi_13 => (simp only [List.getElem?_toArray, List.getElem?_cons_succ, List.getElem?_cons_zero]; exact rfl)
        case hz_13 => kernel_rfl
        case hs_13 => kernel_rfl
        case hf_13 => kernel_rfl
        case hr_13 => kernel_rfl
        case hQ_13 => exact fun _ _ _ h => h
        case hw_13 => rfl
        case hS_13 => assumption
        case hy_13 => (intro w hSw; (try dsimp only at hSw); go_simp; try with_reducible rfl)
        try simp only [Act.put, List.setIfInBounds_toArray, List.set_cons_zero, List.set_cons_succ]
        refine anyZ_free (i := 5) (oi := ?oi_14) (v := ?v_14) ?hi_14 ?hs_14 ?hf_14 ?hr_14 ?hQ_14 (Or.inl ⟨?hw_14, ?hy_14⟩) ?hrest_14
        case hi_14 => (simp only [List.getElem?_toArray, List.getElem?_cons_succ, List.getElem?_cons_zero]; exact rfl)
        case hs_14 => kernel_rfl
        case hf_14 => kernel_rfl
        case hr_14 => kernel_rfl
        case hQ_14 => exact fun _ _ _ h => h
        case hw_14 => rfl
        case hy_14 => (intro w _; go_simp; try with_reducible rfl)
        try simp only [Act.put, List.setIfInBounds_toArray, List.set_cons_zero, List.set_cons_succ]
        refine anyZ_free (i := 6) (oi := ?oi_15) (v := ?v_15) ?hi_15 ?hs_15 ?hf_15 ?hr_15 ?hQ_15 (Or.inl ⟨?hw_15, ?hy_15⟩) ?hrest_15
        case hi_15 => (simp only [List.getElem?_toArray, List.getElem?_cons_succ, List.getElem?_cons_zero]; exact rfl)
        case hs_15 => kernel_rfl
        case hf_15 => kernel_rfl
        case hr_15 => kernel_rfl
        case hQ_15 => exact fun _ _ _ h => h
        case hw_15 => rfl
        case hy_15 => (intro w _; go_simp; try with_reducible rfl)
        try simp only [Act.put, List.setIfInBounds_toArray, List.set_cons_zero, List.set_cons_succ]
        refine anyZ_ready (rs := [7]) (by kernel_rfl) (by simp) ?_
        refine (AllZ.last (o := ?o_16) ?ho_16 (by rfl) (fun K hK => ?st_16) AllZ.nil)
        case ho_16 => (simp only [List.getElem?_toArray, List.getElem?_cons_succ, List.getElem?_cons_zero]; exact rfl)
        case st_16 =>
          go_simp
          refine hK.out _ _ ?_
          clear hK K
          try simp only [Act.put, List.setIfInBounds_toArray, List.set_cons_zero, List.set_cons_succ]
          refine anyZ_done (by kernel_rfl) ?_ _
          refine NoPanic.normal ?_
          have th3 : Hid (Arr ((W5.setCell ⟨H, 7, none⟩ (.int .u32 (X2 : Nat))).drew) .u32 H 8 (Ob.upd (V') 7 X2)) := (th2.out.set (i := 7) (z := X2) (by decide)).drew
          have tg3 : Hid (Arr ((W5.setCell ⟨H, 7, none⟩ (.int .u32 (X2 : Nat))).drew) .u32 G 2 (wordAt (sby s))) := (tg2.out.far (by omega) _ _).drew
          have hB3 : Below N w ((W5.setCell ⟨H, 7, none⟩ (.int .u32 (X2 : Nat))).drew) := by (repeat' (first | (with_reducible first | exact Below.refl _ _ | assumption | refine Below.alloc ?_ ?_ _ | refine Below.drew ?_ | refine below_drewN ?_ _ | refine Below.setCell ?_ ?_ _ | refine below_via (by with_reducible assumption) ?_ ?_) | omega | (simp only [szs]; omega) | (simp only [szs] at *; omega)))
          clear hHeld th2 tg2 hB2 p2 c2 f2 g2 xw2
          generalize ((W5.setCell ⟨H, 7, none⟩ (.int .u32 (X2 : Nat))).drew) = W6 at *
          rw [hX2.out] at hend
          rw [← hend.out] at th3
          clear hend hV hV' hX0 hX1 hX2 hv1 hv2 lw1 lw2 hw1 hw2 tg3
          have lH6 := th3.out.lt
          have lN6 : N ≤ W6.heap.size := by omega
          have hown0 : (W6.alloc (.cells #[] 5)).ownsRow W6.heap.size 5 1 (.slice (some ⟨W6.heap.size, 0, none⟩) 0 0) 0 [] := World.ownsRow_made W6 #[] 0 (Nat.le_refl _) (by decide) rfl
          have hBa : Below N w (W6.alloc (.cells #[] 5)) := hB3.alloc lN6 _
          have hS1 := hS'.out.below (by rw [hN.out]; exact hBa)
          go_upto_region 10 with (at_builtin; refine wpList_copyB rfl _ _ rfl W6.heap.size _ rfl hown0 (by simp) a n c z rfl hS1 (by omega) ?_; intro ga capa W7 hown7 b7)
          have pa7 : Hid (PRow W7 W6.heap.size ga n capa (padZ z n)) := (PRow.of_row hown7).congr (fun j hj => by unfold padZ; rw [if_pos hj])
          obtain ⟨B, hB'⟩ : ∃ B, Hid (W6.heap.size = B) := ⟨_, rfl⟩
          have th7 : Hid (Arr W7 .u32 H 8 (Ob.open0 x y)) := (th3.out.alloc _).below b7 lH6
          have hB7 : Below N w W7 := below_via b7 hBa lN6
          have l7 := b7.size
          simp only [World.size_alloc] at l7
          rw [hB'.out] at pa7 lH6 lN6 l7
          have lNB : N ≤ B := lN6
          clear hown0 hown7 hBa hS1 b7 th3 hB3 hB'
          go_loopw [8] (fun s8 wr => ∃ (k g cap : Nat), n ≤ k ∧ k ≤ 64 * Ob.nblk n ∧ s8 = .slice (some ⟨g, 0, none⟩) k cap ∧ Hid (PRow wr B g k cap (padZ z n)) ∧ Hid (Arr wr .u32 H 8 (Ob.open0 x y)) ∧ Below N w wr) (fun s8 _ => 64 * Ob.nblk n - lenV s8)
          case atStart => exact ⟨n, ga, capa, Nat.le_refl _, le_nblk n, rfl, pa7, th7, hB7⟩
          case round =>
            clear pa7 th7 hB7
            obtain ⟨k, g, cap, hnk, hk, rfl, p, th, hB⟩ := hrel
            have l0 := hB.size
            have lN : N ≤ wr.heap.size := by have := hN.out; omega
            have hnb := nblk_le n hn
            have lHr := th.out.lt
            have lgB := p.out.lb
            have lgr := p.out.lt
            obtain ⟨r, hr, er⟩ : ∃ r : Nat, Hid (k % 64 = r) ∧ (k : Int) % 64 = (r : Int) := ⟨k % 64, rfl, by omega⟩
            have er' : Int.tmod (k : Int) 64 = (r : Int) := by rw [Int.tmod_eq_emod_of_nonneg (by omega)]; exact er
            by_cases hmore : r ≠ 0 ∨ k = 0
            · have hk1 : k + 1 ≤ 64 * Ob.nblk n := nblk_more hk hnk (by have := hr.out; omega)
              have p1 : PRow (wr.alloc (.cells #[.int .u8 0] 5)) B g k cap (padZ z n) := p.out.below ((Below.refl wr.heap.size wr).alloc (Nat.le_refl _) _) p.out.lt
              have th1 : Arr (wr.alloc (.cells #[.int .u8 0] 5)) .u32 H 8 (Ob.open0 x y) := th.out.alloc _
              have hB1 : Below N w (wr.alloc (.cells #[.int .u8 0] 5)) := hB.alloc lN _
              have hpad : padZ z n k = 0 := by unfold padZ; rw [if_neg (by omega)]
              by_cases h0 : r = 0
              · have hk0 : k = 0 := by omega
                subst hk0
                subst h0
                go_wp2_with (at_builtin; refine wpList_prow rfl _ _ rfl p1 (by simp; omega) (by omega) wr.heap.size 1 0 (by rw [World.cell?_alloc_new]; rfl) rfl rfl ?_; intro g' cap' W8 p2 b2)
                rw [upd_self hpad] at p2
                have hB2 : Below N w W8 := hB1.trans (b2.mono lNB)
                have th2 : Hid (Arr W8 .u32 H 8 (Ob.open0 x y)) := th1.below b2 lH6
                go_roundw
                case rel => exact ⟨1, g', cap', by omega, by omega, rfl, p2, th2, hB2⟩
                case measure => (show 64 * Ob.nblk n - (0 + 1) < 64 * Ob.nblk n - 0; omega)
              · have r1 : ((r : Int) == 0) = false := by simpa using h0
                have r2 : (r : Int) ≠ 0 := by omega
                go_wp2_with (at_builtin; refine wpList_prow rfl _ _ rfl p1 (by simp; omega) (by omega) wr.heap.size 1 0 (by rw [World.cell?_alloc_new]; rfl) rfl rfl ?_; intro g' cap' W8 p2 b2)
                rw [upd_self hpad] at p2
                have hB2 : Below N w W8 := hB1.trans (b2.mono lNB)
                have th2 : Hid (Arr W8 .u32 H 8 (Ob.open0 x y)) := th1.below b2 lH6
                go_roundw
                case rel => exact ⟨k + 1, g', cap', by omega, by omega, rfl, p2, th2, hB2⟩
                case measure => (show 64 * Ob.nblk n - (k + 1) < 64 * Ob.nblk n - k; omega)
            · obtain rfl : r = 0 := by omega
              have hk0 : k ≠ 0 := by omega
              have hkn : k = 64 * Ob.nblk n := nblk_end hk hnk hk0 (by have := hr.out; omega)
              have k1 : ((k : Int) == 0) = false := by simpa using hk0
              have k2 : (k : Int) ≠ 0 := by omega
              have hkE : Hid (k = 64 * Ob.nblk n) := hkn
              have e64 : (k : Int) % 64 = 0 := er
              have e64' : Int.tmod (k : Int) 64 = 0 := er'
              clear hkn hmore er er' hr
              go_upto_region 12 with (fail)
              go_wp2
              have p' : Hid (PRow wr B g k cap (padZ z n)) := p
              go_loopw [9] (fun s9 wr => ∃ (i : Nat), i ≤ Ob.nblk n ∧ s9 = .int .i64 ((64 * i : Nat) : Int) ∧ Hid (PRow wr B g k cap (padZ z n)) ∧ Hid (Arr wr .u32 H 8 (digW x y z n i)) ∧ Below N w wr) (fun s9 _ => k - (intOf s9).toNat)
              case atStart => exact ⟨0, by omega, rfl, p', th, hB⟩
              case round =>
                clear p p' th hB lgr lHr l0
                obtain ⟨i, hi, rfl, p, th, hB⟩ := hrel
                have l0 := hB.size
                have hkc := p.out.le
                by_cases hlt : i < Ob.nblk n
                · obtain ⟨sN, hsN⟩ : ∃ sN, Hid (64 * i = sN) := ⟨_, rfl⟩
                  obtain ⟨tN, htN, et⟩ : ∃ tN : Nat, Hid (64 * (i + 1) = tN) ∧ IntKind.i64.wrap ((sN : Int) + 64) = (tN : Int) := ⟨64 * (i + 1), rfl, by rw [IntKind.wrap_i64]; have := hsN.out; omega⟩
                  rw [hsN.out]
                  have s0 : (0 : Int) ≤ (sN : Int) := by omega
                  have s1 : (sN : Int) < (k : Int) := by have := hsN.out; have := hkE.out; omega
                  have s2 : (sN : Int) ≤ (tN : Int) := by have := hsN.out; have := htN.out; omega
                  have s3 : (tN : Int) ≤ (cap : Int) := by have := htN.out; have := hkE.out; omega
                  have s4 : tN - sN = 64 := by have := hsN.out; have := htN.out; omega
                  have s5 : cap ≠ sN := by have := hsN.out; have := hkE.out; omega
                  have s6 : IntKind.u64.wrap (tN : Int) = (tN : Int) := by rw [IntKind.wrap_u64]; have := htN.out; omega
                  have s7 : IntKind.u64.wrap (n : Int) = (n : Int) := by rw [IntKind.wrap_u64]; omega
                  obtain ⟨L, hL⟩ : ∃ L, Hid (decide (n ≤ 64 * (i + 1)) = L) := ⟨_, rfl⟩
                  have hLk : decide (tN = k) = L := by
                    rw [← hL.out]
                    refine decide_eq_decide.2 ?_
                    have := htN.out
                    exact nblk_last hlt hkE.out this.symm
                  have hL1 : ((tN : Int) == (k : Int)) = L := by
                    rw [← hLk]
                    by_cases e : tN = k
                    · simp [e]
                    · have : (tN : Int) ≠ (k : Int) := by omega
                      simp [e, this]
                  obtain ⟨D, hD⟩ : ∃ D, Hid (digW x y z n i = D) := ⟨_, rfl⟩
                  have hDw : Hid (Ob.Words32 D) := by rw [← hD.out]; exact Ob.digI_words hwo.out _ (by omega) i
                  rw [hD.out] at th
                  obtain ⟨cnt, hcnt⟩ : ∃ cnt, Hid (min (64 * (i + 1)) n = cnt) := ⟨_, rfl⟩
                  have hnext : Hid (Ob.press D (wordAt (Ob.blk z n i)) cnt L = digW x y z n (i + 1)) := by rw [← hcnt.out, ← hL.out, ← hD.out]; rfl
                  have yb : Bys wr.drew g sN 64 (Ob.blk z n i) := ⟨p.out.bys.drew.lt, fun j hj => by
                    have q := p.out.c (sN + j) (by have := hsN.out; have := hkE.out; omega)
                    rw [← hsN.out, padZ_blk] at q
                    rw [← hsN.out]
                    exact q⟩
                  have c9 := rpress_core D hDw.out g sN (cap - sN) (Ob.blk z n i) (Ob.blk_lt hz'.out n i) cnt (by have := hcnt.out; omega) L wr.drew yb
                  rw [hnext.out] at c9
                  unfold arrV at c9
                  clear yb
                  cases L with
                  | false =>
                    have hc1 : cnt = tN := by
                      have h1 := hcnt.out; have h2 := htN.out
                      have h3 := of_decide_eq_false hL.out
                      omega
                    rw [hc1] at c9
                    go_upto_region 19 with (fail)
                    refine wp_region_noPanic ?_
                    refine region_lastly (S := (fun w' => Arr w' .u32 H 8 D)) [10] (by kernel_rfl) (by ((try dsimp only); (first | exact th.out.drew | exact th.out.drew.below b9 th.out.drew.lt))) (fun hHeld => ?_)
                    refine anyZ_take (i := 0) (oi := ?oi_17) (v := .agg (arrL .u32 D 8).toArray) ?hi_17 ?hz_17 ?hs_17 ?hf_17 ?hr_17 ?hQ_17 ?hy_17 ?hS_17 ?hrest_17
                    case hi_17 => (simp only [List.getElem?_toArray, List.getElem?_cons_succ, List.getElem?_cons_zero]; exact rfl)
                    case hz_17 => kernel_rfl
                    case hs_17 => kernel_rfl
                    case hf_17 => kernel_rfl
                    case hr_17 => kernel_rfl
                    case hQ_17 => exact fun _ _ _ h => h
                    case hS_17 => assumption
                    case hy_17 => (refine yieldsArr (k := .u32) (n := 8) (v := D) ?_ 65 (.tmp 7) ?_ H ?_ ?_ Tryd.underlying65 ?_ ?_; (focus rfl); (focus rfl); (focus rfl); (focus exact fun w h => h); (focus rfl); kernel_rfl)
                    try simp only [Act.put, List.setIfInBounds_toArray, List.set_cons_zero, List.set_cons_succ]
                    refine anyZ_free (i := 1) (oi := ?oi_18) (v := ?v_18) ?hi_18 ?hs_18 ?hf_18 ?hr_18 ?hQ_18 (Or.inl ⟨?hw_18, ?hy_18⟩) ?hrest_18
                    case hi_18 => (simp only [List.getElem?_toArray, List.getElem?_cons_succ, List.getElem?_cons_zero]; exact rfl)
                    case hs_18 => kernel_rfl
                    case hf_18 => kernel_rfl
                    case hr_18 => kernel_rfl
                    case hQ_18 => exact fun _ _ _ h => h
                    case hw_18 => rfl
                    case hy_18 => (intro w _; go_simp; try with_reducible rfl)
                    try simp only [Act.put, List.setIfInBounds_toArray, List.set_cons_zero, List.set_cons_succ]
                    refine anyZ_free (i := 2) (oi := ?oi_19) (v := ?v_19) ?hi_19 ?hs_19 ?hf_19 ?hr_19 ?hQ_19 (Or.inl ⟨?hw_19, ?hy_19⟩) ?hrest_19
                    case hi_19 => (simp only [List.getElem?_toArray, List.getElem?_cons_succ, List.getElem?_cons_zero]; exact rfl)
                    case hs_19 => kernel_rfl
                    case hf_19 => kernel_rfl
                    case hr_19 => kernel_rfl
                    case hQ_19 => exact fun _ _ _ h => h
                    case hw_19 => rfl
                    case hy_19 => (intro w _; go_simp; try with_reducible rfl)
                    try simp only [Act.put, List.setIfInBounds_toArray, List.set_cons_zero, List.set_cons_succ]
                    refine anyZ_free (i := 3) (oi := ?oi_20) (v := ?v_20) ?hi_20 ?hs_20 ?hf_20 ?hr_20 ?hQ_20 (Or.inl ⟨?hw_20, ?hy_20⟩) ?hrest_20
                    case hi_20 => (simp only [List.getElem?_toArray, List.getElem?_cons_succ, List.getElem?_cons_zero]; exact rfl)
                    case hs_20 => kernel_rfl
                    case hf_20 => kernel_rfl
                    case hr_20 => kernel_rfl
                    case hQ_20 => exact fun _ _ _ h => h
                    case hw_20 => rfl
                    case hy_20 => (intro w _; go_simp; try with_reducible rfl)
                    try simp only [Act.put, List.setIfInBounds_toArray, List.set_cons_zero, List.set_cons_succ]
                    refine anyZ_free (i := 4) (oi := ?oi_21) (v := ?v_21) ?hi_21 ?hs_21 ?hf_21 ?hr_21 ?hQ_21 (Or.inl ⟨?hw_21, ?hy_21⟩) ?hrest_21
                    case hi_21 => (simp only [List.getElem?_toArray, List.getElem?_cons_succ, List.getElem?_cons_zero]; exact rfl)
                    case hs_21 => kernel_rfl
                    case hf_21 => kernel_rfl
                    case hr_21 => kernel_rfl
                    case hQ_21 => exact fun _ _ _ h => h
                    case hw_21 => rfl
                    case hy_21 => (intro w _; go_simp; try with_reducible rfl)
                    try simp only [Act.put, List.setIfInBounds_toArray, List.set_cons_zero, List.set_cons_succ]
                    refine anyZ_free (i := 5) (oi := ?oi_22) (v := ?v_22) ?hi_22 ?hs_22 ?hf_22 ?hr_22 ?hQ_22 (Or.inl ⟨?hw_22, ?hy_22⟩) ?hrest_22
                    case hi_22 => (simp only [List.getElem?_toArray, List.getElem?_cons_succ, List.getElem?_cons_zero]; exact rfl)
                    case hs_22 => kernel_rfl
                    case hf_22 => kernel_rfl
                    case hr_22 => kernel_rfl
                    case hQ_22 => exact fun _ _ _ h => h
                    case hw_22 => rfl
                    case hy_22 => (intro w _; go_simp; try with_reducible rfl)
                    try simp only [Act.put, List.setIfInBounds_toArray, List.set_cons_zero, List.set_cons_succ]
                    refine anyZ_free (i := 6) (oi := ?oi_23) (v := ?v_23) ?hi_23 ?hs_23 ?hf_23 ?hr_23 ?hQ_23 (Or.inl ⟨?hw_23, ?hy_23⟩) ?hrest_23
                    case hi_23 => (simp only [List.getElem?_toArray, List.getElem?_cons_succ, List.getElem?_cons_zero]; exact rfl)
                    case hs_23 => kernel_rfl
                    case hf_23 => kernel_rfl
                    case hr_23 => kernel_rfl
                    case hQ_23 => exact fun _ _ _ h => h
                    case hw_23 => rfl
                    case hy_23 => (intro w _; go_simp; try with_reducible rfl)
                    try simp only [Act.put, List.setIfInBounds_toArray, List.set_cons_zero, List.set_cons_succ]
                    refine anyZ_free (i := 7) (oi := ?oi_24) (v := ?v_24) ?hi_24 ?hs_24 ?hf_24 ?hr_24 ?hQ_24 (Or.inl ⟨?hw_24, ?hy_24⟩) ?hrest_24
                    case hi_24 => (simp only [List.getElem?_toArray, List.getElem?_cons_succ, List.getElem?_cons_zero]; exact rfl)
                    case hs_24 => kernel_rfl
                    case hf_24 => kernel_rfl
                    case hr_24 => kernel_rfl
                    case hQ_24 => exact fun _ _ _ h => h
                    case hw_24 => rfl
                    case hy_24 => (intro w _; go_simp; try with_reducible rfl)
                    try simp only [Act.put, List.setIfInBounds_toArray, List.set_cons_zero, List.set_cons_succ]
                    refine anyZ_free (i := 8) (oi := ?oi_25) (v := ?v_25) ?hi_25 ?hs_25 ?hf_25 ?hr_25 ?hQ_25 (Or.inl ⟨?hw_25, ?hy_25⟩) ?hrest_25
                    case hi_25 => (simp only [List.getElem?_toArray, List.getElem?_cons_succ, List.getElem?_cons_zero]; exact rfl)
                    case hs_25 => kernel_rfl
                    case hf_25 => kernel_rfl
                    case hr_25 => kernel_rfl
                    case hQ_25 => exact fun _ _ _ h => h
                    case hw_25 => rfl
                    case hy_25 => (intro w _; go_simp; try with_reducible rfl)
                    try simp only [Act.put, List.setIfInBounds_toArray, List.set_cons_zero, List.set_cons_succ]
                    refine anyZ_ready (rs := [9]) (by kernel_rfl) (by simp) ?_
                    refine (AllZ.cons (o := ?o_26) ?ho_26 (fun K hK => ?st_26) AllZ.nil)
                    case ho_26 => (simp only [List.getElem?_toArray, List.getElem?_cons_succ, List.getElem?_cons_zero]; exact rfl)
                    case st_26 =>
                      go_simp
                      (go_at_call 34; with_reducible refine c9.mono ?_; rintro e W9 ⟨rfl, b9⟩)
                      refine hK.out _ _ (by ((try dsimp only); (first | exact th.out.drew | exact th.out.drew.below b9 th.out.drew.lt))) (fun hHeld => ?_)
                      clear hK K
                      try simp only [Act.put, List.setIfInBounds_toArray, List.set_cons_zero, List.set_cons_succ]
                      refine anyZ_ready (rs := [10]) (by kernel_rfl) (by simp) ?_
                      refine (AllZ.last (o := ?o_27) ?ho_27 (by rfl) (fun K hK => ?st_27) AllZ.nil)
                      case ho_27 => (simp only [List.getElem?_toArray, List.getElem?_cons_succ, List.getElem?_cons_zero]; exact rfl)
                      case st_27 =>
                        rw [if_pos (by rfl)]; refine wp_storeArr 65 _ _ rfl H rfl (digW x y z n (i + 1)) rfl (th.out.drew.below b9 th.out.drew.lt) (by kernel_rfl) ?_; intro W10 hWn th1 zWn
                        refine hK.out _ _ ?_
                        clear hK K
                        try simp only [Act.put, List.setIfInBounds_toArray, List.set_cons_zero, List.set_cons_succ]
                        refine anyZ_done (by kernel_rfl) ?_ _
                        refine NoPanic.normal ?_
                        have p1 : Hid (PRow W10 B g k cap (padZ z n)) := by rw [hWn.out]; exact (((p.out.below ((Below.refl wr.heap.size wr).drew) p.out.lt)).below b9 p.out.lt).farCells (by omega) _ _
                        have hB1 : Below N w W10 := by rw [hWn.out]; exact below_setCells (below_via b9 hB.drew (by have := hN.out; simp only [World.size_drew]; omega)) (by omega) _ _
                        have htE := htN.out
                        clear hHeld hWn zWn b9 c9 p th hB hLk hL1 hDw hD hnext
                        go_wp2
                        go_roundw
                        case rel => exact ⟨i + 1, by omega, by rw [htE], p1, th1, hB1⟩
                        case measure => (simp only [intOf, Int.toNat_natCast]; have := hsN.out; have := hkE.out; omega)
                  | true =>
                    have hc1 : cnt = n := by
                      have h1 := hcnt.out
                      have h3 := of_decide_eq_true hL.out
                      omega
                    rw [hc1] at c9
                    go_upto_region 19 with (fail)
                    refine wp_region_noPanic ?_
                    refine region_lastly (S := (fun w' => Arr w' .u32 H 8 D)) [10] (by kernel_rfl) (by ((try dsimp only); (first | exact th.out.drew | exact th.out.drew.below b9 th.out.drew.lt))) (fun hHeld => ?_)
                    refine anyZ_take (i := 0) (oi := ?oi_28) (v := .agg (arrL .u32 D 8).toArray) ?hi_28 ?hz_28 ?hs_28 ?hf_28 ?hr_28 ?hQ_28 ?hy_28 ?hS_28 ?hrest_28
                    case hi_28 => (simp only [List.getElem?_toArray, List.getElem?_cons_succ, List.getElem?_cons_zero]; exact rfl)
                    case hz_28 => kernel_rfl
                    case hs_28 => kernel_rfl
                    case hf_28 => kernel_rfl
                    case hr_28 => kernel_rfl
                    case hQ_28 => exact fun _ _ _ h => h
                    case hS_28 => assumption
                    case hy_28 => (refine yieldsArr (k := .u32) (n := 8) (v := D) ?_ 65 (.tmp 7) ?_ H ?_ ?_ Tryd.underlying65 ?_ ?_; (focus rfl); (focus rfl); (focus rfl); (focus exact fun w h => h); (focus rfl); kernel_rfl)
                    try simp only [Act.put, List.setIfInBounds_toArray, List.set_cons_zero, List.set_cons_succ]
                    refine anyZ_free (i := 1) (oi := ?oi_29) (v := ?v_29) ?hi_29 ?hs_29 ?hf_29 ?hr_29 ?hQ_29 (Or.inl ⟨?hw_29, ?hy_29⟩) ?hrest_29
                    case hi_29 => (simp only [List.getElem?_toArray, List.getElem?_cons_succ, List.getElem?_cons_zero]; exact rfl)
                    case hs_29 => kernel_rfl
                    case hf_29 => kernel_rfl
                    case hr_29 => kernel_rfl
                    case hQ_29 => exact fun _ _ _ h => h
                    case hw_29 => rfl
                    case hy_29 => (intro w _; go_simp; try with_reducible rfl)
                    try simp only [Act.put, List.setIfInBounds_toArray, List.set_cons_zero, List.set_cons_succ]
                    refine anyZ_free (i := 2) (oi := ?oi_30) (v := ?v_30) ?hi_30 ?hs_30 ?hf_30 ?hr_30 ?hQ_30 (Or.inl ⟨?hw_30, ?hy_30⟩) ?hrest_30
                    case hi_30 => (simp only [List.getElem?_toArray, List.getElem?_cons_succ, List.getElem?_cons_zero]; exact rfl)
                    case hs_30 => kernel_rfl
                    case hf_30 => kernel_rfl
                    case hr_30 => kernel_rfl
                    case hQ_30 => exact fun _ _ _ h => h
                    case hw_30 => rfl
                    case hy_30 => (intro w _; go_simp; try with_reducible rfl)
                    try simp only [Act.put, List.setIfInBounds_toArray, List.set_cons_zero, List.set_cons_succ]
                    refine anyZ_free (i := 3) (oi := ?oi_31) (v := ?v_31) ?hi_31 ?hs_31 ?hf_31 ?hr_31 ?hQ_31 (Or.inl ⟨?hw_31, ?hy_31⟩) ?hrest_31
                    case hi_31 => (simp only [List.getElem?_toArray, List.getElem?_cons_succ, List.getElem?_cons_zero]; exact rfl)
                    case hs_31 => kernel_rfl
                    case hf_31 => kernel_rfl
                    case hr_31 => kernel_rfl
                    case hQ_31 => exact fun _ _ _ h => h
                    case hw_31 => rfl
                    case hy_31 => (intro w _; go_simp; try with_reducible rfl)
                    try simp only [Act.put, List.setIfInBounds_toArray, List.set_cons_zero, List.set_cons_succ]
                    refine anyZ_free (i := 4) (oi := ?oi_32) (v := ?v_32) ?hi_32 ?hs_32 ?hf_32 ?hr_32 ?hQ_32 (Or.inl ⟨?hw_32, ?hy_32⟩) ?hrest_32
                    case hi_32 => (simp only [List.getElem?_toArray, List.getElem?_cons_succ, List.getElem?_cons_zero]; exact rfl)
                    case hs_32 => kernel_rfl
                    case hf_32 => kernel_rfl
                    case hr_32 => kernel_rfl
                    case hQ_32 => exact fun _ _ _ h => h
                    case hw_32 => rfl
                    case hy_32 => (intro w _; go_simp; try with_reducible rfl)
                    try simp only [Act.put, List.setIfInBounds_toArray, List.set_cons_zero, List.set_cons_succ]
                    refine anyZ_free (i := 5) (oi := ?oi_33) (v := ?v_33) ?hi_33 ?hs_33 ?hf_33 ?hr_33 ?hQ_33 (Or.inl ⟨?hw_33, ?hy_33⟩) ?hrest_33
                    case hi_33 => (simp only [List.getElem?_toArray, List.getElem?_cons_succ, List.getElem?_cons_zero]; exact rfl)
                    case hs_33 => kernel_rfl
                    case hf_33 => kernel_rfl
                    case hr_33 => kernel_rfl
                    case hQ_33 => exact fun _ _ _ h => h
                    case hw_33 => rfl
                    case hy_33 => (intro w _; go_simp; try with_reducible rfl)
                    try simp only [Act.put, List.setIfInBounds_toArray, List.set_cons_zero, List.set_cons_succ]
                    refine anyZ_free (i := 6) (oi := ?oi_34) (v := ?v_34) ?hi_34 ?hs_34 ?hf_34 ?hr_34 ?hQ_34 (Or.inl ⟨?hw_34, ?hy_34⟩) ?hrest_34
                    case hi_34 => (simp only [List.getElem?_toArray, List.getElem?_cons_succ, List.getElem?_cons_zero]; exact rfl)
                    case hs_34 => kernel_rfl
                    case hf_34 => kernel_rfl
                    case hr_34 => kernel_rfl
                    case hQ_34 => exact fun _ _ _ h => h
                    case hw_34 => rfl
                    case hy_34 => (intro w _; go_simp; try with_reducible rfl)
                    try simp only [Act.put, List.setIfInBounds_toArray, List.set_cons_zero, List.set_cons_succ]
                    refine anyZ_free (i := 7) (oi := ?oi_35) (v := ?v_35) ?hi_35 ?hs_35 ?hf_35 ?hr_35 ?hQ_35 (Or.inl ⟨?hw_35, ?hy_35⟩) ?hrest_35
                    case hi_35 => (simp only [List.getElem?_toArray, List.getElem?_cons_succ, List.getElem?_cons_zero]; exact rfl)
                    case hs_35 => kernel_rfl
                    case hf_35 => kernel_rfl
                    case hr_35 => kernel_rfl
                    case hQ_35 => exact fun _ _ _ h => h
                    case hw_35 => rfl
                    case hy_35 => (intro w _; go_simp; try with_reducible rfl)
                    try simp only [Act.put, List.setIfInBounds_toArray, List.set_cons_zero, List.set_cons_succ]
                    refine anyZ_free (i := 8) (oi := ?oi_36) (v := ?v_36) ?hi_36 ?hs_36 ?hf_36 ?hr_36 ?hQ_36 (Or.inl ⟨?hw_36, ?hy_36⟩) ?hrest_36
                    case hi_36 => (simp only [List.getElem?_toArray, List.getElem?_cons_succ, List.getElem?_cons_zero]; exact rfl)
                    case hs_36 => kernel_rfl
                    case hf_36 => kernel_rfl
                    case hr_36 => kernel_rfl
                    case hQ_36 => exact fun _ _ _ h => h
                    case hw_36 => rfl
                    case hy_36 => (intro w _; go_simp; try with_reducible rfl)
                    try simp only [Act.put, List.setIfInBounds_toArray, List.set_cons_zero, List.set_cons_succ]
                    refine anyZ_ready (rs := [9]) (by kernel_rfl) (by simp) ?_
                    refine (AllZ.cons (o := ?o_37) ?ho_37 (fun K hK => ?st_37) AllZ.nil)
                    case ho_37 => (simp only [List.getElem?_toArray, List.getElem?_cons_succ, List.getElem?_cons_zero]; exact rfl)
                    case st_37 =>
                      go_simp
                      (go_at_call 34; with_reducible refine c9.mono ?_; rintro e W9 ⟨rfl, b9⟩)
                      refine hK.out _ _ (by ((try dsimp only); (first | exact th.out.drew | exact th.out.drew.below b9 th.out.drew.lt))) (fun hHeld => ?_)
                      clear hK K
                      try simp only [Act.put, List.setIfInBounds_toArray, List.set_cons_zero, List.set_cons_succ]
                      refine anyZ_ready (rs := [10]) (by kernel_rfl) (by simp) ?_
                      refine (AllZ.last (o := ?o_38) ?ho_38 (by rfl) (fun K hK => ?st_38) AllZ.nil)
                      case ho_38 => (simp only [List.getElem?_toArray, List.getElem?_cons_succ, List.getElem?_cons_zero]; exact rfl)
                      case st_38 =>
                        rw [if_pos (by rfl)]; refine wp_storeArr 65 _ _ rfl H rfl (digW x y z n (i + 1)) rfl (th.out.drew.below b9 th.out.drew.lt) (by kernel_rfl) ?_; intro W10 hWn th1 zWn
                        refine hK.out _ _ ?_
                        clear hK K
                        try simp only [Act.put, List.setIfInBounds_toArray, List.set_cons_zero, List.set_cons_succ]
                        refine anyZ_done (by kernel_rfl) ?_ _
                        refine NoPanic.normal ?_
                        have p1 : Hid (PRow W10 B g k cap (padZ z n)) := by rw [hWn.out]; exact (((p.out.below ((Below.refl wr.heap.size wr).drew) p.out.lt)).below b9 p.out.lt).farCells (by omega) _ _
                        have hB1 : Below N w W10 := by rw [hWn.out]; exact below_setCells (below_via b9 hB.drew (by have := hN.out; simp only [World.size_drew]; omega)) (by omega) _ _
                        have htE := htN.out
                        clear hHeld hWn zWn b9 c9 p th hB hLk hL1 hDw hD hnext
                        go_wp2
                        go_roundw
                        case rel => exact ⟨i + 1, by omega, by rw [htE], p1, th1, hB1⟩
                        case measure => (simp only [intOf, Int.toNat_natCast]; have := hsN.out; have := hkE.out; omega)
                · obtain rfl : i = Ob.nblk n := by omega
                  rw [← hdig.out] at th
                  obtain ⟨D, hD⟩ : ∃ D, Hid (digS s z n = D) := ⟨_, rfl⟩
                  have hDw : Hid (Ob.Words32 D) := by rw [← hD.out]; exact digS_words s z n (by omega)
                  rw [hD.out] at th
                  have kn : ¬ ((64 * Ob.nblk n : Nat) : Int) < (k : Int) := by have := hkE.out; omega
                  have lB : B ≤ wr.heap.size := Nat.le_trans p.out.lb (Nat.le_of_lt p.out.lt)
                  go_upto_region 20 with (fail)
                  obtain ⟨i1, hi1, y1, y2, y0⟩ := wordInfo
                  have hown0 : Hid (wr.ownsRow B 64 1 (.slice none 0 0) 0 (arrL .u32 D 0)) := ⟨rfl, Or.inl ⟨rfl, rfl⟩⟩
                  clear p
                  obtain ⟨kk, hkk⟩ : ∃ kk, Hid (64 * Ob.nblk n = kk) := ⟨_, rfl⟩
                  rw [hkk.out]
                  go_wp2
                  go_loopw [12, 13] (fun s12 s13 wr => ∃ (j : Nat), j ≤ 8 ∧ s13 = .int .i64 (j : Nat) ∧ Hid (wr.ownsRow B 64 1 s12 j (arrL .u32 D j)) ∧ Hid (Arr wr .u32 H 8 D) ∧ B ≤ wr.heap.size ∧ Below N w wr) (fun _ s13 _ => 8 - (intOf s13).toNat)
                  case atStart => exact ⟨0, by omega, rfl, hown0, th, lB, hB⟩
                  case round =>
                    clear hown0 th lB hB
                    obtain ⟨j, hj, rfl, hown, th, lB, hB⟩ := hrel
                    by_cases hj8 : j < 8
                    · have q0 := th.out.c j hj8
                      have j0 : (j : Int) < 8 := by omega
                      have j1 : (0 : Int) ≤ (j : Int) := by omega
                      obtain ⟨X, hX⟩ : ∃ X, Hid (D j = X) := ⟨_, rfl⟩
                      rw [hX.out] at q0
                      have hwj : Hid (arrL .u32 D j ++ [.int .u32 (X : Nat)] = arrL .u32 D (j + 1)) := by
                        show _ = _
                        rw [← hX.out]
                        unfold arrL
                        rw [List.range_succ, List.map_append]
                        rfl
                      have hb1 : Below wr.heap.size wr (wr.alloc (.cells #[.int .u32 (X : Nat)] 64)) := (Below.refl wr.heap.size wr).alloc (Nat.le_refl _) _
                      have hown1 : Hid ((wr.alloc (.cells #[.int .u32 (X : Nat)] 64)).ownsRow B 64 1 u12 j (arrL .u32 D j)) := own_below hown.out hb1 (fun k h => (hown.out.lt k h).2)
                      have hnews : Hid (∀ (t : Nat) (u : Value), [Value.int .u32 (X : Nat)][t]? = some u → (wr.alloc (.cells #[.int .u32 (X : Nat)] 64)).cell? ((⟨wr.heap.size, 0, none⟩ : Addr).add t) = some u) := fun t u h => by
                        rw [Addr.add_mid, Nat.zero_add, World.cell?_alloc_new, List.getElem?_toArray]
                        exact h
                      have hBa : Below N w (wr.alloc (.cells #[.int .u32 (X : Nat)] 64)) := hB.alloc (by have := hB.size; have := hN.out; omega) _
                      have tha : Arr (wr.alloc (.cells #[.int .u32 (X : Nat)] 64)) .u32 H 8 D := th.out.alloc _
                      go_wp2_with (at_builtin; refine wpList_append_own _ rfl _ _ 62 rfl B 64 i1 _ 1 4 Tryd.underlying62 hi1 y0 y1 y2 rfl (by decide) _ j _ rfl hown1.out ⟨wr.heap.size, 0, none⟩ 1 1 _ rfl rfl hnews.out (by simp [Value.oneCell']) (by unfold maxLen; omega) (by omega) (by simp; omega) ?_; intro v' W11 ho hg hnil)
                      have bw : Below B (wr.alloc (.cells #[.int .u32 (X : Nat)] 64)) W11 := (Below.refl _ _).grown hg (by simp; omega) (fun k h => (hown1.out.lt k h).1)
                      have ho' : Hid (W11.ownsRow B 64 1 v' (j + 1) (arrL .u32 D (j + 1))) := by rw [← hwj.out]; exact ho
                      have th' : Hid (Arr W11 .u32 H 8 D) := tha.below bw lH6
                      have hB' : Below N w W11 := hBa.trans (bw.mono lNB)
                      have lB' : B ≤ W11.heap.size := by have := bw.size; simp only [World.size_alloc] at this; omega
                      clear ho hg hnil
                      go_roundw
                      case rel => exact ⟨j + 1, by omega, by go_num, ho', th', lB', hB'⟩
                      case measure => (simp only [intOf, Int.toNat_natCast]; omega)
                    · obtain rfl : j = 8 := by omega
                      rcases hown.out.2 with ⟨_, h8⟩ | ⟨gl, capl, cur, rfl, hgl, _⟩
                      · omega
                      have cB := rbytes32W gl 8 capl D hDw.out (by decide) (by decide) wr (arr_of_row hown.out).rd
                      go_wp2_with (go_at_call 35; with_reducible refine cB.mono ?_; rintro e W12 ⟨g12, cap12, rfl, lg12, y12, b12⟩)
                      go_ret
                      exact ⟨g12, cap12, rfl, by have := hB.size; omega, by rw [hD.out]; exact y12, by rw [hN.out]; exact below_via b12 hB (by have := hB.size; have := hN.out; omega)⟩
end Go.Proofs.YtkekomiaiaacaaaDoor
