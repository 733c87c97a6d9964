/-
  The walks of package curve's bytes, and of the document's own.
-/
import Derived.Test.YtcgbemnmebgmjabCurveT
import Derived.Test.YtcgbemnmebgmjabWordsW
import Derived.Deep.AppendLies
import Derived.Laws.OwnMore
namespace Go.Proofs.Ytcgbemnmebgmjab
open Go.RowKit Go.Proofs
set_option linter.unusedVariables false
set_option linter.unusedSimpArgs false
attribute [local go_sem ↓] Go.wp_at_zero Go.wp_at_succ

/-- A point's bytes. -/
def plen : Ob.Cp → Nat
  | none => 1
  | some _ => 17
def pby : Ob.Cp → Nat → Nat
  | none => fun _ => 0
  | some a => fun i => if i = 0 then 1 else byteOf (pair a.1.val a.2.val) (i - 1)
theorem pby_lt (a : Ob.Cp) (i : Nat) : pby a i < 256 := by
  cases a with
  | none => show 0 < 256; omega
  | some a =>
    simp only [pby]
    split
    · omega
    · exact Ob.byteAt_lt _ _
theorem pby_vals (x y : Fin Ob.P) : Value.int .u8 (1 : Nat) :: vals (byteOf (pair x.val y.val)) 16 = vals (pby (some (x, y))) 17 := by
  have := vals_cons (pby (some (x, y))) 16
  rw [show (17 : Nat) = 1 + 16 from rfl, ← this]
  refine congrArg (List.cons _) (vals_congr _ _ _ fun i hi => ?_)
  simp only [pby]
  rw [if_neg (by omega)]
  congr 1
  omega

set_option maxHeartbeats 1000000 in
theorem cwrite_inf (w : World)
   (c1 : ∀ w, Calls Try.prog 9 #[.agg #[.bool true, .int .u64 0, .int .u64 0]] w fun e w' => e = .returned (.bool true) ∧ Below w.heap.size w w') :
    Calls Try.prog 6 #[.agg #[.bool true, .int .u64 0, .int .u64 0]] w fun e w' => ∃ g cap, e = .returned (.tuple #[.slice (some ⟨g, 0, none⟩) 1 cap, .nilIface]) ∧ w.heap.size ≤ g ∧ 1 ≤ cap ∧ Bys w' g 0 1 (pby none) ∧ (∀ o, w'.frozen? ⟨g, o, none⟩ = false) ∧ Below w.heap.size w w' := by
  go_enter Try.func6, Try.ntmps6
  go_wp2_with (first | (go_at_call 9; first | (with_reducible refine (c1 _).mono ?_; rintro e w_c1 ⟨rfl, b_c1⟩; have z_c1 := b_c1.size; (try simp only [World.size_alloc, World.size_setCell, World.size_drew, size_drewN] at z_c1); (try (have q1_c1_0 : w.heap.size < w_c1.heap.size := (by omega); have q2_c1_0 := Nat.le_of_lt q1_c1_0; have q3_c1_0 := Nat.ne_of_lt q1_c1_0; have q6_c1_0 := Nat.ne_of_gt q1_c1_0; have q4_c1_0_0 := (bcell b_c1).1 (w.heap.size) 0 (by first | omega | (simp only [World.size_alloc, World.size_setCell, World.size_drew, size_drewN]; omega)); have q5_c1_0_0 := (bcell b_c1).2 (w.heap.size) 0 (by first | omega | (simp only [World.size_alloc, World.size_setCell, World.size_drew, size_drewN]; omega)); have q4_c1_0_1 := (bcell b_c1).1 (w.heap.size) 1 (by first | omega | (simp only [World.size_alloc, World.size_setCell, World.size_drew, size_drewN]; omega)); have q5_c1_0_1 := (bcell b_c1).2 (w.heap.size) 1 (by first | omega | (simp only [World.size_alloc, World.size_setCell, World.size_drew, size_drewN]; omega)); have q4_c1_0_2 := (bcell b_c1).1 (w.heap.size) 2 (by first | omega | (simp only [World.size_alloc, World.size_setCell, World.size_drew, size_drewN]; omega)); have q5_c1_0_2 := (bcell b_c1).2 (w.heap.size) 2 (by first | omega | (simp only [World.size_alloc, World.size_setCell, World.size_drew, size_drewN]; omega)))))))
  go_ret2 -- @HERE@
  have hown := World.ownsRow_lit (base := w_c1.heap.size) (e := 5) (size := 1) w_c1 #[.int .u8 0] 1 (Nat.le_refl _) (by decide) rfl
  exact ⟨_, _, rfl, by omega, Nat.le_refl _, bys_of_row (z := pby none) hown, free_of_row hown, by (repeat' (first | (with_reducible exact Below.refl _ _) | (with_reducible assumption) | (with_reducible refine Below.alloc ?_ ?_ _) | (with_reducible refine Below.drew ?_) | (with_reducible refine below_drewN ?_ _) | (with_reducible refine Below.setCell ?_ ?_ _) | (with_reducible refine below_via (by with_reducible assumption) ?_ ?_) | omega | (simp only [World.size_alloc, World.size_setCell, World.size_drew, size_drewN]; omega) | (simp only [World.size_alloc, World.size_setCell, World.size_drew, size_drewN] at *; omega)))⟩

set_option maxHeartbeats 1000000 in
theorem cwrite_some (x y : Fin Ob.P) (w : World)
   (c1 : ∀ w, Calls Try.prog 9 #[.agg #[.bool false, .int .u64 (x.val : Nat), .int .u64 (y.val : Nat)]] w fun e w' => e = .returned (.bool true) ∧ Below w.heap.size w w') :
    Calls Try.prog 6 #[.agg #[.bool false, .int .u64 (x.val : Nat), .int .u64 (y.val : Nat)]] w fun e w' => ∃ g cap, e = .returned (.tuple #[.slice (some ⟨g, 0, none⟩) 17 cap, .nilIface]) ∧ w.heap.size ≤ g ∧ 17 ≤ cap ∧ Bys w' g 0 17 (pby (some (x, y))) ∧ (∀ o, w'.frozen? ⟨g, o, none⟩ = false) ∧ Below w.heap.size w w' := by
  obtain ⟨i0, hi, hz1, hz2, hz0⟩ := byteInfo
  have hp := pair_lt x.val y.val (Ob.F_word _) (Ob.F_word _)
  have hv := pby_vals x y
  generalize pby (some (x, y)) = pz at hv ⊢
  generalize x.val = x at *
  generalize y.val = y at *
  go_enter Try.func6, Try.ntmps6
  go_upto_region 5 with (first | (go_at_call 9; first | (with_reducible refine (c1 _).mono ?_; rintro e w_c1 ⟨rfl, b_c1⟩; have z_c1 := b_c1.size; (try simp only [World.size_alloc, World.size_setCell, World.size_drew, size_drewN] at z_c1); (try (have q1_c1_0 : w.heap.size < w_c1.heap.size := (by omega); have q2_c1_0 := Nat.le_of_lt q1_c1_0; have q3_c1_0 := Nat.ne_of_lt q1_c1_0; have q6_c1_0 := Nat.ne_of_gt q1_c1_0; have q4_c1_0_0 := (bcell b_c1).1 (w.heap.size) 0 (by first | omega | (simp only [World.size_alloc, World.size_setCell, World.size_drew, size_drewN]; omega)); have q5_c1_0_0 := (bcell b_c1).2 (w.heap.size) 0 (by first | omega | (simp only [World.size_alloc, World.size_setCell, World.size_drew, size_drewN]; omega)); have q4_c1_0_1 := (bcell b_c1).1 (w.heap.size) 1 (by first | omega | (simp only [World.size_alloc, World.size_setCell, World.size_drew, size_drewN]; omega)); have q5_c1_0_1 := (bcell b_c1).2 (w.heap.size) 1 (by first | omega | (simp only [World.size_alloc, World.size_setCell, World.size_drew, size_drewN]; omega)); have q4_c1_0_2 := (bcell b_c1).1 (w.heap.size) 2 (by first | omega | (simp only [World.size_alloc, World.size_setCell, World.size_drew, size_drewN]; omega)); have q5_c1_0_2 := (bcell b_c1).2 (w.heap.size) 2 (by first | omega | (simp only [World.size_alloc, World.size_setCell, World.size_drew, size_drewN]; omega)))))))
  have tx : Three w_c1 w.heap.size (.bool false) (.int .u64 x) (.int .u64 y) := by (repeat' (first | (with_reducible assumption) | (with_reducible exact Three.own (by with_reducible assumption)) | (with_reducible refine Three.set ?_ _ _ _) | (with_reducible refine Own3.set ?_ _ _ _) | (with_reducible refine Three.drew ?_) | (with_reducible refine Three.drewN ?_ _) | (with_reducible refine Own3.drew ?_) | (with_reducible refine Own3.drewN ?_ _) | (with_reducible refine Three.new ?_; simp only [World.size_alloc, World.size_setCell, World.size_drew, size_drewN]; done) | (with_reducible refine Own3.new ?_; simp only [World.size_alloc, World.size_setCell, World.size_drew, size_drewN]; done) | (with_reducible refine Three.alloc ?_ _) | (with_reducible refine Own3.alloc ?_ _) | (with_reducible refine Three.far ?_ ?_ _ _) | (with_reducible refine Own3.far ?_ ?_ _ _) | (with_reducible refine Three.via (by with_reducible assumption) ?_ ?_) | (with_reducible refine Own3.via (by with_reducible assumption) ?_ ?_) | omega | (simp only [World.size_alloc, World.size_setCell, World.size_drew, size_drewN]; omega)))
  have hB : Below w.heap.size w w_c1 := by (repeat' (first | (with_reducible exact Below.refl _ _) | (with_reducible assumption) | (with_reducible refine Below.alloc ?_ ?_ _) | (with_reducible refine Below.drew ?_) | (with_reducible refine below_drewN ?_ _) | (with_reducible refine Below.setCell ?_ ?_ _) | (with_reducible refine below_via (by with_reducible assumption) ?_ ?_) | omega | (simp only [World.size_alloc, World.size_setCell, World.size_drew, size_drewN]; omega) | (simp only [World.size_alloc, World.size_setCell, World.size_drew, size_drewN] at *; omega)))
  have ⟨d1, d2, d3, d4, d5, d6, d7⟩ := tx
  ((try clear q4_c1_0_0); (try clear q5_c1_0_0); (try clear q4_c1_0_1); (try clear q5_c1_0_1); (try clear q4_c1_0_2); (try clear q5_c1_0_2); (try clear q2_c1_0); (try clear q3_c1_0); (try clear q6_c1_0); (try clear q1_c1_0))
  clear b_c1 z_c1 c1
  have hown0 := (World.ownsRow_lit (base := w_c1.heap.size) (e := 5) (size := 1) w_c1 #[.int .u8 1] 1 (Nat.le_refl _) (by decide) rfl).alloc (.cells #[.int .u64 x, .int .u64 y] 22)
  have b0 := bytesW (w_c1.heap.size + 1) 0 2 2 (pair x y) hp ((w_c1.alloc (.cells #[.int .u8 1] 5)).alloc (.cells #[.int .u64 x, .int .u64 y] 22)) (by decide) (by have := pair_cells (w_c1.alloc (.cells #[.int .u8 1] 5)) x y 22; simpa using this) (by simp)
  go_wp2_with (first | (go_at_call 14; (with_reducible refine Calls.mono b0 ?_); rintro e w2 ⟨rfl, hown, hB2⟩; have hownA := own_below hown0 hB2 (fun k h => (by cases h; show w_c1.heap.size < _; simp only [World.size_alloc]; omega)); simp only [World.size_alloc] at hown hB2) | (at_builtin; refine wpList_append_lies _ rfl _ _ 25 rfl w_c1.heap.size 5 i0 _ 1 1 Try.underlying25 hi hz0 hz1 hz2 rfl (by decide) _ 1 _ rfl hownA ⟨w_c1.heap.size + 1 + 1, 0, none⟩ 16 16 (vals (byteOf (pair x y)) 16) rfl (by simp [vals]) (bys_news (bys_of_row hown)) (vals_one _ _) (by decide) (by decide) (by decide) (by have := hB2.size; simp only [World.size_alloc] at this; omega) w2.heap.size rfl ?_; intro g ocap w3 hown3 hgrow hat hlt))
  go_ret2 -- @HERE@
  have hown4 : w3.ownsRow w_c1.heap.size 5 1 (.slice (some ⟨g, 0, none⟩) 17 ocap) 17 (vals pz 17) := by rw [← hv]; exact hown3
  have hz2 := hB2.size
  simp only [World.size_alloc] at hz2
  have hB3 : Below w_c1.heap.size w_c1 w2 := by (repeat' (first | (with_reducible exact Below.refl _ _) | (with_reducible assumption) | (with_reducible refine Below.alloc ?_ ?_ _) | (with_reducible refine Below.drew ?_) | (with_reducible refine below_drewN ?_ _) | (with_reducible refine Below.setCell ?_ ?_ _) | (with_reducible refine below_via (by with_reducible assumption) ?_ ?_) | omega | (simp only [World.size_alloc, World.size_setCell, World.size_drew, size_drewN]; omega) | (simp only [World.size_alloc, World.size_setCell, World.size_drew, size_drewN] at *; omega)))
  have hB4 : Below w_c1.heap.size w_c1 w3 := hB3.grown hgrow (by omega) (fun k h => by cases h; exact Nat.le_refl _)
  exact ⟨g, ocap, rfl, Nat.le_trans hB.size (hown4.lt g rfl).1, (cap_of_row hown4).1, bys_of_row hown4, free_of_row hown4, hB.trans (hB4.mono hB.size)⟩

set_option maxHeartbeats 1000000 in
theorem cwrite_no (i : Bool) (x y : Int) (w : World)
   (c1 : ∀ w, Calls Try.prog 9 #[.agg #[.bool i, .int .u64 x, .int .u64 y]] w fun e w' => e = .returned (.bool false) ∧ Below w.heap.size w w') :
    Calls Try.prog 6 #[.agg #[.bool i, .int .u64 x, .int .u64 y]] w fun e w' => e = .returned (.tuple #[.slice none 0 0, .iface 40 (.int .i64 1)]) ∧ Below w.heap.size w w' := by
  go_enter Try.func6, Try.ntmps6
  go_wp2_with (first | (go_at_call 9; first | (with_reducible refine (c1 _).mono ?_; rintro e w_c1 ⟨rfl, b_c1⟩; have z_c1 := b_c1.size; (try simp only [World.size_alloc, World.size_setCell, World.size_drew, size_drewN] at z_c1); (try (have q1_c1_0 : w.heap.size < w_c1.heap.size := (by omega); have q2_c1_0 := Nat.le_of_lt q1_c1_0; have q3_c1_0 := Nat.ne_of_lt q1_c1_0; have q6_c1_0 := Nat.ne_of_gt q1_c1_0; have q4_c1_0_0 := (bcell b_c1).1 (w.heap.size) 0 (by first | omega | (simp only [World.size_alloc, World.size_setCell, World.size_drew, size_drewN]; omega)); have q5_c1_0_0 := (bcell b_c1).2 (w.heap.size) 0 (by first | omega | (simp only [World.size_alloc, World.size_setCell, World.size_drew, size_drewN]; omega)); have q4_c1_0_1 := (bcell b_c1).1 (w.heap.size) 1 (by first | omega | (simp only [World.size_alloc, World.size_setCell, World.size_drew, size_drewN]; omega)); have q5_c1_0_1 := (bcell b_c1).2 (w.heap.size) 1 (by first | omega | (simp only [World.size_alloc, World.size_setCell, World.size_drew, size_drewN]; omega)); have q4_c1_0_2 := (bcell b_c1).1 (w.heap.size) 2 (by first | omega | (simp only [World.size_alloc, World.size_setCell, World.size_drew, size_drewN]; omega)); have q5_c1_0_2 := (bcell b_c1).2 (w.heap.size) 2 (by first | omega | (simp only [World.size_alloc, World.size_setCell, World.size_drew, size_drewN]; omega)))))))
  go_ret2
  exact ⟨rfl, by (repeat' (first | (with_reducible exact Below.refl _ _) | (with_reducible assumption) | (with_reducible refine Below.alloc ?_ ?_ _) | (with_reducible refine Below.drew ?_) | (with_reducible refine below_drewN ?_ _) | (with_reducible refine Below.setCell ?_ ?_ _) | (with_reducible refine below_via (by with_reducible assumption) ?_ ?_) | omega | (simp only [World.size_alloc, World.size_setCell, World.size_drew, size_drewN]; omega) | (simp only [World.size_alloc, World.size_setCell, World.size_drew, size_drewN] at *; omega)))⟩
theorem cwriteW {a : Ob.Cp} (ha : Ob.onC a) (w : World) :
    Calls Try.prog 6 #[ptV a] w fun e w' => ∃ g cap, e = .returned (.tuple #[.slice (some ⟨g, 0, none⟩) (plen a) cap, .nilIface]) ∧ w.heap.size ≤ g ∧ plen a ≤ cap ∧ Bys w' g 0 (plen a) (pby a) ∧ (∀ o, w'.frozen? ⟨g, o, none⟩ = false) ∧ Below w.heap.size w w' := by
  have c1 := cisW (ptI a) (ptX a) (ptY a) (ptX_word a) (ptY_word a)
  rw [isPt_of ha] at c1
  cases a with
  | none => exact cwrite_inf w c1
  | some a => exact cwrite_some a.1 a.2 w c1
theorem cwriteW_no {i : Bool} {x y : Nat} (hx : x < 18446744073709551616) (hy : y < 18446744073709551616) (h : isPt i x y = false) (w : World) :
    Calls Try.prog 6 #[.agg #[.bool i, .int .u64 x, .int .u64 y]] w fun e w' => e = .returned (.tuple #[.slice none 0 0, .iface 40 (.int .i64 1)]) ∧ Below w.heap.size w w' := by
  have c1 := cisW i x y hx hy
  rw [h] at c1
  exact cwrite_no i x y w c1

/-! The document's own -/

set_option maxHeartbeats 1000000 in
theorem rbytes_inf (w : World) :
    Calls Try.prog 7 #[.agg #[.bool true, .int .u64 0, .int .u64 0]] w fun e w' => ∃ g cap, e = .returned (.slice (some ⟨g, 0, none⟩) 1 cap) ∧ w.heap.size ≤ g ∧ Bys w' g 0 1 (pby none) ∧ Below w.heap.size w w' := by
  go_enter Try.func7, Try.ntmps7
  go_wp2
  go_ret -- @HERE@
  have hown := World.ownsRow_lit (base := w.heap.size) (e := 5) (size := 1) (w.alloc (.cells #[.bool true, .int .u64 0, .int .u64 0] 24)) #[.int .u8 0] 1 (by simp) (by decide) rfl
  simp only [World.size_alloc] at hown
  exact ⟨_, _, rfl, by omega, bys_of_row (z := pby none) hown, by (repeat' (first | (with_reducible exact Below.refl _ _) | (with_reducible assumption) | (with_reducible refine Below.alloc ?_ ?_ _) | (with_reducible refine Below.drew ?_) | (with_reducible refine below_drewN ?_ _) | (with_reducible refine Below.setCell ?_ ?_ _) | (with_reducible refine below_via (by with_reducible assumption) ?_ ?_) | omega | (simp only [World.size_alloc, World.size_setCell, World.size_drew, size_drewN]; omega) | (simp only [World.size_alloc, World.size_setCell, World.size_drew, size_drewN] at *; omega)))⟩

theorem pby_vals9 (x y : Nat) : Value.int .u8 (1 : Nat) :: vals (Ob.byteAt x) 8 ++ vals (Ob.byteAt y) 8 = Value.int .u8 (1 : Nat) :: vals (byteOf (pair x y)) 16 := by
  rw [show (16 : Nat) = 8 + 8 from rfl, ← vals_add, List.cons_append]
  congr 2

set_option maxHeartbeats 2000000 in
theorem rbytes_some (x y : Fin Ob.P) (w : World) :
    Calls Try.prog 7 #[.agg #[.bool false, .int .u64 (x.val : Nat), .int .u64 (y.val : Nat)]] w fun e w' => ∃ g cap, e = .returned (.slice (some ⟨g, 0, none⟩) 17 cap) ∧ w.heap.size ≤ g ∧ Bys w' g 0 17 (pby (some (x, y))) ∧ Below w.heap.size w w' := by
  obtain ⟨i0, hi, hz1, hz2, hz0⟩ := byteInfo
  have hv := pby_vals x y
  rw [← pby_vals9] at hv
  have rb0 := rbytesW x.val (Ob.F_word _)
  have rb1 := rbytesW y.val (Ob.F_word _)
  generalize pby (some (x, y)) = pz at hv ⊢
  generalize x.val = x at *
  generalize y.val = y at *
  go_enter Try.func7, Try.ntmps7
  go_upto_region 3 with fail
  obtain ⟨W, hW⟩ : ∃ W, W = w.alloc (.cells #[.bool false, .int .u64 x, .int .u64 y] 24) := ⟨_, rfl⟩
  have tx : Three W w.heap.size (.bool false) (.int .u64 x) (.int .u64 y) := by rw [hW]; exact Three.new rfl
  have hB : Below w.heap.size w W := by rw [hW]; (repeat' (first | (with_reducible exact Below.refl _ _) | (with_reducible assumption) | (with_reducible refine Below.alloc ?_ ?_ _) | (with_reducible refine Below.drew ?_) | (with_reducible refine below_drewN ?_ _) | (with_reducible refine Below.setCell ?_ ?_ _) | (with_reducible refine below_via (by with_reducible assumption) ?_ ?_) | omega | (simp only [World.size_alloc, World.size_setCell, World.size_drew, size_drewN]; omega) | (simp only [World.size_alloc, World.size_setCell, World.size_drew, size_drewN] at *; omega)))
  rw [← hW]
  clear hW
  have ⟨d1, d2, d3, d4, d5, d6, d7⟩ := tx
  have hown0 := World.ownsRow_lit (base := W.heap.size) (e := 5) (size := 1) W #[.int .u8 1] 1 (Nat.le_refl _) (by decide) rfl
  go_upto_region 4 with (first | (go_at_call 15; (with_reducible refine Calls.mono (rb0 _) ?_); rintro e w2 ⟨rfl, hy2, hB2⟩; have hownA := own_below hown0 hB2 (fun k h => (by cases h; show W.heap.size < _; simp only [World.size_alloc]; omega)); simp only [World.size_alloc] at hy2 hB2) | (at_builtin; refine wpList_append_lies _ rfl _ _ 25 rfl W.heap.size 5 i0 _ 1 1 Try.underlying25 hi hz0 hz1 hz2 rfl (by decide) _ 1 _ rfl hownA ⟨W.heap.size + 1, 0, none⟩ 8 8 (vals (Ob.byteAt x) 8) rfl (by simp [vals]) (bys_news hy2) (vals_one _ _) (by decide) (by decide) (by decide) (by have := hB2.size; simp only [World.size_alloc] at this; omega) w2.heap.size rfl ?_; intro g ocap w3 hown3 hgrow hat hlt))
  have hown4 : w3.ownsRow W.heap.size 5 1 (.slice (some ⟨g, 0, none⟩) 9 ocap) 9 (Value.int .u8 (1 : Nat) :: vals (Ob.byteAt x) 8) := hown3
  have hz2' := hB2.size
  simp only [World.size_alloc] at hz2'
  have hB3 : Below W.heap.size W w2 := by (repeat' (first | (with_reducible exact Below.refl _ _) | (with_reducible assumption) | (with_reducible refine Below.alloc ?_ ?_ _) | (with_reducible refine Below.drew ?_) | (with_reducible refine below_drewN ?_ _) | (with_reducible refine Below.setCell ?_ ?_ _) | (with_reducible refine below_via (by with_reducible assumption) ?_ ?_) | omega | (simp only [World.size_alloc, World.size_setCell, World.size_drew, size_drewN]; omega) | (simp only [World.size_alloc, World.size_setCell, World.size_drew, size_drewN] at *; omega)))
  have hB4 : Below W.heap.size W w3 := hB3.grown hgrow (by omega) (fun k h => by cases h; exact Nat.le_refl _)
  have tx3 : Three w3 w.heap.size (.bool false) (.int .u64 x) (.int .u64 y) := tx.below hB4 d7
  have hBw : Below w.heap.size w w3 := hB.trans (hB4.mono hB.size)
  have hbase := hB4.size
  have hle := hB.size
  clear hown0 hownA hown3 hgrow hat hy2 hB2 hB3 hB4 hB tx d1 d2 d3 d4 d5 d6 hz2' rb0
  generalize W.heap.size = BW at *
  have ⟨d1, d2, d3, d4, d5, d6, d8⟩ := tx3
  go_wp2_with (first | (go_at_call 15; (with_reducible refine Calls.mono (rb1 _) ?_); rintro e w4 ⟨rfl, hy4, hB4⟩; have hownB := own_below hown4 hB4 (fun k h => (by cases h; exact hlt))) | (at_builtin; refine wpList_append_lies _ rfl _ _ 25 rfl BW 5 i0 _ 1 1 Try.underlying25 hi hz0 hz1 hz2 rfl (by decide) _ 9 _ rfl hownB ⟨w3.heap.size, 0, none⟩ 8 8 (vals (Ob.byteAt y) 8) rfl (by simp [vals]) (bys_news hy4) (vals_one _ _) (by decide) (by decide) (by decide) (by have := hB4.size; omega) w4.heap.size rfl ?_; intro g' ocap' w5 hown5 hgrow hat hlt'))
  go_ret -- @HERE@
  have hown6 : w5.ownsRow BW 5 1 (.slice (some ⟨g', 0, none⟩) 17 ocap') 17 (vals pz 17) := by rw [← hv]; exact hown5
  have hg := (hown4.lt g rfl).1
  have hz4 := hB4.size
  have hB5 : Below BW w3 w5 := (hB4.mono hbase).grown hgrow (by omega) (fun k h => by cases h; exact hg)
  exact ⟨g', ocap', rfl, Nat.le_trans hle (hown6.lt g' rfl).1, bys_of_row hown6, hBw.trans (hB5.mono hle)⟩
theorem rptbytesW (a : Ob.Cp) (w : World) :
    Calls Try.prog 7 #[ptV a] w fun e w' => ∃ g cap, e = .returned (.slice (some ⟨g, 0, none⟩) (plen a) cap) ∧ w.heap.size ≤ g ∧ Bys w' g 0 (plen a) (pby a) ∧ Below w.heap.size w w' := by
  cases a with
  | none => exact rbytes_inf w
  | some a => exact rbytes_some a.1 a.2 w
end Go.Proofs.Ytcgbemnmebgmjab
