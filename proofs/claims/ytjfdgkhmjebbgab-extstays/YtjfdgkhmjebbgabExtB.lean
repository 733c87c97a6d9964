/-
  The walks of package ext's bytes.
-/
import Derived.Test.YtjfdgkhmjebbgabExtX
import Derived.Test.YtjfdgkhmjebbgabWordsW
namespace Go.Proofs.Ytjfdgkhmjebbgab
open Go.RowKit Go.Proofs
set_option linter.unusedVariables false
set_option linter.unusedSimpArgs false
attribute [local go_sem ↓] Go.wp_at_zero Go.wp_at_succ

/-- Two numbers, one behind the other. -/
def pair (x y : Nat) (i : Nat) : Nat := if i = 0 then x else y
theorem pair_lt (x y : Nat) (hx : x < 18446744073709551616) (hy : y < 18446744073709551616) (i : Nat) : pair x y i < 18446744073709551616 := by unfold pair; split <;> assumption
theorem pair_cells (W : World) (x y : Nat) (t : TypeId) : ∀ i, i < 2 → (W.alloc (.cells #[.int .u64 x, .int .u64 y] t)).cell? ⟨W.heap.size, 0 + i, none⟩ = some (.int .u64 (pair x y i : Nat)) := by
  intro i hi
  rw [Nat.zero_add, World.cell?_alloc_new]
  have h : i = 0 ∨ i = 1 := by omega
  rcases h with rfl | rfl <;> rfl

set_option maxHeartbeats 1000000 in
theorem writeW_yes (a0 a1 : Nat) (h0 : a0 < Ob.P) (h1 : a1 < Ob.P) (w : World) :
    Calls Try.prog 6 #[.agg #[.int .u64 a0, .int .u64 a1]] w fun e w' => ∃ g, e = .returned (.tuple #[.slice (some ⟨g, 0, none⟩) 16 16, .nilIface]) ∧ w.heap.size ≤ g ∧ Bys w' g 0 16 (byteOf (pair a0 a1)) ∧ (∀ o, w'.frozen? ⟨g, o, none⟩ = false) ∧ Below w.heap.size w w' := by
  have hp := pair_lt a0 a1 (Nat.lt_trans h0 (by decide)) (Nat.lt_trans h1 (by decide))
  have c1 := fun w => isReduced_yes a0 a1 w h0 h1
  clear h0 h1
  go_enter Try.func6, Try.ntmps6
  go_wp2_with (first | (first | (go_at_call 12; first | (with_reducible refine (c1 _).mono ?_; rintro e w_c1 ⟨rfl, b_c1⟩; have z_c1 := b_c1.size; (try simp only [World.size_alloc, World.size_setCell, World.size_drew, size_drewN] at z_c1); (try (have q1_c1_0 : w.heap.size < w_c1.heap.size := (by omega); have q2_c1_0 := Nat.le_of_lt q1_c1_0; have q3_c1_0 := Nat.ne_of_lt q1_c1_0; have q6_c1_0 := Nat.ne_of_gt q1_c1_0; have q4_c1_0_0 := (bcell b_c1).1 (w.heap.size) 0 (by first | omega | (simp only [World.size_alloc, World.size_setCell, World.size_drew, size_drewN]; omega)); have q5_c1_0_0 := (bcell b_c1).2 (w.heap.size) 0 (by first | omega | (simp only [World.size_alloc, World.size_setCell, World.size_drew, size_drewN]; omega)); have q4_c1_0_1 := (bcell b_c1).1 (w.heap.size) 1 (by first | omega | (simp only [World.size_alloc, World.size_setCell, World.size_drew, size_drewN]; omega)); have q5_c1_0_1 := (bcell b_c1).2 (w.heap.size) 1 (by first | omega | (simp only [World.size_alloc, World.size_setCell, World.size_drew, size_drewN]; omega))))))) | (go_at_call 13; refine (bytesW _ 0 2 2 (pair a0 a1) hp _ (by decide) (pair_cells _ _ _ _) (by simp)).mono ?_; rintro e w2 ⟨rfl, hown, hB⟩))
  go_ret2
  simp only [World.size_alloc] at hown
  refine ⟨_, rfl, ?_, bys_of_row hown, free_of_row hown, ?_⟩
  · simp only [World.size_alloc] at *; omega
  · (repeat' (first | (with_reducible exact Below.refl _ _) | (with_reducible assumption) | (with_reducible refine Below.alloc ?_ ?_ _) | (with_reducible refine Below.drew ?_) | (with_reducible refine below_drewN ?_ _) | (with_reducible refine Below.setCell ?_ ?_ _) | (with_reducible refine below_via (by with_reducible assumption) ?_ ?_) | omega | (simp only [World.size_alloc, World.size_setCell, World.size_drew, size_drewN]; omega) | (simp only [World.size_alloc, World.size_setCell, World.size_drew, size_drewN] at *; omega)))

set_option maxHeartbeats 1000000 in
theorem writeW_no (a0 a1 : Nat) (h : ¬ (a0 < Ob.P ∧ a1 < Ob.P)) (w : World) :
    Calls Try.prog 6 #[.agg #[.int .u64 a0, .int .u64 a1]] w fun e w' => e = .returned (.tuple #[.slice none 0 0, .iface 38 (.int .i64 1)]) ∧ Below w.heap.size w w' := by
  have c1 := fun w => isReduced_no a0 a1 w h
  clear h
  go_enter Try.func6, Try.ntmps6
  go_wp2_with (first | (go_at_call 12; first | (with_reducible refine (c1 _).mono ?_; rintro e w_c1 ⟨rfl, b_c1⟩; have z_c1 := b_c1.size; (try simp only [World.size_alloc, World.size_setCell, World.size_drew, size_drewN] at z_c1); (try (have q1_c1_0 : w.heap.size < w_c1.heap.size := (by omega); have q2_c1_0 := Nat.le_of_lt q1_c1_0; have q3_c1_0 := Nat.ne_of_lt q1_c1_0; have q6_c1_0 := Nat.ne_of_gt q1_c1_0; have q4_c1_0_0 := (bcell b_c1).1 (w.heap.size) 0 (by first | omega | (simp only [World.size_alloc, World.size_setCell, World.size_drew, size_drewN]; omega)); have q5_c1_0_0 := (bcell b_c1).2 (w.heap.size) 0 (by first | omega | (simp only [World.size_alloc, World.size_setCell, World.size_drew, size_drewN]; omega)); have q4_c1_0_1 := (bcell b_c1).1 (w.heap.size) 1 (by first | omega | (simp only [World.size_alloc, World.size_setCell, World.size_drew, size_drewN]; omega)); have q5_c1_0_1 := (bcell b_c1).2 (w.heap.size) 1 (by first | omega | (simp only [World.size_alloc, World.size_setCell, World.size_drew, size_drewN]; omega)))))))
  go_ret2
  exact ⟨rfl, by (repeat' (first | (with_reducible exact Below.refl _ _) | (with_reducible assumption) | (with_reducible refine Below.alloc ?_ ?_ _) | (with_reducible refine Below.drew ?_) | (with_reducible refine below_drewN ?_ _) | (with_reducible refine Below.setCell ?_ ?_ _) | (with_reducible refine below_via (by with_reducible assumption) ?_ ?_) | omega | (simp only [World.size_alloc, World.size_setCell, World.size_drew, size_drewN]; omega) | (simp only [World.size_alloc, World.size_setCell, World.size_drew, size_drewN] at *; omega)))⟩

set_option maxHeartbeats 1000000 in
theorem readW_len (a : Option Addr) (len cap : Nat) (hl : len ≠ 16) (w : World) :
    Calls Try.prog 5 #[.slice a len cap] w fun e w' => e = .returned (.tuple #[.agg #[.int .u64 0, .int .u64 0], .iface 38 (.int .i64 3)]) ∧ Below w.heap.size w w' := by
  have h1 : ((len : Int) != 16) = true := by simp; omega
  clear hl
  go_enter Try.func5, Try.ntmps5
  go_wp2
  exact bodyPost_ret (v := .tuple #[.agg #[.int .u64 0, .int .u64 0], .iface 38 (.int .i64 3)]) (by simp [results, Try.results5, go_sem]) rfl ⟨rfl, by (repeat' (first | (with_reducible exact Below.refl _ _) | (with_reducible assumption) | (with_reducible refine Below.alloc ?_ ?_ _) | (with_reducible refine Below.drew ?_) | (with_reducible refine below_drewN ?_ _) | (with_reducible refine Below.setCell ?_ ?_ _) | (with_reducible refine below_via (by with_reducible assumption) ?_ ?_) | omega | (simp only [World.size_alloc, World.size_setCell, World.size_drew, size_drewN]; omega) | (simp only [World.size_alloc, World.size_setCell, World.size_drew, size_drewN] at *; omega)))⟩


set_option maxHeartbeats 2000000 in
theorem readW_good (b off cap : Nat) (n0 n1 : Nat) (w : World) (hcap : 16 ≤ cap)
    (c1 : ∀ w1, Below w.heap.size w w1 → Calls Try.prog 11 #[.slice (some ⟨b, off, none⟩) 8 cap] w1 fun e w' => e = .returned (.int .u64 n0) ∧ w1 = w')
    (c2 : ∀ w1, Below w.heap.size w w1 → Calls Try.prog 11 #[.slice (some ⟨b, off + 8, none⟩) 8 (cap - 8)] w1 fun e w' => e = .returned (.int .u64 n1) ∧ w1 = w')
    (c3 : ∀ w, Calls Try.prog 12 #[.agg #[.int .u64 n0, .int .u64 n1]] w fun e w' => e = .returned (.bool true) ∧ Below w.heap.size w w') :
    Calls Try.prog 5 #[.slice (some ⟨b, off, none⟩) 16 cap] w fun e w' => e = .returned (.tuple #[.agg #[.int .u64 n0, .int .u64 n1], .nilIface]) ∧ Below w.heap.size w w' := by
  have i1 : (16 : Int) ≤ (cap : Int) := by omega
  have i2 : (8 : Int) ≤ (cap : Int) := by omega
  go_enter Try.func5, Try.ntmps5
  go_wp2
  go_region_held3 (fun w' => Below w.heap.size w w') ((repeat' (first | (with_reducible exact Below.refl _ _) | (with_reducible assumption) | (with_reducible refine Below.alloc ?_ ?_ _) | (with_reducible refine Below.drew ?_) | (with_reducible refine below_drewN ?_ _) | (with_reducible refine Below.setCell ?_ ?_ _) | (with_reducible refine below_via (by with_reducible assumption) ?_ ?_) | omega | (simp only [World.size_alloc, World.size_setCell, World.size_drew, size_drewN]; omega) | (simp only [World.size_alloc, World.size_setCell, World.size_drew, size_drewN] at *; omega))))
    ((go_at_call 11; first | (with_reducible refine (c1 _ (by first | assumption | (repeat' (first | (with_reducible exact Below.refl _ _) | (with_reducible assumption) | (with_reducible refine Below.alloc ?_ ?_ _) | (with_reducible refine Below.drew ?_) | (with_reducible refine below_drewN ?_ _) | (with_reducible refine Below.setCell ?_ ?_ _) | (with_reducible refine below_via (by with_reducible assumption) ?_ ?_) | omega | (simp only [World.size_alloc, World.size_setCell, World.size_drew, size_drewN]; omega) | (simp only [World.size_alloc, World.size_setCell, World.size_drew, size_drewN] at *; omega))))).mono ?_; rintro e w' ⟨rfl, rfl⟩) | (with_reducible refine (c2 _ (by first | assumption | (repeat' (first | (with_reducible exact Below.refl _ _) | (with_reducible assumption) | (with_reducible refine Below.alloc ?_ ?_ _) | (with_reducible refine Below.drew ?_) | (with_reducible refine below_drewN ?_ _) | (with_reducible refine Below.setCell ?_ ?_ _) | (with_reducible refine below_via (by with_reducible assumption) ?_ ?_) | omega | (simp only [World.size_alloc, World.size_setCell, World.size_drew, size_drewN]; omega) | (simp only [World.size_alloc, World.size_setCell, World.size_drew, size_drewN] at *; omega))))).mono ?_; rintro e w' ⟨rfl, rfl⟩)))
  all_goals
    clear c1 c2
    go_wp2_with (first | (go_at_call 12; first | (with_reducible refine (c3 _).mono ?_; rintro e w_c3 ⟨rfl, b_c3⟩; have z_c3 := b_c3.size; (try simp only [World.size_alloc, World.size_setCell, World.size_drew, size_drewN] at z_c3); (try (have q1_c3_0 : w.heap.size < w_c3.heap.size := (by omega); have q2_c3_0 := Nat.le_of_lt q1_c3_0; have q3_c3_0 := Nat.ne_of_lt q1_c3_0; have q6_c3_0 := Nat.ne_of_gt q1_c3_0; have q4_c3_0_0 := (bcell b_c3).1 (w.heap.size) 0 (by first | omega | (simp only [World.size_alloc, World.size_setCell, World.size_drew, size_drewN]; omega)); have q5_c3_0_0 := (bcell b_c3).2 (w.heap.size) 0 (by first | omega | (simp only [World.size_alloc, World.size_setCell, World.size_drew, size_drewN]; omega)); have q4_c3_0_1 := (bcell b_c3).1 (w.heap.size) 1 (by first | omega | (simp only [World.size_alloc, World.size_setCell, World.size_drew, size_drewN]; omega)); have q5_c3_0_1 := (bcell b_c3).2 (w.heap.size) 1 (by first | omega | (simp only [World.size_alloc, World.size_setCell, World.size_drew, size_drewN]; omega)))); (try (have q1_c3_1 : w.heap.size + 1 < w_c3.heap.size := (by omega); have q2_c3_1 := Nat.le_of_lt q1_c3_1; have q3_c3_1 := Nat.ne_of_lt q1_c3_1; have q6_c3_1 := Nat.ne_of_gt q1_c3_1; have q4_c3_1_0 := (bcell b_c3).1 (w.heap.size + 1) 0 (by first | omega | (simp only [World.size_alloc, World.size_setCell, World.size_drew, size_drewN]; omega)); have q5_c3_1_0 := (bcell b_c3).2 (w.heap.size + 1) 0 (by first | omega | (simp only [World.size_alloc, World.size_setCell, World.size_drew, size_drewN]; omega)); have q4_c3_1_1 := (bcell b_c3).1 (w.heap.size + 1) 1 (by first | omega | (simp only [World.size_alloc, World.size_setCell, World.size_drew, size_drewN]; omega)); have q5_c3_1_1 := (bcell b_c3).2 (w.heap.size + 1) 1 (by first | omega | (simp only [World.size_alloc, World.size_setCell, World.size_drew, size_drewN]; omega)))))))
    exact bodyPost_ret (v := .tuple #[.agg #[.int .u64 n0, .int .u64 n1], .nilIface]) (by simp [results, Try.results5, go_sem, *]) rfl ⟨rfl, by (repeat' (first | (with_reducible exact Below.refl _ _) | (with_reducible assumption) | (with_reducible refine Below.alloc ?_ ?_ _) | (with_reducible refine Below.drew ?_) | (with_reducible refine below_drewN ?_ _) | (with_reducible refine Below.setCell ?_ ?_ _) | (with_reducible refine below_via (by with_reducible assumption) ?_ ?_) | omega | (simp only [World.size_alloc, World.size_setCell, World.size_drew, size_drewN]; omega) | (simp only [World.size_alloc, World.size_setCell, World.size_drew, size_drewN] at *; omega)))⟩

set_option maxHeartbeats 2000000 in
theorem readW_bad (b off cap : Nat) (n0 n1 : Nat) (w : World) (hcap : 16 ≤ cap)
    (c1 : ∀ w1, Below w.heap.size w w1 → Calls Try.prog 11 #[.slice (some ⟨b, off, none⟩) 8 cap] w1 fun e w' => e = .returned (.int .u64 n0) ∧ w1 = w')
    (c2 : ∀ w1, Below w.heap.size w w1 → Calls Try.prog 11 #[.slice (some ⟨b, off + 8, none⟩) 8 (cap - 8)] w1 fun e w' => e = .returned (.int .u64 n1) ∧ w1 = w')
    (c3 : ∀ w, Calls Try.prog 12 #[.agg #[.int .u64 n0, .int .u64 n1]] w fun e w' => e = .returned (.bool false) ∧ Below w.heap.size w w') :
    Calls Try.prog 5 #[.slice (some ⟨b, off, none⟩) 16 cap] w fun e w' => e = .returned (.tuple #[.agg #[.int .u64 0, .int .u64 0], .iface 38 (.int .i64 3)]) ∧ Below w.heap.size w w' := by
  have i1 : (16 : Int) ≤ (cap : Int) := by omega
  have i2 : (8 : Int) ≤ (cap : Int) := by omega
  go_enter Try.func5, Try.ntmps5
  go_wp2
  go_region_held3 (fun w' => Below w.heap.size w w') ((repeat' (first | (with_reducible exact Below.refl _ _) | (with_reducible assumption) | (with_reducible refine Below.alloc ?_ ?_ _) | (with_reducible refine Below.drew ?_) | (with_reducible refine below_drewN ?_ _) | (with_reducible refine Below.setCell ?_ ?_ _) | (with_reducible refine below_via (by with_reducible assumption) ?_ ?_) | omega | (simp only [World.size_alloc, World.size_setCell, World.size_drew, size_drewN]; omega) | (simp only [World.size_alloc, World.size_setCell, World.size_drew, size_drewN] at *; omega))))
    ((go_at_call 11; first | (with_reducible refine (c1 _ (by first | assumption | (repeat' (first | (with_reducible exact Below.refl _ _) | (with_reducible assumption) | (with_reducible refine Below.alloc ?_ ?_ _) | (with_reducible refine Below.drew ?_) | (with_reducible refine below_drewN ?_ _) | (with_reducible refine Below.setCell ?_ ?_ _) | (with_reducible refine below_via (by with_reducible assumption) ?_ ?_) | omega | (simp only [World.size_alloc, World.size_setCell, World.size_drew, size_drewN]; omega) | (simp only [World.size_alloc, World.size_setCell, World.size_drew, size_drewN] at *; omega))))).mono ?_; rintro e w' ⟨rfl, rfl⟩) | (with_reducible refine (c2 _ (by first | assumption | (repeat' (first | (with_reducible exact Below.refl _ _) | (with_reducible assumption) | (with_reducible refine Below.alloc ?_ ?_ _) | (with_reducible refine Below.drew ?_) | (with_reducible refine below_drewN ?_ _) | (with_reducible refine Below.setCell ?_ ?_ _) | (with_reducible refine below_via (by with_reducible assumption) ?_ ?_) | omega | (simp only [World.size_alloc, World.size_setCell, World.size_drew, size_drewN]; omega) | (simp only [World.size_alloc, World.size_setCell, World.size_drew, size_drewN] at *; omega))))).mono ?_; rintro e w' ⟨rfl, rfl⟩)))
  all_goals
    clear c1 c2
    go_wp2_with (first | (go_at_call 12; first | (with_reducible refine (c3 _).mono ?_; rintro e w_c3 ⟨rfl, b_c3⟩; have z_c3 := b_c3.size; (try simp only [World.size_alloc, World.size_setCell, World.size_drew, size_drewN] at z_c3); (try (have q1_c3_0 : w.heap.size < w_c3.heap.size := (by omega); have q2_c3_0 := Nat.le_of_lt q1_c3_0; have q3_c3_0 := Nat.ne_of_lt q1_c3_0; have q6_c3_0 := Nat.ne_of_gt q1_c3_0; have q4_c3_0_0 := (bcell b_c3).1 (w.heap.size) 0 (by first | omega | (simp only [World.size_alloc, World.size_setCell, World.size_drew, size_drewN]; omega)); have q5_c3_0_0 := (bcell b_c3).2 (w.heap.size) 0 (by first | omega | (simp only [World.size_alloc, World.size_setCell, World.size_drew, size_drewN]; omega)); have q4_c3_0_1 := (bcell b_c3).1 (w.heap.size) 1 (by first | omega | (simp only [World.size_alloc, World.size_setCell, World.size_drew, size_drewN]; omega)); have q5_c3_0_1 := (bcell b_c3).2 (w.heap.size) 1 (by first | omega | (simp only [World.size_alloc, World.size_setCell, World.size_drew, size_drewN]; omega)))); (try (have q1_c3_1 : w.heap.size + 1 < w_c3.heap.size := (by omega); have q2_c3_1 := Nat.le_of_lt q1_c3_1; have q3_c3_1 := Nat.ne_of_lt q1_c3_1; have q6_c3_1 := Nat.ne_of_gt q1_c3_1; have q4_c3_1_0 := (bcell b_c3).1 (w.heap.size + 1) 0 (by first | omega | (simp only [World.size_alloc, World.size_setCell, World.size_drew, size_drewN]; omega)); have q5_c3_1_0 := (bcell b_c3).2 (w.heap.size + 1) 0 (by first | omega | (simp only [World.size_alloc, World.size_setCell, World.size_drew, size_drewN]; omega)); have q4_c3_1_1 := (bcell b_c3).1 (w.heap.size + 1) 1 (by first | omega | (simp only [World.size_alloc, World.size_setCell, World.size_drew, size_drewN]; omega)); have q5_c3_1_1 := (bcell b_c3).2 (w.heap.size + 1) 1 (by first | omega | (simp only [World.size_alloc, World.size_setCell, World.size_drew, size_drewN]; omega)))))))
    exact bodyPost_ret (v := .tuple #[.agg #[.int .u64 0, .int .u64 0], .iface 38 (.int .i64 3)]) (by simp [results, Try.results5, go_sem, *]) rfl ⟨rfl, by (repeat' (first | (with_reducible exact Below.refl _ _) | (with_reducible assumption) | (with_reducible refine Below.alloc ?_ ?_ _) | (with_reducible refine Below.drew ?_) | (with_reducible refine below_drewN ?_ _) | (with_reducible refine Below.setCell ?_ ?_ _) | (with_reducible refine below_via (by with_reducible assumption) ?_ ?_) | omega | (simp only [World.size_alloc, World.size_setCell, World.size_drew, size_drewN]; omega) | (simp only [World.size_alloc, World.size_setCell, World.size_drew, size_drewN] at *; omega)))⟩

/-- Read of 16 bytes. -/
theorem readW_16 (b off cap : Nat) (z : Nat → Nat) (hz : ∀ i, z i < 256) (w : World) (hcap : 16 ≤ cap) (hB : Bys w b off 16 z) :
    Calls Try.prog 5 #[.slice (some ⟨b, off, none⟩) 16 cap] w fun e w' => e = .returned (if Ob.num z 8 < Ob.P ∧ Ob.num (fun i => z (8 + i)) 8 < Ob.P then .tuple #[.agg #[.int .u64 (Ob.num z 8 : Nat), .int .u64 (Ob.num (fun i => z (8 + i)) 8 : Nat)], .nilIface] else .tuple #[.agg #[.int .u64 0, .int .u64 0], .iface 38 (.int .i64 3)]) ∧ Below w.heap.size w w' := by
  have c1 := fun w1 (h : Below w.heap.size w w1) => numberW b off cap z hz w1 ((hB.below h hB.lt).less (by omega))
  have c2 := fun w1 (h : Below w.heap.size w w1) => numberW b (off + 8) (cap - 8) (fun i => z (8 + i)) (fun i => hz _) w1 ((hB.below h hB.lt).more 8 8 (by omega))
  split
  · rename_i h
    exact readW_good b off cap _ _ w hcap c1 c2 (fun w => isReduced_yes _ _ w h.1 h.2)
  · rename_i h
    exact readW_bad b off cap _ _ w hcap c1 c2 (fun w => isReduced_no _ _ w h)
end Go.Proofs.Ytjfdgkhmjebbgab
