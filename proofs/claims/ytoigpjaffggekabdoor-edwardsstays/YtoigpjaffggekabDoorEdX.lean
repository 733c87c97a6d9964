/-
  The walks of package edwards: sums, opposites, multiples, points of order S.
-/
import Derived.Test.YtoigpjaffggekabDoorEdW
import Derived.Test.YtoigpjaffggekabDoorEd5
namespace Go.Proofs.YtoigpjaffggekabDoor
open Go.RowKit Go.Proofs
set_option linter.unusedVariables false
set_option linter.unusedSimpArgs false
attribute [local go_sem ↓] Go.wp_at_zero Go.wp_at_succ

theorem edV_yes {x y : Nat} (h : Ob.isG x y = true) : Value.agg #[.int .u64 (x : Nat), .int .u64 (y : Nat)] = edV (Ob.ofG x y) := by
  obtain ⟨h1, h2⟩ := Ob.ofG_yes h
  unfold edV
  rw [← h1, ← h2]

set_option maxHeartbeats 2000000 in
theorem eadd_core (x1 y1 x2 y2 u1 v1 t1 u2 v2 t2 u v t x y : Int) (w : World)
   (c0 : ∀ w, Calls Tryd.prog 19 #[.agg #[.int .u64 x1, .int .u64 y1]] w fun e w' => e = .returned (.agg #[.int .u64 u1, .int .u64 v1, .int .u64 t1]) ∧ Below w.heap.size w w')
   (c1 : ∀ w, Calls Tryd.prog 19 #[.agg #[.int .u64 x2, .int .u64 y2]] w fun e w' => e = .returned (.agg #[.int .u64 u2, .int .u64 v2, .int .u64 t2]) ∧ Below w.heap.size w w')
   (c2 : ∀ w, Calls Tryd.prog 18 #[.agg #[.int .u64 u1, .int .u64 v1, .int .u64 t1], .agg #[.int .u64 u2, .int .u64 v2, .int .u64 t2]] w fun e w' => e = .returned (.agg #[.int .u64 u, .int .u64 v, .int .u64 t]) ∧ Below w.heap.size w w')
   (c3 : ∀ w, Calls Tryd.prog 17 #[.agg #[.int .u64 u, .int .u64 v, .int .u64 t]] w fun e w' => e = .returned (.agg #[.int .u64 x, .int .u64 y]) ∧ Below w.heap.size w w') :
    Calls Tryd.prog 6 #[.agg #[.int .u64 x1, .int .u64 y1], .agg #[.int .u64 x2, .int .u64 y2]] w fun e w' => e = .returned (.agg #[.int .u64 x, .int .u64 y]) ∧ Below w.heap.size w w' := by
  have n1 : ¬ (w.heap.size = w.heap.size + 1 + 1) := by omega
  have n2 : ¬ (w.heap.size + 1 + 1 = w.heap.size) := by omega
  go_enter Tryd.func6, Tryd.ntmps6
  go_wp2
  go_region_held3 (fun w' => w'.cell? ⟨w.heap.size, 0, none⟩ = some (.int .u64 x1) ∧ w'.cell? ⟨w.heap.size, 1, none⟩ = some (.int .u64 y1) ∧ w'.cell? ⟨w.heap.size + 1, 0, none⟩ = some (.int .u64 x2) ∧ w'.cell? ⟨w.heap.size + 1, 1, none⟩ = some (.int .u64 y2)) (go_keep)
    ((first | (go_at_call 19; first | (with_reducible refine (c0 _).mono ?_; rintro e w_c0 ⟨rfl, b_c0⟩; have z_c0 := b_c0.size; (try simp only [szs] at z_c0); (try (have q_c0_0 := own2 b_c0 (w.heap.size) (by first | omega | (simp only [szs]; omega)))); (try (have q_c0_1 := own2 b_c0 (w.heap.size + 1) (by first | omega | (simp only [szs]; omega)))); (try (have q_c0_2 := own2 b_c0 (w.heap.size + 1 + 1) (by first | omega | (simp only [szs]; omega))))) | (with_reducible refine (c1 _).mono ?_; rintro e w_c1 ⟨rfl, b_c1⟩; have z_c1 := b_c1.size; (try simp only [szs] at z_c1); (try (have q_c1_0 := own2 b_c1 (w.heap.size) (by first | omega | (simp only [szs]; omega)))); (try (have q_c1_1 := own2 b_c1 (w.heap.size + 1) (by first | omega | (simp only [szs]; omega)))); (try (have q_c1_2 := own2 b_c1 (w.heap.size + 1 + 1) (by first | omega | (simp only [szs]; omega)))))) | (go_at_call 18; first | (with_reducible refine (c2 _).mono ?_; rintro e w_c2 ⟨rfl, b_c2⟩; have z_c2 := b_c2.size; (try simp only [szs] at z_c2); (try (have q_c2_0 := own2 b_c2 (w.heap.size) (by first | omega | (simp only [szs]; omega)))); (try (have q_c2_1 := own2 b_c2 (w.heap.size + 1) (by first | omega | (simp only [szs]; omega)))); (try (have q_c2_2 := own2 b_c2 (w.heap.size + 1 + 1) (by first | omega | (simp only [szs]; omega)))))) | (go_at_call 17; first | (with_reducible refine (c3 _).mono ?_; rintro e w_c3 ⟨rfl, b_c3⟩; have z_c3 := b_c3.size; (try simp only [szs] at z_c3); (try (have q_c3_0 := own2 b_c3 (w.heap.size) (by first | omega | (simp only [szs]; omega)))); (try (have q_c3_1 := own2 b_c3 (w.heap.size + 1) (by first | omega | (simp only [szs]; omega)))); (try (have q_c3_2 := own2 b_c3 (w.heap.size + 1 + 1) (by first | omega | (simp only [szs]; omega))))))))
  go_wp2
  exact bodyPost_ret (v := .agg #[.int .u64 x, .int .u64 y]) (by simp [results, Tryd.results6, go_sem, *]) rfl ⟨rfl, by (repeat' (first | (with_reducible first | exact Below.refl _ _ | assumption | refine Below.alloc ?_ ?_ _ | refine Below.drew ?_ | refine below_drewN ?_ _ | refine Below.setCell ?_ ?_ _ | refine below_via (by with_reducible assumption) ?_ ?_) | omega | (simp only [szs]; omega) | (simp only [szs] at *; omega)))⟩
theorem eaddW (x1 y1 x2 y2 : Nat) (hx1 : x1 < 18446744073709551616) (hy1 : y1 < 18446744073709551616) (hx2 : x2 < 18446744073709551616) (hy2 : y2 < 18446744073709551616) (w : World) :
    Calls Tryd.prog 6 #[.agg #[.int .u64 x1, .int .u64 y1], .agg #[.int .u64 x2, .int .u64 y2]] w fun e w' => e = .returned (edV (Ob.gadd (Ob.ofG x1 y1) (Ob.ofG x2 y2))) ∧ Below w.heap.size w w' :=
  eadd_core x1 y1 x2 y2 _ _ _ _ _ _ _ _ _ _ _ w (ewidenW x1 y1 hx1 hy1) (ewidenW x2 y2 hx2 hy2) (esumW _ _) (enarrowW ((Ob.Wide.of _).sum (Ob.Wide.of _) (Ob.ofG_on _ _) (Ob.ofG_on _ _)))

set_option maxHeartbeats 1000000 in
theorem eneg_yes (x y r : Int) (w : World)
   (c0 : ∀ w, Calls Tryd.prog 15 #[.agg #[.int .u64 x, .int .u64 y]] w fun e w' => e = .returned (.bool true) ∧ Below w.heap.size w w')
   (c1 : ∀ w, Calls Tryd.prog 28 #[.int .u64 0, .int .u64 x] w fun e w' => e = .returned (.int .u64 r) ∧ w = w') :
    Calls Tryd.prog 16 #[.agg #[.int .u64 x, .int .u64 y]] w fun e w' => e = .returned (.agg #[.int .u64 r, .int .u64 y]) ∧ Below w.heap.size w w' := by
  go_enter Tryd.func16, Tryd.ntmps16
  go_wp2_with (first | (go_at_call 15; first | (with_reducible refine (c0 _).mono ?_; rintro e w_c0 ⟨rfl, b_c0⟩; have z_c0 := b_c0.size; (try simp only [szs] at z_c0); (try (have q_c0_0 := own2 b_c0 (w.heap.size) (by first | omega | (simp only [szs]; omega)))); (try (have q_c0_1 := own2 b_c0 (w.heap.size + 1) (by first | omega | (simp only [szs]; omega)))))))
  go_region_held3 (fun w' => w'.cell? ⟨w.heap.size, 0, none⟩ = some (.int .u64 x) ∧ w'.cell? ⟨w.heap.size, 1, none⟩ = some (.int .u64 y)) (go_keep)
    ((first | (go_at_call 28; first | (with_reducible refine (c1 _).mono ?_; rintro e w' ⟨rfl, rfl⟩))))
  go_wp2
  exact bodyPost_ret (v := .agg #[.int .u64 r, .int .u64 y]) (by simp [results, Tryd.results16, go_sem, *]) rfl ⟨rfl, by (repeat' (first | (with_reducible first | exact Below.refl _ _ | assumption | refine Below.alloc ?_ ?_ _ | refine Below.drew ?_ | refine below_drewN ?_ _ | refine Below.setCell ?_ ?_ _ | refine below_via (by with_reducible assumption) ?_ ?_) | omega | (simp only [szs]; omega) | (simp only [szs] at *; omega)))⟩
set_option maxHeartbeats 1000000 in
theorem eneg_no (x y : Int) (w : World)
   (c0 : ∀ w, Calls Tryd.prog 15 #[.agg #[.int .u64 x, .int .u64 y]] w fun e w' => e = .returned (.bool false) ∧ Below w.heap.size w w')
   (c1 : ∀ w, Calls Tryd.prog 20 #[] w fun e w' => e = .returned (.agg #[.int .u64 0, .int .u64 1]) ∧ Below w.heap.size w w') :
    Calls Tryd.prog 16 #[.agg #[.int .u64 x, .int .u64 y]] w fun e w' => e = .returned (.agg #[.int .u64 0, .int .u64 1]) ∧ Below w.heap.size w w' := by
  go_enter Tryd.func16, Tryd.ntmps16
  go_wp2_with (first | (go_at_call 15; first | (with_reducible refine (c0 _).mono ?_; rintro e w_c0 ⟨rfl, b_c0⟩; have z_c0 := b_c0.size; (try simp only [szs] at z_c0); (try (have q_c0_0 := own2 b_c0 (w.heap.size) (by first | omega | (simp only [szs]; omega)))); (try (have q_c0_1 := own2 b_c0 (w.heap.size + 1) (by first | omega | (simp only [szs]; omega)))))) | (go_at_call 20; first | (with_reducible refine (c1 _).mono ?_; rintro e w_c1 ⟨rfl, b_c1⟩; have z_c1 := b_c1.size; (try simp only [szs] at z_c1); (try (have q_c1_0 := own2 b_c1 (w.heap.size) (by first | omega | (simp only [szs]; omega)))); (try (have q_c1_1 := own2 b_c1 (w.heap.size + 1) (by first | omega | (simp only [szs]; omega)))))))
  exact bodyPost_ret (v := .agg #[.int .u64 0, .int .u64 1]) (by simp [results, Tryd.results16, go_sem, *]) rfl ⟨rfl, by (repeat' (first | (with_reducible first | exact Below.refl _ _ | assumption | refine Below.alloc ?_ ?_ _ | refine Below.drew ?_ | refine below_drewN ?_ _ | refine Below.setCell ?_ ?_ _ | refine below_via (by with_reducible assumption) ?_ ?_) | omega | (simp only [szs]; omega) | (simp only [szs] at *; omega)))⟩
theorem enegW (x y : Nat) (hx : x < 18446744073709551616) (hy : y < 18446744073709551616) (w : World) :
    Calls Tryd.prog 16 #[.agg #[.int .u64 x, .int .u64 y]] w fun e w' => e = .returned (edV (Ob.gneg (Ob.ofG x y))) ∧ Below w.heap.size w w' := by
  have c0 := eisW x y hx hy
  cases h : Ob.isG x y with
  | true =>
    rw [h] at c0
    have c1 := eminusW 0 x (by decide) hx
    obtain ⟨h1, h2⟩ := Ob.ofG_yes h
    have e1 : Ob.toG 0 - Ob.toG x = 0 - (Ob.ofG x y).1 := by
      rw [show Ob.toG 0 = 0 from rfl, Ob.ofG, if_pos h]
    rw [e1] at c1
    have := eneg_yes x y _ w c0 c1
    unfold edV Ob.gneg
    simp only
    rw [← h2]
    exact this
  | false =>
    rw [h] at c0
    rw [Ob.ofG_no h]
    exact eneg_no x y w c0 ezeroW

end Go.Proofs.YtoigpjaffggekabDoor
