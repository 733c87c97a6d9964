/-
  The head of all statements of layer 2.
-/
import Derived.Test.YtjfdgkhmjebbgabExtI
namespace Go.Proofs.Ytjfdgkhmjebbgab
open Go.RowKit Go.Proofs
set_option linter.unusedVariables false
set_option linter.unusedSimpArgs false
attribute [local go_sem ↓] Go.wp_at_zero Go.wp_at_succ

theorem equalIn_E (d : Nat) (w : World) (x y x' y' : Int) : (Op.equalIn (d + 2) 24 (.agg #[.int .u64 x, .int .u64 y]) (.agg #[.int .u64 x', .int .u64 y'])).run Try.prog w = .ok (x == x' && y == y') w := by
  have hA : ∀ w : World, (isAgg 22).run Try.prog w = .ok false w := fun w => by kernel_rfl
  have hI : ∀ (w : World) (a b : Int), (Op.equalIn (d + 1) 22 (.int .u64 a) (.int .u64 b)).run Try.prog w = .ok (a == b) w := fun w a b => run_equalIn_int w d _ _ .u64 a b Try.underlying22
  unfold Op.equalIn
  simp only [Sem.run_bind, run_underlying Try.underlying24]
  simp [go_sem, hA, hI, List.range']
  cases h : x == x' <;> simp [h, go_sem, hA, hI]
  · intro e
    simp at h
    exact absurd e h
  · have e : x = x' := by simpa using h
    rw [if_pos e]
    by_cases e' : y = y' <;> simp [e']
theorem equal_E (w : World) (x y x' y' : Int) : (Op.equalIn 10000 24 (.agg #[.int .u64 x, .int .u64 y]) (.agg #[.int .u64 x', .int .u64 y'])).run Try.prog w = .ok (x == x' && y == y') w := equalIn_E 9998 w x y x' y'
attribute [local go_sem] equal_E

set_option maxHeartbeats 1000000 in
theorem up_core (z0 z1 : Int) (hz0 : z0 = 0) (hz1 : z1 = 0) (w : World)
   (c1 : ∀ w, Calls Try.prog 8 #[.agg #[.int .u64 0, .int .u64 1], .agg #[.int .u64 0, .int .u64 1]] w fun e w' => e = .returned (.agg #[.int .u64 1152921505151057922, .int .u64 0]) ∧ Below w.heap.size w w')
   (c2 : ∀ w, Calls Try.prog 9 #[.agg #[.int .u64 0, .int .u64 0]] w fun e w' => e = .returned (.agg #[.int .u64 z0, .int .u64 z1]) ∧ Below w.heap.size w w')
   (c3 : ∀ w, Calls Try.prog 10 #[.agg #[.int .u64 0, .int .u64 1], .int .u64 4] w fun e w' => e = .returned (.agg #[.int .u64 1, .int .u64 0]) ∧ Below w.heap.size w w') :
    Calls Try.prog 4 #[] w fun e w' => e = .returned (.bool true) ∧ Below w.heap.size w w' := by
  subst hz0 hz1
  go_enter Try.func4, Try.ntmps4
  go_wp2_with (first | (go_at_call 8; first | (with_reducible refine (c1 _).mono ?_; rintro e w_c1 ⟨rfl, b_c1⟩; have z_c1 := b_c1.size; (try simp only [World.size_alloc, World.size_setCell, World.size_drew, size_drewN] at z_c1); (try (have q1_c1_0 : w.heap.size < w_c1.heap.size := (by omega); have q2_c1_0 := Nat.le_of_lt q1_c1_0; have q3_c1_0 := Nat.ne_of_lt q1_c1_0; have q6_c1_0 := Nat.ne_of_gt q1_c1_0; have q4_c1_0_0 := (bcell b_c1).1 (w.heap.size) 0 (by first | omega | (simp only [World.size_alloc, World.size_setCell, World.size_drew, size_drewN]; omega)); have q5_c1_0_0 := (bcell b_c1).2 (w.heap.size) 0 (by first | omega | (simp only [World.size_alloc, World.size_setCell, World.size_drew, size_drewN]; omega)); have q4_c1_0_1 := (bcell b_c1).1 (w.heap.size) 1 (by first | omega | (simp only [World.size_alloc, World.size_setCell, World.size_drew, size_drewN]; omega)); have q5_c1_0_1 := (bcell b_c1).2 (w.heap.size) 1 (by first | omega | (simp only [World.size_alloc, World.size_setCell, World.size_drew, size_drewN]; omega)))))) | (go_at_call 9; first | (with_reducible refine (c2 _).mono ?_; rintro e w_c2 ⟨rfl, b_c2⟩; have z_c2 := b_c2.size; (try simp only [World.size_alloc, World.size_setCell, World.size_drew, size_drewN] at z_c2); (try (have q1_c2_0 : w.heap.size < w_c2.heap.size := (by omega); have q2_c2_0 := Nat.le_of_lt q1_c2_0; have q3_c2_0 := Nat.ne_of_lt q1_c2_0; have q6_c2_0 := Nat.ne_of_gt q1_c2_0; have q4_c2_0_0 := (bcell b_c2).1 (w.heap.size) 0 (by first | omega | (simp only [World.size_alloc, World.size_setCell, World.size_drew, size_drewN]; omega)); have q5_c2_0_0 := (bcell b_c2).2 (w.heap.size) 0 (by first | omega | (simp only [World.size_alloc, World.size_setCell, World.size_drew, size_drewN]; omega)); have q4_c2_0_1 := (bcell b_c2).1 (w.heap.size) 1 (by first | omega | (simp only [World.size_alloc, World.size_setCell, World.size_drew, size_drewN]; omega)); have q5_c2_0_1 := (bcell b_c2).2 (w.heap.size) 1 (by first | omega | (simp only [World.size_alloc, World.size_setCell, World.size_drew, size_drewN]; omega)))))) | (go_at_call 10; first | (with_reducible refine (c3 _).mono ?_; rintro e w_c3 ⟨rfl, b_c3⟩; have z_c3 := b_c3.size; (try simp only [World.size_alloc, World.size_setCell, World.size_drew, size_drewN] at z_c3); (try (have q1_c3_0 : w.heap.size < w_c3.heap.size := (by omega); have q2_c3_0 := Nat.le_of_lt q1_c3_0; have q3_c3_0 := Nat.ne_of_lt q1_c3_0; have q6_c3_0 := Nat.ne_of_gt q1_c3_0; have q4_c3_0_0 := (bcell b_c3).1 (w.heap.size) 0 (by first | omega | (simp only [World.size_alloc, World.size_setCell, World.size_drew, size_drewN]; omega)); have q5_c3_0_0 := (bcell b_c3).2 (w.heap.size) 0 (by first | omega | (simp only [World.size_alloc, World.size_setCell, World.size_drew, size_drewN]; omega)); have q4_c3_0_1 := (bcell b_c3).1 (w.heap.size) 1 (by first | omega | (simp only [World.size_alloc, World.size_setCell, World.size_drew, size_drewN]; omega)); have q5_c3_0_1 := (bcell b_c3).2 (w.heap.size) 1 (by first | omega | (simp only [World.size_alloc, World.size_setCell, World.size_drew, size_drewN]; omega)))))))
  go_ret -- @HERE@
  exact ⟨rfl, by (repeat' (first | (with_reducible exact Below.refl _ _) | (with_reducible assumption) | (with_reducible refine Below.alloc ?_ ?_ _) | (with_reducible refine Below.drew ?_) | (with_reducible refine below_drewN ?_ _) | (with_reducible refine Below.setCell ?_ ?_ _) | (with_reducible refine below_via (by with_reducible assumption) ?_ ?_) | omega | (simp only [World.size_alloc, World.size_setCell, World.size_drew, size_drewN]; omega) | (simp only [World.size_alloc, World.size_setCell, World.size_drew, size_drewN] at *; omega)))⟩

theorem upW (w : World) : Calls Try.prog 4 #[] w fun e w' => e = .returned (.bool true) ∧ Below w.heap.size w w' := by
  obtain ⟨r, hr, _, c2⟩ := einvW 0 0 (by decide) (by decide)
  have hr := hr (by decide +kernel)
  have c1 := emulW 0 1 0 1 (by decide) (by decide) (by decide) (by decide)
  have e1 : Ob.emul (Ob.toE 0 1) (Ob.toE 0 1) = (⟨1152921505151057922, by decide⟩, ⟨0, by decide⟩) := by decide +kernel
  rw [e1] at c1
  have c3 := epowW 0 1 4 (by decide) (by decide) (by decide)
  have e3 : Ob.epow (Ob.toE 0 1) 4 = (⟨1, by decide⟩, ⟨0, by decide⟩) := by decide +kernel
  rw [e3] at c3
  exact up_core r.1.val r.2.val (by rw [hr]; rfl) (by rw [hr]; rfl) w c1 c2 c3

end Go.Proofs.Ytjfdgkhmjebbgab
