/-
  The walk of package edwards' In.
-/
import Derived.Test.YtoigpjaffggekaaEdM
import Derived.Test.YtoigpjaffggekaaEqEd
namespace Go.Proofs.Ytoigpjaffggekaa
open Go.RowKit Go.Proofs
set_option linter.unusedVariables false
set_option linter.unusedSimpArgs false
attribute [local go_sem ↓] Go.wp_at_zero Go.wp_at_succ

/-- Whether it is a point of order S. -/
def inS (x y : Nat) : Bool := Ob.isG x y && isZ (Ob.gmul (Ob.ofG x y) 72057593894066549)
set_option maxHeartbeats 1000000 in
theorem ein_yes (x y r s : Int) (w : World)
   (c0 : ∀ w, Calls Try.prog 7 #[.agg #[.int .u64 x, .int .u64 y]] w fun e w' => e = .returned (.bool true) ∧ Below w.heap.size w w')
   (c1 : ∀ w, Calls Try.prog 16 #[.agg #[.int .u64 x, .int .u64 y], .int .u64 72057593894066549] w fun e w' => e = .returned (.agg #[.int .u64 r, .int .u64 s]) ∧ Below w.heap.size w w')
   (c2 : ∀ w, Calls Try.prog 24 #[] w fun e w' => e = .returned (.agg #[.int .u64 0, .int .u64 1]) ∧ Below w.heap.size w w') :
    Calls Try.prog 9 #[.agg #[.int .u64 x, .int .u64 y]] w fun e w' => e = .returned (.bool (r == 0 && s == 1)) ∧ Below w.heap.size w w' := by
  have he := fun w => equal_Ed w r s 0 1
  obtain ⟨q, hq⟩ : ∃ q, Hid ((r == 0 && s == 1) = q) := ⟨_, rfl⟩
  rw [hq.out] at he ⊢
  go_enter Try.func9, Try.ntmps9
  go_wp2_with (first | (go_at_call 7; first | (with_reducible refine (c0 _).mono ?_; rintro e w_c0 ⟨rfl, b_c0⟩; have z_c0 := b_c0.size; (try simp only [szs] at z_c0); (try (have q_c0_0 := own2 b_c0 (w.heap.size) (by first | omega | (simp only [szs]; omega)))))) | (go_at_call 16; first | (with_reducible refine (c1 _).mono ?_; rintro e w_c1 ⟨rfl, b_c1⟩; have z_c1 := b_c1.size; (try simp only [szs] at z_c1); (try (have q_c1_0 := own2 b_c1 (w.heap.size) (by first | omega | (simp only [szs]; omega)))))) | (go_at_call 24; first | (with_reducible refine (c2 _).mono ?_; rintro e w_c2 ⟨rfl, b_c2⟩; have z_c2 := b_c2.size; (try simp only [szs] at z_c2); (try (have q_c2_0 := own2 b_c2 (w.heap.size) (by first | omega | (simp only [szs]; omega)))))))
  go_ret -- @HERE@
  exact ⟨rfl, by (repeat' (first | (with_reducible first | exact Below.refl _ _ | assumption | refine Below.alloc ?_ ?_ _ | refine Below.drew ?_ | refine below_drewN ?_ _ | refine Below.setCell ?_ ?_ _ | refine below_via (by with_reducible assumption) ?_ ?_) | omega | (simp only [szs]; omega) | (simp only [szs] at *; omega)))⟩
set_option maxHeartbeats 1000000 in
theorem ein_no (x y : Int) (w : World)
   (c0 : ∀ w, Calls Try.prog 7 #[.agg #[.int .u64 x, .int .u64 y]] w fun e w' => e = .returned (.bool false) ∧ Below w.heap.size w w') :
    Calls Try.prog 9 #[.agg #[.int .u64 x, .int .u64 y]] w fun e w' => e = .returned (.bool false) ∧ Below w.heap.size w w' := by
  go_enter Try.func9, Try.ntmps9
  go_wp2_with (first | (go_at_call 7; first | (with_reducible refine (c0 _).mono ?_; rintro e w_c0 ⟨rfl, b_c0⟩; have z_c0 := b_c0.size; (try simp only [szs] at z_c0); (try (have q_c0_0 := own2 b_c0 (w.heap.size) (by first | omega | (simp only [szs]; omega)))))))
  go_ret
  exact ⟨rfl, by (repeat' (first | (with_reducible first | exact Below.refl _ _ | assumption | refine Below.alloc ?_ ?_ _ | refine Below.drew ?_ | refine below_drewN ?_ _ | refine Below.setCell ?_ ?_ _ | refine below_via (by with_reducible assumption) ?_ ?_) | omega | (simp only [szs]; omega) | (simp only [szs] at *; omega)))⟩
theorem einW (x y : Nat) (hx : x < 18446744073709551616) (hy : y < 18446744073709551616) (w : World) :
    Calls Try.prog 9 #[.agg #[.int .u64 x, .int .u64 y]] w fun e w' => e = .returned (.bool (inS x y)) ∧ Below w.heap.size w w' := by
  have c0 := eisW x y hx hy
  unfold inS
  cases h : Ob.isG x y with
  | true =>
    rw [h] at c0
    rw [Bool.true_and, ← isZ_eq]
    exact ein_yes x y _ _ w c0 (emulW x y 72057593894066549 hx hy (by decide)) ezeroW
  | false =>
    rw [h] at c0
    exact ein_no x y w c0
end Go.Proofs.Ytoigpjaffggekaa
