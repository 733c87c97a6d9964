/-
  The walks of the document's own answers for layer 7: a point's bytes, the square of X.
-/
import Derived.Test.YtoigpjaffggekaaDoorRefG
import Derived.Test.YtoigpjaffggekaaDoorEdB
namespace Go.Proofs.YtoigpjaffggekaaDoor
open Go.RowKit Go.Proofs
set_option linter.unusedVariables false
set_option linter.unusedSimpArgs false
attribute [local go_sem ↓] Go.wp_at_zero Go.wp_at_succ

set_option maxHeartbeats 1000000 in
theorem gbytes_core (x y n : Nat) (o : Bool) (w : World) (hx : decide ((x : Int) % 2 = 1) = o)
   (c0 : ∀ w, Calls Tryd.prog 10 #[.int .u64 n] w fun e w' => e = .returned (.slice (some ⟨w.heap.size, 0, none⟩) 8 8) ∧ Bys w' w.heap.size 0 8 (Ob.byteAt n) ∧ Below w.heap.size w w')
   (ho : (o = true ∧ (y : Int) + 9223372036854775808 = (n : Int) ∧ n < 18446744073709551616) ∨ (o = false ∧ n = y)) :
    Calls Tryd.prog 15 #[.agg #[.int .u64 x, .int .u64 y]] w fun e w' => ∃ g, e = .returned (.slice (some ⟨g, 0, none⟩) 8 8) ∧ w.heap.size ≤ g ∧ Bys w' g 0 8 (Ob.byteAt n) ∧ Below w.heap.size w w' := by
  rcases ho with ⟨rfl, hb, hn⟩ | ⟨rfl, rfl⟩
  · have h1 : (x : Int) % 2 = 1 := of_decide_eq_true hx
    clear hx
    go_enter Tryd.func15, Tryd.ntmps15
    go_wp2_with (go_at_call 10; with_reducible refine (c0 _).mono ?_; rintro e W2 ⟨rfl, y2, b2⟩)
    go_ret
    simp only [World.size_alloc] at y2 b2
    exact ⟨_, rfl, by omega, y2, by (repeat' (first | (with_reducible first | exact Below.refl _ _ | assumption | refine Below.alloc ?_ ?_ _ | refine Below.drew ?_ | refine below_drewN ?_ _ | refine Below.setCell ?_ ?_ _ | refine below_via (by with_reducible assumption) ?_ ?_) | omega | (simp only [szs]; omega) | (simp only [szs] at *; omega)))⟩
  · have h1 : (x : Int) % 2 = 0 := by have := of_decide_eq_false hx; omega
    clear hx
    go_enter Tryd.func15, Tryd.ntmps15
    go_wp2_with (go_at_call 10; with_reducible refine (c0 _).mono ?_; rintro e W2 ⟨rfl, y2, b2⟩)
    go_ret
    simp only [World.size_alloc] at y2 b2
    exact ⟨_, rfl, by omega, y2, by (repeat' (first | (with_reducible first | exact Below.refl _ _ | assumption | refine Below.alloc ?_ ?_ _ | refine Below.drew ?_ | refine below_drewN ?_ _ | refine Below.setCell ?_ ?_ _ | refine below_via (by with_reducible assumption) ?_ ?_) | omega | (simp only [szs]; omega) | (simp only [szs] at *; omega)))⟩
theorem gbytesW (u : Ob.Ep) (w : World) :
    Calls Tryd.prog 15 #[edV u] w fun e w' => ∃ g, e = .returned (.slice (some ⟨g, 0, none⟩) 8 8) ∧ w.heap.size ≤ g ∧ Bys w' g 0 8 (Ob.byteAt (Ob.edN u)) ∧ Below w.heap.size w w' := by
  have hl := Ob.edN_lt u
  refine gbytes_core u.1.val u.2.val (Ob.edN u) _ w rfl (fun w => rbytesW (Ob.edN u) hl w) ?_
  by_cases h : u.1.val % 2 = 1
  · exact Or.inl ⟨decide_eq_true (by omega), by rw [Ob.edN, if_pos h]; omega, hl⟩
  · exact Or.inr ⟨decide_eq_false (by omega), by rw [Ob.edN, if_neg h]⟩

set_option maxHeartbeats 1000000 in
theorem gsquare_core (y q a b c r : Int) (w : World)
   (c0 : ∀ w, Calls Tryd.prog 32 #[.int .u64 y, .int .u64 y] w fun e w' => e = .returned (.int .u64 q) ∧ w = w')
   (c1 : ∀ w, Calls Tryd.prog 35 #[.int .u64 q, .int .u64 1] w fun e w' => e = .returned (.int .u64 a) ∧ w = w')
   (c2 : ∀ w, Calls Tryd.prog 32 #[.int .u64 439, .int .u64 q] w fun e w' => e = .returned (.int .u64 b) ∧ w = w')
   (c3 : ∀ w, Calls Tryd.prog 33 #[.int .u64 1, .int .u64 b] w fun e w' => e = .returned (.int .u64 c) ∧ w = w')
   (c4 : ∀ w, Calls Tryd.prog 34 #[.int .u64 a, .int .u64 c] w fun e w' => e = .returned (.int .u64 r) ∧ w = w') :
    Calls Tryd.prog 17 #[.int .u64 y] w fun e w' => e = .returned (.int .u64 r) ∧ w = w' := by
  go_enter Tryd.func17, Tryd.ntmps17
  go_wp2_with (first | (go_at_call 32; first | (with_reducible refine (c0 _).mono ?_; rintro e w' ⟨rfl, rfl⟩) | (with_reducible refine (c2 _).mono ?_; rintro e w' ⟨rfl, rfl⟩)) | (go_at_call 35; first | (with_reducible refine (c1 _).mono ?_; rintro e w' ⟨rfl, rfl⟩)) | (go_at_call 33; first | (with_reducible refine (c3 _).mono ?_; rintro e w' ⟨rfl, rfl⟩)) | (go_at_call 34; first | (with_reducible refine (c4 _).mono ?_; rintro e w' ⟨rfl, rfl⟩)))
  go_ret
  exact ⟨rfl, rfl⟩
theorem gsquareW (y : Nat) (hy : y < 18446744073709551616) (w : World) :
    Calls Tryd.prog 17 #[.int .u64 y] w fun e w' => e = .returned (.int .u64 ((Ob.gsqr (Ob.toG y)).val : Nat)) ∧ w = w' := by
  have c1 := glessW (Ob.toG y * Ob.toG y).val 1 (Ob.G_word _) (by decide)
  have c2 := gmulW 439 (Ob.toG y * Ob.toG y).val (by decide) (Ob.G_word _)
  have c3 := gplusW 1 (439 * (Ob.toG y * Ob.toG y)).val (by decide) (Ob.G_word _)
  have c4 := goverW (Ob.toG y * Ob.toG y - 1).val (1 + 439 * (Ob.toG y * Ob.toG y)).val (Ob.G_word _) (Ob.G_word _)
  rw [Ob.toG_of_val] at c1 c2 c3
  rw [Ob.toG_of_val, Ob.toG_of_val] at c4
  rw [Ob.toG_1] at c1 c3
  exact gsquare_core y _ _ _ _ _ w (gmulW y y hy hy) c1 c2 c3 c4
end Go.Proofs.YtoigpjaffggekaaDoor
