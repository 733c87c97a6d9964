/-
  The walks of the document's own answers for layer 7: a point's bytes.
-/
import Derived.Test.YtoigpjaffggekabDoorEdB
namespace Go.Proofs.YtoigpjaffggekabDoor
open Go.RowKit Go.Proofs
set_option linter.unusedVariables false
set_option linter.unusedSimpArgs false
attribute [local go_sem ↓] Go.wp_at_zero Go.wp_at_succ

set_option maxHeartbeats 1000000 in
theorem gbytes_core (x y n : Nat) (o : Bool) (w : World) (hx : decide ((x : Int) % 2 = 1) = o)
   (c0 : ∀ w, Calls Tryd.prog 26 #[.int .u64 n] w fun e w' => e = .returned (.slice (some ⟨w.heap.size, 0, none⟩) 8 8) ∧ Bys w' w.heap.size 0 8 (Ob.byteAt n) ∧ Below w.heap.size w w')
   (ho : (o = true ∧ (y : Int) + 9223372036854775808 = (n : Int) ∧ n < 18446744073709551616) ∨ (o = false ∧ n = y)) :
    Calls Tryd.prog 13 #[.agg #[.int .u64 x, .int .u64 y]] w fun e w' => ∃ g, e = .returned (.slice (some ⟨g, 0, none⟩) 8 8) ∧ w.heap.size ≤ g ∧ Bys w' g 0 8 (Ob.byteAt n) ∧ Below w.heap.size w w' := by
  rcases ho with ⟨rfl, hb, hn⟩ | ⟨rfl, rfl⟩
  · have h1 : (x : Int) % 2 = 1 := of_decide_eq_true hx
    clear hx
    go_enter Tryd.func13, Tryd.ntmps13
    go_wp2_with (go_at_call 26; with_reducible refine (c0 _).mono ?_; rintro e W2 ⟨rfl, y2, b2⟩)
    go_ret
    simp only [World.size_alloc] at y2 b2
    exact ⟨_, rfl, by omega, y2, by (repeat' (first | (with_reducible first | exact Below.refl _ _ | assumption | refine Below.alloc ?_ ?_ _ | refine Below.drew ?_ | refine below_drewN ?_ _ | refine Below.setCell ?_ ?_ _ | refine below_via (by with_reducible assumption) ?_ ?_) | omega | (simp only [szs]; omega) | (simp only [szs] at *; omega)))⟩
  · have h1 : (x : Int) % 2 = 0 := by have := of_decide_eq_false hx; omega
    clear hx
    go_enter Tryd.func13, Tryd.ntmps13
    go_wp2_with (go_at_call 26; with_reducible refine (c0 _).mono ?_; rintro e W2 ⟨rfl, y2, b2⟩)
    go_ret
    simp only [World.size_alloc] at y2 b2
    exact ⟨_, rfl, by omega, y2, by (repeat' (first | (with_reducible first | exact Below.refl _ _ | assumption | refine Below.alloc ?_ ?_ _ | refine Below.drew ?_ | refine below_drewN ?_ _ | refine Below.setCell ?_ ?_ _ | refine below_via (by with_reducible assumption) ?_ ?_) | omega | (simp only [szs]; omega) | (simp only [szs] at *; omega)))⟩
theorem gbytesW (u : Ob.Ep) (w : World) :
    Calls Tryd.prog 13 #[edV u] w fun e w' => ∃ g, e = .returned (.slice (some ⟨g, 0, none⟩) 8 8) ∧ w.heap.size ≤ g ∧ Bys w' g 0 8 (Ob.byteAt (Ob.edN u)) ∧ Below w.heap.size w w' := by
  have hl := Ob.edN_lt u
  refine gbytes_core u.1.val u.2.val (Ob.edN u) _ w rfl (fun w => rbytesW (Ob.edN u) hl w) ?_
  by_cases h : u.1.val % 2 = 1
  · exact Or.inl ⟨decide_eq_true (by omega), by rw [Ob.edN, if_pos h]; omega, hl⟩
  · exact Or.inr ⟨decide_eq_false (by omega), by rw [Ob.edN, if_neg h]⟩

end Go.Proofs.YtoigpjaffggekabDoor
