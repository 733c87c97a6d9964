/-
  The head of all statements of layer 7.
-/
import Derived.Test.YtoigpjaffggekabDoorEdM
import Derived.Test.YtoigpjaffggekabDoorEqEd
namespace Go.Proofs.YtoigpjaffggekabDoor
open Go.RowKit Go.Proofs
set_option linter.unusedVariables false
set_option linter.unusedSimpArgs false
attribute [local go_sem ↓] Go.wp_at_zero Go.wp_at_succ

theorem lzeroW (w : World) : Calls Tryd.prog 10 #[] w fun e w' => e = .returned (.agg #[.int .u64 0, .int .u64 1]) ∧ Below w.heap.size w w' := by
  go_enter Tryd.func10, Tryd.ntmps10
  go_wp2
  exact bodyPost_ret (v := .agg #[.int .u64 0, .int .u64 1]) (by simp [results, Tryd.results10, go_sem]) rfl ⟨rfl, by (repeat' (first | (with_reducible first | exact Below.refl _ _ | assumption | refine Below.alloc ?_ ?_ _ | refine Below.drew ?_ | refine below_drewN ?_ _ | refine Below.setCell ?_ ?_ _ | refine below_via (by with_reducible assumption) ?_ ?_) | omega | (simp only [szs]; omega) | (simp only [szs] at *; omega)))⟩

set_option maxHeartbeats 4000000 in
theorem up_core (u v r5 s5 : Int) (w : World)
   (cz : ∀ w, Calls Tryd.prog 10 #[] w fun e w' => e = .returned (.agg #[.int .u64 0, .int .u64 1]) ∧ Below w.heap.size w w')
   (c0 : ∀ w, Calls Tryd.prog 14 #[] w fun e w' => e = .returned (.agg #[.int .u64 223588670687113535, .int .u64 82055451961885530]) ∧ Below w.heap.size w w')
   (c1 : ∀ w, Calls Tryd.prog 15 #[.agg #[.int .u64 223588670687113535, .int .u64 82055451961885530]] w fun e w' => e = .returned (.bool true) ∧ Below w.heap.size w w')
   (c2 : ∀ w, Calls Tryd.prog 7 #[.agg #[.int .u64 223588670687113535, .int .u64 82055451961885530], .int .u64 72057593894066549] w fun e w' => e = .returned (.agg #[.int .u64 0, .int .u64 1]) ∧ Below w.heap.size w w')
   (c3 : ∀ w, Calls Tryd.prog 16 #[.agg #[.int .u64 223588670687113535, .int .u64 82055451961885530]] w fun e w' => e = .returned (.agg #[.int .u64 u, .int .u64 v]) ∧ Below w.heap.size w w')
   (c4 : ∀ w, Calls Tryd.prog 6 #[.agg #[.int .u64 223588670687113535, .int .u64 82055451961885530], .agg #[.int .u64 u, .int .u64 v]] w fun e w' => e = .returned (.agg #[.int .u64 0, .int .u64 1]) ∧ Below w.heap.size w w')
   (c5 : ∀ w, Calls Tryd.prog 6 #[.agg #[.int .u64 223588670687113535, .int .u64 82055451961885530], .agg #[.int .u64 223588670687113535, .int .u64 82055451961885530]] w fun e w' => e = .returned (.agg #[.int .u64 r5, .int .u64 s5]) ∧ Below w.heap.size w w')
   (he : ∀ w, (Op.equalIn 10000 24 (.agg #[.int .u64 r5, .int .u64 s5]) (.agg #[.int .u64 0, .int .u64 1])).run Tryd.prog w = .ok false w)
   (he2 : ∀ w, (Op.equalIn 10000 24 (.agg #[.int .u64 0, .int .u64 1]) (.agg #[.int .u64 0, .int .u64 1])).run Tryd.prog w = .ok true w) :
    Calls Tryd.prog 5 #[] w fun e w' => e = .returned (.bool true) ∧ Below w.heap.size w w' := by
  go_enter Tryd.func5, Tryd.ntmps5
  go_wp2_with (first | (go_at_call 14; first | (with_reducible refine (c0 _).mono ?_; rintro e w_c0 ⟨rfl, b_c0⟩; have z_c0 := b_c0.size; (try simp only [szs] at z_c0))))
  go_region_held3 (fun w' => w'.cell? ⟨w_c0.heap.size, 0, none⟩ = some (.int .u64 223588670687113535) ∧ w'.cell? ⟨w_c0.heap.size, 1, none⟩ = some (.int .u64 82055451961885530)) (go_keep)
    ((first | (go_at_call 15; first | (with_reducible refine (c1 _).mono ?_; rintro e w_c1 ⟨rfl, b_c1⟩; have z_c1 := b_c1.size; (try simp only [szs] at z_c1); (try (have q_c1_0 := own2 b_c1 (w_c0.heap.size) (by first | omega | (simp only [szs]; omega)))))) | (go_at_call 7; first | (with_reducible refine (c2 _).mono ?_; rintro e w_c2 ⟨rfl, b_c2⟩; have z_c2 := b_c2.size; (try simp only [szs] at z_c2); (try (have q_c2_0 := own2 b_c2 (w_c0.heap.size) (by first | omega | (simp only [szs]; omega)))))) | (go_at_call 16; first | (with_reducible refine (c3 _).mono ?_; rintro e w_c3 ⟨rfl, b_c3⟩; have z_c3 := b_c3.size; (try simp only [szs] at z_c3); (try (have q_c3_0 := own2 b_c3 (w_c0.heap.size) (by first | omega | (simp only [szs]; omega)))))) | (go_at_call 6; first | (with_reducible refine (c4 _).mono ?_; rintro e w_c4 ⟨rfl, b_c4⟩; have z_c4 := b_c4.size; (try simp only [szs] at z_c4); (try (have q_c4_0 := own2 b_c4 (w_c0.heap.size) (by first | omega | (simp only [szs]; omega))))) | (with_reducible refine (c5 _).mono ?_; rintro e w_c5 ⟨rfl, b_c5⟩; have z_c5 := b_c5.size; (try simp only [szs] at z_c5); (try (have q_c5_0 := own2 b_c5 (w_c0.heap.size) (by first | omega | (simp only [szs]; omega)))))) | (go_at_call 10; first | (with_reducible refine (cz _).mono ?_; rintro e w_cz ⟨rfl, b_cz⟩; have z_cz := b_cz.size; (try simp only [szs] at z_cz); (try (have q_cz_0 := own2 b_cz (w_c0.heap.size) (by first | omega | (simp only [szs]; omega))))))))
  go_wp2
  go_ret -- @HERE@
  exact ⟨rfl, by (repeat' (first | (with_reducible first | exact Below.refl _ _ | assumption | refine Below.alloc ?_ ?_ _ | refine Below.drew ?_ | refine below_drewN ?_ _ | refine Below.setCell ?_ ?_ _ | refine below_via (by with_reducible assumption) ?_ ?_) | omega | (simp only [szs]; omega) | (simp only [szs] at *; omega)))⟩

theorem genOf : Ob.ofG 223588670687113535 82055451961885530 = Ob.gGen := Ob.ofG_val Ob.onG_gen
theorem eq_zero (w : World) (u : Ob.Ep) : (Op.equalIn 10000 24 (.agg #[.int .u64 (u.1.val : Nat), .int .u64 (u.2.val : Nat)]) (.agg #[.int .u64 0, .int .u64 1])).run Tryd.prog w = .ok (isZ u) w := by
  rw [equal_Ed, isZ_eq]
theorem upW (w : World) : Calls Tryd.prog 5 #[] w fun e w' => e = .returned (.bool true) ∧ Below w.heap.size w w' := by
  have c1 := eisW 223588670687113535 82055451961885530 (by decide) (by decide)
  rw [show Ob.isG 223588670687113535 82055451961885530 = true from Ob.on_isG Ob.onG_gen] at c1
  have c2 := emulW 223588670687113535 82055451961885530 72057593894066549 (by decide) (by decide) (by decide)
  rw [genOf, show Ob.gmul Ob.gGen 72057593894066549 = Ob.gzero from Ob.gen_S] at c2
  have c3 := enegW 223588670687113535 82055451961885530 (by decide) (by decide)
  rw [genOf] at c3
  have hn := Ob.onG_neg Ob.onG_gen
  have c4 := eaddW 223588670687113535 82055451961885530 (Ob.gneg Ob.gGen).1.val (Ob.gneg Ob.gGen).2.val (by decide) (by decide) (Ob.G_word _) (Ob.G_word _)
  rw [genOf, Ob.ofG_val hn, Ob.gadd_neg Ob.onG_gen] at c4
  have c5 := eaddW 223588670687113535 82055451961885530 223588670687113535 82055451961885530 (by decide) (by decide) (by decide) (by decide)
  rw [genOf] at c5
  have h2 : isZ (Ob.gadd Ob.gGen Ob.gGen) = false := by
    refine decide_eq_false fun h => ?_
    rcases Ob.two_zero Ob.onG_gen h with h | h
    · exact Ob.gen_ne h
    · exact absurd (congrArg Prod.fst h) (by decide +kernel)
  exact up_core _ _ _ _ w lzeroW egenW c1 c2 c3 c4 c5 (fun w => by rw [eq_zero, h2]) (fun w => by rw [equal_Ed]; rfl)
end Go.Proofs.YtoigpjaffggekabDoor
