/-
  The head of all statements of layer 4.
-/
import Derived.Test.YtlimcjpnendcdaaPairP
import Derived.Test.YtlimcjpnendcdaaRefE
import Derived.Test.YtlimcjpnendcdaaRefS
namespace Go.Proofs.Ytlimcjpnendcdaa
open Go.RowKit Go.Proofs
set_option linter.unusedVariables false
set_option linter.unusedSimpArgs false
attribute [local go_sem ↓] Go.wp_at_zero Go.wp_at_succ
attribute [local go_sem] field_Pt

theorem lawone (w : World) : Calls Try.prog 12 #[] w fun e w' => e = .returned (.agg #[.int .u64 1, .int .u64 0]) ∧ Below w.heap.size w w' := by
  go_enter Try.func12, Try.ntmps12
  go_wp2
  exact bodyPost_ret (v := .agg #[.int .u64 1, .int .u64 0]) (by simp [results, Try.results12, go_sem]) rfl ⟨rfl, by (repeat' (first | (with_reducible exact Below.refl _ _) | (with_reducible assumption) | (with_reducible refine Below.alloc ?_ ?_ _) | (with_reducible refine Below.drew ?_) | (with_reducible refine below_drewN ?_ _) | (with_reducible refine Below.setCell ?_ ?_ _) | (with_reducible refine below_via (by with_reducible assumption) ?_ ?_) | omega | (simp only [World.size_alloc, World.size_setCell, World.size_drew, size_drewN]; omega) | (simp only [World.size_alloc, World.size_setCell, World.size_drew, size_drewN] at *; omega)))⟩
theorem rgenW (w : World) : Calls Try.prog 14 #[] w fun e w' => e = .returned (.agg #[.bool false, .int .u64 247390119040843104, .int .u64 830327839767444578]) ∧ Below w.heap.size w w' := by
  go_enter Try.func14, Try.ntmps14
  go_wp2
  exact bodyPost_ret (v := .agg #[.bool false, .int .u64 247390119040843104, .int .u64 830327839767444578]) (by simp [results, Try.results14, go_sem]) rfl ⟨rfl, by (repeat' (first | (with_reducible exact Below.refl _ _) | (with_reducible assumption) | (with_reducible refine Below.alloc ?_ ?_ _) | (with_reducible refine Below.drew ?_) | (with_reducible refine below_drewN ?_ _) | (with_reducible refine Below.setCell ?_ ?_ _) | (with_reducible refine below_via (by with_reducible assumption) ?_ ?_) | omega | (simp only [World.size_alloc, World.size_setCell, World.size_drew, size_drewN]; omega) | (simp only [World.size_alloc, World.size_setCell, World.size_drew, size_drewN] at *; omega)))⟩
theorem reMulV (u v : Ob.EE) (w : World) : Calls Try.prog 13 #[eV u, eV v] w fun e w' => e = .returned (eV (Ob.emul u v)) ∧ Below w.heap.size w w' := by
  have := reMulW u.1.val u.2.val v.1.val v.2.val (Ob.F_word _) (Ob.F_word _) (Ob.F_word _) (Ob.F_word _) w
  rw [Ob.toE_val, Ob.toE_val] at this
  exact this
theorem rePowV (u : Ob.EE) (n : Nat) (hn : n < 18446744073709551616) (w : World) : Calls Try.prog 18 #[eV u, .int .u64 n] w fun e w' => e = .returned (eV (Ob.epow u n)) ∧ Below w.heap.size w w' := by
  have := rePowW u.1.val u.2.val n (Ob.F_word _) (Ob.F_word _) hn w
  rw [Ob.toE_val] at this
  exact this
theorem beqE (u v : Ob.EE) : ((((u.1.val : Nat) : Int) == ((v.1.val : Nat) : Int)) && (((u.2.val : Nat) : Int) == ((v.2.val : Nat) : Int))) = decide (u = v) := by
  rw [beq_val, beq_val, ← Bool.decide_and]
  congr 1
  exact propext ⟨fun h => Prod.ext h.1 h.2, fun h => by subst h; exact ⟨rfl, rfl⟩⟩

set_option maxHeartbeats 4000000 in
theorem upp_core (e0 e1 : Int) (h1 : (e0 == 1 && e1 == 0) = false) (h0 : (e0 == 0 && e1 == 0) = false) (w : World)
   (c0 : ∀ w, Calls Try.prog 14 #[] w fun e w' => e = .returned (.agg #[.bool false, .int .u64 247390119040843104, .int .u64 830327839767444578]) ∧ Below w.heap.size w w')
   (c1 : ∀ w, Calls Try.prog 9 #[.agg #[.bool false, .int .u64 247390119040843104, .int .u64 830327839767444578], .agg #[.bool false, .int .u64 247390119040843104, .int .u64 830327839767444578]] w fun e w' => e = .returned (.agg #[.int .u64 e0, .int .u64 e1]) ∧ Below w.heap.size w w')
   (c2 : ∀ w, Calls Try.prog 9 #[.agg #[.bool true, .int .u64 0, .int .u64 0], .agg #[.bool false, .int .u64 247390119040843104, .int .u64 830327839767444578]] w fun e w' => e = .returned (.agg #[.int .u64 1, .int .u64 0]) ∧ Below w.heap.size w w')
   (c3 : ∀ w, Calls Try.prog 18 #[.agg #[.int .u64 e0, .int .u64 e1], .int .u64 288230376287764481] w fun e w' => e = .returned (.agg #[.int .u64 1, .int .u64 0]) ∧ Below w.heap.size w w')
   (c4 : ∀ w, Calls Try.prog 12 #[] w fun e w' => e = .returned (.agg #[.int .u64 1, .int .u64 0]) ∧ Below w.heap.size w w') :
    Calls Try.prog 8 #[] w fun e w' => e = .returned (.bool true) ∧ Below w.heap.size w w' := by
  have q1 : ∀ w : World, (Op.equalIn 10000 27 (.agg #[.int .u64 e0, .int .u64 e1]) (.agg #[.int .u64 1, .int .u64 0])).run Try.prog w = .ok false w := fun w => by rw [equal_E, h1]
  have q2 : ∀ w : World, (Op.equalIn 10000 27 (.agg #[.int .u64 e0, .int .u64 e1]) (.agg #[.int .u64 0, .int .u64 0])).run Try.prog w = .ok false w := fun w => by rw [equal_E, h0]
  have q3 : ∀ w : World, (Op.equalIn 10000 27 (.agg #[.int .u64 1, .int .u64 0]) (.agg #[.int .u64 1, .int .u64 0])).run Try.prog w = .ok true w := fun w => by rw [equal_E]; rfl
  clear h0 h1
  go_enter Try.func8, Try.ntmps8
  go_wp2_with (first | (go_at_call 14; first | (with_reducible refine (c0 _).mono ?_; rintro e w_c0 ⟨rfl, b_c0⟩; have z_c0 := b_c0.size; (try simp only [World.size_alloc, World.size_setCell, World.size_drew, size_drewN] at z_c0); (try (have q1_c0_0 : w_c0.heap.size < w_c0.heap.size := (by omega); have q2_c0_0 := Nat.le_of_lt q1_c0_0; have q3_c0_0 := Nat.ne_of_lt q1_c0_0; have q6_c0_0 := Nat.ne_of_gt q1_c0_0; have q4_c0_0_0 := (bcell b_c0).1 (w_c0.heap.size) 0 (by first | omega | (simp only [World.size_alloc, World.size_setCell, World.size_drew, size_drewN]; omega)); have q5_c0_0_0 := (bcell b_c0).2 (w_c0.heap.size) 0 (by first | omega | (simp only [World.size_alloc, World.size_setCell, World.size_drew, size_drewN]; omega)); have q4_c0_0_1 := (bcell b_c0).1 (w_c0.heap.size) 1 (by first | omega | (simp only [World.size_alloc, World.size_setCell, World.size_drew, size_drewN]; omega)); have q5_c0_0_1 := (bcell b_c0).2 (w_c0.heap.size) 1 (by first | omega | (simp only [World.size_alloc, World.size_setCell, World.size_drew, size_drewN]; omega)); have q4_c0_0_2 := (bcell b_c0).1 (w_c0.heap.size) 2 (by first | omega | (simp only [World.size_alloc, World.size_setCell, World.size_drew, size_drewN]; omega)); have q5_c0_0_2 := (bcell b_c0).2 (w_c0.heap.size) 2 (by first | omega | (simp only [World.size_alloc, World.size_setCell, World.size_drew, size_drewN]; omega)))))) | (go_at_call 9; first | (with_reducible refine (c1 _).mono ?_; rintro e w_c1 ⟨rfl, b_c1⟩; have z_c1 := b_c1.size; (try simp only [World.size_alloc, World.size_setCell, World.size_drew, size_drewN] at z_c1); (try (have q1_c1_0 : w_c0.heap.size < w_c1.heap.size := (by omega); have q2_c1_0 := Nat.le_of_lt q1_c1_0; have q3_c1_0 := Nat.ne_of_lt q1_c1_0; have q6_c1_0 := Nat.ne_of_gt q1_c1_0; have q4_c1_0_0 := (bcell b_c1).1 (w_c0.heap.size) 0 (by first | omega | (simp only [World.size_alloc, World.size_setCell, World.size_drew, size_drewN]; omega)); have q5_c1_0_0 := (bcell b_c1).2 (w_c0.heap.size) 0 (by first | omega | (simp only [World.size_alloc, World.size_setCell, World.size_drew, size_drewN]; omega)); have q4_c1_0_1 := (bcell b_c1).1 (w_c0.heap.size) 1 (by first | omega | (simp only [World.size_alloc, World.size_setCell, World.size_drew, size_drewN]; omega)); have q5_c1_0_1 := (bcell b_c1).2 (w_c0.heap.size) 1 (by first | omega | (simp only [World.size_alloc, World.size_setCell, World.size_drew, size_drewN]; omega)); have q4_c1_0_2 := (bcell b_c1).1 (w_c0.heap.size) 2 (by first | omega | (simp only [World.size_alloc, World.size_setCell, World.size_drew, size_drewN]; omega)); have q5_c1_0_2 := (bcell b_c1).2 (w_c0.heap.size) 2 (by first | omega | (simp only [World.size_alloc, World.size_setCell, World.size_drew, size_drewN]; omega)))))))
  have tg : Three (w_c1.alloc (.cells #[.int .u64 e0, .int .u64 e1] 27)) w_c0.heap.size (.bool false) (.int .u64 247390119040843104) (.int .u64 830327839767444578) := by (repeat' (first | (with_reducible assumption) | (with_reducible exact Three.own (by with_reducible assumption)) | (with_reducible refine Three.set ?_ _ _ _) | (with_reducible refine Own3.set ?_ _ _ _) | (with_reducible refine Three.drew ?_) | (with_reducible refine Three.drewN ?_ _) | (with_reducible refine Own3.drew ?_) | (with_reducible refine Own3.drewN ?_ _) | (with_reducible refine Three.new ?_; simp only [World.size_alloc, World.size_setCell, World.size_drew, size_drewN]; done) | (with_reducible refine Own3.new ?_; simp only [World.size_alloc, World.size_setCell, World.size_drew, size_drewN]; done) | (with_reducible refine Three.alloc ?_ _) | (with_reducible refine Own3.alloc ?_ _) | (with_reducible refine Three.far ?_ ?_ _ _) | (with_reducible refine Own3.far ?_ ?_ _ _) | (with_reducible refine Three.via (by with_reducible assumption) ?_ ?_) | (with_reducible refine Own3.via (by with_reducible assumption) ?_ ?_) | omega | (simp only [World.size_alloc, World.size_setCell, World.size_drew, size_drewN]; omega)))
  have te : Two (w_c1.alloc (.cells #[.int .u64 e0, .int .u64 e1] 27)) w_c1.heap.size (.int .u64 e0) (.int .u64 e1) := by (repeat' (first | (with_reducible assumption) | (with_reducible exact Two.own (by with_reducible assumption)) | (with_reducible refine Two.set ?_ _ _) | (with_reducible refine Own2.set ?_ _ _) | (with_reducible refine Two.drew ?_) | (with_reducible refine Two.drewN ?_ _) | (with_reducible refine Own2.drew ?_) | (with_reducible refine Own2.drewN ?_ _) | (with_reducible refine Two.new ?_; simp only [World.size_alloc, World.size_setCell, World.size_drew, size_drewN]; done) | (with_reducible refine Own2.new ?_; simp only [World.size_alloc, World.size_setCell, World.size_drew, size_drewN]; done) | (with_reducible refine Two.alloc ?_ _) | (with_reducible refine Own2.alloc ?_ _) | (with_reducible refine Two.far ?_ ?_ _ _) | (with_reducible refine Own2.far ?_ ?_ _ _) | (with_reducible refine Two.via (by with_reducible assumption) ?_ ?_) | (with_reducible refine Own2.via (by with_reducible assumption) ?_ ?_) | omega | (simp only [World.size_alloc, World.size_setCell, World.size_drew, size_drewN]; omega)))
  have hB : Below w.heap.size w (w_c1.alloc (.cells #[.int .u64 e0, .int .u64 e1] 27)) := by (repeat' (first | (with_reducible exact Below.refl _ _) | (with_reducible assumption) | (with_reducible refine Below.alloc ?_ ?_ _) | (with_reducible refine Below.drew ?_) | (with_reducible refine below_drewN ?_ _) | (with_reducible refine Below.setCell ?_ ?_ _) | (with_reducible refine below_via (by with_reducible assumption) ?_ ?_) | omega | (simp only [World.size_alloc, World.size_setCell, World.size_drew, size_drewN]; omega) | (simp only [World.size_alloc, World.size_setCell, World.size_drew, size_drewN] at *; omega)))
  ((try clear q4_c1_0_0); (try clear q5_c1_0_0); (try clear q4_c1_0_1); (try clear q5_c1_0_1); (try clear q4_c1_0_2); (try clear q5_c1_0_2); (try clear q2_c1_0); (try clear q3_c1_0); (try clear q6_c1_0); (try clear q1_c1_0))
  generalize w_c1.alloc (.cells #[.int .u64 e0, .int .u64 e1] 27) = W at *
  clear b_c1 z_c1 b_c0 z_c0 c0 c1
  generalize w_c1.heap.size = be at *
  generalize w_c0.heap.size = bg at *
  have lg := tg.lt
  have le := te.lt
  have lW := hB.size
  go_region_held3 (fun w' => w'.cell? ⟨be, 0, none⟩ = some (.int .u64 e0) ∧ w'.cell? ⟨be, 1, none⟩ = some (.int .u64 e1) ∧ w'.cell? ⟨bg, 0, none⟩ = some (.bool false) ∧ w'.cell? ⟨bg, 1, none⟩ = some (.int .u64 247390119040843104) ∧ w'.cell? ⟨bg, 2, none⟩ = some (.int .u64 830327839767444578)) ((refine cells_and (cells2 ?_) (cells3 ?_); (focus (repeat' (first | (with_reducible assumption) | (with_reducible exact Two.own (by with_reducible assumption)) | (with_reducible refine Two.set ?_ _ _) | (with_reducible refine Own2.set ?_ _ _) | (with_reducible refine Two.drew ?_) | (with_reducible refine Two.drewN ?_ _) | (with_reducible refine Own2.drew ?_) | (with_reducible refine Own2.drewN ?_ _) | (with_reducible refine Two.new ?_; simp only [World.size_alloc, World.size_setCell, World.size_drew, size_drewN]; done) | (with_reducible refine Own2.new ?_; simp only [World.size_alloc, World.size_setCell, World.size_drew, size_drewN]; done) | (with_reducible refine Two.alloc ?_ _) | (with_reducible refine Own2.alloc ?_ _) | (with_reducible refine Two.far ?_ ?_ _ _) | (with_reducible refine Own2.far ?_ ?_ _ _) | (with_reducible refine Two.via (by with_reducible assumption) ?_ ?_) | (with_reducible refine Own2.via (by with_reducible assumption) ?_ ?_) | omega | (simp only [World.size_alloc, World.size_setCell, World.size_drew, size_drewN]; omega)))); (focus (repeat' (first | (with_reducible assumption) | (with_reducible exact Three.own (by with_reducible assumption)) | (with_reducible refine Three.set ?_ _ _ _) | (with_reducible refine Own3.set ?_ _ _ _) | (with_reducible refine Three.drew ?_) | (with_reducible refine Three.drewN ?_ _) | (with_reducible refine Own3.drew ?_) | (with_reducible refine Own3.drewN ?_ _) | (with_reducible refine Three.new ?_; simp only [World.size_alloc, World.size_setCell, World.size_drew, size_drewN]; done) | (with_reducible refine Own3.new ?_; simp only [World.size_alloc, World.size_setCell, World.size_drew, size_drewN]; done) | (with_reducible refine Three.alloc ?_ _) | (with_reducible refine Own3.alloc ?_ _) | (with_reducible refine Three.far ?_ ?_ _ _) | (with_reducible refine Own3.far ?_ ?_ _ _) | (with_reducible refine Three.via (by with_reducible assumption) ?_ ?_) | (with_reducible refine Own3.via (by with_reducible assumption) ?_ ?_) | omega | (simp only [World.size_alloc, World.size_setCell, World.size_drew, size_drewN]; omega))))))
    ((first | (go_at_call 9; first | (with_reducible refine (c2 _).mono ?_; rintro e w_c2 ⟨rfl, b_c2⟩; have z_c2 := b_c2.size; (try simp only [World.size_alloc, World.size_setCell, World.size_drew, size_drewN] at z_c2))) | (go_at_call 18; first | (with_reducible refine (c3 _).mono ?_; rintro e w_c3 ⟨rfl, b_c3⟩; have z_c3 := b_c3.size; (try simp only [World.size_alloc, World.size_setCell, World.size_drew, size_drewN] at z_c3))) | (go_at_call 12; first | (with_reducible refine (c4 _).mono ?_; rintro e w_c4 ⟨rfl, b_c4⟩; have z_c4 := b_c4.size; (try simp only [World.size_alloc, World.size_setCell, World.size_drew, size_drewN] at z_c4)))))
  all_goals
    go_wp2
    go_ret
    exact ⟨rfl, by (repeat' (first | (with_reducible exact Below.refl _ _) | (with_reducible assumption) | (with_reducible refine Below.alloc ?_ ?_ _) | (with_reducible refine Below.drew ?_) | (with_reducible refine below_drewN ?_ _) | (with_reducible refine Below.setCell ?_ ?_ _) | (with_reducible refine below_via (by with_reducible assumption) ?_ ?_) | omega | (simp only [World.size_alloc, World.size_setCell, World.size_drew, size_drewN]; omega) | (simp only [World.size_alloc, World.size_setCell, World.size_drew, size_drewN] at *; omega)))⟩

theorem pow_R {u : Ob.EE} (h : Ob.epow u Ob.R0 = Ob.one) (w : World) : Calls Try.prog 18 #[eV u, .int .u64 288230376287764481] w fun e w' => e = .returned (.agg #[.int .u64 1, .int .u64 0]) ∧ Below w.heap.size w w' := by
  have := rePowV u 288230376287764481 (by decide) w
  rw [show Ob.epow u 288230376287764481 = Ob.one from h] at this
  exact this
theorem genV : Value.agg #[.bool false, .int .u64 247390119040843104, .int .u64 830327839767444578] = ptV Ob.genP := rfl
theorem upW (w : World) : Calls Try.prog 8 #[] w fun e w' => e = .returned (.bool true) ∧ Below w.heap.size w w' := by
  have c1 := pairV Ob.inR_gen Ob.inR_gen
  have c2 := pairV Ob.inR_none Ob.inR_gen
  rw [show Ob.tate none Ob.genP = Ob.one from Ob.mill_none _ _] at c2
  have c3 := pow_R (Ob.tate_order Ob.onC_gen Ob.inR_gen)
  have h1 := beqE (Ob.tate Ob.genP Ob.genP) Ob.one
  rw [decide_eq_false Ob.tate_gen_ne] at h1
  have h0 := beqE (Ob.tate Ob.genP Ob.genP) Ob.zeroE
  rw [decide_eq_false Ob.tate_gen_nz] at h0
  exact upp_core _ _ h1 h0 w rgenW c1 c2 c3 lawone
end Go.Proofs.Ytlimcjpnendcdaa
