/-
  The walks of package ext's sums and products.
-/
import Derived.Test.YtlimcjpnendcdaaModP
namespace Go.Proofs.Ytlimcjpnendcdaa
open Go.RowKit Go.Proofs
set_option linter.unusedVariables false
set_option linter.unusedSimpArgs false
attribute [local go_sem ↓] Go.wp_at_zero Go.wp_at_succ

set_option maxHeartbeats 1000000 in
theorem eadd_core (a0 a1 b0 b1 r0 r1 : Int) (w : World)
   (c0 : ∀ w, Calls Try.prog 46 #[.int .u64 1152921505151057923, .int .u64 a0, .int .u64 b0] w fun e w' => e = .returned (.int .u64 r0) ∧ w = w')
   (c1 : ∀ w, Calls Try.prog 46 #[.int .u64 1152921505151057923, .int .u64 a1, .int .u64 b1] w fun e w' => e = .returned (.int .u64 r1) ∧ w = w') :
    Calls Try.prog 54 #[.agg #[.int .u64 a0, .int .u64 a1], .agg #[.int .u64 b0, .int .u64 b1]] w fun e w' => e = .returned (.agg #[.int .u64 r0, .int .u64 r1]) ∧ Below w.heap.size w w' := by
  go_enter Try.func54, Try.ntmps54
  go_wp2
  go_region_held3 (fun w' => w'.cell? ⟨w.heap.size, 0, none⟩ = some (.int .u64 a0) ∧ w'.cell? ⟨w.heap.size, 1, none⟩ = some (.int .u64 a1) ∧ w'.cell? ⟨w.heap.size + 1, 0, none⟩ = some (.int .u64 b0) ∧ w'.cell? ⟨w.heap.size + 1, 1, none⟩ = some (.int .u64 b1)) (go_keep)
    ((first | (go_at_call 46; first | (with_reducible refine (c0 _).mono ?_; rintro e w' ⟨rfl, rfl⟩) | (with_reducible refine (c1 _).mono ?_; rintro e w' ⟨rfl, rfl⟩))))
  go_wp2
  exact bodyPost_ret (v := .agg #[.int .u64 r0, .int .u64 r1]) (by simp [results, Try.results54, go_sem]) rfl ⟨rfl, by (repeat' (first | (with_reducible exact Below.refl _ _) | (with_reducible assumption) | (with_reducible refine Below.alloc ?_ ?_ _) | (with_reducible refine Below.drew ?_) | (with_reducible refine below_drewN ?_ _) | (with_reducible refine Below.setCell ?_ ?_ _) | (with_reducible refine below_via (by with_reducible assumption) ?_ ?_) | omega | (simp only [World.size_alloc, World.size_setCell, World.size_drew, size_drewN]; omega) | (simp only [World.size_alloc, World.size_setCell, World.size_drew, size_drewN] at *; omega)))⟩

set_option maxHeartbeats 1000000 in
theorem esub_core (a0 a1 b0 b1 r0 r1 : Int) (w : World)
   (c0 : ∀ w, Calls Try.prog 44 #[.int .u64 1152921505151057923, .int .u64 a0, .int .u64 b0] w fun e w' => e = .returned (.int .u64 r0) ∧ w = w')
   (c1 : ∀ w, Calls Try.prog 44 #[.int .u64 1152921505151057923, .int .u64 a1, .int .u64 b1] w fun e w' => e = .returned (.int .u64 r1) ∧ w = w') :
    Calls Try.prog 51 #[.agg #[.int .u64 a0, .int .u64 a1], .agg #[.int .u64 b0, .int .u64 b1]] w fun e w' => e = .returned (.agg #[.int .u64 r0, .int .u64 r1]) ∧ Below w.heap.size w w' := by
  go_enter Try.func51, Try.ntmps51
  go_wp2
  go_region_held3 (fun w' => w'.cell? ⟨w.heap.size, 0, none⟩ = some (.int .u64 a0) ∧ w'.cell? ⟨w.heap.size, 1, none⟩ = some (.int .u64 a1) ∧ w'.cell? ⟨w.heap.size + 1, 0, none⟩ = some (.int .u64 b0) ∧ w'.cell? ⟨w.heap.size + 1, 1, none⟩ = some (.int .u64 b1)) (go_keep)
    ((first | (go_at_call 44; first | (with_reducible refine (c0 _).mono ?_; rintro e w' ⟨rfl, rfl⟩) | (with_reducible refine (c1 _).mono ?_; rintro e w' ⟨rfl, rfl⟩))))
  go_wp2
  exact bodyPost_ret (v := .agg #[.int .u64 r0, .int .u64 r1]) (by simp [results, Try.results51, go_sem]) rfl ⟨rfl, by (repeat' (first | (with_reducible exact Below.refl _ _) | (with_reducible assumption) | (with_reducible refine Below.alloc ?_ ?_ _) | (with_reducible refine Below.drew ?_) | (with_reducible refine below_drewN ?_ _) | (with_reducible refine Below.setCell ?_ ?_ _) | (with_reducible refine below_via (by with_reducible assumption) ?_ ?_) | omega | (simp only [World.size_alloc, World.size_setCell, World.size_drew, size_drewN]; omega) | (simp only [World.size_alloc, World.size_setCell, World.size_drew, size_drewN] at *; omega)))⟩

set_option maxHeartbeats 4000000 in
theorem emul_core (a0 a1 b0 b1 x y s t r0 r1 : Int) (w : World)
   (c0 : ∀ w, Calls Try.prog 45 #[.int .u64 1152921505151057923, .int .u64 a0, .int .u64 b0] w fun e w' => e = .returned (.int .u64 x) ∧ ∃ n, w' = w.drewN n)
   (c1 : ∀ w, Calls Try.prog 45 #[.int .u64 1152921505151057923, .int .u64 a1, .int .u64 b1] w fun e w' => e = .returned (.int .u64 y) ∧ ∃ n, w' = w.drewN n)
   (c2 : ∀ w, Calls Try.prog 45 #[.int .u64 1152921505151057923, .int .u64 a0, .int .u64 b1] w fun e w' => e = .returned (.int .u64 s) ∧ ∃ n, w' = w.drewN n)
   (c3 : ∀ w, Calls Try.prog 45 #[.int .u64 1152921505151057923, .int .u64 a1, .int .u64 b0] w fun e w' => e = .returned (.int .u64 t) ∧ ∃ n, w' = w.drewN n)
   (c4 : ∀ w, Calls Try.prog 44 #[.int .u64 1152921505151057923, .int .u64 x, .int .u64 y] w fun e w' => e = .returned (.int .u64 r0) ∧ w = w')
   (c5 : ∀ w, Calls Try.prog 46 #[.int .u64 1152921505151057923, .int .u64 s, .int .u64 t] w fun e w' => e = .returned (.int .u64 r1) ∧ w = w') :
    Calls Try.prog 27 #[.agg #[.int .u64 a0, .int .u64 a1], .agg #[.int .u64 b0, .int .u64 b1]] w fun e w' => e = .returned (.agg #[.int .u64 r0, .int .u64 r1]) ∧ Below w.heap.size w w' := by
  have n1 : ¬ (w.heap.size = w.heap.size + 1 + 1) := by omega
  have n2 : ¬ (w.heap.size + 1 + 1 = w.heap.size) := by omega
  go_enter Try.func27, Try.ntmps27
  go_wp2
  go_region_held3 (fun w' => w'.cell? ⟨w.heap.size, 0, none⟩ = some (.int .u64 a0) ∧ w'.cell? ⟨w.heap.size, 1, none⟩ = some (.int .u64 a1) ∧ w'.cell? ⟨w.heap.size + 1, 0, none⟩ = some (.int .u64 b0) ∧ w'.cell? ⟨w.heap.size + 1, 1, none⟩ = some (.int .u64 b1)) (go_keep)
    ((first | (go_at_call 45; first | (with_reducible refine (c0 _).mono ?_; rintro e w' ⟨rfl, nd, rfl⟩) | (with_reducible refine (c1 _).mono ?_; rintro e w' ⟨rfl, nd, rfl⟩) | (with_reducible refine (c2 _).mono ?_; rintro e w' ⟨rfl, nd, rfl⟩) | (with_reducible refine (c3 _).mono ?_; rintro e w' ⟨rfl, nd, rfl⟩)) | (go_at_call 44; first | (with_reducible refine (c4 _).mono ?_; rintro e w' ⟨rfl, rfl⟩)) | (go_at_call 46; first | (with_reducible refine (c5 _).mono ?_; rintro e w' ⟨rfl, rfl⟩))))
  go_wp2
  exact bodyPost_ret (v := .agg #[.int .u64 r0, .int .u64 r1]) (by simp [results, Try.results27, go_sem]) rfl ⟨rfl, by (repeat' (first | (with_reducible exact Below.refl _ _) | (with_reducible assumption) | (with_reducible refine Below.alloc ?_ ?_ _) | (with_reducible refine Below.drew ?_) | (with_reducible refine below_drewN ?_ _) | (with_reducible refine Below.setCell ?_ ?_ _) | (with_reducible refine below_via (by with_reducible assumption) ?_ ?_) | omega | (simp only [World.size_alloc, World.size_setCell, World.size_drew, size_drewN]; omega) | (simp only [World.size_alloc, World.size_setCell, World.size_drew, size_drewN] at *; omega)))⟩

/-- An element, as a value. -/
theorem eaddW (a0 a1 b0 b1 : Nat) (ha0 : a0 < 18446744073709551616) (ha1 : a1 < 18446744073709551616) (hb0 : b0 < 18446744073709551616) (hb1 : b1 < 18446744073709551616) (w : World) :
    Calls Try.prog 54 #[.agg #[.int .u64 a0, .int .u64 a1], .agg #[.int .u64 b0, .int .u64 b1]] w fun e w' => e = .returned (.agg #[.int .u64 ((Ob.eadd (Ob.toE a0 a1) (Ob.toE b0 b1)).1.val : Nat), .int .u64 ((Ob.eadd (Ob.toE a0 a1) (Ob.toE b0 b1)).2.val : Nat)]) ∧ Below w.heap.size w w' :=
  eadd_core a0 a1 b0 b1 _ _ w (addP a0 b0 ha0 hb0) (addP a1 b1 ha1 hb1)
theorem esubW (a0 a1 b0 b1 : Nat) (ha0 : a0 < 18446744073709551616) (ha1 : a1 < 18446744073709551616) (hb0 : b0 < 18446744073709551616) (hb1 : b1 < 18446744073709551616) (w : World) :
    Calls Try.prog 51 #[.agg #[.int .u64 a0, .int .u64 a1], .agg #[.int .u64 b0, .int .u64 b1]] w fun e w' => e = .returned (.agg #[.int .u64 ((Ob.esub (Ob.toE a0 a1) (Ob.toE b0 b1)).1.val : Nat), .int .u64 ((Ob.esub (Ob.toE a0 a1) (Ob.toE b0 b1)).2.val : Nat)]) ∧ Below w.heap.size w w' :=
  esub_core a0 a1 b0 b1 _ _ w (subP a0 b0 ha0 hb0) (subP a1 b1 ha1 hb1)
theorem emulW (a0 a1 b0 b1 : Nat) (ha0 : a0 < 18446744073709551616) (ha1 : a1 < 18446744073709551616) (hb0 : b0 < 18446744073709551616) (hb1 : b1 < 18446744073709551616) (w : World) :
    Calls Try.prog 27 #[.agg #[.int .u64 a0, .int .u64 a1], .agg #[.int .u64 b0, .int .u64 b1]] w fun e w' => e = .returned (.agg #[.int .u64 ((Ob.emul (Ob.toE a0 a1) (Ob.toE b0 b1)).1.val : Nat), .int .u64 ((Ob.emul (Ob.toE a0 a1) (Ob.toE b0 b1)).2.val : Nat)]) ∧ Below w.heap.size w w' := by
  have h4 := subP (Ob.toF a0 * Ob.toF b0).val (Ob.toF a1 * Ob.toF b1).val (Ob.F_word _) (Ob.F_word _)
  have h5 := addP (Ob.toF a0 * Ob.toF b1).val (Ob.toF a1 * Ob.toF b0).val (Ob.F_word _) (Ob.F_word _)
  simp only [Ob.toF_of_val] at h4 h5
  exact emul_core a0 a1 b0 b1 _ _ _ _ _ _ w (mulP a0 b0 ha0 hb0) (mulP a1 b1 ha1 hb1) (mulP a0 b1 ha0 hb1) (mulP a1 b0 ha1 hb0) h4 h5

set_option maxHeartbeats 1000000 in
theorem econj_core (a0 a1 r0 r1 : Int) (w : World)
   (c0 : ∀ w, Calls Try.prog 51 #[.agg #[.int .u64 a0, .int .u64 0], .agg #[.int .u64 0, .int .u64 a1]] w fun e w' => e = .returned (.agg #[.int .u64 r0, .int .u64 r1]) ∧ Below w.heap.size w w') :
    Calls Try.prog 37 #[.agg #[.int .u64 a0, .int .u64 a1]] w fun e w' => e = .returned (.agg #[.int .u64 r0, .int .u64 r1]) ∧ Below w.heap.size w w' := by
  go_enter Try.func37, Try.ntmps37
  go_wp2_with (first | (go_at_call 51; first | (with_reducible refine (c0 _).mono ?_; rintro e w_c0 ⟨rfl, b_c0⟩; have z_c0 := b_c0.size; (try simp only [World.size_alloc, World.size_setCell, World.size_drew, size_drewN] at z_c0); (try (have q1_c0_0 : w.heap.size < w_c0.heap.size := (by omega); have q2_c0_0 := Nat.le_of_lt q1_c0_0; have q3_c0_0 := Nat.ne_of_lt q1_c0_0; have q6_c0_0 := Nat.ne_of_gt q1_c0_0; have q4_c0_0_0 := (bcell b_c0).1 (w.heap.size) 0 (by first | omega | (simp only [World.size_alloc, World.size_setCell, World.size_drew, size_drewN]; omega)); have q5_c0_0_0 := (bcell b_c0).2 (w.heap.size) 0 (by first | omega | (simp only [World.size_alloc, World.size_setCell, World.size_drew, size_drewN]; omega)); have q4_c0_0_1 := (bcell b_c0).1 (w.heap.size) 1 (by first | omega | (simp only [World.size_alloc, World.size_setCell, World.size_drew, size_drewN]; omega)); have q5_c0_0_1 := (bcell b_c0).2 (w.heap.size) 1 (by first | omega | (simp only [World.size_alloc, World.size_setCell, World.size_drew, size_drewN]; omega)))); (try (have q1_c0_1 : w.heap.size + 1 < w_c0.heap.size := (by omega); have q2_c0_1 := Nat.le_of_lt q1_c0_1; have q3_c0_1 := Nat.ne_of_lt q1_c0_1; have q6_c0_1 := Nat.ne_of_gt q1_c0_1; have q4_c0_1_0 := (bcell b_c0).1 (w.heap.size + 1) 0 (by first | omega | (simp only [World.size_alloc, World.size_setCell, World.size_drew, size_drewN]; omega)); have q5_c0_1_0 := (bcell b_c0).2 (w.heap.size + 1) 0 (by first | omega | (simp only [World.size_alloc, World.size_setCell, World.size_drew, size_drewN]; omega)); have q4_c0_1_1 := (bcell b_c0).1 (w.heap.size + 1) 1 (by first | omega | (simp only [World.size_alloc, World.size_setCell, World.size_drew, size_drewN]; omega)); have q5_c0_1_1 := (bcell b_c0).2 (w.heap.size + 1) 1 (by first | omega | (simp only [World.size_alloc, World.size_setCell, World.size_drew, size_drewN]; omega)))))))
  exact bodyPost_ret (v := .agg #[.int .u64 r0, .int .u64 r1]) (by simp [results, Try.results37, go_sem, *]) rfl ⟨rfl, by (repeat' (first | (with_reducible exact Below.refl _ _) | (with_reducible assumption) | (with_reducible refine Below.alloc ?_ ?_ _) | (with_reducible refine Below.drew ?_) | (with_reducible refine below_drewN ?_ _) | (with_reducible refine Below.setCell ?_ ?_ _) | (with_reducible refine below_via (by with_reducible assumption) ?_ ?_) | omega | (simp only [World.size_alloc, World.size_setCell, World.size_drew, size_drewN]; omega) | (simp only [World.size_alloc, World.size_setCell, World.size_drew, size_drewN] at *; omega)))⟩
theorem econjW (a0 a1 : Nat) (ha0 : a0 < 18446744073709551616) (ha1 : a1 < 18446744073709551616) (w : World) :
    Calls Try.prog 37 #[.agg #[.int .u64 a0, .int .u64 a1]] w fun e w' => e = .returned (.agg #[.int .u64 ((Ob.econj (Ob.toE a0 a1)).1.val : Nat), .int .u64 ((Ob.econj (Ob.toE a0 a1)).2.val : Nat)]) ∧ Below w.heap.size w w' :=
  econj_core a0 a1 _ _ w (esubW a0 0 0 a1 ha0 (by decide) (by decide) ha1)

end Go.Proofs.Ytlimcjpnendcdaa
