/-
  The walks of the document's own answers for layer 3 (package obolref03): points, and their sums.
-/
import Derived.Test.YtlimcjpnendcdaaRefP
import Derived.Test.YtlimcjpnendcdaaCurveT
namespace Go.Proofs.Ytlimcjpnendcdaa
open Go.RowKit Go.Proofs
set_option linter.unusedVariables false
set_option linter.unusedSimpArgs false
attribute [local go_sem ↓] Go.wp_at_zero Go.wp_at_succ

theorem rcmulW (a b : Nat) (ha : a < 18446744073709551616) (hb : b < 18446744073709551616) (w : World) :
    Calls Try.prog 33 #[.int .u64 a, .int .u64 b] w fun e w' => e = .returned (.int .u64 ((Ob.toF a * Ob.toF b).val : Nat)) ∧ w = w' := by
  have c0 := rmulP a b ha hb
  generalize (Ob.toF a * Ob.toF b).val = r at *
  go_enter Try.func33, Try.ntmps33
  go_wp2_with (first | (go_at_call 16; first | (with_reducible refine (c0 _).mono ?_; rintro e w' ⟨rfl, rfl⟩)))
  go_ret
  exact ⟨rfl, rfl⟩
theorem rcless_core (a b n r : Int) (w : World)
   (c0 : ∀ w, Calls Try.prog 29 #[.int .u64 b] w fun e w' => e = .returned (.int .u64 n) ∧ w = w')
   (c1 : ∀ w, Calls Try.prog 28 #[.int .u64 1152921505151057923, .int .u64 a, .int .u64 n] w fun e w' => e = .returned (.int .u64 r) ∧ w = w') :
    Calls Try.prog 32 #[.int .u64 a, .int .u64 b] w fun e w' => e = .returned (.int .u64 r) ∧ w = w' := by
  go_enter Try.func32, Try.ntmps32
  go_wp2_with (first | (go_at_call 29; first | (with_reducible refine (c0 _).mono ?_; rintro e w' ⟨rfl, rfl⟩)) | (go_at_call 28; first | (with_reducible refine (c1 _).mono ?_; rintro e w' ⟨rfl, rfl⟩)))
  go_ret
  exact ⟨rfl, rfl⟩
theorem rclessW (a b : Nat) (ha : a < 18446744073709551616) (hb : b < 18446744073709551616) (w : World) :
    Calls Try.prog 32 #[.int .u64 a, .int .u64 b] w fun e w' => e = .returned (.int .u64 ((Ob.toF a - Ob.toF b).val : Nat)) ∧ w = w' := by
  have c0 := negP b hb
  have c1 := raddP a (0 - Ob.toF b : Fin Ob.P).val ha (Ob.F_word _)
  rw [Ob.toF_of_val] at c1
  have e : Ob.toF a + (0 - Ob.toF b) = Ob.toF a - Ob.toF b := by grobner
  rw [e] at c1
  exact rcless_core a b _ _ w c0 c1
theorem rcover_core (a b i r : Int) (w : World)
   (c0 : ∀ w, Calls Try.prog 60 #[.int .u64 1152921505151057923, .int .u64 b, .int .u64 1152921505151057921] w fun e w' => e = .returned (.int .u64 i) ∧ w = w')
   (c1 : ∀ w, Calls Try.prog 33 #[.int .u64 a, .int .u64 i] w fun e w' => e = .returned (.int .u64 r) ∧ w = w') :
    Calls Try.prog 47 #[.int .u64 a, .int .u64 b] w fun e w' => e = .returned (.int .u64 r) ∧ w = w' := by
  go_enter Try.func47, Try.ntmps47
  go_wp2_with (first | (go_at_call 60; first | (with_reducible refine (c0 _).mono ?_; rintro e w' ⟨rfl, rfl⟩)) | (go_at_call 33; first | (with_reducible refine (c1 _).mono ?_; rintro e w' ⟨rfl, rfl⟩)))
  go_ret
  exact ⟨rfl, rfl⟩
theorem pow_finv (b e : Nat) (he : e = Ob.P - 2) : Ob.pow Ob.P b e = (Ob.finv (Ob.toF b)).val := by
  rw [Ob.pow_yes Ob.modP, Ob.finv_val, Ob.toF_val, ← he, ← Nat.pow_mod]
theorem rcoverW (a b : Nat) (ha : a < 18446744073709551616) (hb : b < 18446744073709551616) (w : World) :
    Calls Try.prog 47 #[.int .u64 a, .int .u64 b] w fun e w' => e = .returned (.int .u64 ((Ob.toF a * Ob.finv (Ob.toF b)).val : Nat)) ∧ w = w' := by
  have c0 := fun w => rpow_any Ob.P b 1152921505151057921 w Ob.modP hb (by decide)
  rw [pow_finv b _ (by decide)] at c0
  have c1 := rcmulW a (Ob.finv (Ob.toF b)).val ha (Ob.F_word _)
  rw [Ob.toF_of_val] at c1
  exact rcover_core a b _ _ w c0 c1

/-! Whether it is a point -/

set_option maxHeartbeats 1000000 in
theorem ris_inf (x y : Int) (w : World) :
    Calls Try.prog 42 #[.agg #[.bool true, .int .u64 x, .int .u64 y]] w fun e w' => e = .returned (.bool (decide (x = 0) && decide (y = 0))) ∧ Below w.heap.size w w' := by
  by_cases hx : x = 0
  · subst hx
    go_enter Try.func42, Try.ntmps42
    go_wp2
    go_ret
    exact ⟨by simp; rfl, by (repeat' (first | (with_reducible exact Below.refl _ _) | (with_reducible assumption) | (with_reducible refine Below.alloc ?_ ?_ _) | (with_reducible refine Below.drew ?_) | (with_reducible refine below_drewN ?_ _) | (with_reducible refine Below.setCell ?_ ?_ _) | (with_reducible refine below_via (by with_reducible assumption) ?_ ?_) | omega | (simp only [World.size_alloc, World.size_setCell, World.size_drew, size_drewN]; omega) | (simp only [World.size_alloc, World.size_setCell, World.size_drew, size_drewN] at *; omega)))⟩
  · go_enter Try.func42, Try.ntmps42
    go_wp2
    go_ret
    exact ⟨by simp [hx], by (repeat' (first | (with_reducible exact Below.refl _ _) | (with_reducible assumption) | (with_reducible refine Below.alloc ?_ ?_ _) | (with_reducible refine Below.drew ?_) | (with_reducible refine below_drewN ?_ _) | (with_reducible refine Below.setCell ?_ ?_ _) | (with_reducible refine below_via (by with_reducible assumption) ?_ ?_) | omega | (simp only [World.size_alloc, World.size_setCell, World.size_drew, size_drewN]; omega) | (simp only [World.size_alloc, World.size_setCell, World.size_drew, size_drewN] at *; omega)))⟩
set_option maxHeartbeats 1000000 in
theorem ris_core (x y a b c d : Int) (hx : x < 1152921505151057923) (hy : y < 1152921505151057923) (w : World)
   (c0 : ∀ w, Calls Try.prog 33 #[.int .u64 y, .int .u64 y] w fun e w' => e = .returned (.int .u64 a) ∧ w = w')
   (c1 : ∀ w, Calls Try.prog 33 #[.int .u64 x, .int .u64 x] w fun e w' => e = .returned (.int .u64 b) ∧ w = w')
   (c2 : ∀ w, Calls Try.prog 33 #[.int .u64 x, .int .u64 b] w fun e w' => e = .returned (.int .u64 c) ∧ w = w')
   (c3 : ∀ w, Calls Try.prog 28 #[.int .u64 1152921505151057923, .int .u64 c, .int .u64 x] w fun e w' => e = .returned (.int .u64 d) ∧ w = w') :
    Calls Try.prog 42 #[.agg #[.bool false, .int .u64 x, .int .u64 y]] w fun e w' => e = .returned (.bool (a == d)) ∧ Below w.heap.size w w' := by
  have hx' : ¬ (1152921505151057923 ≤ x) := by omega
  have hy' : ¬ (1152921505151057923 ≤ y) := by omega
  go_enter Try.func42, Try.ntmps42
  go_wp2
  go_region_held3 (fun w' => w'.cell? ⟨w.heap.size, 0, none⟩ = some (.bool false) ∧ w'.cell? ⟨w.heap.size, 1, none⟩ = some (.int .u64 x) ∧ w'.cell? ⟨w.heap.size, 2, none⟩ = some (.int .u64 y)) (go_keep)
    ((first | (go_at_call 33; first | (with_reducible refine (c0 _).mono ?_; rintro e w' ⟨rfl, rfl⟩) | (with_reducible refine (c1 _).mono ?_; rintro e w' ⟨rfl, rfl⟩) | (with_reducible refine (c2 _).mono ?_; rintro e w' ⟨rfl, rfl⟩)) | (go_at_call 28; first | (with_reducible refine (c3 _).mono ?_; rintro e w' ⟨rfl, rfl⟩))))
  go_wp2
  go_ret
  exact ⟨rfl, by (repeat' (first | (with_reducible exact Below.refl _ _) | (with_reducible assumption) | (with_reducible refine Below.alloc ?_ ?_ _) | (with_reducible refine Below.drew ?_) | (with_reducible refine below_drewN ?_ _) | (with_reducible refine Below.setCell ?_ ?_ _) | (with_reducible refine below_via (by with_reducible assumption) ?_ ?_) | omega | (simp only [World.size_alloc, World.size_setCell, World.size_drew, size_drewN]; omega) | (simp only [World.size_alloc, World.size_setCell, World.size_drew, size_drewN] at *; omega)))⟩
set_option maxHeartbeats 1000000 in
theorem ris_big (x y : Int) (h : ¬ (x < 1152921505151057923 ∧ y < 1152921505151057923)) (w : World) :
    Calls Try.prog 42 #[.agg #[.bool false, .int .u64 x, .int .u64 y]] w fun e w' => e = .returned (.bool false) ∧ Below w.heap.size w w' := by
  by_cases hx : x < 1152921505151057923
  · have hx' : ¬ (1152921505151057923 ≤ x) := by omega
    have hy' : 1152921505151057923 ≤ y := by omega
    clear h
    go_enter Try.func42, Try.ntmps42
    go_wp2
    go_ret
    exact ⟨rfl, by (repeat' (first | (with_reducible exact Below.refl _ _) | (with_reducible assumption) | (with_reducible refine Below.alloc ?_ ?_ _) | (with_reducible refine Below.drew ?_) | (with_reducible refine below_drewN ?_ _) | (with_reducible refine Below.setCell ?_ ?_ _) | (with_reducible refine below_via (by with_reducible assumption) ?_ ?_) | omega | (simp only [World.size_alloc, World.size_setCell, World.size_drew, size_drewN]; omega) | (simp only [World.size_alloc, World.size_setCell, World.size_drew, size_drewN] at *; omega)))⟩
  · have hx' : 1152921505151057923 ≤ x := by omega
    clear h hx
    go_enter Try.func42, Try.ntmps42
    go_wp2
    go_ret
    exact ⟨rfl, by (repeat' (first | (with_reducible exact Below.refl _ _) | (with_reducible assumption) | (with_reducible refine Below.alloc ?_ ?_ _) | (with_reducible refine Below.drew ?_) | (with_reducible refine below_drewN ?_ _) | (with_reducible refine Below.setCell ?_ ?_ _) | (with_reducible refine below_via (by with_reducible assumption) ?_ ?_) | omega | (simp only [World.size_alloc, World.size_setCell, World.size_drew, size_drewN]; omega) | (simp only [World.size_alloc, World.size_setCell, World.size_drew, size_drewN] at *; omega)))⟩
theorem risW (i : Bool) (x y : Nat) (hx : x < 18446744073709551616) (hy : y < 18446744073709551616) (w : World) :
    Calls Try.prog 42 #[.agg #[.bool i, .int .u64 x, .int .u64 y]] w fun e w' => e = .returned (.bool (isPt i x y)) ∧ Below w.heap.size w w' := by
  cases i with
  | true =>
    refine (ris_inf x y w).mono fun e w' ⟨h, hb⟩ => ⟨h.trans ?_, hb⟩
    simp [isPt]
  | false =>
    by_cases hp : x < Ob.P ∧ y < Ob.P
    · have c2 := rcmulW x (Ob.toF x * Ob.toF x).val hx (Ob.F_word _)
      have c3 := raddP (Ob.toF x * (Ob.toF x * Ob.toF x)).val x (Ob.F_word _) hx
      rw [Ob.toF_of_val] at c2 c3
      have := ris_core x y _ _ _ _ (by have := hp.1; simp only [Ob.P] at this; omega) (by have := hp.2; simp only [Ob.P] at this; omega) w (rcmulW y y hy hy) (rcmulW x x hx hx) c2 c3
      refine this.mono fun e w' ⟨h, hb⟩ => ⟨h.trans ?_, hb⟩
      rw [beq_val]
      have e : Ob.toF x * (Ob.toF x * Ob.toF x) + Ob.toF x = Ob.toF x * Ob.toF x * Ob.toF x + Ob.toF x := by grobner
      rw [e]
      simp [isPt, hp.1, hp.2]
    · refine (ris_big x y (fun h => hp ⟨by simp only [Ob.P]; omega, by simp only [Ob.P]; omega⟩) w).mono fun e w' ⟨h, hb⟩ => ⟨h.trans ?_, hb⟩
      have : isPt false x y = false := by
        cases hc : isPt false x y with
        | false => rfl
        | true => simp [isPt] at hc; exact absurd hc.1 hp
      rw [this]


/-! Walls -/

set_option maxHeartbeats 1000000 in
theorem rwall_inf (i j : Bool) (x y u v : Int) (h : i = true ∨ j = true) (w : World) :
    Calls Try.prog 30 #[.agg #[.bool i, .int .u64 x, .int .u64 y], .agg #[.bool j, .int .u64 u, .int .u64 v]] w fun e w' => e = .returned (.bool true) ∧ Below w.heap.size w w' := by
  cases i with
  | true =>
    go_enter Try.func30, Try.ntmps30
    go_wp2
    go_ret
    exact ⟨rfl, by (repeat' (first | (with_reducible exact Below.refl _ _) | (with_reducible assumption) | (with_reducible refine Below.alloc ?_ ?_ _) | (with_reducible refine Below.drew ?_) | (with_reducible refine below_drewN ?_ _) | (with_reducible refine Below.setCell ?_ ?_ _) | (with_reducible refine below_via (by with_reducible assumption) ?_ ?_) | omega | (simp only [World.size_alloc, World.size_setCell, World.size_drew, size_drewN]; omega) | (simp only [World.size_alloc, World.size_setCell, World.size_drew, size_drewN] at *; omega)))⟩
  | false =>
    have hj : j = true := by simpa using h
    subst hj
    go_enter Try.func30, Try.ntmps30
    go_wp2
    go_ret
    exact ⟨rfl, by (repeat' (first | (with_reducible exact Below.refl _ _) | (with_reducible assumption) | (with_reducible refine Below.alloc ?_ ?_ _) | (with_reducible refine Below.drew ?_) | (with_reducible refine below_drewN ?_ _) | (with_reducible refine Below.setCell ?_ ?_ _) | (with_reducible refine below_via (by with_reducible assumption) ?_ ?_) | omega | (simp only [World.size_alloc, World.size_setCell, World.size_drew, size_drewN]; omega) | (simp only [World.size_alloc, World.size_setCell, World.size_drew, size_drewN] at *; omega)))⟩
set_option maxHeartbeats 1000000 in
theorem rwall_same (x y v s : Int) (w : World)
   (c0 : ∀ w, Calls Try.prog 28 #[.int .u64 1152921505151057923, .int .u64 y, .int .u64 v] w fun e w' => e = .returned (.int .u64 s) ∧ w = w') :
    Calls Try.prog 30 #[.agg #[.bool false, .int .u64 x, .int .u64 y], .agg #[.bool false, .int .u64 x, .int .u64 v]] w fun e w' => e = .returned (.bool (s == 0)) ∧ Below w.heap.size w w' := by
  go_enter Try.func30, Try.ntmps30
  go_wp2_with (first | (go_at_call 28; first | (with_reducible refine (c0 _).mono ?_; rintro e w' ⟨rfl, rfl⟩)))
  go_ret
  exact ⟨rfl, by (repeat' (first | (with_reducible exact Below.refl _ _) | (with_reducible assumption) | (with_reducible refine Below.alloc ?_ ?_ _) | (with_reducible refine Below.drew ?_) | (with_reducible refine below_drewN ?_ _) | (with_reducible refine Below.setCell ?_ ?_ _) | (with_reducible refine below_via (by with_reducible assumption) ?_ ?_) | omega | (simp only [World.size_alloc, World.size_setCell, World.size_drew, size_drewN]; omega) | (simp only [World.size_alloc, World.size_setCell, World.size_drew, size_drewN] at *; omega)))⟩
set_option maxHeartbeats 1000000 in
theorem rwall_other (x y u v : Int) (h : ¬ x = u) (w : World) :
    Calls Try.prog 30 #[.agg #[.bool false, .int .u64 x, .int .u64 y], .agg #[.bool false, .int .u64 u, .int .u64 v]] w fun e w' => e = .returned (.bool false) ∧ Below w.heap.size w w' := by
  have hd : (x == u) = false := by simpa using h
  go_enter Try.func30, Try.ntmps30
  go_wp2
  go_ret
  exact ⟨rfl, by (repeat' (first | (with_reducible exact Below.refl _ _) | (with_reducible assumption) | (with_reducible refine Below.alloc ?_ ?_ _) | (with_reducible refine Below.drew ?_) | (with_reducible refine below_drewN ?_ _) | (with_reducible refine Below.setCell ?_ ?_ _) | (with_reducible refine below_via (by with_reducible assumption) ?_ ?_) | omega | (simp only [World.size_alloc, World.size_setCell, World.size_drew, size_drewN]; omega) | (simp only [World.size_alloc, World.size_setCell, World.size_drew, size_drewN] at *; omega)))⟩
/-- Whether two points together are none, or one of them is. -/
def wallOf : Ob.Cp → Ob.Cp → Bool
  | some a, some b => decide (a.1 = b.1 ∧ a.2 + b.2 = 0)
  | _, _ => true
theorem rwallW (a b : Ob.Cp) (w : World) :
    Calls Try.prog 30 #[ptV a, ptV b] w fun e w' => e = .returned (.bool (wallOf a b)) ∧ Below w.heap.size w w' := by
  cases a with
  | none => exact rwall_inf _ _ _ _ _ _ (Or.inl rfl) w
  | some a =>
    cases b with
    | none => exact rwall_inf _ _ _ _ _ _ (Or.inr rfl) w
    | some b =>
      obtain ⟨x1, y1⟩ := a; obtain ⟨x2, y2⟩ := b
      by_cases hx : x1 = x2
      · subst hx
        have c0 := raddP y1.val y2.val (Ob.F_word _) (Ob.F_word _)
        simp only [Ob.toF_of_val] at c0
        refine (rwall_same _ _ _ _ w c0).mono fun e w' ⟨h, hb⟩ => ⟨h.trans ?_, hb⟩
        have e0 : ((((y1 + y2).val : Nat) : Int) == 0) = decide (y1 + y2 = 0) := beq_val (y1 + y2) 0
        rw [e0]
        simp [wallOf]
      · refine (rwall_other _ _ _ _ (fun h => hx (Fin.ext (Int.ofNat.inj h))) w).mono fun e w' ⟨h, hb⟩ => ⟨h.trans ?_, hb⟩
        simp [wallOf, hx]
end Go.Proofs.Ytlimcjpnendcdaa
