/-
  The walks of package curve's sums.
-/
import Derived.Test.YtlimcjpnendcdaaModP
import Derived.Test.YtlimcjpnendcdaaKit3
import Derived.Test.YtlimcjpnendcdaaCurve
namespace Go.Proofs.Ytlimcjpnendcdaa
open Go.RowKit Go.Proofs
set_option linter.unusedVariables false
set_option linter.unusedSimpArgs false
attribute [local go_sem ↓] Go.wp_at_zero Go.wp_at_succ

theorem cplusW (a b : Nat) (ha : a < 18446744073709551616) (hb : b < 18446744073709551616) (w : World) :
    Calls Try.prog 61 #[.int .u64 a, .int .u64 b] w fun e w' => e = .returned (.int .u64 ((Ob.toF a + Ob.toF b).val : Nat)) ∧ w = w' := by
  have c0 := addP a b ha hb
  generalize (Ob.toF a + Ob.toF b).val = r at *
  go_enter Try.func61, Try.ntmps61
  go_wp2_with (first | (go_at_call 46; first | (with_reducible refine (c0 _).mono ?_; rintro e w' ⟨rfl, rfl⟩)))
  go_ret
  exact ⟨rfl, rfl⟩
theorem cminusW (a b : Nat) (ha : a < 18446744073709551616) (hb : b < 18446744073709551616) (w : World) :
    Calls Try.prog 63 #[.int .u64 a, .int .u64 b] w fun e w' => e = .returned (.int .u64 ((Ob.toF a - Ob.toF b).val : Nat)) ∧ w = w' := by
  have c0 := subP a b ha hb
  generalize (Ob.toF a - Ob.toF b).val = r at *
  go_enter Try.func63, Try.ntmps63
  go_wp2_with (first | (go_at_call 44; first | (with_reducible refine (c0 _).mono ?_; rintro e w' ⟨rfl, rfl⟩)))
  go_ret
  exact ⟨rfl, rfl⟩
theorem ctimesW (a b : Nat) (ha : a < 18446744073709551616) (hb : b < 18446744073709551616) (w : World) :
    Calls Try.prog 48 #[.int .u64 a, .int .u64 b] w fun e w' => e = .returned (.int .u64 ((Ob.toF a * Ob.toF b).val : Nat)) ∧ ∃ n, w' = w.drewN n := by
  have c0 := mulP a b ha hb
  generalize (Ob.toF a * Ob.toF b).val = r at *
  go_enter Try.func48, Try.ntmps48
  go_wp2_with (first | (go_at_call 45; first | (with_reducible refine (c0 _).mono ?_; rintro e w' ⟨rfl, nd, rfl⟩)))
  go_ret
  exact ⟨rfl, _, rfl⟩
theorem cheight_core (x a b r : Int) (w : World)
   (c0 : ∀ w, Calls Try.prog 48 #[.int .u64 x, .int .u64 x] w fun e w' => e = .returned (.int .u64 a) ∧ ∃ n, w' = w.drewN n)
   (c1 : ∀ w, Calls Try.prog 48 #[.int .u64 a, .int .u64 x] w fun e w' => e = .returned (.int .u64 b) ∧ ∃ n, w' = w.drewN n)
   (c2 : ∀ w, Calls Try.prog 61 #[.int .u64 b, .int .u64 x] w fun e w' => e = .returned (.int .u64 r) ∧ w = w') :
    Calls Try.prog 49 #[.int .u64 x] w fun e w' => e = .returned (.int .u64 r) ∧ ∃ n, w' = w.drewN n := by
  go_enter Try.func49, Try.ntmps49
  go_wp2_with (first | (go_at_call 48; first | (with_reducible refine (c0 _).mono ?_; rintro e w' ⟨rfl, nd, rfl⟩) | (with_reducible refine (c1 _).mono ?_; rintro e w' ⟨rfl, nd, rfl⟩)) | (go_at_call 61; first | (with_reducible refine (c2 _).mono ?_; rintro e w' ⟨rfl, rfl⟩)))
  go_ret
  exact ⟨rfl, _, rfl⟩
theorem cheightW (x : Nat) (hx : x < 18446744073709551616) (w : World) :
    Calls Try.prog 49 #[.int .u64 x] w fun e w' => e = .returned (.int .u64 ((Ob.toF x * Ob.toF x * Ob.toF x + Ob.toF x).val : Nat)) ∧ ∃ n, w' = w.drewN n := by
  have c1 := ctimesW (Ob.toF x * Ob.toF x).val x (Ob.F_word _) hx
  have c2 := cplusW (Ob.toF x * Ob.toF x * Ob.toF x).val x (Ob.F_word _) hx
  simp only [Ob.toF_of_val] at c1 c2
  exact cheight_core x _ _ _ w (ctimesW x x hx hx) c1 c2

/-- Quotients by what isn't 0. -/
theorem cover_core (a b i r : Int) (er : Value) (w : World)
   (c0 : ∀ w, Calls Try.prog 52 #[.int .u64 1152921505151057923, .int .u64 b] w fun e w' => e = .returned (.tuple #[.int .u64 i, er]) ∧ w = w')
   (c1 : ∀ w, Calls Try.prog 48 #[.int .u64 a, .int .u64 i] w fun e w' => e = .returned (.int .u64 r) ∧ ∃ n, w' = w.drewN n) :
    Calls Try.prog 67 #[.int .u64 a, .int .u64 b] w fun e w' => e = .returned (.int .u64 r) ∧ ∃ n, w' = w.drewN n := by
  go_enter Try.func67, Try.ntmps67
  go_wp2_with (first | (go_at_call 52; first | (with_reducible refine (c0 _).mono ?_; rintro e w' ⟨rfl, rfl⟩)) | (go_at_call 48; first | (with_reducible refine (c1 _).mono ?_; rintro e w' ⟨rfl, nd, rfl⟩)))
  go_ret
  exact ⟨rfl, _, rfl⟩
theorem coverW (a b : Nat) (ha : a < 18446744073709551616) (hb : b < 18446744073709551616) (h : Ob.toF b ≠ 0) (w : World) :
    Calls Try.prog 67 #[.int .u64 a, .int .u64 b] w fun e w' => e = .returned (.int .u64 ((Ob.toF a * Ob.finv (Ob.toF b)).val : Nat)) ∧ ∃ n, w' = w.drewN n := by
  have hv : b % Ob.P ≠ 0 := fun e => h (Fin.ext e)
  have hg := Ob.primeP.gcd_one hv
  obtain ⟨Y, hY, hYY⟩ := Ob.inverse_exists Ob.modP.1 hg
  have hi := Ob.inv_ok_of hY hYY
  have c2 := fun w => inv_some Ob.P b w Ob.modP hb hg
  generalize Ob.inv Ob.P b = X at hi c2
  have hX : ∃ Z : Fin Ob.P, Z.val = X := ⟨⟨X, hi.1⟩, rfl⟩
  obtain ⟨Z, rfl⟩ := hX
  have hZ : Ob.toF b * Z = 1 := Fin.ext (by rw [Fin.val_mul, Ob.toF_val, Nat.mod_mul_mod, Nat.mul_comm]; exact hi.2)
  rw [Ob.finv_unique hZ]
  have c1 := ctimesW a Z.val ha (Ob.F_word _)
  rw [Ob.toF_of_val] at c1
  exact cover_core a b _ _ _ w c2 c1

/-! Whether it is a point -/

/-- Whether three fields are those of a point. -/
def isPt (i : Bool) (x y : Nat) : Bool :=
  if i then decide (x = 0) && decide (y = 0)
  else decide (x < Ob.P) && decide (y < Ob.P) && decide (Ob.toF y * Ob.toF y = Ob.toF x * Ob.toF x * Ob.toF x + Ob.toF x)
/-- The point that they count as. -/
def ptOf (i : Bool) (x y : Nat) : Ob.Cp := if isPt i x y = true ∧ i = false then some (Ob.toF x, Ob.toF y) else none
def ptI : Ob.Cp → Bool
  | none => true
  | some _ => false
def ptX : Ob.Cp → Nat
  | none => 0
  | some a => a.1.val
def ptY : Ob.Cp → Nat
  | none => 0
  | some a => a.2.val
/-- A point, as a value. -/
def ptV (a : Ob.Cp) : Value := .agg #[.bool (ptI a), .int .u64 (ptX a : Nat), .int .u64 (ptY a : Nat)]
theorem ptX_lt (a : Ob.Cp) : ptX a < Ob.P := by cases a with | none => decide | some a => exact a.1.isLt
theorem ptY_lt (a : Ob.Cp) : ptY a < Ob.P := by cases a with | none => decide | some a => exact a.2.isLt
theorem ptX_word (a : Ob.Cp) : ptX a < 18446744073709551616 := Nat.lt_trans (ptX_lt a) (by decide)
theorem ptY_word (a : Ob.Cp) : ptY a < 18446744073709551616 := Nat.lt_trans (ptY_lt a) (by decide)
theorem ptOf_on (i : Bool) (x y : Nat) : Ob.onC (ptOf i x y) := by
  unfold ptOf
  split
  · rename_i h
    obtain ⟨h, rfl⟩ := h
    simp [isPt] at h
    exact h.2
  · trivial
theorem isPt_of {a : Ob.Cp} (h : Ob.onC a) : isPt (ptI a) (ptX a) (ptY a) = true := by
  cases a with
  | none => rfl
  | some a =>
    simp [isPt, ptI, ptX, ptY, Ob.toF_of_val]
    exact h
theorem ptOf_of {a : Ob.Cp} (h : Ob.onC a) : ptOf (ptI a) (ptX a) (ptY a) = a := by
  unfold ptOf
  rw [isPt_of h]
  cases a with
  | none => rfl
  | some a => simp [ptI, ptX, ptY, Ob.toF_of_val]
theorem ptV_of {i : Bool} {x y : Nat} (h : isPt i x y = true) : Value.agg #[.bool i, .int .u64 (x : Nat), .int .u64 (y : Nat)] = ptV (ptOf i x y) := by
  cases i with
  | true =>
    have e : ptOf true x y = none := by simp [ptOf]
    rw [e]
    simp [isPt] at h
    rw [h.1, h.2]; rfl
  | false =>
    have e : ptOf false x y = some (Ob.toF x, Ob.toF y) := by unfold ptOf; rw [h]; rfl
    rw [e]
    simp [isPt] at h
    show _ = Value.agg #[.bool false, .int .u64 ((Ob.toF x).val : Nat), .int .u64 ((Ob.toF y).val : Nat)]
    rw [Ob.toF_val, Ob.toF_val, Nat.mod_eq_of_lt h.1.1, Nat.mod_eq_of_lt h.1.2]
theorem ptOf_no {i : Bool} {x y : Nat} (h : isPt i x y = false) : ptOf i x y = none := by unfold ptOf; rw [h]; rfl

set_option maxHeartbeats 1000000 in
theorem cis_inf (x y : Int) (w : World) :
    Calls Try.prog 34 #[.agg #[.bool true, .int .u64 x, .int .u64 y]] w fun e w' => e = .returned (.bool (decide (x = 0) && decide (y = 0))) ∧ Below w.heap.size w w' := by
  by_cases hx : x = 0
  · subst hx
    go_enter Try.func34, Try.ntmps34
    go_wp2
    go_ret
    exact ⟨by simp; rfl, by (repeat' (first | (with_reducible exact Below.refl _ _) | (with_reducible assumption) | (with_reducible refine Below.alloc ?_ ?_ _) | (with_reducible refine Below.drew ?_) | (with_reducible refine below_drewN ?_ _) | (with_reducible refine Below.setCell ?_ ?_ _) | (with_reducible refine below_via (by with_reducible assumption) ?_ ?_) | omega | (simp only [World.size_alloc, World.size_setCell, World.size_drew, size_drewN]; omega) | (simp only [World.size_alloc, World.size_setCell, World.size_drew, size_drewN] at *; omega)))⟩
  · go_enter Try.func34, Try.ntmps34
    go_wp2
    go_ret
    exact ⟨by simp [hx], by (repeat' (first | (with_reducible exact Below.refl _ _) | (with_reducible assumption) | (with_reducible refine Below.alloc ?_ ?_ _) | (with_reducible refine Below.drew ?_) | (with_reducible refine below_drewN ?_ _) | (with_reducible refine Below.setCell ?_ ?_ _) | (with_reducible refine below_via (by with_reducible assumption) ?_ ?_) | omega | (simp only [World.size_alloc, World.size_setCell, World.size_drew, size_drewN]; omega) | (simp only [World.size_alloc, World.size_setCell, World.size_drew, size_drewN] at *; omega)))⟩
set_option maxHeartbeats 1000000 in
theorem cis_core (x y a b : Int) (hx : x < 1152921505151057923) (hy : y < 1152921505151057923) (w : World)
   (c0 : ∀ w, Calls Try.prog 48 #[.int .u64 y, .int .u64 y] w fun e w' => e = .returned (.int .u64 a) ∧ ∃ n, w' = w.drewN n)
   (c1 : ∀ w, Calls Try.prog 49 #[.int .u64 x] w fun e w' => e = .returned (.int .u64 b) ∧ ∃ n, w' = w.drewN n) :
    Calls Try.prog 34 #[.agg #[.bool false, .int .u64 x, .int .u64 y]] w fun e w' => e = .returned (.bool (a == b)) ∧ Below w.heap.size w w' := by
  go_enter Try.func34, Try.ntmps34
  go_wp2
  go_region_held3 (fun w' => w'.cell? ⟨w.heap.size, 0, none⟩ = some (.bool false) ∧ w'.cell? ⟨w.heap.size, 1, none⟩ = some (.int .u64 x) ∧ w'.cell? ⟨w.heap.size, 2, none⟩ = some (.int .u64 y)) (go_keep)
    ((first | (go_at_call 48; first | (with_reducible refine (c0 _).mono ?_; rintro e w' ⟨rfl, nd, rfl⟩)) | (go_at_call 49; first | (with_reducible refine (c1 _).mono ?_; rintro e w' ⟨rfl, nd, rfl⟩))))
  go_wp2
  go_ret
  exact ⟨rfl, by (repeat' (first | (with_reducible exact Below.refl _ _) | (with_reducible assumption) | (with_reducible refine Below.alloc ?_ ?_ _) | (with_reducible refine Below.drew ?_) | (with_reducible refine below_drewN ?_ _) | (with_reducible refine Below.setCell ?_ ?_ _) | (with_reducible refine below_via (by with_reducible assumption) ?_ ?_) | omega | (simp only [World.size_alloc, World.size_setCell, World.size_drew, size_drewN]; omega) | (simp only [World.size_alloc, World.size_setCell, World.size_drew, size_drewN] at *; omega)))⟩
set_option maxHeartbeats 1000000 in
theorem cis_big (x y : Int) (h : ¬ (x < 1152921505151057923 ∧ y < 1152921505151057923)) (w : World) :
    Calls Try.prog 34 #[.agg #[.bool false, .int .u64 x, .int .u64 y]] w fun e w' => e = .returned (.bool false) ∧ Below w.heap.size w w' := by
  by_cases hx : x < 1152921505151057923
  · have hy : decide (y < 1152921505151057923) = false := by simp; omega
    clear h
    go_enter Try.func34, Try.ntmps34
    go_wp2
    go_quiet (fail)
    go_wp2
    go_ret
    exact ⟨rfl, by (repeat' (first | (with_reducible exact Below.refl _ _) | (with_reducible assumption) | (with_reducible refine Below.alloc ?_ ?_ _) | (with_reducible refine Below.drew ?_) | (with_reducible refine below_drewN ?_ _) | (with_reducible refine Below.setCell ?_ ?_ _) | (with_reducible refine below_via (by with_reducible assumption) ?_ ?_) | omega | (simp only [World.size_alloc, World.size_setCell, World.size_drew, size_drewN]; omega) | (simp only [World.size_alloc, World.size_setCell, World.size_drew, size_drewN] at *; omega)))⟩
  · have hy : decide (x < 1152921505151057923) = false := by simp; omega
    clear h hx
    go_enter Try.func34, Try.ntmps34
    go_wp2
    go_quiet (fail)
    go_wp2
    go_ret
    exact ⟨rfl, by (repeat' (first | (with_reducible exact Below.refl _ _) | (with_reducible assumption) | (with_reducible refine Below.alloc ?_ ?_ _) | (with_reducible refine Below.drew ?_) | (with_reducible refine below_drewN ?_ _) | (with_reducible refine Below.setCell ?_ ?_ _) | (with_reducible refine below_via (by with_reducible assumption) ?_ ?_) | omega | (simp only [World.size_alloc, World.size_setCell, World.size_drew, size_drewN]; omega) | (simp only [World.size_alloc, World.size_setCell, World.size_drew, size_drewN] at *; omega)))⟩
theorem beq_val (a b : Fin Ob.P) : (((a.val : Nat) : Int) == ((b.val : Nat) : Int)) = decide (a = b) := by
  by_cases h : a = b
  · subst h; simp
  · simp [h]
    intro e
    exact h (Fin.ext (by omega))
theorem cisW (i : Bool) (x y : Nat) (hx : x < 18446744073709551616) (hy : y < 18446744073709551616) (w : World) :
    Calls Try.prog 34 #[.agg #[.bool i, .int .u64 x, .int .u64 y]] w fun e w' => e = .returned (.bool (isPt i x y)) ∧ Below w.heap.size w w' := by
  cases i with
  | true =>
    refine (cis_inf x y w).mono fun e w' ⟨h, hb⟩ => ⟨h.trans ?_, hb⟩
    simp [isPt]
  | false =>
    by_cases hp : x < Ob.P ∧ y < Ob.P
    · have := cis_core x y _ _ (by have := hp.1; simp only [Ob.P] at this; omega) (by have := hp.2; simp only [Ob.P] at this; omega) w (ctimesW y y hy hy) (cheightW x hx)
      refine this.mono fun e w' ⟨h, hb⟩ => ⟨h.trans ?_, hb⟩
      rw [beq_val]
      simp [isPt, hp.1, hp.2]
    · refine (cis_big x y (fun h => hp ⟨by simp only [Ob.P]; omega, by simp only [Ob.P]; omega⟩) w).mono fun e w' ⟨h, hb⟩ => ⟨h.trans ?_, hb⟩
      have : isPt false x y = false := by
        cases hc : isPt false x y with
        | false => rfl
        | true => simp [isPt] at hc; exact absurd hc.1 hp
      rw [this]

/-! Sums -/

set_option maxHeartbeats 1000000 in
theorem cslope_same (x y y' q t u v r : Int) (w : World)
   (c0 : ∀ w, Calls Try.prog 48 #[.int .u64 x, .int .u64 x] w fun e w' => e = .returned (.int .u64 q) ∧ ∃ n, w' = w.drewN n)
   (c1 : ∀ w, Calls Try.prog 48 #[.int .u64 3, .int .u64 q] w fun e w' => e = .returned (.int .u64 t) ∧ ∃ n, w' = w.drewN n)
   (c2 : ∀ w, Calls Try.prog 61 #[.int .u64 t, .int .u64 1] w fun e w' => e = .returned (.int .u64 u) ∧ w = w')
   (c3 : ∀ w, Calls Try.prog 61 #[.int .u64 y, .int .u64 y] w fun e w' => e = .returned (.int .u64 v) ∧ w = w')
   (c4 : ∀ w, Calls Try.prog 67 #[.int .u64 u, .int .u64 v] w fun e w' => e = .returned (.int .u64 r) ∧ ∃ n, w' = w.drewN n) :
    Calls Try.prog 62 #[.agg #[.bool false, .int .u64 x, .int .u64 y], .agg #[.bool false, .int .u64 x, .int .u64 y']] w fun e w' => e = .returned (.int .u64 r) ∧ Below w.heap.size w w' := by
  go_enter Try.func62, Try.ntmps62
  go_wp2_with (first | (go_at_call 48; first | (with_reducible refine (c0 _).mono ?_; rintro e w' ⟨rfl, nd, rfl⟩)))
  go_region_held3 (fun w' => w'.cell? ⟨w.heap.size, 0, none⟩ = some (.bool false) ∧ w'.cell? ⟨w.heap.size, 1, none⟩ = some (.int .u64 x) ∧ w'.cell? ⟨w.heap.size, 2, none⟩ = some (.int .u64 y)) (go_keep)
    ((first | (go_at_call 48; first | (with_reducible refine (c1 _).mono ?_; rintro e w' ⟨rfl, nd, rfl⟩)) | (go_at_call 61; first | (with_reducible refine (c2 _).mono ?_; rintro e w' ⟨rfl, rfl⟩) | (with_reducible refine (c3 _).mono ?_; rintro e w' ⟨rfl, rfl⟩)) | (go_at_call 67; first | (with_reducible refine (c4 _).mono ?_; rintro e w' ⟨rfl, nd, rfl⟩))))
  go_wp2
  go_ret
  exact ⟨rfl, by (repeat' (first | (with_reducible exact Below.refl _ _) | (with_reducible assumption) | (with_reducible refine Below.alloc ?_ ?_ _) | (with_reducible refine Below.drew ?_) | (with_reducible refine below_drewN ?_ _) | (with_reducible refine Below.setCell ?_ ?_ _) | (with_reducible refine below_via (by with_reducible assumption) ?_ ?_) | omega | (simp only [World.size_alloc, World.size_setCell, World.size_drew, size_drewN]; omega) | (simp only [World.size_alloc, World.size_setCell, World.size_drew, size_drewN] at *; omega)))⟩
set_option maxHeartbeats 1000000 in
theorem cslope_other (x y x' y' d e' r : Int) (h : ¬ x = x') (w : World)
   (c0 : ∀ w, Calls Try.prog 63 #[.int .u64 y, .int .u64 y'] w fun e w' => e = .returned (.int .u64 d) ∧ w = w')
   (c1 : ∀ w, Calls Try.prog 63 #[.int .u64 x, .int .u64 x'] w fun e w' => e = .returned (.int .u64 e') ∧ w = w')
   (c2 : ∀ w, Calls Try.prog 67 #[.int .u64 d, .int .u64 e'] w fun e w' => e = .returned (.int .u64 r) ∧ ∃ n, w' = w.drewN n) :
    Calls Try.prog 62 #[.agg #[.bool false, .int .u64 x, .int .u64 y], .agg #[.bool false, .int .u64 x', .int .u64 y']] w fun e w' => e = .returned (.int .u64 r) ∧ Below w.heap.size w w' := by
  have hd : (x == x') = false := by simpa using h
  go_enter Try.func62, Try.ntmps62
  go_wp2
  go_region_held3 (fun w' => w'.cell? ⟨w.heap.size, 0, none⟩ = some (.bool false) ∧ w'.cell? ⟨w.heap.size, 1, none⟩ = some (.int .u64 x) ∧ w'.cell? ⟨w.heap.size, 2, none⟩ = some (.int .u64 y) ∧ w'.cell? ⟨w.heap.size + 1, 0, none⟩ = some (.bool false) ∧ w'.cell? ⟨w.heap.size + 1, 1, none⟩ = some (.int .u64 x') ∧ w'.cell? ⟨w.heap.size + 1, 2, none⟩ = some (.int .u64 y')) (go_keep)
    ((first | (go_at_call 63; first | (with_reducible refine (c0 _).mono ?_; rintro e w' ⟨rfl, rfl⟩) | (with_reducible refine (c1 _).mono ?_; rintro e w' ⟨rfl, rfl⟩)) | (go_at_call 67; first | (with_reducible refine (c2 _).mono ?_; rintro e w' ⟨rfl, nd, rfl⟩))))
  go_wp2
  go_ret
  exact ⟨rfl, by (repeat' (first | (with_reducible exact Below.refl _ _) | (with_reducible assumption) | (with_reducible refine Below.alloc ?_ ?_ _) | (with_reducible refine Below.drew ?_) | (with_reducible refine below_drewN ?_ _) | (with_reducible refine Below.setCell ?_ ?_ _) | (with_reducible refine below_via (by with_reducible assumption) ?_ ?_) | omega | (simp only [World.size_alloc, World.size_setCell, World.size_drew, size_drewN]; omega) | (simp only [World.size_alloc, World.size_setCell, World.size_drew, size_drewN] at *; omega)))⟩
theorem cslopeW {x1 y1 x2 y2 : Fin Ob.P} (h1 : y1 * y1 = x1 * x1 * x1 + x1) (h2 : y2 * y2 = x2 * x2 * x2 + x2) (hn : ¬(x1 = x2 ∧ y1 + y2 = 0)) (w : World) :
    Calls Try.prog 62 #[.agg #[.bool false, .int .u64 (x1.val : Nat), .int .u64 (y1.val : Nat)], .agg #[.bool false, .int .u64 (x2.val : Nat), .int .u64 (y2.val : Nat)]] w fun e w' => e = .returned (.int .u64 ((Ob.slope x1 y1 x2 y2).val : Nat)) ∧ Below w.heap.size w w' := by
  unfold Ob.slope
  split
  · rename_i e
    subst e
    have hy : y1 + y1 ≠ 0 := fun e => hn ⟨rfl, by
      have : (y1 - y2) * (y1 + y2) = 0 := by grobner
      rcases Ob.Fmul_zero this with h | h
      · clear h1 h2 hn this; grobner
      · exact h⟩
    have c0 := ctimesW x1.val x1.val (Ob.F_word _) (Ob.F_word _)
    have c1 := ctimesW 3 (x1 * x1).val (by decide) (Ob.F_word _)
    have c2 := cplusW (3 * (x1 * x1)).val 1 (Ob.F_word _) (by decide)
    have c3 := cplusW y1.val y1.val (Ob.F_word _) (Ob.F_word _)
    have c4 := coverW (3 * (x1 * x1) + 1).val (y1 + y1).val (Ob.F_word _) (Ob.F_word _) (by rw [Ob.toF_of_val]; exact hy)
    have e3 : Ob.toF 3 = 3 := rfl
    have e1 : Ob.toF 1 = 1 := rfl
    simp only [Ob.toF_of_val, e3, e1] at c0 c1 c2 c3 c4
    exact cslope_same _ _ _ _ _ _ _ _ w c0 c1 c2 c3 c4
  · rename_i e
    have c0 := cminusW y1.val y2.val (Ob.F_word _) (Ob.F_word _)
    have c1 := cminusW x1.val x2.val (Ob.F_word _) (Ob.F_word _)
    have hd : x1 - x2 ≠ 0 := fun h => e (by clear h1 h2 hn; grobner)
    have c2 := coverW (y1 - y2).val (x1 - x2).val (Ob.F_word _) (Ob.F_word _) (by rw [Ob.toF_of_val]; exact hd)
    simp only [Ob.toF_of_val] at c0 c1 c2
    exact cslope_other _ _ _ _ _ _ _ (fun h => e (Fin.ext (by omega))) w c0 c1 c2

set_option maxHeartbeats 1000000 in
theorem csum_left (x1 y1 : Int) (i2 : Bool) (x2 y2 : Int) (w : World) :
    Calls Try.prog 50 #[.agg #[.bool true, .int .u64 x1, .int .u64 y1], .agg #[.bool i2, .int .u64 x2, .int .u64 y2]] w fun e w' => e = .returned (.agg #[.bool i2, .int .u64 x2, .int .u64 y2]) ∧ Below w.heap.size w w' := by
  go_enter Try.func50, Try.ntmps50
  go_wp2
  exact bodyPost_ret (v := .agg #[.bool i2, .int .u64 x2, .int .u64 y2]) (by simp [results, Try.results50, go_sem]) rfl ⟨rfl, by (repeat' (first | (with_reducible exact Below.refl _ _) | (with_reducible assumption) | (with_reducible refine Below.alloc ?_ ?_ _) | (with_reducible refine Below.drew ?_) | (with_reducible refine below_drewN ?_ _) | (with_reducible refine Below.setCell ?_ ?_ _) | (with_reducible refine below_via (by with_reducible assumption) ?_ ?_) | omega | (simp only [World.size_alloc, World.size_setCell, World.size_drew, size_drewN]; omega) | (simp only [World.size_alloc, World.size_setCell, World.size_drew, size_drewN] at *; omega)))⟩
set_option maxHeartbeats 1000000 in
theorem csum_right (x1 y1 x2 y2 : Int) (w : World) :
    Calls Try.prog 50 #[.agg #[.bool false, .int .u64 x1, .int .u64 y1], .agg #[.bool true, .int .u64 x2, .int .u64 y2]] w fun e w' => e = .returned (.agg #[.bool false, .int .u64 x1, .int .u64 y1]) ∧ Below w.heap.size w w' := by
  go_enter Try.func50, Try.ntmps50
  go_wp2
  exact bodyPost_ret (v := .agg #[.bool false, .int .u64 x1, .int .u64 y1]) (by simp [results, Try.results50, go_sem]) rfl ⟨rfl, by (repeat' (first | (with_reducible exact Below.refl _ _) | (with_reducible assumption) | (with_reducible refine Below.alloc ?_ ?_ _) | (with_reducible refine Below.drew ?_) | (with_reducible refine below_drewN ?_ _) | (with_reducible refine Below.setCell ?_ ?_ _) | (with_reducible refine below_via (by with_reducible assumption) ?_ ?_) | omega | (simp only [World.size_alloc, World.size_setCell, World.size_drew, size_drewN]; omega) | (simp only [World.size_alloc, World.size_setCell, World.size_drew, size_drewN] at *; omega)))⟩
set_option maxHeartbeats 1000000 in
theorem csum_wall (x1 y1 y2 : Int) (w : World)
   (c0 : ∀ w, Calls Try.prog 61 #[.int .u64 y1, .int .u64 y2] w fun e w' => e = .returned (.int .u64 0) ∧ w = w') :
    Calls Try.prog 50 #[.agg #[.bool false, .int .u64 x1, .int .u64 y1], .agg #[.bool false, .int .u64 x1, .int .u64 y2]] w fun e w' => e = .returned (.agg #[.bool true, .int .u64 0, .int .u64 0]) ∧ Below w.heap.size w w' := by
  go_enter Try.func50, Try.ntmps50
  go_wp2_with (first | (go_at_call 61; first | (with_reducible refine (c0 _).mono ?_; rintro e w' ⟨rfl, rfl⟩)))
  exact bodyPost_ret (v := .agg #[.bool true, .int .u64 0, .int .u64 0]) (by simp [results, Try.results50, go_sem]) rfl ⟨rfl, by (repeat' (first | (with_reducible exact Below.refl _ _) | (with_reducible assumption) | (with_reducible refine Below.alloc ?_ ?_ _) | (with_reducible refine Below.drew ?_) | (with_reducible refine below_drewN ?_ _) | (with_reducible refine Below.setCell ?_ ?_ _) | (with_reducible refine below_via (by with_reducible assumption) ?_ ?_) | omega | (simp only [World.size_alloc, World.size_setCell, World.size_drew, size_drewN]; omega) | (simp only [World.size_alloc, World.size_setCell, World.size_drew, size_drewN] at *; omega)))⟩
end Go.Proofs.Ytlimcjpnendcdaa
