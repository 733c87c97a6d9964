/-
  The walks of the document's own answers for layer 7 (package obolref07): numbers modulo R, points, their sums.
-/
import Derived.Test.YtkekomiaiaacaaaDoorJ1
import Derived.Test.YtkekomiaiaacaaaDoorJ2
namespace Go.Proofs.YtkekomiaiaacaaaDoor
open Go.RowKit Go.Proofs
set_option linter.unusedVariables false
set_option linter.unusedSimpArgs false
attribute [local go_sem ↓] Go.wp_at_zero Go.wp_at_succ

theorem rmulR (a b : Nat) (ha : a < 18446744073709551616) (hb : b < 18446744073709551616) (w : World) :
    Calls Tryd.prog 54 #[.int .u64 288230376287764481, .int .u64 a, .int .u64 b] w fun e w' => e = .returned (.int .u64 ((Ob.toG a * Ob.toG b).val : Nat)) ∧ w = w' := by
  rw [← Ob.mulG]
  exact rmul_any Ob.RE a b w Ob.modRE ha hb
theorem raddR (a b : Nat) (ha : a < 18446744073709551616) (hb : b < 18446744073709551616) (w : World) :
    Calls Tryd.prog 15 #[.int .u64 288230376287764481, .int .u64 a, .int .u64 b] w fun e w' => e = .returned (.int .u64 ((Ob.toG a + Ob.toG b).val : Nat)) ∧ w = w' := by
  rw [← Ob.addG]
  exact radd_any Ob.RE a b w Ob.modRE ha hb
theorem gmulW (a b : Nat) (ha : a < 18446744073709551616) (hb : b < 18446744073709551616) (w : World) :
    Calls Tryd.prog 36 #[.int .u64 a, .int .u64 b] w fun e w' => e = .returned (.int .u64 ((Ob.toG a * Ob.toG b).val : Nat)) ∧ w = w' := by
  have c0 := rmulR a b ha hb
  generalize (Ob.toG a * Ob.toG b).val = r at *
  go_enter Tryd.func36, Tryd.ntmps36
  go_wp2_with (first | (go_at_call 54; first | (with_reducible refine (c0 _).mono ?_; rintro e w' ⟨rfl, rfl⟩)))
  go_ret
  exact ⟨rfl, rfl⟩
theorem gplusW (a b : Nat) (ha : a < 18446744073709551616) (hb : b < 18446744073709551616) (w : World) :
    Calls Tryd.prog 39 #[.int .u64 a, .int .u64 b] w fun e w' => e = .returned (.int .u64 ((Ob.toG a + Ob.toG b).val : Nat)) ∧ w = w' := by
  have c0 := raddR a b ha hb
  generalize (Ob.toG a + Ob.toG b).val = r at *
  go_enter Tryd.func39, Tryd.ntmps39
  go_wp2_with (first | (go_at_call 15; first | (with_reducible refine (c0 _).mono ?_; rintro e w' ⟨rfl, rfl⟩)))
  go_ret
  exact ⟨rfl, rfl⟩
theorem gless_core (a b y n r : Nat) (hb : (b : Int) % 288230376287764481 = (y : Int)) (hy : y < 288230376287764481) (hn : (288230376287764481 : Int) - (y : Int) = (n : Int)) (hn2 : n < 18446744073709551616) (w : World)
   (c0 : ∀ w, Calls Tryd.prog 39 #[.int .u64 a, .int .u64 n] w fun e w' => e = .returned (.int .u64 r) ∧ w = w') :
    Calls Tryd.prog 38 #[.int .u64 a, .int .u64 b] w fun e w' => e = .returned (.int .u64 r) ∧ w = w' := by
  go_enter Tryd.func38, Tryd.ntmps38
  go_wp2_with (first | (go_at_call 39; first | (with_reducible refine (c0 _).mono ?_; rintro e w' ⟨rfl, rfl⟩)))
  go_ret
  exact ⟨rfl, rfl⟩
theorem glessW (a b : Nat) (ha : a < 18446744073709551616) (hb : b < 18446744073709551616) (w : World) :
    Calls Tryd.prog 38 #[.int .u64 a, .int .u64 b] w fun e w' => e = .returned (.int .u64 ((Ob.toG a - Ob.toG b).val : Nat)) ∧ w = w' := by
  have hl : b % 288230376287764481 < 288230376287764481 := Nat.mod_lt _ (by decide)
  have c0 := gplusW a (288230376287764481 - b % 288230376287764481) ha (by omega)
  rw [Ob.toG_neg b] at c0
  have e : Ob.toG a + (0 - Ob.toG b) = Ob.toG a - Ob.toG b := by grobner
  rw [e] at c0
  exact gless_core a b (b % 288230376287764481) _ _ (by omega) hl (by omega) (by omega) w c0
theorem gover_core (a b i r : Nat) (w : World)
   (c0 : ∀ w, Calls Tryd.prog 40 #[.int .u64 288230376287764481, .int .u64 b, .int .u64 288230376287764479] w fun e w' => e = .returned (.int .u64 i) ∧ w = w')
   (c1 : ∀ w, Calls Tryd.prog 36 #[.int .u64 a, .int .u64 i] w fun e w' => e = .returned (.int .u64 r) ∧ w = w') :
    Calls Tryd.prog 37 #[.int .u64 a, .int .u64 b] w fun e w' => e = .returned (.int .u64 r) ∧ w = w' := by
  go_enter Tryd.func37, Tryd.ntmps37
  go_wp2_with (first | (go_at_call 40; first | (with_reducible refine (c0 _).mono ?_; rintro e w' ⟨rfl, rfl⟩)) | (go_at_call 36; first | (with_reducible refine (c1 _).mono ?_; rintro e w' ⟨rfl, rfl⟩)))
  go_ret
  exact ⟨rfl, rfl⟩
theorem goverW (a b : Nat) (ha : a < 18446744073709551616) (hb : b < 18446744073709551616) (w : World) :
    Calls Tryd.prog 37 #[.int .u64 a, .int .u64 b] w fun e w' => e = .returned (.int .u64 ((Ob.toG a * Ob.ginv (Ob.toG b)).val : Nat)) ∧ w = w' := by
  have c0 := fun w => rpow_any Ob.RE b 288230376287764479 w Ob.modRE hb (by decide)
  rw [Ob.powG b _ (by decide)] at c0
  have c1 := gmulW a (Ob.ginv (Ob.toG b)).val ha (Ob.G_word _)
  rw [Ob.toG_of_val] at c1
  exact gover_core a b _ _ w c0 c1

end Go.Proofs.YtkekomiaiaacaaaDoor
