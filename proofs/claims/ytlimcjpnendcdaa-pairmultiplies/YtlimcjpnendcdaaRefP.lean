/-
  The walks of the document's own answers: sums and products modulo P, and opposites.
-/
import Derived.Test.YtlimcjpnendcdaaKit
import Derived.Test.YtlimcjpnendcdaaExt
namespace Go.Proofs.Ytlimcjpnendcdaa
open Go.RowKit Go.Proofs
set_option linter.unusedVariables false
set_option linter.unusedSimpArgs false
attribute [local go_sem ↓] Go.wp_at_zero Go.wp_at_succ

theorem raddP (a b : Nat) (ha : a < 18446744073709551616) (hb : b < 18446744073709551616) (w : World) :
    Calls Try.prog 28 #[.int .u64 1152921505151057923, .int .u64 a, .int .u64 b] w fun e w' => e = .returned (.int .u64 ((Ob.toF a + Ob.toF b).val : Nat)) ∧ w = w' := by
  rw [← Ob.addF]
  exact radd_any Ob.P a b w Ob.modP ha hb
theorem rmulP (a b : Nat) (ha : a < 18446744073709551616) (hb : b < 18446744073709551616) (w : World) :
    Calls Try.prog 16 #[.int .u64 1152921505151057923, .int .u64 a, .int .u64 b] w fun e w' => e = .returned (.int .u64 ((Ob.toF a * Ob.toF b).val : Nat)) ∧ w = w' := by
  rw [← Ob.mulF]
  exact rmul_any Ob.P a b w Ob.modP ha hb

theorem negP (a : Nat) (ha : a < 18446744073709551616) (w : World) :
    Calls Try.prog 29 #[.int .u64 a] w fun e w' => e = .returned (.int .u64 ((0 - Ob.toF a : Fin Ob.P).val : Nat)) ∧ w = w' := by
  have e0 : Hid ((0 - Ob.toF a : Fin Ob.P).val = (Ob.P - a % Ob.P) % Ob.P) := by
    show (0 - Ob.toF a : Fin Ob.P).val = _
    rw [Fin.val_sub, Ob.toF_val]; rfl
  by_cases h : a % 1152921505151057923 = 0
  · have h' : ((a % 1152921505151057923 : Nat) : Int) = 0 := by omega
    have h2 : (a : Int) % 1152921505151057923 = 0 := by omega
    clear h'
    go_enter Try.func29, Try.ntmps29
    go_wp2
    go_ret
    exact ⟨ret_int (by rw [e0.out]; simp only [Ob.P]; omega), rfl⟩
  · obtain ⟨r, hr, hr'⟩ : ∃ r : Nat, (a : Int) % 1152921505151057923 = (r : Int) ∧ Hid (r = a % 1152921505151057923) := ⟨a % 1152921505151057923, by omega, rfl⟩
    have h3 : r < 1152921505151057923 := by have := hr'.out; omega
    have h4 : ¬ ((r : Int) = 0) := by have := hr'.out; omega
    have h5 : ((r : Int) == 0) = false := by simpa using h4
    clear h
    go_enter Try.func29, Try.ntmps29
    go_wp2
    go_ret
    exact ⟨ret_int (by rw [e0.out]; have := hr'.out; simp only [Ob.P]; omega), rfl⟩

end Go.Proofs.Ytlimcjpnendcdaa
