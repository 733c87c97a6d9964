/-
  The walk of package ext's inverses, in the field's words.
-/
import Derived.Test.YtlimcjpnendcdaaExtX
import Derived.Test.YtlimcjpnendcdaaFrob
namespace Go.Proofs.Ytlimcjpnendcdaa
open Go.RowKit Go.Proofs
set_option linter.unusedVariables false
set_option linter.unusedSimpArgs false

theorem einvW (a0 a1 : Nat) (ha0 : a0 < 18446744073709551616) (ha1 : a1 < 18446744073709551616) :
    ∃ r : Ob.EE, (Ob.toE a0 a1 = Ob.zeroE → r = Ob.zeroE) ∧ (Ob.toE a0 a1 ≠ Ob.zeroE → Ob.emul r (Ob.toE a0 a1) = Ob.one) ∧
      ∀ w, Calls Try.prog 38 #[.agg #[.int .u64 a0, .int .u64 a1]] w fun e w' => e = .returned (.agg #[.int .u64 (r.1.val : Nat), .int .u64 (r.2.val : Nat)]) ∧ Below w.heap.size w w' := by
  have c0 := econjW a0 a1 ha0 ha1
  obtain ⟨c, hc⟩ : ∃ c, c = Ob.econj (Ob.toE a0 a1) := ⟨_, rfl⟩
  rw [← hc] at c0
  have c1 := emulW a0 a1 c.1.val c.2.val ha0 ha1 (Ob.F_word _) (Ob.F_word _)
  rw [Ob.toE_val] at c1
  obtain ⟨m, hm⟩ : ∃ m, m = Ob.emul (Ob.toE a0 a1) c := ⟨_, rfl⟩
  rw [← hm] at c1
  have c3 := fun X : Fin Ob.P => emulW c.1.val c.2.val X.val 0 (Ob.F_word _) (Ob.F_word _) (Ob.F_word _) (by decide)
  simp only [Ob.toE_val] at c3
  have e3 : ∀ X : Fin Ob.P, Ob.toE X.val 0 = (X, 0) := fun X => Prod.ext (Ob.toF_of_val X) rfl
  simp only [e3] at c3
  by_cases h0 : m.1 = 0
  · have hz : Ob.toE a0 a1 = Ob.zeroE := Ob.norm_zero _ (by rw [← hc, ← hm]; exact h0)
    have hc0 : c = Ob.zeroE := by rw [hc, hz]; decide +kernel
    refine ⟨Ob.emul c (0, 0), fun _ => by rw [hc0]; decide +kernel, fun h => absurd hz h, fun w => ?_⟩
    have c2 := fun w => inv_none Ob.P 0 w Ob.modP (by decide) (by decide)
    have e0 : m.1.val = 0 := by rw [h0]; rfl
    rw [e0] at c1
    exact einv_core a0 a1 _ _ _ _ 0 _ _ _ w c0 c1 c2 (c3 0)
  · have hne : Ob.toE a0 a1 ≠ Ob.zeroE := fun h => h0 (by rw [hm, hc, h]; decide +kernel)
    have hv : m.1.val % Ob.P ≠ 0 := fun e => h0 (Fin.ext (by rw [Nat.mod_eq_of_lt m.1.isLt] at e; exact e))
    have hg := Ob.primeP.gcd_one hv
    obtain ⟨Y, hY, hYY⟩ := Ob.inverse_exists Ob.modP.1 hg
    have hi := Ob.inv_ok_of hY hYY
    have c2 := fun w => inv_some Ob.P m.1.val w Ob.modP (Ob.F_word _) hg
    generalize Ob.inv Ob.P m.1.val = X at hi c2
    have hX : ∃ Z : Fin Ob.P, Z.val = X := ⟨⟨X, hi.1⟩, rfl⟩
    obtain ⟨Z, rfl⟩ := hX
    have hZ : Z * m.1 = 1 := Fin.ext (by rw [Fin.val_mul]; exact hi.2)
    refine ⟨Ob.emul c (Z, 0), fun h => absurd h hne, fun _ => ?_, fun w => ?_⟩
    · rw [hc]
      refine Ob.inv_of_norm _ Z ?_
      rw [← hc, ← hm]
      exact hZ
    · exact einv_core a0 a1 _ _ _ _ _ _ _ _ w c0 c1 c2 (c3 Z)
end Go.Proofs.Ytlimcjpnendcdaa
