/-
  Points with a third number beneath both coordinates, and their sums.
-/
import Derived.Test.YtoigpjaffggekabDoorEdN
namespace Ob
set_option linter.unusedVariables false
set_option linter.unusedSimpArgs false

abbrev Wt : Type := Fin RE × Fin RE × Fin RE
/-- It stands for that point. -/
def Wide (a : Wt) (u : Ep) : Prop := a.2.2 ≠ 0 ∧ a.1 = u.1 * a.2.2 ∧ a.2.1 = u.2 * a.2.2
def wz (a b : Wt) : Fin RE := a.2.2 * b.2.2
def wk (a b : Wt) : Fin RE := 439 * (a.1 * b.1) * (a.2.1 * b.2.1)
def wless (a b : Wt) : Fin RE := wz a b * wz a b - wk a b
def wmore (a b : Wt) : Fin RE := wz a b * wz a b + wk a b
def wsum (a b : Wt) : Wt := (wz a b * (a.1 * b.2.1 + a.2.1 * b.1) * wless a b, wz a b * (a.2.1 * b.2.1 + a.1 * b.1) * wmore a b, wless a b * wmore a b)
theorem Gmul_ne {a b : Fin RE} (ha : a ≠ 0) (hb : b ≠ 0) : a * b ≠ 0 := fun e => by
  rcases Gmul_zero e with h | h
  · exact ha h
  · exact hb h
theorem Wide.sum {a b : Wt} {u v : Ep} (ha : Wide a u) (hb : Wide b v) (hu : onG u) (hv : onG v) : Wide (wsum a b) (gadd u v) := by
  obtain ⟨h1, h2⟩ := Gsum_add hu hv
  have n1 := gden1 hu hv
  have n2 := gden2 hu hv
  obtain ⟨x1, y1, z1⟩ := a
  obtain ⟨x2, y2, z2⟩ := b
  obtain ⟨a0, a1, a2⟩ := ha
  obtain ⟨b0, b1, b2⟩ := hb
  simp only at a0 a1 a2 b0 b1 b2
  subst a1 a2 b1 b2
  have zz := Gmul_ne a0 b0
  unfold gk at *
  generalize gadd u v = t at *
  clear hu hv
  obtain ⟨u1, u2⟩ := u
  obtain ⟨v1, v2⟩ := v
  obtain ⟨t1, t2⟩ := t
  simp only at *
  have el : wless (u1 * z1, u2 * z1, z1) (v1 * z2, v2 * z2, z2) = z1 * z2 * (z1 * z2) * (1 - 439 * (u1 * v1 * (u2 * v2))) := by
    simp only [wless, wz, wk]; generalize (439 : Fin RE) = d; grobner
  have em : wmore (u1 * z1, u2 * z1, z1) (v1 * z2, v2 * z2, z2) = z1 * z2 * (z1 * z2) * (1 + 439 * (u1 * v1 * (u2 * v2))) := by
    simp only [wmore, wz, wk]; generalize (439 : Fin RE) = d; grobner
  refine ⟨?_, ?_, ?_⟩
  · show wless _ _ * wmore _ _ ≠ 0
    rw [el, em]
    exact Gmul_ne (Gmul_ne (Gmul_ne zz zz) n2) (Gmul_ne (Gmul_ne zz zz) n1)
  · show z1 * z2 * (u1 * z1 * (v2 * z2) + u2 * z1 * (v1 * z2)) * wless _ _ = t1 * (wless _ _ * wmore _ _)
    rw [em]
    clear el em n1 n2 zz a0 b0 h2
    generalize wless (u1 * z1, u2 * z1, z1) (v1 * z2, v2 * z2, z2) = l
    generalize (439 : Fin RE) = d at *
    grobner
  · show z1 * z2 * (u2 * z1 * (v2 * z2) + u1 * z1 * (v1 * z2)) * wmore _ _ = t2 * (wless _ _ * wmore _ _)
    rw [el]
    clear el em n1 n2 zz a0 b0 h1
    generalize wmore (u1 * z1, u2 * z1, z1) (v1 * z2, v2 * z2, z2) = l
    generalize (439 : Fin RE) = d at *
    grobner
theorem Wide.of (u : Ep) : Wide (u.1, u.2, 1) u := ⟨g1_ne, by show u.1 = u.1 * 1; grobner, by show u.2 = u.2 * 1; grobner⟩
theorem Wide.out {a : Wt} {u : Ep} (h : Wide a u) : a.1 * ginv a.2.2 = u.1 ∧ a.2.1 * ginv a.2.2 = u.2 := by
  obtain ⟨h0, h1, h2⟩ := h
  have := ginv_mul h0
  rw [h1, h2]
  generalize a.2.2 = z at *
  generalize ginv z = j at *
  clear h0 h1 h2
  constructor <;> grobner
theorem gmul_odd {p A : Ep} (hp : onG p) (hA : onG A) (E : Nat) (h : E % 2 = 1) : gadd (gadd p A) (gmul (gadd A A) (E / 2)) = gadd p (gmul A E) := by
  have e : E = 1 + 2 * (E / 2) := by omega
  have hm := onG_mul (onG_add hA hA) (E / 2)
  rw [gadd_assoc hp hA hm]
  congr 1
  conv => rhs; rw [e, gmul_add hA, gmul_one hA, ← gmul_mul hA, gmul_two hA]
theorem gmul_even {A : Ep} (hA : onG A) (E : Nat) (h : E % 2 = 0) : gmul (gadd A A) (E / 2) = gmul A E := by
  have e : E = 2 * (E / 2) := by omega
  conv => rhs; rw [e, ← gmul_mul hA, gmul_two hA]
end Ob
