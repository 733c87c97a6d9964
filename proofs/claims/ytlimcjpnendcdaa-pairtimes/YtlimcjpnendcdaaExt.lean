/-
  The field of P elements as Fin P, and its pairs: what package ext answers.
-/
import Derived.Test.YtlimcjpnendcdaaSpec
namespace Ob
set_option linter.unusedVariables false
set_option linter.unusedSimpArgs false

abbrev P : Nat := 1152921505151057923
theorem modP : Mod P := ⟨by decide, by decide⟩
theorem P_pos : 0 < P := by decide

/-- The rest of a number by P. -/
def toF (n : Nat) : Fin P := Fin.ofNat P n
theorem toF_val (n : Nat) : (toF n).val = n % P := rfl
theorem toF_of_val (x : Fin P) : toF x.val = x := Fin.ext (Nat.mod_eq_of_lt x.isLt)
theorem F_lt (x : Fin P) : x.val < P := x.isLt
theorem F_word (x : Fin P) : x.val < 18446744073709551616 := Nat.lt_trans x.isLt (by decide)

theorem addF (a b : Nat) : add P a b = (toF a + toF b).val := by
  rw [add_yes modP, Fin.val_add, toF_val, toF_val, ← Nat.add_mod]
theorem subF (a b : Nat) : sub P a b = (toF a - toF b).val := by
  rw [sub_yes modP, Fin.val_sub, toF_val, toF_val, Nat.add_comm]
theorem mulF (a b : Nat) : mul P a b = (toF a * toF b).val := by
  rw [mul_yes modP, Fin.val_mul, toF_val, toF_val, ← Nat.mul_mod]

/-- Elements. -/
abbrev EE : Type := Fin P × Fin P
def toE (a0 a1 : Nat) : EE := (toF a0, toF a1)
def eadd (a b : EE) : EE := (a.1 + b.1, a.2 + b.2)
def esub (a b : EE) : EE := (a.1 - b.1, a.2 - b.2)
def emul (a b : EE) : EE := (a.1 * b.1 - a.2 * b.2, a.1 * b.2 + a.2 * b.1)
def econj (a : EE) : EE := (a.1 - toF 0, toF 0 - a.2)
def one : EE := (toF 1, toF 0)
def epow (a : EE) : Nat → EE
  | 0 => one
  | n + 1 => emul (epow a n) a

theorem emul_assoc (a b c : EE) : emul (emul a b) c = emul a (emul b c) := by
  simp only [emul, Prod.mk.injEq]
  constructor <;> grind
theorem emul_comm (a b : EE) : emul a b = emul b a := by
  simp only [emul, Prod.mk.injEq]
  constructor <;> grind
theorem toF_one : toF 1 = 1 := rfl
theorem toF_zero : toF 0 = 0 := rfl
theorem emul_one (a : EE) : emul a one = a := by
  obtain ⟨x, y⟩ := a
  simp only [emul, one, toF_one, toF_zero, Prod.mk.injEq]
  constructor <;> grind
theorem one_emul (a : EE) : emul one a = a := by rw [emul_comm, emul_one]
theorem epow_add (a : EE) (m n : Nat) : epow a (m + n) = emul (epow a m) (epow a n) := by
  induction n with
  | zero => exact (emul_one _).symm
  | succ n ih => show emul (epow a (m + n)) a = _; rw [ih, emul_assoc]; rfl
theorem epow_two (a : EE) : epow a 2 = emul a a := by show emul (emul one a) a = _; rw [one_emul]
theorem epow_one (a : EE) : epow a 1 = a := by show emul one a = _; rw [one_emul]
theorem epow_mul (a : EE) (m n : Nat) : epow (epow a m) n = epow a (m * n) := by
  induction n with
  | zero => rfl
  | succ n ih => show emul (epow (epow a m) n) (epow a m) = _; rw [ih, ← epow_add]; rfl

/-- A round of a power by squaring, from the lowest bit on. -/
theorem epow_even (p A : EE) (E : Nat) (h : E % 2 = 0) : emul p (epow (emul A A) (E / 2)) = emul p (epow A E) := by
  have e : 2 * (E / 2) = E := by omega
  rw [← epow_two, epow_mul, e]
theorem epow_odd (p A : EE) (E : Nat) (h : E % 2 = 1) : emul (emul p A) (epow (emul A A) (E / 2)) = emul p (epow A E) := by
  have e : E = 1 + 2 * (E / 2) := by omega
  have e2 : epow A E = emul A (epow (emul A A) (E / 2)) := by
    rw [← epow_two, epow_mul]
    conv => lhs; rw [e]
    rw [epow_add, epow_one]
  rw [e2, emul_assoc]

/-- A round of a power, from the highest bit on. -/
theorem epow_bit (a : EE) (e k : Nat) : epow a (e / 2 ^ k) = emul (emul (epow a (e / 2 ^ (k + 1))) (epow a (e / 2 ^ (k + 1)))) (epow a (e / 2 ^ k % 2)) := by
  have h : e / 2 ^ k = e / 2 ^ (k + 1) + e / 2 ^ (k + 1) + e / 2 ^ k % 2 := by
    have : e / 2 ^ (k + 1) = e / 2 ^ k / 2 := by rw [Nat.pow_succ, Nat.div_div_eq_div_mul]
    omega
  conv => lhs; rw [h]
  rw [epow_add, epow_add]

theorem toE_val (x : EE) : toE x.1.val x.2.val = x := by
  obtain ⟨x, y⟩ := x
  exact Prod.ext (toF_of_val x) (toF_of_val y)
theorem val_of_toE {p0 p1 : Nat} {x : EE} (h0 : p0 < P) (h1 : p1 < P) (h : toE p0 p1 = x) : p0 = x.1.val ∧ p1 = x.2.val := by
  subst h
  exact ⟨(Nat.mod_eq_of_lt h0).symm, (Nat.mod_eq_of_lt h1).symm⟩
end Ob
