/-
  The P-th power is the conjugate.
-/
import Derived.Test.YtlimcjpnendcdaaPrimeP
namespace Ob
set_option linter.unusedVariables false
set_option linter.unusedSimpArgs false

def zeroE : EE := (0, 0)
def scal (c : Nat) (z : EE) : EE := (toF c * z.1, toF c * z.2)

/-- Pascal's numbers. -/
def choose : Nat → Nat → Nat
  | _, 0 => 1
  | 0, _ + 1 => 0
  | n + 1, k + 1 => choose n k + choose n (k + 1)
theorem choose_zero (n : Nat) : choose n 0 = 1 := by cases n <;> rfl
theorem choose_succ (n k : Nat) : choose (n + 1) (k + 1) = choose n k + choose n (k + 1) := rfl
theorem choose_above : ∀ (n k : Nat), n < k → choose n k = 0
  | _, 0, h => by omega
  | 0, _ + 1, _ => rfl
  | n + 1, k + 1, h => by rw [choose_succ, choose_above n k (by omega), choose_above n (k + 1) (by omega)]
theorem choose_self : ∀ (n : Nat), choose n n = 1
  | 0 => rfl
  | n + 1 => by rw [choose_succ, choose_self n, choose_above n (n + 1) (by omega)]
theorem choose_mul : ∀ (n k : Nat), (k + 1) * choose (n + 1) (k + 1) = (n + 1) * choose n k
  | 0, 0 => rfl
  | 0, k + 1 => by rw [choose_succ, choose_above 0 (k + 1) (by omega), choose_above 0 (k + 1 + 1) (by omega)]; simp
  | n + 1, 0 => by
    have := choose_mul n 0
    rw [choose_zero] at this
    rw [choose_succ, choose_zero]
    omega
  | n + 1, k + 1 => by
    have h1 := choose_mul n k
    have h2 := choose_mul n (k + 1)
    have h3 := choose_succ n k
    rw [choose_succ (n + 1) (k + 1)]
    generalize choose (n + 1) (k + 1 + 1) = x at *
    generalize choose (n + 1) (k + 1) = y at *
    generalize choose n (k + 1) = u at *
    generalize choose n k = v at *
    have e : (n + 1) * y = (n + 1) * v + (n + 1) * u := by rw [h3, Nat.mul_add]
    rw [Nat.mul_add, h2, Nat.add_mul (k + 1), h1, Nat.one_mul, Nat.add_mul (n + 1) 1 y, Nat.one_mul]
    omega
theorem choose_prime (k : Nat) (h1 : 0 < k) (h2 : k < P) : choose P k % P = 0 := by
  obtain ⟨j, rfl⟩ : ∃ j, k = j + 1 := ⟨k - 1, by omega⟩
  obtain ⟨Q, hQ⟩ : ∃ Q, Q + 1 = P := ⟨P - 1, by omega⟩
  have h := choose_mul Q j
  rw [hQ] at h
  have hd : P ∣ (j + 1) * choose P (j + 1) := ⟨_, h⟩
  rcases primeP.dvd_mul hd with h | h
  · exact absurd (Nat.le_of_dvd (by omega) h) (by omega)
  · exact Nat.mod_eq_zero_of_dvd h

/-- The sum of c k times z to the k, for k below n. -/
def bs (z : EE) (c : Nat → Nat) : Nat → EE
  | 0 => zeroE
  | n + 1 => eadd (bs z c n) (scal (c n) (epow z n))

theorem toF_add (a b : Nat) : toF (a + b) = toF a + toF b := by
  apply Fin.ext
  rw [Fin.val_add, toF_val, toF_val, toF_val, ← Nat.add_mod]
theorem toF_mul (a b : Nat) : toF (a * b) = toF a * toF b := by
  apply Fin.ext
  rw [Fin.val_mul, toF_val, toF_val, toF_val, ← Nat.mul_mod]

theorem bs_add (z : EE) (c d : Nat → Nat) (n : Nat) : eadd (bs z c n) (bs z d n) = bs z (fun k => c k + d k) n := by
  induction n with
  | zero => exact Prod.ext (by simp [bs, eadd, zeroE]) (by simp [bs, eadd, zeroE])
  | succ n ih =>
    show eadd (eadd (bs z c n) (scal (c n) (epow z n))) (eadd (bs z d n) (scal (d n) (epow z n))) = eadd (bs z (fun k => c k + d k) n) (scal (c n + d n) (epow z n))
    rw [← ih]
    simp only [eadd, scal, toF_add, Prod.mk.injEq]
    constructor <;> first | grind | rfl | decide +kernel | (simp; done)

def shift (c : Nat → Nat) : Nat → Nat
  | 0 => 0
  | k + 1 => c k
theorem bs_shift (z : EE) (c : Nat → Nat) (n : Nat) : emul (bs z c n) z = bs z (shift c) (n + 1) := by
  induction n with
  | zero =>
    show emul zeroE z = eadd zeroE (scal 0 one)
    simp only [emul, zeroE, eadd, scal, one, toF_zero, toF_one, Prod.mk.injEq]
    constructor <;> first | grind | rfl | decide +kernel | (simp; done)
  | succ n ih =>
    show emul (eadd (bs z c n) (scal (c n) (epow z n))) z = eadd (bs z (shift c) (n + 1)) (scal (c n) (emul (epow z n) z))
    rw [← ih]
    simp only [emul, eadd, scal, Prod.mk.injEq]
    constructor <;> first | grind | rfl | decide +kernel | (simp; done)
theorem bs_congr (z : EE) (c d : Nat → Nat) (n : Nat) (h : ∀ k, k < n → c k = d k) : bs z c n = bs z d n := by
  induction n with
  | zero => rfl
  | succ n ih =>
    show eadd (bs z c n) _ = eadd (bs z d n) _
    rw [ih fun k hk => h k (by omega), h n (by omega)]

theorem scal_zero (z : EE) : scal 0 z = zeroE := by
  simp only [scal, toF_zero, zeroE, Prod.mk.injEq]
  constructor <;> first | grind | rfl | decide +kernel | (simp; done)
theorem eadd_zero (z : EE) : eadd z zeroE = z := by
  obtain ⟨x, y⟩ := z
  simp only [eadd, zeroE, Prod.mk.injEq]
  constructor <;> first | grind | rfl | decide +kernel | (simp; done)

theorem binomial (z : EE) (n : Nat) : epow (eadd z one) n = bs z (choose n) (n + 1) := by
  induction n with
  | zero =>
    show one = eadd zeroE (scal 1 one)
    decide +kernel
  | succ n ih =>
    show emul (epow (eadd z one) n) (eadd z one) = _
    rw [ih]
    have e1 : emul (bs z (choose n) (n + 1)) (eadd z one) = eadd (emul (bs z (choose n) (n + 1)) z) (bs z (choose n) (n + 1)) := by
      generalize bs z (choose n) (n + 1) = q
      simp only [emul, eadd, one, toF_zero, toF_one, Prod.mk.injEq]
      constructor <;> first | grind | rfl | decide +kernel | (simp; done)
    have e2 : bs z (choose n) (n + 1) = bs z (choose n) (n + 1 + 1) := by
      show _ = eadd (bs z (choose n) (n + 1)) (scal (choose n (n + 1)) (epow z (n + 1)))
      rw [choose_above n (n + 1) (by omega), scal_zero, eadd_zero]
    rw [e1, bs_shift, e2, bs_add]
    refine bs_congr z _ _ _ fun k hk => ?_
    cases k with
    | zero => simp [shift, choose_zero]
    | succ k => simp only [shift]; rw [choose_succ]

theorem bs_prime (z : EE) (m : Nat) (h1 : 1 ≤ m) (h2 : m ≤ P) : bs z (choose P) m = one := by
  induction m with
  | zero => omega
  | succ m ih =>
    show eadd (bs z (choose P) m) (scal (choose P m) (epow z m)) = one
    by_cases h0 : m = 0
    · subst h0
      rw [choose_zero]
      show eadd zeroE (scal 1 one) = one
      decide +kernel
    · have e : scal (choose P m) (epow z m) = zeroE := by
        have : toF (choose P m) = 0 := Fin.ext (choose_prime m (by omega) (by omega))
        generalize epow z m = q
        simp only [scal, this, zeroE, Prod.mk.injEq]
        constructor <;> first | grind | rfl | decide +kernel | (simp; done)
      rw [e, eadd_zero, ih (by omega) (by omega)]

theorem frob_succ (z : EE) : epow (eadd z one) P = eadd (epow z P) one := by
  rw [binomial]
  show eadd (bs z (choose P) P) (scal (choose P P) (epow z P)) = _
  rw [bs_prime z P P_pos (Nat.le_refl _), choose_self]
  generalize epow z P = q
  simp only [eadd, scal, one, toF_zero, toF_one, Prod.mk.injEq]
  constructor <;> first | grind | rfl | decide +kernel | (simp; done)

def iE : EE := (0, 1)
theorem iE_four : epow iE 4 = one := by decide +kernel
theorem iE_P : epow iE P = (0, -1) := by
  have e : 4 * (P / 4) + 3 = P := by decide +kernel
  generalize hq : P / 4 = q at e
  suffices e' : epow iE (4 * q + 3) = (0, -1) by rw [e] at e'; exact e'
  clear e hq
  rw [epow_add, ← epow_mul, iE_four]
  have h : ∀ n, epow one n = one := fun n => by
    induction n with
    | zero => rfl
    | succ n ih => show emul (epow one n) one = one; rw [ih, emul_one]
  rw [h, one_emul]
  decide +kernel

theorem frob_i (t : Nat) : epow (toF t, 1) P = (toF t, -1) := by
  induction t with
  | zero => exact iE_P
  | succ t ih =>
    have e : ((toF (t + 1), 1) : EE) = eadd (toF t, 1) one := by
      simp only [eadd, one, toF_add, toF_zero, toF_one, Prod.mk.injEq]
      constructor <;> first | grind | rfl | decide +kernel | (simp; done)
    rw [e, frob_succ, ih]
    simp only [eadd, one, toF_add, toF_zero, toF_one, Prod.mk.injEq]
    constructor <;> first | grind | rfl | decide +kernel | (simp; done)

theorem F_zero (a b z : Fin P) (h : z = 0) : a * b - z * z = a * b ∧ a * z + z * b = z := by
  constructor <;> grind
theorem epow_real (x n : Nat) : epow (toF x, 0) n = (toF (x ^ n), 0) := by
  induction n with
  | zero => rfl
  | succ n ih =>
    show emul (epow (toF x, 0) n) (toF x, 0) = _
    rw [ih, Nat.pow_succ, toF_mul]
    exact Prod.ext (F_zero _ _ 0 rfl).1 (F_zero _ _ 0 rfl).2
theorem toF_mod (n : Nat) : toF (n % P) = toF n := Fin.ext (Nat.mod_mod _ _)
theorem pow_P (x : Nat) : x ^ P % P = x % P := by
  have hp : P = (P - 1) + 1 := by decide +kernel
  by_cases hx : x % P = 0
  · have : x ^ P % P = 0 % P := by
      rw [Nat.pow_mod, hx]
      have : 0 ^ P = 0 := Nat.zero_pow P_pos
      rw [this]
    rw [this, hx]; rfl
  · have h := lucasP.fermat x hx
    have e : x ^ P = x ^ (P - 1) * x := by
      conv => lhs; rw [hp]
      rw [Nat.pow_succ]
    rw [e, Nat.mul_mod, h, Nat.one_mul, Nat.mod_mod]
theorem frob_real (x : Nat) : epow (toF x, 0) P = (toF x, 0) := by
  rw [epow_real, ← toF_mod, pow_P, toF_mod]

theorem epow_emul (a b : EE) (n : Nat) : epow (emul a b) n = emul (epow a n) (epow b n) := by
  induction n with
  | zero => exact (emul_one _).symm
  | succ n ih =>
    show emul (epow (emul a b) n) (emul a b) = emul (emul (epow a n) a) (emul (epow b n) b)
    rw [ih]
    generalize epow a n = x
    generalize epow b n = y
    simp only [emul, Prod.mk.injEq]
    constructor <;> first | grind | rfl | decide +kernel | (simp; done)

/-- The inverse of what isn't 0, modulo P. -/
theorem inverse (y : Nat) (h : y % P ≠ 0) : ∃ u, u * y % P = 1 := by
  refine ⟨y ^ (P - 2), ?_⟩
  rw [← Nat.pow_succ]
  have e : (P - 2).succ = P - 1 := by decide +kernel
  rw [e]
  exact lucasP.fermat y h

theorem frob (a : EE) : epow a P = (a.1, -a.2) := by
  obtain ⟨x, y⟩ := a
  rw [← toF_of_val x, ← toF_of_val y]
  generalize x.val = x
  generalize y.val = y
  by_cases hy : y % P = 0
  · have : toF y = 0 := Fin.ext hy
    rw [this, frob_real]
    simp only [Prod.mk.injEq]
    constructor <;> first | grind | rfl | decide +kernel | (simp; done)
  · obtain ⟨u, hu⟩ := inverse y hy
    have hu' : toF u * toF y = 1 := by rw [← toF_mul]; exact Fin.ext hu
    have e : ((toF x, toF y) : EE) = emul (toF y, 0) (toF (u * x), 1) := by
      simp only [emul, toF_mul, Prod.mk.injEq]
      constructor <;> first | grind | rfl | decide +kernel | (simp; done)
    rw [e, epow_emul, frob_real, frob_i]
    simp only [emul, toF_mul, Prod.mk.injEq]
    constructor <;> first | grind | rfl | decide +kernel | (simp; done)
theorem frob_conj (a : EE) : epow a P = econj a := by
  rw [frob]
  simp only [econj, toF_zero, Prod.mk.injEq]
  constructor <;> first | grind | rfl | decide +kernel | (simp; done)

/-! Inverses -/

theorem norm_val (a : EE) : (emul a (econj a)).1 = a.1 * a.1 + a.2 * a.2 := by
  simp only [emul, econj, toF_zero]
  grind
theorem norm_zero (a : EE) (h : (emul a (econj a)).1 = 0) : a = zeroE := by
  rw [norm_val] at h
  have h' := congrArg Fin.val h
  rw [Fin.val_add, Fin.val_mul, Fin.val_mul, ← Nat.add_mod] at h'
  have := squares (x := a.1.val) (y := a.2.val) h'
  rw [Nat.mod_eq_of_lt a.1.isLt, Nat.mod_eq_of_lt a.2.isLt] at this
  exact Prod.ext (Fin.ext this.1) (Fin.ext this.2)
theorem inv_of_norm (a : EE) (X : Fin P) (h : X * (emul a (econj a)).1 = 1) : emul (emul (econj a) (X, 0)) a = one := by
  rw [norm_val] at h
  simp only [emul, econj, one, toF_zero, toF_one, Prod.mk.injEq]
  constructor <;> first | grind | rfl | decide +kernel | (simp; done)
end Ob
namespace Ob
theorem Prime.gcd_one {p m : Nat} (hp : Prime p) (h : m % p ≠ 0) : Nat.gcd p m = 1 := by
  rcases hp.2 _ (Nat.gcd_dvd_left p m) with e | e
  · exact e
  · exfalso
    have hd := Nat.gcd_dvd_right p m
    rw [e] at hd
    exact h (Nat.mod_eq_zero_of_dvd hd)
end Ob
