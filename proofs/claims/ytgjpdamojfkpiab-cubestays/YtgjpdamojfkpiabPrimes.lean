/-
  The primes of the program: R, P and S, each by Lucas.
-/
import Derived.Test.YtgjpdamojfkpiabPrime
namespace Ob

def R : Nat := 288230376287764481

/-- a to the e modulo N, by squaring: for the kernel to reckon. -/
def powm (N : Nat) : Nat → Nat → Nat → Nat
  | 0, _, _ => 1 % N
  | f + 1, a, e => if e = 0 then 1 % N else if e % 2 = 0 then powm N f (a * a % N) (e / 2) else a * powm N f (a * a % N) (e / 2) % N

theorem powm_eq (N : Nat) : ∀ (f a e : Nat), e < 2 ^ f → powm N f a e = a ^ e % N
  | 0, a, e, h => by
    have : e = 0 := by simpa using h
    subst this
    simp [powm]
  | f + 1, a, e, h => by
    unfold powm
    by_cases h0 : e = 0
    · rw [if_pos h0, h0, Nat.pow_zero]
    · rw [if_neg h0]
      have ih := powm_eq N f (a * a % N) (e / 2) (by rw [Nat.pow_succ] at h; omega)
      by_cases h1 : e % 2 = 0
      · rw [if_pos h1, ih]
        have := pow_even N 1 a e h1
        rw [Nat.one_mul, Nat.one_mul] at this
        exact this
      · rw [if_neg h1, ih, mul_mod_right]
        have := pow_odd N 1 a e (by omega)
        rw [Nat.one_mul, Nat.one_mul, mul_mod_left] at this
        exact this

theorem prime2 : Prime 2 := prime_of_trial 2 1 (by decide) (by decide) (by decide +kernel)
theorem prime5 : Prime 5 := prime_of_trial 5 2 (by decide) (by decide) (by decide +kernel)
theorem prime587 : Prime 587 := prime_of_trial 587 24 (by decide) (by decide) (by decide +kernel)
theorem prime619 : Prime 619 := prime_of_trial 619 24 (by decide) (by decide) (by decide +kernel)
theorem prime769 : Prime 769 := prime_of_trial 769 27 (by decide) (by decide) (by decide +kernel)
theorem prime787 : Prime 787 := prime_of_trial 787 28 (by decide) (by decide) (by decide +kernel)

theorem pow_of_powm {N a e r : Nat} (h : e < 2 ^ 64) (hr : powm N 64 a e = r) : a ^ e % N = r := by rw [← powm_eq N 64 a e h]; exact hr

theorem R_sub : R - 1 = 2 ^ 18 * 5 * 587 * 619 * 769 * 787 := by decide +kernel

theorem lucasR : Lucas R 3 where
  two := by decide +kernel
  one := pow_of_powm (by decide +kernel) (by decide +kernel)
  ne := by
    intro q hq hd
    rw [R_sub] at hd
    have h : q = 2 ∨ q = 5 ∨ q = 587 ∨ q = 619 ∨ q = 769 ∨ q = 787 := by
      rcases hq.dvd_mul hd with hd | hd
      · rcases hq.dvd_mul hd with hd | hd
        · rcases hq.dvd_mul hd with hd | hd
          · rcases hq.dvd_mul hd with hd | hd
            · rcases hq.dvd_mul hd with hd | hd
              · exact Or.inl (hq.eq_of_dvd prime2 (hq.dvd_pow hd))
              · exact Or.inr (Or.inl (hq.eq_of_dvd prime5 hd))
            · exact Or.inr (Or.inr (Or.inl (hq.eq_of_dvd prime587 hd)))
          · exact Or.inr (Or.inr (Or.inr (Or.inl (hq.eq_of_dvd prime619 hd))))
        · exact Or.inr (Or.inr (Or.inr (Or.inr (Or.inl (hq.eq_of_dvd prime769 hd)))))
      · exact Or.inr (Or.inr (Or.inr (Or.inr (Or.inr (hq.eq_of_dvd prime787 hd)))))
    have ne : ∀ k, (R - 1) / k < 2 ^ 64 → powm R 64 3 ((R - 1) / k) ≠ 1 → 3 ^ ((R - 1) / k) % R ≠ 1 := fun k h1 h2 h3 => h2 (by rw [powm_eq R 64 3 _ h1]; exact h3)
    rcases h with h | h | h | h | h | h
    all_goals
      subst h
      exact ne _ (by decide +kernel) (by decide +kernel)

theorem primeR : Prime R := lucasR.prime
end Ob
