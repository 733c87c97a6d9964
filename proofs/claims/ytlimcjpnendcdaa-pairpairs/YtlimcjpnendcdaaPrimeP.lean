/-
  P is prime, by Lucas.
-/
import Derived.Test.YtlimcjpnendcdaaPrimes
import Derived.Test.YtlimcjpnendcdaaExt
namespace Ob
set_option linter.unusedVariables false
set_option linter.unusedSimpArgs false

theorem prime3 : Prime 3 := prime_of_trial 3 1 (by decide) (by decide) (by decide +kernel)
theorem prime7 : Prime 7 := prime_of_trial 7 2 (by decide) (by decide) (by decide +kernel)
theorem prime1879 : Prime 1879 := prime_of_trial 1879 43 (by decide) (by decide) (by decide +kernel)
theorem prime1368181 : Prime 1368181 := prime_of_trial 1368181 1170 (by decide) (by decide) (by decide +kernel)
theorem prime3559253 : Prime 3559253 := prime_of_trial 3559253 1887 (by decide) (by decide) (by decide +kernel)

theorem P_sub : P - 1 = 2 * 3 ^ 2 * 7 * 1879 * 1368181 * 3559253 := by decide +kernel

theorem lucasP : Lucas P 2 where
  two := by decide +kernel
  one := pow_of_powm (by decide +kernel) (by decide +kernel)
  ne := by
    intro q hq hd
    rw [P_sub] at hd
    have h : q = 2 ∨ q = 3 ∨ q = 7 ∨ q = 1879 ∨ q = 1368181 ∨ q = 3559253 := by
      rcases hq.dvd_mul hd with hd | hd
      · rcases hq.dvd_mul hd with hd | hd
        · rcases hq.dvd_mul hd with hd | hd
          · rcases hq.dvd_mul hd with hd | hd
            · rcases hq.dvd_mul hd with hd | hd
              · exact Or.inl (hq.eq_of_dvd prime2 hd)
              · exact Or.inr (Or.inl (hq.eq_of_dvd prime3 (hq.dvd_pow hd)))
            · exact Or.inr (Or.inr (Or.inl (hq.eq_of_dvd prime7 hd)))
          · exact Or.inr (Or.inr (Or.inr (Or.inl (hq.eq_of_dvd prime1879 hd))))
        · exact Or.inr (Or.inr (Or.inr (Or.inr (Or.inl (hq.eq_of_dvd prime1368181 hd)))))
      · exact Or.inr (Or.inr (Or.inr (Or.inr (Or.inr (hq.eq_of_dvd prime3559253 hd)))))
    have ne : ∀ k, (P - 1) / k < 2 ^ 64 → powm P 64 2 ((P - 1) / k) ≠ 1 → 2 ^ ((P - 1) / k) % P ≠ 1 := fun k h1 h2 h3 => h2 (by rw [powm_eq P 64 2 _ h1]; exact h3)
    rcases h with h | h | h | h | h | h
    all_goals
      subst h
      exact ne _ (by decide +kernel) (by decide +kernel)

theorem primeP : Prime P := lucasP.prime

/-- A sum of two squares is 0 for two zeros alone: -1 has no root. -/
theorem squares {x y : Nat} (h : (x * x + y * y) % P = 0) : x % P = 0 ∧ y % P = 0 := by
  have hx0 : x % P = 0 → y % P = 0 := fun e => by
    have e1 : x * x % P = 0 := by rw [Nat.mul_mod, e, Nat.zero_mul, Nat.zero_mod]
    rw [Nat.add_mod, e1, Nat.zero_add, Nat.mod_mod] at h
    rcases primeP.dvd_mul (Nat.dvd_of_mod_eq_zero h) with h | h <;> exact Nat.mod_eq_zero_of_dvd h
  have hy0 : y % P = 0 → x % P = 0 := fun e => by
    have e1 : y * y % P = 0 := by rw [Nat.mul_mod, e, Nat.zero_mul, Nat.zero_mod]
    rw [Nat.add_mod, e1, Nat.add_zero, Nat.mod_mod] at h
    rcases primeP.dvd_mul (Nat.dvd_of_mod_eq_zero h) with h | h <;> exact Nat.mod_eq_zero_of_dvd h
  by_cases hx : x % P = 0
  · exact ⟨hx, hx0 hx⟩
  by_cases hy : y % P = 0
  · exact ⟨hy0 hy, hy⟩
  exfalso
  obtain ⟨H, hH⟩ : ∃ H, H = (P - 1) / 2 := ⟨_, rfl⟩
  have h2 : 2 * H = P - 1 := by rw [hH]; decide +kernel
  have fx := lucasP.fermat x hx
  have fy := lucasP.fermat y hy
  rw [← h2, Nat.pow_mul, Nat.pow_two] at fx fy
  have e : x * x % P = (P - 1) * (y * y) % P := by
    have hp : 0 < P := P_pos
    have e1 : (x * x + y * y + (P - 1) * (y * y)) % P = (P - 1) * (y * y) % P := by rw [Nat.add_mod, h, Nat.zero_add, Nat.mod_mod]
    have e2 : x * x + y * y + (P - 1) * (y * y) = x * x + P * (y * y) := by
      obtain ⟨Q, hQ⟩ : ∃ Q, P = Q + 1 := ⟨P - 1, by omega⟩
      rw [hQ, Nat.add_sub_cancel, Nat.add_mul, Nat.one_mul]
      omega
    rw [e2, Nat.add_mul_mod_self_left] at e1
    exact e1
  have e3 : ((P - 1) * (y * y)) ^ H % P = 1 := by rw [Nat.pow_mod, ← e, ← Nat.pow_mod]; exact fx
  rw [Nat.mul_pow, Nat.mul_mod, fy, Nat.mul_one, Nat.mod_mod, hH] at e3
  have e4 : (P - 1) ^ ((P - 1) / 2) % P = P - 1 := pow_of_powm (by decide +kernel) (by decide +kernel)
  rw [e4] at e3
  exact absurd e3 (by decide +kernel)
end Ob
