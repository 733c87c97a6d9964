/-
  Primes, without any library: trial division, Euclid's lemma, and Lucas: where a number's powers modulo N come back to 1 at N - 1 and not ahead of it, N is a prime, and each number that N does not divide is one of those powers.
-/
import Derived.Test.YtgjpdamojfkpiabNum
namespace Ob

def Prime (p : Nat) : Prop := 2 ≤ p ∧ ∀ d, d ∣ p → d = 1 ∨ d = p

/-- Euclid's lemma. -/
theorem Prime.dvd_mul {p a b : Nat} (hp : Prime p) (h : p ∣ a * b) : p ∣ a ∨ p ∣ b := by
  rcases hp.2 (Nat.gcd p a) (Nat.gcd_dvd_left p a) with h1 | h1
  · exact Or.inr (Nat.Coprime.dvd_of_dvd_mul_left h1 h)
  · exact Or.inl (h1 ▸ Nat.gcd_dvd_right p a)

theorem Prime.dvd_pow {p a : Nat} (hp : Prime p) : ∀ {e : Nat}, p ∣ a ^ e → p ∣ a
  | 0, h => by
    have := Nat.le_of_dvd (by simp) h
    have := hp.1
    simp at *
    omega
  | e + 1, h => by
    rw [Nat.pow_succ] at h
    rcases hp.dvd_mul h with h | h
    · exact hp.dvd_pow h
    · exact h

theorem Prime.eq_of_dvd {p q : Nat} (hp : Prime p) (hq : Prime q) (h : p ∣ q) : p = q := by
  rcases hq.2 p h with h | h
  · have := hp.1; omega
  · exact h

/-- No divisor from 2 to s. -/
def noDiv (p : Nat) : Nat → Bool
  | 0 => true
  | s + 1 => noDiv p s && (s + 1 < 2 || p % (s + 1) != 0)

theorem noDiv_spec (p : Nat) : ∀ (s : Nat), noDiv p s = true → ∀ d, 2 ≤ d → d ≤ s → ¬ d ∣ p
  | 0, _, d, h1, h2 => by omega
  | s + 1, h, d, h1, h2 => by
    simp only [noDiv, Bool.and_eq_true, Bool.or_eq_true, decide_eq_true_eq, bne_iff_ne, ne_eq] at h
    rcases Nat.lt_or_ge d (s + 1) with h3 | h3
    · exact noDiv_spec p s h.1 d h1 (by omega)
    · have e : d = s + 1 := by omega
      subst e
      intro hd
      rcases h.2 with h4 | h4
      · omega
      · exact h4 (Nat.mod_eq_zero_of_dvd hd)

/-- Trial division: s times s is above p. -/
theorem prime_of_trial (p s : Nat) (h2 : 2 ≤ p) (hs : p < (s + 1) * (s + 1)) (h : noDiv p s = true) : Prime p := by
  refine ⟨h2, fun d hd => ?_⟩
  rcases Nat.eq_zero_or_pos d with h0 | h0
  · subst h0; have := Nat.eq_zero_of_zero_dvd hd; omega
  obtain ⟨c, hc⟩ := hd
  have hcp : 0 < c := by
    rcases Nat.eq_zero_or_pos c with e | e
    · subst e; simp at hc; omega
    · exact e
  by_cases h1 : d = 1
  · exact Or.inl h1
  refine Or.inr ?_
  by_cases hc1 : c = 1
  · subst hc1; omega
  exfalso
  rcases Nat.lt_or_ge s d with hd | hd
  · rcases Nat.lt_or_ge s c with hc' | hc'
    · have : (s + 1) * (s + 1) ≤ d * c := Nat.mul_le_mul hd hc'
      omega
    · exact noDiv_spec p s h c (by omega) hc' ⟨d, by rw [hc, Nat.mul_comm]⟩
  · exact noDiv_spec p s h d (by omega) hd ⟨c, hc⟩

/-- Every number above 1 has a prime divisor. -/
theorem exists_prime : ∀ (n : Nat), 2 ≤ n → ∃ p, Prime p ∧ p ∣ n := by
  intro n
  induction n using Nat.strongRecOn with
  | ind n ih =>
    intro h
    by_cases hp : ∀ d, d ∣ n → d = 1 ∨ d = n
    · exact ⟨n, ⟨h, hp⟩, Nat.dvd_refl n⟩
    · obtain ⟨d, hd⟩ := Classical.not_forall.mp hp
      have ⟨hd1, hd2⟩ := Classical.not_imp.mp hd
      have hle := Nat.le_of_dvd (by omega) hd1
      have hpos := Nat.pos_of_dvd_of_pos hd1 (by omega)
      have h3 : d ≠ 1 ∧ d ≠ n := ⟨fun e => hd2 (Or.inl e), fun e => hd2 (Or.inr e)⟩
      obtain ⟨p, hp1, hp2⟩ := ih d (by omega) (by omega)
      exact ⟨p, hp1, Nat.dvd_trans hp2 hd1⟩

/-- A map of [0, n) into itself that keeps apart meets every number. -/
theorem pigeon : ∀ (n : Nat) (f : Nat → Nat), (∀ i, i < n → f i < n) → (∀ i j, i < n → j < n → f i = f j → i = j) → ∀ y, y < n → ∃ i, i < n ∧ f i = y
  | 0, _, _, _, y, hy => by omega
  | n + 1, f, hf, hi, y, hy => by
    have hv := hf n (by omega)
    let g : Nat → Nat := fun i => if f i = n then f n else f i
    have hg : ∀ i, i < n → g i < n := by
      intro i h
      show (if f i = n then f n else f i) < n
      split
      · rename_i e
        have : f n ≠ n := fun e2 => by have := hi i n (by omega) (by omega) (by rw [e, e2]); omega
        omega
      · have := hf i (by omega); omega
    have hgi : ∀ i j, i < n → j < n → g i = g j → i = j := by
      intro i j h1 h2 h
      simp only [g] at h
      split at h <;> split at h
      · rename_i e1 e2; exact hi i j (by omega) (by omega) (by rw [e1, e2])
      · have := hi n j (by omega) (by omega) h; omega
      · have := hi i n (by omega) (by omega) h; omega
      · exact hi i j (by omega) (by omega) h
    have ih := pigeon n g hg hgi
    by_cases e1 : y = f n
    · exact ⟨n, by omega, e1.symm⟩
    by_cases e2 : y = n
    · obtain ⟨i, h1, h2⟩ := ih (f n) (by omega)
      simp only [g] at h2
      split at h2
      · rename_i e3; exact ⟨i, by omega, by rw [e3, e2]⟩
      · have := hi i n (by omega) (by omega) h2; omega
    · obtain ⟨i, h1, h2⟩ := ih y (by omega)
      simp only [g] at h2
      split at h2
      · exact absurd h2.symm e1
      · exact ⟨i, by omega, h2⟩

theorem pow_add_mod (g i j N : Nat) : g ^ (i + j) % N = (g ^ i % N) * (g ^ j % N) % N := by rw [Nat.pow_add, Nat.mul_mod]

/-- Where a power is 1 at two exponents it is at their greatest common divisor. -/
theorem pow_gcd {g N : Nat} (hN : 2 ≤ N) : ∀ (b a : Nat), g ^ a % N = 1 → g ^ b % N = 1 → g ^ Nat.gcd b a % N = 1 := by
  intro b
  induction b using Nat.strongRecOn with
  | ind b ih =>
    intro a ha hb
    rcases Nat.eq_zero_or_pos b with h0 | h0
    · subst h0; rw [Nat.gcd_zero_left]; exact ha
    · rw [Nat.gcd_rec]
      refine ih (a % b) (Nat.mod_lt _ h0) b hb ?_
      have h1 : g ^ (b * (a / b)) % N = 1 := by
        rw [Nat.pow_mul, Nat.pow_mod, hb, Nat.one_pow, Nat.mod_eq_of_lt (by omega)]
      have h2 := ha
      rw [← Nat.div_add_mod a b, pow_add_mod, h1, Nat.one_mul, Nat.mod_mod] at h2
      exact h2

/-- What Lucas asks: g to the N - 1 is 1, and to no (N - 1) / q, for all primes q that divide N - 1. -/
structure Lucas (N g : Nat) : Prop where
  two : 2 ≤ N
  one : g ^ (N - 1) % N = 1
  ne : ∀ q, Prime q → q ∣ N - 1 → g ^ ((N - 1) / q) % N ≠ 1

theorem Lucas.order {N g : Nat} (h : Lucas N g) (k : Nat) (hk : g ^ k % N = 1) : N - 1 ∣ k := by
  have hd := pow_gcd h.two k (N - 1) h.one hk
  have hdv : Nat.gcd k (N - 1) ∣ N - 1 := Nat.gcd_dvd_right _ _
  obtain ⟨c, hc⟩ := hdv
  have h2 := h.two
  have hcp : 0 < c := by
    rcases Nat.eq_zero_or_pos c with e | e
    · subst e; simp at hc; omega
    · exact e
  by_cases hc1 : c = 1
  · subst hc1
    rw [Nat.mul_one] at hc
    rw [hc]
    exact Nat.gcd_dvd_left _ _
  · exfalso
    obtain ⟨q, hq, e, he⟩ := exists_prime c (by omega)
    have hqp : 0 < q := by have := hq.1; omega
    have hqd : q ∣ N - 1 := ⟨Nat.gcd k (N - 1) * e, by rw [Nat.mul_left_comm, ← he]; exact hc⟩
    refine h.ne q hq hqd ?_
    have e2 : (N - 1) / q = Nat.gcd k (N - 1) * e := by
      have : N - 1 = q * (Nat.gcd k (N - 1) * e) := by rw [Nat.mul_left_comm, ← he]; exact hc
      exact Nat.div_eq_of_eq_mul_right hqp this
    rw [e2, Nat.pow_mul, Nat.pow_mod, hd, Nat.one_pow, Nat.mod_eq_of_lt (by omega)]

theorem Lucas.undo {N g : Nat} (h : Lucas N g) (i : Nat) (hi : i ≤ N - 1) : (g ^ i % N) * (g ^ (N - 1 - i) % N) % N = 1 := by
  rw [← pow_add_mod]
  have : i + (N - 1 - i) = N - 1 := by omega
  rw [this]
  exact h.one

theorem Lucas.pos {N g : Nat} (h : Lucas N g) (i : Nat) (hi : i ≤ N - 1) : 1 ≤ g ^ i % N := by
  rcases Nat.eq_zero_or_pos (g ^ i % N) with e | e
  · have := h.undo i hi
    rw [e, Nat.zero_mul, Nat.zero_mod] at this
    omega
  · exact e

theorem Lucas.apart {N g : Nat} (h : Lucas N g) (i j : Nat) (hij : i ≤ j) (hj : j < N - 1) (e : g ^ i % N = g ^ j % N) : i = j := by
  have h1 : g ^ (j - i) % N = 1 := by
    have a1 := h.undo i (by omega)
    have a2 : g ^ (j - i) % N = g ^ (j - i) * 1 % N := by rw [Nat.mul_one]
    rw [a2, Nat.mul_mod, ← a1, Nat.mod_mod]
    have a3 : (g ^ (j - i) % N) * ((g ^ i % N) * (g ^ (N - 1 - i) % N) % N) % N = (g ^ j % N) * (g ^ (N - 1 - i) % N) % N := by
      have a4 : g ^ j % N = (g ^ (j - i) % N) * (g ^ i % N) % N := by
        rw [← pow_add_mod]
        have : j - i + i = j := by omega
        rw [this]
      rw [a4]
      generalize g ^ (j - i) % N = A
      generalize g ^ i % N = B
      generalize g ^ (N - 1 - i) % N = C
      rw [mul_mod_left, mul_mod_right, Nat.mul_assoc]
    rw [a3, ← e]
  have := h.order _ h1
  rcases Nat.eq_zero_or_pos (j - i) with e0 | e0
  · omega
  · have := Nat.le_of_dvd e0 this
    omega

/-- Each number from 1 to N - 1 is a power of g. -/
theorem Lucas.all {N g : Nat} (h : Lucas N g) (y : Nat) (h1 : 1 ≤ y) (h2 : y < N) : ∃ i, i < N - 1 ∧ g ^ i % N = y := by
  have hN := h.two
  obtain ⟨i, hi, he⟩ := pigeon (N - 1) (fun i => g ^ i % N - 1)
    (fun i hi => by have := Nat.mod_lt (g ^ i) (show 0 < N by omega); have := h.pos i (by omega); show g ^ i % N - 1 < N - 1; omega)
    (fun i j hi hj e => by
      have e' : g ^ i % N = g ^ j % N := by have := h.pos i (by omega); have := h.pos j (by omega); have e2 : g ^ i % N - 1 = g ^ j % N - 1 := e; omega
      rcases Nat.le_total i j with hij | hij
      · exact h.apart i j hij hj e'
      · exact (h.apart j i hij hi e'.symm).symm) (y - 1) (by omega)
  refine ⟨i, hi, ?_⟩
  have := h.pos i (by omega)
  have he2 : g ^ i % N - 1 = y - 1 := he
  omega

theorem Lucas.prime {N g : Nat} (h : Lucas N g) : Prime N := by
  refine ⟨h.two, fun d hd => ?_⟩
  have hN := h.two
  have hle := Nat.le_of_dvd (by omega) hd
  have hpos := Nat.pos_of_dvd_of_pos hd (by omega)
  rcases Nat.lt_or_ge d N with hlt | hge
  · refine Or.inl ?_
    obtain ⟨i, hi, he⟩ := h.all d hpos hlt
    have hu := h.undo i (by omega)
    rw [he] at hu
    have h1 : d ∣ d * (g ^ (N - 1 - i) % N) % N := (Nat.dvd_mod_iff hd).mpr ⟨_, rfl⟩
    rw [hu] at h1
    exact Nat.dvd_one.mp h1
  · exact Or.inr (by omega)

/-- Fermat. -/
theorem Lucas.fermat {N g : Nat} (h : Lucas N g) (a : Nat) (ha : a % N ≠ 0) : a ^ (N - 1) % N = 1 := by
  have hN := h.two
  obtain ⟨i, hi, he⟩ := h.all (a % N) (by omega) (Nat.mod_lt _ (by omega))
  rw [Nat.pow_mod, ← he, ← Nat.pow_mod, ← Nat.pow_mul, Nat.mul_comm, Nat.pow_mul, Nat.pow_mod, h.one, Nat.one_pow, Nat.mod_eq_of_lt (by omega)]

/-- A number whose square is 1 modulo a prime is 1 or -1. -/
theorem Prime.square_one {p y : Nat} (hp : Prime p) (hy : y < p) (h : y * y % p = 1) : y = 1 ∨ y = p - 1 := by
  have hp2 := hp.1
  rcases Nat.eq_zero_or_pos y with h0 | h0
  · subst h0; simp at h
  have hdv : p ∣ (y - 1) * (y + 1) := by
    have e : (y - 1) * (y + 1) + 1 = y * y := by
      obtain ⟨z, rfl⟩ : ∃ z, y = z + 1 := ⟨y - 1, by omega⟩
      simp only [Nat.add_sub_cancel]
      grind
    have hle : 1 ≤ y * y := Nat.mul_pos h0 h0
    have : p ∣ y * y - 1 := Nat.dvd_of_mod_eq_zero (Nat.sub_mod_eq_zero_of_mod_eq (by rw [h, Nat.mod_eq_of_lt (by omega)]))
    have e2 : (y - 1) * (y + 1) = y * y - 1 := by omega
    rw [e2]
    exact this
  rcases hp.dvd_mul hdv with h1 | h1
  · left
    rcases Nat.eq_zero_or_pos (y - 1) with e | e
    · omega
    · have := Nat.le_of_dvd e h1; omega
  · right
    have := Nat.le_of_dvd (by omega) h1
    omega
end Ob
