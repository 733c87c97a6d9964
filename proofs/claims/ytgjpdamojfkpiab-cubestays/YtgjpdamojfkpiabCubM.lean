/-
  Cubes modulo R: each number is the cube of just one; numbers turned by keys, their hashes.
-/
import Derived.Test.YtgjpdamojfkpiabEdN
namespace Ob
set_option linter.unusedVariables false
set_option linter.unusedSimpArgs false

def cubG (x : Fin RE) : Fin RE := x * (x * x)
/-- The number whose cube it is. -/
def thirdG (x : Fin RE) : Fin RE := gpow x 192153584191842987
theorem gpow_zero_pos : ∀ n, 0 < n → gpow (0 : Fin RE) n = 0
  | 0, h => by omega
  | n + 1, _ => by show gpow 0 n * 0 = 0; generalize gpow (0 : Fin RE) n = t; grobner
theorem gpow_mul3 (x : Fin RE) (n : Nat) : gpow x n * (gpow x n * gpow x n) = gpow x (n + (n + n)) := by
  rw [gpow_add, gpow_add]
theorem gpow_cub (x : Fin RE) (n : Nat) : gpow (cubG x) n = gpow x n * (gpow x n * gpow x n) := by
  induction n with
  | zero => show (1 : Fin RE) = 1 * (1 * 1); grobner
  | succ n ih =>
    show gpow (cubG x) n * cubG x = gpow x n * x * (gpow x n * x * (gpow x n * x))
    rw [ih]; unfold cubG; generalize gpow x n = t; grobner
theorem third_pow (x : Fin RE) {E : Nat} (hE : E = (RE - 1) + ((RE - 1) + 1)) : gpow x E = x := by
  by_cases h : x = 0
  · subst h; exact gpow_zero_pos E (by rw [hE]; omega)
  · have hf := fermatG x h
    rw [hE, gpow_add, gpow_add, hf]
    show (1 : Fin RE) * (1 * (gpow x 0 * x)) = x
    show (1 : Fin RE) * (1 * (1 * x)) = x
    grobner
theorem cub_third (x : Fin RE) : cubG (thirdG x) = x := by
  show thirdG x * (thirdG x * thirdG x) = x
  unfold thirdG
  rw [gpow_mul3]
  exact third_pow x (by decide)
theorem third_cub (x : Fin RE) : thirdG (cubG x) = x := by
  unfold thirdG
  rw [gpow_cub, gpow_mul3]
  exact third_pow x (by decide)
theorem cub_inj {x y : Fin RE} (h : cubG x = cubG y) : x = y := by
  rw [← third_cub x, ← third_cub y, h]
theorem third_of (a E : Nat) (hE : E = 192153584191842987) : pow RE a E = (thirdG (toG a)).val := by
  have h : (thirdG (toG a)).val = (toG a).val ^ E % RE := by
    unfold thirdG
    rw [← hE]
    exact gpow_val _ E
  rw [h, toG_val, ← Nat.pow_mod, pow_yes modRE]
attribute [irreducible] thirdG
/-- A round, and its undoing. -/
def rndG (k c x : Fin RE) : Fin RE := cubG (x + (k + c))
def unrG (k c y : Fin RE) : Fin RE := thirdG y - (k + c)
theorem unr_rnd (k c x : Fin RE) : unrG k c (rndG k c x) = x := by
  unfold unrG rndG
  rw [third_cub]
  grobner
theorem rnd_unr (k c y : Fin RE) : rndG k c (unrG k c y) = y := by
  unfold unrG rndG
  have : thirdG y - (k + c) + (k + c) = thirdG y := by generalize thirdG y = t; grobner
  rw [this, cub_third]
/-- Turned by a key, and back. -/
def turnG (k x : Fin RE) : Fin RE := rndG k 343 (rndG k 49 (rndG k 7 x)) + k
def backG (k y : Fin RE) : Fin RE := unrG k 7 (unrG k 49 (unrG k 343 (y - k)))
theorem back_turn (k x : Fin RE) : backG k (turnG k x) = x := by
  unfold backG turnG
  have : rndG k 343 (rndG k 49 (rndG k 7 x)) + k - k = rndG k 343 (rndG k 49 (rndG k 7 x)) := by generalize rndG k 343 (rndG k 49 (rndG k 7 x)) = t; grobner
  rw [this, unr_rnd, unr_rnd, unr_rnd]
theorem turn_back (k y : Fin RE) : turnG k (backG k y) = y := by
  unfold backG turnG
  rw [rnd_unr, rnd_unr, rnd_unr]
  grobner
theorem turn_inj {k x y : Fin RE} (h : turnG k x = turnG k y) : x = y := by
  rw [← back_turn k x, ← back_turn k y, h]
/-- The hash of two, and of a list's first m numbers. -/
def twoG (a b : Fin RE) : Fin RE := turnG a b + (a + b)
def headG (s : Fin RE) (l : Nat → Fin RE) : Nat → Fin RE
  | 0 => s
  | m + 1 => twoG (headG s l m) (l m)
theorem headG_congr (s : Fin RE) {l l' : Nat → Fin RE} : ∀ m, (∀ i, i < m → l i = l' i) → headG s l m = headG s l' m
  | 0, _ => rfl
  | m + 1, h => by rw [headG, headG, headG_congr s m (fun i hi => h i (by omega)), h m (by omega)]
/-- Two lists of one hash, the same behind place i: the hashes behind it are the same. -/
theorem headG_back (s : Fin RE) (l l' : Nat → Fin RE) (m : Nat) (h : headG s l m = headG s l' m) : ∀ d, d ≤ m → (∀ i, m - d ≤ i → i < m → headG s l i = headG s l' i ∧ l i = l' i) → headG s l (m - d) = headG s l' (m - d)
  | 0, _, _ => h
  | d + 1, hd, hs => (hs (m - (d + 1)) (Nat.le_refl _) (by omega)).1
end Ob
