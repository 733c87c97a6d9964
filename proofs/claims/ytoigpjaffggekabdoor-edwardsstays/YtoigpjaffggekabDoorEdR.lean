/-
  The points that numbers of 64 bits tell: Y, and whether X is odd.
-/
import Derived.Test.YtoigpjaffggekabDoorEdQ
import Derived.Test.YtoigpjaffggekabDoorEd5
namespace Ob
set_option linter.unusedVariables false
set_option linter.unusedSimpArgs false

/-- The number that a point's bytes tell. -/
def edN (u : Ep) : Nat := if u.1.val % 2 = 1 then u.2.val + 9223372036854775808 else u.2.val
theorem RE_small (x : Fin RE) : x.val < 288230376287764481 := x.isLt
theorem edN_lt (u : Ep) : edN u < 18446744073709551616 := by
  have := RE_small u.2
  unfold edN; split <;> omega
def lowY (n : Nat) : Nat := n % 9223372036854775808
def topO (n : Nat) : Nat := n / 9223372036854775808
theorem edN_low (u : Ep) : lowY (edN u) = u.2.val := by
  have := RE_small u.2
  unfold edN lowY; split <;> omega
theorem edN_top (u : Ep) : topO (edN u) = u.1.val % 2 := by
  have := RE_small u.2
  unfold edN topO; split <;> omega
theorem edN_of (u : Ep) (n : Nat) (h1 : u.2.val = lowY n) (h2 : u.1.val % 2 = topO n) (hn : n < 18446744073709551616) : edN u = n := by
  have := RE_small u.2
  unfold edN lowY topO at *
  split <;> omega
/-- The X that isn't above R / 2, of a number as Y. -/
def rtX (y : Nat) : Nat := root (gsqr (toG y)).val
theorem rtX_le {y : Nat} (h : Sq (gsqr (toG y)).val) : rtX y ≤ 144115188143882240 := (root_of_sq h).1
theorem rtX_lt {y : Nat} (h : Sq (gsqr (toG y)).val) : rtX y < RE := Nat.lt_of_le_of_lt (rtX_le h) (by decide)
theorem rtX_on {y : Nat} (h : Sq (gsqr (toG y)).val) : onG (toG (rtX y), toG y) := by
  refine (on_sqr _ _).mpr (Fin.ext ?_)
  rw [Fin.val_mul, toG_val, ← Nat.mul_mod]
  exact (root_of_sq h).2.trans (Nat.mod_eq_of_lt (gsqr (toG y)).isLt)
theorem rtX_zero {y : Nat} (h : Sq (gsqr (toG y)).val) : rtX y = 0 ↔ gsqr (toG y) = 0 := by
  have hv : (toG (rtX y)).val = rtX y := Nat.mod_eq_of_lt (rtX_lt h)
  constructor
  · intro e
    have := (on_sqr _ _).mp (rtX_on h)
    rw [e] at this
    rw [← this, show toG 0 = 0 from rfl]; grobner
  · intro e
    have := no_odd e (rtX_on h)
    rw [← hv, this]; rfl
/-- The X that is told. -/
def rdX (n : Nat) : Nat := if rtX (lowY n) % 2 = topO n then rtX (lowY n) else 288230376287764481 - rtX (lowY n)
/-- There is a point of which that number tells. -/
def Has (n : Nat) : Prop := lowY n < 288230376287764481 ∧ Sq (gsqr (toG (lowY n))).val ∧ (gsqr (toG (lowY n)) ≠ 0 ∨ topO n = 0)
theorem rd_yes {n : Nat} (hn : n < 18446744073709551616) (h : Has n) : ∃ u : Ep, onG u ∧ u.2.val = lowY n ∧ u.1.val % 2 = topO n ∧ u.1.val = rdX n := by
  obtain ⟨hy, hs, h0⟩ := h
  have ho : topO n < 2 := by unfold topO; omega
  have hyv : (toG (lowY n)).val = lowY n := Nat.mod_eq_of_lt hy
  have hv : (toG (rtX (lowY n))).val = rtX (lowY n) := Nat.mod_eq_of_lt (rtX_lt hs)
  have hon := rtX_on hs
  by_cases hp : rtX (lowY n) % 2 = topO n
  · refine ⟨_, hon, hyv, ?_, ?_⟩
    · show (toG (rtX (lowY n))).val % 2 = _
      rw [hv]; exact hp
    · show (toG (rtX (lowY n))).val = _
      rw [hv, rdX, if_pos hp]
  · have hx : toG (rtX (lowY n)) ≠ 0 := fun e => by
      have e0 : rtX (lowY n) = 0 := by rw [← hv, e]; rfl
      have := (rtX_zero hs).mp e0
      rcases h0 with h0 | h0
      · exact h0 this
      · rw [e0] at hp; omega
    refine ⟨_, on_opp hon, hyv, ?_, ?_⟩
    · show (0 - toG (rtX (lowY n))).val % 2 = _
      rw [Gneg_odd hx, hv]; omega
    · show (0 - toG (rtX (lowY n))).val = _
      rw [Gneg_val hx, hv, rdX, if_neg hp]
theorem rd_no {n : Nat} (hn : n < 18446744073709551616) (h : ¬ Has n) (hs : Sq (gsqr (toG (lowY n))).val) : isG (rdX n) (lowY n) = false := by
  cases hc : isG (rdX n) (lowY n) with
  | false => rfl
  | true =>
    exfalso
    apply h
    simp only [isG, Bool.and_eq_true, decide_eq_true_eq] at hc
    obtain ⟨⟨h1, h2⟩, _⟩ := hc
    refine ⟨h2, hs, ?_⟩
    by_cases h0 : gsqr (toG (lowY n)) = 0
    · refine Or.inr ?_
      have e0 := (rtX_zero hs).mpr h0
      rw [rdX, e0] at h1
      split at h1
      · omega
      · exact absurd h1 (by decide)
    · exact Or.inl h0
theorem rdX_lt {n : Nat} (hs : Sq (gsqr (toG (lowY n))).val) : rdX n < 18446744073709551616 := by
  have := rtX_le hs
  unfold rdX; split <;> omega
/-- A point's number tells it. -/
theorem has_edN {u : Ep} (hu : onG u) : Has (edN u) ∧ rdX (edN u) = u.1.val := by
  have hl := edN_low u
  have ht := edN_top u
  have hg : toG (lowY (edN u)) = u.2 := by rw [hl, toG_of_val]
  have hs : Sq (gsqr u.2).val := (Sq_on u.2).mpr ⟨u.1, hu⟩
  have hH : Has (edN u) := by
    refine ⟨by rw [hl]; exact RE_small _, by rw [hg]; exact hs, ?_⟩
    rw [hg, ht]
    by_cases h0 : gsqr u.2 = 0
    · refine Or.inr ?_
      rw [no_odd h0 hu]; rfl
    · exact Or.inl h0
  refine ⟨hH, ?_⟩
  obtain ⟨v, hv, h1, h2, h3⟩ := rd_yes (edN_lt u) hH
  rw [← h3]
  have e2 : v.2 = u.2 := Fin.ext (by rw [h1, hl])
  have hv' : onG (v.1, u.2) := by rw [← e2]; exact hv
  rw [on_one hv' hu (by rw [h2, ht])]
/-- The point of a Y whose X isn't above R / 2. -/
def lowP (y : Nat) : Ep := (toG (rtX y), toG y)
/-- It is there, and four times it isn't 0. -/
def Good (y : Nat) : Prop := Sq (gsqr (toG y)).val ∧ gsqr (toG y) ≠ 0 ∧ toG y ≠ 0
theorem good_four {y : Nat} (h : Sq (gsqr (toG y)).val) : gmul (lowP y) 4 ≠ gzero ↔ Good y := by
  show ¬ gmul (toG (rtX y), toG y) 4 = gzero ↔ _
  rw [four_zero (rtX_on h)]
  have hv : (toG (rtX y)).val = rtX y := Nat.mod_eq_of_lt (rtX_lt h)
  have hz : toG (rtX y) = 0 ↔ gsqr (toG y) = 0 := by
    rw [← rtX_zero h]
    constructor
    · intro e; rw [← hv, e]; rfl
    · intro e; rw [e]; rfl
  show ¬ (toG (rtX y) = 0 ∨ toG y = 0) ↔ _
  rw [hz]
  unfold Good
  constructor
  · intro hh; exact ⟨h, fun e => hh (Or.inl e), fun e => hh (Or.inr e)⟩
  · rintro ⟨_, h1, h2⟩ (e | e)
    · exact h1 e
    · exact h2 e
end Ob
namespace Ob
/-- The same, reckoned. -/
def goodB (y : Nat) : Bool := (decide ((gsqr (toG y)).val % R = 0) || decide ((gsqr (toG y)).val ^ ((R - 1) / 2) % R = 1)) && (decide (gsqr (toG y) ≠ 0) && decide (toG y ≠ 0))
theorem goodB_iff (y : Nat) : goodB y = true ↔ Good y := by
  unfold goodB Good Sq
  simp only [Bool.and_eq_true, Bool.or_eq_true, decide_eq_true_eq]
theorem good_of {y : Nat} (h : goodB y = true) : Good y := (goodB_iff y).mp h
theorem good_not {y : Nat} (h : goodB y = false) : ¬ Good y := fun g => by rw [(goodB_iff y).mpr g] at h; cases h
/-- The first of m numbers, from the k-th on, of which there is a found point. -/
def firstG (Y : Nat → Nat) : Nat → Nat → Option Nat
  | 0, _ => none
  | m + 1, k => if goodB (Y k) then some k else firstG Y m (k + 1)
theorem firstG_yes (Y : Nat → Nat) (m k : Nat) (hm : m = (m - 1) + 1) (h : goodB (Y k) = true) : firstG Y m k = some k := by
  rw [hm, firstG, if_pos h]
theorem firstG_no (Y : Nat → Nat) (m k : Nat) (hm : m = (m - 1) + 1) (h : goodB (Y k) = false) : firstG Y m k = firstG Y (m - 1) (k + 1) := by
  rw [hm, firstG, if_neg (by rw [h]; decide)]
  rfl
theorem firstG_good (Y : Nat → Nat) : ∀ m k j, firstG Y m k = some j → goodB (Y j) = true
  | 0, _, _, h => by cases h
  | m + 1, k, j, h => by
    rw [firstG] at h
    split at h
    · rename_i hg; cases h; exact hg
    · exact firstG_good Y m (k + 1) j h
theorem firstG_congr {Y Z : Nat → Nat} (h : ∀ k, Y k = Z k) : ∀ m k, firstG Y m k = firstG Z m k
  | 0, _ => rfl
  | m + 1, k => by rw [firstG, firstG, h, firstG_congr h m (k + 1)]
end Ob
