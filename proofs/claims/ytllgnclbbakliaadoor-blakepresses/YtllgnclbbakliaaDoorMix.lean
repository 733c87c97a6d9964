/-
  Words of 32 bits as plain numbers: sums, rolling, mixing, pressing.
-/
namespace Ob
set_option linter.unusedVariables false
set_option linter.unusedSimpArgs false

def upd (v : Nat → Nat) (i z : Nat) : Nat → Nat := fun j => if j = i then z else v j
theorem upd_same (v : Nat → Nat) (i z : Nat) : upd v i z i = z := if_pos rfl
theorem upd_ne (v : Nat → Nat) {i j : Nat} (z : Nat) (h : j ≠ i) : upd v i z j = v j := if_neg h
def s32 (x y : Nat) : Nat := (x + y) % 4294967296
/-- Rolled to the right. -/
def rot (x n : Nat) : Nat := x / 2 ^ n + x % 2 ^ n * 2 ^ (32 - n)
theorem s32_lt (x y : Nat) : s32 x y < 4294967296 := Nat.mod_lt _ (by decide)
theorem rot_lt {x n : Nat} (hx : x < 4294967296) (hn : n ≤ 32) : rot x n < 4294967296 := by
  unfold rot
  have hp : 0 < 2 ^ n := Nat.two_pow_pos n
  have e : (2 : Nat) ^ n * 2 ^ (32 - n) = 4294967296 := by rw [← Nat.pow_add, Nat.add_sub_cancel' hn]
  have h1 : x / 2 ^ n < 2 ^ (32 - n) := Nat.div_lt_of_lt_mul (by rw [e]; exact hx)
  have h2 : x % 2 ^ n + 1 ≤ 2 ^ n := Nat.mod_lt _ hp
  have h3 : (x % 2 ^ n + 1) * 2 ^ (32 - n) ≤ 4294967296 := by rw [← e]; exact Nat.mul_le_mul_right _ h2
  rw [Nat.add_mul, Nat.one_mul] at h3
  omega
theorem xor_lt {x y : Nat} (hx : x < 4294967296) (hy : y < 4294967296) : x ^^^ y < 4294967296 := Nat.xor_lt_two_pow (n := 32) hx hy
/-- All words below n. -/
def Words32 (v : Nat → Nat) : Prop := ∀ i, v i < 4294967296
theorem Words32.upd {v : Nat → Nat} (h : Words32 v) (i : Nat) {z : Nat} (hz : z < 4294967296) : Words32 (upd v i z) := fun j => by
  unfold Ob.upd
  split
  · exact hz
  · exact h j
/-- The first half of mixing four words with one, rolled by p and q. -/
def half (v : Nat → Nat) (a b c d x p q : Nat) : Nat → Nat :=
  let v1 := upd v a (s32 (s32 (v a) (v b)) x)
  let v2 := upd v1 d (rot (v1 d ^^^ v1 a) p)
  let v3 := upd v2 c (s32 (v2 c) (v2 d))
  upd v3 b (rot (v3 b ^^^ v3 c) q)
def mixN (v : Nat → Nat) (a b c d x y : Nat) : Nat → Nat := half (half v a b c d x 16 12) a b c d y 8 7
theorem half_words {v : Nat → Nat} (h : Words32 v) (a b c d x p q : Nat) (hp : p ≤ 32) (hq : q ≤ 32) : Words32 (half v a b c d x p q) := by
  have h1 : Words32 (upd v a (s32 (s32 (v a) (v b)) x)) := h.upd a (s32_lt _ _)
  have h2 := h1.upd d (rot_lt (xor_lt (h1 d) (h1 a)) hp)
  have h3 := h2.upd c (s32_lt ((upd (upd v a (s32 (s32 (v a) (v b)) x)) d (rot (upd v a (s32 (s32 (v a) (v b)) x) d ^^^ upd v a (s32 (s32 (v a) (v b)) x) a) p)) c) ((upd (upd v a (s32 (s32 (v a) (v b)) x)) d (rot (upd v a (s32 (s32 (v a) (v b)) x) d ^^^ upd v a (s32 (s32 (v a) (v b)) x) a) p)) d))
  exact h3.upd b (rot_lt (xor_lt (h3 b) (h3 c)) hq)
theorem mixN_words {v : Nat → Nat} (h : Words32 v) (a b c d x y : Nat) : Words32 (mixN v a b c d x y) := half_words (half_words h _ _ _ _ _ _ _ (by decide) (by decide)) _ _ _ _ _ _ _ (by decide) (by decide)
/-- The rounds' rows. -/
def sigT : List (List Nat) := [[0, 1, 2, 3, 4, 5, 6, 7, 8, 9, 10, 11, 12, 13, 14, 15], [14, 10, 4, 8, 9, 15, 13, 6, 1, 12, 0, 2, 11, 7, 5, 3], [11, 8, 12, 0, 5, 2, 15, 13, 10, 14, 3, 6, 7, 1, 9, 4], [7, 9, 3, 1, 13, 12, 11, 14, 2, 6, 5, 10, 4, 0, 15, 8], [9, 0, 5, 7, 2, 4, 10, 15, 14, 1, 11, 12, 6, 8, 3, 13], [2, 12, 6, 10, 0, 11, 8, 3, 4, 13, 7, 5, 15, 14, 1, 9], [12, 5, 1, 15, 14, 13, 4, 10, 0, 7, 6, 3, 9, 2, 8, 11], [13, 11, 7, 14, 12, 1, 3, 9, 5, 0, 15, 4, 8, 6, 2, 10], [6, 15, 14, 9, 11, 3, 0, 8, 12, 2, 13, 7, 1, 4, 10, 5], [10, 2, 8, 4, 7, 6, 1, 5, 15, 11, 9, 14, 3, 12, 13, 0]]
def sig (i j : Nat) : Nat := (sigT.getD i []).getD j 0
theorem sig_lt {i j : Nat} (hi : i < 10) (hj : j < 16) : sig i j < 16 := by
  have h : ∀ i : Fin 10, ∀ j : Fin 16, sig i.val j.val < 16 := by decide
  exact h ⟨i, hi⟩ ⟨j, hj⟩
/-- The words of the beginning. -/
def firstT : List Nat := [1779033703, 3144134277, 1013904242, 2773480762, 1359893119, 2600822924, 528734635, 1541459225]
def first (j : Nat) : Nat := firstT.getD j 0
/-- The places of a round's mixings. -/
def plcT : List (List Nat) := [[0, 4, 8, 12], [1, 5, 9, 13], [2, 6, 10, 14], [3, 7, 11, 15], [0, 5, 10, 15], [1, 6, 11, 12], [2, 7, 8, 13], [3, 4, 9, 14]]
def plc (i j : Nat) : Nat := (plcT.getD i []).getD j 0
theorem plc_lt {i j : Nat} (hi : i < 8) (hj : j < 4) : plc i j < 16 := by
  have h : ∀ i : Fin 8, ∀ j : Fin 4, plc i.val j.val < 16 := by decide
  exact h ⟨i, hi⟩ ⟨j, hj⟩
theorem plc_ne {i j k : Nat} (hi : i < 8) (hj : j < 4) (hk : k < 4) (h : j ≠ k) : plc i j ≠ plc i k := by
  have h' : ∀ i : Fin 8, ∀ j k : Fin 4, j ≠ k → plc i.val j.val ≠ plc i.val k.val := by decide
  exact h' ⟨i, hi⟩ ⟨j, hj⟩ ⟨k, hk⟩ (by intro e; exact h (congrArg Fin.val e))
/-- One mixing of a round, a round, the rounds. -/
def mixI (v m : Nat → Nat) (r i : Nat) : Nat → Nat := mixN v (plc i 0) (plc i 1) (plc i 2) (plc i 3) (m (sig r (2 * i))) (m (sig r (2 * i + 1)))
def roundN (v m : Nat → Nat) (r : Nat) : Nat → Nat → Nat
  | 0 => v
  | i + 1 => mixI (roundN v m r i) m r i
def rounds (v m : Nat → Nat) : Nat → Nat → Nat
  | 0 => v
  | r + 1 => roundN (rounds v m r) m r 8
theorem roundN_words {v : Nat → Nat} (h : Words32 v) (m : Nat → Nat) (r : Nat) : ∀ i, Words32 (roundN v m r i)
  | 0 => h
  | i + 1 => mixN_words (roundN_words h m r i) _ _ _ _ _ _
theorem rounds_words {v : Nat → Nat} (h : Words32 v) (m : Nat → Nat) : ∀ r, Words32 (rounds v m r)
  | 0 => h
  | r + 1 => roundN_words (rounds_words h m r) m r 8
/-- The sixteen words. -/
def six0 (h : Nat → Nat) (j : Nat) : Nat := if j < 8 then h j else first (j - 8)
/-- .. i of each half laid. -/
def sixI (h : Nat → Nat) (i j : Nat) : Nat := if j < 8 then (if j < i then h j else 0) else (if j < 8 + i then first (j - 8) else 0)
theorem sixI_zero (h : Nat → Nat) : sixI h 0 = fun _ => 0 := by
  funext j
  unfold sixI
  split <;> simp <;> omega
theorem sixI_succ (h : Nat → Nat) {i : Nat} (hi : i < 8) : upd (upd (sixI h i) i (h i)) (i + 8) (first i) = sixI h (i + 1) := by
  funext j
  unfold upd sixI
  by_cases h1 : j = i + 8
  · subst h1
    rw [if_pos rfl, if_neg (by omega), if_pos (by omega), Nat.add_sub_cancel]
  · by_cases h2 : j = i
    · subst h2; simp [h1, hi]
    · simp only [h1, h2, if_false]
      by_cases h3 : j < 8
      · simp only [h3, if_true]
        by_cases h4 : j < i
        · simp [h4, Nat.lt_succ_of_lt h4]
        · simp [h4]; omega
      · simp only [h3, if_false]
        by_cases h4 : j < 8 + i
        · simp [h4]; omega
        · simp [h4]; omega
theorem sixI_end (h : Nat → Nat) : ∀ j, j < 16 → sixI h 8 j = six0 h j := by
  intro j hj
  unfold sixI six0
  by_cases h3 : j < 8
  · simp [h3]
  · simp [h3]; omega
def six (h : Nat → Nat) (c : Nat) (last : Bool) : Nat → Nat :=
  let v2 := upd (upd (six0 h) 12 (six0 h 12 ^^^ (c % 4294967296))) 13 (six0 h 13 ^^^ (c / 4294967296))
  if last then upd v2 14 (six0 h 14 ^^^ 4294967295) else v2
def press (h m : Nat → Nat) (c : Nat) (last : Bool) (j : Nat) : Nat := h j ^^^ (rounds (six h c last) m 10 j ^^^ rounds (six h c last) m 10 (j + 8))
theorem first_lt (j : Nat) : first j < 4294967296 := by
  have h : ∀ j : Fin 8, first j.val < 4294967296 := by decide
  rcases Nat.lt_or_ge j 8 with hj | hj
  · exact h ⟨j, hj⟩
  · have : first j = 0 := by
      unfold first
      rw [List.getD_eq_getElem?_getD, List.getElem?_eq_none (by simpa [firstT] using hj)]
      rfl
    rw [this]; decide
theorem six0_words {h : Nat → Nat} (hh : Words32 h) : Words32 (six0 h) := fun j => by
  unfold six0
  split
  · exact hh j
  · exact first_lt _
theorem six_words {h : Nat → Nat} (hh : Words32 h) {c : Nat} (hc : c < 18446744073709551616) (last : Bool) : Words32 (six h c last) := by
  have h0 := six0_words hh
  have h2 := (h0.upd 12 (xor_lt (h0 12) (y := c % 4294967296) (by omega))).upd 13 (xor_lt (h0 13) (y := c / 4294967296) (by omega))
  unfold six
  cases last
  · exact h2
  · exact h2.upd 14 (xor_lt (h0 14) (by decide))
theorem press_words {h m : Nat → Nat} (hh : Words32 h) {c : Nat} (hc : c < 18446744073709551616) (last : Bool) : Words32 (press h m c last) := fun j =>
  xor_lt (hh j) (xor_lt (rounds_words (six_words hh hc last) m 10 j) (rounds_words (six_words hh hc last) m 10 (j + 8)))
theorem flip32 (x : Nat) (hx : x < 4294967296) : x ^^^ 4294967295 = 4294967295 - x := by
  have h := congrArg BitVec.toNat (BitVec.xor_allOnes (x := BitVec.ofNat 32 x))
  simp only [BitVec.toNat_xor, BitVec.toNat_ofNat, BitVec.toNat_allOnes, BitVec.toNat_not] at h
  rw [Nat.mod_eq_of_lt (by omega)] at h
  simpa using h
/-- The number of k bytes, the lowest first. -/
def lowN (z : Nat → Nat) : Nat → Nat
  | 0 => 0
  | k + 1 => lowN z k + z k * 2 ^ (8 * k)
theorem lowN_lt {z : Nat → Nat} (hz : ∀ i, z i < 256) : ∀ k, lowN z k < 2 ^ (8 * k)
  | 0 => by show 0 < 2 ^ (8 * 0); decide
  | k + 1 => by
    have h := lowN_lt hz k
    have e : (2 : Nat) ^ (8 * (k + 1)) = 2 ^ (8 * k) * 256 := by rw [Nat.mul_add, Nat.pow_add]
    have h1 : (z k + 1) * 2 ^ (8 * k) ≤ 256 * 2 ^ (8 * k) := Nat.mul_le_mul_right _ (hz k)
    rw [e, lowN]
    rw [Nat.add_mul, Nat.one_mul] at h1
    rw [Nat.mul_comm (2 ^ (8 * k)) 256]
    omega
/-- The words that the first block is pressed into, by the two words of a person. -/
def open0 (x y : Nat) : Nat → Nat := upd (upd (upd first 0 (first 0 ^^^ 16842784)) 6 (first 6 ^^^ x)) 7 (first 7 ^^^ y)
theorem open0_words {x y : Nat} (hx : x < 4294967296) (hy : y < 4294967296) : Words32 (open0 x y) :=
  ((Words32.upd (fun j => first_lt j) 0 (xor_lt (first_lt 0) (by decide))).upd 6 (xor_lt (first_lt 6) hx)).upd 7 (xor_lt (first_lt 7) hy)
/-- A block of n bytes. -/
def blk (z : Nat → Nat) (n i j : Nat) : Nat := if 64 * i + j < n then z (64 * i + j) else 0
theorem blk_lt {z : Nat → Nat} (hz : ∀ i, z i < 256) (n i j : Nat) : blk z n i j < 256 := by
  unfold blk
  split
  · exact hz _
  · decide
/-- How many blocks n bytes have; the words behind i of them. -/
def nblk (n : Nat) : Nat := if n = 0 then 1 else (n + 63) / 64
def digI (h : Nat → Nat) (m : Nat → Nat → Nat) (n : Nat) : Nat → Nat → Nat
  | 0 => h
  | i + 1 => press (digI h m n i) (m i) (min (64 * (i + 1)) n) (decide (n ≤ 64 * (i + 1)))
theorem digI_words {h : Nat → Nat} (hh : Words32 h) (m : Nat → Nat → Nat) {n : Nat} (hn : n < 18446744073709551616) : ∀ i, Words32 (digI h m n i)
  | 0 => hh
  | i + 1 => press_words (digI_words hh m hn i) (by omega) _
/-- The half of a mixing, as four words. -/
theorem half_four (v : Nat → Nat) {a b c d : Nat} (hab : a ≠ b) (hac : a ≠ c) (had : a ≠ d) (hbc : b ≠ c) (hbd : b ≠ d) (hcd : c ≠ d) (x p q A B C D : Nat)
    (hA : s32 (v a) (s32 (v b) x) = A) (hD : rot (v d ^^^ A) p = D) (hC : s32 (v c) D = C) (hB : rot (v b ^^^ C) q = B) :
    upd (upd (upd (upd v a A) b B) c C) d D = half v a b c d x p q := by
  have e : s32 (s32 (v a) (v b)) x = A := by rw [← hA]; unfold s32; omega
  unfold half
  simp only [e]
  have e1 : upd v a A d = v d := upd_ne v A (Ne.symm had)
  have e2 : upd v a A a = A := upd_same v a A
  rw [e1, e2, hD]
  have e3 : upd (upd v a A) d D c = v c := by rw [upd_ne _ _ hcd, upd_ne _ _ (Ne.symm hac)]
  have e4 : upd (upd v a A) d D d = D := upd_same _ _ _
  rw [e3, e4, hC]
  have e5 : upd (upd (upd v a A) d D) c C b = v b := by rw [upd_ne _ _ hbc, upd_ne _ _ hbd, upd_ne _ _ (Ne.symm hab)]
  have e6 : upd (upd (upd v a A) d D) c C c = C := upd_same _ _ _
  rw [e5, e6, hB]
  funext j
  unfold upd
  by_cases h1 : j = a
  · subst h1; simp [hab, hac, had]
  · by_cases h2 : j = b
    · subst h2; simp [hbc, hbd, h1]
    · by_cases h3 : j = c
      · subst h3; simp [hcd, h1, h2]
      · by_cases h4 : j = d
        · subst h4; simp [h1, h2, h3]
        · simp [h1, h2, h3, h4]
end Ob
