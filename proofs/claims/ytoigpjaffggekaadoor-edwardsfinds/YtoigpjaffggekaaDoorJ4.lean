/-
  Joined texts: Words of 32 bits as plain numbers: sums, rolling, mixing, pressing. Arrays of integers, as variables of one's own. Regions that draw their order and end in a store into what they read: the condition on the world need not be met behind those last operations.
-/
import Derived.Test.YtoigpjaffggekaaDoorJ3
import Derived.Deep.MidRow
import Derived.Laws.BitsLemmas
import Derived.Test.YtoigpjaffggekaaDoorJ2
import Derived.Deep.RegionHeld3

namespace Ob
set_option linter.unusedVariables false
set_option linter.unusedSimpArgs false

def upd (v : Nat → Nat) (i z : Nat) : Nat → Nat := fun j => if j = i then z else v j
theorem upd_same (v : Nat → Nat) (i z : Nat) : upd v i z i = z := if_pos rfl
theorem upd_ne (v : Nat → Nat) {i j : Nat} (z : Nat) (h : j ≠ i) : upd v i z j = v j := if_neg h
def s32 (x y : Nat) : Nat := (x + y) % 4294967296
/-- Rolled to the right. -/
def rot (x n : Nat) : Nat := x / 2 ^ n + x % 2 ^ n * 2 ^ (32 - n)
theorem s32_lt (x y : Nat) : s32 x y < 4294967296 := Nat.mod_lt _ (by decide)
theorem rot_lt {x n : Nat} (hx : x < 4294967296) (hn : n ≤ 32) : rot x n < 4294967296 := by
  unfold rot
  have hp : 0 < 2 ^ n := Nat.two_pow_pos n
  have e : (2 : Nat) ^ n * 2 ^ (32 - n) = 4294967296 := by rw [← Nat.pow_add, Nat.add_sub_cancel' hn]
  have h1 : x / 2 ^ n < 2 ^ (32 - n) := Nat.div_lt_of_lt_mul (by rw [e]; exact hx)
  have h2 : x % 2 ^ n + 1 ≤ 2 ^ n := Nat.mod_lt _ hp
  have h3 : (x % 2 ^ n + 1) * 2 ^ (32 - n) ≤ 4294967296 := by rw [← e]; exact Nat.mul_le_mul_right _ h2
  rw [Nat.add_mul, Nat.one_mul] at h3
  omega
theorem xor_lt {x y : Nat} (hx : x < 4294967296) (hy : y < 4294967296) : x ^^^ y < 4294967296 := Nat.xor_lt_two_pow (n := 32) hx hy
/-- All words below n. -/
def Words32 (v : Nat → Nat) : Prop := ∀ i, v i < 4294967296
theorem Words32.upd {v : Nat → Nat} (h : Words32 v) (i : Nat) {z : Nat} (hz : z < 4294967296) : Words32 (upd v i z) := fun j => by
  unfold Ob.upd
  split
  · exact hz
  · exact h j
/-- The first half of mixing four words with one, rolled by p and q. -/
def half (v : Nat → Nat) (a b c d x p q : Nat) : Nat → Nat :=
  let v1 := upd v a (s32 (s32 (v a) (v b)) x)
  let v2 := upd v1 d (rot (v1 d ^^^ v1 a) p)
  let v3 := upd v2 c (s32 (v2 c) (v2 d))
  upd v3 b (rot (v3 b ^^^ v3 c) q)
def mixN (v : Nat → Nat) (a b c d x y : Nat) : Nat → Nat := half (half v a b c d x 16 12) a b c d y 8 7
theorem half_words {v : Nat → Nat} (h : Words32 v) (a b c d x p q : Nat) (hp : p ≤ 32) (hq : q ≤ 32) : Words32 (half v a b c d x p q) := by
  have h1 : Words32 (upd v a (s32 (s32 (v a) (v b)) x)) := h.upd a (s32_lt _ _)
  have h2 := h1.upd d (rot_lt (xor_lt (h1 d) (h1 a)) hp)
  have h3 := h2.upd c (s32_lt ((upd (upd v a (s32 (s32 (v a) (v b)) x)) d (rot (upd v a (s32 (s32 (v a) (v b)) x) d ^^^ upd v a (s32 (s32 (v a) (v b)) x) a) p)) c) ((upd (upd v a (s32 (s32 (v a) (v b)) x)) d (rot (upd v a (s32 (s32 (v a) (v b)) x) d ^^^ upd v a (s32 (s32 (v a) (v b)) x) a) p)) d))
  exact h3.upd b (rot_lt (xor_lt (h3 b) (h3 c)) hq)
theorem mixN_words {v : Nat → Nat} (h : Words32 v) (a b c d x y : Nat) : Words32 (mixN v a b c d x y) := half_words (half_words h _ _ _ _ _ _ _ (by decide) (by decide)) _ _ _ _ _ _ _ (by decide) (by decide)
/-- The rounds' rows. -/
def sigT : List (List Nat) := [[0, 1, 2, 3, 4, 5, 6, 7, 8, 9, 10, 11, 12, 13, 14, 15], [14, 10, 4, 8, 9, 15, 13, 6, 1, 12, 0, 2, 11, 7, 5, 3], [11, 8, 12, 0, 5, 2, 15, 13, 10, 14, 3, 6, 7, 1, 9, 4], [7, 9, 3, 1, 13, 12, 11, 14, 2, 6, 5, 10, 4, 0, 15, 8], [9, 0, 5, 7, 2, 4, 10, 15, 14, 1, 11, 12, 6, 8, 3, 13], [2, 12, 6, 10, 0, 11, 8, 3, 4, 13, 7, 5, 15, 14, 1, 9], [12, 5, 1, 15, 14, 13, 4, 10, 0, 7, 6, 3, 9, 2, 8, 11], [13, 11, 7, 14, 12, 1, 3, 9, 5, 0, 15, 4, 8, 6, 2, 10], [6, 15, 14, 9, 11, 3, 0, 8, 12, 2, 13, 7, 1, 4, 10, 5], [10, 2, 8, 4, 7, 6, 1, 5, 15, 11, 9, 14, 3, 12, 13, 0]]
def sig (i j : Nat) : Nat := (sigT.getD i []).getD j 0
theorem sig_lt {i j : Nat} (hi : i < 10) (hj : j < 16) : sig i j < 16 := by
  have h : ∀ i : Fin 10, ∀ j : Fin 16, sig i.val j.val < 16 := by decide
  exact h ⟨i, hi⟩ ⟨j, hj⟩
/-- The words of the beginning. -/
def firstT : List Nat := [1779033703, 3144134277, 1013904242, 2773480762, 1359893119, 2600822924, 528734635, 1541459225]
def first (j : Nat) : Nat := firstT.getD j 0
/-- The places of a round's mixings. -/
def plcT : List (List Nat) := [[0, 4, 8, 12], [1, 5, 9, 13], [2, 6, 10, 14], [3, 7, 11, 15], [0, 5, 10, 15], [1, 6, 11, 12], [2, 7, 8, 13], [3, 4, 9, 14]]
def plc (i j : Nat) : Nat := (plcT.getD i []).getD j 0
theorem plc_lt {i j : Nat} (hi : i < 8) (hj : j < 4) : plc i j < 16 := by
  have h : ∀ i : Fin 8, ∀ j : Fin 4, plc i.val j.val < 16 := by decide
  exact h ⟨i, hi⟩ ⟨j, hj⟩
theorem plc_ne {i j k : Nat} (hi : i < 8) (hj : j < 4) (hk : k < 4) (h : j ≠ k) : plc i j ≠ plc i k := by
  have h' : ∀ i : Fin 8, ∀ j k : Fin 4, j ≠ k → plc i.val j.val ≠ plc i.val k.val := by decide
  exact h' ⟨i, hi⟩ ⟨j, hj⟩ ⟨k, hk⟩ (by intro e; exact h (congrArg Fin.val e))
/-- One mixing of a round, a round, the rounds. -/
def mixI (v m : Nat → Nat) (r i : Nat) : Nat → Nat := mixN v (plc i 0) (plc i 1) (plc i 2) (plc i 3) (m (sig r (2 * i))) (m (sig r (2 * i + 1)))
def roundN (v m : Nat → Nat) (r : Nat) : Nat → Nat → Nat
  | 0 => v
  | i + 1 => mixI (roundN v m r i) m r i
def rounds (v m : Nat → Nat) : Nat → Nat → Nat
  | 0 => v
  | r + 1 => roundN (rounds v m r) m r 8
theorem roundN_words {v : Nat → Nat} (h : Words32 v) (m : Nat → Nat) (r : Nat) : ∀ i, Words32 (roundN v m r i)
  | 0 => h
  | i + 1 => mixN_words (roundN_words h m r i) _ _ _ _ _ _
theorem rounds_words {v : Nat → Nat} (h : Words32 v) (m : Nat → Nat) : ∀ r, Words32 (rounds v m r)
  | 0 => h
  | r + 1 => roundN_words (rounds_words h m r) m r 8
/-- The sixteen words. -/
def six0 (h : Nat → Nat) (j : Nat) : Nat := if j < 8 then h j else first (j - 8)
/-- .. i of each half laid. -/
def sixI (h : Nat → Nat) (i j : Nat) : Nat := if j < 8 then (if j < i then h j else 0) else (if j < 8 + i then first (j - 8) else 0)
theorem sixI_zero (h : Nat → Nat) : sixI h 0 = fun _ => 0 := by
  funext j
  unfold sixI
  split <;> simp <;> omega
theorem sixI_succ (h : Nat → Nat) {i : Nat} (hi : i < 8) : upd (upd (sixI h i) i (h i)) (i + 8) (first i) = sixI h (i + 1) := by
  funext j
  unfold upd sixI
  by_cases h1 : j = i + 8
  · subst h1
    rw [if_pos rfl, if_neg (by omega), if_pos (by omega), Nat.add_sub_cancel]
  · by_cases h2 : j = i
    · subst h2; simp [h1, hi]
    · simp only [h1, h2, if_false]
      by_cases h3 : j < 8
      · simp only [h3, if_true]
        by_cases h4 : j < i
        · simp [h4, Nat.lt_succ_of_lt h4]
        · simp [h4]; omega
      · simp only [h3, if_false]
        by_cases h4 : j < 8 + i
        · simp [h4]; omega
        · simp [h4]; omega
theorem sixI_end (h : Nat → Nat) : ∀ j, j < 16 → sixI h 8 j = six0 h j := by
  intro j hj
  unfold sixI six0
  by_cases h3 : j < 8
  · simp [h3]
  · simp [h3]; omega
def six (h : Nat → Nat) (c : Nat) (last : Bool) : Nat → Nat :=
  let v2 := upd (upd (six0 h) 12 (six0 h 12 ^^^ (c % 4294967296))) 13 (six0 h 13 ^^^ (c / 4294967296))
  if last then upd v2 14 (six0 h 14 ^^^ 4294967295) else v2
def press (h m : Nat → Nat) (c : Nat) (last : Bool) (j : Nat) : Nat := h j ^^^ (rounds (six h c last) m 10 j ^^^ rounds (six h c last) m 10 (j + 8))
theorem first_lt (j : Nat) : first j < 4294967296 := by
  have h : ∀ j : Fin 8, first j.val < 4294967296 := by decide
  rcases Nat.lt_or_ge j 8 with hj | hj
  · exact h ⟨j, hj⟩
  · have : first j = 0 := by
      unfold first
      rw [List.getD_eq_getElem?_getD, List.getElem?_eq_none (by simpa [firstT] using hj)]
      rfl
    rw [this]; decide
theorem six0_words {h : Nat → Nat} (hh : Words32 h) : Words32 (six0 h) := fun j => by
  unfold six0
  split
  · exact hh j
  · exact first_lt _
theorem six_words {h : Nat → Nat} (hh : Words32 h) {c : Nat} (hc : c < 18446744073709551616) (last : Bool) : Words32 (six h c last) := by
  have h0 := six0_words hh
  have h2 := (h0.upd 12 (xor_lt (h0 12) (y := c % 4294967296) (by omega))).upd 13 (xor_lt (h0 13) (y := c / 4294967296) (by omega))
  unfold six
  cases last
  · exact h2
  · exact h2.upd 14 (xor_lt (h0 14) (by decide))
theorem press_words {h m : Nat → Nat} (hh : Words32 h) {c : Nat} (hc : c < 18446744073709551616) (last : Bool) : Words32 (press h m c last) := fun j =>
  xor_lt (hh j) (xor_lt (rounds_words (six_words hh hc last) m 10 j) (rounds_words (six_words hh hc last) m 10 (j + 8)))
theorem flip32 (x : Nat) (hx : x < 4294967296) : x ^^^ 4294967295 = 4294967295 - x := by
  have h := congrArg BitVec.toNat (BitVec.xor_allOnes (x := BitVec.ofNat 32 x))
  simp only [BitVec.toNat_xor, BitVec.toNat_ofNat, BitVec.toNat_allOnes, BitVec.toNat_not] at h
  rw [Nat.mod_eq_of_lt (by omega)] at h
  simpa using h
/-- The number of k bytes, the lowest first. -/
def lowN (z : Nat → Nat) : Nat → Nat
  | 0 => 0
  | k + 1 => lowN z k + z k * 2 ^ (8 * k)
theorem lowN_lt {z : Nat → Nat} (hz : ∀ i, z i < 256) : ∀ k, lowN z k < 2 ^ (8 * k)
  | 0 => by show 0 < 2 ^ (8 * 0); decide
  | k + 1 => by
    have h := lowN_lt hz k
    have e : (2 : Nat) ^ (8 * (k + 1)) = 2 ^ (8 * k) * 256 := by rw [Nat.mul_add, Nat.pow_add]
    have h1 : (z k + 1) * 2 ^ (8 * k) ≤ 256 * 2 ^ (8 * k) := Nat.mul_le_mul_right _ (hz k)
    rw [e, lowN]
    rw [Nat.add_mul, Nat.one_mul] at h1
    rw [Nat.mul_comm (2 ^ (8 * k)) 256]
    omega
/-- The words that the first block is pressed into, by the two words of a person. -/
def open0 (x y : Nat) : Nat → Nat := upd (upd (upd first 0 (first 0 ^^^ 16842784)) 6 (first 6 ^^^ x)) 7 (first 7 ^^^ y)
theorem open0_words {x y : Nat} (hx : x < 4294967296) (hy : y < 4294967296) : Words32 (open0 x y) :=
  ((Words32.upd (fun j => first_lt j) 0 (xor_lt (first_lt 0) (by decide))).upd 6 (xor_lt (first_lt 6) hx)).upd 7 (xor_lt (first_lt 7) hy)
/-- A block of n bytes. -/
def blk (z : Nat → Nat) (n i j : Nat) : Nat := if 64 * i + j < n then z (64 * i + j) else 0
theorem blk_lt {z : Nat → Nat} (hz : ∀ i, z i < 256) (n i j : Nat) : blk z n i j < 256 := by
  unfold blk
  split
  · exact hz _
  · decide
/-- How many blocks n bytes have; the words behind i of them. -/
def nblk (n : Nat) : Nat := if n = 0 then 1 else (n + 63) / 64
def digI (h : Nat → Nat) (m : Nat → Nat → Nat) (n : Nat) : Nat → Nat → Nat
  | 0 => h
  | i + 1 => press (digI h m n i) (m i) (min (64 * (i + 1)) n) (decide (n ≤ 64 * (i + 1)))
theorem digI_words {h : Nat → Nat} (hh : Words32 h) (m : Nat → Nat → Nat) {n : Nat} (hn : n < 18446744073709551616) : ∀ i, Words32 (digI h m n i)
  | 0 => hh
  | i + 1 => press_words (digI_words hh m hn i) (by omega) _
/-- The half of a mixing, as four words. -/
theorem half_four (v : Nat → Nat) {a b c d : Nat} (hab : a ≠ b) (hac : a ≠ c) (had : a ≠ d) (hbc : b ≠ c) (hbd : b ≠ d) (hcd : c ≠ d) (x p q A B C D : Nat)
    (hA : s32 (v a) (s32 (v b) x) = A) (hD : rot (v d ^^^ A) p = D) (hC : s32 (v c) D = C) (hB : rot (v b ^^^ C) q = B) :
    upd (upd (upd (upd v a A) b B) c C) d D = half v a b c d x p q := by
  have e : s32 (s32 (v a) (v b)) x = A := by rw [← hA]; unfold s32; omega
  unfold half
  simp only [e]
  have e1 : upd v a A d = v d := upd_ne v A (Ne.symm had)
  have e2 : upd v a A a = A := upd_same v a A
  rw [e1, e2, hD]
  have e3 : upd (upd v a A) d D c = v c := by rw [upd_ne _ _ hcd, upd_ne _ _ (Ne.symm hac)]
  have e4 : upd (upd v a A) d D d = D := upd_same _ _ _
  rw [e3, e4, hC]
  have e5 : upd (upd (upd v a A) d D) c C b = v b := by rw [upd_ne _ _ hbc, upd_ne _ _ hbd, upd_ne _ _ (Ne.symm hab)]
  have e6 : upd (upd (upd v a A) d D) c C c = C := upd_same _ _ _
  rw [e5, e6, hB]
  funext j
  unfold upd
  by_cases h1 : j = a
  · subst h1; simp [hab, hac, had]
  · by_cases h2 : j = b
    · subst h2; simp [hbc, hbd, h1]
    · by_cases h3 : j = c
      · subst h3; simp [hcd, h1, h2]
      · by_cases h4 : j = d
        · subst h4; simp [h1, h2, h3]
        · simp [h1, h2, h3, h4]
end Ob

namespace Go.Proofs.YtoigpjaffggekaaDoor
open Go.RowKit Go.Proofs
set_option linter.unusedVariables false
set_option linter.unusedSimpArgs false

def arrL (k : IntKind) (v : Nat → Nat) (n : Nat) : List Value := (List.range n).map fun i => .int k (v i : Nat)
def arrV (k : IntKind) (v : Nat → Nat) (n : Nat) : Value := .agg (arrL k v n).toArray
theorem arrL_length (k : IntKind) (v : Nat → Nat) (n : Nat) : (arrL k v n).length = n := by unfold arrL; simp
theorem arrL_get (k : IntKind) (v : Nat → Nat) (n i : Nat) (h : i < n) : (arrL k v n)[i]? = some (.int k (v i : Nat)) := by unfold arrL; simp [h]
theorem arrL_one (k : IntKind) (v : Nat → Nat) (n : Nat) : ∀ u ∈ arrL k v n, u.oneCell' = true := by
  unfold arrL
  intro u hu
  obtain ⟨_, _, rfl⟩ := List.mem_map.1 hu
  rfl
theorem arrL_congr {k : IntKind} {v v' : Nat → Nat} {n : Nat} (h : ∀ i, i < n → v i = v' i) : arrL k v n = arrL k v' n := by
  unfold arrL
  exact List.map_congr_left fun i hi => by rw [h i (List.mem_range.1 hi)]
/-- An array of n numbers lies in block b. -/
structure Arr (w : World) (k : IntKind) (b n : Nat) (v : Nat → Nat) : Prop where
  lt : b < w.heap.size
  c : ∀ i, i < n → w.cell? ⟨b, i, none⟩ = some (.int k (v i : Nat))
  f : ∀ i, i < n → w.frozen? ⟨b, i, none⟩ = false
theorem Arr.below {w w1 : World} {k : IntKind} {B b n : Nat} {v : Nat → Nat} (t : Arr w k b n v) (hb : Below B w w1) (h : b < B) : Arr w1 k b n v :=
  ⟨Nat.lt_of_lt_of_le t.lt hb.size, fun i hi => by rw [(bcell hb).1 b i h]; exact t.c i hi, fun i hi => by rw [(bcell hb).2 b i h]; exact t.f i hi⟩
theorem Arr.via {w w1 : World} {k : IntKind} {B b n : Nat} {v : Nat → Nat} (hb : Below B w w1) (t : Arr w k b n v) (h : b < B) : Arr w1 k b n v := t.below hb h
theorem Arr.alloc {w : World} {k : IntKind} {b n : Nat} {v : Nat → Nat} (t : Arr w k b n v) (o : Obj) : Arr (w.alloc o) k b n v := t.below ((Below.refl w.heap.size w).alloc (Nat.le_refl _) o) t.lt
theorem Arr.drew {w : World} {k : IntKind} {b n : Nat} {v : Nat → Nat} (t : Arr w k b n v) : Arr w.drew k b n v := t.below ((Below.refl w.heap.size w).drew) t.lt
theorem Arr.drewN {w : World} {k : IntKind} {b n : Nat} {v : Nat → Nat} (t : Arr w k b n v) (m : Nat) : Arr (w.drewN m) k b n v := t.below (below_drewN (Below.refl w.heap.size w) m) t.lt
theorem Arr.far {w : World} {k : IntKind} {b b' n : Nat} {v : Nat → Nat} (t : Arr w k b n v) (h : b' ≠ b) (o : Nat) (z : Value) : Arr (w.setCell ⟨b', o, none⟩ z) k b n v :=
  ⟨by simp [t.lt], fun i hi => by rw [World.cell?_setCell_other _ _ _ _ (by simp [h]), t.c i hi], fun i hi => by simp [t.f i hi]⟩
theorem Arr.set {w : World} {k : IntKind} {b n : Nat} {v : Nat → Nat} (t : Arr w k b n v) {i z : Nat} (hi : i < n) : Arr (w.setCell ⟨b, i, none⟩ (.int k (z : Nat))) k b n (Ob.upd v i z) where
  lt := by simp [t.lt]
  c := fun j hj => by
    by_cases h : j = i
    · subst h
      rw [Ob.upd_same]
      exact World.cell?_setCell_same _ _ _ (t.c j hj)
    · rw [Ob.upd_ne _ _ h, World.cell?_setCell_other _ _ _ _ (by first | (simp; done) | (simp; omega)), t.c j hj]
  f := fun j hj => by simp [t.f j hj]
theorem Arr.new {w : World} {k : IntKind} {v : Nat → Nat} {n : Nat} {t : TypeId} {b : Nat} (h : b = w.heap.size) : Arr (w.alloc (.cells (arrL k v n).toArray t)) k b n v := by
  subst h
  exact ⟨by simp, fun i hi => by rw [World.cell?_alloc_at _ _ _ _ rfl, List.getElem?_toArray, arrL_get k v n i hi], fun i hi => by rw [World.frozen?_alloc_at _ _ _ _ rfl]⟩
theorem Arr.range {w : World} {k : IntKind} {b n : Nat} {v : Nat → Nat} (t : Arr w k b n v) : w.rangeAt b 0 (arrL k v n) := fun j u hu => by
  have hj : j < n := by have := (List.getElem?_eq_some_iff.1 hu).1; rwa [arrL_length] at this
  rw [arrL_get k v n j hj] at hu
  rw [Nat.zero_add, t.c j hj]; exact hu
theorem Arr.there {w : World} {k : IntKind} {b n : Nat} {v : Nat → Nat} (t : Arr w k b n v) : w.there b 0 n := fun j hj => by
  rw [Nat.zero_add]
  exact ⟨by rw [t.c j hj]; rfl, t.f j hj⟩

theorem setCells_size (w : World) (b o : Nat) (cs : List Value) : (w.setCells b o cs).heap.size = w.heap.size := by
  induction cs generalizing o w with
  | nil => rfl
  | cons c r ih => rw [World.setCells, ih]; exact World.size_setCell _ _ _
/-- The whole of it stored. -/
theorem Arr.whole {w : World} {k : IntKind} {b n : Nat} {v : Nat → Nat} (t : Arr w k b n v) (v' : Nat → Nat) : Arr (w.setCells b 0 (arrL k v' n)) k b n v' := by
  have h := World.rangeAt_setCells_same w b 0 (arrL k v' n) (by rw [arrL_length]; exact t.there)
  have ht := World.there_setCells t.there b 0 (arrL k v' n)
  refine ⟨?_, fun i hi => ?_, fun i hi => ?_⟩
  · by_cases hn : n = 0
    · subst hn
      exact t.lt
    · have := h 0 _ (arrL_get k v' n 0 (by omega))
      simpa using World.block_lt_of_cell? _ _ this
  · have := h i _ (arrL_get k v' n i hi)
    rwa [Nat.zero_add] at this
  · have := (ht i hi).2
    rwa [Nat.zero_add] at this
theorem below_setCells {B b : Nat} {a w : World} (h : Below B a w) (hb : B ≤ b) (vs : List Value) : ∀ o, Below B a (w.setCells b o vs) := by
  induction vs generalizing w with
  | nil => intro o; exact h
  | cons v r ih => intro o; exact ih (h.setCell hb _) (o + 1)
theorem Arr.farCells {w : World} {k : IntKind} {b b' n : Nat} {v : Nat → Nat} (t : Arr w k b n v) (h : b' ≠ b) (o : Nat) (cs : List Value) : Arr (w.setCells b' o cs) k b n v := by
  have hs : ∀ (cs : List Value) (o : Nat) (w : World), Arr w k b n v → Arr (w.setCells b' o cs) k b n v := by
    intro cs
    induction cs with
    | nil => intro o w t; exact t
    | cons c r ih => intro o w t; exact ih (o + 1) _ (t.far h o c)
  exact hs cs o w t
theorem Arr.congr {w : World} {k : IntKind} {b n : Nat} {v v' : Nat → Nat} (t : Arr w k b n v) (h : ∀ i, i < n → v i = v' i) : Arr w k b n v' :=
  ⟨t.lt, fun i hi => by rw [← h i hi]; exact t.c i hi, t.f⟩
theorem Arr.new16 {w : World} {t : TypeId} : Arr (w.alloc (.cells #[.int .u32 0, .int .u32 0, .int .u32 0, .int .u32 0, .int .u32 0, .int .u32 0, .int .u32 0, .int .u32 0, .int .u32 0, .int .u32 0, .int .u32 0, .int .u32 0, .int .u32 0, .int .u32 0, .int .u32 0, .int .u32 0] t)) .u32 w.heap.size 16 (fun _ => 0) := Arr.new (k := .u32) (n := 16) (v := fun _ => 0) rfl
theorem Arr.new8 {w : World} {t : TypeId} : Arr (w.alloc (.cells #[.int .u32 0, .int .u32 0, .int .u32 0, .int .u32 0, .int .u32 0, .int .u32 0, .int .u32 0, .int .u32 0] t)) .u32 w.heap.size 8 (fun _ => 0) := Arr.new (k := .u32) (n := 8) (v := fun _ => 0) rfl
theorem Arr.new8b {w : World} {t : TypeId} : Arr (w.alloc (.cells #[.int .u8 0, .int .u8 0, .int .u8 0, .int .u8 0, .int .u8 0, .int .u8 0, .int .u8 0, .int .u8 0] t)) .u8 w.heap.size 8 (fun _ => 0) := Arr.new (k := .u8) (n := 8) (v := fun _ => 0) rfl
theorem Arr.new64b {w : World} {t : TypeId} : Arr (w.alloc (.cells #[.int .u8 0, .int .u8 0, .int .u8 0, .int .u8 0, .int .u8 0, .int .u8 0, .int .u8 0, .int .u8 0, .int .u8 0, .int .u8 0, .int .u8 0, .int .u8 0, .int .u8 0, .int .u8 0, .int .u8 0, .int .u8 0, .int .u8 0, .int .u8 0, .int .u8 0, .int .u8 0, .int .u8 0, .int .u8 0, .int .u8 0, .int .u8 0, .int .u8 0, .int .u8 0, .int .u8 0, .int .u8 0, .int .u8 0, .int .u8 0, .int .u8 0, .int .u8 0, .int .u8 0, .int .u8 0, .int .u8 0, .int .u8 0, .int .u8 0, .int .u8 0, .int .u8 0, .int .u8 0, .int .u8 0, .int .u8 0, .int .u8 0, .int .u8 0, .int .u8 0, .int .u8 0, .int .u8 0, .int .u8 0, .int .u8 0, .int .u8 0, .int .u8 0, .int .u8 0, .int .u8 0, .int .u8 0, .int .u8 0, .int .u8 0, .int .u8 0, .int .u8 0, .int .u8 0, .int .u8 0, .int .u8 0, .int .u8 0, .int .u8 0, .int .u8 0] t)) .u8 w.heap.size 64 (fun _ => 0) := Arr.new (k := .u8) (n := 64) (v := fun _ => 0) rfl
/-- The whole of it read. -/
theorem Arr.loadAt {w : World} {k : IntKind} {b n : Nat} {v : Nat → Nat} (t : Arr w k b n v) {ty : TypeId} {d : TypeDesc} (hu : Tryd.prog.underlying ty = some d) (hd : d.isRow = true) (hi : (Tryd.prog.info? ty).map (·.size) = some n) :
    (Instr.loadAt ty (.pointer (some ⟨b, 0, none⟩))).run Tryd.prog w = .ok (.agg (arrL k v n).toArray) w :=
  run_loadAt_mid w b 0 ty (arrL k v n) d t.range hu hd (by rw [arrL_length]; exact hi)
theorem Arr.loadVar {w : World} {k : IntKind} {b n : Nat} {v : Nat → Nat} (t : Arr w k b n v) {ty : TypeId} {d : TypeDesc} (hu : Tryd.prog.underlying ty = some d) (hd : d.isRow = true) (hi : (Tryd.prog.info? ty).map (·.size) = some n) :
    (Go.loadVar ty ⟨b, 0, none⟩).run Tryd.prog w = .ok (.agg (arrL k v n).toArray) w :=
  run_loadVar_mid w b 0 ty (arrL k v n) d t.range hu hd (by rw [arrL_length]; exact hi)
/-- The whole of it stored: the world behind it. -/
theorem Arr.storeAt {w : World} {k : IntKind} {b n : Nat} {v : Nat → Nat} (t : Arr w k b n v) (v' : Nat → Nat) {ty : TypeId} (hi : (Tryd.prog.info? ty).map (·.size) = some n) :
    ∃ w', (Instr.storeAt ty (.pointer (some ⟨b, 0, none⟩)) (.agg (arrL k v' n).toArray)).run Tryd.prog w = .ok () w' ∧ Hid (w' = w.setCells b 0 (arrL k v' n)) ∧ Arr w' k b n v' ∧ w'.heap.size = w.heap.size :=
  ⟨_, run_storeAt_mid w b 0 ty (arrL k v' n).toArray (by rw [show (arrL k v' n).toArray.size = n by simp [arrL_length]]; exact t.there) (by rw [show (arrL k v' n).toArray.size = n by simp [arrL_length]]; exact hi) (all_oneCell_toArray (arrL_one k v' n)), rfl, t.whole v', setCells_size _ _ _ _⟩
theorem wpList_loadArr {ops : Array Oper} {rest : List Oper} {op : Oper} {a : Act} {w : World} {Q : Exit → Act → World → Prop} (hgd : op.guard = none) (ty : TypeId) (x : Operand) (ho : op.op = .load ty x)
    (b : Nat) (hx : a.eval x = .pointer (some ⟨b, 0, none⟩)) {k : IntKind} {n : Nat} {v : Nat → Nat} {d : TypeDesc} (t : Arr w k b n v)
    (hu : Tryd.prog.underlying ty = some d) (hd : d.isRow = true) (hi : (Tryd.prog.info? ty).map (·.size) = some n)
    (h : wpList Tryd.prog ops Q rest (a.put op.dst (.agg (arrL k v n).toArray)) w) : wpList Tryd.prog ops Q (op :: rest) a w :=
  wpList_load_mid hgd ty x ho b 0 hx (arrL k v n) d t.range hu hd (by rw [arrL_length]; exact hi) h
theorem wpList_storeArr {ops : Array Oper} {rest : List Oper} {op : Oper} {a : Act} {w : World} {Q : Exit → Act → World → Prop} (hgd : op.guard = none) (ty : TypeId) (x y : Operand) (ho : op.op = .store ty x y)
    (b : Nat) (hx : a.eval x = .pointer (some ⟨b, 0, none⟩)) {k : IntKind} {n : Nat} {v : Nat → Nat} (v' : Nat → Nat) (hy : a.eval y = .agg (arrL k v' n).toArray) (t : Arr w k b n v)
    (hi : (Tryd.prog.info? ty).map (·.size) = some n)
    (h : ∀ w', Hid (w' = w.setCells b 0 (arrL k v' n)) → Hid (Arr w' k b n v') → w'.heap.size = w.heap.size → wpList Tryd.prog ops Q rest (a.put op.dst undef) w') : wpList Tryd.prog ops Q (op :: rest) a w := by
  have hs : (arrL k v' n).toArray.size = n := by simp [arrL_length]
  exact wpList_store_mid hgd ty x y ho b 0 (arrL k v' n).toArray hx hy (by rw [hs]; exact t.there) (by rw [hs]; exact hi) (all_oneCell_toArray (arrL_one k v' n))
    (by rw [List.toList_toArray]; exact h _ rfl (t.whole v') (setCells_size _ _ _ _))
theorem wpList_loadLit {ops : Array Oper} {rest : List Oper} {dst : Option Tmp} {ty ty' : TypeId} {x : Operand} {ps : String} {af : Array Edge} {a : Act} {w : World} {Q : Exit → Act → World → Prop}
    {b : Nat} {k : IntKind} {n : Nat} {v : Nat → Nat} {d : TypeDesc} (t : Arr w k b n v) (hx : a.eval x = .pointer (some ⟨b, 0, none⟩))
    (hu : Tryd.prog.underlying ty = some d) (hd : d.isRow = true) (hi : (Tryd.prog.info? ty).map (·.size) = some n)
    (h : wpList Tryd.prog ops Q rest (a.put dst (.agg (arrL k v n).toArray)) w) : wpList Tryd.prog ops Q (⟨dst, .load ty x, ty', ps, af, none⟩ :: rest) a w :=
  wpList_loadArr rfl ty x rfl b hx t hu hd hi h
theorem wpList_storeLit {ops : Array Oper} {rest : List Oper} {dst : Option Tmp} {ty ty' : TypeId} {x y : Operand} {ps : String} {af : Array Edge} {a : Act} {w : World} {Q : Exit → Act → World → Prop}
    {b : Nat} {k : IntKind} {n : Nat} {v : Nat → Nat} (v' : Nat → Nat) (t : Arr w k b n v) (hx : a.eval x = .pointer (some ⟨b, 0, none⟩)) (hy : a.eval y = .agg (arrL k v' n).toArray)
    (hi : (Tryd.prog.info? ty).map (·.size) = some n)
    (h : ∀ w', Hid (w' = w.setCells b 0 (arrL k v' n)) → Hid (Arr w' k b n v') → w'.heap.size = w.heap.size → wpList Tryd.prog ops Q rest (a.put dst undef) w') : wpList Tryd.prog ops Q (⟨dst, .store ty x y, ty', ps, af, none⟩ :: rest) a w :=
  wpList_storeArr rfl ty x y rfl b hx v' hy t hi h
/-- n numbers that lie in a block, from its head on, to be read. -/
structure Rd (w : World) (k : IntKind) (b n : Nat) (v : Nat → Nat) : Prop where
  lt : b < w.heap.size
  c : ∀ i, i < n → w.cell? ⟨b, i, none⟩ = some (.int k (v i : Nat))
theorem Rd.below {w w1 : World} {k : IntKind} {B b n : Nat} {v : Nat → Nat} (t : Rd w k b n v) (hb : Below B w w1) (h : b < B) : Rd w1 k b n v :=
  ⟨Nat.lt_of_lt_of_le t.lt hb.size, fun i hi => by rw [(bcell hb).1 b i h]; exact t.c i hi⟩
theorem Rd.drew {w : World} {k : IntKind} {b n : Nat} {v : Nat → Nat} (t : Rd w k b n v) : Rd w.drew k b n v := t.below ((Below.refl w.heap.size w).drew) t.lt
theorem Rd.drewN {w : World} {k : IntKind} {b n : Nat} {v : Nat → Nat} (t : Rd w k b n v) (m : Nat) : Rd (w.drewN m) k b n v := t.below (below_drewN (Below.refl w.heap.size w) m) t.lt
theorem Rd.far {w : World} {k : IntKind} {b b' n : Nat} {v : Nat → Nat} (t : Rd w k b n v) (h : b' ≠ b) (o : Nat) (z : Value) : Rd (w.setCell ⟨b', o, none⟩ z) k b n v :=
  ⟨by simp [t.lt], fun i hi => by rw [World.cell?_setCell_other _ _ _ _ (by simp [h]), t.c i hi]⟩
theorem Arr.rd {w : World} {k : IntKind} {b n : Nat} {v : Nat → Nat} (t : Arr w k b n v) : Rd w k b n v := ⟨t.lt, t.c⟩
/-! Words of 32 bits -/
def wordAt (z : Nat → Nat) (j : Nat) : Nat := z (4 * j) + 256 * z (4 * j + 1) + 65536 * z (4 * j + 2) + 16777216 * z (4 * j + 3)
theorem wraps_u32 (n : Int) (h0 : 0 ≤ n) (h1 : n < 2 ^ 32) : IntKind.u32.wrap n = n := by rw [IntKind.wrap_u32]; omega
theorem xor_u32 (a b : Nat) (ha : a < 4294967296) (hb : b < 4294967296) : bits .xor .u32 (a : Int) (b : Int) = ((a ^^^ b : Nat) : Int) := by
  have ha' : a % 2 ^ 32 = a := Nat.mod_eq_of_lt ha
  have hb' : b % 2 ^ 32 = b := Nat.mod_eq_of_lt hb
  have hk : IntKind.u32.bits = 32 := rfl
  simp only [bits, BitVec.ofInt_natCast, BitVec.toNat_xor, BitVec.toNat_ofNat, hk, ha', hb']
  exact wraps_u32 _ (Int.natCast_nonneg _) (by have := Ob.xor_lt ha hb; omega)
theorem or_u32 (a b n : Nat) (hn : n ≤ 32) (ha : a < 2 ^ n) (hb : b < 2 ^ (32 - n)) : bits .or .u32 (a : Int) ((b * 2 ^ n : Nat) : Int) = ((a + b * 2 ^ n : Nat) : Int) := by
  have e : (2 : Nat) ^ n * 2 ^ (32 - n) = 4294967296 := by rw [← Nat.pow_add, Nat.add_sub_cancel' hn]
  have h1 : a < 2 ^ 32 := Nat.lt_of_lt_of_le ha (Nat.pow_le_pow_right (by decide) hn)
  have h2 : b * 2 ^ n < 2 ^ 32 := by
    have : (b + 1) * 2 ^ n ≤ 2 ^ (32 - n) * 2 ^ n := Nat.mul_le_mul_right _ hb
    rw [Nat.mul_comm (2 ^ (32 - n)), e, Nat.add_mul, Nat.one_mul] at this
    have := Nat.two_pow_pos n
    omega
  rw [(bits_nat .u32 32 (by decide) wraps_u32 a (b * 2 ^ n) h1 h2).2, Nat.or_comm, Nat.mul_comm, ← Nat.two_pow_add_eq_or_of_lt ha b, Nat.add_comm]
end Go.Proofs.YtoigpjaffggekaaDoor

namespace Go.Proofs.YtoigpjaffggekaaDoor
open Go
set_option linter.unusedVariables false
set_option linter.unusedSimpArgs false
section
variable {P : Program} {ops : Array Oper} {Q : Exit → Act → World → Prop} {md : Region.Mode} {S : World → Prop} {Z : List Nat}

/-- Whatever order is picked; S holds behind each operation but those of Z. -/
def AnyZ (P : Program) (md : Region.Mode) (ops : Array Oper) (Q : Exit → Act → World → Prop) (S : World → Prop) (Z : List Nat) : Nat → Array Bool → Act → World → Prop
  | 0, L, a, w => Region.ready md ops L = [] ∧ Q .normal a w
  | n + 1, L, a, w => (Region.ready md ops L = [] → Q .normal a w) ∧
    ∀ i ∈ Region.ready md ops L, wpOp P ops Q i (fun a' w' => (Z.contains i = false → S w → S w') ∧ AnyZ P md ops Q S Z n (L.setIfInBounds i true) a' w') a w

theorem AnyZ.any : ∀ (n : Nat) (L : Array Bool) (a : Act) (w : World), AnyZ P md ops Q S Z n L a w → wpAny P md ops Q n L a w
  | 0, _, _, _, h => h
  | n + 1, _, _, _, h => ⟨h.1, fun i hi => wpOp_mono (fun a' w' k => AnyZ.any n _ a' w' k.2) (h.2 i hi)⟩

/-- Each of Z waits for number i. -/
def waits (md : Region.Mode) (ops : Array Oper) (Z : List Nat) (i : Nat) : Bool :=
  Z.all fun j => match ops[j]? with
    | some o => o.after.any fun e => Region.binds md e && e.on == i
    | none => false
theorem waits_not {i j : Nat} {L : Array Bool} (h : waits md ops Z i = true) (hi : i ∈ Region.ready md ops L) (hj : j ∈ Region.ready md ops L) : Z.contains j = false := by
  cases hz : Z.contains j with
  | false => rfl
  | true =>
    have hm : j ∈ Z := by simpa using hz
    have h1 := List.all_eq_true.1 h j hm
    obtain ⟨_, o, ho, hall⟩ := mem_ready.1 hj
    rw [ho] at h1
    obtain ⟨e, he, hb⟩ := Array.any_eq_true'.1 h1
    simp only [Bool.and_eq_true, beq_iff_eq] at hb
    have h2 := hall e he hb.1
    rw [hb.2] at h2
    have h3 := (mem_ready.1 hi).1
    cases hl : L[i]? with
    | none => simp [hl] at h2
    | some b => simp [hl] at h2 h3; rw [h2] at h3; cases h3

theorem AnyZ.first {i : Nat} {o : Oper} {v : Value} (hi : ops[i]? = some o) (hs : ∀ (j : Nat) (o : Oper) cs b, ops[j]? = some o → o.op ≠ .select cs b)
    (hQ : ∀ c a w, Q (.panic c) (a.put o.dst v) w → Q (.panic c) a w) (hz : waits md ops Z i = true) :
    ∀ (n : Nat) (L : Array Bool) (a : Act) (w : World),
      (∀ j oj, ops[j]? = some oj → j ≠ i → L.getD j true = false → (∀ e ∈ oj.after, Region.binds md e = true → e.on ≠ i) → o.apart ops oj = true) →
      i ∈ Region.ready md ops L → YieldsIf P ops S o v a → S w → AnyZ P md ops Q S Z n (L.setIfInBounds i true) (a.put o.dst v) w → AnyZ P md ops Q S Z (n + 1) L a w
  | n, L, a, w, hfree, hr, hy, hS, H => by
    refine ⟨fun h => absurd hr (by simp [h]), fun j hj => ?_⟩
    by_cases hji : j = i
    · subst hji
      exact hy.wpOp hi hS ⟨fun _ _ => hS, H⟩
    have hj2 := ready_mono hj hji
    cases n with
    | zero => exact absurd hj2 (by simp [H.1])
    | succ n =>
      obtain ⟨hun, oj, hoj, hall⟩ := mem_ready.1 hj
      have hno : ∀ e ∈ oj.after, Region.binds md e = true → e.on ≠ i := fun e he hb e1 => by
        have h2 := hall e he hb
        have h3 := (mem_ready.1 hr).1
        rw [e1] at h2
        cases hl : L[i]? with
        | none => simp [hl] at h2
        | some b => simp [hl] at h2 h3; rw [h2] at h3; cases h3
      have hk := waits_not hz hr hj
      refine wpOp_mono (fun a' w' h3 => ?_) (wpOp_putIf hoj (hfree j oj hoj hji hun hno) (fun cs b => hs i o cs b hi) (fun cs b => hs j oj cs b hoj) hQ hy (H.2 j hj2))
      refine ⟨h3.2.1, AnyZ.first hi hs hQ hz n _ a' w' (fun k ok hok hki hun' hno' => hfree k ok hok hki ?_ hno') (ready_mono hr (Ne.symm hji)) h3.1 (h3.2.1 hk hS) ?_⟩
      · by_cases hjk : j = k
        · subst hjk; exact hun
        · rwa [getD_set_ne true hjk] at hun'
      · rw [Array.setIfInBounds_comm _ _ hji]
        exact h3.2.2

theorem anyZ_take {i : Nat} {oi : Oper} {v : Value} {n : Nat} {L : Array Bool} {a : Act} {w : World} (hi : ops[i]? = some oi) (hz : waits md ops Z i = true)
    (hs : Region.noSelect ops = true) (hf : Region.free md ops L i = true) (hr : (Region.ready md ops L).contains i = true)
    (hQ : ∀ c a w, Q (.panic c) (a.put oi.dst v) w → Q (.panic c) a w) (hy : YieldsIf P ops S oi v a) (hS : S w)
    (h : AnyZ P md ops Q S Z n (L.setIfInBounds i true) (a.put oi.dst v) w) : AnyZ P md ops Q S Z (n + 1) L a w :=
  AnyZ.first hi (Region.noSelect_spec hs) hQ hz n L a w (Region.free_spec hi hf) (by simpa using hr) hy hS h

/-- One that yields the same in every world may be taken first, whatever waits for it. -/
theorem AnyZ.free {i : Nat} {o : Oper} {v : Value} (hi : ops[i]? = some o) (hs : ∀ (j : Nat) (o : Oper) cs b, ops[j]? = some o → o.op ≠ .select cs b)
    (hQ : ∀ c a w, Q (.panic c) (a.put o.dst v) w → Q (.panic c) a w) :
    ∀ (n : Nat) (L : Array Bool) (a : Act) (w : World),
      (∀ j oj, ops[j]? = some oj → j ≠ i → L.getD j true = false → (∀ e ∈ oj.after, Region.binds md e = true → e.on ≠ i) → o.apart ops oj = true) →
      i ∈ Region.ready md ops L → YieldsIf P ops (fun _ => True) o v a → AnyZ P md ops Q S Z n (L.setIfInBounds i true) (a.put o.dst v) w → AnyZ P md ops Q S Z (n + 1) L a w
  | n, L, a, w, hfree, hr, hy, H => by
    refine ⟨fun h => absurd hr (by simp [h]), fun j hj => ?_⟩
    by_cases hji : j = i
    · subst hji
      exact hy.wpOp hi True.intro ⟨fun _ h => h, H⟩
    have hj2 := ready_mono hj hji
    cases n with
    | zero => exact absurd hj2 (by simp [H.1])
    | succ n =>
      obtain ⟨hun, oj, hoj, hall⟩ := mem_ready.1 hj
      have hno : ∀ e ∈ oj.after, Region.binds md e = true → e.on ≠ i := fun e he hb e1 => by
        have h2 := hall e he hb
        have h3 := (mem_ready.1 hr).1
        rw [e1] at h2
        cases hl : L[i]? with
        | none => simp [hl] at h2
        | some b => simp [hl] at h2 h3; rw [h2] at h3; cases h3
      refine wpOp_mono (fun a' w' h3 => ?_) (wpOp_putIf hoj (hfree j oj hoj hji hun hno) (fun cs b => hs i o cs b hi) (fun cs b => hs j oj cs b hoj) hQ hy (H.2 j hj2))
      refine ⟨h3.2.1, AnyZ.free hi hs hQ n _ a' w' (fun k ok hok hki hun' hno' => hfree k ok hok hki ?_ hno') (ready_mono hr (Ne.symm hji)) h3.1 ?_⟩
      · by_cases hjk : j = k
        · subst hjk; exact hun
        · rwa [getD_set_ne true hjk] at hun'
      · rw [Array.setIfInBounds_comm _ _ hji]
        exact h3.2.2
theorem anyZ_free {i : Nat} {oi : Oper} {v : Value} {n : Nat} {L : Array Bool} {a : Act} {w : World} (hi : ops[i]? = some oi)
    (hs : Region.noSelect ops = true) (hf : Region.free md ops L i = true) (hr : (Region.ready md ops L).contains i = true)
    (hQ : ∀ c a w, Q (.panic c) (a.put oi.dst v) w → Q (.panic c) a w) (hy : YieldsIf P ops (fun _ => True) oi v a)
    (h : AnyZ P md ops Q S Z n (L.setIfInBounds i true) (a.put oi.dst v) w) : AnyZ P md ops Q S Z (n + 1) L a w :=
  AnyZ.free hi (Region.noSelect_spec hs) hQ n L a w (Region.free_spec hi hf) (by simpa using hr) hy h

def AllZ (P : Program) (md : Region.Mode) (ops : Array Oper) (Q : Exit → Act → World → Prop) (S : World → Prop) (Z : List Nat) (n : Nat) (L : Array Bool) (a : Act) (w : World) (rs : List Nat) : Prop :=
  ∀ i ∈ rs, wpOp P ops Q i (fun a' w' => (Z.contains i = false → S w → S w') ∧ AnyZ P md ops Q S Z n (L.setIfInBounds i true) a' w') a w
theorem AllZ.nil {n : Nat} {L : Array Bool} {a : Act} {w : World} : AllZ P md ops Q S Z n L a w [] := fun _ h => absurd h (by simp)
/-- One that keeps S. -/
theorem AllZ.cons {n : Nat} {L : Array Bool} {a : Act} {w : World} {i : Nat} {o : Oper} {rs : List Nat} (ho : ops[i]? = some o)
    (h : ∀ K : Act → World → Prop, Shut (∀ a w, S w → (S w → AnyZ P md ops Q S Z n (L.setIfInBounds i true) a w) → K a w) → if Region.wanted o (yielded ops a.tmps) = true then Oper.wp P o a w K Q else K (a.put o.dst undef) w)
    (hs : AllZ P md ops Q S Z n L a w rs) : AllZ P md ops Q S Z n L a w (i :: rs) := fun j hj => by
  rcases List.mem_cons.1 hj with rfl | hj
  · exact wpOp_step ho fun K hK => h K fun a w hS hW => hK a w ⟨fun _ _ => hS, hW hS⟩
  · exact hs j hj
/-- One of Z. -/
theorem AllZ.last {n : Nat} {L : Array Bool} {a : Act} {w : World} {i : Nat} {o : Oper} {rs : List Nat} (ho : ops[i]? = some o) (hz : Z.contains i = true)
    (h : ∀ K : Act → World → Prop, Shut (∀ a w, AnyZ P md ops Q S Z n (L.setIfInBounds i true) a w → K a w) → if Region.wanted o (yielded ops a.tmps) = true then Oper.wp P o a w K Q else K (a.put o.dst undef) w)
    (hs : AllZ P md ops Q S Z n L a w rs) : AllZ P md ops Q S Z n L a w (i :: rs) := fun j hj => by
  rcases List.mem_cons.1 hj with rfl | hj
  · exact wpOp_step ho fun K hK => h K fun a w hW => hK a w ⟨fun e => absurd (hz.symm.trans e) (by decide), hW⟩
  · exact hs j hj
theorem anyZ_ready {rs : List Nat} {n : Nat} {L : Array Bool} {a : Act} {w : World} (hr : Region.ready md ops L = rs) (hne : rs ≠ []) (h : AllZ P md ops Q S Z n L a w rs) : AnyZ P md ops Q S Z (n + 1) L a w :=
  ⟨fun e => absurd (hr.symm.trans e) hne, by rw [hr]; exact h⟩
theorem anyZ_done {L : Array Bool} {a : Act} {w : World} (hr : Region.ready md ops L = []) (h : Q .normal a w) : ∀ n, AnyZ P md ops Q S Z n L a w
  | 0 => ⟨hr, h⟩
  | _ + 1 => ⟨fun _ => h, fun i hi => absurd hi (by simp [hr])⟩
theorem region_lastly {id : Nat} {a : Act} {w : World} (Z : List Nat) (hm : P.follows .mixedOrders = true) (hS : S w.drew)
    (h : S w.drew → AnyZ P .any ops Q S Z ops.size (Array.replicate ops.size false) a w.drew) : (Code.region id ops true).wp P Q a w :=
  wp_region_any hm (AnyZ.any _ _ _ _ (h hS))
end
end Go.Proofs.YtoigpjaffggekaaDoor
