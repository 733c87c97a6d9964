/-
  Joined texts: Words of 32 bits as plain numbers: sums, rolling, mixing, pressing. Arrays of integers, as variables of one's own. Bytes copied into arrays of one's own. What the rows of this seat share: how arguments are opened. Bytes behind bytes: rows of one's own. Primes, without any library: trial division, Euclid's lemma, and Lucas: where a number's powers modulo N come back to 1 at N - 1 and not ahead of it, N is a prime, and each number that N does not divide is one of those powers. The primes of the program: R, P and S, each by Lucas. Roots modulo R by the way of Tonelli and Shanks: what holds at every round; that there are just two of them. The curve y y = 1 + x x + 439 x x y y over the numbers modulo R: its points are a group. The Edwards curve's points are a group. The Edwards curve's points are a group: sums are points, and go in any order. Multiples of the Edwards curve's points; how many points there are at most. Numbers modulo R as Fin RE: what the document's own sums and products answer; points as pairs of numbers. The points of one Y: what X times X is, which X there are, odd and even; multiples bit by bit.
-/
import Derived.Test.YtdhbkhmknnlmnaaDoorJ1
import Derived.Deep.MidRow
import Derived.Laws.BitsLemmas
import Derived.Lib.LazyBuf
import Derived.Lib.SlBuf
import Derived.Test.YtdhbkhmknnlmnaaDoorRows
import Derived.WalkKit
import Derived.ProofKit
import Derived.OpenShut
import Derived.ShutString
import Derived.ChangeOld
import Derived.Below
import Derived.SizedLaws
import Derived.Deep.AppendLies
import Derived.Laws.AppendOwn

namespace Ob
set_option linter.unusedVariables false
set_option linter.unusedSimpArgs false

def upd (v : Nat → Nat) (i z : Nat) : Nat → Nat := fun j => if j = i then z else v j
theorem upd_same (v : Nat → Nat) (i z : Nat) : upd v i z i = z := if_pos rfl
theorem upd_ne (v : Nat → Nat) {i j : Nat} (z : Nat) (h : j ≠ i) : upd v i z j = v j := if_neg h
def s32 (x y : Nat) : Nat := (x + y) % 4294967296
/-- Rolled to the right. -/
def rot (x n : Nat) : Nat := x / 2 ^ n + x % 2 ^ n * 2 ^ (32 - n)
theorem s32_lt (x y : Nat) : s32 x y < 4294967296 := Nat.mod_lt _ (by decide)
theorem rot_lt {x n : Nat} (hx : x < 4294967296) (hn : n ≤ 32) : rot x n < 4294967296 := by
  unfold rot
  have hp : 0 < 2 ^ n := Nat.two_pow_pos n
  have e : (2 : Nat) ^ n * 2 ^ (32 - n) = 4294967296 := by rw [← Nat.pow_add, Nat.add_sub_cancel' hn]
  have h1 : x / 2 ^ n < 2 ^ (32 - n) := Nat.div_lt_of_lt_mul (by rw [e]; exact hx)
  have h2 : x % 2 ^ n + 1 ≤ 2 ^ n := Nat.mod_lt _ hp
  have h3 : (x % 2 ^ n + 1) * 2 ^ (32 - n) ≤ 4294967296 := by rw [← e]; exact Nat.mul_le_mul_right _ h2
  rw [Nat.add_mul, Nat.one_mul] at h3
  omega
theorem xor_lt {x y : Nat} (hx : x < 4294967296) (hy : y < 4294967296) : x ^^^ y < 4294967296 := Nat.xor_lt_two_pow (n := 32) hx hy
/-- All words below n. -/
def Words32 (v : Nat → Nat) : Prop := ∀ i, v i < 4294967296
theorem Words32.upd {v : Nat → Nat} (h : Words32 v) (i : Nat) {z : Nat} (hz : z < 4294967296) : Words32 (upd v i z) := fun j => by
  unfold Ob.upd
  split
  · exact hz
  · exact h j
/-- The first half of mixing four words with one, rolled by p and q. -/
def half (v : Nat → Nat) (a b c d x p q : Nat) : Nat → Nat :=
  let v1 := upd v a (s32 (s32 (v a) (v b)) x)
  let v2 := upd v1 d (rot (v1 d ^^^ v1 a) p)
  let v3 := upd v2 c (s32 (v2 c) (v2 d))
  upd v3 b (rot (v3 b ^^^ v3 c) q)
def mixN (v : Nat → Nat) (a b c d x y : Nat) : Nat → Nat := half (half v a b c d x 16 12) a b c d y 8 7
theorem half_words {v : Nat → Nat} (h : Words32 v) (a b c d x p q : Nat) (hp : p ≤ 32) (hq : q ≤ 32) : Words32 (half v a b c d x p q) := by
  have h1 : Words32 (upd v a (s32 (s32 (v a) (v b)) x)) := h.upd a (s32_lt _ _)
  have h2 := h1.upd d (rot_lt (xor_lt (h1 d) (h1 a)) hp)
  have h3 := h2.upd c (s32_lt ((upd (upd v a (s32 (s32 (v a) (v b)) x)) d (rot (upd v a (s32 (s32 (v a) (v b)) x) d ^^^ upd v a (s32 (s32 (v a) (v b)) x) a) p)) c) ((upd (upd v a (s32 (s32 (v a) (v b)) x)) d (rot (upd v a (s32 (s32 (v a) (v b)) x) d ^^^ upd v a (s32 (s32 (v a) (v b)) x) a) p)) d))
  exact h3.upd b (rot_lt (xor_lt (h3 b) (h3 c)) hq)
theorem mixN_words {v : Nat → Nat} (h : Words32 v) (a b c d x y : Nat) : Words32 (mixN v a b c d x y) := half_words (half_words h _ _ _ _ _ _ _ (by decide) (by decide)) _ _ _ _ _ _ _ (by decide) (by decide)
/-- The rounds' rows. -/
def sigT : List (List Nat) := [[0, 1, 2, 3, 4, 5, 6, 7, 8, 9, 10, 11, 12, 13, 14, 15], [14, 10, 4, 8, 9, 15, 13, 6, 1, 12, 0, 2, 11, 7, 5, 3], [11, 8, 12, 0, 5, 2, 15, 13, 10, 14, 3, 6, 7, 1, 9, 4], [7, 9, 3, 1, 13, 12, 11, 14, 2, 6, 5, 10, 4, 0, 15, 8], [9, 0, 5, 7, 2, 4, 10, 15, 14, 1, 11, 12, 6, 8, 3, 13], [2, 12, 6, 10, 0, 11, 8, 3, 4, 13, 7, 5, 15, 14, 1, 9], [12, 5, 1, 15, 14, 13, 4, 10, 0, 7, 6, 3, 9, 2, 8, 11], [13, 11, 7, 14, 12, 1, 3, 9, 5, 0, 15, 4, 8, 6, 2, 10], [6, 15, 14, 9, 11, 3, 0, 8, 12, 2, 13, 7, 1, 4, 10, 5], [10, 2, 8, 4, 7, 6, 1, 5, 15, 11, 9, 14, 3, 12, 13, 0]]
def sig (i j : Nat) : Nat := (sigT.getD i []).getD j 0
theorem sig_lt {i j : Nat} (hi : i < 10) (hj : j < 16) : sig i j < 16 := by
  have h : ∀ i : Fin 10, ∀ j : Fin 16, sig i.val j.val < 16 := by decide
  exact h ⟨i, hi⟩ ⟨j, hj⟩
/-- The words of the beginning. -/
def firstT : List Nat := [1779033703, 3144134277, 1013904242, 2773480762, 1359893119, 2600822924, 528734635, 1541459225]
def first (j : Nat) : Nat := firstT.getD j 0
/-- The places of a round's mixings. -/
def plcT : List (List Nat) := [[0, 4, 8, 12], [1, 5, 9, 13], [2, 6, 10, 14], [3, 7, 11, 15], [0, 5, 10, 15], [1, 6, 11, 12], [2, 7, 8, 13], [3, 4, 9, 14]]
def plc (i j : Nat) : Nat := (plcT.getD i []).getD j 0
theorem plc_lt {i j : Nat} (hi : i < 8) (hj : j < 4) : plc i j < 16 := by
  have h : ∀ i : Fin 8, ∀ j : Fin 4, plc i.val j.val < 16 := by decide
  exact h ⟨i, hi⟩ ⟨j, hj⟩
theorem plc_ne {i j k : Nat} (hi : i < 8) (hj : j < 4) (hk : k < 4) (h : j ≠ k) : plc i j ≠ plc i k := by
  have h' : ∀ i : Fin 8, ∀ j k : Fin 4, j ≠ k → plc i.val j.val ≠ plc i.val k.val := by decide
  exact h' ⟨i, hi⟩ ⟨j, hj⟩ ⟨k, hk⟩ (by intro e; exact h (congrArg Fin.val e))
/-- One mixing of a round, a round, the rounds. -/
def mixI (v m : Nat → Nat) (r i : Nat) : Nat → Nat := mixN v (plc i 0) (plc i 1) (plc i 2) (plc i 3) (m (sig r (2 * i))) (m (sig r (2 * i + 1)))
def roundN (v m : Nat → Nat) (r : Nat) : Nat → Nat → Nat
  | 0 => v
  | i + 1 => mixI (roundN v m r i) m r i
def rounds (v m : Nat → Nat) : Nat → Nat → Nat
  | 0 => v
  | r + 1 => roundN (rounds v m r) m r 8
theorem roundN_words {v : Nat → Nat} (h : Words32 v) (m : Nat → Nat) (r : Nat) : ∀ i, Words32 (roundN v m r i)
  | 0 => h
  | i + 1 => mixN_words (roundN_words h m r i) _ _ _ _ _ _
theorem rounds_words {v : Nat → Nat} (h : Words32 v) (m : Nat → Nat) : ∀ r, Words32 (rounds v m r)
  | 0 => h
  | r + 1 => roundN_words (rounds_words h m r) m r 8
/-- The sixteen words. -/
def six0 (h : Nat → Nat) (j : Nat) : Nat := if j < 8 then h j else first (j - 8)
/-- .. i of each half laid. -/
def sixI (h : Nat → Nat) (i j : Nat) : Nat := if j < 8 then (if j < i then h j else 0) else (if j < 8 + i then first (j - 8) else 0)
theorem sixI_zero (h : Nat → Nat) : sixI h 0 = fun _ => 0 := by
  funext j
  unfold sixI
  split <;> simp <;> omega
theorem sixI_succ (h : Nat → Nat) {i : Nat} (hi : i < 8) : upd (upd (sixI h i) i (h i)) (i + 8) (first i) = sixI h (i + 1) := by
  funext j
  unfold upd sixI
  by_cases h1 : j = i + 8
  · subst h1
    rw [if_pos rfl, if_neg (by omega), if_pos (by omega), Nat.add_sub_cancel]
  · by_cases h2 : j = i
    · subst h2; simp [h1, hi]
    · simp only [h1, h2, if_false]
      by_cases h3 : j < 8
      · simp only [h3, if_true]
        by_cases h4 : j < i
        · simp [h4, Nat.lt_succ_of_lt h4]
        · simp [h4]; omega
      · simp only [h3, if_false]
        by_cases h4 : j < 8 + i
        · simp [h4]; omega
        · simp [h4]; omega
theorem sixI_end (h : Nat → Nat) : ∀ j, j < 16 → sixI h 8 j = six0 h j := by
  intro j hj
  unfold sixI six0
  by_cases h3 : j < 8
  · simp [h3]
  · simp [h3]; omega
def six (h : Nat → Nat) (c : Nat) (last : Bool) : Nat → Nat :=
  let v2 := upd (upd (six0 h) 12 (six0 h 12 ^^^ (c % 4294967296))) 13 (six0 h 13 ^^^ (c / 4294967296))
  if last then upd v2 14 (six0 h 14 ^^^ 4294967295) else v2
def press (h m : Nat → Nat) (c : Nat) (last : Bool) (j : Nat) : Nat := h j ^^^ (rounds (six h c last) m 10 j ^^^ rounds (six h c last) m 10 (j + 8))
theorem first_lt (j : Nat) : first j < 4294967296 := by
  have h : ∀ j : Fin 8, first j.val < 4294967296 := by decide
  rcases Nat.lt_or_ge j 8 with hj | hj
  · exact h ⟨j, hj⟩
  · have : first j = 0 := by
      unfold first
      rw [List.getD_eq_getElem?_getD, List.getElem?_eq_none (by simpa [firstT] using hj)]
      rfl
    rw [this]; decide
theorem six0_words {h : Nat → Nat} (hh : Words32 h) : Words32 (six0 h) := fun j => by
  unfold six0
  split
  · exact hh j
  · exact first_lt _
theorem six_words {h : Nat → Nat} (hh : Words32 h) {c : Nat} (hc : c < 18446744073709551616) (last : Bool) : Words32 (six h c last) := by
  have h0 := six0_words hh
  have h2 := (h0.upd 12 (xor_lt (h0 12) (y := c % 4294967296) (by omega))).upd 13 (xor_lt (h0 13) (y := c / 4294967296) (by omega))
  unfold six
  cases last
  · exact h2
  · exact h2.upd 14 (xor_lt (h0 14) (by decide))
theorem press_words {h m : Nat → Nat} (hh : Words32 h) {c : Nat} (hc : c < 18446744073709551616) (last : Bool) : Words32 (press h m c last) := fun j =>
  xor_lt (hh j) (xor_lt (rounds_words (six_words hh hc last) m 10 j) (rounds_words (six_words hh hc last) m 10 (j + 8)))
theorem flip32 (x : Nat) (hx : x < 4294967296) : x ^^^ 4294967295 = 4294967295 - x := by
  have h := congrArg BitVec.toNat (BitVec.xor_allOnes (x := BitVec.ofNat 32 x))
  simp only [BitVec.toNat_xor, BitVec.toNat_ofNat, BitVec.toNat_allOnes, BitVec.toNat_not] at h
  rw [Nat.mod_eq_of_lt (by omega)] at h
  simpa using h
/-- The number of k bytes, the lowest first. -/
def lowN (z : Nat → Nat) : Nat → Nat
  | 0 => 0
  | k + 1 => lowN z k + z k * 2 ^ (8 * k)
theorem lowN_lt {z : Nat → Nat} (hz : ∀ i, z i < 256) : ∀ k, lowN z k < 2 ^ (8 * k)
  | 0 => by show 0 < 2 ^ (8 * 0); decide
  | k + 1 => by
    have h := lowN_lt hz k
    have e : (2 : Nat) ^ (8 * (k + 1)) = 2 ^ (8 * k) * 256 := by rw [Nat.mul_add, Nat.pow_add]
    have h1 : (z k + 1) * 2 ^ (8 * k) ≤ 256 * 2 ^ (8 * k) := Nat.mul_le_mul_right _ (hz k)
    rw [e, lowN]
    rw [Nat.add_mul, Nat.one_mul] at h1
    rw [Nat.mul_comm (2 ^ (8 * k)) 256]
    omega
/-- The words that the first block is pressed into, by the two words of a person. -/
def open0 (x y : Nat) : Nat → Nat := upd (upd (upd first 0 (first 0 ^^^ 16842784)) 6 (first 6 ^^^ x)) 7 (first 7 ^^^ y)
theorem open0_words {x y : Nat} (hx : x < 4294967296) (hy : y < 4294967296) : Words32 (open0 x y) :=
  ((Words32.upd (fun j => first_lt j) 0 (xor_lt (first_lt 0) (by decide))).upd 6 (xor_lt (first_lt 6) hx)).upd 7 (xor_lt (first_lt 7) hy)
/-- A block of n bytes. -/
def blk (z : Nat → Nat) (n i j : Nat) : Nat := if 64 * i + j < n then z (64 * i + j) else 0
theorem blk_lt {z : Nat → Nat} (hz : ∀ i, z i < 256) (n i j : Nat) : blk z n i j < 256 := by
  unfold blk
  split
  · exact hz _
  · decide
/-- How many blocks n bytes have; the words behind i of them. -/
def nblk (n : Nat) : Nat := if n = 0 then 1 else (n + 63) / 64
def digI (h : Nat → Nat) (m : Nat → Nat → Nat) (n : Nat) : Nat → Nat → Nat
  | 0 => h
  | i + 1 => press (digI h m n i) (m i) (min (64 * (i + 1)) n) (decide (n ≤ 64 * (i + 1)))
theorem digI_words {h : Nat → Nat} (hh : Words32 h) (m : Nat → Nat → Nat) {n : Nat} (hn : n < 18446744073709551616) : ∀ i, Words32 (digI h m n i)
  | 0 => hh
  | i + 1 => press_words (digI_words hh m hn i) (by omega) _
/-- The half of a mixing, as four words. -/
theorem half_four (v : Nat → Nat) {a b c d : Nat} (hab : a ≠ b) (hac : a ≠ c) (had : a ≠ d) (hbc : b ≠ c) (hbd : b ≠ d) (hcd : c ≠ d) (x p q A B C D : Nat)
    (hA : s32 (v a) (s32 (v b) x) = A) (hD : rot (v d ^^^ A) p = D) (hC : s32 (v c) D = C) (hB : rot (v b ^^^ C) q = B) :
    upd (upd (upd (upd v a A) b B) c C) d D = half v a b c d x p q := by
  have e : s32 (s32 (v a) (v b)) x = A := by rw [← hA]; unfold s32; omega
  unfold half
  simp only [e]
  have e1 : upd v a A d = v d := upd_ne v A (Ne.symm had)
  have e2 : upd v a A a = A := upd_same v a A
  rw [e1, e2, hD]
  have e3 : upd (upd v a A) d D c = v c := by rw [upd_ne _ _ hcd, upd_ne _ _ (Ne.symm hac)]
  have e4 : upd (upd v a A) d D d = D := upd_same _ _ _
  rw [e3, e4, hC]
  have e5 : upd (upd (upd v a A) d D) c C b = v b := by rw [upd_ne _ _ hbc, upd_ne _ _ hbd, upd_ne _ _ (Ne.symm hab)]
  have e6 : upd (upd (upd v a A) d D) c C c = C := upd_same _ _ _
  rw [e5, e6, hB]
  funext j
  unfold upd
  by_cases h1 : j = a
  · subst h1; simp [hab, hac, had]
  · by_cases h2 : j = b
    · subst h2; simp [hbc, hbd, h1]
    · by_cases h3 : j = c
      · subst h3; simp [hcd, h1, h2]
      · by_cases h4 : j = d
        · subst h4; simp [h1, h2, h3]
        · simp [h1, h2, h3, h4]
end Ob

namespace Go.Proofs.YtdhbkhmknnlmnaaDoor
open Go.RowKit Go.Proofs
set_option linter.unusedVariables false
set_option linter.unusedSimpArgs false

def arrL (k : IntKind) (v : Nat → Nat) (n : Nat) : List Value := (List.range n).map fun i => .int k (v i : Nat)
def arrV (k : IntKind) (v : Nat → Nat) (n : Nat) : Value := .agg (arrL k v n).toArray
theorem arrL_length (k : IntKind) (v : Nat → Nat) (n : Nat) : (arrL k v n).length = n := by unfold arrL; simp
theorem arrL_get (k : IntKind) (v : Nat → Nat) (n i : Nat) (h : i < n) : (arrL k v n)[i]? = some (.int k (v i : Nat)) := by unfold arrL; simp [h]
theorem arrL_one (k : IntKind) (v : Nat → Nat) (n : Nat) : ∀ u ∈ arrL k v n, u.oneCell' = true := by
  unfold arrL
  intro u hu
  obtain ⟨_, _, rfl⟩ := List.mem_map.1 hu
  rfl
theorem arrL_congr {k : IntKind} {v v' : Nat → Nat} {n : Nat} (h : ∀ i, i < n → v i = v' i) : arrL k v n = arrL k v' n := by
  unfold arrL
  exact List.map_congr_left fun i hi => by rw [h i (List.mem_range.1 hi)]
/-- An array of n numbers lies in block b. -/
structure Arr (w : World) (k : IntKind) (b n : Nat) (v : Nat → Nat) : Prop where
  lt : b < w.heap.size
  c : ∀ i, i < n → w.cell? ⟨b, i, none⟩ = some (.int k (v i : Nat))
  f : ∀ i, i < n → w.frozen? ⟨b, i, none⟩ = false
theorem Arr.below {w w1 : World} {k : IntKind} {B b n : Nat} {v : Nat → Nat} (t : Arr w k b n v) (hb : Below B w w1) (h : b < B) : Arr w1 k b n v :=
  ⟨Nat.lt_of_lt_of_le t.lt hb.size, fun i hi => by rw [(bcell hb).1 b i h]; exact t.c i hi, fun i hi => by rw [(bcell hb).2 b i h]; exact t.f i hi⟩
theorem Arr.via {w w1 : World} {k : IntKind} {B b n : Nat} {v : Nat → Nat} (hb : Below B w w1) (t : Arr w k b n v) (h : b < B) : Arr w1 k b n v := t.below hb h
theorem Arr.alloc {w : World} {k : IntKind} {b n : Nat} {v : Nat → Nat} (t : Arr w k b n v) (o : Obj) : Arr (w.alloc o) k b n v := t.below ((Below.refl w.heap.size w).alloc (Nat.le_refl _) o) t.lt
theorem Arr.drew {w : World} {k : IntKind} {b n : Nat} {v : Nat → Nat} (t : Arr w k b n v) : Arr w.drew k b n v := t.below ((Below.refl w.heap.size w).drew) t.lt
theorem Arr.drewN {w : World} {k : IntKind} {b n : Nat} {v : Nat → Nat} (t : Arr w k b n v) (m : Nat) : Arr (w.drewN m) k b n v := t.below (below_drewN (Below.refl w.heap.size w) m) t.lt
theorem Arr.far {w : World} {k : IntKind} {b b' n : Nat} {v : Nat → Nat} (t : Arr w k b n v) (h : b' ≠ b) (o : Nat) (z : Value) : Arr (w.setCell ⟨b', o, none⟩ z) k b n v :=
  ⟨by simp [t.lt], fun i hi => by rw [World.cell?_setCell_other _ _ _ _ (by simp [h]), t.c i hi], fun i hi => by simp [t.f i hi]⟩
theorem Arr.set {w : World} {k : IntKind} {b n : Nat} {v : Nat → Nat} (t : Arr w k b n v) {i z : Nat} (hi : i < n) : Arr (w.setCell ⟨b, i, none⟩ (.int k (z : Nat))) k b n (Ob.upd v i z) where
  lt := by simp [t.lt]
  c := fun j hj => by
    by_cases h : j = i
    · subst h
      rw [Ob.upd_same]
      exact World.cell?_setCell_same _ _ _ (t.c j hj)
    · rw [Ob.upd_ne _ _ h, World.cell?_setCell_other _ _ _ _ (by first | (simp; done) | (simp; omega)), t.c j hj]
  f := fun j hj => by simp [t.f j hj]
theorem Arr.new {w : World} {k : IntKind} {v : Nat → Nat} {n : Nat} {t : TypeId} {b : Nat} (h : b = w.heap.size) : Arr (w.alloc (.cells (arrL k v n).toArray t)) k b n v := by
  subst h
  exact ⟨by simp, fun i hi => by rw [World.cell?_alloc_at _ _ _ _ rfl, List.getElem?_toArray, arrL_get k v n i hi], fun i hi => by rw [World.frozen?_alloc_at _ _ _ _ rfl]⟩
theorem Arr.range {w : World} {k : IntKind} {b n : Nat} {v : Nat → Nat} (t : Arr w k b n v) : w.rangeAt b 0 (arrL k v n) := fun j u hu => by
  have hj : j < n := by have := (List.getElem?_eq_some_iff.1 hu).1; rwa [arrL_length] at this
  rw [arrL_get k v n j hj] at hu
  rw [Nat.zero_add, t.c j hj]; exact hu
theorem Arr.there {w : World} {k : IntKind} {b n : Nat} {v : Nat → Nat} (t : Arr w k b n v) : w.there b 0 n := fun j hj => by
  rw [Nat.zero_add]
  exact ⟨by rw [t.c j hj]; rfl, t.f j hj⟩

theorem setCells_size (w : World) (b o : Nat) (cs : List Value) : (w.setCells b o cs).heap.size = w.heap.size := by
  induction cs generalizing o w with
  | nil => rfl
  | cons c r ih => rw [World.setCells, ih]; exact World.size_setCell _ _ _
/-- The whole of it stored. -/
theorem Arr.whole {w : World} {k : IntKind} {b n : Nat} {v : Nat → Nat} (t : Arr w k b n v) (v' : Nat → Nat) : Arr (w.setCells b 0 (arrL k v' n)) k b n v' := by
  have h := World.rangeAt_setCells_same w b 0 (arrL k v' n) (by rw [arrL_length]; exact t.there)
  have ht := World.there_setCells t.there b 0 (arrL k v' n)
  refine ⟨?_, fun i hi => ?_, fun i hi => ?_⟩
  · by_cases hn : n = 0
    · subst hn
      exact t.lt
    · have := h 0 _ (arrL_get k v' n 0 (by omega))
      simpa using World.block_lt_of_cell? _ _ this
  · have := h i _ (arrL_get k v' n i hi)
    rwa [Nat.zero_add] at this
  · have := (ht i hi).2
    rwa [Nat.zero_add] at this
theorem below_setCells {B b : Nat} {a w : World} (h : Below B a w) (hb : B ≤ b) (vs : List Value) : ∀ o, Below B a (w.setCells b o vs) := by
  induction vs generalizing w with
  | nil => intro o; exact h
  | cons v r ih => intro o; exact ih (h.setCell hb _) (o + 1)
theorem Arr.farCells {w : World} {k : IntKind} {b b' n : Nat} {v : Nat → Nat} (t : Arr w k b n v) (h : b' ≠ b) (o : Nat) (cs : List Value) : Arr (w.setCells b' o cs) k b n v := by
  have hs : ∀ (cs : List Value) (o : Nat) (w : World), Arr w k b n v → Arr (w.setCells b' o cs) k b n v := by
    intro cs
    induction cs with
    | nil => intro o w t; exact t
    | cons c r ih => intro o w t; exact ih (o + 1) _ (t.far h o c)
  exact hs cs o w t
theorem Arr.congr {w : World} {k : IntKind} {b n : Nat} {v v' : Nat → Nat} (t : Arr w k b n v) (h : ∀ i, i < n → v i = v' i) : Arr w k b n v' :=
  ⟨t.lt, fun i hi => by rw [← h i hi]; exact t.c i hi, t.f⟩
theorem Arr.new16 {w : World} {t : TypeId} : Arr (w.alloc (.cells #[.int .u32 0, .int .u32 0, .int .u32 0, .int .u32 0, .int .u32 0, .int .u32 0, .int .u32 0, .int .u32 0, .int .u32 0, .int .u32 0, .int .u32 0, .int .u32 0, .int .u32 0, .int .u32 0, .int .u32 0, .int .u32 0] t)) .u32 w.heap.size 16 (fun _ => 0) := Arr.new (k := .u32) (n := 16) (v := fun _ => 0) rfl
theorem Arr.new8 {w : World} {t : TypeId} : Arr (w.alloc (.cells #[.int .u32 0, .int .u32 0, .int .u32 0, .int .u32 0, .int .u32 0, .int .u32 0, .int .u32 0, .int .u32 0] t)) .u32 w.heap.size 8 (fun _ => 0) := Arr.new (k := .u32) (n := 8) (v := fun _ => 0) rfl
theorem Arr.new8b {w : World} {t : TypeId} : Arr (w.alloc (.cells #[.int .u8 0, .int .u8 0, .int .u8 0, .int .u8 0, .int .u8 0, .int .u8 0, .int .u8 0, .int .u8 0] t)) .u8 w.heap.size 8 (fun _ => 0) := Arr.new (k := .u8) (n := 8) (v := fun _ => 0) rfl
theorem Arr.new64b {w : World} {t : TypeId} : Arr (w.alloc (.cells #[.int .u8 0, .int .u8 0, .int .u8 0, .int .u8 0, .int .u8 0, .int .u8 0, .int .u8 0, .int .u8 0, .int .u8 0, .int .u8 0, .int .u8 0, .int .u8 0, .int .u8 0, .int .u8 0, .int .u8 0, .int .u8 0, .int .u8 0, .int .u8 0, .int .u8 0, .int .u8 0, .int .u8 0, .int .u8 0, .int .u8 0, .int .u8 0, .int .u8 0, .int .u8 0, .int .u8 0, .int .u8 0, .int .u8 0, .int .u8 0, .int .u8 0, .int .u8 0, .int .u8 0, .int .u8 0, .int .u8 0, .int .u8 0, .int .u8 0, .int .u8 0, .int .u8 0, .int .u8 0, .int .u8 0, .int .u8 0, .int .u8 0, .int .u8 0, .int .u8 0, .int .u8 0, .int .u8 0, .int .u8 0, .int .u8 0, .int .u8 0, .int .u8 0, .int .u8 0, .int .u8 0, .int .u8 0, .int .u8 0, .int .u8 0, .int .u8 0, .int .u8 0, .int .u8 0, .int .u8 0, .int .u8 0, .int .u8 0, .int .u8 0, .int .u8 0] t)) .u8 w.heap.size 64 (fun _ => 0) := Arr.new (k := .u8) (n := 64) (v := fun _ => 0) rfl
/-- The whole of it read. -/
theorem Arr.loadAt {w : World} {k : IntKind} {b n : Nat} {v : Nat → Nat} (t : Arr w k b n v) {ty : TypeId} {d : TypeDesc} (hu : Tryd.prog.underlying ty = some d) (hd : d.isRow = true) (hi : (Tryd.prog.info? ty).map (·.size) = some n) :
    (Instr.loadAt ty (.pointer (some ⟨b, 0, none⟩))).run Tryd.prog w = .ok (.agg (arrL k v n).toArray) w :=
  run_loadAt_mid w b 0 ty (arrL k v n) d t.range hu hd (by rw [arrL_length]; exact hi)
theorem Arr.loadVar {w : World} {k : IntKind} {b n : Nat} {v : Nat → Nat} (t : Arr w k b n v) {ty : TypeId} {d : TypeDesc} (hu : Tryd.prog.underlying ty = some d) (hd : d.isRow = true) (hi : (Tryd.prog.info? ty).map (·.size) = some n) :
    (Go.loadVar ty ⟨b, 0, none⟩).run Tryd.prog w = .ok (.agg (arrL k v n).toArray) w :=
  run_loadVar_mid w b 0 ty (arrL k v n) d t.range hu hd (by rw [arrL_length]; exact hi)
/-- The whole of it stored: the world behind it. -/
theorem Arr.storeAt {w : World} {k : IntKind} {b n : Nat} {v : Nat → Nat} (t : Arr w k b n v) (v' : Nat → Nat) {ty : TypeId} (hi : (Tryd.prog.info? ty).map (·.size) = some n) :
    ∃ w', (Instr.storeAt ty (.pointer (some ⟨b, 0, none⟩)) (.agg (arrL k v' n).toArray)).run Tryd.prog w = .ok () w' ∧ Hid (w' = w.setCells b 0 (arrL k v' n)) ∧ Arr w' k b n v' ∧ w'.heap.size = w.heap.size :=
  ⟨_, run_storeAt_mid w b 0 ty (arrL k v' n).toArray (by rw [show (arrL k v' n).toArray.size = n by simp [arrL_length]]; exact t.there) (by rw [show (arrL k v' n).toArray.size = n by simp [arrL_length]]; exact hi) (all_oneCell_toArray (arrL_one k v' n)), rfl, t.whole v', setCells_size _ _ _ _⟩
theorem wpList_loadArr {ops : Array Oper} {rest : List Oper} {op : Oper} {a : Act} {w : World} {Q : Exit → Act → World → Prop} (hgd : op.guard = none) (ty : TypeId) (x : Operand) (ho : op.op = .load ty x)
    (b : Nat) (hx : a.eval x = .pointer (some ⟨b, 0, none⟩)) {k : IntKind} {n : Nat} {v : Nat → Nat} {d : TypeDesc} (t : Arr w k b n v)
    (hu : Tryd.prog.underlying ty = some d) (hd : d.isRow = true) (hi : (Tryd.prog.info? ty).map (·.size) = some n)
    (h : wpList Tryd.prog ops Q rest (a.put op.dst (.agg (arrL k v n).toArray)) w) : wpList Tryd.prog ops Q (op :: rest) a w :=
  wpList_load_mid hgd ty x ho b 0 hx (arrL k v n) d t.range hu hd (by rw [arrL_length]; exact hi) h
theorem wpList_storeArr {ops : Array Oper} {rest : List Oper} {op : Oper} {a : Act} {w : World} {Q : Exit → Act → World → Prop} (hgd : op.guard = none) (ty : TypeId) (x y : Operand) (ho : op.op = .store ty x y)
    (b : Nat) (hx : a.eval x = .pointer (some ⟨b, 0, none⟩)) {k : IntKind} {n : Nat} {v : Nat → Nat} (v' : Nat → Nat) (hy : a.eval y = .agg (arrL k v' n).toArray) (t : Arr w k b n v)
    (hi : (Tryd.prog.info? ty).map (·.size) = some n)
    (h : ∀ w', Hid (w' = w.setCells b 0 (arrL k v' n)) → Hid (Arr w' k b n v') → w'.heap.size = w.heap.size → wpList Tryd.prog ops Q rest (a.put op.dst undef) w') : wpList Tryd.prog ops Q (op :: rest) a w := by
  have hs : (arrL k v' n).toArray.size = n := by simp [arrL_length]
  exact wpList_store_mid hgd ty x y ho b 0 (arrL k v' n).toArray hx hy (by rw [hs]; exact t.there) (by rw [hs]; exact hi) (all_oneCell_toArray (arrL_one k v' n))
    (by rw [List.toList_toArray]; exact h _ rfl (t.whole v') (setCells_size _ _ _ _))
theorem wpList_loadLit {ops : Array Oper} {rest : List Oper} {dst : Option Tmp} {ty ty' : TypeId} {x : Operand} {ps : String} {af : Array Edge} {a : Act} {w : World} {Q : Exit → Act → World → Prop}
    {b : Nat} {k : IntKind} {n : Nat} {v : Nat → Nat} {d : TypeDesc} (t : Arr w k b n v) (hx : a.eval x = .pointer (some ⟨b, 0, none⟩))
    (hu : Tryd.prog.underlying ty = some d) (hd : d.isRow = true) (hi : (Tryd.prog.info? ty).map (·.size) = some n)
    (h : wpList Tryd.prog ops Q rest (a.put dst (.agg (arrL k v n).toArray)) w) : wpList Tryd.prog ops Q (⟨dst, .load ty x, ty', ps, af, none⟩ :: rest) a w :=
  wpList_loadArr rfl ty x rfl b hx t hu hd hi h
theorem wpList_storeLit {ops : Array Oper} {rest : List Oper} {dst : Option Tmp} {ty ty' : TypeId} {x y : Operand} {ps : String} {af : Array Edge} {a : Act} {w : World} {Q : Exit → Act → World → Prop}
    {b : Nat} {k : IntKind} {n : Nat} {v : Nat → Nat} (v' : Nat → Nat) (t : Arr w k b n v) (hx : a.eval x = .pointer (some ⟨b, 0, none⟩)) (hy : a.eval y = .agg (arrL k v' n).toArray)
    (hi : (Tryd.prog.info? ty).map (·.size) = some n)
    (h : ∀ w', Hid (w' = w.setCells b 0 (arrL k v' n)) → Hid (Arr w' k b n v') → w'.heap.size = w.heap.size → wpList Tryd.prog ops Q rest (a.put dst undef) w') : wpList Tryd.prog ops Q (⟨dst, .store ty x y, ty', ps, af, none⟩ :: rest) a w :=
  wpList_storeArr rfl ty x y rfl b hx v' hy t hi h
/-- n numbers that lie in a block, from its head on, to be read. -/
structure Rd (w : World) (k : IntKind) (b n : Nat) (v : Nat → Nat) : Prop where
  lt : b < w.heap.size
  c : ∀ i, i < n → w.cell? ⟨b, i, none⟩ = some (.int k (v i : Nat))
theorem Rd.below {w w1 : World} {k : IntKind} {B b n : Nat} {v : Nat → Nat} (t : Rd w k b n v) (hb : Below B w w1) (h : b < B) : Rd w1 k b n v :=
  ⟨Nat.lt_of_lt_of_le t.lt hb.size, fun i hi => by rw [(bcell hb).1 b i h]; exact t.c i hi⟩
theorem Rd.drew {w : World} {k : IntKind} {b n : Nat} {v : Nat → Nat} (t : Rd w k b n v) : Rd w.drew k b n v := t.below ((Below.refl w.heap.size w).drew) t.lt
theorem Rd.drewN {w : World} {k : IntKind} {b n : Nat} {v : Nat → Nat} (t : Rd w k b n v) (m : Nat) : Rd (w.drewN m) k b n v := t.below (below_drewN (Below.refl w.heap.size w) m) t.lt
theorem Rd.far {w : World} {k : IntKind} {b b' n : Nat} {v : Nat → Nat} (t : Rd w k b n v) (h : b' ≠ b) (o : Nat) (z : Value) : Rd (w.setCell ⟨b', o, none⟩ z) k b n v :=
  ⟨by simp [t.lt], fun i hi => by rw [World.cell?_setCell_other _ _ _ _ (by simp [h]), t.c i hi]⟩
theorem Arr.rd {w : World} {k : IntKind} {b n : Nat} {v : Nat → Nat} (t : Arr w k b n v) : Rd w k b n v := ⟨t.lt, t.c⟩
/-! Words of 32 bits -/
def wordAt (z : Nat → Nat) (j : Nat) : Nat := z (4 * j) + 256 * z (4 * j + 1) + 65536 * z (4 * j + 2) + 16777216 * z (4 * j + 3)
theorem wraps_u32 (n : Int) (h0 : 0 ≤ n) (h1 : n < 2 ^ 32) : IntKind.u32.wrap n = n := by rw [IntKind.wrap_u32]; omega
theorem xor_u32 (a b : Nat) (ha : a < 4294967296) (hb : b < 4294967296) : bits .xor .u32 (a : Int) (b : Int) = ((a ^^^ b : Nat) : Int) := by
  have ha' : a % 2 ^ 32 = a := Nat.mod_eq_of_lt ha
  have hb' : b % 2 ^ 32 = b := Nat.mod_eq_of_lt hb
  have hk : IntKind.u32.bits = 32 := rfl
  simp only [bits, BitVec.ofInt_natCast, BitVec.toNat_xor, BitVec.toNat_ofNat, hk, ha', hb']
  exact wraps_u32 _ (Int.natCast_nonneg _) (by have := Ob.xor_lt ha hb; omega)
theorem or_u32 (a b n : Nat) (hn : n ≤ 32) (ha : a < 2 ^ n) (hb : b < 2 ^ (32 - n)) : bits .or .u32 (a : Int) ((b * 2 ^ n : Nat) : Int) = ((a + b * 2 ^ n : Nat) : Int) := by
  have e : (2 : Nat) ^ n * 2 ^ (32 - n) = 4294967296 := by rw [← Nat.pow_add, Nat.add_sub_cancel' hn]
  have h1 : a < 2 ^ 32 := Nat.lt_of_lt_of_le ha (Nat.pow_le_pow_right (by decide) hn)
  have h2 : b * 2 ^ n < 2 ^ 32 := by
    have : (b + 1) * 2 ^ n ≤ 2 ^ (32 - n) * 2 ^ n := Nat.mul_le_mul_right _ hb
    rw [Nat.mul_comm (2 ^ (32 - n)), e, Nat.add_mul, Nat.one_mul] at this
    have := Nat.two_pow_pos n
    omega
  rw [(bits_nat .u32 32 (by decide) wraps_u32 a (b * 2 ^ n) h1 h2).2, Nat.or_comm, Nat.mul_comm, ← Nat.two_pow_add_eq_or_of_lt ha b, Nat.add_comm]
end Go.Proofs.YtdhbkhmknnlmnaaDoor

namespace Go.Proofs.YtdhbkhmknnlmnaaDoor
open Go.RowKit Go.Proofs
set_option linter.unusedVariables false
set_option linter.unusedSimpArgs false

/-- The bytes of a string, 0 behind them. -/
def sby (s : ByteArray) (i : Nat) : Nat := ((s.data.toList[i]?).map UInt8.toNat).getD 0
theorem sby_lt (s : ByteArray) (i : Nat) : sby s i < 256 := by
  unfold sby
  cases s.data.toList[i]? with
  | none => decide
  | some x => exact x.toNat_lt
theorem sby_out (s : ByteArray) {i : Nat} (h : s.size ≤ i) : sby s i = 0 := by
  unfold sby
  rw [List.getElem?_eq_none (by rw [Array.length_toList]; exact h)]
  rfl
theorem sby_cells (s : ByteArray) : (s.data.toList.map fun x => Value.int .u8 (x.toNat : Int)) = arrL .u8 (sby s) s.size := by
  apply List.ext_getElem?
  intro i
  by_cases h : i < s.size
  · rw [arrL_get _ _ _ _ h]
    have h' : i < s.data.toList.length := by rw [Array.length_toList]; exact h
    unfold sby
    rw [List.getElem?_map, List.getElem?_eq_getElem h']
    rfl
  · rw [List.getElem?_eq_none (by rw [List.length_map, Array.length_toList]; exact Nat.le_of_not_lt h), List.getElem?_eq_none (by rw [arrL_length]; omega)]
/-- The first k of an array's cells stored. -/
theorem Arr.part {w : World} {k : IntKind} {b n m : Nat} {v : Nat → Nat} (t : Arr w k b n v) (u : Nat → Nat) (hm : m ≤ n) : Arr (w.setCells b 0 (arrL k u m)) k b n (fun i => if i < m then u i else v i) := by
  refine ⟨by rw [setCells_size]; exact t.lt, fun i hi => ?_, fun i hi => by rw [World.frozen?_setCells]; exact t.f i hi⟩
  by_cases h : i < m
  · have hin := World.cell?_setCells_in b (arrL k u m) 0 w (fun j hj => by rw [Nat.zero_add, t.c j (by rw [arrL_length] at hj; omega)]; rfl) i (by rw [arrL_length]; exact h)
    rw [Nat.zero_add] at hin
    rw [hin, if_pos h]
    have := arrL_get k u m i h
    rw [List.getElem?_eq_getElem (by rw [arrL_length]; exact h)] at this
    exact this
  · rw [World.cell?_setCells_out b _ 0 w _ (fun _ _ => Or.inr (by rw [arrL_length]; show 0 + m ≤ i; omega)), if_neg h]
    exact t.c i hi
theorem sizeByte : ∀ w, (Go.sizeOf 5).run Tryd.prog w = .ok 1 w := by
  obtain ⟨i, hi, h1, _⟩ := byteInfo
  intro w
  simp [sizeOf, typeInfo, hi, h1]
theorem sizeByte' : (Tryd.prog.info? 5).map (·.size) = some 1 := by kernel_rfl
/-- A string copied into bytes that are 0. -/
theorem Arr.copyStr {w : World} {b n : Nat} (t : Arr w .u8 b n (fun _ => 0)) (s : ByteArray) (hs : s.size ≤ n) (c : Nat) (ty : TypeId) :
    ∃ w', (Builtin.copy_ #[34, 9] ty #[.slice (some ⟨b, 0, none⟩) n c, .string s]).run Tryd.prog w = .ok (goInt s.size) w' ∧ Hid (w' = w.setCells b 0 (arrL .u8 (sby s) s.size)) ∧ Hid (Arr w' .u8 b n (sby s)) ∧ w'.heap.size = w.heap.size := by
  have h := run_copy_string (P := Tryd.prog) w 34 9 ty 5 b 0 n c s Tryd.underlying34 sizeByte hs (fun j hj => by rw [Nat.zero_add, t.c j (by omega)]; rfl) (fun j hj => by rw [Nat.zero_add]; exact t.f j (by omega))
  rw [sby_cells] at h
  refine ⟨_, h, rfl, ?_, setCells_size _ _ _ _⟩
  exact (t.part (sby s) hs).congr fun i hi => by
    by_cases hh : i < s.size
    · rw [if_pos hh]
    · rw [if_neg hh, sby_out s (by omega)]
/-- The whole of an array, in a region that draws its order. -/
theorem yieldsArr {ops : Array Oper} {S : World → Prop} {op : Oper} {a : Act} (hw : Region.wanted op (yielded ops a.tmps) = true) (ty : TypeId) (x : Operand) (ho : op.op = .load ty x)
    (b : Nat) (hx : a.eval x = .pointer (some ⟨b, 0, none⟩)) {k : IntKind} {n : Nat} {v : Nat → Nat} {d : TypeDesc} (hS : ∀ w, S w → Arr w k b n v)
    (hu : Tryd.prog.underlying ty = some d) (hd : d.isRow = true) (hi : (Tryd.prog.info? ty).map (·.size) = some n) : YieldsIf Tryd.prog ops S op (.agg (arrL k v n).toArray) a :=
  yieldsIf_load_mid hw ty x ho b 0 hx (arrL k v n) d (fun w h => (hS w h).range) hu hd (by rw [arrL_length]; exact hi)
theorem wp_storeArr {op : Oper} {a : Act} {w : World} {K : Act → World → Prop} {Q : Exit → Act → World → Prop} (ty : TypeId) (x y : Operand) (ho : op.op = .store ty x y)
    (b : Nat) (hx : a.eval x = .pointer (some ⟨b, 0, none⟩)) {k : IntKind} {n : Nat} {v : Nat → Nat} (v' : Nat → Nat) (hy : a.eval y = .agg (arrL k v' n).toArray) (t : Arr w k b n v)
    (hi : (Tryd.prog.info? ty).map (·.size) = some n)
    (h : ∀ w', Hid (w' = w.setCells b 0 (arrL k v' n)) → Hid (Arr w' k b n v') → w'.heap.size = w.heap.size → K (a.put op.dst undef) w') : op.wp Tryd.prog a w K Q := by
  have hs : (arrL k v' n).toArray.size = n := by simp [arrL_length]
  exact wp_store_mid ty x y ho b 0 (arrL k v' n).toArray hx hy (by rw [hs]; exact t.there) (by rw [hs]; exact hi) (all_oneCell_toArray (arrL_one k v' n))
    (by rw [List.toList_toArray]; exact h _ rfl (t.whole v') (setCells_size _ _ _ _))
/-- n bytes that may be read at an address. -/
def Src (w : World) (a : Option Addr) (n : Nat) (z : Nat → Nat) : Prop := n = 0 ∨ ∃ b off, a = some ⟨b, off, none⟩ ∧ Bys w b off n z
theorem Src.below {w w1 : World} {a : Option Addr} {n : Nat} {z : Nat → Nat} (h : Src w a n z) (hb : Below w.heap.size w w1) : Src w1 a n z := by
  rcases h with h | ⟨b, off, ha, hB⟩
  · exact Or.inl h
  · exact Or.inr ⟨b, off, ha, hB.below hb hB.lt⟩
theorem Src.tail {w : World} {p : Option Addr} {m c T : Nat} {u : Nat → Nat} (h : Src w p m u) (hT : T ≤ m) (hc : m ≤ c) {p' : Option Addr} (hp : p' = if c = T then p else p.map (·.add T)) : Src w p' (m - T) (fun j => u (T + j)) := by
  by_cases e : m - T = 0
  · exact Or.inl e
  · rcases h with h | ⟨b, off, rfl, hB⟩
    · omega
    · right
      rw [if_neg (by omega)] at hp
      refine ⟨b, off + T, by rw [hp, Option.map_some, Addr.add_mid], hB.more T (m - T) (by omega)⟩
theorem Arr.copyBys {w : World} {B n : Nat} (t : Arr w .u8 B n (fun _ => 0)) {a : Option Addr} {m : Nat} {u : Nat → Nat} (hS : Src w a m u) (c c' : Nat) (ty : TypeId) {T : Nat} (hT : min m n = T) :
    ∃ w', (Builtin.copy_ #[34, 34] ty #[.slice (some ⟨B, 0, none⟩) n c, .slice a m c']).run Tryd.prog w = .ok (.int .i64 (T : Nat)) w' ∧ Hid (w' = w.setCells B 0 (arrL .u8 u T)) ∧ Hid (Arr w' .u8 B n (fun j => if j < m then u j else 0)) ∧ w'.heap.size = w.heap.size := by
  have ht : T ≤ n := by omega
  have hA : Arr (w.setCells B 0 (arrL .u8 u T)) .u8 B n (fun j => if j < m then u j else 0) := (t.part u ht).congr fun i hi => by
    by_cases h : i < T
    · rw [if_pos h, if_pos (by omega)]
    · rw [if_neg h, if_neg (by omega)]
  rcases hS with h0 | ⟨b, off, rfl, hB⟩
  · have hT0 : T = 0 := by omega
    subst hT0
    refine ⟨_, ?_, rfl, hA, setCells_size _ _ _ _⟩
    exact run_copy_none (P := Tryd.prog) w 34 34 ty 5 _ _ n c m c' Tryd.underlying34 sizeByte' (by rw [h0]; exact Nat.zero_min _)
  · refine ⟨_, ?_, rfl, hA, setCells_size _ _ _ _⟩
    have := run_copy_cells (P := Tryd.prog) w 34 34 ty 5 B 0 n c ⟨b, off, none⟩ m c' (arrL .u8 u T) Tryd.underlying34 sizeByte' (by rw [arrL_length]; exact hT.symm)
      (fun j v hv => by
        have hj : j < T := by have := (List.getElem?_eq_some_iff.1 hv).1; rwa [arrL_length] at this
        rw [arrL_get _ _ _ _ hj] at hv
        rw [Addr.add_mid, hB.at_ j (by omega)]
        exact hv)
      (fun j hj => by rw [arrL_length] at hj; rw [Nat.zero_add, t.c j (by omega)]; rfl) (fun j hj => by rw [arrL_length] at hj; rw [Nat.zero_add]; exact t.f j (by omega)) (arrL_one _ _ _)
    rw [arrL_length] at this
    exact this
theorem wpList_tail {ops : Array Oper} {rest : List Oper} {dst : Option Tmp} {ty' : TypeId} {x l : Operand} {ps : String} {af : Array Edge} {a : Act} {w : World} {Q : Exit → Act → World → Prop}
    {ty : TypeId} {p : Option Addr} {m c T : Nat} (hT : T ≤ m) (hty : ty = 34) (hx : a.eval x = .slice p m c) (hl : a.eval l = .int .i64 (T : Nat))
    (h : ∀ p', Hid (p' = if c = T then p else p.map (·.add T)) → wpList Tryd.prog ops Q rest (a.put dst (.slice p' (m - T) (c - T))) w) : wpList Tryd.prog ops Q (⟨dst, .slice ty x (some l) none none, ty', ps, af, none⟩ :: rest) a w :=
  wpList_plain rfl fun K hK => by
    subst hty
    have hr : (Instr.sliceAt 34 (.slice p m c) (some (.int .i64 (T : Nat))) none none).run Tryd.prog w = .ok (.slice (if c = T then p else p.map (·.add T)) (m - T) (c - T)) w := by
      rw [run_sliceAt_slice w _ _ _ _ _ (show Tryd.prog.underlying 34 = some (.slice (Tryd.prog.elem 34)) by kernel_rfl), run_slice_l w _ _ _ _ (show Tryd.prog.underlying 34 = some (.slice (Tryd.prog.elem 34)) by kernel_rfl) .i64 (T : Nat) (by omega) (by omega)]
      have he : Tryd.prog.elem 34 = 5 := by kernel_rfl
      rw [he, sizeByte]
      simp [Result.andThen, sliced]
    unfold Oper.wp
    simp only [execOp, hx, hl, Option.map_some, Option.map_none, hr, Sem.run_bind, Sem.run_pure, Result.andThen_ok]
    exact hK _ _ (h _ rfl)
end Go.Proofs.YtdhbkhmknnlmnaaDoor

namespace Go.Proofs.YtdhbkhmknnlmnaaDoor
open Go.ChangeShapes Go.WideShapes Go.ChangeAt Go.RowKit
set_option linter.unusedVariables false
set_option linter.unusedSimpArgs false

theorem own : ownKnob Tryd.prog.godebug = none := by kernel_rfl
theorem laidOut : laidOutB Tryd.prog = true := by kernel_rfl

/-- A slice of integers that came in: nil; or it leads to a row of 'cap' cells, the numbers zs (the first 'len' are its elements), each fitting its kind. -/
def IsRow (k : IntKind) (w : World) (a : Option Addr) (len cap : Nat) (zs : List Int) : Prop :=
  (a = none ∧ len = 0 ∧ cap = 0 ∧ zs = []) ∨
  ∃ x, a = some x ∧ len ≤ cap ∧ cap ≤ maxLen ∧ zs.length = cap ∧ (∀ i, i < zs.length → w.cell? (x.add i) = some (.int k (zs.getD i 0))) ∧ ∀ n ∈ zs, (Lit.int k n).wf = true

theorem isRow_of {H : Type} {enc : TypeId × Value → H} {k : IntKind} {t e : TypeId} {W : World} {a : Option Addr} {len cap : Nat} {d : DataW H} {p : List MemPlace} (ht : Tryd.prog.underlying t = some (.slice e)) (he : Tryd.prog.underlying e = some (.int k)) (hc : Tryd.prog.cellsOf e = 1)
    (h : DataW.Trod enc Tryd.prog W 0 (fun _ => true) true t (.slice a len cap) d p) : ∃ zs, IsRow k W a len cap zs := by
  obtain ⟨fuel, hf⟩ := h
  rcases open_ints ht he hc hf with ⟨hcs, _⟩ | ⟨x, l, c, zs, hcs, _, hl, hm, hz, _, hcell, hwz⟩
  · simp [Value.cells] at hcs
    obtain ⟨rfl, rfl, rfl⟩ := hcs
    exact ⟨[], .inl ⟨rfl, rfl, rfl, rfl⟩⟩
  · simp [Value.cells] at hcs
    obtain ⟨rfl, rfl, rfl⟩ := hcs
    exact ⟨zs, .inr ⟨_, rfl, hl, hm, by simpa using hz, hcell, hwz⟩⟩

/-- The same, with the form's own reach. -/
theorem isRow_sized {H : Type} {enc : TypeId × Value → H} {k : IntKind} {t e : TypeId} {W : World} {a : Option Addr} {len cap B j : Nat} {d : DataW H} {p : List MemPlace} {ts : List TypeId} {ds : List (DataW H)}
    (hsz : (DataW.weightsEach Tryd.prog ts ds).all (· ≤ reachBytes) = true) (hj : ts[j]? = some t) (hd : ds[j]? = some d) (ht : Tryd.prog.underlying t = some (.slice e)) (he : Tryd.prog.underlying e = some (.int k)) (hc : Tryd.prog.cellsOf e = 1) (hb : Tryd.prog.bytesOf e = B)
    (h : DataW.Trod enc Tryd.prog W 0 (fun _ => true) true t (.slice a len cap) d p) : ∃ zs, IsRow k W a len cap zs ∧ cap * B ≤ 140737488351232 := by
  obtain ⟨fuel, hf⟩ := h
  rcases open_ints ht he hc hf with ⟨hcs, _⟩ | ⟨x, l, c, zs, hcs, _, hl, hm, hz, hx, hcell, hwz⟩
  · simp [Value.cells] at hcs
    obtain ⟨rfl, rfl, rfl⟩ := hcs
    exact ⟨[], .inl ⟨rfl, rfl, rfl, rfl⟩, by omega⟩
  · simp [Value.cells] at hcs
    obtain ⟨rfl, rfl, rfl⟩ := hcs
    refine ⟨zs, .inr ⟨_, rfl, hl, hm, by simpa using hz, hcell, hwz⟩, ?_⟩
    simp only [Prod.mk.injEq] at hx
    rw [hx.1] at hd
    have hs := sized_slice hsz hj hd ht
    have hz' : zs.length = cap := by simpa using hz
    have e1 : (lits k (zs.take len) : List (DataW H)).length + (lits k (zs.drop len) : List (DataW H)).length = cap := by
      simp only [lits, List.length_map, List.length_take, List.length_drop]
      omega
    rw [e1, hb] at hs
    exact hs

end Go.Proofs.YtdhbkhmknnlmnaaDoor

namespace Go.Proofs.YtdhbkhmknnlmnaaDoor
open Go.RowKit Go.Proofs
set_option linter.unusedVariables false
set_option linter.unusedSimpArgs false

/-- A slice of n bytes that lies below block B, or has none. -/
def SrcY (B : Nat) (w : World) (a : Option Addr) (n : Nat) (z : Nat → Nat) : Prop := n = 0 ∨ ∃ b off, a = some ⟨b, off, none⟩ ∧ b < B ∧ Bys w b off n z
theorem SrcY.below {B : Nat} {w w1 : World} {a : Option Addr} {n : Nat} {z : Nat → Nat} (h : SrcY B w a n z) (hb : Below B w w1) : SrcY B w1 a n z := by
  rcases h with h | ⟨b, off, e, hl, h⟩
  · exact Or.inl h
  · exact Or.inr ⟨b, off, e, hl, h.below hb hl⟩
theorem SrcY.mono {B C : Nat} {w : World} {a : Option Addr} {n : Nat} {z : Nat → Nat} (h : SrcY B w a n z) (hc : B ≤ C) : SrcY C w a n z := by
  rcases h with h | ⟨b, off, e, hl, h⟩
  · exact Or.inl h
  · exact Or.inr ⟨b, off, e, by omega, h⟩
theorem SrcY.to {B : Nat} {w w1 : World} {a : Option Addr} {n : Nat} {z : Nat → Nat} (h : SrcY B w a n z) (hb : Below B w w1) (hB : B ≤ w.heap.size) : SrcY w1.heap.size w1 a n z := (h.below hb).mono (Nat.le_trans hB hb.size)
theorem SrcY.of {w : World} {b off n : Nat} {z : Nat → Nat} (h : Bys w b off n z) : SrcY w.heap.size w (some ⟨b, off, none⟩) n z := Or.inr ⟨b, off, rfl, h.lt, h⟩
theorem SrcY.nil (B : Nat) (w : World) (a : Option Addr) (z : Nat → Nat) : SrcY B w a 0 z := Or.inl rfl
theorem SrcY.plain {B : Nat} {w : World} {a : Option Addr} {n : Nat} {z : Nat → Nat} (h : SrcY B w a n z) : Src w a n z := by
  rcases h with h | ⟨b, off, e, hl, h⟩
  · exact Or.inl h
  · exact Or.inr ⟨b, off, e, h⟩
/-- A slice of bytes that came in. -/
theorem srcY_of_isRow {w : World} {a : Option Addr} {len cap : Nat} {zs : List Int} (h : IsRow .u8 w a len cap zs) :
    ∃ z : Nat → Nat, len ≤ cap ∧ cap ≤ maxLen ∧ (∀ i, z i < 256) ∧ SrcY w.heap.size w a len z ∧ (a = none → len = 0 ∧ cap = 0) ∧ ∀ i, i < len → (z i : Int) = zs.getD i 0 := by
  rcases h with ⟨rfl, rfl, rfl, rfl⟩ | ⟨x, rfl, h1, h2, h3, hcell, hwz⟩
  · exact ⟨fun _ => 0, by omega, by omega, fun i => (by show 0 < _; decide), Or.inl rfl, fun _ => ⟨rfl, rfl⟩, fun i hi => by omega⟩
  · have hb : ∀ i, 0 ≤ zs.getD i 0 ∧ zs.getD i 0 < 256 := fun i => by
      rcases Nat.lt_or_ge i zs.length with hi | hi
      · have hm : zs.getD i 0 ∈ zs := by simp [List.getD, List.getElem?_eq_getElem hi]
        have := bounds_u8 (hwz _ hm)
        omega
      · simp [List.getD, List.getElem?_eq_none hi]
    refine ⟨fun i => (zs.getD i 0).toNat, h1, h2, fun i => (by have := hb i; show (zs.getD i 0).toNat < _; omega), ?_, (fun h => by cases h), fun i hi => (by have := hb i; show ((zs.getD i 0).toNat : Int) = _; omega)⟩
    by_cases hl : len = 0
    · exact Or.inl hl
    · obtain ⟨b, off, spot⟩ := x
      have hc := hcell 0 (by omega)
      have hspot : spot = none := by simpa [Addr.add] using World.cell?_spot hc
      subst hspot
      have hbl : b < w.heap.size := by have := World.block_lt_of_cell? _ _ hc; simpa [Addr.add] using this
      have hadd : ∀ i, (⟨b, off, none⟩ : Addr).add i = ⟨b, off + i, none⟩ := fun i => by unfold Addr.add; split <;> simp_all
      refine Or.inr ⟨b, off, rfl, hbl, hbl, fun i hi => ?_⟩
      have h := hcell i (by omega)
      rw [hadd] at h
      rw [h]
      exact congrArg (fun n => some (Value.int .u8 n)) (by have := hb i; show _ = ((zs.getD i 0).toNat : Int); omega)

/-- append of bytes behind bytes that fill their room: a new row of one's own. -/
theorem run_fullO (w : World) (ty : TypeId) (g n b off m c : Nat) (z u : Nat → Nat) (hz : Bys w g 0 n z) (hu : Bys w b off m u) (hm : 0 < m) (hn : n ≤ 1000000) (hm' : m ≤ 1000000) :
    ∃ cap' w', (Builtin.append_ #[34, 34] ty #[.slice (some ⟨g, 0, none⟩) n n, .slice (some ⟨b, off, none⟩) m c]).run Tryd.prog w = .ok (.slice (some ⟨w.heap.size, 0, none⟩) (n + m) cap') w' ∧ w'.ownsRow w.heap.size 5 1 (.slice (some ⟨w.heap.size, 0, none⟩) (n + m) cap') (n + m) (vals (joinB z n u) (n + m)) ∧ Below w.heap.size w w' := by
  obtain ⟨i0, hi, hz1, hz2, hz0⟩ := byteInfo
  have src : Go.Src Tryd.prog i0.size 34 (.slice (some ⟨b, off, none⟩) m c) m (vals u m) w :=
    Go.Src.ofSlice w Tryd.underlying34 _ m c _ (by rw [hz1]; simp [vals]) (bys_news hu) (vals_one u m)
  have hold := run_firstCells_some (P := Tryd.prog) w.drew i0.size n ⟨g, 0, none⟩ n n (vals z n) (by rw [hz1]; simp [vals]) (fun j v hv => bys_news hz j v hv)
  have hr := run_append_grow_src w 34 34 ty 5 i0 _ Tryd.underlying34 hi hz0 (some ⟨g, 0, none⟩) n n (vals z n) hold _ m _ src (by omega) (by omega) (by rw [hz2]; exact growslice_fits (by omega) (by omega))
  rw [vals_joinB] at hr
  have hge := grownCap_ge w (n + m) n 5
  have hle : grownCap w (n + m) n 5 ≤ maxLen := grownCap_le_maxLen w (n + m) n 5 (by unfold maxLen; omega)
  generalize grownCap w (n + m) n 5 = C at hr hge hle
  refine ⟨C, _, hr, ⟨by simp [vals], Or.inr ⟨w.heap.size, C, _, rfl, Nat.le_refl _, heap_alloc_new w.drew _, hge, hle, ?_, ?_⟩⟩, (((Below.refl w.heap.size w).drew).alloc (Nat.le_refl _) _)⟩
  · simp only [Array.size_append, List.size_toArray, size_zeroCells]
    simp [vals, Value.cells]
    omega
  · simp [vals]
/-- The same in a region that draws. -/
theorem wp_fullO {o : Oper} {a : Act} {w : World} {K : Act → World → Prop} {Q : Exit → Act → World → Prop} (s x : Operand)
    (ho : o.op = .call { callee := .builtin .append, args := #[s, x], argTypes := #[34, 34] }) (g n b off m c : Nat) (z u : Nat → Nat) (hz : Bys w g 0 n z) (hu : Bys w b off m u) (hm : 0 < m) (hn : n ≤ 1000000) (hm' : m ≤ 1000000)
    (hs : a.eval s = .slice (some ⟨g, 0, none⟩) n n) (hx : a.eval x = .slice (some ⟨b, off, none⟩) m c)
    (h : ∀ cap' w', w'.ownsRow w.heap.size 5 1 (.slice (some ⟨w.heap.size, 0, none⟩) (n + m) cap') (n + m) (vals (joinB z n u) (n + m)) → Below w.heap.size w w' → K (a.put o.dst (.slice (some ⟨w.heap.size, 0, none⟩) (n + m) cap')) w') : o.wp Tryd.prog a w K Q := by
  obtain ⟨cap', w', hr, h1, h2⟩ := run_fullO w o.type g n b off m c z u hz hu hm hn hm'
  unfold Oper.wp execOp
  simp only [ho, resolve, invoke, builtin, Sem.run_bind, Sem.run_pure, Result.andThen_ok, List.map_toArray, List.map_cons, List.map_nil, hs, hx, hr]
  exact h cap' w' h1 h2
theorem wpList_fullO {ops : Array Oper} {rest : List Oper} {o : Oper} {a : Act} {w : World} {Q : Exit → Act → World → Prop} (hgd : o.guard = none) (s x : Operand)
    (ho : o.op = .call { callee := .builtin .append, args := #[s, x], argTypes := #[34, 34] }) (g n b off m c : Nat) (z u : Nat → Nat) (hz : Bys w g 0 n z) (hu : Bys w b off m u) (hm : 0 < m) (hn : n ≤ 1000000) (hm' : m ≤ 1000000)
    (hs : a.eval s = .slice (some ⟨g, 0, none⟩) n n) (hx : a.eval x = .slice (some ⟨b, off, none⟩) m c)
    (h : ∀ cap' w', w'.ownsRow w.heap.size 5 1 (.slice (some ⟨w.heap.size, 0, none⟩) (n + m) cap') (n + m) (vals (joinB z n u) (n + m)) → Below w.heap.size w w' → wpList Tryd.prog ops Q rest (a.put o.dst (.slice (some ⟨w.heap.size, 0, none⟩) (n + m) cap')) w') : wpList Tryd.prog ops Q (o :: rest) a w :=
  wpList_plain hgd fun K hK => wp_fullO s x ho g n b off m c z u hz hu hm hn hm' hs hx fun cap' w' h1 h2 => hK _ _ (h cap' w' h1 h2)
/-- append of bytes (or of none) behind a row of one's own. -/
theorem run_appY (w : World) (ty : TypeId) (base g n cap : Nat) (z : Nat → Nat) (hown : w.ownsRow base 5 1 (.slice (some ⟨g, 0, none⟩) n cap) n (vals z n)) (hbase : base ≤ w.heap.size) (B : Nat) (ad : Option Addr) (m c : Nat) (u : Nat → Nat) (hB : SrcY B w ad m u) (hn : n ≤ 10000000) (hm : m ≤ 10000000) :
    ∃ g' cap' w', (Builtin.append_ #[34, 34] ty #[.slice (some ⟨g, 0, none⟩) n cap, .slice ad m c]).run Tryd.prog w = .ok (.slice (some ⟨g', 0, none⟩) (n + m) cap') w' ∧ w'.ownsRow base 5 1 (.slice (some ⟨g', 0, none⟩) (n + m) cap') (n + m) (vals (joinB z n u) (n + m)) ∧ Below base w w' := by
  obtain ⟨i0, hi, hz1, hz2, hz0⟩ := byteInfo
  rcases hB with rfl | ⟨b, off, rfl, hl, hB⟩
  · have src : Go.Src Tryd.prog i0.size 34 (.slice ad 0 c) 0 [] w := by
      cases ad with
      | none => exact Go.Src.ofNil w Tryd.underlying34 c
      | some a => exact Go.Src.ofSlice w Tryd.underlying34 a 0 c [] (by simp) (fun j u h => by simp at h) (fun u h => by cases h)
    have hcap : n ≤ cap := by
      rcases hown.2 with ⟨h0, _⟩ | ⟨g', cap', cur, h0, _, _, h3, _⟩
      · cases h0
      · cases h0; exact h3
    have hr := run_append_room_src w 34 34 ty 5 i0 Tryd.underlying34 hi g 0 n cap (.slice ad 0 c) 0 [] src (by omega) (fun j h => by simp at h) (fun j h => by simp at h)
    refine ⟨g, cap, w, hr, ?_, Below.refl _ _⟩
    rw [← vals_joinB, vals_zero, List.append_nil, Nat.add_zero]
    exact hown
  · obtain ⟨v', w', hr, ho', hg, hnil⟩ := run_append_own (P := Tryd.prog) w base 34 ty 5 i0 _ 1 1 Tryd.underlying34 hi hz0 hz1 hz2 rfl (by decide) _ n _ hown ⟨b, off, none⟩ m c (vals u m) (by simp [vals]) (bys_news hB) (vals_one u m) (by unfold maxLen; omega) (by omega) hbase
    rw [vals_joinB] at ho'
    have hb := (Below.refl base w).grown hg hbase (fun k hk => (hown.lt k hk).1)
    rcases ho'.2 with ⟨h0, _⟩ | ⟨g', cap', cur, rfl, _⟩
    · have := (hnil.1 h0).1
      cases this
    · exact ⟨g', cap', w', hr, ho', hb⟩
theorem wpList_appY {ops : Array Oper} {rest : List Oper} {o : Oper} {a : Act} {w : World} {Q : Exit → Act → World → Prop} (hgd : o.guard = none) (s x : Operand)
    (ho : o.op = .call { callee := .builtin .append, args := #[s, x], argTypes := #[34, 34] }) (base g n cap : Nat) (z : Nat → Nat) (hs : a.eval s = .slice (some ⟨g, 0, none⟩) n cap)
    (hown : w.ownsRow base 5 1 (.slice (some ⟨g, 0, none⟩) n cap) n (vals z n)) (hbase : base ≤ w.heap.size) (B : Nat) (ad : Option Addr) (m c : Nat) (u : Nat → Nat) (hx : a.eval x = .slice ad m c) (hB : SrcY B w ad m u) (hn : n ≤ 10000000) (hm : m ≤ 10000000)
    (h : ∀ g' cap' w', w'.ownsRow base 5 1 (.slice (some ⟨g', 0, none⟩) (n + m) cap') (n + m) (vals (joinB z n u) (n + m)) → Below base w w' → wpList Tryd.prog ops Q rest (a.put o.dst (.slice (some ⟨g', 0, none⟩) (n + m) cap')) w') : wpList Tryd.prog ops Q (o :: rest) a w := by
  refine wpList_plain hgd fun K hK => ?_
  obtain ⟨g', cap', w', hr, h1, h2⟩ := run_appY w o.type base g n cap z hown hbase B ad m c u hB hn hm
  unfold Oper.wp execOp
  simp only [ho, resolve, invoke, builtin, Sem.run_bind, Sem.run_pure, Result.andThen_ok, List.map_toArray, List.map_cons, List.map_nil, hs, hx, hr]
  exact hK _ _ (h g' cap' w' h1 h2)
end Go.Proofs.YtdhbkhmknnlmnaaDoor

namespace Ob

def Prime (p : Nat) : Prop := 2 ≤ p ∧ ∀ d, d ∣ p → d = 1 ∨ d = p

/-- Euclid's lemma. -/
theorem Prime.dvd_mul {p a b : Nat} (hp : Prime p) (h : p ∣ a * b) : p ∣ a ∨ p ∣ b := by
  rcases hp.2 (Nat.gcd p a) (Nat.gcd_dvd_left p a) with h1 | h1
  · exact Or.inr (Nat.Coprime.dvd_of_dvd_mul_left h1 h)
  · exact Or.inl (h1 ▸ Nat.gcd_dvd_right p a)

theorem Prime.dvd_pow {p a : Nat} (hp : Prime p) : ∀ {e : Nat}, p ∣ a ^ e → p ∣ a
  | 0, h => by
    have := Nat.le_of_dvd (by simp) h
    have := hp.1
    simp at *
    omega
  | e + 1, h => by
    rw [Nat.pow_succ] at h
    rcases hp.dvd_mul h with h | h
    · exact hp.dvd_pow h
    · exact h

theorem Prime.eq_of_dvd {p q : Nat} (hp : Prime p) (hq : Prime q) (h : p ∣ q) : p = q := by
  rcases hq.2 p h with h | h
  · have := hp.1; omega
  · exact h

/-- No divisor from 2 to s. -/
def noDiv (p : Nat) : Nat → Bool
  | 0 => true
  | s + 1 => noDiv p s && (s + 1 < 2 || p % (s + 1) != 0)

theorem noDiv_spec (p : Nat) : ∀ (s : Nat), noDiv p s = true → ∀ d, 2 ≤ d → d ≤ s → ¬ d ∣ p
  | 0, _, d, h1, h2 => by omega
  | s + 1, h, d, h1, h2 => by
    simp only [noDiv, Bool.and_eq_true, Bool.or_eq_true, decide_eq_true_eq, bne_iff_ne, ne_eq] at h
    rcases Nat.lt_or_ge d (s + 1) with h3 | h3
    · exact noDiv_spec p s h.1 d h1 (by omega)
    · have e : d = s + 1 := by omega
      subst e
      intro hd
      rcases h.2 with h4 | h4
      · omega
      · exact h4 (Nat.mod_eq_zero_of_dvd hd)

/-- Trial division: s times s is above p. -/
theorem prime_of_trial (p s : Nat) (h2 : 2 ≤ p) (hs : p < (s + 1) * (s + 1)) (h : noDiv p s = true) : Prime p := by
  refine ⟨h2, fun d hd => ?_⟩
  rcases Nat.eq_zero_or_pos d with h0 | h0
  · subst h0; have := Nat.eq_zero_of_zero_dvd hd; omega
  obtain ⟨c, hc⟩ := hd
  have hcp : 0 < c := by
    rcases Nat.eq_zero_or_pos c with e | e
    · subst e; simp at hc; omega
    · exact e
  by_cases h1 : d = 1
  · exact Or.inl h1
  refine Or.inr ?_
  by_cases hc1 : c = 1
  · subst hc1; omega
  exfalso
  rcases Nat.lt_or_ge s d with hd | hd
  · rcases Nat.lt_or_ge s c with hc' | hc'
    · have : (s + 1) * (s + 1) ≤ d * c := Nat.mul_le_mul hd hc'
      omega
    · exact noDiv_spec p s h c (by omega) hc' ⟨d, by rw [hc, Nat.mul_comm]⟩
  · exact noDiv_spec p s h d (by omega) hd ⟨c, hc⟩

/-- Every number above 1 has a prime divisor. -/
theorem exists_prime : ∀ (n : Nat), 2 ≤ n → ∃ p, Prime p ∧ p ∣ n := by
  intro n
  induction n using Nat.strongRecOn with
  | ind n ih =>
    intro h
    by_cases hp : ∀ d, d ∣ n → d = 1 ∨ d = n
    · exact ⟨n, ⟨h, hp⟩, Nat.dvd_refl n⟩
    · obtain ⟨d, hd⟩ := Classical.not_forall.mp hp
      have ⟨hd1, hd2⟩ := Classical.not_imp.mp hd
      have hle := Nat.le_of_dvd (by omega) hd1
      have hpos := Nat.pos_of_dvd_of_pos hd1 (by omega)
      have h3 : d ≠ 1 ∧ d ≠ n := ⟨fun e => hd2 (Or.inl e), fun e => hd2 (Or.inr e)⟩
      obtain ⟨p, hp1, hp2⟩ := ih d (by omega) (by omega)
      exact ⟨p, hp1, Nat.dvd_trans hp2 hd1⟩

/-- A map of [0, n) into itself that keeps apart meets every number. -/
theorem pigeon : ∀ (n : Nat) (f : Nat → Nat), (∀ i, i < n → f i < n) → (∀ i j, i < n → j < n → f i = f j → i = j) → ∀ y, y < n → ∃ i, i < n ∧ f i = y
  | 0, _, _, _, y, hy => by omega
  | n + 1, f, hf, hi, y, hy => by
    have hv := hf n (by omega)
    let g : Nat → Nat := fun i => if f i = n then f n else f i
    have hg : ∀ i, i < n → g i < n := by
      intro i h
      show (if f i = n then f n else f i) < n
      split
      · rename_i e
        have : f n ≠ n := fun e2 => by have := hi i n (by omega) (by omega) (by rw [e, e2]); omega
        omega
      · have := hf i (by omega); omega
    have hgi : ∀ i j, i < n → j < n → g i = g j → i = j := by
      intro i j h1 h2 h
      simp only [g] at h
      split at h <;> split at h
      · rename_i e1 e2; exact hi i j (by omega) (by omega) (by rw [e1, e2])
      · have := hi n j (by omega) (by omega) h; omega
      · have := hi i n (by omega) (by omega) h; omega
      · exact hi i j (by omega) (by omega) h
    have ih := pigeon n g hg hgi
    by_cases e1 : y = f n
    · exact ⟨n, by omega, e1.symm⟩
    by_cases e2 : y = n
    · obtain ⟨i, h1, h2⟩ := ih (f n) (by omega)
      simp only [g] at h2
      split at h2
      · rename_i e3; exact ⟨i, by omega, by rw [e3, e2]⟩
      · have := hi i n (by omega) (by omega) h2; omega
    · obtain ⟨i, h1, h2⟩ := ih y (by omega)
      simp only [g] at h2
      split at h2
      · exact absurd h2.symm e1
      · exact ⟨i, by omega, h2⟩

theorem pow_add_mod (g i j N : Nat) : g ^ (i + j) % N = (g ^ i % N) * (g ^ j % N) % N := by rw [Nat.pow_add, Nat.mul_mod]

/-- Where a power is 1 at two exponents it is at their greatest common divisor. -/
theorem pow_gcd {g N : Nat} (hN : 2 ≤ N) : ∀ (b a : Nat), g ^ a % N = 1 → g ^ b % N = 1 → g ^ Nat.gcd b a % N = 1 := by
  intro b
  induction b using Nat.strongRecOn with
  | ind b ih =>
    intro a ha hb
    rcases Nat.eq_zero_or_pos b with h0 | h0
    · subst h0; rw [Nat.gcd_zero_left]; exact ha
    · rw [Nat.gcd_rec]
      refine ih (a % b) (Nat.mod_lt _ h0) b hb ?_
      have h1 : g ^ (b * (a / b)) % N = 1 := by
        rw [Nat.pow_mul, Nat.pow_mod, hb, Nat.one_pow, Nat.mod_eq_of_lt (by omega)]
      have h2 := ha
      rw [← Nat.div_add_mod a b, pow_add_mod, h1, Nat.one_mul, Nat.mod_mod] at h2
      exact h2

/-- What Lucas asks: g to the N - 1 is 1, and to no (N - 1) / q, for all primes q that divide N - 1. -/
structure Lucas (N g : Nat) : Prop where
  two : 2 ≤ N
  one : g ^ (N - 1) % N = 1
  ne : ∀ q, Prime q → q ∣ N - 1 → g ^ ((N - 1) / q) % N ≠ 1

theorem Lucas.order {N g : Nat} (h : Lucas N g) (k : Nat) (hk : g ^ k % N = 1) : N - 1 ∣ k := by
  have hd := pow_gcd h.two k (N - 1) h.one hk
  have hdv : Nat.gcd k (N - 1) ∣ N - 1 := Nat.gcd_dvd_right _ _
  obtain ⟨c, hc⟩ := hdv
  have h2 := h.two
  have hcp : 0 < c := by
    rcases Nat.eq_zero_or_pos c with e | e
    · subst e; simp at hc; omega
    · exact e
  by_cases hc1 : c = 1
  · subst hc1
    rw [Nat.mul_one] at hc
    rw [hc]
    exact Nat.gcd_dvd_left _ _
  · exfalso
    obtain ⟨q, hq, e, he⟩ := exists_prime c (by omega)
    have hqp : 0 < q := by have := hq.1; omega
    have hqd : q ∣ N - 1 := ⟨Nat.gcd k (N - 1) * e, by rw [Nat.mul_left_comm, ← he]; exact hc⟩
    refine h.ne q hq hqd ?_
    have e2 : (N - 1) / q = Nat.gcd k (N - 1) * e := by
      have : N - 1 = q * (Nat.gcd k (N - 1) * e) := by rw [Nat.mul_left_comm, ← he]; exact hc
      exact Nat.div_eq_of_eq_mul_right hqp this
    rw [e2, Nat.pow_mul, Nat.pow_mod, hd, Nat.one_pow, Nat.mod_eq_of_lt (by omega)]

theorem Lucas.undo {N g : Nat} (h : Lucas N g) (i : Nat) (hi : i ≤ N - 1) : (g ^ i % N) * (g ^ (N - 1 - i) % N) % N = 1 := by
  rw [← pow_add_mod]
  have : i + (N - 1 - i) = N - 1 := by omega
  rw [this]
  exact h.one

theorem Lucas.pos {N g : Nat} (h : Lucas N g) (i : Nat) (hi : i ≤ N - 1) : 1 ≤ g ^ i % N := by
  rcases Nat.eq_zero_or_pos (g ^ i % N) with e | e
  · have := h.undo i hi
    rw [e, Nat.zero_mul, Nat.zero_mod] at this
    omega
  · exact e

theorem Lucas.apart {N g : Nat} (h : Lucas N g) (i j : Nat) (hij : i ≤ j) (hj : j < N - 1) (e : g ^ i % N = g ^ j % N) : i = j := by
  have h1 : g ^ (j - i) % N = 1 := by
    have a1 := h.undo i (by omega)
    have a2 : g ^ (j - i) % N = g ^ (j - i) * 1 % N := by rw [Nat.mul_one]
    rw [a2, Nat.mul_mod, ← a1, Nat.mod_mod]
    have a3 : (g ^ (j - i) % N) * ((g ^ i % N) * (g ^ (N - 1 - i) % N) % N) % N = (g ^ j % N) * (g ^ (N - 1 - i) % N) % N := by
      have a4 : g ^ j % N = (g ^ (j - i) % N) * (g ^ i % N) % N := by
        rw [← pow_add_mod]
        have : j - i + i = j := by omega
        rw [this]
      rw [a4]
      generalize g ^ (j - i) % N = A
      generalize g ^ i % N = B
      generalize g ^ (N - 1 - i) % N = C
      rw [mul_mod_left, mul_mod_right, Nat.mul_assoc]
    rw [a3, ← e]
  have := h.order _ h1
  rcases Nat.eq_zero_or_pos (j - i) with e0 | e0
  · omega
  · have := Nat.le_of_dvd e0 this
    omega

/-- Each number from 1 to N - 1 is a power of g. -/
theorem Lucas.all {N g : Nat} (h : Lucas N g) (y : Nat) (h1 : 1 ≤ y) (h2 : y < N) : ∃ i, i < N - 1 ∧ g ^ i % N = y := by
  have hN := h.two
  obtain ⟨i, hi, he⟩ := pigeon (N - 1) (fun i => g ^ i % N - 1)
    (fun i hi => by have := Nat.mod_lt (g ^ i) (show 0 < N by omega); have := h.pos i (by omega); show g ^ i % N - 1 < N - 1; omega)
    (fun i j hi hj e => by
      have e' : g ^ i % N = g ^ j % N := by have := h.pos i (by omega); have := h.pos j (by omega); have e2 : g ^ i % N - 1 = g ^ j % N - 1 := e; omega
      rcases Nat.le_total i j with hij | hij
      · exact h.apart i j hij hj e'
      · exact (h.apart j i hij hi e'.symm).symm) (y - 1) (by omega)
  refine ⟨i, hi, ?_⟩
  have := h.pos i (by omega)
  have he2 : g ^ i % N - 1 = y - 1 := he
  omega

theorem Lucas.prime {N g : Nat} (h : Lucas N g) : Prime N := by
  refine ⟨h.two, fun d hd => ?_⟩
  have hN := h.two
  have hle := Nat.le_of_dvd (by omega) hd
  have hpos := Nat.pos_of_dvd_of_pos hd (by omega)
  rcases Nat.lt_or_ge d N with hlt | hge
  · refine Or.inl ?_
    obtain ⟨i, hi, he⟩ := h.all d hpos hlt
    have hu := h.undo i (by omega)
    rw [he] at hu
    have h1 : d ∣ d * (g ^ (N - 1 - i) % N) % N := (Nat.dvd_mod_iff hd).mpr ⟨_, rfl⟩
    rw [hu] at h1
    exact Nat.dvd_one.mp h1
  · exact Or.inr (by omega)

/-- Fermat. -/
theorem Lucas.fermat {N g : Nat} (h : Lucas N g) (a : Nat) (ha : a % N ≠ 0) : a ^ (N - 1) % N = 1 := by
  have hN := h.two
  obtain ⟨i, hi, he⟩ := h.all (a % N) (by omega) (Nat.mod_lt _ (by omega))
  rw [Nat.pow_mod, ← he, ← Nat.pow_mod, ← Nat.pow_mul, Nat.mul_comm, Nat.pow_mul, Nat.pow_mod, h.one, Nat.one_pow, Nat.mod_eq_of_lt (by omega)]

/-- A number whose square is 1 modulo a prime is 1 or -1. -/
theorem Prime.square_one {p y : Nat} (hp : Prime p) (hy : y < p) (h : y * y % p = 1) : y = 1 ∨ y = p - 1 := by
  have hp2 := hp.1
  rcases Nat.eq_zero_or_pos y with h0 | h0
  · subst h0; simp at h
  have hdv : p ∣ (y - 1) * (y + 1) := by
    have e : (y - 1) * (y + 1) + 1 = y * y := by
      obtain ⟨z, rfl⟩ : ∃ z, y = z + 1 := ⟨y - 1, by omega⟩
      simp only [Nat.add_sub_cancel]
      grind
    have hle : 1 ≤ y * y := Nat.mul_pos h0 h0
    have : p ∣ y * y - 1 := Nat.dvd_of_mod_eq_zero (Nat.sub_mod_eq_zero_of_mod_eq (by rw [h, Nat.mod_eq_of_lt (by omega)]))
    have e2 : (y - 1) * (y + 1) = y * y - 1 := by omega
    rw [e2]
    exact this
  rcases hp.dvd_mul hdv with h1 | h1
  · left
    rcases Nat.eq_zero_or_pos (y - 1) with e | e
    · omega
    · have := Nat.le_of_dvd e h1; omega
  · right
    have := Nat.le_of_dvd (by omega) h1
    omega
end Ob

namespace Ob

def R : Nat := 288230376287764481

/-- a to the e modulo N, by squaring: for the kernel to reckon. -/
def powm (N : Nat) : Nat → Nat → Nat → Nat
  | 0, _, _ => 1 % N
  | f + 1, a, e => if e = 0 then 1 % N else if e % 2 = 0 then powm N f (a * a % N) (e / 2) else a * powm N f (a * a % N) (e / 2) % N

theorem powm_eq (N : Nat) : ∀ (f a e : Nat), e < 2 ^ f → powm N f a e = a ^ e % N
  | 0, a, e, h => by
    have : e = 0 := by simpa using h
    subst this
    simp [powm]
  | f + 1, a, e, h => by
    unfold powm
    by_cases h0 : e = 0
    · rw [if_pos h0, h0, Nat.pow_zero]
    · rw [if_neg h0]
      have ih := powm_eq N f (a * a % N) (e / 2) (by rw [Nat.pow_succ] at h; omega)
      by_cases h1 : e % 2 = 0
      · rw [if_pos h1, ih]
        have := pow_even N 1 a e h1
        rw [Nat.one_mul, Nat.one_mul] at this
        exact this
      · rw [if_neg h1, ih, mul_mod_right]
        have := pow_odd N 1 a e (by omega)
        rw [Nat.one_mul, Nat.one_mul, mul_mod_left] at this
        exact this

theorem prime2 : Prime 2 := prime_of_trial 2 1 (by decide) (by decide) (by decide +kernel)
theorem prime5 : Prime 5 := prime_of_trial 5 2 (by decide) (by decide) (by decide +kernel)
theorem prime587 : Prime 587 := prime_of_trial 587 24 (by decide) (by decide) (by decide +kernel)
theorem prime619 : Prime 619 := prime_of_trial 619 24 (by decide) (by decide) (by decide +kernel)
theorem prime769 : Prime 769 := prime_of_trial 769 27 (by decide) (by decide) (by decide +kernel)
theorem prime787 : Prime 787 := prime_of_trial 787 28 (by decide) (by decide) (by decide +kernel)

theorem pow_of_powm {N a e r : Nat} (h : e < 2 ^ 64) (hr : powm N 64 a e = r) : a ^ e % N = r := by rw [← powm_eq N 64 a e h]; exact hr

theorem R_sub : R - 1 = 2 ^ 18 * 5 * 587 * 619 * 769 * 787 := by decide +kernel

theorem lucasR : Lucas R 3 where
  two := by decide +kernel
  one := pow_of_powm (by decide +kernel) (by decide +kernel)
  ne := by
    intro q hq hd
    rw [R_sub] at hd
    have h : q = 2 ∨ q = 5 ∨ q = 587 ∨ q = 619 ∨ q = 769 ∨ q = 787 := by
      rcases hq.dvd_mul hd with hd | hd
      · rcases hq.dvd_mul hd with hd | hd
        · rcases hq.dvd_mul hd with hd | hd
          · rcases hq.dvd_mul hd with hd | hd
            · rcases hq.dvd_mul hd with hd | hd
              · exact Or.inl (hq.eq_of_dvd prime2 (hq.dvd_pow hd))
              · exact Or.inr (Or.inl (hq.eq_of_dvd prime5 hd))
            · exact Or.inr (Or.inr (Or.inl (hq.eq_of_dvd prime587 hd)))
          · exact Or.inr (Or.inr (Or.inr (Or.inl (hq.eq_of_dvd prime619 hd))))
        · exact Or.inr (Or.inr (Or.inr (Or.inr (Or.inl (hq.eq_of_dvd prime769 hd)))))
      · exact Or.inr (Or.inr (Or.inr (Or.inr (Or.inr (hq.eq_of_dvd prime787 hd)))))
    have ne : ∀ k, (R - 1) / k < 2 ^ 64 → powm R 64 3 ((R - 1) / k) ≠ 1 → 3 ^ ((R - 1) / k) % R ≠ 1 := fun k h1 h2 h3 => h2 (by rw [powm_eq R 64 3 _ h1]; exact h3)
    rcases h with h | h | h | h | h | h
    all_goals
      subst h
      exact ne _ (by decide +kernel) (by decide +kernel)

theorem primeR : Prime R := lucasR.prime
end Ob

namespace Ob

def ODD : Nat := 1099511628295
theorem R_half : (R - 1) / 2 = ODD * 131072 := by decide +kernel
theorem R_half_at {k : Nat} (hk : k = 17) : (R - 1) / 2 = ODD * 2 ^ k := by rw [R_half, hk]
theorem three_half : 3 ^ ((R - 1) / 2) % R = R - 1 := pow_of_powm (by decide +kernel) (by decide +kernel)
theorem R_two : 2 ≤ R := by decide +kernel

/-- At the head of the round k: x x is a over; over's order divides 2^k; step's is 2^(k + 1). -/
structure Ton (a k x over step : Nat) : Prop where
  sq : x * x % R = a * over % R
  ov : over ^ 2 ^ k % R = 1
  st : step ^ 2 ^ k % R = R - 1

theorem Ton.start {a k : Nat} (hk : k = 17) (h : a ^ ((R - 1) / 2) % R = 1) : Ton a k (a ^ ((ODD + 1) / 2) % R) (a ^ ODD % R) (3 ^ ODD % R) where
  sq := by
    rw [← Nat.mul_mod, ← Nat.pow_add, mul_mod_right]
    have : (ODD + 1) / 2 + (ODD + 1) / 2 = ODD + 1 := by decide +kernel
    rw [this, Nat.pow_succ, Nat.mul_comm]
  ov := by rw [pow_mod_left, ← Nat.pow_mul, ← R_half_at hk]; exact h
  st := by rw [pow_mod_left, ← Nat.pow_mul, ← R_half_at hk]; exact three_half

theorem sq_pow (s k : Nat) : (s * s % R) ^ 2 ^ k % R = s ^ 2 ^ (k + 1) % R := by
  rw [square_pow, Nat.pow_succ, Nat.mul_comm (2 ^ k) 2]

/-- A round where over is left. -/
theorem Ton.keep {a k x over step : Nat} (h : Ton a (k + 1) x over step) (c : over ^ 2 ^ k % R = 1) : Ton a k x over (step * step % R) :=
  ⟨h.sq, c, by rw [sq_pow]; exact h.st⟩

/-- A round where over is turned. -/
theorem Ton.turn {a k x over step : Nat} (h : Ton a (k + 1) x over step) (c : over ^ 2 ^ k % R ≠ 1) : Ton a k (x * step % R) (over * (step * step % R) % R) (step * step % R) := by
  have hR := R_two
  have hm : over ^ 2 ^ k % R = R - 1 := by
    have h1 : (over ^ 2 ^ k % R) * (over ^ 2 ^ k % R) % R = 1 := by
      rw [← Nat.mul_mod, ← Nat.pow_add, ← Nat.two_mul, Nat.mul_comm, ← Nat.pow_succ]
      exact h.ov
    rcases primeR.square_one (Nat.mod_lt _ (by omega)) h1 with e | e
    · exact absurd e c
    · exact e
  refine ⟨?_, ?_, by rw [sq_pow]; exact h.st⟩
  · rw [← Nat.mul_mod, mul_mod_right]
    have e1 : x * step * (x * step) = x * x * (step * step) := by grind
    have e2 : a * (over * (step * step % R)) = a * over * (step * step % R) := by rw [Nat.mul_assoc]
    rw [e1, e2, mul_mod_right, Nat.mul_mod, h.sq, ← Nat.mul_mod]
  · rw [pow_mod_left, Nat.mul_pow, Nat.mul_mod, hm, sq_pow, h.st]
    decide +kernel

/-- At the end over is 1. -/
theorem Ton.last {a x over step : Nat} (h : Ton a 0 x over step) : x * x % R = a % R := by
  have h1 := h.ov
  rw [Nat.pow_zero, Nat.pow_one] at h1
  rw [h.sq, Nat.mul_mod, h1, Nat.mul_one, Nat.mod_mod]

/-- Two roots of one number modulo a prime, each at most half of it, are the same. -/
theorem Prime.root_unique {p x y : Nat} (hp : Prime p) (hx : x ≤ p / 2) (hy : y ≤ p / 2) (h : x * x % p = y * y % p) (hp3 : p % 2 = 1) : x = y := by
  have main : ∀ x y : Nat, x ≤ p / 2 → y ≤ p / 2 → x * x % p = y * y % p → x ≤ y → x = y := by
    intro x y hx hy h hxy
    obtain ⟨d, rfl⟩ : ∃ d, y = x + d := ⟨y - x, by omega⟩
    have hle : x * x ≤ (x + d) * (x + d) := Nat.mul_le_mul hxy hxy
    have e : (x + d) * (x + d) - x * x = d * (2 * x + d) := by
      have : (x + d) * (x + d) = x * x + d * (2 * x + d) := by grind
      omega
    have hdv : p ∣ d * (2 * x + d) := by
      rw [← e]
      exact Nat.dvd_of_mod_eq_zero (Nat.sub_mod_eq_zero_of_mod_eq h.symm)
    rcases hp.dvd_mul hdv with h1 | h1
    · rcases Nat.eq_zero_or_pos d with h0 | h0
      · omega
      · have := Nat.le_of_dvd h0 h1; have := hp.1; omega
    · rcases Nat.eq_zero_or_pos (2 * x + d) with h0 | h0
      · omega
      · have := Nat.le_of_dvd h0 h1; omega
  rcases Nat.le_total x y with c | c
  · exact main x y hx hy h c
  · exact (main y x hy hx h.symm c).symm

/-- The root modulo R that is at most half of it (0 where there is none): the first that serves. -/
def root (a : Nat) : Nat := ((List.range (R / 2 + 1)).find? fun X => X * X % R == a % R).getD 0

theorem root_eq {a X : Nat} (hX : X ≤ R / 2) (h : X * X % R = a % R) : root a = X := by
  unfold root
  cases hf : (List.range (R / 2 + 1)).find? fun X => X * X % R == a % R with
  | none =>
    have := List.find?_eq_none.mp hf X (List.mem_range.mpr (by omega))
    simp [h] at this
  | some Y =>
    have h1 := List.find?_some hf
    have h2 := List.mem_range.mp (List.mem_of_find?_eq_some hf)
    simp only [beq_iff_eq] at h1
    show Y = X
    exact primeR.root_unique (by omega) hX (by rw [h1, h]) (by decide +kernel)

/-- The lesser of x and R - x. -/
theorem lesser {a x : Nat} (hx : x < R) (h : x * x % R = a % R) : root a = min x (R - x) := by
  have hR : R % 2 = 1 := by decide +kernel
  rcases Nat.le_total x (R - x) with c | c
  · rw [Nat.min_eq_left c]
    exact root_eq (by omega) h
  · rw [Nat.min_eq_right c]
    refine root_eq (by omega) ?_
    rw [← h]
    obtain ⟨y, hy⟩ : ∃ y, x + y = R := ⟨R - x, by omega⟩
    have e : R - x = y := by omega
    rw [e]
    have : y * y + R * (2 * x) = x * x + R * R := by rw [← hy]; grind
    have h1 : (y * y + R * (2 * x)) % R = (x * x + R * R) % R := by rw [this]
    rwa [Nat.add_mul_mod_self_left, Nat.add_mul_mod_self_left] at h1

theorem root_ok {a X : Nat} (hX : X ≤ R / 2) (h : X * X % R = a % R) : root a ≤ R / 2 ∧ root a * root a % R = a % R := by rw [root_eq hX h]; exact ⟨hX, h⟩

/-- Has a a root modulo R? (By Euler.) -/
def Sq (a : Nat) : Prop := a % R = 0 ∨ a ^ ((R - 1) / 2) % R = 1

theorem Ton.ends {a : Nat} : ∀ (k x o s : Nat), Ton a k x o s → x < R → ∃ x, x < R ∧ x * x % R = a % R
  | 0, x, _, _, h, hx => ⟨x, hx, h.last⟩
  | k + 1, x, o, s, h, hx => by
    by_cases c : o ^ 2 ^ k % R = 1
    · exact Ton.ends k _ _ _ (h.keep c) hx
    · exact Ton.ends k _ _ _ (h.turn c) (Nat.mod_lt _ (by have := R_two; omega))

theorem root_of_sq {a : Nat} (h : Sq a) : root a ≤ R / 2 ∧ root a * root a % R = a % R := by
  have hR := R_two
  rcases h with h | h
  · exact root_ok (X := 0) (by omega) (by rw [h, Nat.mul_zero, Nat.zero_mod])
  · obtain ⟨x, hx, e⟩ := Ton.ends _ _ _ _ (Ton.start rfl h) (Nat.mod_lt _ (by omega))
    rw [lesser hx e]
    have hodd : R % 2 = 1 := by decide +kernel
    have := lesser hx e
    rcases Nat.le_total x (R - x) with c | c
    · rw [Nat.min_eq_left c]; exact ⟨by omega, e⟩
    · rw [Nat.min_eq_right c]
      refine ⟨by omega, ?_⟩
      rw [← e]
      obtain ⟨y, hy⟩ : ∃ y, x + y = R := ⟨R - x, by omega⟩
      have e2 : R - x = y := by omega
      rw [e2]
      have : y * y + R * (2 * x) = x * x + R * R := by rw [← hy]; grind
      have h1 : (y * y + R * (2 * x)) % R = (x * x + R * R) % R := by rw [this]
      rwa [Nat.add_mul_mod_self_left, Nat.add_mul_mod_self_left] at h1
end Ob

namespace Ob
set_option linter.unusedVariables false
set_option linter.unusedSimpArgs false

abbrev RE : Nat := 288230376287764481
theorem RE_eq : RE = R := rfl
def gpow (x : Fin RE) : Nat → Fin RE
  | 0 => 1
  | n + 1 => gpow x n * x
theorem gpow_val (x : Fin RE) (n : Nat) : (gpow x n).val = x.val ^ n % RE := by
  induction n with
  | zero => rfl
  | succ n ih =>
    show (gpow x n * x).val = _
    rw [Fin.val_mul, ih, Nat.pow_succ, Nat.mod_mul_mod]
theorem gpow_add (x : Fin RE) (m n : Nat) : gpow x (m + n) = gpow x m * gpow x n := by
  induction n with
  | zero => show gpow x m = gpow x m * 1; grobner
  | succ n ih => show gpow x (m + n) * x = gpow x m * (gpow x n * x); rw [ih]; grobner
theorem gpow_sq (x : Fin RE) (n : Nat) : gpow (x * x) n = gpow x n * gpow x n := by
  induction n with
  | zero => show (1 : Fin RE) = 1 * 1; grobner
  | succ n ih => show gpow (x * x) n * (x * x) = gpow x n * x * (gpow x n * x); rw [ih]; generalize gpow x n = t; grobner
theorem G_ne {a : Fin RE} (h : a ≠ 0) : a.val % R ≠ 0 := fun e => h (Fin.ext (by rw [← Nat.mod_eq_of_lt a.isLt]; exact e))
theorem fermatG (x : Fin RE) (h : x ≠ 0) : gpow x (RE - 1) = 1 := by
  apply Fin.ext
  rw [gpow_val]
  exact lucasR.fermat _ (G_ne h)
def ginv (x : Fin RE) : Fin RE := gpow x (RE - 2)
theorem ginv_mul {x : Fin RE} (h : x ≠ 0) : x * ginv x = 1 := by
  have e := fermatG x h
  have e2 : RE - 1 = (RE - 2) + 1 := by decide +kernel
  rw [e2] at e
  have e3 : gpow x ((RE - 2) + 1) = ginv x * x := rfl
  rw [e3] at e
  rw [← e]; generalize ginv x = i; grobner
theorem ginv_val (x : Fin RE) : (ginv x).val = x.val ^ (RE - 2) % RE := gpow_val x _
attribute [irreducible] ginv
theorem ginv_unique {a b : Fin RE} (h : a * b = 1) : ginv a = b := by
  have ha : a ≠ 0 := fun e => by subst e; revert h; grobner
  have h2 := ginv_mul ha
  generalize ginv a = i at *
  grobner
theorem Gmul_zero {a b : Fin RE} (h : a * b = 0) : a = 0 ∨ b = 0 := by
  by_cases ha : a = 0
  · exact Or.inl ha
  · have h2 := ginv_mul ha
    generalize ginv a = i at *
    exact Or.inr (by grobner)
theorem Gcancel {a b c : Fin RE} (ha : a ≠ 0) (h : b * a = c * a) : b = c := by
  have h2 := ginv_mul ha
  generalize ginv a = i at *
  grobner
theorem g1_ne : (1 : Fin RE) ≠ 0 := by decide +kernel
theorem g2_ne : (2 : Fin RE) ≠ 0 := by decide +kernel
/-- What to the half of R - 1 isn't 1 is no square. -/
theorem nosq {a : Fin RE} (h0 : a ≠ 0) (h : gpow a 144115188143882240 ≠ 1) (x : Fin RE) : x * x ≠ a := fun e => by
  apply h
  have hx : x ≠ 0 := fun e' => by subst e'; apply h0; rw [← e]; grobner
  rw [← e, gpow_sq, ← gpow_add]
  exact fermatG x hx
theorem pow_fin {a r : Nat} {e : Nat} (h : e < 2 ^ 64) (hr : powm RE 64 a e = r) (x : Fin RE) (hx : x.val = a) : (gpow x e).val = r := by
  rw [gpow_val, hx, ← powm_eq RE 64 a e h]
  exact hr
theorem d_nosq : ∀ x : Fin RE, x * x ≠ 439 := nosq (by decide +kernel) (fun h => by
  have e := pow_fin (a := 439) (r := RE - 1) (e := 144115188143882240) (by decide +kernel) (by decide +kernel) 439 rfl
  rw [h] at e
  revert e
  decide +kernel)
theorem d1_nosq : ∀ x : Fin RE, x * x ≠ 440 := nosq (by decide +kernel) (fun h => by
  have e := pow_fin (a := 440) (r := RE - 1) (e := 144115188143882240) (by decide +kernel) (by decide +kernel) 440 rfl
  rw [h] at e
  revert e
  decide +kernel)
/-- A root of -1. -/
def gi : Fin RE := 263209301981812971
theorem gi_sq : gi * gi = -1 := by decide +kernel

/-! Points -/
abbrev Ep : Type := Fin RE × Fin RE
def onG (u : Ep) : Prop := u.2 * u.2 = 1 + u.1 * u.1 + 439 * (u.1 * u.1 * (u.2 * u.2))
def gk (u v : Ep) : Fin RE := 439 * (u.1 * v.1 * (u.2 * v.2))
def gadd (u v : Ep) : Ep := ((u.1 * v.2 + u.2 * v.1) * ginv (1 + gk u v), (u.2 * v.2 + u.1 * v.1) * ginv (1 - gk u v))
def gzero : Ep := (0, 1)
def gneg (u : Ep) : Ep := (0 - u.1, u.2)
def Gsum (u v t : Ep) : Prop := t.1 * (1 + gk u v) = u.1 * v.2 + u.2 * v.1 ∧ t.2 * (1 - gk u v) = u.2 * v.2 + u.1 * v.1

theorem sq_quot {d x y : Fin RE} (hy : y ≠ 0) (h : x * x = d * (y * y)) : (x * ginv y) * (x * ginv y) = d := by
  have h2 := ginv_mul hy
  generalize ginv y = i at *
  grobner
theorem gcomplete {x1 y1 x2 y2 k : Fin RE} (h1 : y1 * y1 = 1 + x1 * x1 + 439 * (x1 * x1 * (y1 * y1))) (h2 : y2 * y2 = 1 + x2 * x2 + 439 * (x2 * x2 * (y2 * y2)))
    (hk : k = 439 * (x1 * x2 * (y1 * y2))) : k * k ≠ 1 := by
  intro h
  have hi := gi_sq
  generalize gi = i at hi
  have dns := d_nosq
  generalize (439 : Fin RE) = d at *
  have e0 : d * (x1 * x1 * (y1 * y1)) * (y2 * y2 - x2 * x2) = y1 * y1 - x1 * x1 := by
    have a1 : y2 * y2 - x2 * x2 = 1 + d * (x2 * x2 * (y2 * y2)) := by clear h1 hk h hi; grobner
    have a2 : d * (x1 * x1 * (y1 * y1)) * (d * (x2 * x2 * (y2 * y2))) = 1 := by rw [← h, hk]; clear h1 h2 hk h hi a1; grobner
    rw [a1]
    have a3 : d * (x1 * x1 * (y1 * y1)) * (1 + d * (x2 * x2 * (y2 * y2))) = d * (x1 * x1 * (y1 * y1)) + 1 := by
      have : d * (x1 * x1 * (y1 * y1)) * (1 + d * (x2 * x2 * (y2 * y2))) = d * (x1 * x1 * (y1 * y1)) + d * (x1 * x1 * (y1 * y1)) * (d * (x2 * x2 * (y2 * y2))) := by clear h1 h2 hk h hi a1 a2; grobner
      rw [this, a2]
    rw [a3]
    clear h2 hk h hi a1 a2 a3
    grobner
  have ep : (i * x1 + k * y1) * (i * x1 + k * y1) = d * ((x1 * y1 * (i * x2 + y2)) * (x1 * y1 * (i * x2 + y2))) := by
    have l : (i * x1 + k * y1) * (i * x1 + k * y1) = i * i * (x1 * x1) + k * k * (y1 * y1) + 2 * i * x1 * y1 * k := by clear h1 h2 hk h hi e0; grobner
    have r : d * ((x1 * y1 * (i * x2 + y2)) * (x1 * y1 * (i * x2 + y2))) = d * (x1 * x1 * (y1 * y1)) * (i * i * (x2 * x2) + y2 * y2) + 2 * i * x1 * y1 * (d * (x1 * x2 * (y1 * y2))) := by clear h1 h2 hk h hi e0 l; grobner
    rw [l, r, hi, h, ← hk]
    have e1 : d * (x1 * x1 * (y1 * y1)) * (-1 * (x2 * x2) + y2 * y2) = d * (x1 * x1 * (y1 * y1)) * (y2 * y2 - x2 * x2) := by clear h1 h2 hk h hi e0 l r; grobner
    rw [e1, e0]
    clear h1 h2 hk h hi e0 l r e1
    grobner
  have em : (i * x1 - k * y1) * (i * x1 - k * y1) = d * ((x1 * y1 * (i * x2 - y2)) * (x1 * y1 * (i * x2 - y2))) := by
    have l : (i * x1 - k * y1) * (i * x1 - k * y1) = i * i * (x1 * x1) + k * k * (y1 * y1) - 2 * i * x1 * y1 * k := by clear h1 h2 hk h hi e0 ep; grobner
    have r : d * ((x1 * y1 * (i * x2 - y2)) * (x1 * y1 * (i * x2 - y2))) = d * (x1 * x1 * (y1 * y1)) * (i * i * (x2 * x2) + y2 * y2) - 2 * i * x1 * y1 * (d * (x1 * x2 * (y1 * y2))) := by clear h1 h2 hk h hi e0 ep l; grobner
    rw [l, r, hi, h, ← hk]
    have e1 : d * (x1 * x1 * (y1 * y1)) * (-1 * (x2 * x2) + y2 * y2) = d * (x1 * x1 * (y1 * y1)) * (y2 * y2 - x2 * x2) := by clear h1 h2 hk h hi e0 ep l r; grobner
    rw [e1, e0]
    clear h1 h2 hk h hi e0 ep l r e1
    grobner
  have z1 : x1 * y1 * (i * x2 + y2) = 0 := Classical.byContradiction fun hn => dns _ (sq_quot hn ep)
  have z2 : x1 * y1 * (i * x2 - y2) = 0 := Classical.byContradiction fun hn => dns _ (sq_quot hn em)
  have k0 : k = 0 := by
    have : (2 : Fin RE) * k = 0 := by rw [hk]; clear h1 h2 hk h hi e0 ep em; grobner
    rcases Gmul_zero this with h | h
    · exact absurd h g2_ne
    · exact h
  rw [k0] at h
  exact g1_ne (by rw [← h]; grobner)
theorem gden1 {u v : Ep} (hu : onG u) (hv : onG v) : 1 + gk u v ≠ 0 := fun e => by
  refine gcomplete hu hv (k := gk u v) rfl ?_
  generalize gk u v = k at *
  grobner
theorem gden2 {u v : Ep} (hu : onG u) (hv : onG v) : 1 - gk u v ≠ 0 := fun e => by
  refine gcomplete hu hv (k := gk u v) rfl ?_
  generalize gk u v = k at *
  grobner
theorem Gsum_add {u v : Ep} (hu : onG u) (hv : onG v) : Gsum u v (gadd u v) := by
  have h1 := ginv_mul (gden1 hu hv)
  have h2 := ginv_mul (gden2 hu hv)
  unfold Gsum gadd
  dsimp only
  generalize gk u v = k at *
  generalize ginv (1 + k) = i at *
  generalize ginv (1 - k) = j at *
  constructor
  · clear h2; generalize u.1 * v.2 + u.2 * v.1 = n; grobner
  · clear h1; generalize u.2 * v.2 + u.1 * v.1 = n; grobner
theorem Gsum_unique {u v t t' : Ep} (hu : onG u) (hv : onG v) (h : Gsum u v t) (h' : Gsum u v t') : t = t' :=
  Prod.ext (Gcancel (gden1 hu hv) (h.1.trans h'.1.symm)) (Gcancel (gden2 hu hv) (h.2.trans h'.2.symm))
end Ob

namespace Ob
set_option linter.unusedVariables false
set_option linter.unusedSimpArgs false

theorem ge_on {x1 y1 x2 y2 d : Fin RE} (h1 : y1 * y1 = 1 + x1 * x1 + d * (x1 * x1 * (y1 * y1))) (h2 : y2 * y2 = 1 + x2 * x2 + d * (x2 * x2 * (y2 * y2))) :
    (y1 * y2 + x1 * x2) * (y1 * y2 + x1 * x2) * ((1 + d * (x1 * x2 * (y1 * y2))) * (1 + d * (x1 * x2 * (y1 * y2))))
    = ((1 + d * (x1 * x2 * (y1 * y2))) * (1 - d * (x1 * x2 * (y1 * y2)))) * ((1 + d * (x1 * x2 * (y1 * y2))) * (1 - d * (x1 * x2 * (y1 * y2))))
      + (x1 * y2 + y1 * x2) * (x1 * y2 + y1 * x2) * ((1 - d * (x1 * x2 * (y1 * y2))) * (1 - d * (x1 * x2 * (y1 * y2))))
      + d * ((x1 * y2 + y1 * x2) * (x1 * y2 + y1 * x2) * ((y1 * y2 + x1 * x2) * (y1 * y2 + x1 * x2))) := by
  grobner
theorem ge_x {x1 y1 x2 y2 x3 y3 d : Fin RE}
    (h1 : y1 * y1 = 1 + x1 * x1 + d * (x1 * x1 * (y1 * y1))) (h2 : y2 * y2 = 1 + x2 * x2 + d * (x2 * x2 * (y2 * y2))) (h3 : y3 * y3 = 1 + x3 * x3 + d * (x3 * x3 * (y3 * y3))) :
    ((x1 * y2 + y1 * x2) * (1 - d * (x1 * x2 * (y1 * y2))) * y3 + (y1 * y2 + x1 * x2) * (1 + d * (x1 * x2 * (y1 * y2))) * x3) * ((1 + d * (x2 * x3 * (y2 * y3))) * (1 - d * (x2 * x3 * (y2 * y3))) + d * ((x2 * y3 + y2 * x3) * (y2 * y3 + x2 * x3) * x1 * y1))
    = (x1 * (y2 * y3 + x2 * x3) * (1 + d * (x2 * x3 * (y2 * y3))) + y1 * (x2 * y3 + y2 * x3) * (1 - d * (x2 * x3 * (y2 * y3)))) * ((1 + d * (x1 * x2 * (y1 * y2))) * (1 - d * (x1 * x2 * (y1 * y2))) + d * ((x1 * y2 + y1 * x2) * (y1 * y2 + x1 * x2) * x3 * y3)) := by
  grobner
theorem ge_y {x1 y1 x2 y2 x3 y3 d : Fin RE}
    (h1 : y1 * y1 = 1 + x1 * x1 + d * (x1 * x1 * (y1 * y1))) (h2 : y2 * y2 = 1 + x2 * x2 + d * (x2 * x2 * (y2 * y2))) (h3 : y3 * y3 = 1 + x3 * x3 + d * (x3 * x3 * (y3 * y3))) :
    ((y1 * y2 + x1 * x2) * (1 + d * (x1 * x2 * (y1 * y2))) * y3 + (x1 * y2 + y1 * x2) * (1 - d * (x1 * x2 * (y1 * y2))) * x3) * ((1 + d * (x2 * x3 * (y2 * y3))) * (1 - d * (x2 * x3 * (y2 * y3))) - d * ((x2 * y3 + y2 * x3) * (y2 * y3 + x2 * x3) * x1 * y1))
    = (y1 * (y2 * y3 + x2 * x3) * (1 + d * (x2 * x3 * (y2 * y3))) + x1 * (x2 * y3 + y2 * x3) * (1 - d * (x2 * x3 * (y2 * y3)))) * ((1 + d * (x1 * x2 * (y1 * y2))) * (1 - d * (x1 * x2 * (y1 * y2))) - d * ((x1 * y2 + y1 * x2) * (y1 * y2 + x1 * x2) * x3 * y3)) := by
  grobner
end Ob

namespace Ob
set_option linter.unusedVariables false
set_option linter.unusedSimpArgs false

theorem quot_on {t1 t2 a b n1 n2 d : Fin RE} (h1 : t1 * a = n1) (h2 : t2 * b = n2) (ha : a ≠ 0) (hb : b ≠ 0)
    (h : n2 * n2 * (a * a) = (a * b) * (a * b) + n1 * n1 * (b * b) + d * (n1 * n1 * (n2 * n2))) : t2 * t2 = 1 + t1 * t1 + d * (t1 * t1 * (t2 * t2)) := by
  subst h1 h2
  refine Gcancel ha (Gcancel ha (Gcancel hb (Gcancel hb ?_)))
  clear ha hb
  grobner
theorem onG_add {u v : Ep} (hu : onG u) (hv : onG v) : onG (gadd u v) := by
  have h := Gsum_add hu hv
  have e := ge_on hu hv
  exact quot_on h.1 h.2 (gden1 hu hv) (gden2 hu hv) e
theorem onG_zero : onG gzero := by show (1 : Fin RE) * 1 = 1 + 0 * 0 + 439 * (0 * 0 * (1 * 1)); decide +kernel
theorem onG_neg {u : Ep} (hu : onG u) : onG (gneg u) := by
  unfold onG gneg at *
  dsimp only at *
  generalize u.1 = x at *
  generalize u.2 = y at *
  generalize (439 : Fin RE) = d at *
  grobner
theorem gk_comm (u v : Ep) : gk u v = gk v u := by
  unfold gk
  generalize u.1 = a; generalize u.2 = b; generalize v.1 = c; generalize v.2 = e; generalize (439 : Fin RE) = d
  grobner
theorem gadd_comm (u v : Ep) : gadd u v = gadd v u := by
  unfold gadd
  rw [gk_comm u v]
  generalize gk v u = k
  refine Prod.ext ?_ ?_
  · show (u.1 * v.2 + u.2 * v.1) * ginv (1 + k) = (v.1 * u.2 + v.2 * u.1) * ginv (1 + k)
    generalize ginv (1 + k) = i; generalize u.1 = a; generalize u.2 = b; generalize v.1 = c; generalize v.2 = e
    grobner
  · show (u.2 * v.2 + u.1 * v.1) * ginv (1 - k) = (v.2 * u.2 + v.1 * u.1) * ginv (1 - k)
    generalize ginv (1 - k) = i; generalize u.1 = a; generalize u.2 = b; generalize v.1 = c; generalize v.2 = e
    grobner
theorem gadd_zero {u : Ep} (hu : onG u) : gadd u gzero = u := by
  refine Gsum_unique hu onG_zero (Gsum_add hu onG_zero) ?_
  unfold Gsum gk gzero
  dsimp only
  generalize u.1 = a; generalize u.2 = b; generalize (439 : Fin RE) = d
  constructor <;> grobner
theorem zero_gadd {u : Ep} (hu : onG u) : gadd gzero u = u := by rw [gadd_comm]; exact gadd_zero hu
theorem gadd_neg {u : Ep} (hu : onG u) : gadd u (gneg u) = gzero := by
  refine Gsum_unique hu (onG_neg hu) (Gsum_add hu (onG_neg hu)) ?_
  unfold onG at hu
  unfold Gsum gk gzero gneg
  dsimp only
  generalize u.1 = a at *; generalize u.2 = b at *; generalize (439 : Fin RE) = d at *
  constructor
  · clear hu; grobner
  · grobner
/-- One coordinate of a sum of a sum. -/
theorem gnest1 {p1 p2 k n1 n2 w1 w2 t d : Fin RE} (e1 : p1 * (1 + k) = n1) (e2 : p2 * (1 - k) = n2) (h : t * (1 + d * (p1 * w1 * (p2 * w2))) = p1 * w2 + p2 * w1) :
    t * ((1 + k) * (1 - k) + d * (n1 * n2 * w1 * w2)) = n1 * (1 - k) * w2 + n2 * (1 + k) * w1 := by
  subst e1 e2
  have : t * ((1 + k) * (1 - k) + d * (p1 * (1 + k) * (p2 * (1 - k)) * w1 * w2)) = t * (1 + d * (p1 * w1 * (p2 * w2))) * ((1 + k) * (1 - k)) := by clear h; grobner
  rw [this, h]; clear h this; grobner
theorem gnest2 {p1 p2 k n1 n2 w1 w2 t d : Fin RE} (e1 : p1 * (1 + k) = n1) (e2 : p2 * (1 - k) = n2) (h : t * (1 - d * (p1 * w1 * (p2 * w2))) = p2 * w2 + p1 * w1) :
    t * ((1 + k) * (1 - k) - d * (n1 * n2 * w1 * w2)) = n2 * (1 + k) * w2 + n1 * (1 - k) * w1 := by
  subst e1 e2
  have : t * ((1 + k) * (1 - k) - d * (p1 * (1 + k) * (p2 * (1 - k)) * w1 * w2)) = t * (1 - d * (p1 * w1 * (p2 * w2))) * ((1 + k) * (1 - k)) := by clear h; grobner
  rw [this, h]; clear h this; grobner
theorem gnestne1 {p1 p2 k n1 n2 w1 w2 d : Fin RE} (e1 : p1 * (1 + k) = n1) (e2 : p2 * (1 - k) = n2) (h1 : 1 + k ≠ 0) (h2 : 1 - k ≠ 0) (h : 1 + d * (p1 * w1 * (p2 * w2)) ≠ 0) :
    (1 + k) * (1 - k) + d * (n1 * n2 * w1 * w2) ≠ 0 := fun e => by
  subst e1 e2
  have : (1 + k) * ((1 - k) * (1 + d * (p1 * w1 * (p2 * w2)))) = 0 := by rw [← e]; clear e; grobner
  rcases Gmul_zero this with a | a
  · exact h1 a
  rcases Gmul_zero a with a | a
  · exact h2 a
  · exact h a
theorem gnestne2 {p1 p2 k n1 n2 w1 w2 d : Fin RE} (e1 : p1 * (1 + k) = n1) (e2 : p2 * (1 - k) = n2) (h1 : 1 + k ≠ 0) (h2 : 1 - k ≠ 0) (h : 1 - d * (p1 * w1 * (p2 * w2)) ≠ 0) :
    (1 + k) * (1 - k) - d * (n1 * n2 * w1 * w2) ≠ 0 := fun e => by
  subst e1 e2
  have : (1 + k) * ((1 - k) * (1 - d * (p1 * w1 * (p2 * w2)))) = 0 := by rw [← e]; clear e; grobner
  rcases Gmul_zero this with a | a
  · exact h1 a
  rcases Gmul_zero a with a | a
  · exact h2 a
  · exact h a
theorem gcross {t t' D D' N N' : Fin RE} (h : t * D = N) (h' : t' * D' = N') (e : N * D' = N' * D) (hD : D ≠ 0) (hD' : D' ≠ 0) : t = t' := by
  refine Gcancel hD (Gcancel hD' ?_)
  subst h h'
  clear hD hD'
  grobner
theorem gadd_assoc {u v w : Ep} (hu : onG u) (hv : onG v) (hw : onG w) : gadd (gadd u v) w = gadd u (gadd v w) := by
  have hp := onG_add hu hv
  have hq := onG_add hv hw
  have h1 := Gsum_add hu hv
  have h2 := Gsum_add hp hw
  have h3 := Gsum_add hv hw
  have h4 := Gsum_add hq hu
  rw [gadd_comm u (gadd v w)]
  have dp1 := gden1 hp hw; have dp2 := gden2 hp hw; have dq1 := gden1 hq hu; have dq2 := gden2 hq hu
  have du1 := gden1 hu hv; have du2 := gden2 hu hv; have dv1 := gden1 hv hw; have dv2 := gden2 hv hw
  have ex := ge_x hu hv hw
  have ey := ge_y hu hv hw
  generalize gadd (gadd u v) w = t at *
  generalize gadd (gadd v w) u = t' at *
  generalize gadd u v = p at *
  generalize gadd v w = q at *
  obtain ⟨x1, y1⟩ := u; obtain ⟨x2, y2⟩ := v; obtain ⟨x3, y3⟩ := w
  obtain ⟨p1, p2⟩ := p; obtain ⟨q1, q2⟩ := q; obtain ⟨t1, t2⟩ := t; obtain ⟨s1, s2⟩ := t'
  dsimp only [Gsum, onG, gk] at *
  generalize (439 : Fin RE) = d at *
  refine Prod.ext ?_ ?_
  · refine gcross (gnest1 h1.1 h1.2 h2.1) (gnest1 h3.1 h3.2 h4.1) ?_ (gnestne1 h1.1 h1.2 du1 du2 dp1) (gnestne1 h3.1 h3.2 dv1 dv2 dq1)
    clear h1 h2 h3 h4 dp1 dp2 dq1 dq2 du1 du2 dv1 dv2 hu hv hw hp hq ey
    refine (Eq.trans ?_ ex).trans ?_ <;> (clear ex; grobner)
  · refine gcross (gnest2 h1.1 h1.2 h2.2) (gnest2 h3.1 h3.2 h4.2) ?_ (gnestne2 h1.1 h1.2 du1 du2 dp2) (gnestne2 h3.1 h3.2 dv1 dv2 dq2)
    clear h1 h2 h3 h4 dp1 dp2 dq1 dq2 du1 du2 dv1 dv2 hu hv hw hp hq ex
    refine (Eq.trans ?_ ey).trans ?_ <;> (clear ey; grobner)
end Ob

namespace Ob
set_option linter.unusedVariables false
set_option linter.unusedSimpArgs false

def gmul (u : Ep) : Nat → Ep
  | 0 => gzero
  | n + 1 => gadd (gmul u n) u
theorem onG_mul {u : Ep} (hu : onG u) : ∀ n, onG (gmul u n)
  | 0 => onG_zero
  | n + 1 => onG_add (onG_mul hu n) hu
theorem gmul_one {u : Ep} (hu : onG u) : gmul u 1 = u := zero_gadd hu
theorem gmul_add {u : Ep} (hu : onG u) (m : Nat) : ∀ n, gmul u (m + n) = gadd (gmul u m) (gmul u n)
  | 0 => (gadd_zero (onG_mul hu m)).symm
  | n + 1 => by
    show gadd (gmul u (m + n)) u = gadd (gmul u m) (gadd (gmul u n) u)
    rw [gmul_add hu m n, gadd_assoc (onG_mul hu m) (onG_mul hu n) hu]
theorem gmul_zero : ∀ n, gmul gzero n = gzero
  | 0 => rfl
  | n + 1 => by
    show gadd (gmul gzero n) gzero = gzero
    rw [gmul_zero n, gadd_zero onG_zero]
theorem gmul_mul {u : Ep} (hu : onG u) (m : Nat) : ∀ n, gmul (gmul u m) n = gmul u (m * n)
  | 0 => rfl
  | n + 1 => by
    show gadd (gmul (gmul u m) n) (gmul u m) = gmul u (m * n + m)
    rw [gmul_mul hu m n, gmul_add hu]
theorem gmul_two {u : Ep} (hu : onG u) : gmul u 2 = gadd u u := by
  show gadd (gadd gzero u) u = gadd u u
  rw [zero_gadd hu]
theorem gadd_left {a b c : Ep} (ha : onG a) (hb : onG b) (hc : onG c) (h : gadd a b = gadd a c) : b = c := by
  have hn := onG_neg ha
  have e : ∀ q, onG q → gadd (gneg a) (gadd a q) = q := fun q hq => by
    rw [← gadd_assoc hn ha hq, gadd_comm (gneg a) a, gadd_neg ha, zero_gadd hq]
  rw [← e b hb, h, e c hc]
/-- A common divisor's multiple is 0 where both's are. -/
theorem gmul_gcd {u : Ep} (hu : onG u) (m n : Nat) : gmul u m = gzero → gmul u n = gzero → gmul u (Nat.gcd m n) = gzero := by
  induction m, n using Nat.gcd.induction with
  | H0 n => intro _ h; rwa [Nat.gcd_zero_left]
  | H1 m n hm ih =>
    intro h1 h2
    rw [Nat.gcd_rec]
    refine ih ?_ h1
    have e : n = m * (n / m) + n % m := (Nat.div_add_mod n m).symm
    rw [e, gmul_add hu, ← gmul_mul hu, h1, gmul_zero, zero_gadd (onG_mul hu _)] at h2
    have e2 : (m * (n / m) + n % m) % m = n % m := by rw [Nat.mul_add_mod, Nat.mod_mod]
    exact h2

/-! All of them, added up -/
def gsum : List Ep → Ep
  | [] => gzero
  | a :: l => gadd a (gsum l)
theorem onG_sum (l : List Ep) (h : ∀ q ∈ l, onG q) : onG (gsum l) := by
  induction l with
  | nil => exact onG_zero
  | cons a l ih => exact onG_add (h a (by simp)) (ih fun q hq => h q (by simp [hq]))
theorem gsum_perm {l l' : List Ep} (p : l.Perm l') : (∀ q ∈ l, onG q) → gsum l = gsum l' := by
  induction p with
  | nil => intro _; rfl
  | cons a p ih => intro h; show gadd a _ = gadd a _; rw [ih fun q hq => h q (by simp [hq])]
  | swap a b l =>
    intro h
    have ha := h a (by simp); have hb := h b (by simp)
    have hl := onG_sum l fun q hq => h q (by simp [hq])
    show gadd b (gadd a (gsum l)) = gadd a (gadd b (gsum l))
    rw [← gadd_assoc hb ha hl, ← gadd_assoc ha hb hl, gadd_comm a b]
  | trans p1 p2 ih1 ih2 => intro h; rw [ih1 h, ih2 fun q hq => h q (p1.mem_iff.mpr hq)]
theorem gsum_shift {a : Ep} (ha : onG a) (l : List Ep) : (∀ q ∈ l, onG q) → gsum (l.map (gadd a)) = gadd (gmul a l.length) (gsum l) := by
  induction l with
  | nil => intro _; show gzero = gadd gzero gzero; rw [gadd_zero onG_zero]
  | cons b l ih =>
    intro h
    have hb := h b (by simp)
    have hl : ∀ q ∈ l, onG q := fun q hq => h q (by simp [hq])
    have hs := onG_sum l hl
    have hm := onG_mul ha l.length
    show gadd (gadd a b) (gsum (l.map (gadd a))) = gadd (gadd (gmul a l.length) a) (gadd b (gsum l))
    rw [ih hl, ← gadd_assoc (onG_add ha hb) hm hs, ← gadd_assoc (onG_add hm ha) hb hs, gadd_comm (gadd a b) (gmul a l.length), gadd_assoc hm ha hb]
theorem gorder_of (L : List Ep) (nd : L.Nodup) (on : ∀ q, onG q ↔ q ∈ L) {a : Ep} (ha : onG a) : gmul a L.length = gzero := by
  have hL : ∀ q ∈ L, onG q := fun q hq => (on q).mpr hq
  have nd' : (L.map (gadd a)).Nodup := by
    rw [List.Nodup, List.pairwise_map]
    refine List.Pairwise.imp_of_mem ?_ nd
    intro b c hb hc hbc e
    exact hbc (gadd_left ha (hL b hb) (hL c hc) e)
  have p : (L.map (gadd a)).Perm L := by
    rw [List.perm_ext_iff_of_nodup nd' nd]
    intro q
    rw [List.mem_map]
    constructor
    · rintro ⟨b, hb, rfl⟩
      exact (on _).mp (onG_add ha (hL b hb))
    · intro hq
      have hn := onG_neg ha
      refine ⟨gadd (gneg a) q, (on _).mp (onG_add hn (hL q hq)), ?_⟩
      rw [← gadd_assoc ha hn (hL q hq), gadd_neg ha, zero_gadd (hL q hq)]
  have hs := onG_sum L hL
  have e := gsum_perm p fun q hq => hL q (p.mem_iff.mp hq)
  rw [gsum_shift ha L hL] at e
  refine gadd_left hs (onG_mul ha _) onG_zero ?_
  rw [gadd_comm (gsum L) (gmul a L.length), e, gadd_zero hs]

/-! A list of all, of at most 2 R -/
theorem roots_of (y : Fin RE) : ∃ l : List (Fin RE), l.length ≤ 2 ∧ l.Nodup ∧ ∀ x, onG (x, y) ↔ x ∈ l := by
  by_cases h : ∃ x, onG (x, y)
  · obtain ⟨x, hx⟩ := h
    have two : ∀ x', onG (x', y) → x' = x ∨ x' = 0 - x := fun x' hx' => by
      have hd : 1 + 439 * (y * y) ≠ 0 := fun e => by
        have hi := gi_sq
        -- -1 is a square, 439 isn't: y y 439 = -1
        by_cases hy : y = 0
        · subst hy
          exact g1_ne (by rw [← e]; decide +kernel)
        · have e2 : gi * gi = 439 * (y * y) := by rw [hi]; generalize (439 : Fin RE) * (y * y) = q at e; clear hx hx' hi; grobner
          exact d_nosq _ (sq_quot hy e2)
      have e : (x' - x) * (x' + x) = 0 := by
        have : (x' - x) * (x' + x) * (1 + 439 * (y * y)) = 0 * (1 + 439 * (y * y)) := by
          unfold onG at hx hx'
          dsimp only at hx hx'
          generalize (439 : Fin RE) = d at *
          clear hd
          grobner
        exact Gcancel hd this
      rcases Gmul_zero e with h | h
      · left; clear hx hx' e hd; grobner
      · right; clear hx hx' e hd; grobner
    have neg : onG (0 - x, y) := onG_neg (u := (x, y)) hx
    by_cases h0 : 0 - x = x
    · refine ⟨[x], by simp, by simp, fun x' => ⟨fun h => ?_, fun h => ?_⟩⟩
      · rcases two x' h with h | h
        · simp [h]
        · rw [h0] at h; simp [h]
      · simp at h; rw [h]; exact hx
    · refine ⟨[x, 0 - x], by simp, ?_, fun x' => ⟨fun h => ?_, fun h => ?_⟩⟩
      · simp only [List.nodup_cons, List.mem_singleton, List.not_mem_nil, not_false_eq_true, List.nodup_nil, and_true]
        exact fun e => h0 e.symm
      · rcases two x' h with h | h
        · rw [h]; exact List.mem_cons_self
        · rw [h]; exact List.mem_cons_of_mem _ List.mem_cons_self
      · rcases List.mem_cons.1 h with h | h
        · rw [h]; exact hx
        · rw [List.mem_singleton.1 h]; exact neg
  · exact ⟨[], by simp, by simp, fun x => ⟨fun hx => absurd ⟨x, hx⟩ h, fun hx => by cases hx⟩⟩
theorem len_flat {α β : Type} (f : α → List β) (hf : ∀ a, (f a).length ≤ 2) : ∀ l : List α, (l.flatMap f).length ≤ 2 * l.length
  | [] => by simp
  | a :: l => by
    rw [List.flatMap_cons, List.length_append, List.length_cons]
    have := hf a
    have := len_flat f hf l
    omega
theorem all_points : ∃ L : List Ep, L.Nodup ∧ (∀ q, onG q ↔ q ∈ L) ∧ L.length ≤ 2 * RE := by
  have hr := fun y => roots_of y
  let r : Fin RE → List (Fin RE) := fun y => Classical.choose (hr y)
  have h1 : ∀ y, (r y).length ≤ 2 := fun y => (Classical.choose_spec (hr y)).1
  have h2 : ∀ y, (r y).Nodup := fun y => (Classical.choose_spec (hr y)).2.1
  have h3 : ∀ y x, onG (x, y) ↔ x ∈ r y := fun y => (Classical.choose_spec (hr y)).2.2
  clear_value r
  refine ⟨(List.finRange RE).flatMap fun y => (r y).map fun x => (x, y), ?_, ?_, ?_⟩
  · rw [List.Nodup, List.pairwise_flatMap]
    refine ⟨fun y _ => ?_, ?_⟩
    · rw [List.pairwise_map]
      exact List.Pairwise.imp (fun hab e => hab (congrArg Prod.fst e)) (h2 y)
    · refine List.Pairwise.imp ?_ (List.nodup_finRange RE)
      intro y y' hy p hp q hq e
      obtain ⟨a, _, rfl⟩ := List.mem_map.1 hp
      obtain ⟨b, _, rfl⟩ := List.mem_map.1 hq
      exact hy (congrArg Prod.snd e)
  · rintro ⟨x, y⟩
    rw [h3, List.mem_flatMap]
    constructor
    · intro h
      exact ⟨y, List.mem_finRange y, List.mem_map.2 ⟨x, h, rfl⟩⟩
    · rintro ⟨y', _, h⟩
      obtain ⟨a, ha, e⟩ := List.mem_map.1 h
      cases e
      exact ha
  · have := len_flat (fun y => (r y).map fun x => (x, y)) (fun y => by rw [List.length_map]; exact h1 y) (List.finRange RE)
    rwa [List.length_finRange] at this
end Ob

namespace Ob
set_option linter.unusedVariables false
set_option linter.unusedSimpArgs false

theorem modRE : Mod RE := ⟨by decide, by decide⟩
/-- The rest of a number by R. -/
def toG (n : Nat) : Fin RE := Fin.ofNat RE n
theorem toG_val (n : Nat) : (toG n).val = n % RE := rfl
theorem toG_of_val (x : Fin RE) : toG x.val = x := Fin.ext (Nat.mod_eq_of_lt x.isLt)
theorem G_word (x : Fin RE) : x.val < 18446744073709551616 := Nat.lt_trans x.isLt (by decide)
theorem addG (a b : Nat) : add RE a b = (toG a + toG b).val := by
  rw [add_yes modRE, Fin.val_add, toG_val, toG_val, ← Nat.add_mod]
theorem mulG (a b : Nat) : mul RE a b = (toG a * toG b).val := by
  rw [mul_yes modRE, Fin.val_mul, toG_val, toG_val, ← Nat.mul_mod]
theorem subG (a b : Nat) : sub RE a b = (toG a - toG b).val := by
  rw [sub_yes modRE, Fin.val_sub, toG_val, toG_val, Nat.add_comm]
theorem powG (b e : Nat) (he : e = RE - 2) : pow RE b e = (ginv (toG b)).val := by
  rw [pow_yes modRE, ginv_val, toG_val, ← he, ← Nat.pow_mod]
theorem toG_1 : toG 1 = 1 := rfl
theorem toG_439 : toG 439 = 439 := rfl
theorem toG_neg (b : Nat) : toG (RE - b % RE) = 0 - toG b := by
  apply Fin.ext
  rw [Fin.val_sub, toG_val, toG_val]
  rfl
/-- Whether a pair of numbers is a point. -/
def isG (x y : Nat) : Bool := decide (x < RE) && decide (y < RE) && decide (toG y * toG y = toG x * toG x + (1 + 439 * (toG x * toG x * (toG y * toG y))))
theorem isG_on {x y : Nat} (h : isG x y = true) : x = (toG x).val ∧ y = (toG y).val ∧ onG (toG x, toG y) := by
  simp only [isG, Bool.and_eq_true, decide_eq_true_eq] at h
  obtain ⟨⟨h1, h2⟩, h3⟩ := h
  refine ⟨(Nat.mod_eq_of_lt h1).symm, (Nat.mod_eq_of_lt h2).symm, ?_⟩
  show toG y * toG y = 1 + toG x * toG x + 439 * (toG x * toG x * (toG y * toG y))
  generalize toG x = a at *; generalize toG y = b at *
  grobner
theorem on_isG {u : Ep} (h : onG u) : isG u.1.val u.2.val = true := by
  obtain ⟨x, y⟩ := u
  simp only [isG, Bool.and_eq_true, decide_eq_true_eq, toG_of_val]
  refine ⟨⟨x.isLt, y.isLt⟩, ?_⟩
  have h' : y * y = 1 + x * x + 439 * (x * x * (y * y)) := h
  grobner
/-- What a pair of numbers counts as. -/
def ofG (x y : Nat) : Ep := if isG x y = true then (toG x, toG y) else gzero
theorem ofG_on (x y : Nat) : onG (ofG x y) := by
  by_cases h : isG x y = true
  · rw [ofG, if_pos h]; exact (isG_on h).2.2
  · rw [ofG, if_neg h]; exact onG_zero
theorem ofG_yes {x y : Nat} (h : isG x y = true) : x = (ofG x y).1.val ∧ y = (ofG x y).2.val := by
  rw [ofG, if_pos h]; exact ⟨(isG_on h).1, (isG_on h).2.1⟩
theorem ofG_no {x y : Nat} (h : isG x y = false) : ofG x y = gzero := by
  rw [ofG, if_neg (by rw [h]; decide)]
theorem ofG_val {u : Ep} (h : onG u) : ofG u.1.val u.2.val = u := by
  rw [ofG, if_pos (on_isG h), toG_of_val, toG_of_val]
end Ob

namespace Ob
set_option linter.unusedVariables false
set_option linter.unusedSimpArgs false

/-- What X times X is, of a Y. -/
def gsqr (y : Fin RE) : Fin RE := (y * y - 1) * ginv (1 + 439 * (y * y))
theorem gsqr_den (y : Fin RE) : 1 + 439 * (y * y) ≠ 0 := fun e => by
  have hi := gi_sq
  have hd := d_nosq
  by_cases hy : y = 0
  · subst hy
    apply g1_ne
    generalize (439 : Fin RE) = d at e
    grobner
  · have hm := ginv_mul hy
    apply hd (gi * ginv y)
    generalize gi = i at *
    generalize ginv y = j at *
    generalize (439 : Fin RE) = d at *
    clear hd
    grobner
theorem on_sqr (x y : Fin RE) : onG (x, y) ↔ x * x = gsqr y := by
  have hm := ginv_mul (gsqr_den y)
  show y * y = 1 + x * x + 439 * (x * x * (y * y)) ↔ x * x = (y * y - 1) * ginv (1 + 439 * (y * y))
  generalize (439 : Fin RE) = d at *
  generalize ginv (1 + d * (y * y)) = j at *
  constructor
  · intro h; grobner
  · intro h; grobner
theorem G_roots {x z : Fin RE} (h : x * x = z * z) : x = z ∨ x = 0 - z := by
  have e : (x - z) * (x + z) = 0 := by grobner
  rcases Gmul_zero e with e | e
  · exact Or.inl (by grobner)
  · exact Or.inr (by grobner)
theorem Gneg_val {x : Fin RE} (h : x ≠ 0) : (0 - x).val = RE - x.val := by
  have h0 : x.val ≠ 0 := fun e => h (Fin.ext e)
  have h1 := x.isLt
  rw [Fin.val_sub]
  show (RE - x.val + 0) % RE = _
  rw [Nat.mod_eq_of_lt (by omega)]; omega
theorem Gneg_odd {x : Fin RE} (h : x ≠ 0) : (0 - x).val % 2 = 1 - x.val % 2 := by
  rw [Gneg_val h]
  have h1 := x.isLt
  show (288230376287764481 - x.val) % 2 = 1 - x.val % 2
  have : x.val < 288230376287764481 := h1
  omega
/-- One Y, and odd or even: one point. -/
theorem on_one {x z y : Fin RE} (hx : onG (x, y)) (hz : onG (z, y)) (h : x.val % 2 = z.val % 2) : x = z := by
  have e := ((on_sqr x y).mp hx).trans ((on_sqr z y).mp hz).symm
  rcases G_roots e with e | e
  · exact e
  · by_cases hz0 : z = 0
    · subst hz0; rw [e]; decide +kernel
    · rw [e, Gneg_odd hz0] at h; omega
theorem Sq_of {x s : Fin RE} (h : x * x = s) : Sq s.val := by
  by_cases hs : s = 0
  · subst hs; exact Or.inl rfl
  · refine Or.inr ?_
    have hx : x ≠ 0 := fun e => by subst e; apply hs; rw [← h]; grobner
    clear hs
    have hK : (R - 1) / 2 + (R - 1) / 2 = RE - 1 := by decide +kernel
    generalize (R - 1) / 2 = K at hK
    have e : gpow s K = 1 := by
      rw [← h, gpow_sq, ← gpow_add, hK]; exact fermatG x hx
    have e2 := gpow_val s K
    rw [e] at e2
    exact e2.symm
theorem Sq_root {s : Fin RE} (h : Sq s.val) : ∃ x : Fin RE, x * x = s := by
  have hr := (root_of_sq h).2
  refine ⟨toG (root s.val), Fin.ext ?_⟩
  rw [Fin.val_mul, toG_val, ← Nat.mul_mod]
  exact hr.trans (Nat.mod_eq_of_lt s.isLt)
theorem Sq_on (y : Fin RE) : Sq (gsqr y).val ↔ ∃ x, onG (x, y) :=
  ⟨fun h => by obtain ⟨x, hx⟩ := Sq_root h; exact ⟨x, (on_sqr x y).mpr hx⟩, fun ⟨x, hx⟩ => Sq_of ((on_sqr x y).mp hx)⟩
theorem on_opp {x y : Fin RE} (h : onG (x, y)) : onG (0 - x, y) := onG_neg h
/-- Of a Y that a point has there is the even one, and where X isn't 0 the odd one. -/
theorem on_parity {y : Fin RE} (h : ∃ x, onG (x, y)) (o : Nat) (ho : o < 2) (h0 : gsqr y ≠ 0 ∨ o = 0) : ∃ x, onG (x, y) ∧ x.val % 2 = o := by
  obtain ⟨x, hx⟩ := h
  by_cases hp : x.val % 2 = o
  · exact ⟨x, hx, hp⟩
  · have hx0 : x ≠ 0 := fun e => by
      subst e
      rcases h0 with h0 | h0
      · apply h0; rw [← (on_sqr 0 y).mp hx]; grobner
      · subst h0; exact hp rfl
    exact ⟨0 - x, on_opp hx, by rw [Gneg_odd hx0]; omega⟩
theorem no_odd {y x : Fin RE} (h : gsqr y = 0) (hx : onG (x, y)) : x = 0 := by
  have e := (on_sqr x y).mp hx
  rw [h] at e
  rcases Gmul_zero e with e | e <;> exact e
theorem gmul_bit {u : Ep} (hu : onG u) (n k : Nat) : gmul u (n / 2 ^ k) = gadd (gadd (gmul u (n / 2 ^ (k + 1))) (gmul u (n / 2 ^ (k + 1)))) (gmul u (n / 2 ^ k % 2)) := by
  have e : n / 2 ^ k = n / 2 ^ (k + 1) + n / 2 ^ (k + 1) + n / 2 ^ k % 2 := by
    rw [Nat.pow_succ, ← Nat.div_div_eq_div_mul]; omega
  rw [← gmul_add hu, ← gmul_add hu, ← e]
end Ob
