/-
  Joined texts: Makers of systems (layer 12): bits, hashes. Systems (layer 11): whether values hold, what is amiss: the document's numbers. Whether a system holds doesn't hang on the order of its rows. Makers of systems (layer 12): hashes of lists; the rows of a hash one by one; whether what was made holds. Rows of one's own, behind what leaves them as they are. Rows of a system of one's own that grow, row by row. Lists of terms of one's own: that grow, term by term; that are copies; that are stored into. What the rows of this seat share: how arguments are opened. Rows of words of 64 bits: read, joined, copied. Rows of words of one's own that grow, word by word. Objects in memory of their own: what they own, what leaves them as they are; a system that grows, with its values. The statements' own maker of layer 12 (obollaw12.model) in memory: what it holds, what a call leaves. Regions that draw their order and end in a store into what they read: the condition on the world need not be met behind those last operations.
-/
import Derived.Test.YtdbolfmmlmoiaaaJ1
import Derived.Laws.AppendOwn
import Derived.Deep.AppendLies
import Derived.Deep.AppendSrc
import Derived.Deep.DeepAppendRoom
import Derived.Laws.OwnMore
import Derived.OwnWalk
import Derived.Test.YtdbolfmmlmoiaaaRows
import Derived.WalkKit
import Derived.ProofKit
import Derived.OpenShut
import Derived.ShutString
import Derived.ChangeOld
import Derived.Below
import Derived.SizedLaws
import Derived.Deep.RegionHeld3

namespace Go.Proofs.Ytdbolfmmlmoiaaa
open Go.RowKit Go.Proofs
set_option linter.unusedVariables false
set_option linter.unusedSimpArgs false
/-! Bits -/
def bitAt (w i : Nat) : Nat := w / 2 ^ i % 2
theorem bitAt_lt (w i : Nat) : bitAt w i < 2 := Nat.mod_lt _ (by decide)
/-- The variables of the lowest i bits of w, and their rows. -/
def Mk.bitsN (S : Mk) (w : Nat) : Nat → Mk
  | 0 => S
  | i + 1 => ((S.bitsN w i).fresh (Ob.toG (bitAt w i))).row (just (S.n + i)) (less (S.n + i) 0) (lstOf [])
/-- All of them, the i-th 2^i times. -/
def bitSum (s n : Nat) : Lst := ⟨none, n, n, fun i => ((s + i : Nat) : Int), fun i => 2 ^ i⟩
def Mk.bits (S : Mk) (a n : Nat) : Mk := (S.bitsN (S.v a) n).row (bitSum S.n n) (just 0) (just a)
theorem Mk.bitsN_n (S : Mk) (w : Nat) : ∀ i, (S.bitsN w i).n = S.n + i
  | 0 => rfl
  | i + 1 => by show (S.bitsN w i).n + 1 = _; rw [Mk.bitsN_n S w i]; omega
theorem Mk.bitsN_old (S : Mk) (w : Nat) : ∀ i j, j < S.n → (S.bitsN w i).v j = S.v j
  | 0, j, _ => rfl
  | i + 1, j, hj => by
    show (if j = (S.bitsN w i).n then _ else (S.bitsN w i).v j) = _
    rw [if_neg (by rw [Mk.bitsN_n]; omega), Mk.bitsN_old S w i j hj]
theorem Mk.bitsN_bit (S : Mk) (w : Nat) : ∀ i j, j < i → (S.bitsN w i).v (S.n + j) = bitAt w j
  | i + 1, j, hj => by
    show (if S.n + j = (S.bitsN w i).n then (Ob.toG (bitAt w i)).val else (S.bitsN w i).v (S.n + j)) = _
    rw [Mk.bitsN_n]
    rcases Nat.lt_or_ge j i with h | h
    · rw [if_neg (by omega), Mk.bitsN_bit S w i j h]
    · obtain rfl : j = i := by omega
      rw [if_pos rfl, Ob.toG_val]
      have := bitAt_lt w j
      exact Nat.mod_eq_of_lt (by show bitAt w j < 288230376287764481; omega)
theorem Mk.Good.bitsN {S : Mk} (h : S.Good) (w : Nat) : ∀ i, (S.bitsN w i).Good
  | 0 => h
  | i + 1 => by
    have hn := Mk.bitsN_n S w i
    have g := (Mk.Good.bitsN h w i).fresh (Ob.toG (bitAt w i))
    refine g.row (just_in ?_) (less_in ?_ ?_) (nil_in _)
    · show S.n + i < (S.bitsN w i).n + 1; omega
    · show S.n + i < (S.bitsN w i).n + 1; omega
    · show 0 < (S.bitsN w i).n + 1; omega
theorem bitSum_in {s n k : Nat} (h : s + n ≤ k) : (bitSum s n).In k := fun i hi => by
  have hi' : i < n := hi
  show 0 ≤ ((s + i : Nat) : Int) ∧ ((s + i : Nat) : Int) < _
  omega
theorem Mk.Good.bits {S : Mk} (h : S.Good) {a : Nat} (ha : a < S.n) (n : Nat) : (S.bits a n).Good := by
  have hn := Mk.bitsN_n S (S.v a) n
  refine (Mk.Good.bitsN h (S.v a) n).row (bitSum_in ?_) (just_in ?_) (just_in ?_)
  · omega
  · have := h.n1; omega
  · omega
theorem bit_row (t : Nat) (h : t < 2) : Ob.toG t * (Ob.toG t - 1) = 0 := by
  obtain rfl | rfl : t = 0 ∨ t = 1 := by omega
  · decide +kernel
  · decide +kernel
theorem Mk.hold_bitsN {S : Mk} (h : S.Good) (w : Nat) : ∀ i, (S.bitsN w i).Hold ↔ S.Hold
  | 0 => Iff.rfl
  | i + 1 => by
    have hn := Mk.bitsN_n S w i
    have g := Mk.Good.bitsN h w i
    have gf := g.fresh (Ob.toG (bitAt w i))
    show (((S.bitsN w i).fresh (Ob.toG (bitAt w i))).row (just (S.n + i)) (less (S.n + i) 0) (lstOf [])).Hold ↔ _
    have hlt : S.n + i < ((S.bitsN w i).fresh (Ob.toG (bitAt w i))).n := by show _ < (S.bitsN w i).n + 1; omega
    rw [Mk.hold_row, Mk.hold_fresh g, Mk.hold_bitsN h w i, val_just hlt, val_less hlt gf.n1, val_nil, gf.v0]
    have ev : ((S.bitsN w i).fresh (Ob.toG (bitAt w i))).v (S.n + i) = (Ob.toG (bitAt w i)).val := by
      show (if S.n + i = (S.bitsN w i).n then (Ob.toG (bitAt w i)).val else _) = _
      rw [if_pos hn.symm]
    rw [ev, Ob.toG_of_val]
    exact ⟨fun k => k.1, fun k => ⟨k, bit_row _ (bitAt_lt w i)⟩⟩
theorem toG_add' (a b : Nat) : Ob.toG (a + b) = Ob.toG a + Ob.toG b := by
  apply Fin.ext
  show (a + b) % 288230376287764481 = (a % 288230376287764481 + b % 288230376287764481) % 288230376287764481
  rw [Nat.add_mod]
theorem toG_mul' (a b : Nat) : Ob.toG (a * b) = Ob.toG a * Ob.toG b := by
  apply Fin.ext
  show a * b % 288230376287764481 = (a % 288230376287764481 * (b % 288230376287764481)) % 288230376287764481
  rw [Nat.mul_mod]
theorem low_step (w i : Nat) : w % 2 ^ (i + 1) = w % 2 ^ i + 2 ^ i * bitAt w i := by
  unfold bitAt
  rw [Nat.pow_succ, Nat.mod_mul]
theorem bitSum_val {S : Mk} {w n : Nat} : ∀ {j : Nat}, j ≤ n → valN (bitSum S.n n) (S.bitsN w n).n (S.bitsN w n).v j = Ob.toG (w % 2 ^ j)
  | 0, _ => by
    show (0 : Fin Ob.RE) = Ob.toG (w % 1)
    rw [Nat.mod_one]
    rfl
  | j + 1, hj => by
    show valN (bitSum S.n n) (S.bitsN w n).n (S.bitsN w n).v j + (if 0 ≤ ((S.n + j : Nat) : Int) ∧ ((S.n + j : Nat) : Int) < ((S.bitsN w n).n : Int) then Ob.toG (2 ^ j) * Ob.toG ((S.bitsN w n).v ((S.n + j : Nat) : Int).toNat) else 0) = _
    rw [bitSum_val (by omega), if_pos (by rw [Mk.bitsN_n]; omega), Int.toNat_natCast, Mk.bitsN_bit S w n j (by omega), low_step, toG_add', toG_mul']
/-- A number's lowest bits are it, if none is above them. -/
theorem Mk.hold_bits {S : Mk} (h : S.Good) {a : Nat} (ha : a < S.n) (n : Nat) : (S.bits a n).Hold ↔ (S.Hold ∧ S.v a / 2 ^ n = 0) := by
  unfold Mk.bits
  have hn := Mk.bitsN_n S (S.v a) n
  have g := Mk.Good.bitsN h (S.v a) n
  have e1 : (S.bitsN (S.v a) n).val (bitSum S.n n) = Ob.toG (S.v a % 2 ^ n) := bitSum_val (Nat.le_refl n)
  have e2 : (S.bitsN (S.v a) n).v a = S.v a := Mk.bitsN_old S _ n a ha
  rw [Mk.hold_row, Mk.hold_bitsN h, e1, val_zero g, val_just (by omega), e2]
  have hle : S.v a % 2 ^ n ≤ S.v a := Nat.mod_le _ _
  have hlt := h.lt a
  have hp : 0 < 2 ^ n := Nat.two_pow_pos n
  have key : Ob.toG (S.v a % 2 ^ n) * 1 = Ob.toG (S.v a) ↔ S.v a / 2 ^ n = 0 := by
    have e3 : Ob.toG (S.v a % 2 ^ n) * 1 = Ob.toG (S.v a % 2 ^ n) := by generalize Ob.toG (S.v a % 2 ^ n) = t; grobner
    rw [e3, Nat.div_eq_zero_iff]
    constructor
    · intro e
      have := toG_inj (by omega) hlt e
      right
      rw [← this]
      exact Nat.mod_lt _ hp
    · rintro (e | e)
      · omega
      · rw [Nat.mod_eq_of_lt e]
  rw [key]
/-! Hashes -/
/-- 7 to the (i + 1). -/
def sevN : Nat → Nat
  | 0 => 7
  | 1 => 49
  | _ => 343
/-- A round's list: x, a, and the round's number times variable 0. -/
def rndL (x a i : Nat) : Lst := lstOf [((x : Int), 1), ((a : Int), 1), (0, sevN i)]
/-- A round: its square, its cube. -/
def Mk.round (S : Mk) (x a i : Nat) : Mk := (S.mulL (rndL x a i) (rndL x a i)).mulL (just S.n) (rndL x a i)
def endL (x a b : Nat) : Lst := lstOf [((x : Int), 1), ((a : Int), 2), ((b : Int), 1)]
/-- i rounds; the variable from then on. -/
def Mk.rounds (S : Mk) (a b : Nat) : Nat → Mk
  | 0 => S
  | i + 1 => (S.rounds a b i).round (if i = 0 then b else S.n + 2 * i - 1) a i
def Mk.two (S : Mk) (a b : Nat) : Mk := (S.rounds a b 3).linear (endL (S.n + 5) a b)
theorem Mk.rounds_n (S : Mk) (a b : Nat) : ∀ i, (S.rounds a b i).n = S.n + 2 * i
  | 0 => rfl
  | i + 1 => by show (S.rounds a b i).n + 1 + 1 = _; rw [Mk.rounds_n S a b i]; omega
theorem Mk.two_n (S : Mk) (a b : Nat) : (S.two a b).n = S.n + 7 := by show (S.rounds a b 3).n + 1 = _; rw [Mk.rounds_n]
theorem rndL_in {x a i n : Nat} (hx : x < n) (ha : a < n) : (rndL x a i).In n := fun j hj => by
  have hj' : j < 3 := hj
  obtain rfl | rfl | rfl : j = 0 ∨ j = 1 ∨ j = 2 := by omega
  · show 0 ≤ (x : Int) ∧ (x : Int) < _; omega
  · show 0 ≤ (a : Int) ∧ (a : Int) < _; omega
  · show 0 ≤ (0 : Int) ∧ (0 : Int) < _; omega
theorem endL_in {x a b n : Nat} (hx : x < n) (ha : a < n) (hb : b < n) : (endL x a b).In n := fun j hj => by
  have hj' : j < 3 := hj
  obtain rfl | rfl | rfl : j = 0 ∨ j = 1 ∨ j = 2 := by omega
  · show 0 ≤ (x : Int) ∧ (x : Int) < _; omega
  · show 0 ≤ (a : Int) ∧ (a : Int) < _; omega
  · show 0 ≤ (b : Int) ∧ (b : Int) < _; omega
theorem Mk.Good.round {S : Mk} (h : S.Good) {x a i : Nat} (hx : x < S.n) (ha : a < S.n) : (S.round x a i).Good :=
  (h.mulL (rndL_in hx ha) (rndL_in hx ha)).mulL (just_in (show S.n < S.n + 1 by omega)) ((rndL_in hx ha).mono (show S.n ≤ S.n + 1 by omega))
theorem Mk.hold_round {S : Mk} (h : S.Good) {x a i : Nat} (hx : x < S.n) (ha : a < S.n) : (S.round x a i).Hold ↔ S.Hold := by
  unfold Mk.round
  rw [Mk.hold_mulL (h.mulL (rndL_in hx ha) (rndL_in hx ha)) (just_in (show S.n < S.n + 1 by omega)) ((rndL_in hx ha).mono (show S.n ≤ S.n + 1 by omega)), Mk.hold_mulL h (rndL_in hx ha) (rndL_in hx ha)]
theorem rounds_x {S : Mk} {a b i : Nat} (h : b < S.n) : (if i = 0 then b else S.n + 2 * i - 1) < (S.rounds a b i).n := by
  rw [Mk.rounds_n]
  split <;> omega
theorem Mk.Good.rounds {S : Mk} (h : S.Good) {a b : Nat} (ha : a < S.n) (hb : b < S.n) : ∀ i, (S.rounds a b i).Good
  | 0 => h
  | i + 1 => (Mk.Good.rounds h ha hb i).round (rounds_x hb) (by rw [Mk.rounds_n]; omega)
theorem Mk.hold_rounds {S : Mk} (h : S.Good) {a b : Nat} (ha : a < S.n) (hb : b < S.n) : ∀ i, (S.rounds a b i).Hold ↔ S.Hold
  | 0 => Iff.rfl
  | i + 1 => (Mk.hold_round (Mk.Good.rounds h ha hb i) (rounds_x hb) (by rw [Mk.rounds_n]; omega)).trans (Mk.hold_rounds h ha hb i)
theorem Mk.Good.two {S : Mk} (h : S.Good) {a b : Nat} (ha : a < S.n) (hb : b < S.n) : (S.two a b).Good :=
  (Mk.Good.rounds h ha hb 3).linear (endL_in (by rw [Mk.rounds_n]; omega) (by rw [Mk.rounds_n]; omega) (by rw [Mk.rounds_n]; omega))
theorem Mk.hold_two {S : Mk} (h : S.Good) {a b : Nat} (ha : a < S.n) (hb : b < S.n) : (S.two a b).Hold ↔ S.Hold :=
  (Mk.hold_linear (Mk.Good.rounds h ha hb 3) (endL_in (by rw [Mk.rounds_n]; omega) (by rw [Mk.rounds_n]; omega) (by rw [Mk.rounds_n]; omega))).trans (Mk.hold_rounds h ha hb 3)
/-! Their values -/
theorem val_rndL {S : Mk} (h : S.Good) {x a i : Nat} (hx : x < S.n) (ha : a < S.n) : S.val (rndL x a i) = Ob.toG (S.v x) + (Ob.toG (S.v a) + Ob.toG (sevN i)) := by
  show (0 : Fin Ob.RE) + (if 0 ≤ (x : Int) ∧ (x : Int) < (S.n : Int) then Ob.toG 1 * Ob.toG (S.v (x : Int).toNat) else 0) + (if 0 ≤ (a : Int) ∧ (a : Int) < (S.n : Int) then Ob.toG 1 * Ob.toG (S.v (a : Int).toNat) else 0) + (if 0 ≤ (0 : Int) ∧ (0 : Int) < (S.n : Int) then Ob.toG (sevN i) * Ob.toG (S.v 0) else 0) = _
  rw [if_pos (by omega), if_pos (by omega), if_pos (by have := h.n1; omega), Int.toNat_natCast, Int.toNat_natCast, h.v0, show Ob.toG 1 = 1 from rfl]
  generalize Ob.toG (S.v x) = s
  generalize Ob.toG (S.v a) = t
  generalize Ob.toG (sevN i) = u
  grobner
theorem val_endL {S : Mk} {x a b : Nat} (hx : x < S.n) (ha : a < S.n) (hb : b < S.n) : S.val (endL x a b) = Ob.toG (S.v x) + Ob.toG (S.v a) + (Ob.toG (S.v a) + Ob.toG (S.v b)) := by
  show (0 : Fin Ob.RE) + (if 0 ≤ (x : Int) ∧ (x : Int) < (S.n : Int) then Ob.toG 1 * Ob.toG (S.v (x : Int).toNat) else 0) + (if 0 ≤ (a : Int) ∧ (a : Int) < (S.n : Int) then Ob.toG 2 * Ob.toG (S.v (a : Int).toNat) else 0) + (if 0 ≤ (b : Int) ∧ (b : Int) < (S.n : Int) then Ob.toG 1 * Ob.toG (S.v (b : Int).toNat) else 0) = _
  rw [if_pos (by omega), if_pos (by omega), if_pos (by omega), Int.toNat_natCast, Int.toNat_natCast, Int.toNat_natCast, show Ob.toG 1 = 1 from rfl, show Ob.toG 2 = 1 + 1 from by decide +kernel]
  generalize Ob.toG (S.v x) = s
  generalize Ob.toG (S.v a) = t
  generalize Ob.toG (S.v b) = u
  grobner
theorem Mk.mulL_old (S : Mk) (p q : Lst) {j : Nat} (h : j < S.n) : (S.mulL p q).v j = S.v j := if_neg (by omega)
theorem Mk.mulL_new (S : Mk) (p q : Lst) : (S.mulL p q).v S.n = (S.val p * S.val q).val := if_pos rfl
theorem Mk.mulL_val {S : Mk} {p q L : Lst} (h : L.In S.n) : (S.mulL p q).val L = S.val L := Mk.val_fresh h _
theorem Mk.round_old {S : Mk} {x a i j : Nat} (h : j < S.n) : (S.round x a i).v j = S.v j := by
  unfold Mk.round
  rw [Mk.mulL_old _ _ _ (show j < S.n + 1 by omega), Mk.mulL_old _ _ _ h]
theorem Mk.round_new {S : Mk} (h : S.Good) {x a i : Nat} (hx : x < S.n) (ha : a < S.n) : (S.round x a i).v (S.n + 1) = (Ob.cubG (Ob.toG (S.v x) + (Ob.toG (S.v a) + Ob.toG (sevN i)))).val := by
  unfold Mk.round
  rw [show S.n + 1 = (S.mulL (rndL x a i) (rndL x a i)).n from rfl, Mk.mulL_new, val_just (show S.n < S.n + 1 by omega), Mk.mulL_new, Ob.toG_of_val, Mk.mulL_val (rndL_in hx ha), val_rndL h hx ha]
  unfold Ob.cubG
  refine congrArg Fin.val ?_
  generalize Ob.toG (S.v x) + (Ob.toG (S.v a) + Ob.toG (sevN i)) = t
  grobner
theorem Mk.rounds_old {S : Mk} (a b : Nat) : ∀ {i j : Nat}, j < S.n → (S.rounds a b i).v j = S.v j
  | 0, j, _ => rfl
  | i + 1, j, h => by
    show ((S.rounds a b i).round _ a i).v j = _
    rw [Mk.round_old (by rw [Mk.rounds_n]; omega), Mk.rounds_old a b h]
/-- The value that x has behind i rounds. -/
def rndV (a b : Fin Ob.RE) : Nat → Fin Ob.RE
  | 0 => b
  | i + 1 => Ob.cubG (rndV a b i + (a + Ob.toG (sevN i)))
theorem Mk.rounds_val {S : Mk} (h : S.Good) {a b : Nat} (ha : a < S.n) (hb : b < S.n) : ∀ i, Ob.toG ((S.rounds a b i).v (if i = 0 then b else S.n + 2 * i - 1)) = rndV (Ob.toG (S.v a)) (Ob.toG (S.v b)) i
  | 0 => rfl
  | i + 1 => by
    have g := Mk.Good.rounds h ha hb i
    have hn := Mk.rounds_n S a b i
    have e := Mk.round_new (i := i) g (rounds_x (a := a) (i := i) hb) (show a < (S.rounds a b i).n by omega)
    rw [Mk.rounds_val h ha hb i, Mk.rounds_old a b ha] at e
    rw [if_neg (by omega), show S.n + 2 * (i + 1) - 1 = (S.rounds a b i).n + 1 by omega]
    show Ob.toG (((S.rounds a b i).round _ a i).v ((S.rounds a b i).n + 1)) = _
    rw [e, Ob.toG_of_val]
    rfl
theorem rndV_turn (a b : Fin Ob.RE) : rndV a b 3 + a = Ob.turnG a b := by
  have e0 : Ob.toG (sevN 0) = 7 := by decide +kernel
  have e1 : Ob.toG (sevN 1) = 49 := by decide +kernel
  have e2 : Ob.toG (sevN 2) = 343 := by decide +kernel
  unfold rndV rndV rndV rndV Ob.turnG Ob.rndG
  rw [e0, e1, e2]
/-- What Two tells has the hash's value. -/
theorem Mk.two_val {S : Mk} (h : S.Good) {a b : Nat} (ha : a < S.n) (hb : b < S.n) : (S.two a b).v (S.n + 6) = (Ob.twoG (Ob.toG (S.v a)) (Ob.toG (S.v b))).val := by
  have hn := Mk.rounds_n S a b 3
  show (if S.n + 6 = (S.rounds a b 3).n then ((S.rounds a b 3).val (endL (S.n + 5) a b)).val else _) = _
  rw [if_pos (by omega), val_endL (by omega) (by omega) (by omega), Mk.rounds_old a b ha, Mk.rounds_old a b hb]
  have e := Mk.rounds_val h ha hb 3
  rw [if_neg (by decide), show S.n + 2 * 3 - 1 = S.n + 5 by omega] at e
  rw [e, rndV_turn]
  rfl
theorem Mk.two_old {S : Mk} (a b : Nat) {j : Nat} (h : j < S.n) : (S.two a b).v j = S.v j := by
  have hn := Mk.rounds_n S a b 3
  show (if j = (S.rounds a b 3).n then _ else (S.rounds a b 3).v j) = _
  rw [if_neg (by omega), Mk.rounds_old a b h]
end Go.Proofs.Ytdbolfmmlmoiaaa

namespace Go.Proofs.Ytdbolfmmlmoiaaa
open Go.RowKit Go.Proofs
set_option linter.unusedVariables false
set_option linter.unusedSimpArgs false
/-- Are the first i numbers below R? -/
def lowN_ (x : Nat → Nat) : Nat → Bool
  | 0 => true
  | i + 1 => lowN_ x i && decide (x i < 288230376287764481)
theorem lowN_not {x : Nat → Nat} {n : Nat} (h : ¬ x n < 288230376287764481) : ∀ {m : Nat}, n < m → lowN_ x m = false
  | m + 1, hm => by
    show (lowN_ x m && _) = false
    rcases Nat.lt_or_ge n m with h2 | h2
    · rw [lowN_not h h2]; rfl
    · obtain rfl : n = m := by omega
      rw [decide_eq_false h, Bool.and_false]
/-- Are they values for so many variables? -/
def valuesB (vars : Int) (n : Nat) (x : Nat → Nat) : Bool := decide ((n : Int) = vars ∧ x 0 = 1) && lowN_ x n
/-- Does a row hold? -/
def rowB (R : Nat → Nat → Lst) (n : Nat) (x : Nat → Nat) (i : Nat) : Bool := decide (valL (R i 0) n x * valL (R i 1) n x = valL (R i 2) n x)
/-- Do the first i rows? -/
def rowsB (R : Nat → Nat → Lst) (n : Nat) (x : Nat → Nat) : Nat → Bool
  | 0 => true
  | i + 1 => rowsB R n x i && rowB R n x i
/-- What is amiss with values for a system, and where: the document's numbers. -/
def HoldIs (vars pubs : Int) (m : Nat) (R : Nat → Nat → Lst) (n : Nat) (x : Nat → Nat) (bad at_ : Int) : Prop :=
  (checkB vars pubs m R = false ∧ bad = 3 ∧ at_ = -1) ∨ (checkB vars pubs m R = true ∧ valuesB vars n x = false ∧ bad = 1 ∧ at_ = -1) ∨
  (checkB vars pubs m R = true ∧ valuesB vars n x = true ∧ (∃ i : Nat, i < m ∧ rowsB R n x i = true ∧ rowB R n x i = false ∧ bad = 8 ∧ at_ = (i : Int))) ∨
  (checkB vars pubs m R = true ∧ valuesB vars n x = true ∧ rowsB R n x m = true ∧ bad = 0 ∧ at_ = -1)
theorem rowsB_row {R : Nat → Nat → Lst} {n : Nat} {x : Nat → Nat} {i : Nat} : ∀ {m : Nat}, rowsB R n x m = true → i < m → rowB R n x i = true
  | m + 1, h, hi => by
    have h' : (rowsB R n x m && rowB R n x m) = true := h
    rw [Bool.and_eq_true] at h'
    rcases Nat.lt_or_ge i m with h2 | h2
    · exact rowsB_row h'.1 h2
    · obtain rfl : i = m := by omega
      exact h'.2
theorem HoldIs.at_bad {vars pubs : Int} {m : Nat} {R : Nat → Nat → Lst} {n : Nat} {x : Nat → Nat} {bad at_ : Int} (h : HoldIs vars pubs m R n x bad at_) (hc : checkB vars pubs m R = true) (hv : valuesB vars n x = true) {i : Nat} (hi : i < m) (h1 : rowsB R n x i = true) (h2 : rowB R n x i = false) : bad = 8 ∧ at_ = (i : Int) := by
  rcases h with h | ⟨_, h, _⟩ | ⟨_, _, j, hj, h3, h4, h5, h6⟩ | ⟨_, _, h3, _⟩
  · rw [hc] at h; cases h.1
  · rw [hv] at h; cases h
  · rcases Nat.lt_trichotomy i j with h7 | h7 | h7
    · rw [rowsB_row h3 h7] at h2; cases h2
    · subst h7; exact ⟨h5, h6⟩
    · rw [rowsB_row h1 h7] at h4; cases h4
  · rw [rowsB_row h3 hi] at h2; cases h2
theorem HoldIs.at_good {vars pubs : Int} {m : Nat} {R : Nat → Nat → Lst} {n : Nat} {x : Nat → Nat} {bad at_ : Int} (h : HoldIs vars pubs m R n x bad at_) (hc : checkB vars pubs m R = true) (hv : valuesB vars n x = true) (h1 : rowsB R n x m = true) : bad = 0 ∧ at_ = -1 := by
  rcases h with h | ⟨_, h, _⟩ | ⟨_, _, j, hj, h3, h4, h5, h6⟩ | ⟨_, _, h3, h4⟩
  · rw [hc] at h; cases h.1
  · rw [hv] at h; cases h
  · rw [rowsB_row h1 hj] at h4; cases h4
  · exact h4
theorem rows_first (R : Nat → Nat → Lst) (n : Nat) (x : Nat → Nat) : ∀ m, rowsB R n x m = true ∨ ∃ i, i < m ∧ rowsB R n x i = true ∧ rowB R n x i = false
  | 0 => Or.inl rfl
  | m + 1 => by
    rcases rows_first R n x m with h | ⟨i, h1, h2⟩
    · cases hr : rowB R n x m with
      | true => exact Or.inl (by show (rowsB R n x m && rowB R n x m) = true; rw [h, hr]; rfl)
      | false => exact Or.inr ⟨m, by omega, h, hr⟩
    · exact Or.inr ⟨i, by omega, h2⟩
theorem hold_ex (vars pubs : Int) (m : Nat) (R : Nat → Nat → Lst) (n : Nat) (x : Nat → Nat) : ∃ bad at_, HoldIs vars pubs m R n x bad at_ := by
  cases hc : checkB vars pubs m R with
  | false => exact ⟨3, -1, Or.inl ⟨hc, rfl, rfl⟩⟩
  | true =>
    cases hv : valuesB vars n x with
    | false => exact ⟨1, -1, Or.inr (Or.inl ⟨hc, hv, rfl, rfl⟩)⟩
    | true =>
      rcases rows_first R n x m with h | ⟨i, h1, h2, h3⟩
      · exact ⟨0, -1, Or.inr (Or.inr (Or.inr ⟨hc, hv, h, rfl, rfl⟩))⟩
      · exact ⟨8, i, Or.inr (Or.inr (Or.inl ⟨hc, hv, i, h1, h2, h3, rfl, rfl⟩))⟩
end Go.Proofs.Ytdbolfmmlmoiaaa

namespace Go.Proofs.Ytdbolfmmlmoiaaa
open Go.RowKit Go.Proofs
set_option linter.unusedVariables false
set_option linter.unusedSimpArgs false

/-- All rows behind each other, the other way round. -/
def revR (m : Nat) (R : Nat → Nat → Lst) (i j : Nat) : Lst := R (m - 1 - i) j
theorem soundR_row {vars : Int} {R : Nat → Nat → Lst} {i : Nat} : ∀ {m : Nat}, soundR vars R m = true → i < m → (soundB vars (R i 0) && (soundB vars (R i 1) && soundB vars (R i 2))) = true
  | m + 1, h, hi => by
    have h' : (soundR vars R m && (soundB vars (R m 0) && (soundB vars (R m 1) && soundB vars (R m 2)))) = true := h
    rw [Bool.and_eq_true] at h'
    rcases Nat.lt_or_ge i m with h2 | h2
    · exact soundR_row h'.1 h2
    · obtain rfl : i = m := by omega
      exact h'.2
theorem soundR_all {vars : Int} {R : Nat → Nat → Lst} : ∀ {m : Nat}, (∀ i, i < m → (soundB vars (R i 0) && (soundB vars (R i 1) && soundB vars (R i 2))) = true) → soundR vars R m = true
  | 0, _ => rfl
  | m + 1, h => by
    show (soundR vars R m && (soundB vars (R m 0) && (soundB vars (R m 1) && soundB vars (R m 2)))) = true
    rw [soundR_all fun i hi => h i (by omega), h m (by omega)]
    rfl
theorem rowsB_all {R : Nat → Nat → Lst} {n : Nat} {x : Nat → Nat} : ∀ {m : Nat}, (∀ i, i < m → rowB R n x i = true) → rowsB R n x m = true
  | 0, _ => rfl
  | m + 1, h => by
    show (rowsB R n x m && rowB R n x m) = true
    rw [rowsB_all fun i hi => h i (by omega), h m (by omega)]
    rfl
theorem bool_eq {a b : Bool} (h : a = true → b = true) (k : b = true → a = true) : a = b := by
  cases a <;> cases b
  · rfl
  · exact (k rfl).symm ▸ rfl
  · exact h rfl ▸ rfl
  · rfl
theorem soundR_rev (vars : Int) (R : Nat → Nat → Lst) (m : Nat) : soundR vars (revR m R) m = soundR vars R m := by
  refine bool_eq (fun h => soundR_all fun i hi => ?_) (fun h => soundR_all fun i hi => ?_)
  · have := soundR_row h (i := m - 1 - i) (by omega)
    unfold revR at this
    rw [show m - 1 - (m - 1 - i) = i by omega] at this
    exact this
  · exact soundR_row h (i := m - 1 - i) (by omega)
theorem rowsB_rev (R : Nat → Nat → Lst) (n : Nat) (x : Nat → Nat) (m : Nat) : rowsB (revR m R) n x m = rowsB R n x m := by
  refine bool_eq (fun h => rowsB_all fun i hi => ?_) (fun h => rowsB_all fun i hi => ?_)
  · have := rowsB_row h (i := m - 1 - i) (by omega)
    unfold rowB revR at this
    rw [show m - 1 - (m - 1 - i) = i by omega] at this
    exact this
  · exact rowsB_row h (i := m - 1 - i) (by omega)
/-- Nothing is amiss just if all is right. -/
theorem HoldIs.nil_iff {vars pubs : Int} {m : Nat} {R : Nat → Nat → Lst} {n : Nat} {x : Nat → Nat} {bad at_ : Int} (h : HoldIs vars pubs m R n x bad at_) : (bad = 0 ∧ at_ = -1) ↔ (checkB vars pubs m R = true ∧ valuesB vars n x = true ∧ rowsB R n x m = true) := by
  rcases h with ⟨h1, rfl, rfl⟩ | ⟨h1, h2, rfl, rfl⟩ | ⟨h1, h2, i, h3, h4, h5, rfl, rfl⟩ | ⟨h1, h2, h3, rfl, rfl⟩
  · exact ⟨fun h => (by omega), fun h => (by rw [h1] at h; cases h.1)⟩
  · exact ⟨fun h => (by omega), fun h => (by rw [h2] at h; cases h.2.1)⟩
  · exact ⟨fun h => (by omega), fun h => (by rw [rowsB_row h.2.2 h3] at h5; cases h5)⟩
  · exact ⟨fun _ => ⟨h1, h2, h3⟩, fun _ => ⟨rfl, rfl⟩⟩
/-- The other way round the same holds. -/
theorem HoldIs.rev {vars pubs : Int} {m : Nat} {R : Nat → Nat → Lst} {n : Nat} {x : Nat → Nat} {bad at_ bad' at' : Int} (h : HoldIs vars pubs m R n x bad at_) (h' : HoldIs vars pubs m (revR m R) n x bad' at') : (bad = 0 ∧ at_ = -1) ↔ (bad' = 0 ∧ at' = -1) := by
  rw [h.nil_iff, h'.nil_iff]
  unfold checkB
  rw [soundR_rev, rowsB_rev]
end Go.Proofs.Ytdbolfmmlmoiaaa

namespace Go.Proofs.Ytdbolfmmlmoiaaa
open Go.RowKit Go.Proofs
set_option linter.unusedVariables false
set_option linter.unusedSimpArgs false
/-! Hashes of lists -/
def Mk.manyN (S : Mk) (m : Nat) (l : Nat → Nat) : Nat → Mk
  | 0 => S.linear (lstOf [(0, m)])
  | i + 1 => (S.manyN m l i).two (S.n + 7 * i) (l i)
theorem Mk.manyN_n (S : Mk) (m : Nat) (l : Nat → Nat) : ∀ i, (S.manyN m l i).n = S.n + 1 + 7 * i
  | 0 => rfl
  | i + 1 => by show ((S.manyN m l i).two _ _).n = _; rw [Mk.two_n, Mk.manyN_n S m l i]; omega
theorem num_in {m n : Nat} (h : 1 ≤ n) : (lstOf [((0 : Int), m)]).In n := fun i hi => by
  have hi' : i < 1 := hi
  obtain rfl : i = 0 := by omega
  show 0 ≤ (0 : Int) ∧ (0 : Int) < _
  omega
theorem Mk.Good.manyN {S : Mk} (h : S.Good) (m : Nat) {l : Nat → Nat} : ∀ {i : Nat}, (∀ j, j < i → l j < S.n) → (S.manyN m l i).Good
  | 0, _ => h.linear (num_in h.n1)
  | i + 1, hl => by
    have hn := Mk.manyN_n S m l i
    have := hl i (by omega)
    exact (Mk.Good.manyN h m fun j hj => hl j (by omega)).two (by omega) (by omega)
theorem Mk.hold_manyN {S : Mk} (h : S.Good) (m : Nat) {l : Nat → Nat} : ∀ {i : Nat}, (∀ j, j < i → l j < S.n) → ((S.manyN m l i).Hold ↔ S.Hold)
  | 0, _ => Mk.hold_linear h (num_in h.n1)
  | i + 1, hl => by
    have hn := Mk.manyN_n S m l i
    have := hl i (by omega)
    exact (Mk.hold_two (Mk.Good.manyN h m fun j hj => hl j (by omega)) (by omega) (by omega)).trans (Mk.hold_manyN h m fun j hj => hl j (by omega))
theorem val_num {S : Mk} (h : S.Good) (m : Nat) : S.val (lstOf [(0, m)]) = Ob.toG m := by
  show (0 : Fin Ob.RE) + (if 0 ≤ (0 : Int) ∧ (0 : Int) < (S.n : Int) then Ob.toG m * Ob.toG (S.v 0) else 0) = _
  rw [if_pos (by have := h.n1; omega), h.v0, show Ob.toG 1 = 1 from rfl]
  generalize Ob.toG m = t
  grobner
theorem Mk.linear_old (S : Mk) (L : Lst) {j : Nat} (h : j < S.n) : (S.linear L).v j = S.v j := if_neg (by omega)
theorem Mk.linear_new (S : Mk) (L : Lst) : (S.linear L).v S.n = (S.val L).val := if_pos rfl
theorem Mk.manyN_old {S : Mk} (m : Nat) (l : Nat → Nat) : ∀ {i j : Nat}, j < S.n → (S.manyN m l i).v j = S.v j
  | 0, j, h => Mk.linear_old S _ h
  | i + 1, j, h => by
    show ((S.manyN m l i).two _ _).v j = _
    rw [Mk.two_old _ _ (by rw [Mk.manyN_n]; omega), Mk.manyN_old m l h]
theorem Mk.manyN_val {S : Mk} (h : S.Good) {m : Nat} {l : Nat → Nat} : ∀ {i : Nat}, (∀ j, j < i → l j < S.n) → (S.manyN m l i).v (S.n + 7 * i) = hdN m (fun j => S.v (l j)) i
  | 0, _ => by
    show (S.linear (lstOf [(0, m)])).v S.n = _
    rw [Mk.linear_new, val_num h]
    rfl
  | i + 1, hl => by
    have hn := Mk.manyN_n S m l i
    have hi := hl i (by omega)
    have g := Mk.Good.manyN h m (l := l) (i := i) fun j hj => hl j (by omega)
    have e := Mk.two_val g (a := S.n + 7 * i) (b := l i) (by omega) (by omega)
    rw [Mk.manyN_val h (fun j hj => hl j (by omega)), Mk.manyN_old m l hi] at e
    rw [hdN_succ, show S.n + 7 * (i + 1) = (S.manyN m l i).n + 6 by omega]
    exact e
/-! The rows of a hash, one by one -/
/-- d rows more, each of which tells a new variable out of the elder ones. -/
structure Chain (S T : Mk) (d : Nat) : Prop where
  n : T.n = S.n + d
  m : T.m = S.m + d
  c : ∀ j, j < d → T.R (S.m + j) 2 = just (S.n + j)
  a : ∀ j, j < d → (T.R (S.m + j) 0).In (S.n + j)
  b : ∀ j, j < d → (T.R (S.m + j) 1).In (S.n + j)
theorem Chain.refl (S : Mk) : Chain S S 0 := ⟨rfl, rfl, fun j hj => by omega, fun j hj => by omega, fun j hj => by omega⟩
theorem Chain.step {S T : Mk} {d : Nat} (h : Chain S T d) (x : Fin Ob.RE) {p q : Lst} (hp : p.In T.n) (hq : q.In T.n) : Chain S ((T.fresh x).row p q (just T.n)) (d + 1) := by
  have hn := h.n
  have hm := h.m
  have new : ∀ {j : Nat}, j < d + 1 → ¬ j < d → ((T.fresh x).row p q (just T.n)).R (S.m + j) = row3 p q (just T.n) := fun hj hjd => by
    show (if _ = T.m then _ else _) = _
    rw [if_pos (by omega)]
  have old : ∀ {j : Nat}, j < d → ((T.fresh x).row p q (just T.n)).R (S.m + j) = T.R (S.m + j) := fun hjd => by
    show (if _ = T.m then _ else T.R _) = _
    rw [if_neg (by omega)]
  refine ⟨?_, ?_, fun j hj => ?_, fun j hj => ?_, fun j hj => ?_⟩
  · show T.n + 1 = _; omega
  · show T.m + 1 = _; omega
  · by_cases hjd : j < d
    · rw [old hjd]; exact h.c j hjd
    · rw [new hj hjd, show S.n + j = T.n by omega]; rfl
  · by_cases hjd : j < d
    · rw [old hjd]; exact h.a j hjd
    · rw [new hj hjd, show S.n + j = T.n by omega]; exact hp
  · by_cases hjd : j < d
    · rw [old hjd]; exact h.b j hjd
    · rw [new hj hjd, show S.n + j = T.n by omega]; exact hq
theorem Chain.rounds {S : Mk} {a b : Nat} (ha : a < S.n) (hb : b < S.n) (h0 : 1 ≤ S.n) : ∀ i, Chain S (S.rounds a b i) (2 * i)
  | 0 => Chain.refl S
  | i + 1 => by
    have c := Chain.rounds ha hb h0 i
    have hx := rounds_x (a := a) (i := i) hb
    have ha' : a < (S.rounds a b i).n := by rw [Mk.rounds_n]; omega
    have c1 := c.step ((S.rounds a b i).val (rndL (if i = 0 then b else S.n + 2 * i - 1) a i) * (S.rounds a b i).val (rndL (if i = 0 then b else S.n + 2 * i - 1) a i)) (rndL_in (i := i) hx ha') (rndL_in (i := i) hx ha')
    exact c1.step _ (just_in (show (S.rounds a b i).n < (S.rounds a b i).n + 1 by omega)) ((rndL_in (i := i) hx ha').mono (show (S.rounds a b i).n ≤ (S.rounds a b i).n + 1 by omega))
theorem Chain.two {S : Mk} {a b : Nat} (ha : a < S.n) (hb : b < S.n) : Chain S (S.two a b) 7 := by
  have hn := Mk.rounds_n S a b 3
  have c := Chain.rounds ha hb (by omega) 3
  have key : ∀ {T : Mk} {L : Lst} {d : Nat}, Chain S T d → L.In T.n → 1 ≤ T.n → Chain S (T.linear L) (d + 1) := fun {T L d} c hL h1 => by
    refine ⟨?_, ?_, fun j hj => ?_, fun j hj => ?_, fun j hj => ?_⟩
    · show T.n + 1 = _; have := c.n; omega
    · show T.m + 1 = _; have := c.m; omega
    · by_cases hjd : j < d
      · show (if _ = T.m then _ else T.R _) 2 = _
        rw [if_neg (by have := c.m; omega)]; exact c.c j hjd
      · show (if _ = T.m then row3 _ _ _ else T.R _) 2 = _
        rw [if_pos (by have := c.m; omega), show S.n + j = T.n by have := c.n; omega]; rfl
    · by_cases hjd : j < d
      · show ((if _ = T.m then _ else T.R _) 0).In _
        rw [if_neg (by have := c.m; omega)]; exact c.a j hjd
      · show ((if _ = T.m then row3 _ _ _ else T.R _) 0).In _
        rw [if_pos (by have := c.m; omega), show S.n + j = T.n by have := c.n; omega]; exact hL
    · by_cases hjd : j < d
      · show ((if _ = T.m then _ else T.R _) 1).In _
        rw [if_neg (by have := c.m; omega)]; exact c.b j hjd
      · show ((if _ = T.m then row3 _ _ _ else T.R _) 1).In _
        rw [if_pos (by have := c.m; omega), show S.n + j = T.n by have := c.n; omega]; exact just_in (by omega)
  exact key c (endL_in (by omega) (by omega) (by omega)) (by omega)
/-- Values that are turned at one new variable's place: its row doesn't hold. -/
theorem Chain.turned {S T : Mk} {d : Nat} (h : Chain S T d) (g : T.Good) (k : T.Hold) {x : Nat → Nat} {j : Nat} (hj : j < d) (hx : ∀ i, i ≠ S.n + j → x i = T.v i) (hne : Ob.toG (x (S.n + j)) ≠ Ob.toG (T.v (S.n + j))) :
    valL (T.R (S.m + j) 0) T.n x * valL (T.R (S.m + j) 1) T.n x ≠ valL (T.R (S.m + j) 2) T.n x := by
  have hn := h.n
  have hm := h.m
  have e0 : valL (T.R (S.m + j) 0) T.n x = valL (T.R (S.m + j) 0) T.n T.v := by
    exact (valL_congr (k := T.n) (x := T.v) (y := x) (h.a j hj) (by omega) fun i hi => (hx i (by omega)).symm).trans (valL_congr (k := T.n) (x := T.v) (y := T.v) (h.a j hj) (by omega) fun i _ => rfl).symm
  have e1 : valL (T.R (S.m + j) 1) T.n x = valL (T.R (S.m + j) 1) T.n T.v := by
    exact (valL_congr (k := T.n) (x := T.v) (y := x) (h.b j hj) (by omega) fun i hi => (hx i (by omega)).symm).trans (valL_congr (k := T.n) (x := T.v) (y := T.v) (h.b j hj) (by omega) fun i _ => rfl).symm
  have e2 : ∀ y : Nat → Nat, valL (T.R (S.m + j) 2) T.n y = Ob.toG (y (S.n + j)) := fun y => by
    rw [h.c j hj]
    exact val_just (S := ⟨0, T.n, y, 0, fun _ _ => lstOf []⟩) (show S.n + j < T.n by omega)
  have hold := k (S.m + j) (by omega)
  unfold Mk.val at hold
  rw [e0, e1, hold, e2, e2]
  exact fun e => hne e.symm
/-! Whether what was made holds -/
theorem IsSum.lt {L O : Lst} (h : IsSum L O) {n : Nat} (hL : L.In n) (i : Nat) (hi : i < O.n) : O.V i < (n : Int) := by
  have hne : Go.Proofs.Ytdbolfmmlmoiaaa.ksum L (O.V i) ≠ 0 := by rw [← h.coef i hi]; exact toG_ne (h.nz i hi)
  refine Decidable.byContradiction fun hge => hne (ksumN_off fun j hj e => ?_)
  have := (hL j hj).2
  omega
theorem IsSum.sound {L O : Lst} (h : IsSum L O) {n : Nat} (hL : L.In n) : soundB (n : Int) O = true := by
  have key : ∀ k, k ≤ O.n → soundN (n : Int) O k = true := by
    intro k
    induction k with
    | zero => exact fun _ => rfl
    | succ k ih =>
      intro hk
      show (soundN (n : Int) O k && okT (n : Int) O k) = true
      rw [ih (by omega)]
      have hp : prevV O k < O.V k := by
        cases k with
        | zero => show (-1 : Int) < _; have := h.pos 0 hk; omega
        | succ k => exact h.rise k (k + 1) (by omega) hk
      exact decide_eq_true ⟨hp, h.lt hL k hk, (h.nz k hk).1, (h.nz k hk).2⟩
  exact key O.n (Nat.le_refl _)
/-- A system in memory whose lists are the sums of a maker's. -/
structure SysOf (S : Mk) (R : Nat → Nat → Lst) : Prop where
  sum : ∀ i, i < S.m → ∀ j, j < 3 → IsSum (S.R i j) (R i j)
theorem SysOf.check {S : Mk} {R : Nat → Nat → Lst} (h : SysOf S R) (g : S.Good) (hn : S.n ≤ 4096) (hm : S.m ≤ 4096) : checkB (S.n : Int) (S.pub : Int) S.m R = true := by
  have n1 := g.n1
  have p1 := g.pubs
  have e1 : frameB (S.n : Int) (S.pub : Int) S.m = true := decide_eq_true ⟨by omega, by omega, by omega, by omega, hm⟩
  have e2 : soundR (S.n : Int) R S.m = true := soundR_all fun i hi => by
    rw [(h.sum i hi 0 (by decide)).sound (g.rows i hi 0), (h.sum i hi 1 (by decide)).sound (g.rows i hi 1), (h.sum i hi 2 (by decide)).sound (g.rows i hi 2)]
    rfl
  unfold checkB
  rw [e1, e2]
  rfl
theorem SysOf.rows {S : Mk} {R : Nat → Nat → Lst} (h : SysOf S R) (x : Nat → Nat) : rowsB R S.n x S.m = true ↔ ∀ i, i < S.m → valL (S.R i 0) S.n x * valL (S.R i 1) S.n x = valL (S.R i 2) S.n x := by
  have e : ∀ i, i < S.m → (rowB R S.n x i = true ↔ valL (S.R i 0) S.n x * valL (S.R i 1) S.n x = valL (S.R i 2) S.n x) := fun i hi => by
    unfold rowB
    rw [(h.sum i hi 0 (by decide)).val, (h.sum i hi 1 (by decide)).val, (h.sum i hi 2 (by decide)).val]
    exact decide_eq_true_iff
  constructor
  · intro k i hi
    exact (e i hi).1 (rowsB_row k hi)
  · intro k
    exact rowsB_all fun i hi => (e i hi).2 (k i hi)
theorem lowN_all {x : Nat → Nat} : ∀ {n : Nat}, (∀ i, i < n → x i < 288230376287764481) → lowN_ x n = true
  | 0, _ => rfl
  | n + 1, h => by
    show (lowN_ x n && decide (x n < 288230376287764481)) = true
    rw [lowN_all fun i hi => h i (by omega), decide_eq_true (h n (by omega))]
    rfl
theorem values_of {n : Nat} {x : Nat → Nat} (h0 : x 0 = 1) (h : ∀ i, i < n → x i < 288230376287764481) : valuesB (n : Int) n x = true := by
  unfold valuesB
  rw [lowN_all h, decide_eq_true ⟨rfl, h0⟩]
  rfl
/-- What was made holds by its values just if all its rows do. -/
theorem SysOf.holds {S : Mk} {R : Nat → Nat → Lst} (h : SysOf S R) (g : S.Good) (hn : S.n ≤ 4096) (hm : S.m ≤ 4096) {bad at_ : Int} (hH : HoldIs (S.n : Int) (S.pub : Int) S.m R S.n S.v bad at_) : (bad = 0 ∧ at_ = -1) ↔ S.Hold := by
  rw [hH.nil_iff, h.rows]
  exact ⟨fun k => k.2.2, fun k => ⟨h.check g hn hm, values_of g.v0 fun i _ => g.lt i, k⟩⟩
/-- By other values: not, if a row doesn't hold. -/
theorem SysOf.not {S : Mk} {R : Nat → Nat → Lst} (h : SysOf S R) {x : Nat → Nat} {bad at_ : Int} (hH : HoldIs (S.n : Int) (S.pub : Int) S.m R S.n x bad at_) {i : Nat} (hi : i < S.m) (hne : valL (S.R i 0) S.n x * valL (S.R i 1) S.n x ≠ valL (S.R i 2) S.n x) : ¬ (bad = 0 ∧ at_ = -1) := by
  rw [hH.nil_iff, h.rows]
  exact fun k => hne (k.2.2 i hi)
end Go.Proofs.Ytdbolfmmlmoiaaa

namespace Go.Proofs.Ytdbolfmmlmoiaaa
open Go.RowKit Go.Proofs
set_option linter.unusedVariables false
set_option linter.unusedSimpArgs false

theorem own_below {w w1 : World} {B base n size : Nat} {e : TypeId} {v : Value} {xs : List Value} (h : w.ownsRow base e size v n xs) (hb : Below B w w1) (hl : ∀ k, v.ownBlock = some k → k < B) : w1.ownsRow base e size v n xs := by
  refine ⟨h.1, ?_⟩
  rcases h.2 with h0 | ⟨g, cap, cur, hv, h1, h2, h3⟩
  · exact .inl h0
  · exact .inr ⟨g, cap, cur, hv, h1, by rw [hb.block g (hl g (by rw [hv]; rfl))]; exact h2, h3⟩
end Go.Proofs.Ytdbolfmmlmoiaaa

namespace Go.Proofs.Ytdbolfmmlmoiaaa
open Go.RowKit Go.Proofs
set_option linter.unusedVariables false
set_option linter.unusedSimpArgs false

theorem rowInfo : ∃ i, Try.prog.info? 63 = some i ∧ i.size = 3 ∧ i.bytes = 72 ∧ i.zero = some (.agg #[.slice none 0 0, .slice none 0 0, .slice none 0 0]) := by
  have h1 : (Try.prog.info? 63).map (·.size) = some 3 := by kernel_rfl
  have h2 : (Try.prog.info? 63).map (·.bytes) = some 72 := by kernel_rfl
  have h3 : (Try.prog.info? 63).bind (·.zero) = some (.agg #[.slice none 0 0, .slice none 0 0, .slice none 0 0]) := by kernel_rfl
  cases hi : Try.prog.info? 63 with
  | none => rw [hi] at h1; cases h1
  | some i =>
    rw [hi] at h1 h2 h3
    exact ⟨i, rfl, Option.some.inj h1, Option.some.inj h2, h3⟩
/-- The cells of n rows. -/
def rals (R : Nat → Nat → Lst) : Nat → List Value
  | 0 => []
  | n + 1 => rals R n ++ [(R n 0).val, (R n 1).val, (R n 2).val]
theorem rals_length (R : Nat → Nat → Lst) : ∀ n, (rals R n).length = n * 3
  | 0 => rfl
  | n + 1 => by
    show (rals R n ++ _).length = _
    rw [List.length_append, rals_length R n]
    show n * 3 + 3 = _
    omega
theorem rals_get (R : Nat → Nat → Lst) {i j : Nat} (hj : j < 3) : ∀ {n : Nat}, i < n → (rals R n)[i * 3 + j]? = some (R i j).val
  | n + 1, hi => by
    show (rals R n ++ [(R n 0).val, (R n 1).val, (R n 2).val])[i * 3 + j]? = _
    rcases Nat.lt_or_ge i n with h | h
    · rw [List.getElem?_append_left (by rw [rals_length]; omega)]
      exact rals_get R hj h
    · obtain rfl : i = n := by omega
      rw [List.getElem?_append_right (by rw [rals_length]; omega), rals_length]
      obtain rfl | rfl | rfl : j = 0 ∨ j = 1 ∨ j = 2 := by omega
      · rw [show i * 3 + 0 - i * 3 = 0 by omega]; rfl
      · rw [show i * 3 + 1 - i * 3 = 1 by omega]; rfl
      · rw [show i * 3 + 2 - i * 3 = 2 by omega]; rfl
/-- A slice of one's own of n rows, none of it below base. -/
def OwnR (w : World) (base : Nat) (v : Value) (n : Nat) (R : Nat → Nat → Lst) : Prop := w.ownsRow base 63 3 v n (rals R n)
theorem OwnR.nil (w : World) (base : Nat) (R : Nat → Nat → Lst) : OwnR w base (.slice none 0 0) 0 R := World.ownsRow_nil w base _ 3
theorem OwnR.lt {w : World} {base : Nat} {v : Value} {n : Nat} {R : Nat → Nat → Lst} (h : OwnR w base v n R) : ∀ k, v.ownBlock = some k → base ≤ k ∧ k < w.heap.size := World.ownsRow.lt h
theorem OwnR.below {w w1 : World} {B base : Nat} {v : Value} {n : Nat} {R : Nat → Nat → Lst} (h : OwnR w base v n R) (hb : Below B w w1) (hl : ∀ k, v.ownBlock = some k → k < B) : OwnR w1 base v n R := own_below h hb hl
theorem OwnR.on {w w1 : World} {base : Nat} {v : Value} {n : Nat} {R : Nat → Nat → Lst} (h : OwnR w base v n R) (hb : Below w.heap.size w w1) : OwnR w1 base v n R := h.below hb fun k hk => (h.lt k hk).2
/-- It is a slice of rows, if its lists lie in memory. -/
theorem OwnR.rows {w : World} {base : Nat} {v : Value} {n : Nat} {R : Nat → Nat → Lst} (h : OwnR w base v n R) (hA : ∀ i, i < n → ∀ j, j < 3 → (R i j).At w.heap.size w) : ∃ a c, v = .slice a n c ∧ n ≤ c ∧ c ≤ maxLen ∧ RowsAt w.heap.size w a n R := by
  rcases h.2 with ⟨rfl, rfl⟩ | ⟨g, cap, cur, rfl, h1, h2, h3, h4, h5, h6⟩
  · exact ⟨none, 0, rfl, by omega, by omega, Or.inl rfl⟩
  · have hlt : g < w.heap.size := (h.lt g rfl).2
    refine ⟨_, cap, rfl, h3, h4, Or.inr ⟨g, 0, rfl, hlt, fun i hi j hj => ?_, hA⟩⟩
    have := World.ownsRow.cells h (g := g) rfl (i * 3 + j) _ (rals_get R hj hi)
    rw [show (⟨g, 0, none⟩ : Addr).add (i * 3 + j) = ⟨g, 0 + (i * 3 + j), none⟩ from by unfold Addr.add; split <;> simp_all] at this
    rw [Nat.add_assoc]
    exact this
theorem OwnR.form {w : World} {base : Nat} {v : Value} {n : Nat} {R : Nat → Nat → Lst} (h : OwnR w base v n R) (hn : 0 < n) : ∃ g c, v = .slice (some ⟨g, 0, none⟩) n c := by
  rcases h.2 with ⟨_, h0⟩ | ⟨g, cap, cur, hv, _⟩
  · omega
  · exact ⟨g, cap, hv⟩
/-- One row behind a slice of one's own. -/
theorem run_app1R (w : World) (ty : TypeId) (base : Nat) (v : Value) (n : Nat) (R : Nat → Nat → Lst) (hown : OwnR w base v n R) (g : Nat)
   (h0 : w.cell? ⟨g, 0, none⟩ = some (R n 0).val) (h1 : w.cell? ⟨g, 1, none⟩ = some (R n 1).val) (h2 : w.cell? ⟨g, 2, none⟩ = some (R n 2).val) (hn : n ≤ 1000000) (hbase : base ≤ w.heap.size) :
    ∃ v' w', (Builtin.append_ #[27, 27] ty #[v, .slice (some ⟨g, 0, none⟩) 1 1]).run Try.prog w = .ok v' w' ∧ OwnR w' base v' (n + 1) R ∧ w.grownBy w' v.ownBlock := by
  obtain ⟨i0, hi, hz1, hz2, hz0⟩ := rowInfo
  obtain ⟨v', w', hr, h4, h5, h6⟩ := run_append_own (P := Try.prog) w base 27 ty 63 i0 _ 3 72 Try.underlying27 hi hz0 hz1 hz2 rfl (by decide) v n _ hown ⟨g, 0, none⟩ 1 1 [(R n 0).val, (R n 1).val, (R n 2).val] rfl
    (fun j u h => by
      match j with
      | 0 => simp at h; subst h; exact h0
      | 1 => simp at h; subst h; exact h1
      | 2 => simp at h; subst h; exact h2
      | j + 3 => simp at h) (by simp [Lst.val, Value.oneCell']) (by unfold maxLen; omega) (by omega) hbase
  exact ⟨v', w', hr, h4, h5⟩
theorem wp_app1R {o : Oper} {a : Act} {w : World} {K : Act → World → Prop} {Q : Exit → Act → World → Prop} (s x : Operand)
    (ho : o.op = .call { callee := .builtin .append, args := #[s, x], argTypes := #[27, 27] }) (base : Nat) (v : Value) (n : Nat) (R : Nat → Nat → Lst) (hs : a.eval s = v) (hown : OwnR w base v n R) (g : Nat) (hx : a.eval x = .slice (some ⟨g, 0, none⟩) 1 1)
    (h0 : w.cell? ⟨g, 0, none⟩ = some (R n 0).val) (h1 : w.cell? ⟨g, 1, none⟩ = some (R n 1).val) (h2 : w.cell? ⟨g, 2, none⟩ = some (R n 2).val) (hn : n ≤ 1000000) (hbase : base ≤ w.heap.size)
    (h : ∀ v' w', OwnR w' base v' (n + 1) R → w.grownBy w' v.ownBlock → K (a.put o.dst v') w') : o.wp Try.prog a w K Q := by
  obtain ⟨v', w', hr, h3, h4⟩ := run_app1R w o.type base v n R hown g h0 h1 h2 hn hbase
  unfold Oper.wp execOp
  simp only [ho, resolve, invoke, builtin, Sem.run_bind, Sem.run_pure, Result.andThen_ok, List.map_toArray, List.map_cons, List.map_nil, hs, hx, hr]
  exact h v' w' h3 h4
end Go.Proofs.Ytdbolfmmlmoiaaa

namespace Go.Proofs.Ytdbolfmmlmoiaaa
open Go.RowKit Go.Proofs
set_option linter.unusedVariables false
set_option linter.unusedSimpArgs false

theorem trmInfo : ∃ i, Try.prog.info? 61 = some i ∧ i.size = 2 ∧ i.bytes = 16 ∧ i.zero = some (.agg #[.int .i64 0, .int .u64 0]) := by
  have h1 : (Try.prog.info? 61).map (·.size) = some 2 := by kernel_rfl
  have h2 : (Try.prog.info? 61).map (·.bytes) = some 16 := by kernel_rfl
  have h3 : (Try.prog.info? 61).bind (·.zero) = some (.agg #[.int .i64 0, .int .u64 0]) := by kernel_rfl
  cases hi : Try.prog.info? 61 with
  | none => rw [hi] at h1; cases h1
  | some i =>
    rw [hi] at h1 h2 h3
    exact ⟨i, rfl, Option.some.inj h1, Option.some.inj h2, h3⟩
/-- The cells of n terms. -/
def tals (V : Nat → Int) (K : Nat → Nat) : Nat → List Value
  | 0 => []
  | n + 1 => tals V K n ++ [.int .i64 (V n), .int .u64 (K n : Nat)]
theorem tals_length (V : Nat → Int) (K : Nat → Nat) : ∀ n, (tals V K n).length = n * 2
  | 0 => rfl
  | n + 1 => by
    show (tals V K n ++ _).length = _
    rw [List.length_append, tals_length V K n]
    show n * 2 + 2 = _
    omega
theorem tals_get (V : Nat → Int) (K : Nat → Nat) {i : Nat} : ∀ {n : Nat}, i < n → (tals V K n)[i * 2]? = some (.int .i64 (V i)) ∧ (tals V K n)[i * 2 + 1]? = some (.int .u64 (K i : Nat))
  | n + 1, hi => by
    show (tals V K n ++ [_, _])[i * 2]? = _ ∧ (tals V K n ++ [_, _])[i * 2 + 1]? = _
    have hl := tals_length V K n
    rcases Nat.lt_or_ge i n with h | h
    · rw [List.getElem?_append_left (by omega), List.getElem?_append_left (by omega)]
      exact tals_get V K h
    · obtain rfl : i = n := by omega
      rw [List.getElem?_append_right (by omega), List.getElem?_append_right (by omega), hl]
      rw [show i * 2 - i * 2 = 0 by omega, show i * 2 + 1 - i * 2 = 1 by omega]
      exact ⟨rfl, rfl⟩
theorem tals_one (V : Nat → Int) (K : Nat → Nat) : ∀ n, ∀ u ∈ tals V K n, u.oneCell' = true
  | 0, u, hu => by cases hu
  | n + 1, u, hu => by
    rcases List.mem_append.1 hu with h | h
    · exact tals_one V K n u h
    · simp at h
      rcases h with rfl | rfl <;> rfl
theorem tals_congr {V V' : Nat → Int} {K K' : Nat → Nat} : ∀ {n : Nat}, (∀ i, i < n → V i = V' i ∧ K i = K' i) → tals V K n = tals V' K' n
  | 0, _ => rfl
  | n + 1, h => by
    show tals V K n ++ [_, _] = tals V' K' n ++ [_, _]
    rw [tals_congr fun i hi => h i (by omega), (h n (by omega)).1, (h n (by omega)).2]
theorem addr_add (b off j : Nat) : (⟨b, off, none⟩ : Addr).add j = ⟨b, off + j, none⟩ := by unfold Addr.add; split <;> simp_all
theorem tals_lie {w : World} {b off n : Nat} {V : Nat → Int} {K : Nat → Nat} (t : TrmsIn w b off n V K) (j : Nat) (u : Value) (h : (tals V K n)[j]? = some u) : w.cell? ((⟨b, off, none⟩ : Addr).add j) = some u := by
  have hj : j < n * 2 := by rw [← tals_length V K n]; exact (List.getElem?_eq_some_iff.1 h).1
  rw [addr_add]
  have hi : j / 2 < n := by omega
  have g := tals_get V K hi
  rcases (show j % 2 = 0 ∨ j % 2 = 1 by omega) with hm | hm
  · have e : j / 2 * 2 = j := by omega
    have c := t.c0 (j / 2) hi
    rw [e] at g c
    rw [g.1] at h
    rw [c]; exact h
  · have e : j / 2 * 2 + 1 = j := by omega
    have c := t.c1 (j / 2) hi
    rw [Nat.add_assoc, e] at c
    rw [e] at g
    rw [g.2] at h
    rw [c]; exact h

/-- A list of one's own of n terms, none of it below base. -/
def OwnT (w : World) (base : Nat) (v : Value) (n : Nat) (V : Nat → Int) (K : Nat → Nat) : Prop := w.ownsRow base 61 2 v n (tals V K n)
theorem OwnT.nil (w : World) (base : Nat) (V : Nat → Int) (K : Nat → Nat) : OwnT w base (.slice none 0 0) 0 V K := World.ownsRow_nil w base _ 2
theorem OwnT.lt {w : World} {base : Nat} {v : Value} {n : Nat} {V : Nat → Int} {K : Nat → Nat} (h : OwnT w base v n V K) : ∀ k, v.ownBlock = some k → base ≤ k ∧ k < w.heap.size := World.ownsRow.lt h
theorem OwnT.below {w w1 : World} {B base : Nat} {v : Value} {n : Nat} {V : Nat → Int} {K : Nat → Nat} (h : OwnT w base v n V K) (hb : Below B w w1) (hl : ∀ k, v.ownBlock = some k → k < B) : OwnT w1 base v n V K := own_below h hb hl
theorem OwnT.on {w w1 : World} {base : Nat} {v : Value} {n : Nat} {V : Nat → Int} {K : Nat → Nat} (h : OwnT w base v n V K) (hb : Below w.heap.size w w1) : OwnT w1 base v n V K := h.below hb fun k hk => (h.lt k hk).2
theorem OwnT.congr {w : World} {base : Nat} {v : Value} {n : Nat} {V V' : Nat → Int} {K K' : Nat → Nat} (h : OwnT w base v n V K) (e : ∀ i, i < n → V i = V' i ∧ K i = K' i) : OwnT w base v n V' K' := by
  unfold OwnT
  rw [← tals_congr e]
  exact h
theorem OwnT.trms {w : World} {base : Nat} {v : Value} {n : Nat} {V : Nat → Int} {K : Nat → Nat} (h : OwnT w base v n V K) : ∃ a c, v = .slice a n c ∧ n ≤ c ∧ c ≤ maxLen ∧ TrmsAt w.heap.size w a n V K := by
  rcases h.2 with ⟨rfl, rfl⟩ | ⟨g, cap, cur, rfl, h1, h2, h3, h4, h5, h6⟩
  · exact ⟨none, 0, rfl, by omega, by omega, Or.inl rfl⟩
  · have hlt : g < w.heap.size := (h.lt g rfl).2
    refine ⟨_, cap, rfl, h3, h4, Or.inr ⟨g, 0, rfl, hlt, hlt, fun i hi => ?_, fun i hi => ?_⟩⟩
    · have := World.ownsRow.cells h (g := g) rfl (i * 2) _ (tals_get V K hi).1
      rw [addr_add] at this
      exact this
    · have := World.ownsRow.cells h (g := g) rfl (i * 2 + 1) _ (tals_get V K hi).2
      rw [addr_add] at this
      rw [Nat.add_assoc]
      exact this
/-- One term behind a list of one's own. -/
theorem run_app1T (w : World) (ty : TypeId) (base : Nat) (v : Value) (n : Nat) (V : Nat → Int) (K : Nat → Nat) (hown : OwnT w base v n V K) (g : Nat)
   (h0 : w.cell? ⟨g, 0, none⟩ = some (.int .i64 (V n))) (h1 : w.cell? ⟨g, 1, none⟩ = some (.int .u64 (K n : Nat))) (hn : n ≤ 1000000) (hbase : base ≤ w.heap.size) :
    ∃ v' w', (Builtin.append_ #[35, 35] ty #[v, .slice (some ⟨g, 0, none⟩) 1 1]).run Try.prog w = .ok v' w' ∧ OwnT w' base v' (n + 1) V K ∧ w.grownBy w' v.ownBlock := by
  obtain ⟨i0, hi, hz1, hz2, hz0⟩ := trmInfo
  obtain ⟨v', w', hr, h4, h5, h6⟩ := run_append_own (P := Try.prog) w base 35 ty 61 i0 _ 2 16 Try.underlying35 hi hz0 hz1 hz2 rfl (by decide) v n _ hown ⟨g, 0, none⟩ 1 1 [.int .i64 (V n), .int .u64 (K n : Nat)] rfl
    (fun j u h => by
      match j with
      | 0 => simp at h; subst h; exact h0
      | 1 => simp at h; subst h; exact h1
      | j + 2 => simp at h) (by simp [Value.oneCell']) (by unfold maxLen; omega) (by omega) hbase
  exact ⟨v', w', hr, h4, h5⟩
theorem OwnT.grown {w w' : World} {base : Nat} {v : Value} {n : Nat} {V : Nat → Int} {K : Nat → Nat} (hown : OwnT w base v n V K) (hg : w.grownBy w' v.ownBlock) (hbase : base ≤ w.heap.size) : Below base w w' :=
  (Below.refl base w).grown hg hbase (fun k hk => (hown.lt k hk).1)
/-- In a region that draws, and where operations go in order. -/
theorem wp_app1T {o : Oper} {a : Act} {w : World} {K' : Act → World → Prop} {Q : Exit → Act → World → Prop} (s x : Operand)
    (ho : o.op = .call { callee := .builtin .append, args := #[s, x], argTypes := #[35, 35] }) (base : Nat) (v : Value) (n : Nat) (V : Nat → Int) (K : Nat → Nat) (hs : a.eval s = v) (hown : OwnT w base v n V K) (g : Nat) (hx : a.eval x = .slice (some ⟨g, 0, none⟩) 1 1)
    (h0 : w.cell? ⟨g, 0, none⟩ = some (.int .i64 (V n))) (h1 : w.cell? ⟨g, 1, none⟩ = some (.int .u64 (K n : Nat))) (hn : n ≤ 1000000) (hbase : base ≤ w.heap.size)
    (h : ∀ v' w', OwnT w' base v' (n + 1) V K → Below base w w' → K' (a.put o.dst v') w') : o.wp Try.prog a w K' Q := by
  obtain ⟨v', w', hr, h3, h4⟩ := run_app1T w o.type base v n V K hown g h0 h1 hn hbase
  unfold Oper.wp execOp
  simp only [ho, resolve, invoke, builtin, Sem.run_bind, Sem.run_pure, Result.andThen_ok, List.map_toArray, List.map_cons, List.map_nil, hs, hx, hr]
  exact h v' w' h3 (hown.grown h4 hbase)
theorem wpList_app1T {ops : Array Oper} {rest : List Oper} {o : Oper} {a : Act} {w : World} {Q : Exit → Act → World → Prop} (hgd : o.guard = none) (s x : Operand)
    (ho : o.op = .call { callee := .builtin .append, args := #[s, x], argTypes := #[35, 35] }) (base : Nat) (v : Value) (n : Nat) (V : Nat → Int) (K : Nat → Nat) (hs : a.eval s = v) (hown : OwnT w base v n V K) (g : Nat) (hx : a.eval x = .slice (some ⟨g, 0, none⟩) 1 1)
    (h0 : w.cell? ⟨g, 0, none⟩ = some (.int .i64 (V n))) (h1 : w.cell? ⟨g, 1, none⟩ = some (.int .u64 (K n : Nat))) (hn : n ≤ 1000000) (hbase : base ≤ w.heap.size)
    (h : ∀ v' w', OwnT w' base v' (n + 1) V K → Below base w w' → wpList Try.prog ops Q rest (a.put o.dst v') w') : wpList Try.prog ops Q (o :: rest) a w := by
  refine wpList_plain hgd fun K hK => ?_
  exact wp_app1T s x ho base v n V _ hs hown g hx h0 h1 hn hbase fun v' w' h1 h2 => hK _ _ (h v' w' h1 h2)
/-- append of a list onto an empty one: a copy of one's own. -/
theorem wpList_copyT {ops : Array Oper} {rest : List Oper} {o : Oper} {a : Act} {w : World} {Q : Exit → Act → World → Prop} (hgd : o.guard = none) (s x : Operand)
    (ho : o.op = .call { callee := .builtin .append, args := #[s, x], argTypes := #[35, 35] }) (base b0 : Nat) (hs : a.eval s = .slice (some ⟨b0, 0, none⟩) 0 0)
    (hown0 : w.ownsRow base 61 2 (.slice (some ⟨b0, 0, none⟩) 0 0) 0 []) (hbase : base ≤ w.heap.size) (B : Nat) (ad : Option Addr) (n c : Nat) (V : Nat → Int) (K : Nat → Nat) (hx : a.eval x = .slice ad n c) (hS : TrmsAt B w ad n V K) (hn : n ≤ 1000000)
    (h : ∀ g cap w', OwnT w' base (.slice (some ⟨g, 0, none⟩) n cap) n V K → Below base w w' → wpList Try.prog ops Q rest (a.put o.dst (.slice (some ⟨g, 0, none⟩) n cap)) w') : wpList Try.prog ops Q (o :: rest) a w := by
  obtain ⟨i0, hi, hz1, hz2, hz0⟩ := trmInfo
  by_cases h0 : n = 0
  · subst h0
    have src : Go.Src Try.prog i0.size 35 (.slice ad 0 c) 0 [] w := by
      cases ad with
      | none => exact Go.Src.ofNil w Try.underlying35 c
      | some a => exact Go.Src.ofSlice w Try.underlying35 a 0 c [] (by simp) (fun j u h => by simp at h) (fun u h => by cases h)
    have hr := run_append_room_src w 35 35 o.type 61 i0 Try.underlying35 hi b0 0 0 0 (.slice ad 0 c) 0 _ src (by omega) (fun j h => by simp at h) (fun j h => by simp at h)
    refine wpList_plain hgd fun K' hK => ?_
    unfold Oper.wp execOp
    simp only [ho, resolve, invoke, builtin, Sem.run_bind, Sem.run_pure, Result.andThen_ok, List.map_toArray, List.map_cons, List.map_nil, hs, hx, hr]
    exact hK _ _ (h b0 0 w hown0 (Below.refl _ _))
  · rcases hS with h1 | ⟨b, off, rfl, hl, hB⟩
    · exact absurd h1 h0
    refine wpList_append_lies _ hgd s x 35 ho base 61 i0 _ 2 16 Try.underlying35 hi hz0 hz1 hz2 rfl (by decide) _ 0 [] hs hown0 ⟨b, off, none⟩ n c (tals V K n) hx (by rw [tals_length]) (tals_lie hB) (tals_one V K n) (by omega) (by unfold maxLen; omega) (by omega) hbase w.heap.size rfl ?_
    intro g cap w' hown hg _ _
    rw [Nat.zero_add, List.nil_append] at hown
    rw [Nat.zero_add]
    exact h g cap w' hown ((Below.refl base w).grown hg hbase (fun k hk => (hown0.lt k hk).1))

/-- A list of one's own, whatever it holds. -/
def OwnX (w : World) (base : Nat) (v : Value) (n : Nat) : Prop := ∃ xs, w.ownsRow base 61 2 v n xs
theorem OwnT.any {w : World} {base : Nat} {v : Value} {n : Nat} {V : Nat → Int} {K : Nat → Nat} (h : OwnT w base v n V K) : OwnX w base v n := ⟨_, h⟩
theorem OwnX.on {w w1 : World} {base : Nat} {v : Value} {n : Nat} (h : OwnX w base v n) (hb : Below w.heap.size w w1) : OwnX w1 base v n := by
  obtain ⟨xs, h⟩ := h
  exact ⟨xs, own_below h hb fun k hk => (World.ownsRow.lt h k hk).2⟩
/-- A store into it: what stands there, that it may be written, what holds behind the store. -/
theorem OwnX.form {w : World} {base : Nat} {v : Value} {n : Nat} (h : OwnX w base v n) (hn : 0 < n) : ∃ g cap, v = .slice (some ⟨g, 0, none⟩) n cap ∧ base ≤ g ∧ g < w.heap.size := by
  obtain ⟨xs, h⟩ := h
  rcases h.2 with ⟨_, h0⟩ | ⟨g, cap, cur, rfl, hb, _⟩
  · omega
  · exact ⟨g, cap, rfl, hb, (World.ownsRow.lt h g rfl).2⟩
theorem OwnX.cells {w : World} {base g n cap : Nat} (h : OwnX w base (.slice (some ⟨g, 0, none⟩) n cap) n) (i : Nat) (hi : i < n) :
    (∃ x y, w.cell? ⟨g, 0 + i * 2, none⟩ = some x ∧ w.cell? ⟨g, 0 + i * 2 + 1, none⟩ = some y) ∧ w.frozen? ⟨g, 0 + i * 2, none⟩ = false ∧ w.frozen? ⟨g, 0 + i * 2 + 1, none⟩ = false ∧
      ∀ x y, OwnX ((w.setCell ⟨g, 0 + i * 2, none⟩ x).setCell ⟨g, 0 + i * 2 + 1, none⟩ y) base (.slice (some ⟨g, 0, none⟩) n cap) n := by
  obtain ⟨xs, h⟩ := h
  have hl : xs.length = n * 2 := h.1
  refine ⟨⟨xs[i * 2]'(by omega), xs[i * 2 + 1]'(by omega), ?_, ?_⟩, ?_, ?_, fun x y => ?_⟩
  · have := World.ownsRow.cells h (g := g) rfl (i * 2) _ (List.getElem?_eq_getElem (by omega))
    rw [addr_add] at this
    exact this
  · have := World.ownsRow.cells h (g := g) rfl (i * 2 + 1) _ (List.getElem?_eq_getElem (by omega))
    rw [addr_add] at this
    rw [Nat.add_assoc]
    exact this
  · rw [Nat.zero_add]; exact World.ownsRow.frozenAt h _
  · rw [Nat.zero_add]; exact World.ownsRow.frozenAt h _
  · rw [Nat.zero_add]
    have h1 := (World.ownsRow.stored h (i * 2) x).1
    exact ⟨_, (World.ownsRow.stored h1 (i * 2 + 1) y).1⟩
end Go.Proofs.Ytdbolfmmlmoiaaa

namespace Go.Proofs.Ytdbolfmmlmoiaaa
open Go.ChangeShapes Go.WideShapes Go.ChangeAt Go.RowKit
set_option linter.unusedVariables false
set_option linter.unusedSimpArgs false

theorem own : ownKnob Try.prog.godebug = none := by kernel_rfl
theorem laidOut : laidOutB Try.prog = true := by kernel_rfl

/-- A slice of integers that came in: nil; or it leads to a row of 'cap' cells, the numbers zs (the first 'len' are its elements), each fitting its kind. -/
def IsRow (k : IntKind) (w : World) (a : Option Addr) (len cap : Nat) (zs : List Int) : Prop :=
  (a = none ∧ len = 0 ∧ cap = 0 ∧ zs = []) ∨
  ∃ x, a = some x ∧ len ≤ cap ∧ cap ≤ maxLen ∧ zs.length = cap ∧ (∀ i, i < zs.length → w.cell? (x.add i) = some (.int k (zs.getD i 0))) ∧ ∀ n ∈ zs, (Lit.int k n).wf = true

theorem isRow_of {H : Type} {enc : TypeId × Value → H} {k : IntKind} {t e : TypeId} {W : World} {a : Option Addr} {len cap : Nat} {d : DataW H} {p : List MemPlace} (ht : Try.prog.underlying t = some (.slice e)) (he : Try.prog.underlying e = some (.int k)) (hc : Try.prog.cellsOf e = 1)
    (h : DataW.Trod enc Try.prog W 0 (fun _ => true) true t (.slice a len cap) d p) : ∃ zs, IsRow k W a len cap zs := by
  obtain ⟨fuel, hf⟩ := h
  rcases open_ints ht he hc hf with ⟨hcs, _⟩ | ⟨x, l, c, zs, hcs, _, hl, hm, hz, _, hcell, hwz⟩
  · simp [Value.cells] at hcs
    obtain ⟨rfl, rfl, rfl⟩ := hcs
    exact ⟨[], .inl ⟨rfl, rfl, rfl, rfl⟩⟩
  · simp [Value.cells] at hcs
    obtain ⟨rfl, rfl, rfl⟩ := hcs
    exact ⟨zs, .inr ⟨_, rfl, hl, hm, by simpa using hz, hcell, hwz⟩⟩

/-- The same, with the form's own reach. -/
theorem isRow_sized {H : Type} {enc : TypeId × Value → H} {k : IntKind} {t e : TypeId} {W : World} {a : Option Addr} {len cap B j : Nat} {d : DataW H} {p : List MemPlace} {ts : List TypeId} {ds : List (DataW H)}
    (hsz : (DataW.weightsEach Try.prog ts ds).all (· ≤ reachBytes) = true) (hj : ts[j]? = some t) (hd : ds[j]? = some d) (ht : Try.prog.underlying t = some (.slice e)) (he : Try.prog.underlying e = some (.int k)) (hc : Try.prog.cellsOf e = 1) (hb : Try.prog.bytesOf e = B)
    (h : DataW.Trod enc Try.prog W 0 (fun _ => true) true t (.slice a len cap) d p) : ∃ zs, IsRow k W a len cap zs ∧ cap * B ≤ 140737488351232 := by
  obtain ⟨fuel, hf⟩ := h
  rcases open_ints ht he hc hf with ⟨hcs, _⟩ | ⟨x, l, c, zs, hcs, _, hl, hm, hz, hx, hcell, hwz⟩
  · simp [Value.cells] at hcs
    obtain ⟨rfl, rfl, rfl⟩ := hcs
    exact ⟨[], .inl ⟨rfl, rfl, rfl, rfl⟩, by omega⟩
  · simp [Value.cells] at hcs
    obtain ⟨rfl, rfl, rfl⟩ := hcs
    refine ⟨zs, .inr ⟨_, rfl, hl, hm, by simpa using hz, hcell, hwz⟩, ?_⟩
    simp only [Prod.mk.injEq] at hx
    rw [hx.1] at hd
    have hs := sized_slice hsz hj hd ht
    have hz' : zs.length = cap := by simpa using hz
    have e1 : (lits k (zs.take len) : List (DataW H)).length + (lits k (zs.drop len) : List (DataW H)).length = cap := by
      simp only [lits, List.length_map, List.length_take, List.length_drop]
      omega
    rw [e1, hb] at hs
    exact hs

end Go.Proofs.Ytdbolfmmlmoiaaa

namespace Go.Proofs.Ytdbolfmmlmoiaaa
open Go.RowKit Go.Proofs
set_option linter.unusedVariables false
set_option linter.unusedSimpArgs false

theorem add_none (b off i : Nat) : (⟨b, off, none⟩ : Addr).add i = ⟨b, off + i, none⟩ := by unfold Addr.add; split <;> simp_all
/-- n words, from a place on. -/
structure Wds (w : World) (b off n : Nat) (z : Nat → Nat) : Prop where
  lt : b < w.heap.size
  at_ : ∀ i, i < n → w.cell? ⟨b, off + i, none⟩ = some (.int .u64 (z i : Nat))
theorem Wds.below {w w1 : World} {B b off n : Nat} {z : Nat → Nat} (t : Wds w b off n z) (hb : Below B w w1) (h : b < B) : Wds w1 b off n z :=
  ⟨Nat.lt_of_lt_of_le t.lt hb.size, fun i hi => by rw [(bcell hb).1 b _ h]; exact t.at_ i hi⟩
theorem Wds.via {w w1 : World} {B b off n : Nat} {z : Nat → Nat} (hb : Below B w w1) (t : Wds w b off n z) (h : b < B) : Wds w1 b off n z := t.below hb h
theorem Wds.drew {w : World} {b off n : Nat} {z : Nat → Nat} (t : Wds w b off n z) : Wds w.drew b off n z := ⟨t.lt, t.at_⟩
theorem Wds.drewN {w : World} {b off n : Nat} {z : Nat → Nat} (t : Wds w b off n z) (k : Nat) : Wds (w.drewN k) b off n z := ⟨t.lt, t.at_⟩
theorem Wds.alloc {w : World} {b off n : Nat} {z : Nat → Nat} (t : Wds w b off n z) (o : Obj) : Wds (w.alloc o) b off n z := t.below ((Below.refl w.heap.size w).alloc (Nat.le_refl _) o) t.lt
theorem Wds.far {w : World} {b off n b' : Nat} {z : Nat → Nat} (t : Wds w b off n z) (h : b' ≠ b) (o : Nat) (v : Value) : Wds (w.setCell ⟨b', o, none⟩ v) b off n z :=
  ⟨by simp [t.lt], fun i hi => by rw [World.cell?_setCell_other _ _ _ _ (by simp [h]), t.at_ i hi]⟩
theorem Wds.less {w : World} {b off n m : Nat} {z : Nat → Nat} (t : Wds w b off n z) (h : m ≤ n) : Wds w b off m z := ⟨t.lt, fun i hi => t.at_ i (by omega)⟩
theorem Wds.more {w : World} {b off n : Nat} {z : Nat → Nat} (t : Wds w b off n z) (k m : Nat) (h : k + m ≤ n) : Wds w b (off + k) m (fun i => z (k + i)) :=
  ⟨t.lt, fun i hi => by rw [Nat.add_assoc]; exact t.at_ (k + i) (by omega)⟩
theorem Wds.congr {w : World} {b off n : Nat} {y z : Nat → Nat} (t : Wds w b off n y) (h : ∀ i, i < n → y i = z i) : Wds w b off n z := ⟨t.lt, fun i hi => by rw [← h i hi]; exact t.at_ i hi⟩
theorem Wds.one {w : World} {n : Nat} {t : TypeId} {b : Nat} (h : b = w.heap.size) : Wds (w.alloc (.cells #[.int .u64 (n : Nat)] t)) b 0 1 (fun _ => n) := by
  subst h
  exact ⟨by simp, fun i hi => by obtain rfl : i = 0 := by omega
                                 simp [go_sem]⟩

/-- A slice of n words that lies below block B, or has none. -/
def SrcW (B : Nat) (w : World) (a : Option Addr) (n : Nat) (z : Nat → Nat) : Prop := n = 0 ∨ ∃ b off, a = some ⟨b, off, none⟩ ∧ b < B ∧ Wds w b off n z
theorem SrcW.below {B : Nat} {w w1 : World} {a : Option Addr} {n : Nat} {z : Nat → Nat} (h : SrcW B w a n z) (hb : Below B w w1) : SrcW B w1 a n z := by
  rcases h with h | ⟨b, off, e, hl, h⟩
  · exact Or.inl h
  · exact Or.inr ⟨b, off, e, hl, h.below hb hl⟩
theorem SrcW.mono {B C : Nat} {w : World} {a : Option Addr} {n : Nat} {z : Nat → Nat} (h : SrcW B w a n z) (hc : B ≤ C) : SrcW C w a n z := by
  rcases h with h | ⟨b, off, e, hl, h⟩
  · exact Or.inl h
  · exact Or.inr ⟨b, off, e, by omega, h⟩
theorem SrcW.to {B : Nat} {w w1 : World} {a : Option Addr} {n : Nat} {z : Nat → Nat} (h : SrcW B w a n z) (hb : Below B w w1) (hB : B ≤ w.heap.size) : SrcW w1.heap.size w1 a n z := (h.below hb).mono (Nat.le_trans hB hb.size)
theorem SrcW.of {w : World} {b off n : Nat} {z : Nat → Nat} (h : Wds w b off n z) : SrcW w.heap.size w (some ⟨b, off, none⟩) n z := Or.inr ⟨b, off, rfl, h.lt, h⟩
theorem SrcW.nil (B : Nat) (w : World) (a : Option Addr) (z : Nat → Nat) : SrcW B w a 0 z := Or.inl rfl
theorem SrcW.less {B : Nat} {w : World} {a : Option Addr} {n m : Nat} {z : Nat → Nat} (h : SrcW B w a n z) (hm : m ≤ n) : SrcW B w a m z := by
  rcases h with h | ⟨b, off, e, hl, h⟩
  · exact Or.inl (by omega)
  · exact Or.inr ⟨b, off, e, hl, h.less hm⟩
theorem SrcW.congr {B : Nat} {w : World} {a : Option Addr} {n : Nat} {y z : Nat → Nat} (h : SrcW B w a n y) (e : ∀ i, i < n → y i = z i) : SrcW B w a n z := by
  rcases h with h | ⟨b, off, e', hl, h⟩
  · exact Or.inl h
  · exact Or.inr ⟨b, off, e', hl, h.congr e⟩

theorem wdInfo : ∃ i, Try.prog.info? 30 = some i ∧ i.size = 1 ∧ i.bytes = 8 ∧ i.zero = some (.int .u64 0) := by
  have h : (Try.prog.info? 30).map (fun i => (i.size, i.bytes, i.zero)) = some (1, 8, some (.int .u64 0)) := by kernel_rfl
  cases hi : Try.prog.info? 30 with
  | none => rw [hi] at h; cases h
  | some i =>
    rw [hi] at h
    simp only [Option.map_some, Option.some.injEq, Prod.mk.injEq] at h
    exact ⟨i, rfl, h.1, h.2.1, h.2.2⟩
/-- The values of words. -/
def wals (z : Nat → Nat) (n : Nat) : List Value := (List.range n).map fun i => .int .u64 (z i : Nat)
theorem wals_zero (z : Nat → Nat) : wals z 0 = [] := rfl
theorem wals_succ (z : Nat → Nat) (n : Nat) : wals z (n + 1) = wals z n ++ [.int .u64 (z n : Nat)] := by simp [wals, List.range_succ]
theorem wals_length (z : Nat → Nat) (n : Nat) : (wals z n).length = n := by simp [wals]
theorem wals_get (z : Nat → Nat) (n i : Nat) (h : i < n) : (wals z n)[i]? = some (.int .u64 (z i : Nat)) := by simp [wals, h]
theorem wals_one (z : Nat → Nat) (n : Nat) : ∀ u ∈ wals z n, u.oneCell' = true := by
  intro u hu
  simp only [wals, List.mem_map] at hu
  obtain ⟨i, _, rfl⟩ := hu
  rfl
theorem wals_congr (y z : Nat → Nat) (n : Nat) (h : ∀ i, i < n → y i = z i) : wals y n = wals z n := by
  induction n with
  | zero => rfl
  | succ n ih => rw [wals_succ, wals_succ, ih (fun i hi => h i (by omega)), h n (by omega)]
theorem wds_news {w : World} {b off n : Nat} {z : Nat → Nat} (h : Wds w b off n z) : ∀ j u, (wals z n)[j]? = some u → w.cell? ((⟨b, off, none⟩ : Addr).add j) = some u := by
  intro j u hu
  have hj : j < n := by rw [← wals_length z n]; exact (List.getElem?_eq_some_iff.1 hu).1
  rw [wals_get z n j hj] at hu
  cases hu
  rw [add_none]
  exact h.at_ j hj
theorem wds_of_row {w : World} {base n cap g : Nat} {z : Nat → Nat} (h : w.ownsRow base 30 1 (.slice (some ⟨g, 0, none⟩) n cap) n (wals z n)) : Wds w g 0 n z := by
  refine ⟨(h.lt g rfl).2, fun i hi => ?_⟩
  have := h.cells (g := g) rfl i _ (wals_get z n i hi)
  rw [add_none] at this
  exact this

/-- A slice of words that came in. -/
theorem srcW_of_isRow {w : World} {a : Option Addr} {len cap : Nat} {zs : List Int} (h : IsRow .u64 w a len cap zs) :
    ∃ z : Nat → Nat, len ≤ cap ∧ cap ≤ maxLen ∧ (∀ i, z i < 18446744073709551616) ∧ SrcW w.heap.size w a len z ∧ (a = none → len = 0 ∧ cap = 0) ∧ ∀ i, i < len → (z i : Int) = zs.getD i 0 := by
  rcases h with ⟨rfl, rfl, rfl, rfl⟩ | ⟨x, rfl, h1, h2, h3, hcell, hwz⟩
  · exact ⟨fun _ => 0, by omega, by omega, fun i => (by show 0 < _; decide), Or.inl rfl, fun _ => ⟨rfl, rfl⟩, fun i hi => by omega⟩
  · have hb : ∀ i, 0 ≤ zs.getD i 0 ∧ zs.getD i 0 < 18446744073709551616 := fun i => by
      rcases Nat.lt_or_ge i zs.length with hi | hi
      · have hm : zs.getD i 0 ∈ zs := by simp [List.getD, List.getElem?_eq_getElem hi]
        have := bounds_u64 (hwz _ hm)
        omega
      · simp [List.getD, List.getElem?_eq_none hi]
    refine ⟨fun i => (zs.getD i 0).toNat, h1, h2, fun i => (by have := hb i; show (zs.getD i 0).toNat < _; omega), ?_, (fun h => by cases h), fun i hi => (by have := hb i; show ((zs.getD i 0).toNat : Int) = _; omega)⟩
    by_cases hl : len = 0
    · exact Or.inl hl
    · obtain ⟨b, off, spot⟩ := x
      have hc := hcell 0 (by omega)
      have hspot : spot = none := by simpa [Addr.add] using World.cell?_spot hc
      subst hspot
      have hbl : b < w.heap.size := by have := World.block_lt_of_cell? _ _ hc; simpa [Addr.add] using this
      refine Or.inr ⟨b, off, rfl, hbl, hbl, fun i hi => ?_⟩
      have h := hcell i (by omega)
      rw [add_none] at h
      rw [h]
      exact congrArg (fun n => some (Value.int .u64 n)) (by have := hb i; show _ = ((zs.getD i 0).toNat : Int); omega)

/-- n words, others behind them. -/
def joinW (z : Nat → Nat) (n : Nat) (u : Nat → Nat) (j : Nat) : Nat := if j < n then z j else u (j - n)
theorem wals_joinW (z u : Nat → Nat) (n : Nat) : ∀ m, wals z n ++ wals u m = wals (joinW z n u) (n + m)
  | 0 => by rw [wals_zero, List.append_nil]; exact wals_congr _ _ _ fun i hi => by unfold joinW; rw [if_pos hi]
  | m + 1 => by
    rw [wals_succ, ← List.append_assoc, wals_joinW z u n m, ← Nat.add_assoc, wals_succ]
    have e : joinW z n u (n + m) = u m := by unfold joinW; rw [if_neg (by omega), Nat.add_sub_cancel_left]
    rw [e]
theorem srcOf {B : Nat} {w : World} {ad : Option Addr} {m c : Nat} {u : Nat → Nat} (h : SrcW B w ad m u) : ∃ i, Try.prog.info? 30 = some i ∧ i.size = 1 ∧ i.bytes = 8 ∧ i.zero = some (.int .u64 0) ∧ Go.Src Try.prog i.size 31 (.slice ad m c) m (wals u m) w := by
  obtain ⟨i0, hi, hz1, hz2, hz0⟩ := wdInfo
  refine ⟨i0, hi, hz1, hz2, hz0, ?_⟩
  rcases h with rfl | ⟨b, off, rfl, hl, h⟩
  · cases ad with
    | none => exact Go.Src.ofNil w Try.underlying31 c
    | some a => exact Go.Src.ofSlice w Try.underlying31 a 0 c [] (by simp) (fun j u h => by simp at h) (fun u h => by cases h)
  · exact Go.Src.ofSlice w Try.underlying31 _ m c _ (by rw [hz1]; simp [wals]) (wds_news h) (wals_one u m)

/-- append of words behind words that fill their room (or of none). -/
theorem run_joinW (w : World) (ty : TypeId) (g n : Nat) (z : Nat → Nat) (hz : Wds w g 0 n z) (B : Nat) (ad : Option Addr) (m c : Nat) (u : Nat → Nat) (hu : SrcW B w ad m u) (hn : n ≤ 1000000) (hm : m ≤ 1000000) :
    ∃ g' cap' w', (Builtin.append_ #[31, 31] ty #[.slice (some ⟨g, 0, none⟩) n n, .slice ad m c]).run Try.prog w = .ok (.slice (some ⟨g', 0, none⟩) (n + m) cap') w' ∧ n + m ≤ cap' ∧ Wds w' g' 0 (n + m) (joinW z n u) ∧ (g' = g ∨ g' = w.heap.size) ∧ Below w.heap.size w w' := by
  obtain ⟨i0, hi, hz1, hz2, hz0, src⟩ := srcOf (c := c) hu
  by_cases h0 : m = 0
  · subst h0
    have hr := run_append_room_src w 31 31 ty 30 i0 Try.underlying31 hi g 0 n n _ 0 _ src (by omega) (fun j h => by simp [wals] at h) (fun j h => by simp [wals] at h)
    exact ⟨g, n, w, hr, by omega, hz.congr fun i h => by unfold joinW; rw [if_pos h], Or.inl rfl, Below.refl _ _⟩
  · have hold := run_firstCells_some (P := Try.prog) w.drew i0.size n ⟨g, 0, none⟩ n n (wals z n) (by rw [hz1]; simp [wals]) (fun j v hv => wds_news hz j v hv)
    have hr := run_append_grow_src w 31 31 ty 30 i0 _ Try.underlying31 hi hz0 (some ⟨g, 0, none⟩) n n (wals z n) hold _ m _ src (by omega) (by omega) (by rw [hz2]; exact growslice_fits (by omega) (by omega))
    rw [wals_joinW] at hr
    have hge := grownCap_ge w (n + m) n 30
    generalize grownCap w (n + m) n 30 = C at hr hge
    refine ⟨w.heap.size, C, _, hr, hge, ⟨by simp, fun j hj => ?_⟩, Or.inr rfl, (((Below.refl w.heap.size w).drew).alloc (Nat.le_refl _) _)⟩
    rw [Nat.zero_add, World.cell?_alloc_at _ _ _ _ (by simp), Array.getElem?_append_left (by simp [wals]; omega), List.getElem?_toArray]
    exact wals_get _ _ j hj
theorem wpList_joinW {ops : Array Oper} {rest : List Oper} {o : Oper} {a : Act} {w : World} {Q : Exit → Act → World → Prop} (hgd : o.guard = none) (s x : Operand)
    (ho : o.op = .call { callee := .builtin .append, args := #[s, x], argTypes := #[31, 31] }) (g n : Nat) (z : Nat → Nat) (hz : Wds w g 0 n z) (B : Nat) (ad : Option Addr) (m c : Nat) (u : Nat → Nat) (hu : SrcW B w ad m u) (hn : n ≤ 1000000) (hm : m ≤ 1000000)
    (hs : a.eval s = .slice (some ⟨g, 0, none⟩) n n) (hx : a.eval x = .slice ad m c)
    (h : ∀ g' cap' w', n + m ≤ cap' → Wds w' g' 0 (n + m) (joinW z n u) → (g' = g ∨ g' = w.heap.size) → Below w.heap.size w w' → wpList Try.prog ops Q rest (a.put o.dst (.slice (some ⟨g', 0, none⟩) (n + m) cap')) w') : wpList Try.prog ops Q (o :: rest) a w := by
  refine wpList_plain hgd fun K hK => ?_
  obtain ⟨g', cap', w', hr, h1, h2, h3, h4⟩ := run_joinW w o.type g n z hz B ad m c u hu hn hm
  unfold Oper.wp execOp
  simp only [ho, resolve, invoke, builtin, Sem.run_bind, Sem.run_pure, Result.andThen_ok, List.map_toArray, List.map_cons, List.map_nil, hs, hx, hr]
  exact hK _ _ (h g' cap' w' h1 h2 h3 h4)
/-- append onto an empty row: a copy of one's own. -/
theorem wpList_copyW {ops : Array Oper} {rest : List Oper} {o : Oper} {a : Act} {w : World} {Q : Exit → Act → World → Prop} (hgd : o.guard = none) (s x : Operand)
    (ho : o.op = .call { callee := .builtin .append, args := #[s, x], argTypes := #[31, 31] }) (base b0 : Nat) (hs : a.eval s = .slice (some ⟨b0, 0, none⟩) 0 0)
    (hown0 : w.ownsRow base 30 1 (.slice (some ⟨b0, 0, none⟩) 0 0) 0 []) (hbase : base ≤ w.heap.size) (B : Nat) (ad : Option Addr) (n c : Nat) (z : Nat → Nat) (hx : a.eval x = .slice ad n c) (hS : SrcW B w ad n z) (hn : n ≤ 1000000)
    (h : ∀ g cap w', w'.ownsRow base 30 1 (.slice (some ⟨g, 0, none⟩) n cap) n (wals z n) → Below base w w' → wpList Try.prog ops Q rest (a.put o.dst (.slice (some ⟨g, 0, none⟩) n cap)) w') : wpList Try.prog ops Q (o :: rest) a w := by
  obtain ⟨i0, hi, hz1, hz2, hz0, src⟩ := srcOf (c := c) hS
  by_cases h0 : n = 0
  · subst h0
    have hr := run_append_room_src w 31 31 o.type 30 i0 Try.underlying31 hi b0 0 0 0 (.slice ad 0 c) 0 _ src (by omega) (fun j h => by simp [wals] at h) (fun j h => by simp [wals] at h)
    refine wpList_plain hgd fun K hK => ?_
    unfold Oper.wp execOp
    simp only [ho, resolve, invoke, builtin, Sem.run_bind, Sem.run_pure, Result.andThen_ok, List.map_toArray, List.map_cons, List.map_nil, hs, hx, hr]
    exact hK _ _ (h b0 0 w hown0 (Below.refl _ _))
  · rcases hS with h1 | ⟨b, off, rfl, hl, hB⟩
    · exact absurd h1 h0
    refine wpList_append_lies _ hgd s x 31 ho base 30 i0 _ 1 8 Try.underlying31 hi hz0 hz1 hz2 rfl (by decide) _ 0 [] hs hown0 ⟨b, off, none⟩ n c (wals z n) hx (by simp [wals]) (wds_news hB) (wals_one z n) (by omega) (by unfold maxLen; omega) (by omega) hbase w.heap.size rfl ?_
    intro g cap w' hown hg _ _
    rw [Nat.zero_add, List.nil_append] at hown
    rw [Nat.zero_add]
    exact h g cap w' hown ((Below.refl base w).grown hg hbase (fun k hk => (hown0.lt k hk).1))
end Go.Proofs.Ytdbolfmmlmoiaaa

namespace Go.Proofs.Ytdbolfmmlmoiaaa
open Go.RowKit Go.Proofs
set_option linter.unusedVariables false
set_option linter.unusedSimpArgs false

/-- A row of one's own of n words, none of it below base. -/
def OwnW (w : World) (base : Nat) (v : Value) (n : Nat) (z : Nat → Nat) : Prop := w.ownsRow base 30 1 v n (wals z n)
theorem OwnW.nil (w : World) (base : Nat) (z : Nat → Nat) : OwnW w base (.slice none 0 0) 0 z := World.ownsRow_nil w base _ 1
theorem OwnW.lt {w : World} {base : Nat} {v : Value} {n : Nat} {z : Nat → Nat} (h : OwnW w base v n z) : ∀ k, v.ownBlock = some k → base ≤ k ∧ k < w.heap.size := World.ownsRow.lt h
theorem OwnW.below {w w1 : World} {B base : Nat} {v : Value} {n : Nat} {z : Nat → Nat} (h : OwnW w base v n z) (hb : Below B w w1) (hl : ∀ k, v.ownBlock = some k → k < B) : OwnW w1 base v n z := own_below h hb hl
theorem OwnW.on {w w1 : World} {base : Nat} {v : Value} {n : Nat} {z : Nat → Nat} (h : OwnW w base v n z) (hb : Below w.heap.size w w1) : OwnW w1 base v n z := h.below hb fun k hk => (h.lt k hk).2
theorem OwnW.src {w : World} {base : Nat} {v : Value} {n : Nat} {z : Nat → Nat} (h : OwnW w base v n z) : ∃ a c, v = .slice a n c ∧ n ≤ c ∧ c ≤ maxLen ∧ SrcW w.heap.size w a n z := by
  rcases h.2 with ⟨rfl, rfl⟩ | ⟨g, cap, cur, rfl, h1, h2, h3, h4, h5, h6⟩
  · exact ⟨none, 0, rfl, by omega, by omega, Or.inl rfl⟩
  · exact ⟨_, cap, rfl, h3, h4, SrcW.of (wds_of_row h)⟩
theorem OwnW.congr {w : World} {base : Nat} {v : Value} {n : Nat} {y z : Nat → Nat} (h : OwnW w base v n y) (e : ∀ i, i < n → y i = z i) : OwnW w base v n z := by
  unfold OwnW at *
  rw [wals_congr z y n fun i hi => (e i hi).symm]
  exact h

theorem run_app1W (w : World) (ty : TypeId) (base : Nat) (v : Value) (n : Nat) (z : Nat → Nat) (hown : OwnW w base v n z) (g X : Nat) (hc : w.cell? ⟨g, 0, none⟩ = some (.int .u64 (X : Nat))) (hn : n ≤ 1000000) (hbase : base ≤ w.heap.size) (hX : z n = X) :
    ∃ v' w', (Builtin.append_ #[31, 31] ty #[v, .slice (some ⟨g, 0, none⟩) 1 1]).run Try.prog w = .ok v' w' ∧ OwnW w' base v' (n + 1) z ∧ Below base w w' := by
  obtain ⟨i0, hi, hz1, hz2, hz0⟩ := wdInfo
  obtain ⟨v', w', hr, h2, h3, h4⟩ := run_append_own (P := Try.prog) w base 31 ty 30 i0 _ 1 8 Try.underlying31 hi hz0 hz1 hz2 rfl (by decide) v n _ hown ⟨g, 0, none⟩ 1 1 [.int .u64 (X : Nat)] rfl
    (fun j u h => by cases j with | zero => (simp at h; subst h; rw [add_none]; exact hc) | succ j => simp at h) (by simp [Value.oneCell']) (by unfold maxLen; omega) (by omega) hbase
  refine ⟨v', w', hr, ?_, (Below.refl base w).grown h3 hbase (fun k hk => (hown.lt k hk).1)⟩
  unfold OwnW
  rw [wals_succ, hX]
  exact h2
/-- One word behind a row of one's own, in a region that draws. -/
theorem wp_app1W {o : Oper} {a : Act} {w : World} {K : Act → World → Prop} {Q : Exit → Act → World → Prop} (s x : Operand)
    (ho : o.op = .call { callee := .builtin .append, args := #[s, x], argTypes := #[31, 31] }) (base : Nat) (v : Value) (n : Nat) (z : Nat → Nat) (hs : a.eval s = v) (hown : OwnW w base v n z) (g X : Nat) (hx : a.eval x = .slice (some ⟨g, 0, none⟩) 1 1) (hc : w.cell? ⟨g, 0, none⟩ = some (.int .u64 (X : Nat))) (hn : n ≤ 1000000) (hbase : base ≤ w.heap.size) (hX : z n = X)
    (h : ∀ v' w', OwnW w' base v' (n + 1) z → Below base w w' → K (a.put o.dst v') w') : o.wp Try.prog a w K Q := by
  obtain ⟨v', w', hr, h1, h2⟩ := run_app1W w o.type base v n z hown g X hc hn hbase hX
  unfold Oper.wp execOp
  simp only [ho, resolve, invoke, builtin, Sem.run_bind, Sem.run_pure, Result.andThen_ok, List.map_toArray, List.map_cons, List.map_nil, hs, hx, hr]
  exact h v' w' h1 h2
/-- The same, where operations go in order. -/
theorem wpList_app1W {ops : Array Oper} {rest : List Oper} {o : Oper} {a : Act} {w : World} {Q : Exit → Act → World → Prop} (hgd : o.guard = none) (s x : Operand)
    (ho : o.op = .call { callee := .builtin .append, args := #[s, x], argTypes := #[31, 31] }) (base : Nat) (v : Value) (n : Nat) (z : Nat → Nat) (hs : a.eval s = v) (hown : OwnW w base v n z) (g X : Nat) (hx : a.eval x = .slice (some ⟨g, 0, none⟩) 1 1) (hc : w.cell? ⟨g, 0, none⟩ = some (.int .u64 (X : Nat))) (hn : n ≤ 1000000) (hbase : base ≤ w.heap.size) (hX : z n = X)
    (h : ∀ v' w', OwnW w' base v' (n + 1) z → Below base w w' → wpList Try.prog ops Q rest (a.put o.dst v') w') : wpList Try.prog ops Q (o :: rest) a w := by
  refine wpList_plain hgd fun K hK => ?_
  exact wp_app1W s x ho base v n z hs hown g X hx hc hn hbase hX fun v' w' h1 h2 => hK _ _ (h v' w' h1 h2)
end Go.Proofs.Ytdbolfmmlmoiaaa

namespace Go.Proofs.Ytdbolfmmlmoiaaa
open Go.RowKit Go.Proofs
set_option linter.unusedVariables false
set_option linter.unusedSimpArgs false

/-- All blocks that were there are as they were, but for those of O. -/
structure KeepO (O : Nat → Prop) (w w' : World) : Prop where
  os : w'.os = w.os
  tape : w'.tape = w.tape
  output : w'.output = w.output
  size : w.heap.size ≤ w'.heap.size
  block : ∀ k, k < w.heap.size → ¬ O k → w'.heap[k]? = w.heap[k]?
theorem KeepO.refl (O : Nat → Prop) (w : World) : KeepO O w w := ⟨rfl, rfl, rfl, Nat.le_refl _, fun _ _ _ => rfl⟩
theorem KeepO.trans {O O' : Nat → Prop} {a b c : World} (h : KeepO O a b) (k : KeepO O' b c) (hO : ∀ i, i < a.heap.size → O' i → O i) : KeepO O a c :=
  ⟨k.os.trans h.os, k.tape.trans h.tape, k.output.trans h.output, Nat.le_trans h.size k.size, fun i hi hn => (k.block i (Nat.lt_of_lt_of_le hi h.size) fun h' => hn (hO i hi h')).trans (h.block i hi hn)⟩
theorem KeepO.of_below {O : Nat → Prop} {w w' : World} (h : Below w.heap.size w w') : KeepO O w w' := ⟨h.os, h.tape, h.output, h.size, fun k hk _ => h.block k hk⟩
theorem KeepO.below {O : Nat → Prop} {w w' : World} {B : Nat} (h : KeepO O w w') (hO : ∀ k, k < B → ¬ O k) (hB : B ≤ w.heap.size) : Below B w w' := ⟨h.os, h.tape, h.output, h.size, fun k hk => h.block k (by omega) (hO k hk)⟩
theorem KeepO.grown {O : Nat → Prop} {w w' : World} {row : Option Nat} (h : w.grownBy w' row) (hO : ∀ k, row = some k → O k) : KeepO O w w' :=
  ⟨h.os, h.tape, h.output, h.size, fun k hk hn => h.block k hk fun e => hn (hO k e.symm)⟩
theorem KeepO.setCell {O : Nat → Prop} (w : World) (b o : Nat) (v : Value) (hO : O b) : KeepO O w (w.setCell ⟨b, o, none⟩ v) :=
  ⟨rfl, rfl, rfl, by simp, fun k hk hn => Below.heap_setCell _ _ _ _ (fun e => hn (by have : k = b := e; rw [this]; exact hO))⟩
theorem KeepO.cell {O : Nat → Prop} {w w' : World} (h : KeepO O w w') {b o : Nat} {v : Value} (hc : w.cell? ⟨b, o, none⟩ = some v) (hn : ¬ O b) : w'.cell? ⟨b, o, none⟩ = some v := by
  have hlt := World.block_lt_of_cell? _ _ hc
  rw [World.cell?_of_block (w := w) (h.block b hlt hn)]
  exact hc
theorem KeepO.frozen {O : Nat → Prop} {w w' : World} (h : KeepO O w w') {b o : Nat} (hlt : b < w.heap.size) (hn : ¬ O b) : w'.frozen? ⟨b, o, none⟩ = w.frozen? ⟨b, o, none⟩ := World.frozen?_of_block (w := w) (h.block b hlt hn)
theorem own_keep {O : Nat → Prop} {w w1 : World} {base n size : Nat} {e : TypeId} {v : Value} {xs : List Value} (h : w.ownsRow base e size v n xs) (hk : KeepO O w w1) (hl : ∀ k, v.ownBlock = some k → ¬ O k) : w1.ownsRow base e size v n xs := by
  refine ⟨h.1, ?_⟩
  rcases h.2 with h0 | ⟨g, cap, cur, hv, h1, h2, h3⟩
  · exact .inl h0
  · have hlt := (World.ownsRow.lt h g (by rw [hv]; rfl)).2
    exact .inr ⟨g, cap, cur, hv, h1, by rw [hk.block g hlt (hl g (by rw [hv]; rfl))]; exact h2, h3⟩
/-- A list whose terms lie in blocks of role 4. -/
def LstIn (r : Nat → Nat) (w : World) (L : Lst) : Prop := L.n = 0 ∨ ∃ b off, L.ad = some ⟨b, off, none⟩ ∧ r b = 4 ∧ TrmsIn w b off L.n L.V L.K
theorem trms_keep {O : Nat → Prop} {w w' : World} {b off n : Nat} {V : Nat → Int} {K : Nat → Nat} (t : TrmsIn w b off n V K) (h : KeepO O w w') (hn : ¬ O b) : TrmsIn w' b off n V K :=
  ⟨Nat.lt_of_lt_of_le t.lt h.size, fun i hi => h.cell (t.c0 i hi) hn, fun i hi => h.cell (t.c1 i hi) hn⟩
theorem LstIn.keep {O : Nat → Prop} {r : Nat → Nat} {w w' : World} {L : Lst} (t : LstIn r w L) (h : KeepO O w w') (hn : ∀ k, r k = 4 → ¬ O k) : LstIn r w' L := by
  rcases t with t | ⟨b, off, e, hr, t⟩
  · exact Or.inl t
  · exact Or.inr ⟨b, off, e, hr, trms_keep t h (hn b hr)⟩
theorem LstIn.role {r s : Nat → Nat} {w : World} {L : Lst} (t : LstIn r w L) (h : ∀ k, r k = 4 → s k = 4) : LstIn s w L := by
  rcases t with t | ⟨b, off, e, hr, t⟩
  · exact Or.inl t
  · exact Or.inr ⟨b, off, e, h b hr, t⟩
theorem LstIn.at_ {r : Nat → Nat} {w : World} {L : Lst} (t : LstIn r w L) : L.At w.heap.size w := by
  rcases t with t | ⟨b, off, e, hr, t⟩
  · exact Or.inl t
  · exact Or.inr ⟨b, off, e, t.lt, t⟩
/-- A system that grows, its parts: block b holds x, y, rows, values; roles of blocks: 1 b, 2 rows, 3 values, 4 lists. -/
structure MdlP (r : Nat → Nat) (w : World) (b : Nat) (x y : Int) (vr vv : Value) (m : Nat) (R : Nat → Nat → Lst) (n : Nat) (v : Nat → Nat) : Prop where
  c0 : w.cell? ⟨b, 0, none⟩ = some (.int .i64 x)
  c1 : w.cell? ⟨b, 1, none⟩ = some (.int .i64 y)
  c2 : w.cell? ⟨b, 2, none⟩ = some vr
  c3 : w.cell? ⟨b, 3, none⟩ = some vv
  f : ∀ o, o < 4 → w.frozen? ⟨b, o, none⟩ = false
  rb : r b = 1
  lt : ∀ k, r k ≠ 0 → k < w.heap.size
  rows : w.ownsRow 0 63 3 vr m (rals R m)
  rr : ∀ k, vr.ownBlock = some k → r k = 2
  vals : w.ownsRow 0 30 1 vv n (wals v n)
  rv : ∀ k, vv.ownBlock = some k → r k = 3
  lsts : ∀ i, i < m → ∀ j, j < 3 → LstIn r w (R i j)
section
variable {r : Nat → Nat} {w w' : World} {b : Nat} {x y : Int} {vr vv : Value} {m : Nat} {R : Nat → Nat → Lst} {n : Nat} {v : Nat → Nat}
theorem MdlP.keep (t : MdlP r w b x y vr vv m R n v) {O : Nat → Prop} (h : KeepO O w w') (hn : ∀ k, r k ≠ 0 → ¬ O k) : MdlP r w' b x y vr vv m R n v := by
  have nb : ¬ O b := hn b (by rw [t.rb]; decide)
  exact ⟨h.cell t.c0 nb, h.cell t.c1 nb, h.cell t.c2 nb, h.cell t.c3 nb, fun o ho => (h.frozen (World.block_lt_of_cell? _ _ t.c0) nb).trans (t.f o ho), t.rb, fun k hk => Nat.lt_of_lt_of_le (t.lt k hk) h.size,
    own_keep t.rows h fun k hk => hn k (by rw [t.rr k hk]; decide), t.rr, own_keep t.vals h fun k hk => hn k (by rw [t.rv k hk]; decide), t.rv, fun i hi j hj => (t.lsts i hi j hj).keep h fun k hk => hn k (by rw [hk]; decide)⟩
theorem MdlP.below (t : MdlP r w b x y vr vv m R n v) (h : Below w.heap.size w w') : MdlP r w' b x y vr vv m R n v := t.keep (O := fun _ => False) (KeepO.of_below h) fun _ _ h => h
/-- More roles. -/
theorem MdlP.more (t : MdlP r w b x y vr vv m R n v) {s : Nat → Nat} (hs : ∀ k, r k ≠ 0 → s k = r k) (hl : ∀ k, s k ≠ 0 → k < w.heap.size) : MdlP s w b x y vr vv m R n v :=
  ⟨t.c0, t.c1, t.c2, t.c3, t.f, (hs b (by rw [t.rb]; decide)).trans t.rb, hl, t.rows, fun k hk => (hs k (by rw [t.rr k hk]; decide)).trans (t.rr k hk), t.vals, fun k hk => (hs k (by rw [t.rv k hk]; decide)).trans (t.rv k hk), fun i hi j hj => (t.lsts i hi j hj).role fun k hk => (hs k (by rw [hk]; decide)).trans hk⟩
theorem MdlP.blt (t : MdlP r w b x y vr vv m R n v) : b < w.heap.size := World.block_lt_of_cell? _ _ t.c0
theorem MdlP.set0 (t : MdlP r w b x y vr vv m R n v) (x' : Int) : MdlP r (w.setCell ⟨b, 0, none⟩ (.int .i64 x')) b x' y vr vv m R n v := by
  have hk : KeepO (fun k => r k = 1) w (w.setCell ⟨b, 0, none⟩ (.int .i64 x')) := KeepO.setCell w b 0 _ t.rb
  exact ⟨World.cell?_setCell_same _ _ _ t.c0, by rw [World.cell?_setCell_other _ _ _ _ (by simp)]; exact t.c1, by rw [World.cell?_setCell_other _ _ _ _ (by simp)]; exact t.c2, by rw [World.cell?_setCell_other _ _ _ _ (by simp)]; exact t.c3, fun o ho => by simp [t.f o ho], t.rb, fun k hk' => by simp [t.lt k hk'],
    own_keep t.rows hk fun k hk' => by rw [t.rr k hk']; decide, t.rr, own_keep t.vals hk fun k hk' => by rw [t.rv k hk']; decide, t.rv, fun i hi j hj => (t.lsts i hi j hj).keep hk fun k hk' => by rw [hk']; decide⟩
theorem MdlP.set1 (t : MdlP r w b x y vr vv m R n v) (y' : Int) : MdlP r (w.setCell ⟨b, 1, none⟩ (.int .i64 y')) b x y' vr vv m R n v := by
  have hk : KeepO (fun k => r k = 1) w (w.setCell ⟨b, 1, none⟩ (.int .i64 y')) := KeepO.setCell w b 1 _ t.rb
  exact ⟨by rw [World.cell?_setCell_other _ _ _ _ (by simp)]; exact t.c0, World.cell?_setCell_same _ _ _ t.c1, by rw [World.cell?_setCell_other _ _ _ _ (by simp)]; exact t.c2, by rw [World.cell?_setCell_other _ _ _ _ (by simp)]; exact t.c3, fun o ho => by simp [t.f o ho], t.rb, fun k hk' => by simp [t.lt k hk'],
    own_keep t.rows hk fun k hk' => by rw [t.rr k hk']; decide, t.rr, own_keep t.vals hk fun k hk' => by rw [t.rv k hk']; decide, t.rv, fun i hi j hj => (t.lsts i hi j hj).keep hk fun k hk' => by rw [hk']; decide⟩
/-- One row more, stored. -/
theorem MdlP.push (t : MdlP r w b x y vr vv m R n v) {vr' : Value} {R' : Nat → Nat → Lst} (hg : w.grownBy w' vr.ownBlock) (ho : w'.ownsRow 0 63 3 vr' (m + 1) (rals R' (m + 1))) (hb : ∀ k, vr'.ownBlock = some k → vr.ownBlock = some k ∨ k = w.heap.size)
   (hR : ∀ i, i < m → R' i = R i) (hl : ∀ j, j < 3 → LstIn r w (R' m j)) :
    ∃ s : Nat → Nat, MdlP s (w'.setCell ⟨b, 2, none⟩ vr') b x y vr' vv (m + 1) R' n v ∧ (∀ k, s k ≠ 0 → r k ≠ 0 ∨ w.heap.size ≤ k) ∧ (∀ k, r k ≠ 0 → s k = r k) ∧ KeepO (fun k => r k ≠ 0) w (w'.setCell ⟨b, 2, none⟩ vr') := by
  have hk1 : KeepO (fun k => r k = 2) w w' := KeepO.grown hg t.rr
  have hk2 : KeepO (fun k => r k = 1) w' (w'.setCell ⟨b, 2, none⟩ vr') := KeepO.setCell w' b 2 _ t.rb
  have nb : ¬ r b = 2 := by rw [t.rb]; decide
  have nr : ∀ k, vr'.ownBlock = some k → r k = 2 ∨ k = w.heap.size := fun k hk => (hb k hk).imp (t.rr k) id
  have hz : ∀ k, w.heap.size ≤ k → r k = 0 := fun k hk => Decidable.byContradiction fun h => by have := t.lt k h; omega
  refine ⟨fun k => if vr'.ownBlock = some k then 2 else r k, ?_, fun k hk => ?_, fun k hk => ?_, ?_⟩
  · have same : ∀ k, r k ≠ 0 → (if vr'.ownBlock = some k then 2 else r k) = r k := fun k hk => by
      split
      · rcases nr k (by assumption) with h | h
        · exact h.symm
        · exact absurd (hz k (by omega)) hk
      · rfl
    refine ⟨?_, ?_, World.cell?_setCell_same _ _ _ (hk1.cell t.c2 nb), ?_, fun o ho => ?_, (same b (by rw [t.rb]; decide)).trans t.rb, fun k hk => ?_, ?_, fun k hk => if_pos hk, ?_, fun k hk => ?_, fun i hi j hj => ?_⟩
    · rw [World.cell?_setCell_other _ _ _ _ (by simp)]; exact hk1.cell t.c0 nb
    · rw [World.cell?_setCell_other _ _ _ _ (by simp)]; exact hk1.cell t.c1 nb
    · rw [World.cell?_setCell_other _ _ _ _ (by simp)]; exact hk1.cell t.c3 nb
    · simp only [World.frozen?_setCell]
      exact (hk1.frozen t.blt nb).trans (t.f o ho)
    · have hs := hg.size
      have e : ∀ u o, (w'.setCell ⟨b, o, none⟩ u).heap.size = w'.heap.size := fun u o => by simp
      rw [e]
      split at hk
      · exact (World.ownsRow.lt ho k (by assumption)).2
      · have := t.lt k hk; omega
    · refine own_keep ho hk2 fun k hk => ?_
      rcases nr k hk with h | h
      · rw [h]; decide
      · rw [hz k (by omega)]; decide
    · exact own_keep (own_keep t.vals hk1 fun k hk => by rw [t.rv k hk]; decide) hk2 fun k hk => by rw [t.rv k hk]; decide
    · exact (same k (by rw [t.rv k hk]; decide)).trans (t.rv k hk)
    · have key : LstIn r w (R' i j) := by
        rcases Nat.lt_or_ge i m with h | h
        · rw [hR i h]; exact t.lsts i h j hj
        · obtain rfl : i = m := by omega
          exact hl j hj
      exact ((key.keep hk1 fun k hk => by rw [hk]; decide).keep hk2 fun k hk => by rw [hk]; decide).role fun k hk => (same k (by rw [hk]; decide)).trans hk
  · by_cases h : vr'.ownBlock = some k
    · rcases nr k h with h2 | h2
      · exact Or.inl (by rw [h2]; decide)
      · exact Or.inr (by omega)
    · dsimp only at hk
      rw [if_neg h] at hk
      exact Or.inl hk
  · dsimp only
    split
    · rcases nr k (by assumption) with h | h
      · exact h.symm
      · exact absurd (hz k (by omega)) hk
    · rfl
  · exact (KeepO.trans (O := fun k => r k ≠ 0) ⟨hk1.os, hk1.tape, hk1.output, hk1.size, fun k hk hn => hk1.block k hk fun h => hn (by rw [h]; decide)⟩ hk2 fun k _ h => by rw [h]; decide)
/-- One value more, stored. -/
theorem MdlP.pushV (t : MdlP r w b x y vr vv m R n v) {vv' : Value} {v' : Nat → Nat} (hg : w.grownBy w' vv.ownBlock) (ho : w'.ownsRow 0 30 1 vv' (n + 1) (wals v' (n + 1))) (hb : ∀ k, vv'.ownBlock = some k → vv.ownBlock = some k ∨ k = w.heap.size) :
    ∃ s : Nat → Nat, MdlP s (w'.setCell ⟨b, 3, none⟩ vv') b x y vr vv' m R (n + 1) v' ∧ (∀ k, s k ≠ 0 → r k ≠ 0 ∨ w.heap.size ≤ k) ∧ (∀ k, r k ≠ 0 → s k = r k) ∧ KeepO (fun k => r k ≠ 0) w (w'.setCell ⟨b, 3, none⟩ vv') := by
  have hk1 : KeepO (fun k => r k = 3) w w' := KeepO.grown hg t.rv
  have hk2 : KeepO (fun k => r k = 1) w' (w'.setCell ⟨b, 3, none⟩ vv') := KeepO.setCell w' b 3 _ t.rb
  have nb : ¬ r b = 3 := by rw [t.rb]; decide
  have nr : ∀ k, vv'.ownBlock = some k → r k = 3 ∨ k = w.heap.size := fun k hk => (hb k hk).imp (t.rv k) id
  have hz : ∀ k, w.heap.size ≤ k → r k = 0 := fun k hk => Decidable.byContradiction fun h => by have := t.lt k h; omega
  refine ⟨fun k => if vv'.ownBlock = some k then 3 else r k, ?_, fun k hk => ?_, fun k hk => ?_, ?_⟩
  · have same : ∀ k, r k ≠ 0 → (if vv'.ownBlock = some k then 3 else r k) = r k := fun k hk => by
      split
      · rcases nr k (by assumption) with h | h
        · exact h.symm
        · exact absurd (hz k (by omega)) hk
      · rfl
    refine ⟨?_, ?_, ?_, World.cell?_setCell_same _ _ _ (hk1.cell t.c3 nb), fun o ho => ?_, (same b (by rw [t.rb]; decide)).trans t.rb, fun k hk => ?_, ?_, fun k hk => ?_, ?_, fun k hk => if_pos hk, fun i hi j hj => ?_⟩
    · rw [World.cell?_setCell_other _ _ _ _ (by simp)]; exact hk1.cell t.c0 nb
    · rw [World.cell?_setCell_other _ _ _ _ (by simp)]; exact hk1.cell t.c1 nb
    · rw [World.cell?_setCell_other _ _ _ _ (by simp)]; exact hk1.cell t.c2 nb
    · simp only [World.frozen?_setCell]
      exact (hk1.frozen t.blt nb).trans (t.f o ho)
    · have hs := hg.size
      have e : ∀ u o, (w'.setCell ⟨b, o, none⟩ u).heap.size = w'.heap.size := fun u o => by simp
      rw [e]
      split at hk
      · exact (World.ownsRow.lt ho k (by assumption)).2
      · have := t.lt k hk; omega
    · exact own_keep (own_keep t.rows hk1 fun k hk => by rw [t.rr k hk]; decide) hk2 fun k hk => by rw [t.rr k hk]; decide
    · exact (same k (by rw [t.rr k hk]; decide)).trans (t.rr k hk)
    · refine own_keep ho hk2 fun k hk => ?_
      rcases nr k hk with h | h
      · rw [h]; decide
      · rw [hz k (by omega)]; decide
    · exact (((t.lsts i hi j hj).keep hk1 fun k hk => by rw [hk]; decide).keep hk2 fun k hk => by rw [hk]; decide).role fun k hk => (same k (by rw [hk]; decide)).trans hk
  · by_cases h : vv'.ownBlock = some k
    · rcases nr k h with h2 | h2
      · exact Or.inl (by rw [h2]; decide)
      · exact Or.inr (by omega)
    · dsimp only at hk
      rw [if_neg h] at hk
      exact Or.inl hk
  · dsimp only
    split
    · rcases nr k (by assumption) with h | h
      · exact h.symm
      · exact absurd (hz k (by omega)) hk
    · rfl
  · exact (KeepO.trans (O := fun k => r k ≠ 0) ⟨hk1.os, hk1.tape, hk1.output, hk1.size, fun k hk hn => hk1.block k hk fun h => hn (by rw [h]; decide)⟩ hk2 fun k _ h => by rw [h]; decide)
end
end Go.Proofs.Ytdbolfmmlmoiaaa

namespace Go.Proofs.Ytdbolfmmlmoiaaa
open Go.RowKit Go.Proofs
set_option linter.unusedVariables false
set_option linter.unusedSimpArgs false
/-- Block b holds maker S. -/
def Mdl (r : Nat → Nat) (w : World) (b : Nat) (S : Mk) : Prop := ∃ vr vv R, MdlP r w b (S.n : Nat) (S.pub : Nat) vr vv S.m R S.n S.v ∧ SysOf S R ∧ ∀ i, i < S.m → ∀ j, j < 3 → (R i j).Ok
/-- What a call leaves: the maker as it is now; the roles that were there stay, new ones lie in new blocks; all else is as it was. -/
def After (r : Nat → Nat) (W w' : World) (b : Nat) (S : Mk) : Prop := ∃ s : Nat → Nat, Mdl s w' b S ∧ (∀ k, s k ≠ 0 → r k ≠ 0 ∨ W.heap.size ≤ k) ∧ (∀ k, r k ≠ 0 → s k = r k) ∧ KeepO (fun k => r k ≠ 0) W w'
theorem Mdl.below {r : Nat → Nat} {w w' : World} {b : Nat} {S : Mk} (h : Mdl r w b S) (hb : Below w.heap.size w w') : Mdl r w' b S := by
  obtain ⟨vr, vv, R, t, h1, h2⟩ := h
  exact ⟨vr, vv, R, t.below hb, h1, h2⟩
theorem Mdl.keep {r : Nat → Nat} {w w' : World} {b : Nat} {S : Mk} (h : Mdl r w b S) {O : Nat → Prop} (hk : KeepO O w w') (hn : ∀ k, r k ≠ 0 → ¬ O k) : Mdl r w' b S := by
  obtain ⟨vr, vv, R, t, h1, h2⟩ := h
  exact ⟨vr, vv, R, t.keep hk hn, h1, h2⟩
theorem Mdl.lt {r : Nat → Nat} {w : World} {b : Nat} {S : Mk} (h : Mdl r w b S) : ∀ k, r k ≠ 0 → k < w.heap.size := by
  obtain ⟨vr, vv, R, t, h1, h2⟩ := h
  exact t.lt
theorem After.same {r : Nat → Nat} {w w' : World} {b : Nat} {S : Mk} (h : Mdl r w b S) (hb : Below w.heap.size w w') : After r w w' b S :=
  ⟨r, h.below hb, fun k hk => Or.inl hk, fun k hk => rfl, KeepO.of_below hb⟩
/-- One call behind another. -/
theorem After.then {r s : Nat → Nat} {w w1 w2 : World} {b : Nat} {S : Mk} (hs : ∀ k, s k ≠ 0 → r k ≠ 0 ∨ w.heap.size ≤ k) (he : ∀ k, r k ≠ 0 → s k = r k) (hk : KeepO (fun k => r k ≠ 0) w w1) (h : After s w1 w2 b S) : After r w w2 b S := by
  obtain ⟨q, h1, h2, h3, h4⟩ := h
  have hz := hk.size
  refine ⟨q, h1, fun k hq => ?_, fun k hr => ?_, hk.trans h4 fun i hi h => ?_⟩
  · rcases h2 k hq with h | h
    · exact hs k h
    · exact Or.inr (by omega)
  · have e := he k hr
    exact (h3 k (by rw [e]; exact hr)).trans e
  · rcases hs i h with h | h
    · exact h
    · omega
theorem After.below {r : Nat → Nat} {w w1 w2 : World} {b : Nat} {S : Mk} (h : After r w w1 b S) (hb : Below w1.heap.size w1 w2) : After r w w2 b S := by
  obtain ⟨s, h1, h2, h3, h4⟩ := h
  exact ⟨s, h1.below hb, h2, h3, h4.trans (O' := fun _ => False) (KeepO.of_below hb) fun _ _ h => h.elim⟩
theorem After.of_below {r : Nat → Nat} {w w1 w2 : World} {b : Nat} {S : Mk} (hb : Below w.heap.size w w1) (h : After r w1 w2 b S) : After r w w2 b S :=
  After.then (fun k hk => Or.inl hk) (fun k _ => rfl) (KeepO.of_below hb) h
/-- One word behind a row of one's own: where it lies. -/
def putN (n X : Nat) (v : Nat → Nat) (i : Nat) : Nat := if i = n then X else v i
theorem wals_put (n X : Nat) (v : Nat → Nat) : wals (putN n X v) (n + 1) = wals v n ++ [.int .u64 (X : Nat)] := by
  rw [wals_succ, show putN n X v n = X from if_pos rfl, wals_congr (putN n X v) v n fun i hi => if_neg (by omega)]
theorem wpList_appVF {ops : Array Oper} {rest : List Oper} {o : Oper} {a : Act} {w : World} {Q : Exit → Act → World → Prop} (hgd : o.guard = none) (s x : Operand)
    (ho : o.op = .call { callee := .builtin .append, args := #[s, x], argTypes := #[31, 31] }) (vv : Value) (n : Nat) (v : Nat → Nat) (hs : a.eval s = vv) (hown : w.ownsRow 0 30 1 vv n (wals v n)) (g X : Nat) (hx : a.eval x = .slice (some ⟨g, 0, none⟩) 1 1) (hc : w.cell? ⟨g, 0, none⟩ = some (.int .u64 (X : Nat))) (hn : n ≤ 1000000)
    (h : ∀ g' cap w', w'.ownsRow 0 30 1 (.slice (some ⟨g', 0, none⟩) (n + 1) cap) (n + 1) (wals (putN n X v) (n + 1)) → w.grownBy w' vv.ownBlock → (vv.ownBlock = some g' ∨ g' = w.heap.size) → wpList Try.prog ops Q rest (a.put o.dst (.slice (some ⟨g', 0, none⟩) (n + 1) cap)) w') : wpList Try.prog ops Q (o :: rest) a w := by
  obtain ⟨i0, hi, hz1, hz2, hz0⟩ := wdInfo
  refine wpList_append_lies _ hgd s x 31 ho 0 30 i0 _ 1 8 Try.underlying31 hi hz0 hz1 hz2 rfl (by decide) vv n _ hs hown ⟨g, 0, none⟩ 1 1 [.int .u64 (X : Nat)] hx rfl
    (fun j u h => by cases j with | zero => (simp at h; subst h; rw [add_none]; exact hc) | succ j => simp at h) (by simp [Value.oneCell']) (by decide) (by unfold maxLen; omega) (by omega) (by omega) w.heap.size rfl ?_
  intro g' cap w' h1 h2 h3 _
  rw [← wals_put] at h1
  exact h g' cap w' h1 h2 h3
/-- One row behind the rows of one's own: where it lies. -/
def putR (m : Nat) (a b c : Lst) (R : Nat → Nat → Lst) (i : Nat) : Nat → Lst := if i = m then row3 a b c else R i
theorem rals_congr {R R' : Nat → Nat → Lst} : ∀ {m : Nat}, (∀ i, i < m → R i = R' i) → rals R m = rals R' m
  | 0, _ => rfl
  | m + 1, h => by
    show rals R m ++ [_, _, _] = rals R' m ++ [_, _, _]
    rw [rals_congr fun i hi => h i (by omega), h m (by omega)]
theorem rals_put (m : Nat) (a b c : Lst) (R : Nat → Nat → Lst) : rals (putR m a b c R) (m + 1) = rals R m ++ [a.val, b.val, c.val] := by
  show rals (putR m a b c R) m ++ [_, _, _] = _
  rw [rals_congr (R := putR m a b c R) (R' := R) fun i hi => if_neg (by omega), show putR m a b c R m = row3 a b c from if_pos rfl]
  rfl
theorem run_appRF {w : World} (ty : TypeId) (vr : Value) (m : Nat) (R : Nat → Nat → Lst) (hown : w.ownsRow 0 63 3 vr m (rals R m)) (g : Nat) (A B C : Lst)
    (h0 : w.cell? ⟨g, 0, none⟩ = some A.val) (h1 : w.cell? ⟨g, 1, none⟩ = some B.val) (h2 : w.cell? ⟨g, 2, none⟩ = some C.val) (hm : m ≤ 1000000) :
    ∃ g' cap w', (Builtin.append_ #[27, 27] ty #[vr, .slice (some ⟨g, 0, none⟩) 1 1]).run Try.prog w = .ok (.slice (some ⟨g', 0, none⟩) (m + 1) cap) w' ∧ w'.ownsRow 0 63 3 (.slice (some ⟨g', 0, none⟩) (m + 1) cap) (m + 1) (rals (putR m A B C R) (m + 1)) ∧ w.grownBy w' vr.ownBlock ∧ (vr.ownBlock = some g' ∨ g' = w.heap.size) := by
  obtain ⟨i0, hi, hz1, hz2, hz0⟩ := rowInfo
  obtain ⟨g', cap, w', hr, h3, h4, h5, _⟩ := run_append_lies (P := Try.prog) w 27 ty 0 63 i0 _ 3 72 Try.underlying27 hi hz0 hz1 hz2 rfl (by decide) vr m _ hown ⟨g, 0, none⟩ 1 1 [A.val, B.val, C.val] rfl
    (fun j u h => by
      match j with
      | 0 => simp at h; subst h; exact h0
      | 1 => simp at h; subst h; exact h1
      | 2 => simp at h; subst h; exact h2
      | j + 3 => simp at h) (by simp [Lst.val, Value.oneCell']) (by decide) (by unfold maxLen; omega) (by omega) (by omega) w.heap.size rfl
  rw [← rals_put] at h3
  exact ⟨g', cap, w', hr, h3, h4, h5⟩
theorem wp_appRF {o : Oper} {a : Act} {w : World} {K : Act → World → Prop} {Q : Exit → Act → World → Prop} (s x : Operand)
    (ho : o.op = .call { callee := .builtin .append, args := #[s, x], argTypes := #[27, 27] }) (vr : Value) (m : Nat) (R : Nat → Nat → Lst) (hs : a.eval s = vr) (hown : w.ownsRow 0 63 3 vr m (rals R m)) (g : Nat) (A B C : Lst) (hx : a.eval x = .slice (some ⟨g, 0, none⟩) 1 1)
    (h0 : w.cell? ⟨g, 0, none⟩ = some A.val) (h1 : w.cell? ⟨g, 1, none⟩ = some B.val) (h2 : w.cell? ⟨g, 2, none⟩ = some C.val) (hm : m ≤ 1000000)
    (h : ∀ g' cap w', w'.ownsRow 0 63 3 (.slice (some ⟨g', 0, none⟩) (m + 1) cap) (m + 1) (rals (putR m A B C R) (m + 1)) → w.grownBy w' vr.ownBlock → (vr.ownBlock = some g' ∨ g' = w.heap.size) → K (a.put o.dst (.slice (some ⟨g', 0, none⟩) (m + 1) cap)) w') : o.wp Try.prog a w K Q := by
  obtain ⟨g', cap, w', hr, h3, h4, h5⟩ := run_appRF o.type vr m R hown g A B C h0 h1 h2 hm
  unfold Oper.wp execOp
  simp only [ho, resolve, invoke, builtin, Sem.run_bind, Sem.run_pure, Result.andThen_ok, List.map_toArray, List.map_cons, List.map_nil, hs, hx, hr]
  exact h g' cap w' h3 h4 h5
end Go.Proofs.Ytdbolfmmlmoiaaa

namespace Go.Proofs.Ytdbolfmmlmoiaaa
open Go
set_option linter.unusedVariables false
set_option linter.unusedSimpArgs false
section
variable {P : Program} {ops : Array Oper} {Q : Exit → Act → World → Prop} {md : Region.Mode} {S : World → Prop} {Z : List Nat}

/-- Whatever order is picked; S holds behind each operation but those of Z. -/
def AnyZ (P : Program) (md : Region.Mode) (ops : Array Oper) (Q : Exit → Act → World → Prop) (S : World → Prop) (Z : List Nat) : Nat → Array Bool → Act → World → Prop
  | 0, L, a, w => Region.ready md ops L = [] ∧ Q .normal a w
  | n + 1, L, a, w => (Region.ready md ops L = [] → Q .normal a w) ∧
    ∀ i ∈ Region.ready md ops L, wpOp P ops Q i (fun a' w' => (Z.contains i = false → S w → S w') ∧ AnyZ P md ops Q S Z n (L.setIfInBounds i true) a' w') a w

theorem AnyZ.any : ∀ (n : Nat) (L : Array Bool) (a : Act) (w : World), AnyZ P md ops Q S Z n L a w → wpAny P md ops Q n L a w
  | 0, _, _, _, h => h
  | n + 1, _, _, _, h => ⟨h.1, fun i hi => wpOp_mono (fun a' w' k => AnyZ.any n _ a' w' k.2) (h.2 i hi)⟩

/-- Each of Z waits for number i. -/
def waits (md : Region.Mode) (ops : Array Oper) (Z : List Nat) (i : Nat) : Bool :=
  Z.all fun j => match ops[j]? with
    | some o => o.after.any fun e => Region.binds md e && e.on == i
    | none => false
theorem waits_not {i j : Nat} {L : Array Bool} (h : waits md ops Z i = true) (hi : i ∈ Region.ready md ops L) (hj : j ∈ Region.ready md ops L) : Z.contains j = false := by
  cases hz : Z.contains j with
  | false => rfl
  | true =>
    have hm : j ∈ Z := by simpa using hz
    have h1 := List.all_eq_true.1 h j hm
    obtain ⟨_, o, ho, hall⟩ := mem_ready.1 hj
    rw [ho] at h1
    obtain ⟨e, he, hb⟩ := Array.any_eq_true'.1 h1
    simp only [Bool.and_eq_true, beq_iff_eq] at hb
    have h2 := hall e he hb.1
    rw [hb.2] at h2
    have h3 := (mem_ready.1 hi).1
    cases hl : L[i]? with
    | none => simp [hl] at h2
    | some b => simp [hl] at h2 h3; rw [h2] at h3; cases h3

theorem AnyZ.first {i : Nat} {o : Oper} {v : Value} (hi : ops[i]? = some o) (hs : ∀ (j : Nat) (o : Oper) cs b, ops[j]? = some o → o.op ≠ .select cs b)
    (hQ : ∀ c a w, Q (.panic c) (a.put o.dst v) w → Q (.panic c) a w) (hz : waits md ops Z i = true) :
    ∀ (n : Nat) (L : Array Bool) (a : Act) (w : World),
      (∀ j oj, ops[j]? = some oj → j ≠ i → L.getD j true = false → (∀ e ∈ oj.after, Region.binds md e = true → e.on ≠ i) → o.apart ops oj = true) →
      i ∈ Region.ready md ops L → YieldsIf P ops S o v a → S w → AnyZ P md ops Q S Z n (L.setIfInBounds i true) (a.put o.dst v) w → AnyZ P md ops Q S Z (n + 1) L a w
  | n, L, a, w, hfree, hr, hy, hS, H => by
    refine ⟨fun h => absurd hr (by simp [h]), fun j hj => ?_⟩
    by_cases hji : j = i
    · subst hji
      exact hy.wpOp hi hS ⟨fun _ _ => hS, H⟩
    have hj2 := ready_mono hj hji
    cases n with
    | zero => exact absurd hj2 (by simp [H.1])
    | succ n =>
      obtain ⟨hun, oj, hoj, hall⟩ := mem_ready.1 hj
      have hno : ∀ e ∈ oj.after, Region.binds md e = true → e.on ≠ i := fun e he hb e1 => by
        have h2 := hall e he hb
        have h3 := (mem_ready.1 hr).1
        rw [e1] at h2
        cases hl : L[i]? with
        | none => simp [hl] at h2
        | some b => simp [hl] at h2 h3; rw [h2] at h3; cases h3
      have hk := waits_not hz hr hj
      refine wpOp_mono (fun a' w' h3 => ?_) (wpOp_putIf hoj (hfree j oj hoj hji hun hno) (fun cs b => hs i o cs b hi) (fun cs b => hs j oj cs b hoj) hQ hy (H.2 j hj2))
      refine ⟨h3.2.1, AnyZ.first hi hs hQ hz n _ a' w' (fun k ok hok hki hun' hno' => hfree k ok hok hki ?_ hno') (ready_mono hr (Ne.symm hji)) h3.1 (h3.2.1 hk hS) ?_⟩
      · by_cases hjk : j = k
        · subst hjk; exact hun
        · rwa [getD_set_ne true hjk] at hun'
      · rw [Array.setIfInBounds_comm _ _ hji]
        exact h3.2.2

theorem anyZ_take {i : Nat} {oi : Oper} {v : Value} {n : Nat} {L : Array Bool} {a : Act} {w : World} (hi : ops[i]? = some oi) (hz : waits md ops Z i = true)
    (hs : Region.noSelect ops = true) (hf : Region.free md ops L i = true) (hr : (Region.ready md ops L).contains i = true)
    (hQ : ∀ c a w, Q (.panic c) (a.put oi.dst v) w → Q (.panic c) a w) (hy : YieldsIf P ops S oi v a) (hS : S w)
    (h : AnyZ P md ops Q S Z n (L.setIfInBounds i true) (a.put oi.dst v) w) : AnyZ P md ops Q S Z (n + 1) L a w :=
  AnyZ.first hi (Region.noSelect_spec hs) hQ hz n L a w (Region.free_spec hi hf) (by simpa using hr) hy hS h

/-- One that yields the same in every world may be taken first, whatever waits for it. -/
theorem AnyZ.free {i : Nat} {o : Oper} {v : Value} (hi : ops[i]? = some o) (hs : ∀ (j : Nat) (o : Oper) cs b, ops[j]? = some o → o.op ≠ .select cs b)
    (hQ : ∀ c a w, Q (.panic c) (a.put o.dst v) w → Q (.panic c) a w) :
    ∀ (n : Nat) (L : Array Bool) (a : Act) (w : World),
      (∀ j oj, ops[j]? = some oj → j ≠ i → L.getD j true = false → (∀ e ∈ oj.after, Region.binds md e = true → e.on ≠ i) → o.apart ops oj = true) →
      i ∈ Region.ready md ops L → YieldsIf P ops (fun _ => True) o v a → AnyZ P md ops Q S Z n (L.setIfInBounds i true) (a.put o.dst v) w → AnyZ P md ops Q S Z (n + 1) L a w
  | n, L, a, w, hfree, hr, hy, H => by
    refine ⟨fun h => absurd hr (by simp [h]), fun j hj => ?_⟩
    by_cases hji : j = i
    · subst hji
      exact hy.wpOp hi True.intro ⟨fun _ h => h, H⟩
    have hj2 := ready_mono hj hji
    cases n with
    | zero => exact absurd hj2 (by simp [H.1])
    | succ n =>
      obtain ⟨hun, oj, hoj, hall⟩ := mem_ready.1 hj
      have hno : ∀ e ∈ oj.after, Region.binds md e = true → e.on ≠ i := fun e he hb e1 => by
        have h2 := hall e he hb
        have h3 := (mem_ready.1 hr).1
        rw [e1] at h2
        cases hl : L[i]? with
        | none => simp [hl] at h2
        | some b => simp [hl] at h2 h3; rw [h2] at h3; cases h3
      refine wpOp_mono (fun a' w' h3 => ?_) (wpOp_putIf hoj (hfree j oj hoj hji hun hno) (fun cs b => hs i o cs b hi) (fun cs b => hs j oj cs b hoj) hQ hy (H.2 j hj2))
      refine ⟨h3.2.1, AnyZ.free hi hs hQ n _ a' w' (fun k ok hok hki hun' hno' => hfree k ok hok hki ?_ hno') (ready_mono hr (Ne.symm hji)) h3.1 ?_⟩
      · by_cases hjk : j = k
        · subst hjk; exact hun
        · rwa [getD_set_ne true hjk] at hun'
      · rw [Array.setIfInBounds_comm _ _ hji]
        exact h3.2.2
theorem anyZ_free {i : Nat} {oi : Oper} {v : Value} {n : Nat} {L : Array Bool} {a : Act} {w : World} (hi : ops[i]? = some oi)
    (hs : Region.noSelect ops = true) (hf : Region.free md ops L i = true) (hr : (Region.ready md ops L).contains i = true)
    (hQ : ∀ c a w, Q (.panic c) (a.put oi.dst v) w → Q (.panic c) a w) (hy : YieldsIf P ops (fun _ => True) oi v a)
    (h : AnyZ P md ops Q S Z n (L.setIfInBounds i true) (a.put oi.dst v) w) : AnyZ P md ops Q S Z (n + 1) L a w :=
  AnyZ.free hi (Region.noSelect_spec hs) hQ n L a w (Region.free_spec hi hf) (by simpa using hr) hy h

def AllZ (P : Program) (md : Region.Mode) (ops : Array Oper) (Q : Exit → Act → World → Prop) (S : World → Prop) (Z : List Nat) (n : Nat) (L : Array Bool) (a : Act) (w : World) (rs : List Nat) : Prop :=
  ∀ i ∈ rs, wpOp P ops Q i (fun a' w' => (Z.contains i = false → S w → S w') ∧ AnyZ P md ops Q S Z n (L.setIfInBounds i true) a' w') a w
theorem AllZ.nil {n : Nat} {L : Array Bool} {a : Act} {w : World} : AllZ P md ops Q S Z n L a w [] := fun _ h => absurd h (by simp)
/-- One that keeps S. -/
theorem AllZ.cons {n : Nat} {L : Array Bool} {a : Act} {w : World} {i : Nat} {o : Oper} {rs : List Nat} (ho : ops[i]? = some o)
    (h : ∀ K : Act → World → Prop, Shut (∀ a w, S w → (S w → AnyZ P md ops Q S Z n (L.setIfInBounds i true) a w) → K a w) → if Region.wanted o (yielded ops a.tmps) = true then Oper.wp P o a w K Q else K (a.put o.dst undef) w)
    (hs : AllZ P md ops Q S Z n L a w rs) : AllZ P md ops Q S Z n L a w (i :: rs) := fun j hj => by
  rcases List.mem_cons.1 hj with rfl | hj
  · exact wpOp_step ho fun K hK => h K fun a w hS hW => hK a w ⟨fun _ _ => hS, hW hS⟩
  · exact hs j hj
/-- One of Z. -/
theorem AllZ.last {n : Nat} {L : Array Bool} {a : Act} {w : World} {i : Nat} {o : Oper} {rs : List Nat} (ho : ops[i]? = some o) (hz : Z.contains i = true)
    (h : ∀ K : Act → World → Prop, Shut (∀ a w, AnyZ P md ops Q S Z n (L.setIfInBounds i true) a w → K a w) → if Region.wanted o (yielded ops a.tmps) = true then Oper.wp P o a w K Q else K (a.put o.dst undef) w)
    (hs : AllZ P md ops Q S Z n L a w rs) : AllZ P md ops Q S Z n L a w (i :: rs) := fun j hj => by
  rcases List.mem_cons.1 hj with rfl | hj
  · exact wpOp_step ho fun K hK => h K fun a w hW => hK a w ⟨fun e => absurd (hz.symm.trans e) (by decide), hW⟩
  · exact hs j hj
theorem anyZ_ready {rs : List Nat} {n : Nat} {L : Array Bool} {a : Act} {w : World} (hr : Region.ready md ops L = rs) (hne : rs ≠ []) (h : AllZ P md ops Q S Z n L a w rs) : AnyZ P md ops Q S Z (n + 1) L a w :=
  ⟨fun e => absurd (hr.symm.trans e) hne, by rw [hr]; exact h⟩
theorem anyZ_done {L : Array Bool} {a : Act} {w : World} (hr : Region.ready md ops L = []) (h : Q .normal a w) : ∀ n, AnyZ P md ops Q S Z n L a w
  | 0 => ⟨hr, h⟩
  | _ + 1 => ⟨fun _ => h, fun i hi => absurd hi (by simp [hr])⟩
theorem region_lastly {id : Nat} {a : Act} {w : World} (Z : List Nat) (hm : P.follows .mixedOrders = true) (hS : S w.drew)
    (h : S w.drew → AnyZ P .any ops Q S Z ops.size (Array.replicate ops.size false) a w.drew) : (Code.region id ops true).wp P Q a w :=
  wp_region_any hm (AnyZ.any _ _ _ _ (h hS))
end
end Go.Proofs.Ytdbolfmmlmoiaaa
