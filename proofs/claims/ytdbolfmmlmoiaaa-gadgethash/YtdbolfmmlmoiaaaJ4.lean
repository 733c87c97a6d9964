/-
  Joined texts: Lists of terms summed up, variable by variable from the least on. The document's own answers of layer 11 (package obolref11): a list summed up. The walks of the statements' own maker (obollaw12): lists of one and of two; one row more. The walks of the statements' own maker (obollaw12): new variables of lists, of products.
-/
import Derived.Test.YtdbolfmmlmoiaaaJ1
import Derived.Test.YtdbolfmmlmoiaaaJ3
import Derived.Test.YtdbolfmmlmoiaaaJ2

namespace Go.Proofs.Ytdbolfmmlmoiaaa
open Go.RowKit Go.Proofs
set_option linter.unusedVariables false
set_option linter.unusedSimpArgs false

/-- The least variable above last among a list's first k, or -1. -/
def NextIs (L : Lst) (last : Int) (k : Nat) (v : Int) : Prop := (v = -1 ∧ ∀ i, i < k → L.V i ≤ last) ∨ (last < v ∧ (∃ i, i < k ∧ L.V i = v) ∧ ∀ i, i < k → last < L.V i → v ≤ L.V i)
theorem NextIs.zero (L : Lst) (last : Int) : NextIs L last 0 (-1) := Or.inl ⟨rfl, fun i hi => by omega⟩
/-- A variable that isn't above last. -/
theorem NextIs.low {L : Lst} {last v : Int} {k : Nat} (h : NextIs L last k v) (hk : L.V k ≤ last) : NextIs L last (k + 1) v := by
  rcases h with ⟨h1, h2⟩ | ⟨h1, ⟨i, h2, h3⟩, h4⟩
  · exact Or.inl ⟨h1, fun j hj => by
      rcases Nat.lt_or_ge j k with h | h
      · exact h2 j h
      · obtain rfl : j = k := by omega
        exact hk⟩
  · exact Or.inr ⟨h1, ⟨i, by omega, h3⟩, fun j hj hl => by
      rcases Nat.lt_or_ge j k with h | h
      · exact h4 j h hl
      · obtain rfl : j = k := by omega
        omega⟩
/-- One that isn't below the least so far. -/
theorem NextIs.high {L : Lst} {last v : Int} {k : Nat} (h : NextIs L last k v) (hv : ¬ v < 0) (hk : v ≤ L.V k) : NextIs L last (k + 1) v := by
  rcases h with ⟨h1, h2⟩ | ⟨h1, ⟨i, h2, h3⟩, h4⟩
  · omega
  · exact Or.inr ⟨h1, ⟨i, by omega, h3⟩, fun j hj hl => by
      rcases Nat.lt_or_ge j k with h | h
      · exact h4 j h hl
      · obtain rfl : j = k := by omega
        exact hk⟩
/-- One that takes its place. -/
theorem NextIs.new {L : Lst} {last v : Int} {k : Nat} (hlast : -1 ≤ last) (h : NextIs L last k v) (hl : last < L.V k) (hk : v < 0 ∨ L.V k < v) : NextIs L last (k + 1) (L.V k) := by
  refine Or.inr ⟨hl, ⟨k, by omega, rfl⟩, fun j hj hjl => ?_⟩
  rcases Nat.lt_or_ge j k with h1 | h1
  · rcases h with ⟨h2, h3⟩ | ⟨h2, _, h4⟩
    · have := h3 j h1; omega
    · have := h4 j h1 hjl; omega
  · obtain rfl : j = k := by omega
    exact Int.le_refl _
/-- How many of a list's first k variables are above last. -/
def cntN (L : Lst) (last : Int) : Nat → Nat
  | 0 => 0
  | k + 1 => cntN L last k + (if last < L.V k then 1 else 0)
theorem cntN_le (L : Lst) (last : Int) : ∀ k, cntN L last k ≤ k
  | 0 => Nat.le_refl _
  | k + 1 => by
    show cntN L last k + (if last < L.V k then 1 else 0) ≤ k + 1
    have := cntN_le L last k
    split <;> omega
theorem cntN_mono (L : Lst) {a b : Int} (h : a ≤ b) : ∀ k, cntN L b k ≤ cntN L a k
  | 0 => Nat.le_refl _
  | k + 1 => by
    show cntN L b k + (if b < L.V k then 1 else 0) ≤ cntN L a k + (if a < L.V k then 1 else 0)
    have := cntN_mono L h k
    by_cases h1 : b < L.V k
    · rw [if_pos h1, if_pos (by omega)]; omega
    · rw [if_neg h1]; split <;> omega
theorem cntN_less (L : Lst) {a b : Int} (h : a < b) : ∀ k, (∃ i, i < k ∧ L.V i = b) → cntN L b k + 1 ≤ cntN L a k
  | 0, ⟨i, hi, _⟩ => by omega
  | k + 1, ⟨i, hi, e⟩ => by
    show cntN L b k + (if b < L.V k then 1 else 0) + 1 ≤ cntN L a k + (if a < L.V k then 1 else 0)
    rcases Nat.lt_or_ge i k with h1 | h1
    · have := cntN_less L h k ⟨i, h1, e⟩
      by_cases h2 : b < L.V k
      · rw [if_pos h2, if_pos (by omega)]; omega
      · rw [if_neg h2]; split <;> omega
    · obtain rfl : i = k := by omega
      have := cntN_mono L (Int.le_of_lt h) i
      rw [if_neg (by omega), if_pos (by omega)]
      omega
/-- A sum as far as variable last. -/
structure SumTo (L : Lst) (last : Int) (n : Nat) (V : Nat → Int) (K : Nat → Nat) : Prop where
  low : -1 ≤ last
  pos : ∀ i, i < n → 0 ≤ V i
  le : ∀ i, i < n → V i ≤ last
  rise : ∀ i j, i < j → j < n → V i < V j
  nz : ∀ i, i < n → K i ≠ 0 ∧ K i < 288230376287764481
  coef : ∀ i, i < n → Ob.toG (K i) = ksum L (V i)
  all : ∀ v : Int, 0 ≤ v → v ≤ last → ksum L v ≠ 0 → ∃ i, i < n ∧ V i = v
  few : n + cntN L last L.n ≤ L.n
theorem SumTo.zero (L : Lst) : SumTo L (-1) 0 (fun _ => 0) (fun _ => 0) :=
  ⟨by omega, fun i hi => by omega, fun i hi => by omega, fun i j _ hj => by omega, fun i hi => by omega, fun i hi => by omega, fun v h1 h2 => by omega, by have := cntN_le L (-1) L.n; omega⟩
theorem ksum_gap {L : Lst} {last v next : Int} (h : NextIs L last L.n next) (h1 : last < v) (h2 : v < next) : ksum L v = 0 := by
  refine ksumN_off fun i hi e => ?_
  rcases h with ⟨h3, h4⟩ | ⟨h3, _, h4⟩
  · have := h4 i hi; omega
  · have := h4 i hi (by omega); omega
/-- The next variable's factors are nothing together. -/
theorem SumTo.skip {L : Lst} {last next : Int} {n : Nat} {V : Nat → Int} {K : Nat → Nat} (h : SumTo L last n V K) (hn : NextIs L last L.n next) (hp : ¬ next < 0) (hk : ksum L next = 0) : SumTo L next n V K := by
  rcases hn with ⟨h1, _⟩ | ⟨h1, h2, h3⟩
  · omega
  have hn : NextIs L last L.n next := Or.inr ⟨h1, h2, h3⟩
  refine ⟨by omega, h.pos, fun i hi => by have := h.le i hi; omega, h.rise, h.nz, h.coef, fun v hv hle hne => ?_, ?_⟩
  · by_cases h4 : v ≤ last
    · exact h.all v hv h4 hne
    · by_cases h5 : v = next
      · subst h5; exact absurd hk hne
      · exact absurd (ksum_gap hn (by omega) (by omega)) hne
  · have := cntN_less L h1 L.n h2
    have := h.few
    omega
/-- They are k. -/
def putV (n : Nat) (v : Int) (V : Nat → Int) (i : Nat) : Int := if i = n then v else V i
def putK (n : Nat) (k : Nat) (K : Nat → Nat) (i : Nat) : Nat := if i = n then k else K i
theorem putV_at (n : Nat) (v : Int) (V : Nat → Int) : putV n v V n = v := if_pos rfl
theorem putK_at (n k : Nat) (K : Nat → Nat) : putK n k K n = k := if_pos rfl
theorem putV_lt {n i : Nat} (v : Int) (V : Nat → Int) (h : i < n) : putV n v V i = V i := if_neg (by omega)
theorem putK_lt {n i : Nat} (k : Nat) (K : Nat → Nat) (h : i < n) : putK n k K i = K i := if_neg (by omega)
theorem SumTo.put {L : Lst} {last next : Int} {n k : Nat} {V : Nat → Int} {K : Nat → Nat} (h : SumTo L last n V K) (hn : NextIs L last L.n next) (hp : ¬ next < 0) (hk : (ksum L next).val = k) (hk0 : k ≠ 0) : SumTo L next (n + 1) (putV n next V) (putK n k K) := by
  rcases hn with ⟨h1, _⟩ | ⟨h1, h2, h3⟩
  · omega
  have hn : NextIs L last L.n next := Or.inr ⟨h1, h2, h3⟩
  have hlt : k < 288230376287764481 := by rw [← hk]; exact (ksum L next).isLt
  refine ⟨by have := h.low; omega, fun i hi => ?_, fun i hi => ?_, fun i j hij hj => ?_, fun i hi => ?_, fun i hi => ?_, fun v hv hle hne => ?_, ?_⟩
  · rcases Nat.lt_or_ge i n with h4 | h4
    · rw [putV_lt _ _ h4]; exact h.pos i h4
    · obtain rfl : i = n := by omega
      rw [putV_at]; omega
  · rcases Nat.lt_or_ge i n with h4 | h4
    · rw [putV_lt _ _ h4]; have := h.le i h4; omega
    · obtain rfl : i = n := by omega
      rw [putV_at]; omega
  · rcases Nat.lt_or_ge j n with h4 | h4
    · rw [putV_lt _ _ h4, putV_lt _ _ (by omega)]; exact h.rise i j hij h4
    · obtain rfl : j = n := by omega
      rw [putV_at, putV_lt _ _ hij]
      have := h.le i hij
      omega
  · rcases Nat.lt_or_ge i n with h4 | h4
    · rw [putK_lt _ _ h4]; exact h.nz i h4
    · obtain rfl : i = n := by omega
      rw [putK_at]; exact ⟨hk0, hlt⟩
  · rcases Nat.lt_or_ge i n with h4 | h4
    · rw [putV_lt _ _ h4, putK_lt _ _ h4]; exact h.coef i h4
    · obtain rfl : i = n := by omega
      rw [putV_at, putK_at, ← hk, Ob.toG_of_val]
  · by_cases h4 : v ≤ last
    · obtain ⟨i, hi, e⟩ := h.all v hv h4 hne
      exact ⟨i, by omega, by rw [putV_lt _ _ hi]; exact e⟩
    · by_cases h5 : v = next
      · exact ⟨n, by omega, by rw [putV_at, h5]⟩
      · exact absurd (ksum_gap hn (by omega) (by omega)) hne
  · have := cntN_less L h1 L.n h2
    have := h.few
    omega
/-- No variable is above last: it is the sum. -/
theorem SumTo.done {L : Lst} {last : Int} {n : Nat} {V : Nat → Int} {K : Nat → Nat} (h : SumTo L last n V K) (hn : NextIs L last L.n (-1)) (a : Option Addr) (c : Nat) : IsSum L ⟨a, n, c, V, K⟩ where
  pos := h.pos
  rise := h.rise
  nz := h.nz
  coef := h.coef
  all := fun v hv hne => by
    rcases hn with ⟨_, h2⟩ | ⟨h1, _⟩
    · refine h.all v hv ?_ hne
      refine Decidable.byContradiction fun hlt => hne (ksumN_off fun i hi e => ?_)
      have := h2 i hi
      omega
    · have := h.low; omega
theorem SumTo.n_le {L : Lst} {last : Int} {n : Nat} {V : Nat → Int} {K : Nat → Nat} (h : SumTo L last n V K) : n ≤ L.n := by have := h.few; omega
/-- A sum is a list of words. -/
theorem IsSum.ok {L O : Lst} (h : IsSum L O) (hL : L.Ok) (h1 : O.n ≤ O.c) (h2 : O.c ≤ 9223372036854775807) : ∃ P : Lst, P.Ok ∧ IsSum L P ∧ P.ad = O.ad ∧ P.n = O.n ∧ P.c = O.c ∧ ∀ i, i < O.n → P.V i = O.V i ∧ P.K i = O.K i := by
  have hb : ∀ i, i < O.n → O.V i < 9223372036854775808 := fun i hi => by
    have hne : Go.Proofs.Ytdbolfmmlmoiaaa.ksum L (O.V i) ≠ 0 := by rw [← h.coef i hi]; exact toG_ne (h.nz i hi)
    refine Decidable.byContradiction fun hge => hne (ksumN_off fun j hj e => ?_)
    have := hL.V2 j
    omega
  refine ⟨⟨O.ad, O.n, O.c, fun i => if i < O.n then O.V i else 0, fun i => if i < O.n then O.K i else 0⟩, ⟨fun i => ?_, fun i => ?_, fun i => ?_, h1, h2⟩, ?_, rfl, rfl, rfl, fun i hi => ⟨if_pos hi, if_pos hi⟩⟩
  · show _ ≤ (if i < O.n then O.V i else 0)
    split
    · have := h.pos i (by assumption); omega
    · omega
  · show (if i < O.n then O.V i else 0) < _
    split
    · exact hb i (by assumption)
    · omega
  · show (if i < O.n then O.K i else 0) < _
    split
    · have := (h.nz i (by assumption)).2; omega
    · omega
  · have eV : ∀ i, i < O.n → (if i < O.n then O.V i else 0) = O.V i := fun i hi => if_pos hi
    have eK : ∀ i, i < O.n → (if i < O.n then O.K i else 0) = O.K i := fun i hi => if_pos hi
    refine ⟨fun i hi => ?_, fun i j hij hj => ?_, fun i hi => ?_, fun i hi => ?_, fun v hv hne => ?_⟩
    · show 0 ≤ (if i < O.n then O.V i else 0); rw [eV i hi]; exact h.pos i hi
    · show (if i < O.n then O.V i else 0) < (if j < O.n then O.V j else 0); rw [eV j hj, eV i (Nat.lt_trans hij hj)]; exact h.rise i j hij hj
    · show (if i < O.n then O.K i else 0) ≠ 0 ∧ (if i < O.n then O.K i else 0) < _; rw [eK i hi]; exact h.nz i hi
    · show Ob.toG (if i < O.n then O.K i else 0) = Go.Proofs.Ytdbolfmmlmoiaaa.ksum L (if i < O.n then O.V i else 0); rw [eK i hi, eV i hi]; exact h.coef i hi
    · obtain ⟨i, hi, e⟩ := h.all v hv hne
      exact ⟨i, hi, (eV i hi).trans e⟩
end Go.Proofs.Ytdbolfmmlmoiaaa

namespace Go.Proofs.Ytdbolfmmlmoiaaa
open Go.RowKit Go.Proofs
set_option linter.unusedVariables false
set_option linter.unusedSimpArgs false
attribute [local go_sem ↓] Go.wp_at_zero Go.wp_at_succ
/-- A list that is a sum of another, in memory of its own. -/
def SumRes (L : Lst) (W w' : World) (v : Value) : Prop := ∃ n V K, OwnT w' W.heap.size v n V K ∧ IsSum L ⟨none, n, 0, V, K⟩ ∧ n ≤ L.n
/-- As a list. -/
theorem SumRes.list {L : Lst} {W w' : World} {v : Value} (h : SumRes L W w' v) (hL : L.Ok) : ∃ P : Lst, P.Ok ∧ IsSum L P ∧ v = P.val ∧ P.At w'.heap.size w' ∧ P.n ≤ L.n ∧ OwnX w' W.heap.size v P.n := by
  obtain ⟨n, V, K, h1, h2, h3⟩ := h
  obtain ⟨a, c, rfl, h4, h5, h6⟩ := h1.trms
  have h2' : IsSum L ⟨a, n, c, V, K⟩ := ⟨h2.pos, h2.rise, h2.nz, h2.coef, h2.all⟩
  obtain ⟨P, p1, p2, p3, p4, p5, p6⟩ := h2'.ok hL h4 (by unfold maxLen at h5; omega)
  have p3 : P.ad = a := p3
  have p4 : P.n = n := p4
  have p5 : P.c = c := p5
  refine ⟨P, p1, p2, by unfold Lst.val; rw [p3, p4, p5], ?_, by omega, by rw [p4]; exact h1.any⟩
  unfold Lst.At
  rw [p3, p4]
  rcases h6 with h | ⟨b, off, rfl, lb, t⟩
  · exact Or.inl h
  · exact Or.inr ⟨b, off, rfl, lb, t.lt, fun i hi => by rw [(p6 i hi).1]; exact t.c0 i hi, fun i hi => by rw [(p6 i hi).2]; exact t.c1 i hi⟩
theorem trm_one {w : World} {x : Int} {k : Nat} {t : TypeId} : (w.alloc (.cells #[.int .i64 x, .int .u64 (k : Nat)] t)).cell? ⟨w.heap.size, 0, none⟩ = some (.int .i64 x) ∧ (w.alloc (.cells #[.int .i64 x, .int .u64 (k : Nat)] t)).cell? ⟨w.heap.size, 1, none⟩ = some (.int .u64 (k : Nat)) := by
  constructor <;> simp [go_sem]
set_option maxRecDepth 8000 in
set_option maxHeartbeats 16000000 in
theorem vsumW (L : Lst) (hL : L.Ok) (hLn : L.n ≤ 1000000) (w : World) (hA : L.At w.heap.size w) :
    Calls Try.prog 63 #[L.val] w fun e w' => ∃ v, e = .returned v ∧ SumRes L w w' v ∧ Below w.heap.size w w' := by
  have hA' : Hid (L.At w.heap.size w) := hA
  have hL' : Hid L.Ok := hL
  clear hA hL
  unfold Lst.val
  go_enter Try.func63, Try.ntmps63
  go_wp2
  go_loopw [3, 4] (fun so sl wr => ∃ (last : Int) (n : Nat) (V : Nat → Int) (K : Nat → Nat) (o : Value), o = so ∧ sl = .int .i64 last ∧ last < 9223372036854775808 ∧ Below w.heap.size w wr ∧ Hid (OwnT wr w.heap.size o n V K) ∧ Hid (SumTo L last n V K)) (fun so sl _ => cntN L (intOf sl) L.n)
  case atStart => exact ⟨-1, 0, _, _, _, rfl, rfl, by decide, by (repeat' (first | (with_reducible first | exact Below.refl _ _ | assumption | refine Below.alloc ?_ ?_ _ | refine Below.drew ?_ | refine below_drewN ?_ _ | refine Below.setCell ?_ ?_ _ | refine below_via (by with_reducible assumption) ?_ ?_) | omega | (simp only [szs]; omega) | (simp only [szs] at *; omega))), OwnT.nil _ _ _ _, SumTo.zero L⟩
  case round =>
    obtain ⟨last, n, V, K, o, rfl, rfl, hlast, hB, hown, hS⟩ := hrel
    have hlow := hS.out.low
    have hlow' : Hid (-1 ≤ last) := hlow
    go_wp2
    go_loopw [5, 6] (fun sx si wi => ∃ (i : Nat) (v : Int), i ≤ L.n ∧ sx = .int .i64 v ∧ si = .int .i64 i ∧ v < 9223372036854775808 ∧ -1 ≤ v ∧ wi = wr ∧ Hid (NextIs L last i v)) (fun sx si _ => L.n - (intOf si).toNat)
    case atStart => exact ⟨0, -1, by omega, rfl, rfl, by decide, by decide, rfl, NextIs.zero L last⟩
    case round =>
      obtain ⟨i, v, hi, rfl, rfl, hv, hv1, rfl, hN⟩ := hrel
      by_cases hlt : i < L.n
      · have hlt' : (i : Int) < (L.n : Int) := by omega
        rcases hA'.out with hz | ⟨b, off, hb, lb, tb⟩
        · omega
        have c0 := (tb.below hB lb).c0 i hlt
        have hV1 := hL'.out.V1 i
        have hV2 := hL'.out.V2 i
        rw [hb]
        obtain ⟨x, hx⟩ : ∃ x, Hid (L.V i = x) := ⟨_, rfl⟩
        rw [hx.out] at c0 hV1 hV2
        clear tb lb hb
        by_cases h1 : last < x
        · by_cases h2 : v < 0
          · have hN2 : Hid (NextIs L last (i + 1) x) := by have := NextIs.new hlow'.out hN.out (show last < L.V i by rw [hx.out]; exact h1) (Or.inl h2); rw [hx.out] at this; exact this
            go_wp2
            go_roundw
            case rel => exact ⟨i + 1, x, by omega, by first | rfl | trivial, by go_num, hV2, by omega, by first | rfl | trivial, hN2⟩
            case measure => first | (simp [intOf]; done) | (simp [intOf]; omega)
          · by_cases h3 : x < v
            · have hN2 : Hid (NextIs L last (i + 1) x) := by have := NextIs.new hlow'.out hN.out (show last < L.V i by rw [hx.out]; exact h1) (Or.inr (by rw [hx.out]; exact h3)); rw [hx.out] at this; exact this
              go_wp2
              go_roundw
              case rel => exact ⟨i + 1, x, by omega, by first | rfl | trivial, by go_num, hV2, by omega, by first | rfl | trivial, hN2⟩
              case measure => first | (simp [intOf]; done) | (simp [intOf]; omega)
            · have hN2 : Hid (NextIs L last (i + 1) v) := hN.out.high h2 (by rw [hx.out]; omega)
              go_wp2
              go_roundw
              case rel => exact ⟨i + 1, v, by omega, by first | rfl | trivial, by go_num, hv, hv1, by first | rfl | trivial, hN2⟩
              case measure => first | (simp [intOf]; done) | (simp [intOf]; omega)
        · have hN2 : Hid (NextIs L last (i + 1) v) := hN.out.low (by rw [hx.out]; omega)
          go_wp2
          go_roundw
          case rel => exact ⟨i + 1, v, by omega, by first | rfl | trivial, by go_num, hv, hv1, by first | rfl | trivial, hN2⟩
          case measure => first | (simp [intOf]; done) | (simp [intOf]; omega)
      · obtain rfl : i = L.n := by omega
        have hlt' : ¬ (L.n : Int) < (L.n : Int) := by omega
        by_cases h0 : v < 0
        · obtain rfl : v = -1 := by omega
          have hd : Hid (IsSum L ⟨none, n, 0, V, K⟩) := hS.out.done hN.out none 0
          have hle : n ≤ L.n := hS.out.n_le
          go_wp2
          go_ret
          exact ⟨_, rfl, ⟨n, V, K, hown.out, hd.out, hle⟩, hB⟩
        · have hN2 : Hid (NextIs L last L.n v) := hN
          have h0' : Hid (¬ v < 0) := h0
          have hless : Hid (cntN L v L.n < cntN L last L.n) := by
            rcases hN.out with ⟨h, _⟩ | ⟨h1, h2, _⟩
            · omega
            · have := cntN_less L h1 L.n h2
              show _ < _
              omega
          clear hN hlow
          go_wp2
          go_loopw [7, 8] (fun sk si wi => ∃ (i k : Nat), i ≤ L.n ∧ sk = .int .u64 k ∧ si = .int .i64 i ∧ wi = wr ∧ Hid ((ksumN L v i).val = k)) (fun _ si _ => L.n - (intOf si).toNat)
          case atStart => exact ⟨0, 0, by omega, rfl, rfl, rfl, rfl⟩
          case round =>
            obtain ⟨i, k, hi, rfl, rfl, rfl, hk⟩ := hrel
            by_cases hlt : i < L.n
            · have hlt2 : (i : Int) < (L.n : Int) := by omega
              rcases hA'.out with hz | ⟨b, off, hb, lb, tb⟩
              · omega
              have c0 := (tb.below hB lb).c0 i hlt
              have c1 := (tb.below hB lb).c1 i hlt
              have hK := hL'.out.K1 i
              rw [hb]
              by_cases h1 : L.V i = v
              · have cp := gplusW k (L.K i) (by rw [← hk.out]; exact Ob.G_word _) hK
                have hk2 : Hid ((ksumN L v (i + 1)).val = (Ob.toG k + Ob.toG (L.K i)).val) := by
                  show (ksumN L v i + (if L.V i = v then Ob.toG (L.K i) else 0)).val = _
                  rw [if_pos h1, ← hk.out, Ob.toG_of_val]
                rw [h1] at c0
                clear h1
                generalize (Ob.toG k + Ob.toG (L.K i)).val = k2 at *
                generalize L.K i = Ki at *
                clear tb lb hb hk
                go_wp2_with (first | (go_at_call 26; first | (with_reducible refine (cp _).mono ?_; rintro e w' ⟨rfl, rfl⟩)))
                go_roundw
                case rel => exact ⟨i + 1, k2, by omega, by first | rfl | trivial, by go_num, by first | rfl | trivial, hk2⟩
                case measure => first | (simp [intOf]; done) | (simp [intOf]; omega)
              · have hk2 : Hid ((ksumN L v (i + 1)).val = k) := by
                  show (ksumN L v i + (if L.V i = v then Ob.toG (L.K i) else 0)).val = k
                  rw [if_neg h1, ← hk.out]
                  refine congrArg Fin.val ?_
                  generalize ksumN L v i = t
                  grobner
                have h1' : (L.V i == v) = false := by rw [beq_eq_false_iff_ne]; exact h1
                generalize L.V i = x at *
                clear tb lb hb hk h1
                go_wp2
                go_roundw
                case rel => exact ⟨i + 1, k, by omega, by first | rfl | trivial, by go_num, by first | rfl | trivial, hk2⟩
                case measure => first | (simp [intOf]; done) | (simp [intOf]; omega)
            · obtain rfl : i = L.n := by omega
              have hlt2 : ¬ (L.n : Int) < (L.n : Int) := by omega
              by_cases hk0 : k = 0
              · subst hk0
                have hS2 : Hid (SumTo L v n V K) := hS.out.skip hN2.out (by have := h0'.out; omega) (Fin.ext hk.out)
                go_wp2
                go_roundw
                case rel => exact ⟨v, n, V, K, _, rfl, by first | rfl | trivial, hv, hB, hown, hS2⟩
                case measure => exact hless.out
              · have hk0' : ((k : Int) == 0) = false := by rw [beq_eq_false_iff_ne]; omega
                have hS2 : Hid (SumTo L v (n + 1) (putV n v V) (putK n k K)) := hS.out.put hN2.out (by have := h0'.out; omega) hk.out hk0
                have hn : n ≤ 1000000 := Nat.le_trans hS.out.n_le hLn
                have hzB := hB.size
                have hown2 : Hid (OwnT (wr.alloc (.cells #[.int .i64 v, .int .u64 (k : Nat)] 61)) w.heap.size o n (putV n v V) (putK n k K)) := (hown.out.congr fun i hi => ⟨(putV_lt v V hi).symm, (putK_lt k K hi).symm⟩).on ((Below.refl _ _).alloc (Nat.le_refl _) _)
                have q0 : Hid ((wr.alloc (.cells #[.int .i64 v, .int .u64 (k : Nat)] 61)).cell? ⟨wr.heap.size, 0, none⟩ = some (.int .i64 (putV n v V n))) := by show _ = _; rw [putV_at]; exact trm_one.1
                have q1 : Hid ((wr.alloc (.cells #[.int .i64 v, .int .u64 (k : Nat)] 61)).cell? ⟨wr.heap.size, 1, none⟩ = some (.int .u64 (putK n k K n : Nat))) := by show _ = _; rw [putK_at]; exact trm_one.2
                clear hS hown hk hk0
                go_wp2_with (at_builtin; refine wpList_app1T rfl _ _ rfl w.heap.size _ n (putV n v V) (putK n k K) rfl hown2.out wr.heap.size rfl q0.out q1.out hn (by simp only [szs]; omega) ?_; intro v' w1 ho hB1)
                have ho' : Hid (OwnT w1 w.heap.size v' (n + 1) (putV n v V) (putK n k K)) := ho
                have hB2 : Below w.heap.size w w1 := below_via hB1 (by (repeat' (first | (with_reducible first | exact Below.refl _ _ | assumption | refine Below.alloc ?_ ?_ _ | refine Below.drew ?_ | refine below_drewN ?_ _ | refine Below.setCell ?_ ?_ _ | refine below_via (by with_reducible assumption) ?_ ?_) | omega | (simp only [szs]; omega) | (simp only [szs] at *; omega)))) (Nat.le_refl _)
                clear ho hB1 q0 q1 hown2
                go_wp2
                go_roundw
                case rel => exact ⟨v, n + 1, _, _, _, rfl, by first | rfl | trivial, hv, hB2, ho', hS2⟩
                case measure => exact hless.out
end Go.Proofs.Ytdbolfmmlmoiaaa

namespace Go.Proofs.Ytdbolfmmlmoiaaa
open Go.RowKit Go.Proofs
set_option linter.unusedVariables false
set_option linter.unusedSimpArgs false
attribute [local go_sem ↓] Go.wp_at_zero Go.wp_at_succ
/-- The same terms, wherever they lie. -/
def LEq (L M : Lst) : Prop := L.n = M.n ∧ ∀ i, i < L.n → L.V i = M.V i ∧ L.K i = M.K i
theorem LEq.refl (L : Lst) : LEq L L := ⟨rfl, fun i _ => ⟨rfl, rfl⟩⟩
theorem LEq.trans {L M N : Lst} (h : LEq L M) (k : LEq M N) : LEq L N := ⟨h.1.trans k.1, fun i hi => ⟨(h.2 i hi).1.trans (k.2 i (by rw [← h.1]; exact hi)).1, (h.2 i hi).2.trans (k.2 i (by rw [← h.1]; exact hi)).2⟩⟩
theorem LEq.ksumN {L M : Lst} (h : LEq L M) (v : Int) : ∀ {i : Nat}, i ≤ L.n → ksumN L v i = ksumN M v i
  | 0, _ => rfl
  | i + 1, hi => by
    show Go.Proofs.Ytdbolfmmlmoiaaa.ksumN L v i + _ = Go.Proofs.Ytdbolfmmlmoiaaa.ksumN M v i + _
    rw [LEq.ksumN h v (by omega), (h.2 i (by omega)).1, (h.2 i (by omega)).2]
theorem LEq.ksum {L M : Lst} (h : LEq L M) (v : Int) : ksum L v = ksum M v := by
  unfold Go.Proofs.Ytdbolfmmlmoiaaa.ksum
  rw [h.ksumN v (Nat.le_refl _), h.1]
theorem LEq.isSum {L M O : Lst} (h : LEq L M) (k : IsSum L O) : IsSum M O := ⟨k.pos, k.rise, k.nz, fun i hi => (k.coef i hi).trans (h.ksum _), fun v hv hne => k.all v hv (by rw [h.ksum]; exact hne)⟩
theorem LEq.val {L M : Lst} (h : LEq L M) (n : Nat) (x : Nat → Nat) : valL L n x = valL M n x := by
  rw [valL_ksum, valL_ksum]
  exact sumV_congr fun v _ => by rw [h.ksum]
/-- Three lists that were made: their roles. -/
theorem MdlP.lists {r : Nat → Nat} {w w' : World} {b : Nat} {x y : Int} {vr vv : Value} {m : Nat} {R : Nat → Nat → Lst} {n : Nat} {v : Nat → Nat} (t : MdlP r w b x y vr vv m R n v) (hb : Below w.heap.size w w') {P Q T : Lst}
   (hP : P.At w'.heap.size w') (hQ : Q.At w'.heap.size w') (hT : T.At w'.heap.size w') (oP : ∀ k, P.val.ownBlock = some k → w.heap.size ≤ k) (oQ : ∀ k, Q.val.ownBlock = some k → w.heap.size ≤ k) (oT : ∀ k, T.val.ownBlock = some k → w.heap.size ≤ k) :
    ∃ s : Nat → Nat, MdlP s w' b x y vr vv m R n v ∧ (LstIn s w' P ∧ LstIn s w' Q ∧ LstIn s w' T) ∧ (∀ k, s k ≠ 0 → r k ≠ 0 ∨ w.heap.size ≤ k) ∧ (∀ k, r k ≠ 0 → s k = r k) := by
  have hz : ∀ k, w.heap.size ≤ k → r k = 0 := fun k hk => Decidable.byContradiction fun h => by have := t.lt k h; omega
  have key : ∀ {L : Lst}, L.At w'.heap.size w' → L.n = 0 ∨ ∃ g off, L.ad = some ⟨g, off, none⟩ ∧ g < w'.heap.size ∧ TrmsIn w' g off L.n L.V L.K := fun {L} h => by
    rcases h with h | ⟨g, off, h1, h2, h3⟩
    · exact Or.inl h
    · exact Or.inr ⟨g, off, h1, h2, h3⟩
  have inn : ∀ {L : Lst} {s : Nat → Nat}, L.At w'.heap.size w' → (∀ k, L.val.ownBlock = some k → k < w'.heap.size → s k = 4) → LstIn s w' L := fun {L s} h hs => by
    rcases key h with h | ⟨g, off, h1, h2, h3⟩
    · exact Or.inl h
    · exact Or.inr ⟨g, off, h1, hs g (by unfold Lst.val Value.ownBlock; rw [h1]) h2, h3⟩
  refine ⟨fun k => if k < w'.heap.size ∧ (P.val.ownBlock = some k ∨ Q.val.ownBlock = some k ∨ T.val.ownBlock = some k) then 4 else r k, (t.below hb).more (fun k hk => ?_) (fun k hk => ?_), ⟨inn hP fun k hk hl => if_pos ⟨hl, Or.inl hk⟩, inn hQ fun k hk hl => if_pos ⟨hl, Or.inr (Or.inl hk)⟩, inn hT fun k hk hl => if_pos ⟨hl, Or.inr (Or.inr hk)⟩⟩, fun k hk => ?_, fun k hk => ?_⟩
  · refine if_neg ?_
    rintro ⟨_, h | h | h⟩
    · exact hk (hz k (oP k h))
    · exact hk (hz k (oQ k h))
    · exact hk (hz k (oT k h))
  · split at hk
    · rename_i h; exact h.1
    · have := t.lt k hk; have := hb.size; omega
  · dsimp only at hk
    split at hk
    · rename_i h
      rcases h.2 with h | h | h
      · exact Or.inr (oP k h)
      · exact Or.inr (oQ k h)
      · exact Or.inr (oT k h)
    · exact Or.inl hk
  · refine if_neg ?_
    rintro ⟨_, h | h | h⟩
    · exact hk (hz k (oP k h))
    · exact hk (hz k (oQ k h))
    · exact hk (hz k (oT k h))
/-- A list that was made: as a list, its block new. -/
theorem SumRes.made {L : Lst} {W w' : World} {v : Value} (h : SumRes L W w' v) (hL : L.Ok) : ∃ P : Lst, P.Ok ∧ IsSum L P ∧ v = P.val ∧ P.At w'.heap.size w' ∧ P.n ≤ L.n ∧ ∀ k, P.val.ownBlock = some k → W.heap.size ≤ k := by
  have hlt : ∀ k, v.ownBlock = some k → W.heap.size ≤ k := by
    obtain ⟨n, V, K, h1, _, _⟩ := h
    exact fun k hk => (h1.lt k hk).1
  obtain ⟨P, h1, h2, h3, h4, h5, _⟩ := h.list hL
  exact ⟨P, h1, h2, h3, h4, h5, by rw [← h3]; exact hlt⟩
theorem mjustW (v : Nat) (hv : v < 9223372036854775808) (w : World) : Calls Try.prog 33 #[.int .i64 (v : Nat)] w fun e w' => ∃ L : Lst, e = .returned L.val ∧ L.Ok ∧ L.n = 1 ∧ LEq L (just v) ∧ L.At w'.heap.size w' ∧ Below w.heap.size w w' := by
  go_enter Try.func33, Try.ntmps33
  go_wp2
  go_ret
  refine ⟨⟨some ⟨w.heap.size, 0, none⟩, 1, 1, fun _ => (v : Nat), fun _ => 1⟩, rfl, ⟨fun _ => (by show -9223372036854775808 ≤ (v : Int); omega), fun _ => (by show (v : Int) < 9223372036854775808; omega), fun _ => (by show 1 < 18446744073709551616; decide), Nat.le_refl _, (by show 1 ≤ 9223372036854775807; decide)⟩, rfl, ⟨rfl, fun i hi => ?_⟩, ?_, by (repeat' (first | (with_reducible first | exact Below.refl _ _ | assumption | refine Below.alloc ?_ ?_ _ | refine Below.drew ?_ | refine below_drewN ?_ _ | refine Below.setCell ?_ ?_ _ | refine below_via (by with_reducible assumption) ?_ ?_) | omega | (simp only [szs]; omega) | (simp only [szs] at *; omega)))⟩
  · obtain rfl : i = 0 := by have : i < 1 := hi; omega
    exact ⟨rfl, rfl⟩
  · refine Or.inr ⟨w.heap.size, 0, rfl, by simp, by simp, fun i hi => ?_, fun i hi => ?_⟩
    · obtain rfl : i = 0 := by have : i < 1 := hi; omega
      simp [go_sem]
    · obtain rfl : i = 0 := by have : i < 1 := hi; omega
      simp [go_sem]
theorem mlessW (a b : Nat) (ha : a < 9223372036854775808) (hb : b < 9223372036854775808) (w : World) : Calls Try.prog 39 #[.int .i64 (a : Nat), .int .i64 (b : Nat)] w fun e w' => ∃ L : Lst, e = .returned L.val ∧ L.Ok ∧ L.n = 2 ∧ LEq L (less a b) ∧ L.At w'.heap.size w' ∧ Below w.heap.size w w' := by
  go_enter Try.func39, Try.ntmps39
  go_wp2
  go_ret
  refine ⟨⟨some ⟨w.heap.size, 0, none⟩, 2, 2, fun i => if i = 0 then (a : Nat) else (b : Nat), fun i => if i = 0 then 1 else 288230376287764480⟩, rfl, ⟨fun i => ?_, fun i => ?_, fun i => ?_, Nat.le_refl _, (by show 2 ≤ 9223372036854775807; decide)⟩, rfl, ⟨rfl, fun i hi => ?_⟩, ?_, by (repeat' (first | (with_reducible first | exact Below.refl _ _ | assumption | refine Below.alloc ?_ ?_ _ | refine Below.drew ?_ | refine below_drewN ?_ _ | refine Below.setCell ?_ ?_ _ | refine below_via (by with_reducible assumption) ?_ ?_) | omega | (simp only [szs]; omega) | (simp only [szs] at *; omega)))⟩
  · show _ ≤ (if i = 0 then (a : Int) else (b : Int)); split <;> omega
  · show (if i = 0 then (a : Int) else (b : Int)) < _; split <;> omega
  · show (if i = 0 then 1 else 288230376287764480) < _; split <;> decide
  · obtain rfl | rfl : i = 0 ∨ i = 1 := by have : i < 2 := hi; omega
    · exact ⟨rfl, rfl⟩
    · exact ⟨rfl, rfl⟩
  · refine Or.inr ⟨w.heap.size, 0, rfl, by simp, by simp, fun i hi => ?_, fun i hi => ?_⟩
    · obtain rfl | rfl : i = 0 ∨ i = 1 := by have : i < 2 := hi; omega
      · simp [go_sem]
      · simp [go_sem]
    · obtain rfl | rfl : i = 0 ∨ i = 1 := by have : i < 2 := hi; omega
      · simp [go_sem]
      · simp [go_sem]
set_option maxRecDepth 4000 in
set_option maxHeartbeats 8000000 in
theorem mrowW (r : Nat → Nat) (b : Nat) (S : Mk) (hm : S.m ≤ 100000) (A B C : Lst) (hA : A.Ok) (hB : B.Ok) (hC : C.Ok) (nA : A.n ≤ 1000) (nB : B.n ≤ 1000) (nC : C.n ≤ 1000) (a' b' c' : Lst) (eA : LEq A a') (eB : LEq B b') (eC : LEq C c') (w : World) (h : Mdl r w b S) (tA : A.At w.heap.size w) (tB : B.At w.heap.size w) (tC : C.At w.heap.size w) :
    Calls Try.prog 40 #[.pointer (some ⟨b, 0, none⟩), A.val, B.val, C.val] w fun e w' => e = .returned (.tuple #[]) ∧ After r w w' b (S.row a' b' c') := by
  obtain ⟨vr, vv, R, t, hS, hO⟩ := h
  have c2 := t.c2
  have hblt := t.blt
  have cA := fun W h => vsumW A hA (by omega) W (TrmsAt.to tA h (Nat.le_refl _))
  have cB := fun W h => vsumW B hB (by omega) W (TrmsAt.to tB h (Nat.le_refl _))
  have cC := fun W h => vsumW C hC (by omega) W (TrmsAt.to tC h (Nat.le_refl _))
  have t' : Hid (MdlP r w b (S.n : Nat) (S.pub : Nat) vr vv S.m R S.n S.v) := t
  have hkeep : Hid (∀ W, Below w.heap.size w W → W.cell? ⟨b, 2, none⟩ = some vr) := fun W hW => by rw [(bcell hW).1 b 2 hblt]; exact c2
  have hA' : Hid A.Ok := hA
  have hB' : Hid B.Ok := hB
  have hC' : Hid C.Ok := hC
  clear t tA tB tC hA hB hC
  unfold Lst.val at *
  go_enter Try.func40, Try.ntmps40
  refine wp_region_noPanic ?_
  refine region_lastly (S := (fun w' => w'.cell? ⟨b, 2, none⟩ = some vr)) [14, 18] (by kernel_rfl) (by ((try dsimp only); (exact hkeep.out _ (by (repeat' (first | (with_reducible first | exact Below.refl _ _ | assumption | refine Below.alloc ?_ ?_ _ | refine Below.drew ?_ | refine below_drewN ?_ _ | refine Below.setCell ?_ ?_ _ | refine below_via (by with_reducible assumption) ?_ ?_) | omega | (simp only [szs]; omega) | (simp only [szs] at *; omega))))))) (fun hHeld => ?_)
  refine anyZ_free (i := 0) (oi := ?oi_1) (v := ?v_1) ?hi_1 ?hs_1 ?hf_1 ?hr_1 ?hQ_1 (Or.inl ⟨?hw_1, ?hy_1⟩) ?hrest_1
  case hi_1 => (simp only [List.getElem?_toArray, List.getElem?_cons_succ, List.getElem?_cons_zero]; exact rfl)
  case hs_1 => kernel_rfl
  case hf_1 => kernel_rfl
  case hr_1 => kernel_rfl
  case hQ_1 => exact fun _ _ _ h => h
  case hw_1 => rfl
  case hy_1 => (intro w _; go_simp; try with_reducible rfl)
  try simp only [Act.put, List.setIfInBounds_toArray, List.set_cons_zero, List.set_cons_succ]
  refine anyZ_free (i := 1) (oi := ?oi_2) (v := ?v_2) ?hi_2 ?hs_2 ?hf_2 ?hr_2 ?hQ_2 (Or.inl ⟨?hw_2, ?hy_2⟩) ?hrest_2
  case hi_2 => (simp only [List.getElem?_toArray, List.getElem?_cons_succ, List.getElem?_cons_zero]; exact rfl)
  case hs_2 => kernel_rfl
  case hf_2 => kernel_rfl
  case hr_2 => kernel_rfl
  case hQ_2 => exact fun _ _ _ h => h
  case hw_2 => rfl
  case hy_2 => (intro w _; go_simp; try with_reducible rfl)
  try simp only [Act.put, List.setIfInBounds_toArray, List.set_cons_zero, List.set_cons_succ]
  refine anyZ_free (i := 2) (oi := ?oi_3) (v := ?v_3) ?hi_3 ?hs_3 ?hf_3 ?hr_3 ?hQ_3 (Or.inl ⟨?hw_3, ?hy_3⟩) ?hrest_3
  case hi_3 => (simp only [List.getElem?_toArray, List.getElem?_cons_succ, List.getElem?_cons_zero]; exact rfl)
  case hs_3 => kernel_rfl
  case hf_3 => kernel_rfl
  case hr_3 => kernel_rfl
  case hQ_3 => exact fun _ _ _ h => h
  case hw_3 => rfl
  case hy_3 => (intro w _; go_simp; try with_reducible rfl)
  try simp only [Act.put, List.setIfInBounds_toArray, List.set_cons_zero, List.set_cons_succ]
  refine anyZ_free (i := 3) (oi := ?oi_4) (v := ?v_4) ?hi_4 ?hs_4 ?hf_4 ?hr_4 ?hQ_4 (Or.inl ⟨?hw_4, ?hy_4⟩) ?hrest_4
  case hi_4 => (simp only [List.getElem?_toArray, List.getElem?_cons_succ, List.getElem?_cons_zero]; exact rfl)
  case hs_4 => kernel_rfl
  case hf_4 => kernel_rfl
  case hr_4 => kernel_rfl
  case hQ_4 => exact fun _ _ _ h => h
  case hw_4 => rfl
  case hy_4 => (intro w _; go_simp; try with_reducible rfl)
  try simp only [Act.put, List.setIfInBounds_toArray, List.set_cons_zero, List.set_cons_succ]
  refine anyZ_free (i := 4) (oi := ?oi_5) (v := ?v_5) ?hi_5 ?hs_5 ?hf_5 ?hr_5 ?hQ_5 (Or.inl ⟨?hw_5, ?hy_5⟩) ?hrest_5
  case hi_5 => (simp only [List.getElem?_toArray, List.getElem?_cons_succ, List.getElem?_cons_zero]; exact rfl)
  case hs_5 => kernel_rfl
  case hf_5 => kernel_rfl
  case hr_5 => kernel_rfl
  case hQ_5 => exact fun _ _ _ h => h
  case hw_5 => rfl
  case hy_5 => (intro w _; go_simp; try with_reducible rfl)
  try simp only [Act.put, List.setIfInBounds_toArray, List.set_cons_zero, List.set_cons_succ]
  refine anyZ_take (i := 5) (oi := ?oi_6) (v := ?v_6) ?hi_6 ?hz_6 ?hs_6 ?hf_6 ?hr_6 ?hQ_6 (Or.inl ⟨?hw_6, ?hy_6⟩) ?hS_6 ?hrest_6
  case hi_6 => (simp only [List.getElem?_toArray, List.getElem?_cons_succ, List.getElem?_cons_zero]; exact rfl)
  case hz_6 => kernel_rfl
  case hs_6 => kernel_rfl
  case hf_6 => kernel_rfl
  case hr_6 => kernel_rfl
  case hQ_6 => exact fun _ _ _ h => h
  case hw_6 => rfl
  case hS_6 => assumption
  case hy_6 => (intro w hSw; (try dsimp only at hSw); go_simp; try with_reducible rfl)
  try simp only [Act.put, List.setIfInBounds_toArray, List.set_cons_zero, List.set_cons_succ]
  refine anyZ_free (i := 6) (oi := ?oi_7) (v := ?v_7) ?hi_7 ?hs_7 ?hf_7 ?hr_7 ?hQ_7 (Or.inl ⟨?hw_7, ?hy_7⟩) ?hrest_7
  case hi_7 => (simp only [List.getElem?_toArray, List.getElem?_cons_succ, List.getElem?_cons_zero]; exact rfl)
  case hs_7 => kernel_rfl
  case hf_7 => kernel_rfl
  case hr_7 => kernel_rfl
  case hQ_7 => exact fun _ _ _ h => h
  case hw_7 => rfl
  case hy_7 => (intro w _; go_simp; try with_reducible rfl)
  try simp only [Act.put, List.setIfInBounds_toArray, List.set_cons_zero, List.set_cons_succ]
  refine anyZ_free (i := 8) (oi := ?oi_8) (v := ?v_8) ?hi_8 ?hs_8 ?hf_8 ?hr_8 ?hQ_8 (Or.inl ⟨?hw_8, ?hy_8⟩) ?hrest_8
  case hi_8 => (simp only [List.getElem?_toArray, List.getElem?_cons_succ, List.getElem?_cons_zero]; exact rfl)
  case hs_8 => kernel_rfl
  case hf_8 => kernel_rfl
  case hr_8 => kernel_rfl
  case hQ_8 => exact fun _ _ _ h => h
  case hw_8 => rfl
  case hy_8 => (intro w _; go_simp; try with_reducible rfl)
  try simp only [Act.put, List.setIfInBounds_toArray, List.set_cons_zero, List.set_cons_succ]
  refine anyZ_free (i := 10) (oi := ?oi_9) (v := ?v_9) ?hi_9 ?hs_9 ?hf_9 ?hr_9 ?hQ_9 (Or.inl ⟨?hw_9, ?hy_9⟩) ?hrest_9
  case hi_9 => (simp only [List.getElem?_toArray, List.getElem?_cons_succ, List.getElem?_cons_zero]; exact rfl)
  case hs_9 => kernel_rfl
  case hf_9 => kernel_rfl
  case hr_9 => kernel_rfl
  case hQ_9 => exact fun _ _ _ h => h
  case hw_9 => rfl
  case hy_9 => (intro w _; go_simp; try with_reducible rfl)
  try simp only [Act.put, List.setIfInBounds_toArray, List.set_cons_zero, List.set_cons_succ]
  refine anyZ_ready (rs := [7]) (by kernel_rfl) (by simp) ?_
  refine (AllZ.cons (o := ?o_10) ?ho_10 (fun K hK => ?st_10) AllZ.nil)
  case ho_10 => (simp only [List.getElem?_toArray, List.getElem?_cons_succ, List.getElem?_cons_zero]; exact rfl)
  case st_10 =>
    go_simp
    (go_at_call 63; (with_reducible refine (cA _ (by (repeat' (first | (with_reducible first | exact Below.refl _ _ | assumption | refine Below.alloc ?_ ?_ _ | refine Below.drew ?_ | refine below_drewN ?_ _ | refine Below.setCell ?_ ?_ _ | refine below_via (by with_reducible assumption) ?_ ?_) | omega | (simp only [szs]; omega) | (simp only [szs] at *; omega))))).mono ?_); rintro e w1 ⟨v1, rfl, s1, b1⟩; have z1 := b1.size; (try simp only [szs] at z1); obtain ⟨P1, p1, q1, rfl, a1, n1, o1⟩ := s1.made hA'.out; (try unfold Lst.val))
    refine hK.out _ _ (by ((try dsimp only); (exact hkeep.out _ (by (repeat' (first | (with_reducible first | exact Below.refl _ _ | assumption | refine Below.alloc ?_ ?_ _ | refine Below.drew ?_ | refine below_drewN ?_ _ | refine Below.setCell ?_ ?_ _ | refine below_via (by with_reducible assumption) ?_ ?_) | omega | (simp only [szs]; omega) | (simp only [szs] at *; omega))))))) (fun hHeld => ?_)
    clear hK K
    try simp only [Act.put, List.setIfInBounds_toArray, List.set_cons_zero, List.set_cons_succ]
    refine anyZ_ready (rs := [9]) (by kernel_rfl) (by simp) ?_
    refine (AllZ.cons (o := ?o_11) ?ho_11 (fun K hK => ?st_11) AllZ.nil)
    case ho_11 => (simp only [List.getElem?_toArray, List.getElem?_cons_succ, List.getElem?_cons_zero]; exact rfl)
    case st_11 =>
      go_simp
      (go_at_call 63; (with_reducible refine (cB _ (by (repeat' (first | (with_reducible first | exact Below.refl _ _ | assumption | refine Below.alloc ?_ ?_ _ | refine Below.drew ?_ | refine below_drewN ?_ _ | refine Below.setCell ?_ ?_ _ | refine below_via (by with_reducible assumption) ?_ ?_) | omega | (simp only [szs]; omega) | (simp only [szs] at *; omega))))).mono ?_); rintro e w2 ⟨v2, rfl, s2, b2⟩; have z2 := b2.size; (try simp only [szs] at z2); obtain ⟨P2, p2, q2, rfl, a2, n2, o2⟩ := s2.made hB'.out; (try unfold Lst.val))
      refine hK.out _ _ (by ((try dsimp only); (exact hkeep.out _ (by (repeat' (first | (with_reducible first | exact Below.refl _ _ | assumption | refine Below.alloc ?_ ?_ _ | refine Below.drew ?_ | refine below_drewN ?_ _ | refine Below.setCell ?_ ?_ _ | refine below_via (by with_reducible assumption) ?_ ?_) | omega | (simp only [szs]; omega) | (simp only [szs] at *; omega))))))) (fun hHeld => ?_)
      clear hK K
      try simp only [Act.put, List.setIfInBounds_toArray, List.set_cons_zero, List.set_cons_succ]
      refine anyZ_ready (rs := [11]) (by kernel_rfl) (by simp) ?_
      refine (AllZ.cons (o := ?o_12) ?ho_12 (fun K hK => ?st_12) AllZ.nil)
      case ho_12 => (simp only [List.getElem?_toArray, List.getElem?_cons_succ, List.getElem?_cons_zero]; exact rfl)
      case st_12 =>
        go_simp
        (go_at_call 63; (with_reducible refine (cC _ (by (repeat' (first | (with_reducible first | exact Below.refl _ _ | assumption | refine Below.alloc ?_ ?_ _ | refine Below.drew ?_ | refine below_drewN ?_ _ | refine Below.setCell ?_ ?_ _ | refine below_via (by with_reducible assumption) ?_ ?_) | omega | (simp only [szs]; omega) | (simp only [szs] at *; omega))))).mono ?_); rintro e w3 ⟨v3, rfl, s3, b3⟩; have z3 := b3.size; (try simp only [szs] at z3); obtain ⟨P3, p3, q3, rfl, a3, n3, o3⟩ := s3.made hC'.out; (try unfold Lst.val))
        refine hK.out _ _ (by ((try dsimp only); (exact hkeep.out _ (by (repeat' (first | (with_reducible first | exact Below.refl _ _ | assumption | refine Below.alloc ?_ ?_ _ | refine Below.drew ?_ | refine below_drewN ?_ _ | refine Below.setCell ?_ ?_ _ | refine below_via (by with_reducible assumption) ?_ ?_) | omega | (simp only [szs]; omega) | (simp only [szs] at *; omega))))))) (fun hHeld => ?_)
        clear hK K
        try simp only [Act.put, List.setIfInBounds_toArray, List.set_cons_zero, List.set_cons_succ]
        refine anyZ_free (i := 12) (oi := ?oi_13) (v := ?v_13) ?hi_13 ?hs_13 ?hf_13 ?hr_13 ?hQ_13 (Or.inl ⟨?hw_13, ?hy_13⟩) ?hrest_13
        case hi_13 => (simp only [List.getElem?_toArray, List.getElem?_cons_succ, List.getElem?_cons_zero]; exact rfl)
        case hs_13 => kernel_rfl
        case hf_13 => kernel_rfl
        case hr_13 => kernel_rfl
        case hQ_13 => exact fun _ _ _ h => h
        case hw_13 => rfl
        case hy_13 => (intro w _; go_simp; try with_reducible rfl)
        try simp only [Act.put, List.setIfInBounds_toArray, List.set_cons_zero, List.set_cons_succ]
        refine anyZ_ready (rs := [13]) (by kernel_rfl) (by simp) ?_
        refine (AllZ.cons (o := ?o_14) ?ho_14 (fun K hK => ?st_14) AllZ.nil)
        case ho_14 => (simp only [List.getElem?_toArray, List.getElem?_cons_succ, List.getElem?_cons_zero]; exact rfl)
        case st_14 =>
          go_simp
          refine hK.out _ _ (by ((try dsimp only); (exact hkeep.out _ (by (repeat' (first | (with_reducible first | exact Below.refl _ _ | assumption | refine Below.alloc ?_ ?_ _ | refine Below.drew ?_ | refine below_drewN ?_ _ | refine Below.setCell ?_ ?_ _ | refine below_via (by with_reducible assumption) ?_ ?_) | omega | (simp only [szs]; omega) | (simp only [szs] at *; omega))))))) (fun hHeld => ?_)
          clear hK K
          try simp only [Act.put, List.setIfInBounds_toArray, List.set_cons_zero, List.set_cons_succ]
          refine anyZ_ready (rs := [14]) (by kernel_rfl) (by simp) ?_
          refine (AllZ.last (o := ?o_15) ?ho_15 (by rfl) (fun K hK => ?st_15) AllZ.nil)
          case ho_15 => (simp only [List.getElem?_toArray, List.getElem?_cons_succ, List.getElem?_cons_zero]; exact rfl)
          case st_15 =>
            rw [if_pos (by rfl)]; have hb3 : Below w.heap.size w (w3.alloc (.cells #[.slice P1.ad P1.n P1.c, .slice P2.ad P2.n P2.c, .slice P3.ad P3.n P3.c] 63)) := (by (repeat' (first | (with_reducible first | exact Below.refl _ _ | assumption | refine Below.alloc ?_ ?_ _ | refine Below.drew ?_ | refine below_drewN ?_ _ | refine Below.setCell ?_ ?_ _ | refine below_via (by with_reducible assumption) ?_ ?_) | omega | (simp only [szs]; omega) | (simp only [szs] at *; omega)))); have e12 : Below w1.heap.size w1 (w3.alloc (.cells #[.slice P1.ad P1.n P1.c, .slice P2.ad P2.n P2.c, .slice P3.ad P3.n P3.c] 63)) := (below_via b3 b2 b2.size).alloc (by omega) _; have e23 : Below w2.heap.size w2 (w3.alloc (.cells #[.slice P1.ad P1.n P1.c, .slice P2.ad P2.n P2.c, .slice P3.ad P3.n P3.c] 63)) := b3.alloc (by omega) _; have e33 : Below w3.heap.size w3 (w3.alloc (.cells #[.slice P1.ad P1.n P1.c, .slice P2.ad P2.n P2.c, .slice P3.ad P3.n P3.c] 63)) := (Below.refl _ _).alloc (Nat.le_refl _) _; obtain ⟨s, t3, ⟨l1, l2, l3⟩, g1, g2⟩ := t'.out.lists hb3 (TrmsAt.to a1 e12 (Nat.le_refl _)) (TrmsAt.to a2 e23 (Nat.le_refl _)) (TrmsAt.to a3 e33 (Nat.le_refl _)) (fun k hk => (by have := o1 k hk; simp only [szs] at this; omega)) (fun k hk => (by have := o2 k hk; omega)) (fun k hk => (by have := o3 k hk; omega)); (refine wp_appRF _ _ rfl vr S.m R rfl t3.rows w3.heap.size P1 P2 P3 rfl (by unfold Lst.val; simp [go_sem]) (by unfold Lst.val; simp [go_sem]) (by unfold Lst.val; simp [go_sem]) (by omega) ?_); intro g cap w4 h1 h2 h3; have k4 : KeepO (fun k => s k = 2) (w3.alloc (.cells #[.slice P1.ad P1.n P1.c, .slice P2.ad P2.n P2.c, .slice P3.ad P3.n P3.c] 63)) w4 := KeepO.grown h2 t3.rr; have d4 : w4.cell? ⟨b, 2, none⟩ = some vr := k4.cell t3.c2 (by rw [t3.rb]; decide); have f4 : w4.frozen? ⟨b, 2, none⟩ = false := (k4.frozen t3.blt (by rw [t3.rb]; decide)).trans (t3.f 2 (by decide)); obtain ⟨q, tq, j1, j2, j3⟩ := t3.push (w' := w4) (vr' := .slice (some ⟨g, 0, none⟩) (S.m + 1) cap) h2 h1 (fun k hk => (by have e : g = k := (by simpa [Value.ownBlock] using hk); rw [← e]; exact h3)) (fun i hi => if_neg (by omega)) (fun j hj => (by rw [show putR S.m P1 P2 P3 R S.m = row3 P1 P2 P3 from if_pos rfl]; exact row3_all l1 l2 l3 j)); have tq' : Hid (MdlP q (w4.setCell ⟨b, 2, none⟩ (.slice (some ⟨g, 0, none⟩) (S.m + 1) cap)) b (S.n : Nat) (S.pub : Nat) (.slice (some ⟨g, 0, none⟩) (S.m + 1) cap) vv (S.m + 1) (putR S.m P1 P2 P3 R) S.n S.v) := tq; have j1' : Hid (∀ k, q k ≠ 0 → r k ≠ 0 ∨ w.heap.size ≤ k) := fun k hk => (by rcases j1 k hk with h | h; exact g1 k h; exact Or.inr (Nat.le_trans hb3.size h)); have j2' : Hid (∀ k, r k ≠ 0 → q k = r k) := fun k hk => (j2 k (by rw [g2 k hk]; exact hk)).trans (g2 k hk); have j3' : Hid (KeepO (fun k => r k ≠ 0) w (w4.setCell ⟨b, 2, none⟩ (.slice (some ⟨g, 0, none⟩) (S.m + 1) cap))) := (KeepO.of_below hb3).trans j3 (fun k hk h => (by rcases g1 k h with h' | h'; exact h'; omega)); clear hb3 e12 e23 e33 t3 l1 l2 l3 g1 g2 h1 h2 h3 k4 tq j1 j2 j3
            refine hK.out _ _ ?_
            clear hK K
            try simp only [Act.put, List.setIfInBounds_toArray, List.set_cons_zero, List.set_cons_succ]
            refine anyZ_free (i := 15) (oi := ?oi_16) (v := ?v_16) ?hi_16 ?hs_16 ?hf_16 ?hr_16 ?hQ_16 (Or.inl ⟨?hw_16, ?hy_16⟩) ?hrest_16
            case hi_16 => (simp only [List.getElem?_toArray, List.getElem?_cons_succ, List.getElem?_cons_zero]; exact rfl)
            case hs_16 => kernel_rfl
            case hf_16 => kernel_rfl
            case hr_16 => kernel_rfl
            case hQ_16 => exact fun _ _ _ h => h
            case hw_16 => rfl
            case hy_16 => (intro w _; go_simp; try with_reducible rfl)
            try simp only [Act.put, List.setIfInBounds_toArray, List.set_cons_zero, List.set_cons_succ]
            refine anyZ_free (i := 16) (oi := ?oi_17) (v := ?v_17) ?hi_17 ?hs_17 ?hf_17 ?hr_17 ?hQ_17 (Or.inl ⟨?hw_17, ?hy_17⟩) ?hrest_17
            case hi_17 => (simp only [List.getElem?_toArray, List.getElem?_cons_succ, List.getElem?_cons_zero]; exact rfl)
            case hs_17 => kernel_rfl
            case hf_17 => kernel_rfl
            case hr_17 => kernel_rfl
            case hQ_17 => exact fun _ _ _ h => h
            case hw_17 => rfl
            case hy_17 => (intro w _; go_simp; try with_reducible rfl)
            try simp only [Act.put, List.setIfInBounds_toArray, List.set_cons_zero, List.set_cons_succ]
            refine anyZ_free (i := 17) (oi := ?oi_18) (v := ?v_18) ?hi_18 ?hs_18 ?hf_18 ?hr_18 ?hQ_18 (Or.inl ⟨?hw_18, ?hy_18⟩) ?hrest_18
            case hi_18 => (simp only [List.getElem?_toArray, List.getElem?_cons_succ, List.getElem?_cons_zero]; exact rfl)
            case hs_18 => kernel_rfl
            case hf_18 => kernel_rfl
            case hr_18 => kernel_rfl
            case hQ_18 => exact fun _ _ _ h => h
            case hw_18 => rfl
            case hy_18 => (intro w _; go_simp; try with_reducible rfl)
            try simp only [Act.put, List.setIfInBounds_toArray, List.set_cons_zero, List.set_cons_succ]
            refine anyZ_ready (rs := [18]) (by kernel_rfl) (by simp) ?_
            refine (AllZ.last (o := ?o_19) ?ho_19 (by rfl) (fun K hK => ?st_19) AllZ.nil)
            case ho_19 => (simp only [List.getElem?_toArray, List.getElem?_cons_succ, List.getElem?_cons_zero]; exact rfl)
            case st_19 =>
              go_simp
              refine hK.out _ _ ?_
              clear hK K
              try simp only [Act.put, List.setIfInBounds_toArray, List.set_cons_zero, List.set_cons_succ]
              refine anyZ_done (by kernel_rfl) ?_ _
              refine NoPanic.normal ?_
              go_end0
              refine ⟨rfl, q, ⟨.slice (some ⟨g, 0, none⟩) (S.m + 1) cap, vv, putR S.m P1 P2 P3 R, tq'.out, ⟨fun i hi j hj => ?_⟩, fun i hi j hj => ?_⟩, j1'.out, j2'.out, j3'.out⟩
              · have hi' : i < S.m + 1 := hi
                rcases Nat.lt_or_ge i S.m with h | h
                · rw [show (S.row a' b' c').R i = S.R i from if_neg (by omega), show putR S.m P1 P2 P3 R i = R i from if_neg (by omega)]
                  exact hS.sum i h j hj
                · obtain rfl : i = S.m := by omega
                  rw [show (S.row a' b' c').R S.m = row3 a' b' c' from if_pos rfl, show putR S.m P1 P2 P3 R S.m = row3 P1 P2 P3 from if_pos rfl]
                  obtain rfl | rfl | rfl : j = 0 ∨ j = 1 ∨ j = 2 := by omega
                  · exact eA.isSum q1
                  · exact eB.isSum q2
                  · exact eC.isSum q3
              · have hi' : i < S.m + 1 := hi
                rcases Nat.lt_or_ge i S.m with h | h
                · rw [show putR S.m P1 P2 P3 R i = R i from if_neg (by omega)]
                  exact hO i h j hj
                · obtain rfl : i = S.m := by omega
                  rw [show putR S.m P1 P2 P3 R S.m = row3 P1 P2 P3 from if_pos rfl]
                  exact row3_all p1 p2 p3 j
end Go.Proofs.Ytdbolfmmlmoiaaa

namespace Go.Proofs.Ytdbolfmmlmoiaaa
open Go.RowKit Go.Proofs
set_option linter.unusedVariables false
set_option linter.unusedSimpArgs false
attribute [local go_sem ↓] Go.wp_at_zero Go.wp_at_succ
/-- A list told in variables that there are. -/
def Mk.isL (S : Mk) (L : Lst) : Lst := ⟨none, L.n, L.n, fun i => ((S.is (L.V i) : Nat) : Int), L.K⟩
theorem Mk.isL_in {S : Mk} (h : S.Good) (L : Lst) : (S.isL L).In S.n := fun i _ => by
  have := Mk.is_lt h (L.V i)
  show 0 ≤ ((S.is (L.V i) : Nat) : Int) ∧ ((S.is (L.V i) : Nat) : Int) < _
  omega
theorem After.get {r : Nat → Nat} {w w' : World} {b : Nat} {S : Mk} (h : After r w w' b S) : ∃ s, Mdl s w' b S ∧ (∀ k, s k ≠ 0 → r k ≠ 0 ∨ w.heap.size ≤ k) ∧ (∀ k, r k ≠ 0 → s k = r k) ∧ KeepO (fun k => r k ≠ 0) w w' := h
/-- The values, as a slice of words. -/
theorem MdlP.src {r : Nat → Nat} {w : World} {b : Nat} {x y : Int} {vr vv : Value} {m : Nat} {R : Nat → Nat → Lst} {n : Nat} {v : Nat → Nat} (t : MdlP r w b x y vr vv m R n v) : ∃ a c, vv = .slice a n c ∧ SrcW w.heap.size w a n v := by
  obtain ⟨a, c, h1, _, _, h2⟩ := OwnW.src (w := w) (base := 0) (v := vv) (n := n) (z := v) t.vals
  exact ⟨a, c, h1, h2⟩
/-- A list outside of what a maker owns stays. -/
theorem at_keep {r : Nat → Nat} {w w' : World} {L : Lst} (h : L.At w.heap.size w) (hk : KeepO (fun k => r k ≠ 0) w w') (hb : ∀ k, L.val.ownBlock = some k → r k = 0) : L.At w'.heap.size w' := by
  rcases h with h | ⟨g, off, h1, h2, h3⟩
  · exact Or.inl h
  · exact Or.inr ⟨g, off, h1, Nat.lt_of_lt_of_le h2 hk.size, trms_keep h3 hk fun h => h (hb g (by unfold Lst.val Value.ownBlock; rw [h1]))⟩
set_option maxRecDepth 4000 in
set_option maxHeartbeats 8000000 in
theorem mmulW (r : Nat → Nat) (b : Nat) (S : Mk) (hG : S.Good) (hn : S.n ≤ 100000) (hm : S.m ≤ 100000) (A B : Lst) (hA : A.Ok) (hB : B.Ok) (nA : A.n ≤ 1000) (nB : B.n ≤ 1000) (a' b' : Lst) (eA : LEq A a') (eB : LEq B b') (w : World) (h : Mdl r w b S) (tA : A.At w.heap.size w) (tB : B.At w.heap.size w)
   (oA : ∀ k, A.val.ownBlock = some k → r k = 0) (oB : ∀ k, B.val.ownBlock = some k → r k = 0) :
    Calls Try.prog 32 #[.pointer (some ⟨b, 0, none⟩), A.val, B.val] w fun e w' => e = .returned (.int .i64 (S.n : Nat)) ∧ After r w w' b (S.mulL a' b') := by
  have h' : Hid (Mdl r w b S) := h
  obtain ⟨vr, vv, R, t, hS, hO⟩ := h
  obtain ⟨av, cv, rfl, hsrc⟩ := t.src
  have c3 := t.c3
  have hblt := t.blt
  have hv : ∀ i, S.v i < 18446744073709551616 := fun i => by have := hG.lt i; omega
  have cA := fun W h => vvalueW A hA av S.n cv (by omega) S.v hv W (TrmsAt.to tA h (Nat.le_refl _)) (hsrc.to h (Nat.le_refl _))
  have cB := fun W h => vvalueW B hB av S.n cv (by omega) S.v hv W (TrmsAt.to tB h (Nat.le_refl _)) (hsrc.to h (Nat.le_refl _))
  rw [eA.val] at cA
  rw [eB.val] at cB
  have cM := gmulW (valL a' S.n S.v).val (valL b' S.n S.v).val (Ob.G_word _) (Ob.G_word _)
  rw [Ob.toG_of_val, Ob.toG_of_val] at cM
  have eX : Hid (S.fresh (valL a' S.n S.v * valL b' S.n S.v) = S.fresh (Ob.toG (valL a' S.n S.v * valL b' S.n S.v).val)) := by show _ = _; rw [Ob.toG_of_val]
  have hX : Hid ((valL a' S.n S.v * valL b' S.n S.v).val < 18446744073709551616) := Ob.G_word _
  have hlin : Hid (S.mulL a' b' = (S.fresh (valL a' S.n S.v * valL b' S.n S.v)).row a' b' (just S.n)) := rfl
  rw [hlin.out, eX.out]
  generalize (valL a' S.n S.v * valL b' S.n S.v).val = X at *
  generalize (valL a' S.n S.v).val = p at *
  generalize (valL b' S.n S.v).val = q at *
  have cF := fun W h => mfreshW r b S hn X hX.out W (h'.out.below h)
  have cJ := mjustW S.n (by omega)
  have hkeep : Hid (∀ W, Below w.heap.size w W → W.cell? ⟨b, 3, none⟩ = some (.slice av S.n cv)) := fun W hW => by rw [(bcell hW).1 b 3 hblt]; exact c3
  have tA' : Hid (A.At w.heap.size w) := tA
  have tB' : Hid (B.At w.heap.size w) := tB
  have hA' : Hid A.Ok := hA
  have hB' : Hid B.Ok := hB
  have oA' : Hid (∀ k, A.val.ownBlock = some k → r k = 0) := oA
  have oB' : Hid (∀ k, B.val.ownBlock = some k → r k = 0) := oB
  clear hlin eX hv hG t hsrc tA tB hA hB oA oB hS hO h'
  unfold Lst.val at cA cB cJ ⊢
  go_enter Try.func32, Try.ntmps32
  go_wp2
  refine wp_region_noPanic ?_
  refine region_lastly (S := (fun w' => w'.cell? ⟨b, 3, none⟩ = some (.slice av S.n cv))) [14, 15] (by kernel_rfl) (by ((try dsimp only); (exact hkeep.out _ (by (repeat' (first | (with_reducible first | exact Below.refl _ _ | assumption | refine Below.alloc ?_ ?_ _ | refine Below.drew ?_ | refine below_drewN ?_ _ | refine Below.setCell ?_ ?_ _ | refine below_via (by with_reducible assumption) ?_ ?_) | omega | (simp only [szs]; omega) | (simp only [szs] at *; omega))))))) (fun hHeld => ?_)
  refine anyZ_free (i := 0) (oi := ?oi_1) (v := ?v_1) ?hi_1 ?hs_1 ?hf_1 ?hr_1 ?hQ_1 (Or.inl ⟨?hw_1, ?hy_1⟩) ?hrest_1
  case hi_1 => (simp only [List.getElem?_toArray, List.getElem?_cons_succ, List.getElem?_cons_zero]; exact rfl)
  case hs_1 => kernel_rfl
  case hf_1 => kernel_rfl
  case hr_1 => kernel_rfl
  case hQ_1 => exact fun _ _ _ h => h
  case hw_1 => rfl
  case hy_1 => (intro w _; go_simp; try with_reducible rfl)
  try simp only [Act.put, List.setIfInBounds_toArray, List.set_cons_zero, List.set_cons_succ]
  refine anyZ_free (i := 1) (oi := ?oi_2) (v := ?v_2) ?hi_2 ?hs_2 ?hf_2 ?hr_2 ?hQ_2 (Or.inl ⟨?hw_2, ?hy_2⟩) ?hrest_2
  case hi_2 => (simp only [List.getElem?_toArray, List.getElem?_cons_succ, List.getElem?_cons_zero]; exact rfl)
  case hs_2 => kernel_rfl
  case hf_2 => kernel_rfl
  case hr_2 => kernel_rfl
  case hQ_2 => exact fun _ _ _ h => h
  case hw_2 => rfl
  case hy_2 => (intro w _; go_simp; try with_reducible rfl)
  try simp only [Act.put, List.setIfInBounds_toArray, List.set_cons_zero, List.set_cons_succ]
  refine anyZ_free (i := 2) (oi := ?oi_3) (v := ?v_3) ?hi_3 ?hs_3 ?hf_3 ?hr_3 ?hQ_3 (Or.inl ⟨?hw_3, ?hy_3⟩) ?hrest_3
  case hi_3 => (simp only [List.getElem?_toArray, List.getElem?_cons_succ, List.getElem?_cons_zero]; exact rfl)
  case hs_3 => kernel_rfl
  case hf_3 => kernel_rfl
  case hr_3 => kernel_rfl
  case hQ_3 => exact fun _ _ _ h => h
  case hw_3 => rfl
  case hy_3 => (intro w _; go_simp; try with_reducible rfl)
  try simp only [Act.put, List.setIfInBounds_toArray, List.set_cons_zero, List.set_cons_succ]
  refine anyZ_free (i := 3) (oi := ?oi_4) (v := ?v_4) ?hi_4 ?hs_4 ?hf_4 ?hr_4 ?hQ_4 (Or.inl ⟨?hw_4, ?hy_4⟩) ?hrest_4
  case hi_4 => (simp only [List.getElem?_toArray, List.getElem?_cons_succ, List.getElem?_cons_zero]; exact rfl)
  case hs_4 => kernel_rfl
  case hf_4 => kernel_rfl
  case hr_4 => kernel_rfl
  case hQ_4 => exact fun _ _ _ h => h
  case hw_4 => rfl
  case hy_4 => (intro w _; go_simp; try with_reducible rfl)
  try simp only [Act.put, List.setIfInBounds_toArray, List.set_cons_zero, List.set_cons_succ]
  refine anyZ_free (i := 4) (oi := ?oi_5) (v := ?v_5) ?hi_5 ?hs_5 ?hf_5 ?hr_5 ?hQ_5 (Or.inl ⟨?hw_5, ?hy_5⟩) ?hrest_5
  case hi_5 => (simp only [List.getElem?_toArray, List.getElem?_cons_succ, List.getElem?_cons_zero]; exact rfl)
  case hs_5 => kernel_rfl
  case hf_5 => kernel_rfl
  case hr_5 => kernel_rfl
  case hQ_5 => exact fun _ _ _ h => h
  case hw_5 => rfl
  case hy_5 => (intro w _; go_simp; try with_reducible rfl)
  try simp only [Act.put, List.setIfInBounds_toArray, List.set_cons_zero, List.set_cons_succ]
  refine anyZ_free (i := 7) (oi := ?oi_6) (v := ?v_6) ?hi_6 ?hs_6 ?hf_6 ?hr_6 ?hQ_6 (Or.inl ⟨?hw_6, ?hy_6⟩) ?hrest_6
  case hi_6 => (simp only [List.getElem?_toArray, List.getElem?_cons_succ, List.getElem?_cons_zero]; exact rfl)
  case hs_6 => kernel_rfl
  case hf_6 => kernel_rfl
  case hr_6 => kernel_rfl
  case hQ_6 => exact fun _ _ _ h => h
  case hw_6 => rfl
  case hy_6 => (intro w _; go_simp; try with_reducible rfl)
  try simp only [Act.put, List.setIfInBounds_toArray, List.set_cons_zero, List.set_cons_succ]
  refine anyZ_free (i := 8) (oi := ?oi_7) (v := ?v_7) ?hi_7 ?hs_7 ?hf_7 ?hr_7 ?hQ_7 (Or.inl ⟨?hw_7, ?hy_7⟩) ?hrest_7
  case hi_7 => (simp only [List.getElem?_toArray, List.getElem?_cons_succ, List.getElem?_cons_zero]; exact rfl)
  case hs_7 => kernel_rfl
  case hf_7 => kernel_rfl
  case hr_7 => kernel_rfl
  case hQ_7 => exact fun _ _ _ h => h
  case hw_7 => rfl
  case hy_7 => (intro w _; go_simp; try with_reducible rfl)
  try simp only [Act.put, List.setIfInBounds_toArray, List.set_cons_zero, List.set_cons_succ]
  refine anyZ_free (i := 9) (oi := ?oi_8) (v := ?v_8) ?hi_8 ?hs_8 ?hf_8 ?hr_8 ?hQ_8 (Or.inl ⟨?hw_8, ?hy_8⟩) ?hrest_8
  case hi_8 => (simp only [List.getElem?_toArray, List.getElem?_cons_succ, List.getElem?_cons_zero]; exact rfl)
  case hs_8 => kernel_rfl
  case hf_8 => kernel_rfl
  case hr_8 => kernel_rfl
  case hQ_8 => exact fun _ _ _ h => h
  case hw_8 => rfl
  case hy_8 => (intro w _; go_simp; try with_reducible rfl)
  try simp only [Act.put, List.setIfInBounds_toArray, List.set_cons_zero, List.set_cons_succ]
  refine anyZ_free (i := 10) (oi := ?oi_9) (v := ?v_9) ?hi_9 ?hs_9 ?hf_9 ?hr_9 ?hQ_9 (Or.inl ⟨?hw_9, ?hy_9⟩) ?hrest_9
  case hi_9 => (simp only [List.getElem?_toArray, List.getElem?_cons_succ, List.getElem?_cons_zero]; exact rfl)
  case hs_9 => kernel_rfl
  case hf_9 => kernel_rfl
  case hr_9 => kernel_rfl
  case hQ_9 => exact fun _ _ _ h => h
  case hw_9 => rfl
  case hy_9 => (intro w _; go_simp; try with_reducible rfl)
  try simp only [Act.put, List.setIfInBounds_toArray, List.set_cons_zero, List.set_cons_succ]
  refine anyZ_ready (rs := [5, 11]) (by kernel_rfl) (by simp) ?_
  refine (AllZ.cons (o := ?o_11) ?ho_11 (fun K hK => ?st_11) (AllZ.cons (o := ?o_10) ?ho_10 (fun K hK => ?st_10) AllZ.nil))
  case ho_11 => (simp only [List.getElem?_toArray, List.getElem?_cons_succ, List.getElem?_cons_zero]; exact rfl)
  case ho_10 => (simp only [List.getElem?_toArray, List.getElem?_cons_succ, List.getElem?_cons_zero]; exact rfl)
  case st_11 =>
    go_simp
    refine hK.out _ _ (by ((try dsimp only); (exact hkeep.out _ (by (repeat' (first | (with_reducible first | exact Below.refl _ _ | assumption | refine Below.alloc ?_ ?_ _ | refine Below.drew ?_ | refine below_drewN ?_ _ | refine Below.setCell ?_ ?_ _ | refine below_via (by with_reducible assumption) ?_ ?_) | omega | (simp only [szs]; omega) | (simp only [szs] at *; omega))))))) (fun hHeld => ?_)
    clear hK K
    try simp only [Act.put, List.setIfInBounds_toArray, List.set_cons_zero, List.set_cons_succ]
    refine anyZ_ready (rs := [6, 11]) (by kernel_rfl) (by simp) ?_
    refine (AllZ.cons (o := ?o_13) ?ho_13 (fun K hK => ?st_13) (AllZ.cons (o := ?o_12) ?ho_12 (fun K hK => ?st_12) AllZ.nil))
    case ho_13 => (simp only [List.getElem?_toArray, List.getElem?_cons_succ, List.getElem?_cons_zero]; exact rfl)
    case ho_12 => (simp only [List.getElem?_toArray, List.getElem?_cons_succ, List.getElem?_cons_zero]; exact rfl)
    case st_13 =>
      go_simp
      (go_at_call 38; (with_reducible refine (cA _ (by (repeat' (first | (with_reducible first | exact Below.refl _ _ | assumption | refine Below.alloc ?_ ?_ _ | refine Below.drew ?_ | refine below_drewN ?_ _ | refine Below.setCell ?_ ?_ _ | refine below_via (by with_reducible assumption) ?_ ?_) | omega | (simp only [szs]; omega) | (simp only [szs] at *; omega))))).mono ?_); rintro e w1 ⟨rfl, b1⟩; have z1 := b1.size; (try simp only [szs] at z1))
      refine hK.out _ _ (by ((try dsimp only); (exact hkeep.out _ (by (repeat' (first | (with_reducible first | exact Below.refl _ _ | assumption | refine Below.alloc ?_ ?_ _ | refine Below.drew ?_ | refine below_drewN ?_ _ | refine Below.setCell ?_ ?_ _ | refine below_via (by with_reducible assumption) ?_ ?_) | omega | (simp only [szs]; omega) | (simp only [szs] at *; omega))))))) (fun hHeld => ?_)
      clear hK K
      try simp only [Act.put, List.setIfInBounds_toArray, List.set_cons_zero, List.set_cons_succ]
      refine anyZ_ready (rs := [11]) (by kernel_rfl) (by simp) ?_
      refine (AllZ.cons (o := ?o_14) ?ho_14 (fun K hK => ?st_14) AllZ.nil)
      case ho_14 => (simp only [List.getElem?_toArray, List.getElem?_cons_succ, List.getElem?_cons_zero]; exact rfl)
      case st_14 =>
        go_simp
        refine hK.out _ _ (by ((try dsimp only); (exact hkeep.out _ (by (repeat' (first | (with_reducible first | exact Below.refl _ _ | assumption | refine Below.alloc ?_ ?_ _ | refine Below.drew ?_ | refine below_drewN ?_ _ | refine Below.setCell ?_ ?_ _ | refine below_via (by with_reducible assumption) ?_ ?_) | omega | (simp only [szs]; omega) | (simp only [szs] at *; omega))))))) (fun hHeld => ?_)
        clear hK K
        try simp only [Act.put, List.setIfInBounds_toArray, List.set_cons_zero, List.set_cons_succ]
        refine anyZ_ready (rs := [12]) (by kernel_rfl) (by simp) ?_
        refine (AllZ.cons (o := ?o_15) ?ho_15 (fun K hK => ?st_15) AllZ.nil)
        case ho_15 => (simp only [List.getElem?_toArray, List.getElem?_cons_succ, List.getElem?_cons_zero]; exact rfl)
        case st_15 =>
          go_simp
          (go_at_call 38; (with_reducible refine (cB _ (by (repeat' (first | (with_reducible first | exact Below.refl _ _ | assumption | refine Below.alloc ?_ ?_ _ | refine Below.drew ?_ | refine below_drewN ?_ _ | refine Below.setCell ?_ ?_ _ | refine below_via (by with_reducible assumption) ?_ ?_) | omega | (simp only [szs]; omega) | (simp only [szs] at *; omega))))).mono ?_); rintro e w2 ⟨rfl, b2⟩; have z2 := b2.size; (try simp only [szs] at z2))
          refine hK.out _ _ (by ((try dsimp only); (exact hkeep.out _ (by (repeat' (first | (with_reducible first | exact Below.refl _ _ | assumption | refine Below.alloc ?_ ?_ _ | refine Below.drew ?_ | refine below_drewN ?_ _ | refine Below.setCell ?_ ?_ _ | refine below_via (by with_reducible assumption) ?_ ?_) | omega | (simp only [szs]; omega) | (simp only [szs] at *; omega))))))) (fun hHeld => ?_)
          clear hK K
          try simp only [Act.put, List.setIfInBounds_toArray, List.set_cons_zero, List.set_cons_succ]
          refine anyZ_ready (rs := [13]) (by kernel_rfl) (by simp) ?_
          refine (AllZ.cons (o := ?o_16) ?ho_16 (fun K hK => ?st_16) AllZ.nil)
          case ho_16 => (simp only [List.getElem?_toArray, List.getElem?_cons_succ, List.getElem?_cons_zero]; exact rfl)
          case st_16 =>
            go_simp
            (first | (go_at_call 37; first | (with_reducible refine (cM _).mono ?_; rintro e w' ⟨rfl, rfl⟩)))
            refine hK.out _ _ (by ((try dsimp only); (exact hkeep.out _ (by (repeat' (first | (with_reducible first | exact Below.refl _ _ | assumption | refine Below.alloc ?_ ?_ _ | refine Below.drew ?_ | refine below_drewN ?_ _ | refine Below.setCell ?_ ?_ _ | refine below_via (by with_reducible assumption) ?_ ?_) | omega | (simp only [szs]; omega) | (simp only [szs] at *; omega))))))) (fun hHeld => ?_)
            clear hK K
            try simp only [Act.put, List.setIfInBounds_toArray, List.set_cons_zero, List.set_cons_succ]
            refine anyZ_ready (rs := [14]) (by kernel_rfl) (by simp) ?_
            refine (AllZ.last (o := ?o_17) ?ho_17 (by rfl) (fun K hK => ?st_17) AllZ.nil)
            case ho_17 => (simp only [List.getElem?_toArray, List.getElem?_cons_succ, List.getElem?_cons_zero]; exact rfl)
            case st_17 =>
              go_simp
              (have hb2 : Below w.heap.size w w2 := (by (repeat' (first | (with_reducible first | exact Below.refl _ _ | assumption | refine Below.alloc ?_ ?_ _ | refine Below.drew ?_ | refine below_drewN ?_ _ | refine Below.setCell ?_ ?_ _ | refine below_via (by with_reducible assumption) ?_ ?_) | omega | (simp only [szs]; omega) | (simp only [szs] at *; omega))))); (go_at_call 29; (with_reducible refine (cF _ hb2).mono ?_); rintro e w3 ⟨rfl, a3⟩); obtain ⟨s, m3, g1, g2, g3⟩ := a3.get; (have zb2 := hb2.size); (have k3 : Hid (KeepO (fun k => r k ≠ 0) w w3) := (KeepO.of_below hb2).trans g3 fun _ _ h => h); (have g1' : Hid (∀ k, s k ≠ 0 → r k ≠ 0 ∨ w.heap.size ≤ k) := fun k hk => (g1 k hk).imp id fun h => Nat.le_trans zb2 h); (have g2' : Hid (∀ k, r k ≠ 0 → s k = r k) := g2); (have m3' : Hid (Mdl s w3 b (S.fresh (Ob.toG X))) := m3); clear a3 g1 g2 g3 m3 hb2 zb2
              refine hK.out _ _ ?_
              clear hK K
              try simp only [Act.put, List.setIfInBounds_toArray, List.set_cons_zero, List.set_cons_succ]
              refine anyZ_ready (rs := [15]) (by kernel_rfl) (by simp) ?_
              refine (AllZ.last (o := ?o_18) ?ho_18 (by rfl) (fun K hK => ?st_18) AllZ.nil)
              case ho_18 => (simp only [List.getElem?_toArray, List.getElem?_cons_succ, List.getElem?_cons_zero]; exact rfl)
              case st_18 =>
                go_simp
                refine hK.out _ _ ?_
                clear hK K
                try simp only [Act.put, List.setIfInBounds_toArray, List.set_cons_zero, List.set_cons_succ]
                refine anyZ_done (by kernel_rfl) ?_ _
                refine NoPanic.normal ?_
                have k3l := k3.out.size
                have tA3 : Hid (A.At w3.heap.size w3) := at_keep tA'.out k3.out oA'.out
                have tB3 : Hid (B.At w3.heap.size w3) := at_keep tB'.out k3.out oB'.out
                clear b1 b2 z1 z2 cA cB cM cF hkeep
                go_upto_region 3 with (first | (go_at_call 33; (with_reducible refine (cJ _).mono ?_); rintro e w4 ⟨L, rfl, o4, n4, e4, t4, b4⟩; have n5 : Hid (L.n ≤ 1000) := (by show _ ≤ _; omega); clear n4; have m4 : Mdl s w4 b (S.fresh (Ob.toG X)) := m3'.out.below b4; have cR := mrowW s b (S.fresh (Ob.toG X)) hm A B L hA'.out hB'.out o4 nA nB n5.out a' b' (just S.n) eA eB e4 w4 m4 (TrmsAt.to tA3.out b4 (Nat.le_refl _)) (TrmsAt.to tB3.out b4 (Nat.le_refl _)) t4; unfold Lst.val at cR) | (go_at_call 40; (with_reducible refine cR.mono ?_); rintro e w5 ⟨rfl, a5⟩))
                have hend : Hid (After r w w5 b ((S.fresh (Ob.toG X)).row a' b' (just S.n))) := After.then g1'.out g2'.out k3.out (After.of_below b4 a5)
                clear a5 cR m4
                go_wp2
                go_ret
                exact ⟨rfl, hend.out⟩
    case st_12 =>
      go_simp
      refine hK.out _ _ (by ((try dsimp only); (exact hkeep.out _ (by (repeat' (first | (with_reducible first | exact Below.refl _ _ | assumption | refine Below.alloc ?_ ?_ _ | refine Below.drew ?_ | refine below_drewN ?_ _ | refine Below.setCell ?_ ?_ _ | refine below_via (by with_reducible assumption) ?_ ?_) | omega | (simp only [szs]; omega) | (simp only [szs] at *; omega))))))) (fun hHeld => ?_)
      clear hK K
      try simp only [Act.put, List.setIfInBounds_toArray, List.set_cons_zero, List.set_cons_succ]
      refine anyZ_ready (rs := [6]) (by kernel_rfl) (by simp) ?_
      refine (AllZ.cons (o := ?o_19) ?ho_19 (fun K hK => ?st_19) AllZ.nil)
      case ho_19 => (simp only [List.getElem?_toArray, List.getElem?_cons_succ, List.getElem?_cons_zero]; exact rfl)
      case st_19 =>
        go_simp
        (go_at_call 38; (with_reducible refine (cA _ (by (repeat' (first | (with_reducible first | exact Below.refl _ _ | assumption | refine Below.alloc ?_ ?_ _ | refine Below.drew ?_ | refine below_drewN ?_ _ | refine Below.setCell ?_ ?_ _ | refine below_via (by with_reducible assumption) ?_ ?_) | omega | (simp only [szs]; omega) | (simp only [szs] at *; omega))))).mono ?_); rintro e w1 ⟨rfl, b1⟩; have z1 := b1.size; (try simp only [szs] at z1))
        refine hK.out _ _ (by ((try dsimp only); (exact hkeep.out _ (by (repeat' (first | (with_reducible first | exact Below.refl _ _ | assumption | refine Below.alloc ?_ ?_ _ | refine Below.drew ?_ | refine below_drewN ?_ _ | refine Below.setCell ?_ ?_ _ | refine below_via (by with_reducible assumption) ?_ ?_) | omega | (simp only [szs]; omega) | (simp only [szs] at *; omega))))))) (fun hHeld => ?_)
        clear hK K
        try simp only [Act.put, List.setIfInBounds_toArray, List.set_cons_zero, List.set_cons_succ]
        refine anyZ_ready (rs := [12]) (by kernel_rfl) (by simp) ?_
        refine (AllZ.cons (o := ?o_20) ?ho_20 (fun K hK => ?st_20) AllZ.nil)
        case ho_20 => (simp only [List.getElem?_toArray, List.getElem?_cons_succ, List.getElem?_cons_zero]; exact rfl)
        case st_20 =>
          go_simp
          (go_at_call 38; (with_reducible refine (cB _ (by (repeat' (first | (with_reducible first | exact Below.refl _ _ | assumption | refine Below.alloc ?_ ?_ _ | refine Below.drew ?_ | refine below_drewN ?_ _ | refine Below.setCell ?_ ?_ _ | refine below_via (by with_reducible assumption) ?_ ?_) | omega | (simp only [szs]; omega) | (simp only [szs] at *; omega))))).mono ?_); rintro e w2 ⟨rfl, b2⟩; have z2 := b2.size; (try simp only [szs] at z2))
          refine hK.out _ _ (by ((try dsimp only); (exact hkeep.out _ (by (repeat' (first | (with_reducible first | exact Below.refl _ _ | assumption | refine Below.alloc ?_ ?_ _ | refine Below.drew ?_ | refine below_drewN ?_ _ | refine Below.setCell ?_ ?_ _ | refine below_via (by with_reducible assumption) ?_ ?_) | omega | (simp only [szs]; omega) | (simp only [szs] at *; omega))))))) (fun hHeld => ?_)
          clear hK K
          try simp only [Act.put, List.setIfInBounds_toArray, List.set_cons_zero, List.set_cons_succ]
          refine anyZ_ready (rs := [13]) (by kernel_rfl) (by simp) ?_
          refine (AllZ.cons (o := ?o_21) ?ho_21 (fun K hK => ?st_21) AllZ.nil)
          case ho_21 => (simp only [List.getElem?_toArray, List.getElem?_cons_succ, List.getElem?_cons_zero]; exact rfl)
          case st_21 =>
            go_simp
            (first | (go_at_call 37; first | (with_reducible refine (cM _).mono ?_; rintro e w' ⟨rfl, rfl⟩)))
            refine hK.out _ _ (by ((try dsimp only); (exact hkeep.out _ (by (repeat' (first | (with_reducible first | exact Below.refl _ _ | assumption | refine Below.alloc ?_ ?_ _ | refine Below.drew ?_ | refine below_drewN ?_ _ | refine Below.setCell ?_ ?_ _ | refine below_via (by with_reducible assumption) ?_ ?_) | omega | (simp only [szs]; omega) | (simp only [szs] at *; omega))))))) (fun hHeld => ?_)
            clear hK K
            try simp only [Act.put, List.setIfInBounds_toArray, List.set_cons_zero, List.set_cons_succ]
            refine anyZ_ready (rs := [14]) (by kernel_rfl) (by simp) ?_
            refine (AllZ.last (o := ?o_22) ?ho_22 (by rfl) (fun K hK => ?st_22) AllZ.nil)
            case ho_22 => (simp only [List.getElem?_toArray, List.getElem?_cons_succ, List.getElem?_cons_zero]; exact rfl)
            case st_22 =>
              go_simp
              (have hb2 : Below w.heap.size w w2 := (by (repeat' (first | (with_reducible first | exact Below.refl _ _ | assumption | refine Below.alloc ?_ ?_ _ | refine Below.drew ?_ | refine below_drewN ?_ _ | refine Below.setCell ?_ ?_ _ | refine below_via (by with_reducible assumption) ?_ ?_) | omega | (simp only [szs]; omega) | (simp only [szs] at *; omega))))); (go_at_call 29; (with_reducible refine (cF _ hb2).mono ?_); rintro e w3 ⟨rfl, a3⟩); obtain ⟨s, m3, g1, g2, g3⟩ := a3.get; (have zb2 := hb2.size); (have k3 : Hid (KeepO (fun k => r k ≠ 0) w w3) := (KeepO.of_below hb2).trans g3 fun _ _ h => h); (have g1' : Hid (∀ k, s k ≠ 0 → r k ≠ 0 ∨ w.heap.size ≤ k) := fun k hk => (g1 k hk).imp id fun h => Nat.le_trans zb2 h); (have g2' : Hid (∀ k, r k ≠ 0 → s k = r k) := g2); (have m3' : Hid (Mdl s w3 b (S.fresh (Ob.toG X))) := m3); clear a3 g1 g2 g3 m3 hb2 zb2
              refine hK.out _ _ ?_
              clear hK K
              try simp only [Act.put, List.setIfInBounds_toArray, List.set_cons_zero, List.set_cons_succ]
              refine anyZ_ready (rs := [15]) (by kernel_rfl) (by simp) ?_
              refine (AllZ.last (o := ?o_23) ?ho_23 (by rfl) (fun K hK => ?st_23) AllZ.nil)
              case ho_23 => (simp only [List.getElem?_toArray, List.getElem?_cons_succ, List.getElem?_cons_zero]; exact rfl)
              case st_23 =>
                go_simp
                refine hK.out _ _ ?_
                clear hK K
                try simp only [Act.put, List.setIfInBounds_toArray, List.set_cons_zero, List.set_cons_succ]
                refine anyZ_done (by kernel_rfl) ?_ _
                refine NoPanic.normal ?_
                have k3l := k3.out.size
                have tA3 : Hid (A.At w3.heap.size w3) := at_keep tA'.out k3.out oA'.out
                have tB3 : Hid (B.At w3.heap.size w3) := at_keep tB'.out k3.out oB'.out
                clear b1 b2 z1 z2 cA cB cM cF hkeep
                go_upto_region 3 with (first | (go_at_call 33; (with_reducible refine (cJ _).mono ?_); rintro e w4 ⟨L, rfl, o4, n4, e4, t4, b4⟩; have n5 : Hid (L.n ≤ 1000) := (by show _ ≤ _; omega); clear n4; have m4 : Mdl s w4 b (S.fresh (Ob.toG X)) := m3'.out.below b4; have cR := mrowW s b (S.fresh (Ob.toG X)) hm A B L hA'.out hB'.out o4 nA nB n5.out a' b' (just S.n) eA eB e4 w4 m4 (TrmsAt.to tA3.out b4 (Nat.le_refl _)) (TrmsAt.to tB3.out b4 (Nat.le_refl _)) t4; unfold Lst.val at cR) | (go_at_call 40; (with_reducible refine cR.mono ?_); rintro e w5 ⟨rfl, a5⟩))
                have hend : Hid (After r w w5 b ((S.fresh (Ob.toG X)).row a' b' (just S.n))) := After.then g1'.out g2'.out k3.out (After.of_below b4 a5)
                clear a5 cR m4
                go_wp2
                go_ret
                exact ⟨rfl, hend.out⟩
  case st_10 =>
    go_simp
    refine hK.out _ _ (by ((try dsimp only); (exact hkeep.out _ (by (repeat' (first | (with_reducible first | exact Below.refl _ _ | assumption | refine Below.alloc ?_ ?_ _ | refine Below.drew ?_ | refine below_drewN ?_ _ | refine Below.setCell ?_ ?_ _ | refine below_via (by with_reducible assumption) ?_ ?_) | omega | (simp only [szs]; omega) | (simp only [szs] at *; omega))))))) (fun hHeld => ?_)
    clear hK K
    try simp only [Act.put, List.setIfInBounds_toArray, List.set_cons_zero, List.set_cons_succ]
    refine anyZ_ready (rs := [5]) (by kernel_rfl) (by simp) ?_
    refine (AllZ.cons (o := ?o_24) ?ho_24 (fun K hK => ?st_24) AllZ.nil)
    case ho_24 => (simp only [List.getElem?_toArray, List.getElem?_cons_succ, List.getElem?_cons_zero]; exact rfl)
    case st_24 =>
      go_simp
      refine hK.out _ _ (by ((try dsimp only); (exact hkeep.out _ (by (repeat' (first | (with_reducible first | exact Below.refl _ _ | assumption | refine Below.alloc ?_ ?_ _ | refine Below.drew ?_ | refine below_drewN ?_ _ | refine Below.setCell ?_ ?_ _ | refine below_via (by with_reducible assumption) ?_ ?_) | omega | (simp only [szs]; omega) | (simp only [szs] at *; omega))))))) (fun hHeld => ?_)
      clear hK K
      try simp only [Act.put, List.setIfInBounds_toArray, List.set_cons_zero, List.set_cons_succ]
      refine anyZ_ready (rs := [6]) (by kernel_rfl) (by simp) ?_
      refine (AllZ.cons (o := ?o_25) ?ho_25 (fun K hK => ?st_25) AllZ.nil)
      case ho_25 => (simp only [List.getElem?_toArray, List.getElem?_cons_succ, List.getElem?_cons_zero]; exact rfl)
      case st_25 =>
        go_simp
        (go_at_call 38; (with_reducible refine (cA _ (by (repeat' (first | (with_reducible first | exact Below.refl _ _ | assumption | refine Below.alloc ?_ ?_ _ | refine Below.drew ?_ | refine below_drewN ?_ _ | refine Below.setCell ?_ ?_ _ | refine below_via (by with_reducible assumption) ?_ ?_) | omega | (simp only [szs]; omega) | (simp only [szs] at *; omega))))).mono ?_); rintro e w1 ⟨rfl, b1⟩; have z1 := b1.size; (try simp only [szs] at z1))
        refine hK.out _ _ (by ((try dsimp only); (exact hkeep.out _ (by (repeat' (first | (with_reducible first | exact Below.refl _ _ | assumption | refine Below.alloc ?_ ?_ _ | refine Below.drew ?_ | refine below_drewN ?_ _ | refine Below.setCell ?_ ?_ _ | refine below_via (by with_reducible assumption) ?_ ?_) | omega | (simp only [szs]; omega) | (simp only [szs] at *; omega))))))) (fun hHeld => ?_)
        clear hK K
        try simp only [Act.put, List.setIfInBounds_toArray, List.set_cons_zero, List.set_cons_succ]
        refine anyZ_ready (rs := [12]) (by kernel_rfl) (by simp) ?_
        refine (AllZ.cons (o := ?o_26) ?ho_26 (fun K hK => ?st_26) AllZ.nil)
        case ho_26 => (simp only [List.getElem?_toArray, List.getElem?_cons_succ, List.getElem?_cons_zero]; exact rfl)
        case st_26 =>
          go_simp
          (go_at_call 38; (with_reducible refine (cB _ (by (repeat' (first | (with_reducible first | exact Below.refl _ _ | assumption | refine Below.alloc ?_ ?_ _ | refine Below.drew ?_ | refine below_drewN ?_ _ | refine Below.setCell ?_ ?_ _ | refine below_via (by with_reducible assumption) ?_ ?_) | omega | (simp only [szs]; omega) | (simp only [szs] at *; omega))))).mono ?_); rintro e w2 ⟨rfl, b2⟩; have z2 := b2.size; (try simp only [szs] at z2))
          refine hK.out _ _ (by ((try dsimp only); (exact hkeep.out _ (by (repeat' (first | (with_reducible first | exact Below.refl _ _ | assumption | refine Below.alloc ?_ ?_ _ | refine Below.drew ?_ | refine below_drewN ?_ _ | refine Below.setCell ?_ ?_ _ | refine below_via (by with_reducible assumption) ?_ ?_) | omega | (simp only [szs]; omega) | (simp only [szs] at *; omega))))))) (fun hHeld => ?_)
          clear hK K
          try simp only [Act.put, List.setIfInBounds_toArray, List.set_cons_zero, List.set_cons_succ]
          refine anyZ_ready (rs := [13]) (by kernel_rfl) (by simp) ?_
          refine (AllZ.cons (o := ?o_27) ?ho_27 (fun K hK => ?st_27) AllZ.nil)
          case ho_27 => (simp only [List.getElem?_toArray, List.getElem?_cons_succ, List.getElem?_cons_zero]; exact rfl)
          case st_27 =>
            go_simp
            (first | (go_at_call 37; first | (with_reducible refine (cM _).mono ?_; rintro e w' ⟨rfl, rfl⟩)))
            refine hK.out _ _ (by ((try dsimp only); (exact hkeep.out _ (by (repeat' (first | (with_reducible first | exact Below.refl _ _ | assumption | refine Below.alloc ?_ ?_ _ | refine Below.drew ?_ | refine below_drewN ?_ _ | refine Below.setCell ?_ ?_ _ | refine below_via (by with_reducible assumption) ?_ ?_) | omega | (simp only [szs]; omega) | (simp only [szs] at *; omega))))))) (fun hHeld => ?_)
            clear hK K
            try simp only [Act.put, List.setIfInBounds_toArray, List.set_cons_zero, List.set_cons_succ]
            refine anyZ_ready (rs := [14]) (by kernel_rfl) (by simp) ?_
            refine (AllZ.last (o := ?o_28) ?ho_28 (by rfl) (fun K hK => ?st_28) AllZ.nil)
            case ho_28 => (simp only [List.getElem?_toArray, List.getElem?_cons_succ, List.getElem?_cons_zero]; exact rfl)
            case st_28 =>
              go_simp
              (have hb2 : Below w.heap.size w w2 := (by (repeat' (first | (with_reducible first | exact Below.refl _ _ | assumption | refine Below.alloc ?_ ?_ _ | refine Below.drew ?_ | refine below_drewN ?_ _ | refine Below.setCell ?_ ?_ _ | refine below_via (by with_reducible assumption) ?_ ?_) | omega | (simp only [szs]; omega) | (simp only [szs] at *; omega))))); (go_at_call 29; (with_reducible refine (cF _ hb2).mono ?_); rintro e w3 ⟨rfl, a3⟩); obtain ⟨s, m3, g1, g2, g3⟩ := a3.get; (have zb2 := hb2.size); (have k3 : Hid (KeepO (fun k => r k ≠ 0) w w3) := (KeepO.of_below hb2).trans g3 fun _ _ h => h); (have g1' : Hid (∀ k, s k ≠ 0 → r k ≠ 0 ∨ w.heap.size ≤ k) := fun k hk => (g1 k hk).imp id fun h => Nat.le_trans zb2 h); (have g2' : Hid (∀ k, r k ≠ 0 → s k = r k) := g2); (have m3' : Hid (Mdl s w3 b (S.fresh (Ob.toG X))) := m3); clear a3 g1 g2 g3 m3 hb2 zb2
              refine hK.out _ _ ?_
              clear hK K
              try simp only [Act.put, List.setIfInBounds_toArray, List.set_cons_zero, List.set_cons_succ]
              refine anyZ_ready (rs := [15]) (by kernel_rfl) (by simp) ?_
              refine (AllZ.last (o := ?o_29) ?ho_29 (by rfl) (fun K hK => ?st_29) AllZ.nil)
              case ho_29 => (simp only [List.getElem?_toArray, List.getElem?_cons_succ, List.getElem?_cons_zero]; exact rfl)
              case st_29 =>
                go_simp
                refine hK.out _ _ ?_
                clear hK K
                try simp only [Act.put, List.setIfInBounds_toArray, List.set_cons_zero, List.set_cons_succ]
                refine anyZ_done (by kernel_rfl) ?_ _
                refine NoPanic.normal ?_
                have k3l := k3.out.size
                have tA3 : Hid (A.At w3.heap.size w3) := at_keep tA'.out k3.out oA'.out
                have tB3 : Hid (B.At w3.heap.size w3) := at_keep tB'.out k3.out oB'.out
                clear b1 b2 z1 z2 cA cB cM cF hkeep
                go_upto_region 3 with (first | (go_at_call 33; (with_reducible refine (cJ _).mono ?_); rintro e w4 ⟨L, rfl, o4, n4, e4, t4, b4⟩; have n5 : Hid (L.n ≤ 1000) := (by show _ ≤ _; omega); clear n4; have m4 : Mdl s w4 b (S.fresh (Ob.toG X)) := m3'.out.below b4; have cR := mrowW s b (S.fresh (Ob.toG X)) hm A B L hA'.out hB'.out o4 nA nB n5.out a' b' (just S.n) eA eB e4 w4 m4 (TrmsAt.to tA3.out b4 (Nat.le_refl _)) (TrmsAt.to tB3.out b4 (Nat.le_refl _)) t4; unfold Lst.val at cR) | (go_at_call 40; (with_reducible refine cR.mono ?_); rintro e w5 ⟨rfl, a5⟩))
                have hend : Hid (After r w w5 b ((S.fresh (Ob.toG X)).row a' b' (just S.n))) := After.then g1'.out g2'.out k3.out (After.of_below b4 a5)
                clear a5 cR m4
                go_wp2
                go_ret
                exact ⟨rfl, hend.out⟩
end Go.Proofs.Ytdbolfmmlmoiaaa
