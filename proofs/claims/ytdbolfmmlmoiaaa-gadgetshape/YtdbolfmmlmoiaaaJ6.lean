/-
  Joined texts: What package gadget's calls answer (layer 12), of makers in memory that are told by what they hold: the contracts over which the statements are walked. The walk of the statements' own way to play a deed on a maker (obollaw12.call), over what package gadget's calls answer. The program's own maker (package gadget) in memory: its parts, what it owns; what a call leaves. The walks of package gadget: a variable that there is, a new one, its value; lists of one and of two. Errors by their numbers and places. What package rank's calls answer (layer 11): the contracts over which statements are walked. What package rank's Sum answers (layer 11): the contract over which statements are walked. The walks of package rank: sums of two, sound lists, a list's value.
-/
import Derived.Test.YtdbolfmmlmoiaaaJ5
import Derived.Test.YtdbolfmmlmoiaaaJ1
import Derived.Test.YtdbolfmmlmoiaaaJ2
import Derived.Test.YtdbolfmmlmoiaaaJ4
import Derived.Test.YtdbolfmmlmoiaaaJ3

namespace Go.Proofs.Ytdbolfmmlmoiaaa
open Go.RowKit Go.Proofs
set_option linter.unusedVariables false
set_option linter.unusedSimpArgs false
/-- A maker in memory: G w O g S: block g holds maker S, and owns the blocks of O. -/
abbrev Mkr := World → (Nat → Prop) → Nat → Mk → Prop
/-- What a call leaves: the maker as it is now; it owns what it owned, and new blocks; all else is as it was. -/
def GAfter (G : Mkr) (O : Nat → Prop) (W w' : World) (g : Nat) (S : Mk) : Prop := ∃ P : Nat → Prop, G w' P g S ∧ (∀ k, P k → O k ∨ W.heap.size ≤ k) ∧ KeepO O W w'
/-- What a maker must be for a call: right, and not too great. -/
def Mk.fit (S : Mk) : Prop := S.Good ∧ S.n ≤ 3000 ∧ S.m ≤ 3000
/-- A list of integers that a call reads. -/
def IdsAt (B : Nat) (w : World) (a : Option Addr) (n : Nat) (z : Nat → Int) : Prop := n = 0 ∨ ∃ b off, a = some ⟨b, off, none⟩ ∧ b < B ∧ IdsIn w b off n z
/-- A system of new memory: rows and lists whose blocks lie from B on, and aren't owned by O; they may be written. -/
structure NewSys (B : Nat) (O : Nat → Prop) (w : World) (a : Option Addr) (m : Nat) (R : Nat → Nat → Lst) : Prop where
  rows : RowsAt w.heap.size w a m R
  ok : ∀ i j, (R i j).Ok
  far : ∀ x, a = some x → B ≤ x.block ∧ ¬ O x.block
  lst : ∀ i, i < m → ∀ j, j < 3 → ∀ x, (R i j).ad = some x → 0 < (R i j).n → B ≤ x.block ∧ ¬ O x.block ∧ ∀ o, w.frozen? ⟨x.block, o, none⟩ = false
  apart : ∀ i, i < m → ∀ j, j < 3 → ∀ x y, (R i j).ad = some x → 0 < (R i j).n → a = some y → x.block ≠ y.block
structure GadC (G : Mkr) : Prop where
  keep : ∀ {w w' : World} {O Q : Nat → Prop} {g : Nat} {S : Mk}, G w O g S → KeepO Q w w' → (∀ k, O k → ¬ Q k) → G w' O g S
  lt : ∀ {w : World} {O : Nat → Prop} {g : Nat} {S : Mk}, G w O g S → ∀ k, O k → k < w.heap.size
  new : ∀ W, Calls Try.prog 10 #[] W fun e w' => ∃ g O, e = .returned (.pointer (some ⟨g, 0, none⟩)) ∧ G w' O g Mk.new ∧ (∀ k, O k → W.heap.size ≤ k) ∧ Below W.heap.size W w'
  public_yes : ∀ (W : World) O g S, G W O g S → S.fit → ¬ S.pub + 1 < S.n → ∀ X : Nat, X < 18446744073709551616 → Calls Try.prog 25 #[.pointer (some ⟨g, 0, none⟩), .int .u64 X] W fun e w' => e = .returned (.tuple #[.int .i64 (S.n : Nat), .nilIface]) ∧ GAfter G O W w' g (S.public (Ob.toG X))
  public_no : ∀ (W : World) O g S, G W O g S → S.fit → S.pub + 1 < S.n → ∀ X : Nat, X < 18446744073709551616 → Calls Try.prog 25 #[.pointer (some ⟨g, 0, none⟩), .int .u64 X] W fun e w' => e = .returned (.tuple #[.int .i64 (-1), .iface 67 (.int .i64 1)]) ∧ GAfter G O W w' g S
  private_ : ∀ (W : World) O g S, G W O g S → S.fit → ∀ X : Nat, X < 18446744073709551616 → Calls Try.prog 20 #[.pointer (some ⟨g, 0, none⟩), .int .u64 X] W fun e w' => e = .returned (.int .i64 (S.n : Nat)) ∧ GAfter G O W w' g (S.fresh (Ob.toG X))
  value : ∀ (W : World) O g S, G W O g S → S.fit → ∀ v : Int, -9223372036854775808 ≤ v → v < 9223372036854775808 → Calls Try.prog 13 #[.pointer (some ⟨g, 0, none⟩), .int .i64 v] W fun e w' => e = .returned (.int .u64 (S.v (S.is v) : Nat)) ∧ GAfter G O W w' g S
  linear : ∀ (W : World) O g S, G W O g S → S.fit → ∀ L : Lst, L.Ok → L.n ≤ 20 → L.At W.heap.size W → Calls Try.prog 30 #[.pointer (some ⟨g, 0, none⟩), L.val] W fun e w' => e = .returned (.int .i64 (S.n : Nat)) ∧ GAfter G O W w' g (S.linear (S.isL L))
  mul : ∀ (W : World) O g S, G W O g S → S.fit → ∀ a b : Int, (-9223372036854775808 ≤ a ∧ a < 9223372036854775808) → (-9223372036854775808 ≤ b ∧ b < 9223372036854775808) → Calls Try.prog 28 #[.pointer (some ⟨g, 0, none⟩), .int .i64 a, .int .i64 b] W fun e w' => e = .returned (.int .i64 (S.n : Nat)) ∧ GAfter G O W w' g (S.mulL (just (S.is a)) (just (S.is b)))
  bits : ∀ (W : World) O g S, G W O g S → S.fit → ∀ a n : Int, (-9223372036854775808 ≤ a ∧ a < 9223372036854775808) → (-9223372036854775808 ≤ n ∧ n < 9223372036854775808) → Calls Try.prog 34 #[.pointer (some ⟨g, 0, none⟩), .int .i64 a, .int .i64 n] W fun e w' => ∃ v P, e = .returned v ∧ OwnI w' v (bitsOf n) (fun j => ((S.n + j : Nat) : Int)) ∧ (∀ k, v.ownBlock = some k → W.heap.size ≤ k ∧ ¬ P k) ∧ G w' P g (S.bits (S.is a) (bitsOf n)) ∧ (∀ k, P k → O k ∨ W.heap.size ≤ k) ∧ KeepO O W w'
  choose : ∀ (W : World) O g S, G W O g S → S.fit → ∀ t a b : Int, (-9223372036854775808 ≤ t ∧ t < 9223372036854775808) → (-9223372036854775808 ≤ a ∧ a < 9223372036854775808) → (-9223372036854775808 ≤ b ∧ b < 9223372036854775808) → Calls Try.prog 36 #[.pointer (some ⟨g, 0, none⟩), .int .i64 t, .int .i64 a, .int .i64 b] W fun e w' => e = .returned (.int .i64 (S.n : Nat)) ∧ GAfter G O W w' g (S.choose (S.is t) (S.is a) (S.is b))
  same : ∀ (W : World) O g S, G W O g S → S.fit → ∀ a b : Int, (-9223372036854775808 ≤ a ∧ a < 9223372036854775808) → (-9223372036854775808 ≤ b ∧ b < 9223372036854775808) → Calls Try.prog 41 #[.pointer (some ⟨g, 0, none⟩), .int .i64 a, .int .i64 b] W fun e w' => e = .returned (.tuple #[]) ∧ GAfter G O W w' g (S.same (S.is a) (S.is b))
  two : ∀ (W : World) O g S, G W O g S → S.fit → ∀ a b : Int, (-9223372036854775808 ≤ a ∧ a < 9223372036854775808) → (-9223372036854775808 ≤ b ∧ b < 9223372036854775808) → Calls Try.prog 21 #[.pointer (some ⟨g, 0, none⟩), .int .i64 a, .int .i64 b] W fun e w' => e = .returned (.int .i64 ((S.n + 6 : Nat) : Int)) ∧ GAfter G O W w' g (S.two (S.is a) (S.is b))
  many : ∀ (W : World) O g S, G W O g S → S.fit → ∀ (ad : Option Addr) (m c : Nat) (V : Nat → Int), m ≤ 5 → (∀ i, i < m → -9223372036854775808 ≤ V i ∧ V i < 9223372036854775808) → IdsAt W.heap.size W ad m V → (∀ y, ad = some y → 0 < m → ¬ O y.block) → Calls Try.prog 22 #[.pointer (some ⟨g, 0, none⟩), .slice ad m c] W fun e w' => e = .returned (.int .i64 ((S.n + 7 * m : Nat) : Int)) ∧ GAfter G O W w' g (S.manyV m V m)
  done : ∀ (W : World) O g S, G W O g S → S.fit → Calls Try.prog 15 #[.pointer (some ⟨g, 0, none⟩)] W fun e w' => ∃ P a c R x d, e = .returned (.tuple #[rankV (S.n : Nat) (S.pub : Nat) a S.m c, .slice (some ⟨x, 0, none⟩) S.n d]) ∧ G w' P g S ∧ (∀ k, P k → O k ∨ W.heap.size ≤ k) ∧ KeepO O W w' ∧
    NewSys W.heap.size P w' a S.m R ∧ SysOf S R ∧ S.n ≤ d ∧ Wds w' x 0 S.n S.v ∧ W.heap.size ≤ x ∧ ¬ P x ∧ (∀ o, w'.frozen? ⟨x, o, none⟩ = false) ∧ (∀ y, a = some y → y.block ≠ x) ∧ ∀ i, i < S.m → ∀ j, j < 3 → ∀ y, (R i j).ad = some y → 0 < (R i j).n → y.block ≠ x
theorem GAfter.then {G : Mkr} {O P : Nat → Prop} {w w1 w2 : World} {g : Nat} {S : Mk} (hs : ∀ k, P k → O k ∨ w.heap.size ≤ k) (hk : KeepO O w w1) (h : GAfter G P w1 w2 g S) : GAfter G O w w2 g S := by
  obtain ⟨Q, h1, h2, h3⟩ := h
  have hz := hk.size
  refine ⟨Q, h1, fun k hq => ?_, hk.trans h3 fun i hi h => ?_⟩
  · rcases h2 k hq with h | h
    · exact hs k h
    · exact Or.inr (by omega)
  · rcases hs i h with h | h
    · exact h
    · omega
/-- Two things in memory that own nothing together stay so. -/
theorem apart_on {O P Q : Nat → Prop} {w : World} (h : ∀ k, O k → ¬ P k) (hp : ∀ k, P k → k < w.heap.size) (hq : ∀ k, Q k → O k ∨ w.heap.size ≤ k) : ∀ k, Q k → ¬ P k := fun k hk hp' => by
  rcases hq k hk with h1 | h1
  · exact h k h1 hp'
  · have := hp k hp'; omega
end Go.Proofs.Ytdbolfmmlmoiaaa

namespace Go.Proofs.Ytdbolfmmlmoiaaa
open Go.RowKit Go.Proofs
set_option linter.unusedVariables false
set_option linter.unusedSimpArgs false
attribute [local go_sem ↓] Go.wp_at_zero Go.wp_at_succ
/-- A deed's numbers are words, its lists lie in memory below block B. -/
structure Dd.At (d : Dd) (B : Nat) (w : World) : Prop where
  what : -9223372036854775808 ≤ d.what ∧ d.what < 9223372036854775808
  a : -9223372036854775808 ≤ d.a ∧ d.a < 9223372036854775808
  b : -9223372036854775808 ≤ d.b ∧ d.b < 9223372036854775808
  n : -9223372036854775808 ≤ d.n ∧ d.n < 9223372036854775808
  k : d.k < 18446744073709551616
  L : d.L.Ok
  V : ∀ i, -9223372036854775808 ≤ d.V i ∧ d.V i < 9223372036854775808
  l : d.L.At B w
  v : IdsAt B w d.ad d.m d.V
theorem IdsAt.to {B : Nat} {w w' : World} {a : Option Addr} {n : Nat} {z : Nat → Int} (h : IdsAt B w a n z) (hb : Below B w w') (hB : B ≤ w.heap.size) : IdsAt w'.heap.size w' a n z := by
  rcases h with h | ⟨b, off, e, hl, t⟩
  · exact Or.inl h
  · exact Or.inr ⟨b, off, e, by have := hb.size; omega, by have := hb.size; have := t.lt; omega, fun i hi => by rw [(bcell hb).1 b _ hl]; exact t.at_ i hi⟩
theorem Dd.At.to {B : Nat} {w w' : World} {d : Dd} (h : d.At B w) (hb : Below B w w') (hB : B ≤ w.heap.size) : d.At w'.heap.size w' :=
  ⟨h.what, h.a, h.b, h.n, h.k, h.L, h.V, TrmsAt.to h.l hb hB, h.v.to hb hB⟩
/-- A deed's integers aren't a maker's. -/
def Apt (O : Nat → Prop) (d : Dd) : Prop := ∀ y, d.ad = some y → 0 < d.m → ¬ O y.block
theorem Dd.At.apt {B : Nat} {w : World} {d : Dd} (h : d.At B w) {O : Nat → Prop} (hO : ∀ k, O k → B ≤ k) : Apt O d := fun y hy h0 ho => by
  rcases h.v with hz | ⟨b, off, e, hl, _⟩
  · omega
  · rw [hy] at e
    cases e
    have := hO _ ho
    dsimp only at this
    omega
theorem GadC.below {G : Mkr} (hG : GadC G) {w w' : World} {O : Nat → Prop} {g : Nat} {S : Mk} (h : G w O g S) (hb : Below w.heap.size w w') : G w' O g S := hG.keep (Q := fun _ => False) h (KeepO.of_below hb) fun _ _ h => h
theorem GAfter.of_below {G : Mkr} {O : Nat → Prop} {w w1 w2 : World} {g : Nat} {S : Mk} (hb : Below w.heap.size w w1) (h : GAfter G O w1 w2 g S) : GAfter G O w w2 g S := GAfter.then (fun k hk => Or.inl hk) (KeepO.of_below hb) h
theorem GAfter.same {G : Mkr} (hG : GadC G) {O : Nat → Prop} {w w' : World} {g : Nat} {S : Mk} (h : G w O g S) (hb : Below w.heap.size w w') : GAfter G O w w' g S := ⟨O, hG.below h hb, fun k hk => Or.inl hk, KeepO.of_below hb⟩
set_option maxRecDepth 8000 in
set_option maxHeartbeats 16000000 in
theorem mcallW {G : Mkr} (hG : GadC G) (O : Nat → Prop) (g : Nat) (S : Mk) (hf : S.fit) (d : Dd) (hs : d.L.n ≤ 20 ∧ d.m ≤ 5) (w : World) (h : G w O g S) (hd : d.At w.heap.size w) (ha : Apt O d) :
    Calls Try.prog 17 #[.pointer (some ⟨g, 0, none⟩), d.val] w fun e w' => e = .returned (.tuple #[]) ∧ GAfter G O w w' g (S.deed d) := by
  have cP := fun w => mpickW d.what hd.what.1 hd.what.2 w
  have hlt := pickN_lt d.what (show 0 < 9 by decide)
  have hh : Hid (G w O g S) := h
  obtain ⟨p, hp⟩ : ∃ p, pickN d.what 9 = p := ⟨_, rfl⟩
  rw [hp] at cP hlt
  have hcase : p = 0 ∨ p = 4 ∨ p = 1 ∨ p = 2 ∨ p = 3 ∨ p = 5 ∨ p = 6 ∨ p = 7 ∨ p = 8 := by omega
  clear hlt
  unfold Dd.val
  rcases hcase with rfl | rfl | rfl | rfl | rfl | rfl | rfl | rfl | rfl
  · rw [(show (((0 : Nat) : Int)) = 0 from rfl)] at cP
    by_cases hpub : S.pub + 1 < S.n
    · have cG := fun W (hW : Below w.heap.size w W) => hG.public_no W O g S (hG.below h hW) hf hpub d.k hd.k
      have hend : Hid (∀ w1, GAfter G O (w.alloc (.cells #[.int .i64 d.what, .int .i64 d.a, .int .i64 d.b, .int .i64 d.n, .int .u64 (d.k : Nat), d.L.val, .slice d.ad d.m d.c] 38)) w1 g S → GAfter G O w w1 g (S.deed d)) := fun w1 a => by
        have e : S.deed d = S := by unfold Mk.deed; simp only [hp, if_pos hpub]
        rw [e]
        exact GAfter.of_below ((Below.refl _ _).alloc (Nat.le_refl _) _) a
      clear h hd hp hf hpub hs hG
      unfold Lst.val at *
      go_enter Try.func17, Try.ntmps17
      go_wp2_with (first | (go_at_call 18; (with_reducible refine (cP _).mono ?_); rintro e w0 ⟨rfl, rfl⟩) | (go_at_call 25; (with_reducible refine (cG _ (by (repeat' (first | (with_reducible first | exact Below.refl _ _ | assumption | refine Below.alloc ?_ ?_ _ | refine Below.drew ?_ | refine below_drewN ?_ _ | refine Below.setCell ?_ ?_ _ | refine below_via (by with_reducible assumption) ?_ ?_) | omega | (simp only [szs]; omega) | (simp only [szs] at *; omega))))).mono ?_); rintro e w1 ⟨rfl, a1⟩))
      go_end0
      exact ⟨rfl, hend.out _ a1⟩
    · have cG := fun W (hW : Below w.heap.size w W) => hG.public_yes W O g S (hG.below h hW) hf hpub d.k hd.k
      have hend : Hid (∀ w1, GAfter G O (w.alloc (.cells #[.int .i64 d.what, .int .i64 d.a, .int .i64 d.b, .int .i64 d.n, .int .u64 (d.k : Nat), d.L.val, .slice d.ad d.m d.c] 38)) w1 g (S.public (Ob.toG d.k)) → GAfter G O w w1 g (S.deed d)) := fun w1 a => by
        have e : S.deed d = S.public (Ob.toG d.k) := by unfold Mk.deed; simp only [hp, if_neg hpub]
        rw [e]
        exact GAfter.of_below ((Below.refl _ _).alloc (Nat.le_refl _) _) a
      clear h hd hp hf hpub hs hG
      unfold Lst.val at *
      go_enter Try.func17, Try.ntmps17
      go_wp2_with (first | (go_at_call 18; (with_reducible refine (cP _).mono ?_); rintro e w0 ⟨rfl, rfl⟩) | (go_at_call 25; (with_reducible refine (cG _ (by (repeat' (first | (with_reducible first | exact Below.refl _ _ | assumption | refine Below.alloc ?_ ?_ _ | refine Below.drew ?_ | refine below_drewN ?_ _ | refine Below.setCell ?_ ?_ _ | refine below_via (by with_reducible assumption) ?_ ?_) | omega | (simp only [szs]; omega) | (simp only [szs] at *; omega))))).mono ?_); rintro e w1 ⟨rfl, a1⟩))
      go_end0
      exact ⟨rfl, hend.out _ a1⟩
  · rw [(show (((4 : Nat) : Int)) = 4 from rfl)] at cP
    have cG := fun W (hW : Below w.heap.size w W) => (hG.bits W O g S (hG.below h hW) hf d.a d.n hd.a hd.n).mono (R' := fun e w' => (∃ v, e = .returned v) ∧ GAfter G O W w' g (S.bits (S.is d.a) (bitsOf d.n))) fun e w' ⟨v, P, h1, _, _, h4, h5, h6⟩ => ⟨⟨v, h1⟩, P, h4, h5, h6⟩
    have hend : Hid (∀ w1, GAfter G O (w.alloc (.cells #[.int .i64 d.what, .int .i64 d.a, .int .i64 d.b, .int .i64 d.n, .int .u64 (d.k : Nat), d.L.val, .slice d.ad d.m d.c] 38)) w1 g (S.bits (S.is d.a) (bitsOf d.n)) → GAfter G O w w1 g (S.deed d)) := fun w1 a => by
      have e : S.deed d = S.bits (S.is d.a) (bitsOf d.n) := by unfold Mk.deed; simp only [hp]
      rw [e]
      exact GAfter.of_below ((Below.refl _ _).alloc (Nat.le_refl _) _) a
    clear h hd hp hf hs hG
    unfold Lst.val at *
    go_enter Try.func17, Try.ntmps17
    go_wp2_with (first | (go_at_call 18; (with_reducible refine (cP _).mono ?_); rintro e w0 ⟨rfl, rfl⟩) | (go_at_call 34; (with_reducible refine (cG _ (by (repeat' (first | (with_reducible first | exact Below.refl _ _ | assumption | refine Below.alloc ?_ ?_ _ | refine Below.drew ?_ | refine below_drewN ?_ _ | refine Below.setCell ?_ ?_ _ | refine below_via (by with_reducible assumption) ?_ ?_) | omega | (simp only [szs]; omega) | (simp only [szs] at *; omega))))).mono ?_); rintro e w1 ⟨⟨v1, rfl⟩, a1⟩))
    go_end0
    exact ⟨rfl, hend.out _ a1⟩
  · rw [(show (((1 : Nat) : Int)) = 1 from rfl)] at cP
    have cG := fun W (hW : Below w.heap.size w W) => hG.private_ W O g S (hG.below h hW) hf d.k hd.k
    have hend : Hid (∀ w1, GAfter G O (w.alloc (.cells #[.int .i64 d.what, .int .i64 d.a, .int .i64 d.b, .int .i64 d.n, .int .u64 (d.k : Nat), d.L.val, .slice d.ad d.m d.c] 38)) w1 g (S.fresh (Ob.toG d.k)) → GAfter G O w w1 g (S.deed d)) := fun w1 a => by
      have e : S.deed d = S.fresh (Ob.toG d.k) := by unfold Mk.deed; simp only [hp]
      rw [e]
      exact GAfter.of_below ((Below.refl _ _).alloc (Nat.le_refl _) _) a
    clear h hd hp hf hs hG
    unfold Lst.val at *
    go_enter Try.func17, Try.ntmps17
    go_wp2_with (first | (go_at_call 18; (with_reducible refine (cP _).mono ?_); rintro e w0 ⟨rfl, rfl⟩) | (go_at_call 20; (with_reducible refine (cG _ (by (repeat' (first | (with_reducible first | exact Below.refl _ _ | assumption | refine Below.alloc ?_ ?_ _ | refine Below.drew ?_ | refine below_drewN ?_ _ | refine Below.setCell ?_ ?_ _ | refine below_via (by with_reducible assumption) ?_ ?_) | omega | (simp only [szs]; omega) | (simp only [szs] at *; omega))))).mono ?_); rintro e w1 ⟨rfl, a1⟩))
    go_end0
    exact ⟨rfl, hend.out _ a1⟩
  · rw [(show (((2 : Nat) : Int)) = 2 from rfl)] at cP
    have cG := fun W (hW : Below w.heap.size w W) => hG.linear W O g S (hG.below h hW) hf d.L hd.L hs.1 (TrmsAt.to hd.l hW (Nat.le_refl _))
    have hend : Hid (∀ w1, GAfter G O (w.alloc (.cells #[.int .i64 d.what, .int .i64 d.a, .int .i64 d.b, .int .i64 d.n, .int .u64 (d.k : Nat), d.L.val, .slice d.ad d.m d.c] 38)) w1 g (S.linear (S.isL d.L)) → GAfter G O w w1 g (S.deed d)) := fun w1 a => by
      have e : S.deed d = S.linear (S.isL d.L) := by unfold Mk.deed; simp only [hp]
      rw [e]
      exact GAfter.of_below ((Below.refl _ _).alloc (Nat.le_refl _) _) a
    clear h hd hp hf hs hG
    unfold Lst.val at *
    go_enter Try.func17, Try.ntmps17
    go_wp2_with (first | (go_at_call 18; (with_reducible refine (cP _).mono ?_); rintro e w0 ⟨rfl, rfl⟩) | (go_at_call 30; (with_reducible refine (cG _ (by (repeat' (first | (with_reducible first | exact Below.refl _ _ | assumption | refine Below.alloc ?_ ?_ _ | refine Below.drew ?_ | refine below_drewN ?_ _ | refine Below.setCell ?_ ?_ _ | refine below_via (by with_reducible assumption) ?_ ?_) | omega | (simp only [szs]; omega) | (simp only [szs] at *; omega))))).mono ?_); rintro e w1 ⟨rfl, a1⟩))
    go_end0
    exact ⟨rfl, hend.out _ a1⟩
  · rw [(show (((3 : Nat) : Int)) = 3 from rfl)] at cP
    have cG := fun W (hW : Below w.heap.size w W) => hG.mul W O g S (hG.below h hW) hf d.a d.b hd.a hd.b
    have hend : Hid (∀ w1, GAfter G O (w.alloc (.cells #[.int .i64 d.what, .int .i64 d.a, .int .i64 d.b, .int .i64 d.n, .int .u64 (d.k : Nat), d.L.val, .slice d.ad d.m d.c] 38)) w1 g (S.mulL (just (S.is d.a)) (just (S.is d.b))) → GAfter G O w w1 g (S.deed d)) := fun w1 a => by
      have e : S.deed d = S.mulL (just (S.is d.a)) (just (S.is d.b)) := by unfold Mk.deed; simp only [hp]
      rw [e]
      exact GAfter.of_below ((Below.refl _ _).alloc (Nat.le_refl _) _) a
    clear h hd hp hf hs hG
    unfold Lst.val at *
    go_enter Try.func17, Try.ntmps17
    go_wp2_with (first | (go_at_call 18; (with_reducible refine (cP _).mono ?_); rintro e w0 ⟨rfl, rfl⟩) | (go_at_call 28; (with_reducible refine (cG _ (by (repeat' (first | (with_reducible first | exact Below.refl _ _ | assumption | refine Below.alloc ?_ ?_ _ | refine Below.drew ?_ | refine below_drewN ?_ _ | refine Below.setCell ?_ ?_ _ | refine below_via (by with_reducible assumption) ?_ ?_) | omega | (simp only [szs]; omega) | (simp only [szs] at *; omega))))).mono ?_); rintro e w1 ⟨rfl, a1⟩))
    go_end0
    exact ⟨rfl, hend.out _ a1⟩
  · rw [(show (((5 : Nat) : Int)) = 5 from rfl)] at cP
    have cG := fun W (hW : Below w.heap.size w W) => hG.choose W O g S (hG.below h hW) hf d.n d.a d.b hd.n hd.a hd.b
    have hend : Hid (∀ w1, GAfter G O (w.alloc (.cells #[.int .i64 d.what, .int .i64 d.a, .int .i64 d.b, .int .i64 d.n, .int .u64 (d.k : Nat), d.L.val, .slice d.ad d.m d.c] 38)) w1 g (S.choose (S.is d.n) (S.is d.a) (S.is d.b)) → GAfter G O w w1 g (S.deed d)) := fun w1 a => by
      have e : S.deed d = S.choose (S.is d.n) (S.is d.a) (S.is d.b) := by unfold Mk.deed; simp only [hp]
      rw [e]
      exact GAfter.of_below ((Below.refl _ _).alloc (Nat.le_refl _) _) a
    clear h hd hp hf hs hG
    unfold Lst.val at *
    go_enter Try.func17, Try.ntmps17
    go_wp2_with (first | (go_at_call 18; (with_reducible refine (cP _).mono ?_); rintro e w0 ⟨rfl, rfl⟩) | (go_at_call 36; (with_reducible refine (cG _ (by (repeat' (first | (with_reducible first | exact Below.refl _ _ | assumption | refine Below.alloc ?_ ?_ _ | refine Below.drew ?_ | refine below_drewN ?_ _ | refine Below.setCell ?_ ?_ _ | refine below_via (by with_reducible assumption) ?_ ?_) | omega | (simp only [szs]; omega) | (simp only [szs] at *; omega))))).mono ?_); rintro e w1 ⟨rfl, a1⟩))
    go_end0
    exact ⟨rfl, hend.out _ a1⟩
  · rw [(show (((6 : Nat) : Int)) = 6 from rfl)] at cP
    have cG := fun W (hW : Below w.heap.size w W) => hG.same W O g S (hG.below h hW) hf d.a d.b hd.a hd.b
    have hend : Hid (∀ w1, GAfter G O (w.alloc (.cells #[.int .i64 d.what, .int .i64 d.a, .int .i64 d.b, .int .i64 d.n, .int .u64 (d.k : Nat), d.L.val, .slice d.ad d.m d.c] 38)) w1 g (S.same (S.is d.a) (S.is d.b)) → GAfter G O w w1 g (S.deed d)) := fun w1 a => by
      have e : S.deed d = S.same (S.is d.a) (S.is d.b) := by unfold Mk.deed; simp only [hp]
      rw [e]
      exact GAfter.of_below ((Below.refl _ _).alloc (Nat.le_refl _) _) a
    clear h hd hp hf hs hG
    unfold Lst.val at *
    go_enter Try.func17, Try.ntmps17
    go_wp2_with (first | (go_at_call 18; (with_reducible refine (cP _).mono ?_); rintro e w0 ⟨rfl, rfl⟩) | (go_at_call 41; (with_reducible refine (cG _ (by (repeat' (first | (with_reducible first | exact Below.refl _ _ | assumption | refine Below.alloc ?_ ?_ _ | refine Below.drew ?_ | refine below_drewN ?_ _ | refine Below.setCell ?_ ?_ _ | refine below_via (by with_reducible assumption) ?_ ?_) | omega | (simp only [szs]; omega) | (simp only [szs] at *; omega))))).mono ?_); rintro e w1 ⟨rfl, a1⟩))
    go_end0
    exact ⟨rfl, hend.out _ a1⟩
  · rw [(show (((7 : Nat) : Int)) = 7 from rfl)] at cP
    have cG := fun W (hW : Below w.heap.size w W) => hG.two W O g S (hG.below h hW) hf d.a d.b hd.a hd.b
    have hend : Hid (∀ w1, GAfter G O (w.alloc (.cells #[.int .i64 d.what, .int .i64 d.a, .int .i64 d.b, .int .i64 d.n, .int .u64 (d.k : Nat), d.L.val, .slice d.ad d.m d.c] 38)) w1 g (S.two (S.is d.a) (S.is d.b)) → GAfter G O w w1 g (S.deed d)) := fun w1 a => by
      have e : S.deed d = S.two (S.is d.a) (S.is d.b) := by unfold Mk.deed; simp only [hp]
      rw [e]
      exact GAfter.of_below ((Below.refl _ _).alloc (Nat.le_refl _) _) a
    clear h hd hp hf hs hG
    unfold Lst.val at *
    go_enter Try.func17, Try.ntmps17
    go_wp2_with (first | (go_at_call 18; (with_reducible refine (cP _).mono ?_); rintro e w0 ⟨rfl, rfl⟩) | (go_at_call 21; (with_reducible refine (cG _ (by (repeat' (first | (with_reducible first | exact Below.refl _ _ | assumption | refine Below.alloc ?_ ?_ _ | refine Below.drew ?_ | refine below_drewN ?_ _ | refine Below.setCell ?_ ?_ _ | refine below_via (by with_reducible assumption) ?_ ?_) | omega | (simp only [szs]; omega) | (simp only [szs] at *; omega))))).mono ?_); rintro e w1 ⟨rfl, a1⟩))
    go_end0
    exact ⟨rfl, hend.out _ a1⟩
  · rw [(show (((8 : Nat) : Int)) = 8 from rfl)] at cP
    have cG := fun W (hW : Below w.heap.size w W) => hG.many W O g S (hG.below h hW) hf d.ad d.m d.c d.V hs.2 (fun i _ => hd.V i) (hd.v.to hW (Nat.le_refl _)) ha
    have hend : Hid (∀ w1, GAfter G O (w.alloc (.cells #[.int .i64 d.what, .int .i64 d.a, .int .i64 d.b, .int .i64 d.n, .int .u64 (d.k : Nat), d.L.val, .slice d.ad d.m d.c] 38)) w1 g (S.manyV d.m d.V d.m) → GAfter G O w w1 g (S.deed d)) := fun w1 a => by
      have e : S.deed d = S.manyV d.m d.V d.m := by unfold Mk.deed; simp only [hp]
      rw [e]
      exact GAfter.of_below ((Below.refl _ _).alloc (Nat.le_refl _) _) a
    clear h hd hp hf hs hG
    unfold Lst.val at *
    go_enter Try.func17, Try.ntmps17
    go_wp2_with (first | (go_at_call 18; (with_reducible refine (cP _).mono ?_); rintro e w0 ⟨rfl, rfl⟩) | (go_at_call 22; (with_reducible refine (cG _ (by (repeat' (first | (with_reducible first | exact Below.refl _ _ | assumption | refine Below.alloc ?_ ?_ _ | refine Below.drew ?_ | refine below_drewN ?_ _ | refine Below.setCell ?_ ?_ _ | refine below_via (by with_reducible assumption) ?_ ?_) | omega | (simp only [szs]; omega) | (simp only [szs] at *; omega))))).mono ?_); rintro e w1 ⟨rfl, a1⟩))
    go_end0
    exact ⟨rfl, hend.out _ a1⟩
end Go.Proofs.Ytdbolfmmlmoiaaa

namespace Go.Proofs.Ytdbolfmmlmoiaaa
open Go.RowKit Go.Proofs
set_option linter.unusedVariables false
set_option linter.unusedSimpArgs false
/-- The program's maker, its parts: block b holds how many are public, values, rows; roles of blocks: 1 b, 2 rows, 3 values, 4 lists. -/
structure GadP (r : Nat → Nat) (w : World) (b : Nat) (y : Int) (vr vv : Value) (m : Nat) (R : Nat → Nat → Lst) (n : Nat) (v : Nat → Nat) : Prop where
  c0 : w.cell? ⟨b, 0, none⟩ = some (.int .i64 y)
  c1 : w.cell? ⟨b, 1, none⟩ = some vv
  c2 : w.cell? ⟨b, 2, none⟩ = some vr
  f : ∀ o, o < 3 → w.frozen? ⟨b, o, none⟩ = false
  rb : r b = 1
  lt : ∀ k, r k ≠ 0 → k < w.heap.size
  rows : w.ownsRow 0 63 3 vr m (rals R m)
  rr : ∀ k, vr.ownBlock = some k → r k = 2
  vals : w.ownsRow 0 30 1 vv n (wals v n)
  rv : ∀ k, vv.ownBlock = some k → r k = 3
  lsts : ∀ i, i < m → ∀ j, j < 3 → LstIn r w (R i j)
section
variable {r : Nat → Nat} {w w' : World} {b : Nat} {y : Int} {vr vv : Value} {m : Nat} {R : Nat → Nat → Lst} {n : Nat} {v : Nat → Nat}
theorem GadP.keep (t : GadP r w b y vr vv m R n v) {O : Nat → Prop} (h : KeepO O w w') (hn : ∀ k, r k ≠ 0 → ¬ O k) : GadP r w' b y vr vv m R n v := by
  have nb : ¬ O b := hn b (by rw [t.rb]; decide)
  exact ⟨h.cell t.c0 nb, h.cell t.c1 nb, h.cell t.c2 nb, fun o ho => (h.frozen (World.block_lt_of_cell? _ _ t.c0) nb).trans (t.f o ho), t.rb, fun k hk => Nat.lt_of_lt_of_le (t.lt k hk) h.size,
    own_keep t.rows h fun k hk => hn k (by rw [t.rr k hk]; decide), t.rr, own_keep t.vals h fun k hk => hn k (by rw [t.rv k hk]; decide), t.rv, fun i hi j hj => (t.lsts i hi j hj).keep h fun k hk => hn k (by rw [hk]; decide)⟩
theorem GadP.below (t : GadP r w b y vr vv m R n v) (h : Below w.heap.size w w') : GadP r w' b y vr vv m R n v := t.keep (O := fun _ => False) (KeepO.of_below h) fun _ _ h => h
/-- More roles. -/
theorem GadP.more (t : GadP r w b y vr vv m R n v) {s : Nat → Nat} (hs : ∀ k, r k ≠ 0 → s k = r k) (hl : ∀ k, s k ≠ 0 → k < w.heap.size) : GadP s w b y vr vv m R n v :=
  ⟨t.c0, t.c1, t.c2, t.f, (hs b (by rw [t.rb]; decide)).trans t.rb, hl, t.rows, fun k hk => (hs k (by rw [t.rr k hk]; decide)).trans (t.rr k hk), t.vals, fun k hk => (hs k (by rw [t.rv k hk]; decide)).trans (t.rv k hk), fun i hi j hj => (t.lsts i hi j hj).role fun k hk => (hs k (by rw [hk]; decide)).trans hk⟩
theorem GadP.blt (t : GadP r w b y vr vv m R n v) : b < w.heap.size := World.block_lt_of_cell? _ _ t.c0
theorem GadP.set0 (t : GadP r w b y vr vv m R n v) (y' : Int) : GadP r (w.setCell ⟨b, 0, none⟩ (.int .i64 y')) b y' vr vv m R n v := by
  have hk : KeepO (fun k => r k = 1) w (w.setCell ⟨b, 0, none⟩ (.int .i64 y')) := KeepO.setCell w b 0 _ t.rb
  exact ⟨World.cell?_setCell_same _ _ _ t.c0, by rw [World.cell?_setCell_other _ _ _ _ (by simp)]; exact t.c1, by rw [World.cell?_setCell_other _ _ _ _ (by simp)]; exact t.c2, fun o ho => by simp [t.f o ho], t.rb, fun k hk' => by simp [t.lt k hk'],
    own_keep t.rows hk fun k hk' => by rw [t.rr k hk']; decide, t.rr, own_keep t.vals hk fun k hk' => by rw [t.rv k hk']; decide, t.rv, fun i hi j hj => (t.lsts i hi j hj).keep hk fun k hk' => by rw [hk']; decide⟩
/-- One row more, stored. -/
theorem GadP.push (t : GadP r w b y vr vv m R n v) {vr' : Value} {R' : Nat → Nat → Lst} (hg : w.grownBy w' vr.ownBlock) (ho : w'.ownsRow 0 63 3 vr' (m + 1) (rals R' (m + 1))) (hb : ∀ k, vr'.ownBlock = some k → vr.ownBlock = some k ∨ k = w.heap.size)
   (hR : ∀ i, i < m → R' i = R i) (hl : ∀ j, j < 3 → LstIn r w (R' m j)) :
    ∃ s : Nat → Nat, GadP s (w'.setCell ⟨b, 2, none⟩ vr') b y vr' vv (m + 1) R' n v ∧ (∀ k, s k ≠ 0 → r k ≠ 0 ∨ w.heap.size ≤ k) ∧ (∀ k, r k ≠ 0 → s k = r k) ∧ KeepO (fun k => r k ≠ 0) w (w'.setCell ⟨b, 2, none⟩ vr') := by
  have hk1 : KeepO (fun k => r k = 2) w w' := KeepO.grown hg t.rr
  have hk2 : KeepO (fun k => r k = 1) w' (w'.setCell ⟨b, 2, none⟩ vr') := KeepO.setCell w' b 2 _ t.rb
  have nb : ¬ r b = 2 := by rw [t.rb]; decide
  have nr : ∀ k, vr'.ownBlock = some k → r k = 2 ∨ k = w.heap.size := fun k hk => (hb k hk).imp (t.rr k) id
  have hz : ∀ k, w.heap.size ≤ k → r k = 0 := fun k hk => Decidable.byContradiction fun h => by have := t.lt k h; omega
  refine ⟨fun k => if vr'.ownBlock = some k then 2 else r k, ?_, fun k hk => ?_, fun k hk => ?_, ?_⟩
  · have same : ∀ k, r k ≠ 0 → (if vr'.ownBlock = some k then 2 else r k) = r k := fun k hk => by
      split
      · rcases nr k (by assumption) with h | h
        · exact h.symm
        · exact absurd (hz k (by omega)) hk
      · rfl
    refine ⟨?_, ?_, World.cell?_setCell_same _ _ _ (hk1.cell t.c2 nb), fun o ho => ?_, (same b (by rw [t.rb]; decide)).trans t.rb, fun k hk => ?_, ?_, fun k hk => if_pos hk, ?_, fun k hk => ?_, fun i hi j hj => ?_⟩
    · rw [World.cell?_setCell_other _ _ _ _ (by simp)]; exact hk1.cell t.c0 nb
    · rw [World.cell?_setCell_other _ _ _ _ (by simp)]; exact hk1.cell t.c1 nb
    · simp only [World.frozen?_setCell]
      exact (hk1.frozen t.blt nb).trans (t.f o ho)
    · have hs := hg.size
      have e : ∀ u o, (w'.setCell ⟨b, o, none⟩ u).heap.size = w'.heap.size := fun u o => by simp
      rw [e]
      split at hk
      · exact (World.ownsRow.lt ho k (by assumption)).2
      · have := t.lt k hk; omega
    · refine own_keep ho hk2 fun k hk => ?_
      rcases nr k hk with h | h
      · rw [h]; decide
      · rw [hz k (by omega)]; decide
    · exact own_keep (own_keep t.vals hk1 fun k hk => by rw [t.rv k hk]; decide) hk2 fun k hk => by rw [t.rv k hk]; decide
    · exact (same k (by rw [t.rv k hk]; decide)).trans (t.rv k hk)
    · have key : LstIn r w (R' i j) := by
        rcases Nat.lt_or_ge i m with h | h
        · rw [hR i h]; exact t.lsts i h j hj
        · obtain rfl : i = m := by omega
          exact hl j hj
      exact ((key.keep hk1 fun k hk => by rw [hk]; decide).keep hk2 fun k hk => by rw [hk]; decide).role fun k hk => (same k (by rw [hk]; decide)).trans hk
  · by_cases h : vr'.ownBlock = some k
    · rcases nr k h with h2 | h2
      · exact Or.inl (by rw [h2]; decide)
      · exact Or.inr (by omega)
    · dsimp only at hk
      rw [if_neg h] at hk
      exact Or.inl hk
  · dsimp only
    split
    · rcases nr k (by assumption) with h | h
      · exact h.symm
      · exact absurd (hz k (by omega)) hk
    · rfl
  · exact (KeepO.trans (O := fun k => r k ≠ 0) ⟨hk1.os, hk1.tape, hk1.output, hk1.size, fun k hk hn => hk1.block k hk fun h => hn (by rw [h]; decide)⟩ hk2 fun k _ h => by rw [h]; decide)
/-- One value more, stored. -/
theorem GadP.pushV (t : GadP r w b y vr vv m R n v) {vv' : Value} {v' : Nat → Nat} (hg : w.grownBy w' vv.ownBlock) (ho : w'.ownsRow 0 30 1 vv' (n + 1) (wals v' (n + 1))) (hb : ∀ k, vv'.ownBlock = some k → vv.ownBlock = some k ∨ k = w.heap.size) :
    ∃ s : Nat → Nat, GadP s (w'.setCell ⟨b, 1, none⟩ vv') b y vr vv' m R (n + 1) v' ∧ (∀ k, s k ≠ 0 → r k ≠ 0 ∨ w.heap.size ≤ k) ∧ (∀ k, r k ≠ 0 → s k = r k) ∧ KeepO (fun k => r k ≠ 0) w (w'.setCell ⟨b, 1, none⟩ vv') := by
  have hk1 : KeepO (fun k => r k = 3) w w' := KeepO.grown hg t.rv
  have hk2 : KeepO (fun k => r k = 1) w' (w'.setCell ⟨b, 1, none⟩ vv') := KeepO.setCell w' b 1 _ t.rb
  have nb : ¬ r b = 3 := by rw [t.rb]; decide
  have nr : ∀ k, vv'.ownBlock = some k → r k = 3 ∨ k = w.heap.size := fun k hk => (hb k hk).imp (t.rv k) id
  have hz : ∀ k, w.heap.size ≤ k → r k = 0 := fun k hk => Decidable.byContradiction fun h => by have := t.lt k h; omega
  refine ⟨fun k => if vv'.ownBlock = some k then 3 else r k, ?_, fun k hk => ?_, fun k hk => ?_, ?_⟩
  · have same : ∀ k, r k ≠ 0 → (if vv'.ownBlock = some k then 3 else r k) = r k := fun k hk => by
      split
      · rcases nr k (by assumption) with h | h
        · exact h.symm
        · exact absurd (hz k (by omega)) hk
      · rfl
    refine ⟨?_, World.cell?_setCell_same _ _ _ (hk1.cell t.c1 nb), ?_, fun o ho => ?_, (same b (by rw [t.rb]; decide)).trans t.rb, fun k hk => ?_, ?_, fun k hk => ?_, ?_, fun k hk => if_pos hk, fun i hi j hj => ?_⟩
    · rw [World.cell?_setCell_other _ _ _ _ (by simp)]; exact hk1.cell t.c0 nb
    · rw [World.cell?_setCell_other _ _ _ _ (by simp)]; exact hk1.cell t.c2 nb
    · simp only [World.frozen?_setCell]
      exact (hk1.frozen t.blt nb).trans (t.f o ho)
    · have hs := hg.size
      have e : ∀ u o, (w'.setCell ⟨b, o, none⟩ u).heap.size = w'.heap.size := fun u o => by simp
      rw [e]
      split at hk
      · exact (World.ownsRow.lt ho k (by assumption)).2
      · have := t.lt k hk; omega
    · exact own_keep (own_keep t.rows hk1 fun k hk => by rw [t.rr k hk]; decide) hk2 fun k hk => by rw [t.rr k hk]; decide
    · exact (same k (by rw [t.rr k hk]; decide)).trans (t.rr k hk)
    · refine own_keep ho hk2 fun k hk => ?_
      rcases nr k hk with h | h
      · rw [h]; decide
      · rw [hz k (by omega)]; decide
    · exact (((t.lsts i hi j hj).keep hk1 fun k hk => by rw [hk]; decide).keep hk2 fun k hk => by rw [hk]; decide).role fun k hk => (same k (by rw [hk]; decide)).trans hk
  · by_cases h : vv'.ownBlock = some k
    · rcases nr k h with h2 | h2
      · exact Or.inl (by rw [h2]; decide)
      · exact Or.inr (by omega)
    · dsimp only at hk
      rw [if_neg h] at hk
      exact Or.inl hk
  · dsimp only
    split
    · rcases nr k (by assumption) with h | h
      · exact h.symm
      · exact absurd (hz k (by omega)) hk
    · rfl
  · exact (KeepO.trans (O := fun k => r k ≠ 0) ⟨hk1.os, hk1.tape, hk1.output, hk1.size, fun k hk hn => hk1.block k hk fun h => hn (by rw [h]; decide)⟩ hk2 fun k _ h => by rw [h]; decide)
end
/-- Three lists that were made: their roles. -/
theorem GadP.lists {r : Nat → Nat} {w w' : World} {b : Nat} {y : Int} {vr vv : Value} {m : Nat} {R : Nat → Nat → Lst} {n : Nat} {v : Nat → Nat} (t : GadP r w b y vr vv m R n v) (hb : Below w.heap.size w w') {P Q T : Lst}
   (hP : P.At w'.heap.size w') (hQ : Q.At w'.heap.size w') (hT : T.At w'.heap.size w') (oP : ∀ k, P.val.ownBlock = some k → w.heap.size ≤ k) (oQ : ∀ k, Q.val.ownBlock = some k → w.heap.size ≤ k) (oT : ∀ k, T.val.ownBlock = some k → w.heap.size ≤ k) :
    ∃ s : Nat → Nat, GadP s w' b y vr vv m R n v ∧ (LstIn s w' P ∧ LstIn s w' Q ∧ LstIn s w' T) ∧ (∀ k, s k ≠ 0 → r k ≠ 0 ∨ w.heap.size ≤ k) ∧ (∀ k, r k ≠ 0 → s k = r k) := by
  have hz : ∀ k, w.heap.size ≤ k → r k = 0 := fun k hk => Decidable.byContradiction fun h => by have := t.lt k h; omega
  have key : ∀ {L : Lst}, L.At w'.heap.size w' → L.n = 0 ∨ ∃ g off, L.ad = some ⟨g, off, none⟩ ∧ g < w'.heap.size ∧ TrmsIn w' g off L.n L.V L.K := fun {L} h => by
    rcases h with h | ⟨g, off, h1, h2, h3⟩
    · exact Or.inl h
    · exact Or.inr ⟨g, off, h1, h2, h3⟩
  have inn : ∀ {L : Lst} {s : Nat → Nat}, L.At w'.heap.size w' → (∀ k, L.val.ownBlock = some k → k < w'.heap.size → s k = 4) → LstIn s w' L := fun {L s} h hs => by
    rcases key h with h | ⟨g, off, h1, h2, h3⟩
    · exact Or.inl h
    · exact Or.inr ⟨g, off, h1, hs g (by unfold Lst.val Value.ownBlock; rw [h1]) h2, h3⟩
  refine ⟨fun k => if k < w'.heap.size ∧ (P.val.ownBlock = some k ∨ Q.val.ownBlock = some k ∨ T.val.ownBlock = some k) then 4 else r k, (t.below hb).more (fun k hk => ?_) (fun k hk => ?_), ⟨inn hP fun k hk hl => if_pos ⟨hl, Or.inl hk⟩, inn hQ fun k hk hl => if_pos ⟨hl, Or.inr (Or.inl hk)⟩, inn hT fun k hk hl => if_pos ⟨hl, Or.inr (Or.inr hk)⟩⟩, fun k hk => ?_, fun k hk => ?_⟩
  · refine if_neg ?_
    rintro ⟨_, h | h | h⟩
    · exact hk (hz k (oP k h))
    · exact hk (hz k (oQ k h))
    · exact hk (hz k (oT k h))
  · split at hk
    · rename_i h; exact h.1
    · have := t.lt k hk; have := hb.size; omega
  · dsimp only at hk
    split at hk
    · rename_i h
      rcases h.2 with h | h | h
      · exact Or.inr (oP k h)
      · exact Or.inr (oQ k h)
      · exact Or.inr (oT k h)
    · exact Or.inl hk
  · refine if_neg ?_
    rintro ⟨_, h | h | h⟩
    · exact hk (hz k (oP k h))
    · exact hk (hz k (oQ k h))
    · exact hk (hz k (oT k h))
/-- Block b holds the program's maker S. -/
def GMd (r : Nat → Nat) (w : World) (b : Nat) (S : Mk) : Prop := ∃ vr vv R, GadP r w b (S.pub : Nat) vr vv S.m R S.n S.v ∧ SysOf S R ∧ ∀ i, i < S.m → ∀ j, j < 3 → (R i j).Ok
/-- What a call leaves: the maker as it is now; the roles that were there stay, new ones lie in new blocks; all else is as it was. -/
def GAf (r : Nat → Nat) (W w' : World) (b : Nat) (S : Mk) : Prop := ∃ s : Nat → Nat, GMd s w' b S ∧ (∀ k, s k ≠ 0 → r k ≠ 0 ∨ W.heap.size ≤ k) ∧ (∀ k, r k ≠ 0 → s k = r k) ∧ KeepO (fun k => r k ≠ 0) W w'
theorem GMd.below {r : Nat → Nat} {w w' : World} {b : Nat} {S : Mk} (h : GMd r w b S) (hb : Below w.heap.size w w') : GMd r w' b S := by
  obtain ⟨vr, vv, R, t, h1, h2⟩ := h
  exact ⟨vr, vv, R, t.below hb, h1, h2⟩
theorem GMd.keep {r : Nat → Nat} {w w' : World} {b : Nat} {S : Mk} (h : GMd r w b S) {O : Nat → Prop} (hk : KeepO O w w') (hn : ∀ k, r k ≠ 0 → ¬ O k) : GMd r w' b S := by
  obtain ⟨vr, vv, R, t, h1, h2⟩ := h
  exact ⟨vr, vv, R, t.keep hk hn, h1, h2⟩
theorem GMd.lt {r : Nat → Nat} {w : World} {b : Nat} {S : Mk} (h : GMd r w b S) : ∀ k, r k ≠ 0 → k < w.heap.size := by
  obtain ⟨vr, vv, R, t, h1, h2⟩ := h
  exact t.lt
theorem GAf.same {r : Nat → Nat} {w w' : World} {b : Nat} {S : Mk} (h : GMd r w b S) (hb : Below w.heap.size w w') : GAf r w w' b S :=
  ⟨r, h.below hb, fun k hk => Or.inl hk, fun k hk => rfl, KeepO.of_below hb⟩
/-- One call behind another. -/
theorem GAf.then {r s : Nat → Nat} {w w1 w2 : World} {b : Nat} {S : Mk} (hs : ∀ k, s k ≠ 0 → r k ≠ 0 ∨ w.heap.size ≤ k) (he : ∀ k, r k ≠ 0 → s k = r k) (hk : KeepO (fun k => r k ≠ 0) w w1) (h : GAf s w1 w2 b S) : GAf r w w2 b S := by
  obtain ⟨q, h1, h2, h3, h4⟩ := h
  have hz := hk.size
  refine ⟨q, h1, fun k hq => ?_, fun k hr => ?_, hk.trans h4 fun i hi h => ?_⟩
  · rcases h2 k hq with h | h
    · exact hs k h
    · exact Or.inr (by omega)
  · have e := he k hr
    exact (h3 k (by rw [e]; exact hr)).trans e
  · rcases hs i h with h | h
    · exact h
    · omega
theorem GAf.below {r : Nat → Nat} {w w1 w2 : World} {b : Nat} {S : Mk} (h : GAf r w w1 b S) (hb : Below w1.heap.size w1 w2) : GAf r w w2 b S := by
  obtain ⟨s, h1, h2, h3, h4⟩ := h
  exact ⟨s, h1.below hb, h2, h3, h4.trans (O' := fun _ => False) (KeepO.of_below hb) fun _ _ h => h.elim⟩
theorem GAf.of_below {r : Nat → Nat} {w w1 w2 : World} {b : Nat} {S : Mk} (hb : Below w.heap.size w w1) (h : GAf r w1 w2 b S) : GAf r w w2 b S :=
  GAf.then (fun k hk => Or.inl hk) (fun k _ => rfl) (KeepO.of_below hb) h
theorem GAf.get {r : Nat → Nat} {w w' : World} {b : Nat} {S : Mk} (h : GAf r w w' b S) : ∃ s, GMd s w' b S ∧ (∀ k, s k ≠ 0 → r k ≠ 0 ∨ w.heap.size ≤ k) ∧ (∀ k, r k ≠ 0 → s k = r k) ∧ KeepO (fun k => r k ≠ 0) w w' := h
/-- The values, as a slice of words. -/
theorem GadP.src {r : Nat → Nat} {w : World} {b : Nat} {y : Int} {vr vv : Value} {m : Nat} {R : Nat → Nat → Lst} {n : Nat} {v : Nat → Nat} (t : GadP r w b y vr vv m R n v) : ∃ a c, vv = .slice a n c ∧ SrcW w.heap.size w a n v := by
  obtain ⟨a, c, h1, _, _, h2⟩ := OwnW.src (w := w) (base := 0) (v := vv) (n := n) (z := v) t.vals
  exact ⟨a, c, h1, h2⟩
theorem GMd.zero {r : Nat → Nat} {w : World} {b : Nat} {S : Mk} (h : GMd r w b S) (k : Nat) (hk : w.heap.size ≤ k) : r k = 0 := Decidable.byContradiction fun hr => by have := h.lt k hr; omega
/-- Roles behind an append to a row that has none: the row still has none, the maker is as it was. -/
theorem GMd.beside {r : Nat → Nat} {w w' : World} {b : Nat} {S : Mk} (h : GMd r w b S) {v : Value} (hv : ∀ k, v.ownBlock = some k → r k = 0) (hg : w.grownBy w' v.ownBlock) : GMd r w' b S ∧ KeepO (fun k => v.ownBlock = some k) w w' := by
  have hk : KeepO (fun k => v.ownBlock = some k) w w' := KeepO.grown hg fun k hk => hk
  exact ⟨h.keep hk fun k hr hk => hr (hv k hk), hk⟩
theorem gnew_zero {r : Nat → Nat} {w : World} {b : Nat} {S : Mk} (h : GMd r w b S) {v : Value} (hv : ∀ k, v.ownBlock = some k → r k = 0) {g n c : Nat} (hl : v.ownBlock = some g ∨ g = w.heap.size) : ∀ k, (Value.slice (some ⟨g, 0, none⟩) n c).ownBlock = some k → r k = 0 := fun k hk => by
  have e : g = k := by simpa [Value.ownBlock] using hk
  subst e
  rcases hl with hl | hl
  · exact hv g hl
  · exact h.zero g (by omega)
end Go.Proofs.Ytdbolfmmlmoiaaa

namespace Go.Proofs.Ytdbolfmmlmoiaaa
open Go.RowKit Go.Proofs
set_option linter.unusedVariables false
set_option linter.unusedSimpArgs false
attribute [local go_sem ↓] Go.wp_at_zero Go.wp_at_succ
theorem kthereW (r : Nat → Nat) (b : Nat) (S : Mk) (hS : S.Good) (v : Int) (w : World) (h : GMd r w b S) :
    Calls Try.prog 43 #[.pointer (some ⟨b, 0, none⟩), .int .i64 v] w fun e w' => e = .returned (.int .i64 (S.is v : Nat)) ∧ w = w' := by
  obtain ⟨vr, vv, R, t, _, _⟩ := h
  have c3 := t.c1
  obtain ⟨av, cv, hv⟩ := own_block t.vals
  rw [hv] at c3
  have e : Hid ((S.is v : Nat) = if 0 ≤ v ∧ v < (S.n : Int) then v.toNat else 0) := rfl
  generalize S.is v = I at *
  clear t hv
  by_cases h0 : v < 0
  · obtain rfl : I = 0 := by rw [e.out, if_neg (by omega)]
    go_enter Try.func43, Try.ntmps43
    go_wp2
    go_ret
    exact ⟨rfl, rfl⟩
  · by_cases h1 : v < (S.n : Int)
    · have hI : (I : Int) = v := by rw [e.out, if_pos ⟨by omega, h1⟩]; omega
      have h1' : ¬ (S.n : Int) ≤ v := by omega
      rw [hI]
      go_enter Try.func43, Try.ntmps43
      go_wp2
      go_ret
      exact ⟨rfl, rfl⟩
    · obtain rfl : I = 0 := by rw [e.out, if_neg (by omega)]
      have h1' : (S.n : Int) ≤ v := by omega
      go_enter Try.func43, Try.ntmps43
      go_wp2
      go_ret
      exact ⟨rfl, rfl⟩
set_option maxHeartbeats 4000000 in
theorem kvarW (r : Nat → Nat) (b : Nat) (S : Mk) (hn : S.n ≤ 100000) (X : Nat) (hX : X < 18446744073709551616) (w : World) (h : GMd r w b S) :
    Calls Try.prog 49 #[.pointer (some ⟨b, 0, none⟩), .int .u64 X] w fun e w' => e = .returned (.int .i64 (S.n : Nat)) ∧ GAf r w w' b (S.fresh (Ob.toG X)) := by
  obtain ⟨vr, vv, R, t, hS, hO⟩ := h
  have c3 := t.c1
  have hblt := t.blt
  have rX := rest_toG2 X
  have rX2 := rest_toG X
  obtain ⟨x, hx⟩ : ∃ x, Hid ((Ob.toG X).val = x) := ⟨_, rfl⟩
  rw [hx.out] at rX rX2
  have t1 : Hid (GadP r (w.alloc (.cells #[.int .u64 (x : Nat)] 30)) b (S.pub : Nat) vr vv S.m R S.n S.v) := t.below ((Below.refl _ _).alloc (Nat.le_refl _) _)
  have hc : Hid ((w.alloc (.cells #[.int .u64 (x : Nat)] 30)).cell? ⟨w.heap.size, 0, none⟩ = some (.int .u64 (x : Nat))) := by show _ = _; simp [go_sem]
  clear t hX
  go_enter Try.func49, Try.ntmps49
  go_upto_region 2 with (at_builtin; refine wpList_appVF rfl _ _ rfl vv S.n S.v rfl t1.out.vals w.heap.size x rfl hc.out (by omega) ?_; intro g cap w2 h1 h2 h3; have k1 : KeepO (fun k => r k = 3) (w.alloc (.cells #[.int .u64 (x : Nat)] 30)) w2 := KeepO.grown h2 t1.out.rv; have d3 : w2.cell? ⟨b, 1, none⟩ = some vv := k1.cell t1.out.c1 (by rw [t1.out.rb]; decide); have f3 : w2.frozen? ⟨b, 1, none⟩ = false := (k1.frozen t1.out.blt (by rw [t1.out.rb]; decide)).trans (t1.out.f 1 (by decide)))
  obtain ⟨s, ts, hs1, hs2, hs3⟩ := t1.out.pushV (w' := w2) h2 h1 (fun k hk => by
    have e : g = k := by simpa [Value.ownBlock] using hk
    rw [← e]; exact h3)
  have ts' : Hid (GadP s (w2.setCell ⟨b, 1, none⟩ (.slice (some ⟨g, 0, none⟩) (S.n + 1) cap)) b (S.pub : Nat) vr (.slice (some ⟨g, 0, none⟩) (S.n + 1) cap) S.m R (S.n + 1) (putN S.n x S.v)) := ts
  have hs1' : Hid (∀ k, s k ≠ 0 → r k ≠ 0 ∨ w.heap.size ≤ k) := fun k hk => (hs1 k hk).imp id fun h => by simp only [szs] at h; omega
  have hs2' : Hid (∀ k, r k ≠ 0 → s k = r k) := hs2
  have hs3' : Hid (KeepO (fun k => r k ≠ 0) w (w2.setCell ⟨b, 1, none⟩ (.slice (some ⟨g, 0, none⟩) (S.n + 1) cap))) := (KeepO.of_below (O := fun k => r k ≠ 0) ((Below.refl _ _).alloc (Nat.le_refl _) _)).trans hs3 fun _ _ h => h
  have hrb : Hid (r b = 1) := t1.out.rb
  clear h1 h2 h3 k1 d3 f3 ts hs1 hs2 hs3 t1 hc
  generalize w2.setCell ⟨b, 1, none⟩ (.slice (some ⟨g, 0, none⟩) (S.n + 1) cap) = W at *
  clear hrb
  have d3 := ts'.out.c1
  have hl1 : IntKind.i64.wrap ((((S.n + 1 : Nat) : Int)) - 1) = (S.n : Nat) := by rw [IntKind.wrap_i64]; omega
  go_wp2
  go_ret
  refine ⟨by simp, s, ⟨vr, .slice (some ⟨g, 0, none⟩) (S.n + 1) cap, R, ?_, ⟨hS.sum⟩, hO⟩, hs1'.out, hs2'.out, hs3'.out⟩
  have e : (S.fresh (Ob.toG X)).v = putN S.n x S.v := by rw [← hx.out]; rfl
  rw [e]
  exact ts'.out
theorem konlyW (v : Nat) (hv : v < 9223372036854775808) (w : World) : Calls Try.prog 52 #[.int .i64 (v : Nat)] w fun e w' => ∃ L : Lst, e = .returned L.val ∧ L.Ok ∧ L.n = 1 ∧ LEq L (just v) ∧ L.At w'.heap.size w' ∧ Below w.heap.size w w' ∧ ∀ k, L.val.ownBlock = some k → w.heap.size ≤ k := by
  go_enter Try.func52, Try.ntmps52
  go_wp2
  go_ret
  refine ⟨⟨some ⟨w.heap.size, 0, none⟩, 1, 1, fun _ => (v : Nat), fun _ => 1⟩, rfl, ⟨fun _ => (by show -9223372036854775808 ≤ (v : Int); omega), fun _ => (by show (v : Int) < 9223372036854775808; omega), fun _ => (by show 1 < 18446744073709551616; decide), Nat.le_refl _, (by show 1 ≤ 9223372036854775807; decide)⟩, rfl, ⟨rfl, fun i hi => ?_⟩, ?_, by (repeat' (first | (with_reducible first | exact Below.refl _ _ | assumption | refine Below.alloc ?_ ?_ _ | refine Below.drew ?_ | refine below_drewN ?_ _ | refine Below.setCell ?_ ?_ _ | refine below_via (by with_reducible assumption) ?_ ?_) | omega | (simp only [szs]; omega) | (simp only [szs] at *; omega))), fun k hk => ?_⟩
  · obtain rfl : i = 0 := by have : i < 1 := hi; omega
    exact ⟨rfl, rfl⟩
  · refine Or.inr ⟨w.heap.size, 0, rfl, by simp, by simp, fun i hi => ?_, fun i hi => ?_⟩
    · obtain rfl : i = 0 := by have : i < 1 := hi; omega
      simp [go_sem]
    · obtain rfl : i = 0 := by have : i < 1 := hi; omega
      simp [go_sem]
  · have e : w.heap.size = k := by simpa [Lst.val, Value.ownBlock] using hk
    omega
theorem klessW (a b : Nat) (ha : a < 9223372036854775808) (hb : b < 9223372036854775808) (w : World) : Calls Try.prog 60 #[.int .i64 (a : Nat), .int .i64 (b : Nat)] w fun e w' => ∃ L : Lst, e = .returned L.val ∧ L.Ok ∧ L.n = 2 ∧ LEq L (less a b) ∧ L.At w'.heap.size w' ∧ Below w.heap.size w w' ∧ ∀ k, L.val.ownBlock = some k → w.heap.size ≤ k := by
  go_enter Try.func60, Try.ntmps60
  go_wp2
  go_ret
  refine ⟨⟨some ⟨w.heap.size, 0, none⟩, 2, 2, fun i => if i = 0 then (a : Nat) else (b : Nat), fun i => if i = 0 then 1 else 288230376287764480⟩, rfl, ⟨fun i => ?_, fun i => ?_, fun i => ?_, Nat.le_refl _, (by show 2 ≤ 9223372036854775807; decide)⟩, rfl, ⟨rfl, fun i hi => ?_⟩, ?_, by (repeat' (first | (with_reducible first | exact Below.refl _ _ | assumption | refine Below.alloc ?_ ?_ _ | refine Below.drew ?_ | refine below_drewN ?_ _ | refine Below.setCell ?_ ?_ _ | refine below_via (by with_reducible assumption) ?_ ?_) | omega | (simp only [szs]; omega) | (simp only [szs] at *; omega))), fun k hk => ?_⟩
  · show _ ≤ (if i = 0 then (a : Int) else (b : Int)); split <;> omega
  · show (if i = 0 then (a : Int) else (b : Int)) < _; split <;> omega
  · show (if i = 0 then 1 else 288230376287764480) < _; split <;> decide
  · obtain rfl | rfl : i = 0 ∨ i = 1 := by have : i < 2 := hi; omega
    · exact ⟨rfl, rfl⟩
    · exact ⟨rfl, rfl⟩
  · refine Or.inr ⟨w.heap.size, 0, rfl, by simp, by simp, fun i hi => ?_, fun i hi => ?_⟩
    · obtain rfl | rfl : i = 0 ∨ i = 1 := by have : i < 2 := hi; omega
      · simp [go_sem]
      · simp [go_sem]
    · obtain rfl | rfl : i = 0 ∨ i = 1 := by have : i < 2 := hi; omega
      · simp [go_sem]
      · simp [go_sem]
  · have e : w.heap.size = k := by simpa [Lst.val, Value.ownBlock] using hk
    omega
theorem kprivW (r : Nat → Nat) (b : Nat) (S : Mk) (hn : S.n ≤ 100000) (X : Nat) (hX : X < 18446744073709551616) (w : World) (h : GMd r w b S) :
    Calls Try.prog 20 #[.pointer (some ⟨b, 0, none⟩), .int .u64 X] w fun e w' => e = .returned (.int .i64 (S.n : Nat)) ∧ GAf r w w' b (S.fresh (Ob.toG X)) := by
  have c := kvarW r b S hn X hX w h
  clear h
  go_enter Try.func20, Try.ntmps20
  go_wp2_with (go_at_call 49; (with_reducible refine c.mono ?_); rintro e w1 ⟨rfl, a1⟩; have a1' : Hid (GAf r w w1 b (S.fresh (Ob.toG X))) := a1; clear a1)
  go_ret
  exact ⟨rfl, a1'.out⟩
set_option maxHeartbeats 4000000 in
theorem kValueW (r : Nat → Nat) (b : Nat) (S : Mk) (hS : S.Good) (v : Int) (w : World) (h : GMd r w b S) :
    Calls Try.prog 13 #[.pointer (some ⟨b, 0, none⟩), .int .i64 v] w fun e w' => e = .returned (.int .u64 (S.v (S.is v) : Nat)) ∧ Below w.heap.size w w' := by
  have hI := Mk.is_lt hS v
  have c := fun W (hW : Below w.heap.size w W) => kthereW r b S hS v W (h.below hW)
  obtain ⟨vr, vv, R, t, _, _⟩ := h
  obtain ⟨av, cv, rfl, hsrc⟩ := t.src
  obtain ⟨g, o, rfl, lg, wd⟩ : ∃ g o, av = some ⟨g, o, none⟩ ∧ g < w.heap.size ∧ Wds w g o S.n S.v := by
    rcases hsrc with hz | ⟨g, o, h1, h2, h3⟩
    · omega
    · exact ⟨g, o, h1, h2, h3⟩
  obtain ⟨I, hIe⟩ : ∃ I, Hid (S.is v = I) := ⟨_, rfl⟩
  rw [hIe.out] at c hI ⊢
  obtain ⟨x, hx⟩ : ∃ x, Hid (S.v I = x) := ⟨_, rfl⟩
  have hkeep : Hid (∀ W, Below w.heap.size w W → (fun w' => w'.cell? ⟨b, 1, none⟩ = some (.slice (some ⟨g, o, none⟩) S.n cv) ∧ w'.cell? ⟨g, o + I, none⟩ = some (.int .u64 x)) W) := fun W hW => by
    refine ⟨by rw [(bcell hW).1 b 1 t.blt]; exact t.c1, ?_⟩
    have h1 := (wd.below hW lg).at_ I hI
    rw [hx.out] at h1
    exact h1
  rw [hx.out]
  have h0 : (0 : Int) ≤ (I : Int) := by omega
  have h1 : (I : Int) < (S.n : Int) := by omega
  clear t hsrc wd hIe hx
  go_enter Try.func13, Try.ntmps13
  go_wp2
  refine wp_region_noPanic ?_
  refine region_lastly (S := (fun w' => w'.cell? ⟨b, 1, none⟩ = some (.slice (some ⟨g, o, none⟩) S.n cv) ∧ w'.cell? ⟨g, o + I, none⟩ = some (.int .u64 x))) [9] (by kernel_rfl) (by ((try dsimp only); (exact hkeep.out _ (by (repeat' (first | (with_reducible first | exact Below.refl _ _ | assumption | refine Below.alloc ?_ ?_ _ | refine Below.drew ?_ | refine below_drewN ?_ _ | refine Below.setCell ?_ ?_ _ | refine below_via (by with_reducible assumption) ?_ ?_) | omega | (simp only [szs]; omega) | (simp only [szs] at *; omega))))))) (fun hHeld => ?_)
  refine anyZ_free (i := 0) (oi := ?oi_1) (v := ?v_1) ?hi_1 ?hs_1 ?hf_1 ?hr_1 ?hQ_1 (Or.inl ⟨?hw_1, ?hy_1⟩) ?hrest_1
  case hi_1 => (simp only [List.getElem?_toArray, List.getElem?_cons_succ, List.getElem?_cons_zero]; exact rfl)
  case hs_1 => kernel_rfl
  case hf_1 => kernel_rfl
  case hr_1 => kernel_rfl
  case hQ_1 => exact fun _ _ _ h => h
  case hw_1 => rfl
  case hy_1 => (intro w _; go_simp; try with_reducible rfl)
  try simp only [Act.put, List.setIfInBounds_toArray, List.set_cons_zero, List.set_cons_succ]
  refine anyZ_free (i := 1) (oi := ?oi_2) (v := ?v_2) ?hi_2 ?hs_2 ?hf_2 ?hr_2 ?hQ_2 (Or.inl ⟨?hw_2, ?hy_2⟩) ?hrest_2
  case hi_2 => (simp only [List.getElem?_toArray, List.getElem?_cons_succ, List.getElem?_cons_zero]; exact rfl)
  case hs_2 => kernel_rfl
  case hf_2 => kernel_rfl
  case hr_2 => kernel_rfl
  case hQ_2 => exact fun _ _ _ h => h
  case hw_2 => rfl
  case hy_2 => (intro w _; go_simp; try with_reducible rfl)
  try simp only [Act.put, List.setIfInBounds_toArray, List.set_cons_zero, List.set_cons_succ]
  refine anyZ_free (i := 2) (oi := ?oi_3) (v := ?v_3) ?hi_3 ?hs_3 ?hf_3 ?hr_3 ?hQ_3 (Or.inl ⟨?hw_3, ?hy_3⟩) ?hrest_3
  case hi_3 => (simp only [List.getElem?_toArray, List.getElem?_cons_succ, List.getElem?_cons_zero]; exact rfl)
  case hs_3 => kernel_rfl
  case hf_3 => kernel_rfl
  case hr_3 => kernel_rfl
  case hQ_3 => exact fun _ _ _ h => h
  case hw_3 => rfl
  case hy_3 => (intro w _; go_simp; try with_reducible rfl)
  try simp only [Act.put, List.setIfInBounds_toArray, List.set_cons_zero, List.set_cons_succ]
  refine anyZ_take (i := 3) (oi := ?oi_4) (v := ?v_4) ?hi_4 ?hz_4 ?hs_4 ?hf_4 ?hr_4 ?hQ_4 (Or.inl ⟨?hw_4, ?hy_4⟩) ?hS_4 ?hrest_4
  case hi_4 => (simp only [List.getElem?_toArray, List.getElem?_cons_succ, List.getElem?_cons_zero]; exact rfl)
  case hz_4 => kernel_rfl
  case hs_4 => kernel_rfl
  case hf_4 => kernel_rfl
  case hr_4 => kernel_rfl
  case hQ_4 => exact fun _ _ _ h => h
  case hw_4 => rfl
  case hS_4 => assumption
  case hy_4 => (intro w hSw; (try dsimp only at hSw); go_simp; try with_reducible rfl)
  try simp only [Act.put, List.setIfInBounds_toArray, List.set_cons_zero, List.set_cons_succ]
  refine anyZ_free (i := 4) (oi := ?oi_5) (v := ?v_5) ?hi_5 ?hs_5 ?hf_5 ?hr_5 ?hQ_5 (Or.inl ⟨?hw_5, ?hy_5⟩) ?hrest_5
  case hi_5 => (simp only [List.getElem?_toArray, List.getElem?_cons_succ, List.getElem?_cons_zero]; exact rfl)
  case hs_5 => kernel_rfl
  case hf_5 => kernel_rfl
  case hr_5 => kernel_rfl
  case hQ_5 => exact fun _ _ _ h => h
  case hw_5 => rfl
  case hy_5 => (intro w _; go_simp; try with_reducible rfl)
  try simp only [Act.put, List.setIfInBounds_toArray, List.set_cons_zero, List.set_cons_succ]
  refine anyZ_free (i := 5) (oi := ?oi_6) (v := ?v_6) ?hi_6 ?hs_6 ?hf_6 ?hr_6 ?hQ_6 (Or.inl ⟨?hw_6, ?hy_6⟩) ?hrest_6
  case hi_6 => (simp only [List.getElem?_toArray, List.getElem?_cons_succ, List.getElem?_cons_zero]; exact rfl)
  case hs_6 => kernel_rfl
  case hf_6 => kernel_rfl
  case hr_6 => kernel_rfl
  case hQ_6 => exact fun _ _ _ h => h
  case hw_6 => rfl
  case hy_6 => (intro w _; go_simp; try with_reducible rfl)
  try simp only [Act.put, List.setIfInBounds_toArray, List.set_cons_zero, List.set_cons_succ]
  refine anyZ_ready (rs := [6]) (by kernel_rfl) (by simp) ?_
  refine (AllZ.cons (o := ?o_7) ?ho_7 (fun K hK => ?st_7) AllZ.nil)
  case ho_7 => (simp only [List.getElem?_toArray, List.getElem?_cons_succ, List.getElem?_cons_zero]; exact rfl)
  case st_7 =>
    go_simp
    (go_at_call 43; (with_reducible refine (c _ (by (repeat' (first | (with_reducible first | exact Below.refl _ _ | assumption | refine Below.alloc ?_ ?_ _ | refine Below.drew ?_ | refine below_drewN ?_ _ | refine Below.setCell ?_ ?_ _ | refine below_via (by with_reducible assumption) ?_ ?_) | omega | (simp only [szs]; omega) | (simp only [szs] at *; omega))))).mono ?_); rintro e w1 ⟨rfl, rfl⟩)
    refine hK.out _ _ (by ((try dsimp only); (exact hkeep.out _ (by (repeat' (first | (with_reducible first | exact Below.refl _ _ | assumption | refine Below.alloc ?_ ?_ _ | refine Below.drew ?_ | refine below_drewN ?_ _ | refine Below.setCell ?_ ?_ _ | refine below_via (by with_reducible assumption) ?_ ?_) | omega | (simp only [szs]; omega) | (simp only [szs] at *; omega))))))) (fun hHeld => ?_)
    clear hK K
    try simp only [Act.put, List.setIfInBounds_toArray, List.set_cons_zero, List.set_cons_succ]
    refine anyZ_free (i := 7) (oi := ?oi_8) (v := ?v_8) ?hi_8 ?hs_8 ?hf_8 ?hr_8 ?hQ_8 (Or.inl ⟨?hw_8, ?hy_8⟩) ?hrest_8
    case hi_8 => (simp only [List.getElem?_toArray, List.getElem?_cons_succ, List.getElem?_cons_zero]; exact rfl)
    case hs_8 => kernel_rfl
    case hf_8 => kernel_rfl
    case hr_8 => kernel_rfl
    case hQ_8 => exact fun _ _ _ h => h
    case hw_8 => rfl
    case hy_8 => (intro w _; go_simp; try with_reducible rfl)
    try simp only [Act.put, List.setIfInBounds_toArray, List.set_cons_zero, List.set_cons_succ]
    refine anyZ_take (i := 8) (oi := ?oi_9) (v := ?v_9) ?hi_9 ?hz_9 ?hs_9 ?hf_9 ?hr_9 ?hQ_9 (Or.inl ⟨?hw_9, ?hy_9⟩) ?hS_9 ?hrest_9
    case hi_9 => (simp only [List.getElem?_toArray, List.getElem?_cons_succ, List.getElem?_cons_zero]; exact rfl)
    case hz_9 => kernel_rfl
    case hs_9 => kernel_rfl
    case hf_9 => kernel_rfl
    case hr_9 => kernel_rfl
    case hQ_9 => exact fun _ _ _ h => h
    case hw_9 => rfl
    case hS_9 => assumption
    case hy_9 => (intro w hSw; (try dsimp only at hSw); go_simp; try with_reducible rfl)
    try simp only [Act.put, List.setIfInBounds_toArray, List.set_cons_zero, List.set_cons_succ]
    refine anyZ_ready (rs := [9]) (by kernel_rfl) (by simp) ?_
    refine (AllZ.last (o := ?o_10) ?ho_10 (by rfl) (fun K hK => ?st_10) AllZ.nil)
    case ho_10 => (simp only [List.getElem?_toArray, List.getElem?_cons_succ, List.getElem?_cons_zero]; exact rfl)
    case st_10 =>
      go_simp
      refine hK.out _ _ ?_
      clear hK K
      try simp only [Act.put, List.setIfInBounds_toArray, List.set_cons_zero, List.set_cons_succ]
      refine anyZ_done (by kernel_rfl) ?_ _
      refine NoPanic.normal ?_
      go_wp2
      go_ret
      exact ⟨by first | rfl | simp, by (repeat' (first | (with_reducible first | exact Below.refl _ _ | assumption | refine Below.alloc ?_ ?_ _ | refine Below.drew ?_ | refine below_drewN ?_ _ | refine Below.setCell ?_ ?_ _ | refine below_via (by with_reducible assumption) ?_ ?_) | omega | (simp only [szs]; omega) | (simp only [szs] at *; omega)))⟩
set_option maxHeartbeats 4000000 in
theorem kpubNoW (r : Nat → Nat) (b : Nat) (S : Mk) (hS : S.Good) (hn : S.n ≤ 100000) (X : Nat) (hlt : S.pub + 1 < S.n) (w : World) (h : GMd r w b S) :
    Calls Try.prog 25 #[.pointer (some ⟨b, 0, none⟩), .int .u64 X] w fun e w' => e = .returned (.tuple #[.int .i64 (-1), .iface 67 (.int .i64 1)]) ∧ Below w.heap.size w w' := by
  obtain ⟨vr, vv, R, t, _, _⟩ := h
  have c0 := t.c0
  have c1 := t.c1
  obtain ⟨av, cv, hv⟩ := own_block t.vals
  rw [hv] at c1
  have hw : IntKind.i64.wrap ((S.pub : Int) + 1) = ((S.pub + 1 : Nat) : Int) := by rw [IntKind.wrap_i64]; omega
  obtain ⟨P, hP⟩ : ∃ P, Hid (((S.pub : Nat) : Int) = P) := ⟨_, rfl⟩
  obtain ⟨Q, hQ⟩ : ∃ Q, Hid (((S.pub + 1 : Nat) : Int) = Q) := ⟨_, rfl⟩
  have h1 : Q < (S.n : Int) := by have := hQ.out; omega
  rw [hP.out, hQ.out] at hw
  rw [hP.out] at c0
  clear t hv hQ hP
  go_enter Try.func25, Try.ntmps25
  go_wp2
  go_region_held3 (fun w' => w'.cell? ⟨b, 0, none⟩ = some (.int .i64 P) ∧ w'.cell? ⟨b, 1, none⟩ = some (.slice av S.n cv)) (go_keep) (fail)
  go_wp2
  go_ret2
  exact ⟨rfl, by (repeat' (first | (with_reducible first | exact Below.refl _ _ | assumption | refine Below.alloc ?_ ?_ _ | refine Below.drew ?_ | refine below_drewN ?_ _ | refine Below.setCell ?_ ?_ _ | refine below_via (by with_reducible assumption) ?_ ?_) | omega | (simp only [szs]; omega) | (simp only [szs] at *; omega)))⟩
set_option maxHeartbeats 4000000 in
theorem kpubYesW (r : Nat → Nat) (b : Nat) (S : Mk) (hS : S.Good) (hn : S.n ≤ 100000) (X : Nat) (hX : X < 18446744073709551616) (hlt : ¬ S.pub + 1 < S.n) (w : World) (h : GMd r w b S) :
    Calls Try.prog 25 #[.pointer (some ⟨b, 0, none⟩), .int .u64 X] w fun e w' => e = .returned (.tuple #[.int .i64 (S.n : Nat), .nilIface]) ∧ GAf r w w' b (S.public (Ob.toG X)) := by
  have hp := hS.pubs
  obtain ⟨vr, vv, R, t, hs, hO⟩ := h
  have c0 := t.c0
  have c1 := t.c1
  have hblt := t.blt
  obtain ⟨av, cv, hv⟩ := own_block t.vals
  rw [hv] at c1
  have hw : IntKind.i64.wrap ((S.pub : Int) + 1) = ((S.pub + 1 : Nat) : Int) := by rw [IntKind.wrap_i64]; omega
  obtain ⟨P, hP⟩ : ∃ P, Hid (((S.pub : Nat) : Int) = P) := ⟨_, rfl⟩
  obtain ⟨Q, hQ⟩ : ∃ Q, Hid (((S.pub + 1 : Nat) : Int) = Q) := ⟨_, rfl⟩
  have h1 : ¬ Q < (S.n : Int) := by have := hQ.out; omega
  have t' : Hid (GadP r w b (S.pub : Nat) vr vv S.m R S.n S.v) := t
  have hs' : Hid (SysOf S R) := hs
  have hO' : Hid (∀ i, i < S.m → ∀ j, j < 3 → (R i j).Ok) := hO
  rw [hP.out, hQ.out] at hw
  rw [hP.out] at c0
  clear t hs hO hv hP
  go_enter Try.func25, Try.ntmps25
  go_wp2
  go_region_held3 (fun w' => w'.cell? ⟨b, 0, none⟩ = some (.int .i64 P) ∧ w'.cell? ⟨b, 1, none⟩ = some (.slice av S.n cv)) (go_keep) (fail)
  go_upto_region 3 with (fail)
  have f0 := t'.out.f 0 (by decide)
  go_upto_region 4 with (fail)
  have ts : GadP r ((w.setCell ⟨b, 0, none⟩ (.int .i64 Q)).drew) b Q vr vv S.m R S.n S.v := (t'.out.set0 Q).below (by (repeat' (first | (with_reducible first | exact Below.refl _ _ | assumption | refine Below.alloc ?_ ?_ _ | refine Below.drew ?_ | refine below_drewN ?_ _ | refine Below.setCell ?_ ?_ _ | refine below_via (by with_reducible assumption) ?_ ?_) | omega | (simp only [szs]; omega) | (simp only [szs] at *; omega))))
  have hk : Hid (KeepO (fun k => r k ≠ 0) w ((w.setCell ⟨b, 0, none⟩ (.int .i64 Q)).drew)) := (KeepO.setCell (O := fun k => r k ≠ 0) w b 0 _ (by rw [t'.out.rb]; decide)).trans (O' := fun _ => False) (KeepO.of_below (by (repeat' (first | (with_reducible first | exact Below.refl _ _ | assumption | refine Below.alloc ?_ ?_ _ | refine Below.drew ?_ | refine below_drewN ?_ _ | refine Below.setCell ?_ ?_ _ | refine below_via (by with_reducible assumption) ?_ ?_) | omega | (simp only [szs]; omega) | (simp only [szs] at *; omega))))) fun _ _ h => h.elim
  have tM : Hid (GMd r ((w.setCell ⟨b, 0, none⟩ (.int .i64 Q)).drew) b { S with pub := S.pub + 1 }) := ⟨vr, vv, R, by rw [← hQ.out] at ts ⊢; exact ts, ⟨hs'.out.sum⟩, hO'.out⟩
  clear ts
  generalize (w.setCell ⟨b, 0, none⟩ (.int .i64 Q)).drew = W at *
  have cV := kvarW r b { S with pub := S.pub + 1 } hn X hX W tM.out
  go_wp2_with (go_at_call 49; (with_reducible refine cV.mono ?_); rintro e w1 ⟨rfl, a1⟩; have a1' : Hid (GAf r W w1 b ({ S with pub := S.pub + 1 }.fresh (Ob.toG X))) := a1; clear a1)
  go_ret2
  exact ⟨rfl, GAf.then (fun k hk => Or.inl hk) (fun k _ => rfl) hk.out a1'.out⟩
end Go.Proofs.Ytdbolfmmlmoiaaa

namespace Go.Proofs.Ytdbolfmmlmoiaaa
open Go.RowKit Go.Proofs
set_option linter.unusedVariables false
set_option linter.unusedSimpArgs false
/-- An error that is the one of this number, at this place (-1: it has none); a Spot lies behind block B. -/
def ErrIs (B : Nat) (w : World) (er : Value) (bad at_ : Int) : Prop :=
  (at_ = -1 ∧ bad = 0 ∧ er = .nilIface) ∨ (at_ = -1 ∧ (1 ≤ bad ∧ bad ≤ 15) ∧ er = .iface 67 (.int .i64 bad)) ∨
  (0 ≤ at_ ∧ ∃ b, er = .iface 82 (.pointer (some ⟨b, 0, none⟩)) ∧ B ≤ b ∧ Two w b (.int .i64 at_) (.iface 67 (.int .i64 bad)))
theorem ErrIs.below {B C : Nat} {w w1 : World} {er : Value} {bad at_ : Int} (h : ErrIs B w er bad at_) (hb : Below w.heap.size w w1) (hc : C ≤ B) : ErrIs C w1 er bad at_ := by
  rcases h with h | h | ⟨h1, b, h2, h3, t⟩
  · exact Or.inl h
  · exact Or.inr (Or.inl h)
  · exact Or.inr (Or.inr ⟨h1, b, h2, Nat.le_trans hc h3, t.below hb t.lt⟩)
theorem ErrIs.other {B : Nat} {w : World} {er : Value} {bad at_ : Int} (h : ErrIs B w er bad at_) (hn : ¬ (bad = 0 ∧ at_ = -1)) : ∃ t v, er = .iface t v := by
  rcases h with ⟨rfl, rfl, rfl⟩ | ⟨rfl, ⟨h1, h2⟩, rfl⟩ | ⟨h1, b, rfl, _, t⟩
  · exact absurd ⟨rfl, rfl⟩ hn
  · exact ⟨_, _, rfl⟩
  · exact ⟨_, _, rfl⟩
theorem ErrIs.nil_iff {B : Nat} {w : World} {er : Value} {bad at_ : Int} (h : ErrIs B w er bad at_) : (er = .nilIface ↔ bad = 0 ∧ at_ = -1) := by
  rcases h with ⟨rfl, rfl, rfl⟩ | ⟨rfl, ⟨h1, h2⟩, rfl⟩ | ⟨h1, b, rfl, _, t⟩
  · exact ⟨fun _ => ⟨rfl, rfl⟩, fun _ => rfl⟩
  · exact ⟨fun h => (by cases h), fun h => (by omega)⟩
  · exact ⟨fun h => (by cases h), fun h => (by omega)⟩
end Go.Proofs.Ytdbolfmmlmoiaaa

namespace Go.Proofs.Ytdbolfmmlmoiaaa
open Go.RowKit Go.Proofs
set_option linter.unusedVariables false
set_option linter.unusedSimpArgs false
/-- What rank.Holds answers, of every system in memory and all values. -/
def HoldsC (f : FuncId) : Prop := ∀ (vars pubs : Int) (a : Option Addr) (m c : Nat) (R : Nat → Nat → Lst), (∀ i j, (R i j).Ok) → -9223372036854775808 ≤ vars → vars < 9223372036854775808 → -9223372036854775808 ≤ pubs → pubs < 9223372036854775808 → m ≤ 1000000 → ∀ (ad : Option Addr) (n d : Nat), n ≤ 1000000 → ∀ (x : Nat → Nat), (∀ i, x i < 18446744073709551616) → ∀ (bad at_ : Int), HoldIs vars pubs m R n x bad at_ →
  ∀ W, RowsAt W.heap.size W a m R → SrcW W.heap.size W ad n x → Calls Try.prog f #[rankV vars pubs a m c, .slice ad n d] W fun e w' => ∃ er, e = .returned er ∧ ErrIs W.heap.size w' er bad at_ ∧ Below W.heap.size W w'
/-- What rank.Check answers. -/
def CheckC (f : FuncId) : Prop := ∀ (vars pubs : Int) (a : Option Addr) (m c : Nat) (R : Nat → Nat → Lst), (∀ i j, (R i j).Ok) → -9223372036854775808 ≤ vars → vars < 9223372036854775808 → -9223372036854775808 ≤ pubs → pubs < 9223372036854775808 → m ≤ 1000000 →
  ∀ W, RowsAt W.heap.size W a m R → Calls Try.prog f #[rankV vars pubs a m c] W fun e w' => e = .returned (if checkB vars pubs m R = true then .nilIface else .iface 67 (.int .i64 3)) ∧ Below W.heap.size W w'
/-- What rank.Value answers. -/
def ValueC (f : FuncId) : Prop := ∀ (L : Lst), L.Ok → ∀ (ad : Option Addr) (n c : Nat), n ≤ 1000000 → ∀ (x : Nat → Nat), (∀ i, x i < 18446744073709551616) →
  ∀ W, L.At W.heap.size W → SrcW W.heap.size W ad n x → Calls Try.prog f #[L.val, .slice ad n c] W fun e w' => e = .returned (.int .u64 ((valL L n x).val : Nat)) ∧ Below W.heap.size W w'
end Go.Proofs.Ytdbolfmmlmoiaaa

namespace Go.Proofs.Ytdbolfmmlmoiaaa
open Go.RowKit Go.Proofs
/-- What rank.Sum answers of every list. -/
def SumC (f : FuncId) : Prop := ∀ (L : Lst), L.Ok → L.n ≤ 1000000 → ∀ W, L.At W.heap.size W → Calls Try.prog f #[L.val] W fun e w' => ∃ v, e = .returned v ∧ SumRes L W w' v ∧ Below W.heap.size W w'
end Go.Proofs.Ytdbolfmmlmoiaaa

namespace Go.Proofs.Ytdbolfmmlmoiaaa
open Go.RowKit Go.Proofs
set_option linter.unusedVariables false
set_option linter.unusedSimpArgs false
attribute [local go_sem ↓] Go.wp_at_zero Go.wp_at_succ
theorem nplusW (a b : Nat) (ha : a < 18446744073709551616) (hb : b < 18446744073709551616) (w : World) :
    Calls Try.prog 71 #[.int .u64 a, .int .u64 b] w fun e w' => e = .returned (.int .u64 ((Ob.toG a + Ob.toG b).val : Nat)) ∧ w = w' := by
  have c0 : ∀ w, Calls Try.prog 61 #[.int .u64 288230376287764481, .int .u64 a, .int .u64 b] w fun e w' => e = .returned (.int .u64 ((Ob.toG a + Ob.toG b).val : Nat)) ∧ w = w' := fun w => by
    rw [← Ob.addG]
    exact add_any Ob.RE a b w (by decide) ha hb
  generalize (Ob.toG a + Ob.toG b).val = r at *
  go_enter Try.func71, Try.ntmps71
  go_wp2_with (first | (go_at_call 61; first | (with_reducible refine (c0 _).mono ?_; rintro e w' ⟨rfl, rfl⟩)))
  go_ret
  exact ⟨rfl, rfl⟩
theorem ntimesW (a b : Nat) (ha : a < 18446744073709551616) (hb : b < 18446744073709551616) (w : World) :
    Calls Try.prog 59 #[.int .u64 288230376287764481, .int .u64 a, .int .u64 b] w fun e w' => e = .returned (.int .u64 ((Ob.toG a * Ob.toG b).val : Nat)) ∧ ∃ n, w' = w.drewN n := by
  rw [← Ob.mulG]
  exact mul_any Ob.RE a b w (by decide) ha hb
set_option maxHeartbeats 4000000 in
theorem nfitsW (L : Lst) (hL : L.Ok) (vars : Int) (hv : vars < 9223372036854775808) (w : World) (hA : L.At w.heap.size w) :
    Calls Try.prog 55 #[L.val, .int .i64 vars] w fun e w' => e = .returned (.bool (soundB vars L)) ∧ Below w.heap.size w w' := by
  have hA' : Hid (L.At w.heap.size w) := hA
  have hL' : Hid L.Ok := hL
  obtain ⟨S, hS⟩ : ∃ S, Hid (soundB vars L = S) := ⟨_, rfl⟩
  rw [hS.out]
  have hn : L.n ≤ 9223372036854775807 := Nat.le_trans hL.n1 hL.n2
  clear hA hL
  unfold Lst.val
  go_enter Try.func55, Try.ntmps55
  go_wp2
  go_loopw [5, 10] (fun sl si wr => ∃ (i : Nat) (l : Int), i ≤ L.n ∧ sl = .int .i64 l ∧ si = .int .i64 i ∧ Below w.heap.size w wr ∧ Hid (l = prevV L i + 1) ∧ Hid (soundN vars L i = true)) (fun sl si _ => L.n - (intOf si).toNat)
  case atStart => exact ⟨0, 0, by omega, rfl, rfl, by (repeat' (first | (with_reducible first | exact Below.refl _ _ | assumption | refine Below.alloc ?_ ?_ _ | refine Below.drew ?_ | refine below_drewN ?_ _ | refine Below.setCell ?_ ?_ _ | refine below_via (by with_reducible assumption) ?_ ?_) | omega | (simp only [szs]; omega) | (simp only [szs] at *; omega))), rfl, rfl⟩
  case round =>
    obtain ⟨i, l, hi, rfl, rfl, hB, hl, hI⟩ := hrel
    by_cases hlt : i < L.n
    · have hlt' : (i : Int) < (L.n : Int) := by omega
      rcases hA'.out with hn | ⟨b, off, hb, lb, tb⟩
      · omega
      have tb := tb.below hB lb
      have c0 := tb.c0 i hlt
      have c1 := tb.c1 i hlt
      have hK := hL'.out.K1 i
      have hV1 := hL'.out.V1 i
      have hdec : Hid (okT vars L i = false → S = false) := fun h => by rw [← hS.out]; exact soundN_not h hlt
      have hstep : Hid (okT vars L i = true → soundN vars L (i + 1) = true) := fun h => by show (soundN vars L i && okT vars L i) = true; rw [hI.out, h]; rfl
      have hok : Hid (okT vars L i = decide (l ≤ L.V i ∧ L.V i < vars ∧ L.K i ≠ 0 ∧ L.K i < 288230376287764481)) := by
        show decide (prevV L i < L.V i ∧ L.V i < vars ∧ L.K i ≠ 0 ∧ L.K i < 288230376287764481) = _
        have := hl.out
        exact decide_eq_decide.2 (by omega)
      have hnext : Hid (L.V i + 1 = prevV L (i + 1) + 1) := rfl
      rw [hb]
      generalize L.V i = Vi at *
      generalize L.K i = Ki at *
      have zB := hB.size
      clear tb hl hI
      by_cases h1 : l ≤ Vi
      · have h1' : ¬ Vi < l := by omega
        by_cases h2 : Vi < vars
        · have h2' : ¬ vars ≤ Vi := by omega
          have hw : IntKind.i64.wrap (Vi + 1) = Vi + 1 := by rw [IntKind.wrap_i64]; omega
          by_cases h3 : Ki = 0
          · subst h3
            obtain rfl := hdec.out (hok.out.trans (decide_eq_false (by omega)))
            go_wp2
            go_ret
            exact ⟨rfl, by (repeat' (first | (with_reducible first | exact Below.refl _ _ | assumption | refine Below.alloc ?_ ?_ _ | refine Below.drew ?_ | refine below_drewN ?_ _ | refine Below.setCell ?_ ?_ _ | refine below_via (by with_reducible assumption) ?_ ?_) | omega | (simp only [szs]; omega) | (simp only [szs] at *; omega)))⟩
          · have h3' : ((Ki : Int) == 0) = false := by rw [beq_eq_false_iff_ne]; omega
            by_cases h4 : Ki < 288230376287764481
            · have h4' : ¬ (288230376287764481 : Int) ≤ (Ki : Int) := by omega
              have hst := hstep.out (hok.out.trans (decide_eq_true ⟨h1, h2, h3, h4⟩))
              have hst' : Hid (soundN vars L (i + 1) = true) := hst
              clear hst hdec hstep hok h3 h4
              go_wp2
              go_roundw
              case rel => exact ⟨i + 1, Vi + 1, by omega, by first | rfl | trivial, by go_num, by (repeat' (first | (with_reducible first | exact Below.refl _ _ | assumption | refine Below.alloc ?_ ?_ _ | refine Below.drew ?_ | refine below_drewN ?_ _ | refine Below.setCell ?_ ?_ _ | refine below_via (by with_reducible assumption) ?_ ?_) | omega | (simp only [szs]; omega) | (simp only [szs] at *; omega))), hnext, hst'⟩
              case measure => (simp [intOf]; omega)
            · have h4' : (288230376287764481 : Int) ≤ (Ki : Int) := by omega
              obtain rfl := hdec.out (hok.out.trans (decide_eq_false (by omega)))
              go_wp2
              go_ret
              exact ⟨rfl, by (repeat' (first | (with_reducible first | exact Below.refl _ _ | assumption | refine Below.alloc ?_ ?_ _ | refine Below.drew ?_ | refine below_drewN ?_ _ | refine Below.setCell ?_ ?_ _ | refine below_via (by with_reducible assumption) ?_ ?_) | omega | (simp only [szs]; omega) | (simp only [szs] at *; omega)))⟩
        · have h2' : vars ≤ Vi := by omega
          obtain rfl := hdec.out (hok.out.trans (decide_eq_false (by omega)))
          go_wp2
          go_ret
          exact ⟨rfl, by (repeat' (first | (with_reducible first | exact Below.refl _ _ | assumption | refine Below.alloc ?_ ?_ _ | refine Below.drew ?_ | refine below_drewN ?_ _ | refine Below.setCell ?_ ?_ _ | refine below_via (by with_reducible assumption) ?_ ?_) | omega | (simp only [szs]; omega) | (simp only [szs] at *; omega)))⟩
      · have h1' : Vi < l := by omega
        obtain rfl := hdec.out (hok.out.trans (decide_eq_false (by omega)))
        go_wp2
        go_ret
        exact ⟨rfl, by (repeat' (first | (with_reducible first | exact Below.refl _ _ | assumption | refine Below.alloc ?_ ?_ _ | refine Below.drew ?_ | refine below_drewN ?_ _ | refine Below.setCell ?_ ?_ _ | refine below_via (by with_reducible assumption) ?_ ?_) | omega | (simp only [szs]; omega) | (simp only [szs] at *; omega)))⟩
    · have hlt' : ¬ (i : Int) < (L.n : Int) := by omega
      obtain rfl : i = L.n := by omega
      obtain rfl : S = true := hS.out.symm.trans hI.out
      go_wp2
      go_ret
      exact ⟨rfl, by (repeat' (first | (with_reducible first | exact Below.refl _ _ | assumption | refine Below.alloc ?_ ?_ _ | refine Below.drew ?_ | refine below_drewN ?_ _ | refine Below.setCell ?_ ?_ _ | refine below_via (by with_reducible assumption) ?_ ?_) | omega | (simp only [szs]; omega) | (simp only [szs] at *; omega)))⟩
set_option maxHeartbeats 8000000 in
theorem nvalueW (L : Lst) (hL : L.Ok) (ad : Option Addr) (n c : Nat) (hn : n ≤ 9223372036854775807) (x : Nat → Nat) (hx : ∀ i, x i < 18446744073709551616) (w : World) (hA : L.At w.heap.size w) (hs : SrcW w.heap.size w ad n x) :
    Calls Try.prog 64 #[L.val, .slice ad n c] w fun e w' => e = .returned (.int .u64 ((valL L n x).val : Nat)) ∧ Below w.heap.size w w' := by
  have hA' : Hid (L.At w.heap.size w) := hA
  have hL' : Hid L.Ok := hL
  have hs' : Hid (SrcW w.heap.size w ad n x) := hs
  have hx' : Hid (∀ i, x i < 18446744073709551616) := hx
  have hLn : L.n ≤ 9223372036854775807 := Nat.le_trans hL.n1 hL.n2
  obtain ⟨S, hS⟩ : ∃ S, Hid ((valL L n x).val = S) := ⟨_, rfl⟩
  rw [hS.out]
  clear hA hL hs hx
  unfold Lst.val
  go_enter Try.func64, Try.ntmps64
  go_wp2
  go_loopw [5, 10] (fun so si wr => ∃ (i o : Nat), i ≤ L.n ∧ so = .int .u64 o ∧ si = .int .i64 i ∧ Below w.heap.size w wr ∧ Hid ((valN L n x i).val = o)) (fun so si _ => L.n - (intOf si).toNat)
  case atStart => exact ⟨0, 0, by omega, rfl, rfl, by (repeat' (first | (with_reducible first | exact Below.refl _ _ | assumption | refine Below.alloc ?_ ?_ _ | refine Below.drew ?_ | refine below_drewN ?_ _ | refine Below.setCell ?_ ?_ _ | refine below_via (by with_reducible assumption) ?_ ?_) | omega | (simp only [szs]; omega) | (simp only [szs] at *; omega))), rfl⟩
  case round =>
    obtain ⟨i, o, hi, rfl, rfl, hB, hI⟩ := hrel
    by_cases hlt : i < L.n
    · have hlt' : (i : Int) < (L.n : Int) := by omega
      rcases hA'.out with hz | ⟨b, off, hb, lb, tb⟩
      · omega
      have tb := tb.below hB lb
      have c0 := tb.c0 i hlt
      have c1 := tb.c1 i hlt
      have hK := hL'.out.K1 i
      have hV1 := hL'.out.V1 i
      have hV2 := hL'.out.V2 i
      have lo : o < 18446744073709551616 := by rw [← hI.out]; exact Ob.G_word _
      have hto : Hid (Ob.toG o = valN L n x i) := by show _ = _; rw [← hI.out, Ob.toG_of_val]
      have hstep : Hid (valN L n x (i + 1) = valN L n x i + termG L n x i) := rfl
      have hI2 : Hid ((valN L n x i).val = o) := hI.out
      have zB := hB.size
      rw [hb]
      clear hI
      by_cases h1 : 0 ≤ L.V i ∧ L.V i < (n : Int)
      · obtain ⟨h1, h2⟩ := h1
        obtain ⟨v, hv⟩ : ∃ v : Nat, L.V i = (v : Int) := ⟨(L.V i).toNat, by omega⟩
        have hvn : v < n := by omega
        rcases hs'.out with hz | ⟨bs, os, rfl, ls, ws⟩
        · omega
        have c2 := (ws.below hB ls).at_ v hvn
        have hxv := hx'.out v
        have ht : Hid (termG L n x i = Ob.toG (L.K i) * Ob.toG (x v)) := by
          show termG L n x i = _
          unfold termG
          rw [if_pos ⟨h1, h2⟩, hv, Int.toNat_natCast]
        have cm := ntimesW (L.K i) (x v) hK hxv
        have lp := Ob.G_word (Ob.toG (L.K i) * Ob.toG (x v))
        have ep : Ob.toG (Ob.toG (L.K i) * Ob.toG (x v)).val = termG L n x i := by rw [Ob.toG_of_val, ht.out]
        obtain ⟨p, hp⟩ : ∃ p, Hid ((Ob.toG (L.K i) * Ob.toG (x v)).val = p) := ⟨_, rfl⟩
        rw [hp.out] at cm lp ep
        have ca := nplusW o p lo lp
        have ho' : Hid ((valN L n x (i + 1)).val = (Ob.toG o + Ob.toG p).val) := by show _ = _; rw [ep, hto.out, hstep.out]
        generalize (Ob.toG o + Ob.toG p).val = o' at *
        rw [hv] at c0 h1 h2
        clear hV1 hV2 hstep hto ht hxv lo hK hv hp ep lp
        generalize x v = xv at *
        generalize L.K i = Ki at *
        have lsw := (ws.below hB ls).lt
        clear tb ws
        go_upto_region 6 with (fail)
        have t2 : Two (wr.alloc (.cells #[.int .i64 (v : Nat), .int .u64 (Ki : Nat)] 61)) wr.heap.size (.int .i64 (v : Nat)) (.int .u64 (Ki : Nat)) := by (repeat' (first | (with_reducible first | assumption | exact Two.own (by with_reducible assumption) | refine Two.set ?_ _ _ | refine Own2.set ?_ _ _ | refine Two.drew ?_ | refine Two.drewN ?_ _ | refine Own2.drew ?_ | refine Own2.drewN ?_ _ | (refine Two.new ?_; simp only [szs]; done) | (refine Own2.new ?_; simp only [szs]; done) | refine Two.alloc ?_ _ | refine Own2.alloc ?_ _ | refine Two.far ?_ ?_ _ _ | refine Own2.far ?_ ?_ _ _ | refine Two.via (by with_reducible assumption) ?_ ?_ | refine Own2.via (by with_reducible assumption) ?_ ?_) | omega | (simp only [szs]; omega)))
        have c3 : (wr.alloc (.cells #[.int .i64 (v : Nat), .int .u64 (Ki : Nat)] 61)).cell? ⟨bs, os + v, none⟩ = some (.int .u64 (xv : Nat)) := by
          exact (World.cell?_alloc_past _ _ _ (by omega)).trans c2
        have hB2 : Hid (Below w.heap.size w (wr.alloc (.cells #[.int .i64 (v : Nat), .int .u64 (Ki : Nat)] 61))) := by show Below _ _ _; (repeat' (first | (with_reducible first | exact Below.refl _ _ | assumption | refine Below.alloc ?_ ?_ _ | refine Below.drew ?_ | refine below_drewN ?_ _ | refine Below.setCell ?_ ?_ _ | refine below_via (by with_reducible assumption) ?_ ?_) | omega | (simp only [szs]; omega) | (simp only [szs] at *; omega)))
        generalize (wr.alloc (.cells #[.int .i64 (v : Nat), .int .u64 (Ki : Nat)] 61)) = W at *
        generalize wr.heap.size = bw at *
        clear c0 c1 c2 hB zB
        have hB := hB2.out
        clear hB2
        have ⟨e1, e2, e3, e4, e5⟩ := t2
        go_region_held3 (fun w' => (w'.cell? ⟨bw, 0, none⟩ = some (.int .i64 (v : Nat)) ∧ w'.cell? ⟨bw, 1, none⟩ = some (.int .u64 (Ki : Nat))) ∧ w'.cell? ⟨bs, os + v, none⟩ = some (.int .u64 (xv : Nat))) (go_keep)
          ((first | (go_at_call 59; first | (with_reducible refine (cm _).mono ?_; rintro e w' ⟨rfl, nd, rfl⟩)) | (go_at_call 71; first | (with_reducible refine (ca _).mono ?_; rintro e w' ⟨rfl, rfl⟩))))
        go_wp2
        go_roundw
        case rel => exact ⟨i + 1, o', by omega, by first | rfl | trivial, by go_num, by (repeat' (first | (with_reducible first | exact Below.refl _ _ | assumption | refine Below.alloc ?_ ?_ _ | refine Below.drew ?_ | refine below_drewN ?_ _ | refine Below.setCell ?_ ?_ _ | refine below_via (by with_reducible assumption) ?_ ?_) | omega | (simp only [szs]; omega) | (simp only [szs] at *; omega))), ho'⟩
        case measure => (simp [intOf]; omega)
      · have ht : Hid (valN L n x (i + 1) = valN L n x i) := by
          show _ = _
          rw [hstep.out]
          unfold termG
          rw [if_neg h1, Fin.add_zero]
        have ho' : Hid ((valN L n x (i + 1)).val = o) := by
          show _ = _
          rw [ht.out]
          exact hI2.out
        clear hstep hto ht
        generalize L.V i = Vi at *
        generalize L.K i = Ki at *
        clear tb
        by_cases h2 : 0 ≤ Vi
        · have h3 : ¬ Vi < (n : Int) := fun h => h1 ⟨h2, h⟩
          clear h1
          go_wp2
          go_roundw
          case rel => exact ⟨i + 1, o, by omega, by first | rfl | trivial, by go_num, by (repeat' (first | (with_reducible first | exact Below.refl _ _ | assumption | refine Below.alloc ?_ ?_ _ | refine Below.drew ?_ | refine below_drewN ?_ _ | refine Below.setCell ?_ ?_ _ | refine below_via (by with_reducible assumption) ?_ ?_) | omega | (simp only [szs]; omega) | (simp only [szs] at *; omega))), ho'⟩
          case measure => (simp [intOf]; omega)
        · clear h1
          go_wp2
          go_roundw
          case rel => exact ⟨i + 1, o, by omega, by first | rfl | trivial, by go_num, by (repeat' (first | (with_reducible first | exact Below.refl _ _ | assumption | refine Below.alloc ?_ ?_ _ | refine Below.drew ?_ | refine below_drewN ?_ _ | refine Below.setCell ?_ ?_ _ | refine below_via (by with_reducible assumption) ?_ ?_) | omega | (simp only [szs]; omega) | (simp only [szs] at *; omega))), ho'⟩
          case measure => (simp [intOf]; omega)
    · have hlt' : ¬ (i : Int) < (L.n : Int) := by omega
      obtain rfl : i = L.n := by omega
      obtain rfl : o = S := hI.out.symm.trans hS.out
      go_wp2
      go_ret
      exact ⟨rfl, hB⟩
end Go.Proofs.Ytdbolfmmlmoiaaa
