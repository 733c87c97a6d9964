/-
  Joined texts: Small helps for all walks: calls that only make memory of their own, errors that are codes, words as plain numbers. Variables of three cells. Cells of variables, as a region's condition asks for them. What the calls of layer 1 answer, as functions of plain numbers. Plain numbers: powers by squaring, products by doubling, Euclid's way with its two factors. Primes, without any library: trial division, Euclid's lemma, and Lucas: where a number's powers modulo N come back to 1 at N - 1 and not ahead of it, N is a prime, and each number that N does not divide is one of those powers. The primes of the program: R, P and S, each by Lucas. The curve y y = 1 + x x + 439 x x y y over the numbers modulo R: its points are a group. The Edwards curve's points are a group. The Edwards curve's points are a group: sums are points, and go in any order. Multiples of the Edwards curve's points; how many points there are at most. Numbers modulo R as Fin RE: what the document's own sums and products answer; points as pairs of numbers. Lists of terms and rows of them, as they lie in memory. Lists of terms summed up: what makes a list the sum of another, that there is just one, that it has the same value. Cubes modulo R: each number is the cube of just one; numbers turned by keys, their hashes. Makers of systems (layer 12): variables, their values, rows; what each call makes; when what was made holds. Layer 10: hashes of lists by heads, the place at which two lists clash.
-/
import Derived.Test.YtdbolfmmlmoiaaaProg
import Derived.WalkKit
import Derived.WalkLawsBesides
import Derived.Outline
import Derived.Deep.QuietTactic
import Derived.BigQuiet
import Derived.Deep.DeepCutAuto
import Derived.Deep.CutBlock
import Derived.Laws.Bits64b
import Derived.Deep.RegionWith
import Derived.LoopTactic
import Derived.LaidEql
import Derived.OpenShut
import Derived.Handy
import Derived.Deep.RegionHeld3
import Derived.Deep.DrawnRows

namespace Go.Proofs.Ytdbolfmmlmoiaaa
open Go.RowKit Go.Proofs
set_option linter.unusedVariables false
set_option linter.unusedSimpArgs false

/-- A call that returns v, whatever the world is, and turns nothing that was there. -/
def Gives (f : FuncId) (args : Array Value) (v : Value) : Prop := ∀ w, Calls Try.prog f args w fun e w' => e = .returned v ∧ Below w.heap.size w w'

theorem below_drewN {B : Nat} {a w : World} (h : Below B a w) (n : Nat) : Below B a (w.drewN n) := ⟨h.os, h.tape, h.output, h.size, h.block⟩

theorem size_drewN (w : World) (n : Nat) : (w.drewN n).heap.size = w.heap.size := rfl
theorem below_via {B C : Nat} {a W w : World} (h : Below C W w) (h1 : Below B a W) (h2 : B ≤ C) : Below B a w := h1.trans (h.mono h2)

theorem Gives.of_same {f : FuncId} {args : Array Value} {v : Value} (h : ∀ w, Calls Try.prog f args w fun e w' => e = .returned v ∧ w = w') : Gives f args v :=
  fun w => (h w).mono fun e w' ⟨he, hw⟩ => ⟨he, hw ▸ Below.refl _ _⟩
theorem Gives.of_drew {f : FuncId} {args : Array Value} {v : Value} (h : ∀ w, Calls Try.prog f args w fun e w' => e = .returned v ∧ ∃ n, w' = w.drewN n) : Gives f args v :=
  fun w => (h w).mono fun e w' ⟨he, n, hw⟩ => ⟨he, hw ▸ below_drewN (Below.refl _ _) n⟩

/-- What lay in memory below B reads as it did. -/
theorem bcell {B : Nat} {W w1 : World} (hb : Below B W w1) : (∀ b o, b < B → w1.cell? ⟨b, o, none⟩ = W.cell? ⟨b, o, none⟩) ∧ (∀ b o, b < B → w1.frozen? ⟨b, o, none⟩ = W.frozen? ⟨b, o, none⟩) :=
  ⟨fun b o h => hb.cell (p := ⟨b, o, none⟩) h, fun b o h => hb.frozen (p := ⟨b, o, none⟩) h⟩

/-- How many blocks there are, behind one step. -/
theorem szs : (∀ (w : World) (o : Obj), (w.alloc o).heap.size = w.heap.size + 1) ∧ (∀ (w : World) (p : Addr) (v : Value), (w.setCell p v).heap.size = w.heap.size) ∧ (∀ w : World, w.drew.heap.size = w.heap.size) ∧ (∀ (w : World) (n : Nat), (w.drewN n).heap.size = w.heap.size) :=
  ⟨World.size_alloc, World.size_setCell, World.size_drew, size_drewN⟩
theorem own1 {B : Nat} {W w1 : World} (hb : Below B W w1) (x : Nat) (h : x < B) (hB : B ≤ W.heap.size := by exact Nat.le_refl _) : x < w1.heap.size ∧ x ≤ w1.heap.size ∧ x ≠ w1.heap.size ∧ w1.heap.size ≠ x ∧ w1.cell? ⟨x, 0, none⟩ = W.cell? ⟨x, 0, none⟩ ∧ w1.frozen? ⟨x, 0, none⟩ = W.frozen? ⟨x, 0, none⟩ :=
  have l : x < w1.heap.size := Nat.lt_of_lt_of_le (Nat.lt_of_lt_of_le h hB) hb.size
  ⟨l, Nat.le_of_lt l, Nat.ne_of_lt l, Nat.ne_of_gt l, (bcell hb).1 x 0 h, (bcell hb).2 x 0 h⟩
theorem own2 {B : Nat} {W w1 : World} (hb : Below B W w1) (x : Nat) (h : x < B) (hB : B ≤ W.heap.size := by exact Nat.le_refl _) : x < w1.heap.size ∧ x ≤ w1.heap.size ∧ x ≠ w1.heap.size ∧ w1.heap.size ≠ x ∧ w1.cell? ⟨x, 0, none⟩ = W.cell? ⟨x, 0, none⟩ ∧ w1.frozen? ⟨x, 0, none⟩ = W.frozen? ⟨x, 0, none⟩ ∧ w1.cell? ⟨x, 1, none⟩ = W.cell? ⟨x, 1, none⟩ ∧ w1.frozen? ⟨x, 1, none⟩ = W.frozen? ⟨x, 1, none⟩ :=
  have l : x < w1.heap.size := Nat.lt_of_lt_of_le (Nat.lt_of_lt_of_le h hB) hb.size
  ⟨l, Nat.le_of_lt l, Nat.ne_of_lt l, Nat.ne_of_gt l, (bcell hb).1 x 0 h, (bcell hb).2 x 0 h, (bcell hb).1 x 1 h, (bcell hb).2 x 1 h⟩
theorem own3 {B : Nat} {W w1 : World} (hb : Below B W w1) (x : Nat) (h : x < B) (hB : B ≤ W.heap.size := by exact Nat.le_refl _) : x < w1.heap.size ∧ x ≤ w1.heap.size ∧ x ≠ w1.heap.size ∧ w1.heap.size ≠ x ∧ w1.cell? ⟨x, 0, none⟩ = W.cell? ⟨x, 0, none⟩ ∧ w1.frozen? ⟨x, 0, none⟩ = W.frozen? ⟨x, 0, none⟩ ∧ w1.cell? ⟨x, 1, none⟩ = W.cell? ⟨x, 1, none⟩ ∧ w1.frozen? ⟨x, 1, none⟩ = W.frozen? ⟨x, 1, none⟩ ∧ w1.cell? ⟨x, 2, none⟩ = W.cell? ⟨x, 2, none⟩ ∧ w1.frozen? ⟨x, 2, none⟩ = W.frozen? ⟨x, 2, none⟩ :=
  have l : x < w1.heap.size := Nat.lt_of_lt_of_le (Nat.lt_of_lt_of_le h hB) hb.size
  ⟨l, Nat.le_of_lt l, Nat.ne_of_lt l, Nat.ne_of_gt l, (bcell hb).1 x 0 h, (bcell hb).2 x 0 h, (bcell hb).1 x 1 h, (bcell hb).2 x 1 h, (bcell hb).1 x 2 h, (bcell hb).2 x 2 h⟩
theorem own4 {B : Nat} {W w1 : World} (hb : Below B W w1) (x : Nat) (h : x < B) (hB : B ≤ W.heap.size := by exact Nat.le_refl _) : x < w1.heap.size ∧ x ≤ w1.heap.size ∧ x ≠ w1.heap.size ∧ w1.heap.size ≠ x ∧ w1.cell? ⟨x, 0, none⟩ = W.cell? ⟨x, 0, none⟩ ∧ w1.frozen? ⟨x, 0, none⟩ = W.frozen? ⟨x, 0, none⟩ ∧ w1.cell? ⟨x, 1, none⟩ = W.cell? ⟨x, 1, none⟩ ∧ w1.frozen? ⟨x, 1, none⟩ = W.frozen? ⟨x, 1, none⟩ ∧ w1.cell? ⟨x, 2, none⟩ = W.cell? ⟨x, 2, none⟩ ∧ w1.frozen? ⟨x, 2, none⟩ = W.frozen? ⟨x, 2, none⟩ ∧ w1.cell? ⟨x, 3, none⟩ = W.cell? ⟨x, 3, none⟩ ∧ w1.frozen? ⟨x, 3, none⟩ = W.frozen? ⟨x, 3, none⟩ :=
  have l : x < w1.heap.size := Nat.lt_of_lt_of_le (Nat.lt_of_lt_of_le h hB) hb.size
  ⟨l, Nat.le_of_lt l, Nat.ne_of_lt l, Nat.ne_of_gt l, (bcell hb).1 x 0 h, (bcell hb).2 x 0 h, (bcell hb).1 x 1 h, (bcell hb).2 x 1 h, (bcell hb).1 x 2 h, (bcell hb).2 x 2 h, (bcell hb).1 x 3 h, (bcell hb).2 x 3 h⟩
/-- A variable of the call's own, of two cells. -/
structure Two (w : World) (b : Nat) (x y : Value) : Prop where
  c0 : w.cell? ⟨b, 0, none⟩ = some x
  c1 : w.cell? ⟨b, 1, none⟩ = some y
  f0 : w.frozen? ⟨b, 0, none⟩ = false
  f1 : w.frozen? ⟨b, 1, none⟩ = false
  lt : b < w.heap.size
theorem Two.below {w w1 : World} {B b : Nat} {x y : Value} (t : Two w b x y) (hb : Below B w w1) (h : b < B) : Two w1 b x y :=
  ⟨by rw [(bcell hb).1 b 0 h]; exact t.c0, by rw [(bcell hb).1 b 1 h]; exact t.c1, by rw [(bcell hb).2 b 0 h]; exact t.f0, by rw [(bcell hb).2 b 1 h]; exact t.f1, Nat.lt_of_lt_of_le t.lt hb.size⟩
theorem Two.alloc {w : World} {b : Nat} {x y : Value} (t : Two w b x y) (o : Obj) : Two (w.alloc o) b x y := t.below ((Below.refl w.heap.size w).alloc (Nat.le_refl _) o) t.lt
theorem Two.put {w : World} {b : Nat} {x y : Value} (t : Two w b x y) (x' y' : Value) : Two ((w.setCell ⟨b, 0, none⟩ x').setCell ⟨b, 1, none⟩ y') b x' y' where
  c0 := by rw [World.cell?_setCell_other _ _ _ _ (by simp), World.cell?_setCell_same _ _ _ t.c0]
  c1 := by rw [World.cell?_setCell_same _ _ _ (u := y) (by rw [World.cell?_setCell_other _ _ _ _ (by simp), t.c1])]
  f0 := by simp [t.f0]
  f1 := by simp [t.f1]
  lt := by simp [t.lt]
theorem Two.far {w : World} {b b' : Nat} {x y : Value} (t : Two w b x y) (h : b' ≠ b) (o : Nat) (v : Value) : Two (w.setCell ⟨b', o, none⟩ v) b x y where
  c0 := by rw [World.cell?_setCell_other _ _ _ _ (by simp [h]), t.c0]
  c1 := by rw [World.cell?_setCell_other _ _ _ _ (by simp [h]), t.c1]
  f0 := by simp [t.f0]
  f1 := by simp [t.f1]
  lt := by simp [t.lt]
theorem Two.new {w : World} {x y : Value} {t : TypeId} {b : Nat} (h : b = w.heap.size) : Two (w.alloc (.cells #[x, y] t)) b x y := by subst h; exact ⟨by simp [go_sem], by simp [go_sem], by simp [go_sem], by simp [go_sem], by simp⟩

/-- Such a variable, whatever it holds. -/
def Own2 (w : World) (b : Nat) : Prop := ∃ x y, Two w b x y
theorem Two.own {w : World} {b : Nat} {x y : Value} (t : Two w b x y) : Own2 w b := ⟨x, y, t⟩
theorem Two.set {w : World} {b : Nat} (t : Own2 w b) (x' y' : Value) : Two ((w.setCell ⟨b, 0, none⟩ x').setCell ⟨b, 1, none⟩ y') b x' y' := by obtain ⟨x, y, t⟩ := t; exact t.put x' y'
theorem Own2.set {w : World} {b : Nat} (t : Own2 w b) (x' y' : Value) : Own2 ((w.setCell ⟨b, 0, none⟩ x').setCell ⟨b, 1, none⟩ y') b := (Two.set t x' y').own
theorem Two.via {w w1 : World} {B b : Nat} {x y : Value} (hb : Below B w w1) (t : Two w b x y) (h : b < B) : Two w1 b x y := t.below hb h
theorem Two.drew {w : World} {b : Nat} {x y : Value} (t : Two w b x y) : Two w.drew b x y := t.below ((Below.refl w.heap.size w).drew) t.lt
theorem Two.drewN {w : World} {b : Nat} {x y : Value} (t : Two w b x y) (n : Nat) : Two (w.drewN n) b x y := t.below (below_drewN (Below.refl w.heap.size w) n) t.lt
theorem Own2.via {w w1 : World} {B b : Nat} (hb : Below B w w1) (t : Own2 w b) (h : b < B) : Own2 w1 b := by obtain ⟨x, y, t⟩ := t; exact ⟨x, y, t.below hb h⟩
theorem Own2.far {w : World} {b b' : Nat} (t : Own2 w b) (h : b' ≠ b) (o : Nat) (v : Value) : Own2 (w.setCell ⟨b', o, none⟩ v) b := by obtain ⟨x, y, t⟩ := t; exact ⟨x, y, t.far h o v⟩
theorem Own2.alloc {w : World} {b : Nat} (t : Own2 w b) (o : Obj) : Own2 (w.alloc o) b := by obtain ⟨x, y, t⟩ := t; exact ⟨x, y, t.alloc o⟩
theorem Own2.new {w : World} {x y : Value} {t : TypeId} {b : Nat} (h : b = w.heap.size) : Own2 (w.alloc (.cells #[x, y] t)) b := ⟨x, y, Two.new h⟩
theorem Own2.drew {w : World} {b : Nat} (t : Own2 w b) : Own2 w.drew b := by obtain ⟨x, y, t⟩ := t; exact ⟨x, y, t.drew⟩
theorem Own2.drewN {w : World} {b : Nat} (t : Own2 w b) (n : Nat) : Own2 (w.drewN n) b := by obtain ⟨x, y, t⟩ := t; exact ⟨x, y, t.drewN n⟩

/-- A word of 64 bits, as a plain number. -/
theorem word_of {a : Int} (h : (Lit.int .u64 a).wf = true) : ∃ n : Nat, a = (n : Int) ∧ n < 18446744073709551616 := by
  have := bounds_u64 h
  exact ⟨a.toNat, by omega, by omega⟩
end Go.Proofs.Ytdbolfmmlmoiaaa

namespace Go.Proofs.Ytdbolfmmlmoiaaa
open Go.RowKit Go.Proofs
set_option linter.unusedVariables false
set_option linter.unusedSimpArgs false

/-- A variable of the call's own, of three cells. -/
structure Three (w : World) (b : Nat) (x y z : Value) : Prop where
  c0 : w.cell? ⟨b, 0, none⟩ = some x
  c1 : w.cell? ⟨b, 1, none⟩ = some y
  c2 : w.cell? ⟨b, 2, none⟩ = some z
  f0 : w.frozen? ⟨b, 0, none⟩ = false
  f1 : w.frozen? ⟨b, 1, none⟩ = false
  f2 : w.frozen? ⟨b, 2, none⟩ = false
  lt : b < w.heap.size
theorem Three.below {w w1 : World} {B b : Nat} {x y z : Value} (t : Three w b x y z) (hb : Below B w w1) (h : b < B) : Three w1 b x y z :=
  ⟨by rw [(bcell hb).1 b 0 h]; exact t.c0, by rw [(bcell hb).1 b 1 h]; exact t.c1, by rw [(bcell hb).1 b 2 h]; exact t.c2, by rw [(bcell hb).2 b 0 h]; exact t.f0, by rw [(bcell hb).2 b 1 h]; exact t.f1, by rw [(bcell hb).2 b 2 h]; exact t.f2, Nat.lt_of_lt_of_le t.lt hb.size⟩
theorem Three.alloc {w : World} {b : Nat} {x y z : Value} (t : Three w b x y z) (o : Obj) : Three (w.alloc o) b x y z := t.below ((Below.refl w.heap.size w).alloc (Nat.le_refl _) o) t.lt
theorem Three.put0 {w : World} {b : Nat} {x y z : Value} (t : Three w b x y z) (v : Value) : Three (w.setCell ⟨b, 0, none⟩ v) b v y z where
  c0 := by rw [World.cell?_setCell_same _ _ _ t.c0]
  c1 := by rw [World.cell?_setCell_other _ _ _ _ (by simp), t.c1]
  c2 := by rw [World.cell?_setCell_other _ _ _ _ (by simp), t.c2]
  f0 := by simp [t.f0]
  f1 := by simp [t.f1]
  f2 := by simp [t.f2]
  lt := by simp [t.lt]
theorem Three.put1 {w : World} {b : Nat} {x y z : Value} (t : Three w b x y z) (v : Value) : Three (w.setCell ⟨b, 1, none⟩ v) b x v z where
  c0 := by rw [World.cell?_setCell_other _ _ _ _ (by simp), t.c0]
  c1 := by rw [World.cell?_setCell_same _ _ _ t.c1]
  c2 := by rw [World.cell?_setCell_other _ _ _ _ (by simp), t.c2]
  f0 := by simp [t.f0]
  f1 := by simp [t.f1]
  f2 := by simp [t.f2]
  lt := by simp [t.lt]
theorem Three.put2 {w : World} {b : Nat} {x y z : Value} (t : Three w b x y z) (v : Value) : Three (w.setCell ⟨b, 2, none⟩ v) b x y v where
  c0 := by rw [World.cell?_setCell_other _ _ _ _ (by simp), t.c0]
  c1 := by rw [World.cell?_setCell_other _ _ _ _ (by simp), t.c1]
  c2 := by rw [World.cell?_setCell_same _ _ _ t.c2]
  f0 := by simp [t.f0]
  f1 := by simp [t.f1]
  f2 := by simp [t.f2]
  lt := by simp [t.lt]
theorem Three.put {w : World} {b : Nat} {x y z : Value} (t : Three w b x y z) (x' y' z' : Value) : Three (((w.setCell ⟨b, 0, none⟩ x').setCell ⟨b, 1, none⟩ y').setCell ⟨b, 2, none⟩ z') b x' y' z' :=
  ((t.put0 x').put1 y').put2 z'
theorem Three.far {w : World} {b b' : Nat} {x y z : Value} (t : Three w b x y z) (h : b' ≠ b) (o : Nat) (v : Value) : Three (w.setCell ⟨b', o, none⟩ v) b x y z where
  c0 := by rw [World.cell?_setCell_other _ _ _ _ (by simp [h]), t.c0]
  c1 := by rw [World.cell?_setCell_other _ _ _ _ (by simp [h]), t.c1]
  c2 := by rw [World.cell?_setCell_other _ _ _ _ (by simp [h]), t.c2]
  f0 := by simp [t.f0]
  f1 := by simp [t.f1]
  f2 := by simp [t.f2]
  lt := by simp [t.lt]
theorem Three.new {w : World} {x y z : Value} {t : TypeId} {b : Nat} (h : b = w.heap.size) : Three (w.alloc (.cells #[x, y, z] t)) b x y z := by subst h; exact ⟨by simp [go_sem], by simp [go_sem], by simp [go_sem], by simp [go_sem], by simp [go_sem], by simp [go_sem], by simp⟩

/-- Such a variable, whatever it holds. -/
def Own3 (w : World) (b : Nat) : Prop := ∃ x y z, Three w b x y z
theorem Three.own {w : World} {b : Nat} {x y z : Value} (t : Three w b x y z) : Own3 w b := ⟨x, y, z, t⟩
theorem Three.set {w : World} {b : Nat} (t : Own3 w b) (x' y' z' : Value) : Three (((w.setCell ⟨b, 0, none⟩ x').setCell ⟨b, 1, none⟩ y').setCell ⟨b, 2, none⟩ z') b x' y' z' := by obtain ⟨x, y, z, t⟩ := t; exact t.put x' y' z'
theorem Own3.set {w : World} {b : Nat} (t : Own3 w b) (x' y' z' : Value) : Own3 (((w.setCell ⟨b, 0, none⟩ x').setCell ⟨b, 1, none⟩ y').setCell ⟨b, 2, none⟩ z') b := (Three.set t x' y' z').own
theorem Three.via {w w1 : World} {B b : Nat} {x y z : Value} (hb : Below B w w1) (t : Three w b x y z) (h : b < B) : Three w1 b x y z := t.below hb h
theorem Three.drew {w : World} {b : Nat} {x y z : Value} (t : Three w b x y z) : Three w.drew b x y z := t.below ((Below.refl w.heap.size w).drew) t.lt
theorem Three.drewN {w : World} {b : Nat} {x y z : Value} (t : Three w b x y z) (n : Nat) : Three (w.drewN n) b x y z := t.below (below_drewN (Below.refl w.heap.size w) n) t.lt
theorem Own3.via {w w1 : World} {B b : Nat} (hb : Below B w w1) (t : Own3 w b) (h : b < B) : Own3 w1 b := by obtain ⟨x, y, z, t⟩ := t; exact ⟨x, y, z, t.below hb h⟩
theorem Own3.far {w : World} {b b' : Nat} (t : Own3 w b) (h : b' ≠ b) (o : Nat) (v : Value) : Own3 (w.setCell ⟨b', o, none⟩ v) b := by obtain ⟨x, y, z, t⟩ := t; exact ⟨x, y, z, t.far h o v⟩
theorem Own3.alloc {w : World} {b : Nat} (t : Own3 w b) (o : Obj) : Own3 (w.alloc o) b := by obtain ⟨x, y, z, t⟩ := t; exact ⟨x, y, z, t.alloc o⟩
theorem Own3.new {w : World} {x y z : Value} {t : TypeId} {b : Nat} (h : b = w.heap.size) : Own3 (w.alloc (.cells #[x, y, z] t)) b := ⟨x, y, z, Three.new h⟩
theorem Own3.drew {w : World} {b : Nat} (t : Own3 w b) : Own3 w.drew b := by obtain ⟨x, y, z, t⟩ := t; exact ⟨x, y, z, t.drew⟩
theorem Own3.drewN {w : World} {b : Nat} (t : Own3 w b) (n : Nat) : Own3 (w.drewN n) b := by obtain ⟨x, y, z, t⟩ := t; exact ⟨x, y, z, t.drewN n⟩
end Go.Proofs.Ytdbolfmmlmoiaaa

namespace Go.Proofs.Ytdbolfmmlmoiaaa
open Go.RowKit Go.Proofs
set_option linter.unusedVariables false
set_option linter.unusedSimpArgs false

theorem cells2 {w : World} {a : Nat} {x y : Value} (t : Two w a x y) : w.cell? ⟨a, 0, none⟩ = some x ∧ w.cell? ⟨a, 1, none⟩ = some y := ⟨t.c0, t.c1⟩
theorem cells3 {w : World} {a : Nat} {x y z : Value} (t : Three w a x y z) : w.cell? ⟨a, 0, none⟩ = some x ∧ w.cell? ⟨a, 1, none⟩ = some y ∧ w.cell? ⟨a, 2, none⟩ = some z := ⟨t.c0, t.c1, t.c2⟩
theorem cells_and {A B C : Prop} (h : A ∧ B) (k : C) : A ∧ B ∧ C := ⟨h.1, h.2, k⟩
theorem cells_and3 {A B C D : Prop} (h : A ∧ B ∧ C) (k : D) : A ∧ B ∧ C ∧ D := ⟨h.1, h.2.1, h.2.2, k⟩
end Go.Proofs.Ytdbolfmmlmoiaaa

namespace Ob

/-- A number that counts as a modulus. -/
def Mod (m : Nat) : Prop := 2 ≤ m ∧ m ≤ 4611686018427387904
theorem not_mod {m : Nat} (h : ¬ Mod m) : m < 2 ∨ 4611686018427387904 < m := by unfold Mod at h; omega

def add (m a b : Nat) : Nat := if 2 ≤ m ∧ m ≤ 4611686018427387904 then (a + b) % m else 0
def sub (m a b : Nat) : Nat := if 2 ≤ m ∧ m ≤ 4611686018427387904 then (a % m + (m - b % m)) % m else 0
def mul (m a b : Nat) : Nat := if 2 ≤ m ∧ m ≤ 4611686018427387904 then a * b % m else 0
def pow (m a e : Nat) : Nat := if 2 ≤ m ∧ m ≤ 4611686018427387904 then a ^ e % m else 0

theorem add_yes {m a b : Nat} (h : Mod m) : add m a b = (a + b) % m := if_pos h
theorem add_no {m a b : Nat} (h : ¬ Mod m) : add m a b = 0 := if_neg h
theorem sub_yes {m a b : Nat} (h : Mod m) : sub m a b = (a % m + (m - b % m)) % m := if_pos h
theorem sub_no {m a b : Nat} (h : ¬ Mod m) : sub m a b = 0 := if_neg h
theorem mul_yes {m a b : Nat} (h : Mod m) : mul m a b = a * b % m := if_pos h
theorem mul_no {m a b : Nat} (h : ¬ Mod m) : mul m a b = 0 := if_neg h
theorem pow_yes {m a e : Nat} (h : Mod m) : pow m a e = a ^ e % m := if_pos h
theorem pow_no {m a e : Nat} (h : ¬ Mod m) : pow m a e = 0 := if_neg h

theorem add_lt {m a b : Nat} (h : Mod m) : add m a b < m := by rw [add_yes h]; exact Nat.mod_lt _ (by have := h.1; omega)
theorem sub_lt {m a b : Nat} (h : Mod m) : sub m a b < m := by rw [sub_yes h]; exact Nat.mod_lt _ (by have := h.1; omega)
theorem mul_lt {m a b : Nat} (h : Mod m) : mul m a b < m := by rw [mul_yes h]; exact Nat.mod_lt _ (by have := h.1; omega)
theorem pow_lt {m a e : Nat} (h : Mod m) : pow m a e < m := by rw [pow_yes h]; exact Nat.mod_lt _ (by have := h.1; omega)
theorem add_word (m a b : Nat) : add m a b < 18446744073709551616 := by
  by_cases h : Mod m
  · have := add_lt (a := a) (b := b) h; have := h.2; omega
  · rw [add_no h]; omega
theorem sub_word (m a b : Nat) : sub m a b < 18446744073709551616 := by
  by_cases h : Mod m
  · have := sub_lt (a := a) (b := b) h; have := h.2; omega
  · rw [sub_no h]; omega
theorem mul_word (m a b : Nat) : mul m a b < 18446744073709551616 := by
  by_cases h : Mod m
  · have := mul_lt (a := a) (b := b) h; have := h.2; omega
  · rw [mul_no h]; omega
theorem pow_word (m a e : Nat) : pow m a e < 18446744073709551616 := by
  by_cases h : Mod m
  · have := pow_lt (a := a) (e := e) h; have := h.2; omega
  · rw [pow_no h]; omega

/-- The inverse of a modulo m (0 where there is none): the first number that serves. -/
def inv (m a : Nat) : Nat := ((List.range m).find? fun X => X * a % m == 1 % m).getD 0

/-- Two numbers that undo a modulo m are the same below m. -/
theorem inv_unique {m a X Y : Nat} (hX : X < m) (hY : Y < m) (h1 : X * a % m = 1 % m) (h2 : Y * a % m = 1 % m) : X = Y := by
  have e1 : X * (a * Y) % m = X % m := by
    rw [Nat.mul_mod, Nat.mul_comm a Y, h2, ← Nat.mul_mod, Nat.mul_one]
  have e2 : X * a * Y % m = Y % m := by
    rw [Nat.mul_mod, h1, ← Nat.mul_mod, Nat.one_mul]
  rw [← Nat.mul_assoc, e2, Nat.mod_eq_of_lt hX, Nat.mod_eq_of_lt hY] at e1
  exact e1.symm

theorem inv_eq {m a X : Nat} (hX : X < m) (h : X * a % m = 1 % m) : inv m a = X := by
  unfold inv
  cases hf : (List.range m).find? fun X => X * a % m == 1 % m with
  | none =>
    have := List.find?_eq_none.mp hf X (List.mem_range.mpr hX)
    simp [h] at this
  | some Y =>
    have h1 := List.find?_some hf
    have h2 := List.mem_range.mp (List.mem_of_find?_eq_some hf)
    simp only [beq_iff_eq] at h1
    exact inv_unique h2 hX h1 h

/-- What has no divisor in common with m has an inverse: Euclid. -/
theorem inv_ok_of {m a X : Nat} (hX : X < m) (h : X * a % m = 1 % m) : inv m a < m ∧ inv m a * a % m = 1 % m := by rw [inv_eq hX h]; exact ⟨hX, h⟩
end Ob

namespace Ob

theorem mul_mod_left (a b m : Nat) : (a % m) * b % m = a * b % m := by rw [Nat.mul_mod, Nat.mod_mod, ← Nat.mul_mod]
theorem mul_mod_right (a b m : Nat) : a * (b % m) % m = a * b % m := by rw [Nat.mul_mod, Nat.mod_mod, ← Nat.mul_mod]
theorem pow_mod_left (a e m : Nat) : (a % m) ^ e % m = a ^ e % m := (Nat.pow_mod a e m).symm
theorem mul_congr {a b c d m : Nat} (h1 : a % m = b % m) (h2 : c % m = d % m) : a * c % m = b * d % m := by rw [Nat.mul_mod, h1, h2, ← Nat.mul_mod]

theorem square_pow (A k m : Nat) : (A * A % m) ^ k % m = A ^ (2 * k) % m := by
  rw [pow_mod_left, ← Nat.pow_two, ← Nat.pow_mul]

/-- A round of a power by squaring, from the lowest bit on. -/
theorem pow_even (m p A E : Nat) (h : E % 2 = 0) : p * (A * A % m) ^ (E / 2) % m = p * A ^ E % m := by
  have e : 2 * (E / 2) = E := by omega
  rw [Nat.mul_mod, square_pow, e, ← Nat.mul_mod]
theorem pow_odd (m p A E : Nat) (h : E % 2 = 1) : (p * A % m) * (A * A % m) ^ (E / 2) % m = p * A ^ E % m := by
  have e : 2 * (E / 2) + 1 = E := by omega
  have e2 : A ^ E = A * A ^ (2 * (E / 2)) := by rw [← Nat.pow_succ', Nat.succ_eq_add_one, e]
  rw [mul_mod_left, Nat.mul_mod, square_pow, ← Nat.mul_mod, e2, Nat.mul_assoc]

/-- A round of a product by doubling, from the highest bit on. -/
theorem shr_step (y k : Nat) : y / 2 ^ k = 2 * (y / 2 ^ (k + 1)) + y / 2 ^ k % 2 := by
  have : y / 2 ^ (k + 1) = y / 2 ^ k / 2 := by rw [Nat.pow_succ, Nat.div_div_eq_div_mul]
  omega

theorem dbl_mod (m o : Nat) : (o % m + o % m) % m = 2 * o % m := by
  rw [← Nat.two_mul, mul_mod_right]

theorem mul_bit (m x y k : Nat) : (x * (y / 2 ^ k)) % m = ((x * (y / 2 ^ (k + 1)) % m + x * (y / 2 ^ (k + 1)) % m) % m + x * (y / 2 ^ k % 2)) % m := by
  have e : x * (y / 2 ^ k) = x * (y / 2 ^ (k + 1)) + x * (y / 2 ^ (k + 1)) + x * (y / 2 ^ k % 2) := by
    have h := shr_step y k
    generalize y / 2 ^ k % 2 = b at h ⊢
    rw [h, Nat.mul_add, Nat.mul_left_comm, Nat.two_mul]
  rw [e, Nat.add_mod, Nat.add_mod (x * (y / 2 ^ (k + 1))), Nat.add_mod_mod]

/-- A round of a power, from the highest bit on. -/
theorem pow_bit (m a e k : Nat) : a ^ (e / 2 ^ k) % m = ((a ^ (e / 2 ^ (k + 1)) % m) * (a ^ (e / 2 ^ (k + 1)) % m) % m * a ^ (e / 2 ^ k % 2)) % m := by
  have h := shr_step e k
  generalize e / 2 ^ k % 2 = b at h ⊢
  rw [h, Nat.pow_add, Nat.two_mul, Nat.pow_add, ← Nat.mul_mod (a ^ (e / 2 ^ (k + 1))) (a ^ (e / 2 ^ (k + 1))) m, mul_mod_left]
end Ob

namespace Ob

def Prime (p : Nat) : Prop := 2 ≤ p ∧ ∀ d, d ∣ p → d = 1 ∨ d = p

/-- Euclid's lemma. -/
theorem Prime.dvd_mul {p a b : Nat} (hp : Prime p) (h : p ∣ a * b) : p ∣ a ∨ p ∣ b := by
  rcases hp.2 (Nat.gcd p a) (Nat.gcd_dvd_left p a) with h1 | h1
  · exact Or.inr (Nat.Coprime.dvd_of_dvd_mul_left h1 h)
  · exact Or.inl (h1 ▸ Nat.gcd_dvd_right p a)

theorem Prime.dvd_pow {p a : Nat} (hp : Prime p) : ∀ {e : Nat}, p ∣ a ^ e → p ∣ a
  | 0, h => by
    have := Nat.le_of_dvd (by simp) h
    have := hp.1
    simp at *
    omega
  | e + 1, h => by
    rw [Nat.pow_succ] at h
    rcases hp.dvd_mul h with h | h
    · exact hp.dvd_pow h
    · exact h

theorem Prime.eq_of_dvd {p q : Nat} (hp : Prime p) (hq : Prime q) (h : p ∣ q) : p = q := by
  rcases hq.2 p h with h | h
  · have := hp.1; omega
  · exact h

/-- No divisor from 2 to s. -/
def noDiv (p : Nat) : Nat → Bool
  | 0 => true
  | s + 1 => noDiv p s && (s + 1 < 2 || p % (s + 1) != 0)

theorem noDiv_spec (p : Nat) : ∀ (s : Nat), noDiv p s = true → ∀ d, 2 ≤ d → d ≤ s → ¬ d ∣ p
  | 0, _, d, h1, h2 => by omega
  | s + 1, h, d, h1, h2 => by
    simp only [noDiv, Bool.and_eq_true, Bool.or_eq_true, decide_eq_true_eq, bne_iff_ne, ne_eq] at h
    rcases Nat.lt_or_ge d (s + 1) with h3 | h3
    · exact noDiv_spec p s h.1 d h1 (by omega)
    · have e : d = s + 1 := by omega
      subst e
      intro hd
      rcases h.2 with h4 | h4
      · omega
      · exact h4 (Nat.mod_eq_zero_of_dvd hd)

/-- Trial division: s times s is above p. -/
theorem prime_of_trial (p s : Nat) (h2 : 2 ≤ p) (hs : p < (s + 1) * (s + 1)) (h : noDiv p s = true) : Prime p := by
  refine ⟨h2, fun d hd => ?_⟩
  rcases Nat.eq_zero_or_pos d with h0 | h0
  · subst h0; have := Nat.eq_zero_of_zero_dvd hd; omega
  obtain ⟨c, hc⟩ := hd
  have hcp : 0 < c := by
    rcases Nat.eq_zero_or_pos c with e | e
    · subst e; simp at hc; omega
    · exact e
  by_cases h1 : d = 1
  · exact Or.inl h1
  refine Or.inr ?_
  by_cases hc1 : c = 1
  · subst hc1; omega
  exfalso
  rcases Nat.lt_or_ge s d with hd | hd
  · rcases Nat.lt_or_ge s c with hc' | hc'
    · have : (s + 1) * (s + 1) ≤ d * c := Nat.mul_le_mul hd hc'
      omega
    · exact noDiv_spec p s h c (by omega) hc' ⟨d, by rw [hc, Nat.mul_comm]⟩
  · exact noDiv_spec p s h d (by omega) hd ⟨c, hc⟩

/-- Every number above 1 has a prime divisor. -/
theorem exists_prime : ∀ (n : Nat), 2 ≤ n → ∃ p, Prime p ∧ p ∣ n := by
  intro n
  induction n using Nat.strongRecOn with
  | ind n ih =>
    intro h
    by_cases hp : ∀ d, d ∣ n → d = 1 ∨ d = n
    · exact ⟨n, ⟨h, hp⟩, Nat.dvd_refl n⟩
    · obtain ⟨d, hd⟩ := Classical.not_forall.mp hp
      have ⟨hd1, hd2⟩ := Classical.not_imp.mp hd
      have hle := Nat.le_of_dvd (by omega) hd1
      have hpos := Nat.pos_of_dvd_of_pos hd1 (by omega)
      have h3 : d ≠ 1 ∧ d ≠ n := ⟨fun e => hd2 (Or.inl e), fun e => hd2 (Or.inr e)⟩
      obtain ⟨p, hp1, hp2⟩ := ih d (by omega) (by omega)
      exact ⟨p, hp1, Nat.dvd_trans hp2 hd1⟩

/-- A map of [0, n) into itself that keeps apart meets every number. -/
theorem pigeon : ∀ (n : Nat) (f : Nat → Nat), (∀ i, i < n → f i < n) → (∀ i j, i < n → j < n → f i = f j → i = j) → ∀ y, y < n → ∃ i, i < n ∧ f i = y
  | 0, _, _, _, y, hy => by omega
  | n + 1, f, hf, hi, y, hy => by
    have hv := hf n (by omega)
    let g : Nat → Nat := fun i => if f i = n then f n else f i
    have hg : ∀ i, i < n → g i < n := by
      intro i h
      show (if f i = n then f n else f i) < n
      split
      · rename_i e
        have : f n ≠ n := fun e2 => by have := hi i n (by omega) (by omega) (by rw [e, e2]); omega
        omega
      · have := hf i (by omega); omega
    have hgi : ∀ i j, i < n → j < n → g i = g j → i = j := by
      intro i j h1 h2 h
      simp only [g] at h
      split at h <;> split at h
      · rename_i e1 e2; exact hi i j (by omega) (by omega) (by rw [e1, e2])
      · have := hi n j (by omega) (by omega) h; omega
      · have := hi i n (by omega) (by omega) h; omega
      · exact hi i j (by omega) (by omega) h
    have ih := pigeon n g hg hgi
    by_cases e1 : y = f n
    · exact ⟨n, by omega, e1.symm⟩
    by_cases e2 : y = n
    · obtain ⟨i, h1, h2⟩ := ih (f n) (by omega)
      simp only [g] at h2
      split at h2
      · rename_i e3; exact ⟨i, by omega, by rw [e3, e2]⟩
      · have := hi i n (by omega) (by omega) h2; omega
    · obtain ⟨i, h1, h2⟩ := ih y (by omega)
      simp only [g] at h2
      split at h2
      · exact absurd h2.symm e1
      · exact ⟨i, by omega, h2⟩

theorem pow_add_mod (g i j N : Nat) : g ^ (i + j) % N = (g ^ i % N) * (g ^ j % N) % N := by rw [Nat.pow_add, Nat.mul_mod]

/-- Where a power is 1 at two exponents it is at their greatest common divisor. -/
theorem pow_gcd {g N : Nat} (hN : 2 ≤ N) : ∀ (b a : Nat), g ^ a % N = 1 → g ^ b % N = 1 → g ^ Nat.gcd b a % N = 1 := by
  intro b
  induction b using Nat.strongRecOn with
  | ind b ih =>
    intro a ha hb
    rcases Nat.eq_zero_or_pos b with h0 | h0
    · subst h0; rw [Nat.gcd_zero_left]; exact ha
    · rw [Nat.gcd_rec]
      refine ih (a % b) (Nat.mod_lt _ h0) b hb ?_
      have h1 : g ^ (b * (a / b)) % N = 1 := by
        rw [Nat.pow_mul, Nat.pow_mod, hb, Nat.one_pow, Nat.mod_eq_of_lt (by omega)]
      have h2 := ha
      rw [← Nat.div_add_mod a b, pow_add_mod, h1, Nat.one_mul, Nat.mod_mod] at h2
      exact h2

/-- What Lucas asks: g to the N - 1 is 1, and to no (N - 1) / q, for all primes q that divide N - 1. -/
structure Lucas (N g : Nat) : Prop where
  two : 2 ≤ N
  one : g ^ (N - 1) % N = 1
  ne : ∀ q, Prime q → q ∣ N - 1 → g ^ ((N - 1) / q) % N ≠ 1

theorem Lucas.order {N g : Nat} (h : Lucas N g) (k : Nat) (hk : g ^ k % N = 1) : N - 1 ∣ k := by
  have hd := pow_gcd h.two k (N - 1) h.one hk
  have hdv : Nat.gcd k (N - 1) ∣ N - 1 := Nat.gcd_dvd_right _ _
  obtain ⟨c, hc⟩ := hdv
  have h2 := h.two
  have hcp : 0 < c := by
    rcases Nat.eq_zero_or_pos c with e | e
    · subst e; simp at hc; omega
    · exact e
  by_cases hc1 : c = 1
  · subst hc1
    rw [Nat.mul_one] at hc
    rw [hc]
    exact Nat.gcd_dvd_left _ _
  · exfalso
    obtain ⟨q, hq, e, he⟩ := exists_prime c (by omega)
    have hqp : 0 < q := by have := hq.1; omega
    have hqd : q ∣ N - 1 := ⟨Nat.gcd k (N - 1) * e, by rw [Nat.mul_left_comm, ← he]; exact hc⟩
    refine h.ne q hq hqd ?_
    have e2 : (N - 1) / q = Nat.gcd k (N - 1) * e := by
      have : N - 1 = q * (Nat.gcd k (N - 1) * e) := by rw [Nat.mul_left_comm, ← he]; exact hc
      exact Nat.div_eq_of_eq_mul_right hqp this
    rw [e2, Nat.pow_mul, Nat.pow_mod, hd, Nat.one_pow, Nat.mod_eq_of_lt (by omega)]

theorem Lucas.undo {N g : Nat} (h : Lucas N g) (i : Nat) (hi : i ≤ N - 1) : (g ^ i % N) * (g ^ (N - 1 - i) % N) % N = 1 := by
  rw [← pow_add_mod]
  have : i + (N - 1 - i) = N - 1 := by omega
  rw [this]
  exact h.one

theorem Lucas.pos {N g : Nat} (h : Lucas N g) (i : Nat) (hi : i ≤ N - 1) : 1 ≤ g ^ i % N := by
  rcases Nat.eq_zero_or_pos (g ^ i % N) with e | e
  · have := h.undo i hi
    rw [e, Nat.zero_mul, Nat.zero_mod] at this
    omega
  · exact e

theorem Lucas.apart {N g : Nat} (h : Lucas N g) (i j : Nat) (hij : i ≤ j) (hj : j < N - 1) (e : g ^ i % N = g ^ j % N) : i = j := by
  have h1 : g ^ (j - i) % N = 1 := by
    have a1 := h.undo i (by omega)
    have a2 : g ^ (j - i) % N = g ^ (j - i) * 1 % N := by rw [Nat.mul_one]
    rw [a2, Nat.mul_mod, ← a1, Nat.mod_mod]
    have a3 : (g ^ (j - i) % N) * ((g ^ i % N) * (g ^ (N - 1 - i) % N) % N) % N = (g ^ j % N) * (g ^ (N - 1 - i) % N) % N := by
      have a4 : g ^ j % N = (g ^ (j - i) % N) * (g ^ i % N) % N := by
        rw [← pow_add_mod]
        have : j - i + i = j := by omega
        rw [this]
      rw [a4]
      generalize g ^ (j - i) % N = A
      generalize g ^ i % N = B
      generalize g ^ (N - 1 - i) % N = C
      rw [mul_mod_left, mul_mod_right, Nat.mul_assoc]
    rw [a3, ← e]
  have := h.order _ h1
  rcases Nat.eq_zero_or_pos (j - i) with e0 | e0
  · omega
  · have := Nat.le_of_dvd e0 this
    omega

/-- Each number from 1 to N - 1 is a power of g. -/
theorem Lucas.all {N g : Nat} (h : Lucas N g) (y : Nat) (h1 : 1 ≤ y) (h2 : y < N) : ∃ i, i < N - 1 ∧ g ^ i % N = y := by
  have hN := h.two
  obtain ⟨i, hi, he⟩ := pigeon (N - 1) (fun i => g ^ i % N - 1)
    (fun i hi => by have := Nat.mod_lt (g ^ i) (show 0 < N by omega); have := h.pos i (by omega); show g ^ i % N - 1 < N - 1; omega)
    (fun i j hi hj e => by
      have e' : g ^ i % N = g ^ j % N := by have := h.pos i (by omega); have := h.pos j (by omega); have e2 : g ^ i % N - 1 = g ^ j % N - 1 := e; omega
      rcases Nat.le_total i j with hij | hij
      · exact h.apart i j hij hj e'
      · exact (h.apart j i hij hi e'.symm).symm) (y - 1) (by omega)
  refine ⟨i, hi, ?_⟩
  have := h.pos i (by omega)
  have he2 : g ^ i % N - 1 = y - 1 := he
  omega

theorem Lucas.prime {N g : Nat} (h : Lucas N g) : Prime N := by
  refine ⟨h.two, fun d hd => ?_⟩
  have hN := h.two
  have hle := Nat.le_of_dvd (by omega) hd
  have hpos := Nat.pos_of_dvd_of_pos hd (by omega)
  rcases Nat.lt_or_ge d N with hlt | hge
  · refine Or.inl ?_
    obtain ⟨i, hi, he⟩ := h.all d hpos hlt
    have hu := h.undo i (by omega)
    rw [he] at hu
    have h1 : d ∣ d * (g ^ (N - 1 - i) % N) % N := (Nat.dvd_mod_iff hd).mpr ⟨_, rfl⟩
    rw [hu] at h1
    exact Nat.dvd_one.mp h1
  · exact Or.inr (by omega)

/-- Fermat. -/
theorem Lucas.fermat {N g : Nat} (h : Lucas N g) (a : Nat) (ha : a % N ≠ 0) : a ^ (N - 1) % N = 1 := by
  have hN := h.two
  obtain ⟨i, hi, he⟩ := h.all (a % N) (by omega) (Nat.mod_lt _ (by omega))
  rw [Nat.pow_mod, ← he, ← Nat.pow_mod, ← Nat.pow_mul, Nat.mul_comm, Nat.pow_mul, Nat.pow_mod, h.one, Nat.one_pow, Nat.mod_eq_of_lt (by omega)]

/-- A number whose square is 1 modulo a prime is 1 or -1. -/
theorem Prime.square_one {p y : Nat} (hp : Prime p) (hy : y < p) (h : y * y % p = 1) : y = 1 ∨ y = p - 1 := by
  have hp2 := hp.1
  rcases Nat.eq_zero_or_pos y with h0 | h0
  · subst h0; simp at h
  have hdv : p ∣ (y - 1) * (y + 1) := by
    have e : (y - 1) * (y + 1) + 1 = y * y := by
      obtain ⟨z, rfl⟩ : ∃ z, y = z + 1 := ⟨y - 1, by omega⟩
      simp only [Nat.add_sub_cancel]
      grind
    have hle : 1 ≤ y * y := Nat.mul_pos h0 h0
    have : p ∣ y * y - 1 := Nat.dvd_of_mod_eq_zero (Nat.sub_mod_eq_zero_of_mod_eq (by rw [h, Nat.mod_eq_of_lt (by omega)]))
    have e2 : (y - 1) * (y + 1) = y * y - 1 := by omega
    rw [e2]
    exact this
  rcases hp.dvd_mul hdv with h1 | h1
  · left
    rcases Nat.eq_zero_or_pos (y - 1) with e | e
    · omega
    · have := Nat.le_of_dvd e h1; omega
  · right
    have := Nat.le_of_dvd (by omega) h1
    omega
end Ob

namespace Ob

def R : Nat := 288230376287764481

/-- a to the e modulo N, by squaring: for the kernel to reckon. -/
def powm (N : Nat) : Nat → Nat → Nat → Nat
  | 0, _, _ => 1 % N
  | f + 1, a, e => if e = 0 then 1 % N else if e % 2 = 0 then powm N f (a * a % N) (e / 2) else a * powm N f (a * a % N) (e / 2) % N

theorem powm_eq (N : Nat) : ∀ (f a e : Nat), e < 2 ^ f → powm N f a e = a ^ e % N
  | 0, a, e, h => by
    have : e = 0 := by simpa using h
    subst this
    simp [powm]
  | f + 1, a, e, h => by
    unfold powm
    by_cases h0 : e = 0
    · rw [if_pos h0, h0, Nat.pow_zero]
    · rw [if_neg h0]
      have ih := powm_eq N f (a * a % N) (e / 2) (by rw [Nat.pow_succ] at h; omega)
      by_cases h1 : e % 2 = 0
      · rw [if_pos h1, ih]
        have := pow_even N 1 a e h1
        rw [Nat.one_mul, Nat.one_mul] at this
        exact this
      · rw [if_neg h1, ih, mul_mod_right]
        have := pow_odd N 1 a e (by omega)
        rw [Nat.one_mul, Nat.one_mul, mul_mod_left] at this
        exact this

theorem prime2 : Prime 2 := prime_of_trial 2 1 (by decide) (by decide) (by decide +kernel)
theorem prime5 : Prime 5 := prime_of_trial 5 2 (by decide) (by decide) (by decide +kernel)
theorem prime587 : Prime 587 := prime_of_trial 587 24 (by decide) (by decide) (by decide +kernel)
theorem prime619 : Prime 619 := prime_of_trial 619 24 (by decide) (by decide) (by decide +kernel)
theorem prime769 : Prime 769 := prime_of_trial 769 27 (by decide) (by decide) (by decide +kernel)
theorem prime787 : Prime 787 := prime_of_trial 787 28 (by decide) (by decide) (by decide +kernel)

theorem pow_of_powm {N a e r : Nat} (h : e < 2 ^ 64) (hr : powm N 64 a e = r) : a ^ e % N = r := by rw [← powm_eq N 64 a e h]; exact hr

theorem R_sub : R - 1 = 2 ^ 18 * 5 * 587 * 619 * 769 * 787 := by decide +kernel

theorem lucasR : Lucas R 3 where
  two := by decide +kernel
  one := pow_of_powm (by decide +kernel) (by decide +kernel)
  ne := by
    intro q hq hd
    rw [R_sub] at hd
    have h : q = 2 ∨ q = 5 ∨ q = 587 ∨ q = 619 ∨ q = 769 ∨ q = 787 := by
      rcases hq.dvd_mul hd with hd | hd
      · rcases hq.dvd_mul hd with hd | hd
        · rcases hq.dvd_mul hd with hd | hd
          · rcases hq.dvd_mul hd with hd | hd
            · rcases hq.dvd_mul hd with hd | hd
              · exact Or.inl (hq.eq_of_dvd prime2 (hq.dvd_pow hd))
              · exact Or.inr (Or.inl (hq.eq_of_dvd prime5 hd))
            · exact Or.inr (Or.inr (Or.inl (hq.eq_of_dvd prime587 hd)))
          · exact Or.inr (Or.inr (Or.inr (Or.inl (hq.eq_of_dvd prime619 hd))))
        · exact Or.inr (Or.inr (Or.inr (Or.inr (Or.inl (hq.eq_of_dvd prime769 hd)))))
      · exact Or.inr (Or.inr (Or.inr (Or.inr (Or.inr (hq.eq_of_dvd prime787 hd)))))
    have ne : ∀ k, (R - 1) / k < 2 ^ 64 → powm R 64 3 ((R - 1) / k) ≠ 1 → 3 ^ ((R - 1) / k) % R ≠ 1 := fun k h1 h2 h3 => h2 (by rw [powm_eq R 64 3 _ h1]; exact h3)
    rcases h with h | h | h | h | h | h
    all_goals
      subst h
      exact ne _ (by decide +kernel) (by decide +kernel)

theorem primeR : Prime R := lucasR.prime
end Ob

namespace Ob
set_option linter.unusedVariables false
set_option linter.unusedSimpArgs false

abbrev RE : Nat := 288230376287764481
theorem RE_eq : RE = R := rfl
def gpow (x : Fin RE) : Nat → Fin RE
  | 0 => 1
  | n + 1 => gpow x n * x
theorem gpow_val (x : Fin RE) (n : Nat) : (gpow x n).val = x.val ^ n % RE := by
  induction n with
  | zero => rfl
  | succ n ih =>
    show (gpow x n * x).val = _
    rw [Fin.val_mul, ih, Nat.pow_succ, Nat.mod_mul_mod]
theorem gpow_add (x : Fin RE) (m n : Nat) : gpow x (m + n) = gpow x m * gpow x n := by
  induction n with
  | zero => show gpow x m = gpow x m * 1; grobner
  | succ n ih => show gpow x (m + n) * x = gpow x m * (gpow x n * x); rw [ih]; grobner
theorem gpow_sq (x : Fin RE) (n : Nat) : gpow (x * x) n = gpow x n * gpow x n := by
  induction n with
  | zero => show (1 : Fin RE) = 1 * 1; grobner
  | succ n ih => show gpow (x * x) n * (x * x) = gpow x n * x * (gpow x n * x); rw [ih]; generalize gpow x n = t; grobner
theorem G_ne {a : Fin RE} (h : a ≠ 0) : a.val % R ≠ 0 := fun e => h (Fin.ext (by rw [← Nat.mod_eq_of_lt a.isLt]; exact e))
theorem fermatG (x : Fin RE) (h : x ≠ 0) : gpow x (RE - 1) = 1 := by
  apply Fin.ext
  rw [gpow_val]
  exact lucasR.fermat _ (G_ne h)
def ginv (x : Fin RE) : Fin RE := gpow x (RE - 2)
theorem ginv_mul {x : Fin RE} (h : x ≠ 0) : x * ginv x = 1 := by
  have e := fermatG x h
  have e2 : RE - 1 = (RE - 2) + 1 := by decide +kernel
  rw [e2] at e
  have e3 : gpow x ((RE - 2) + 1) = ginv x * x := rfl
  rw [e3] at e
  rw [← e]; generalize ginv x = i; grobner
theorem ginv_val (x : Fin RE) : (ginv x).val = x.val ^ (RE - 2) % RE := gpow_val x _
attribute [irreducible] ginv
theorem ginv_unique {a b : Fin RE} (h : a * b = 1) : ginv a = b := by
  have ha : a ≠ 0 := fun e => by subst e; revert h; grobner
  have h2 := ginv_mul ha
  generalize ginv a = i at *
  grobner
theorem Gmul_zero {a b : Fin RE} (h : a * b = 0) : a = 0 ∨ b = 0 := by
  by_cases ha : a = 0
  · exact Or.inl ha
  · have h2 := ginv_mul ha
    generalize ginv a = i at *
    exact Or.inr (by grobner)
theorem Gcancel {a b c : Fin RE} (ha : a ≠ 0) (h : b * a = c * a) : b = c := by
  have h2 := ginv_mul ha
  generalize ginv a = i at *
  grobner
theorem g1_ne : (1 : Fin RE) ≠ 0 := by decide +kernel
theorem g2_ne : (2 : Fin RE) ≠ 0 := by decide +kernel
/-- What to the half of R - 1 isn't 1 is no square. -/
theorem nosq {a : Fin RE} (h0 : a ≠ 0) (h : gpow a 144115188143882240 ≠ 1) (x : Fin RE) : x * x ≠ a := fun e => by
  apply h
  have hx : x ≠ 0 := fun e' => by subst e'; apply h0; rw [← e]; grobner
  rw [← e, gpow_sq, ← gpow_add]
  exact fermatG x hx
theorem pow_fin {a r : Nat} {e : Nat} (h : e < 2 ^ 64) (hr : powm RE 64 a e = r) (x : Fin RE) (hx : x.val = a) : (gpow x e).val = r := by
  rw [gpow_val, hx, ← powm_eq RE 64 a e h]
  exact hr
theorem d_nosq : ∀ x : Fin RE, x * x ≠ 439 := nosq (by decide +kernel) (fun h => by
  have e := pow_fin (a := 439) (r := RE - 1) (e := 144115188143882240) (by decide +kernel) (by decide +kernel) 439 rfl
  rw [h] at e
  revert e
  decide +kernel)
theorem d1_nosq : ∀ x : Fin RE, x * x ≠ 440 := nosq (by decide +kernel) (fun h => by
  have e := pow_fin (a := 440) (r := RE - 1) (e := 144115188143882240) (by decide +kernel) (by decide +kernel) 440 rfl
  rw [h] at e
  revert e
  decide +kernel)
/-- A root of -1. -/
def gi : Fin RE := 263209301981812971
theorem gi_sq : gi * gi = -1 := by decide +kernel

/-! Points -/
abbrev Ep : Type := Fin RE × Fin RE
def onG (u : Ep) : Prop := u.2 * u.2 = 1 + u.1 * u.1 + 439 * (u.1 * u.1 * (u.2 * u.2))
def gk (u v : Ep) : Fin RE := 439 * (u.1 * v.1 * (u.2 * v.2))
def gadd (u v : Ep) : Ep := ((u.1 * v.2 + u.2 * v.1) * ginv (1 + gk u v), (u.2 * v.2 + u.1 * v.1) * ginv (1 - gk u v))
def gzero : Ep := (0, 1)
def gneg (u : Ep) : Ep := (0 - u.1, u.2)
def Gsum (u v t : Ep) : Prop := t.1 * (1 + gk u v) = u.1 * v.2 + u.2 * v.1 ∧ t.2 * (1 - gk u v) = u.2 * v.2 + u.1 * v.1

theorem sq_quot {d x y : Fin RE} (hy : y ≠ 0) (h : x * x = d * (y * y)) : (x * ginv y) * (x * ginv y) = d := by
  have h2 := ginv_mul hy
  generalize ginv y = i at *
  grobner
theorem gcomplete {x1 y1 x2 y2 k : Fin RE} (h1 : y1 * y1 = 1 + x1 * x1 + 439 * (x1 * x1 * (y1 * y1))) (h2 : y2 * y2 = 1 + x2 * x2 + 439 * (x2 * x2 * (y2 * y2)))
    (hk : k = 439 * (x1 * x2 * (y1 * y2))) : k * k ≠ 1 := by
  intro h
  have hi := gi_sq
  generalize gi = i at hi
  have dns := d_nosq
  generalize (439 : Fin RE) = d at *
  have e0 : d * (x1 * x1 * (y1 * y1)) * (y2 * y2 - x2 * x2) = y1 * y1 - x1 * x1 := by
    have a1 : y2 * y2 - x2 * x2 = 1 + d * (x2 * x2 * (y2 * y2)) := by clear h1 hk h hi; grobner
    have a2 : d * (x1 * x1 * (y1 * y1)) * (d * (x2 * x2 * (y2 * y2))) = 1 := by rw [← h, hk]; clear h1 h2 hk h hi a1; grobner
    rw [a1]
    have a3 : d * (x1 * x1 * (y1 * y1)) * (1 + d * (x2 * x2 * (y2 * y2))) = d * (x1 * x1 * (y1 * y1)) + 1 := by
      have : d * (x1 * x1 * (y1 * y1)) * (1 + d * (x2 * x2 * (y2 * y2))) = d * (x1 * x1 * (y1 * y1)) + d * (x1 * x1 * (y1 * y1)) * (d * (x2 * x2 * (y2 * y2))) := by clear h1 h2 hk h hi a1 a2; grobner
      rw [this, a2]
    rw [a3]
    clear h2 hk h hi a1 a2 a3
    grobner
  have ep : (i * x1 + k * y1) * (i * x1 + k * y1) = d * ((x1 * y1 * (i * x2 + y2)) * (x1 * y1 * (i * x2 + y2))) := by
    have l : (i * x1 + k * y1) * (i * x1 + k * y1) = i * i * (x1 * x1) + k * k * (y1 * y1) + 2 * i * x1 * y1 * k := by clear h1 h2 hk h hi e0; grobner
    have r : d * ((x1 * y1 * (i * x2 + y2)) * (x1 * y1 * (i * x2 + y2))) = d * (x1 * x1 * (y1 * y1)) * (i * i * (x2 * x2) + y2 * y2) + 2 * i * x1 * y1 * (d * (x1 * x2 * (y1 * y2))) := by clear h1 h2 hk h hi e0 l; grobner
    rw [l, r, hi, h, ← hk]
    have e1 : d * (x1 * x1 * (y1 * y1)) * (-1 * (x2 * x2) + y2 * y2) = d * (x1 * x1 * (y1 * y1)) * (y2 * y2 - x2 * x2) := by clear h1 h2 hk h hi e0 l r; grobner
    rw [e1, e0]
    clear h1 h2 hk h hi e0 l r e1
    grobner
  have em : (i * x1 - k * y1) * (i * x1 - k * y1) = d * ((x1 * y1 * (i * x2 - y2)) * (x1 * y1 * (i * x2 - y2))) := by
    have l : (i * x1 - k * y1) * (i * x1 - k * y1) = i * i * (x1 * x1) + k * k * (y1 * y1) - 2 * i * x1 * y1 * k := by clear h1 h2 hk h hi e0 ep; grobner
    have r : d * ((x1 * y1 * (i * x2 - y2)) * (x1 * y1 * (i * x2 - y2))) = d * (x1 * x1 * (y1 * y1)) * (i * i * (x2 * x2) + y2 * y2) - 2 * i * x1 * y1 * (d * (x1 * x2 * (y1 * y2))) := by clear h1 h2 hk h hi e0 ep l; grobner
    rw [l, r, hi, h, ← hk]
    have e1 : d * (x1 * x1 * (y1 * y1)) * (-1 * (x2 * x2) + y2 * y2) = d * (x1 * x1 * (y1 * y1)) * (y2 * y2 - x2 * x2) := by clear h1 h2 hk h hi e0 ep l r; grobner
    rw [e1, e0]
    clear h1 h2 hk h hi e0 ep l r e1
    grobner
  have z1 : x1 * y1 * (i * x2 + y2) = 0 := Classical.byContradiction fun hn => dns _ (sq_quot hn ep)
  have z2 : x1 * y1 * (i * x2 - y2) = 0 := Classical.byContradiction fun hn => dns _ (sq_quot hn em)
  have k0 : k = 0 := by
    have : (2 : Fin RE) * k = 0 := by rw [hk]; clear h1 h2 hk h hi e0 ep em; grobner
    rcases Gmul_zero this with h | h
    · exact absurd h g2_ne
    · exact h
  rw [k0] at h
  exact g1_ne (by rw [← h]; grobner)
theorem gden1 {u v : Ep} (hu : onG u) (hv : onG v) : 1 + gk u v ≠ 0 := fun e => by
  refine gcomplete hu hv (k := gk u v) rfl ?_
  generalize gk u v = k at *
  grobner
theorem gden2 {u v : Ep} (hu : onG u) (hv : onG v) : 1 - gk u v ≠ 0 := fun e => by
  refine gcomplete hu hv (k := gk u v) rfl ?_
  generalize gk u v = k at *
  grobner
theorem Gsum_add {u v : Ep} (hu : onG u) (hv : onG v) : Gsum u v (gadd u v) := by
  have h1 := ginv_mul (gden1 hu hv)
  have h2 := ginv_mul (gden2 hu hv)
  unfold Gsum gadd
  dsimp only
  generalize gk u v = k at *
  generalize ginv (1 + k) = i at *
  generalize ginv (1 - k) = j at *
  constructor
  · clear h2; generalize u.1 * v.2 + u.2 * v.1 = n; grobner
  · clear h1; generalize u.2 * v.2 + u.1 * v.1 = n; grobner
theorem Gsum_unique {u v t t' : Ep} (hu : onG u) (hv : onG v) (h : Gsum u v t) (h' : Gsum u v t') : t = t' :=
  Prod.ext (Gcancel (gden1 hu hv) (h.1.trans h'.1.symm)) (Gcancel (gden2 hu hv) (h.2.trans h'.2.symm))
end Ob

namespace Ob
set_option linter.unusedVariables false
set_option linter.unusedSimpArgs false

theorem ge_on {x1 y1 x2 y2 d : Fin RE} (h1 : y1 * y1 = 1 + x1 * x1 + d * (x1 * x1 * (y1 * y1))) (h2 : y2 * y2 = 1 + x2 * x2 + d * (x2 * x2 * (y2 * y2))) :
    (y1 * y2 + x1 * x2) * (y1 * y2 + x1 * x2) * ((1 + d * (x1 * x2 * (y1 * y2))) * (1 + d * (x1 * x2 * (y1 * y2))))
    = ((1 + d * (x1 * x2 * (y1 * y2))) * (1 - d * (x1 * x2 * (y1 * y2)))) * ((1 + d * (x1 * x2 * (y1 * y2))) * (1 - d * (x1 * x2 * (y1 * y2))))
      + (x1 * y2 + y1 * x2) * (x1 * y2 + y1 * x2) * ((1 - d * (x1 * x2 * (y1 * y2))) * (1 - d * (x1 * x2 * (y1 * y2))))
      + d * ((x1 * y2 + y1 * x2) * (x1 * y2 + y1 * x2) * ((y1 * y2 + x1 * x2) * (y1 * y2 + x1 * x2))) := by
  grobner
theorem ge_x {x1 y1 x2 y2 x3 y3 d : Fin RE}
    (h1 : y1 * y1 = 1 + x1 * x1 + d * (x1 * x1 * (y1 * y1))) (h2 : y2 * y2 = 1 + x2 * x2 + d * (x2 * x2 * (y2 * y2))) (h3 : y3 * y3 = 1 + x3 * x3 + d * (x3 * x3 * (y3 * y3))) :
    ((x1 * y2 + y1 * x2) * (1 - d * (x1 * x2 * (y1 * y2))) * y3 + (y1 * y2 + x1 * x2) * (1 + d * (x1 * x2 * (y1 * y2))) * x3) * ((1 + d * (x2 * x3 * (y2 * y3))) * (1 - d * (x2 * x3 * (y2 * y3))) + d * ((x2 * y3 + y2 * x3) * (y2 * y3 + x2 * x3) * x1 * y1))
    = (x1 * (y2 * y3 + x2 * x3) * (1 + d * (x2 * x3 * (y2 * y3))) + y1 * (x2 * y3 + y2 * x3) * (1 - d * (x2 * x3 * (y2 * y3)))) * ((1 + d * (x1 * x2 * (y1 * y2))) * (1 - d * (x1 * x2 * (y1 * y2))) + d * ((x1 * y2 + y1 * x2) * (y1 * y2 + x1 * x2) * x3 * y3)) := by
  grobner
theorem ge_y {x1 y1 x2 y2 x3 y3 d : Fin RE}
    (h1 : y1 * y1 = 1 + x1 * x1 + d * (x1 * x1 * (y1 * y1))) (h2 : y2 * y2 = 1 + x2 * x2 + d * (x2 * x2 * (y2 * y2))) (h3 : y3 * y3 = 1 + x3 * x3 + d * (x3 * x3 * (y3 * y3))) :
    ((y1 * y2 + x1 * x2) * (1 + d * (x1 * x2 * (y1 * y2))) * y3 + (x1 * y2 + y1 * x2) * (1 - d * (x1 * x2 * (y1 * y2))) * x3) * ((1 + d * (x2 * x3 * (y2 * y3))) * (1 - d * (x2 * x3 * (y2 * y3))) - d * ((x2 * y3 + y2 * x3) * (y2 * y3 + x2 * x3) * x1 * y1))
    = (y1 * (y2 * y3 + x2 * x3) * (1 + d * (x2 * x3 * (y2 * y3))) + x1 * (x2 * y3 + y2 * x3) * (1 - d * (x2 * x3 * (y2 * y3)))) * ((1 + d * (x1 * x2 * (y1 * y2))) * (1 - d * (x1 * x2 * (y1 * y2))) - d * ((x1 * y2 + y1 * x2) * (y1 * y2 + x1 * x2) * x3 * y3)) := by
  grobner
end Ob

namespace Ob
set_option linter.unusedVariables false
set_option linter.unusedSimpArgs false

theorem quot_on {t1 t2 a b n1 n2 d : Fin RE} (h1 : t1 * a = n1) (h2 : t2 * b = n2) (ha : a ≠ 0) (hb : b ≠ 0)
    (h : n2 * n2 * (a * a) = (a * b) * (a * b) + n1 * n1 * (b * b) + d * (n1 * n1 * (n2 * n2))) : t2 * t2 = 1 + t1 * t1 + d * (t1 * t1 * (t2 * t2)) := by
  subst h1 h2
  refine Gcancel ha (Gcancel ha (Gcancel hb (Gcancel hb ?_)))
  clear ha hb
  grobner
theorem onG_add {u v : Ep} (hu : onG u) (hv : onG v) : onG (gadd u v) := by
  have h := Gsum_add hu hv
  have e := ge_on hu hv
  exact quot_on h.1 h.2 (gden1 hu hv) (gden2 hu hv) e
theorem onG_zero : onG gzero := by show (1 : Fin RE) * 1 = 1 + 0 * 0 + 439 * (0 * 0 * (1 * 1)); decide +kernel
theorem onG_neg {u : Ep} (hu : onG u) : onG (gneg u) := by
  unfold onG gneg at *
  dsimp only at *
  generalize u.1 = x at *
  generalize u.2 = y at *
  generalize (439 : Fin RE) = d at *
  grobner
theorem gk_comm (u v : Ep) : gk u v = gk v u := by
  unfold gk
  generalize u.1 = a; generalize u.2 = b; generalize v.1 = c; generalize v.2 = e; generalize (439 : Fin RE) = d
  grobner
theorem gadd_comm (u v : Ep) : gadd u v = gadd v u := by
  unfold gadd
  rw [gk_comm u v]
  generalize gk v u = k
  refine Prod.ext ?_ ?_
  · show (u.1 * v.2 + u.2 * v.1) * ginv (1 + k) = (v.1 * u.2 + v.2 * u.1) * ginv (1 + k)
    generalize ginv (1 + k) = i; generalize u.1 = a; generalize u.2 = b; generalize v.1 = c; generalize v.2 = e
    grobner
  · show (u.2 * v.2 + u.1 * v.1) * ginv (1 - k) = (v.2 * u.2 + v.1 * u.1) * ginv (1 - k)
    generalize ginv (1 - k) = i; generalize u.1 = a; generalize u.2 = b; generalize v.1 = c; generalize v.2 = e
    grobner
theorem gadd_zero {u : Ep} (hu : onG u) : gadd u gzero = u := by
  refine Gsum_unique hu onG_zero (Gsum_add hu onG_zero) ?_
  unfold Gsum gk gzero
  dsimp only
  generalize u.1 = a; generalize u.2 = b; generalize (439 : Fin RE) = d
  constructor <;> grobner
theorem zero_gadd {u : Ep} (hu : onG u) : gadd gzero u = u := by rw [gadd_comm]; exact gadd_zero hu
theorem gadd_neg {u : Ep} (hu : onG u) : gadd u (gneg u) = gzero := by
  refine Gsum_unique hu (onG_neg hu) (Gsum_add hu (onG_neg hu)) ?_
  unfold onG at hu
  unfold Gsum gk gzero gneg
  dsimp only
  generalize u.1 = a at *; generalize u.2 = b at *; generalize (439 : Fin RE) = d at *
  constructor
  · clear hu; grobner
  · grobner
/-- One coordinate of a sum of a sum. -/
theorem gnest1 {p1 p2 k n1 n2 w1 w2 t d : Fin RE} (e1 : p1 * (1 + k) = n1) (e2 : p2 * (1 - k) = n2) (h : t * (1 + d * (p1 * w1 * (p2 * w2))) = p1 * w2 + p2 * w1) :
    t * ((1 + k) * (1 - k) + d * (n1 * n2 * w1 * w2)) = n1 * (1 - k) * w2 + n2 * (1 + k) * w1 := by
  subst e1 e2
  have : t * ((1 + k) * (1 - k) + d * (p1 * (1 + k) * (p2 * (1 - k)) * w1 * w2)) = t * (1 + d * (p1 * w1 * (p2 * w2))) * ((1 + k) * (1 - k)) := by clear h; grobner
  rw [this, h]; clear h this; grobner
theorem gnest2 {p1 p2 k n1 n2 w1 w2 t d : Fin RE} (e1 : p1 * (1 + k) = n1) (e2 : p2 * (1 - k) = n2) (h : t * (1 - d * (p1 * w1 * (p2 * w2))) = p2 * w2 + p1 * w1) :
    t * ((1 + k) * (1 - k) - d * (n1 * n2 * w1 * w2)) = n2 * (1 + k) * w2 + n1 * (1 - k) * w1 := by
  subst e1 e2
  have : t * ((1 + k) * (1 - k) - d * (p1 * (1 + k) * (p2 * (1 - k)) * w1 * w2)) = t * (1 - d * (p1 * w1 * (p2 * w2))) * ((1 + k) * (1 - k)) := by clear h; grobner
  rw [this, h]; clear h this; grobner
theorem gnestne1 {p1 p2 k n1 n2 w1 w2 d : Fin RE} (e1 : p1 * (1 + k) = n1) (e2 : p2 * (1 - k) = n2) (h1 : 1 + k ≠ 0) (h2 : 1 - k ≠ 0) (h : 1 + d * (p1 * w1 * (p2 * w2)) ≠ 0) :
    (1 + k) * (1 - k) + d * (n1 * n2 * w1 * w2) ≠ 0 := fun e => by
  subst e1 e2
  have : (1 + k) * ((1 - k) * (1 + d * (p1 * w1 * (p2 * w2)))) = 0 := by rw [← e]; clear e; grobner
  rcases Gmul_zero this with a | a
  · exact h1 a
  rcases Gmul_zero a with a | a
  · exact h2 a
  · exact h a
theorem gnestne2 {p1 p2 k n1 n2 w1 w2 d : Fin RE} (e1 : p1 * (1 + k) = n1) (e2 : p2 * (1 - k) = n2) (h1 : 1 + k ≠ 0) (h2 : 1 - k ≠ 0) (h : 1 - d * (p1 * w1 * (p2 * w2)) ≠ 0) :
    (1 + k) * (1 - k) - d * (n1 * n2 * w1 * w2) ≠ 0 := fun e => by
  subst e1 e2
  have : (1 + k) * ((1 - k) * (1 - d * (p1 * w1 * (p2 * w2)))) = 0 := by rw [← e]; clear e; grobner
  rcases Gmul_zero this with a | a
  · exact h1 a
  rcases Gmul_zero a with a | a
  · exact h2 a
  · exact h a
theorem gcross {t t' D D' N N' : Fin RE} (h : t * D = N) (h' : t' * D' = N') (e : N * D' = N' * D) (hD : D ≠ 0) (hD' : D' ≠ 0) : t = t' := by
  refine Gcancel hD (Gcancel hD' ?_)
  subst h h'
  clear hD hD'
  grobner
theorem gadd_assoc {u v w : Ep} (hu : onG u) (hv : onG v) (hw : onG w) : gadd (gadd u v) w = gadd u (gadd v w) := by
  have hp := onG_add hu hv
  have hq := onG_add hv hw
  have h1 := Gsum_add hu hv
  have h2 := Gsum_add hp hw
  have h3 := Gsum_add hv hw
  have h4 := Gsum_add hq hu
  rw [gadd_comm u (gadd v w)]
  have dp1 := gden1 hp hw; have dp2 := gden2 hp hw; have dq1 := gden1 hq hu; have dq2 := gden2 hq hu
  have du1 := gden1 hu hv; have du2 := gden2 hu hv; have dv1 := gden1 hv hw; have dv2 := gden2 hv hw
  have ex := ge_x hu hv hw
  have ey := ge_y hu hv hw
  generalize gadd (gadd u v) w = t at *
  generalize gadd (gadd v w) u = t' at *
  generalize gadd u v = p at *
  generalize gadd v w = q at *
  obtain ⟨x1, y1⟩ := u; obtain ⟨x2, y2⟩ := v; obtain ⟨x3, y3⟩ := w
  obtain ⟨p1, p2⟩ := p; obtain ⟨q1, q2⟩ := q; obtain ⟨t1, t2⟩ := t; obtain ⟨s1, s2⟩ := t'
  dsimp only [Gsum, onG, gk] at *
  generalize (439 : Fin RE) = d at *
  refine Prod.ext ?_ ?_
  · refine gcross (gnest1 h1.1 h1.2 h2.1) (gnest1 h3.1 h3.2 h4.1) ?_ (gnestne1 h1.1 h1.2 du1 du2 dp1) (gnestne1 h3.1 h3.2 dv1 dv2 dq1)
    clear h1 h2 h3 h4 dp1 dp2 dq1 dq2 du1 du2 dv1 dv2 hu hv hw hp hq ey
    refine (Eq.trans ?_ ex).trans ?_ <;> (clear ex; grobner)
  · refine gcross (gnest2 h1.1 h1.2 h2.2) (gnest2 h3.1 h3.2 h4.2) ?_ (gnestne2 h1.1 h1.2 du1 du2 dp2) (gnestne2 h3.1 h3.2 dv1 dv2 dq2)
    clear h1 h2 h3 h4 dp1 dp2 dq1 dq2 du1 du2 dv1 dv2 hu hv hw hp hq ex
    refine (Eq.trans ?_ ey).trans ?_ <;> (clear ey; grobner)
end Ob

namespace Ob
set_option linter.unusedVariables false
set_option linter.unusedSimpArgs false

def gmul (u : Ep) : Nat → Ep
  | 0 => gzero
  | n + 1 => gadd (gmul u n) u
theorem onG_mul {u : Ep} (hu : onG u) : ∀ n, onG (gmul u n)
  | 0 => onG_zero
  | n + 1 => onG_add (onG_mul hu n) hu
theorem gmul_one {u : Ep} (hu : onG u) : gmul u 1 = u := zero_gadd hu
theorem gmul_add {u : Ep} (hu : onG u) (m : Nat) : ∀ n, gmul u (m + n) = gadd (gmul u m) (gmul u n)
  | 0 => (gadd_zero (onG_mul hu m)).symm
  | n + 1 => by
    show gadd (gmul u (m + n)) u = gadd (gmul u m) (gadd (gmul u n) u)
    rw [gmul_add hu m n, gadd_assoc (onG_mul hu m) (onG_mul hu n) hu]
theorem gmul_zero : ∀ n, gmul gzero n = gzero
  | 0 => rfl
  | n + 1 => by
    show gadd (gmul gzero n) gzero = gzero
    rw [gmul_zero n, gadd_zero onG_zero]
theorem gmul_mul {u : Ep} (hu : onG u) (m : Nat) : ∀ n, gmul (gmul u m) n = gmul u (m * n)
  | 0 => rfl
  | n + 1 => by
    show gadd (gmul (gmul u m) n) (gmul u m) = gmul u (m * n + m)
    rw [gmul_mul hu m n, gmul_add hu]
theorem gmul_two {u : Ep} (hu : onG u) : gmul u 2 = gadd u u := by
  show gadd (gadd gzero u) u = gadd u u
  rw [zero_gadd hu]
theorem gadd_left {a b c : Ep} (ha : onG a) (hb : onG b) (hc : onG c) (h : gadd a b = gadd a c) : b = c := by
  have hn := onG_neg ha
  have e : ∀ q, onG q → gadd (gneg a) (gadd a q) = q := fun q hq => by
    rw [← gadd_assoc hn ha hq, gadd_comm (gneg a) a, gadd_neg ha, zero_gadd hq]
  rw [← e b hb, h, e c hc]
/-- A common divisor's multiple is 0 where both's are. -/
theorem gmul_gcd {u : Ep} (hu : onG u) (m n : Nat) : gmul u m = gzero → gmul u n = gzero → gmul u (Nat.gcd m n) = gzero := by
  induction m, n using Nat.gcd.induction with
  | H0 n => intro _ h; rwa [Nat.gcd_zero_left]
  | H1 m n hm ih =>
    intro h1 h2
    rw [Nat.gcd_rec]
    refine ih ?_ h1
    have e : n = m * (n / m) + n % m := (Nat.div_add_mod n m).symm
    rw [e, gmul_add hu, ← gmul_mul hu, h1, gmul_zero, zero_gadd (onG_mul hu _)] at h2
    have e2 : (m * (n / m) + n % m) % m = n % m := by rw [Nat.mul_add_mod, Nat.mod_mod]
    exact h2

/-! All of them, added up -/
def gsum : List Ep → Ep
  | [] => gzero
  | a :: l => gadd a (gsum l)
theorem onG_sum (l : List Ep) (h : ∀ q ∈ l, onG q) : onG (gsum l) := by
  induction l with
  | nil => exact onG_zero
  | cons a l ih => exact onG_add (h a (by simp)) (ih fun q hq => h q (by simp [hq]))
theorem gsum_perm {l l' : List Ep} (p : l.Perm l') : (∀ q ∈ l, onG q) → gsum l = gsum l' := by
  induction p with
  | nil => intro _; rfl
  | cons a p ih => intro h; show gadd a _ = gadd a _; rw [ih fun q hq => h q (by simp [hq])]
  | swap a b l =>
    intro h
    have ha := h a (by simp); have hb := h b (by simp)
    have hl := onG_sum l fun q hq => h q (by simp [hq])
    show gadd b (gadd a (gsum l)) = gadd a (gadd b (gsum l))
    rw [← gadd_assoc hb ha hl, ← gadd_assoc ha hb hl, gadd_comm a b]
  | trans p1 p2 ih1 ih2 => intro h; rw [ih1 h, ih2 fun q hq => h q (p1.mem_iff.mpr hq)]
theorem gsum_shift {a : Ep} (ha : onG a) (l : List Ep) : (∀ q ∈ l, onG q) → gsum (l.map (gadd a)) = gadd (gmul a l.length) (gsum l) := by
  induction l with
  | nil => intro _; show gzero = gadd gzero gzero; rw [gadd_zero onG_zero]
  | cons b l ih =>
    intro h
    have hb := h b (by simp)
    have hl : ∀ q ∈ l, onG q := fun q hq => h q (by simp [hq])
    have hs := onG_sum l hl
    have hm := onG_mul ha l.length
    show gadd (gadd a b) (gsum (l.map (gadd a))) = gadd (gadd (gmul a l.length) a) (gadd b (gsum l))
    rw [ih hl, ← gadd_assoc (onG_add ha hb) hm hs, ← gadd_assoc (onG_add hm ha) hb hs, gadd_comm (gadd a b) (gmul a l.length), gadd_assoc hm ha hb]
theorem gorder_of (L : List Ep) (nd : L.Nodup) (on : ∀ q, onG q ↔ q ∈ L) {a : Ep} (ha : onG a) : gmul a L.length = gzero := by
  have hL : ∀ q ∈ L, onG q := fun q hq => (on q).mpr hq
  have nd' : (L.map (gadd a)).Nodup := by
    rw [List.Nodup, List.pairwise_map]
    refine List.Pairwise.imp_of_mem ?_ nd
    intro b c hb hc hbc e
    exact hbc (gadd_left ha (hL b hb) (hL c hc) e)
  have p : (L.map (gadd a)).Perm L := by
    rw [List.perm_ext_iff_of_nodup nd' nd]
    intro q
    rw [List.mem_map]
    constructor
    · rintro ⟨b, hb, rfl⟩
      exact (on _).mp (onG_add ha (hL b hb))
    · intro hq
      have hn := onG_neg ha
      refine ⟨gadd (gneg a) q, (on _).mp (onG_add hn (hL q hq)), ?_⟩
      rw [← gadd_assoc ha hn (hL q hq), gadd_neg ha, zero_gadd (hL q hq)]
  have hs := onG_sum L hL
  have e := gsum_perm p fun q hq => hL q (p.mem_iff.mp hq)
  rw [gsum_shift ha L hL] at e
  refine gadd_left hs (onG_mul ha _) onG_zero ?_
  rw [gadd_comm (gsum L) (gmul a L.length), e, gadd_zero hs]

/-! A list of all, of at most 2 R -/
theorem roots_of (y : Fin RE) : ∃ l : List (Fin RE), l.length ≤ 2 ∧ l.Nodup ∧ ∀ x, onG (x, y) ↔ x ∈ l := by
  by_cases h : ∃ x, onG (x, y)
  · obtain ⟨x, hx⟩ := h
    have two : ∀ x', onG (x', y) → x' = x ∨ x' = 0 - x := fun x' hx' => by
      have hd : 1 + 439 * (y * y) ≠ 0 := fun e => by
        have hi := gi_sq
        -- -1 is a square, 439 isn't: y y 439 = -1
        by_cases hy : y = 0
        · subst hy
          exact g1_ne (by rw [← e]; decide +kernel)
        · have e2 : gi * gi = 439 * (y * y) := by rw [hi]; generalize (439 : Fin RE) * (y * y) = q at e; clear hx hx' hi; grobner
          exact d_nosq _ (sq_quot hy e2)
      have e : (x' - x) * (x' + x) = 0 := by
        have : (x' - x) * (x' + x) * (1 + 439 * (y * y)) = 0 * (1 + 439 * (y * y)) := by
          unfold onG at hx hx'
          dsimp only at hx hx'
          generalize (439 : Fin RE) = d at *
          clear hd
          grobner
        exact Gcancel hd this
      rcases Gmul_zero e with h | h
      · left; clear hx hx' e hd; grobner
      · right; clear hx hx' e hd; grobner
    have neg : onG (0 - x, y) := onG_neg (u := (x, y)) hx
    by_cases h0 : 0 - x = x
    · refine ⟨[x], by simp, by simp, fun x' => ⟨fun h => ?_, fun h => ?_⟩⟩
      · rcases two x' h with h | h
        · simp [h]
        · rw [h0] at h; simp [h]
      · simp at h; rw [h]; exact hx
    · refine ⟨[x, 0 - x], by simp, ?_, fun x' => ⟨fun h => ?_, fun h => ?_⟩⟩
      · simp only [List.nodup_cons, List.mem_singleton, List.not_mem_nil, not_false_eq_true, List.nodup_nil, and_true]
        exact fun e => h0 e.symm
      · rcases two x' h with h | h
        · rw [h]; exact List.mem_cons_self
        · rw [h]; exact List.mem_cons_of_mem _ List.mem_cons_self
      · rcases List.mem_cons.1 h with h | h
        · rw [h]; exact hx
        · rw [List.mem_singleton.1 h]; exact neg
  · exact ⟨[], by simp, by simp, fun x => ⟨fun hx => absurd ⟨x, hx⟩ h, fun hx => by cases hx⟩⟩
theorem len_flat {α β : Type} (f : α → List β) (hf : ∀ a, (f a).length ≤ 2) : ∀ l : List α, (l.flatMap f).length ≤ 2 * l.length
  | [] => by simp
  | a :: l => by
    rw [List.flatMap_cons, List.length_append, List.length_cons]
    have := hf a
    have := len_flat f hf l
    omega
theorem all_points : ∃ L : List Ep, L.Nodup ∧ (∀ q, onG q ↔ q ∈ L) ∧ L.length ≤ 2 * RE := by
  have hr := fun y => roots_of y
  let r : Fin RE → List (Fin RE) := fun y => Classical.choose (hr y)
  have h1 : ∀ y, (r y).length ≤ 2 := fun y => (Classical.choose_spec (hr y)).1
  have h2 : ∀ y, (r y).Nodup := fun y => (Classical.choose_spec (hr y)).2.1
  have h3 : ∀ y x, onG (x, y) ↔ x ∈ r y := fun y => (Classical.choose_spec (hr y)).2.2
  clear_value r
  refine ⟨(List.finRange RE).flatMap fun y => (r y).map fun x => (x, y), ?_, ?_, ?_⟩
  · rw [List.Nodup, List.pairwise_flatMap]
    refine ⟨fun y _ => ?_, ?_⟩
    · rw [List.pairwise_map]
      exact List.Pairwise.imp (fun hab e => hab (congrArg Prod.fst e)) (h2 y)
    · refine List.Pairwise.imp ?_ (List.nodup_finRange RE)
      intro y y' hy p hp q hq e
      obtain ⟨a, _, rfl⟩ := List.mem_map.1 hp
      obtain ⟨b, _, rfl⟩ := List.mem_map.1 hq
      exact hy (congrArg Prod.snd e)
  · rintro ⟨x, y⟩
    rw [h3, List.mem_flatMap]
    constructor
    · intro h
      exact ⟨y, List.mem_finRange y, List.mem_map.2 ⟨x, h, rfl⟩⟩
    · rintro ⟨y', _, h⟩
      obtain ⟨a, ha, e⟩ := List.mem_map.1 h
      cases e
      exact ha
  · have := len_flat (fun y => (r y).map fun x => (x, y)) (fun y => by rw [List.length_map]; exact h1 y) (List.finRange RE)
    rwa [List.length_finRange] at this
end Ob

namespace Ob
set_option linter.unusedVariables false
set_option linter.unusedSimpArgs false

theorem modRE : Mod RE := ⟨by decide, by decide⟩
/-- The rest of a number by R. -/
def toG (n : Nat) : Fin RE := Fin.ofNat RE n
theorem toG_val (n : Nat) : (toG n).val = n % RE := rfl
theorem toG_of_val (x : Fin RE) : toG x.val = x := Fin.ext (Nat.mod_eq_of_lt x.isLt)
theorem G_word (x : Fin RE) : x.val < 18446744073709551616 := Nat.lt_trans x.isLt (by decide)
theorem addG (a b : Nat) : add RE a b = (toG a + toG b).val := by
  rw [add_yes modRE, Fin.val_add, toG_val, toG_val, ← Nat.add_mod]
theorem mulG (a b : Nat) : mul RE a b = (toG a * toG b).val := by
  rw [mul_yes modRE, Fin.val_mul, toG_val, toG_val, ← Nat.mul_mod]
theorem subG (a b : Nat) : sub RE a b = (toG a - toG b).val := by
  rw [sub_yes modRE, Fin.val_sub, toG_val, toG_val, Nat.add_comm]
theorem powG (b e : Nat) (he : e = RE - 2) : pow RE b e = (ginv (toG b)).val := by
  rw [pow_yes modRE, ginv_val, toG_val, ← he, ← Nat.pow_mod]
theorem toG_1 : toG 1 = 1 := rfl
theorem toG_439 : toG 439 = 439 := rfl
theorem toG_neg (b : Nat) : toG (RE - b % RE) = 0 - toG b := by
  apply Fin.ext
  rw [Fin.val_sub, toG_val, toG_val]
  rfl
/-- Whether a pair of numbers is a point. -/
def isG (x y : Nat) : Bool := decide (x < RE) && decide (y < RE) && decide (toG y * toG y = toG x * toG x + (1 + 439 * (toG x * toG x * (toG y * toG y))))
theorem isG_on {x y : Nat} (h : isG x y = true) : x = (toG x).val ∧ y = (toG y).val ∧ onG (toG x, toG y) := by
  simp only [isG, Bool.and_eq_true, decide_eq_true_eq] at h
  obtain ⟨⟨h1, h2⟩, h3⟩ := h
  refine ⟨(Nat.mod_eq_of_lt h1).symm, (Nat.mod_eq_of_lt h2).symm, ?_⟩
  show toG y * toG y = 1 + toG x * toG x + 439 * (toG x * toG x * (toG y * toG y))
  generalize toG x = a at *; generalize toG y = b at *
  grobner
theorem on_isG {u : Ep} (h : onG u) : isG u.1.val u.2.val = true := by
  obtain ⟨x, y⟩ := u
  simp only [isG, Bool.and_eq_true, decide_eq_true_eq, toG_of_val]
  refine ⟨⟨x.isLt, y.isLt⟩, ?_⟩
  have h' : y * y = 1 + x * x + 439 * (x * x * (y * y)) := h
  grobner
/-- What a pair of numbers counts as. -/
def ofG (x y : Nat) : Ep := if isG x y = true then (toG x, toG y) else gzero
theorem ofG_on (x y : Nat) : onG (ofG x y) := by
  by_cases h : isG x y = true
  · rw [ofG, if_pos h]; exact (isG_on h).2.2
  · rw [ofG, if_neg h]; exact onG_zero
theorem ofG_yes {x y : Nat} (h : isG x y = true) : x = (ofG x y).1.val ∧ y = (ofG x y).2.val := by
  rw [ofG, if_pos h]; exact ⟨(isG_on h).1, (isG_on h).2.1⟩
theorem ofG_no {x y : Nat} (h : isG x y = false) : ofG x y = gzero := by
  rw [ofG, if_neg (by rw [h]; decide)]
theorem ofG_val {u : Ep} (h : onG u) : ofG u.1.val u.2.val = u := by
  rw [ofG, if_pos (on_isG h), toG_of_val, toG_of_val]
end Ob

namespace Go.Proofs.Ytdbolfmmlmoiaaa
open Go.RowKit Go.Proofs
set_option linter.unusedVariables false
set_option linter.unusedSimpArgs false

/-- A list of terms: where it lies, how long it is, its room; its variables and their factors. -/
structure Lst where
  ad : Option Addr
  n : Nat
  c : Nat
  V : Nat → Int
  K : Nat → Nat
/-- The list as a value. -/
def Lst.val (L : Lst) : Value := .slice L.ad L.n L.c
/-- n terms, from a place on. -/
structure TrmsIn (w : World) (b off n : Nat) (V : Nat → Int) (K : Nat → Nat) : Prop where
  lt : b < w.heap.size
  c0 : ∀ i, i < n → w.cell? ⟨b, off + i * 2, none⟩ = some (.int .i64 (V i))
  c1 : ∀ i, i < n → w.cell? ⟨b, off + i * 2 + 1, none⟩ = some (.int .u64 (K i : Nat))
theorem TrmsIn.below {w w1 : World} {B b off n : Nat} {V : Nat → Int} {K : Nat → Nat} (t : TrmsIn w b off n V K) (hb : Below B w w1) (h : b < B) : TrmsIn w1 b off n V K :=
  ⟨Nat.lt_of_lt_of_le t.lt hb.size, fun i hi => by rw [(bcell hb).1 b _ h]; exact t.c0 i hi, fun i hi => by rw [(bcell hb).1 b _ h]; exact t.c1 i hi⟩
/-- A slice of n terms that lies below block B, or has none. -/
def TrmsAt (B : Nat) (w : World) (a : Option Addr) (n : Nat) (V : Nat → Int) (K : Nat → Nat) : Prop := n = 0 ∨ ∃ b off : Nat, a = some ⟨b, off, none⟩ ∧ b < B ∧ TrmsIn w b off n V K
theorem TrmsAt.below {B : Nat} {w w1 : World} {a : Option Addr} {n : Nat} {V : Nat → Int} {K : Nat → Nat} (t : TrmsAt B w a n V K) (hb : Below B w w1) : TrmsAt B w1 a n V K := by
  rcases t with h | ⟨b, off, rfl, hl, t⟩
  · exact Or.inl h
  · exact Or.inr ⟨b, off, rfl, hl, t.below hb hl⟩
theorem TrmsAt.mono {B C : Nat} {w : World} {a : Option Addr} {n : Nat} {V : Nat → Int} {K : Nat → Nat} (t : TrmsAt B w a n V K) (hc : B ≤ C) : TrmsAt C w a n V K := by
  rcases t with h | ⟨b, off, rfl, hl, t⟩
  · exact Or.inl h
  · exact Or.inr ⟨b, off, rfl, by omega, t⟩
theorem TrmsAt.to {B : Nat} {w w1 : World} {a : Option Addr} {n : Nat} {V : Nat → Int} {K : Nat → Nat} (t : TrmsAt B w a n V K) (hb : Below B w w1) (hB : B ≤ w.heap.size) : TrmsAt w1.heap.size w1 a n V K := (t.below hb).mono (Nat.le_trans hB hb.size)
/-- A list lies in memory, below block B. -/
def Lst.At (L : Lst) (B : Nat) (w : World) : Prop := TrmsAt B w L.ad L.n L.V L.K
/-- Its numbers are words, its variables integers of 64 bits. -/
structure Lst.Ok (L : Lst) : Prop where
  V1 : ∀ i, -9223372036854775808 ≤ L.V i
  V2 : ∀ i, L.V i < 9223372036854775808
  K1 : ∀ i, L.K i < 18446744073709551616
  n1 : L.n ≤ L.c
  n2 : L.c ≤ 9223372036854775807
/-- m rows of three lists each. -/
structure RowsIn (B : Nat) (w : World) (b off m : Nat) (R : Nat → Nat → Lst) : Prop where
  lt : b < B
  cell : ∀ i, i < m → ∀ j, j < 3 → w.cell? ⟨b, off + i * 3 + j, none⟩ = some (R i j).val
  at_ : ∀ i, i < m → ∀ j, j < 3 → (R i j).At B w
/-- A slice of rows that lies below block B, or has none. -/
def RowsAt (B : Nat) (w : World) (a : Option Addr) (m : Nat) (R : Nat → Nat → Lst) : Prop := m = 0 ∨ ∃ b off : Nat, a = some ⟨b, off, none⟩ ∧ RowsIn B w b off m R
theorem RowsIn.below {B : Nat} {w w1 : World} {b off m : Nat} {R : Nat → Nat → Lst} (t : RowsIn B w b off m R) (hb : Below B w w1) : RowsIn B w1 b off m R :=
  ⟨t.lt, fun i hi j hj => by rw [(bcell hb).1 b _ t.lt]; exact t.cell i hi j hj, fun i hi j hj => TrmsAt.below (t.at_ i hi j hj) hb⟩
theorem RowsIn.mono {B C : Nat} {w : World} {b off m : Nat} {R : Nat → Nat → Lst} (t : RowsIn B w b off m R) (hc : B ≤ C) : RowsIn C w b off m R :=
  ⟨Nat.lt_of_lt_of_le t.lt hc, t.cell, fun i hi j hj => TrmsAt.mono (t.at_ i hi j hj) hc⟩
theorem RowsAt.below {B : Nat} {w w1 : World} {a : Option Addr} {m : Nat} {R : Nat → Nat → Lst} (t : RowsAt B w a m R) (hb : Below B w w1) : RowsAt B w1 a m R := by
  rcases t with h | ⟨b, off, rfl, t⟩
  · exact Or.inl h
  · exact Or.inr ⟨b, off, rfl, t.below hb⟩
theorem RowsAt.mono {B C : Nat} {w : World} {a : Option Addr} {m : Nat} {R : Nat → Nat → Lst} (t : RowsAt B w a m R) (hc : B ≤ C) : RowsAt C w a m R := by
  rcases t with h | ⟨b, off, rfl, t⟩
  · exact Or.inl h
  · exact Or.inr ⟨b, off, rfl, t.mono hc⟩
theorem RowsAt.to {B : Nat} {w w1 : World} {a : Option Addr} {m : Nat} {R : Nat → Nat → Lst} (t : RowsAt B w a m R) (hb : Below B w w1) (hB : B ≤ w.heap.size) : RowsAt w1.heap.size w1 a m R := (t.below hb).mono (Nat.le_trans hB hb.size)
/-- A system of rows as a value. -/
def rankV (vars pubs : Int) (a : Option Addr) (m c : Nat) : Value := .agg #[.int .i64 vars, .int .i64 pubs, .slice a m c]

/-! ### What the document says of them -/
/-- The variable ahead of a list's i-th. -/
def prevV (L : Lst) : Nat → Int
  | 0 => -1
  | i + 1 => L.V i
/-- Is the i-th term of a list one of a sound list? -/
def okT (vars : Int) (L : Lst) (i : Nat) : Bool := decide (prevV L i < L.V i ∧ L.V i < vars ∧ L.K i ≠ 0 ∧ L.K i < 288230376287764481)
/-- Are the first n terms? -/
def soundN (vars : Int) (L : Lst) : Nat → Bool
  | 0 => true
  | n + 1 => soundN vars L n && okT vars L n
def soundB (vars : Int) (L : Lst) : Bool := soundN vars L L.n
/-- A term that isn't one of a sound list spoils it. -/
theorem soundN_not {vars : Int} {L : Lst} {n : Nat} (h : okT vars L n = false) : ∀ {m : Nat}, n < m → soundN vars L m = false
  | m + 1, hm => by
    show (soundN vars L m && okT vars L m) = false
    rcases Nat.lt_or_ge n m with h2 | h2
    · rw [soundN_not h h2]; rfl
    · obtain rfl : n = m := by omega
      rw [h, Bool.and_false]
/-- Are the first i rows sound? -/
def soundR (vars : Int) (R : Nat → Nat → Lst) : Nat → Bool
  | 0 => true
  | i + 1 => soundR vars R i && (soundB vars (R i 0) && (soundB vars (R i 1) && soundB vars (R i 2)))
theorem soundR_not {vars : Int} {R : Nat → Nat → Lst} {n : Nat} (h : (soundB vars (R n 0) && (soundB vars (R n 1) && soundB vars (R n 2))) = false) : ∀ {m : Nat}, n < m → soundR vars R m = false
  | m + 1, hm => by
    show (soundR vars R m && _) = false
    rcases Nat.lt_or_ge n m with h2 | h2
    · rw [soundR_not h h2]; rfl
    · obtain rfl : n = m := by omega
      rw [h, Bool.and_false]
/-- Is a system's frame right, and is it sound? -/
def frameB (vars pubs : Int) (m : Nat) : Bool := decide (1 ≤ vars ∧ vars ≤ 4096 ∧ 0 ≤ pubs ∧ pubs ≤ vars - 1 ∧ m ≤ 4096)
def checkB (vars pubs : Int) (m : Nat) (R : Nat → Nat → Lst) : Bool := frameB vars pubs m && soundR vars R m
/-- A term's value by n values. -/
def termG (L : Lst) (n : Nat) (x : Nat → Nat) (i : Nat) : Fin Ob.RE := if 0 ≤ L.V i ∧ L.V i < (n : Int) then Ob.toG (L.K i) * Ob.toG (x (L.V i).toNat) else 0
/-- The value of a list's first k terms. -/
def valN (L : Lst) (n : Nat) (x : Nat → Nat) : Nat → Fin Ob.RE
  | 0 => 0
  | k + 1 => valN L n x k + termG L n x k
def valL (L : Lst) (n : Nat) (x : Nat → Nat) : Fin Ob.RE := valN L n x L.n
end Go.Proofs.Ytdbolfmmlmoiaaa

namespace Go.Proofs.Ytdbolfmmlmoiaaa
open Go.RowKit Go.Proofs
set_option linter.unusedVariables false
set_option linter.unusedSimpArgs false

/-- All factors of a variable together, of a list's first i terms. -/
def ksumN (L : Lst) (v : Int) : Nat → Fin Ob.RE
  | 0 => 0
  | i + 1 => ksumN L v i + (if L.V i = v then Ob.toG (L.K i) else 0)
def ksum (L : Lst) (v : Int) : Fin Ob.RE := ksumN L v L.n
/-- The first n values of f together. -/
def sumV (f : Nat → Fin Ob.RE) : Nat → Fin Ob.RE
  | 0 => 0
  | n + 1 => sumV f n + f n
theorem sumV_congr {f g : Nat → Fin Ob.RE} : ∀ {n : Nat}, (∀ i, i < n → f i = g i) → sumV f n = sumV g n
  | 0, _ => rfl
  | n + 1, h => by show sumV f n + f n = sumV g n + g n; rw [sumV_congr fun i hi => h i (by omega), h n (by omega)]
theorem sumV_add (f g : Nat → Fin Ob.RE) : ∀ n, sumV (fun i => f i + g i) n = sumV f n + sumV g n
  | 0 => by show (0 : Fin Ob.RE) = 0 + 0; grobner
  | n + 1 => by
    show sumV (fun i => f i + g i) n + (f n + g n) = sumV f n + f n + (sumV g n + g n)
    rw [sumV_add f g n]
    generalize sumV f n = a
    generalize sumV g n = b
    generalize f n = c
    generalize g n = d
    grobner
theorem sumV_zero : ∀ n, sumV (fun _ => (0 : Fin Ob.RE)) n = 0
  | 0 => rfl
  | n + 1 => by show sumV (fun _ => (0 : Fin Ob.RE)) n + 0 = 0; rw [sumV_zero n]; grobner
/-- Just one of them isn't 0. -/
theorem sumV_one (a : Fin Ob.RE) (v : Int) : ∀ n : Nat, sumV (fun i => if v = (i : Int) then a else 0) n = if 0 ≤ v ∧ v < (n : Int) then a else 0
  | 0 => by rw [if_neg (by omega)]; rfl
  | n + 1 => by
    show sumV (fun i => if v = (i : Int) then a else 0) n + (if v = (n : Int) then a else 0) = _
    rw [sumV_one a v n]
    by_cases h1 : v = (n : Int)
    · rw [if_neg (by omega), if_pos h1, if_pos (by omega)]; grobner
    · by_cases h2 : 0 ≤ v ∧ v < (n : Int)
      · rw [if_pos h2, if_neg h1, if_pos (by omega)]; grobner
      · rw [if_neg h2, if_neg h1, if_neg (by omega)]; grobner
/-- A list's value, variable by variable. -/
theorem valN_ksum (L : Lst) (n : Nat) (x : Nat → Nat) : ∀ k, valN L n x k = sumV (fun v => ksumN L v k * Ob.toG (x v)) n
  | 0 => by
    show (0 : Fin Ob.RE) = sumV (fun v => 0 * Ob.toG (x v)) n
    rw [sumV_congr (g := fun _ => 0) fun i _ => ?_, sumV_zero]
    generalize Ob.toG (x i) = t
    grobner
  | k + 1 => by
    show valN L n x k + termG L n x k = sumV (fun v => (ksumN L v k + (if L.V k = (v : Int) then Ob.toG (L.K k) else 0)) * Ob.toG (x v)) n
    have e : sumV (fun v => (ksumN L v k + (if L.V k = (v : Int) then Ob.toG (L.K k) else 0)) * Ob.toG (x v)) n = sumV (fun v => ksumN L v k * Ob.toG (x v)) n + sumV (fun v => if L.V k = (v : Int) then Ob.toG (L.K k) * Ob.toG (x (L.V k).toNat) else 0) n := by
      rw [← sumV_add]
      refine sumV_congr fun v _ => ?_
      by_cases h : L.V k = (v : Int)
      · rw [if_pos h, if_pos h, h, Int.toNat_natCast]
        generalize ksumN L (v : Int) k = a
        generalize Ob.toG (L.K k) = b
        generalize Ob.toG (x v) = c
        grobner
      · rw [if_neg h, if_neg h]
        generalize ksumN L (v : Int) k = a
        generalize Ob.toG (x v) = c
        grobner
    rw [e, valN_ksum L n x k, sumV_one]
    rfl
theorem valL_ksum (L : Lst) (n : Nat) (x : Nat → Nat) : valL L n x = sumV (fun v => ksum L v * Ob.toG (x v)) n := valN_ksum L n x L.n
/-- Two lists whose factors are the same together have one value. -/
theorem valL_of {L O : Lst} (h : ∀ v : Int, 0 ≤ v → ksum O v = ksum L v) (n : Nat) (x : Nat → Nat) : valL O n x = valL L n x := by
  rw [valL_ksum, valL_ksum]
  exact sumV_congr fun v _ => by rw [h v (by omega)]

/-- What makes a list the sum of another. -/
structure IsSum (L O : Lst) : Prop where
  pos : ∀ i, i < O.n → 0 ≤ O.V i
  rise : ∀ i j, i < j → j < O.n → O.V i < O.V j
  nz : ∀ i, i < O.n → O.K i ≠ 0 ∧ O.K i < 288230376287764481
  coef : ∀ i, i < O.n → Ob.toG (O.K i) = ksum L (O.V i)
  all : ∀ v : Int, 0 ≤ v → ksum L v ≠ 0 → ∃ i, i < O.n ∧ O.V i = v
theorem toG_ne {k : Nat} (h : k ≠ 0 ∧ k < 288230376287764481) : Ob.toG k ≠ 0 := fun e => by
  have : (Ob.toG k).val = 0 := by rw [e]; rfl
  rw [Ob.toG_val] at this
  exact h.1 ((Nat.mod_eq_of_lt (show k < Ob.RE from h.2)).symm.trans this)
theorem toG_inj {a b : Nat} (ha : a < 288230376287764481) (hb : b < 288230376287764481) (h : Ob.toG a = Ob.toG b) : a = b := by
  have : (Ob.toG a).val = (Ob.toG b).val := by rw [h]
  rw [Ob.toG_val, Ob.toG_val] at this
  rwa [Nat.mod_eq_of_lt (show a < Ob.RE from ha), Nat.mod_eq_of_lt (show b < Ob.RE from hb)] at this
theorem IsSum.inj {L O : Lst} (h : IsSum L O) {i j : Nat} (hi : i < O.n) (hj : j < O.n) (e : O.V i = O.V j) : i = j := by
  rcases Nat.lt_trichotomy i j with h1 | h1 | h1
  · have := h.rise i j h1 hj; omega
  · exact h1
  · have := h.rise j i h1 hi; omega
theorem IsSum.le {L O : Lst} (h : IsSum L O) {i j : Nat} (hij : i ≤ j) (hj : j < O.n) : O.V i ≤ O.V j := by
  rcases Nat.lt_or_ge i j with h1 | h1
  · have := h.rise i j h1 hj; omega
  · obtain rfl : i = j := by omega
    exact Int.le_refl _
/-- The place of a sum's variable in another sum of the same list isn't ahead of its own. -/
theorem IsSum.place {L O P : Lst} (h : IsSum L O) (k : IsSum L P) (i : Nat) (hi : i < O.n) (ih : ∀ j, j < i → j < P.n ∧ O.V j = P.V j) : ∃ j, i ≤ j ∧ j < P.n ∧ P.V j = O.V i := by
  obtain ⟨j, hj, e⟩ := k.all (O.V i) (h.pos i hi) (by rw [← h.coef i hi]; exact toG_ne (h.nz i hi))
  rcases Nat.lt_or_ge j i with h1 | h1
  · have h2 := h.rise j i h1 hi
    have h3 := (ih j h1).2
    omega
  · exact ⟨j, h1, hj, e⟩
theorem IsSum.same_at {L O P : Lst} (h : IsSum L O) (k : IsSum L P) : ∀ i, (i < O.n ∨ i < P.n) → i < O.n ∧ i < P.n ∧ O.V i = P.V i := by
  intro i
  induction i using Nat.strongRecOn with
  | _ i ih =>
    intro hi
    have key : ∀ {O P : Lst}, IsSum L O → IsSum L P → (∀ j, j < i → (j < O.n ∨ j < P.n) → j < O.n ∧ j < P.n ∧ O.V j = P.V j) → i < O.n → i < P.n ∧ P.V i ≤ O.V i := by
      intro O P h k ih hi
      obtain ⟨j, h1, h2, h3⟩ := h.place k i hi fun j hj => (ih j hj (Or.inl (by omega))).2
      exact ⟨by omega, by rw [← h3]; exact k.le h1 h2⟩
    have ih' : ∀ j, j < i → (j < P.n ∨ j < O.n) → j < P.n ∧ j < O.n ∧ P.V j = O.V j := fun j hj hh => by
      obtain ⟨a, b, c⟩ := ih j hj (hh.symm)
      exact ⟨b, a, c.symm⟩
    rcases hi with hi | hi
    · obtain ⟨h1, h2⟩ := key h k ih hi
      obtain ⟨_, h4⟩ := key k h ih' h1
      exact ⟨hi, h1, by omega⟩
    · obtain ⟨h1, h2⟩ := key k h ih' hi
      obtain ⟨_, h4⟩ := key h k ih h1
      exact ⟨h1, hi, by omega⟩
/-- There is just one sum of a list. -/
theorem IsSum.one {L O P : Lst} (h : IsSum L O) (k : IsSum L P) : O.n = P.n ∧ ∀ i, i < O.n → O.V i = P.V i ∧ O.K i = P.K i := by
  have hn : O.n = P.n := by
    rcases Nat.lt_trichotomy O.n P.n with h1 | h1 | h1
    · have := (h.same_at k O.n (Or.inr h1)).1; omega
    · exact h1
    · have := (h.same_at k P.n (Or.inl h1)).2.1; omega
  refine ⟨hn, fun i hi => ?_⟩
  obtain ⟨_, h2, h3⟩ := h.same_at k i (Or.inl hi)
  refine ⟨h3, toG_inj (h.nz i hi).2 (k.nz i h2).2 ?_⟩
  rw [h.coef i hi, k.coef i h2, h3]
theorem ksumN_off {O : Lst} {v : Int} : ∀ {k : Nat}, (∀ i, i < k → O.V i ≠ v) → ksumN O v k = 0
  | 0, _ => rfl
  | k + 1, h => by
    show ksumN O v k + (if O.V k = v then Ob.toG (O.K k) else 0) = 0
    rw [ksumN_off fun i hi => h i (by omega), if_neg (h k (by omega))]
    grobner
theorem ksumN_on {O : Lst} {v : Int} {i : Nat} (hv : O.V i = v) : ∀ {k : Nat}, i < k → (∀ j, j < k → O.V j = v → j = i) → ksumN O v k = Ob.toG (O.K i)
  | k + 1, hi, h => by
    show ksumN O v k + (if O.V k = v then Ob.toG (O.K k) else 0) = _
    rcases Nat.lt_or_ge i k with h1 | h1
    · rw [ksumN_on hv h1 fun j hj => h j (by omega), if_neg fun e => by have := h k (by omega) e; omega]
      generalize Ob.toG (O.K i) = t
      grobner
    · obtain rfl : i = k := by omega
      rw [ksumN_off fun j hj e => by have := h j (by omega) e; omega, if_pos hv]
      generalize Ob.toG (O.K i) = t
      grobner
theorem IsSum.ksum {L O : Lst} (h : IsSum L O) (v : Int) (hv : 0 ≤ v) : ksum O v = ksum L v := by
  by_cases hz : Go.Proofs.Ytdbolfmmlmoiaaa.ksum L v = 0
  · rw [hz]
    refine ksumN_off fun i hi e => ?_
    have := h.coef i hi
    rw [e, hz] at this
    exact toG_ne (h.nz i hi) this
  · obtain ⟨i, hi, e⟩ := h.all v hv hz
    show ksumN O v O.n = _
    rw [ksumN_on e hi fun j hj ej => h.inj hj hi (ej.trans e.symm), h.coef i hi, e]
/-- A sum has its list's value. -/
theorem IsSum.val {L O : Lst} (h : IsSum L O) (n : Nat) (x : Nat → Nat) : valL O n x = valL L n x := valL_of (fun v hv => h.ksum v hv) n x
end Go.Proofs.Ytdbolfmmlmoiaaa

namespace Ob
set_option linter.unusedVariables false
set_option linter.unusedSimpArgs false

def cubG (x : Fin RE) : Fin RE := x * (x * x)
/-- The number whose cube it is. -/
def thirdG (x : Fin RE) : Fin RE := gpow x 192153584191842987
theorem gpow_zero_pos : ∀ n, 0 < n → gpow (0 : Fin RE) n = 0
  | 0, h => by omega
  | n + 1, _ => by show gpow 0 n * 0 = 0; generalize gpow (0 : Fin RE) n = t; grobner
theorem gpow_mul3 (x : Fin RE) (n : Nat) : gpow x n * (gpow x n * gpow x n) = gpow x (n + (n + n)) := by
  rw [gpow_add, gpow_add]
theorem gpow_cub (x : Fin RE) (n : Nat) : gpow (cubG x) n = gpow x n * (gpow x n * gpow x n) := by
  induction n with
  | zero => show (1 : Fin RE) = 1 * (1 * 1); grobner
  | succ n ih =>
    show gpow (cubG x) n * cubG x = gpow x n * x * (gpow x n * x * (gpow x n * x))
    rw [ih]; unfold cubG; generalize gpow x n = t; grobner
theorem third_pow (x : Fin RE) {E : Nat} (hE : E = (RE - 1) + ((RE - 1) + 1)) : gpow x E = x := by
  by_cases h : x = 0
  · subst h; exact gpow_zero_pos E (by rw [hE]; omega)
  · have hf := fermatG x h
    rw [hE, gpow_add, gpow_add, hf]
    show (1 : Fin RE) * (1 * (gpow x 0 * x)) = x
    show (1 : Fin RE) * (1 * (1 * x)) = x
    grobner
theorem cub_third (x : Fin RE) : cubG (thirdG x) = x := by
  show thirdG x * (thirdG x * thirdG x) = x
  unfold thirdG
  rw [gpow_mul3]
  exact third_pow x (by decide)
theorem third_cub (x : Fin RE) : thirdG (cubG x) = x := by
  unfold thirdG
  rw [gpow_cub, gpow_mul3]
  exact third_pow x (by decide)
theorem cub_inj {x y : Fin RE} (h : cubG x = cubG y) : x = y := by
  rw [← third_cub x, ← third_cub y, h]
theorem third_of (a E : Nat) (hE : E = 192153584191842987) : pow RE a E = (thirdG (toG a)).val := by
  have h : (thirdG (toG a)).val = (toG a).val ^ E % RE := by
    unfold thirdG
    rw [← hE]
    exact gpow_val _ E
  rw [h, toG_val, ← Nat.pow_mod, pow_yes modRE]
attribute [irreducible] thirdG
/-- A round, and its undoing. -/
def rndG (k c x : Fin RE) : Fin RE := cubG (x + (k + c))
def unrG (k c y : Fin RE) : Fin RE := thirdG y - (k + c)
theorem unr_rnd (k c x : Fin RE) : unrG k c (rndG k c x) = x := by
  unfold unrG rndG
  rw [third_cub]
  grobner
theorem rnd_unr (k c y : Fin RE) : rndG k c (unrG k c y) = y := by
  unfold unrG rndG
  have : thirdG y - (k + c) + (k + c) = thirdG y := by generalize thirdG y = t; grobner
  rw [this, cub_third]
/-- Turned by a key, and back. -/
def turnG (k x : Fin RE) : Fin RE := rndG k 343 (rndG k 49 (rndG k 7 x)) + k
def backG (k y : Fin RE) : Fin RE := unrG k 7 (unrG k 49 (unrG k 343 (y - k)))
theorem back_turn (k x : Fin RE) : backG k (turnG k x) = x := by
  unfold backG turnG
  have : rndG k 343 (rndG k 49 (rndG k 7 x)) + k - k = rndG k 343 (rndG k 49 (rndG k 7 x)) := by generalize rndG k 343 (rndG k 49 (rndG k 7 x)) = t; grobner
  rw [this, unr_rnd, unr_rnd, unr_rnd]
theorem turn_back (k y : Fin RE) : turnG k (backG k y) = y := by
  unfold backG turnG
  rw [rnd_unr, rnd_unr, rnd_unr]
  grobner
theorem turn_inj {k x y : Fin RE} (h : turnG k x = turnG k y) : x = y := by
  rw [← back_turn k x, ← back_turn k y, h]
/-- The hash of two, and of a list's first m numbers. -/
def twoG (a b : Fin RE) : Fin RE := turnG a b + (a + b)
def headG (s : Fin RE) (l : Nat → Fin RE) : Nat → Fin RE
  | 0 => s
  | m + 1 => twoG (headG s l m) (l m)
theorem headG_congr (s : Fin RE) {l l' : Nat → Fin RE} : ∀ m, (∀ i, i < m → l i = l' i) → headG s l m = headG s l' m
  | 0, _ => rfl
  | m + 1, h => by rw [headG, headG, headG_congr s m (fun i hi => h i (by omega)), h m (by omega)]
/-- Two lists of one hash, the same behind place i: the hashes behind it are the same. -/
theorem headG_back (s : Fin RE) (l l' : Nat → Fin RE) (m : Nat) (h : headG s l m = headG s l' m) : ∀ d, d ≤ m → (∀ i, m - d ≤ i → i < m → headG s l i = headG s l' i ∧ l i = l' i) → headG s l (m - d) = headG s l' (m - d)
  | 0, _, _ => h
  | d + 1, hd, hs => (hs (m - (d + 1)) (Nat.le_refl _) (by omega)).1
end Ob

namespace Go.Proofs.Ytdbolfmmlmoiaaa
open Go.RowKit Go.Proofs
set_option linter.unusedVariables false
set_option linter.unusedSimpArgs false

/-- A list of terms by itself. -/
def lstOf (l : List (Int × Nat)) : Lst := ⟨none, l.length, l.length, fun i => (l.getD i (0, 0)).1, fun i => (l.getD i (0, 0)).2⟩
/-- A maker: public variables, variables, their values, rows (lists that aren't summed up yet). -/
structure Mk where
  pub : Nat
  n : Nat
  v : Nat → Nat
  m : Nat
  R : Nat → Nat → Lst
def Mk.new : Mk := ⟨0, 1, fun _ => 1, 0, fun _ _ => lstOf []⟩
/-- A variable that there is. -/
def Mk.is (S : Mk) (v : Int) : Nat := if 0 ≤ v ∧ v < (S.n : Int) then v.toNat else 0
def Mk.val (S : Mk) (L : Lst) : Fin Ob.RE := valL L S.n S.v
def Mk.fresh (S : Mk) (x : Fin Ob.RE) : Mk := { S with n := S.n + 1, v := fun i => if i = S.n then x.val else S.v i }
def row3 (a b c : Lst) : Nat → Lst
  | 0 => a
  | 1 => b
  | _ => c
def Mk.row (S : Mk) (a b c : Lst) : Mk := { S with m := S.m + 1, R := fun i => if i = S.m then row3 a b c else S.R i }
def just (v : Nat) : Lst := lstOf [((v : Int), 1)]
def less (a b : Nat) : Lst := lstOf [((a : Int), 1), ((b : Int), 288230376287764480)]
/-- A list whose variables all are there. -/
def Lst.In (L : Lst) (n : Nat) : Prop := ∀ i, i < L.n → 0 ≤ L.V i ∧ L.V i < (n : Int)
theorem Lst.In.mono {L : Lst} {n k : Nat} (h : L.In n) (hk : n ≤ k) : L.In k := fun i hi => ⟨(h i hi).1, by have := (h i hi).2; omega⟩
theorem valN_congr {L : Lst} {n k : Nat} {x y : Nat → Nat} (hL : L.In n) (hk : n ≤ k) (hxy : ∀ i, i < n → x i = y i) : ∀ {j : Nat}, j ≤ L.n → valN L k y j = valN L n x j
  | 0, _ => rfl
  | j + 1, hj => by
    show valN L k y j + termG L k y j = valN L n x j + termG L n x j
    rw [valN_congr hL hk hxy (by omega)]
    obtain ⟨h1, h2⟩ := hL j (by omega)
    unfold termG
    rw [if_pos ⟨h1, by omega⟩, if_pos ⟨h1, h2⟩, hxy (L.V j).toNat (by omega)]
theorem valL_congr {L : Lst} {n k : Nat} {x y : Nat → Nat} (hL : L.In n) (hk : n ≤ k) (hxy : ∀ i, i < n → x i = y i) : valL L k y = valL L n x := valN_congr hL hk hxy (Nat.le_refl _)
/-- A maker that is right: variable 0 is 1, values are below R, rows speak of variables that there are. -/
structure Mk.Good (S : Mk) : Prop where
  n1 : 1 ≤ S.n
  v0 : S.v 0 = 1
  lt : ∀ i, S.v i < 288230376287764481
  rows : ∀ i, i < S.m → ∀ j, (S.R i j).In S.n
  pubs : S.pub + 1 ≤ S.n
theorem Mk.good_new : Mk.new.Good := ⟨by decide, rfl, fun i => (by show (1 : Nat) < 288230376287764481; decide), fun i hi => absurd hi (Nat.not_lt_zero _), by decide⟩
theorem Mk.Good.fresh {S : Mk} (h : S.Good) (x : Fin Ob.RE) : (S.fresh x).Good where
  n1 := by show 1 ≤ S.n + 1; omega
  v0 := by show (if 0 = S.n then x.val else S.v 0) = 1; rw [if_neg (by have := h.n1; omega)]; exact h.v0
  lt := fun i => by show (if i = S.n then x.val else S.v i) < _; split; exact x.isLt; exact h.lt i
  rows := fun i hi j => (h.rows i hi j).mono (by show S.n ≤ S.n + 1; omega)
  pubs := by show S.pub + 1 ≤ S.n + 1; have := h.pubs; omega
theorem row3_all {P : Lst → Prop} {a b c : Lst} (ha : P a) (hb : P b) (hc : P c) : ∀ j, P (row3 a b c j)
  | 0 => ha
  | 1 => hb
  | _ + 2 => hc
theorem Mk.Good.row {S : Mk} (h : S.Good) {a b c : Lst} (ha : a.In S.n) (hb : b.In S.n) (hc : c.In S.n) : (S.row a b c).Good where
  n1 := h.n1
  v0 := h.v0
  lt := h.lt
  rows := fun i hi j => by
    have hi' : i < S.m + 1 := hi
    show ((if i = S.m then row3 a b c else S.R i) j).In S.n
    split
    · exact row3_all (P := fun L => L.In S.n) ha hb hc j
    · exact h.rows i (by omega) j
  pubs := h.pubs
theorem Mk.is_lt {S : Mk} (h : S.Good) (v : Int) : S.is v < S.n := by
  unfold Mk.is
  split
  · omega
  · exact h.n1
/-- Its rows hold by its values. -/
def Mk.Hold (S : Mk) : Prop := ∀ i, i < S.m → S.val (S.R i 0) * S.val (S.R i 1) = S.val (S.R i 2)
theorem Mk.val_fresh {S : Mk} {L : Lst} (hL : L.In S.n) (x : Fin Ob.RE) : (S.fresh x).val L = S.val L :=
  valL_congr hL (by show S.n ≤ S.n + 1; omega) fun i hi => by show S.v i = (if i = S.n then x.val else S.v i); rw [if_neg (by omega)]
theorem Mk.hold_new : Mk.new.Hold := fun i hi => absurd hi (Nat.not_lt_zero _)
theorem Mk.hold_fresh {S : Mk} (h : S.Good) (x : Fin Ob.RE) : (S.fresh x).Hold ↔ S.Hold := by
  constructor
  · intro k i hi
    have := k i hi
    have e : ∀ j, (S.fresh x).R i j = S.R i j := fun _ => rfl
    rw [e, e, e, Mk.val_fresh (h.rows i hi 0), Mk.val_fresh (h.rows i hi 1), Mk.val_fresh (h.rows i hi 2)] at this
    exact this
  · intro k i hi
    show (S.fresh x).val (S.R i 0) * (S.fresh x).val (S.R i 1) = (S.fresh x).val (S.R i 2)
    rw [Mk.val_fresh (h.rows i hi 0), Mk.val_fresh (h.rows i hi 1), Mk.val_fresh (h.rows i hi 2)]
    exact k i hi
theorem Mk.hold_row {S : Mk} (a b c : Lst) : (S.row a b c).Hold ↔ (S.Hold ∧ S.val a * S.val b = S.val c) := by
  constructor
  · intro k
    refine ⟨fun i hi => ?_, ?_⟩
    · have := k i (show i < S.m + 1 by omega)
      have e : (S.row a b c).R i = S.R i := if_neg (by omega)
      rw [e] at this
      exact this
    · have := k S.m (show S.m < S.m + 1 by omega)
      have e : (S.row a b c).R S.m = row3 a b c := if_pos rfl
      rw [e] at this
      exact this
  · rintro ⟨k, hr⟩ i hi
    have hi' : i < S.m + 1 := hi
    rcases Nat.lt_or_ge i S.m with h | h
    · have e : (S.row a b c).R i = S.R i := if_neg (by omega)
      rw [e]
      exact k i h
    · obtain rfl : i = S.m := by omega
      have e : (S.row a b c).R S.m = row3 a b c := if_pos rfl
      rw [e]
      exact hr
/-! Lists of one, of two -/
theorem just_in {v n : Nat} (h : v < n) : (just v).In n := fun i hi => by
  have hi' : i < 1 := hi
  obtain rfl : i = 0 := by omega
  show 0 ≤ (v : Int) ∧ (v : Int) < _
  omega
theorem less_in {a b n : Nat} (ha : a < n) (hb : b < n) : (less a b).In n := fun i hi => by
  have hi' : i < 2 := hi
  obtain rfl | rfl : i = 0 ∨ i = 1 := by omega
  · show 0 ≤ (a : Int) ∧ (a : Int) < _; omega
  · show 0 ≤ (b : Int) ∧ (b : Int) < _; omega
theorem nil_in (n : Nat) : (lstOf []).In n := fun i hi => absurd hi (Nat.not_lt_zero _)
theorem val_nil (S : Mk) : S.val (lstOf []) = 0 := rfl
theorem val_just {S : Mk} {v : Nat} (h : v < S.n) : S.val (just v) = Ob.toG (S.v v) := by
  show (0 : Fin Ob.RE) + (if 0 ≤ (v : Int) ∧ (v : Int) < (S.n : Int) then Ob.toG 1 * Ob.toG (S.v (v : Int).toNat) else 0) = _
  rw [if_pos (by omega), Int.toNat_natCast, show Ob.toG 1 = 1 from rfl]
  generalize Ob.toG (S.v v) = t
  grobner
theorem val_less {S : Mk} {a b : Nat} (ha : a < S.n) (hb : b < S.n) : S.val (less a b) = Ob.toG (S.v a) - Ob.toG (S.v b) := by
  show (0 : Fin Ob.RE) + (if 0 ≤ (a : Int) ∧ (a : Int) < (S.n : Int) then Ob.toG 1 * Ob.toG (S.v (a : Int).toNat) else 0) + (if 0 ≤ (b : Int) ∧ (b : Int) < (S.n : Int) then Ob.toG 288230376287764480 * Ob.toG (S.v (b : Int).toNat) else 0) = _
  rw [if_pos (by omega), if_pos (by omega), Int.toNat_natCast, Int.toNat_natCast, show Ob.toG 1 = 1 from rfl, show Ob.toG 288230376287764480 = -1 from by decide +kernel]
  generalize Ob.toG (S.v a) = s
  generalize Ob.toG (S.v b) = t
  grobner
theorem val_zero {S : Mk} (h : S.Good) : S.val (just 0) = 1 := by rw [val_just h.n1, h.v0]; rfl
theorem val_new {S : Mk} (x : Fin Ob.RE) : (S.fresh x).val (just S.n) = x := by
  rw [val_just (show S.n < S.n + 1 by omega)]
  show Ob.toG (if S.n = S.n then x.val else S.v S.n) = x
  rw [if_pos rfl, Ob.toG_of_val]

/-! What the calls make -/
/-- Linear of a list whose variables there are. -/
def Mk.linear (S : Mk) (L : Lst) : Mk := (S.fresh (S.val L)).row L (just 0) (just S.n)
def Mk.mulL (S : Mk) (a b : Lst) : Mk := (S.fresh (S.val a * S.val b)).row a b (just S.n)
def Mk.same (S : Mk) (a b : Nat) : Mk := S.row (less a b) (just 0) (lstOf [])
def Mk.choose (S : Mk) (t a b : Nat) : Mk := (S.fresh (Ob.toG (S.v b) + Ob.toG (S.v t) * (Ob.toG (S.v a) - Ob.toG (S.v b)))).row (just t) (less a b) (less S.n b)
theorem Mk.n_fresh (S : Mk) (x : Fin Ob.RE) : (S.fresh x).n = S.n + 1 := rfl
theorem Mk.n_row (S : Mk) (a b c : Lst) : (S.row a b c).n = S.n := rfl
theorem Mk.Good.linear {S : Mk} (h : S.Good) {L : Lst} (hL : L.In S.n) : (S.linear L).Good :=
  (h.fresh _).row (hL.mono (by show S.n ≤ S.n + 1; omega)) (just_in (by show 0 < S.n + 1; omega)) (just_in (by show S.n < S.n + 1; omega))
theorem Mk.Good.mulL {S : Mk} (h : S.Good) {a b : Lst} (ha : a.In S.n) (hb : b.In S.n) : (S.mulL a b).Good :=
  (h.fresh _).row (ha.mono (by show S.n ≤ S.n + 1; omega)) (hb.mono (by show S.n ≤ S.n + 1; omega)) (just_in (by show S.n < S.n + 1; omega))
theorem Mk.Good.same {S : Mk} (h : S.Good) {a b : Nat} (ha : a < S.n) (hb : b < S.n) : (S.same a b).Good := h.row (less_in ha hb) (just_in h.n1) (nil_in _)
theorem Mk.Good.choose {S : Mk} (h : S.Good) {t a b : Nat} (ht : t < S.n) (ha : a < S.n) (hb : b < S.n) : (S.choose t a b).Good :=
  (h.fresh _).row (just_in (Nat.lt_succ_of_lt ht)) (less_in (Nat.lt_succ_of_lt ha) (Nat.lt_succ_of_lt hb)) (less_in (show S.n < S.n + 1 by omega) (Nat.lt_succ_of_lt hb))
theorem Mk.hold_linear {S : Mk} (h : S.Good) {L : Lst} (hL : L.In S.n) : (S.linear L).Hold ↔ S.Hold := by
  unfold Mk.linear
  rw [Mk.hold_row, Mk.hold_fresh h, Mk.val_fresh hL, val_zero (h.fresh _), val_new]
  exact ⟨fun k => k.1, fun k => ⟨k, by generalize S.val L = t; grobner⟩⟩
theorem Mk.hold_mulL {S : Mk} (h : S.Good) {a b : Lst} (ha : a.In S.n) (hb : b.In S.n) : (S.mulL a b).Hold ↔ S.Hold := by
  unfold Mk.mulL
  rw [Mk.hold_row, Mk.hold_fresh h, Mk.val_fresh ha, Mk.val_fresh hb, val_new]
  exact ⟨fun k => k.1, fun k => ⟨k, rfl⟩⟩
theorem toG_eq_of {S : Mk} (h : S.Good) (a b : Nat) : Ob.toG (S.v a) = Ob.toG (S.v b) ↔ S.v a = S.v b :=
  ⟨fun e => toG_inj (h.lt a) (h.lt b) e, fun e => by rw [e]⟩
theorem sub_zero_iff (a b : Fin Ob.RE) : a - b = 0 ↔ a = b := by
  constructor
  · intro h; have : a = (a - b) + b := by grobner
    rw [h] at this; rw [this]; grobner
  · rintro rfl; grobner
theorem Mk.hold_same {S : Mk} (h : S.Good) {a b : Nat} (ha : a < S.n) (hb : b < S.n) : (S.same a b).Hold ↔ (S.Hold ∧ S.v a = S.v b) := by
  unfold Mk.same
  rw [Mk.hold_row, val_less ha hb, val_zero h, val_nil, ← toG_eq_of h, ← sub_zero_iff (Ob.toG (S.v a))]
  have e : (Ob.toG (S.v a) - Ob.toG (S.v b)) * 1 = Ob.toG (S.v a) - Ob.toG (S.v b) := by generalize Ob.toG (S.v a) = s; generalize Ob.toG (S.v b) = t; grobner
  rw [e]
theorem Mk.hold_choose {S : Mk} (h : S.Good) {t a b : Nat} (ht : t < S.n) (ha : a < S.n) (hb : b < S.n) : (S.choose t a b).Hold ↔ S.Hold := by
  unfold Mk.choose
  rw [Mk.hold_row, Mk.hold_fresh h, Mk.val_fresh (just_in ht), Mk.val_fresh (less_in ha hb), val_just ht, val_less ha hb, val_less (show S.n < S.n + 1 by omega) (show b < S.n + 1 by omega)]
  have e1 : ∀ x : Fin Ob.RE, (S.fresh x).v S.n = x.val := fun x => if_pos rfl
  have e2 : ∀ x : Fin Ob.RE, (S.fresh x).v b = S.v b := fun x => if_neg (by omega)
  rw [e1, e2, Ob.toG_of_val]
  exact ⟨fun k => k.1, fun k => ⟨k, by generalize Ob.toG (S.v a) = x; generalize Ob.toG (S.v b) = y; generalize Ob.toG (S.v t) = z; grobner⟩⟩
end Go.Proofs.Ytdbolfmmlmoiaaa

namespace Go.Proofs.Ytdbolfmmlmoiaaa
open Go.RowKit Go.Proofs
set_option linter.unusedVariables false
set_option linter.unusedSimpArgs false
theorem G_lt (x : Fin Ob.RE) : x.val < 18446744073709551616 := Ob.G_word x
/-- What a call of package cube with these numbers answers, memory that was there apart. -/
def Ans (f : FuncId) (args : Array Value) (r : Nat) : Prop := ∀ w, Calls Try.prog f args w fun e w' => e = .returned (.int .u64 (r : Nat)) ∧ Below w.heap.size w w'
theorem rest_toG (x : Nat) : (x : Int) % 288230376287764481 = ((Ob.toG x).val : Nat) := by
  rw [Ob.toG_val]
  show _ = ((x % 288230376287764481 : Nat) : Int)
  omega
theorem rest_toG2 (x : Nat) : (x : Int).tmod 288230376287764481 = ((Ob.toG x).val : Nat) := by
  rw [Int.tmod_eq_emod_of_nonneg (by omega)]
  exact rest_toG x
theorem beq_valN (a b : Fin Ob.RE) : ((((a.val : Nat) : Int)) == ((b.val : Nat) : Int)) = decide (a = b) := by
  by_cases h : a = b
  · subst h; simp
  · rw [decide_eq_false h, beq_eq_false_iff_ne]
    exact fun e => h (Fin.ext (by omega))
/-- The hash of a list's first i numbers (of m). -/
def hdN (m : Nat) (l : Nat → Nat) (i : Nat) : Nat := (Ob.headG (Ob.toG m) (fun j => Ob.toG (l j)) i).val
theorem hdN_lt (m : Nat) (l : Nat → Nat) (i : Nat) : hdN m l i < 18446744073709551616 := G_lt _
theorem hdN_zero (m : Nat) (l : Nat → Nat) (h : m < 288230376287764481) : hdN m l 0 = m := Nat.mod_eq_of_lt h
theorem hdN_succ (m : Nat) (l : Nat → Nat) (i : Nat) : hdN m l (i + 1) = (Ob.twoG (Ob.toG (hdN m l i)) (Ob.toG (l i))).val := by
  unfold hdN
  rw [Ob.toG_of_val]
  rfl
/-- The place that Clash tells, from place i downwards. -/
def clashAt (m : Nat) (a b : Nat → Nat) : Nat → Option Nat
  | 0 => none
  | i + 1 => if hdN m a i = hdN m b i ∧ Ob.toG (a i) = Ob.toG (b i) then clashAt m a b i else some i
theorem clashAt_same {m : Nat} {a b : Nat → Nat} {i : Nat} (h : hdN m a i = hdN m b i ∧ Ob.toG (a i) = Ob.toG (b i)) : clashAt m a b (i + 1) = clashAt m a b i := if_pos h
theorem clashAt_other {m : Nat} {a b : Nat → Nat} {i : Nat} (h : ¬ (hdN m a i = hdN m b i ∧ Ob.toG (a i) = Ob.toG (b i))) : clashAt m a b (i + 1) = some i := if_neg h
/-- What Clash answers: v's and the error. -/
def ClashIs (m n : Nat) (a b : Nat → Nat) (v0 v1 v2 v3 : Int) (er : Value) : Prop :=
  (¬ (m = n ∧ hdN m a m = hdN m b m ∧ clashAt m a b m ≠ none) ∧ v0 = 0 ∧ v1 = 0 ∧ v2 = 0 ∧ v3 = 0 ∧ er = .iface 67 (.int .i64 1)) ∨
  (m = n ∧ hdN m a m = hdN m b m ∧ ∃ i, clashAt m a b m = some i ∧ v0 = (hdN m a i : Nat) ∧ v1 = ((Ob.toG (a i)).val : Nat) ∧ v2 = (hdN m b i : Nat) ∧ v3 = ((Ob.toG (b i)).val : Nat) ∧ er = .nilIface)
theorem clashAt_some (m : Nat) (a b : Nat → Nat) : ∀ (k i : Nat), clashAt m a b k = some i → i < k ∧ ¬ (hdN m a i = hdN m b i ∧ Ob.toG (a i) = Ob.toG (b i)) ∧ ∀ j, i < j → j < k → hdN m a j = hdN m b j
  | 0, i, h => by cases h
  | k + 1, i, h => by
    by_cases hs : hdN m a k = hdN m b k ∧ Ob.toG (a k) = Ob.toG (b k)
    · rw [clashAt_same hs] at h
      obtain ⟨h1, h2, h3⟩ := clashAt_some m a b k i h
      refine ⟨by omega, h2, fun j hj hjk => ?_⟩
      rcases Nat.lt_or_ge j k with h4 | h4
      · exact h3 j hj h4
      · obtain rfl : j = k := by omega
        exact hs.1
    · rw [clashAt_other hs] at h
      cases h
      exact ⟨by omega, hs, fun j hj hjk => by omega⟩
/-- Behind the place that Clash tells the hashes are the same. -/
theorem clash_next {m i : Nat} {a b : Nat → Nat} (h : clashAt m a b m = some i) (heq : hdN m a m = hdN m b m) : hdN m a (i + 1) = hdN m b (i + 1) := by
  obtain ⟨h1, _, h3⟩ := clashAt_some m a b m i h
  rcases Nat.lt_or_ge (i + 1) m with h4 | h4
  · exact h3 _ (by omega) h4
  · obtain rfl : i + 1 = m := by omega
    exact heq
theorem hdN_two (m : Nat) (l : Nat → Nat) (i : Nat) : (Ob.twoG (Ob.toG (hdN m l i)) (Ob.toG (Ob.toG (l i)).val)).val = hdN m l (i + 1) := by
  rw [Ob.toG_of_val, hdN_succ]
end Go.Proofs.Ytdbolfmmlmoiaaa
