/-
  Joined texts: Small helps for all walks: calls that only make memory of their own, errors that are codes, words as plain numbers. Variables of three cells. Cells of variables, as a region's condition asks for them. What the calls of layer 1 answer, as functions of plain numbers. Plain numbers: powers by squaring, products by doubling, Euclid's way with its two factors. Primes, without any library: trial division, Euclid's lemma, and Lucas: where a number's powers modulo N come back to 1 at N - 1 and not ahead of it, N is a prime, and each number that N does not divide is one of those powers. The primes of the program: R, P and S, each by Lucas. The curve y y = 1 + x x + 439 x x y y over the numbers modulo R: its points are a group. The Edwards curve's points are a group. The Edwards curve's points are a group: sums are points, and go in any order. Multiples of the Edwards curve's points; how many points there are at most. Numbers modulo R as Fin RE: what the document's own sums and products answer; points as pairs of numbers. Lists of terms and rows of them, as they lie in memory. Systems (layer 11): whether values hold, what is amiss: the document's numbers. What the rows of this seat share: how arguments are opened. Rows of words of 64 bits: read, joined, copied. Errors by their numbers and places. What package rank's calls answer (layer 11): the contracts over which statements are walked. errors.As at a pointer to api.Spot, errors.Is of a Spot and of a Code: by what the model's entries for types answer.
-/
import Derived.Test.YtckjojmphdoghaaDoorProg
import Derived.WalkKit
import Derived.WalkLawsBesides
import Derived.Outline
import Derived.Deep.QuietTactic
import Derived.BigQuiet
import Derived.Deep.DeepCutAuto
import Derived.Deep.CutBlock
import Derived.Laws.Bits64b
import Derived.Deep.RegionWith
import Derived.LoopTactic
import Derived.LaidEql
import Derived.OpenShut
import Derived.Handy
import Derived.Deep.RegionHeld3
import Derived.Deep.DrawnRows
import Derived.Test.YtckjojmphdoghaaDoorRows
import Derived.ProofKit
import Derived.ShutString
import Derived.ChangeOld
import Derived.Below
import Derived.SizedLaws
import Derived.Deep.AppendSrc
import Derived.Deep.AppendLies
import Derived.Deep.DeepAppendRoom
import Derived.Laws.AppendOwn
import Derived.OwnWalk
import Derived.Stop.Asserts
import Derived.RowKitTokens

namespace Go.Proofs.YtckjojmphdoghaaDoor
open Go.RowKit Go.Proofs
set_option linter.unusedVariables false
set_option linter.unusedSimpArgs false

/-- A call that returns v, whatever the world is, and turns nothing that was there. -/
def Gives (f : FuncId) (args : Array Value) (v : Value) : Prop := ∀ w, Calls Tryd.prog f args w fun e w' => e = .returned v ∧ Below w.heap.size w w'

theorem below_drewN {B : Nat} {a w : World} (h : Below B a w) (n : Nat) : Below B a (w.drewN n) := ⟨h.os, h.tape, h.output, h.size, h.block⟩

theorem size_drewN (w : World) (n : Nat) : (w.drewN n).heap.size = w.heap.size := rfl
theorem below_via {B C : Nat} {a W w : World} (h : Below C W w) (h1 : Below B a W) (h2 : B ≤ C) : Below B a w := h1.trans (h.mono h2)

theorem Gives.of_same {f : FuncId} {args : Array Value} {v : Value} (h : ∀ w, Calls Tryd.prog f args w fun e w' => e = .returned v ∧ w = w') : Gives f args v :=
  fun w => (h w).mono fun e w' ⟨he, hw⟩ => ⟨he, hw ▸ Below.refl _ _⟩
theorem Gives.of_drew {f : FuncId} {args : Array Value} {v : Value} (h : ∀ w, Calls Tryd.prog f args w fun e w' => e = .returned v ∧ ∃ n, w' = w.drewN n) : Gives f args v :=
  fun w => (h w).mono fun e w' ⟨he, n, hw⟩ => ⟨he, hw ▸ below_drewN (Below.refl _ _) n⟩

/-- What lay in memory below B reads as it did. -/
theorem bcell {B : Nat} {W w1 : World} (hb : Below B W w1) : (∀ b o, b < B → w1.cell? ⟨b, o, none⟩ = W.cell? ⟨b, o, none⟩) ∧ (∀ b o, b < B → w1.frozen? ⟨b, o, none⟩ = W.frozen? ⟨b, o, none⟩) :=
  ⟨fun b o h => hb.cell (p := ⟨b, o, none⟩) h, fun b o h => hb.frozen (p := ⟨b, o, none⟩) h⟩

/-- How many blocks there are, behind one step. -/
theorem szs : (∀ (w : World) (o : Obj), (w.alloc o).heap.size = w.heap.size + 1) ∧ (∀ (w : World) (p : Addr) (v : Value), (w.setCell p v).heap.size = w.heap.size) ∧ (∀ w : World, w.drew.heap.size = w.heap.size) ∧ (∀ (w : World) (n : Nat), (w.drewN n).heap.size = w.heap.size) :=
  ⟨World.size_alloc, World.size_setCell, World.size_drew, size_drewN⟩
theorem own1 {B : Nat} {W w1 : World} (hb : Below B W w1) (x : Nat) (h : x < B) (hB : B ≤ W.heap.size := by exact Nat.le_refl _) : x < w1.heap.size ∧ x ≤ w1.heap.size ∧ x ≠ w1.heap.size ∧ w1.heap.size ≠ x ∧ w1.cell? ⟨x, 0, none⟩ = W.cell? ⟨x, 0, none⟩ ∧ w1.frozen? ⟨x, 0, none⟩ = W.frozen? ⟨x, 0, none⟩ :=
  have l : x < w1.heap.size := Nat.lt_of_lt_of_le (Nat.lt_of_lt_of_le h hB) hb.size
  ⟨l, Nat.le_of_lt l, Nat.ne_of_lt l, Nat.ne_of_gt l, (bcell hb).1 x 0 h, (bcell hb).2 x 0 h⟩
theorem own2 {B : Nat} {W w1 : World} (hb : Below B W w1) (x : Nat) (h : x < B) (hB : B ≤ W.heap.size := by exact Nat.le_refl _) : x < w1.heap.size ∧ x ≤ w1.heap.size ∧ x ≠ w1.heap.size ∧ w1.heap.size ≠ x ∧ w1.cell? ⟨x, 0, none⟩ = W.cell? ⟨x, 0, none⟩ ∧ w1.frozen? ⟨x, 0, none⟩ = W.frozen? ⟨x, 0, none⟩ ∧ w1.cell? ⟨x, 1, none⟩ = W.cell? ⟨x, 1, none⟩ ∧ w1.frozen? ⟨x, 1, none⟩ = W.frozen? ⟨x, 1, none⟩ :=
  have l : x < w1.heap.size := Nat.lt_of_lt_of_le (Nat.lt_of_lt_of_le h hB) hb.size
  ⟨l, Nat.le_of_lt l, Nat.ne_of_lt l, Nat.ne_of_gt l, (bcell hb).1 x 0 h, (bcell hb).2 x 0 h, (bcell hb).1 x 1 h, (bcell hb).2 x 1 h⟩
theorem own3 {B : Nat} {W w1 : World} (hb : Below B W w1) (x : Nat) (h : x < B) (hB : B ≤ W.heap.size := by exact Nat.le_refl _) : x < w1.heap.size ∧ x ≤ w1.heap.size ∧ x ≠ w1.heap.size ∧ w1.heap.size ≠ x ∧ w1.cell? ⟨x, 0, none⟩ = W.cell? ⟨x, 0, none⟩ ∧ w1.frozen? ⟨x, 0, none⟩ = W.frozen? ⟨x, 0, none⟩ ∧ w1.cell? ⟨x, 1, none⟩ = W.cell? ⟨x, 1, none⟩ ∧ w1.frozen? ⟨x, 1, none⟩ = W.frozen? ⟨x, 1, none⟩ ∧ w1.cell? ⟨x, 2, none⟩ = W.cell? ⟨x, 2, none⟩ ∧ w1.frozen? ⟨x, 2, none⟩ = W.frozen? ⟨x, 2, none⟩ :=
  have l : x < w1.heap.size := Nat.lt_of_lt_of_le (Nat.lt_of_lt_of_le h hB) hb.size
  ⟨l, Nat.le_of_lt l, Nat.ne_of_lt l, Nat.ne_of_gt l, (bcell hb).1 x 0 h, (bcell hb).2 x 0 h, (bcell hb).1 x 1 h, (bcell hb).2 x 1 h, (bcell hb).1 x 2 h, (bcell hb).2 x 2 h⟩
theorem own4 {B : Nat} {W w1 : World} (hb : Below B W w1) (x : Nat) (h : x < B) (hB : B ≤ W.heap.size := by exact Nat.le_refl _) : x < w1.heap.size ∧ x ≤ w1.heap.size ∧ x ≠ w1.heap.size ∧ w1.heap.size ≠ x ∧ w1.cell? ⟨x, 0, none⟩ = W.cell? ⟨x, 0, none⟩ ∧ w1.frozen? ⟨x, 0, none⟩ = W.frozen? ⟨x, 0, none⟩ ∧ w1.cell? ⟨x, 1, none⟩ = W.cell? ⟨x, 1, none⟩ ∧ w1.frozen? ⟨x, 1, none⟩ = W.frozen? ⟨x, 1, none⟩ ∧ w1.cell? ⟨x, 2, none⟩ = W.cell? ⟨x, 2, none⟩ ∧ w1.frozen? ⟨x, 2, none⟩ = W.frozen? ⟨x, 2, none⟩ ∧ w1.cell? ⟨x, 3, none⟩ = W.cell? ⟨x, 3, none⟩ ∧ w1.frozen? ⟨x, 3, none⟩ = W.frozen? ⟨x, 3, none⟩ :=
  have l : x < w1.heap.size := Nat.lt_of_lt_of_le (Nat.lt_of_lt_of_le h hB) hb.size
  ⟨l, Nat.le_of_lt l, Nat.ne_of_lt l, Nat.ne_of_gt l, (bcell hb).1 x 0 h, (bcell hb).2 x 0 h, (bcell hb).1 x 1 h, (bcell hb).2 x 1 h, (bcell hb).1 x 2 h, (bcell hb).2 x 2 h, (bcell hb).1 x 3 h, (bcell hb).2 x 3 h⟩
/-- A variable of the call's own, of two cells. -/
structure Two (w : World) (b : Nat) (x y : Value) : Prop where
  c0 : w.cell? ⟨b, 0, none⟩ = some x
  c1 : w.cell? ⟨b, 1, none⟩ = some y
  f0 : w.frozen? ⟨b, 0, none⟩ = false
  f1 : w.frozen? ⟨b, 1, none⟩ = false
  lt : b < w.heap.size
theorem Two.below {w w1 : World} {B b : Nat} {x y : Value} (t : Two w b x y) (hb : Below B w w1) (h : b < B) : Two w1 b x y :=
  ⟨by rw [(bcell hb).1 b 0 h]; exact t.c0, by rw [(bcell hb).1 b 1 h]; exact t.c1, by rw [(bcell hb).2 b 0 h]; exact t.f0, by rw [(bcell hb).2 b 1 h]; exact t.f1, Nat.lt_of_lt_of_le t.lt hb.size⟩
theorem Two.alloc {w : World} {b : Nat} {x y : Value} (t : Two w b x y) (o : Obj) : Two (w.alloc o) b x y := t.below ((Below.refl w.heap.size w).alloc (Nat.le_refl _) o) t.lt
theorem Two.put {w : World} {b : Nat} {x y : Value} (t : Two w b x y) (x' y' : Value) : Two ((w.setCell ⟨b, 0, none⟩ x').setCell ⟨b, 1, none⟩ y') b x' y' where
  c0 := by rw [World.cell?_setCell_other _ _ _ _ (by simp), World.cell?_setCell_same _ _ _ t.c0]
  c1 := by rw [World.cell?_setCell_same _ _ _ (u := y) (by rw [World.cell?_setCell_other _ _ _ _ (by simp), t.c1])]
  f0 := by simp [t.f0]
  f1 := by simp [t.f1]
  lt := by simp [t.lt]
theorem Two.far {w : World} {b b' : Nat} {x y : Value} (t : Two w b x y) (h : b' ≠ b) (o : Nat) (v : Value) : Two (w.setCell ⟨b', o, none⟩ v) b x y where
  c0 := by rw [World.cell?_setCell_other _ _ _ _ (by simp [h]), t.c0]
  c1 := by rw [World.cell?_setCell_other _ _ _ _ (by simp [h]), t.c1]
  f0 := by simp [t.f0]
  f1 := by simp [t.f1]
  lt := by simp [t.lt]
theorem Two.new {w : World} {x y : Value} {t : TypeId} {b : Nat} (h : b = w.heap.size) : Two (w.alloc (.cells #[x, y] t)) b x y := by subst h; exact ⟨by simp [go_sem], by simp [go_sem], by simp [go_sem], by simp [go_sem], by simp⟩

/-- Such a variable, whatever it holds. -/
def Own2 (w : World) (b : Nat) : Prop := ∃ x y, Two w b x y
theorem Two.own {w : World} {b : Nat} {x y : Value} (t : Two w b x y) : Own2 w b := ⟨x, y, t⟩
theorem Two.set {w : World} {b : Nat} (t : Own2 w b) (x' y' : Value) : Two ((w.setCell ⟨b, 0, none⟩ x').setCell ⟨b, 1, none⟩ y') b x' y' := by obtain ⟨x, y, t⟩ := t; exact t.put x' y'
theorem Own2.set {w : World} {b : Nat} (t : Own2 w b) (x' y' : Value) : Own2 ((w.setCell ⟨b, 0, none⟩ x').setCell ⟨b, 1, none⟩ y') b := (Two.set t x' y').own
theorem Two.via {w w1 : World} {B b : Nat} {x y : Value} (hb : Below B w w1) (t : Two w b x y) (h : b < B) : Two w1 b x y := t.below hb h
theorem Two.drew {w : World} {b : Nat} {x y : Value} (t : Two w b x y) : Two w.drew b x y := t.below ((Below.refl w.heap.size w).drew) t.lt
theorem Two.drewN {w : World} {b : Nat} {x y : Value} (t : Two w b x y) (n : Nat) : Two (w.drewN n) b x y := t.below (below_drewN (Below.refl w.heap.size w) n) t.lt
theorem Own2.via {w w1 : World} {B b : Nat} (hb : Below B w w1) (t : Own2 w b) (h : b < B) : Own2 w1 b := by obtain ⟨x, y, t⟩ := t; exact ⟨x, y, t.below hb h⟩
theorem Own2.far {w : World} {b b' : Nat} (t : Own2 w b) (h : b' ≠ b) (o : Nat) (v : Value) : Own2 (w.setCell ⟨b', o, none⟩ v) b := by obtain ⟨x, y, t⟩ := t; exact ⟨x, y, t.far h o v⟩
theorem Own2.alloc {w : World} {b : Nat} (t : Own2 w b) (o : Obj) : Own2 (w.alloc o) b := by obtain ⟨x, y, t⟩ := t; exact ⟨x, y, t.alloc o⟩
theorem Own2.new {w : World} {x y : Value} {t : TypeId} {b : Nat} (h : b = w.heap.size) : Own2 (w.alloc (.cells #[x, y] t)) b := ⟨x, y, Two.new h⟩
theorem Own2.drew {w : World} {b : Nat} (t : Own2 w b) : Own2 w.drew b := by obtain ⟨x, y, t⟩ := t; exact ⟨x, y, t.drew⟩
theorem Own2.drewN {w : World} {b : Nat} (t : Own2 w b) (n : Nat) : Own2 (w.drewN n) b := by obtain ⟨x, y, t⟩ := t; exact ⟨x, y, t.drewN n⟩

/-- A word of 64 bits, as a plain number. -/
theorem word_of {a : Int} (h : (Lit.int .u64 a).wf = true) : ∃ n : Nat, a = (n : Int) ∧ n < 18446744073709551616 := by
  have := bounds_u64 h
  exact ⟨a.toNat, by omega, by omega⟩
end Go.Proofs.YtckjojmphdoghaaDoor

namespace Go.Proofs.YtckjojmphdoghaaDoor
open Go.RowKit Go.Proofs
set_option linter.unusedVariables false
set_option linter.unusedSimpArgs false

/-- A variable of the call's own, of three cells. -/
structure Three (w : World) (b : Nat) (x y z : Value) : Prop where
  c0 : w.cell? ⟨b, 0, none⟩ = some x
  c1 : w.cell? ⟨b, 1, none⟩ = some y
  c2 : w.cell? ⟨b, 2, none⟩ = some z
  f0 : w.frozen? ⟨b, 0, none⟩ = false
  f1 : w.frozen? ⟨b, 1, none⟩ = false
  f2 : w.frozen? ⟨b, 2, none⟩ = false
  lt : b < w.heap.size
theorem Three.below {w w1 : World} {B b : Nat} {x y z : Value} (t : Three w b x y z) (hb : Below B w w1) (h : b < B) : Three w1 b x y z :=
  ⟨by rw [(bcell hb).1 b 0 h]; exact t.c0, by rw [(bcell hb).1 b 1 h]; exact t.c1, by rw [(bcell hb).1 b 2 h]; exact t.c2, by rw [(bcell hb).2 b 0 h]; exact t.f0, by rw [(bcell hb).2 b 1 h]; exact t.f1, by rw [(bcell hb).2 b 2 h]; exact t.f2, Nat.lt_of_lt_of_le t.lt hb.size⟩
theorem Three.alloc {w : World} {b : Nat} {x y z : Value} (t : Three w b x y z) (o : Obj) : Three (w.alloc o) b x y z := t.below ((Below.refl w.heap.size w).alloc (Nat.le_refl _) o) t.lt
theorem Three.put0 {w : World} {b : Nat} {x y z : Value} (t : Three w b x y z) (v : Value) : Three (w.setCell ⟨b, 0, none⟩ v) b v y z where
  c0 := by rw [World.cell?_setCell_same _ _ _ t.c0]
  c1 := by rw [World.cell?_setCell_other _ _ _ _ (by simp), t.c1]
  c2 := by rw [World.cell?_setCell_other _ _ _ _ (by simp), t.c2]
  f0 := by simp [t.f0]
  f1 := by simp [t.f1]
  f2 := by simp [t.f2]
  lt := by simp [t.lt]
theorem Three.put1 {w : World} {b : Nat} {x y z : Value} (t : Three w b x y z) (v : Value) : Three (w.setCell ⟨b, 1, none⟩ v) b x v z where
  c0 := by rw [World.cell?_setCell_other _ _ _ _ (by simp), t.c0]
  c1 := by rw [World.cell?_setCell_same _ _ _ t.c1]
  c2 := by rw [World.cell?_setCell_other _ _ _ _ (by simp), t.c2]
  f0 := by simp [t.f0]
  f1 := by simp [t.f1]
  f2 := by simp [t.f2]
  lt := by simp [t.lt]
theorem Three.put2 {w : World} {b : Nat} {x y z : Value} (t : Three w b x y z) (v : Value) : Three (w.setCell ⟨b, 2, none⟩ v) b x y v where
  c0 := by rw [World.cell?_setCell_other _ _ _ _ (by simp), t.c0]
  c1 := by rw [World.cell?_setCell_other _ _ _ _ (by simp), t.c1]
  c2 := by rw [World.cell?_setCell_same _ _ _ t.c2]
  f0 := by simp [t.f0]
  f1 := by simp [t.f1]
  f2 := by simp [t.f2]
  lt := by simp [t.lt]
theorem Three.put {w : World} {b : Nat} {x y z : Value} (t : Three w b x y z) (x' y' z' : Value) : Three (((w.setCell ⟨b, 0, none⟩ x').setCell ⟨b, 1, none⟩ y').setCell ⟨b, 2, none⟩ z') b x' y' z' :=
  ((t.put0 x').put1 y').put2 z'
theorem Three.far {w : World} {b b' : Nat} {x y z : Value} (t : Three w b x y z) (h : b' ≠ b) (o : Nat) (v : Value) : Three (w.setCell ⟨b', o, none⟩ v) b x y z where
  c0 := by rw [World.cell?_setCell_other _ _ _ _ (by simp [h]), t.c0]
  c1 := by rw [World.cell?_setCell_other _ _ _ _ (by simp [h]), t.c1]
  c2 := by rw [World.cell?_setCell_other _ _ _ _ (by simp [h]), t.c2]
  f0 := by simp [t.f0]
  f1 := by simp [t.f1]
  f2 := by simp [t.f2]
  lt := by simp [t.lt]
theorem Three.new {w : World} {x y z : Value} {t : TypeId} {b : Nat} (h : b = w.heap.size) : Three (w.alloc (.cells #[x, y, z] t)) b x y z := by subst h; exact ⟨by simp [go_sem], by simp [go_sem], by simp [go_sem], by simp [go_sem], by simp [go_sem], by simp [go_sem], by simp⟩

/-- Such a variable, whatever it holds. -/
def Own3 (w : World) (b : Nat) : Prop := ∃ x y z, Three w b x y z
theorem Three.own {w : World} {b : Nat} {x y z : Value} (t : Three w b x y z) : Own3 w b := ⟨x, y, z, t⟩
theorem Three.set {w : World} {b : Nat} (t : Own3 w b) (x' y' z' : Value) : Three (((w.setCell ⟨b, 0, none⟩ x').setCell ⟨b, 1, none⟩ y').setCell ⟨b, 2, none⟩ z') b x' y' z' := by obtain ⟨x, y, z, t⟩ := t; exact t.put x' y' z'
theorem Own3.set {w : World} {b : Nat} (t : Own3 w b) (x' y' z' : Value) : Own3 (((w.setCell ⟨b, 0, none⟩ x').setCell ⟨b, 1, none⟩ y').setCell ⟨b, 2, none⟩ z') b := (Three.set t x' y' z').own
theorem Three.via {w w1 : World} {B b : Nat} {x y z : Value} (hb : Below B w w1) (t : Three w b x y z) (h : b < B) : Three w1 b x y z := t.below hb h
theorem Three.drew {w : World} {b : Nat} {x y z : Value} (t : Three w b x y z) : Three w.drew b x y z := t.below ((Below.refl w.heap.size w).drew) t.lt
theorem Three.drewN {w : World} {b : Nat} {x y z : Value} (t : Three w b x y z) (n : Nat) : Three (w.drewN n) b x y z := t.below (below_drewN (Below.refl w.heap.size w) n) t.lt
theorem Own3.via {w w1 : World} {B b : Nat} (hb : Below B w w1) (t : Own3 w b) (h : b < B) : Own3 w1 b := by obtain ⟨x, y, z, t⟩ := t; exact ⟨x, y, z, t.below hb h⟩
theorem Own3.far {w : World} {b b' : Nat} (t : Own3 w b) (h : b' ≠ b) (o : Nat) (v : Value) : Own3 (w.setCell ⟨b', o, none⟩ v) b := by obtain ⟨x, y, z, t⟩ := t; exact ⟨x, y, z, t.far h o v⟩
theorem Own3.alloc {w : World} {b : Nat} (t : Own3 w b) (o : Obj) : Own3 (w.alloc o) b := by obtain ⟨x, y, z, t⟩ := t; exact ⟨x, y, z, t.alloc o⟩
theorem Own3.new {w : World} {x y z : Value} {t : TypeId} {b : Nat} (h : b = w.heap.size) : Own3 (w.alloc (.cells #[x, y, z] t)) b := ⟨x, y, z, Three.new h⟩
theorem Own3.drew {w : World} {b : Nat} (t : Own3 w b) : Own3 w.drew b := by obtain ⟨x, y, z, t⟩ := t; exact ⟨x, y, z, t.drew⟩
theorem Own3.drewN {w : World} {b : Nat} (t : Own3 w b) (n : Nat) : Own3 (w.drewN n) b := by obtain ⟨x, y, z, t⟩ := t; exact ⟨x, y, z, t.drewN n⟩
end Go.Proofs.YtckjojmphdoghaaDoor

namespace Go.Proofs.YtckjojmphdoghaaDoor
open Go.RowKit Go.Proofs
set_option linter.unusedVariables false
set_option linter.unusedSimpArgs false

theorem cells2 {w : World} {a : Nat} {x y : Value} (t : Two w a x y) : w.cell? ⟨a, 0, none⟩ = some x ∧ w.cell? ⟨a, 1, none⟩ = some y := ⟨t.c0, t.c1⟩
theorem cells3 {w : World} {a : Nat} {x y z : Value} (t : Three w a x y z) : w.cell? ⟨a, 0, none⟩ = some x ∧ w.cell? ⟨a, 1, none⟩ = some y ∧ w.cell? ⟨a, 2, none⟩ = some z := ⟨t.c0, t.c1, t.c2⟩
theorem cells_and {A B C : Prop} (h : A ∧ B) (k : C) : A ∧ B ∧ C := ⟨h.1, h.2, k⟩
theorem cells_and3 {A B C D : Prop} (h : A ∧ B ∧ C) (k : D) : A ∧ B ∧ C ∧ D := ⟨h.1, h.2.1, h.2.2, k⟩
end Go.Proofs.YtckjojmphdoghaaDoor

namespace Ob

/-- A number that counts as a modulus. -/
def Mod (m : Nat) : Prop := 2 ≤ m ∧ m ≤ 4611686018427387904
theorem not_mod {m : Nat} (h : ¬ Mod m) : m < 2 ∨ 4611686018427387904 < m := by unfold Mod at h; omega

def add (m a b : Nat) : Nat := if 2 ≤ m ∧ m ≤ 4611686018427387904 then (a + b) % m else 0
def sub (m a b : Nat) : Nat := if 2 ≤ m ∧ m ≤ 4611686018427387904 then (a % m + (m - b % m)) % m else 0
def mul (m a b : Nat) : Nat := if 2 ≤ m ∧ m ≤ 4611686018427387904 then a * b % m else 0
def pow (m a e : Nat) : Nat := if 2 ≤ m ∧ m ≤ 4611686018427387904 then a ^ e % m else 0

theorem add_yes {m a b : Nat} (h : Mod m) : add m a b = (a + b) % m := if_pos h
theorem add_no {m a b : Nat} (h : ¬ Mod m) : add m a b = 0 := if_neg h
theorem sub_yes {m a b : Nat} (h : Mod m) : sub m a b = (a % m + (m - b % m)) % m := if_pos h
theorem sub_no {m a b : Nat} (h : ¬ Mod m) : sub m a b = 0 := if_neg h
theorem mul_yes {m a b : Nat} (h : Mod m) : mul m a b = a * b % m := if_pos h
theorem mul_no {m a b : Nat} (h : ¬ Mod m) : mul m a b = 0 := if_neg h
theorem pow_yes {m a e : Nat} (h : Mod m) : pow m a e = a ^ e % m := if_pos h
theorem pow_no {m a e : Nat} (h : ¬ Mod m) : pow m a e = 0 := if_neg h

theorem add_lt {m a b : Nat} (h : Mod m) : add m a b < m := by rw [add_yes h]; exact Nat.mod_lt _ (by have := h.1; omega)
theorem sub_lt {m a b : Nat} (h : Mod m) : sub m a b < m := by rw [sub_yes h]; exact Nat.mod_lt _ (by have := h.1; omega)
theorem mul_lt {m a b : Nat} (h : Mod m) : mul m a b < m := by rw [mul_yes h]; exact Nat.mod_lt _ (by have := h.1; omega)
theorem pow_lt {m a e : Nat} (h : Mod m) : pow m a e < m := by rw [pow_yes h]; exact Nat.mod_lt _ (by have := h.1; omega)
theorem add_word (m a b : Nat) : add m a b < 18446744073709551616 := by
  by_cases h : Mod m
  · have := add_lt (a := a) (b := b) h; have := h.2; omega
  · rw [add_no h]; omega
theorem sub_word (m a b : Nat) : sub m a b < 18446744073709551616 := by
  by_cases h : Mod m
  · have := sub_lt (a := a) (b := b) h; have := h.2; omega
  · rw [sub_no h]; omega
theorem mul_word (m a b : Nat) : mul m a b < 18446744073709551616 := by
  by_cases h : Mod m
  · have := mul_lt (a := a) (b := b) h; have := h.2; omega
  · rw [mul_no h]; omega
theorem pow_word (m a e : Nat) : pow m a e < 18446744073709551616 := by
  by_cases h : Mod m
  · have := pow_lt (a := a) (e := e) h; have := h.2; omega
  · rw [pow_no h]; omega

/-- The inverse of a modulo m (0 where there is none): the first number that serves. -/
def inv (m a : Nat) : Nat := ((List.range m).find? fun X => X * a % m == 1 % m).getD 0

/-- Two numbers that undo a modulo m are the same below m. -/
theorem inv_unique {m a X Y : Nat} (hX : X < m) (hY : Y < m) (h1 : X * a % m = 1 % m) (h2 : Y * a % m = 1 % m) : X = Y := by
  have e1 : X * (a * Y) % m = X % m := by
    rw [Nat.mul_mod, Nat.mul_comm a Y, h2, ← Nat.mul_mod, Nat.mul_one]
  have e2 : X * a * Y % m = Y % m := by
    rw [Nat.mul_mod, h1, ← Nat.mul_mod, Nat.one_mul]
  rw [← Nat.mul_assoc, e2, Nat.mod_eq_of_lt hX, Nat.mod_eq_of_lt hY] at e1
  exact e1.symm

theorem inv_eq {m a X : Nat} (hX : X < m) (h : X * a % m = 1 % m) : inv m a = X := by
  unfold inv
  cases hf : (List.range m).find? fun X => X * a % m == 1 % m with
  | none =>
    have := List.find?_eq_none.mp hf X (List.mem_range.mpr hX)
    simp [h] at this
  | some Y =>
    have h1 := List.find?_some hf
    have h2 := List.mem_range.mp (List.mem_of_find?_eq_some hf)
    simp only [beq_iff_eq] at h1
    exact inv_unique h2 hX h1 h

/-- What has no divisor in common with m has an inverse: Euclid. -/
theorem inv_ok_of {m a X : Nat} (hX : X < m) (h : X * a % m = 1 % m) : inv m a < m ∧ inv m a * a % m = 1 % m := by rw [inv_eq hX h]; exact ⟨hX, h⟩
end Ob

namespace Ob

theorem mul_mod_left (a b m : Nat) : (a % m) * b % m = a * b % m := by rw [Nat.mul_mod, Nat.mod_mod, ← Nat.mul_mod]
theorem mul_mod_right (a b m : Nat) : a * (b % m) % m = a * b % m := by rw [Nat.mul_mod, Nat.mod_mod, ← Nat.mul_mod]
theorem pow_mod_left (a e m : Nat) : (a % m) ^ e % m = a ^ e % m := (Nat.pow_mod a e m).symm
theorem mul_congr {a b c d m : Nat} (h1 : a % m = b % m) (h2 : c % m = d % m) : a * c % m = b * d % m := by rw [Nat.mul_mod, h1, h2, ← Nat.mul_mod]

theorem square_pow (A k m : Nat) : (A * A % m) ^ k % m = A ^ (2 * k) % m := by
  rw [pow_mod_left, ← Nat.pow_two, ← Nat.pow_mul]

/-- A round of a power by squaring, from the lowest bit on. -/
theorem pow_even (m p A E : Nat) (h : E % 2 = 0) : p * (A * A % m) ^ (E / 2) % m = p * A ^ E % m := by
  have e : 2 * (E / 2) = E := by omega
  rw [Nat.mul_mod, square_pow, e, ← Nat.mul_mod]
theorem pow_odd (m p A E : Nat) (h : E % 2 = 1) : (p * A % m) * (A * A % m) ^ (E / 2) % m = p * A ^ E % m := by
  have e : 2 * (E / 2) + 1 = E := by omega
  have e2 : A ^ E = A * A ^ (2 * (E / 2)) := by rw [← Nat.pow_succ', Nat.succ_eq_add_one, e]
  rw [mul_mod_left, Nat.mul_mod, square_pow, ← Nat.mul_mod, e2, Nat.mul_assoc]

/-- A round of a product by doubling, from the highest bit on. -/
theorem shr_step (y k : Nat) : y / 2 ^ k = 2 * (y / 2 ^ (k + 1)) + y / 2 ^ k % 2 := by
  have : y / 2 ^ (k + 1) = y / 2 ^ k / 2 := by rw [Nat.pow_succ, Nat.div_div_eq_div_mul]
  omega

theorem dbl_mod (m o : Nat) : (o % m + o % m) % m = 2 * o % m := by
  rw [← Nat.two_mul, mul_mod_right]

theorem mul_bit (m x y k : Nat) : (x * (y / 2 ^ k)) % m = ((x * (y / 2 ^ (k + 1)) % m + x * (y / 2 ^ (k + 1)) % m) % m + x * (y / 2 ^ k % 2)) % m := by
  have e : x * (y / 2 ^ k) = x * (y / 2 ^ (k + 1)) + x * (y / 2 ^ (k + 1)) + x * (y / 2 ^ k % 2) := by
    have h := shr_step y k
    generalize y / 2 ^ k % 2 = b at h ⊢
    rw [h, Nat.mul_add, Nat.mul_left_comm, Nat.two_mul]
  rw [e, Nat.add_mod, Nat.add_mod (x * (y / 2 ^ (k + 1))), Nat.add_mod_mod]

/-- A round of a power, from the highest bit on. -/
theorem pow_bit (m a e k : Nat) : a ^ (e / 2 ^ k) % m = ((a ^ (e / 2 ^ (k + 1)) % m) * (a ^ (e / 2 ^ (k + 1)) % m) % m * a ^ (e / 2 ^ k % 2)) % m := by
  have h := shr_step e k
  generalize e / 2 ^ k % 2 = b at h ⊢
  rw [h, Nat.pow_add, Nat.two_mul, Nat.pow_add, ← Nat.mul_mod (a ^ (e / 2 ^ (k + 1))) (a ^ (e / 2 ^ (k + 1))) m, mul_mod_left]
end Ob

namespace Ob

def Prime (p : Nat) : Prop := 2 ≤ p ∧ ∀ d, d ∣ p → d = 1 ∨ d = p

/-- Euclid's lemma. -/
theorem Prime.dvd_mul {p a b : Nat} (hp : Prime p) (h : p ∣ a * b) : p ∣ a ∨ p ∣ b := by
  rcases hp.2 (Nat.gcd p a) (Nat.gcd_dvd_left p a) with h1 | h1
  · exact Or.inr (Nat.Coprime.dvd_of_dvd_mul_left h1 h)
  · exact Or.inl (h1 ▸ Nat.gcd_dvd_right p a)

theorem Prime.dvd_pow {p a : Nat} (hp : Prime p) : ∀ {e : Nat}, p ∣ a ^ e → p ∣ a
  | 0, h => by
    have := Nat.le_of_dvd (by simp) h
    have := hp.1
    simp at *
    omega
  | e + 1, h => by
    rw [Nat.pow_succ] at h
    rcases hp.dvd_mul h with h | h
    · exact hp.dvd_pow h
    · exact h

theorem Prime.eq_of_dvd {p q : Nat} (hp : Prime p) (hq : Prime q) (h : p ∣ q) : p = q := by
  rcases hq.2 p h with h | h
  · have := hp.1; omega
  · exact h

/-- No divisor from 2 to s. -/
def noDiv (p : Nat) : Nat → Bool
  | 0 => true
  | s + 1 => noDiv p s && (s + 1 < 2 || p % (s + 1) != 0)

theorem noDiv_spec (p : Nat) : ∀ (s : Nat), noDiv p s = true → ∀ d, 2 ≤ d → d ≤ s → ¬ d ∣ p
  | 0, _, d, h1, h2 => by omega
  | s + 1, h, d, h1, h2 => by
    simp only [noDiv, Bool.and_eq_true, Bool.or_eq_true, decide_eq_true_eq, bne_iff_ne, ne_eq] at h
    rcases Nat.lt_or_ge d (s + 1) with h3 | h3
    · exact noDiv_spec p s h.1 d h1 (by omega)
    · have e : d = s + 1 := by omega
      subst e
      intro hd
      rcases h.2 with h4 | h4
      · omega
      · exact h4 (Nat.mod_eq_zero_of_dvd hd)

/-- Trial division: s times s is above p. -/
theorem prime_of_trial (p s : Nat) (h2 : 2 ≤ p) (hs : p < (s + 1) * (s + 1)) (h : noDiv p s = true) : Prime p := by
  refine ⟨h2, fun d hd => ?_⟩
  rcases Nat.eq_zero_or_pos d with h0 | h0
  · subst h0; have := Nat.eq_zero_of_zero_dvd hd; omega
  obtain ⟨c, hc⟩ := hd
  have hcp : 0 < c := by
    rcases Nat.eq_zero_or_pos c with e | e
    · subst e; simp at hc; omega
    · exact e
  by_cases h1 : d = 1
  · exact Or.inl h1
  refine Or.inr ?_
  by_cases hc1 : c = 1
  · subst hc1; omega
  exfalso
  rcases Nat.lt_or_ge s d with hd | hd
  · rcases Nat.lt_or_ge s c with hc' | hc'
    · have : (s + 1) * (s + 1) ≤ d * c := Nat.mul_le_mul hd hc'
      omega
    · exact noDiv_spec p s h c (by omega) hc' ⟨d, by rw [hc, Nat.mul_comm]⟩
  · exact noDiv_spec p s h d (by omega) hd ⟨c, hc⟩

/-- Every number above 1 has a prime divisor. -/
theorem exists_prime : ∀ (n : Nat), 2 ≤ n → ∃ p, Prime p ∧ p ∣ n := by
  intro n
  induction n using Nat.strongRecOn with
  | ind n ih =>
    intro h
    by_cases hp : ∀ d, d ∣ n → d = 1 ∨ d = n
    · exact ⟨n, ⟨h, hp⟩, Nat.dvd_refl n⟩
    · obtain ⟨d, hd⟩ := Classical.not_forall.mp hp
      have ⟨hd1, hd2⟩ := Classical.not_imp.mp hd
      have hle := Nat.le_of_dvd (by omega) hd1
      have hpos := Nat.pos_of_dvd_of_pos hd1 (by omega)
      have h3 : d ≠ 1 ∧ d ≠ n := ⟨fun e => hd2 (Or.inl e), fun e => hd2 (Or.inr e)⟩
      obtain ⟨p, hp1, hp2⟩ := ih d (by omega) (by omega)
      exact ⟨p, hp1, Nat.dvd_trans hp2 hd1⟩

/-- A map of [0, n) into itself that keeps apart meets every number. -/
theorem pigeon : ∀ (n : Nat) (f : Nat → Nat), (∀ i, i < n → f i < n) → (∀ i j, i < n → j < n → f i = f j → i = j) → ∀ y, y < n → ∃ i, i < n ∧ f i = y
  | 0, _, _, _, y, hy => by omega
  | n + 1, f, hf, hi, y, hy => by
    have hv := hf n (by omega)
    let g : Nat → Nat := fun i => if f i = n then f n else f i
    have hg : ∀ i, i < n → g i < n := by
      intro i h
      show (if f i = n then f n else f i) < n
      split
      · rename_i e
        have : f n ≠ n := fun e2 => by have := hi i n (by omega) (by omega) (by rw [e, e2]); omega
        omega
      · have := hf i (by omega); omega
    have hgi : ∀ i j, i < n → j < n → g i = g j → i = j := by
      intro i j h1 h2 h
      simp only [g] at h
      split at h <;> split at h
      · rename_i e1 e2; exact hi i j (by omega) (by omega) (by rw [e1, e2])
      · have := hi n j (by omega) (by omega) h; omega
      · have := hi i n (by omega) (by omega) h; omega
      · exact hi i j (by omega) (by omega) h
    have ih := pigeon n g hg hgi
    by_cases e1 : y = f n
    · exact ⟨n, by omega, e1.symm⟩
    by_cases e2 : y = n
    · obtain ⟨i, h1, h2⟩ := ih (f n) (by omega)
      simp only [g] at h2
      split at h2
      · rename_i e3; exact ⟨i, by omega, by rw [e3, e2]⟩
      · have := hi i n (by omega) (by omega) h2; omega
    · obtain ⟨i, h1, h2⟩ := ih y (by omega)
      simp only [g] at h2
      split at h2
      · exact absurd h2.symm e1
      · exact ⟨i, by omega, h2⟩

theorem pow_add_mod (g i j N : Nat) : g ^ (i + j) % N = (g ^ i % N) * (g ^ j % N) % N := by rw [Nat.pow_add, Nat.mul_mod]

/-- Where a power is 1 at two exponents it is at their greatest common divisor. -/
theorem pow_gcd {g N : Nat} (hN : 2 ≤ N) : ∀ (b a : Nat), g ^ a % N = 1 → g ^ b % N = 1 → g ^ Nat.gcd b a % N = 1 := by
  intro b
  induction b using Nat.strongRecOn with
  | ind b ih =>
    intro a ha hb
    rcases Nat.eq_zero_or_pos b with h0 | h0
    · subst h0; rw [Nat.gcd_zero_left]; exact ha
    · rw [Nat.gcd_rec]
      refine ih (a % b) (Nat.mod_lt _ h0) b hb ?_
      have h1 : g ^ (b * (a / b)) % N = 1 := by
        rw [Nat.pow_mul, Nat.pow_mod, hb, Nat.one_pow, Nat.mod_eq_of_lt (by omega)]
      have h2 := ha
      rw [← Nat.div_add_mod a b, pow_add_mod, h1, Nat.one_mul, Nat.mod_mod] at h2
      exact h2

/-- What Lucas asks: g to the N - 1 is 1, and to no (N - 1) / q, for all primes q that divide N - 1. -/
structure Lucas (N g : Nat) : Prop where
  two : 2 ≤ N
  one : g ^ (N - 1) % N = 1
  ne : ∀ q, Prime q → q ∣ N - 1 → g ^ ((N - 1) / q) % N ≠ 1

theorem Lucas.order {N g : Nat} (h : Lucas N g) (k : Nat) (hk : g ^ k % N = 1) : N - 1 ∣ k := by
  have hd := pow_gcd h.two k (N - 1) h.one hk
  have hdv : Nat.gcd k (N - 1) ∣ N - 1 := Nat.gcd_dvd_right _ _
  obtain ⟨c, hc⟩ := hdv
  have h2 := h.two
  have hcp : 0 < c := by
    rcases Nat.eq_zero_or_pos c with e | e
    · subst e; simp at hc; omega
    · exact e
  by_cases hc1 : c = 1
  · subst hc1
    rw [Nat.mul_one] at hc
    rw [hc]
    exact Nat.gcd_dvd_left _ _
  · exfalso
    obtain ⟨q, hq, e, he⟩ := exists_prime c (by omega)
    have hqp : 0 < q := by have := hq.1; omega
    have hqd : q ∣ N - 1 := ⟨Nat.gcd k (N - 1) * e, by rw [Nat.mul_left_comm, ← he]; exact hc⟩
    refine h.ne q hq hqd ?_
    have e2 : (N - 1) / q = Nat.gcd k (N - 1) * e := by
      have : N - 1 = q * (Nat.gcd k (N - 1) * e) := by rw [Nat.mul_left_comm, ← he]; exact hc
      exact Nat.div_eq_of_eq_mul_right hqp this
    rw [e2, Nat.pow_mul, Nat.pow_mod, hd, Nat.one_pow, Nat.mod_eq_of_lt (by omega)]

theorem Lucas.undo {N g : Nat} (h : Lucas N g) (i : Nat) (hi : i ≤ N - 1) : (g ^ i % N) * (g ^ (N - 1 - i) % N) % N = 1 := by
  rw [← pow_add_mod]
  have : i + (N - 1 - i) = N - 1 := by omega
  rw [this]
  exact h.one

theorem Lucas.pos {N g : Nat} (h : Lucas N g) (i : Nat) (hi : i ≤ N - 1) : 1 ≤ g ^ i % N := by
  rcases Nat.eq_zero_or_pos (g ^ i % N) with e | e
  · have := h.undo i hi
    rw [e, Nat.zero_mul, Nat.zero_mod] at this
    omega
  · exact e

theorem Lucas.apart {N g : Nat} (h : Lucas N g) (i j : Nat) (hij : i ≤ j) (hj : j < N - 1) (e : g ^ i % N = g ^ j % N) : i = j := by
  have h1 : g ^ (j - i) % N = 1 := by
    have a1 := h.undo i (by omega)
    have a2 : g ^ (j - i) % N = g ^ (j - i) * 1 % N := by rw [Nat.mul_one]
    rw [a2, Nat.mul_mod, ← a1, Nat.mod_mod]
    have a3 : (g ^ (j - i) % N) * ((g ^ i % N) * (g ^ (N - 1 - i) % N) % N) % N = (g ^ j % N) * (g ^ (N - 1 - i) % N) % N := by
      have a4 : g ^ j % N = (g ^ (j - i) % N) * (g ^ i % N) % N := by
        rw [← pow_add_mod]
        have : j - i + i = j := by omega
        rw [this]
      rw [a4]
      generalize g ^ (j - i) % N = A
      generalize g ^ i % N = B
      generalize g ^ (N - 1 - i) % N = C
      rw [mul_mod_left, mul_mod_right, Nat.mul_assoc]
    rw [a3, ← e]
  have := h.order _ h1
  rcases Nat.eq_zero_or_pos (j - i) with e0 | e0
  · omega
  · have := Nat.le_of_dvd e0 this
    omega

/-- Each number from 1 to N - 1 is a power of g. -/
theorem Lucas.all {N g : Nat} (h : Lucas N g) (y : Nat) (h1 : 1 ≤ y) (h2 : y < N) : ∃ i, i < N - 1 ∧ g ^ i % N = y := by
  have hN := h.two
  obtain ⟨i, hi, he⟩ := pigeon (N - 1) (fun i => g ^ i % N - 1)
    (fun i hi => by have := Nat.mod_lt (g ^ i) (show 0 < N by omega); have := h.pos i (by omega); show g ^ i % N - 1 < N - 1; omega)
    (fun i j hi hj e => by
      have e' : g ^ i % N = g ^ j % N := by have := h.pos i (by omega); have := h.pos j (by omega); have e2 : g ^ i % N - 1 = g ^ j % N - 1 := e; omega
      rcases Nat.le_total i j with hij | hij
      · exact h.apart i j hij hj e'
      · exact (h.apart j i hij hi e'.symm).symm) (y - 1) (by omega)
  refine ⟨i, hi, ?_⟩
  have := h.pos i (by omega)
  have he2 : g ^ i % N - 1 = y - 1 := he
  omega

theorem Lucas.prime {N g : Nat} (h : Lucas N g) : Prime N := by
  refine ⟨h.two, fun d hd => ?_⟩
  have hN := h.two
  have hle := Nat.le_of_dvd (by omega) hd
  have hpos := Nat.pos_of_dvd_of_pos hd (by omega)
  rcases Nat.lt_or_ge d N with hlt | hge
  · refine Or.inl ?_
    obtain ⟨i, hi, he⟩ := h.all d hpos hlt
    have hu := h.undo i (by omega)
    rw [he] at hu
    have h1 : d ∣ d * (g ^ (N - 1 - i) % N) % N := (Nat.dvd_mod_iff hd).mpr ⟨_, rfl⟩
    rw [hu] at h1
    exact Nat.dvd_one.mp h1
  · exact Or.inr (by omega)

/-- Fermat. -/
theorem Lucas.fermat {N g : Nat} (h : Lucas N g) (a : Nat) (ha : a % N ≠ 0) : a ^ (N - 1) % N = 1 := by
  have hN := h.two
  obtain ⟨i, hi, he⟩ := h.all (a % N) (by omega) (Nat.mod_lt _ (by omega))
  rw [Nat.pow_mod, ← he, ← Nat.pow_mod, ← Nat.pow_mul, Nat.mul_comm, Nat.pow_mul, Nat.pow_mod, h.one, Nat.one_pow, Nat.mod_eq_of_lt (by omega)]

/-- A number whose square is 1 modulo a prime is 1 or -1. -/
theorem Prime.square_one {p y : Nat} (hp : Prime p) (hy : y < p) (h : y * y % p = 1) : y = 1 ∨ y = p - 1 := by
  have hp2 := hp.1
  rcases Nat.eq_zero_or_pos y with h0 | h0
  · subst h0; simp at h
  have hdv : p ∣ (y - 1) * (y + 1) := by
    have e : (y - 1) * (y + 1) + 1 = y * y := by
      obtain ⟨z, rfl⟩ : ∃ z, y = z + 1 := ⟨y - 1, by omega⟩
      simp only [Nat.add_sub_cancel]
      grind
    have hle : 1 ≤ y * y := Nat.mul_pos h0 h0
    have : p ∣ y * y - 1 := Nat.dvd_of_mod_eq_zero (Nat.sub_mod_eq_zero_of_mod_eq (by rw [h, Nat.mod_eq_of_lt (by omega)]))
    have e2 : (y - 1) * (y + 1) = y * y - 1 := by omega
    rw [e2]
    exact this
  rcases hp.dvd_mul hdv with h1 | h1
  · left
    rcases Nat.eq_zero_or_pos (y - 1) with e | e
    · omega
    · have := Nat.le_of_dvd e h1; omega
  · right
    have := Nat.le_of_dvd (by omega) h1
    omega
end Ob

namespace Ob

def R : Nat := 288230376287764481

/-- a to the e modulo N, by squaring: for the kernel to reckon. -/
def powm (N : Nat) : Nat → Nat → Nat → Nat
  | 0, _, _ => 1 % N
  | f + 1, a, e => if e = 0 then 1 % N else if e % 2 = 0 then powm N f (a * a % N) (e / 2) else a * powm N f (a * a % N) (e / 2) % N

theorem powm_eq (N : Nat) : ∀ (f a e : Nat), e < 2 ^ f → powm N f a e = a ^ e % N
  | 0, a, e, h => by
    have : e = 0 := by simpa using h
    subst this
    simp [powm]
  | f + 1, a, e, h => by
    unfold powm
    by_cases h0 : e = 0
    · rw [if_pos h0, h0, Nat.pow_zero]
    · rw [if_neg h0]
      have ih := powm_eq N f (a * a % N) (e / 2) (by rw [Nat.pow_succ] at h; omega)
      by_cases h1 : e % 2 = 0
      · rw [if_pos h1, ih]
        have := pow_even N 1 a e h1
        rw [Nat.one_mul, Nat.one_mul] at this
        exact this
      · rw [if_neg h1, ih, mul_mod_right]
        have := pow_odd N 1 a e (by omega)
        rw [Nat.one_mul, Nat.one_mul, mul_mod_left] at this
        exact this

theorem prime2 : Prime 2 := prime_of_trial 2 1 (by decide) (by decide) (by decide +kernel)
theorem prime5 : Prime 5 := prime_of_trial 5 2 (by decide) (by decide) (by decide +kernel)
theorem prime587 : Prime 587 := prime_of_trial 587 24 (by decide) (by decide) (by decide +kernel)
theorem prime619 : Prime 619 := prime_of_trial 619 24 (by decide) (by decide) (by decide +kernel)
theorem prime769 : Prime 769 := prime_of_trial 769 27 (by decide) (by decide) (by decide +kernel)
theorem prime787 : Prime 787 := prime_of_trial 787 28 (by decide) (by decide) (by decide +kernel)

theorem pow_of_powm {N a e r : Nat} (h : e < 2 ^ 64) (hr : powm N 64 a e = r) : a ^ e % N = r := by rw [← powm_eq N 64 a e h]; exact hr

theorem R_sub : R - 1 = 2 ^ 18 * 5 * 587 * 619 * 769 * 787 := by decide +kernel

theorem lucasR : Lucas R 3 where
  two := by decide +kernel
  one := pow_of_powm (by decide +kernel) (by decide +kernel)
  ne := by
    intro q hq hd
    rw [R_sub] at hd
    have h : q = 2 ∨ q = 5 ∨ q = 587 ∨ q = 619 ∨ q = 769 ∨ q = 787 := by
      rcases hq.dvd_mul hd with hd | hd
      · rcases hq.dvd_mul hd with hd | hd
        · rcases hq.dvd_mul hd with hd | hd
          · rcases hq.dvd_mul hd with hd | hd
            · rcases hq.dvd_mul hd with hd | hd
              · exact Or.inl (hq.eq_of_dvd prime2 (hq.dvd_pow hd))
              · exact Or.inr (Or.inl (hq.eq_of_dvd prime5 hd))
            · exact Or.inr (Or.inr (Or.inl (hq.eq_of_dvd prime587 hd)))
          · exact Or.inr (Or.inr (Or.inr (Or.inl (hq.eq_of_dvd prime619 hd))))
        · exact Or.inr (Or.inr (Or.inr (Or.inr (Or.inl (hq.eq_of_dvd prime769 hd)))))
      · exact Or.inr (Or.inr (Or.inr (Or.inr (Or.inr (hq.eq_of_dvd prime787 hd)))))
    have ne : ∀ k, (R - 1) / k < 2 ^ 64 → powm R 64 3 ((R - 1) / k) ≠ 1 → 3 ^ ((R - 1) / k) % R ≠ 1 := fun k h1 h2 h3 => h2 (by rw [powm_eq R 64 3 _ h1]; exact h3)
    rcases h with h | h | h | h | h | h
    all_goals
      subst h
      exact ne _ (by decide +kernel) (by decide +kernel)

theorem primeR : Prime R := lucasR.prime
end Ob

namespace Ob
set_option linter.unusedVariables false
set_option linter.unusedSimpArgs false

abbrev RE : Nat := 288230376287764481
theorem RE_eq : RE = R := rfl
def gpow (x : Fin RE) : Nat → Fin RE
  | 0 => 1
  | n + 1 => gpow x n * x
theorem gpow_val (x : Fin RE) (n : Nat) : (gpow x n).val = x.val ^ n % RE := by
  induction n with
  | zero => rfl
  | succ n ih =>
    show (gpow x n * x).val = _
    rw [Fin.val_mul, ih, Nat.pow_succ, Nat.mod_mul_mod]
theorem gpow_add (x : Fin RE) (m n : Nat) : gpow x (m + n) = gpow x m * gpow x n := by
  induction n with
  | zero => show gpow x m = gpow x m * 1; grobner
  | succ n ih => show gpow x (m + n) * x = gpow x m * (gpow x n * x); rw [ih]; grobner
theorem gpow_sq (x : Fin RE) (n : Nat) : gpow (x * x) n = gpow x n * gpow x n := by
  induction n with
  | zero => show (1 : Fin RE) = 1 * 1; grobner
  | succ n ih => show gpow (x * x) n * (x * x) = gpow x n * x * (gpow x n * x); rw [ih]; generalize gpow x n = t; grobner
theorem G_ne {a : Fin RE} (h : a ≠ 0) : a.val % R ≠ 0 := fun e => h (Fin.ext (by rw [← Nat.mod_eq_of_lt a.isLt]; exact e))
theorem fermatG (x : Fin RE) (h : x ≠ 0) : gpow x (RE - 1) = 1 := by
  apply Fin.ext
  rw [gpow_val]
  exact lucasR.fermat _ (G_ne h)
def ginv (x : Fin RE) : Fin RE := gpow x (RE - 2)
theorem ginv_mul {x : Fin RE} (h : x ≠ 0) : x * ginv x = 1 := by
  have e := fermatG x h
  have e2 : RE - 1 = (RE - 2) + 1 := by decide +kernel
  rw [e2] at e
  have e3 : gpow x ((RE - 2) + 1) = ginv x * x := rfl
  rw [e3] at e
  rw [← e]; generalize ginv x = i; grobner
theorem ginv_val (x : Fin RE) : (ginv x).val = x.val ^ (RE - 2) % RE := gpow_val x _
attribute [irreducible] ginv
theorem ginv_unique {a b : Fin RE} (h : a * b = 1) : ginv a = b := by
  have ha : a ≠ 0 := fun e => by subst e; revert h; grobner
  have h2 := ginv_mul ha
  generalize ginv a = i at *
  grobner
theorem Gmul_zero {a b : Fin RE} (h : a * b = 0) : a = 0 ∨ b = 0 := by
  by_cases ha : a = 0
  · exact Or.inl ha
  · have h2 := ginv_mul ha
    generalize ginv a = i at *
    exact Or.inr (by grobner)
theorem Gcancel {a b c : Fin RE} (ha : a ≠ 0) (h : b * a = c * a) : b = c := by
  have h2 := ginv_mul ha
  generalize ginv a = i at *
  grobner
theorem g1_ne : (1 : Fin RE) ≠ 0 := by decide +kernel
theorem g2_ne : (2 : Fin RE) ≠ 0 := by decide +kernel
/-- What to the half of R - 1 isn't 1 is no square. -/
theorem nosq {a : Fin RE} (h0 : a ≠ 0) (h : gpow a 144115188143882240 ≠ 1) (x : Fin RE) : x * x ≠ a := fun e => by
  apply h
  have hx : x ≠ 0 := fun e' => by subst e'; apply h0; rw [← e]; grobner
  rw [← e, gpow_sq, ← gpow_add]
  exact fermatG x hx
theorem pow_fin {a r : Nat} {e : Nat} (h : e < 2 ^ 64) (hr : powm RE 64 a e = r) (x : Fin RE) (hx : x.val = a) : (gpow x e).val = r := by
  rw [gpow_val, hx, ← powm_eq RE 64 a e h]
  exact hr
theorem d_nosq : ∀ x : Fin RE, x * x ≠ 439 := nosq (by decide +kernel) (fun h => by
  have e := pow_fin (a := 439) (r := RE - 1) (e := 144115188143882240) (by decide +kernel) (by decide +kernel) 439 rfl
  rw [h] at e
  revert e
  decide +kernel)
theorem d1_nosq : ∀ x : Fin RE, x * x ≠ 440 := nosq (by decide +kernel) (fun h => by
  have e := pow_fin (a := 440) (r := RE - 1) (e := 144115188143882240) (by decide +kernel) (by decide +kernel) 440 rfl
  rw [h] at e
  revert e
  decide +kernel)
/-- A root of -1. -/
def gi : Fin RE := 263209301981812971
theorem gi_sq : gi * gi = -1 := by decide +kernel

/-! Points -/
abbrev Ep : Type := Fin RE × Fin RE
def onG (u : Ep) : Prop := u.2 * u.2 = 1 + u.1 * u.1 + 439 * (u.1 * u.1 * (u.2 * u.2))
def gk (u v : Ep) : Fin RE := 439 * (u.1 * v.1 * (u.2 * v.2))
def gadd (u v : Ep) : Ep := ((u.1 * v.2 + u.2 * v.1) * ginv (1 + gk u v), (u.2 * v.2 + u.1 * v.1) * ginv (1 - gk u v))
def gzero : Ep := (0, 1)
def gneg (u : Ep) : Ep := (0 - u.1, u.2)
def Gsum (u v t : Ep) : Prop := t.1 * (1 + gk u v) = u.1 * v.2 + u.2 * v.1 ∧ t.2 * (1 - gk u v) = u.2 * v.2 + u.1 * v.1

theorem sq_quot {d x y : Fin RE} (hy : y ≠ 0) (h : x * x = d * (y * y)) : (x * ginv y) * (x * ginv y) = d := by
  have h2 := ginv_mul hy
  generalize ginv y = i at *
  grobner
theorem gcomplete {x1 y1 x2 y2 k : Fin RE} (h1 : y1 * y1 = 1 + x1 * x1 + 439 * (x1 * x1 * (y1 * y1))) (h2 : y2 * y2 = 1 + x2 * x2 + 439 * (x2 * x2 * (y2 * y2)))
    (hk : k = 439 * (x1 * x2 * (y1 * y2))) : k * k ≠ 1 := by
  intro h
  have hi := gi_sq
  generalize gi = i at hi
  have dns := d_nosq
  generalize (439 : Fin RE) = d at *
  have e0 : d * (x1 * x1 * (y1 * y1)) * (y2 * y2 - x2 * x2) = y1 * y1 - x1 * x1 := by
    have a1 : y2 * y2 - x2 * x2 = 1 + d * (x2 * x2 * (y2 * y2)) := by clear h1 hk h hi; grobner
    have a2 : d * (x1 * x1 * (y1 * y1)) * (d * (x2 * x2 * (y2 * y2))) = 1 := by rw [← h, hk]; clear h1 h2 hk h hi a1; grobner
    rw [a1]
    have a3 : d * (x1 * x1 * (y1 * y1)) * (1 + d * (x2 * x2 * (y2 * y2))) = d * (x1 * x1 * (y1 * y1)) + 1 := by
      have : d * (x1 * x1 * (y1 * y1)) * (1 + d * (x2 * x2 * (y2 * y2))) = d * (x1 * x1 * (y1 * y1)) + d * (x1 * x1 * (y1 * y1)) * (d * (x2 * x2 * (y2 * y2))) := by clear h1 h2 hk h hi a1 a2; grobner
      rw [this, a2]
    rw [a3]
    clear h2 hk h hi a1 a2 a3
    grobner
  have ep : (i * x1 + k * y1) * (i * x1 + k * y1) = d * ((x1 * y1 * (i * x2 + y2)) * (x1 * y1 * (i * x2 + y2))) := by
    have l : (i * x1 + k * y1) * (i * x1 + k * y1) = i * i * (x1 * x1) + k * k * (y1 * y1) + 2 * i * x1 * y1 * k := by clear h1 h2 hk h hi e0; grobner
    have r : d * ((x1 * y1 * (i * x2 + y2)) * (x1 * y1 * (i * x2 + y2))) = d * (x1 * x1 * (y1 * y1)) * (i * i * (x2 * x2) + y2 * y2) + 2 * i * x1 * y1 * (d * (x1 * x2 * (y1 * y2))) := by clear h1 h2 hk h hi e0 l; grobner
    rw [l, r, hi, h, ← hk]
    have e1 : d * (x1 * x1 * (y1 * y1)) * (-1 * (x2 * x2) + y2 * y2) = d * (x1 * x1 * (y1 * y1)) * (y2 * y2 - x2 * x2) := by clear h1 h2 hk h hi e0 l r; grobner
    rw [e1, e0]
    clear h1 h2 hk h hi e0 l r e1
    grobner
  have em : (i * x1 - k * y1) * (i * x1 - k * y1) = d * ((x1 * y1 * (i * x2 - y2)) * (x1 * y1 * (i * x2 - y2))) := by
    have l : (i * x1 - k * y1) * (i * x1 - k * y1) = i * i * (x1 * x1) + k * k * (y1 * y1) - 2 * i * x1 * y1 * k := by clear h1 h2 hk h hi e0 ep; grobner
    have r : d * ((x1 * y1 * (i * x2 - y2)) * (x1 * y1 * (i * x2 - y2))) = d * (x1 * x1 * (y1 * y1)) * (i * i * (x2 * x2) + y2 * y2) - 2 * i * x1 * y1 * (d * (x1 * x2 * (y1 * y2))) := by clear h1 h2 hk h hi e0 ep l; grobner
    rw [l, r, hi, h, ← hk]
    have e1 : d * (x1 * x1 * (y1 * y1)) * (-1 * (x2 * x2) + y2 * y2) = d * (x1 * x1 * (y1 * y1)) * (y2 * y2 - x2 * x2) := by clear h1 h2 hk h hi e0 ep l r; grobner
    rw [e1, e0]
    clear h1 h2 hk h hi e0 ep l r e1
    grobner
  have z1 : x1 * y1 * (i * x2 + y2) = 0 := Classical.byContradiction fun hn => dns _ (sq_quot hn ep)
  have z2 : x1 * y1 * (i * x2 - y2) = 0 := Classical.byContradiction fun hn => dns _ (sq_quot hn em)
  have k0 : k = 0 := by
    have : (2 : Fin RE) * k = 0 := by rw [hk]; clear h1 h2 hk h hi e0 ep em; grobner
    rcases Gmul_zero this with h | h
    · exact absurd h g2_ne
    · exact h
  rw [k0] at h
  exact g1_ne (by rw [← h]; grobner)
theorem gden1 {u v : Ep} (hu : onG u) (hv : onG v) : 1 + gk u v ≠ 0 := fun e => by
  refine gcomplete hu hv (k := gk u v) rfl ?_
  generalize gk u v = k at *
  grobner
theorem gden2 {u v : Ep} (hu : onG u) (hv : onG v) : 1 - gk u v ≠ 0 := fun e => by
  refine gcomplete hu hv (k := gk u v) rfl ?_
  generalize gk u v = k at *
  grobner
theorem Gsum_add {u v : Ep} (hu : onG u) (hv : onG v) : Gsum u v (gadd u v) := by
  have h1 := ginv_mul (gden1 hu hv)
  have h2 := ginv_mul (gden2 hu hv)
  unfold Gsum gadd
  dsimp only
  generalize gk u v = k at *
  generalize ginv (1 + k) = i at *
  generalize ginv (1 - k) = j at *
  constructor
  · clear h2; generalize u.1 * v.2 + u.2 * v.1 = n; grobner
  · clear h1; generalize u.2 * v.2 + u.1 * v.1 = n; grobner
theorem Gsum_unique {u v t t' : Ep} (hu : onG u) (hv : onG v) (h : Gsum u v t) (h' : Gsum u v t') : t = t' :=
  Prod.ext (Gcancel (gden1 hu hv) (h.1.trans h'.1.symm)) (Gcancel (gden2 hu hv) (h.2.trans h'.2.symm))
end Ob

namespace Ob
set_option linter.unusedVariables false
set_option linter.unusedSimpArgs false

theorem ge_on {x1 y1 x2 y2 d : Fin RE} (h1 : y1 * y1 = 1 + x1 * x1 + d * (x1 * x1 * (y1 * y1))) (h2 : y2 * y2 = 1 + x2 * x2 + d * (x2 * x2 * (y2 * y2))) :
    (y1 * y2 + x1 * x2) * (y1 * y2 + x1 * x2) * ((1 + d * (x1 * x2 * (y1 * y2))) * (1 + d * (x1 * x2 * (y1 * y2))))
    = ((1 + d * (x1 * x2 * (y1 * y2))) * (1 - d * (x1 * x2 * (y1 * y2)))) * ((1 + d * (x1 * x2 * (y1 * y2))) * (1 - d * (x1 * x2 * (y1 * y2))))
      + (x1 * y2 + y1 * x2) * (x1 * y2 + y1 * x2) * ((1 - d * (x1 * x2 * (y1 * y2))) * (1 - d * (x1 * x2 * (y1 * y2))))
      + d * ((x1 * y2 + y1 * x2) * (x1 * y2 + y1 * x2) * ((y1 * y2 + x1 * x2) * (y1 * y2 + x1 * x2))) := by
  grobner
theorem ge_x {x1 y1 x2 y2 x3 y3 d : Fin RE}
    (h1 : y1 * y1 = 1 + x1 * x1 + d * (x1 * x1 * (y1 * y1))) (h2 : y2 * y2 = 1 + x2 * x2 + d * (x2 * x2 * (y2 * y2))) (h3 : y3 * y3 = 1 + x3 * x3 + d * (x3 * x3 * (y3 * y3))) :
    ((x1 * y2 + y1 * x2) * (1 - d * (x1 * x2 * (y1 * y2))) * y3 + (y1 * y2 + x1 * x2) * (1 + d * (x1 * x2 * (y1 * y2))) * x3) * ((1 + d * (x2 * x3 * (y2 * y3))) * (1 - d * (x2 * x3 * (y2 * y3))) + d * ((x2 * y3 + y2 * x3) * (y2 * y3 + x2 * x3) * x1 * y1))
    = (x1 * (y2 * y3 + x2 * x3) * (1 + d * (x2 * x3 * (y2 * y3))) + y1 * (x2 * y3 + y2 * x3) * (1 - d * (x2 * x3 * (y2 * y3)))) * ((1 + d * (x1 * x2 * (y1 * y2))) * (1 - d * (x1 * x2 * (y1 * y2))) + d * ((x1 * y2 + y1 * x2) * (y1 * y2 + x1 * x2) * x3 * y3)) := by
  grobner
theorem ge_y {x1 y1 x2 y2 x3 y3 d : Fin RE}
    (h1 : y1 * y1 = 1 + x1 * x1 + d * (x1 * x1 * (y1 * y1))) (h2 : y2 * y2 = 1 + x2 * x2 + d * (x2 * x2 * (y2 * y2))) (h3 : y3 * y3 = 1 + x3 * x3 + d * (x3 * x3 * (y3 * y3))) :
    ((y1 * y2 + x1 * x2) * (1 + d * (x1 * x2 * (y1 * y2))) * y3 + (x1 * y2 + y1 * x2) * (1 - d * (x1 * x2 * (y1 * y2))) * x3) * ((1 + d * (x2 * x3 * (y2 * y3))) * (1 - d * (x2 * x3 * (y2 * y3))) - d * ((x2 * y3 + y2 * x3) * (y2 * y3 + x2 * x3) * x1 * y1))
    = (y1 * (y2 * y3 + x2 * x3) * (1 + d * (x2 * x3 * (y2 * y3))) + x1 * (x2 * y3 + y2 * x3) * (1 - d * (x2 * x3 * (y2 * y3)))) * ((1 + d * (x1 * x2 * (y1 * y2))) * (1 - d * (x1 * x2 * (y1 * y2))) - d * ((x1 * y2 + y1 * x2) * (y1 * y2 + x1 * x2) * x3 * y3)) := by
  grobner
end Ob

namespace Ob
set_option linter.unusedVariables false
set_option linter.unusedSimpArgs false

theorem quot_on {t1 t2 a b n1 n2 d : Fin RE} (h1 : t1 * a = n1) (h2 : t2 * b = n2) (ha : a ≠ 0) (hb : b ≠ 0)
    (h : n2 * n2 * (a * a) = (a * b) * (a * b) + n1 * n1 * (b * b) + d * (n1 * n1 * (n2 * n2))) : t2 * t2 = 1 + t1 * t1 + d * (t1 * t1 * (t2 * t2)) := by
  subst h1 h2
  refine Gcancel ha (Gcancel ha (Gcancel hb (Gcancel hb ?_)))
  clear ha hb
  grobner
theorem onG_add {u v : Ep} (hu : onG u) (hv : onG v) : onG (gadd u v) := by
  have h := Gsum_add hu hv
  have e := ge_on hu hv
  exact quot_on h.1 h.2 (gden1 hu hv) (gden2 hu hv) e
theorem onG_zero : onG gzero := by show (1 : Fin RE) * 1 = 1 + 0 * 0 + 439 * (0 * 0 * (1 * 1)); decide +kernel
theorem onG_neg {u : Ep} (hu : onG u) : onG (gneg u) := by
  unfold onG gneg at *
  dsimp only at *
  generalize u.1 = x at *
  generalize u.2 = y at *
  generalize (439 : Fin RE) = d at *
  grobner
theorem gk_comm (u v : Ep) : gk u v = gk v u := by
  unfold gk
  generalize u.1 = a; generalize u.2 = b; generalize v.1 = c; generalize v.2 = e; generalize (439 : Fin RE) = d
  grobner
theorem gadd_comm (u v : Ep) : gadd u v = gadd v u := by
  unfold gadd
  rw [gk_comm u v]
  generalize gk v u = k
  refine Prod.ext ?_ ?_
  · show (u.1 * v.2 + u.2 * v.1) * ginv (1 + k) = (v.1 * u.2 + v.2 * u.1) * ginv (1 + k)
    generalize ginv (1 + k) = i; generalize u.1 = a; generalize u.2 = b; generalize v.1 = c; generalize v.2 = e
    grobner
  · show (u.2 * v.2 + u.1 * v.1) * ginv (1 - k) = (v.2 * u.2 + v.1 * u.1) * ginv (1 - k)
    generalize ginv (1 - k) = i; generalize u.1 = a; generalize u.2 = b; generalize v.1 = c; generalize v.2 = e
    grobner
theorem gadd_zero {u : Ep} (hu : onG u) : gadd u gzero = u := by
  refine Gsum_unique hu onG_zero (Gsum_add hu onG_zero) ?_
  unfold Gsum gk gzero
  dsimp only
  generalize u.1 = a; generalize u.2 = b; generalize (439 : Fin RE) = d
  constructor <;> grobner
theorem zero_gadd {u : Ep} (hu : onG u) : gadd gzero u = u := by rw [gadd_comm]; exact gadd_zero hu
theorem gadd_neg {u : Ep} (hu : onG u) : gadd u (gneg u) = gzero := by
  refine Gsum_unique hu (onG_neg hu) (Gsum_add hu (onG_neg hu)) ?_
  unfold onG at hu
  unfold Gsum gk gzero gneg
  dsimp only
  generalize u.1 = a at *; generalize u.2 = b at *; generalize (439 : Fin RE) = d at *
  constructor
  · clear hu; grobner
  · grobner
/-- One coordinate of a sum of a sum. -/
theorem gnest1 {p1 p2 k n1 n2 w1 w2 t d : Fin RE} (e1 : p1 * (1 + k) = n1) (e2 : p2 * (1 - k) = n2) (h : t * (1 + d * (p1 * w1 * (p2 * w2))) = p1 * w2 + p2 * w1) :
    t * ((1 + k) * (1 - k) + d * (n1 * n2 * w1 * w2)) = n1 * (1 - k) * w2 + n2 * (1 + k) * w1 := by
  subst e1 e2
  have : t * ((1 + k) * (1 - k) + d * (p1 * (1 + k) * (p2 * (1 - k)) * w1 * w2)) = t * (1 + d * (p1 * w1 * (p2 * w2))) * ((1 + k) * (1 - k)) := by clear h; grobner
  rw [this, h]; clear h this; grobner
theorem gnest2 {p1 p2 k n1 n2 w1 w2 t d : Fin RE} (e1 : p1 * (1 + k) = n1) (e2 : p2 * (1 - k) = n2) (h : t * (1 - d * (p1 * w1 * (p2 * w2))) = p2 * w2 + p1 * w1) :
    t * ((1 + k) * (1 - k) - d * (n1 * n2 * w1 * w2)) = n2 * (1 + k) * w2 + n1 * (1 - k) * w1 := by
  subst e1 e2
  have : t * ((1 + k) * (1 - k) - d * (p1 * (1 + k) * (p2 * (1 - k)) * w1 * w2)) = t * (1 - d * (p1 * w1 * (p2 * w2))) * ((1 + k) * (1 - k)) := by clear h; grobner
  rw [this, h]; clear h this; grobner
theorem gnestne1 {p1 p2 k n1 n2 w1 w2 d : Fin RE} (e1 : p1 * (1 + k) = n1) (e2 : p2 * (1 - k) = n2) (h1 : 1 + k ≠ 0) (h2 : 1 - k ≠ 0) (h : 1 + d * (p1 * w1 * (p2 * w2)) ≠ 0) :
    (1 + k) * (1 - k) + d * (n1 * n2 * w1 * w2) ≠ 0 := fun e => by
  subst e1 e2
  have : (1 + k) * ((1 - k) * (1 + d * (p1 * w1 * (p2 * w2)))) = 0 := by rw [← e]; clear e; grobner
  rcases Gmul_zero this with a | a
  · exact h1 a
  rcases Gmul_zero a with a | a
  · exact h2 a
  · exact h a
theorem gnestne2 {p1 p2 k n1 n2 w1 w2 d : Fin RE} (e1 : p1 * (1 + k) = n1) (e2 : p2 * (1 - k) = n2) (h1 : 1 + k ≠ 0) (h2 : 1 - k ≠ 0) (h : 1 - d * (p1 * w1 * (p2 * w2)) ≠ 0) :
    (1 + k) * (1 - k) - d * (n1 * n2 * w1 * w2) ≠ 0 := fun e => by
  subst e1 e2
  have : (1 + k) * ((1 - k) * (1 - d * (p1 * w1 * (p2 * w2)))) = 0 := by rw [← e]; clear e; grobner
  rcases Gmul_zero this with a | a
  · exact h1 a
  rcases Gmul_zero a with a | a
  · exact h2 a
  · exact h a
theorem gcross {t t' D D' N N' : Fin RE} (h : t * D = N) (h' : t' * D' = N') (e : N * D' = N' * D) (hD : D ≠ 0) (hD' : D' ≠ 0) : t = t' := by
  refine Gcancel hD (Gcancel hD' ?_)
  subst h h'
  clear hD hD'
  grobner
theorem gadd_assoc {u v w : Ep} (hu : onG u) (hv : onG v) (hw : onG w) : gadd (gadd u v) w = gadd u (gadd v w) := by
  have hp := onG_add hu hv
  have hq := onG_add hv hw
  have h1 := Gsum_add hu hv
  have h2 := Gsum_add hp hw
  have h3 := Gsum_add hv hw
  have h4 := Gsum_add hq hu
  rw [gadd_comm u (gadd v w)]
  have dp1 := gden1 hp hw; have dp2 := gden2 hp hw; have dq1 := gden1 hq hu; have dq2 := gden2 hq hu
  have du1 := gden1 hu hv; have du2 := gden2 hu hv; have dv1 := gden1 hv hw; have dv2 := gden2 hv hw
  have ex := ge_x hu hv hw
  have ey := ge_y hu hv hw
  generalize gadd (gadd u v) w = t at *
  generalize gadd (gadd v w) u = t' at *
  generalize gadd u v = p at *
  generalize gadd v w = q at *
  obtain ⟨x1, y1⟩ := u; obtain ⟨x2, y2⟩ := v; obtain ⟨x3, y3⟩ := w
  obtain ⟨p1, p2⟩ := p; obtain ⟨q1, q2⟩ := q; obtain ⟨t1, t2⟩ := t; obtain ⟨s1, s2⟩ := t'
  dsimp only [Gsum, onG, gk] at *
  generalize (439 : Fin RE) = d at *
  refine Prod.ext ?_ ?_
  · refine gcross (gnest1 h1.1 h1.2 h2.1) (gnest1 h3.1 h3.2 h4.1) ?_ (gnestne1 h1.1 h1.2 du1 du2 dp1) (gnestne1 h3.1 h3.2 dv1 dv2 dq1)
    clear h1 h2 h3 h4 dp1 dp2 dq1 dq2 du1 du2 dv1 dv2 hu hv hw hp hq ey
    refine (Eq.trans ?_ ex).trans ?_ <;> (clear ex; grobner)
  · refine gcross (gnest2 h1.1 h1.2 h2.2) (gnest2 h3.1 h3.2 h4.2) ?_ (gnestne2 h1.1 h1.2 du1 du2 dp2) (gnestne2 h3.1 h3.2 dv1 dv2 dq2)
    clear h1 h2 h3 h4 dp1 dp2 dq1 dq2 du1 du2 dv1 dv2 hu hv hw hp hq ex
    refine (Eq.trans ?_ ey).trans ?_ <;> (clear ey; grobner)
end Ob

namespace Ob
set_option linter.unusedVariables false
set_option linter.unusedSimpArgs false

def gmul (u : Ep) : Nat → Ep
  | 0 => gzero
  | n + 1 => gadd (gmul u n) u
theorem onG_mul {u : Ep} (hu : onG u) : ∀ n, onG (gmul u n)
  | 0 => onG_zero
  | n + 1 => onG_add (onG_mul hu n) hu
theorem gmul_one {u : Ep} (hu : onG u) : gmul u 1 = u := zero_gadd hu
theorem gmul_add {u : Ep} (hu : onG u) (m : Nat) : ∀ n, gmul u (m + n) = gadd (gmul u m) (gmul u n)
  | 0 => (gadd_zero (onG_mul hu m)).symm
  | n + 1 => by
    show gadd (gmul u (m + n)) u = gadd (gmul u m) (gadd (gmul u n) u)
    rw [gmul_add hu m n, gadd_assoc (onG_mul hu m) (onG_mul hu n) hu]
theorem gmul_zero : ∀ n, gmul gzero n = gzero
  | 0 => rfl
  | n + 1 => by
    show gadd (gmul gzero n) gzero = gzero
    rw [gmul_zero n, gadd_zero onG_zero]
theorem gmul_mul {u : Ep} (hu : onG u) (m : Nat) : ∀ n, gmul (gmul u m) n = gmul u (m * n)
  | 0 => rfl
  | n + 1 => by
    show gadd (gmul (gmul u m) n) (gmul u m) = gmul u (m * n + m)
    rw [gmul_mul hu m n, gmul_add hu]
theorem gmul_two {u : Ep} (hu : onG u) : gmul u 2 = gadd u u := by
  show gadd (gadd gzero u) u = gadd u u
  rw [zero_gadd hu]
theorem gadd_left {a b c : Ep} (ha : onG a) (hb : onG b) (hc : onG c) (h : gadd a b = gadd a c) : b = c := by
  have hn := onG_neg ha
  have e : ∀ q, onG q → gadd (gneg a) (gadd a q) = q := fun q hq => by
    rw [← gadd_assoc hn ha hq, gadd_comm (gneg a) a, gadd_neg ha, zero_gadd hq]
  rw [← e b hb, h, e c hc]
/-- A common divisor's multiple is 0 where both's are. -/
theorem gmul_gcd {u : Ep} (hu : onG u) (m n : Nat) : gmul u m = gzero → gmul u n = gzero → gmul u (Nat.gcd m n) = gzero := by
  induction m, n using Nat.gcd.induction with
  | H0 n => intro _ h; rwa [Nat.gcd_zero_left]
  | H1 m n hm ih =>
    intro h1 h2
    rw [Nat.gcd_rec]
    refine ih ?_ h1
    have e : n = m * (n / m) + n % m := (Nat.div_add_mod n m).symm
    rw [e, gmul_add hu, ← gmul_mul hu, h1, gmul_zero, zero_gadd (onG_mul hu _)] at h2
    have e2 : (m * (n / m) + n % m) % m = n % m := by rw [Nat.mul_add_mod, Nat.mod_mod]
    exact h2

/-! All of them, added up -/
def gsum : List Ep → Ep
  | [] => gzero
  | a :: l => gadd a (gsum l)
theorem onG_sum (l : List Ep) (h : ∀ q ∈ l, onG q) : onG (gsum l) := by
  induction l with
  | nil => exact onG_zero
  | cons a l ih => exact onG_add (h a (by simp)) (ih fun q hq => h q (by simp [hq]))
theorem gsum_perm {l l' : List Ep} (p : l.Perm l') : (∀ q ∈ l, onG q) → gsum l = gsum l' := by
  induction p with
  | nil => intro _; rfl
  | cons a p ih => intro h; show gadd a _ = gadd a _; rw [ih fun q hq => h q (by simp [hq])]
  | swap a b l =>
    intro h
    have ha := h a (by simp); have hb := h b (by simp)
    have hl := onG_sum l fun q hq => h q (by simp [hq])
    show gadd b (gadd a (gsum l)) = gadd a (gadd b (gsum l))
    rw [← gadd_assoc hb ha hl, ← gadd_assoc ha hb hl, gadd_comm a b]
  | trans p1 p2 ih1 ih2 => intro h; rw [ih1 h, ih2 fun q hq => h q (p1.mem_iff.mpr hq)]
theorem gsum_shift {a : Ep} (ha : onG a) (l : List Ep) : (∀ q ∈ l, onG q) → gsum (l.map (gadd a)) = gadd (gmul a l.length) (gsum l) := by
  induction l with
  | nil => intro _; show gzero = gadd gzero gzero; rw [gadd_zero onG_zero]
  | cons b l ih =>
    intro h
    have hb := h b (by simp)
    have hl : ∀ q ∈ l, onG q := fun q hq => h q (by simp [hq])
    have hs := onG_sum l hl
    have hm := onG_mul ha l.length
    show gadd (gadd a b) (gsum (l.map (gadd a))) = gadd (gadd (gmul a l.length) a) (gadd b (gsum l))
    rw [ih hl, ← gadd_assoc (onG_add ha hb) hm hs, ← gadd_assoc (onG_add hm ha) hb hs, gadd_comm (gadd a b) (gmul a l.length), gadd_assoc hm ha hb]
theorem gorder_of (L : List Ep) (nd : L.Nodup) (on : ∀ q, onG q ↔ q ∈ L) {a : Ep} (ha : onG a) : gmul a L.length = gzero := by
  have hL : ∀ q ∈ L, onG q := fun q hq => (on q).mpr hq
  have nd' : (L.map (gadd a)).Nodup := by
    rw [List.Nodup, List.pairwise_map]
    refine List.Pairwise.imp_of_mem ?_ nd
    intro b c hb hc hbc e
    exact hbc (gadd_left ha (hL b hb) (hL c hc) e)
  have p : (L.map (gadd a)).Perm L := by
    rw [List.perm_ext_iff_of_nodup nd' nd]
    intro q
    rw [List.mem_map]
    constructor
    · rintro ⟨b, hb, rfl⟩
      exact (on _).mp (onG_add ha (hL b hb))
    · intro hq
      have hn := onG_neg ha
      refine ⟨gadd (gneg a) q, (on _).mp (onG_add hn (hL q hq)), ?_⟩
      rw [← gadd_assoc ha hn (hL q hq), gadd_neg ha, zero_gadd (hL q hq)]
  have hs := onG_sum L hL
  have e := gsum_perm p fun q hq => hL q (p.mem_iff.mp hq)
  rw [gsum_shift ha L hL] at e
  refine gadd_left hs (onG_mul ha _) onG_zero ?_
  rw [gadd_comm (gsum L) (gmul a L.length), e, gadd_zero hs]

/-! A list of all, of at most 2 R -/
theorem roots_of (y : Fin RE) : ∃ l : List (Fin RE), l.length ≤ 2 ∧ l.Nodup ∧ ∀ x, onG (x, y) ↔ x ∈ l := by
  by_cases h : ∃ x, onG (x, y)
  · obtain ⟨x, hx⟩ := h
    have two : ∀ x', onG (x', y) → x' = x ∨ x' = 0 - x := fun x' hx' => by
      have hd : 1 + 439 * (y * y) ≠ 0 := fun e => by
        have hi := gi_sq
        -- -1 is a square, 439 isn't: y y 439 = -1
        by_cases hy : y = 0
        · subst hy
          exact g1_ne (by rw [← e]; decide +kernel)
        · have e2 : gi * gi = 439 * (y * y) := by rw [hi]; generalize (439 : Fin RE) * (y * y) = q at e; clear hx hx' hi; grobner
          exact d_nosq _ (sq_quot hy e2)
      have e : (x' - x) * (x' + x) = 0 := by
        have : (x' - x) * (x' + x) * (1 + 439 * (y * y)) = 0 * (1 + 439 * (y * y)) := by
          unfold onG at hx hx'
          dsimp only at hx hx'
          generalize (439 : Fin RE) = d at *
          clear hd
          grobner
        exact Gcancel hd this
      rcases Gmul_zero e with h | h
      · left; clear hx hx' e hd; grobner
      · right; clear hx hx' e hd; grobner
    have neg : onG (0 - x, y) := onG_neg (u := (x, y)) hx
    by_cases h0 : 0 - x = x
    · refine ⟨[x], by simp, by simp, fun x' => ⟨fun h => ?_, fun h => ?_⟩⟩
      · rcases two x' h with h | h
        · simp [h]
        · rw [h0] at h; simp [h]
      · simp at h; rw [h]; exact hx
    · refine ⟨[x, 0 - x], by simp, ?_, fun x' => ⟨fun h => ?_, fun h => ?_⟩⟩
      · simp only [List.nodup_cons, List.mem_singleton, List.not_mem_nil, not_false_eq_true, List.nodup_nil, and_true]
        exact fun e => h0 e.symm
      · rcases two x' h with h | h
        · rw [h]; exact List.mem_cons_self
        · rw [h]; exact List.mem_cons_of_mem _ List.mem_cons_self
      · rcases List.mem_cons.1 h with h | h
        · rw [h]; exact hx
        · rw [List.mem_singleton.1 h]; exact neg
  · exact ⟨[], by simp, by simp, fun x => ⟨fun hx => absurd ⟨x, hx⟩ h, fun hx => by cases hx⟩⟩
theorem len_flat {α β : Type} (f : α → List β) (hf : ∀ a, (f a).length ≤ 2) : ∀ l : List α, (l.flatMap f).length ≤ 2 * l.length
  | [] => by simp
  | a :: l => by
    rw [List.flatMap_cons, List.length_append, List.length_cons]
    have := hf a
    have := len_flat f hf l
    omega
theorem all_points : ∃ L : List Ep, L.Nodup ∧ (∀ q, onG q ↔ q ∈ L) ∧ L.length ≤ 2 * RE := by
  have hr := fun y => roots_of y
  let r : Fin RE → List (Fin RE) := fun y => Classical.choose (hr y)
  have h1 : ∀ y, (r y).length ≤ 2 := fun y => (Classical.choose_spec (hr y)).1
  have h2 : ∀ y, (r y).Nodup := fun y => (Classical.choose_spec (hr y)).2.1
  have h3 : ∀ y x, onG (x, y) ↔ x ∈ r y := fun y => (Classical.choose_spec (hr y)).2.2
  clear_value r
  refine ⟨(List.finRange RE).flatMap fun y => (r y).map fun x => (x, y), ?_, ?_, ?_⟩
  · rw [List.Nodup, List.pairwise_flatMap]
    refine ⟨fun y _ => ?_, ?_⟩
    · rw [List.pairwise_map]
      exact List.Pairwise.imp (fun hab e => hab (congrArg Prod.fst e)) (h2 y)
    · refine List.Pairwise.imp ?_ (List.nodup_finRange RE)
      intro y y' hy p hp q hq e
      obtain ⟨a, _, rfl⟩ := List.mem_map.1 hp
      obtain ⟨b, _, rfl⟩ := List.mem_map.1 hq
      exact hy (congrArg Prod.snd e)
  · rintro ⟨x, y⟩
    rw [h3, List.mem_flatMap]
    constructor
    · intro h
      exact ⟨y, List.mem_finRange y, List.mem_map.2 ⟨x, h, rfl⟩⟩
    · rintro ⟨y', _, h⟩
      obtain ⟨a, ha, e⟩ := List.mem_map.1 h
      cases e
      exact ha
  · have := len_flat (fun y => (r y).map fun x => (x, y)) (fun y => by rw [List.length_map]; exact h1 y) (List.finRange RE)
    rwa [List.length_finRange] at this
end Ob

namespace Ob
set_option linter.unusedVariables false
set_option linter.unusedSimpArgs false

theorem modRE : Mod RE := ⟨by decide, by decide⟩
/-- The rest of a number by R. -/
def toG (n : Nat) : Fin RE := Fin.ofNat RE n
theorem toG_val (n : Nat) : (toG n).val = n % RE := rfl
theorem toG_of_val (x : Fin RE) : toG x.val = x := Fin.ext (Nat.mod_eq_of_lt x.isLt)
theorem G_word (x : Fin RE) : x.val < 18446744073709551616 := Nat.lt_trans x.isLt (by decide)
theorem addG (a b : Nat) : add RE a b = (toG a + toG b).val := by
  rw [add_yes modRE, Fin.val_add, toG_val, toG_val, ← Nat.add_mod]
theorem mulG (a b : Nat) : mul RE a b = (toG a * toG b).val := by
  rw [mul_yes modRE, Fin.val_mul, toG_val, toG_val, ← Nat.mul_mod]
theorem subG (a b : Nat) : sub RE a b = (toG a - toG b).val := by
  rw [sub_yes modRE, Fin.val_sub, toG_val, toG_val, Nat.add_comm]
theorem powG (b e : Nat) (he : e = RE - 2) : pow RE b e = (ginv (toG b)).val := by
  rw [pow_yes modRE, ginv_val, toG_val, ← he, ← Nat.pow_mod]
theorem toG_1 : toG 1 = 1 := rfl
theorem toG_439 : toG 439 = 439 := rfl
theorem toG_neg (b : Nat) : toG (RE - b % RE) = 0 - toG b := by
  apply Fin.ext
  rw [Fin.val_sub, toG_val, toG_val]
  rfl
/-- Whether a pair of numbers is a point. -/
def isG (x y : Nat) : Bool := decide (x < RE) && decide (y < RE) && decide (toG y * toG y = toG x * toG x + (1 + 439 * (toG x * toG x * (toG y * toG y))))
theorem isG_on {x y : Nat} (h : isG x y = true) : x = (toG x).val ∧ y = (toG y).val ∧ onG (toG x, toG y) := by
  simp only [isG, Bool.and_eq_true, decide_eq_true_eq] at h
  obtain ⟨⟨h1, h2⟩, h3⟩ := h
  refine ⟨(Nat.mod_eq_of_lt h1).symm, (Nat.mod_eq_of_lt h2).symm, ?_⟩
  show toG y * toG y = 1 + toG x * toG x + 439 * (toG x * toG x * (toG y * toG y))
  generalize toG x = a at *; generalize toG y = b at *
  grobner
theorem on_isG {u : Ep} (h : onG u) : isG u.1.val u.2.val = true := by
  obtain ⟨x, y⟩ := u
  simp only [isG, Bool.and_eq_true, decide_eq_true_eq, toG_of_val]
  refine ⟨⟨x.isLt, y.isLt⟩, ?_⟩
  have h' : y * y = 1 + x * x + 439 * (x * x * (y * y)) := h
  grobner
/-- What a pair of numbers counts as. -/
def ofG (x y : Nat) : Ep := if isG x y = true then (toG x, toG y) else gzero
theorem ofG_on (x y : Nat) : onG (ofG x y) := by
  by_cases h : isG x y = true
  · rw [ofG, if_pos h]; exact (isG_on h).2.2
  · rw [ofG, if_neg h]; exact onG_zero
theorem ofG_yes {x y : Nat} (h : isG x y = true) : x = (ofG x y).1.val ∧ y = (ofG x y).2.val := by
  rw [ofG, if_pos h]; exact ⟨(isG_on h).1, (isG_on h).2.1⟩
theorem ofG_no {x y : Nat} (h : isG x y = false) : ofG x y = gzero := by
  rw [ofG, if_neg (by rw [h]; decide)]
theorem ofG_val {u : Ep} (h : onG u) : ofG u.1.val u.2.val = u := by
  rw [ofG, if_pos (on_isG h), toG_of_val, toG_of_val]
end Ob

namespace Go.Proofs.YtckjojmphdoghaaDoor
open Go.RowKit Go.Proofs
set_option linter.unusedVariables false
set_option linter.unusedSimpArgs false

/-- A list of terms: where it lies, how long it is, its room; its variables and their factors. -/
structure Lst where
  ad : Option Addr
  n : Nat
  c : Nat
  V : Nat → Int
  K : Nat → Nat
/-- The list as a value. -/
def Lst.val (L : Lst) : Value := .slice L.ad L.n L.c
/-- n terms, from a place on. -/
structure TrmsIn (w : World) (b off n : Nat) (V : Nat → Int) (K : Nat → Nat) : Prop where
  lt : b < w.heap.size
  c0 : ∀ i, i < n → w.cell? ⟨b, off + i * 2, none⟩ = some (.int .i64 (V i))
  c1 : ∀ i, i < n → w.cell? ⟨b, off + i * 2 + 1, none⟩ = some (.int .u64 (K i : Nat))
theorem TrmsIn.below {w w1 : World} {B b off n : Nat} {V : Nat → Int} {K : Nat → Nat} (t : TrmsIn w b off n V K) (hb : Below B w w1) (h : b < B) : TrmsIn w1 b off n V K :=
  ⟨Nat.lt_of_lt_of_le t.lt hb.size, fun i hi => by rw [(bcell hb).1 b _ h]; exact t.c0 i hi, fun i hi => by rw [(bcell hb).1 b _ h]; exact t.c1 i hi⟩
/-- A slice of n terms that lies below block B, or has none. -/
def TrmsAt (B : Nat) (w : World) (a : Option Addr) (n : Nat) (V : Nat → Int) (K : Nat → Nat) : Prop := n = 0 ∨ ∃ b off : Nat, a = some ⟨b, off, none⟩ ∧ b < B ∧ TrmsIn w b off n V K
theorem TrmsAt.below {B : Nat} {w w1 : World} {a : Option Addr} {n : Nat} {V : Nat → Int} {K : Nat → Nat} (t : TrmsAt B w a n V K) (hb : Below B w w1) : TrmsAt B w1 a n V K := by
  rcases t with h | ⟨b, off, rfl, hl, t⟩
  · exact Or.inl h
  · exact Or.inr ⟨b, off, rfl, hl, t.below hb hl⟩
theorem TrmsAt.mono {B C : Nat} {w : World} {a : Option Addr} {n : Nat} {V : Nat → Int} {K : Nat → Nat} (t : TrmsAt B w a n V K) (hc : B ≤ C) : TrmsAt C w a n V K := by
  rcases t with h | ⟨b, off, rfl, hl, t⟩
  · exact Or.inl h
  · exact Or.inr ⟨b, off, rfl, by omega, t⟩
theorem TrmsAt.to {B : Nat} {w w1 : World} {a : Option Addr} {n : Nat} {V : Nat → Int} {K : Nat → Nat} (t : TrmsAt B w a n V K) (hb : Below B w w1) (hB : B ≤ w.heap.size) : TrmsAt w1.heap.size w1 a n V K := (t.below hb).mono (Nat.le_trans hB hb.size)
/-- A list lies in memory, below block B. -/
def Lst.At (L : Lst) (B : Nat) (w : World) : Prop := TrmsAt B w L.ad L.n L.V L.K
/-- Its numbers are words, its variables integers of 64 bits. -/
structure Lst.Ok (L : Lst) : Prop where
  V1 : ∀ i, -9223372036854775808 ≤ L.V i
  V2 : ∀ i, L.V i < 9223372036854775808
  K1 : ∀ i, L.K i < 18446744073709551616
  n1 : L.n ≤ L.c
  n2 : L.c ≤ 9223372036854775807
/-- m rows of three lists each. -/
structure RowsIn (B : Nat) (w : World) (b off m : Nat) (R : Nat → Nat → Lst) : Prop where
  lt : b < B
  cell : ∀ i, i < m → ∀ j, j < 3 → w.cell? ⟨b, off + i * 3 + j, none⟩ = some (R i j).val
  at_ : ∀ i, i < m → ∀ j, j < 3 → (R i j).At B w
/-- A slice of rows that lies below block B, or has none. -/
def RowsAt (B : Nat) (w : World) (a : Option Addr) (m : Nat) (R : Nat → Nat → Lst) : Prop := m = 0 ∨ ∃ b off : Nat, a = some ⟨b, off, none⟩ ∧ RowsIn B w b off m R
theorem RowsIn.below {B : Nat} {w w1 : World} {b off m : Nat} {R : Nat → Nat → Lst} (t : RowsIn B w b off m R) (hb : Below B w w1) : RowsIn B w1 b off m R :=
  ⟨t.lt, fun i hi j hj => by rw [(bcell hb).1 b _ t.lt]; exact t.cell i hi j hj, fun i hi j hj => TrmsAt.below (t.at_ i hi j hj) hb⟩
theorem RowsIn.mono {B C : Nat} {w : World} {b off m : Nat} {R : Nat → Nat → Lst} (t : RowsIn B w b off m R) (hc : B ≤ C) : RowsIn C w b off m R :=
  ⟨Nat.lt_of_lt_of_le t.lt hc, t.cell, fun i hi j hj => TrmsAt.mono (t.at_ i hi j hj) hc⟩
theorem RowsAt.below {B : Nat} {w w1 : World} {a : Option Addr} {m : Nat} {R : Nat → Nat → Lst} (t : RowsAt B w a m R) (hb : Below B w w1) : RowsAt B w1 a m R := by
  rcases t with h | ⟨b, off, rfl, t⟩
  · exact Or.inl h
  · exact Or.inr ⟨b, off, rfl, t.below hb⟩
theorem RowsAt.mono {B C : Nat} {w : World} {a : Option Addr} {m : Nat} {R : Nat → Nat → Lst} (t : RowsAt B w a m R) (hc : B ≤ C) : RowsAt C w a m R := by
  rcases t with h | ⟨b, off, rfl, t⟩
  · exact Or.inl h
  · exact Or.inr ⟨b, off, rfl, t.mono hc⟩
theorem RowsAt.to {B : Nat} {w w1 : World} {a : Option Addr} {m : Nat} {R : Nat → Nat → Lst} (t : RowsAt B w a m R) (hb : Below B w w1) (hB : B ≤ w.heap.size) : RowsAt w1.heap.size w1 a m R := (t.below hb).mono (Nat.le_trans hB hb.size)
/-- A system of rows as a value. -/
def rankV (vars pubs : Int) (a : Option Addr) (m c : Nat) : Value := .agg #[.int .i64 vars, .int .i64 pubs, .slice a m c]

/-! ### What the document says of them -/
/-- The variable ahead of a list's i-th. -/
def prevV (L : Lst) : Nat → Int
  | 0 => -1
  | i + 1 => L.V i
/-- Is the i-th term of a list one of a sound list? -/
def okT (vars : Int) (L : Lst) (i : Nat) : Bool := decide (prevV L i < L.V i ∧ L.V i < vars ∧ L.K i ≠ 0 ∧ L.K i < 288230376287764481)
/-- Are the first n terms? -/
def soundN (vars : Int) (L : Lst) : Nat → Bool
  | 0 => true
  | n + 1 => soundN vars L n && okT vars L n
def soundB (vars : Int) (L : Lst) : Bool := soundN vars L L.n
/-- A term that isn't one of a sound list spoils it. -/
theorem soundN_not {vars : Int} {L : Lst} {n : Nat} (h : okT vars L n = false) : ∀ {m : Nat}, n < m → soundN vars L m = false
  | m + 1, hm => by
    show (soundN vars L m && okT vars L m) = false
    rcases Nat.lt_or_ge n m with h2 | h2
    · rw [soundN_not h h2]; rfl
    · obtain rfl : n = m := by omega
      rw [h, Bool.and_false]
/-- Are the first i rows sound? -/
def soundR (vars : Int) (R : Nat → Nat → Lst) : Nat → Bool
  | 0 => true
  | i + 1 => soundR vars R i && (soundB vars (R i 0) && (soundB vars (R i 1) && soundB vars (R i 2)))
theorem soundR_not {vars : Int} {R : Nat → Nat → Lst} {n : Nat} (h : (soundB vars (R n 0) && (soundB vars (R n 1) && soundB vars (R n 2))) = false) : ∀ {m : Nat}, n < m → soundR vars R m = false
  | m + 1, hm => by
    show (soundR vars R m && _) = false
    rcases Nat.lt_or_ge n m with h2 | h2
    · rw [soundR_not h h2]; rfl
    · obtain rfl : n = m := by omega
      rw [h, Bool.and_false]
/-- Is a system's frame right, and is it sound? -/
def frameB (vars pubs : Int) (m : Nat) : Bool := decide (1 ≤ vars ∧ vars ≤ 4096 ∧ 0 ≤ pubs ∧ pubs ≤ vars - 1 ∧ m ≤ 4096)
def checkB (vars pubs : Int) (m : Nat) (R : Nat → Nat → Lst) : Bool := frameB vars pubs m && soundR vars R m
/-- A term's value by n values. -/
def termG (L : Lst) (n : Nat) (x : Nat → Nat) (i : Nat) : Fin Ob.RE := if 0 ≤ L.V i ∧ L.V i < (n : Int) then Ob.toG (L.K i) * Ob.toG (x (L.V i).toNat) else 0
/-- The value of a list's first k terms. -/
def valN (L : Lst) (n : Nat) (x : Nat → Nat) : Nat → Fin Ob.RE
  | 0 => 0
  | k + 1 => valN L n x k + termG L n x k
def valL (L : Lst) (n : Nat) (x : Nat → Nat) : Fin Ob.RE := valN L n x L.n
end Go.Proofs.YtckjojmphdoghaaDoor

namespace Go.Proofs.YtckjojmphdoghaaDoor
open Go.RowKit Go.Proofs
set_option linter.unusedVariables false
set_option linter.unusedSimpArgs false
/-- Are the first i numbers below R? -/
def lowN_ (x : Nat → Nat) : Nat → Bool
  | 0 => true
  | i + 1 => lowN_ x i && decide (x i < 288230376287764481)
theorem lowN_not {x : Nat → Nat} {n : Nat} (h : ¬ x n < 288230376287764481) : ∀ {m : Nat}, n < m → lowN_ x m = false
  | m + 1, hm => by
    show (lowN_ x m && _) = false
    rcases Nat.lt_or_ge n m with h2 | h2
    · rw [lowN_not h h2]; rfl
    · obtain rfl : n = m := by omega
      rw [decide_eq_false h, Bool.and_false]
/-- Are they values for so many variables? -/
def valuesB (vars : Int) (n : Nat) (x : Nat → Nat) : Bool := decide ((n : Int) = vars ∧ x 0 = 1) && lowN_ x n
/-- Does a row hold? -/
def rowB (R : Nat → Nat → Lst) (n : Nat) (x : Nat → Nat) (i : Nat) : Bool := decide (valL (R i 0) n x * valL (R i 1) n x = valL (R i 2) n x)
/-- Do the first i rows? -/
def rowsB (R : Nat → Nat → Lst) (n : Nat) (x : Nat → Nat) : Nat → Bool
  | 0 => true
  | i + 1 => rowsB R n x i && rowB R n x i
/-- What is amiss with values for a system, and where: the document's numbers. -/
def HoldIs (vars pubs : Int) (m : Nat) (R : Nat → Nat → Lst) (n : Nat) (x : Nat → Nat) (bad at_ : Int) : Prop :=
  (checkB vars pubs m R = false ∧ bad = 3 ∧ at_ = -1) ∨ (checkB vars pubs m R = true ∧ valuesB vars n x = false ∧ bad = 1 ∧ at_ = -1) ∨
  (checkB vars pubs m R = true ∧ valuesB vars n x = true ∧ (∃ i : Nat, i < m ∧ rowsB R n x i = true ∧ rowB R n x i = false ∧ bad = 8 ∧ at_ = (i : Int))) ∨
  (checkB vars pubs m R = true ∧ valuesB vars n x = true ∧ rowsB R n x m = true ∧ bad = 0 ∧ at_ = -1)
theorem rowsB_row {R : Nat → Nat → Lst} {n : Nat} {x : Nat → Nat} {i : Nat} : ∀ {m : Nat}, rowsB R n x m = true → i < m → rowB R n x i = true
  | m + 1, h, hi => by
    have h' : (rowsB R n x m && rowB R n x m) = true := h
    rw [Bool.and_eq_true] at h'
    rcases Nat.lt_or_ge i m with h2 | h2
    · exact rowsB_row h'.1 h2
    · obtain rfl : i = m := by omega
      exact h'.2
theorem HoldIs.at_bad {vars pubs : Int} {m : Nat} {R : Nat → Nat → Lst} {n : Nat} {x : Nat → Nat} {bad at_ : Int} (h : HoldIs vars pubs m R n x bad at_) (hc : checkB vars pubs m R = true) (hv : valuesB vars n x = true) {i : Nat} (hi : i < m) (h1 : rowsB R n x i = true) (h2 : rowB R n x i = false) : bad = 8 ∧ at_ = (i : Int) := by
  rcases h with h | ⟨_, h, _⟩ | ⟨_, _, j, hj, h3, h4, h5, h6⟩ | ⟨_, _, h3, _⟩
  · rw [hc] at h; cases h.1
  · rw [hv] at h; cases h
  · rcases Nat.lt_trichotomy i j with h7 | h7 | h7
    · rw [rowsB_row h3 h7] at h2; cases h2
    · subst h7; exact ⟨h5, h6⟩
    · rw [rowsB_row h1 h7] at h4; cases h4
  · rw [rowsB_row h3 hi] at h2; cases h2
theorem HoldIs.at_good {vars pubs : Int} {m : Nat} {R : Nat → Nat → Lst} {n : Nat} {x : Nat → Nat} {bad at_ : Int} (h : HoldIs vars pubs m R n x bad at_) (hc : checkB vars pubs m R = true) (hv : valuesB vars n x = true) (h1 : rowsB R n x m = true) : bad = 0 ∧ at_ = -1 := by
  rcases h with h | ⟨_, h, _⟩ | ⟨_, _, j, hj, h3, h4, h5, h6⟩ | ⟨_, _, h3, h4⟩
  · rw [hc] at h; cases h.1
  · rw [hv] at h; cases h
  · rw [rowsB_row h1 hj] at h4; cases h4
  · exact h4
theorem rows_first (R : Nat → Nat → Lst) (n : Nat) (x : Nat → Nat) : ∀ m, rowsB R n x m = true ∨ ∃ i, i < m ∧ rowsB R n x i = true ∧ rowB R n x i = false
  | 0 => Or.inl rfl
  | m + 1 => by
    rcases rows_first R n x m with h | ⟨i, h1, h2⟩
    · cases hr : rowB R n x m with
      | true => exact Or.inl (by show (rowsB R n x m && rowB R n x m) = true; rw [h, hr]; rfl)
      | false => exact Or.inr ⟨m, by omega, h, hr⟩
    · exact Or.inr ⟨i, by omega, h2⟩
theorem hold_ex (vars pubs : Int) (m : Nat) (R : Nat → Nat → Lst) (n : Nat) (x : Nat → Nat) : ∃ bad at_, HoldIs vars pubs m R n x bad at_ := by
  cases hc : checkB vars pubs m R with
  | false => exact ⟨3, -1, Or.inl ⟨hc, rfl, rfl⟩⟩
  | true =>
    cases hv : valuesB vars n x with
    | false => exact ⟨1, -1, Or.inr (Or.inl ⟨hc, hv, rfl, rfl⟩)⟩
    | true =>
      rcases rows_first R n x m with h | ⟨i, h1, h2, h3⟩
      · exact ⟨0, -1, Or.inr (Or.inr (Or.inr ⟨hc, hv, h, rfl, rfl⟩))⟩
      · exact ⟨8, i, Or.inr (Or.inr (Or.inl ⟨hc, hv, i, h1, h2, h3, rfl, rfl⟩))⟩
end Go.Proofs.YtckjojmphdoghaaDoor

namespace Go.Proofs.YtckjojmphdoghaaDoor
open Go.ChangeShapes Go.WideShapes Go.ChangeAt Go.RowKit
set_option linter.unusedVariables false
set_option linter.unusedSimpArgs false

theorem own : ownKnob Tryd.prog.godebug = none := by kernel_rfl
theorem laidOut : laidOutB Tryd.prog = true := by kernel_rfl

/-- A slice of integers that came in: nil; or it leads to a row of 'cap' cells, the numbers zs (the first 'len' are its elements), each fitting its kind. -/
def IsRow (k : IntKind) (w : World) (a : Option Addr) (len cap : Nat) (zs : List Int) : Prop :=
  (a = none ∧ len = 0 ∧ cap = 0 ∧ zs = []) ∨
  ∃ x, a = some x ∧ len ≤ cap ∧ cap ≤ maxLen ∧ zs.length = cap ∧ (∀ i, i < zs.length → w.cell? (x.add i) = some (.int k (zs.getD i 0))) ∧ ∀ n ∈ zs, (Lit.int k n).wf = true

theorem isRow_of {H : Type} {enc : TypeId × Value → H} {k : IntKind} {t e : TypeId} {W : World} {a : Option Addr} {len cap : Nat} {d : DataW H} {p : List MemPlace} (ht : Tryd.prog.underlying t = some (.slice e)) (he : Tryd.prog.underlying e = some (.int k)) (hc : Tryd.prog.cellsOf e = 1)
    (h : DataW.Trod enc Tryd.prog W 0 (fun _ => true) true t (.slice a len cap) d p) : ∃ zs, IsRow k W a len cap zs := by
  obtain ⟨fuel, hf⟩ := h
  rcases open_ints ht he hc hf with ⟨hcs, _⟩ | ⟨x, l, c, zs, hcs, _, hl, hm, hz, _, hcell, hwz⟩
  · simp [Value.cells] at hcs
    obtain ⟨rfl, rfl, rfl⟩ := hcs
    exact ⟨[], .inl ⟨rfl, rfl, rfl, rfl⟩⟩
  · simp [Value.cells] at hcs
    obtain ⟨rfl, rfl, rfl⟩ := hcs
    exact ⟨zs, .inr ⟨_, rfl, hl, hm, by simpa using hz, hcell, hwz⟩⟩

/-- The same, with the form's own reach. -/
theorem isRow_sized {H : Type} {enc : TypeId × Value → H} {k : IntKind} {t e : TypeId} {W : World} {a : Option Addr} {len cap B j : Nat} {d : DataW H} {p : List MemPlace} {ts : List TypeId} {ds : List (DataW H)}
    (hsz : (DataW.weightsEach Tryd.prog ts ds).all (· ≤ reachBytes) = true) (hj : ts[j]? = some t) (hd : ds[j]? = some d) (ht : Tryd.prog.underlying t = some (.slice e)) (he : Tryd.prog.underlying e = some (.int k)) (hc : Tryd.prog.cellsOf e = 1) (hb : Tryd.prog.bytesOf e = B)
    (h : DataW.Trod enc Tryd.prog W 0 (fun _ => true) true t (.slice a len cap) d p) : ∃ zs, IsRow k W a len cap zs ∧ cap * B ≤ 140737488351232 := by
  obtain ⟨fuel, hf⟩ := h
  rcases open_ints ht he hc hf with ⟨hcs, _⟩ | ⟨x, l, c, zs, hcs, _, hl, hm, hz, hx, hcell, hwz⟩
  · simp [Value.cells] at hcs
    obtain ⟨rfl, rfl, rfl⟩ := hcs
    exact ⟨[], .inl ⟨rfl, rfl, rfl, rfl⟩, by omega⟩
  · simp [Value.cells] at hcs
    obtain ⟨rfl, rfl, rfl⟩ := hcs
    refine ⟨zs, .inr ⟨_, rfl, hl, hm, by simpa using hz, hcell, hwz⟩, ?_⟩
    simp only [Prod.mk.injEq] at hx
    rw [hx.1] at hd
    have hs := sized_slice hsz hj hd ht
    have hz' : zs.length = cap := by simpa using hz
    have e1 : (lits k (zs.take len) : List (DataW H)).length + (lits k (zs.drop len) : List (DataW H)).length = cap := by
      simp only [lits, List.length_map, List.length_take, List.length_drop]
      omega
    rw [e1, hb] at hs
    exact hs

end Go.Proofs.YtckjojmphdoghaaDoor

namespace Go.Proofs.YtckjojmphdoghaaDoor
open Go.RowKit Go.Proofs
set_option linter.unusedVariables false
set_option linter.unusedSimpArgs false

theorem add_none (b off i : Nat) : (⟨b, off, none⟩ : Addr).add i = ⟨b, off + i, none⟩ := by unfold Addr.add; split <;> simp_all
/-- n words, from a place on. -/
structure Wds (w : World) (b off n : Nat) (z : Nat → Nat) : Prop where
  lt : b < w.heap.size
  at_ : ∀ i, i < n → w.cell? ⟨b, off + i, none⟩ = some (.int .u64 (z i : Nat))
theorem Wds.below {w w1 : World} {B b off n : Nat} {z : Nat → Nat} (t : Wds w b off n z) (hb : Below B w w1) (h : b < B) : Wds w1 b off n z :=
  ⟨Nat.lt_of_lt_of_le t.lt hb.size, fun i hi => by rw [(bcell hb).1 b _ h]; exact t.at_ i hi⟩
theorem Wds.via {w w1 : World} {B b off n : Nat} {z : Nat → Nat} (hb : Below B w w1) (t : Wds w b off n z) (h : b < B) : Wds w1 b off n z := t.below hb h
theorem Wds.drew {w : World} {b off n : Nat} {z : Nat → Nat} (t : Wds w b off n z) : Wds w.drew b off n z := ⟨t.lt, t.at_⟩
theorem Wds.drewN {w : World} {b off n : Nat} {z : Nat → Nat} (t : Wds w b off n z) (k : Nat) : Wds (w.drewN k) b off n z := ⟨t.lt, t.at_⟩
theorem Wds.alloc {w : World} {b off n : Nat} {z : Nat → Nat} (t : Wds w b off n z) (o : Obj) : Wds (w.alloc o) b off n z := t.below ((Below.refl w.heap.size w).alloc (Nat.le_refl _) o) t.lt
theorem Wds.far {w : World} {b off n b' : Nat} {z : Nat → Nat} (t : Wds w b off n z) (h : b' ≠ b) (o : Nat) (v : Value) : Wds (w.setCell ⟨b', o, none⟩ v) b off n z :=
  ⟨by simp [t.lt], fun i hi => by rw [World.cell?_setCell_other _ _ _ _ (by simp [h]), t.at_ i hi]⟩
theorem Wds.less {w : World} {b off n m : Nat} {z : Nat → Nat} (t : Wds w b off n z) (h : m ≤ n) : Wds w b off m z := ⟨t.lt, fun i hi => t.at_ i (by omega)⟩
theorem Wds.more {w : World} {b off n : Nat} {z : Nat → Nat} (t : Wds w b off n z) (k m : Nat) (h : k + m ≤ n) : Wds w b (off + k) m (fun i => z (k + i)) :=
  ⟨t.lt, fun i hi => by rw [Nat.add_assoc]; exact t.at_ (k + i) (by omega)⟩
theorem Wds.congr {w : World} {b off n : Nat} {y z : Nat → Nat} (t : Wds w b off n y) (h : ∀ i, i < n → y i = z i) : Wds w b off n z := ⟨t.lt, fun i hi => by rw [← h i hi]; exact t.at_ i hi⟩
theorem Wds.one {w : World} {n : Nat} {t : TypeId} {b : Nat} (h : b = w.heap.size) : Wds (w.alloc (.cells #[.int .u64 (n : Nat)] t)) b 0 1 (fun _ => n) := by
  subst h
  exact ⟨by simp, fun i hi => by obtain rfl : i = 0 := by omega
                                 simp [go_sem]⟩

/-- A slice of n words that lies below block B, or has none. -/
def SrcW (B : Nat) (w : World) (a : Option Addr) (n : Nat) (z : Nat → Nat) : Prop := n = 0 ∨ ∃ b off, a = some ⟨b, off, none⟩ ∧ b < B ∧ Wds w b off n z
theorem SrcW.below {B : Nat} {w w1 : World} {a : Option Addr} {n : Nat} {z : Nat → Nat} (h : SrcW B w a n z) (hb : Below B w w1) : SrcW B w1 a n z := by
  rcases h with h | ⟨b, off, e, hl, h⟩
  · exact Or.inl h
  · exact Or.inr ⟨b, off, e, hl, h.below hb hl⟩
theorem SrcW.mono {B C : Nat} {w : World} {a : Option Addr} {n : Nat} {z : Nat → Nat} (h : SrcW B w a n z) (hc : B ≤ C) : SrcW C w a n z := by
  rcases h with h | ⟨b, off, e, hl, h⟩
  · exact Or.inl h
  · exact Or.inr ⟨b, off, e, by omega, h⟩
theorem SrcW.to {B : Nat} {w w1 : World} {a : Option Addr} {n : Nat} {z : Nat → Nat} (h : SrcW B w a n z) (hb : Below B w w1) (hB : B ≤ w.heap.size) : SrcW w1.heap.size w1 a n z := (h.below hb).mono (Nat.le_trans hB hb.size)
theorem SrcW.of {w : World} {b off n : Nat} {z : Nat → Nat} (h : Wds w b off n z) : SrcW w.heap.size w (some ⟨b, off, none⟩) n z := Or.inr ⟨b, off, rfl, h.lt, h⟩
theorem SrcW.nil (B : Nat) (w : World) (a : Option Addr) (z : Nat → Nat) : SrcW B w a 0 z := Or.inl rfl
theorem SrcW.less {B : Nat} {w : World} {a : Option Addr} {n m : Nat} {z : Nat → Nat} (h : SrcW B w a n z) (hm : m ≤ n) : SrcW B w a m z := by
  rcases h with h | ⟨b, off, e, hl, h⟩
  · exact Or.inl (by omega)
  · exact Or.inr ⟨b, off, e, hl, h.less hm⟩
theorem SrcW.congr {B : Nat} {w : World} {a : Option Addr} {n : Nat} {y z : Nat → Nat} (h : SrcW B w a n y) (e : ∀ i, i < n → y i = z i) : SrcW B w a n z := by
  rcases h with h | ⟨b, off, e', hl, h⟩
  · exact Or.inl h
  · exact Or.inr ⟨b, off, e', hl, h.congr e⟩

theorem wdInfo : ∃ i, Tryd.prog.info? 34 = some i ∧ i.size = 1 ∧ i.bytes = 8 ∧ i.zero = some (.int .u64 0) := by
  have h : (Tryd.prog.info? 34).map (fun i => (i.size, i.bytes, i.zero)) = some (1, 8, some (.int .u64 0)) := by kernel_rfl
  cases hi : Tryd.prog.info? 34 with
  | none => rw [hi] at h; cases h
  | some i =>
    rw [hi] at h
    simp only [Option.map_some, Option.some.injEq, Prod.mk.injEq] at h
    exact ⟨i, rfl, h.1, h.2.1, h.2.2⟩
/-- The values of words. -/
def wals (z : Nat → Nat) (n : Nat) : List Value := (List.range n).map fun i => .int .u64 (z i : Nat)
theorem wals_zero (z : Nat → Nat) : wals z 0 = [] := rfl
theorem wals_succ (z : Nat → Nat) (n : Nat) : wals z (n + 1) = wals z n ++ [.int .u64 (z n : Nat)] := by simp [wals, List.range_succ]
theorem wals_length (z : Nat → Nat) (n : Nat) : (wals z n).length = n := by simp [wals]
theorem wals_get (z : Nat → Nat) (n i : Nat) (h : i < n) : (wals z n)[i]? = some (.int .u64 (z i : Nat)) := by simp [wals, h]
theorem wals_one (z : Nat → Nat) (n : Nat) : ∀ u ∈ wals z n, u.oneCell' = true := by
  intro u hu
  simp only [wals, List.mem_map] at hu
  obtain ⟨i, _, rfl⟩ := hu
  rfl
theorem wals_congr (y z : Nat → Nat) (n : Nat) (h : ∀ i, i < n → y i = z i) : wals y n = wals z n := by
  induction n with
  | zero => rfl
  | succ n ih => rw [wals_succ, wals_succ, ih (fun i hi => h i (by omega)), h n (by omega)]
theorem wds_news {w : World} {b off n : Nat} {z : Nat → Nat} (h : Wds w b off n z) : ∀ j u, (wals z n)[j]? = some u → w.cell? ((⟨b, off, none⟩ : Addr).add j) = some u := by
  intro j u hu
  have hj : j < n := by rw [← wals_length z n]; exact (List.getElem?_eq_some_iff.1 hu).1
  rw [wals_get z n j hj] at hu
  cases hu
  rw [add_none]
  exact h.at_ j hj
theorem wds_of_row {w : World} {base n cap g : Nat} {z : Nat → Nat} (h : w.ownsRow base 34 1 (.slice (some ⟨g, 0, none⟩) n cap) n (wals z n)) : Wds w g 0 n z := by
  refine ⟨(h.lt g rfl).2, fun i hi => ?_⟩
  have := h.cells (g := g) rfl i _ (wals_get z n i hi)
  rw [add_none] at this
  exact this

/-- A slice of words that came in. -/
theorem srcW_of_isRow {w : World} {a : Option Addr} {len cap : Nat} {zs : List Int} (h : IsRow .u64 w a len cap zs) :
    ∃ z : Nat → Nat, len ≤ cap ∧ cap ≤ maxLen ∧ (∀ i, z i < 18446744073709551616) ∧ SrcW w.heap.size w a len z ∧ (a = none → len = 0 ∧ cap = 0) ∧ ∀ i, i < len → (z i : Int) = zs.getD i 0 := by
  rcases h with ⟨rfl, rfl, rfl, rfl⟩ | ⟨x, rfl, h1, h2, h3, hcell, hwz⟩
  · exact ⟨fun _ => 0, by omega, by omega, fun i => (by show 0 < _; decide), Or.inl rfl, fun _ => ⟨rfl, rfl⟩, fun i hi => by omega⟩
  · have hb : ∀ i, 0 ≤ zs.getD i 0 ∧ zs.getD i 0 < 18446744073709551616 := fun i => by
      rcases Nat.lt_or_ge i zs.length with hi | hi
      · have hm : zs.getD i 0 ∈ zs := by simp [List.getD, List.getElem?_eq_getElem hi]
        have := bounds_u64 (hwz _ hm)
        omega
      · simp [List.getD, List.getElem?_eq_none hi]
    refine ⟨fun i => (zs.getD i 0).toNat, h1, h2, fun i => (by have := hb i; show (zs.getD i 0).toNat < _; omega), ?_, (fun h => by cases h), fun i hi => (by have := hb i; show ((zs.getD i 0).toNat : Int) = _; omega)⟩
    by_cases hl : len = 0
    · exact Or.inl hl
    · obtain ⟨b, off, spot⟩ := x
      have hc := hcell 0 (by omega)
      have hspot : spot = none := by simpa [Addr.add] using World.cell?_spot hc
      subst hspot
      have hbl : b < w.heap.size := by have := World.block_lt_of_cell? _ _ hc; simpa [Addr.add] using this
      refine Or.inr ⟨b, off, rfl, hbl, hbl, fun i hi => ?_⟩
      have h := hcell i (by omega)
      rw [add_none] at h
      rw [h]
      exact congrArg (fun n => some (Value.int .u64 n)) (by have := hb i; show _ = ((zs.getD i 0).toNat : Int); omega)

/-- n words, others behind them. -/
def joinW (z : Nat → Nat) (n : Nat) (u : Nat → Nat) (j : Nat) : Nat := if j < n then z j else u (j - n)
theorem wals_joinW (z u : Nat → Nat) (n : Nat) : ∀ m, wals z n ++ wals u m = wals (joinW z n u) (n + m)
  | 0 => by rw [wals_zero, List.append_nil]; exact wals_congr _ _ _ fun i hi => by unfold joinW; rw [if_pos hi]
  | m + 1 => by
    rw [wals_succ, ← List.append_assoc, wals_joinW z u n m, ← Nat.add_assoc, wals_succ]
    have e : joinW z n u (n + m) = u m := by unfold joinW; rw [if_neg (by omega), Nat.add_sub_cancel_left]
    rw [e]
theorem srcOf {B : Nat} {w : World} {ad : Option Addr} {m c : Nat} {u : Nat → Nat} (h : SrcW B w ad m u) : ∃ i, Tryd.prog.info? 34 = some i ∧ i.size = 1 ∧ i.bytes = 8 ∧ i.zero = some (.int .u64 0) ∧ Go.Src Tryd.prog i.size 32 (.slice ad m c) m (wals u m) w := by
  obtain ⟨i0, hi, hz1, hz2, hz0⟩ := wdInfo
  refine ⟨i0, hi, hz1, hz2, hz0, ?_⟩
  rcases h with rfl | ⟨b, off, rfl, hl, h⟩
  · cases ad with
    | none => exact Go.Src.ofNil w Tryd.underlying32 c
    | some a => exact Go.Src.ofSlice w Tryd.underlying32 a 0 c [] (by simp) (fun j u h => by simp at h) (fun u h => by cases h)
  · exact Go.Src.ofSlice w Tryd.underlying32 _ m c _ (by rw [hz1]; simp [wals]) (wds_news h) (wals_one u m)

/-- append of words behind words that fill their room (or of none). -/
theorem run_joinW (w : World) (ty : TypeId) (g n : Nat) (z : Nat → Nat) (hz : Wds w g 0 n z) (B : Nat) (ad : Option Addr) (m c : Nat) (u : Nat → Nat) (hu : SrcW B w ad m u) (hn : n ≤ 1000000) (hm : m ≤ 1000000) :
    ∃ g' cap' w', (Builtin.append_ #[32, 32] ty #[.slice (some ⟨g, 0, none⟩) n n, .slice ad m c]).run Tryd.prog w = .ok (.slice (some ⟨g', 0, none⟩) (n + m) cap') w' ∧ n + m ≤ cap' ∧ Wds w' g' 0 (n + m) (joinW z n u) ∧ (g' = g ∨ g' = w.heap.size) ∧ Below w.heap.size w w' := by
  obtain ⟨i0, hi, hz1, hz2, hz0, src⟩ := srcOf (c := c) hu
  by_cases h0 : m = 0
  · subst h0
    have hr := run_append_room_src w 32 32 ty 34 i0 Tryd.underlying32 hi g 0 n n _ 0 _ src (by omega) (fun j h => by simp [wals] at h) (fun j h => by simp [wals] at h)
    exact ⟨g, n, w, hr, by omega, hz.congr fun i h => by unfold joinW; rw [if_pos h], Or.inl rfl, Below.refl _ _⟩
  · have hold := run_firstCells_some (P := Tryd.prog) w.drew i0.size n ⟨g, 0, none⟩ n n (wals z n) (by rw [hz1]; simp [wals]) (fun j v hv => wds_news hz j v hv)
    have hr := run_append_grow_src w 32 32 ty 34 i0 _ Tryd.underlying32 hi hz0 (some ⟨g, 0, none⟩) n n (wals z n) hold _ m _ src (by omega) (by omega) (by rw [hz2]; exact growslice_fits (by omega) (by omega))
    rw [wals_joinW] at hr
    have hge := grownCap_ge w (n + m) n 34
    generalize grownCap w (n + m) n 34 = C at hr hge
    refine ⟨w.heap.size, C, _, hr, hge, ⟨by simp, fun j hj => ?_⟩, Or.inr rfl, (((Below.refl w.heap.size w).drew).alloc (Nat.le_refl _) _)⟩
    rw [Nat.zero_add, World.cell?_alloc_at _ _ _ _ (by simp), Array.getElem?_append_left (by simp [wals]; omega), List.getElem?_toArray]
    exact wals_get _ _ j hj
theorem wpList_joinW {ops : Array Oper} {rest : List Oper} {o : Oper} {a : Act} {w : World} {Q : Exit → Act → World → Prop} (hgd : o.guard = none) (s x : Operand)
    (ho : o.op = .call { callee := .builtin .append, args := #[s, x], argTypes := #[32, 32] }) (g n : Nat) (z : Nat → Nat) (hz : Wds w g 0 n z) (B : Nat) (ad : Option Addr) (m c : Nat) (u : Nat → Nat) (hu : SrcW B w ad m u) (hn : n ≤ 1000000) (hm : m ≤ 1000000)
    (hs : a.eval s = .slice (some ⟨g, 0, none⟩) n n) (hx : a.eval x = .slice ad m c)
    (h : ∀ g' cap' w', n + m ≤ cap' → Wds w' g' 0 (n + m) (joinW z n u) → (g' = g ∨ g' = w.heap.size) → Below w.heap.size w w' → wpList Tryd.prog ops Q rest (a.put o.dst (.slice (some ⟨g', 0, none⟩) (n + m) cap')) w') : wpList Tryd.prog ops Q (o :: rest) a w := by
  refine wpList_plain hgd fun K hK => ?_
  obtain ⟨g', cap', w', hr, h1, h2, h3, h4⟩ := run_joinW w o.type g n z hz B ad m c u hu hn hm
  unfold Oper.wp execOp
  simp only [ho, resolve, invoke, builtin, Sem.run_bind, Sem.run_pure, Result.andThen_ok, List.map_toArray, List.map_cons, List.map_nil, hs, hx, hr]
  exact hK _ _ (h g' cap' w' h1 h2 h3 h4)
/-- append onto an empty row: a copy of one's own. -/
theorem wpList_copyW {ops : Array Oper} {rest : List Oper} {o : Oper} {a : Act} {w : World} {Q : Exit → Act → World → Prop} (hgd : o.guard = none) (s x : Operand)
    (ho : o.op = .call { callee := .builtin .append, args := #[s, x], argTypes := #[32, 32] }) (base b0 : Nat) (hs : a.eval s = .slice (some ⟨b0, 0, none⟩) 0 0)
    (hown0 : w.ownsRow base 34 1 (.slice (some ⟨b0, 0, none⟩) 0 0) 0 []) (hbase : base ≤ w.heap.size) (B : Nat) (ad : Option Addr) (n c : Nat) (z : Nat → Nat) (hx : a.eval x = .slice ad n c) (hS : SrcW B w ad n z) (hn : n ≤ 1000000)
    (h : ∀ g cap w', w'.ownsRow base 34 1 (.slice (some ⟨g, 0, none⟩) n cap) n (wals z n) → Below base w w' → wpList Tryd.prog ops Q rest (a.put o.dst (.slice (some ⟨g, 0, none⟩) n cap)) w') : wpList Tryd.prog ops Q (o :: rest) a w := by
  obtain ⟨i0, hi, hz1, hz2, hz0, src⟩ := srcOf (c := c) hS
  by_cases h0 : n = 0
  · subst h0
    have hr := run_append_room_src w 32 32 o.type 34 i0 Tryd.underlying32 hi b0 0 0 0 (.slice ad 0 c) 0 _ src (by omega) (fun j h => by simp [wals] at h) (fun j h => by simp [wals] at h)
    refine wpList_plain hgd fun K hK => ?_
    unfold Oper.wp execOp
    simp only [ho, resolve, invoke, builtin, Sem.run_bind, Sem.run_pure, Result.andThen_ok, List.map_toArray, List.map_cons, List.map_nil, hs, hx, hr]
    exact hK _ _ (h b0 0 w hown0 (Below.refl _ _))
  · rcases hS with h1 | ⟨b, off, rfl, hl, hB⟩
    · exact absurd h1 h0
    refine wpList_append_lies _ hgd s x 32 ho base 34 i0 _ 1 8 Tryd.underlying32 hi hz0 hz1 hz2 rfl (by decide) _ 0 [] hs hown0 ⟨b, off, none⟩ n c (wals z n) hx (by simp [wals]) (wds_news hB) (wals_one z n) (by omega) (by unfold maxLen; omega) (by omega) hbase w.heap.size rfl ?_
    intro g cap w' hown hg _ _
    rw [Nat.zero_add, List.nil_append] at hown
    rw [Nat.zero_add]
    exact h g cap w' hown ((Below.refl base w).grown hg hbase (fun k hk => (hown0.lt k hk).1))
end Go.Proofs.YtckjojmphdoghaaDoor

namespace Go.Proofs.YtckjojmphdoghaaDoor
open Go.RowKit Go.Proofs
set_option linter.unusedVariables false
set_option linter.unusedSimpArgs false
/-- An error that is the one of this number, at this place (-1: it has none); a Spot lies behind block B. -/
def ErrIs (B : Nat) (w : World) (er : Value) (bad at_ : Int) : Prop :=
  (at_ = -1 ∧ bad = 0 ∧ er = .nilIface) ∨ (at_ = -1 ∧ (1 ≤ bad ∧ bad ≤ 15) ∧ er = .iface 30 (.int .i64 bad)) ∨
  (0 ≤ at_ ∧ ∃ b, er = .iface 57 (.pointer (some ⟨b, 0, none⟩)) ∧ B ≤ b ∧ Two w b (.int .i64 at_) (.iface 30 (.int .i64 bad)))
theorem ErrIs.below {B C : Nat} {w w1 : World} {er : Value} {bad at_ : Int} (h : ErrIs B w er bad at_) (hb : Below w.heap.size w w1) (hc : C ≤ B) : ErrIs C w1 er bad at_ := by
  rcases h with h | h | ⟨h1, b, h2, h3, t⟩
  · exact Or.inl h
  · exact Or.inr (Or.inl h)
  · exact Or.inr (Or.inr ⟨h1, b, h2, Nat.le_trans hc h3, t.below hb t.lt⟩)
theorem ErrIs.other {B : Nat} {w : World} {er : Value} {bad at_ : Int} (h : ErrIs B w er bad at_) (hn : ¬ (bad = 0 ∧ at_ = -1)) : ∃ t v, er = .iface t v := by
  rcases h with ⟨rfl, rfl, rfl⟩ | ⟨rfl, ⟨h1, h2⟩, rfl⟩ | ⟨h1, b, rfl, _, t⟩
  · exact absurd ⟨rfl, rfl⟩ hn
  · exact ⟨_, _, rfl⟩
  · exact ⟨_, _, rfl⟩
theorem ErrIs.nil_iff {B : Nat} {w : World} {er : Value} {bad at_ : Int} (h : ErrIs B w er bad at_) : (er = .nilIface ↔ bad = 0 ∧ at_ = -1) := by
  rcases h with ⟨rfl, rfl, rfl⟩ | ⟨rfl, ⟨h1, h2⟩, rfl⟩ | ⟨h1, b, rfl, _, t⟩
  · exact ⟨fun _ => ⟨rfl, rfl⟩, fun _ => rfl⟩
  · exact ⟨fun h => (by cases h), fun h => (by omega)⟩
  · exact ⟨fun h => (by cases h), fun h => (by omega)⟩
end Go.Proofs.YtckjojmphdoghaaDoor

namespace Go.Proofs.YtckjojmphdoghaaDoor
open Go.RowKit Go.Proofs
set_option linter.unusedVariables false
set_option linter.unusedSimpArgs false
/-- What rank.Holds answers, of every system in memory and all values. -/
def HoldsC (f : FuncId) : Prop := ∀ (vars pubs : Int) (a : Option Addr) (m c : Nat) (R : Nat → Nat → Lst), (∀ i j, (R i j).Ok) → -9223372036854775808 ≤ vars → vars < 9223372036854775808 → -9223372036854775808 ≤ pubs → pubs < 9223372036854775808 → m ≤ 1000000 → ∀ (ad : Option Addr) (n d : Nat), n ≤ 1000000 → ∀ (x : Nat → Nat), (∀ i, x i < 18446744073709551616) → ∀ (bad at_ : Int), HoldIs vars pubs m R n x bad at_ →
  ∀ W, RowsAt W.heap.size W a m R → SrcW W.heap.size W ad n x → Calls Tryd.prog f #[rankV vars pubs a m c, .slice ad n d] W fun e w' => ∃ er, e = .returned er ∧ ErrIs W.heap.size w' er bad at_ ∧ Below W.heap.size W w'
/-- What rank.Check answers. -/
def CheckC (f : FuncId) : Prop := ∀ (vars pubs : Int) (a : Option Addr) (m c : Nat) (R : Nat → Nat → Lst), (∀ i j, (R i j).Ok) → -9223372036854775808 ≤ vars → vars < 9223372036854775808 → -9223372036854775808 ≤ pubs → pubs < 9223372036854775808 → m ≤ 1000000 →
  ∀ W, RowsAt W.heap.size W a m R → Calls Tryd.prog f #[rankV vars pubs a m c] W fun e w' => e = .returned (if checkB vars pubs m R = true then .nilIface else .iface 30 (.int .i64 3)) ∧ Below W.heap.size W w'
/-- What rank.Value answers. -/
def ValueC (f : FuncId) : Prop := ∀ (L : Lst), L.Ok → ∀ (ad : Option Addr) (n c : Nat), n ≤ 1000000 → ∀ (x : Nat → Nat), (∀ i, x i < 18446744073709551616) →
  ∀ W, L.At W.heap.size W → SrcW W.heap.size W ad n x → Calls Tryd.prog f #[L.val, .slice ad n c] W fun e w' => e = .returned (.int .u64 ((valL L n x).val : Nat)) ∧ Below W.heap.size W w'
end Go.Proofs.YtckjojmphdoghaaDoor

namespace Go.Proofs.YtckjojmphdoghaaDoor
open Go.RowKit Go.Proofs Go.Extern.Stop Go.Stop Go.Extern
set_option linter.unusedVariables false
set_option linter.unusedSimpArgs false
attribute [local go_sem ↓] Go.wp_at_zero Go.wp_at_succ

theorem rl_value (t : Addr) (w : World) : (ReflectliteValue.unpack (.iface 62 (.pointer (some t)))).run Tryd.prog w
    = .ok (.agg #[.pointer (some ⟨3, 62, none⟩), .pointer (some ⟨w.heap.size, 0, none⟩), .int .u64 150]) (w.alloc (.cells #[.pointer (some t)] 62)) := by kernel_rfl
theorem rl_type (a : Addr) (w : World) : (ReflectliteValue.methodAny (ReflectliteValue.valueError "reflectlite.Value.Type" 0) (fun t _ _ _ => ReflectliteType.toType t) #[.agg #[.pointer (some ⟨3, 62, none⟩), .pointer (some a), .int .u64 150]]).run Tryd.prog w
    = .ok (.iface 89 (.agg #[.pointer (some ⟨3, 62, none⟩)])) w := by kernel_rfl
theorem rl_mKind (h : Value) (w : World) : (Go.method 255 89 (.agg #[h]) "Kind").run Tryd.prog w = .ok (88, h) w := by kernel_rfl
theorem rl_kind2 (w : World) : ((ReflectliteType.abiMethod fun t => (fun a : Nat => Value.int IntKind.u8 (a : Int)) <$> Rtype.kind t) #[.pointer (some ⟨3, 62, none⟩)]).run Tryd.prog w = .ok (.int .u8 22) w := by kernel_rfl
theorem rl_kind1 (w : World) : ((ReflectliteType.abiMethod fun t => (fun a : Nat => Value.int IntKind.u8 (a : Int)) <$> Rtype.kind t) #[.pointer (some ⟨3, 57, none⟩)]).run Tryd.prog w = .ok (.int .u8 22) w := by kernel_rfl
theorem rl_meth (z : Sem Value) (f : TypeId → Addr → Nat → Nat → Sem Value) (v : Value) :
    ReflectliteValue.method z f #[v] = (do match ← ReflectliteValue.parts v with | none => z | some (t, a, fl) => f t a fl (fl % 32)) := rfl
theorem rl_parts2 (a : Addr) (w : World) : (ReflectliteValue.parts (.agg #[.pointer (some ⟨3, 62, none⟩), .pointer (some a), .int .u64 150])).run Tryd.prog w = .ok (some (62, a, 150)) w := by kernel_rfl
theorem rl_isNil (a p : Addr) (W : World) (ha : W.cell? a = some (.pointer (some p))) :
    (ReflectliteValue.method (ReflectliteValue.valueError "reflectlite.Value.IsNil" 0) ReflectliteValue.isNil #[.agg #[.pointer (some ⟨3, 62, none⟩), .pointer (some a), .int .u64 150]]).run Tryd.prog W = .ok (.bool false) W := by
  rw [rl_meth]
  simp only [Sem.run_bind, rl_parts2, Result.andThen]
  simp [ReflectliteValue.isNil, loadVar, isAgg, underlying, Tryd.underlying62, ha, Result.andThen]
theorem rl_mElem (h : Value) (w : World) : (Go.method 255 89 (.agg #[h]) "Elem").run Tryd.prog w = .ok (100, .agg #[h]) w := by kernel_rfl
theorem rl_mImpl (h : Value) (w : World) : (Go.method 255 89 (.agg #[h]) "Implements").run Tryd.prog w = .ok (101, .agg #[h]) w := by kernel_rfl
theorem rl_mAssi (h : Value) (w : World) : (Go.method 255 89 (.agg #[h]) "AssignableTo").run Tryd.prog w = .ok (98, .agg #[h]) w := by kernel_rfl
theorem rl_elem2 (w : World) : (ReflectliteType.method ReflectliteType.elem #[.agg #[.pointer (some ⟨3, 62, none⟩)]]).run Tryd.prog w = .ok (.iface 89 (.agg #[.pointer (some ⟨3, 57, none⟩)])) w := by kernel_rfl
theorem rl_impl1 (w : World) : (ReflectliteType.relation "Implements" ReflectliteType.implements_ #[.agg #[.pointer (some ⟨3, 57, none⟩)], .iface 89 (.agg #[.pointer (some ⟨3, 28, none⟩)])]).run Tryd.prog w = .ok (.bool true) w := by kernel_rfl
theorem rl_typeOf1 (v : Value) (w : World) : (ReflectliteType.typeOf #[.iface 57 v]).run Tryd.prog w = .ok (.iface 89 (.agg #[.pointer (some ⟨3, 57, none⟩)])) w := by kernel_rfl
theorem rl_assi1 (w : World) : (ReflectliteType.relation "AssignableTo" ReflectliteType.assignableTo #[.agg #[.pointer (some ⟨3, 57, none⟩)], .iface 89 (.agg #[.pointer (some ⟨3, 57, none⟩)])]).run Tryd.prog w = .ok (.bool true) w := by kernel_rfl
theorem rl_value1 (e : Addr) (w : World) : (ReflectliteValue.unpack (.iface 57 (.pointer (some e)))).run Tryd.prog w
    = .ok (.agg #[.pointer (some ⟨3, 57, none⟩), .pointer (some ⟨w.heap.size, 0, none⟩), .int .u64 150]) (w.alloc (.cells #[.pointer (some e)] 57)) := by kernel_rfl
theorem rl_elemOf (w : World) : (Rtype.elem? 62).run Tryd.prog w = .ok (some 57) w := by kernel_rfl
theorem rl_mk (p : Addr) (w : World) : (ReflectliteValue.mk 57 p ReflectliteValue.flagAddr).run Tryd.prog w = .ok (.agg #[.pointer (some ⟨3, 57, none⟩), .pointer (some p), .int .u64 406]) w := by kernel_rfl
theorem rl_elemV (a p : Addr) (W : World) (ha : W.cell? a = some (.pointer (some p))) :
    (ReflectliteValue.method (ReflectliteValue.valueError "reflectlite.Value.Elem" 0) ReflectliteValue.elem #[.agg #[.pointer (some ⟨3, 62, none⟩), .pointer (some a), .int .u64 150]]).run Tryd.prog W
      = .ok (.agg #[.pointer (some ⟨3, 57, none⟩), .pointer (some p), .int .u64 406]) W := by
  rw [rl_meth]
  simp only [Sem.run_bind, rl_parts2, Result.andThen]
  simp [ReflectliteValue.elem, loadVar, isAgg, underlying, Tryd.underlying62, ha, Result.andThen, rl_elemOf, rl_mk]
theorem rl_set (v x : Value) : ReflectliteValue.set #[v, x] = (do
    let (some (dst, a, fl), some (src, b, _)) := (← ReflectliteValue.parts v, ← ReflectliteValue.parts x)
      | unsupported (.noEntry "extern/(internal/reflectlite.Value).Set.zeroValue")
    if fl / ReflectliteValue.flagAddr % 2 == 0 then unsupported (.noEntry "extern/(internal/reflectlite.Value).Set.unaddressable")
    let val ← loadVar src b
    if ← Rtype.directlyAssignable dst src then storeVar dst a val
    else if ← Rtype.implements dst src then
      if (← Rtype.kind src) == 20 then
        match val with
        | .nilIface => unsupported (.noEntry "extern/reflectlite: a nil value of one interface type handed on as a value of another")
        | _ => storeVar dst a val
      else storeVar dst a (.iface src val)
    else panicString ("reflectlite.Set: value of type " ++ (← Rtype.spelt src) ++ " is not assignable to type " ++ (← Rtype.spelt dst))
    pure (.tuple #[])) := rfl
theorem rl_partsA (a : Addr) (w : World) : (ReflectliteValue.parts (.agg #[.pointer (some ⟨3, 57, none⟩), .pointer (some a), .int .u64 406])).run Tryd.prog w = .ok (some (57, a, 406)) w := by kernel_rfl
theorem rl_parts1 (a : Addr) (w : World) : (ReflectliteValue.parts (.agg #[.pointer (some ⟨3, 57, none⟩), .pointer (some a), .int .u64 150])).run Tryd.prog w = .ok (some (57, a, 150)) w := by kernel_rfl
theorem rl_direct (w : World) : (Rtype.directlyAssignable 57 57).run Tryd.prog w = .ok true w := by kernel_rfl
theorem rl_setV (ta b e : Addr) (old : Value) (W : World) (hb : W.cell? b = some (.pointer (some e))) (ht : W.cell? ta = some old) (hf : W.frozen? ta = false) :
    (ReflectliteValue.set #[.agg #[.pointer (some ⟨3, 57, none⟩), .pointer (some ta), .int .u64 406], .agg #[.pointer (some ⟨3, 57, none⟩), .pointer (some b), .int .u64 150]]).run Tryd.prog W
      = .ok (.tuple #[]) (W.setCell ta (.pointer (some e))) := by
  rw [rl_set]
  simp only [Sem.run_bind, rl_partsA, rl_parts1, Result.andThen]
  simp [ReflectliteValue.flagAddr, loadVar, isAgg, underlying, Tryd.underlying57, hb, Result.andThen, rl_direct, storeVar, Value.cells, storeCells, Addr.add]
  rw [run_store Tryd.prog W ta _ _ (by rfl)]
  simp [ht, hf]

/-- errors.errorType holds the type 'error'. -/
def ErrTy (w : World) : Prop := w.cell? ⟨0, 0, none⟩ = some (.iface 89 (.agg #[.pointer (some ⟨3, 28, none⟩)]))
theorem ErrTy.lt {w : World} (h : ErrTy w) : 0 < w.heap.size := World.block_lt_of_cell? _ _ h
theorem ErrTy.below {w w1 : World} {B : Nat} (h : ErrTy w) (hb : Below B w w1) (hB : 0 < B) : ErrTy w1 := by
  unfold ErrTy at *
  rw [(bcell hb).1 _ _ hB]
  exact h
/-- Where errors.As finds a Spot: the world with its four new blocks. -/
def asW (e t : Addr) (w : World) : World := (((w.alloc (.cells #[.pointer (some t)] 62)).alloc (.cells #[.pointer (some ⟨3, 62, none⟩), .pointer (some ⟨w.heap.size, 0, none⟩), .int .u64 150] 70)).alloc (.cells #[.pointer (some ⟨3, 62, none⟩), .pointer (some ⟨w.heap.size, 0, none⟩), .int .u64 150] 70)).alloc (.cells #[.pointer (some e)] 57)
set_option maxHeartbeats 4000000 in
theorem as_hit (e t : Addr) (old : Value) (w : World) (hg : ErrTy w) (ht0 : w.cell? t = some old) (hf0 : w.frozen? t = false) :
    Calls Tryd.prog 32 #[.iface 57 (.pointer (some e)), .iface 62 (.pointer (some t))] w fun ev w' => ev = .returned (.bool true) ∧ w' = (asW e t w).setCell t (.pointer (some e)) := by
  have h6 := @run_callFunc_extern Tryd.prog 43 _ (fun args => ReflectliteValue.unpack (args.getD 0 (.tuple #[]))) Tryd.func43 (by kernel_rfl) (by kernel_rfl) (by kernel_rfl) (by kernel_rfl)
  have h7 := @run_callFunc_extern Tryd.prog 44 _ (ReflectliteValue.methodAny (ReflectliteValue.valueError "reflectlite.Value.Type" 0) (fun t _ _ _ => ReflectliteType.toType t)) Tryd.func44 (by kernel_rfl) (by kernel_rfl) (by kernel_rfl) (by kernel_rfl)
  have h8 := @run_callFunc_extern Tryd.prog 45 _ (ReflectliteValue.method (ReflectliteValue.valueError "reflectlite.Value.IsNil" 0) ReflectliteValue.isNil) Tryd.func45 (by kernel_rfl) (by kernel_rfl) (by kernel_rfl) (by kernel_rfl)
  have h27 := @run_callFunc_extern Tryd.prog 88 _ (ReflectliteType.abiMethod fun t => do pure (.int .u8 (← Rtype.kind t))) Tryd.func88 (by kernel_rfl) (by kernel_rfl) (by kernel_rfl) (by kernel_rfl)
  have h37 := @run_callFunc_extern Tryd.prog 100 _ (ReflectliteType.method ReflectliteType.elem) Tryd.func100 (by kernel_rfl) (by kernel_rfl) (by kernel_rfl) (by kernel_rfl)
  have h38 := @run_callFunc_extern Tryd.prog 101 _ (ReflectliteType.relation "Implements" ReflectliteType.implements_) Tryd.func101 (by kernel_rfl) (by kernel_rfl) (by kernel_rfl) (by kernel_rfl)
  have h10 := @run_callFunc_extern Tryd.prog 47 _ ReflectliteType.typeOf Tryd.func47 (by kernel_rfl) (by kernel_rfl) (by kernel_rfl) (by kernel_rfl)
  have h35 := @run_callFunc_extern Tryd.prog 98 _ (ReflectliteType.relation "AssignableTo" ReflectliteType.assignableTo) Tryd.func98 (by kernel_rfl) (by kernel_rfl) (by kernel_rfl) (by kernel_rfl)
  have h11 := @run_callFunc_extern Tryd.prog 55 _ (ReflectliteValue.method (ReflectliteValue.valueError "reflectlite.Value.Elem" 0) ReflectliteValue.elem) Tryd.func55 (by kernel_rfl) (by kernel_rfl) (by kernel_rfl) (by kernel_rfl)
  have h12 := @run_callFunc_extern Tryd.prog 56 _ ReflectliteValue.set Tryd.func56 (by kernel_rfl) (by kernel_rfl) (by kernel_rfl) (by kernel_rfl)
  have tO := rl_typeOf1
  have mA := rl_mAssi
  have a25 := rl_assi1
  have v25 := rl_value1
  have f6 := rl_value
  have f7 := rl_type
  have mK := rl_mKind
  have mE := rl_mElem
  have mI := rl_mImpl
  have k27 := rl_kind2
  have k25 := rl_kind1
  have e27 := rl_elem2
  have i25 := rl_impl1
  have n8 := rl_isNil ⟨w.heap.size, 0, none⟩ t ((w.alloc (.cells #[.pointer (some t)] 62)).alloc (.cells #[.pointer (some ⟨3, 62, none⟩), .pointer (some ⟨w.heap.size, 0, none⟩), .int .u64 150] 70)) (by simp)
  have hlt := hg.lt
  have hg2 : ((w.alloc (.cells #[.pointer (some t)] 62)).alloc (.cells #[.pointer (some ⟨3, 62, none⟩), .pointer (some ⟨w.heap.size, 0, none⟩), .int .u64 150] 70)).cell? ⟨0, 0, none⟩ = some (.iface 89 (.agg #[.pointer (some ⟨3, 28, none⟩)])) := by
    rw [World.cell?_alloc_lt _ _ ⟨0, 0, none⟩ (by first | (simp; done) | (simp; omega)), World.cell?_alloc_lt _ _ ⟨0, 0, none⟩ hlt]; exact hg
  have htl : t.block < w.heap.size := World.block_lt_of_cell? _ _ ht0
  have el := rl_elemV ⟨w.heap.size, 0, none⟩ t (((w.alloc (.cells #[.pointer (some t)] 62)).alloc (.cells #[.pointer (some ⟨3, 62, none⟩), .pointer (some ⟨w.heap.size, 0, none⟩), .int .u64 150] 70)).alloc (.cells #[.pointer (some ⟨3, 62, none⟩), .pointer (some ⟨w.heap.size, 0, none⟩), .int .u64 150] 70)) (by rw [World.cell?_alloc_lt _ _ ⟨w.heap.size, 0, none⟩ (by simp; omega)]; simp)
  have st := rl_setV t ⟨w.heap.size + 1 + 1 + 1, 0, none⟩ e old ((((w.alloc (.cells #[.pointer (some t)] 62)).alloc (.cells #[.pointer (some ⟨3, 62, none⟩), .pointer (some ⟨w.heap.size, 0, none⟩), .int .u64 150] 70)).alloc (.cells #[.pointer (some ⟨3, 62, none⟩), .pointer (some ⟨w.heap.size, 0, none⟩), .int .u64 150] 70)).alloc (.cells #[.pointer (some e)] 57))
    (by rw [World.cell?_alloc_at _ _ _ _ (by simp)]; rfl)
    (by rw [World.cell?_alloc_lt _ _ t (by simp; omega), World.cell?_alloc_lt _ _ t (by simp; omega), World.cell?_alloc_lt _ _ t (by simp; omega), World.cell?_alloc_lt _ _ t htl]; exact ht0)
    (by rw [World.frozen?_alloc_old _ _ t (by simp; omega), World.frozen?_alloc_old _ _ t (by simp; omega), World.frozen?_alloc_old _ _ t (by simp; omega), World.frozen?_alloc_old _ _ t (Nat.ne_of_lt htl)]; exact hf0)
  go_enter Tryd.func32, Tryd.ntmps32
  go_wp2
  refine wp_loop_rounds 1 ?_
  rw [rounds_succ]
  go_wp2
  go_ret
  exact ⟨rfl, rfl⟩
theorem as_below (e t : Addr) (old : Value) (w : World) (hg : ErrTy w) (ht0 : w.cell? t = some old) (hf0 : w.frozen? t = false) :
    Calls Tryd.prog 32 #[.iface 57 (.pointer (some e)), .iface 62 (.pointer (some t))] w fun ev w' => ev = .returned (.bool true) ∧ ∃ W, Below w.heap.size w W ∧ w' = W.setCell t (.pointer (some e)) := by
  refine (as_hit e t old w hg ht0 hf0).mono fun ev w' ⟨h1, h2⟩ => ⟨h1, asW e t w, ?_, h2⟩
  unfold asW
  (repeat' (first | (with_reducible first | exact Below.refl _ _ | assumption | refine Below.alloc ?_ ?_ _ | refine Below.drew ?_ | refine below_drewN ?_ _ | refine Below.setCell ?_ ?_ _ | refine below_via (by with_reducible assumption) ?_ ?_) | omega | (simp only [szs]; omega) | (simp only [szs] at *; omega)))
end Go.Proofs.YtckjojmphdoghaaDoor
