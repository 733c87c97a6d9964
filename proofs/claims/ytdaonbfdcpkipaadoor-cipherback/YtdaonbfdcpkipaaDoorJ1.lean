/-
  Joined texts: Small helps for all walks: calls that only make memory of their own, errors that are codes, words as plain numbers. Variables of three cells. Cells of variables, as a region's condition asks for them. Words of 32 bits as plain numbers: sums, rolling, mixing, pressing. Arrays of integers, as variables of one's own. Numbers as bytes, the highest first. The walks of bytes as numbers: package words' Number, and the document's own. Bytes copied into arrays of one's own. Regions that draw their order and end in a store into what they read: the condition on the world need not be met behind those last operations. Numbers as digits of 8 bits, the lowest first: carrying, the rest by 2^130 - 5. Plain numbers for package cipher: words of 64 bits, masks, folding by 2^130 - 5.
-/
import Derived.Test.YtdaonbfdcpkipaaDoorProg
import Derived.WalkKit
import Derived.WalkLawsBesides
import Derived.Outline
import Derived.Deep.QuietTactic
import Derived.BigQuiet
import Derived.Deep.DeepCutAuto
import Derived.Deep.CutBlock
import Derived.Laws.Bits64b
import Derived.Deep.RegionWith
import Derived.LoopTactic
import Derived.LaidEql
import Derived.OpenShut
import Derived.Handy
import Derived.Deep.RegionHeld3
import Derived.Deep.DrawnRows
import Derived.Deep.MidRow
import Derived.Laws.BitsLemmas
import Derived.Laws.BytesArg
import Derived.OwnWalk
import Derived.WalkSpells
import Derived.Deep.DeepAppendRoom
import Derived.Lib.LazyBuf
import Derived.Lib.SlBuf

namespace Go.Proofs.YtdaonbfdcpkipaaDoor
open Go.RowKit Go.Proofs
set_option linter.unusedVariables false
set_option linter.unusedSimpArgs false

/-- A call that returns v, whatever the world is, and turns nothing that was there. -/
def Gives (f : FuncId) (args : Array Value) (v : Value) : Prop := ∀ w, Calls Tryd.prog f args w fun e w' => e = .returned v ∧ Below w.heap.size w w'

theorem below_drewN {B : Nat} {a w : World} (h : Below B a w) (n : Nat) : Below B a (w.drewN n) := ⟨h.os, h.tape, h.output, h.size, h.block⟩

theorem size_drewN (w : World) (n : Nat) : (w.drewN n).heap.size = w.heap.size := rfl
theorem below_via {B C : Nat} {a W w : World} (h : Below C W w) (h1 : Below B a W) (h2 : B ≤ C) : Below B a w := h1.trans (h.mono h2)

theorem Gives.of_same {f : FuncId} {args : Array Value} {v : Value} (h : ∀ w, Calls Tryd.prog f args w fun e w' => e = .returned v ∧ w = w') : Gives f args v :=
  fun w => (h w).mono fun e w' ⟨he, hw⟩ => ⟨he, hw ▸ Below.refl _ _⟩
theorem Gives.of_drew {f : FuncId} {args : Array Value} {v : Value} (h : ∀ w, Calls Tryd.prog f args w fun e w' => e = .returned v ∧ ∃ n, w' = w.drewN n) : Gives f args v :=
  fun w => (h w).mono fun e w' ⟨he, n, hw⟩ => ⟨he, hw ▸ below_drewN (Below.refl _ _) n⟩

/-- What lay in memory below B reads as it did. -/
theorem bcell {B : Nat} {W w1 : World} (hb : Below B W w1) : (∀ b o, b < B → w1.cell? ⟨b, o, none⟩ = W.cell? ⟨b, o, none⟩) ∧ (∀ b o, b < B → w1.frozen? ⟨b, o, none⟩ = W.frozen? ⟨b, o, none⟩) :=
  ⟨fun b o h => hb.cell (p := ⟨b, o, none⟩) h, fun b o h => hb.frozen (p := ⟨b, o, none⟩) h⟩

/-- How many blocks there are, behind one step. -/
theorem szs : (∀ (w : World) (o : Obj), (w.alloc o).heap.size = w.heap.size + 1) ∧ (∀ (w : World) (p : Addr) (v : Value), (w.setCell p v).heap.size = w.heap.size) ∧ (∀ w : World, w.drew.heap.size = w.heap.size) ∧ (∀ (w : World) (n : Nat), (w.drewN n).heap.size = w.heap.size) :=
  ⟨World.size_alloc, World.size_setCell, World.size_drew, size_drewN⟩
theorem own1 {B : Nat} {W w1 : World} (hb : Below B W w1) (x : Nat) (h : x < B) (hB : B ≤ W.heap.size := by exact Nat.le_refl _) : x < w1.heap.size ∧ x ≤ w1.heap.size ∧ x ≠ w1.heap.size ∧ w1.heap.size ≠ x ∧ w1.cell? ⟨x, 0, none⟩ = W.cell? ⟨x, 0, none⟩ ∧ w1.frozen? ⟨x, 0, none⟩ = W.frozen? ⟨x, 0, none⟩ :=
  have l : x < w1.heap.size := Nat.lt_of_lt_of_le (Nat.lt_of_lt_of_le h hB) hb.size
  ⟨l, Nat.le_of_lt l, Nat.ne_of_lt l, Nat.ne_of_gt l, (bcell hb).1 x 0 h, (bcell hb).2 x 0 h⟩
theorem own2 {B : Nat} {W w1 : World} (hb : Below B W w1) (x : Nat) (h : x < B) (hB : B ≤ W.heap.size := by exact Nat.le_refl _) : x < w1.heap.size ∧ x ≤ w1.heap.size ∧ x ≠ w1.heap.size ∧ w1.heap.size ≠ x ∧ w1.cell? ⟨x, 0, none⟩ = W.cell? ⟨x, 0, none⟩ ∧ w1.frozen? ⟨x, 0, none⟩ = W.frozen? ⟨x, 0, none⟩ ∧ w1.cell? ⟨x, 1, none⟩ = W.cell? ⟨x, 1, none⟩ ∧ w1.frozen? ⟨x, 1, none⟩ = W.frozen? ⟨x, 1, none⟩ :=
  have l : x < w1.heap.size := Nat.lt_of_lt_of_le (Nat.lt_of_lt_of_le h hB) hb.size
  ⟨l, Nat.le_of_lt l, Nat.ne_of_lt l, Nat.ne_of_gt l, (bcell hb).1 x 0 h, (bcell hb).2 x 0 h, (bcell hb).1 x 1 h, (bcell hb).2 x 1 h⟩
theorem own3 {B : Nat} {W w1 : World} (hb : Below B W w1) (x : Nat) (h : x < B) (hB : B ≤ W.heap.size := by exact Nat.le_refl _) : x < w1.heap.size ∧ x ≤ w1.heap.size ∧ x ≠ w1.heap.size ∧ w1.heap.size ≠ x ∧ w1.cell? ⟨x, 0, none⟩ = W.cell? ⟨x, 0, none⟩ ∧ w1.frozen? ⟨x, 0, none⟩ = W.frozen? ⟨x, 0, none⟩ ∧ w1.cell? ⟨x, 1, none⟩ = W.cell? ⟨x, 1, none⟩ ∧ w1.frozen? ⟨x, 1, none⟩ = W.frozen? ⟨x, 1, none⟩ ∧ w1.cell? ⟨x, 2, none⟩ = W.cell? ⟨x, 2, none⟩ ∧ w1.frozen? ⟨x, 2, none⟩ = W.frozen? ⟨x, 2, none⟩ :=
  have l : x < w1.heap.size := Nat.lt_of_lt_of_le (Nat.lt_of_lt_of_le h hB) hb.size
  ⟨l, Nat.le_of_lt l, Nat.ne_of_lt l, Nat.ne_of_gt l, (bcell hb).1 x 0 h, (bcell hb).2 x 0 h, (bcell hb).1 x 1 h, (bcell hb).2 x 1 h, (bcell hb).1 x 2 h, (bcell hb).2 x 2 h⟩
theorem own4 {B : Nat} {W w1 : World} (hb : Below B W w1) (x : Nat) (h : x < B) (hB : B ≤ W.heap.size := by exact Nat.le_refl _) : x < w1.heap.size ∧ x ≤ w1.heap.size ∧ x ≠ w1.heap.size ∧ w1.heap.size ≠ x ∧ w1.cell? ⟨x, 0, none⟩ = W.cell? ⟨x, 0, none⟩ ∧ w1.frozen? ⟨x, 0, none⟩ = W.frozen? ⟨x, 0, none⟩ ∧ w1.cell? ⟨x, 1, none⟩ = W.cell? ⟨x, 1, none⟩ ∧ w1.frozen? ⟨x, 1, none⟩ = W.frozen? ⟨x, 1, none⟩ ∧ w1.cell? ⟨x, 2, none⟩ = W.cell? ⟨x, 2, none⟩ ∧ w1.frozen? ⟨x, 2, none⟩ = W.frozen? ⟨x, 2, none⟩ ∧ w1.cell? ⟨x, 3, none⟩ = W.cell? ⟨x, 3, none⟩ ∧ w1.frozen? ⟨x, 3, none⟩ = W.frozen? ⟨x, 3, none⟩ :=
  have l : x < w1.heap.size := Nat.lt_of_lt_of_le (Nat.lt_of_lt_of_le h hB) hb.size
  ⟨l, Nat.le_of_lt l, Nat.ne_of_lt l, Nat.ne_of_gt l, (bcell hb).1 x 0 h, (bcell hb).2 x 0 h, (bcell hb).1 x 1 h, (bcell hb).2 x 1 h, (bcell hb).1 x 2 h, (bcell hb).2 x 2 h, (bcell hb).1 x 3 h, (bcell hb).2 x 3 h⟩
/-- A variable of the call's own, of two cells. -/
structure Two (w : World) (b : Nat) (x y : Value) : Prop where
  c0 : w.cell? ⟨b, 0, none⟩ = some x
  c1 : w.cell? ⟨b, 1, none⟩ = some y
  f0 : w.frozen? ⟨b, 0, none⟩ = false
  f1 : w.frozen? ⟨b, 1, none⟩ = false
  lt : b < w.heap.size
theorem Two.below {w w1 : World} {B b : Nat} {x y : Value} (t : Two w b x y) (hb : Below B w w1) (h : b < B) : Two w1 b x y :=
  ⟨by rw [(bcell hb).1 b 0 h]; exact t.c0, by rw [(bcell hb).1 b 1 h]; exact t.c1, by rw [(bcell hb).2 b 0 h]; exact t.f0, by rw [(bcell hb).2 b 1 h]; exact t.f1, Nat.lt_of_lt_of_le t.lt hb.size⟩
theorem Two.alloc {w : World} {b : Nat} {x y : Value} (t : Two w b x y) (o : Obj) : Two (w.alloc o) b x y := t.below ((Below.refl w.heap.size w).alloc (Nat.le_refl _) o) t.lt
theorem Two.put {w : World} {b : Nat} {x y : Value} (t : Two w b x y) (x' y' : Value) : Two ((w.setCell ⟨b, 0, none⟩ x').setCell ⟨b, 1, none⟩ y') b x' y' where
  c0 := by rw [World.cell?_setCell_other _ _ _ _ (by simp), World.cell?_setCell_same _ _ _ t.c0]
  c1 := by rw [World.cell?_setCell_same _ _ _ (u := y) (by rw [World.cell?_setCell_other _ _ _ _ (by simp), t.c1])]
  f0 := by simp [t.f0]
  f1 := by simp [t.f1]
  lt := by simp [t.lt]
theorem Two.far {w : World} {b b' : Nat} {x y : Value} (t : Two w b x y) (h : b' ≠ b) (o : Nat) (v : Value) : Two (w.setCell ⟨b', o, none⟩ v) b x y where
  c0 := by rw [World.cell?_setCell_other _ _ _ _ (by simp [h]), t.c0]
  c1 := by rw [World.cell?_setCell_other _ _ _ _ (by simp [h]), t.c1]
  f0 := by simp [t.f0]
  f1 := by simp [t.f1]
  lt := by simp [t.lt]
theorem Two.new {w : World} {x y : Value} {t : TypeId} {b : Nat} (h : b = w.heap.size) : Two (w.alloc (.cells #[x, y] t)) b x y := by subst h; exact ⟨by simp [go_sem], by simp [go_sem], by simp [go_sem], by simp [go_sem], by simp⟩

/-- Such a variable, whatever it holds. -/
def Own2 (w : World) (b : Nat) : Prop := ∃ x y, Two w b x y
theorem Two.own {w : World} {b : Nat} {x y : Value} (t : Two w b x y) : Own2 w b := ⟨x, y, t⟩
theorem Two.set {w : World} {b : Nat} (t : Own2 w b) (x' y' : Value) : Two ((w.setCell ⟨b, 0, none⟩ x').setCell ⟨b, 1, none⟩ y') b x' y' := by obtain ⟨x, y, t⟩ := t; exact t.put x' y'
theorem Own2.set {w : World} {b : Nat} (t : Own2 w b) (x' y' : Value) : Own2 ((w.setCell ⟨b, 0, none⟩ x').setCell ⟨b, 1, none⟩ y') b := (Two.set t x' y').own
theorem Two.via {w w1 : World} {B b : Nat} {x y : Value} (hb : Below B w w1) (t : Two w b x y) (h : b < B) : Two w1 b x y := t.below hb h
theorem Two.drew {w : World} {b : Nat} {x y : Value} (t : Two w b x y) : Two w.drew b x y := t.below ((Below.refl w.heap.size w).drew) t.lt
theorem Two.drewN {w : World} {b : Nat} {x y : Value} (t : Two w b x y) (n : Nat) : Two (w.drewN n) b x y := t.below (below_drewN (Below.refl w.heap.size w) n) t.lt
theorem Own2.via {w w1 : World} {B b : Nat} (hb : Below B w w1) (t : Own2 w b) (h : b < B) : Own2 w1 b := by obtain ⟨x, y, t⟩ := t; exact ⟨x, y, t.below hb h⟩
theorem Own2.far {w : World} {b b' : Nat} (t : Own2 w b) (h : b' ≠ b) (o : Nat) (v : Value) : Own2 (w.setCell ⟨b', o, none⟩ v) b := by obtain ⟨x, y, t⟩ := t; exact ⟨x, y, t.far h o v⟩
theorem Own2.alloc {w : World} {b : Nat} (t : Own2 w b) (o : Obj) : Own2 (w.alloc o) b := by obtain ⟨x, y, t⟩ := t; exact ⟨x, y, t.alloc o⟩
theorem Own2.new {w : World} {x y : Value} {t : TypeId} {b : Nat} (h : b = w.heap.size) : Own2 (w.alloc (.cells #[x, y] t)) b := ⟨x, y, Two.new h⟩
theorem Own2.drew {w : World} {b : Nat} (t : Own2 w b) : Own2 w.drew b := by obtain ⟨x, y, t⟩ := t; exact ⟨x, y, t.drew⟩
theorem Own2.drewN {w : World} {b : Nat} (t : Own2 w b) (n : Nat) : Own2 (w.drewN n) b := by obtain ⟨x, y, t⟩ := t; exact ⟨x, y, t.drewN n⟩

/-- A word of 64 bits, as a plain number. -/
theorem word_of {a : Int} (h : (Lit.int .u64 a).wf = true) : ∃ n : Nat, a = (n : Int) ∧ n < 18446744073709551616 := by
  have := bounds_u64 h
  exact ⟨a.toNat, by omega, by omega⟩
end Go.Proofs.YtdaonbfdcpkipaaDoor

namespace Go.Proofs.YtdaonbfdcpkipaaDoor
open Go.RowKit Go.Proofs
set_option linter.unusedVariables false
set_option linter.unusedSimpArgs false

/-- A variable of the call's own, of three cells. -/
structure Three (w : World) (b : Nat) (x y z : Value) : Prop where
  c0 : w.cell? ⟨b, 0, none⟩ = some x
  c1 : w.cell? ⟨b, 1, none⟩ = some y
  c2 : w.cell? ⟨b, 2, none⟩ = some z
  f0 : w.frozen? ⟨b, 0, none⟩ = false
  f1 : w.frozen? ⟨b, 1, none⟩ = false
  f2 : w.frozen? ⟨b, 2, none⟩ = false
  lt : b < w.heap.size
theorem Three.below {w w1 : World} {B b : Nat} {x y z : Value} (t : Three w b x y z) (hb : Below B w w1) (h : b < B) : Three w1 b x y z :=
  ⟨by rw [(bcell hb).1 b 0 h]; exact t.c0, by rw [(bcell hb).1 b 1 h]; exact t.c1, by rw [(bcell hb).1 b 2 h]; exact t.c2, by rw [(bcell hb).2 b 0 h]; exact t.f0, by rw [(bcell hb).2 b 1 h]; exact t.f1, by rw [(bcell hb).2 b 2 h]; exact t.f2, Nat.lt_of_lt_of_le t.lt hb.size⟩
theorem Three.alloc {w : World} {b : Nat} {x y z : Value} (t : Three w b x y z) (o : Obj) : Three (w.alloc o) b x y z := t.below ((Below.refl w.heap.size w).alloc (Nat.le_refl _) o) t.lt
theorem Three.put0 {w : World} {b : Nat} {x y z : Value} (t : Three w b x y z) (v : Value) : Three (w.setCell ⟨b, 0, none⟩ v) b v y z where
  c0 := by rw [World.cell?_setCell_same _ _ _ t.c0]
  c1 := by rw [World.cell?_setCell_other _ _ _ _ (by simp), t.c1]
  c2 := by rw [World.cell?_setCell_other _ _ _ _ (by simp), t.c2]
  f0 := by simp [t.f0]
  f1 := by simp [t.f1]
  f2 := by simp [t.f2]
  lt := by simp [t.lt]
theorem Three.put1 {w : World} {b : Nat} {x y z : Value} (t : Three w b x y z) (v : Value) : Three (w.setCell ⟨b, 1, none⟩ v) b x v z where
  c0 := by rw [World.cell?_setCell_other _ _ _ _ (by simp), t.c0]
  c1 := by rw [World.cell?_setCell_same _ _ _ t.c1]
  c2 := by rw [World.cell?_setCell_other _ _ _ _ (by simp), t.c2]
  f0 := by simp [t.f0]
  f1 := by simp [t.f1]
  f2 := by simp [t.f2]
  lt := by simp [t.lt]
theorem Three.put2 {w : World} {b : Nat} {x y z : Value} (t : Three w b x y z) (v : Value) : Three (w.setCell ⟨b, 2, none⟩ v) b x y v where
  c0 := by rw [World.cell?_setCell_other _ _ _ _ (by simp), t.c0]
  c1 := by rw [World.cell?_setCell_other _ _ _ _ (by simp), t.c1]
  c2 := by rw [World.cell?_setCell_same _ _ _ t.c2]
  f0 := by simp [t.f0]
  f1 := by simp [t.f1]
  f2 := by simp [t.f2]
  lt := by simp [t.lt]
theorem Three.put {w : World} {b : Nat} {x y z : Value} (t : Three w b x y z) (x' y' z' : Value) : Three (((w.setCell ⟨b, 0, none⟩ x').setCell ⟨b, 1, none⟩ y').setCell ⟨b, 2, none⟩ z') b x' y' z' :=
  ((t.put0 x').put1 y').put2 z'
theorem Three.far {w : World} {b b' : Nat} {x y z : Value} (t : Three w b x y z) (h : b' ≠ b) (o : Nat) (v : Value) : Three (w.setCell ⟨b', o, none⟩ v) b x y z where
  c0 := by rw [World.cell?_setCell_other _ _ _ _ (by simp [h]), t.c0]
  c1 := by rw [World.cell?_setCell_other _ _ _ _ (by simp [h]), t.c1]
  c2 := by rw [World.cell?_setCell_other _ _ _ _ (by simp [h]), t.c2]
  f0 := by simp [t.f0]
  f1 := by simp [t.f1]
  f2 := by simp [t.f2]
  lt := by simp [t.lt]
theorem Three.new {w : World} {x y z : Value} {t : TypeId} {b : Nat} (h : b = w.heap.size) : Three (w.alloc (.cells #[x, y, z] t)) b x y z := by subst h; exact ⟨by simp [go_sem], by simp [go_sem], by simp [go_sem], by simp [go_sem], by simp [go_sem], by simp [go_sem], by simp⟩

/-- Such a variable, whatever it holds. -/
def Own3 (w : World) (b : Nat) : Prop := ∃ x y z, Three w b x y z
theorem Three.own {w : World} {b : Nat} {x y z : Value} (t : Three w b x y z) : Own3 w b := ⟨x, y, z, t⟩
theorem Three.set {w : World} {b : Nat} (t : Own3 w b) (x' y' z' : Value) : Three (((w.setCell ⟨b, 0, none⟩ x').setCell ⟨b, 1, none⟩ y').setCell ⟨b, 2, none⟩ z') b x' y' z' := by obtain ⟨x, y, z, t⟩ := t; exact t.put x' y' z'
theorem Own3.set {w : World} {b : Nat} (t : Own3 w b) (x' y' z' : Value) : Own3 (((w.setCell ⟨b, 0, none⟩ x').setCell ⟨b, 1, none⟩ y').setCell ⟨b, 2, none⟩ z') b := (Three.set t x' y' z').own
theorem Three.via {w w1 : World} {B b : Nat} {x y z : Value} (hb : Below B w w1) (t : Three w b x y z) (h : b < B) : Three w1 b x y z := t.below hb h
theorem Three.drew {w : World} {b : Nat} {x y z : Value} (t : Three w b x y z) : Three w.drew b x y z := t.below ((Below.refl w.heap.size w).drew) t.lt
theorem Three.drewN {w : World} {b : Nat} {x y z : Value} (t : Three w b x y z) (n : Nat) : Three (w.drewN n) b x y z := t.below (below_drewN (Below.refl w.heap.size w) n) t.lt
theorem Own3.via {w w1 : World} {B b : Nat} (hb : Below B w w1) (t : Own3 w b) (h : b < B) : Own3 w1 b := by obtain ⟨x, y, z, t⟩ := t; exact ⟨x, y, z, t.below hb h⟩
theorem Own3.far {w : World} {b b' : Nat} (t : Own3 w b) (h : b' ≠ b) (o : Nat) (v : Value) : Own3 (w.setCell ⟨b', o, none⟩ v) b := by obtain ⟨x, y, z, t⟩ := t; exact ⟨x, y, z, t.far h o v⟩
theorem Own3.alloc {w : World} {b : Nat} (t : Own3 w b) (o : Obj) : Own3 (w.alloc o) b := by obtain ⟨x, y, z, t⟩ := t; exact ⟨x, y, z, t.alloc o⟩
theorem Own3.new {w : World} {x y z : Value} {t : TypeId} {b : Nat} (h : b = w.heap.size) : Own3 (w.alloc (.cells #[x, y, z] t)) b := ⟨x, y, z, Three.new h⟩
theorem Own3.drew {w : World} {b : Nat} (t : Own3 w b) : Own3 w.drew b := by obtain ⟨x, y, z, t⟩ := t; exact ⟨x, y, z, t.drew⟩
theorem Own3.drewN {w : World} {b : Nat} (t : Own3 w b) (n : Nat) : Own3 (w.drewN n) b := by obtain ⟨x, y, z, t⟩ := t; exact ⟨x, y, z, t.drewN n⟩
end Go.Proofs.YtdaonbfdcpkipaaDoor

namespace Go.Proofs.YtdaonbfdcpkipaaDoor
open Go.RowKit Go.Proofs
set_option linter.unusedVariables false
set_option linter.unusedSimpArgs false

theorem cells2 {w : World} {a : Nat} {x y : Value} (t : Two w a x y) : w.cell? ⟨a, 0, none⟩ = some x ∧ w.cell? ⟨a, 1, none⟩ = some y := ⟨t.c0, t.c1⟩
theorem cells3 {w : World} {a : Nat} {x y z : Value} (t : Three w a x y z) : w.cell? ⟨a, 0, none⟩ = some x ∧ w.cell? ⟨a, 1, none⟩ = some y ∧ w.cell? ⟨a, 2, none⟩ = some z := ⟨t.c0, t.c1, t.c2⟩
theorem cells_and {A B C : Prop} (h : A ∧ B) (k : C) : A ∧ B ∧ C := ⟨h.1, h.2, k⟩
theorem cells_and3 {A B C D : Prop} (h : A ∧ B ∧ C) (k : D) : A ∧ B ∧ C ∧ D := ⟨h.1, h.2.1, h.2.2, k⟩
end Go.Proofs.YtdaonbfdcpkipaaDoor

namespace Ob
set_option linter.unusedVariables false
set_option linter.unusedSimpArgs false

def upd (v : Nat → Nat) (i z : Nat) : Nat → Nat := fun j => if j = i then z else v j
theorem upd_same (v : Nat → Nat) (i z : Nat) : upd v i z i = z := if_pos rfl
theorem upd_ne (v : Nat → Nat) {i j : Nat} (z : Nat) (h : j ≠ i) : upd v i z j = v j := if_neg h
def s32 (x y : Nat) : Nat := (x + y) % 4294967296
/-- Rolled to the right. -/
def rot (x n : Nat) : Nat := x / 2 ^ n + x % 2 ^ n * 2 ^ (32 - n)
theorem s32_lt (x y : Nat) : s32 x y < 4294967296 := Nat.mod_lt _ (by decide)
theorem rot_lt {x n : Nat} (hx : x < 4294967296) (hn : n ≤ 32) : rot x n < 4294967296 := by
  unfold rot
  have hp : 0 < 2 ^ n := Nat.two_pow_pos n
  have e : (2 : Nat) ^ n * 2 ^ (32 - n) = 4294967296 := by rw [← Nat.pow_add, Nat.add_sub_cancel' hn]
  have h1 : x / 2 ^ n < 2 ^ (32 - n) := Nat.div_lt_of_lt_mul (by rw [e]; exact hx)
  have h2 : x % 2 ^ n + 1 ≤ 2 ^ n := Nat.mod_lt _ hp
  have h3 : (x % 2 ^ n + 1) * 2 ^ (32 - n) ≤ 4294967296 := by rw [← e]; exact Nat.mul_le_mul_right _ h2
  rw [Nat.add_mul, Nat.one_mul] at h3
  omega
theorem xor_lt {x y : Nat} (hx : x < 4294967296) (hy : y < 4294967296) : x ^^^ y < 4294967296 := Nat.xor_lt_two_pow (n := 32) hx hy
/-- All words below n. -/
def Words32 (v : Nat → Nat) : Prop := ∀ i, v i < 4294967296
theorem Words32.upd {v : Nat → Nat} (h : Words32 v) (i : Nat) {z : Nat} (hz : z < 4294967296) : Words32 (upd v i z) := fun j => by
  unfold Ob.upd
  split
  · exact hz
  · exact h j
/-- The first half of mixing four words with one, rolled by p and q. -/
def half (v : Nat → Nat) (a b c d x p q : Nat) : Nat → Nat :=
  let v1 := upd v a (s32 (s32 (v a) (v b)) x)
  let v2 := upd v1 d (rot (v1 d ^^^ v1 a) p)
  let v3 := upd v2 c (s32 (v2 c) (v2 d))
  upd v3 b (rot (v3 b ^^^ v3 c) q)
def mixN (v : Nat → Nat) (a b c d x y : Nat) : Nat → Nat := half (half v a b c d x 16 12) a b c d y 8 7
theorem half_words {v : Nat → Nat} (h : Words32 v) (a b c d x p q : Nat) (hp : p ≤ 32) (hq : q ≤ 32) : Words32 (half v a b c d x p q) := by
  have h1 : Words32 (upd v a (s32 (s32 (v a) (v b)) x)) := h.upd a (s32_lt _ _)
  have h2 := h1.upd d (rot_lt (xor_lt (h1 d) (h1 a)) hp)
  have h3 := h2.upd c (s32_lt ((upd (upd v a (s32 (s32 (v a) (v b)) x)) d (rot (upd v a (s32 (s32 (v a) (v b)) x) d ^^^ upd v a (s32 (s32 (v a) (v b)) x) a) p)) c) ((upd (upd v a (s32 (s32 (v a) (v b)) x)) d (rot (upd v a (s32 (s32 (v a) (v b)) x) d ^^^ upd v a (s32 (s32 (v a) (v b)) x) a) p)) d))
  exact h3.upd b (rot_lt (xor_lt (h3 b) (h3 c)) hq)
theorem mixN_words {v : Nat → Nat} (h : Words32 v) (a b c d x y : Nat) : Words32 (mixN v a b c d x y) := half_words (half_words h _ _ _ _ _ _ _ (by decide) (by decide)) _ _ _ _ _ _ _ (by decide) (by decide)
/-- The rounds' rows. -/
def sigT : List (List Nat) := [[0, 1, 2, 3, 4, 5, 6, 7, 8, 9, 10, 11, 12, 13, 14, 15], [14, 10, 4, 8, 9, 15, 13, 6, 1, 12, 0, 2, 11, 7, 5, 3], [11, 8, 12, 0, 5, 2, 15, 13, 10, 14, 3, 6, 7, 1, 9, 4], [7, 9, 3, 1, 13, 12, 11, 14, 2, 6, 5, 10, 4, 0, 15, 8], [9, 0, 5, 7, 2, 4, 10, 15, 14, 1, 11, 12, 6, 8, 3, 13], [2, 12, 6, 10, 0, 11, 8, 3, 4, 13, 7, 5, 15, 14, 1, 9], [12, 5, 1, 15, 14, 13, 4, 10, 0, 7, 6, 3, 9, 2, 8, 11], [13, 11, 7, 14, 12, 1, 3, 9, 5, 0, 15, 4, 8, 6, 2, 10], [6, 15, 14, 9, 11, 3, 0, 8, 12, 2, 13, 7, 1, 4, 10, 5], [10, 2, 8, 4, 7, 6, 1, 5, 15, 11, 9, 14, 3, 12, 13, 0]]
def sig (i j : Nat) : Nat := (sigT.getD i []).getD j 0
theorem sig_lt {i j : Nat} (hi : i < 10) (hj : j < 16) : sig i j < 16 := by
  have h : ∀ i : Fin 10, ∀ j : Fin 16, sig i.val j.val < 16 := by decide
  exact h ⟨i, hi⟩ ⟨j, hj⟩
/-- The words of the beginning. -/
def firstT : List Nat := [1779033703, 3144134277, 1013904242, 2773480762, 1359893119, 2600822924, 528734635, 1541459225]
def first (j : Nat) : Nat := firstT.getD j 0
/-- The places of a round's mixings. -/
def plcT : List (List Nat) := [[0, 4, 8, 12], [1, 5, 9, 13], [2, 6, 10, 14], [3, 7, 11, 15], [0, 5, 10, 15], [1, 6, 11, 12], [2, 7, 8, 13], [3, 4, 9, 14]]
def plc (i j : Nat) : Nat := (plcT.getD i []).getD j 0
theorem plc_lt {i j : Nat} (hi : i < 8) (hj : j < 4) : plc i j < 16 := by
  have h : ∀ i : Fin 8, ∀ j : Fin 4, plc i.val j.val < 16 := by decide
  exact h ⟨i, hi⟩ ⟨j, hj⟩
theorem plc_ne {i j k : Nat} (hi : i < 8) (hj : j < 4) (hk : k < 4) (h : j ≠ k) : plc i j ≠ plc i k := by
  have h' : ∀ i : Fin 8, ∀ j k : Fin 4, j ≠ k → plc i.val j.val ≠ plc i.val k.val := by decide
  exact h' ⟨i, hi⟩ ⟨j, hj⟩ ⟨k, hk⟩ (by intro e; exact h (congrArg Fin.val e))
/-- One mixing of a round, a round, the rounds. -/
def mixI (v m : Nat → Nat) (r i : Nat) : Nat → Nat := mixN v (plc i 0) (plc i 1) (plc i 2) (plc i 3) (m (sig r (2 * i))) (m (sig r (2 * i + 1)))
def roundN (v m : Nat → Nat) (r : Nat) : Nat → Nat → Nat
  | 0 => v
  | i + 1 => mixI (roundN v m r i) m r i
def rounds (v m : Nat → Nat) : Nat → Nat → Nat
  | 0 => v
  | r + 1 => roundN (rounds v m r) m r 8
theorem roundN_words {v : Nat → Nat} (h : Words32 v) (m : Nat → Nat) (r : Nat) : ∀ i, Words32 (roundN v m r i)
  | 0 => h
  | i + 1 => mixN_words (roundN_words h m r i) _ _ _ _ _ _
theorem rounds_words {v : Nat → Nat} (h : Words32 v) (m : Nat → Nat) : ∀ r, Words32 (rounds v m r)
  | 0 => h
  | r + 1 => roundN_words (rounds_words h m r) m r 8
/-- The sixteen words. -/
def six0 (h : Nat → Nat) (j : Nat) : Nat := if j < 8 then h j else first (j - 8)
/-- .. i of each half laid. -/
def sixI (h : Nat → Nat) (i j : Nat) : Nat := if j < 8 then (if j < i then h j else 0) else (if j < 8 + i then first (j - 8) else 0)
theorem sixI_zero (h : Nat → Nat) : sixI h 0 = fun _ => 0 := by
  funext j
  unfold sixI
  split <;> simp <;> omega
theorem sixI_succ (h : Nat → Nat) {i : Nat} (hi : i < 8) : upd (upd (sixI h i) i (h i)) (i + 8) (first i) = sixI h (i + 1) := by
  funext j
  unfold upd sixI
  by_cases h1 : j = i + 8
  · subst h1
    rw [if_pos rfl, if_neg (by omega), if_pos (by omega), Nat.add_sub_cancel]
  · by_cases h2 : j = i
    · subst h2; simp [h1, hi]
    · simp only [h1, h2, if_false]
      by_cases h3 : j < 8
      · simp only [h3, if_true]
        by_cases h4 : j < i
        · simp [h4, Nat.lt_succ_of_lt h4]
        · simp [h4]; omega
      · simp only [h3, if_false]
        by_cases h4 : j < 8 + i
        · simp [h4]; omega
        · simp [h4]; omega
theorem sixI_end (h : Nat → Nat) : ∀ j, j < 16 → sixI h 8 j = six0 h j := by
  intro j hj
  unfold sixI six0
  by_cases h3 : j < 8
  · simp [h3]
  · simp [h3]; omega
def six (h : Nat → Nat) (c : Nat) (last : Bool) : Nat → Nat :=
  let v2 := upd (upd (six0 h) 12 (six0 h 12 ^^^ (c % 4294967296))) 13 (six0 h 13 ^^^ (c / 4294967296))
  if last then upd v2 14 (six0 h 14 ^^^ 4294967295) else v2
def press (h m : Nat → Nat) (c : Nat) (last : Bool) (j : Nat) : Nat := h j ^^^ (rounds (six h c last) m 10 j ^^^ rounds (six h c last) m 10 (j + 8))
theorem first_lt (j : Nat) : first j < 4294967296 := by
  have h : ∀ j : Fin 8, first j.val < 4294967296 := by decide
  rcases Nat.lt_or_ge j 8 with hj | hj
  · exact h ⟨j, hj⟩
  · have : first j = 0 := by
      unfold first
      rw [List.getD_eq_getElem?_getD, List.getElem?_eq_none (by simpa [firstT] using hj)]
      rfl
    rw [this]; decide
theorem six0_words {h : Nat → Nat} (hh : Words32 h) : Words32 (six0 h) := fun j => by
  unfold six0
  split
  · exact hh j
  · exact first_lt _
theorem six_words {h : Nat → Nat} (hh : Words32 h) {c : Nat} (hc : c < 18446744073709551616) (last : Bool) : Words32 (six h c last) := by
  have h0 := six0_words hh
  have h2 := (h0.upd 12 (xor_lt (h0 12) (y := c % 4294967296) (by omega))).upd 13 (xor_lt (h0 13) (y := c / 4294967296) (by omega))
  unfold six
  cases last
  · exact h2
  · exact h2.upd 14 (xor_lt (h0 14) (by decide))
theorem press_words {h m : Nat → Nat} (hh : Words32 h) {c : Nat} (hc : c < 18446744073709551616) (last : Bool) : Words32 (press h m c last) := fun j =>
  xor_lt (hh j) (xor_lt (rounds_words (six_words hh hc last) m 10 j) (rounds_words (six_words hh hc last) m 10 (j + 8)))
theorem flip32 (x : Nat) (hx : x < 4294967296) : x ^^^ 4294967295 = 4294967295 - x := by
  have h := congrArg BitVec.toNat (BitVec.xor_allOnes (x := BitVec.ofNat 32 x))
  simp only [BitVec.toNat_xor, BitVec.toNat_ofNat, BitVec.toNat_allOnes, BitVec.toNat_not] at h
  rw [Nat.mod_eq_of_lt (by omega)] at h
  simpa using h
/-- The number of k bytes, the lowest first. -/
def lowN (z : Nat → Nat) : Nat → Nat
  | 0 => 0
  | k + 1 => lowN z k + z k * 2 ^ (8 * k)
theorem lowN_lt {z : Nat → Nat} (hz : ∀ i, z i < 256) : ∀ k, lowN z k < 2 ^ (8 * k)
  | 0 => by show 0 < 2 ^ (8 * 0); decide
  | k + 1 => by
    have h := lowN_lt hz k
    have e : (2 : Nat) ^ (8 * (k + 1)) = 2 ^ (8 * k) * 256 := by rw [Nat.mul_add, Nat.pow_add]
    have h1 : (z k + 1) * 2 ^ (8 * k) ≤ 256 * 2 ^ (8 * k) := Nat.mul_le_mul_right _ (hz k)
    rw [e, lowN]
    rw [Nat.add_mul, Nat.one_mul] at h1
    rw [Nat.mul_comm (2 ^ (8 * k)) 256]
    omega
/-- The words that the first block is pressed into, by the two words of a person. -/
def open0 (x y : Nat) : Nat → Nat := upd (upd (upd first 0 (first 0 ^^^ 16842784)) 6 (first 6 ^^^ x)) 7 (first 7 ^^^ y)
theorem open0_words {x y : Nat} (hx : x < 4294967296) (hy : y < 4294967296) : Words32 (open0 x y) :=
  ((Words32.upd (fun j => first_lt j) 0 (xor_lt (first_lt 0) (by decide))).upd 6 (xor_lt (first_lt 6) hx)).upd 7 (xor_lt (first_lt 7) hy)
/-- A block of n bytes. -/
def blk (z : Nat → Nat) (n i j : Nat) : Nat := if 64 * i + j < n then z (64 * i + j) else 0
theorem blk_lt {z : Nat → Nat} (hz : ∀ i, z i < 256) (n i j : Nat) : blk z n i j < 256 := by
  unfold blk
  split
  · exact hz _
  · decide
/-- How many blocks n bytes have; the words behind i of them. -/
def nblk (n : Nat) : Nat := if n = 0 then 1 else (n + 63) / 64
def digI (h : Nat → Nat) (m : Nat → Nat → Nat) (n : Nat) : Nat → Nat → Nat
  | 0 => h
  | i + 1 => press (digI h m n i) (m i) (min (64 * (i + 1)) n) (decide (n ≤ 64 * (i + 1)))
theorem digI_words {h : Nat → Nat} (hh : Words32 h) (m : Nat → Nat → Nat) {n : Nat} (hn : n < 18446744073709551616) : ∀ i, Words32 (digI h m n i)
  | 0 => hh
  | i + 1 => press_words (digI_words hh m hn i) (by omega) _
/-- The half of a mixing, as four words. -/
theorem half_four (v : Nat → Nat) {a b c d : Nat} (hab : a ≠ b) (hac : a ≠ c) (had : a ≠ d) (hbc : b ≠ c) (hbd : b ≠ d) (hcd : c ≠ d) (x p q A B C D : Nat)
    (hA : s32 (v a) (s32 (v b) x) = A) (hD : rot (v d ^^^ A) p = D) (hC : s32 (v c) D = C) (hB : rot (v b ^^^ C) q = B) :
    upd (upd (upd (upd v a A) b B) c C) d D = half v a b c d x p q := by
  have e : s32 (s32 (v a) (v b)) x = A := by rw [← hA]; unfold s32; omega
  unfold half
  simp only [e]
  have e1 : upd v a A d = v d := upd_ne v A (Ne.symm had)
  have e2 : upd v a A a = A := upd_same v a A
  rw [e1, e2, hD]
  have e3 : upd (upd v a A) d D c = v c := by rw [upd_ne _ _ hcd, upd_ne _ _ (Ne.symm hac)]
  have e4 : upd (upd v a A) d D d = D := upd_same _ _ _
  rw [e3, e4, hC]
  have e5 : upd (upd (upd v a A) d D) c C b = v b := by rw [upd_ne _ _ hbc, upd_ne _ _ hbd, upd_ne _ _ (Ne.symm hab)]
  have e6 : upd (upd (upd v a A) d D) c C c = C := upd_same _ _ _
  rw [e5, e6, hB]
  funext j
  unfold upd
  by_cases h1 : j = a
  · subst h1; simp [hab, hac, had]
  · by_cases h2 : j = b
    · subst h2; simp [hbc, hbd, h1]
    · by_cases h3 : j = c
      · subst h3; simp [hcd, h1, h2]
      · by_cases h4 : j = d
        · subst h4; simp [h1, h2, h3]
        · simp [h1, h2, h3, h4]
end Ob

namespace Go.Proofs.YtdaonbfdcpkipaaDoor
open Go.RowKit Go.Proofs
set_option linter.unusedVariables false
set_option linter.unusedSimpArgs false

def arrL (k : IntKind) (v : Nat → Nat) (n : Nat) : List Value := (List.range n).map fun i => .int k (v i : Nat)
def arrV (k : IntKind) (v : Nat → Nat) (n : Nat) : Value := .agg (arrL k v n).toArray
theorem arrL_length (k : IntKind) (v : Nat → Nat) (n : Nat) : (arrL k v n).length = n := by unfold arrL; simp
theorem arrL_get (k : IntKind) (v : Nat → Nat) (n i : Nat) (h : i < n) : (arrL k v n)[i]? = some (.int k (v i : Nat)) := by unfold arrL; simp [h]
theorem arrL_one (k : IntKind) (v : Nat → Nat) (n : Nat) : ∀ u ∈ arrL k v n, u.oneCell' = true := by
  unfold arrL
  intro u hu
  obtain ⟨_, _, rfl⟩ := List.mem_map.1 hu
  rfl
theorem arrL_congr {k : IntKind} {v v' : Nat → Nat} {n : Nat} (h : ∀ i, i < n → v i = v' i) : arrL k v n = arrL k v' n := by
  unfold arrL
  exact List.map_congr_left fun i hi => by rw [h i (List.mem_range.1 hi)]
/-- An array of n numbers lies in block b. -/
structure Arr (w : World) (k : IntKind) (b n : Nat) (v : Nat → Nat) : Prop where
  lt : b < w.heap.size
  c : ∀ i, i < n → w.cell? ⟨b, i, none⟩ = some (.int k (v i : Nat))
  f : ∀ i, i < n → w.frozen? ⟨b, i, none⟩ = false
theorem Arr.below {w w1 : World} {k : IntKind} {B b n : Nat} {v : Nat → Nat} (t : Arr w k b n v) (hb : Below B w w1) (h : b < B) : Arr w1 k b n v :=
  ⟨Nat.lt_of_lt_of_le t.lt hb.size, fun i hi => by rw [(bcell hb).1 b i h]; exact t.c i hi, fun i hi => by rw [(bcell hb).2 b i h]; exact t.f i hi⟩
theorem Arr.via {w w1 : World} {k : IntKind} {B b n : Nat} {v : Nat → Nat} (hb : Below B w w1) (t : Arr w k b n v) (h : b < B) : Arr w1 k b n v := t.below hb h
theorem Arr.alloc {w : World} {k : IntKind} {b n : Nat} {v : Nat → Nat} (t : Arr w k b n v) (o : Obj) : Arr (w.alloc o) k b n v := t.below ((Below.refl w.heap.size w).alloc (Nat.le_refl _) o) t.lt
theorem Arr.drew {w : World} {k : IntKind} {b n : Nat} {v : Nat → Nat} (t : Arr w k b n v) : Arr w.drew k b n v := t.below ((Below.refl w.heap.size w).drew) t.lt
theorem Arr.drewN {w : World} {k : IntKind} {b n : Nat} {v : Nat → Nat} (t : Arr w k b n v) (m : Nat) : Arr (w.drewN m) k b n v := t.below (below_drewN (Below.refl w.heap.size w) m) t.lt
theorem Arr.far {w : World} {k : IntKind} {b b' n : Nat} {v : Nat → Nat} (t : Arr w k b n v) (h : b' ≠ b) (o : Nat) (z : Value) : Arr (w.setCell ⟨b', o, none⟩ z) k b n v :=
  ⟨by simp [t.lt], fun i hi => by rw [World.cell?_setCell_other _ _ _ _ (by simp [h]), t.c i hi], fun i hi => by simp [t.f i hi]⟩
theorem Arr.set {w : World} {k : IntKind} {b n : Nat} {v : Nat → Nat} (t : Arr w k b n v) {i z : Nat} (hi : i < n) : Arr (w.setCell ⟨b, i, none⟩ (.int k (z : Nat))) k b n (Ob.upd v i z) where
  lt := by simp [t.lt]
  c := fun j hj => by
    by_cases h : j = i
    · subst h
      rw [Ob.upd_same]
      exact World.cell?_setCell_same _ _ _ (t.c j hj)
    · rw [Ob.upd_ne _ _ h, World.cell?_setCell_other _ _ _ _ (by first | (simp; done) | (simp; omega)), t.c j hj]
  f := fun j hj => by simp [t.f j hj]
theorem Arr.new {w : World} {k : IntKind} {v : Nat → Nat} {n : Nat} {t : TypeId} {b : Nat} (h : b = w.heap.size) : Arr (w.alloc (.cells (arrL k v n).toArray t)) k b n v := by
  subst h
  exact ⟨by simp, fun i hi => by rw [World.cell?_alloc_at _ _ _ _ rfl, List.getElem?_toArray, arrL_get k v n i hi], fun i hi => by rw [World.frozen?_alloc_at _ _ _ _ rfl]⟩
theorem Arr.range {w : World} {k : IntKind} {b n : Nat} {v : Nat → Nat} (t : Arr w k b n v) : w.rangeAt b 0 (arrL k v n) := fun j u hu => by
  have hj : j < n := by have := (List.getElem?_eq_some_iff.1 hu).1; rwa [arrL_length] at this
  rw [arrL_get k v n j hj] at hu
  rw [Nat.zero_add, t.c j hj]; exact hu
theorem Arr.there {w : World} {k : IntKind} {b n : Nat} {v : Nat → Nat} (t : Arr w k b n v) : w.there b 0 n := fun j hj => by
  rw [Nat.zero_add]
  exact ⟨by rw [t.c j hj]; rfl, t.f j hj⟩

theorem setCells_size (w : World) (b o : Nat) (cs : List Value) : (w.setCells b o cs).heap.size = w.heap.size := by
  induction cs generalizing o w with
  | nil => rfl
  | cons c r ih => rw [World.setCells, ih]; exact World.size_setCell _ _ _
/-- The whole of it stored. -/
theorem Arr.whole {w : World} {k : IntKind} {b n : Nat} {v : Nat → Nat} (t : Arr w k b n v) (v' : Nat → Nat) : Arr (w.setCells b 0 (arrL k v' n)) k b n v' := by
  have h := World.rangeAt_setCells_same w b 0 (arrL k v' n) (by rw [arrL_length]; exact t.there)
  have ht := World.there_setCells t.there b 0 (arrL k v' n)
  refine ⟨?_, fun i hi => ?_, fun i hi => ?_⟩
  · by_cases hn : n = 0
    · subst hn
      exact t.lt
    · have := h 0 _ (arrL_get k v' n 0 (by omega))
      simpa using World.block_lt_of_cell? _ _ this
  · have := h i _ (arrL_get k v' n i hi)
    rwa [Nat.zero_add] at this
  · have := (ht i hi).2
    rwa [Nat.zero_add] at this
theorem below_setCells {B b : Nat} {a w : World} (h : Below B a w) (hb : B ≤ b) (vs : List Value) : ∀ o, Below B a (w.setCells b o vs) := by
  induction vs generalizing w with
  | nil => intro o; exact h
  | cons v r ih => intro o; exact ih (h.setCell hb _) (o + 1)
theorem Arr.farCells {w : World} {k : IntKind} {b b' n : Nat} {v : Nat → Nat} (t : Arr w k b n v) (h : b' ≠ b) (o : Nat) (cs : List Value) : Arr (w.setCells b' o cs) k b n v := by
  have hs : ∀ (cs : List Value) (o : Nat) (w : World), Arr w k b n v → Arr (w.setCells b' o cs) k b n v := by
    intro cs
    induction cs with
    | nil => intro o w t; exact t
    | cons c r ih => intro o w t; exact ih (o + 1) _ (t.far h o c)
  exact hs cs o w t
theorem Arr.congr {w : World} {k : IntKind} {b n : Nat} {v v' : Nat → Nat} (t : Arr w k b n v) (h : ∀ i, i < n → v i = v' i) : Arr w k b n v' :=
  ⟨t.lt, fun i hi => by rw [← h i hi]; exact t.c i hi, t.f⟩
theorem Arr.new16 {w : World} {t : TypeId} : Arr (w.alloc (.cells #[.int .u32 0, .int .u32 0, .int .u32 0, .int .u32 0, .int .u32 0, .int .u32 0, .int .u32 0, .int .u32 0, .int .u32 0, .int .u32 0, .int .u32 0, .int .u32 0, .int .u32 0, .int .u32 0, .int .u32 0, .int .u32 0] t)) .u32 w.heap.size 16 (fun _ => 0) := Arr.new (k := .u32) (n := 16) (v := fun _ => 0) rfl
theorem Arr.new8 {w : World} {t : TypeId} : Arr (w.alloc (.cells #[.int .u32 0, .int .u32 0, .int .u32 0, .int .u32 0, .int .u32 0, .int .u32 0, .int .u32 0, .int .u32 0] t)) .u32 w.heap.size 8 (fun _ => 0) := Arr.new (k := .u32) (n := 8) (v := fun _ => 0) rfl
theorem Arr.new8b {w : World} {t : TypeId} : Arr (w.alloc (.cells #[.int .u8 0, .int .u8 0, .int .u8 0, .int .u8 0, .int .u8 0, .int .u8 0, .int .u8 0, .int .u8 0] t)) .u8 w.heap.size 8 (fun _ => 0) := Arr.new (k := .u8) (n := 8) (v := fun _ => 0) rfl
theorem Arr.new64b {w : World} {t : TypeId} : Arr (w.alloc (.cells #[.int .u8 0, .int .u8 0, .int .u8 0, .int .u8 0, .int .u8 0, .int .u8 0, .int .u8 0, .int .u8 0, .int .u8 0, .int .u8 0, .int .u8 0, .int .u8 0, .int .u8 0, .int .u8 0, .int .u8 0, .int .u8 0, .int .u8 0, .int .u8 0, .int .u8 0, .int .u8 0, .int .u8 0, .int .u8 0, .int .u8 0, .int .u8 0, .int .u8 0, .int .u8 0, .int .u8 0, .int .u8 0, .int .u8 0, .int .u8 0, .int .u8 0, .int .u8 0, .int .u8 0, .int .u8 0, .int .u8 0, .int .u8 0, .int .u8 0, .int .u8 0, .int .u8 0, .int .u8 0, .int .u8 0, .int .u8 0, .int .u8 0, .int .u8 0, .int .u8 0, .int .u8 0, .int .u8 0, .int .u8 0, .int .u8 0, .int .u8 0, .int .u8 0, .int .u8 0, .int .u8 0, .int .u8 0, .int .u8 0, .int .u8 0, .int .u8 0, .int .u8 0, .int .u8 0, .int .u8 0, .int .u8 0, .int .u8 0, .int .u8 0, .int .u8 0] t)) .u8 w.heap.size 64 (fun _ => 0) := Arr.new (k := .u8) (n := 64) (v := fun _ => 0) rfl
/-- The whole of it read. -/
theorem Arr.loadAt {w : World} {k : IntKind} {b n : Nat} {v : Nat → Nat} (t : Arr w k b n v) {ty : TypeId} {d : TypeDesc} (hu : Tryd.prog.underlying ty = some d) (hd : d.isRow = true) (hi : (Tryd.prog.info? ty).map (·.size) = some n) :
    (Instr.loadAt ty (.pointer (some ⟨b, 0, none⟩))).run Tryd.prog w = .ok (.agg (arrL k v n).toArray) w :=
  run_loadAt_mid w b 0 ty (arrL k v n) d t.range hu hd (by rw [arrL_length]; exact hi)
theorem Arr.loadVar {w : World} {k : IntKind} {b n : Nat} {v : Nat → Nat} (t : Arr w k b n v) {ty : TypeId} {d : TypeDesc} (hu : Tryd.prog.underlying ty = some d) (hd : d.isRow = true) (hi : (Tryd.prog.info? ty).map (·.size) = some n) :
    (Go.loadVar ty ⟨b, 0, none⟩).run Tryd.prog w = .ok (.agg (arrL k v n).toArray) w :=
  run_loadVar_mid w b 0 ty (arrL k v n) d t.range hu hd (by rw [arrL_length]; exact hi)
/-- The whole of it stored: the world behind it. -/
theorem Arr.storeAt {w : World} {k : IntKind} {b n : Nat} {v : Nat → Nat} (t : Arr w k b n v) (v' : Nat → Nat) {ty : TypeId} (hi : (Tryd.prog.info? ty).map (·.size) = some n) :
    ∃ w', (Instr.storeAt ty (.pointer (some ⟨b, 0, none⟩)) (.agg (arrL k v' n).toArray)).run Tryd.prog w = .ok () w' ∧ Hid (w' = w.setCells b 0 (arrL k v' n)) ∧ Arr w' k b n v' ∧ w'.heap.size = w.heap.size :=
  ⟨_, run_storeAt_mid w b 0 ty (arrL k v' n).toArray (by rw [show (arrL k v' n).toArray.size = n by simp [arrL_length]]; exact t.there) (by rw [show (arrL k v' n).toArray.size = n by simp [arrL_length]]; exact hi) (all_oneCell_toArray (arrL_one k v' n)), rfl, t.whole v', setCells_size _ _ _ _⟩
theorem wpList_loadArr {ops : Array Oper} {rest : List Oper} {op : Oper} {a : Act} {w : World} {Q : Exit → Act → World → Prop} (hgd : op.guard = none) (ty : TypeId) (x : Operand) (ho : op.op = .load ty x)
    (b : Nat) (hx : a.eval x = .pointer (some ⟨b, 0, none⟩)) {k : IntKind} {n : Nat} {v : Nat → Nat} {d : TypeDesc} (t : Arr w k b n v)
    (hu : Tryd.prog.underlying ty = some d) (hd : d.isRow = true) (hi : (Tryd.prog.info? ty).map (·.size) = some n)
    (h : wpList Tryd.prog ops Q rest (a.put op.dst (.agg (arrL k v n).toArray)) w) : wpList Tryd.prog ops Q (op :: rest) a w :=
  wpList_load_mid hgd ty x ho b 0 hx (arrL k v n) d t.range hu hd (by rw [arrL_length]; exact hi) h
theorem wpList_storeArr {ops : Array Oper} {rest : List Oper} {op : Oper} {a : Act} {w : World} {Q : Exit → Act → World → Prop} (hgd : op.guard = none) (ty : TypeId) (x y : Operand) (ho : op.op = .store ty x y)
    (b : Nat) (hx : a.eval x = .pointer (some ⟨b, 0, none⟩)) {k : IntKind} {n : Nat} {v : Nat → Nat} (v' : Nat → Nat) (hy : a.eval y = .agg (arrL k v' n).toArray) (t : Arr w k b n v)
    (hi : (Tryd.prog.info? ty).map (·.size) = some n)
    (h : ∀ w', Hid (w' = w.setCells b 0 (arrL k v' n)) → Hid (Arr w' k b n v') → w'.heap.size = w.heap.size → wpList Tryd.prog ops Q rest (a.put op.dst undef) w') : wpList Tryd.prog ops Q (op :: rest) a w := by
  have hs : (arrL k v' n).toArray.size = n := by simp [arrL_length]
  exact wpList_store_mid hgd ty x y ho b 0 (arrL k v' n).toArray hx hy (by rw [hs]; exact t.there) (by rw [hs]; exact hi) (all_oneCell_toArray (arrL_one k v' n))
    (by rw [List.toList_toArray]; exact h _ rfl (t.whole v') (setCells_size _ _ _ _))
theorem wpList_loadLit {ops : Array Oper} {rest : List Oper} {dst : Option Tmp} {ty ty' : TypeId} {x : Operand} {ps : String} {af : Array Edge} {a : Act} {w : World} {Q : Exit → Act → World → Prop}
    {b : Nat} {k : IntKind} {n : Nat} {v : Nat → Nat} {d : TypeDesc} (t : Arr w k b n v) (hx : a.eval x = .pointer (some ⟨b, 0, none⟩))
    (hu : Tryd.prog.underlying ty = some d) (hd : d.isRow = true) (hi : (Tryd.prog.info? ty).map (·.size) = some n)
    (h : wpList Tryd.prog ops Q rest (a.put dst (.agg (arrL k v n).toArray)) w) : wpList Tryd.prog ops Q (⟨dst, .load ty x, ty', ps, af, none⟩ :: rest) a w :=
  wpList_loadArr rfl ty x rfl b hx t hu hd hi h
theorem wpList_storeLit {ops : Array Oper} {rest : List Oper} {dst : Option Tmp} {ty ty' : TypeId} {x y : Operand} {ps : String} {af : Array Edge} {a : Act} {w : World} {Q : Exit → Act → World → Prop}
    {b : Nat} {k : IntKind} {n : Nat} {v : Nat → Nat} (v' : Nat → Nat) (t : Arr w k b n v) (hx : a.eval x = .pointer (some ⟨b, 0, none⟩)) (hy : a.eval y = .agg (arrL k v' n).toArray)
    (hi : (Tryd.prog.info? ty).map (·.size) = some n)
    (h : ∀ w', Hid (w' = w.setCells b 0 (arrL k v' n)) → Hid (Arr w' k b n v') → w'.heap.size = w.heap.size → wpList Tryd.prog ops Q rest (a.put dst undef) w') : wpList Tryd.prog ops Q (⟨dst, .store ty x y, ty', ps, af, none⟩ :: rest) a w :=
  wpList_storeArr rfl ty x y rfl b hx v' hy t hi h
/-- n numbers that lie in a block, from its head on, to be read. -/
structure Rd (w : World) (k : IntKind) (b n : Nat) (v : Nat → Nat) : Prop where
  lt : b < w.heap.size
  c : ∀ i, i < n → w.cell? ⟨b, i, none⟩ = some (.int k (v i : Nat))
theorem Rd.below {w w1 : World} {k : IntKind} {B b n : Nat} {v : Nat → Nat} (t : Rd w k b n v) (hb : Below B w w1) (h : b < B) : Rd w1 k b n v :=
  ⟨Nat.lt_of_lt_of_le t.lt hb.size, fun i hi => by rw [(bcell hb).1 b i h]; exact t.c i hi⟩
theorem Rd.drew {w : World} {k : IntKind} {b n : Nat} {v : Nat → Nat} (t : Rd w k b n v) : Rd w.drew k b n v := t.below ((Below.refl w.heap.size w).drew) t.lt
theorem Rd.drewN {w : World} {k : IntKind} {b n : Nat} {v : Nat → Nat} (t : Rd w k b n v) (m : Nat) : Rd (w.drewN m) k b n v := t.below (below_drewN (Below.refl w.heap.size w) m) t.lt
theorem Rd.far {w : World} {k : IntKind} {b b' n : Nat} {v : Nat → Nat} (t : Rd w k b n v) (h : b' ≠ b) (o : Nat) (z : Value) : Rd (w.setCell ⟨b', o, none⟩ z) k b n v :=
  ⟨by simp [t.lt], fun i hi => by rw [World.cell?_setCell_other _ _ _ _ (by simp [h]), t.c i hi]⟩
theorem Arr.rd {w : World} {k : IntKind} {b n : Nat} {v : Nat → Nat} (t : Arr w k b n v) : Rd w k b n v := ⟨t.lt, t.c⟩
/-! Words of 32 bits -/
def wordAt (z : Nat → Nat) (j : Nat) : Nat := z (4 * j) + 256 * z (4 * j + 1) + 65536 * z (4 * j + 2) + 16777216 * z (4 * j + 3)
theorem wraps_u32 (n : Int) (h0 : 0 ≤ n) (h1 : n < 2 ^ 32) : IntKind.u32.wrap n = n := by rw [IntKind.wrap_u32]; omega
theorem xor_u32 (a b : Nat) (ha : a < 4294967296) (hb : b < 4294967296) : bits .xor .u32 (a : Int) (b : Int) = ((a ^^^ b : Nat) : Int) := by
  have ha' : a % 2 ^ 32 = a := Nat.mod_eq_of_lt ha
  have hb' : b % 2 ^ 32 = b := Nat.mod_eq_of_lt hb
  have hk : IntKind.u32.bits = 32 := rfl
  simp only [bits, BitVec.ofInt_natCast, BitVec.toNat_xor, BitVec.toNat_ofNat, hk, ha', hb']
  exact wraps_u32 _ (Int.natCast_nonneg _) (by have := Ob.xor_lt ha hb; omega)
theorem or_u32 (a b n : Nat) (hn : n ≤ 32) (ha : a < 2 ^ n) (hb : b < 2 ^ (32 - n)) : bits .or .u32 (a : Int) ((b * 2 ^ n : Nat) : Int) = ((a + b * 2 ^ n : Nat) : Int) := by
  have e : (2 : Nat) ^ n * 2 ^ (32 - n) = 4294967296 := by rw [← Nat.pow_add, Nat.add_sub_cancel' hn]
  have h1 : a < 2 ^ 32 := Nat.lt_of_lt_of_le ha (Nat.pow_le_pow_right (by decide) hn)
  have h2 : b * 2 ^ n < 2 ^ 32 := by
    have : (b + 1) * 2 ^ n ≤ 2 ^ (32 - n) * 2 ^ n := Nat.mul_le_mul_right _ hb
    rw [Nat.mul_comm (2 ^ (32 - n)), e, Nat.add_mul, Nat.one_mul] at this
    have := Nat.two_pow_pos n
    omega
  rw [(bits_nat .u32 32 (by decide) wraps_u32 a (b * 2 ^ n) h1 h2).2, Nat.or_comm, Nat.mul_comm, ← Nat.two_pow_add_eq_or_of_lt ha b, Nat.add_comm]
end Go.Proofs.YtdaonbfdcpkipaaDoor

namespace Ob

/-- The number that the first k bytes of z tell. -/
def num (z : Nat → Nat) : Nat → Nat
  | 0 => 0
  | k + 1 => 256 * num z k + z k
theorem num_lt (z : Nat → Nat) (h : ∀ i, z i < 256) (k : Nat) : num z k < 256 ^ k := by
  induction k with
  | zero => simp [num]
  | succ k ih =>
    have := h k
    rw [Nat.pow_succ]
    simp only [num]
    omega
theorem num_small (z : Nat → Nat) (h : ∀ i, z i < 256) (k : Nat) (hk : k ≤ 7) : num z k < 72057594037927936 :=
  Nat.lt_of_lt_of_le (num_lt z h k) (Nat.pow_le_pow_right (n := 256) (by decide) hk)
theorem num_word (z : Nat → Nat) (h : ∀ i, z i < 256) : num z 8 < 18446744073709551616 := num_lt z h 8

/-- The byte number i of the 8 of n. -/
def byteAt (n i : Nat) : Nat := n / 256 ^ (7 - i) % 256
theorem byteAt_lt (n i : Nat) : byteAt n i < 256 := Nat.mod_lt _ (by decide)

theorem num_byteAt (n k : Nat) (hk : k ≤ 8) (hn : n < 18446744073709551616) : num (byteAt n) k = n / 256 ^ (8 - k) := by
  induction k with
  | zero => simp only [num]; rw [Nat.div_eq_of_lt (by simpa using hn)]
  | succ k ih =>
    simp only [num]
    rw [ih (by omega)]
    have e : 8 - k = (8 - (k + 1)) + 1 := by omega
    have e2 : 7 - k = 8 - (k + 1) := by omega
    rw [e, Nat.pow_succ, ← Nat.div_div_eq_div_mul]
    unfold byteAt
    rw [e2]
    omega
theorem num_bytes (n : Nat) (hn : n < 18446744073709551616) : num (byteAt n) 8 = n := by
  rw [num_byteAt n 8 (by decide) hn]; simp
theorem num_congr (y z : Nat → Nat) (k : Nat) (h : ∀ i, i < k → y i = z i) : num y k = num z k := by
  induction k with
  | zero => rfl
  | succ k ih => simp only [num]; rw [ih fun i hi => h i (by omega), h k (by omega)]
theorem byteAt_num (z : Nat → Nat) (h : ∀ i, z i < 256) (i : Nat) (hi : i < 8) : byteAt (num z 8) i = z i := by
  have h0 := h 0; have h1 := h 1; have h2 := h 2; have h3 := h 3; have h4 := h 4; have h5 := h 5; have h6 := h 6; have h7 := h 7
  have h8 : i = 0 ∨ i = 1 ∨ i = 2 ∨ i = 3 ∨ i = 4 ∨ i = 5 ∨ i = 6 ∨ i = 7 := by omega
  rcases h8 with rfl | rfl | rfl | rfl | rfl | rfl | rfl | rfl
  all_goals
    simp only [byteAt, num]
    omega
end Ob

namespace Go.Proofs.YtdaonbfdcpkipaaDoor
open Go.RowKit Go.Proofs
set_option linter.unusedVariables false
set_option linter.unusedSimpArgs false

/-- n bytes, from a place on. -/
structure Bys (w : World) (b off n : Nat) (z : Nat → Nat) : Prop where
  lt : b < w.heap.size
  at_ : ∀ i, i < n → w.cell? ⟨b, off + i, none⟩ = some (.int .u8 (z i : Nat))
theorem Bys.below {w w1 : World} {B b off n : Nat} {z : Nat → Nat} (t : Bys w b off n z) (hb : Below B w w1) (h : b < B) : Bys w1 b off n z :=
  ⟨Nat.lt_of_lt_of_le t.lt hb.size, fun i hi => by rw [(bcell hb).1 b _ h]; exact t.at_ i hi⟩
theorem Bys.via {w w1 : World} {B b off n : Nat} {z : Nat → Nat} (hb : Below B w w1) (t : Bys w b off n z) (h : b < B) : Bys w1 b off n z := t.below hb h
theorem Bys.drew {w : World} {b off n : Nat} {z : Nat → Nat} (t : Bys w b off n z) : Bys w.drew b off n z := ⟨t.lt, t.at_⟩
theorem Bys.drewN {w : World} {b off n : Nat} {z : Nat → Nat} (t : Bys w b off n z) (k : Nat) : Bys (w.drewN k) b off n z := ⟨t.lt, t.at_⟩
theorem Bys.alloc {w : World} {b off n : Nat} {z : Nat → Nat} (t : Bys w b off n z) (o : Obj) : Bys (w.alloc o) b off n z := t.below ((Below.refl w.heap.size w).alloc (Nat.le_refl _) o) t.lt
theorem Bys.far {w : World} {b off n b' : Nat} {z : Nat → Nat} (t : Bys w b off n z) (h : b' ≠ b) (o : Nat) (v : Value) : Bys (w.setCell ⟨b', o, none⟩ v) b off n z :=
  ⟨by simp [t.lt], fun i hi => by rw [World.cell?_setCell_other _ _ _ _ (by simp [h]), t.at_ i hi]⟩
theorem Bys.less {w : World} {b off n m : Nat} {z : Nat → Nat} (t : Bys w b off n z) (h : m ≤ n) : Bys w b off m z := ⟨t.lt, fun i hi => t.at_ i (by omega)⟩
theorem Bys.more {w : World} {b off n : Nat} {z : Nat → Nat} (t : Bys w b off n z) (k m : Nat) (h : k + m ≤ n) : Bys w b (off + k) m (fun i => z (k + i)) :=
  ⟨t.lt, fun i hi => by rw [Nat.add_assoc]; exact t.at_ (k + i) (by omega)⟩


theorem or_byte (n x : Nat) (hn : n < 72057594037927936) (hx : x < 256) : bits .or .u64 ((n : Int) * 256) (x : Int) = ((256 * n + x : Nat) : Int) := by
  have h := bits_or_u64_nat (256 * n) x (by omega) (by omega)
  have e : 256 * n ||| x = 256 * n + x := (Nat.two_pow_add_eq_or_of_lt (i := 8) (show x < 2 ^ 8 from hx) n).symm
  rw [e] at h
  have e2 : ((256 * n : Nat) : Int) = (n : Int) * 256 := by omega
  rw [e2] at h
  exact h


theorem byteInfo : ∃ i, Tryd.prog.info? 5 = some i ∧ i.size = 1 ∧ i.bytes = 1 ∧ i.zero = some (.int .u8 0) := by
  have h : (Tryd.prog.info? 5).map (fun i => (i.size, i.bytes, i.zero)) = some (1, 1, some (.int .u8 0)) := by kernel_rfl
  cases hi : Tryd.prog.info? 5 with
  | none => rw [hi] at h; cases h
  | some i =>
    rw [hi] at h
    simp only [Option.map_some, Option.some.injEq, Prod.mk.injEq] at h
    exact ⟨i, rfl, h.1, h.2.1, h.2.2⟩

/-- The values of bytes. -/
def vals (z : Nat → Nat) (n : Nat) : List Value := (List.range n).map fun i => .int .u8 (z i : Nat)
theorem vals_zero (z : Nat → Nat) : vals z 0 = [] := rfl
theorem vals_succ (z : Nat → Nat) (n : Nat) : vals z (n + 1) = vals z n ++ [.int .u8 (z n : Nat)] := by simp [vals, List.range_succ]
theorem vals_get (z : Nat → Nat) (n i : Nat) (h : i < n) : (vals z n)[i]? = some (.int .u8 (z i : Nat)) := by simp [vals, h]

/-- A row of the call's own, as bytes. -/
theorem bys_of_row {w : World} {base n cap g : Nat} {z : Nat → Nat} (h : w.ownsRow base 5 1 (.slice (some ⟨g, 0, none⟩) n cap) n (vals z n)) : Bys w g 0 n z := by
  refine ⟨(h.lt g rfl).2, fun i hi => ?_⟩
  have := h.cells (g := g) rfl i _ (vals_get z n i hi)
  have hadd : (⟨g, 0, none⟩ : Addr).add i = ⟨g, 0 + i, none⟩ := by unfold Addr.add; split <;> simp_all
  rw [hadd] at this
  exact this
theorem free_of_row {w : World} {base n cap g : Nat} {xs : List Value} (h : w.ownsRow base 5 1 (.slice (some ⟨g, 0, none⟩) n cap) n xs) (o : Nat) : w.frozen? ⟨g, o, none⟩ = false := by
  rcases h.2 with ⟨h0, _⟩ | ⟨g', cap', cur, hv, _, hg, _⟩
  · cases h0
  · cases hv
    simp [World.frozen?, hg]

/-- Bytes that lie in memory, as the cells that an append takes. -/
theorem bys_news {w : World} {b off n : Nat} {z : Nat → Nat} (h : Bys w b off n z) : ∀ j u, (vals z n)[j]? = some u → w.cell? ((⟨b, off, none⟩ : Addr).add j) = some u := by
  intro j u hu
  have hj : j < n := by
    rcases Nat.lt_or_ge j n with h1 | h1
    · exact h1
    · have : (vals z n)[j]? = none := List.getElem?_eq_none (by simp [vals]; exact h1)
      rw [this] at hu
      cases hu
  rw [vals_get z n j hj] at hu
  cases hu
  have hadd : (⟨b, off, none⟩ : Addr).add j = ⟨b, off + j, none⟩ := by unfold Addr.add; split <;> simp_all
  rw [hadd]
  exact h.at_ j hj
theorem vals_one (z : Nat → Nat) (n : Nat) : ∀ u ∈ vals z n, u.oneCell' = true := by
  intro u hu
  simp only [vals, List.mem_map] at hu
  obtain ⟨i, _, rfl⟩ := hu
  rfl



/-- The numbers of bytes, as a list. -/
def nums (z : Nat → Nat) (n : Nat) : List Int := (List.range n).map fun i => (z i : Int)
/-- A slice of bytes, told as a string. -/
theorem bys_str (b off n cap : Nat) (z : Nat → Nat) (w : World) (h : Bys w b off n z) : (convert 22 9 (.slice (some ⟨b, off, none⟩) n cap)).run Tryd.prog w = .ok (.string (strOfNums (nums z n))) w := by
  refine run_convert_bytes_arg w 22 5 Tryd.underlying22 Tryd.underlying5 b off n cap (nums z n) (by simp [nums]) (fun i hi => ?_) 9 Tryd.underlying9
  rw [h.at_ i hi]
  simp [nums, hi]
theorem nums_add (z : Nat → Nat) (m n : Nat) : nums z (m + n) = nums z m ++ nums (fun i => z (m + i)) n := by
  simp [nums, List.range_add]
theorem nums_congr (y z : Nat → Nat) (n : Nat) (h : ∀ i, i < n → y i = z i) : nums y n = nums z n := by
  simp only [nums]
  refine List.map_congr_left fun i hi => ?_
  rw [h i (List.mem_range.mp hi)]
theorem strOfNums_append (x y : List Int) : strOfNums x ++ strOfNums y = strOfNums (x ++ y) := by
  apply ByteArray.ext
  simp [strOfNums, ByteArray.data_append]

/-- n bytes of the call's own, that may be written. -/
structure Wby (w : World) (g n : Nat) : Prop where
  at_ : ∀ j, j < n → ∃ v : Nat, v < 256 ∧ w.cell? ⟨g, j, none⟩ = some (.int .u8 v)
  free : ∀ o, w.frozen? ⟨g, o, none⟩ = false
  lt : g < w.heap.size
theorem Wby.of_bys {w : World} {g n : Nat} {z : Nat → Nat} (hz : ∀ i, z i < 256) (h : Bys w g 0 n z) (f : ∀ o, w.frozen? ⟨g, o, none⟩ = false) : Wby w g n :=
  ⟨fun j hj => ⟨z j, hz j, by have := h.at_ j hj; rw [Nat.zero_add] at this; exact this⟩, f, h.lt⟩
theorem Wby.set {w : World} {g n k : Nat} (h : Wby w g n) (v : Nat) (hv : v < 256) (hk : k < n) : Wby (w.setCell ⟨g, k, none⟩ (.int .u8 v)) g n := by
  refine ⟨fun j hj => ?_, fun o => by simp [h.free o], by simp [h.lt]⟩
  by_cases e : j = k
  · subst e
    obtain ⟨u, _, hc⟩ := h.at_ j hj
    exact ⟨v, hv, World.cell?_setCell_same _ _ _ hc⟩
  · obtain ⟨u, hu, hc⟩ := h.at_ j hj
    exact ⟨u, hu, by rw [World.cell?_setCell_other _ _ _ _ (fun h => e (by injection h with _ h2; exact h2.symm)), hc]⟩
theorem Wby.below {w w1 : World} {B g n : Nat} (t : Wby w g n) (hb : Below B w w1) (h : g < B) : Wby w1 g n :=
  ⟨fun j hj => by obtain ⟨v, hv, hc⟩ := t.at_ j hj; exact ⟨v, hv, by rw [(bcell hb).1 g _ h]; exact hc⟩, fun o => by rw [(bcell hb).2 g o h]; exact t.free o, Nat.lt_of_lt_of_le t.lt hb.size⟩
theorem wrap_succ (v : Nat) : IntKind.u8.wrap ((v : Int) + 1) = (((v + 1) % 256 : Nat) : Int) := by rw [IntKind.wrap_u8]; omega
/-- A row of one's own is kept by calls that turn nothing that was there. -/
theorem own_below {w w1 : World} {B base n size : Nat} {e : TypeId} {v : Value} {xs : List Value} (h : w.ownsRow base e size v n xs) (hb : Below B w w1) (hl : ∀ k, v.ownBlock = some k → k < B) : w1.ownsRow base e size v n xs := by
  refine ⟨h.1, ?_⟩
  rcases h.2 with h0 | ⟨g, cap, cur, hv, h1, h2, h3⟩
  · exact .inl h0
  · exact .inr ⟨g, cap, cur, hv, h1, by rw [hb.block g (hl g (by rw [hv]; rfl))]; exact h2, h3⟩
theorem vals_cons (z : Nat → Nat) (n : Nat) : .int .u8 (z 0 : Nat) :: vals (fun i => z (1 + i)) n = vals z (1 + n) := by
  simp [vals, List.range_add]
theorem vals_add (z : Nat → Nat) (m n : Nat) : vals z m ++ vals (fun i => z (m + i)) n = vals z (m + n) := by
  simp [vals, List.range_add]
theorem vals_congr (y z : Nat → Nat) (n : Nat) (h : ∀ i, i < n → y i = z i) : vals y n = vals z n := by
  simp only [vals]
  refine List.map_congr_left fun i hi => ?_
  rw [h i (List.mem_range.mp hi)]
/-- The room behind a row. -/
theorem cap_of_row {w : World} {base n cap g : Nat} {xs : List Value} (h : w.ownsRow base 5 1 (.slice (some ⟨g, 0, none⟩) n cap) n xs) : n ≤ cap ∧ cap ≤ maxLen := by
  rcases h.2 with ⟨h0, _⟩ | ⟨g', cap', cur, hv, _, _, h1, h2, _⟩
  · cases h0
  · cases hv; exact ⟨h1, h2⟩
end Go.Proofs.YtdaonbfdcpkipaaDoor

namespace Go.Proofs.YtdaonbfdcpkipaaDoor
open Go.RowKit Go.Proofs
set_option linter.unusedVariables false
set_option linter.unusedSimpArgs false

/-- The bytes of a string, 0 behind them. -/
def sby (s : ByteArray) (i : Nat) : Nat := ((s.data.toList[i]?).map UInt8.toNat).getD 0
theorem sby_lt (s : ByteArray) (i : Nat) : sby s i < 256 := by
  unfold sby
  cases s.data.toList[i]? with
  | none => decide
  | some x => exact x.toNat_lt
theorem sby_out (s : ByteArray) {i : Nat} (h : s.size ≤ i) : sby s i = 0 := by
  unfold sby
  rw [List.getElem?_eq_none (by rw [Array.length_toList]; exact h)]
  rfl
theorem sby_cells (s : ByteArray) : (s.data.toList.map fun x => Value.int .u8 (x.toNat : Int)) = arrL .u8 (sby s) s.size := by
  apply List.ext_getElem?
  intro i
  by_cases h : i < s.size
  · rw [arrL_get _ _ _ _ h]
    have h' : i < s.data.toList.length := by rw [Array.length_toList]; exact h
    unfold sby
    rw [List.getElem?_map, List.getElem?_eq_getElem h']
    rfl
  · rw [List.getElem?_eq_none (by rw [List.length_map, Array.length_toList]; exact Nat.le_of_not_lt h), List.getElem?_eq_none (by rw [arrL_length]; omega)]
/-- The first k of an array's cells stored. -/
theorem Arr.part {w : World} {k : IntKind} {b n m : Nat} {v : Nat → Nat} (t : Arr w k b n v) (u : Nat → Nat) (hm : m ≤ n) : Arr (w.setCells b 0 (arrL k u m)) k b n (fun i => if i < m then u i else v i) := by
  refine ⟨by rw [setCells_size]; exact t.lt, fun i hi => ?_, fun i hi => by rw [World.frozen?_setCells]; exact t.f i hi⟩
  by_cases h : i < m
  · have hin := World.cell?_setCells_in b (arrL k u m) 0 w (fun j hj => by rw [Nat.zero_add, t.c j (by rw [arrL_length] at hj; omega)]; rfl) i (by rw [arrL_length]; exact h)
    rw [Nat.zero_add] at hin
    rw [hin, if_pos h]
    have := arrL_get k u m i h
    rw [List.getElem?_eq_getElem (by rw [arrL_length]; exact h)] at this
    exact this
  · rw [World.cell?_setCells_out b _ 0 w _ (fun _ _ => Or.inr (by rw [arrL_length]; show 0 + m ≤ i; omega)), if_neg h]
    exact t.c i hi
theorem sizeByte : ∀ w, (Go.sizeOf 5).run Tryd.prog w = .ok 1 w := by
  obtain ⟨i, hi, h1, _⟩ := byteInfo
  intro w
  simp [sizeOf, typeInfo, hi, h1]
theorem sizeByte' : (Tryd.prog.info? 5).map (·.size) = some 1 := by kernel_rfl
/-- A string copied into bytes that are 0. -/
theorem Arr.copyStr {w : World} {b n : Nat} (t : Arr w .u8 b n (fun _ => 0)) (s : ByteArray) (hs : s.size ≤ n) (c : Nat) (ty : TypeId) :
    ∃ w', (Builtin.copy_ #[22, 9] ty #[.slice (some ⟨b, 0, none⟩) n c, .string s]).run Tryd.prog w = .ok (goInt s.size) w' ∧ Hid (w' = w.setCells b 0 (arrL .u8 (sby s) s.size)) ∧ Hid (Arr w' .u8 b n (sby s)) ∧ w'.heap.size = w.heap.size := by
  have h := run_copy_string (P := Tryd.prog) w 22 9 ty 5 b 0 n c s Tryd.underlying22 sizeByte hs (fun j hj => by rw [Nat.zero_add, t.c j (by omega)]; rfl) (fun j hj => by rw [Nat.zero_add]; exact t.f j (by omega))
  rw [sby_cells] at h
  refine ⟨_, h, rfl, ?_, setCells_size _ _ _ _⟩
  exact (t.part (sby s) hs).congr fun i hi => by
    by_cases hh : i < s.size
    · rw [if_pos hh]
    · rw [if_neg hh, sby_out s (by omega)]
/-- The whole of an array, in a region that draws its order. -/
theorem yieldsArr {ops : Array Oper} {S : World → Prop} {op : Oper} {a : Act} (hw : Region.wanted op (yielded ops a.tmps) = true) (ty : TypeId) (x : Operand) (ho : op.op = .load ty x)
    (b : Nat) (hx : a.eval x = .pointer (some ⟨b, 0, none⟩)) {k : IntKind} {n : Nat} {v : Nat → Nat} {d : TypeDesc} (hS : ∀ w, S w → Arr w k b n v)
    (hu : Tryd.prog.underlying ty = some d) (hd : d.isRow = true) (hi : (Tryd.prog.info? ty).map (·.size) = some n) : YieldsIf Tryd.prog ops S op (.agg (arrL k v n).toArray) a :=
  yieldsIf_load_mid hw ty x ho b 0 hx (arrL k v n) d (fun w h => (hS w h).range) hu hd (by rw [arrL_length]; exact hi)
theorem wp_storeArr {op : Oper} {a : Act} {w : World} {K : Act → World → Prop} {Q : Exit → Act → World → Prop} (ty : TypeId) (x y : Operand) (ho : op.op = .store ty x y)
    (b : Nat) (hx : a.eval x = .pointer (some ⟨b, 0, none⟩)) {k : IntKind} {n : Nat} {v : Nat → Nat} (v' : Nat → Nat) (hy : a.eval y = .agg (arrL k v' n).toArray) (t : Arr w k b n v)
    (hi : (Tryd.prog.info? ty).map (·.size) = some n)
    (h : ∀ w', Hid (w' = w.setCells b 0 (arrL k v' n)) → Hid (Arr w' k b n v') → w'.heap.size = w.heap.size → K (a.put op.dst undef) w') : op.wp Tryd.prog a w K Q := by
  have hs : (arrL k v' n).toArray.size = n := by simp [arrL_length]
  exact wp_store_mid ty x y ho b 0 (arrL k v' n).toArray hx hy (by rw [hs]; exact t.there) (by rw [hs]; exact hi) (all_oneCell_toArray (arrL_one k v' n))
    (by rw [List.toList_toArray]; exact h _ rfl (t.whole v') (setCells_size _ _ _ _))
/-- n bytes that may be read at an address. -/
def Src (w : World) (a : Option Addr) (n : Nat) (z : Nat → Nat) : Prop := n = 0 ∨ ∃ b off, a = some ⟨b, off, none⟩ ∧ Bys w b off n z
theorem Src.below {w w1 : World} {a : Option Addr} {n : Nat} {z : Nat → Nat} (h : Src w a n z) (hb : Below w.heap.size w w1) : Src w1 a n z := by
  rcases h with h | ⟨b, off, ha, hB⟩
  · exact Or.inl h
  · exact Or.inr ⟨b, off, ha, hB.below hb hB.lt⟩
theorem Src.tail {w : World} {p : Option Addr} {m c T : Nat} {u : Nat → Nat} (h : Src w p m u) (hT : T ≤ m) (hc : m ≤ c) {p' : Option Addr} (hp : p' = if c = T then p else p.map (·.add T)) : Src w p' (m - T) (fun j => u (T + j)) := by
  by_cases e : m - T = 0
  · exact Or.inl e
  · rcases h with h | ⟨b, off, rfl, hB⟩
    · omega
    · right
      rw [if_neg (by omega)] at hp
      refine ⟨b, off + T, by rw [hp, Option.map_some, Addr.add_mid], hB.more T (m - T) (by omega)⟩
theorem Arr.copyBys {w : World} {B n : Nat} (t : Arr w .u8 B n (fun _ => 0)) {a : Option Addr} {m : Nat} {u : Nat → Nat} (hS : Src w a m u) (c c' : Nat) (ty : TypeId) {T : Nat} (hT : min m n = T) :
    ∃ w', (Builtin.copy_ #[22, 22] ty #[.slice (some ⟨B, 0, none⟩) n c, .slice a m c']).run Tryd.prog w = .ok (.int .i64 (T : Nat)) w' ∧ Hid (w' = w.setCells B 0 (arrL .u8 u T)) ∧ Hid (Arr w' .u8 B n (fun j => if j < m then u j else 0)) ∧ w'.heap.size = w.heap.size := by
  have ht : T ≤ n := by omega
  have hA : Arr (w.setCells B 0 (arrL .u8 u T)) .u8 B n (fun j => if j < m then u j else 0) := (t.part u ht).congr fun i hi => by
    by_cases h : i < T
    · rw [if_pos h, if_pos (by omega)]
    · rw [if_neg h, if_neg (by omega)]
  rcases hS with h0 | ⟨b, off, rfl, hB⟩
  · have hT0 : T = 0 := by omega
    subst hT0
    refine ⟨_, ?_, rfl, hA, setCells_size _ _ _ _⟩
    exact run_copy_none (P := Tryd.prog) w 22 22 ty 5 _ _ n c m c' Tryd.underlying22 sizeByte' (by rw [h0]; exact Nat.zero_min _)
  · refine ⟨_, ?_, rfl, hA, setCells_size _ _ _ _⟩
    have := run_copy_cells (P := Tryd.prog) w 22 22 ty 5 B 0 n c ⟨b, off, none⟩ m c' (arrL .u8 u T) Tryd.underlying22 sizeByte' (by rw [arrL_length]; exact hT.symm)
      (fun j v hv => by
        have hj : j < T := by have := (List.getElem?_eq_some_iff.1 hv).1; rwa [arrL_length] at this
        rw [arrL_get _ _ _ _ hj] at hv
        rw [Addr.add_mid, hB.at_ j (by omega)]
        exact hv)
      (fun j hj => by rw [arrL_length] at hj; rw [Nat.zero_add, t.c j (by omega)]; rfl) (fun j hj => by rw [arrL_length] at hj; rw [Nat.zero_add]; exact t.f j (by omega)) (arrL_one _ _ _)
    rw [arrL_length] at this
    exact this
theorem wpList_tail {ops : Array Oper} {rest : List Oper} {dst : Option Tmp} {ty' : TypeId} {x l : Operand} {ps : String} {af : Array Edge} {a : Act} {w : World} {Q : Exit → Act → World → Prop}
    {ty : TypeId} {p : Option Addr} {m c T : Nat} (hT : T ≤ m) (hty : ty = 22) (hx : a.eval x = .slice p m c) (hl : a.eval l = .int .i64 (T : Nat))
    (h : ∀ p', Hid (p' = if c = T then p else p.map (·.add T)) → wpList Tryd.prog ops Q rest (a.put dst (.slice p' (m - T) (c - T))) w) : wpList Tryd.prog ops Q (⟨dst, .slice ty x (some l) none none, ty', ps, af, none⟩ :: rest) a w :=
  wpList_plain rfl fun K hK => by
    subst hty
    have hr : (Instr.sliceAt 22 (.slice p m c) (some (.int .i64 (T : Nat))) none none).run Tryd.prog w = .ok (.slice (if c = T then p else p.map (·.add T)) (m - T) (c - T)) w := by
      rw [run_sliceAt_slice w _ _ _ _ _ (show Tryd.prog.underlying 22 = some (.slice (Tryd.prog.elem 22)) by kernel_rfl), run_slice_l w _ _ _ _ (show Tryd.prog.underlying 22 = some (.slice (Tryd.prog.elem 22)) by kernel_rfl) .i64 (T : Nat) (by omega) (by omega)]
      have he : Tryd.prog.elem 22 = 5 := by kernel_rfl
      rw [he, sizeByte]
      simp [Result.andThen, sliced]
    unfold Oper.wp
    simp only [execOp, hx, hl, Option.map_some, Option.map_none, hr, Sem.run_bind, Sem.run_pure, Result.andThen_ok]
    exact hK _ _ (h _ rfl)
end Go.Proofs.YtdaonbfdcpkipaaDoor

namespace Go.Proofs.YtdaonbfdcpkipaaDoor
open Go
set_option linter.unusedVariables false
set_option linter.unusedSimpArgs false
section
variable {P : Program} {ops : Array Oper} {Q : Exit → Act → World → Prop} {md : Region.Mode} {S : World → Prop} {Z : List Nat}

/-- Whatever order is picked; S holds behind each operation but those of Z. -/
def AnyZ (P : Program) (md : Region.Mode) (ops : Array Oper) (Q : Exit → Act → World → Prop) (S : World → Prop) (Z : List Nat) : Nat → Array Bool → Act → World → Prop
  | 0, L, a, w => Region.ready md ops L = [] ∧ Q .normal a w
  | n + 1, L, a, w => (Region.ready md ops L = [] → Q .normal a w) ∧
    ∀ i ∈ Region.ready md ops L, wpOp P ops Q i (fun a' w' => (Z.contains i = false → S w → S w') ∧ AnyZ P md ops Q S Z n (L.setIfInBounds i true) a' w') a w

theorem AnyZ.any : ∀ (n : Nat) (L : Array Bool) (a : Act) (w : World), AnyZ P md ops Q S Z n L a w → wpAny P md ops Q n L a w
  | 0, _, _, _, h => h
  | n + 1, _, _, _, h => ⟨h.1, fun i hi => wpOp_mono (fun a' w' k => AnyZ.any n _ a' w' k.2) (h.2 i hi)⟩

/-- Each of Z waits for number i. -/
def waits (md : Region.Mode) (ops : Array Oper) (Z : List Nat) (i : Nat) : Bool :=
  Z.all fun j => match ops[j]? with
    | some o => o.after.any fun e => Region.binds md e && e.on == i
    | none => false
theorem waits_not {i j : Nat} {L : Array Bool} (h : waits md ops Z i = true) (hi : i ∈ Region.ready md ops L) (hj : j ∈ Region.ready md ops L) : Z.contains j = false := by
  cases hz : Z.contains j with
  | false => rfl
  | true =>
    have hm : j ∈ Z := by simpa using hz
    have h1 := List.all_eq_true.1 h j hm
    obtain ⟨_, o, ho, hall⟩ := mem_ready.1 hj
    rw [ho] at h1
    obtain ⟨e, he, hb⟩ := Array.any_eq_true'.1 h1
    simp only [Bool.and_eq_true, beq_iff_eq] at hb
    have h2 := hall e he hb.1
    rw [hb.2] at h2
    have h3 := (mem_ready.1 hi).1
    cases hl : L[i]? with
    | none => simp [hl] at h2
    | some b => simp [hl] at h2 h3; rw [h2] at h3; cases h3

theorem AnyZ.first {i : Nat} {o : Oper} {v : Value} (hi : ops[i]? = some o) (hs : ∀ (j : Nat) (o : Oper) cs b, ops[j]? = some o → o.op ≠ .select cs b)
    (hQ : ∀ c a w, Q (.panic c) (a.put o.dst v) w → Q (.panic c) a w) (hz : waits md ops Z i = true) :
    ∀ (n : Nat) (L : Array Bool) (a : Act) (w : World),
      (∀ j oj, ops[j]? = some oj → j ≠ i → L.getD j true = false → (∀ e ∈ oj.after, Region.binds md e = true → e.on ≠ i) → o.apart ops oj = true) →
      i ∈ Region.ready md ops L → YieldsIf P ops S o v a → S w → AnyZ P md ops Q S Z n (L.setIfInBounds i true) (a.put o.dst v) w → AnyZ P md ops Q S Z (n + 1) L a w
  | n, L, a, w, hfree, hr, hy, hS, H => by
    refine ⟨fun h => absurd hr (by simp [h]), fun j hj => ?_⟩
    by_cases hji : j = i
    · subst hji
      exact hy.wpOp hi hS ⟨fun _ _ => hS, H⟩
    have hj2 := ready_mono hj hji
    cases n with
    | zero => exact absurd hj2 (by simp [H.1])
    | succ n =>
      obtain ⟨hun, oj, hoj, hall⟩ := mem_ready.1 hj
      have hno : ∀ e ∈ oj.after, Region.binds md e = true → e.on ≠ i := fun e he hb e1 => by
        have h2 := hall e he hb
        have h3 := (mem_ready.1 hr).1
        rw [e1] at h2
        cases hl : L[i]? with
        | none => simp [hl] at h2
        | some b => simp [hl] at h2 h3; rw [h2] at h3; cases h3
      have hk := waits_not hz hr hj
      refine wpOp_mono (fun a' w' h3 => ?_) (wpOp_putIf hoj (hfree j oj hoj hji hun hno) (fun cs b => hs i o cs b hi) (fun cs b => hs j oj cs b hoj) hQ hy (H.2 j hj2))
      refine ⟨h3.2.1, AnyZ.first hi hs hQ hz n _ a' w' (fun k ok hok hki hun' hno' => hfree k ok hok hki ?_ hno') (ready_mono hr (Ne.symm hji)) h3.1 (h3.2.1 hk hS) ?_⟩
      · by_cases hjk : j = k
        · subst hjk; exact hun
        · rwa [getD_set_ne true hjk] at hun'
      · rw [Array.setIfInBounds_comm _ _ hji]
        exact h3.2.2

theorem anyZ_take {i : Nat} {oi : Oper} {v : Value} {n : Nat} {L : Array Bool} {a : Act} {w : World} (hi : ops[i]? = some oi) (hz : waits md ops Z i = true)
    (hs : Region.noSelect ops = true) (hf : Region.free md ops L i = true) (hr : (Region.ready md ops L).contains i = true)
    (hQ : ∀ c a w, Q (.panic c) (a.put oi.dst v) w → Q (.panic c) a w) (hy : YieldsIf P ops S oi v a) (hS : S w)
    (h : AnyZ P md ops Q S Z n (L.setIfInBounds i true) (a.put oi.dst v) w) : AnyZ P md ops Q S Z (n + 1) L a w :=
  AnyZ.first hi (Region.noSelect_spec hs) hQ hz n L a w (Region.free_spec hi hf) (by simpa using hr) hy hS h

/-- One that yields the same in every world may be taken first, whatever waits for it. -/
theorem AnyZ.free {i : Nat} {o : Oper} {v : Value} (hi : ops[i]? = some o) (hs : ∀ (j : Nat) (o : Oper) cs b, ops[j]? = some o → o.op ≠ .select cs b)
    (hQ : ∀ c a w, Q (.panic c) (a.put o.dst v) w → Q (.panic c) a w) :
    ∀ (n : Nat) (L : Array Bool) (a : Act) (w : World),
      (∀ j oj, ops[j]? = some oj → j ≠ i → L.getD j true = false → (∀ e ∈ oj.after, Region.binds md e = true → e.on ≠ i) → o.apart ops oj = true) →
      i ∈ Region.ready md ops L → YieldsIf P ops (fun _ => True) o v a → AnyZ P md ops Q S Z n (L.setIfInBounds i true) (a.put o.dst v) w → AnyZ P md ops Q S Z (n + 1) L a w
  | n, L, a, w, hfree, hr, hy, H => by
    refine ⟨fun h => absurd hr (by simp [h]), fun j hj => ?_⟩
    by_cases hji : j = i
    · subst hji
      exact hy.wpOp hi True.intro ⟨fun _ h => h, H⟩
    have hj2 := ready_mono hj hji
    cases n with
    | zero => exact absurd hj2 (by simp [H.1])
    | succ n =>
      obtain ⟨hun, oj, hoj, hall⟩ := mem_ready.1 hj
      have hno : ∀ e ∈ oj.after, Region.binds md e = true → e.on ≠ i := fun e he hb e1 => by
        have h2 := hall e he hb
        have h3 := (mem_ready.1 hr).1
        rw [e1] at h2
        cases hl : L[i]? with
        | none => simp [hl] at h2
        | some b => simp [hl] at h2 h3; rw [h2] at h3; cases h3
      refine wpOp_mono (fun a' w' h3 => ?_) (wpOp_putIf hoj (hfree j oj hoj hji hun hno) (fun cs b => hs i o cs b hi) (fun cs b => hs j oj cs b hoj) hQ hy (H.2 j hj2))
      refine ⟨h3.2.1, AnyZ.free hi hs hQ n _ a' w' (fun k ok hok hki hun' hno' => hfree k ok hok hki ?_ hno') (ready_mono hr (Ne.symm hji)) h3.1 ?_⟩
      · by_cases hjk : j = k
        · subst hjk; exact hun
        · rwa [getD_set_ne true hjk] at hun'
      · rw [Array.setIfInBounds_comm _ _ hji]
        exact h3.2.2
theorem anyZ_free {i : Nat} {oi : Oper} {v : Value} {n : Nat} {L : Array Bool} {a : Act} {w : World} (hi : ops[i]? = some oi)
    (hs : Region.noSelect ops = true) (hf : Region.free md ops L i = true) (hr : (Region.ready md ops L).contains i = true)
    (hQ : ∀ c a w, Q (.panic c) (a.put oi.dst v) w → Q (.panic c) a w) (hy : YieldsIf P ops (fun _ => True) oi v a)
    (h : AnyZ P md ops Q S Z n (L.setIfInBounds i true) (a.put oi.dst v) w) : AnyZ P md ops Q S Z (n + 1) L a w :=
  AnyZ.free hi (Region.noSelect_spec hs) hQ n L a w (Region.free_spec hi hf) (by simpa using hr) hy h

def AllZ (P : Program) (md : Region.Mode) (ops : Array Oper) (Q : Exit → Act → World → Prop) (S : World → Prop) (Z : List Nat) (n : Nat) (L : Array Bool) (a : Act) (w : World) (rs : List Nat) : Prop :=
  ∀ i ∈ rs, wpOp P ops Q i (fun a' w' => (Z.contains i = false → S w → S w') ∧ AnyZ P md ops Q S Z n (L.setIfInBounds i true) a' w') a w
theorem AllZ.nil {n : Nat} {L : Array Bool} {a : Act} {w : World} : AllZ P md ops Q S Z n L a w [] := fun _ h => absurd h (by simp)
/-- One that keeps S. -/
theorem AllZ.cons {n : Nat} {L : Array Bool} {a : Act} {w : World} {i : Nat} {o : Oper} {rs : List Nat} (ho : ops[i]? = some o)
    (h : ∀ K : Act → World → Prop, Shut (∀ a w, S w → (S w → AnyZ P md ops Q S Z n (L.setIfInBounds i true) a w) → K a w) → if Region.wanted o (yielded ops a.tmps) = true then Oper.wp P o a w K Q else K (a.put o.dst undef) w)
    (hs : AllZ P md ops Q S Z n L a w rs) : AllZ P md ops Q S Z n L a w (i :: rs) := fun j hj => by
  rcases List.mem_cons.1 hj with rfl | hj
  · exact wpOp_step ho fun K hK => h K fun a w hS hW => hK a w ⟨fun _ _ => hS, hW hS⟩
  · exact hs j hj
/-- One of Z. -/
theorem AllZ.last {n : Nat} {L : Array Bool} {a : Act} {w : World} {i : Nat} {o : Oper} {rs : List Nat} (ho : ops[i]? = some o) (hz : Z.contains i = true)
    (h : ∀ K : Act → World → Prop, Shut (∀ a w, AnyZ P md ops Q S Z n (L.setIfInBounds i true) a w → K a w) → if Region.wanted o (yielded ops a.tmps) = true then Oper.wp P o a w K Q else K (a.put o.dst undef) w)
    (hs : AllZ P md ops Q S Z n L a w rs) : AllZ P md ops Q S Z n L a w (i :: rs) := fun j hj => by
  rcases List.mem_cons.1 hj with rfl | hj
  · exact wpOp_step ho fun K hK => h K fun a w hW => hK a w ⟨fun e => absurd (hz.symm.trans e) (by decide), hW⟩
  · exact hs j hj
theorem anyZ_ready {rs : List Nat} {n : Nat} {L : Array Bool} {a : Act} {w : World} (hr : Region.ready md ops L = rs) (hne : rs ≠ []) (h : AllZ P md ops Q S Z n L a w rs) : AnyZ P md ops Q S Z (n + 1) L a w :=
  ⟨fun e => absurd (hr.symm.trans e) hne, by rw [hr]; exact h⟩
theorem anyZ_done {L : Array Bool} {a : Act} {w : World} (hr : Region.ready md ops L = []) (h : Q .normal a w) : ∀ n, AnyZ P md ops Q S Z n L a w
  | 0 => ⟨hr, h⟩
  | _ + 1 => ⟨fun _ => h, fun i hi => absurd hi (by simp [hr])⟩
theorem region_lastly {id : Nat} {a : Act} {w : World} (Z : List Nat) (hm : P.follows .mixedOrders = true) (hS : S w.drew)
    (h : S w.drew → AnyZ P .any ops Q S Z ops.size (Array.replicate ops.size false) a w.drew) : (Code.region id ops true).wp P Q a w :=
  wp_region_any hm (AnyZ.any _ _ _ _ (h hS))
end
end Go.Proofs.YtdaonbfdcpkipaaDoor

namespace Ob
set_option linter.unusedVariables false
set_option linter.unusedSimpArgs false

/-- The number that n digits tell. -/
def valD (f : Nat → Nat) : Nat → Nat
  | 0 => 0
  | n + 1 => valD f n + f n * 256 ^ n
theorem valD_congr {f g : Nat → Nat} : ∀ {n : Nat}, (∀ i, i < n → f i = g i) → valD f n = valD g n
  | 0, _ => rfl
  | n + 1, h => by rw [valD, valD, valD_congr (fun i hi => h i (by omega)), h n (by omega)]
theorem valD_lt {f : Nat → Nat} : ∀ {n : Nat}, (∀ i, i < n → f i < 256) → valD f n < 256 ^ n
  | 0, _ => by show 0 < 256 ^ 0; decide
  | n + 1, h => by
    have h1 := valD_lt (f := f) (n := n) (fun i hi => h i (by omega))
    have h2 : (f n + 1) * 256 ^ n ≤ 256 * 256 ^ n := Nat.mul_le_mul_right _ (h n (by omega))
    rw [valD, Nat.pow_succ, Nat.mul_comm (256 ^ n) 256]
    rw [Nat.add_mul, Nat.one_mul] at h2
    omega
theorem valD_add (f g : Nat → Nat) : ∀ n, valD (fun i => f i + g i) n = valD f n + valD g n
  | 0 => rfl
  | n + 1 => by
    rw [valD, valD, valD, valD_add f g n, Nat.add_mul]
    omega
theorem valD_mul (c : Nat) (f : Nat → Nat) : ∀ n, valD (fun i => c * f i) n = c * valD f n
  | 0 => by simp [valD]
  | n + 1 => by rw [valD, valD, valD_mul c f n, Nat.mul_add, Nat.mul_assoc]
/-- The digits behind m. -/
theorem valD_split (f : Nat → Nat) (m : Nat) : ∀ n, valD f (m + n) = valD f m + 256 ^ m * valD (fun i => f (m + i)) n
  | 0 => by simp [valD]
  | n + 1 => by
    rw [← Nat.add_assoc, valD, valD_split f m n, valD, Nat.mul_add, Nat.pow_add, Nat.add_assoc]
    congr 2
    rw [Nat.mul_comm (f (m + n)), Nat.mul_assoc, Nat.mul_comm (f (m + n))]
theorem valD_zero {f : Nat → Nat} : ∀ {n : Nat}, (∀ i, i < n → f i = 0) → valD f n = 0
  | 0, _ => rfl
  | n + 1, h => by rw [valD, valD_zero (fun i hi => h i (by omega)), h n (by omega), Nat.zero_mul]
theorem valD_zero_iff {f : Nat → Nat} : ∀ {n : Nat}, valD f n = 0 → ∀ i, i < n → f i = 0
  | 0, _, i, hi => by omega
  | n + 1, h, i, hi => by
    rw [valD] at h
    have h1 : valD f n = 0 := by omega
    have h2 : f n * 256 ^ n = 0 := by omega
    rcases Nat.lt_or_ge i n with h3 | h3
    · exact valD_zero_iff h1 i h3
    · have : i = n := by omega
      subst this
      rcases Nat.mul_eq_zero.1 h2 with h4 | h4
      · exact h4
      · exact absurd h4 (Nat.ne_of_gt (Nat.pow_pos (by decide)))
/-- More digits than there are. -/
theorem valD_more {f : Nat → Nat} {m : Nat} (n : Nat) (h : ∀ i, m ≤ i → f i = 0) : valD f (m + n) = valD f m := by
  rw [valD_split, valD_zero (fun i _ => h (m + i) (by omega)), Nat.mul_zero, Nat.add_zero]

/-- What is carried into place i; the digit there. -/
def carR (f : Nat → Nat) : Nat → Nat
  | 0 => 0
  | i + 1 => (carR f i + f i) / 256
def carO (f : Nat → Nat) (i : Nat) : Nat := (carR f i + f i) % 256
theorem carO_lt (f : Nat → Nat) (i : Nat) : carO f i < 256 := Nat.mod_lt _ (by decide)
theorem car_val (f : Nat → Nat) : ∀ n, valD (carO f) n + carR f n * 256 ^ n = valD f n
  | 0 => by simp [valD, carR]
  | n + 1 => by
    have h := car_val f n
    have e : carR f n + f n = 256 * ((carR f n + f n) / 256) + (carR f n + f n) % 256 := (Nat.div_add_mod _ _).symm
    have e2 : (carR f n + f n) * 256 ^ n = 256 * ((carR f n + f n) / 256) * 256 ^ n + (carR f n + f n) % 256 * 256 ^ n := by
      rw [← Nat.add_mul, ← e]
    rw [valD, valD, carR, Nat.pow_succ]
    unfold carO
    unfold carO at h
    rw [Nat.add_mul] at e2
    have e3 : 256 * ((carR f n + f n) / 256) * 256 ^ n = (carR f n + f n) / 256 * (256 ^ n * 256) := by
      rw [Nat.mul_comm 256, Nat.mul_assoc, Nat.mul_comm (256 ^ n) 256]
    omega
theorem carO_val (f : Nat → Nat) (n : Nat) : valD (carO f) n = valD f n % 256 ^ n := by
  have h := car_val f n
  have hl := valD_lt (f := carO f) (n := n) (fun i _ => carO_lt f i)
  rw [← h, Nat.add_mul_mod_self_right, Nat.mod_eq_of_lt hl]
theorem carR_le {f : Nat → Nat} {M : Nat} (h : ∀ i, f i ≤ M) : ∀ i, carR f i ≤ M
  | 0 => Nat.zero_le _
  | i + 1 => by
    have h1 := carR_le h i
    have h2 := h i
    rw [carR]
    omega

/-- The digits of a number's quarter, laid from its digits. -/
def hiD (y : Nat → Nat) (i : Nat) : Nat := y i / 4 + y (i + 1) % 4 * 64
theorem hiD_step (a b q : Nat) : 4 * ((a / 4 + b % 4 * 64) * q) = 4 * (a / 4) * q + b % 4 * (q * 256) := by
  rw [Nat.add_mul, Nat.mul_add, ← Nat.mul_assoc]
  congr 1
  rw [Nat.mul_assoc, Nat.mul_left_comm 4]
  congr 1
  omega
theorem hiD_val (y : Nat → Nat) : ∀ n, 4 * valD (hiD y) n + y 0 % 4 = valD y n + y n % 4 * 256 ^ n
  | 0 => by simp [valD]
  | n + 1 => by
    have h := hiD_val y n
    have e : 4 * (y n / 4) * 256 ^ n + y n % 4 * 256 ^ n = y n * 256 ^ n := by
      rw [← Nat.add_mul, Nat.div_add_mod]
    have e2 : 4 * (hiD y n * 256 ^ n) = 4 * (y n / 4) * 256 ^ n + y (n + 1) % 4 * (256 ^ n * 256) := hiD_step _ _ _
    rw [valD, valD, Nat.mul_add, Nat.pow_succ]
    generalize y (n + 1) % 4 * (256 ^ n * 256) = A at *
    generalize 4 * (y n / 4) * 256 ^ n = B at *
    generalize y n % 4 * 256 ^ n = C at *
    generalize y n * 256 ^ n = E at *
    generalize hiD y n * 256 ^ n = G at *
    omega
/-- 2^130 - 5. -/
abbrev PP : Nat := 1361129467683753853853498429727072845819
theorem PP_eq : PP + 5 = 4 * 256 ^ 16 := by decide
/-- The number from bit 130 on, and below. -/
theorem parts {x : Nat → Nat} (h40 : x 40 = 0) : valD x 40 = 4 * (256 ^ 16 * valD (hiD fun i => x (16 + i)) 24) + (valD x 16 + x 16 % 4 * 256 ^ 16) := by
  have h : valD x 40 = valD x 16 + 256 ^ 16 * valD (fun i => x (16 + i)) 24 := valD_split x 16 24
  have h2 : 4 * valD (hiD fun i => x (16 + i)) 24 + x 16 % 4 = valD (fun i => x (16 + i)) 24 + x 40 % 4 * 256 ^ 24 := hiD_val (fun i => x (16 + i)) 24
  rw [h40, Nat.zero_mod, Nat.zero_mul, Nat.add_zero] at h2
  rw [h, ← h2, Nat.mul_add, Nat.mul_comm (x 16 % 4), Nat.mul_left_comm]
  generalize 256 ^ 16 * (x 16 % 4) = A
  generalize 4 * (256 ^ 16 * valD (hiD fun i => x (16 + i)) 24) = B
  generalize valD x 16 = C
  omega

/-- The digits below bit 130. -/
def loD (x : Nat → Nat) (i : Nat) : Nat := if i < 16 then x i else if i = 16 then x 16 % 4 else 0
theorem loD_val (x : Nat → Nat) : valD (loD x) 17 = valD x 16 + x 16 % 4 * 256 ^ 16 := by
  have h : valD (loD x) 17 = valD (loD x) 16 + loD x 16 * 256 ^ 16 := rfl
  have e : loD x 16 = x 16 % 4 := rfl
  rw [h, e, valD_congr (g := x) (fun i hi => by unfold loD; rw [if_pos hi])]
theorem loD_lt {x : Nat → Nat} (h : ∀ i, x i < 256) (i : Nat) : loD x i < 256 := by
  unfold loD
  split
  · exact h i
  · split
    · omega
    · decide
theorem loD_val_lt {x : Nat → Nat} (h : ∀ i, x i < 256) : valD (loD x) 17 < PP + 5 := by
  have h1 := valD_lt (f := x) (n := 16) (fun i _ => h i)
  have h2 : x 16 % 4 < 4 := Nat.mod_lt _ (by decide)
  rw [loD_val, PP_eq]
  have h3 : x 16 % 4 * 256 ^ 16 ≤ 3 * 256 ^ 16 := Nat.mul_le_mul_right _ (by omega)
  exact Nat.lt_of_lt_of_eq (Nat.add_lt_add_of_lt_of_le h1 h3) (by decide)
/-- One step of folding: what stands from bit 130 on counts 5 times. -/
def foldD (x : Nat → Nat) (i : Nat) : Nat := if i < 24 then (if i < 17 then 5 * hiD (fun i => x (16 + i)) i + loD x i else 5 * hiD (fun i => x (16 + i)) i) else 0
theorem foldD_val {x : Nat → Nat} : valD (foldD x) 24 = 5 * valD (hiD fun i => x (16 + i)) 24 + valD (loD x) 17 := by
  have h : valD (foldD x) 24 = valD (fun i => 5 * hiD (fun i => x (16 + i)) i + loD x i) 24 := valD_congr fun i hi => by
    unfold foldD
    rw [if_pos hi]
    by_cases h17 : i < 17
    · rw [if_pos h17]
    · rw [if_neg h17]
      unfold loD
      rw [if_neg (by omega), if_neg (by omega), Nat.add_zero]
  have hm : valD (loD x) 24 = valD (loD x) 17 := valD_more (m := 17) 7 (fun i hi => by unfold loD; rw [if_neg (by omega), if_neg (by omega)])
  rw [h, valD_add (fun i => 5 * hiD (fun i => x (16 + i)) i) (loD x), valD_mul, hm]
/-- Folding keeps the rest, and makes the number less. -/
theorem fold_mod {x : Nat → Nat} (h40 : x 40 = 0) : valD (foldD x) 24 % PP = valD x 40 % PP := by
  rw [foldD_val, parts h40, ← loD_val]
  have e : 4 * (256 ^ 16 * valD (hiD fun i => x (16 + i)) 24) = (PP + 5) * valD (hiD fun i => x (16 + i)) 24 := by rw [PP_eq, Nat.mul_assoc]
  rw [e, Nat.add_mul, Nat.add_assoc, Nat.mul_add_mod]
theorem fold_less {x : Nat → Nat} (h40 : x 40 = 0) (hp : 0 < valD (hiD fun i => x (16 + i)) 24) : valD (foldD x) 24 < valD x 40 := by
  rw [foldD_val, parts h40, ← loD_val]
  have e : 4 * (256 ^ 16 * valD (hiD fun i => x (16 + i)) 24) = (PP + 5) * valD (hiD fun i => x (16 + i)) 24 := by rw [PP_eq, Nat.mul_assoc]
  rw [e]
  generalize valD (hiD fun i => x (16 + i)) 24 = H at *
  have : 6 * H ≤ (PP + 5) * H := Nat.mul_le_mul_right _ (by decide)
  omega
/-- Where nothing stands from bit 130 on. -/
theorem fold_end {x : Nat → Nat} (h40 : x 40 = 0) (hp : valD (hiD fun i => x (16 + i)) 24 = 0) : valD (loD x) 17 = valD x 40 := by
  rw [parts h40, hp, ← loD_val, Nat.mul_zero, Nat.zero_add]
/-- The last step: 2^130 - 5 is taken off, once at most. -/
theorem last_mod {n : Nat} (h : n < PP + 5) : (if n < PP then n else (n + 5) % (PP + 5)) = n % PP := by
  have hP : 5 < PP := by decide
  by_cases h1 : n < PP
  · rw [if_pos h1, Nat.mod_eq_of_lt h1]
  · rw [if_neg h1]
    have e : n + 5 = (n - PP) + (PP + 5) := by omega
    rw [e, Nat.add_mod_right, Nat.mod_eq_of_lt (by omega), Nat.mod_eq_sub_mod (by omega), Nat.mod_eq_of_lt (a := n - PP) (by omega)]

/-- Digits that are 255 from place i + 1 on. -/
theorem valD_full {f : Nat → Nat} {i : Nat} : ∀ n, (∀ j, i < j → j < i + 1 + n → f j = 255) → valD f (i + 1 + n) + 256 ^ (i + 1) = valD f (i + 1) + 256 ^ (i + 1 + n)
  | 0, _ => rfl
  | n + 1, h => by
    have h1 := valD_full (f := f) (i := i) n (fun j h1 h2 => h j h1 (by omega))
    have h2 := h (i + 1 + n) (by omega) (by omega)
    rw [← Nat.add_assoc, valD, h2, Nat.pow_succ 256 (i + 1 + n)]
    generalize valD f (i + 1 + n) = A at *
    generalize (256 : Nat) ^ (i + 1 + n) = B at *
    generalize valD f (i + 1) = C at *
    generalize (256 : Nat) ^ (i + 1) = D at *
    omega
theorem less_top {f : Nat → Nat} (hf : ∀ i, i < 16 → f i < 256) (h : f 16 < 3) : valD f 17 < PP := by
  have h1 := valD_lt (n := 16) hf
  have h2 : f 16 * 256 ^ 16 ≤ 2 * 256 ^ 16 := Nat.mul_le_mul_right _ (by omega)
  have h3 : valD f 17 = valD f 16 + f 16 * 256 ^ 16 := rfl
  rw [h3]
  exact Nat.lt_trans (Nat.add_lt_add_of_lt_of_le h1 h2) (by decide)
theorem less_mid {f : Nat → Nat} (hf : ∀ i, i < 16 → f i < 256) (h16 : f 16 = 3) {i : Nat} (h1 : 1 ≤ i) (h2 : i ≤ 15) (hup : ∀ j, i < j → j < 16 → f j = 255) (hi : f i ≠ 255) : valD f 17 < PP := by
  have hv := valD_full (f := f) (i := i) (15 - i) (fun j a b => hup j a (by omega))
  rw [show i + 1 + (15 - i) = 16 by omega] at hv
  have e : valD f (i + 1) = valD f i + f i * 256 ^ i := rfl
  have hl := valD_lt (f := f) (n := i) (fun j hj => hf j (by omega))
  have hfi := hf i (by omega)
  have h5 : f i * 256 ^ i ≤ 254 * 256 ^ i := Nat.mul_le_mul_right _ (by omega)
  have h6 : (256 : Nat) ^ (i + 1) = 256 * 256 ^ i := by rw [Nat.pow_succ, Nat.mul_comm]
  have h7 : 256 ≤ 256 ^ i := by
    have := Nat.pow_le_pow_right (n := 256) (by decide) h1
    simpa using this
  have h3 : valD f 17 = valD f 16 + f 16 * 256 ^ 16 := rfl
  have h8 : valD f 16 + 256 ≤ 256 ^ 16 := by
    rw [h6, e] at hv
    generalize valD f i = A at *
    generalize (256 : Nat) ^ i = B at *
    generalize f i * B = C at *
    generalize valD f 16 = D at *
    generalize (256 : Nat) ^ 16 = E at *
    omega
  rw [h3, h16]
  have h9 : valD f 16 + 3 * 256 ^ 16 + 256 ≤ PP + 5 := by
    rw [PP_eq, Nat.add_right_comm]
    exact Nat.le_trans (Nat.add_le_add_right h8 _) (by decide)
  exact Nat.lt_of_add_lt_add_right (Nat.lt_of_lt_of_le (Nat.add_lt_add_left (show 5 < 256 by decide) _) h9)
theorem less_key {v q x P t : Nat} (h : v + 256 = x + q) (h2 : q + t = P + 5) : v + t < P ↔ x < 251 := by omega
theorem valD_full0 {f : Nat → Nat} (hup : ∀ j, 0 < j → j < 16 → f j = 255) : valD f 16 + 256 = f 0 + 256 ^ 16 := by
  have hv := valD_full (f := f) (i := 0) 15 (fun j a b => hup j a (by omega))
  have e : valD f 1 = f 0 := by simp [valD]
  simp only [Nat.zero_add, Nat.reduceAdd, Nat.pow_one] at hv
  rw [e] at hv
  exact hv
theorem less_low {f : Nat → Nat} (h16 : f 16 = 3) (hup : ∀ j, 0 < j → j < 16 → f j = 255) : valD f 17 < PP ↔ f 0 < 251 := by
  have h3 : valD f 17 = valD f 16 + 3 * 256 ^ 16 := by rw [← h16]; rfl
  rw [h3]
  exact less_key (valD_full0 hup) (by decide)
end Ob

namespace Ob
set_option linter.unusedVariables false
set_option linter.unusedSimpArgs false
/-- What is carried into word i; the word there. -/
def carW (x y : Nat → Nat) : Nat → Nat
  | 0 => 0
  | i + 1 => (x i + y i + carW x y i) / 18446744073709551616
def sumW (x y : Nat → Nat) (i : Nat) : Nat := (x i + y i + carW x y i) % 18446744073709551616
theorem carW_le {x y : Nat → Nat} (hx : ∀ i, x i < 18446744073709551616) (hy : ∀ i, y i < 18446744073709551616) : ∀ i, carW x y i ≤ 1
  | 0 => Nat.zero_le _
  | i + 1 => by
    have := carW_le hx hy i
    have := hx i
    have := hy i
    show (x i + y i + carW x y i) / 18446744073709551616 ≤ 1
    omega
/-- Three words. -/
def w3 (a b c : Nat) (i : Nat) : Nat := if i = 0 then a else if i = 1 then b else if i = 2 then c else 0
theorem w3_lt {a b c : Nat} (ha : a < 18446744073709551616) (hb : b < 18446744073709551616) (hc : c < 18446744073709551616) (i : Nat) : w3 a b c i < 18446744073709551616 := by
  unfold w3
  split
  · exact ha
  · split
    · exact hb
    · split
      · exact hc
      · decide
def val3 (a b c : Nat) : Nat := a + b * 18446744073709551616 + c * 340282366920938463463374607431768211456
/-- The number that n words tell. -/
def valB (f : Nat → Nat) : Nat → Nat
  | 0 => 0
  | n + 1 => valB f n + f n * 18446744073709551616 ^ n
theorem valB_congr {f g : Nat → Nat} : ∀ {n : Nat}, (∀ i, i < n → f i = g i) → valB f n = valB g n
  | 0, _ => rfl
  | n + 1, h => by rw [valB, valB, valB_congr (fun i hi => h i (by omega)), h n (by omega)]
theorem valB_upd (f : Nat → Nat) (k v : Nat) : ∀ n, k < n → valB (upd f k v) n + f k * 18446744073709551616 ^ k = valB f n + v * 18446744073709551616 ^ k
  | 0, h => by omega
  | n + 1, h => by
    rw [valB, valB]
    by_cases e : k = n
    · subst e
      rw [valB_congr (f := upd f k v) (g := f) (fun i hi => by unfold upd; rw [if_neg (by omega)]), upd_same]
      omega
    · have := valB_upd f k v n (by omega)
      rw [show upd f k v n = f n from by unfold upd; rw [if_neg (by omega)]]
      omega
theorem step_val (V V' o' o ov ov2 V0 Xi xi rj Bi Bj T B : Nat) (hT : T = Bi * Bj) (h1 : V' + o * T = V + o' * T) (h2 : ov2 * B + o' = xi * rj + ov + o) (h0 : V + ov * T = V0 + Xi * rj * Bj) :
    V' + ov2 * (T * B) = V0 + (Xi + xi * Bi) * rj * Bj := by
  have h3 : (ov2 * B + o') * T = (xi * rj + ov + o) * T := congrArg (· * T) h2
  rw [Nat.add_mul, Nat.add_mul, Nat.add_mul] at h3
  have e1 : ov2 * (T * B) = ov2 * B * T := by rw [Nat.mul_comm T B, Nat.mul_assoc]
  have e2 : (Xi + xi * Bi) * rj * Bj = Xi * rj * Bj + xi * rj * T := by
    rw [Nat.add_mul, Nat.add_mul, hT]
    congr 1
    ac_rfl
  rw [e1, e2]
  omega
theorem over_zero {V ov T A : Nat} (h : V + ov * T = A) (hA : A < T) : ov = 0 ∧ V = A := by
  cases ov with
  | zero => exact ⟨rfl, by simpa using h⟩
  | succ n => rw [Nat.add_mul, Nat.one_mul] at h; omega
/-- What the rounds keep: within word j of r, ahead of word i of x. -/
def TIn (x r v0 v : Nat → Nat) (i j ov : Nat) : Prop := valB v 4 + ov * 18446744073709551616 ^ (i + j) = valB v0 4 + valB x i * r j * 18446744073709551616 ^ j
def TOut (x r v : Nat → Nat) (j : Nat) : Prop := valB v 4 = valB x 3 * valB r j
def TFit (x r : Nat → Nat) : Prop := ∀ j, j < 2 → valB x 3 * valB r (j + 1) < 18446744073709551616 ^ (3 + j)
theorem TOut.zero (x r : Nat → Nat) : TOut x r (fun _ => 0) 0 := by
  unfold TOut
  rw [show valB r 0 = 0 from rfl, Nat.mul_zero]
  simp [valB]
theorem TIn.zero (x r v0 : Nat → Nat) (j : Nat) : TIn x r v0 v0 0 j 0 := by
  unfold TIn
  rw [show valB x 0 = 0 from rfl, Nat.zero_mul, Nat.zero_mul, Nat.zero_mul]
theorem TIn.next {x r v0 v : Nat → Nat} {i j ov o' ov2 : Nat} (h : TIn x r v0 v i j ov) (hij : i + j < 4) (hs : ov2 * 18446744073709551616 + o' = x i * r j + ov + v (i + j)) : TIn x r v0 (upd v (i + j) o') (i + 1) j ov2 := by
  have h1 := valB_upd v (i + j) o' 4 hij
  have h2 := step_val _ _ o' (v (i + j)) ov ov2 _ _ (x i) (r j) (18446744073709551616 ^ i) _ _ 18446744073709551616 (Nat.pow_add _ i j) h1 hs h
  unfold TIn
  rw [show i + 1 + j = i + j + 1 by omega, Nat.pow_succ]
  exact h2
theorem TIn.over {x r v0 v : Nat → Nat} {j ov : Nat} (h : TIn x r v0 v 3 j ov) (ho : TOut x r v0 j) (hf : TFit x r) (hj : j < 2) : TOut x r v (j + 1) := by
  unfold TIn at h
  unfold TOut at ho ⊢
  have h2 : valB v 4 + ov * 18446744073709551616 ^ (3 + j) = valB x 3 * valB r (j + 1) := by
    rw [h, ho, show valB r (j + 1) = valB r j + r j * 18446744073709551616 ^ j from rfl, Nat.mul_add, Nat.mul_assoc (valB x 3) (r j)]
  exact (over_zero h2 (hf j hj)).2
/-- One step's words. -/
theorem step_words {a b ov o hi lo l1 c1 o' c2 : Nat} (ha : a < 18446744073709551616) (hb : b < 18446744073709551616) (hov : ov < 18446744073709551616) (ho : o < 18446744073709551616)
    (h1 : a * b / 18446744073709551616 = hi) (h2 : a * b % 18446744073709551616 = lo) (h3 : (lo + ov) % 18446744073709551616 = l1) (h4 : (lo + ov) / 18446744073709551616 = c1) (h5 : (o + l1) % 18446744073709551616 = o') (h6 : (o + l1) / 18446744073709551616 = c2) :
    (hi + c1 + c2) * 18446744073709551616 + o' = a * b + ov + o ∧ hi + c1 + c2 < 18446744073709551616 ∧ o' < 18446744073709551616 := by
  have hm : a * b ≤ 340282366920938463426481119284349108225 := Nat.mul_le_mul (show a ≤ 18446744073709551615 by omega) (show b ≤ 18446744073709551615 by omega)
  generalize a * b = m at *
  omega
theorem upd_words {v : Nat → Nat} {k o' : Nat} (hv : ∀ i, v i < 18446744073709551616) (h : o' < 18446744073709551616) (t : Nat) : upd v k o' t < 18446744073709551616 := by
  unfold upd
  split
  · exact h
  · exact hv t
theorem mul_word {x r : Nat} (hx : x < 18446744073709551616) (hr : r < 18446744073709551616) : x * r ≤ 340282366920938463426481119284349108225 :=
  Nat.mul_le_mul (show x ≤ 18446744073709551615 by omega) (show r ≤ 18446744073709551615 by omega)
theorem and_parts (k q r m n : Nat) (hr : r < 2 ^ k) (hn : n < 2 ^ k) : (2 ^ k * q + r) &&& (2 ^ k * m + n) = 2 ^ k * (q &&& m) + (r &&& n) := by
  have hl : r &&& n < 2 ^ k := Nat.and_lt_two_pow _ hn
  apply Nat.eq_of_testBit_eq
  intro i
  rw [Nat.testBit_and, Nat.testBit_two_pow_mul_add _ hr, Nat.testBit_two_pow_mul_add _ hn, Nat.testBit_two_pow_mul_add _ hl]
  split
  · rw [Nat.testBit_and]
  · rw [Nat.testBit_and]
theorem andNot3 (x : Nat) (hx : x < 18446744073709551616) : x &&& 18446744073709551612 = x - x % 4 := by
  have h := and_parts 2 (x / 4) (x % 4) 4611686018427387903 0 (Nat.mod_lt _ (by decide)) (by decide)
  rw [show 2 ^ 2 * (x / 4) + x % 4 = x by omega, Nat.and_zero] at h
  have e : (x / 4) &&& 4611686018427387903 = (x / 4) % 2 ^ 62 := Nat.and_two_pow_sub_one_eq_mod (x / 4) 62
  rw [e] at h
  rw [show 18446744073709551612 = 2 ^ 2 * 4611686018427387903 + 0 by decide, h]
  omega
theorem and3 (x : Nat) : x &&& 3 = x % 4 := Nat.and_two_pow_sub_one_eq_mod x 2
theorem or62 (x y : Nat) (hx : x < 18446744073709551616) : (x / 4) ||| (y * 4611686018427387904 % 18446744073709551616) = x / 4 + y % 4 * 4611686018427387904 := by
  have e : y * 4611686018427387904 % 18446744073709551616 = 2 ^ 62 * (y % 4) := by omega
  rw [e, Nat.or_comm, ← Nat.two_pow_add_eq_or_of_lt (show x / 4 < 2 ^ 62 by omega)]
  omega
/-- Masked bytes. -/
theorem lowN_and (z c : Nat → Nat) (hz : ∀ i, z i < 256) (hc : ∀ i, c i < 256) : ∀ n, lowN z n &&& lowN c n = lowN (fun i => z i &&& c i) n
  | 0 => by show 0 &&& 0 = 0; decide
  | n + 1 => by
    have h := and_parts (8 * n) (z n) (lowN z n) (c n) (lowN c n) (lowN_lt hz n) (lowN_lt hc n)
    show (lowN z n + z n * 2 ^ (8 * n)) &&& (lowN c n + c n * 2 ^ (8 * n)) = lowN (fun i => z i &&& c i) n + (z n &&& c n) * 2 ^ (8 * n)
    rw [Nat.add_comm (lowN z n), Nat.mul_comm (z n), Nat.add_comm (lowN c n), Nat.mul_comm (c n), h, lowN_and z c hz hc n, Nat.add_comm, Nat.mul_comm]
theorem lowN_valD (z : Nat → Nat) : ∀ n, lowN z n = valD z n
  | 0 => rfl
  | n + 1 => by rw [lowN, valD, lowN_valD z n, Nat.pow_mul]
theorem sum_val (x y : Nat → Nat) : ∀ n, valB (sumW x y) n + carW x y n * 18446744073709551616 ^ n = valB x n + valB y n
  | 0 => by simp [valB, carW]
  | n + 1 => by
    have h := sum_val x y n
    have e : sumW x y n + carW x y (n + 1) * 18446744073709551616 = x n + y n + carW x y n := by
      show (x n + y n + carW x y n) % 18446744073709551616 + (x n + y n + carW x y n) / 18446744073709551616 * 18446744073709551616 = _
      omega
    have h2 : (sumW x y n + carW x y (n + 1) * 18446744073709551616) * 18446744073709551616 ^ n = (x n + y n + carW x y n) * 18446744073709551616 ^ n := congrArg (· * 18446744073709551616 ^ n) e
    rw [Nat.add_mul, Nat.add_mul, Nat.add_mul] at h2
    rw [valB, valB, valB, Nat.pow_succ]
    have e3 : carW x y (n + 1) * (18446744073709551616 ^ n * 18446744073709551616) = carW x y (n + 1) * 18446744073709551616 * 18446744073709551616 ^ n := by rw [Nat.mul_comm (18446744073709551616 ^ n), Nat.mul_assoc]
    rw [e3]
    omega
theorem valB_lt {f : Nat → Nat} : ∀ {n : Nat}, (∀ i, f i < 18446744073709551616) → valB f n < 18446744073709551616 ^ n
  | 0, _ => by show 0 < _; decide
  | n + 1, h => by
    have h1 := valB_lt (f := f) (n := n) h
    have h2 : (f n + 1) * 18446744073709551616 ^ n ≤ 18446744073709551616 * 18446744073709551616 ^ n := Nat.mul_le_mul_right _ (h n)
    rw [valB, Nat.pow_succ, Nat.mul_comm (18446744073709551616 ^ n)]
    rw [Nat.add_mul, Nat.one_mul] at h2
    omega
theorem sumW_lt (x y : Nat → Nat) (i : Nat) : sumW x y i < 18446744073709551616 := Nat.mod_lt _ (by decide)
/-- A sum of three words that fits. -/
theorem sum_fits {x y : Nat → Nat} (h : valB x 3 + valB y 3 < 18446744073709551616 ^ 3) : valB (sumW x y) 3 = valB x 3 + valB y 3 := by
  have h1 := sum_val x y 3
  exact (over_zero h1 h).2
theorem valB3 (f : Nat → Nat) : valB f 3 = f 0 + f 1 * 18446744073709551616 + f 2 * 340282366920938463463374607431768211456 := by simp [valB]
theorem valB4 (f : Nat → Nat) : valB f 4 = f 0 + f 1 * 18446744073709551616 + f 2 * 340282366920938463463374607431768211456 + f 3 * 6277101735386680763835789423207666416102355444464034512896 := by simp [valB]
theorem valB2 (f : Nat → Nat) : valB f 2 = f 0 + f 1 * 18446744073709551616 := by simp [valB]
theorem PP_num : PP = 1361129467683753853853498429727072845819 := by decide
/-- What is above bit 130, 5 times upon what is below. -/
theorem fold5 (a b c d L H : Nat) (ha : a < 18446744073709551616) (hb : b < 18446744073709551616) (hc : c < 18446744073709551616) (hd : d < 18446744073709551616)
    (hV : a + b * 18446744073709551616 + c * 340282366920938463463374607431768211456 + d * 6277101735386680763835789423207666416102355444464034512896 < 57896044618658097711785492504343953926634992332820282019728792003956564819968)
    (hL : L = a + b * 18446744073709551616 + c % 4 * 340282366920938463463374607431768211456) (hH : H = (c + d * 18446744073709551616) / 4) :
    a + b * 18446744073709551616 + c * 340282366920938463463374607431768211456 + d * 6277101735386680763835789423207666416102355444464034512896 = L + H * 1361129467683753853853498429727072845824 ∧ L + 5 * H < 1701411834604692317316873037158841057280 := by
  obtain ⟨m, hm⟩ : ∃ m, m = c + d * 18446744073709551616 := ⟨_, rfl⟩
  have e4 : m % 4 = c % 4 := by omega
  have e5 : a + b * 18446744073709551616 + c * 340282366920938463463374607431768211456 + d * 6277101735386680763835789423207666416102355444464034512896 = a + b * 18446744073709551616 + m * 340282366920938463463374607431768211456 := by omega
  rw [e5] at hV ⊢
  rw [← hm] at hH
  rw [← e4] at hL
  clear e4 e5 hm hc hd
  have e6 : m = 4 * H + m % 4 := by omega
  generalize m % 4 = r at *
  constructor
  · omega
  · omega
end Ob
