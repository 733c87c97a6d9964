/-
  Small helps for all walks: calls that only make memory of their own, errors that are codes, words as plain numbers.
-/
import Derived.Test.YtgjpdamojfkpiabProg
import Derived.WalkKit
import Derived.WalkLawsBesides
import Derived.Outline
import Derived.Deep.QuietTactic
import Derived.BigQuiet
import Derived.Deep.DeepCutAuto
import Derived.Deep.CutBlock
import Derived.Laws.Bits64b
import Derived.Deep.RegionWith
import Derived.LoopTactic
import Derived.LaidEql
import Derived.OpenShut
import Derived.Handy
import Derived.Deep.RegionHeld3
import Derived.Deep.DrawnRows
namespace Go.Proofs.Ytgjpdamojfkpiab
open Go.RowKit Go.Proofs
set_option linter.unusedVariables false
set_option linter.unusedSimpArgs false

/-- A call that returns v, whatever the world is, and turns nothing that was there. -/
def Gives (f : FuncId) (args : Array Value) (v : Value) : Prop := ∀ w, Calls Try.prog f args w fun e w' => e = .returned v ∧ Below w.heap.size w w'

theorem below_drewN {B : Nat} {a w : World} (h : Below B a w) (n : Nat) : Below B a (w.drewN n) := ⟨h.os, h.tape, h.output, h.size, h.block⟩

theorem size_drewN (w : World) (n : Nat) : (w.drewN n).heap.size = w.heap.size := rfl
theorem below_via {B C : Nat} {a W w : World} (h : Below C W w) (h1 : Below B a W) (h2 : B ≤ C) : Below B a w := h1.trans (h.mono h2)

theorem Gives.of_same {f : FuncId} {args : Array Value} {v : Value} (h : ∀ w, Calls Try.prog f args w fun e w' => e = .returned v ∧ w = w') : Gives f args v :=
  fun w => (h w).mono fun e w' ⟨he, hw⟩ => ⟨he, hw ▸ Below.refl _ _⟩
theorem Gives.of_drew {f : FuncId} {args : Array Value} {v : Value} (h : ∀ w, Calls Try.prog f args w fun e w' => e = .returned v ∧ ∃ n, w' = w.drewN n) : Gives f args v :=
  fun w => (h w).mono fun e w' ⟨he, n, hw⟩ => ⟨he, hw ▸ below_drewN (Below.refl _ _) n⟩

/-- What lay in memory below B reads as it did. -/
theorem bcell {B : Nat} {W w1 : World} (hb : Below B W w1) : (∀ b o, b < B → w1.cell? ⟨b, o, none⟩ = W.cell? ⟨b, o, none⟩) ∧ (∀ b o, b < B → w1.frozen? ⟨b, o, none⟩ = W.frozen? ⟨b, o, none⟩) :=
  ⟨fun b o h => hb.cell (p := ⟨b, o, none⟩) h, fun b o h => hb.frozen (p := ⟨b, o, none⟩) h⟩

/-- How many blocks there are, behind one step. -/
theorem szs : (∀ (w : World) (o : Obj), (w.alloc o).heap.size = w.heap.size + 1) ∧ (∀ (w : World) (p : Addr) (v : Value), (w.setCell p v).heap.size = w.heap.size) ∧ (∀ w : World, w.drew.heap.size = w.heap.size) ∧ (∀ (w : World) (n : Nat), (w.drewN n).heap.size = w.heap.size) :=
  ⟨World.size_alloc, World.size_setCell, World.size_drew, size_drewN⟩
theorem own1 {B : Nat} {W w1 : World} (hb : Below B W w1) (x : Nat) (h : x < B) (hB : B ≤ W.heap.size := by exact Nat.le_refl _) : x < w1.heap.size ∧ x ≤ w1.heap.size ∧ x ≠ w1.heap.size ∧ w1.heap.size ≠ x ∧ w1.cell? ⟨x, 0, none⟩ = W.cell? ⟨x, 0, none⟩ ∧ w1.frozen? ⟨x, 0, none⟩ = W.frozen? ⟨x, 0, none⟩ :=
  have l : x < w1.heap.size := Nat.lt_of_lt_of_le (Nat.lt_of_lt_of_le h hB) hb.size
  ⟨l, Nat.le_of_lt l, Nat.ne_of_lt l, Nat.ne_of_gt l, (bcell hb).1 x 0 h, (bcell hb).2 x 0 h⟩
theorem own2 {B : Nat} {W w1 : World} (hb : Below B W w1) (x : Nat) (h : x < B) (hB : B ≤ W.heap.size := by exact Nat.le_refl _) : x < w1.heap.size ∧ x ≤ w1.heap.size ∧ x ≠ w1.heap.size ∧ w1.heap.size ≠ x ∧ w1.cell? ⟨x, 0, none⟩ = W.cell? ⟨x, 0, none⟩ ∧ w1.frozen? ⟨x, 0, none⟩ = W.frozen? ⟨x, 0, none⟩ ∧ w1.cell? ⟨x, 1, none⟩ = W.cell? ⟨x, 1, none⟩ ∧ w1.frozen? ⟨x, 1, none⟩ = W.frozen? ⟨x, 1, none⟩ :=
  have l : x < w1.heap.size := Nat.lt_of_lt_of_le (Nat.lt_of_lt_of_le h hB) hb.size
  ⟨l, Nat.le_of_lt l, Nat.ne_of_lt l, Nat.ne_of_gt l, (bcell hb).1 x 0 h, (bcell hb).2 x 0 h, (bcell hb).1 x 1 h, (bcell hb).2 x 1 h⟩
theorem own3 {B : Nat} {W w1 : World} (hb : Below B W w1) (x : Nat) (h : x < B) (hB : B ≤ W.heap.size := by exact Nat.le_refl _) : x < w1.heap.size ∧ x ≤ w1.heap.size ∧ x ≠ w1.heap.size ∧ w1.heap.size ≠ x ∧ w1.cell? ⟨x, 0, none⟩ = W.cell? ⟨x, 0, none⟩ ∧ w1.frozen? ⟨x, 0, none⟩ = W.frozen? ⟨x, 0, none⟩ ∧ w1.cell? ⟨x, 1, none⟩ = W.cell? ⟨x, 1, none⟩ ∧ w1.frozen? ⟨x, 1, none⟩ = W.frozen? ⟨x, 1, none⟩ ∧ w1.cell? ⟨x, 2, none⟩ = W.cell? ⟨x, 2, none⟩ ∧ w1.frozen? ⟨x, 2, none⟩ = W.frozen? ⟨x, 2, none⟩ :=
  have l : x < w1.heap.size := Nat.lt_of_lt_of_le (Nat.lt_of_lt_of_le h hB) hb.size
  ⟨l, Nat.le_of_lt l, Nat.ne_of_lt l, Nat.ne_of_gt l, (bcell hb).1 x 0 h, (bcell hb).2 x 0 h, (bcell hb).1 x 1 h, (bcell hb).2 x 1 h, (bcell hb).1 x 2 h, (bcell hb).2 x 2 h⟩
theorem own4 {B : Nat} {W w1 : World} (hb : Below B W w1) (x : Nat) (h : x < B) (hB : B ≤ W.heap.size := by exact Nat.le_refl _) : x < w1.heap.size ∧ x ≤ w1.heap.size ∧ x ≠ w1.heap.size ∧ w1.heap.size ≠ x ∧ w1.cell? ⟨x, 0, none⟩ = W.cell? ⟨x, 0, none⟩ ∧ w1.frozen? ⟨x, 0, none⟩ = W.frozen? ⟨x, 0, none⟩ ∧ w1.cell? ⟨x, 1, none⟩ = W.cell? ⟨x, 1, none⟩ ∧ w1.frozen? ⟨x, 1, none⟩ = W.frozen? ⟨x, 1, none⟩ ∧ w1.cell? ⟨x, 2, none⟩ = W.cell? ⟨x, 2, none⟩ ∧ w1.frozen? ⟨x, 2, none⟩ = W.frozen? ⟨x, 2, none⟩ ∧ w1.cell? ⟨x, 3, none⟩ = W.cell? ⟨x, 3, none⟩ ∧ w1.frozen? ⟨x, 3, none⟩ = W.frozen? ⟨x, 3, none⟩ :=
  have l : x < w1.heap.size := Nat.lt_of_lt_of_le (Nat.lt_of_lt_of_le h hB) hb.size
  ⟨l, Nat.le_of_lt l, Nat.ne_of_lt l, Nat.ne_of_gt l, (bcell hb).1 x 0 h, (bcell hb).2 x 0 h, (bcell hb).1 x 1 h, (bcell hb).2 x 1 h, (bcell hb).1 x 2 h, (bcell hb).2 x 2 h, (bcell hb).1 x 3 h, (bcell hb).2 x 3 h⟩
/-- A variable of the call's own, of two cells. -/
structure Two (w : World) (b : Nat) (x y : Value) : Prop where
  c0 : w.cell? ⟨b, 0, none⟩ = some x
  c1 : w.cell? ⟨b, 1, none⟩ = some y
  f0 : w.frozen? ⟨b, 0, none⟩ = false
  f1 : w.frozen? ⟨b, 1, none⟩ = false
  lt : b < w.heap.size
theorem Two.below {w w1 : World} {B b : Nat} {x y : Value} (t : Two w b x y) (hb : Below B w w1) (h : b < B) : Two w1 b x y :=
  ⟨by rw [(bcell hb).1 b 0 h]; exact t.c0, by rw [(bcell hb).1 b 1 h]; exact t.c1, by rw [(bcell hb).2 b 0 h]; exact t.f0, by rw [(bcell hb).2 b 1 h]; exact t.f1, Nat.lt_of_lt_of_le t.lt hb.size⟩
theorem Two.alloc {w : World} {b : Nat} {x y : Value} (t : Two w b x y) (o : Obj) : Two (w.alloc o) b x y := t.below ((Below.refl w.heap.size w).alloc (Nat.le_refl _) o) t.lt
theorem Two.put {w : World} {b : Nat} {x y : Value} (t : Two w b x y) (x' y' : Value) : Two ((w.setCell ⟨b, 0, none⟩ x').setCell ⟨b, 1, none⟩ y') b x' y' where
  c0 := by rw [World.cell?_setCell_other _ _ _ _ (by simp), World.cell?_setCell_same _ _ _ t.c0]
  c1 := by rw [World.cell?_setCell_same _ _ _ (u := y) (by rw [World.cell?_setCell_other _ _ _ _ (by simp), t.c1])]
  f0 := by simp [t.f0]
  f1 := by simp [t.f1]
  lt := by simp [t.lt]
theorem Two.far {w : World} {b b' : Nat} {x y : Value} (t : Two w b x y) (h : b' ≠ b) (o : Nat) (v : Value) : Two (w.setCell ⟨b', o, none⟩ v) b x y where
  c0 := by rw [World.cell?_setCell_other _ _ _ _ (by simp [h]), t.c0]
  c1 := by rw [World.cell?_setCell_other _ _ _ _ (by simp [h]), t.c1]
  f0 := by simp [t.f0]
  f1 := by simp [t.f1]
  lt := by simp [t.lt]
theorem Two.new {w : World} {x y : Value} {t : TypeId} {b : Nat} (h : b = w.heap.size) : Two (w.alloc (.cells #[x, y] t)) b x y := by subst h; exact ⟨by simp [go_sem], by simp [go_sem], by simp [go_sem], by simp [go_sem], by simp⟩

/-- Such a variable, whatever it holds. -/
def Own2 (w : World) (b : Nat) : Prop := ∃ x y, Two w b x y
theorem Two.own {w : World} {b : Nat} {x y : Value} (t : Two w b x y) : Own2 w b := ⟨x, y, t⟩
theorem Two.set {w : World} {b : Nat} (t : Own2 w b) (x' y' : Value) : Two ((w.setCell ⟨b, 0, none⟩ x').setCell ⟨b, 1, none⟩ y') b x' y' := by obtain ⟨x, y, t⟩ := t; exact t.put x' y'
theorem Own2.set {w : World} {b : Nat} (t : Own2 w b) (x' y' : Value) : Own2 ((w.setCell ⟨b, 0, none⟩ x').setCell ⟨b, 1, none⟩ y') b := (Two.set t x' y').own
theorem Two.via {w w1 : World} {B b : Nat} {x y : Value} (hb : Below B w w1) (t : Two w b x y) (h : b < B) : Two w1 b x y := t.below hb h
theorem Two.drew {w : World} {b : Nat} {x y : Value} (t : Two w b x y) : Two w.drew b x y := t.below ((Below.refl w.heap.size w).drew) t.lt
theorem Two.drewN {w : World} {b : Nat} {x y : Value} (t : Two w b x y) (n : Nat) : Two (w.drewN n) b x y := t.below (below_drewN (Below.refl w.heap.size w) n) t.lt
theorem Own2.via {w w1 : World} {B b : Nat} (hb : Below B w w1) (t : Own2 w b) (h : b < B) : Own2 w1 b := by obtain ⟨x, y, t⟩ := t; exact ⟨x, y, t.below hb h⟩
theorem Own2.far {w : World} {b b' : Nat} (t : Own2 w b) (h : b' ≠ b) (o : Nat) (v : Value) : Own2 (w.setCell ⟨b', o, none⟩ v) b := by obtain ⟨x, y, t⟩ := t; exact ⟨x, y, t.far h o v⟩
theorem Own2.alloc {w : World} {b : Nat} (t : Own2 w b) (o : Obj) : Own2 (w.alloc o) b := by obtain ⟨x, y, t⟩ := t; exact ⟨x, y, t.alloc o⟩
theorem Own2.new {w : World} {x y : Value} {t : TypeId} {b : Nat} (h : b = w.heap.size) : Own2 (w.alloc (.cells #[x, y] t)) b := ⟨x, y, Two.new h⟩
theorem Own2.drew {w : World} {b : Nat} (t : Own2 w b) : Own2 w.drew b := by obtain ⟨x, y, t⟩ := t; exact ⟨x, y, t.drew⟩
theorem Own2.drewN {w : World} {b : Nat} (t : Own2 w b) (n : Nat) : Own2 (w.drewN n) b := by obtain ⟨x, y, t⟩ := t; exact ⟨x, y, t.drewN n⟩

/-- A word of 64 bits, as a plain number. -/
theorem word_of {a : Int} (h : (Lit.int .u64 a).wf = true) : ∃ n : Nat, a = (n : Int) ∧ n < 18446744073709551616 := by
  have := bounds_u64 h
  exact ⟨a.toNat, by omega, by omega⟩
end Go.Proofs.Ytgjpdamojfkpiab
