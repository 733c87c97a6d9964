/-
  Variables of three cells.
-/
import Derived.Test.YtgjpdamojfkpiabKit
namespace Go.Proofs.Ytgjpdamojfkpiab
open Go.RowKit Go.Proofs
set_option linter.unusedVariables false
set_option linter.unusedSimpArgs false

/-- A variable of the call's own, of three cells. -/
structure Three (w : World) (b : Nat) (x y z : Value) : Prop where
  c0 : w.cell? ⟨b, 0, none⟩ = some x
  c1 : w.cell? ⟨b, 1, none⟩ = some y
  c2 : w.cell? ⟨b, 2, none⟩ = some z
  f0 : w.frozen? ⟨b, 0, none⟩ = false
  f1 : w.frozen? ⟨b, 1, none⟩ = false
  f2 : w.frozen? ⟨b, 2, none⟩ = false
  lt : b < w.heap.size
theorem Three.below {w w1 : World} {B b : Nat} {x y z : Value} (t : Three w b x y z) (hb : Below B w w1) (h : b < B) : Three w1 b x y z :=
  ⟨by rw [(bcell hb).1 b 0 h]; exact t.c0, by rw [(bcell hb).1 b 1 h]; exact t.c1, by rw [(bcell hb).1 b 2 h]; exact t.c2, by rw [(bcell hb).2 b 0 h]; exact t.f0, by rw [(bcell hb).2 b 1 h]; exact t.f1, by rw [(bcell hb).2 b 2 h]; exact t.f2, Nat.lt_of_lt_of_le t.lt hb.size⟩
theorem Three.alloc {w : World} {b : Nat} {x y z : Value} (t : Three w b x y z) (o : Obj) : Three (w.alloc o) b x y z := t.below ((Below.refl w.heap.size w).alloc (Nat.le_refl _) o) t.lt
theorem Three.put0 {w : World} {b : Nat} {x y z : Value} (t : Three w b x y z) (v : Value) : Three (w.setCell ⟨b, 0, none⟩ v) b v y z where
  c0 := by rw [World.cell?_setCell_same _ _ _ t.c0]
  c1 := by rw [World.cell?_setCell_other _ _ _ _ (by simp), t.c1]
  c2 := by rw [World.cell?_setCell_other _ _ _ _ (by simp), t.c2]
  f0 := by simp [t.f0]
  f1 := by simp [t.f1]
  f2 := by simp [t.f2]
  lt := by simp [t.lt]
theorem Three.put1 {w : World} {b : Nat} {x y z : Value} (t : Three w b x y z) (v : Value) : Three (w.setCell ⟨b, 1, none⟩ v) b x v z where
  c0 := by rw [World.cell?_setCell_other _ _ _ _ (by simp), t.c0]
  c1 := by rw [World.cell?_setCell_same _ _ _ t.c1]
  c2 := by rw [World.cell?_setCell_other _ _ _ _ (by simp), t.c2]
  f0 := by simp [t.f0]
  f1 := by simp [t.f1]
  f2 := by simp [t.f2]
  lt := by simp [t.lt]
theorem Three.put2 {w : World} {b : Nat} {x y z : Value} (t : Three w b x y z) (v : Value) : Three (w.setCell ⟨b, 2, none⟩ v) b x y v where
  c0 := by rw [World.cell?_setCell_other _ _ _ _ (by simp), t.c0]
  c1 := by rw [World.cell?_setCell_other _ _ _ _ (by simp), t.c1]
  c2 := by rw [World.cell?_setCell_same _ _ _ t.c2]
  f0 := by simp [t.f0]
  f1 := by simp [t.f1]
  f2 := by simp [t.f2]
  lt := by simp [t.lt]
theorem Three.put {w : World} {b : Nat} {x y z : Value} (t : Three w b x y z) (x' y' z' : Value) : Three (((w.setCell ⟨b, 0, none⟩ x').setCell ⟨b, 1, none⟩ y').setCell ⟨b, 2, none⟩ z') b x' y' z' :=
  ((t.put0 x').put1 y').put2 z'
theorem Three.far {w : World} {b b' : Nat} {x y z : Value} (t : Three w b x y z) (h : b' ≠ b) (o : Nat) (v : Value) : Three (w.setCell ⟨b', o, none⟩ v) b x y z where
  c0 := by rw [World.cell?_setCell_other _ _ _ _ (by simp [h]), t.c0]
  c1 := by rw [World.cell?_setCell_other _ _ _ _ (by simp [h]), t.c1]
  c2 := by rw [World.cell?_setCell_other _ _ _ _ (by simp [h]), t.c2]
  f0 := by simp [t.f0]
  f1 := by simp [t.f1]
  f2 := by simp [t.f2]
  lt := by simp [t.lt]
theorem Three.new {w : World} {x y z : Value} {t : TypeId} {b : Nat} (h : b = w.heap.size) : Three (w.alloc (.cells #[x, y, z] t)) b x y z := by subst h; exact ⟨by simp [go_sem], by simp [go_sem], by simp [go_sem], by simp [go_sem], by simp [go_sem], by simp [go_sem], by simp⟩

/-- Such a variable, whatever it holds. -/
def Own3 (w : World) (b : Nat) : Prop := ∃ x y z, Three w b x y z
theorem Three.own {w : World} {b : Nat} {x y z : Value} (t : Three w b x y z) : Own3 w b := ⟨x, y, z, t⟩
theorem Three.set {w : World} {b : Nat} (t : Own3 w b) (x' y' z' : Value) : Three (((w.setCell ⟨b, 0, none⟩ x').setCell ⟨b, 1, none⟩ y').setCell ⟨b, 2, none⟩ z') b x' y' z' := by obtain ⟨x, y, z, t⟩ := t; exact t.put x' y' z'
theorem Own3.set {w : World} {b : Nat} (t : Own3 w b) (x' y' z' : Value) : Own3 (((w.setCell ⟨b, 0, none⟩ x').setCell ⟨b, 1, none⟩ y').setCell ⟨b, 2, none⟩ z') b := (Three.set t x' y' z').own
theorem Three.via {w w1 : World} {B b : Nat} {x y z : Value} (hb : Below B w w1) (t : Three w b x y z) (h : b < B) : Three w1 b x y z := t.below hb h
theorem Three.drew {w : World} {b : Nat} {x y z : Value} (t : Three w b x y z) : Three w.drew b x y z := t.below ((Below.refl w.heap.size w).drew) t.lt
theorem Three.drewN {w : World} {b : Nat} {x y z : Value} (t : Three w b x y z) (n : Nat) : Three (w.drewN n) b x y z := t.below (below_drewN (Below.refl w.heap.size w) n) t.lt
theorem Own3.via {w w1 : World} {B b : Nat} (hb : Below B w w1) (t : Own3 w b) (h : b < B) : Own3 w1 b := by obtain ⟨x, y, z, t⟩ := t; exact ⟨x, y, z, t.below hb h⟩
theorem Own3.far {w : World} {b b' : Nat} (t : Own3 w b) (h : b' ≠ b) (o : Nat) (v : Value) : Own3 (w.setCell ⟨b', o, none⟩ v) b := by obtain ⟨x, y, z, t⟩ := t; exact ⟨x, y, z, t.far h o v⟩
theorem Own3.alloc {w : World} {b : Nat} (t : Own3 w b) (o : Obj) : Own3 (w.alloc o) b := by obtain ⟨x, y, z, t⟩ := t; exact ⟨x, y, z, t.alloc o⟩
theorem Own3.new {w : World} {x y z : Value} {t : TypeId} {b : Nat} (h : b = w.heap.size) : Own3 (w.alloc (.cells #[x, y, z] t)) b := ⟨x, y, z, Three.new h⟩
theorem Own3.drew {w : World} {b : Nat} (t : Own3 w b) : Own3 w.drew b := by obtain ⟨x, y, z, t⟩ := t; exact ⟨x, y, z, t.drew⟩
theorem Own3.drewN {w : World} {b : Nat} (t : Own3 w b) (n : Nat) : Own3 (w.drewN n) b := by obtain ⟨x, y, z, t⟩ := t; exact ⟨x, y, z, t.drewN n⟩
end Go.Proofs.Ytgjpdamojfkpiab
