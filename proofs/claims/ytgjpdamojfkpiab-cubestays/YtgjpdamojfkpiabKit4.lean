/-
  Cells of variables, as a region's condition asks for them.
-/
import Derived.Test.YtgjpdamojfkpiabKit3
namespace Go.Proofs.Ytgjpdamojfkpiab
open Go.RowKit Go.Proofs
set_option linter.unusedVariables false
set_option linter.unusedSimpArgs false

theorem cells2 {w : World} {a : Nat} {x y : Value} (t : Two w a x y) : w.cell? ⟨a, 0, none⟩ = some x ∧ w.cell? ⟨a, 1, none⟩ = some y := ⟨t.c0, t.c1⟩
theorem cells3 {w : World} {a : Nat} {x y z : Value} (t : Three w a x y z) : w.cell? ⟨a, 0, none⟩ = some x ∧ w.cell? ⟨a, 1, none⟩ = some y ∧ w.cell? ⟨a, 2, none⟩ = some z := ⟨t.c0, t.c1, t.c2⟩
theorem cells_and {A B C : Prop} (h : A ∧ B) (k : C) : A ∧ B ∧ C := ⟨h.1, h.2, k⟩
theorem cells_and3 {A B C D : Prop} (h : A ∧ B ∧ C) (k : D) : A ∧ B ∧ C ∧ D := ⟨h.1, h.2.1, h.2.2, k⟩
end Go.Proofs.Ytgjpdamojfkpiab
