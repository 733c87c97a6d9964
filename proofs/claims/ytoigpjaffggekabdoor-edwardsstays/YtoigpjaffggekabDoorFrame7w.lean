/-
  What the rows of this seat that lay one table share: that table, and the start that fits.
-/
import Derived.Test.YtoigpjaffggekabDoorFrame7
import Derived.Test.YtoigpjaffggekabDoorRootW
import Derived.LaidMore
import Derived.Lib.LaidTab
import Derived.Stop.Joined
namespace Go.Proofs.YtoigpjaffggekabDoor
open Go.ChangeShapes Go.WideShapes Go.ChangeAt Go.RowKit
set_option linter.unusedVariables false
set_option linter.unusedSimpArgs false

def tabNums : List Int := [0, 1, 56, 2, 57, 49, 28, 3, 61, 58, 42, 50, 38, 29, 17, 4, 62, 47, 59, 36, 45, 43, 51, 22, 53, 39, 33, 30, 24, 18, 12, 5, 63, 55, 48, 27, 60, 41, 37, 16, 46, 35, 44, 21, 52, 32, 23, 11, 54, 26, 40, 15, 34, 20, 31, 10, 25, 14, 19, 9, 13, 8, 7, 6]
def laidTab : List (String × DataW Unit) := Rows.edwardsStaysRow.laid
def tabName : String := (laidTab.map (·.1)).headD ""
theorem laidTab_eq : laidTab = [(tabName, Lib.tabData .u8 tabNums)] := rfl

theorem gTab : Tryd.prog.globalNamed tabName = some 0 := by kernel_rfl
theorem tTab : (Tryd.prog.globals[0]?).map (·.type) = some 76 := by kernel_rfl
theorem cTab : Tryd.prog.cellsOf 76 = 64 := by kernel_rfl
theorem cByte : Tryd.prog.cellsOf 5 = 1 := by kernel_rfl

theorem tabs_of_laid {W : World} (h : laidMetH Tryd.prog laidTab W) : TabOk W := by
  rw [MakeChecks.laidMetH_plain _ _ _ (by kernel_rfl)] at h
  rw [laidTab_eq] at h
  obtain ⟨ps, ⟨g, t, cs, fuel, p, q, hg, ht, hvar, hd, _, _⟩, _⟩ := h
  obtain rfl := Option.some.inj (gTab.symm.trans hg)
  obtain rfl := Option.some.inj (tTab.symm.trans ht)
  have hcs := Lib.cells_of_tab Tryd.underlying76 Tryd.underlying5 cByte cTab hd
  have hc := World.var?_cell hg hvar 29
  obtain ⟨l⟩ := cs
  simp only at hcs
  subst hcs
  show W.cell? _ = _
  rw [hc]
  rfl

theorem door_met (os : Os) (args : Array Value) : laidMetH Tryd.prog laidTab ((World.doorLaid Tryd.prog 400 os).forCall (fun _ _ => 0) ⟨#[], args, []⟩).memory :=
  laidMetH_of_parts3 (fuel := 8) (laidMet_of_run' 8 (by kernel_rfl) (by kernel_rfl)) (by kernel_rfl) (by kernel_rfl)
end Go.Proofs.YtoigpjaffggekabDoor
