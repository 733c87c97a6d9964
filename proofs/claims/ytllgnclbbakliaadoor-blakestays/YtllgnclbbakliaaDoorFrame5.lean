/-
  What the rows of this seat share: the tables that are laid, and the start that fits.
-/
import Derived.Test.YtllgnclbbakliaaDoorTabs
import Derived.Test.YtllgnclbbakliaaDoorFrame2
import Derived.LaidMore
import Derived.Lib.LaidTab
import Derived.Stop.Joined
namespace Go.Proofs.YtllgnclbbakliaaDoor
open Go.ChangeShapes Go.WideShapes Go.ChangeAt Go.RowKit
set_option linter.unusedVariables false
set_option linter.unusedSimpArgs false

def firstI : List Int := Ob.firstT.map Int.ofNat
def rowsI : List (List Int) := Ob.sigT.map fun l => l.map Int.ofNat
def plcI : List (List Int) := Ob.plcT.map fun l => l.map Int.ofNat
def laidTab : List (String × DataW Unit) := Rows.blakePressesRow.laid
theorem laidTab_eq : laidTab = [("obol/blake.beginning", Lib.tabData .u32 firstI), ("obol/blake.rows", .agg (rowsI.map (Lib.tabData .u8))), ("obol/blake.places", .agg (plcI.map (Lib.tabData .u8)))] := rfl

/-- An array of integers that came in. -/
theorem open_arr {H : Type} {enc : TypeId × Value → H} {W : World} {r : Reach} {b0 : Nat} {v : Value} {d : DataW H} {p : List MemPlace} {t e : TypeId} {n : Nat} {k : IntKind} (ht : Tryd.prog.underlying t = some (.array n e)) (he : Tryd.prog.underlying e = some (.int k)) (hce : Tryd.prog.cellsOf e = 1) (hct : Tryd.prog.cellsOf t = n)
    (hv : Value.okWide Tryd.prog W r b0 t v) (h : DataW.Trod enc Tryd.prog W 0 (fun _ => true) true t v d p) : ∃ f : Nat → Int, v = .agg ((List.range n).map fun i => Value.int k (f i)).toArray ∧ ∀ i, i < n → (Lit.int k (f i)).wf = true := by
  have hcs : ∃ cs, v = .agg cs ∧ cs.size = Tryd.prog.cellsOf t := by
    simp only [Value.okWide, ht] at hv
    obtain ⟨cs, h1, h2, _⟩ := hv
    exact ⟨cs, h1, h2⟩
  obtain ⟨cs, rfl, hsz⟩ := hcs
  rw [hct] at hsz
  obtain ⟨fuel, hf⟩ := h
  obtain ⟨xs, m, _, _, _, hl, hx⟩ := DataW.trod_array ht hf
  have hall : ∀ i, i < n → ∃ a : Int, cs[i]? = some (.int k a) ∧ (Lit.int k a).wf = true := fun i hi => by
    have h0 := hx i (by omega)
    rw [hce] at h0
    cases hx0 : xs[i]? with
    | none => have := List.getElem?_eq_none_iff.mp hx0; omega
    | some y0 =>
      rw [hx0] at h0
      obtain ⟨a, e0, _, wa⟩ := DataW.trod_int he h0
      refine ⟨a, ?_, wa⟩
      have := congrArg (·[0]?) e0
      simpa [Value.cells, List.getElem?_take, List.getElem?_drop] using this
  refine ⟨fun i => match cs[i]? with | some (.int _ a) => a | _ => 0, ?_, fun i hi => ?_⟩
  · congr 1
    apply Array.ext_getElem?
    intro i
    by_cases hi : i < n
    · obtain ⟨a, ha, _⟩ := hall i hi
      rw [ha, List.getElem?_toArray]
      simp [hi, ha]
    · rw [Array.getElem?_eq_none (by omega), List.getElem?_toArray, List.getElem?_eq_none (by simp; omega)]
  · obtain ⟨a, ha, wa⟩ := hall i hi
    simp only [ha]
    exact wa

/-- A table of rows, cell by cell. -/
theorem cells_of_tab2 {H : Type} {enc : TypeId × Value → H} {P : Program} {w : World} {base : Nat} {sp : Nat → Bool} {held : Bool} {fuel : Nat} {t e1 e : TypeId} {n m : Nat} {k : IntKind} {cs : List Value} {zss : List (List Int)} {p : List MemPlace}
    (ht : P.underlying t = some (.array n e1)) (he1 : P.underlying e1 = some (.array m e)) (he : P.underlying e = some (.int k)) (hce : P.cellsOf e = 1) (hce1 : P.cellsOf e1 = m) (hct : P.cellsOf t = n * m)
    (h : DataW.trod enc P w base sp held fuel t cs = some (.agg (zss.map (Lib.tabData k)), p)) (i j : Nat) (hi : i < n) (hj : j < m) : cs[i * m + j]? = some (.int k ((zss.getD i []).getD j 0)) := by
  cases fuel with
  | zero => simp [DataW.trod] at h
  | succ fuel =>
    simp only [DataW.trod, ht, hce1, hct] at h
    split at h
    · rename_i hl
      obtain ⟨xs, hm, hx⟩ := Option.map_eq_some_iff.1 h
      have hxs : xs.map (·.1) = zss.map (Lib.tabData (H := H) k) := by
        have := congrArg Prod.fst hx
        simpa using this
      have hxl : xs.length = n := by simpa using Lib.mapM_length hm
      have hzl : zss.length = n := by
        have := congrArg List.length hxs
        simp at this
        omega
      obtain ⟨b, hb, hf⟩ := Lib.mapM_at hm i i (by simp [hi])
      have h2 : (xs.map (·.1))[i]? = some b.1 := by simp [hb]
      rw [hxs, List.getElem?_map, List.getElem?_eq_getElem (by omega)] at h2
      have hb1 : b.1 = Lib.tabData k (zss.getD i []) := by
        simp only [Option.map_some, Option.some.injEq] at h2
        rw [← h2, List.getD_eq_getElem?_getD, List.getElem?_eq_getElem (by omega)]
        rfl
      obtain ⟨b1, b2⟩ := b
      simp only at hb1
      subst hb1
      have hc := Lib.cells_of_tab he1 he hce hce1 hf
      have hg := congrArg (·[j]?) hc
      simp only [List.getElem?_take, List.getElem?_drop, hj, if_true, List.getElem?_map] at hg
      rw [hg]
      have hlen : j < (zss.getD i []).length := by
        have := congrArg List.length hc
        simp only [List.length_take, List.length_drop, List.length_map] at this
        have hb' : (i + 1) * m ≤ n * m := Nat.mul_le_mul_right _ hi
        rw [Nat.add_mul, Nat.one_mul] at hb'
        omega
      rw [List.getElem?_eq_getElem hlen, List.getD_eq_getElem?_getD (l := zss.getD i []), List.getElem?_eq_getElem hlen]
      rfl
    · cases h

theorem gFirst : Tryd.prog.globalNamed "obol/blake.beginning" = some 0 := by kernel_rfl
theorem gRows : Tryd.prog.globalNamed "obol/blake.rows" = some 2 := by kernel_rfl
theorem gPlc : Tryd.prog.globalNamed "obol/blake.places" = some 1 := by kernel_rfl
theorem tFirst : (Tryd.prog.globals[0]?).map (·.type) = some 23 := by kernel_rfl
theorem tRows : (Tryd.prog.globals[2]?).map (·.type) = some 61 := by kernel_rfl
theorem tPlc : (Tryd.prog.globals[1]?).map (·.type) = some 59 := by kernel_rfl

theorem firstI_get : ∀ j : Fin 8, (firstI.map fun z => Value.int .u32 z)[j.val]? = some (.int .u32 ((Ob.first j.val : Nat) : Int)) := by
  intro j
  have h : ∀ j : Fin 8, firstI[j.val]? = some ((Ob.first j.val : Nat) : Int) := by decide +kernel
  rw [List.getElem?_map, h j]
  rfl
theorem rowsI_get : ∀ (i : Fin 10) (j : Fin 16), (rowsI.getD i.val []).getD j.val 0 = ((Ob.sig i.val j.val : Nat) : Int) := by decide +kernel
theorem plcI_get : ∀ (i : Fin 8) (j : Fin 4), (plcI.getD i.val []).getD j.val 0 = ((Ob.plc i.val j.val : Nat) : Int) := by decide +kernel

theorem tabs_of_laid {W : World} (h : laidMetH Tryd.prog laidTab W) : Tabs W := by
  rw [MakeChecks.laidMetH_plain _ _ _ (by kernel_rfl)] at h
  rw [laidTab_eq] at h
  obtain ⟨ps, ⟨g, t, cs, fuel, p, q, hg, ht, hvar, hd, ⟨g', t', cs', fuel', p', q', hg', ht', hvar', hd', ⟨g2, t2, cs2, fuel2, p2, q2, hg2, ht2, hvar2, hd2, _, _⟩, _⟩, _⟩, _⟩ := h
  obtain rfl := Option.some.inj (gFirst.symm.trans hg)
  obtain rfl := Option.some.inj (tFirst.symm.trans ht)
  obtain rfl := Option.some.inj (gRows.symm.trans hg')
  obtain rfl := Option.some.inj (tRows.symm.trans ht')
  obtain rfl := Option.some.inj (gPlc.symm.trans hg2)
  obtain rfl := Option.some.inj (tPlc.symm.trans ht2)
  have c1 := Lib.cells_of_tab Tryd.underlying23 Tryd.underlying22 (by kernel_rfl) (by kernel_rfl) hd
  have r1 : ∀ i j, i < 10 → j < 16 → W.cell? ⟨2, i * 16 + j, none⟩ = some (.int .u8 (Ob.sig i j : Nat)) := fun i j hi hj => by
    have := cells_of_tab2 Tryd.underlying61 Tryd.underlying60 Tryd.underlying5 (by kernel_rfl) (by kernel_rfl) (by kernel_rfl) hd' i j hi hj
    rw [rowsI_get ⟨i, hi⟩ ⟨j, hj⟩] at this
    rw [World.var?_cell hg' hvar' (i * 16 + j)]
    rw [← this, Array.getElem?_toList]
  have r2 : ∀ i j, i < 8 → j < 4 → W.cell? ⟨1, i * 4 + j, none⟩ = some (.int .u8 (Ob.plc i j : Nat)) := fun i j hi hj => by
    have := cells_of_tab2 Tryd.underlying59 Tryd.underlying58 Tryd.underlying5 (by kernel_rfl) (by kernel_rfl) (by kernel_rfl) hd2 i j hi hj
    rw [plcI_get ⟨i, hi⟩ ⟨j, hj⟩] at this
    rw [World.var?_cell hg2 hvar2 (i * 4 + j)]
    rw [← this, Array.getElem?_toList]
  have r0 : ∀ j, j < 8 → W.cell? ⟨0, j, none⟩ = some (.int .u32 (Ob.first j : Nat)) := fun j hj => by
    rw [World.var?_cell hg hvar j, ← firstI_get ⟨j, hj⟩, ← c1, Array.getElem?_toList]
  have l0 := World.block_lt_of_cell? _ _ (r0 0 (by decide))
  have l1 := World.block_lt_of_cell? _ _ (r1 0 0 (by decide) (by decide))
  have l2 := World.block_lt_of_cell? _ _ (r2 0 0 (by decide) (by decide))
  exact ⟨by simp at l0 l1 l2; omega, ⟨l0, r0⟩, r1, r2⟩

theorem door_met (os : Os) (args : Array Value) : laidMetH Tryd.prog laidTab ((World.doorLaid Tryd.prog 400 os).forCall (fun _ _ => 0) ⟨#[], args, []⟩).memory :=
  laidMetH_of_parts3 (fuel := 8) (laidMet_of_run' 8 (by kernel_rfl) (by kernel_rfl)) (by kernel_rfl) (by kernel_rfl)
end Go.Proofs.YtllgnclbbakliaaDoor
