/-
  Bytes that came in, as numbers.
-/
import Derived.Test.YtoigpjaffggekabDoorWordsW
import Derived.Test.YtoigpjaffggekabDoorFrame2
namespace Go.Proofs.YtoigpjaffggekabDoor
open Go.RowKit Go.Proofs
set_option linter.unusedVariables false
set_option linter.unusedSimpArgs false

/-- A slice of n bytes at least, that came in. -/
theorem bys_of_isRow {w : World} {a : Option Addr} {len cap n : Nat} {zs : List Int} (h : IsRow .u8 w a len cap zs) (hn : 0 < n) (hl : n ≤ len) :
    ∃ (b off : Nat) (z : Nat → Nat), a = some ⟨b, off, none⟩ ∧ len ≤ cap ∧ cap ≤ maxLen ∧ (∀ i, z i < 256) ∧ Bys w b off n z ∧ ∀ i, i < n → (z i : Int) = zs.getD i 0 := by
  rcases h with ⟨rfl, rfl, rfl, rfl⟩ | ⟨x, rfl, h1, h2, h3, hcell, hwz⟩
  · omega
  · obtain ⟨b, off, spot⟩ := x
    have hc := hcell 0 (by omega)
    have hspot : spot = none := by simpa [Addr.add] using World.cell?_spot hc
    subst hspot
    have hb : ∀ i, 0 ≤ zs.getD i 0 ∧ zs.getD i 0 < 256 := fun i => by
      rcases Nat.lt_or_ge i zs.length with hi | hi
      · have hm : zs.getD i 0 ∈ zs := by simp [List.getD, List.getElem?_eq_getElem hi]
        have := bounds_u8 (hwz _ hm)
        omega
      · simp [List.getD, List.getElem?_eq_none hi]
    refine ⟨b, off, fun i => (zs.getD i 0).toNat, rfl, h1, h2, fun i => (by have := hb i; show (zs.getD i 0).toNat < 256; omega), ⟨?_, fun i hi => ?_⟩, fun i hi => (by have := hb i; show ((zs.getD i 0).toNat : Int) = _; omega)⟩
    · have := World.block_lt_of_cell? _ _ hc
      simpa [Addr.add] using this
    · have h := hcell i (by omega)
      have hadd : (⟨b, off, none⟩ : Addr).add i = ⟨b, off + i, none⟩ := by unfold Addr.add; split <;> simp_all
      rw [hadd] at h
      rw [h]
      exact congrArg (fun n => some (Value.int .u8 n)) (by have := hb i; show _ = ((zs.getD i 0).toNat : Int); omega)
end Go.Proofs.YtoigpjaffggekabDoor
