/-
  Package blake's tables.
-/
import Derived.Test.YtllgnclbbakliaaDoorArr
namespace Go.Proofs.YtllgnclbbakliaaDoor
open Go.RowKit Go.Proofs

/-- The tables lie as the program lays them. -/
structure Tabs (w : World) : Prop where
  lt : 3 ≤ w.heap.size
  first : Rd w .u32 0 8 Ob.first
  rows : ∀ i j, i < 10 → j < 16 → w.cell? ⟨2, i * 16 + j, none⟩ = some (.int .u8 (Ob.sig i j : Nat))
  places : ∀ i j, i < 8 → j < 4 → w.cell? ⟨1, i * 4 + j, none⟩ = some (.int .u8 (Ob.plc i j : Nat))
theorem Tabs.below {w w1 : World} {B : Nat} (t : Tabs w) (hb : Below B w w1) (h : 3 ≤ B) : Tabs w1 :=
  ⟨Nat.le_trans t.lt hb.size, t.first.below hb (by omega), fun i j hi hj => by rw [(bcell hb).1 _ _ (by omega)]; exact t.rows i j hi hj, fun i j hi hj => by rw [(bcell hb).1 _ _ (by omega)]; exact t.places i j hi hj⟩

end Go.Proofs.YtllgnclbbakliaaDoor
