/-
  The head of stage 5's statements.
-/
import Derived.Test.YtllgnclbbakliaaDoorBlakeT
import Derived.Lib.SlBytesConst
namespace Go.Proofs.YtllgnclbbakliaaDoor
open Go.RowKit Go.Proofs
set_option linter.unusedVariables false
set_option linter.unusedSimpArgs false
attribute [local go_sem ↓] Go.wp_at_zero Go.wp_at_succ

def abcZ (i : Nat) : Nat := if i = 0 then 97 else if i = 1 then 98 else if i = 2 then 99 else 0
theorem abcZ_lt (i : Nat) : abcZ i < 256 := by unfold abcZ; split <;> (try decide); split <;> (try decide); split <;> decide
set_option maxRecDepth 100000 in
theorem abc_0 : lowBy (digS ⟨#[]⟩ abcZ 3) 0 = 80 := by decide +kernel
set_option maxRecDepth 100000 in
theorem abc_1 : lowBy (digS ⟨#[]⟩ abcZ 3) 1 = 140 := by decide +kernel
set_option maxRecDepth 100000 in
theorem abc_31 : lowBy (digS ⟨#[]⟩ abcZ 3) 31 = 130 := by decide +kernel
theorem abc_src (w : World) (t : TypeId) : Src (w.alloc (.cells #[.int .u8 97, .int .u8 98, .int .u8 99] t (3, 4))) (some ⟨w.heap.size, 0, none⟩) 3 abcZ := by
  refine Or.inr ⟨_, _, rfl, by simp, fun i hi => ?_⟩
  have hc : (w.alloc (.cells #[.int .u8 97, .int .u8 98, .int .u8 99] t (3, 4))).cell? ⟨w.heap.size, i, none⟩ = #[Value.int .u8 97, .int .u8 98, .int .u8 99][i]? := by
    simp only [World.cell?, World.alloc, Array.getElem?_push_size]
    rfl
  rw [Nat.zero_add, hc]
  have h : i = 0 ∨ i = 1 ∨ i = 2 := by omega
  rcases h with rfl | rfl | rfl <;> rfl

set_option maxHeartbeats 1000000 in
theorem upW (w : World) (hT : Tabs w) : Calls Tryd.prog 8 #[] w fun e w' => e = .returned (.bool true) ∧ Below w.heap.size w w' := by
  have kc := Lib.run_convert_bytes_const (P := Tryd.prog) w 27 5 #[.int .u8 97, .int .u8 98, .int .u8 99] 3 3 Tryd.underlying27 Tryd.underlying5
  have hb : Below w.heap.size w (w.alloc (.cells #[.int .u8 97, .int .u8 98, .int .u8 99] 5 (3, 4))) := by (repeat' (first | (with_reducible first | exact Below.refl _ _ | assumption | refine Below.alloc ?_ ?_ _ | refine Below.drew ?_ | refine below_drewN ?_ _ | refine Below.setCell ?_ ?_ _ | refine below_via (by with_reducible assumption) ?_ ?_) | omega | (simp only [szs]; omega) | (simp only [szs] at *; omega)))
  have c1 := sumW ⟨#[]⟩ (by decide) _ 3 3 (by decide) (by decide) abcZ abcZ_lt _ (hT.below hb hT.lt) (abc_src w 5)
  have p0 := abc_0
  have p1 := abc_1
  have p2 := abc_31
  obtain ⟨D, hD⟩ : ∃ D, Hid (lowBy (digS ⟨#[]⟩ abcZ 3) = D) := ⟨_, rfl⟩
  rw [hD.out] at c1 p0 p1 p2
  clear hT hD
  go_enter Tryd.func8, Tryd.ntmps8
  go_upto_region 2 with (go_at_call 11; with_reducible refine c1.mono ?_; rintro e W1 ⟨g, rfl, lg, o1, b1⟩)
  have q := bys_of_row o1
  have q0 := q.at_ 0 (by decide)
  have q1 := q.at_ 1 (by decide)
  have q2 := q.at_ 31 (by decide)
  rw [p0] at q0
  rw [p1] at q1
  rw [p2] at q2
  simp only [Nat.zero_add] at q0 q1 q2
  have hB : Hid (Below w.heap.size w W1) := below_via b1 hb hb.size
  clear q o1 c1 hb b1
  go_wp2
  go_ret
  exact ⟨rfl, hB.out⟩
end Go.Proofs.YtllgnclbbakliaaDoor
