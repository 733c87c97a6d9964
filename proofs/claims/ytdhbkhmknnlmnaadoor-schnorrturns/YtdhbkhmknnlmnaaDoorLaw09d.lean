/-
  The walk of layer 9's statement on turned keys and points.
-/
import Derived.Test.YtdhbkhmknnlmnaaDoorJ11
namespace Go.Proofs.YtdhbkhmknnlmnaaDoor
open Go.RowKit Go.Proofs
set_option linter.unusedVariables false
set_option linter.unusedSimpArgs false
attribute [local go_sem ↓] Go.wp_at_zero Go.wp_at_succ
attribute [local irreducible] Ob.gmul Ob.gadd
theorem neq_code9 (w : World) (a b : Int) : (binOp .neq 27 (.iface 31 (.int .i64 a)) (.iface 31 (.int .i64 b))).run Tryd.prog w = .ok (.bool (!(a == b))) w := by
  have h := equalIn_code (Op.maxDepth - 2) w a b
  have e : Op.maxDepth - 2 + 2 = Op.maxDepth := by decide +kernel
  rw [e] at h
  simp only [binOp]
  simp [Op.equal, h]
/-- What Turn answers, and the document's sum. -/
def TurnIs (t wa nv : Int) (kq : Bool) (er : Value) : Prop :=
  (kq = false ∧ nv = 0 ∧ er = .iface 31 (.int .i64 1)) ∨ (kq = true ∧ 72057593894066549 ≤ t ∧ nv = 0 ∧ er = .iface 31 (.int .i64 1)) ∨
  (kq = true ∧ ¬ 72057593894066549 ≤ t ∧ nv = 0 ∧ er = .iface 31 (.int .i64 7) ∧ wa = 0) ∨ (kq = true ∧ ¬ 72057593894066549 ≤ t ∧ nv = wa ∧ er = .nilIface ∧ wa ≠ 0)
set_option maxRecDepth 4000 in
set_option maxHeartbeats 8000000 in
theorem sturns_far (k x y t wa nv : Int) (kq : Bool) (er : Value) (w : World) (hI0 : TurnIs t wa nv kq er)
   (cu : ∀ w', Below w.heap.size w w' → Calls Tryd.prog 9 #[] w' fun e w'' => e = .returned (.bool true) ∧ Below w'.heap.size w' w'')
   (ct : ∀ w, Calls Tryd.prog 21 #[.int .u64 k, .int .u64 t] w fun e w' => e = .returned (.tuple #[.int .u64 nv, er]) ∧ w = w')
   (cp : ∀ w, Calls Tryd.prog 22 #[.agg #[.int .u64 x, .int .u64 y], .int .u64 t] w fun e w' => e = .returned (.tuple #[.agg #[.int .u64 0, .int .u64 0], .iface 31 (.int .i64 1)]) ∧ Below w.heap.size w w')
   (ci : ∀ w, Calls Tryd.prog 19 #[.agg #[.int .u64 x, .int .u64 y]] w fun e w' => e = .returned (.bool false) ∧ Below w.heap.size w w')
   (ck : ∀ w, Calls Tryd.prog 11 #[.int .u64 k] w fun e w' => e = .returned (.bool kq) ∧ w = w')
   (ca : ∀ w, Calls Tryd.prog 16 #[.int .u64 72057593894066549, .int .u64 k, .int .u64 t] w fun e w' => e = .returned (.int .u64 wa) ∧ w = w') :
    Calls Tryd.prog 6 #[.int .u64 k, .agg #[.int .u64 x, .int .u64 y], .int .u64 t] w fun e w' => e = .returned (.bool true) ∧ Below w.heap.size w w' := by
  have hI : Hid ((kq = false ∧ nv = 0 ∧ er = .iface 31 (.int .i64 1)) ∨ (kq = true ∧ 72057593894066549 ≤ t ∧ nv = 0 ∧ er = .iface 31 (.int .i64 1)) ∨
    (kq = true ∧ ¬ 72057593894066549 ≤ t ∧ nv = 0 ∧ er = .iface 31 (.int .i64 7) ∧ wa = 0) ∨ (kq = true ∧ ¬ 72057593894066549 ≤ t ∧ nv = wa ∧ er = .nilIface ∧ wa ≠ 0)) := hI0
  clear hI0
  have ec := fun w => eql_code w 1 1
  have ec7 := fun w => eql_code w 7 7
  have en := fun w => neq_code9 w 1 1
  have he := fun w => equal_same9 w 0 0
  go_enter Tryd.func6, Tryd.ntmps6
  go_upto_region 4 with (first | (go_at_call 9; (with_reducible refine (cu _ (by (repeat' (first | (with_reducible first | exact Below.refl _ _ | assumption | refine Below.alloc ?_ ?_ _ | refine Below.drew ?_ | refine below_drewN ?_ _ | refine Below.setCell ?_ ?_ _ | refine below_via (by with_reducible assumption) ?_ ?_) | omega | (simp only [szs]; omega) | (simp only [szs] at *; omega))))).mono ?_); rintro e w1 ⟨rfl, b1⟩; have z1 := b1.size; (try simp only [szs] at z1); have q1 := own2 b1 w.heap.size (by first | omega | (simp only [szs]; omega))) | (go_at_call 22; (with_reducible refine (cp _).mono ?_); rintro e w2 ⟨rfl, b2⟩; have z2 := b2.size; (try simp only [szs] at z2); have q2 := own2 b2 w.heap.size (by first | omega | (simp only [szs]; omega))) | (first | (go_at_call 21; first | (with_reducible refine (ct _).mono ?_; rintro e w' ⟨rfl, rfl⟩))))
  have t1 : Two (w2.alloc (.cells #[.int .u64 0, .int .u64 0] 25)) w.heap.size (.int .u64 x) (.int .u64 y) := by (repeat' (first | (with_reducible first | assumption | exact Two.own (by with_reducible assumption) | refine Two.set ?_ _ _ | refine Own2.set ?_ _ _ | refine Two.drew ?_ | refine Two.drewN ?_ _ | refine Own2.drew ?_ | refine Own2.drewN ?_ _ | (refine Two.new ?_; simp only [szs]; done) | (refine Own2.new ?_; simp only [szs]; done) | refine Two.alloc ?_ _ | refine Own2.alloc ?_ _ | refine Two.far ?_ ?_ _ _ | refine Own2.far ?_ ?_ _ _ | refine Two.via (by with_reducible assumption) ?_ ?_ | refine Own2.via (by with_reducible assumption) ?_ ?_) | omega | (simp only [szs]; omega)))
  have t2 : Two (w2.alloc (.cells #[.int .u64 0, .int .u64 0] 25)) w2.heap.size (.int .u64 0) (.int .u64 0) := by (repeat' (first | (with_reducible first | assumption | exact Two.own (by with_reducible assumption) | refine Two.set ?_ _ _ | refine Own2.set ?_ _ _ | refine Two.drew ?_ | refine Two.drewN ?_ _ | refine Own2.drew ?_ | refine Own2.drewN ?_ _ | (refine Two.new ?_; simp only [szs]; done) | (refine Own2.new ?_; simp only [szs]; done) | refine Two.alloc ?_ _ | refine Own2.alloc ?_ _ | refine Two.far ?_ ?_ _ _ | refine Own2.far ?_ ?_ _ _ | refine Two.via (by with_reducible assumption) ?_ ?_ | refine Own2.via (by with_reducible assumption) ?_ ?_) | omega | (simp only [szs]; omega)))
  have hB1 : Hid (Below w.heap.size w (w2.alloc (.cells #[.int .u64 0, .int .u64 0] 25))) := by show Below _ _ _; (repeat' (first | (with_reducible first | exact Below.refl _ _ | assumption | refine Below.alloc ?_ ?_ _ | refine Below.drew ?_ | refine below_drewN ?_ _ | refine Below.setCell ?_ ?_ _ | refine below_via (by with_reducible assumption) ?_ ?_) | omega | (simp only [szs]; omega) | (simp only [szs] at *; omega)))
  have n1 : w.heap.size ≠ w2.heap.size := by omega
  have n2 : w2.heap.size ≠ w.heap.size := by omega
  generalize (w2.alloc (.cells #[.int .u64 0, .int .u64 0] 25)) = V at *
  generalize w2.heap.size = bq at *
  clear b1 z1 q1 b2 z2 q2 cu cp ct
  have hB2 := hB1.out
  clear hB1
  have zB := hB2.size
  have ⟨d1, d2, d3, d4, d5⟩ := t1
  have ⟨e1, e2, e3, e4, e5⟩ := t2
  go_upto_region 9 with (first | (go_at_call 19; first | (with_reducible refine (ci _).mono ?_; rintro e w_ci ⟨rfl, b_ci⟩; have z_ci := b_ci.size; (try simp only [szs] at z_ci); (try (have q_ci_0 := own2 b_ci (w.heap.size) (by first | omega | (simp only [szs]; omega)))); (try (have q_ci_1 := own2 b_ci (bq) (by first | omega | (simp only [szs]; omega)))))))
  rcases hI.out with ⟨rfl, rfl, rfl⟩ | ⟨rfl, k2, rfl, rfl⟩ | ⟨rfl, k2, rfl, rfl, rfl⟩ | ⟨rfl, k2, rfl, rfl, k3⟩
  · go_wp2_with (first | (go_at_call 11; first | (with_reducible refine (ck _).mono ?_; rintro e w' ⟨rfl, rfl⟩)) | (go_at_call 16; first | (with_reducible refine (ca _).mono ?_; rintro e w' ⟨rfl, rfl⟩)))
    go_ret
    exact ⟨rfl, by (repeat' (first | (with_reducible first | exact Below.refl _ _ | assumption | refine Below.alloc ?_ ?_ _ | refine Below.drew ?_ | refine below_drewN ?_ _ | refine Below.setCell ?_ ?_ _ | refine below_via (by with_reducible assumption) ?_ ?_) | omega | (simp only [szs]; omega) | (simp only [szs] at *; omega)))⟩
  · go_wp2_with (first | (go_at_call 11; first | (with_reducible refine (ck _).mono ?_; rintro e w' ⟨rfl, rfl⟩)) | (go_at_call 16; first | (with_reducible refine (ca _).mono ?_; rintro e w' ⟨rfl, rfl⟩)))
    go_ret
    exact ⟨rfl, by (repeat' (first | (with_reducible first | exact Below.refl _ _ | assumption | refine Below.alloc ?_ ?_ _ | refine Below.drew ?_ | refine below_drewN ?_ _ | refine Below.setCell ?_ ?_ _ | refine below_via (by with_reducible assumption) ?_ ?_) | omega | (simp only [szs]; omega) | (simp only [szs] at *; omega)))⟩
  · go_wp2_with (first | (go_at_call 11; first | (with_reducible refine (ck _).mono ?_; rintro e w' ⟨rfl, rfl⟩)) | (go_at_call 16; first | (with_reducible refine (ca _).mono ?_; rintro e w' ⟨rfl, rfl⟩)))
    go_ret
    exact ⟨rfl, by (repeat' (first | (with_reducible first | exact Below.refl _ _ | assumption | refine Below.alloc ?_ ?_ _ | refine Below.drew ?_ | refine below_drewN ?_ _ | refine Below.setCell ?_ ?_ _ | refine below_via (by with_reducible assumption) ?_ ?_) | omega | (simp only [szs]; omega) | (simp only [szs] at *; omega)))⟩
  · have k4 : (nv == 0) = false := by simpa using k3
    go_wp2_with (first | (go_at_call 11; first | (with_reducible refine (ck _).mono ?_; rintro e w' ⟨rfl, rfl⟩)) | (go_at_call 16; first | (with_reducible refine (ca _).mono ?_; rintro e w' ⟨rfl, rfl⟩)))
    go_ret
    exact ⟨rfl, by (repeat' (first | (with_reducible first | exact Below.refl _ _ | assumption | refine Below.alloc ?_ ?_ _ | refine Below.drew ?_ | refine below_drewN ?_ _ | refine Below.setCell ?_ ?_ _ | refine below_via (by with_reducible assumption) ?_ ?_) | omega | (simp only [szs]; omega) | (simp only [szs] at *; omega)))⟩
set_option maxRecDepth 4000 in
set_option maxHeartbeats 8000000 in
theorem sturns_big (k x y t wa nv : Int) (kq : Bool) (er : Value) (w : World) (hI0 : TurnIs t wa nv kq er) (hb : 72057593894066549 ≤ t)
   (cu : ∀ w', Below w.heap.size w w' → Calls Tryd.prog 9 #[] w' fun e w'' => e = .returned (.bool true) ∧ Below w'.heap.size w' w'')
   (ct : ∀ w, Calls Tryd.prog 21 #[.int .u64 k, .int .u64 t] w fun e w' => e = .returned (.tuple #[.int .u64 nv, er]) ∧ w = w')
   (cp : ∀ w, Calls Tryd.prog 22 #[.agg #[.int .u64 x, .int .u64 y], .int .u64 t] w fun e w' => e = .returned (.tuple #[.agg #[.int .u64 0, .int .u64 0], .iface 31 (.int .i64 1)]) ∧ Below w.heap.size w w')
   (ci : ∀ w, Calls Tryd.prog 19 #[.agg #[.int .u64 x, .int .u64 y]] w fun e w' => e = .returned (.bool true) ∧ Below w.heap.size w w')
   (ck : ∀ w, Calls Tryd.prog 11 #[.int .u64 k] w fun e w' => e = .returned (.bool kq) ∧ w = w')
   (ca : ∀ w, Calls Tryd.prog 16 #[.int .u64 72057593894066549, .int .u64 k, .int .u64 t] w fun e w' => e = .returned (.int .u64 wa) ∧ w = w') :
    Calls Tryd.prog 6 #[.int .u64 k, .agg #[.int .u64 x, .int .u64 y], .int .u64 t] w fun e w' => e = .returned (.bool true) ∧ Below w.heap.size w w' := by
  have hI : Hid ((kq = false ∧ nv = 0 ∧ er = .iface 31 (.int .i64 1)) ∨ (kq = true ∧ 72057593894066549 ≤ t ∧ nv = 0 ∧ er = .iface 31 (.int .i64 1)) ∨
    (kq = true ∧ ¬ 72057593894066549 ≤ t ∧ nv = 0 ∧ er = .iface 31 (.int .i64 7) ∧ wa = 0) ∨ (kq = true ∧ ¬ 72057593894066549 ≤ t ∧ nv = wa ∧ er = .nilIface ∧ wa ≠ 0)) := hI0
  clear hI0
  have ec := fun w => eql_code w 1 1
  have ec7 := fun w => eql_code w 7 7
  have en := fun w => neq_code9 w 1 1
  have he := fun w => equal_same9 w 0 0
  go_enter Tryd.func6, Tryd.ntmps6
  go_upto_region 4 with (first | (go_at_call 9; (with_reducible refine (cu _ (by (repeat' (first | (with_reducible first | exact Below.refl _ _ | assumption | refine Below.alloc ?_ ?_ _ | refine Below.drew ?_ | refine below_drewN ?_ _ | refine Below.setCell ?_ ?_ _ | refine below_via (by with_reducible assumption) ?_ ?_) | omega | (simp only [szs]; omega) | (simp only [szs] at *; omega))))).mono ?_); rintro e w1 ⟨rfl, b1⟩; have z1 := b1.size; (try simp only [szs] at z1); have q1 := own2 b1 w.heap.size (by first | omega | (simp only [szs]; omega))) | (go_at_call 22; (with_reducible refine (cp _).mono ?_); rintro e w2 ⟨rfl, b2⟩; have z2 := b2.size; (try simp only [szs] at z2); have q2 := own2 b2 w.heap.size (by first | omega | (simp only [szs]; omega))) | (first | (go_at_call 21; first | (with_reducible refine (ct _).mono ?_; rintro e w' ⟨rfl, rfl⟩))))
  have t1 : Two (w2.alloc (.cells #[.int .u64 0, .int .u64 0] 25)) w.heap.size (.int .u64 x) (.int .u64 y) := by (repeat' (first | (with_reducible first | assumption | exact Two.own (by with_reducible assumption) | refine Two.set ?_ _ _ | refine Own2.set ?_ _ _ | refine Two.drew ?_ | refine Two.drewN ?_ _ | refine Own2.drew ?_ | refine Own2.drewN ?_ _ | (refine Two.new ?_; simp only [szs]; done) | (refine Own2.new ?_; simp only [szs]; done) | refine Two.alloc ?_ _ | refine Own2.alloc ?_ _ | refine Two.far ?_ ?_ _ _ | refine Own2.far ?_ ?_ _ _ | refine Two.via (by with_reducible assumption) ?_ ?_ | refine Own2.via (by with_reducible assumption) ?_ ?_) | omega | (simp only [szs]; omega)))
  have t2 : Two (w2.alloc (.cells #[.int .u64 0, .int .u64 0] 25)) w2.heap.size (.int .u64 0) (.int .u64 0) := by (repeat' (first | (with_reducible first | assumption | exact Two.own (by with_reducible assumption) | refine Two.set ?_ _ _ | refine Own2.set ?_ _ _ | refine Two.drew ?_ | refine Two.drewN ?_ _ | refine Own2.drew ?_ | refine Own2.drewN ?_ _ | (refine Two.new ?_; simp only [szs]; done) | (refine Own2.new ?_; simp only [szs]; done) | refine Two.alloc ?_ _ | refine Own2.alloc ?_ _ | refine Two.far ?_ ?_ _ _ | refine Own2.far ?_ ?_ _ _ | refine Two.via (by with_reducible assumption) ?_ ?_ | refine Own2.via (by with_reducible assumption) ?_ ?_) | omega | (simp only [szs]; omega)))
  have hB1 : Hid (Below w.heap.size w (w2.alloc (.cells #[.int .u64 0, .int .u64 0] 25))) := by show Below _ _ _; (repeat' (first | (with_reducible first | exact Below.refl _ _ | assumption | refine Below.alloc ?_ ?_ _ | refine Below.drew ?_ | refine below_drewN ?_ _ | refine Below.setCell ?_ ?_ _ | refine below_via (by with_reducible assumption) ?_ ?_) | omega | (simp only [szs]; omega) | (simp only [szs] at *; omega)))
  have n1 : w.heap.size ≠ w2.heap.size := by omega
  have n2 : w2.heap.size ≠ w.heap.size := by omega
  generalize (w2.alloc (.cells #[.int .u64 0, .int .u64 0] 25)) = V at *
  generalize w2.heap.size = bq at *
  clear b1 z1 q1 b2 z2 q2 cu cp ct
  have hB2 := hB1.out
  clear hB1
  have zB := hB2.size
  have ⟨d1, d2, d3, d4, d5⟩ := t1
  have ⟨e1, e2, e3, e4, e5⟩ := t2
  go_upto_region 9 with (first | (go_at_call 19; first | (with_reducible refine (ci _).mono ?_; rintro e w_ci ⟨rfl, b_ci⟩; have z_ci := b_ci.size; (try simp only [szs] at z_ci); (try (have q_ci_0 := own2 b_ci (w.heap.size) (by first | omega | (simp only [szs]; omega)))); (try (have q_ci_1 := own2 b_ci (bq) (by first | omega | (simp only [szs]; omega)))))))
  rcases hI.out with ⟨rfl, rfl, rfl⟩ | ⟨rfl, k2, rfl, rfl⟩ | ⟨rfl, k2, rfl, rfl, rfl⟩ | ⟨rfl, k2, rfl, rfl, k3⟩
  · go_wp2_with (first | (go_at_call 11; first | (with_reducible refine (ck _).mono ?_; rintro e w' ⟨rfl, rfl⟩)) | (go_at_call 16; first | (with_reducible refine (ca _).mono ?_; rintro e w' ⟨rfl, rfl⟩)))
    go_ret
    exact ⟨rfl, by (repeat' (first | (with_reducible first | exact Below.refl _ _ | assumption | refine Below.alloc ?_ ?_ _ | refine Below.drew ?_ | refine below_drewN ?_ _ | refine Below.setCell ?_ ?_ _ | refine below_via (by with_reducible assumption) ?_ ?_) | omega | (simp only [szs]; omega) | (simp only [szs] at *; omega)))⟩
  · go_wp2_with (first | (go_at_call 11; first | (with_reducible refine (ck _).mono ?_; rintro e w' ⟨rfl, rfl⟩)) | (go_at_call 16; first | (with_reducible refine (ca _).mono ?_; rintro e w' ⟨rfl, rfl⟩)))
    go_ret
    exact ⟨rfl, by (repeat' (first | (with_reducible first | exact Below.refl _ _ | assumption | refine Below.alloc ?_ ?_ _ | refine Below.drew ?_ | refine below_drewN ?_ _ | refine Below.setCell ?_ ?_ _ | refine below_via (by with_reducible assumption) ?_ ?_) | omega | (simp only [szs]; omega) | (simp only [szs] at *; omega)))⟩
  · omega
  · omega
set_option maxRecDepth 4000 in
set_option maxHeartbeats 8000000 in
theorem sturns_good (k x y t wa nv px py fx fy : Int) (kq : Bool) (er : Value) (w : World) (hI0 : TurnIs t wa nv kq er) (hb : ¬ 72057593894066549 ≤ t)
   (tz : ∀ w, Calls Tryd.prog 12 #[.agg #[.int .u64 223588670687113535, .int .u64 82055451961885530], .int .u64 t] w fun e w' => e = .returned (.agg #[.int .u64 fx, .int .u64 fy]) ∧ Below w.heap.size w w')
   (su : ∀ w, Calls Tryd.prog 20 #[.agg #[.int .u64 x, .int .u64 y], .agg #[.int .u64 fx, .int .u64 fy]] w fun e w' => e = .returned (.agg #[.int .u64 px, .int .u64 py]) ∧ Below w.heap.size w w')
   (cu : ∀ w', Below w.heap.size w w' → Calls Tryd.prog 9 #[] w' fun e w'' => e = .returned (.bool true) ∧ Below w'.heap.size w' w'')
   (ct : ∀ w, Calls Tryd.prog 21 #[.int .u64 k, .int .u64 t] w fun e w' => e = .returned (.tuple #[.int .u64 nv, er]) ∧ w = w')
   (cp : ∀ w, Calls Tryd.prog 22 #[.agg #[.int .u64 x, .int .u64 y], .int .u64 t] w fun e w' => e = .returned (.tuple #[.agg #[.int .u64 px, .int .u64 py], .nilIface]) ∧ Below w.heap.size w w')
   (ci : ∀ w, Calls Tryd.prog 19 #[.agg #[.int .u64 x, .int .u64 y]] w fun e w' => e = .returned (.bool true) ∧ Below w.heap.size w w')
   (ck : ∀ w, Calls Tryd.prog 11 #[.int .u64 k] w fun e w' => e = .returned (.bool kq) ∧ w = w')
   (ca : ∀ w, Calls Tryd.prog 16 #[.int .u64 72057593894066549, .int .u64 k, .int .u64 t] w fun e w' => e = .returned (.int .u64 wa) ∧ w = w') :
    Calls Tryd.prog 6 #[.int .u64 k, .agg #[.int .u64 x, .int .u64 y], .int .u64 t] w fun e w' => e = .returned (.bool true) ∧ Below w.heap.size w w' := by
  have hI : Hid ((kq = false ∧ nv = 0 ∧ er = .iface 31 (.int .i64 1)) ∨ (kq = true ∧ 72057593894066549 ≤ t ∧ nv = 0 ∧ er = .iface 31 (.int .i64 1)) ∨
    (kq = true ∧ ¬ 72057593894066549 ≤ t ∧ nv = 0 ∧ er = .iface 31 (.int .i64 7) ∧ wa = 0) ∨ (kq = true ∧ ¬ 72057593894066549 ≤ t ∧ nv = wa ∧ er = .nilIface ∧ wa ≠ 0)) := hI0
  clear hI0
  have ec := fun w => eql_code w 1 1
  have ec7 := fun w => eql_code w 7 7
  have en := fun w => neq_code9 w 1 1
  have he := fun w => equal_same9 w px py
  have cg := ggenW
  go_enter Tryd.func6, Tryd.ntmps6
  go_upto_region 4 with (first | (go_at_call 9; (with_reducible refine (cu _ (by (repeat' (first | (with_reducible first | exact Below.refl _ _ | assumption | refine Below.alloc ?_ ?_ _ | refine Below.drew ?_ | refine below_drewN ?_ _ | refine Below.setCell ?_ ?_ _ | refine below_via (by with_reducible assumption) ?_ ?_) | omega | (simp only [szs]; omega) | (simp only [szs] at *; omega))))).mono ?_); rintro e w1 ⟨rfl, b1⟩; have z1 := b1.size; (try simp only [szs] at z1); have q1 := own2 b1 w.heap.size (by first | omega | (simp only [szs]; omega))) | (go_at_call 22; (with_reducible refine (cp _).mono ?_); rintro e w2 ⟨rfl, b2⟩; have z2 := b2.size; (try simp only [szs] at z2); have q2 := own2 b2 w.heap.size (by first | omega | (simp only [szs]; omega))) | (first | (go_at_call 21; first | (with_reducible refine (ct _).mono ?_; rintro e w' ⟨rfl, rfl⟩))))
  have t1 : Two (w2.alloc (.cells #[.int .u64 px, .int .u64 py] 25)) w.heap.size (.int .u64 x) (.int .u64 y) := by (repeat' (first | (with_reducible first | assumption | exact Two.own (by with_reducible assumption) | refine Two.set ?_ _ _ | refine Own2.set ?_ _ _ | refine Two.drew ?_ | refine Two.drewN ?_ _ | refine Own2.drew ?_ | refine Own2.drewN ?_ _ | (refine Two.new ?_; simp only [szs]; done) | (refine Own2.new ?_; simp only [szs]; done) | refine Two.alloc ?_ _ | refine Own2.alloc ?_ _ | refine Two.far ?_ ?_ _ _ | refine Own2.far ?_ ?_ _ _ | refine Two.via (by with_reducible assumption) ?_ ?_ | refine Own2.via (by with_reducible assumption) ?_ ?_) | omega | (simp only [szs]; omega)))
  have t2 : Two (w2.alloc (.cells #[.int .u64 px, .int .u64 py] 25)) w2.heap.size (.int .u64 px) (.int .u64 py) := by (repeat' (first | (with_reducible first | assumption | exact Two.own (by with_reducible assumption) | refine Two.set ?_ _ _ | refine Own2.set ?_ _ _ | refine Two.drew ?_ | refine Two.drewN ?_ _ | refine Own2.drew ?_ | refine Own2.drewN ?_ _ | (refine Two.new ?_; simp only [szs]; done) | (refine Own2.new ?_; simp only [szs]; done) | refine Two.alloc ?_ _ | refine Own2.alloc ?_ _ | refine Two.far ?_ ?_ _ _ | refine Own2.far ?_ ?_ _ _ | refine Two.via (by with_reducible assumption) ?_ ?_ | refine Own2.via (by with_reducible assumption) ?_ ?_) | omega | (simp only [szs]; omega)))
  have hB1 : Hid (Below w.heap.size w (w2.alloc (.cells #[.int .u64 px, .int .u64 py] 25))) := by show Below _ _ _; (repeat' (first | (with_reducible first | exact Below.refl _ _ | assumption | refine Below.alloc ?_ ?_ _ | refine Below.drew ?_ | refine below_drewN ?_ _ | refine Below.setCell ?_ ?_ _ | refine below_via (by with_reducible assumption) ?_ ?_) | omega | (simp only [szs]; omega) | (simp only [szs] at *; omega)))
  have n1 : w.heap.size ≠ w2.heap.size := by omega
  have n2 : w2.heap.size ≠ w.heap.size := by omega
  generalize (w2.alloc (.cells #[.int .u64 px, .int .u64 py] 25)) = V at *
  generalize w2.heap.size = bq at *
  clear b1 z1 q1 b2 z2 q2 cu cp ct
  have hB2 := hB1.out
  clear hB1
  have zB := hB2.size
  have ⟨d1, d2, d3, d4, d5⟩ := t1
  have ⟨e1, e2, e3, e4, e5⟩ := t2
  go_upto_region 7 with (first | (go_at_call 19; first | (with_reducible refine (ci _).mono ?_; rintro e w_ci ⟨rfl, b_ci⟩; have z_ci := b_ci.size; (try simp only [szs] at z_ci); (try (have q_ci_0 := own2 b_ci (w.heap.size) (by first | omega | (simp only [szs]; omega)))); (try (have q_ci_1 := own2 b_ci (bq) (by first | omega | (simp only [szs]; omega)))))))
  have t3 : Two w_ci w.heap.size (.int .u64 x) (.int .u64 y) := t1.below b_ci t1.lt
  have t4 : Two w_ci bq (.int .u64 px) (.int .u64 py) := t2.below b_ci t2.lt
  have hB3 : Below w.heap.size w w_ci := below_via b_ci hB2 zB
  ((try clear q_ci_0); (try clear q_ci_1))
  clear t1 t2 d1 d2 d3 d4 d5 e1 e2 e3 e4 e5 hB2 b_ci zB
  have ⟨d1, d2, d3, d4, d5⟩ := t3
  have ⟨e1, e2, e3, e4, e5⟩ := t4
  have zB := hB3.size
  go_region_held3 (fun w' => w'.cell? ⟨w.heap.size, 0, none⟩ = some (.int .u64 x) ∧ w'.cell? ⟨w.heap.size, 1, none⟩ = some (.int .u64 y) ∧ w'.cell? ⟨bq, 0, none⟩ = some (.int .u64 px) ∧ w'.cell? ⟨bq, 1, none⟩ = some (.int .u64 py)) (go_keep)
    ((first | (go_at_call 13; first | (with_reducible refine (cg _).mono ?_; rintro e w_cg ⟨rfl, b_cg⟩; have z_cg := b_cg.size; (try simp only [szs] at z_cg); (try (have q_cg_0 := own2 b_cg (w.heap.size) (by first | omega | (simp only [szs]; omega)))); (try (have q_cg_1 := own2 b_cg (bq) (by first | omega | (simp only [szs]; omega)))))) | (go_at_call 12; first | (with_reducible refine (tz _).mono ?_; rintro e w_tz ⟨rfl, b_tz⟩; have z_tz := b_tz.size; (try simp only [szs] at z_tz); (try (have q_tz_0 := own2 b_tz (w.heap.size) (by first | omega | (simp only [szs]; omega)))); (try (have q_tz_1 := own2 b_tz (bq) (by first | omega | (simp only [szs]; omega)))))) | (go_at_call 20; first | (with_reducible refine (su _).mono ?_; rintro e w_su ⟨rfl, b_su⟩; have z_su := b_su.size; (try simp only [szs] at z_su); (try (have q_su_0 := own2 b_su (w.heap.size) (by first | omega | (simp only [szs]; omega)))); (try (have q_su_1 := own2 b_su (bq) (by first | omega | (simp only [szs]; omega))))))))

  rcases hI.out with ⟨rfl, rfl, rfl⟩ | ⟨rfl, k2, rfl, rfl⟩ | ⟨rfl, k2, rfl, rfl, rfl⟩ | ⟨rfl, k2, rfl, rfl, k3⟩
  · go_wp2_with (first | (go_at_call 11; first | (with_reducible refine (ck _).mono ?_; rintro e w' ⟨rfl, rfl⟩)) | (go_at_call 16; first | (with_reducible refine (ca _).mono ?_; rintro e w' ⟨rfl, rfl⟩)))
    go_ret
    exact ⟨rfl, by (repeat' (first | (with_reducible first | exact Below.refl _ _ | assumption | refine Below.alloc ?_ ?_ _ | refine Below.drew ?_ | refine below_drewN ?_ _ | refine Below.setCell ?_ ?_ _ | refine below_via (by with_reducible assumption) ?_ ?_) | omega | (simp only [szs]; omega) | (simp only [szs] at *; omega)))⟩
  · omega
  · go_wp2_with (first | (go_at_call 11; first | (with_reducible refine (ck _).mono ?_; rintro e w' ⟨rfl, rfl⟩)) | (go_at_call 16; first | (with_reducible refine (ca _).mono ?_; rintro e w' ⟨rfl, rfl⟩)))
    go_ret
    exact ⟨rfl, by (repeat' (first | (with_reducible first | exact Below.refl _ _ | assumption | refine Below.alloc ?_ ?_ _ | refine Below.drew ?_ | refine below_drewN ?_ _ | refine Below.setCell ?_ ?_ _ | refine below_via (by with_reducible assumption) ?_ ?_) | omega | (simp only [szs]; omega) | (simp only [szs] at *; omega)))⟩
  · have k4 : (nv == 0) = false := by simpa using k3
    go_wp2_with (first | (go_at_call 11; first | (with_reducible refine (ck _).mono ?_; rintro e w' ⟨rfl, rfl⟩)) | (go_at_call 16; first | (with_reducible refine (ca _).mono ?_; rintro e w' ⟨rfl, rfl⟩)))
    go_ret
    exact ⟨rfl, by (repeat' (first | (with_reducible first | exact Below.refl _ _ | assumption | refine Below.alloc ?_ ?_ _ | refine Below.drew ?_ | refine below_drewN ?_ _ | refine Below.setCell ?_ ?_ _ | refine below_via (by with_reducible assumption) ?_ ?_) | omega | (simp only [szs]; omega) | (simp only [szs] at *; omega)))⟩
theorem schnorrTurns_walk (a0 x1 y1 a2 : Int) (w : World) (w0 : (Lit.int .u64 a0).wf = true) (wx1 : (Lit.int .u64 x1).wf = true) (wy1 : (Lit.int .u64 y1).wf = true) (w2 : (Lit.int .u64 a2).wf = true) (hT : Tabs w) :
    Calls Tryd.prog 6 #[.int .u64 a0, .agg #[.int .u64 x1, .int .u64 y1], .int .u64 a2] w fun e w' => e = .returned (.bool true) ∧ Below w.heap.size w w' := by
  obtain ⟨k, rfl, hk⟩ := word_of w0
  obtain ⟨x, rfl, hx⟩ := word_of wx1
  obtain ⟨y, rfl, hy⟩ := word_of wy1
  obtain ⟨t, rfl, ht⟩ := word_of w2
  have cu := fun (W : World) (h : Below w.heap.size w W) => up9W W (hT.below h hT.lt)
  have ct := sturnW k t ht
  have cp := stpointW x y t hx hy ht
  have ci := ginW x y hx hy
  have ca := raddS9 k t hk ht
  have hTI : ∃ nv er, turnV k t = .tuple #[.int .u64 nv, er] ∧ TurnIs (t : Int) (((k + t) % 72057593894066549 : Nat) : Int) nv (isKey k) er := by
    unfold turnV TurnIs
    by_cases h : isKey k = false ∨ 72057593894066549 ≤ t
    · rw [if_pos h]
      refine ⟨_, _, rfl, ?_⟩
      cases hq : isKey k with
      | false => exact Or.inl ⟨rfl, rfl, rfl⟩
      | true =>
        rw [hq] at h
        exact Or.inr (Or.inl ⟨rfl, by rcases h with h | h; cases h; omega, rfl, rfl⟩)
    · rw [if_neg h]
      have hq : isKey k = true := by cases hq : isKey k with | true => rfl | false => exact absurd (Or.inl hq) h
      have ht2 : ¬ 72057593894066549 ≤ t := fun e => h (Or.inr e)
      by_cases h0 : (k + t) % 72057593894066549 = 0
      · rw [if_pos h0]
        exact ⟨_, _, rfl, Or.inr (Or.inr (Or.inl ⟨hq, by omega, rfl, rfl, by omega⟩))⟩
      · rw [if_neg h0]
        exact ⟨_, _, rfl, Or.inr (Or.inr (Or.inr ⟨hq, by omega, rfl, rfl, by omega⟩))⟩
  obtain ⟨nv, er, e1, hI⟩ := hTI
  rw [e1] at ct
  unfold tpointV at cp
  cases h1 : inS x y with
  | false =>
    rw [if_pos (Or.inl h1)] at cp
    rw [h1] at ci
    exact sturns_far k x y t _ nv _ er w hI cu ct cp ci (keyW k) ca
  | true =>
    rw [h1] at ci
    by_cases h2 : 72057593894066549 ≤ t
    · rw [if_pos (Or.inr h2)] at cp
      exact sturns_big k x y t _ nv _ er w hI (by omega) cu ct cp ci (keyW k) ca
    · rw [if_neg (by rw [h1]; exact fun h => by rcases h with h | h; cases h; exact h2 h)] at cp
      have su := gsumW (Ob.ofG x y) (Ob.gmul Ob.gGen t)
      rw [edV_inS h1] at su
      exact sturns_good k x y t _ nv _ _ _ _ _ er w hI (by omega) (gtimesG t ht) su cu ct cp ci (keyW k) ca
end Go.Proofs.YtdhbkhmknnlmnaaDoor
