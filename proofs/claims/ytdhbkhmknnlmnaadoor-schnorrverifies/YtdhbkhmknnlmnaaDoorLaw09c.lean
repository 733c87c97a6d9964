/-
  The walk of layer 9's statement on whether signatures hold.
-/
import Derived.Test.YtdhbkhmknnlmnaaDoorJ11
namespace Go.Proofs.YtdhbkhmknnlmnaaDoor
open Go.RowKit Go.Proofs
set_option linter.unusedVariables false
set_option linter.unusedSimpArgs false
attribute [local go_sem ↓] Go.wp_at_zero Go.wp_at_succ
attribute [local irreducible] Ob.gmul Ob.gadd
theorem sverif_out (ad : Option Addr) (m c : Nat) (h : 2000 < m) (x y ax ay z : Int) (w : World)
   (cu : ∀ w', Below w.heap.size w w' → Calls Tryd.prog 9 #[] w' fun e w'' => e = .returned (.bool true) ∧ Below w'.heap.size w' w'') :
    Calls Tryd.prog 5 #[.agg #[.int .u64 x, .int .u64 y], .slice ad m c, .agg #[.int .u64 ax, .int .u64 ay, .int .u64 z]] w fun e w' => e = .returned (.bool true) ∧ Below w.heap.size w w' := by
  have h1 : (2000 : Int) < (m : Int) := by omega
  clear h
  go_enter Tryd.func5, Tryd.ntmps5
  go_wp2_with (go_at_call 9; (with_reducible refine (cu _ (by (repeat' (first | (with_reducible first | exact Below.refl _ _ | assumption | refine Below.alloc ?_ ?_ _ | refine Below.drew ?_ | refine below_drewN ?_ _ | refine Below.setCell ?_ ?_ _ | refine below_via (by with_reducible assumption) ?_ ?_) | omega | (simp only [szs]; omega) | (simp only [szs] at *; omega))))).mono ?_); rintro e w1 ⟨rfl, b1⟩; have z1 := b1.size; (try simp only [szs] at z1))
  go_ret
  exact ⟨rfl, by (repeat' (first | (with_reducible first | exact Below.refl _ _ | assumption | refine Below.alloc ?_ ?_ _ | refine Below.drew ?_ | refine below_drewN ?_ _ | refine Below.setCell ?_ ?_ _ | refine below_via (by with_reducible assumption) ?_ ?_) | omega | (simp only [szs]; omega) | (simp only [szs] at *; omega)))⟩
set_option maxRecDepth 4000 in
set_option maxHeartbeats 4000000 in
theorem sverif_zero (ad : Option Addr) (m c : Nat) (hm : m ≤ 2000) (x y ax ay z : Int) (w : World)
   (cu : ∀ w', Below w.heap.size w w' → Calls Tryd.prog 9 #[] w' fun e w'' => e = .returned (.bool true) ∧ Below w'.heap.size w' w'')
   (cv : ∀ W, Below w.heap.size w W → Calls Tryd.prog 18 #[.agg #[.int .u64 x, .int .u64 y], .slice ad m c, .agg #[.int .u64 ax, .int .u64 ay, .int .u64 z]] W fun e w' => e = .returned (.iface 31 (.int .i64 10)) ∧ Below W.heap.size W w')
   (he0 : ∀ w, (Op.equalIn 10000 25 (.agg #[.int .u64 x, .int .u64 y]) (.agg #[.int .u64 0, .int .u64 1])).run Tryd.prog w = .ok true w) :
    Calls Tryd.prog 5 #[.agg #[.int .u64 x, .int .u64 y], .slice ad m c, .agg #[.int .u64 ax, .int .u64 ay, .int .u64 z]] w fun e w' => e = .returned (.bool true) ∧ Below w.heap.size w w' := by
  have h1 : ¬ (2000 : Int) < (m : Int) := by omega
  have ec := fun w => eql_code w 10 10
  go_enter Tryd.func5, Tryd.ntmps5
  go_wp2_with (first | (go_at_call 9; (with_reducible refine (cu _ (by (repeat' (first | (with_reducible first | exact Below.refl _ _ | assumption | refine Below.alloc ?_ ?_ _ | refine Below.drew ?_ | refine below_drewN ?_ _ | refine Below.setCell ?_ ?_ _ | refine below_via (by with_reducible assumption) ?_ ?_) | omega | (simp only [szs]; omega) | (simp only [szs] at *; omega))))).mono ?_); rintro e w1 ⟨rfl, b1⟩; have z1 := b1.size; (try simp only [szs] at z1); have q1 := own2 b1 w.heap.size (by first | omega | (simp only [szs]; omega)); have q1' := own3 b1 (w.heap.size + 1) (by first | omega | (simp only [szs]; omega))) | (go_at_call 18; (with_reducible refine (cv _ (by (repeat' (first | (with_reducible first | exact Below.refl _ _ | assumption | refine Below.alloc ?_ ?_ _ | refine Below.drew ?_ | refine below_drewN ?_ _ | refine Below.setCell ?_ ?_ _ | refine below_via (by with_reducible assumption) ?_ ?_) | omega | (simp only [szs]; omega) | (simp only [szs] at *; omega))))).mono ?_); rintro e w2 ⟨rfl, b2⟩; have z2 := b2.size; (try simp only [szs] at z2); have q2 := own2 b2 w.heap.size (by first | omega | (simp only [szs]; omega)); have q2' := own3 b2 (w.heap.size + 1) (by first | omega | (simp only [szs]; omega))))
  go_ret
  exact ⟨rfl, by (repeat' (first | (with_reducible first | exact Below.refl _ _ | assumption | refine Below.alloc ?_ ?_ _ | refine Below.drew ?_ | refine below_drewN ?_ _ | refine Below.setCell ?_ ?_ _ | refine below_via (by with_reducible assumption) ?_ ?_) | omega | (simp only [szs]; omega) | (simp only [szs] at *; omega)))⟩
set_option maxRecDepth 4000 in
set_option maxHeartbeats 4000000 in
theorem sverif_in (ad : Option Addr) (m c : Nat) (hm : m ≤ 2000) (x y ax ay z : Int) (w : World)
   (cu : ∀ w', Below w.heap.size w w' → Calls Tryd.prog 9 #[] w' fun e w'' => e = .returned (.bool true) ∧ Below w'.heap.size w' w'')
   (cv : ∀ W, Below w.heap.size w W → Calls Tryd.prog 18 #[.agg #[.int .u64 x, .int .u64 y], .slice ad m c, .agg #[.int .u64 ax, .int .u64 ay, .int .u64 z]] W fun e w' => e = .returned (.iface 31 (.int .i64 10)) ∧ Below W.heap.size W w')
   (he0 : ∀ w, (Op.equalIn 10000 25 (.agg #[.int .u64 x, .int .u64 y]) (.agg #[.int .u64 0, .int .u64 1])).run Tryd.prog w = .ok false w)
   (ci : ∀ w, Calls Tryd.prog 19 #[.agg #[.int .u64 x, .int .u64 y]] w fun e w' => e = .returned (.bool false) ∧ Below w.heap.size w w') :
    Calls Tryd.prog 5 #[.agg #[.int .u64 x, .int .u64 y], .slice ad m c, .agg #[.int .u64 ax, .int .u64 ay, .int .u64 z]] w fun e w' => e = .returned (.bool true) ∧ Below w.heap.size w w' := by
  have h1 : ¬ (2000 : Int) < (m : Int) := by omega
  have ec := fun w => eql_code w 10 10
  go_enter Tryd.func5, Tryd.ntmps5
  go_wp2_with (first | (go_at_call 9; (with_reducible refine (cu _ (by (repeat' (first | (with_reducible first | exact Below.refl _ _ | assumption | refine Below.alloc ?_ ?_ _ | refine Below.drew ?_ | refine below_drewN ?_ _ | refine Below.setCell ?_ ?_ _ | refine below_via (by with_reducible assumption) ?_ ?_) | omega | (simp only [szs]; omega) | (simp only [szs] at *; omega))))).mono ?_); rintro e w1 ⟨rfl, b1⟩; have z1 := b1.size; (try simp only [szs] at z1); have q1 := own2 b1 w.heap.size (by first | omega | (simp only [szs]; omega)); have q1' := own3 b1 (w.heap.size + 1) (by first | omega | (simp only [szs]; omega))) | (go_at_call 18; (with_reducible refine (cv _ (by (repeat' (first | (with_reducible first | exact Below.refl _ _ | assumption | refine Below.alloc ?_ ?_ _ | refine Below.drew ?_ | refine below_drewN ?_ _ | refine Below.setCell ?_ ?_ _ | refine below_via (by with_reducible assumption) ?_ ?_) | omega | (simp only [szs]; omega) | (simp only [szs] at *; omega))))).mono ?_); rintro e w2 ⟨rfl, b2⟩; have z2 := b2.size; (try simp only [szs] at z2); have q2 := own2 b2 w.heap.size (by first | omega | (simp only [szs]; omega)); have q2' := own3 b2 (w.heap.size + 1) (by first | omega | (simp only [szs]; omega))) | (first | (go_at_call 19; first | (with_reducible refine (ci _).mono ?_; rintro e w_ci ⟨rfl, b_ci⟩; have z_ci := b_ci.size; (try simp only [szs] at z_ci); (try (have q_ci_0 := own2 b_ci (w.heap.size) (by first | omega | (simp only [szs]; omega)))); (try (have q_ci_1 := own3 b_ci (w.heap.size + 1) (by first | omega | (simp only [szs]; omega))))))))
  go_ret
  exact ⟨rfl, by (repeat' (first | (with_reducible first | exact Below.refl _ _ | assumption | refine Below.alloc ?_ ?_ _ | refine Below.drew ?_ | refine below_drewN ?_ _ | refine Below.setCell ?_ ?_ _ | refine below_via (by with_reducible assumption) ?_ ?_) | omega | (simp only [szs]; omega) | (simp only [szs] at *; omega)))⟩
set_option maxRecDepth 4000 in
set_option maxHeartbeats 4000000 in
theorem sverif_far (ad : Option Addr) (m c : Nat) (hm : m ≤ 2000) (x y ax ay z : Int) (w : World)
   (cu : ∀ w', Below w.heap.size w w' → Calls Tryd.prog 9 #[] w' fun e w'' => e = .returned (.bool true) ∧ Below w'.heap.size w' w'')
   (cv : ∀ W, Below w.heap.size w W → Calls Tryd.prog 18 #[.agg #[.int .u64 x, .int .u64 y], .slice ad m c, .agg #[.int .u64 ax, .int .u64 ay, .int .u64 z]] W fun e w' => e = .returned (.iface 31 (.int .i64 10)) ∧ Below W.heap.size W w')
   (he0 : ∀ w, (Op.equalIn 10000 25 (.agg #[.int .u64 x, .int .u64 y]) (.agg #[.int .u64 0, .int .u64 1])).run Tryd.prog w = .ok false w)
   (ci : ∀ w, Calls Tryd.prog 19 #[.agg #[.int .u64 x, .int .u64 y]] w fun e w' => e = .returned (.bool true) ∧ Below w.heap.size w w')
   (cj : ∀ w, Calls Tryd.prog 19 #[.agg #[.int .u64 ax, .int .u64 ay]] w fun e w' => e = .returned (.bool false) ∧ Below w.heap.size w w') :
    Calls Tryd.prog 5 #[.agg #[.int .u64 x, .int .u64 y], .slice ad m c, .agg #[.int .u64 ax, .int .u64 ay, .int .u64 z]] w fun e w' => e = .returned (.bool true) ∧ Below w.heap.size w w' := by
  have h1 : ¬ (2000 : Int) < (m : Int) := by omega
  have ec := fun w => eql_code w 10 10
  go_enter Tryd.func5, Tryd.ntmps5
  go_wp2_with (first | (go_at_call 9; (with_reducible refine (cu _ (by (repeat' (first | (with_reducible first | exact Below.refl _ _ | assumption | refine Below.alloc ?_ ?_ _ | refine Below.drew ?_ | refine below_drewN ?_ _ | refine Below.setCell ?_ ?_ _ | refine below_via (by with_reducible assumption) ?_ ?_) | omega | (simp only [szs]; omega) | (simp only [szs] at *; omega))))).mono ?_); rintro e w1 ⟨rfl, b1⟩; have z1 := b1.size; (try simp only [szs] at z1); have q1 := own2 b1 w.heap.size (by first | omega | (simp only [szs]; omega)); have q1' := own3 b1 (w.heap.size + 1) (by first | omega | (simp only [szs]; omega))) | (go_at_call 18; (with_reducible refine (cv _ (by (repeat' (first | (with_reducible first | exact Below.refl _ _ | assumption | refine Below.alloc ?_ ?_ _ | refine Below.drew ?_ | refine below_drewN ?_ _ | refine Below.setCell ?_ ?_ _ | refine below_via (by with_reducible assumption) ?_ ?_) | omega | (simp only [szs]; omega) | (simp only [szs] at *; omega))))).mono ?_); rintro e w2 ⟨rfl, b2⟩; have z2 := b2.size; (try simp only [szs] at z2); have q2 := own2 b2 w.heap.size (by first | omega | (simp only [szs]; omega)); have q2' := own3 b2 (w.heap.size + 1) (by first | omega | (simp only [szs]; omega))) | (first | (go_at_call 19; first | (with_reducible refine (ci _).mono ?_; rintro e w_ci ⟨rfl, b_ci⟩; have z_ci := b_ci.size; (try simp only [szs] at z_ci); (try (have q_ci_0 := own2 b_ci (w.heap.size) (by first | omega | (simp only [szs]; omega)))); (try (have q_ci_1 := own3 b_ci (w.heap.size + 1) (by first | omega | (simp only [szs]; omega))))) | (with_reducible refine (cj _).mono ?_; rintro e w_cj ⟨rfl, b_cj⟩; have z_cj := b_cj.size; (try simp only [szs] at z_cj); (try (have q_cj_0 := own2 b_cj (w.heap.size) (by first | omega | (simp only [szs]; omega)))); (try (have q_cj_1 := own3 b_cj (w.heap.size + 1) (by first | omega | (simp only [szs]; omega))))))))
  go_ret
  exact ⟨rfl, by (repeat' (first | (with_reducible first | exact Below.refl _ _ | assumption | refine Below.alloc ?_ ?_ _ | refine Below.drew ?_ | refine below_drewN ?_ _ | refine Below.setCell ?_ ?_ _ | refine below_via (by with_reducible assumption) ?_ ?_) | omega | (simp only [szs]; omega) | (simp only [szs] at *; omega)))⟩
set_option maxRecDepth 4000 in
set_option maxHeartbeats 4000000 in
theorem sverif_big (ad : Option Addr) (m c : Nat) (hm : m ≤ 2000) (x y ax ay z : Int) (w : World)
   (cu : ∀ w', Below w.heap.size w w' → Calls Tryd.prog 9 #[] w' fun e w'' => e = .returned (.bool true) ∧ Below w'.heap.size w' w'')
   (cv : ∀ W, Below w.heap.size w W → Calls Tryd.prog 18 #[.agg #[.int .u64 x, .int .u64 y], .slice ad m c, .agg #[.int .u64 ax, .int .u64 ay, .int .u64 z]] W fun e w' => e = .returned (.iface 31 (.int .i64 10)) ∧ Below W.heap.size W w')
   (he0 : ∀ w, (Op.equalIn 10000 25 (.agg #[.int .u64 x, .int .u64 y]) (.agg #[.int .u64 0, .int .u64 1])).run Tryd.prog w = .ok false w)
   (ci : ∀ w, Calls Tryd.prog 19 #[.agg #[.int .u64 x, .int .u64 y]] w fun e w' => e = .returned (.bool true) ∧ Below w.heap.size w w')
   (cj : ∀ w, Calls Tryd.prog 19 #[.agg #[.int .u64 ax, .int .u64 ay]] w fun e w' => e = .returned (.bool true) ∧ Below w.heap.size w w') (hz : ¬ z < 72057593894066549) :
    Calls Tryd.prog 5 #[.agg #[.int .u64 x, .int .u64 y], .slice ad m c, .agg #[.int .u64 ax, .int .u64 ay, .int .u64 z]] w fun e w' => e = .returned (.bool true) ∧ Below w.heap.size w w' := by
  have h1 : ¬ (2000 : Int) < (m : Int) := by omega
  have ec := fun w => eql_code w 10 10
  go_enter Tryd.func5, Tryd.ntmps5
  go_wp2_with (first | (go_at_call 9; (with_reducible refine (cu _ (by (repeat' (first | (with_reducible first | exact Below.refl _ _ | assumption | refine Below.alloc ?_ ?_ _ | refine Below.drew ?_ | refine below_drewN ?_ _ | refine Below.setCell ?_ ?_ _ | refine below_via (by with_reducible assumption) ?_ ?_) | omega | (simp only [szs]; omega) | (simp only [szs] at *; omega))))).mono ?_); rintro e w1 ⟨rfl, b1⟩; have z1 := b1.size; (try simp only [szs] at z1); have q1 := own2 b1 w.heap.size (by first | omega | (simp only [szs]; omega)); have q1' := own3 b1 (w.heap.size + 1) (by first | omega | (simp only [szs]; omega))) | (go_at_call 18; (with_reducible refine (cv _ (by (repeat' (first | (with_reducible first | exact Below.refl _ _ | assumption | refine Below.alloc ?_ ?_ _ | refine Below.drew ?_ | refine below_drewN ?_ _ | refine Below.setCell ?_ ?_ _ | refine below_via (by with_reducible assumption) ?_ ?_) | omega | (simp only [szs]; omega) | (simp only [szs] at *; omega))))).mono ?_); rintro e w2 ⟨rfl, b2⟩; have z2 := b2.size; (try simp only [szs] at z2); have q2 := own2 b2 w.heap.size (by first | omega | (simp only [szs]; omega)); have q2' := own3 b2 (w.heap.size + 1) (by first | omega | (simp only [szs]; omega))) | (first | (go_at_call 19; first | (with_reducible refine (ci _).mono ?_; rintro e w_ci ⟨rfl, b_ci⟩; have z_ci := b_ci.size; (try simp only [szs] at z_ci); (try (have q_ci_0 := own2 b_ci (w.heap.size) (by first | omega | (simp only [szs]; omega)))); (try (have q_ci_1 := own3 b_ci (w.heap.size + 1) (by first | omega | (simp only [szs]; omega))))) | (with_reducible refine (cj _).mono ?_; rintro e w_cj ⟨rfl, b_cj⟩; have z_cj := b_cj.size; (try simp only [szs] at z_cj); (try (have q_cj_0 := own2 b_cj (w.heap.size) (by first | omega | (simp only [szs]; omega)))); (try (have q_cj_1 := own3 b_cj (w.heap.size + 1) (by first | omega | (simp only [szs]; omega))))))))
  go_ret
  exact ⟨rfl, by (repeat' (first | (with_reducible first | exact Below.refl _ _ | assumption | refine Below.alloc ?_ ?_ _ | refine Below.drew ?_ | refine below_drewN ?_ _ | refine Below.setCell ?_ ?_ _ | refine below_via (by with_reducible assumption) ?_ ?_) | omega | (simp only [szs]; omega) | (simp only [szs] at *; omega)))⟩
set_option maxRecDepth 4000 in
set_option maxHeartbeats 8000000 in
theorem sverif_core (ad : Option Addr) (m c : Nat) (hm : m ≤ 2000) (u : Nat → Nat) (x y ax ay z q fx fy mx my rx ry : Int) (er : Value) (s : Bool) (w : World) (hS : SrcY w.heap.size w ad m u) (hz : z < 72057593894066549)
   (hs : (s = true ∧ er = .nilIface) ∨ (s = false ∧ er = .iface 31 (.int .i64 10)))
   (cu : ∀ w', Below w.heap.size w w' → Calls Tryd.prog 9 #[] w' fun e w'' => e = .returned (.bool true) ∧ Below w'.heap.size w' w'')
   (cv : ∀ W, Below w.heap.size w W → Calls Tryd.prog 18 #[.agg #[.int .u64 x, .int .u64 y], .slice ad m c, .agg #[.int .u64 ax, .int .u64 ay, .int .u64 z]] W fun e w' => e = .returned (er) ∧ Below W.heap.size W w')
   (he0 : ∀ w, (Op.equalIn 10000 25 (.agg #[.int .u64 x, .int .u64 y]) (.agg #[.int .u64 0, .int .u64 1])).run Tryd.prog w = .ok false w)
   (ci : ∀ w, Calls Tryd.prog 19 #[.agg #[.int .u64 x, .int .u64 y]] w fun e w' => e = .returned (.bool true) ∧ Below w.heap.size w w')
   (cj : ∀ w, Calls Tryd.prog 19 #[.agg #[.int .u64 ax, .int .u64 ay]] w fun e w' => e = .returned (.bool true) ∧ Below w.heap.size w w')
   (cq : ∀ W, SrcY W.heap.size W ad m u → Calls Tryd.prog 15 #[.agg #[.int .u64 ax, .int .u64 ay], .agg #[.int .u64 x, .int .u64 y], .slice ad m c] W fun e w' => e = .returned (.int .u64 q) ∧ Below W.heap.size W w')
   (tz : ∀ w, Calls Tryd.prog 12 #[.agg #[.int .u64 223588670687113535, .int .u64 82055451961885530], .int .u64 z] w fun e w' => e = .returned (.agg #[.int .u64 fx, .int .u64 fy]) ∧ Below w.heap.size w w')
   (tm : ∀ w, Calls Tryd.prog 12 #[.agg #[.int .u64 x, .int .u64 y], .int .u64 q] w fun e w' => e = .returned (.agg #[.int .u64 mx, .int .u64 my]) ∧ Below w.heap.size w w')
   (su : ∀ w, Calls Tryd.prog 20 #[.agg #[.int .u64 ax, .int .u64 ay], .agg #[.int .u64 mx, .int .u64 my]] w fun e w' => e = .returned (.agg #[.int .u64 rx, .int .u64 ry]) ∧ Below w.heap.size w w')
   (he : ∀ w, (Op.equalIn 10000 25 (.agg #[.int .u64 fx, .int .u64 fy]) (.agg #[.int .u64 rx, .int .u64 ry])).run Tryd.prog w = .ok s w) :
    Calls Tryd.prog 5 #[.agg #[.int .u64 x, .int .u64 y], .slice ad m c, .agg #[.int .u64 ax, .int .u64 ay, .int .u64 z]] w fun e w' => e = .returned (.bool true) ∧ Below w.heap.size w w' := by
  have h1 : ¬ (2000 : Int) < (m : Int) := by omega
  have cg := ggenW
  have hS' : Hid (SrcY w.heap.size w ad m u) := hS
  have hs' : Hid ((s = true ∧ er = .nilIface) ∨ (s = false ∧ er = .iface 31 (.int .i64 10))) := hs
  clear hS hs
  go_enter Tryd.func5, Tryd.ntmps5
  go_upto_region 5 with (first | (go_at_call 9; (with_reducible refine (cu _ (by (repeat' (first | (with_reducible first | exact Below.refl _ _ | assumption | refine Below.alloc ?_ ?_ _ | refine Below.drew ?_ | refine below_drewN ?_ _ | refine Below.setCell ?_ ?_ _ | refine below_via (by with_reducible assumption) ?_ ?_) | omega | (simp only [szs]; omega) | (simp only [szs] at *; omega))))).mono ?_); rintro e w1 ⟨rfl, b1⟩; have z1 := b1.size; (try simp only [szs] at z1); have q1 := own2 b1 w.heap.size (by first | omega | (simp only [szs]; omega)); have q1' := own3 b1 (w.heap.size + 1) (by first | omega | (simp only [szs]; omega))) | (go_at_call 18; (with_reducible refine (cv _ (by (repeat' (first | (with_reducible first | exact Below.refl _ _ | assumption | refine Below.alloc ?_ ?_ _ | refine Below.drew ?_ | refine below_drewN ?_ _ | refine Below.setCell ?_ ?_ _ | refine below_via (by with_reducible assumption) ?_ ?_) | omega | (simp only [szs]; omega) | (simp only [szs] at *; omega))))).mono ?_); rintro e w2 ⟨rfl, b2⟩; have z2 := b2.size; (try simp only [szs] at z2); have q2 := own2 b2 w.heap.size (by first | omega | (simp only [szs]; omega)); have q2' := own3 b2 (w.heap.size + 1) (by first | omega | (simp only [szs]; omega))))
  have t1 : Two w2 w.heap.size (.int .u64 x) (.int .u64 y) := by (repeat' (first | (with_reducible first | assumption | exact Two.own (by with_reducible assumption) | refine Two.set ?_ _ _ | refine Own2.set ?_ _ _ | refine Two.drew ?_ | refine Two.drewN ?_ _ | refine Own2.drew ?_ | refine Own2.drewN ?_ _ | (refine Two.new ?_; simp only [szs]; done) | (refine Own2.new ?_; simp only [szs]; done) | refine Two.alloc ?_ _ | refine Own2.alloc ?_ _ | refine Two.far ?_ ?_ _ _ | refine Own2.far ?_ ?_ _ _ | refine Two.via (by with_reducible assumption) ?_ ?_ | refine Own2.via (by with_reducible assumption) ?_ ?_) | omega | (simp only [szs]; omega)))
  have t2 : Three w2 (w.heap.size + 1) (.int .u64 ax) (.int .u64 ay) (.int .u64 z) := by (repeat' (first | (with_reducible first | assumption | exact Three.own (by with_reducible assumption) | refine Three.set ?_ _ _ _ | refine Own3.set ?_ _ _ _ | refine Three.drew ?_ | refine Three.drewN ?_ _ | refine Own3.drew ?_ | refine Own3.drewN ?_ _ | (refine Three.new ?_; simp only [szs]; done) | (refine Own3.new ?_; simp only [szs]; done) | refine Three.alloc ?_ _ | refine Own3.alloc ?_ _ | refine Three.far ?_ ?_ _ _ | refine Own3.far ?_ ?_ _ _ | refine Three.via (by with_reducible assumption) ?_ ?_ | refine Own3.via (by with_reducible assumption) ?_ ?_) | omega | (simp only [szs]; omega)))
  have hB2 : Hid (Below w.heap.size w w2) := by show Below _ _ _; (repeat' (first | (with_reducible first | exact Below.refl _ _ | assumption | refine Below.alloc ?_ ?_ _ | refine Below.drew ?_ | refine below_drewN ?_ _ | refine Below.setCell ?_ ?_ _ | refine below_via (by with_reducible assumption) ?_ ?_) | omega | (simp only [szs]; omega) | (simp only [szs] at *; omega)))
  clear b1 z1 q1 q1' b2 q2 q2' cu cv
  have ⟨d1, d2, d3, d4, d5⟩ := t1
  have ⟨e1, e2, e3, e4, e5, e6, e7⟩ := t2
  go_upto_region 8 with (first
    | (first | (go_at_call 19; first | (with_reducible refine (ci _).mono ?_; rintro e w_ci ⟨rfl, b_ci⟩; have z_ci := b_ci.size; (try simp only [szs] at z_ci); (try (have q_ci_0 := own2 b_ci (w.heap.size) (by first | omega | (simp only [szs]; omega)))); (try (have q_ci_1 := own3 b_ci (w.heap.size + 1) (by first | omega | (simp only [szs]; omega))))) | (with_reducible refine (cj _).mono ?_; rintro e w_cj ⟨rfl, b_cj⟩; have z_cj := b_cj.size; (try simp only [szs] at z_cj); (try (have q_cj_0 := own2 b_cj (w.heap.size) (by first | omega | (simp only [szs]; omega)))); (try (have q_cj_1 := own3 b_cj (w.heap.size + 1) (by first | omega | (simp only [szs]; omega)))))))
    | (go_at_call 15; (with_reducible refine (cq _ ((hS'.out.below (B := w.heap.size) (by have hB2' := hB2.out; clear hB2; (repeat' (first | (with_reducible first | exact Below.refl _ _ | assumption | refine Below.alloc ?_ ?_ _ | refine Below.drew ?_ | refine below_drewN ?_ _ | refine Below.setCell ?_ ?_ _ | refine below_via (by with_reducible assumption) ?_ ?_) | omega | (simp only [szs]; omega) | (simp only [szs] at *; omega))))).mono (by omega))).mono ?_); rintro e w5 ⟨rfl, b5⟩; have z5 := b5.size))
  have t3 : Two w5 w.heap.size (.int .u64 x) (.int .u64 y) := by (repeat' (first | (with_reducible first | assumption | exact Two.own (by with_reducible assumption) | refine Two.set ?_ _ _ | refine Own2.set ?_ _ _ | refine Two.drew ?_ | refine Two.drewN ?_ _ | refine Own2.drew ?_ | refine Own2.drewN ?_ _ | (refine Two.new ?_; simp only [szs]; done) | (refine Own2.new ?_; simp only [szs]; done) | refine Two.alloc ?_ _ | refine Own2.alloc ?_ _ | refine Two.far ?_ ?_ _ _ | refine Own2.far ?_ ?_ _ _ | refine Two.via (by with_reducible assumption) ?_ ?_ | refine Own2.via (by with_reducible assumption) ?_ ?_) | omega | (simp only [szs]; omega)))
  have t4 : Three w5 (w.heap.size + 1) (.int .u64 ax) (.int .u64 ay) (.int .u64 z) := by (repeat' (first | (with_reducible first | assumption | exact Three.own (by with_reducible assumption) | refine Three.set ?_ _ _ _ | refine Own3.set ?_ _ _ _ | refine Three.drew ?_ | refine Three.drewN ?_ _ | refine Own3.drew ?_ | refine Own3.drewN ?_ _ | (refine Three.new ?_; simp only [szs]; done) | (refine Own3.new ?_; simp only [szs]; done) | refine Three.alloc ?_ _ | refine Own3.alloc ?_ _ | refine Three.far ?_ ?_ _ _ | refine Own3.far ?_ ?_ _ _ | refine Three.via (by with_reducible assumption) ?_ ?_ | refine Own3.via (by with_reducible assumption) ?_ ?_) | omega | (simp only [szs]; omega)))
  have hB3 : Hid (Below w.heap.size w w5) := by have hB2' := hB2.out; clear hB2; show Below _ _ _; (repeat' (first | (with_reducible first | exact Below.refl _ _ | assumption | refine Below.alloc ?_ ?_ _ | refine Below.drew ?_ | refine below_drewN ?_ _ | refine Below.setCell ?_ ?_ _ | refine below_via (by with_reducible assumption) ?_ ?_) | omega | (simp only [szs]; omega) | (simp only [szs] at *; omega)))
  ((try clear q_ci_0); (try clear q_ci_1))
  ((try clear q_cj_0); (try clear q_cj_1))
  clear b5 t1 t2 d1 d2 d3 d4 d5 e1 e2 e3 e4 e5 e6 e7 hB2 b_ci b_cj cq ci cj
  have hB4 := hB3.out
  clear hB3
  have ⟨d1, d2, d3, d4, d5⟩ := t3
  have ⟨e1, e2, e3, e4, e5, e6, e7⟩ := t4
  go_region_held3 (fun w' => w'.cell? ⟨w.heap.size, 0, none⟩ = some (.int .u64 x) ∧ w'.cell? ⟨w.heap.size, 1, none⟩ = some (.int .u64 y) ∧ w'.cell? ⟨w.heap.size + 1, 0, none⟩ = some (.int .u64 ax) ∧ w'.cell? ⟨w.heap.size + 1, 1, none⟩ = some (.int .u64 ay) ∧ w'.cell? ⟨w.heap.size + 1, 2, none⟩ = some (.int .u64 z)) (go_keep)
    ((first | (go_at_call 13; first | (with_reducible refine (cg _).mono ?_; rintro e w_cg ⟨rfl, b_cg⟩; have z_cg := b_cg.size; (try simp only [szs] at z_cg); (try (have q_cg_0 := own2 b_cg (w.heap.size) (by first | omega | (simp only [szs]; omega)))); (try (have q_cg_1 := own3 b_cg (w.heap.size + 1) (by first | omega | (simp only [szs]; omega)))))) | (go_at_call 12; first | (with_reducible refine (tz _).mono ?_; rintro e w_tz ⟨rfl, b_tz⟩; have z_tz := b_tz.size; (try simp only [szs] at z_tz); (try (have q_tz_0 := own2 b_tz (w.heap.size) (by first | omega | (simp only [szs]; omega)))); (try (have q_tz_1 := own3 b_tz (w.heap.size + 1) (by first | omega | (simp only [szs]; omega))))) | (with_reducible refine (tm _).mono ?_; rintro e w_tm ⟨rfl, b_tm⟩; have z_tm := b_tm.size; (try simp only [szs] at z_tm); (try (have q_tm_0 := own2 b_tm (w.heap.size) (by first | omega | (simp only [szs]; omega)))); (try (have q_tm_1 := own3 b_tm (w.heap.size + 1) (by first | omega | (simp only [szs]; omega)))))) | (go_at_call 20; first | (with_reducible refine (su _).mono ?_; rintro e w_su ⟨rfl, b_su⟩; have z_su := b_su.size; (try simp only [szs] at z_su); (try (have q_su_0 := own2 b_su (w.heap.size) (by first | omega | (simp only [szs]; omega)))); (try (have q_su_1 := own3 b_su (w.heap.size + 1) (by first | omega | (simp only [szs]; omega))))))))
  rcases hs'.out with ⟨rfl, rfl⟩ | ⟨rfl, rfl⟩
  · go_wp2
    go_ret
    exact ⟨rfl, by (repeat' (first | (with_reducible first | exact Below.refl _ _ | assumption | refine Below.alloc ?_ ?_ _ | refine Below.drew ?_ | refine below_drewN ?_ _ | refine Below.setCell ?_ ?_ _ | refine below_via (by with_reducible assumption) ?_ ?_) | omega | (simp only [szs]; omega) | (simp only [szs] at *; omega)))⟩
  · have ec := fun w => eql_code w 10 10
    go_wp2
    go_ret
    exact ⟨rfl, by (repeat' (first | (with_reducible first | exact Below.refl _ _ | assumption | refine Below.alloc ?_ ?_ _ | refine Below.drew ?_ | refine below_drewN ?_ _ | refine Below.setCell ?_ ?_ _ | refine below_via (by with_reducible assumption) ?_ ?_) | omega | (simp only [szs]; omega) | (simp only [szs] at *; omega)))⟩
theorem schnorrVerifies_walk (x0 y0 : Int) (a1 : Option Addr) (len1 cap1 : Nat) (z1 : List Int) (x2 y2 z2 : Int) (w : World) (wx0 : (Lit.int .u64 x0).wf = true) (wy0 : (Lit.int .u64 y0).wf = true) (w1 : IsRow .u8 w a1 len1 cap1 z1) (wx2 : (Lit.int .u64 x2).wf = true) (wy2 : (Lit.int .u64 y2).wf = true) (wz2 : (Lit.int .u64 z2).wf = true) (hT : Tabs w) :
    Calls Tryd.prog 5 #[.agg #[.int .u64 x0, .int .u64 y0], .slice a1 len1 cap1, .agg #[.int .u64 x2, .int .u64 y2, .int .u64 z2]] w fun e w' => e = .returned (.bool true) ∧ Below w.heap.size w w' := by
  obtain ⟨x, rfl, hx⟩ := word_of wx0
  obtain ⟨y, rfl, hy⟩ := word_of wy0
  obtain ⟨ax, rfl, hax⟩ := word_of wx2
  obtain ⟨ay, rfl, hay⟩ := word_of wy2
  obtain ⟨z, rfl, hz⟩ := word_of wz2
  obtain ⟨u, _, _, hu, hs, _, _⟩ := srcY_of_isRow w1
  have cu := fun (W : World) (h : Below w.heap.size w W) => up9W W (hT.below h hT.lt)
  by_cases h : 2000 < len1
  · exact sverif_out a1 len1 cap1 h _ _ _ _ _ w cu
  have hm : len1 ≤ 2000 := by omega
  have cv := fun (W : World) (h : Below w.heap.size w W) => sverW x y ax ay z hx hy hax hay a1 len1 cap1 (by omega) u hu W (hT.below h hT.lt) (hs.to h (Nat.le_refl _))
  have he0 := fun w => equal_Ed w x y 0 1
  have ci := ginW x y hx hy
  have cj := ginW ax ay hax hay
  unfold verB at cv
  cases hf : fitB x y ax ay z with
  | false =>
    rw [hf] at cv
    unfold fitB at hf
    cases h0 : ((x : Int) == 0 && (y : Int) == 1) with
    | true =>
      rw [h0] at he0
      exact sverif_zero a1 len1 cap1 hm _ _ _ _ _ w cu cv he0
    | false =>
      rw [h0] at he0
      cases h1 : inS x y with
      | false =>
        rw [h1] at ci
        exact sverif_in a1 len1 cap1 hm _ _ _ _ _ w cu cv he0 ci
      | true =>
        rw [h1] at ci
        cases h2 : inS ax ay with
        | false =>
          rw [h2] at cj
          exact sverif_far a1 len1 cap1 hm _ _ _ _ _ w cu cv he0 ci cj
        | true =>
          rw [h2] at cj
          rw [h0, h1, h2, Bool.not_false, Bool.true_and, Bool.true_and, Bool.true_and] at hf
          exact sverif_big a1 len1 cap1 hm _ _ _ _ _ w cu cv he0 ci cj (of_decide_eq_false hf)
  | true =>
    rw [hf, Bool.true_and] at cv
    obtain ⟨h1, h2, h3⟩ := fitB_parts hf
    have h0 : ((x : Int) == 0 && (y : Int) == 1) = false := by
      unfold fitB at hf
      rw [Bool.and_eq_true, Bool.not_eq_true'] at hf
      exact hf.1
    rw [h0] at he0
    rw [h1] at ci
    rw [h2] at cj
    have cq := fun (W : World) (h : SrcY W.heap.size W a1 len1 u) => askW (Ob.ofG ax ay) (Ob.ofG x y) a1 len1 cap1 hm u hu W h
    rw [edV_inS h1, edV_inS h2] at cq
    have tm := gtimesW (Ob.ofG_on x y) (verQ x y ax ay u len1) (word_rest _)
    rw [edV_inS h1] at tm
    have su := gsumW (Ob.ofG ax ay) (Ob.gmul (Ob.ofG x y) (verQ x y ax ay u len1))
    rw [edV_inS h2] at su
    refine sverif_core a1 len1 cap1 hm u _ _ _ _ _ (verQ x y ax ay u len1 : Nat) _ _ _ _ _ _ _ (verS x y ax ay z u len1) w hs (by omega) ?_ cu cv he0 ci cj cq (gtimesG z hz) tm su (fun w => eq_isP w _ _ _)
    cases verS x y ax ay z u len1 with
    | true => exact Or.inl ⟨rfl, rfl⟩
    | false => exact Or.inr ⟨rfl, rfl⟩
end Go.Proofs.YtdhbkhmknnlmnaaDoor
