/-
  The walk of package edwards' Read.
-/
import Derived.Test.YtoigpjaffggekabDoorEdB
namespace Go.Proofs.YtoigpjaffggekabDoor
open Go.RowKit Go.Proofs
set_option linter.unusedVariables false
set_option linter.unusedSimpArgs false
attribute [local go_sem ↓] Go.wp_at_zero Go.wp_at_succ

/-- What Read tells where there is no point. -/
def noEd : Value := .tuple #[.agg #[.int .u64 0, .int .u64 0], .iface 49 (.int .i64 3)]
set_option maxHeartbeats 1000000 in
theorem eread_len (a : Option Addr) (len cap : Nat) (h : len ≠ 8) (w : World) :
    Calls Tryd.prog 11 #[.slice a len cap] w fun e w' => e = .returned noEd ∧ Below w.heap.size w w' := by
  have i1 : ((len : Int) == 8) = false := by simp; omega
  have i2 : ((len : Int) != 8) = true := by simp; omega
  clear h
  go_enter Tryd.func11, Tryd.ntmps11
  go_wp2
  exact bodyPost_ret (v := .tuple #[.agg #[.int .u64 0, .int .u64 0], .iface 49 (.int .i64 3)]) (by simp [results, Tryd.results11, go_sem]) rfl ⟨rfl, by (repeat' (first | (with_reducible first | exact Below.refl _ _ | assumption | refine Below.alloc ?_ ?_ _ | refine Below.drew ?_ | refine below_drewN ?_ _ | refine Below.setCell ?_ ?_ _ | refine below_via (by with_reducible assumption) ?_ ?_) | omega | (simp only [szs]; omega) | (simp only [szs] at *; omega)))⟩
set_option maxHeartbeats 2000000 in
theorem eread_none (b off cap n y : Nat) (w : World)
   (hlow : bits .andNot .u64 (n : Int) 9223372036854775808 = (y : Int))
   (c1 : ∀ w1, Below w.heap.size w w1 → Calls Tryd.prog 22 #[.slice (some ⟨b, off, none⟩) 8 cap] w1 fun e w' => e = .returned (.int .u64 n) ∧ w1 = w')
   (c2 : ∀ w1, Below w.heap.size w w1 → Calls Tryd.prog 23 #[.int .u64 y] w1 fun e w' => e = .returned (.tuple #[.agg #[.int .u64 0, .int .u64 0], .iface 49 (.int .i64 2)]) ∧ Below w1.heap.size w1 w') :
    Calls Tryd.prog 11 #[.slice (some ⟨b, off, none⟩) 8 cap] w fun e w' => e = .returned noEd ∧ Below w.heap.size w w' := by
  go_enter Tryd.func11, Tryd.ntmps11
  go_wp2_with (first | (go_at_call 22; with_reducible refine (c1 _ (by (repeat' (first | (with_reducible first | exact Below.refl _ _ | assumption | refine Below.alloc ?_ ?_ _ | refine Below.drew ?_ | refine below_drewN ?_ _ | refine Below.setCell ?_ ?_ _ | refine below_via (by with_reducible assumption) ?_ ?_) | omega | (simp only [szs]; omega) | (simp only [szs] at *; omega))))).mono ?_; rintro e w' ⟨rfl, rfl⟩) | (go_at_call 23; with_reducible refine (c2 _ (by (repeat' (first | (with_reducible first | exact Below.refl _ _ | assumption | refine Below.alloc ?_ ?_ _ | refine Below.drew ?_ | refine below_drewN ?_ _ | refine Below.setCell ?_ ?_ _ | refine below_via (by with_reducible assumption) ?_ ?_) | omega | (simp only [szs]; omega) | (simp only [szs] at *; omega))))).mono ?_; rintro e w2 ⟨rfl, b2⟩; have z2 := b2.size; (try simp only [szs] at z2); have q2 := own2 b2 (w.heap.size) (by simp only [szs]; omega)))
  exact bodyPost_ret (v := .tuple #[.agg #[.int .u64 0, .int .u64 0], .iface 49 (.int .i64 3)]) (by simp [results, Tryd.results11, go_sem, *]) rfl ⟨rfl, by (repeat' (first | (with_reducible first | exact Below.refl _ _ | assumption | refine Below.alloc ?_ ?_ _ | refine Below.drew ?_ | refine below_drewN ?_ _ | refine Below.setCell ?_ ?_ _ | refine below_via (by with_reducible assumption) ?_ ?_) | omega | (simp only [szs]; omega) | (simp only [szs] at *; omega)))⟩
set_option maxHeartbeats 4000000 in
theorem eread_same (b off cap n x x' y : Nat) (t : Int) (o r : Bool) (w : World)
   (hlow : bits .andNot .u64 (n : Int) 9223372036854775808 = (y : Int)) (htop : bits .and .u64 (n : Int) 9223372036854775808 = t) (ht : (t != 0) = o) (hx : x' = x)
   (c1 : ∀ w1, Below w.heap.size w w1 → Calls Tryd.prog 22 #[.slice (some ⟨b, off, none⟩) 8 cap] w1 fun e w' => e = .returned (.int .u64 n) ∧ w1 = w')
   (c2 : ∀ w1, Below w.heap.size w w1 → Calls Tryd.prog 23 #[.int .u64 y] w1 fun e w' => e = .returned (.tuple #[.agg #[.int .u64 x, .int .u64 y], .nilIface]) ∧ Below w1.heap.size w1 w')
   (c3 : ∀ w, Calls Tryd.prog 24 #[.int .u64 x] w fun e w' => e = .returned (.bool o) ∧ w = w')
   (c4 : ∀ w, Calls Tryd.prog 15 #[.agg #[.int .u64 x', .int .u64 y]] w fun e w' => e = .returned (.bool r) ∧ Below w.heap.size w w') :
    Calls Tryd.prog 11 #[.slice (some ⟨b, off, none⟩) 8 cap] w fun e w' => e = .returned (if r then .tuple #[.agg #[.int .u64 x', .int .u64 y], .nilIface] else noEd) ∧ Below w.heap.size w w' := by
  subst hx
  cases o
  · have t1 : (t == 0) = true := by simpa [bne] using ht
    cases r
    · go_enter Tryd.func11, Tryd.ntmps11
      go_wp2_with (first | (go_at_call 22; with_reducible refine (c1 _ (by (repeat' (first | (with_reducible first | exact Below.refl _ _ | assumption | refine Below.alloc ?_ ?_ _ | refine Below.drew ?_ | refine below_drewN ?_ _ | refine Below.setCell ?_ ?_ _ | refine below_via (by with_reducible assumption) ?_ ?_) | omega | (simp only [szs]; omega) | (simp only [szs] at *; omega))))).mono ?_; rintro e w' ⟨rfl, rfl⟩) | (go_at_call 23; with_reducible refine (c2 _ (by (repeat' (first | (with_reducible first | exact Below.refl _ _ | assumption | refine Below.alloc ?_ ?_ _ | refine Below.drew ?_ | refine below_drewN ?_ _ | refine Below.setCell ?_ ?_ _ | refine below_via (by with_reducible assumption) ?_ ?_) | omega | (simp only [szs]; omega) | (simp only [szs] at *; omega))))).mono ?_; rintro e w2 ⟨rfl, b2⟩; have z2 := b2.size; (try simp only [szs] at z2); have q2 := own2 b2 (w.heap.size) (by simp only [szs]; omega)) | (first | (go_at_call 24; first | (with_reducible refine (c3 _).mono ?_; rintro e w' ⟨rfl, rfl⟩)) | (go_at_call 15; first | (with_reducible refine (c4 _).mono ?_; rintro e w_c4 ⟨rfl, b_c4⟩; have z_c4 := b_c4.size; (try simp only [szs] at z_c4); (try (have q_c4_0 := own2 b_c4 (w.heap.size) (by first | omega | (simp only [szs]; omega)))); (try (have q_c4_1 := own2 b_c4 (w2.heap.size) (by first | omega | (simp only [szs]; omega))))))))
      exact bodyPost_ret (v := .tuple #[.agg #[.int .u64 0, .int .u64 0], .iface 49 (.int .i64 3)]) (by simp [results, Tryd.results11, go_sem, *]) rfl ⟨rfl, by (repeat' (first | (with_reducible first | exact Below.refl _ _ | assumption | refine Below.alloc ?_ ?_ _ | refine Below.drew ?_ | refine below_drewN ?_ _ | refine Below.setCell ?_ ?_ _ | refine below_via (by with_reducible assumption) ?_ ?_) | omega | (simp only [szs]; omega) | (simp only [szs] at *; omega)))⟩
    · go_enter Tryd.func11, Tryd.ntmps11
      go_wp2_with (first | (go_at_call 22; with_reducible refine (c1 _ (by (repeat' (first | (with_reducible first | exact Below.refl _ _ | assumption | refine Below.alloc ?_ ?_ _ | refine Below.drew ?_ | refine below_drewN ?_ _ | refine Below.setCell ?_ ?_ _ | refine below_via (by with_reducible assumption) ?_ ?_) | omega | (simp only [szs]; omega) | (simp only [szs] at *; omega))))).mono ?_; rintro e w' ⟨rfl, rfl⟩) | (go_at_call 23; with_reducible refine (c2 _ (by (repeat' (first | (with_reducible first | exact Below.refl _ _ | assumption | refine Below.alloc ?_ ?_ _ | refine Below.drew ?_ | refine below_drewN ?_ _ | refine Below.setCell ?_ ?_ _ | refine below_via (by with_reducible assumption) ?_ ?_) | omega | (simp only [szs]; omega) | (simp only [szs] at *; omega))))).mono ?_; rintro e w2 ⟨rfl, b2⟩; have z2 := b2.size; (try simp only [szs] at z2); have q2 := own2 b2 (w.heap.size) (by simp only [szs]; omega)) | (first | (go_at_call 24; first | (with_reducible refine (c3 _).mono ?_; rintro e w' ⟨rfl, rfl⟩)) | (go_at_call 15; first | (with_reducible refine (c4 _).mono ?_; rintro e w_c4 ⟨rfl, b_c4⟩; have z_c4 := b_c4.size; (try simp only [szs] at z_c4); (try (have q_c4_0 := own2 b_c4 (w.heap.size) (by first | omega | (simp only [szs]; omega)))); (try (have q_c4_1 := own2 b_c4 (w2.heap.size) (by first | omega | (simp only [szs]; omega))))))))
      exact bodyPost_ret (v := .tuple #[.agg #[.int .u64 x', .int .u64 y], .nilIface]) (by simp [results, Tryd.results11, go_sem, *]) rfl ⟨rfl, by (repeat' (first | (with_reducible first | exact Below.refl _ _ | assumption | refine Below.alloc ?_ ?_ _ | refine Below.drew ?_ | refine below_drewN ?_ _ | refine Below.setCell ?_ ?_ _ | refine below_via (by with_reducible assumption) ?_ ?_) | omega | (simp only [szs]; omega) | (simp only [szs] at *; omega)))⟩
  · have t1 : (t == 0) = false := by simpa [bne] using ht
    cases r
    · go_enter Tryd.func11, Tryd.ntmps11
      go_wp2_with (first | (go_at_call 22; with_reducible refine (c1 _ (by (repeat' (first | (with_reducible first | exact Below.refl _ _ | assumption | refine Below.alloc ?_ ?_ _ | refine Below.drew ?_ | refine below_drewN ?_ _ | refine Below.setCell ?_ ?_ _ | refine below_via (by with_reducible assumption) ?_ ?_) | omega | (simp only [szs]; omega) | (simp only [szs] at *; omega))))).mono ?_; rintro e w' ⟨rfl, rfl⟩) | (go_at_call 23; with_reducible refine (c2 _ (by (repeat' (first | (with_reducible first | exact Below.refl _ _ | assumption | refine Below.alloc ?_ ?_ _ | refine Below.drew ?_ | refine below_drewN ?_ _ | refine Below.setCell ?_ ?_ _ | refine below_via (by with_reducible assumption) ?_ ?_) | omega | (simp only [szs]; omega) | (simp only [szs] at *; omega))))).mono ?_; rintro e w2 ⟨rfl, b2⟩; have z2 := b2.size; (try simp only [szs] at z2); have q2 := own2 b2 (w.heap.size) (by simp only [szs]; omega)) | (first | (go_at_call 24; first | (with_reducible refine (c3 _).mono ?_; rintro e w' ⟨rfl, rfl⟩)) | (go_at_call 15; first | (with_reducible refine (c4 _).mono ?_; rintro e w_c4 ⟨rfl, b_c4⟩; have z_c4 := b_c4.size; (try simp only [szs] at z_c4); (try (have q_c4_0 := own2 b_c4 (w.heap.size) (by first | omega | (simp only [szs]; omega)))); (try (have q_c4_1 := own2 b_c4 (w2.heap.size) (by first | omega | (simp only [szs]; omega))))))))
      exact bodyPost_ret (v := .tuple #[.agg #[.int .u64 0, .int .u64 0], .iface 49 (.int .i64 3)]) (by simp [results, Tryd.results11, go_sem, *]) rfl ⟨rfl, by (repeat' (first | (with_reducible first | exact Below.refl _ _ | assumption | refine Below.alloc ?_ ?_ _ | refine Below.drew ?_ | refine below_drewN ?_ _ | refine Below.setCell ?_ ?_ _ | refine below_via (by with_reducible assumption) ?_ ?_) | omega | (simp only [szs]; omega) | (simp only [szs] at *; omega)))⟩
    · go_enter Tryd.func11, Tryd.ntmps11
      go_wp2_with (first | (go_at_call 22; with_reducible refine (c1 _ (by (repeat' (first | (with_reducible first | exact Below.refl _ _ | assumption | refine Below.alloc ?_ ?_ _ | refine Below.drew ?_ | refine below_drewN ?_ _ | refine Below.setCell ?_ ?_ _ | refine below_via (by with_reducible assumption) ?_ ?_) | omega | (simp only [szs]; omega) | (simp only [szs] at *; omega))))).mono ?_; rintro e w' ⟨rfl, rfl⟩) | (go_at_call 23; with_reducible refine (c2 _ (by (repeat' (first | (with_reducible first | exact Below.refl _ _ | assumption | refine Below.alloc ?_ ?_ _ | refine Below.drew ?_ | refine below_drewN ?_ _ | refine Below.setCell ?_ ?_ _ | refine below_via (by with_reducible assumption) ?_ ?_) | omega | (simp only [szs]; omega) | (simp only [szs] at *; omega))))).mono ?_; rintro e w2 ⟨rfl, b2⟩; have z2 := b2.size; (try simp only [szs] at z2); have q2 := own2 b2 (w.heap.size) (by simp only [szs]; omega)) | (first | (go_at_call 24; first | (with_reducible refine (c3 _).mono ?_; rintro e w' ⟨rfl, rfl⟩)) | (go_at_call 15; first | (with_reducible refine (c4 _).mono ?_; rintro e w_c4 ⟨rfl, b_c4⟩; have z_c4 := b_c4.size; (try simp only [szs] at z_c4); (try (have q_c4_0 := own2 b_c4 (w.heap.size) (by first | omega | (simp only [szs]; omega)))); (try (have q_c4_1 := own2 b_c4 (w2.heap.size) (by first | omega | (simp only [szs]; omega))))))))
      exact bodyPost_ret (v := .tuple #[.agg #[.int .u64 x', .int .u64 y], .nilIface]) (by simp [results, Tryd.results11, go_sem, *]) rfl ⟨rfl, by (repeat' (first | (with_reducible first | exact Below.refl _ _ | assumption | refine Below.alloc ?_ ?_ _ | refine Below.drew ?_ | refine below_drewN ?_ _ | refine Below.setCell ?_ ?_ _ | refine below_via (by with_reducible assumption) ?_ ?_) | omega | (simp only [szs]; omega) | (simp only [szs] at *; omega)))⟩
set_option maxHeartbeats 4000000 in
theorem eread_other (b off cap n x x' y : Nat) (t : Int) (o r : Bool) (w : World)
   (hlow : bits .andNot .u64 (n : Int) 9223372036854775808 = (y : Int)) (htop : bits .and .u64 (n : Int) 9223372036854775808 = t) (ht : (t != 0) = o) (hx : x + x' = 288230376287764481)
   (c1 : ∀ w1, Below w.heap.size w w1 → Calls Tryd.prog 22 #[.slice (some ⟨b, off, none⟩) 8 cap] w1 fun e w' => e = .returned (.int .u64 n) ∧ w1 = w')
   (c2 : ∀ w1, Below w.heap.size w w1 → Calls Tryd.prog 23 #[.int .u64 y] w1 fun e w' => e = .returned (.tuple #[.agg #[.int .u64 x, .int .u64 y], .nilIface]) ∧ Below w1.heap.size w1 w')
   (c3 : ∀ w, Calls Tryd.prog 24 #[.int .u64 x] w fun e w' => e = .returned (.bool (!o)) ∧ w = w')
   (c4 : ∀ w, Calls Tryd.prog 15 #[.agg #[.int .u64 x', .int .u64 y]] w fun e w' => e = .returned (.bool r) ∧ Below w.heap.size w w') :
    Calls Tryd.prog 11 #[.slice (some ⟨b, off, none⟩) 8 cap] w fun e w' => e = .returned (if r then .tuple #[.agg #[.int .u64 x', .int .u64 y], .nilIface] else noEd) ∧ Below w.heap.size w w' := by
  have hx1 : (288230376287764481 : Int) - (x : Int) = (x' : Int) := by omega
  have hx2 : x' < 18446744073709551616 := by omega
  clear hx
  cases o
  · have t1 : (t == 0) = true := by simpa [bne] using ht
    cases r
    · go_enter Tryd.func11, Tryd.ntmps11
      go_wp2_with (first | (go_at_call 22; with_reducible refine (c1 _ (by (repeat' (first | (with_reducible first | exact Below.refl _ _ | assumption | refine Below.alloc ?_ ?_ _ | refine Below.drew ?_ | refine below_drewN ?_ _ | refine Below.setCell ?_ ?_ _ | refine below_via (by with_reducible assumption) ?_ ?_) | omega | (simp only [szs]; omega) | (simp only [szs] at *; omega))))).mono ?_; rintro e w' ⟨rfl, rfl⟩) | (go_at_call 23; with_reducible refine (c2 _ (by (repeat' (first | (with_reducible first | exact Below.refl _ _ | assumption | refine Below.alloc ?_ ?_ _ | refine Below.drew ?_ | refine below_drewN ?_ _ | refine Below.setCell ?_ ?_ _ | refine below_via (by with_reducible assumption) ?_ ?_) | omega | (simp only [szs]; omega) | (simp only [szs] at *; omega))))).mono ?_; rintro e w2 ⟨rfl, b2⟩; have z2 := b2.size; (try simp only [szs] at z2); have q2 := own2 b2 (w.heap.size) (by simp only [szs]; omega)) | (first | (go_at_call 24; first | (with_reducible refine (c3 _).mono ?_; rintro e w' ⟨rfl, rfl⟩)) | (go_at_call 15; first | (with_reducible refine (c4 _).mono ?_; rintro e w_c4 ⟨rfl, b_c4⟩; have z_c4 := b_c4.size; (try simp only [szs] at z_c4); (try (have q_c4_0 := own2 b_c4 (w.heap.size) (by first | omega | (simp only [szs]; omega)))); (try (have q_c4_1 := own2 b_c4 (w2.heap.size) (by first | omega | (simp only [szs]; omega))))))))
      exact bodyPost_ret (v := .tuple #[.agg #[.int .u64 0, .int .u64 0], .iface 49 (.int .i64 3)]) (by simp [results, Tryd.results11, go_sem, *]) rfl ⟨rfl, by (repeat' (first | (with_reducible first | exact Below.refl _ _ | assumption | refine Below.alloc ?_ ?_ _ | refine Below.drew ?_ | refine below_drewN ?_ _ | refine Below.setCell ?_ ?_ _ | refine below_via (by with_reducible assumption) ?_ ?_) | omega | (simp only [szs]; omega) | (simp only [szs] at *; omega)))⟩
    · go_enter Tryd.func11, Tryd.ntmps11
      go_wp2_with (first | (go_at_call 22; with_reducible refine (c1 _ (by (repeat' (first | (with_reducible first | exact Below.refl _ _ | assumption | refine Below.alloc ?_ ?_ _ | refine Below.drew ?_ | refine below_drewN ?_ _ | refine Below.setCell ?_ ?_ _ | refine below_via (by with_reducible assumption) ?_ ?_) | omega | (simp only [szs]; omega) | (simp only [szs] at *; omega))))).mono ?_; rintro e w' ⟨rfl, rfl⟩) | (go_at_call 23; with_reducible refine (c2 _ (by (repeat' (first | (with_reducible first | exact Below.refl _ _ | assumption | refine Below.alloc ?_ ?_ _ | refine Below.drew ?_ | refine below_drewN ?_ _ | refine Below.setCell ?_ ?_ _ | refine below_via (by with_reducible assumption) ?_ ?_) | omega | (simp only [szs]; omega) | (simp only [szs] at *; omega))))).mono ?_; rintro e w2 ⟨rfl, b2⟩; have z2 := b2.size; (try simp only [szs] at z2); have q2 := own2 b2 (w.heap.size) (by simp only [szs]; omega)) | (first | (go_at_call 24; first | (with_reducible refine (c3 _).mono ?_; rintro e w' ⟨rfl, rfl⟩)) | (go_at_call 15; first | (with_reducible refine (c4 _).mono ?_; rintro e w_c4 ⟨rfl, b_c4⟩; have z_c4 := b_c4.size; (try simp only [szs] at z_c4); (try (have q_c4_0 := own2 b_c4 (w.heap.size) (by first | omega | (simp only [szs]; omega)))); (try (have q_c4_1 := own2 b_c4 (w2.heap.size) (by first | omega | (simp only [szs]; omega))))))))
      exact bodyPost_ret (v := .tuple #[.agg #[.int .u64 x', .int .u64 y], .nilIface]) (by simp [results, Tryd.results11, go_sem, *]) rfl ⟨rfl, by (repeat' (first | (with_reducible first | exact Below.refl _ _ | assumption | refine Below.alloc ?_ ?_ _ | refine Below.drew ?_ | refine below_drewN ?_ _ | refine Below.setCell ?_ ?_ _ | refine below_via (by with_reducible assumption) ?_ ?_) | omega | (simp only [szs]; omega) | (simp only [szs] at *; omega)))⟩
  · have t1 : (t == 0) = false := by simpa [bne] using ht
    cases r
    · go_enter Tryd.func11, Tryd.ntmps11
      go_wp2_with (first | (go_at_call 22; with_reducible refine (c1 _ (by (repeat' (first | (with_reducible first | exact Below.refl _ _ | assumption | refine Below.alloc ?_ ?_ _ | refine Below.drew ?_ | refine below_drewN ?_ _ | refine Below.setCell ?_ ?_ _ | refine below_via (by with_reducible assumption) ?_ ?_) | omega | (simp only [szs]; omega) | (simp only [szs] at *; omega))))).mono ?_; rintro e w' ⟨rfl, rfl⟩) | (go_at_call 23; with_reducible refine (c2 _ (by (repeat' (first | (with_reducible first | exact Below.refl _ _ | assumption | refine Below.alloc ?_ ?_ _ | refine Below.drew ?_ | refine below_drewN ?_ _ | refine Below.setCell ?_ ?_ _ | refine below_via (by with_reducible assumption) ?_ ?_) | omega | (simp only [szs]; omega) | (simp only [szs] at *; omega))))).mono ?_; rintro e w2 ⟨rfl, b2⟩; have z2 := b2.size; (try simp only [szs] at z2); have q2 := own2 b2 (w.heap.size) (by simp only [szs]; omega)) | (first | (go_at_call 24; first | (with_reducible refine (c3 _).mono ?_; rintro e w' ⟨rfl, rfl⟩)) | (go_at_call 15; first | (with_reducible refine (c4 _).mono ?_; rintro e w_c4 ⟨rfl, b_c4⟩; have z_c4 := b_c4.size; (try simp only [szs] at z_c4); (try (have q_c4_0 := own2 b_c4 (w.heap.size) (by first | omega | (simp only [szs]; omega)))); (try (have q_c4_1 := own2 b_c4 (w2.heap.size) (by first | omega | (simp only [szs]; omega))))))))
      exact bodyPost_ret (v := .tuple #[.agg #[.int .u64 0, .int .u64 0], .iface 49 (.int .i64 3)]) (by simp [results, Tryd.results11, go_sem, *]) rfl ⟨rfl, by (repeat' (first | (with_reducible first | exact Below.refl _ _ | assumption | refine Below.alloc ?_ ?_ _ | refine Below.drew ?_ | refine below_drewN ?_ _ | refine Below.setCell ?_ ?_ _ | refine below_via (by with_reducible assumption) ?_ ?_) | omega | (simp only [szs]; omega) | (simp only [szs] at *; omega)))⟩
    · go_enter Tryd.func11, Tryd.ntmps11
      go_wp2_with (first | (go_at_call 22; with_reducible refine (c1 _ (by (repeat' (first | (with_reducible first | exact Below.refl _ _ | assumption | refine Below.alloc ?_ ?_ _ | refine Below.drew ?_ | refine below_drewN ?_ _ | refine Below.setCell ?_ ?_ _ | refine below_via (by with_reducible assumption) ?_ ?_) | omega | (simp only [szs]; omega) | (simp only [szs] at *; omega))))).mono ?_; rintro e w' ⟨rfl, rfl⟩) | (go_at_call 23; with_reducible refine (c2 _ (by (repeat' (first | (with_reducible first | exact Below.refl _ _ | assumption | refine Below.alloc ?_ ?_ _ | refine Below.drew ?_ | refine below_drewN ?_ _ | refine Below.setCell ?_ ?_ _ | refine below_via (by with_reducible assumption) ?_ ?_) | omega | (simp only [szs]; omega) | (simp only [szs] at *; omega))))).mono ?_; rintro e w2 ⟨rfl, b2⟩; have z2 := b2.size; (try simp only [szs] at z2); have q2 := own2 b2 (w.heap.size) (by simp only [szs]; omega)) | (first | (go_at_call 24; first | (with_reducible refine (c3 _).mono ?_; rintro e w' ⟨rfl, rfl⟩)) | (go_at_call 15; first | (with_reducible refine (c4 _).mono ?_; rintro e w_c4 ⟨rfl, b_c4⟩; have z_c4 := b_c4.size; (try simp only [szs] at z_c4); (try (have q_c4_0 := own2 b_c4 (w.heap.size) (by first | omega | (simp only [szs]; omega)))); (try (have q_c4_1 := own2 b_c4 (w2.heap.size) (by first | omega | (simp only [szs]; omega))))))))
      exact bodyPost_ret (v := .tuple #[.agg #[.int .u64 x', .int .u64 y], .nilIface]) (by simp [results, Tryd.results11, go_sem, *]) rfl ⟨rfl, by (repeat' (first | (with_reducible first | exact Below.refl _ _ | assumption | refine Below.alloc ?_ ?_ _ | refine Below.drew ?_ | refine below_drewN ?_ _ | refine Below.setCell ?_ ?_ _ | refine below_via (by with_reducible assumption) ?_ ?_) | omega | (simp only [szs]; omega) | (simp only [szs] at *; omega)))⟩

/-- Eight bytes that tell a point. -/
theorem eread_yes (b off cap : Nat) (z : Nat → Nat) (hz : ∀ i, z i < 256) (w : World) (hT : TabOk w) (hB : Bys w b off 8 z) {u : Ob.Ep} (hu : Ob.onG u) (hn : Ob.num z 8 = Ob.edN u) :
    Calls Tryd.prog 11 #[.slice (some ⟨b, off, none⟩) 8 cap] w fun e w' => e = .returned (.tuple #[edV u, .nilIface]) ∧ Below w.heap.size w w' := by
  have c1 := fun w1 (h : Below w.heap.size w w1) => numberW b off cap z hz w1 (hB.below h hB.lt)
  rw [hn] at c1
  have hl := Ob.edN_lt u
  obtain ⟨hH, hX⟩ := Ob.has_edN hu
  have hY := Ob.edN_low u
  have hs := hH.2.1
  have hO := Ob.edN_top u
  rw [hY] at hs
  have c2 := fun w1 (h : Below w.heap.size w w1) => eat_yes u.2.val (Ob.G_word _) hs w1 (hT.below h hT.lt)
  have c3 := eoddW (Ob.rtX u.2.val) (Nat.lt_trans (Ob.rtX_lt hs) (by decide))
  have c4 := eisW u.1.val u.2.val (Ob.G_word _) (Ob.G_word _)
  rw [Ob.on_isG hu] at c4
  have hlow := andNot_top _ hl
  have htop := and_top _ hl
  rw [hY] at hlow
  rw [hO] at htop
  rw [Ob.rdX, hY, hO] at hX
  have ho : u.1.val % 2 < 2 := Nat.mod_lt _ (by decide)
  have ht : (((9223372036854775808 * (u.1.val % 2) : Nat) : Int) != 0) = decide (u.1.val % 2 = 1) := by
    rcases (show u.1.val % 2 = 0 ∨ u.1.val % 2 = 1 by omega) with h | h <;> rw [h] <;> rfl
  by_cases hp : Ob.rtX u.2.val % 2 = u.1.val % 2
  · rw [if_pos hp] at hX
    rw [hp] at c3
    exact eread_same b off cap (Ob.edN u) (Ob.rtX u.2.val) u.1.val u.2.val _ _ true w hlow htop ht hX.symm c1 c2 c3 c4
  · rw [if_neg hp] at hX
    have e : decide (Ob.rtX u.2.val % 2 = 1) = !decide (u.1.val % 2 = 1) := by
      have : Ob.rtX u.2.val % 2 < 2 := Nat.mod_lt _ (by decide)
      by_cases h1 : u.1.val % 2 = 1
      · rw [decide_eq_true h1, decide_eq_false (by omega)]; rfl
      · rw [decide_eq_false h1, decide_eq_true (by omega)]; rfl
    rw [e] at c3
    have := Ob.rtX_le hs
    exact eread_other b off cap (Ob.edN u) (Ob.rtX u.2.val) u.1.val u.2.val _ _ true w hlow htop ht (by omega) c1 c2 c3 c4
/-- Eight that tell none. -/
theorem eread_no (b off cap : Nat) (z : Nat → Nat) (hz : ∀ i, z i < 256) (w : World) (hT : TabOk w) (hB : Bys w b off 8 z) (hn : ¬ Ob.Has (Ob.num z 8)) :
    Calls Tryd.prog 11 #[.slice (some ⟨b, off, none⟩) 8 cap] w fun e w' => e = .returned noEd ∧ Below w.heap.size w w' := by
  have c1 := fun w1 (h : Below w.heap.size w w1) => numberW b off cap z hz w1 (hB.below h hB.lt)
  have hl := Ob.num_word z hz
  generalize Ob.num z 8 = n at *
  have hlow := andNot_top _ hl
  have htop := and_top _ hl
  have hyw : Ob.lowY n < 18446744073709551616 := by unfold Ob.lowY; omega
  by_cases hs : Ob.Sq (Ob.gsqr (Ob.toG (Ob.lowY n))).val
  · have hno := Ob.rd_no hl hn hs
    have c2 := fun w1 (h : Below w.heap.size w w1) => eat_yes (Ob.lowY n) hyw hs w1 (hT.below h hT.lt)
    have c3 := eoddW (Ob.rtX (Ob.lowY n)) (Nat.lt_trans (Ob.rtX_lt hs) (by decide))
    have c4 := eisW (Ob.rdX n) (Ob.lowY n) (Ob.rdX_lt hs) hyw
    rw [hno] at c4
    have ho : Ob.topO n < 2 := by unfold Ob.topO; omega
    have ht : (((9223372036854775808 * Ob.topO n : Nat) : Int) != 0) = decide (Ob.topO n = 1) := by
      rcases (show Ob.topO n = 0 ∨ Ob.topO n = 1 by omega) with h | h <;> rw [h] <;> rfl
    by_cases hp : Ob.rtX (Ob.lowY n) % 2 = Ob.topO n
    · have hX : Ob.rdX n = Ob.rtX (Ob.lowY n) := if_pos hp
      rw [hp] at c3
      exact eread_same b off cap n (Ob.rtX (Ob.lowY n)) (Ob.rdX n) (Ob.lowY n) _ _ false w hlow htop ht hX c1 c2 c3 c4
    · have hX : Ob.rdX n = 288230376287764481 - Ob.rtX (Ob.lowY n) := if_neg hp
      have e : decide (Ob.rtX (Ob.lowY n) % 2 = 1) = !decide (Ob.topO n = 1) := by
        have : Ob.rtX (Ob.lowY n) % 2 < 2 := Nat.mod_lt _ (by decide)
        by_cases h1 : Ob.topO n = 1
        · rw [decide_eq_true h1, decide_eq_false (by omega)]; rfl
        · rw [decide_eq_false h1, decide_eq_true (by omega)]; rfl
      rw [e] at c3
      have := Ob.rtX_le hs
      exact eread_other b off cap n (Ob.rtX (Ob.lowY n)) (Ob.rdX n) (Ob.lowY n) _ _ false w hlow htop ht (by omega) c1 c2 c3 c4
  · exact eread_none b off cap n (Ob.lowY n) w hlow c1 (fun w1 _ => eat_no (Ob.lowY n) hyw hs w1)
end Go.Proofs.YtoigpjaffggekabDoor
