/-
  Joined texts: The walk of package edwards' Read. The head of all statements of layer 7. Errors that are codes, compared. What the rows of this seat share: how arguments are opened. How points of the Edwards curve that came in are opened. What the rows of this seat that lay four tables share: those tables, and the start that fits.
-/
import Derived.Test.YtoigpjaffggekaaDoorJ3
import Derived.Test.YtoigpjaffggekaaDoorJ2
import Derived.Test.YtoigpjaffggekaaDoorJ1
import Derived.Test.YtoigpjaffggekaaDoorRows
import Derived.WalkKit
import Derived.ProofKit
import Derived.OpenShut
import Derived.ShutString
import Derived.ChangeOld
import Derived.Below
import Derived.SizedLaws
import Derived.Lib.SmallJoins
import Derived.Test.YtoigpjaffggekaaDoorJ6
import Derived.LaidMore
import Derived.Lib.LaidTab
import Derived.Stop.Joined

namespace Go.Proofs.YtoigpjaffggekaaDoor
open Go.RowKit Go.Proofs
set_option linter.unusedVariables false
set_option linter.unusedSimpArgs false
attribute [local go_sem ↓] Go.wp_at_zero Go.wp_at_succ

/-- What Read tells where there is no point. -/
def noEd : Value := .tuple #[.agg #[.int .u64 0, .int .u64 0], .iface 30 (.int .i64 3)]
set_option maxHeartbeats 1000000 in
theorem eread_len (a : Option Addr) (len cap : Nat) (h : len ≠ 8) (w : World) :
    Calls Tryd.prog 9 #[.slice a len cap] w fun e w' => e = .returned noEd ∧ Below w.heap.size w w' := by
  have i1 : ((len : Int) == 8) = false := by simp; omega
  have i2 : ((len : Int) != 8) = true := by simp; omega
  clear h
  go_enter Tryd.func9, Tryd.ntmps9
  go_wp2
  exact bodyPost_ret (v := .tuple #[.agg #[.int .u64 0, .int .u64 0], .iface 30 (.int .i64 3)]) (by simp [results, Tryd.results9, go_sem]) rfl ⟨rfl, by (repeat' (first | (with_reducible first | exact Below.refl _ _ | assumption | refine Below.alloc ?_ ?_ _ | refine Below.drew ?_ | refine below_drewN ?_ _ | refine Below.setCell ?_ ?_ _ | refine below_via (by with_reducible assumption) ?_ ?_) | omega | (simp only [szs]; omega) | (simp only [szs] at *; omega)))⟩
set_option maxHeartbeats 2000000 in
theorem eread_none (b off cap n y : Nat) (w : World)
   (hlow : bits .andNot .u64 (n : Int) 9223372036854775808 = (y : Int))
   (c1 : ∀ w1, Below w.heap.size w w1 → Calls Tryd.prog 27 #[.slice (some ⟨b, off, none⟩) 8 cap] w1 fun e w' => e = .returned (.int .u64 n) ∧ w1 = w')
   (c2 : ∀ w1, Below w.heap.size w w1 → Calls Tryd.prog 28 #[.int .u64 y] w1 fun e w' => e = .returned (.tuple #[.agg #[.int .u64 0, .int .u64 0], .iface 30 (.int .i64 2)]) ∧ Below w1.heap.size w1 w') :
    Calls Tryd.prog 9 #[.slice (some ⟨b, off, none⟩) 8 cap] w fun e w' => e = .returned noEd ∧ Below w.heap.size w w' := by
  go_enter Tryd.func9, Tryd.ntmps9
  go_wp2_with (first | (go_at_call 27; with_reducible refine (c1 _ (by (repeat' (first | (with_reducible first | exact Below.refl _ _ | assumption | refine Below.alloc ?_ ?_ _ | refine Below.drew ?_ | refine below_drewN ?_ _ | refine Below.setCell ?_ ?_ _ | refine below_via (by with_reducible assumption) ?_ ?_) | omega | (simp only [szs]; omega) | (simp only [szs] at *; omega))))).mono ?_; rintro e w' ⟨rfl, rfl⟩) | (go_at_call 28; with_reducible refine (c2 _ (by (repeat' (first | (with_reducible first | exact Below.refl _ _ | assumption | refine Below.alloc ?_ ?_ _ | refine Below.drew ?_ | refine below_drewN ?_ _ | refine Below.setCell ?_ ?_ _ | refine below_via (by with_reducible assumption) ?_ ?_) | omega | (simp only [szs]; omega) | (simp only [szs] at *; omega))))).mono ?_; rintro e w2 ⟨rfl, b2⟩; have z2 := b2.size; (try simp only [szs] at z2); have q2 := own2 b2 (w.heap.size) (by simp only [szs]; omega)))
  exact bodyPost_ret (v := .tuple #[.agg #[.int .u64 0, .int .u64 0], .iface 30 (.int .i64 3)]) (by simp [results, Tryd.results9, go_sem, *]) rfl ⟨rfl, by (repeat' (first | (with_reducible first | exact Below.refl _ _ | assumption | refine Below.alloc ?_ ?_ _ | refine Below.drew ?_ | refine below_drewN ?_ _ | refine Below.setCell ?_ ?_ _ | refine below_via (by with_reducible assumption) ?_ ?_) | omega | (simp only [szs]; omega) | (simp only [szs] at *; omega)))⟩
set_option maxHeartbeats 4000000 in
theorem eread_same (b off cap n x x' y : Nat) (t : Int) (o r : Bool) (w : World)
   (hlow : bits .andNot .u64 (n : Int) 9223372036854775808 = (y : Int)) (htop : bits .and .u64 (n : Int) 9223372036854775808 = t) (ht : (t != 0) = o) (hx : x' = x)
   (c1 : ∀ w1, Below w.heap.size w w1 → Calls Tryd.prog 27 #[.slice (some ⟨b, off, none⟩) 8 cap] w1 fun e w' => e = .returned (.int .u64 n) ∧ w1 = w')
   (c2 : ∀ w1, Below w.heap.size w w1 → Calls Tryd.prog 28 #[.int .u64 y] w1 fun e w' => e = .returned (.tuple #[.agg #[.int .u64 x, .int .u64 y], .nilIface]) ∧ Below w1.heap.size w1 w')
   (c3 : ∀ w, Calls Tryd.prog 29 #[.int .u64 x] w fun e w' => e = .returned (.bool o) ∧ w = w')
   (c4 : ∀ w, Calls Tryd.prog 20 #[.agg #[.int .u64 x', .int .u64 y]] w fun e w' => e = .returned (.bool r) ∧ Below w.heap.size w w') :
    Calls Tryd.prog 9 #[.slice (some ⟨b, off, none⟩) 8 cap] w fun e w' => e = .returned (if r then .tuple #[.agg #[.int .u64 x', .int .u64 y], .nilIface] else noEd) ∧ Below w.heap.size w w' := by
  subst hx
  cases o
  · have t1 : (t == 0) = true := by simpa [bne] using ht
    cases r
    · go_enter Tryd.func9, Tryd.ntmps9
      go_wp2_with (first | (go_at_call 27; with_reducible refine (c1 _ (by (repeat' (first | (with_reducible first | exact Below.refl _ _ | assumption | refine Below.alloc ?_ ?_ _ | refine Below.drew ?_ | refine below_drewN ?_ _ | refine Below.setCell ?_ ?_ _ | refine below_via (by with_reducible assumption) ?_ ?_) | omega | (simp only [szs]; omega) | (simp only [szs] at *; omega))))).mono ?_; rintro e w' ⟨rfl, rfl⟩) | (go_at_call 28; with_reducible refine (c2 _ (by (repeat' (first | (with_reducible first | exact Below.refl _ _ | assumption | refine Below.alloc ?_ ?_ _ | refine Below.drew ?_ | refine below_drewN ?_ _ | refine Below.setCell ?_ ?_ _ | refine below_via (by with_reducible assumption) ?_ ?_) | omega | (simp only [szs]; omega) | (simp only [szs] at *; omega))))).mono ?_; rintro e w2 ⟨rfl, b2⟩; have z2 := b2.size; (try simp only [szs] at z2); have q2 := own2 b2 (w.heap.size) (by simp only [szs]; omega)) | (first | (go_at_call 29; first | (with_reducible refine (c3 _).mono ?_; rintro e w' ⟨rfl, rfl⟩)) | (go_at_call 20; first | (with_reducible refine (c4 _).mono ?_; rintro e w_c4 ⟨rfl, b_c4⟩; have z_c4 := b_c4.size; (try simp only [szs] at z_c4); (try (have q_c4_0 := own2 b_c4 (w.heap.size) (by first | omega | (simp only [szs]; omega)))); (try (have q_c4_1 := own2 b_c4 (w2.heap.size) (by first | omega | (simp only [szs]; omega))))))))
      exact bodyPost_ret (v := .tuple #[.agg #[.int .u64 0, .int .u64 0], .iface 30 (.int .i64 3)]) (by simp [results, Tryd.results9, go_sem, *]) rfl ⟨rfl, by (repeat' (first | (with_reducible first | exact Below.refl _ _ | assumption | refine Below.alloc ?_ ?_ _ | refine Below.drew ?_ | refine below_drewN ?_ _ | refine Below.setCell ?_ ?_ _ | refine below_via (by with_reducible assumption) ?_ ?_) | omega | (simp only [szs]; omega) | (simp only [szs] at *; omega)))⟩
    · go_enter Tryd.func9, Tryd.ntmps9
      go_wp2_with (first | (go_at_call 27; with_reducible refine (c1 _ (by (repeat' (first | (with_reducible first | exact Below.refl _ _ | assumption | refine Below.alloc ?_ ?_ _ | refine Below.drew ?_ | refine below_drewN ?_ _ | refine Below.setCell ?_ ?_ _ | refine below_via (by with_reducible assumption) ?_ ?_) | omega | (simp only [szs]; omega) | (simp only [szs] at *; omega))))).mono ?_; rintro e w' ⟨rfl, rfl⟩) | (go_at_call 28; with_reducible refine (c2 _ (by (repeat' (first | (with_reducible first | exact Below.refl _ _ | assumption | refine Below.alloc ?_ ?_ _ | refine Below.drew ?_ | refine below_drewN ?_ _ | refine Below.setCell ?_ ?_ _ | refine below_via (by with_reducible assumption) ?_ ?_) | omega | (simp only [szs]; omega) | (simp only [szs] at *; omega))))).mono ?_; rintro e w2 ⟨rfl, b2⟩; have z2 := b2.size; (try simp only [szs] at z2); have q2 := own2 b2 (w.heap.size) (by simp only [szs]; omega)) | (first | (go_at_call 29; first | (with_reducible refine (c3 _).mono ?_; rintro e w' ⟨rfl, rfl⟩)) | (go_at_call 20; first | (with_reducible refine (c4 _).mono ?_; rintro e w_c4 ⟨rfl, b_c4⟩; have z_c4 := b_c4.size; (try simp only [szs] at z_c4); (try (have q_c4_0 := own2 b_c4 (w.heap.size) (by first | omega | (simp only [szs]; omega)))); (try (have q_c4_1 := own2 b_c4 (w2.heap.size) (by first | omega | (simp only [szs]; omega))))))))
      exact bodyPost_ret (v := .tuple #[.agg #[.int .u64 x', .int .u64 y], .nilIface]) (by simp [results, Tryd.results9, go_sem, *]) rfl ⟨rfl, by (repeat' (first | (with_reducible first | exact Below.refl _ _ | assumption | refine Below.alloc ?_ ?_ _ | refine Below.drew ?_ | refine below_drewN ?_ _ | refine Below.setCell ?_ ?_ _ | refine below_via (by with_reducible assumption) ?_ ?_) | omega | (simp only [szs]; omega) | (simp only [szs] at *; omega)))⟩
  · have t1 : (t == 0) = false := by simpa [bne] using ht
    cases r
    · go_enter Tryd.func9, Tryd.ntmps9
      go_wp2_with (first | (go_at_call 27; with_reducible refine (c1 _ (by (repeat' (first | (with_reducible first | exact Below.refl _ _ | assumption | refine Below.alloc ?_ ?_ _ | refine Below.drew ?_ | refine below_drewN ?_ _ | refine Below.setCell ?_ ?_ _ | refine below_via (by with_reducible assumption) ?_ ?_) | omega | (simp only [szs]; omega) | (simp only [szs] at *; omega))))).mono ?_; rintro e w' ⟨rfl, rfl⟩) | (go_at_call 28; with_reducible refine (c2 _ (by (repeat' (first | (with_reducible first | exact Below.refl _ _ | assumption | refine Below.alloc ?_ ?_ _ | refine Below.drew ?_ | refine below_drewN ?_ _ | refine Below.setCell ?_ ?_ _ | refine below_via (by with_reducible assumption) ?_ ?_) | omega | (simp only [szs]; omega) | (simp only [szs] at *; omega))))).mono ?_; rintro e w2 ⟨rfl, b2⟩; have z2 := b2.size; (try simp only [szs] at z2); have q2 := own2 b2 (w.heap.size) (by simp only [szs]; omega)) | (first | (go_at_call 29; first | (with_reducible refine (c3 _).mono ?_; rintro e w' ⟨rfl, rfl⟩)) | (go_at_call 20; first | (with_reducible refine (c4 _).mono ?_; rintro e w_c4 ⟨rfl, b_c4⟩; have z_c4 := b_c4.size; (try simp only [szs] at z_c4); (try (have q_c4_0 := own2 b_c4 (w.heap.size) (by first | omega | (simp only [szs]; omega)))); (try (have q_c4_1 := own2 b_c4 (w2.heap.size) (by first | omega | (simp only [szs]; omega))))))))
      exact bodyPost_ret (v := .tuple #[.agg #[.int .u64 0, .int .u64 0], .iface 30 (.int .i64 3)]) (by simp [results, Tryd.results9, go_sem, *]) rfl ⟨rfl, by (repeat' (first | (with_reducible first | exact Below.refl _ _ | assumption | refine Below.alloc ?_ ?_ _ | refine Below.drew ?_ | refine below_drewN ?_ _ | refine Below.setCell ?_ ?_ _ | refine below_via (by with_reducible assumption) ?_ ?_) | omega | (simp only [szs]; omega) | (simp only [szs] at *; omega)))⟩
    · go_enter Tryd.func9, Tryd.ntmps9
      go_wp2_with (first | (go_at_call 27; with_reducible refine (c1 _ (by (repeat' (first | (with_reducible first | exact Below.refl _ _ | assumption | refine Below.alloc ?_ ?_ _ | refine Below.drew ?_ | refine below_drewN ?_ _ | refine Below.setCell ?_ ?_ _ | refine below_via (by with_reducible assumption) ?_ ?_) | omega | (simp only [szs]; omega) | (simp only [szs] at *; omega))))).mono ?_; rintro e w' ⟨rfl, rfl⟩) | (go_at_call 28; with_reducible refine (c2 _ (by (repeat' (first | (with_reducible first | exact Below.refl _ _ | assumption | refine Below.alloc ?_ ?_ _ | refine Below.drew ?_ | refine below_drewN ?_ _ | refine Below.setCell ?_ ?_ _ | refine below_via (by with_reducible assumption) ?_ ?_) | omega | (simp only [szs]; omega) | (simp only [szs] at *; omega))))).mono ?_; rintro e w2 ⟨rfl, b2⟩; have z2 := b2.size; (try simp only [szs] at z2); have q2 := own2 b2 (w.heap.size) (by simp only [szs]; omega)) | (first | (go_at_call 29; first | (with_reducible refine (c3 _).mono ?_; rintro e w' ⟨rfl, rfl⟩)) | (go_at_call 20; first | (with_reducible refine (c4 _).mono ?_; rintro e w_c4 ⟨rfl, b_c4⟩; have z_c4 := b_c4.size; (try simp only [szs] at z_c4); (try (have q_c4_0 := own2 b_c4 (w.heap.size) (by first | omega | (simp only [szs]; omega)))); (try (have q_c4_1 := own2 b_c4 (w2.heap.size) (by first | omega | (simp only [szs]; omega))))))))
      exact bodyPost_ret (v := .tuple #[.agg #[.int .u64 x', .int .u64 y], .nilIface]) (by simp [results, Tryd.results9, go_sem, *]) rfl ⟨rfl, by (repeat' (first | (with_reducible first | exact Below.refl _ _ | assumption | refine Below.alloc ?_ ?_ _ | refine Below.drew ?_ | refine below_drewN ?_ _ | refine Below.setCell ?_ ?_ _ | refine below_via (by with_reducible assumption) ?_ ?_) | omega | (simp only [szs]; omega) | (simp only [szs] at *; omega)))⟩
set_option maxHeartbeats 4000000 in
theorem eread_other (b off cap n x x' y : Nat) (t : Int) (o r : Bool) (w : World)
   (hlow : bits .andNot .u64 (n : Int) 9223372036854775808 = (y : Int)) (htop : bits .and .u64 (n : Int) 9223372036854775808 = t) (ht : (t != 0) = o) (hx : x + x' = 288230376287764481)
   (c1 : ∀ w1, Below w.heap.size w w1 → Calls Tryd.prog 27 #[.slice (some ⟨b, off, none⟩) 8 cap] w1 fun e w' => e = .returned (.int .u64 n) ∧ w1 = w')
   (c2 : ∀ w1, Below w.heap.size w w1 → Calls Tryd.prog 28 #[.int .u64 y] w1 fun e w' => e = .returned (.tuple #[.agg #[.int .u64 x, .int .u64 y], .nilIface]) ∧ Below w1.heap.size w1 w')
   (c3 : ∀ w, Calls Tryd.prog 29 #[.int .u64 x] w fun e w' => e = .returned (.bool (!o)) ∧ w = w')
   (c4 : ∀ w, Calls Tryd.prog 20 #[.agg #[.int .u64 x', .int .u64 y]] w fun e w' => e = .returned (.bool r) ∧ Below w.heap.size w w') :
    Calls Tryd.prog 9 #[.slice (some ⟨b, off, none⟩) 8 cap] w fun e w' => e = .returned (if r then .tuple #[.agg #[.int .u64 x', .int .u64 y], .nilIface] else noEd) ∧ Below w.heap.size w w' := by
  have hx1 : (288230376287764481 : Int) - (x : Int) = (x' : Int) := by omega
  have hx2 : x' < 18446744073709551616 := by omega
  clear hx
  cases o
  · have t1 : (t == 0) = true := by simpa [bne] using ht
    cases r
    · go_enter Tryd.func9, Tryd.ntmps9
      go_wp2_with (first | (go_at_call 27; with_reducible refine (c1 _ (by (repeat' (first | (with_reducible first | exact Below.refl _ _ | assumption | refine Below.alloc ?_ ?_ _ | refine Below.drew ?_ | refine below_drewN ?_ _ | refine Below.setCell ?_ ?_ _ | refine below_via (by with_reducible assumption) ?_ ?_) | omega | (simp only [szs]; omega) | (simp only [szs] at *; omega))))).mono ?_; rintro e w' ⟨rfl, rfl⟩) | (go_at_call 28; with_reducible refine (c2 _ (by (repeat' (first | (with_reducible first | exact Below.refl _ _ | assumption | refine Below.alloc ?_ ?_ _ | refine Below.drew ?_ | refine below_drewN ?_ _ | refine Below.setCell ?_ ?_ _ | refine below_via (by with_reducible assumption) ?_ ?_) | omega | (simp only [szs]; omega) | (simp only [szs] at *; omega))))).mono ?_; rintro e w2 ⟨rfl, b2⟩; have z2 := b2.size; (try simp only [szs] at z2); have q2 := own2 b2 (w.heap.size) (by simp only [szs]; omega)) | (first | (go_at_call 29; first | (with_reducible refine (c3 _).mono ?_; rintro e w' ⟨rfl, rfl⟩)) | (go_at_call 20; first | (with_reducible refine (c4 _).mono ?_; rintro e w_c4 ⟨rfl, b_c4⟩; have z_c4 := b_c4.size; (try simp only [szs] at z_c4); (try (have q_c4_0 := own2 b_c4 (w.heap.size) (by first | omega | (simp only [szs]; omega)))); (try (have q_c4_1 := own2 b_c4 (w2.heap.size) (by first | omega | (simp only [szs]; omega))))))))
      exact bodyPost_ret (v := .tuple #[.agg #[.int .u64 0, .int .u64 0], .iface 30 (.int .i64 3)]) (by simp [results, Tryd.results9, go_sem, *]) rfl ⟨rfl, by (repeat' (first | (with_reducible first | exact Below.refl _ _ | assumption | refine Below.alloc ?_ ?_ _ | refine Below.drew ?_ | refine below_drewN ?_ _ | refine Below.setCell ?_ ?_ _ | refine below_via (by with_reducible assumption) ?_ ?_) | omega | (simp only [szs]; omega) | (simp only [szs] at *; omega)))⟩
    · go_enter Tryd.func9, Tryd.ntmps9
      go_wp2_with (first | (go_at_call 27; with_reducible refine (c1 _ (by (repeat' (first | (with_reducible first | exact Below.refl _ _ | assumption | refine Below.alloc ?_ ?_ _ | refine Below.drew ?_ | refine below_drewN ?_ _ | refine Below.setCell ?_ ?_ _ | refine below_via (by with_reducible assumption) ?_ ?_) | omega | (simp only [szs]; omega) | (simp only [szs] at *; omega))))).mono ?_; rintro e w' ⟨rfl, rfl⟩) | (go_at_call 28; with_reducible refine (c2 _ (by (repeat' (first | (with_reducible first | exact Below.refl _ _ | assumption | refine Below.alloc ?_ ?_ _ | refine Below.drew ?_ | refine below_drewN ?_ _ | refine Below.setCell ?_ ?_ _ | refine below_via (by with_reducible assumption) ?_ ?_) | omega | (simp only [szs]; omega) | (simp only [szs] at *; omega))))).mono ?_; rintro e w2 ⟨rfl, b2⟩; have z2 := b2.size; (try simp only [szs] at z2); have q2 := own2 b2 (w.heap.size) (by simp only [szs]; omega)) | (first | (go_at_call 29; first | (with_reducible refine (c3 _).mono ?_; rintro e w' ⟨rfl, rfl⟩)) | (go_at_call 20; first | (with_reducible refine (c4 _).mono ?_; rintro e w_c4 ⟨rfl, b_c4⟩; have z_c4 := b_c4.size; (try simp only [szs] at z_c4); (try (have q_c4_0 := own2 b_c4 (w.heap.size) (by first | omega | (simp only [szs]; omega)))); (try (have q_c4_1 := own2 b_c4 (w2.heap.size) (by first | omega | (simp only [szs]; omega))))))))
      exact bodyPost_ret (v := .tuple #[.agg #[.int .u64 x', .int .u64 y], .nilIface]) (by simp [results, Tryd.results9, go_sem, *]) rfl ⟨rfl, by (repeat' (first | (with_reducible first | exact Below.refl _ _ | assumption | refine Below.alloc ?_ ?_ _ | refine Below.drew ?_ | refine below_drewN ?_ _ | refine Below.setCell ?_ ?_ _ | refine below_via (by with_reducible assumption) ?_ ?_) | omega | (simp only [szs]; omega) | (simp only [szs] at *; omega)))⟩
  · have t1 : (t == 0) = false := by simpa [bne] using ht
    cases r
    · go_enter Tryd.func9, Tryd.ntmps9
      go_wp2_with (first | (go_at_call 27; with_reducible refine (c1 _ (by (repeat' (first | (with_reducible first | exact Below.refl _ _ | assumption | refine Below.alloc ?_ ?_ _ | refine Below.drew ?_ | refine below_drewN ?_ _ | refine Below.setCell ?_ ?_ _ | refine below_via (by with_reducible assumption) ?_ ?_) | omega | (simp only [szs]; omega) | (simp only [szs] at *; omega))))).mono ?_; rintro e w' ⟨rfl, rfl⟩) | (go_at_call 28; with_reducible refine (c2 _ (by (repeat' (first | (with_reducible first | exact Below.refl _ _ | assumption | refine Below.alloc ?_ ?_ _ | refine Below.drew ?_ | refine below_drewN ?_ _ | refine Below.setCell ?_ ?_ _ | refine below_via (by with_reducible assumption) ?_ ?_) | omega | (simp only [szs]; omega) | (simp only [szs] at *; omega))))).mono ?_; rintro e w2 ⟨rfl, b2⟩; have z2 := b2.size; (try simp only [szs] at z2); have q2 := own2 b2 (w.heap.size) (by simp only [szs]; omega)) | (first | (go_at_call 29; first | (with_reducible refine (c3 _).mono ?_; rintro e w' ⟨rfl, rfl⟩)) | (go_at_call 20; first | (with_reducible refine (c4 _).mono ?_; rintro e w_c4 ⟨rfl, b_c4⟩; have z_c4 := b_c4.size; (try simp only [szs] at z_c4); (try (have q_c4_0 := own2 b_c4 (w.heap.size) (by first | omega | (simp only [szs]; omega)))); (try (have q_c4_1 := own2 b_c4 (w2.heap.size) (by first | omega | (simp only [szs]; omega))))))))
      exact bodyPost_ret (v := .tuple #[.agg #[.int .u64 0, .int .u64 0], .iface 30 (.int .i64 3)]) (by simp [results, Tryd.results9, go_sem, *]) rfl ⟨rfl, by (repeat' (first | (with_reducible first | exact Below.refl _ _ | assumption | refine Below.alloc ?_ ?_ _ | refine Below.drew ?_ | refine below_drewN ?_ _ | refine Below.setCell ?_ ?_ _ | refine below_via (by with_reducible assumption) ?_ ?_) | omega | (simp only [szs]; omega) | (simp only [szs] at *; omega)))⟩
    · go_enter Tryd.func9, Tryd.ntmps9
      go_wp2_with (first | (go_at_call 27; with_reducible refine (c1 _ (by (repeat' (first | (with_reducible first | exact Below.refl _ _ | assumption | refine Below.alloc ?_ ?_ _ | refine Below.drew ?_ | refine below_drewN ?_ _ | refine Below.setCell ?_ ?_ _ | refine below_via (by with_reducible assumption) ?_ ?_) | omega | (simp only [szs]; omega) | (simp only [szs] at *; omega))))).mono ?_; rintro e w' ⟨rfl, rfl⟩) | (go_at_call 28; with_reducible refine (c2 _ (by (repeat' (first | (with_reducible first | exact Below.refl _ _ | assumption | refine Below.alloc ?_ ?_ _ | refine Below.drew ?_ | refine below_drewN ?_ _ | refine Below.setCell ?_ ?_ _ | refine below_via (by with_reducible assumption) ?_ ?_) | omega | (simp only [szs]; omega) | (simp only [szs] at *; omega))))).mono ?_; rintro e w2 ⟨rfl, b2⟩; have z2 := b2.size; (try simp only [szs] at z2); have q2 := own2 b2 (w.heap.size) (by simp only [szs]; omega)) | (first | (go_at_call 29; first | (with_reducible refine (c3 _).mono ?_; rintro e w' ⟨rfl, rfl⟩)) | (go_at_call 20; first | (with_reducible refine (c4 _).mono ?_; rintro e w_c4 ⟨rfl, b_c4⟩; have z_c4 := b_c4.size; (try simp only [szs] at z_c4); (try (have q_c4_0 := own2 b_c4 (w.heap.size) (by first | omega | (simp only [szs]; omega)))); (try (have q_c4_1 := own2 b_c4 (w2.heap.size) (by first | omega | (simp only [szs]; omega))))))))
      exact bodyPost_ret (v := .tuple #[.agg #[.int .u64 x', .int .u64 y], .nilIface]) (by simp [results, Tryd.results9, go_sem, *]) rfl ⟨rfl, by (repeat' (first | (with_reducible first | exact Below.refl _ _ | assumption | refine Below.alloc ?_ ?_ _ | refine Below.drew ?_ | refine below_drewN ?_ _ | refine Below.setCell ?_ ?_ _ | refine below_via (by with_reducible assumption) ?_ ?_) | omega | (simp only [szs]; omega) | (simp only [szs] at *; omega)))⟩

/-- Eight bytes that tell a point. -/
theorem eread_yes (b off cap : Nat) (z : Nat → Nat) (hz : ∀ i, z i < 256) (w : World) (hT : TabOk w) (hB : Bys w b off 8 z) {u : Ob.Ep} (hu : Ob.onG u) (hn : Ob.num z 8 = Ob.edN u) :
    Calls Tryd.prog 9 #[.slice (some ⟨b, off, none⟩) 8 cap] w fun e w' => e = .returned (.tuple #[edV u, .nilIface]) ∧ Below w.heap.size w w' := by
  have c1 := fun w1 (h : Below w.heap.size w w1) => numberW b off cap z hz w1 (hB.below h hB.lt)
  rw [hn] at c1
  have hl := Ob.edN_lt u
  obtain ⟨hH, hX⟩ := Ob.has_edN hu
  have hY := Ob.edN_low u
  have hs := hH.2.1
  have hO := Ob.edN_top u
  rw [hY] at hs
  have c2 := fun w1 (h : Below w.heap.size w w1) => eat_yes u.2.val (Ob.G_word _) hs w1 (hT.below h hT.lt)
  have c3 := eoddW (Ob.rtX u.2.val) (Nat.lt_trans (Ob.rtX_lt hs) (by decide))
  have c4 := eisW u.1.val u.2.val (Ob.G_word _) (Ob.G_word _)
  rw [Ob.on_isG hu] at c4
  have hlow := andNot_top _ hl
  have htop := and_top _ hl
  rw [hY] at hlow
  rw [hO] at htop
  rw [Ob.rdX, hY, hO] at hX
  have ho : u.1.val % 2 < 2 := Nat.mod_lt _ (by decide)
  have ht : (((9223372036854775808 * (u.1.val % 2) : Nat) : Int) != 0) = decide (u.1.val % 2 = 1) := by
    rcases (show u.1.val % 2 = 0 ∨ u.1.val % 2 = 1 by omega) with h | h <;> rw [h] <;> rfl
  by_cases hp : Ob.rtX u.2.val % 2 = u.1.val % 2
  · rw [if_pos hp] at hX
    rw [hp] at c3
    exact eread_same b off cap (Ob.edN u) (Ob.rtX u.2.val) u.1.val u.2.val _ _ true w hlow htop ht hX.symm c1 c2 c3 c4
  · rw [if_neg hp] at hX
    have e : decide (Ob.rtX u.2.val % 2 = 1) = !decide (u.1.val % 2 = 1) := by
      have : Ob.rtX u.2.val % 2 < 2 := Nat.mod_lt _ (by decide)
      by_cases h1 : u.1.val % 2 = 1
      · rw [decide_eq_true h1, decide_eq_false (by omega)]; rfl
      · rw [decide_eq_false h1, decide_eq_true (by omega)]; rfl
    rw [e] at c3
    have := Ob.rtX_le hs
    exact eread_other b off cap (Ob.edN u) (Ob.rtX u.2.val) u.1.val u.2.val _ _ true w hlow htop ht (by omega) c1 c2 c3 c4
/-- Eight that tell none. -/
theorem eread_no (b off cap : Nat) (z : Nat → Nat) (hz : ∀ i, z i < 256) (w : World) (hT : TabOk w) (hB : Bys w b off 8 z) (hn : ¬ Ob.Has (Ob.num z 8)) :
    Calls Tryd.prog 9 #[.slice (some ⟨b, off, none⟩) 8 cap] w fun e w' => e = .returned noEd ∧ Below w.heap.size w w' := by
  have c1 := fun w1 (h : Below w.heap.size w w1) => numberW b off cap z hz w1 (hB.below h hB.lt)
  have hl := Ob.num_word z hz
  generalize Ob.num z 8 = n at *
  have hlow := andNot_top _ hl
  have htop := and_top _ hl
  have hyw : Ob.lowY n < 18446744073709551616 := by unfold Ob.lowY; omega
  by_cases hs : Ob.Sq (Ob.gsqr (Ob.toG (Ob.lowY n))).val
  · have hno := Ob.rd_no hl hn hs
    have c2 := fun w1 (h : Below w.heap.size w w1) => eat_yes (Ob.lowY n) hyw hs w1 (hT.below h hT.lt)
    have c3 := eoddW (Ob.rtX (Ob.lowY n)) (Nat.lt_trans (Ob.rtX_lt hs) (by decide))
    have c4 := eisW (Ob.rdX n) (Ob.lowY n) (Ob.rdX_lt hs) hyw
    rw [hno] at c4
    have ho : Ob.topO n < 2 := by unfold Ob.topO; omega
    have ht : (((9223372036854775808 * Ob.topO n : Nat) : Int) != 0) = decide (Ob.topO n = 1) := by
      rcases (show Ob.topO n = 0 ∨ Ob.topO n = 1 by omega) with h | h <;> rw [h] <;> rfl
    by_cases hp : Ob.rtX (Ob.lowY n) % 2 = Ob.topO n
    · have hX : Ob.rdX n = Ob.rtX (Ob.lowY n) := if_pos hp
      rw [hp] at c3
      exact eread_same b off cap n (Ob.rtX (Ob.lowY n)) (Ob.rdX n) (Ob.lowY n) _ _ false w hlow htop ht hX c1 c2 c3 c4
    · have hX : Ob.rdX n = 288230376287764481 - Ob.rtX (Ob.lowY n) := if_neg hp
      have e : decide (Ob.rtX (Ob.lowY n) % 2 = 1) = !decide (Ob.topO n = 1) := by
        have : Ob.rtX (Ob.lowY n) % 2 < 2 := Nat.mod_lt _ (by decide)
        by_cases h1 : Ob.topO n = 1
        · rw [decide_eq_true h1, decide_eq_false (by omega)]; rfl
        · rw [decide_eq_false h1, decide_eq_true (by omega)]; rfl
      rw [e] at c3
      have := Ob.rtX_le hs
      exact eread_other b off cap n (Ob.rtX (Ob.lowY n)) (Ob.rdX n) (Ob.lowY n) _ _ false w hlow htop ht (by omega) c1 c2 c3 c4
  · exact eread_none b off cap n (Ob.lowY n) w hlow c1 (fun w1 _ => eat_no (Ob.lowY n) hyw hs w1)
end Go.Proofs.YtoigpjaffggekaaDoor

namespace Go.Proofs.YtoigpjaffggekaaDoor
open Go.RowKit Go.Proofs
set_option linter.unusedVariables false
set_option linter.unusedSimpArgs false
attribute [local go_sem ↓] Go.wp_at_zero Go.wp_at_succ

theorem lzeroW (w : World) : Calls Tryd.prog 12 #[] w fun e w' => e = .returned (.agg #[.int .u64 0, .int .u64 1]) ∧ Below w.heap.size w w' := by
  go_enter Tryd.func12, Tryd.ntmps12
  go_wp2
  exact bodyPost_ret (v := .agg #[.int .u64 0, .int .u64 1]) (by simp [results, Tryd.results12, go_sem]) rfl ⟨rfl, by (repeat' (first | (with_reducible first | exact Below.refl _ _ | assumption | refine Below.alloc ?_ ?_ _ | refine Below.drew ?_ | refine below_drewN ?_ _ | refine Below.setCell ?_ ?_ _ | refine below_via (by with_reducible assumption) ?_ ?_) | omega | (simp only [szs]; omega) | (simp only [szs] at *; omega)))⟩

set_option maxHeartbeats 4000000 in
theorem up_core (u v r5 s5 : Int) (w : World)
   (cz : ∀ w, Calls Tryd.prog 12 #[] w fun e w' => e = .returned (.agg #[.int .u64 0, .int .u64 1]) ∧ Below w.heap.size w w')
   (c0 : ∀ w, Calls Tryd.prog 19 #[] w fun e w' => e = .returned (.agg #[.int .u64 223588670687113535, .int .u64 82055451961885530]) ∧ Below w.heap.size w w')
   (c1 : ∀ w, Calls Tryd.prog 20 #[.agg #[.int .u64 223588670687113535, .int .u64 82055451961885530]] w fun e w' => e = .returned (.bool true) ∧ Below w.heap.size w w')
   (c2 : ∀ w, Calls Tryd.prog 21 #[.agg #[.int .u64 223588670687113535, .int .u64 82055451961885530], .int .u64 72057593894066549] w fun e w' => e = .returned (.agg #[.int .u64 0, .int .u64 1]) ∧ Below w.heap.size w w')
   (c3 : ∀ w, Calls Tryd.prog 23 #[.agg #[.int .u64 223588670687113535, .int .u64 82055451961885530]] w fun e w' => e = .returned (.agg #[.int .u64 u, .int .u64 v]) ∧ Below w.heap.size w w')
   (c4 : ∀ w, Calls Tryd.prog 22 #[.agg #[.int .u64 223588670687113535, .int .u64 82055451961885530], .agg #[.int .u64 u, .int .u64 v]] w fun e w' => e = .returned (.agg #[.int .u64 0, .int .u64 1]) ∧ Below w.heap.size w w')
   (c5 : ∀ w, Calls Tryd.prog 22 #[.agg #[.int .u64 223588670687113535, .int .u64 82055451961885530], .agg #[.int .u64 223588670687113535, .int .u64 82055451961885530]] w fun e w' => e = .returned (.agg #[.int .u64 r5, .int .u64 s5]) ∧ Below w.heap.size w w')
   (he : ∀ w, (Op.equalIn 10000 25 (.agg #[.int .u64 r5, .int .u64 s5]) (.agg #[.int .u64 0, .int .u64 1])).run Tryd.prog w = .ok false w)
   (he2 : ∀ w, (Op.equalIn 10000 25 (.agg #[.int .u64 0, .int .u64 1]) (.agg #[.int .u64 0, .int .u64 1])).run Tryd.prog w = .ok true w) :
    Calls Tryd.prog 6 #[] w fun e w' => e = .returned (.bool true) ∧ Below w.heap.size w w' := by
  go_enter Tryd.func6, Tryd.ntmps6
  go_wp2_with (first | (go_at_call 19; first | (with_reducible refine (c0 _).mono ?_; rintro e w_c0 ⟨rfl, b_c0⟩; have z_c0 := b_c0.size; (try simp only [szs] at z_c0))))
  go_region_held3 (fun w' => w'.cell? ⟨w_c0.heap.size, 0, none⟩ = some (.int .u64 223588670687113535) ∧ w'.cell? ⟨w_c0.heap.size, 1, none⟩ = some (.int .u64 82055451961885530)) (go_keep)
    ((first | (go_at_call 20; first | (with_reducible refine (c1 _).mono ?_; rintro e w_c1 ⟨rfl, b_c1⟩; have z_c1 := b_c1.size; (try simp only [szs] at z_c1); (try (have q_c1_0 := own2 b_c1 (w_c0.heap.size) (by first | omega | (simp only [szs]; omega)))))) | (go_at_call 21; first | (with_reducible refine (c2 _).mono ?_; rintro e w_c2 ⟨rfl, b_c2⟩; have z_c2 := b_c2.size; (try simp only [szs] at z_c2); (try (have q_c2_0 := own2 b_c2 (w_c0.heap.size) (by first | omega | (simp only [szs]; omega)))))) | (go_at_call 23; first | (with_reducible refine (c3 _).mono ?_; rintro e w_c3 ⟨rfl, b_c3⟩; have z_c3 := b_c3.size; (try simp only [szs] at z_c3); (try (have q_c3_0 := own2 b_c3 (w_c0.heap.size) (by first | omega | (simp only [szs]; omega)))))) | (go_at_call 22; first | (with_reducible refine (c4 _).mono ?_; rintro e w_c4 ⟨rfl, b_c4⟩; have z_c4 := b_c4.size; (try simp only [szs] at z_c4); (try (have q_c4_0 := own2 b_c4 (w_c0.heap.size) (by first | omega | (simp only [szs]; omega))))) | (with_reducible refine (c5 _).mono ?_; rintro e w_c5 ⟨rfl, b_c5⟩; have z_c5 := b_c5.size; (try simp only [szs] at z_c5); (try (have q_c5_0 := own2 b_c5 (w_c0.heap.size) (by first | omega | (simp only [szs]; omega)))))) | (go_at_call 12; first | (with_reducible refine (cz _).mono ?_; rintro e w_cz ⟨rfl, b_cz⟩; have z_cz := b_cz.size; (try simp only [szs] at z_cz); (try (have q_cz_0 := own2 b_cz (w_c0.heap.size) (by first | omega | (simp only [szs]; omega))))))))
  go_wp2
  go_ret -- @HERE@
  exact ⟨rfl, by (repeat' (first | (with_reducible first | exact Below.refl _ _ | assumption | refine Below.alloc ?_ ?_ _ | refine Below.drew ?_ | refine below_drewN ?_ _ | refine Below.setCell ?_ ?_ _ | refine below_via (by with_reducible assumption) ?_ ?_) | omega | (simp only [szs]; omega) | (simp only [szs] at *; omega)))⟩

theorem genOf : Ob.ofG 223588670687113535 82055451961885530 = Ob.gGen := Ob.ofG_val Ob.onG_gen
theorem eq_zero (w : World) (u : Ob.Ep) : (Op.equalIn 10000 25 (.agg #[.int .u64 (u.1.val : Nat), .int .u64 (u.2.val : Nat)]) (.agg #[.int .u64 0, .int .u64 1])).run Tryd.prog w = .ok (isZ u) w := by
  rw [equal_Ed, isZ_eq]
theorem upW (w : World) : Calls Tryd.prog 6 #[] w fun e w' => e = .returned (.bool true) ∧ Below w.heap.size w w' := by
  have c1 := eisW 223588670687113535 82055451961885530 (by decide) (by decide)
  rw [show Ob.isG 223588670687113535 82055451961885530 = true from Ob.on_isG Ob.onG_gen] at c1
  have c2 := emulW 223588670687113535 82055451961885530 72057593894066549 (by decide) (by decide) (by decide)
  rw [genOf, show Ob.gmul Ob.gGen 72057593894066549 = Ob.gzero from Ob.gen_S] at c2
  have c3 := enegW 223588670687113535 82055451961885530 (by decide) (by decide)
  rw [genOf] at c3
  have hn := Ob.onG_neg Ob.onG_gen
  have c4 := eaddW 223588670687113535 82055451961885530 (Ob.gneg Ob.gGen).1.val (Ob.gneg Ob.gGen).2.val (by decide) (by decide) (Ob.G_word _) (Ob.G_word _)
  rw [genOf, Ob.ofG_val hn, Ob.gadd_neg Ob.onG_gen] at c4
  have c5 := eaddW 223588670687113535 82055451961885530 223588670687113535 82055451961885530 (by decide) (by decide) (by decide) (by decide)
  rw [genOf] at c5
  have h2 : isZ (Ob.gadd Ob.gGen Ob.gGen) = false := by
    refine decide_eq_false fun h => ?_
    rcases Ob.two_zero Ob.onG_gen h with h | h
    · exact Ob.gen_ne h
    · exact absurd (congrArg Prod.fst h) (by decide +kernel)
  exact up_core _ _ _ _ w lzeroW egenW c1 c2 c3 c4 c5 (fun w => by rw [eq_zero, h2]) (fun w => by rw [equal_Ed]; rfl)
end Go.Proofs.YtoigpjaffggekaaDoor

namespace Go.Proofs.YtoigpjaffggekaaDoor
open Go.RowKit Go.Proofs
set_option linter.unusedVariables false
set_option linter.unusedSimpArgs false

theorem codeInfo : ∃ i, Tryd.prog.info? 30 = some i ∧ i.comparable = true := by
  have h : (Tryd.prog.info? 30).map (·.comparable) = some true := by kernel_rfl
  cases hi : Tryd.prog.info? 30 with
  | none => rw [hi] at h; cases h
  | some i => rw [hi] at h; exact ⟨i, rfl, Option.some.inj h⟩
/-- Two errors that are codes are compared as their numbers. -/
theorem equalIn_code (d : Nat) (w : World) (a b : Int) : (Op.equalIn (d + 2) 27 (.iface 30 (.int .i64 a)) (.iface 30 (.int .i64 b))).run Tryd.prog w = .ok (a == b) w := by
  obtain ⟨i, hi, hc⟩ := codeInfo
  simp [Op.equalIn, run_underlying Tryd.underlying27, run_underlying Tryd.underlying30, typeInfo, hi, hc]
theorem eql_code (w : World) (a b : Int) : (binOp .eql 27 (.iface 30 (.int .i64 a)) (.iface 30 (.int .i64 b))).run Tryd.prog w = .ok (.bool (a == b)) w := by
  have h := equalIn_code (Op.maxDepth - 2) w a b
  have e : Op.maxDepth - 2 + 2 = Op.maxDepth := by decide +kernel
  rw [e] at h
  simp only [binOp]
  simp [Op.equal, h]
end Go.Proofs.YtoigpjaffggekaaDoor

namespace Go.Proofs.YtoigpjaffggekaaDoor
open Go.ChangeShapes Go.WideShapes Go.ChangeAt Go.RowKit
set_option linter.unusedVariables false
set_option linter.unusedSimpArgs false

theorem own : ownKnob Tryd.prog.godebug = none := by kernel_rfl
theorem laidOut : laidOutB Tryd.prog = true := by kernel_rfl

/-- A slice of integers that came in: nil; or it leads to a row of 'cap' cells, the numbers zs (the first 'len' are its elements), each fitting its kind. -/
def IsRow (k : IntKind) (w : World) (a : Option Addr) (len cap : Nat) (zs : List Int) : Prop :=
  (a = none ∧ len = 0 ∧ cap = 0 ∧ zs = []) ∨
  ∃ x, a = some x ∧ len ≤ cap ∧ cap ≤ maxLen ∧ zs.length = cap ∧ (∀ i, i < zs.length → w.cell? (x.add i) = some (.int k (zs.getD i 0))) ∧ ∀ n ∈ zs, (Lit.int k n).wf = true

theorem isRow_of {H : Type} {enc : TypeId × Value → H} {k : IntKind} {t e : TypeId} {W : World} {a : Option Addr} {len cap : Nat} {d : DataW H} {p : List MemPlace} (ht : Tryd.prog.underlying t = some (.slice e)) (he : Tryd.prog.underlying e = some (.int k)) (hc : Tryd.prog.cellsOf e = 1)
    (h : DataW.Trod enc Tryd.prog W 0 (fun _ => true) true t (.slice a len cap) d p) : ∃ zs, IsRow k W a len cap zs := by
  obtain ⟨fuel, hf⟩ := h
  rcases open_ints ht he hc hf with ⟨hcs, _⟩ | ⟨x, l, c, zs, hcs, _, hl, hm, hz, _, hcell, hwz⟩
  · simp [Value.cells] at hcs
    obtain ⟨rfl, rfl, rfl⟩ := hcs
    exact ⟨[], .inl ⟨rfl, rfl, rfl, rfl⟩⟩
  · simp [Value.cells] at hcs
    obtain ⟨rfl, rfl, rfl⟩ := hcs
    exact ⟨zs, .inr ⟨_, rfl, hl, hm, by simpa using hz, hcell, hwz⟩⟩

/-- The same, with the form's own reach. -/
theorem isRow_sized {H : Type} {enc : TypeId × Value → H} {k : IntKind} {t e : TypeId} {W : World} {a : Option Addr} {len cap B j : Nat} {d : DataW H} {p : List MemPlace} {ts : List TypeId} {ds : List (DataW H)}
    (hsz : (DataW.weightsEach Tryd.prog ts ds).all (· ≤ reachBytes) = true) (hj : ts[j]? = some t) (hd : ds[j]? = some d) (ht : Tryd.prog.underlying t = some (.slice e)) (he : Tryd.prog.underlying e = some (.int k)) (hc : Tryd.prog.cellsOf e = 1) (hb : Tryd.prog.bytesOf e = B)
    (h : DataW.Trod enc Tryd.prog W 0 (fun _ => true) true t (.slice a len cap) d p) : ∃ zs, IsRow k W a len cap zs ∧ cap * B ≤ 140737488351232 := by
  obtain ⟨fuel, hf⟩ := h
  rcases open_ints ht he hc hf with ⟨hcs, _⟩ | ⟨x, l, c, zs, hcs, _, hl, hm, hz, hx, hcell, hwz⟩
  · simp [Value.cells] at hcs
    obtain ⟨rfl, rfl, rfl⟩ := hcs
    exact ⟨[], .inl ⟨rfl, rfl, rfl, rfl⟩, by omega⟩
  · simp [Value.cells] at hcs
    obtain ⟨rfl, rfl, rfl⟩ := hcs
    refine ⟨zs, .inr ⟨_, rfl, hl, hm, by simpa using hz, hcell, hwz⟩, ?_⟩
    simp only [Prod.mk.injEq] at hx
    rw [hx.1] at hd
    have hs := sized_slice hsz hj hd ht
    have hz' : zs.length = cap := by simpa using hz
    have e1 : (lits k (zs.take len) : List (DataW H)).length + (lits k (zs.drop len) : List (DataW H)).length = cap := by
      simp only [lits, List.length_map, List.length_take, List.length_drop]
      omega
    rw [e1, hb] at hs
    exact hs

end Go.Proofs.YtoigpjaffggekaaDoor

namespace Go.Proofs.YtoigpjaffggekaaDoor
open Go.ChangeShapes Go.WideShapes Go.ChangeAt Go.RowKit
set_option linter.unusedVariables false
set_option linter.unusedSimpArgs false

/-- A point that came in. -/
theorem open_Ed {H : Type} {enc : TypeId × Value → H} {W : World} {r : Reach} {b0 : Nat} {v : Value} {d : DataW H} {p : List MemPlace} (hv : Value.okWide Tryd.prog W r b0 25 v)
    (h : DataW.Trod enc Tryd.prog W 0 (fun _ => true) true 25 v d p) : ∃ (x y : Int), v = .agg #[.int .u64 x, .int .u64 y] ∧ (Lit.int .u64 x).wf = true ∧ (Lit.int .u64 y).wf = true := by
  obtain ⟨v1, v2, y1, y2, n, rfl, _, _, h1, h2⟩ := Go.Joins.open_agg2 Tryd.underlying25 (by kernel_rfl) (by kernel_rfl) hv h
  obtain ⟨a, e1, _, wa⟩ := DataW.trod_int Tryd.underlying22 h1
  obtain ⟨b, e2, _, wb⟩ := DataW.trod_int Tryd.underlying22 h2
  simp at e1 e2
  subst e1 e2
  exact ⟨a, b, rfl, wa, wb⟩
end Go.Proofs.YtoigpjaffggekaaDoor

namespace Go.Proofs.YtoigpjaffggekaaDoor
open Go.ChangeShapes Go.WideShapes Go.ChangeAt Go.RowKit
set_option linter.unusedVariables false
set_option linter.unusedSimpArgs false

def tabNums : List Int := [0, 1, 56, 2, 57, 49, 28, 3, 61, 58, 42, 50, 38, 29, 17, 4, 62, 47, 59, 36, 45, 43, 51, 22, 53, 39, 33, 30, 24, 18, 12, 5, 63, 55, 48, 27, 60, 41, 37, 16, 46, 35, 44, 21, 52, 32, 23, 11, 54, 26, 40, 15, 34, 20, 31, 10, 25, 14, 19, 9, 13, 8, 7, 6]
def firstI : List Int := Ob.firstT.map Int.ofNat
def rowsI : List (List Int) := Ob.sigT.map fun l => l.map Int.ofNat
def plcI : List (List Int) := Ob.plcT.map fun l => l.map Int.ofNat
def laidTab : List (String × DataW Unit) := Rows.edwardsFindsRow.laid
theorem laidTab_eq : laidTab = [("math/bits.deBruijn64tab", Lib.tabData .u8 tabNums), ("obol/blake.beginning", Lib.tabData .u32 firstI), ("obol/blake.rows", .agg (rowsI.map (Lib.tabData .u8))), ("obol/blake.places", .agg (plcI.map (Lib.tabData .u8)))] := rfl
theorem gTab : Tryd.prog.globalNamed "math/bits.deBruijn64tab" = some 0 := by kernel_rfl
theorem tTab : (Tryd.prog.globals[0]?).map (·.type) = some 88 := by kernel_rfl

/-- A table of rows, cell by cell. -/
theorem cells_of_tab2 {H : Type} {enc : TypeId × Value → H} {P : Program} {w : World} {base : Nat} {sp : Nat → Bool} {held : Bool} {fuel : Nat} {t e1 e : TypeId} {n m : Nat} {k : IntKind} {cs : List Value} {zss : List (List Int)} {p : List MemPlace}
    (ht : P.underlying t = some (.array n e1)) (he1 : P.underlying e1 = some (.array m e)) (he : P.underlying e = some (.int k)) (hce : P.cellsOf e = 1) (hce1 : P.cellsOf e1 = m) (hct : P.cellsOf t = n * m)
    (h : DataW.trod enc P w base sp held fuel t cs = some (.agg (zss.map (Lib.tabData k)), p)) (i j : Nat) (hi : i < n) (hj : j < m) : cs[i * m + j]? = some (.int k ((zss.getD i []).getD j 0)) := by
  cases fuel with
  | zero => simp [DataW.trod] at h
  | succ fuel =>
    simp only [DataW.trod, ht, hce1, hct] at h
    split at h
    · rename_i hl
      obtain ⟨xs, hm, hx⟩ := Option.map_eq_some_iff.1 h
      have hxs : xs.map (·.1) = zss.map (Lib.tabData (H := H) k) := by
        have := congrArg Prod.fst hx
        simpa using this
      have hxl : xs.length = n := by simpa using Lib.mapM_length hm
      have hzl : zss.length = n := by
        have := congrArg List.length hxs
        simp at this
        omega
      obtain ⟨b, hb, hf⟩ := Lib.mapM_at hm i i (by simp [hi])
      have h2 : (xs.map (·.1))[i]? = some b.1 := by simp [hb]
      rw [hxs, List.getElem?_map, List.getElem?_eq_getElem (by omega)] at h2
      have hb1 : b.1 = Lib.tabData k (zss.getD i []) := by
        simp only [Option.map_some, Option.some.injEq] at h2
        rw [← h2, List.getD_eq_getElem?_getD, List.getElem?_eq_getElem (by omega)]
        rfl
      obtain ⟨b1, b2⟩ := b
      simp only at hb1
      subst hb1
      have hc := Lib.cells_of_tab he1 he hce hce1 hf
      have hg := congrArg (·[j]?) hc
      simp only [List.getElem?_take, List.getElem?_drop, hj, if_true, List.getElem?_map] at hg
      rw [hg]
      have hlen : j < (zss.getD i []).length := by
        have := congrArg List.length hc
        simp only [List.length_take, List.length_drop, List.length_map] at this
        have hb' : (i + 1) * m ≤ n * m := Nat.mul_le_mul_right _ hi
        rw [Nat.add_mul, Nat.one_mul] at hb'
        omega
      rw [List.getElem?_eq_getElem hlen, List.getD_eq_getElem?_getD (l := zss.getD i []), List.getElem?_eq_getElem hlen]
      rfl
    · cases h

theorem gFirst : Tryd.prog.globalNamed "obol/blake.beginning" = some 3 := by kernel_rfl
theorem gRows : Tryd.prog.globalNamed "obol/blake.rows" = some 5 := by kernel_rfl
theorem gPlc : Tryd.prog.globalNamed "obol/blake.places" = some 4 := by kernel_rfl
theorem tFirst : (Tryd.prog.globals[3]?).map (·.type) = some 68 := by kernel_rfl
theorem tRows : (Tryd.prog.globals[5]?).map (·.type) = some 98 := by kernel_rfl
theorem tPlc : (Tryd.prog.globals[4]?).map (·.type) = some 96 := by kernel_rfl

theorem firstI_get : ∀ j : Fin 8, (firstI.map fun z => Value.int .u32 z)[j.val]? = some (.int .u32 ((Ob.first j.val : Nat) : Int)) := by
  intro j
  have h : ∀ j : Fin 8, firstI[j.val]? = some ((Ob.first j.val : Nat) : Int) := by decide +kernel
  rw [List.getElem?_map, h j]
  rfl
theorem rowsI_get : ∀ (i : Fin 10) (j : Fin 16), (rowsI.getD i.val []).getD j.val 0 = ((Ob.sig i.val j.val : Nat) : Int) := by decide +kernel
theorem plcI_get : ∀ (i : Fin 8) (j : Fin 4), (plcI.getD i.val []).getD j.val 0 = ((Ob.plc i.val j.val : Nat) : Int) := by decide +kernel

theorem tabs_of_laid {W : World} (h : laidMetH Tryd.prog laidTab W) : TabOk W ∧ Tabs W := by
  rw [MakeChecks.laidMetH_plain _ _ _ (by kernel_rfl)] at h
  rw [laidTab_eq] at h
  obtain ⟨ps, ⟨g0, t0, cs0, fuel0, p0, q0, hg0, ht0, hvar0, hd0, ⟨g, t, cs, fuel, p, q, hg, ht, hvar, hd, ⟨g', t', cs', fuel', p', q', hg', ht', hvar', hd', ⟨g2, t2, cs2, fuel2, p2, q2, hg2, ht2, hvar2, hd2, _, _⟩, _⟩, _⟩, _⟩, _⟩ := h
  obtain rfl := Option.some.inj (gTab.symm.trans hg0)
  obtain rfl := Option.some.inj (tTab.symm.trans ht0)
  obtain rfl := Option.some.inj (gFirst.symm.trans hg)
  obtain rfl := Option.some.inj (tFirst.symm.trans ht)
  obtain rfl := Option.some.inj (gRows.symm.trans hg')
  obtain rfl := Option.some.inj (tRows.symm.trans ht')
  obtain rfl := Option.some.inj (gPlc.symm.trans hg2)
  obtain rfl := Option.some.inj (tPlc.symm.trans ht2)
  have c1 := Lib.cells_of_tab Tryd.underlying68 Tryd.underlying67 (by kernel_rfl) (by kernel_rfl) hd
  have r1 : ∀ i j, i < 10 → j < 16 → W.cell? ⟨5, i * 16 + j, none⟩ = some (.int .u8 (Ob.sig i j : Nat)) := fun i j hi hj => by
    have := cells_of_tab2 Tryd.underlying98 Tryd.underlying97 Tryd.underlying5 (by kernel_rfl) (by kernel_rfl) (by kernel_rfl) hd' i j hi hj
    rw [rowsI_get ⟨i, hi⟩ ⟨j, hj⟩] at this
    rw [World.var?_cell hg' hvar' (i * 16 + j)]
    rw [← this, Array.getElem?_toList]
  have r2 : ∀ i j, i < 8 → j < 4 → W.cell? ⟨4, i * 4 + j, none⟩ = some (.int .u8 (Ob.plc i j : Nat)) := fun i j hi hj => by
    have := cells_of_tab2 Tryd.underlying96 Tryd.underlying95 Tryd.underlying5 (by kernel_rfl) (by kernel_rfl) (by kernel_rfl) hd2 i j hi hj
    rw [plcI_get ⟨i, hi⟩ ⟨j, hj⟩] at this
    rw [World.var?_cell hg2 hvar2 (i * 4 + j)]
    rw [← this, Array.getElem?_toList]
  have r0 : ∀ j, j < 8 → W.cell? ⟨3, j, none⟩ = some (.int .u32 (Ob.first j : Nat)) := fun j hj => by
    rw [World.var?_cell hg hvar j, ← firstI_get ⟨j, hj⟩, ← c1, Array.getElem?_toList]
  have l0 := World.block_lt_of_cell? _ _ (r0 0 (by decide))
  have l1 := World.block_lt_of_cell? _ _ (r1 0 0 (by decide) (by decide))
  have l2 := World.block_lt_of_cell? _ _ (r2 0 0 (by decide) (by decide))
  have hcs := Lib.cells_of_tab Tryd.underlying88 Tryd.underlying5 (by kernel_rfl) (by kernel_rfl) hd0
  have hTab : TabOk W := by
    have hc := World.var?_cell hg0 hvar0 29
    obtain ⟨l⟩ := cs0
    simp only at hcs
    subst hcs
    show W.cell? _ = _
    rw [hc]
    rfl
  refine ⟨hTab, ?_⟩
  exact ⟨by simp at l0 l1 l2; omega, ⟨l0, r0⟩, r1, r2⟩

theorem door_met (os : Os) (args : Array Value) : laidMetH Tryd.prog laidTab ((World.doorLaid Tryd.prog 400 os).forCall (fun _ _ => 0) ⟨#[], args, []⟩).memory :=
  laidMetH_of_parts3 (fuel := 8) (laidMet_of_run' 8 (by kernel_rfl) (by kernel_rfl)) (by kernel_rfl) (by kernel_rfl)
end Go.Proofs.YtoigpjaffggekaaDoor
