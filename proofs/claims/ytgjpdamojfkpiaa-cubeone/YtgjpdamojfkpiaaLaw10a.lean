/-
  The walks of layer 10's statements on turned numbers and on hashes, over what package cube's calls answer.
-/
import Derived.Test.YtgjpdamojfkpiaaRefK
import Derived.Test.YtgjpdamojfkpiaaUp10
import Derived.Test.YtgjpdamojfkpiaaWds
namespace Go.Proofs.Ytgjpdamojfkpiaa
open Go.RowKit Go.Proofs
set_option linter.unusedVariables false
set_option linter.unusedSimpArgs false
attribute [local go_sem ↓] Go.wp_at_zero Go.wp_at_succ

set_option maxHeartbeats 1000000 in
theorem cturns_core (k x y r : Int) (hr : x % 288230376287764481 = r) (hr2 : x.tmod 288230376287764481 = r) (w : World)
   (cu : ∀ w, Calls Try.prog 9 #[] w fun e w' => e = .returned (.bool true) ∧ Below w.heap.size w w')
   (ct : ∀ w, Calls Try.prog 10 #[.int .u64 k, .int .u64 x] w fun e w' => e = .returned (.int .u64 y) ∧ Below w.heap.size w w')
   (cr : ∀ w, Calls Try.prog 11 #[.int .u64 k, .int .u64 x] w fun e w' => e = .returned (.int .u64 y) ∧ w = w')
   (cb : ∀ w, Calls Try.prog 12 #[.int .u64 k, .int .u64 y] w fun e w' => e = .returned (.int .u64 r) ∧ Below w.heap.size w w') :
    Calls Try.prog 3 #[.int .u64 k, .int .u64 x] w fun e w' => e = .returned (.bool true) ∧ Below w.heap.size w w' := by
  go_enter Try.func3, Try.ntmps3
  go_wp2_with (first | (go_at_call 9; first | (with_reducible refine (cu _).mono ?_; rintro e w_cu ⟨rfl, b_cu⟩; have z_cu := b_cu.size; (try simp only [szs] at z_cu))) | (go_at_call 10; first | (with_reducible refine (ct _).mono ?_; rintro e w_ct ⟨rfl, b_ct⟩; have z_ct := b_ct.size; (try simp only [szs] at z_ct))) | (go_at_call 11; first | (with_reducible refine (cr _).mono ?_; rintro e w' ⟨rfl, rfl⟩)) | (go_at_call 12; first | (with_reducible refine (cb _).mono ?_; rintro e w_cb ⟨rfl, b_cb⟩; have z_cb := b_cb.size; (try simp only [szs] at z_cb))))
  go_ret
  exact ⟨rfl, by (repeat' (first | (with_reducible first | exact Below.refl _ _ | assumption | refine Below.alloc ?_ ?_ _ | refine Below.drew ?_ | refine below_drewN ?_ _ | refine Below.setCell ?_ ?_ _ | refine below_via (by with_reducible assumption) ?_ ?_) | omega | (simp only [szs]; omega) | (simp only [szs] at *; omega)))⟩
theorem cturns_of (k x : Nat) (hk : k < 18446744073709551616) (hx : x < 18446744073709551616) (w : World)
   (cu : ∀ w, Calls Try.prog 9 #[] w fun e w' => e = .returned (.bool true) ∧ Below w.heap.size w w')
   (ct : ∀ (k x : Nat), k < 18446744073709551616 → x < 18446744073709551616 → Ans 10 #[.int .u64 k, .int .u64 x] (Ob.turnG (Ob.toG k) (Ob.toG x)).val)
   (cb : ∀ (k x : Nat), k < 18446744073709551616 → x < 18446744073709551616 → Ans 12 #[.int .u64 k, .int .u64 x] (Ob.backG (Ob.toG k) (Ob.toG x)).val) :
    Calls Try.prog 3 #[.int .u64 k, .int .u64 x] w fun e w' => e = .returned (.bool true) ∧ Below w.heap.size w w' := by
  have cb0 := cb k (Ob.turnG (Ob.toG k) (Ob.toG x)).val hk (G_lt _)
  rw [Ob.toG_of_val, Ob.back_turn] at cb0
  exact cturns_core _ _ _ _ (rest_toG x) (rest_toG2 x) w cu (ct k x hk hx) (kturnW k x hk hx) cb0
set_option maxHeartbeats 1000000 in
theorem cbacks_core (k x y r : Int) (hx : x < 288230376287764481) (hr : y % 288230376287764481 = r) (hr2 : y.tmod 288230376287764481 = r) (w : World)
   (cu : ∀ w, Calls Try.prog 9 #[] w fun e w' => e = .returned (.bool true) ∧ Below w.heap.size w w')
   (cb : ∀ w, Calls Try.prog 12 #[.int .u64 k, .int .u64 y] w fun e w' => e = .returned (.int .u64 x) ∧ Below w.heap.size w w')
   (cr : ∀ w, Calls Try.prog 11 #[.int .u64 k, .int .u64 x] w fun e w' => e = .returned (.int .u64 r) ∧ w = w') :
    Calls Try.prog 4 #[.int .u64 k, .int .u64 y] w fun e w' => e = .returned (.bool true) ∧ Below w.heap.size w w' := by
  go_enter Try.func4, Try.ntmps4
  go_wp2_with (first | (go_at_call 9; first | (with_reducible refine (cu _).mono ?_; rintro e w_cu ⟨rfl, b_cu⟩; have z_cu := b_cu.size; (try simp only [szs] at z_cu))) | (go_at_call 11; first | (with_reducible refine (cr _).mono ?_; rintro e w' ⟨rfl, rfl⟩)) | (go_at_call 12; first | (with_reducible refine (cb _).mono ?_; rintro e w_cb ⟨rfl, b_cb⟩; have z_cb := b_cb.size; (try simp only [szs] at z_cb))))
  go_ret
  exact ⟨rfl, by (repeat' (first | (with_reducible first | exact Below.refl _ _ | assumption | refine Below.alloc ?_ ?_ _ | refine Below.drew ?_ | refine below_drewN ?_ _ | refine Below.setCell ?_ ?_ _ | refine below_via (by with_reducible assumption) ?_ ?_) | omega | (simp only [szs]; omega) | (simp only [szs] at *; omega)))⟩
theorem cbacks_of (k y : Nat) (hk : k < 18446744073709551616) (hy : y < 18446744073709551616) (w : World)
   (cu : ∀ w, Calls Try.prog 9 #[] w fun e w' => e = .returned (.bool true) ∧ Below w.heap.size w w')
   (cb : ∀ (k x : Nat), k < 18446744073709551616 → x < 18446744073709551616 → Ans 12 #[.int .u64 k, .int .u64 x] (Ob.backG (Ob.toG k) (Ob.toG x)).val) :
    Calls Try.prog 4 #[.int .u64 k, .int .u64 y] w fun e w' => e = .returned (.bool true) ∧ Below w.heap.size w w' := by
  have cr := kturnW k (Ob.backG (Ob.toG k) (Ob.toG y)).val hk (G_lt _)
  rw [Ob.toG_of_val, Ob.turn_back] at cr
  have hlt : (((Ob.backG (Ob.toG k) (Ob.toG y)).val : Nat) : Int) < 288230376287764481 := by have := (Ob.backG (Ob.toG k) (Ob.toG y)).isLt; simp only [Ob.RE] at this; omega
  exact cbacks_core _ _ _ _ hlt (rest_toG y) (rest_toG2 y) w cu (cb k y hk hy) cr
set_option maxHeartbeats 1000000 in
theorem cone_core (k x y c s q r r' t t' : Int) (b : Bool) (hr : x % 288230376287764481 = r) (hr2 : x.tmod 288230376287764481 = r) (hr' : y % 288230376287764481 = r') (hr2' : y.tmod 288230376287764481 = r') (hb : (r == r') = b) (ht : (t == t') = b) (w : World)
   (cu : ∀ w, Calls Try.prog 9 #[] w fun e w' => e = .returned (.bool true) ∧ Below w.heap.size w w')
   (c3 : ∀ w, Calls Try.prog 19 #[.int .u64 x] w fun e w' => e = .returned (.int .u64 c) ∧ w = w')
   (ct : ∀ w, Calls Try.prog 10 #[.int .u64 k, .int .u64 x] w fun e w' => e = .returned (.int .u64 t) ∧ Below w.heap.size w w')
   (ct' : ∀ w, Calls Try.prog 10 #[.int .u64 k, .int .u64 y] w fun e w' => e = .returned (.int .u64 t') ∧ Below w.heap.size w w')
   (cm : ∀ w, Calls Try.prog 20 #[.int .u64 c, .int .u64 c] w fun e w' => e = .returned (.int .u64 s) ∧ w = w')
   (cm' : ∀ w, Calls Try.prog 20 #[.int .u64 c, .int .u64 s] w fun e w' => e = .returned (.int .u64 r) ∧ w = w') :
    Calls Try.prog 8 #[.int .u64 k, .int .u64 x, .int .u64 y] w fun e w' => e = .returned (.bool true) ∧ Below w.heap.size w w' := by
  cases b with
  | true =>
    rw [beq_iff_eq] at hb ht
    subst hb ht
    go_enter Try.func8, Try.ntmps8
    go_wp2_with (first | (go_at_call 9; first | (with_reducible refine (cu _).mono ?_; rintro e w_cu ⟨rfl, b_cu⟩; have z_cu := b_cu.size; (try simp only [szs] at z_cu))) | (go_at_call 19; first | (with_reducible refine (c3 _).mono ?_; rintro e w' ⟨rfl, rfl⟩)) | (go_at_call 10; first | (with_reducible refine (ct _).mono ?_; rintro e w_ct ⟨rfl, b_ct⟩; have z_ct := b_ct.size; (try simp only [szs] at z_ct)) | (with_reducible refine (ct' _).mono ?_; rintro e w_ct' ⟨rfl, b_ct'⟩; have z_ct' := b_ct'.size; (try simp only [szs] at z_ct'))) | (go_at_call 20; first | (with_reducible refine (cm _).mono ?_; rintro e w' ⟨rfl, rfl⟩) | (with_reducible refine (cm' _).mono ?_; rintro e w' ⟨rfl, rfl⟩)))
    go_ret
    exact ⟨rfl, by (repeat' (first | (with_reducible first | exact Below.refl _ _ | assumption | refine Below.alloc ?_ ?_ _ | refine Below.drew ?_ | refine below_drewN ?_ _ | refine Below.setCell ?_ ?_ _ | refine below_via (by with_reducible assumption) ?_ ?_) | omega | (simp only [szs]; omega) | (simp only [szs] at *; omega)))⟩
  | false =>
    go_enter Try.func8, Try.ntmps8
    go_wp2_with (first | (go_at_call 9; first | (with_reducible refine (cu _).mono ?_; rintro e w_cu ⟨rfl, b_cu⟩; have z_cu := b_cu.size; (try simp only [szs] at z_cu))) | (go_at_call 19; first | (with_reducible refine (c3 _).mono ?_; rintro e w' ⟨rfl, rfl⟩)) | (go_at_call 10; first | (with_reducible refine (ct _).mono ?_; rintro e w_ct ⟨rfl, b_ct⟩; have z_ct := b_ct.size; (try simp only [szs] at z_ct)) | (with_reducible refine (ct' _).mono ?_; rintro e w_ct' ⟨rfl, b_ct'⟩; have z_ct' := b_ct'.size; (try simp only [szs] at z_ct'))) | (go_at_call 20; first | (with_reducible refine (cm _).mono ?_; rintro e w' ⟨rfl, rfl⟩) | (with_reducible refine (cm' _).mono ?_; rintro e w' ⟨rfl, rfl⟩)))
    go_ret
    exact ⟨rfl, by (repeat' (first | (with_reducible first | exact Below.refl _ _ | assumption | refine Below.alloc ?_ ?_ _ | refine Below.drew ?_ | refine below_drewN ?_ _ | refine Below.setCell ?_ ?_ _ | refine below_via (by with_reducible assumption) ?_ ?_) | omega | (simp only [szs]; omega) | (simp only [szs] at *; omega)))⟩
theorem cone_of (k x y : Nat) (hk : k < 18446744073709551616) (hx : x < 18446744073709551616) (hy : y < 18446744073709551616) (w : World)
   (cu : ∀ w, Calls Try.prog 9 #[] w fun e w' => e = .returned (.bool true) ∧ Below w.heap.size w w')
   (ct : ∀ (k x : Nat), k < 18446744073709551616 → x < 18446744073709551616 → Ans 10 #[.int .u64 k, .int .u64 x] (Ob.turnG (Ob.toG k) (Ob.toG x)).val) :
    Calls Try.prog 8 #[.int .u64 k, .int .u64 x, .int .u64 y] w fun e w' => e = .returned (.bool true) ∧ Below w.heap.size w w' := by
  have cm := gmulW (Ob.thirdG (Ob.toG x)).val (Ob.thirdG (Ob.toG x)).val (G_lt _) (G_lt _)
  rw [Ob.toG_of_val] at cm
  have cm' := gmulW (Ob.thirdG (Ob.toG x)).val (Ob.thirdG (Ob.toG x) * Ob.thirdG (Ob.toG x)).val (G_lt _) (G_lt _)
  rw [Ob.toG_of_val, Ob.toG_of_val] at cm'
  have e := Ob.cub_third (Ob.toG x)
  unfold Ob.cubG at e
  rw [e] at cm'
  refine cone_core _ _ _ _ _ 0 _ _ _ _ _ (rest_toG x) (rest_toG2 x) (rest_toG y) (rest_toG2 y) (beq_valN _ _) ?_ w cu (kthirdW x hx) (ct k x hk hx) (ct k y hk hy) cm cm'
  rw [beq_valN]
  by_cases h : Ob.toG x = Ob.toG y
  · rw [h, decide_eq_true rfl, decide_eq_true rfl]
  · rw [decide_eq_false h, decide_eq_false (fun e => h (Ob.turn_inj e))]
end Go.Proofs.Ytgjpdamojfkpiaa
