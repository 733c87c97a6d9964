/-
  Joined texts: The walks of package schnorr: Point, Sign, Turn, TurnPoint.
-/
import Derived.Test.YtdhbkhmknnlmnaaDoorJ5

namespace Go.Proofs.YtdhbkhmknnlmnaaDoor
open Go.RowKit Go.Proofs
set_option linter.unusedVariables false
set_option linter.unusedSimpArgs false
attribute [local go_sem ↓] Go.wp_at_zero Go.wp_at_succ
attribute [local irreducible] Ob.gmul Ob.gadd
set_option maxHeartbeats 1000000 in
theorem spoint_yes (k x y : Int) (w : World)
   (ck : ∀ w, Calls Tryd.prog 24 #[.int .u64 k] w fun e w' => e = .returned (.bool true) ∧ w = w')
   (cf : ∀ w, Calls Tryd.prog 25 #[.int .u64 k] w fun e w' => e = .returned (.agg #[.int .u64 x, .int .u64 y]) ∧ Below w.heap.size w w') :
    Calls Tryd.prog 10 #[.int .u64 k] w fun e w' => e = .returned (.tuple #[.agg #[.int .u64 x, .int .u64 y], .nilIface]) ∧ Below w.heap.size w w' := by
  go_enter Tryd.func10, Tryd.ntmps10
  go_wp2_with (first | (go_at_call 24; first | (with_reducible refine (ck _).mono ?_; rintro e w' ⟨rfl, rfl⟩)) | (go_at_call 25; first | (with_reducible refine (cf _).mono ?_; rintro e w_cf ⟨rfl, b_cf⟩; have z_cf := b_cf.size; (try simp only [szs] at z_cf); (try (have q_cf_0 := own2 b_cf (w.heap.size) (by first | omega | (simp only [szs]; omega)))))))
  exact bodyPost_ret (v := .tuple #[.agg #[.int .u64 x, .int .u64 y], .nilIface]) (by simp [results, Tryd.results10, go_sem, *]) rfl ⟨rfl, by (repeat' (first | (with_reducible first | exact Below.refl _ _ | assumption | refine Below.alloc ?_ ?_ _ | refine Below.drew ?_ | refine below_drewN ?_ _ | refine Below.setCell ?_ ?_ _ | refine below_via (by with_reducible assumption) ?_ ?_) | omega | (simp only [szs]; omega) | (simp only [szs] at *; omega)))⟩
set_option maxHeartbeats 1000000 in
theorem spoint_no (k : Int) (w : World)
   (ck : ∀ w, Calls Tryd.prog 24 #[.int .u64 k] w fun e w' => e = .returned (.bool false) ∧ w = w') :
    Calls Tryd.prog 10 #[.int .u64 k] w fun e w' => e = .returned (.tuple #[.agg #[.int .u64 0, .int .u64 0], .iface 31 (.int .i64 1)]) ∧ Below w.heap.size w w' := by
  go_enter Tryd.func10, Tryd.ntmps10
  go_wp2_with (first | (go_at_call 24; first | (with_reducible refine (ck _).mono ?_; rintro e w' ⟨rfl, rfl⟩)))
  exact bodyPost_ret (v := .tuple #[.agg #[.int .u64 0, .int .u64 0], .iface 31 (.int .i64 1)]) (by simp [results, Tryd.results10, go_sem, *]) rfl ⟨rfl, by (repeat' (first | (with_reducible first | exact Below.refl _ _ | assumption | refine Below.alloc ?_ ?_ _ | refine Below.drew ?_ | refine below_drewN ?_ _ | refine Below.setCell ?_ ?_ _ | refine below_via (by with_reducible assumption) ?_ ?_) | omega | (simp only [szs]; omega) | (simp only [szs] at *; omega)))⟩
theorem spointW (k : Nat) (hk : isKey k = true) (w : World) :
    Calls Tryd.prog 10 #[.int .u64 k] w fun e w' => e = .returned (.tuple #[edV (Ob.gmul Ob.gGen k), .nilIface]) ∧ Below w.heap.size w w' :=
  spoint_yes _ _ _ w (fun w => by rw [← hk]; exact skeyW k w) (sfirstW k (by have := of_decide_eq_true hk; omega))
theorem spointNo (k : Nat) (hk : isKey k = false) (w : World) :
    Calls Tryd.prog 10 #[.int .u64 k] w fun e w' => e = .returned (.tuple #[.agg #[.int .u64 0, .int .u64 0], .iface 31 (.int .i64 1)]) ∧ Below w.heap.size w w' :=
  spoint_no _ w (fun w => by rw [← hk]; exact skeyW k w)
set_option maxHeartbeats 4000000 in
theorem ssign_core (k n ax ay kx ky q r z : Int) (ad : Option Addr) (m c : Nat) (u : Nat → Nat) (w : World) (hS : SrcY w.heap.size w ad m u)
   (ck : ∀ w, Calls Tryd.prog 24 #[.int .u64 k] w fun e w' => e = .returned (.bool true) ∧ w = w')
   (cn : ∀ w, Calls Tryd.prog 24 #[.int .u64 n] w fun e w' => e = .returned (.bool true) ∧ w = w')
   (fk : ∀ w, Calls Tryd.prog 25 #[.int .u64 k] w fun e w' => e = .returned (.agg #[.int .u64 kx, .int .u64 ky]) ∧ Below w.heap.size w w')
   (fn : ∀ w, Calls Tryd.prog 25 #[.int .u64 n] w fun e w' => e = .returned (.agg #[.int .u64 ax, .int .u64 ay]) ∧ Below w.heap.size w w')
   (cq : ∀ W, Below w.heap.size w W → SrcY W.heap.size W ad m u → Calls Tryd.prog 26 #[.agg #[.int .u64 ax, .int .u64 ay], .agg #[.int .u64 kx, .int .u64 ky], .slice ad m c] W fun e w' => e = .returned (.int .u64 q) ∧ Below W.heap.size W w')
   (cm : ∀ w, Calls Tryd.prog 28 #[.int .u64 72057593894066549, .int .u64 q, .int .u64 k] w fun e w' => e = .returned (.int .u64 r) ∧ ∃ n, w' = w.drewN n)
   (cp : ∀ w, Calls Tryd.prog 27 #[.int .u64 n, .int .u64 r] w fun e w' => e = .returned (.int .u64 z) ∧ w = w') :
    Calls Tryd.prog 14 #[.int .u64 k, .int .u64 n, .slice ad m c] w fun e w' => e = .returned (.tuple #[.agg #[.int .u64 ax, .int .u64 ay, .int .u64 z], .nilIface]) ∧ Below w.heap.size w w' := by
  have hS' : Hid (SrcY w.heap.size w ad m u) := hS
  clear hS
  go_enter Tryd.func14, Tryd.ntmps14
  go_upto_region 3 with (first | (go_at_call 24; first | (with_reducible refine (ck _).mono ?_; rintro e w' ⟨rfl, rfl⟩) | (with_reducible refine (cn _).mono ?_; rintro e w' ⟨rfl, rfl⟩)))
  go_upto_region 4 with (go_at_call 25; (with_reducible refine (fn _).mono ?_); rintro e w1 ⟨rfl, b1⟩; have z1 := b1.size; (try simp only [szs] at z1); have q1 := own3 b1 w.heap.size (by first | omega | (simp only [szs]; omega)))
  have t1 : Three (w1.alloc (.cells #[.int .u64 ax, .int .u64 ay] 25)) w.heap.size (.int .u64 0) (.int .u64 0) (.int .u64 0) := by (repeat' (first | (with_reducible first | assumption | exact Three.own (by with_reducible assumption) | refine Three.set ?_ _ _ _ | refine Own3.set ?_ _ _ _ | refine Three.drew ?_ | refine Three.drewN ?_ _ | refine Own3.drew ?_ | refine Own3.drewN ?_ _ | (refine Three.new ?_; simp only [szs]; done) | (refine Own3.new ?_; simp only [szs]; done) | refine Three.alloc ?_ _ | refine Own3.alloc ?_ _ | refine Three.far ?_ ?_ _ _ | refine Own3.far ?_ ?_ _ _ | refine Three.via (by with_reducible assumption) ?_ ?_ | refine Own3.via (by with_reducible assumption) ?_ ?_) | omega | (simp only [szs]; omega)))
  have t2 : Two (w1.alloc (.cells #[.int .u64 ax, .int .u64 ay] 25)) w1.heap.size (.int .u64 ax) (.int .u64 ay) := by (repeat' (first | (with_reducible first | assumption | exact Two.own (by with_reducible assumption) | refine Two.set ?_ _ _ | refine Own2.set ?_ _ _ | refine Two.drew ?_ | refine Two.drewN ?_ _ | refine Own2.drew ?_ | refine Own2.drewN ?_ _ | (refine Two.new ?_; simp only [szs]; done) | (refine Own2.new ?_; simp only [szs]; done) | refine Two.alloc ?_ _ | refine Own2.alloc ?_ _ | refine Two.far ?_ ?_ _ _ | refine Own2.far ?_ ?_ _ _ | refine Two.via (by with_reducible assumption) ?_ ?_ | refine Own2.via (by with_reducible assumption) ?_ ?_) | omega | (simp only [szs]; omega)))
  have hB1 : Below w.heap.size w (w1.alloc (.cells #[.int .u64 ax, .int .u64 ay] 25)) := by (repeat' (first | (with_reducible first | exact Below.refl _ _ | assumption | refine Below.alloc ?_ ?_ _ | refine Below.drew ?_ | refine below_drewN ?_ _ | refine Below.setCell ?_ ?_ _ | refine below_via (by with_reducible assumption) ?_ ?_) | omega | (simp only [szs]; omega) | (simp only [szs] at *; omega)))
  have n1 : w.heap.size ≠ w1.heap.size := by omega
  have n2 : w1.heap.size ≠ w.heap.size := by omega
  generalize (w1.alloc (.cells #[.int .u64 ax, .int .u64 ay] 25)) = W at *
  generalize w1.heap.size = ba at *
  clear q1 b1 z1 fn ck cn
  have ⟨d1, d2, d3, d4, d5⟩ := t2
  have ⟨e1, e2, e3, e4, e5, e6, e7⟩ := t1
  have zB := hB1.size
  go_region_held3 (fun w' => w'.cell? ⟨ba, 0, none⟩ = some (.int .u64 ax) ∧ w'.cell? ⟨ba, 1, none⟩ = some (.int .u64 ay)) (go_keep)
    (first
      | (go_at_call 25; (with_reducible refine (fk _).mono ?_); rintro e w2 ⟨rfl, b2⟩; have z2 := b2.size; (try simp only [szs] at z2); have q2 := own2 b2 ba (by first | omega | (simp only [szs]; omega)); have q2' := own3 b2 w.heap.size (by first | omega | (simp only [szs]; omega)))
      | (go_at_call 26; (with_reducible refine (cq _ (by (repeat' (first | (with_reducible first | exact Below.refl _ _ | assumption | refine Below.alloc ?_ ?_ _ | refine Below.drew ?_ | refine below_drewN ?_ _ | refine Below.setCell ?_ ?_ _ | refine below_via (by with_reducible assumption) ?_ ?_) | omega | (simp only [szs]; omega) | (simp only [szs] at *; omega)))) ((hS'.out.below (B := w.heap.size) (by (repeat' (first | (with_reducible first | exact Below.refl _ _ | assumption | refine Below.alloc ?_ ?_ _ | refine Below.drew ?_ | refine below_drewN ?_ _ | refine Below.setCell ?_ ?_ _ | refine below_via (by with_reducible assumption) ?_ ?_) | omega | (simp only [szs]; omega) | (simp only [szs] at *; omega))))).mono (by first | omega | (simp only [szs]; omega)))).mono ?_); rintro e w3 ⟨rfl, b3⟩; have z3 := b3.size; (try simp only [szs] at z3); have q3 := own2 b3 ba (by first | omega | (simp only [szs]; omega)); have q3' := own3 b3 w.heap.size (by first | omega | (simp only [szs]; omega)); have hB3' : Hid (Below w.heap.size w w3) := (by show Below _ _ _; (repeat' (first | (with_reducible first | exact Below.refl _ _ | assumption | refine Below.alloc ?_ ?_ _ | refine Below.drew ?_ | refine below_drewN ?_ _ | refine Below.setCell ?_ ?_ _ | refine below_via (by with_reducible assumption) ?_ ?_) | omega | (simp only [szs]; omega) | (simp only [szs] at *; omega))))))
  have s2 : Two w3 ba (.int .u64 ax) (.int .u64 ay) := by (repeat' (first | (with_reducible first | assumption | exact Two.own (by with_reducible assumption) | refine Two.set ?_ _ _ | refine Own2.set ?_ _ _ | refine Two.drew ?_ | refine Two.drewN ?_ _ | refine Own2.drew ?_ | refine Own2.drewN ?_ _ | (refine Two.new ?_; simp only [szs]; done) | (refine Own2.new ?_; simp only [szs]; done) | refine Two.alloc ?_ _ | refine Own2.alloc ?_ _ | refine Two.far ?_ ?_ _ _ | refine Own2.far ?_ ?_ _ _ | refine Two.via (by with_reducible assumption) ?_ ?_ | refine Own2.via (by with_reducible assumption) ?_ ?_) | omega | (simp only [szs]; omega)))
  have s1 : Three w3 w.heap.size (.int .u64 0) (.int .u64 0) (.int .u64 0) := by (repeat' (first | (with_reducible first | assumption | exact Three.own (by with_reducible assumption) | refine Three.set ?_ _ _ _ | refine Own3.set ?_ _ _ _ | refine Three.drew ?_ | refine Three.drewN ?_ _ | refine Own3.drew ?_ | refine Own3.drewN ?_ _ | (refine Three.new ?_; simp only [szs]; done) | (refine Own3.new ?_; simp only [szs]; done) | refine Three.alloc ?_ _ | refine Own3.alloc ?_ _ | refine Three.far ?_ ?_ _ _ | refine Own3.far ?_ ?_ _ _ | refine Three.via (by with_reducible assumption) ?_ ?_ | refine Own3.via (by with_reducible assumption) ?_ ?_) | omega | (simp only [szs]; omega)))
  have hB3 := hB3'.out
  clear hB3' q2 q2' b2 z2 q3 q3' b3 t1 t2 d1 d2 d3 d4 d5 e1 e2 e3 e4 e5 e6 e7 z3 zB hB1 cq fk
  have ⟨d1, d2, d3, d4, d5⟩ := s2
  have ⟨e1, e2, e3, e4, e5, e6, e7⟩ := s1
  have zB := hB3.size
  go_wp2
  go_region_held3 (fun w' => w'.cell? ⟨ba, 0, none⟩ = some (.int .u64 ax) ∧ w'.cell? ⟨ba, 1, none⟩ = some (.int .u64 ay)) (go_keep)
    ((first | (go_at_call 28; first | (with_reducible refine (cm _).mono ?_; rintro e w' ⟨rfl, nd, rfl⟩)) | (go_at_call 27; first | (with_reducible refine (cp _).mono ?_; rintro e w' ⟨rfl, rfl⟩))))
  go_wp2
  exact bodyPost_ret (v := .tuple #[.agg #[.int .u64 ax, .int .u64 ay, .int .u64 z], .nilIface]) (by simp [results, Tryd.results14, go_sem, *]) rfl ⟨rfl, by (repeat' (first | (with_reducible first | exact Below.refl _ _ | assumption | refine Below.alloc ?_ ?_ _ | refine Below.drew ?_ | refine below_drewN ?_ _ | refine Below.setCell ?_ ?_ _ | refine below_via (by with_reducible assumption) ?_ ?_) | omega | (simp only [szs]; omega) | (simp only [szs] at *; omega)))⟩
set_option maxHeartbeats 1000000 in
theorem ssign_no (k n : Int) (q : Bool) (v : Value) (w : World)
   (ck : ∀ w, Calls Tryd.prog 24 #[.int .u64 k] w fun e w' => e = .returned (.bool q) ∧ w = w')
   (cn : ∀ w, Calls Tryd.prog 24 #[.int .u64 n] w fun e w' => e = .returned (.bool false) ∧ w = w') :
    Calls Tryd.prog 14 #[.int .u64 k, .int .u64 n, v] w fun e w' => e = .returned (.tuple #[.agg #[.int .u64 0, .int .u64 0, .int .u64 0], .iface 31 (.int .i64 1)]) ∧ Below w.heap.size w w' := by
  cases q
  · go_enter Tryd.func14, Tryd.ntmps14
    go_wp2_with (first | (go_at_call 24; first | (with_reducible refine (ck _).mono ?_; rintro e w' ⟨rfl, rfl⟩) | (with_reducible refine (cn _).mono ?_; rintro e w' ⟨rfl, rfl⟩)))
    exact bodyPost_ret (v := .tuple #[.agg #[.int .u64 0, .int .u64 0, .int .u64 0], .iface 31 (.int .i64 1)]) (by simp [results, Tryd.results14, go_sem, *]) rfl ⟨rfl, by (repeat' (first | (with_reducible first | exact Below.refl _ _ | assumption | refine Below.alloc ?_ ?_ _ | refine Below.drew ?_ | refine below_drewN ?_ _ | refine Below.setCell ?_ ?_ _ | refine below_via (by with_reducible assumption) ?_ ?_) | omega | (simp only [szs]; omega) | (simp only [szs] at *; omega)))⟩
  · go_enter Tryd.func14, Tryd.ntmps14
    go_wp2_with (first | (go_at_call 24; first | (with_reducible refine (ck _).mono ?_; rintro e w' ⟨rfl, rfl⟩) | (with_reducible refine (cn _).mono ?_; rintro e w' ⟨rfl, rfl⟩)))
    exact bodyPost_ret (v := .tuple #[.agg #[.int .u64 0, .int .u64 0, .int .u64 0], .iface 31 (.int .i64 1)]) (by simp [results, Tryd.results14, go_sem, *]) rfl ⟨rfl, by (repeat' (first | (with_reducible first | exact Below.refl _ _ | assumption | refine Below.alloc ?_ ?_ _ | refine Below.drew ?_ | refine below_drewN ?_ _ | refine Below.setCell ?_ ?_ _ | refine below_via (by with_reducible assumption) ?_ ?_) | omega | (simp only [szs]; omega) | (simp only [szs] at *; omega)))⟩
set_option maxHeartbeats 1000000 in
theorem ssign_nokey (k n : Int) (v : Value) (w : World)
   (ck : ∀ w, Calls Tryd.prog 24 #[.int .u64 k] w fun e w' => e = .returned (.bool false) ∧ w = w') :
    Calls Tryd.prog 14 #[.int .u64 k, .int .u64 n, v] w fun e w' => e = .returned (.tuple #[.agg #[.int .u64 0, .int .u64 0, .int .u64 0], .iface 31 (.int .i64 1)]) ∧ Below w.heap.size w w' := by
  go_enter Tryd.func14, Tryd.ntmps14
  go_wp2_with (first | (go_at_call 24; first | (with_reducible refine (ck _).mono ?_; rintro e w' ⟨rfl, rfl⟩)))
  exact bodyPost_ret (v := .tuple #[.agg #[.int .u64 0, .int .u64 0, .int .u64 0], .iface 31 (.int .i64 1)]) (by simp [results, Tryd.results14, go_sem, *]) rfl ⟨rfl, by (repeat' (first | (with_reducible first | exact Below.refl _ _ | assumption | refine Below.alloc ?_ ?_ _ | refine Below.drew ?_ | refine below_drewN ?_ _ | refine Below.setCell ?_ ?_ _ | refine below_via (by with_reducible assumption) ?_ ?_) | omega | (simp only [szs]; omega) | (simp only [szs] at *; omega)))⟩
/-- The question of a signature by key k and nonce n. -/
def sigQ (k n : Nat) (u : Nat → Nat) (m : Nat) : Nat := askN (Ob.edN (Ob.gmul Ob.gGen n)) (Ob.edN (Ob.gmul Ob.gGen k)) u m
/-- A signature's number. -/
def sigN (k n : Nat) (u : Nat → Nat) (m : Nat) : Nat := (n + sigQ k n u m * k % 72057593894066549) % 72057593894066549
/-- A signature as a value. -/
def sgV (a : Ob.Ep) (z : Nat) : Value := .agg #[.int .u64 (a.1.val : Nat), .int .u64 (a.2.val : Nat), .int .u64 (z : Nat)]
theorem word_rest (a : Nat) : a % 72057593894066549 < 18446744073709551616 := Nat.lt_trans (Nat.mod_lt _ (by decide)) (by decide)
theorem ssignW (k n : Nat) (hk : isKey k = true) (hn : isKey n = true) (ad : Option Addr) (m c : Nat) (hm : m ≤ 140737488351232) (u : Nat → Nat) (hu : ∀ i, u i < 256) (w : World) (hT : Tabs w) (hS : SrcY w.heap.size w ad m u) :
    Calls Tryd.prog 14 #[.int .u64 k, .int .u64 n, .slice ad m c] w fun e w' => e = .returned (.tuple #[sgV (Ob.gmul Ob.gGen n) (sigN k n u m), .nilIface]) ∧ Below w.heap.size w w' := by
  have lk := of_decide_eq_true hk
  have ln := of_decide_eq_true hn
  have cm := fun w => mul_any 72057593894066549 (sigQ k n u m) k w (by decide) (word_rest _) (by omega)
  rw [Ob.mul_yes ⟨by decide, by decide⟩] at cm
  exact ssign_core _ _ _ _ _ _ (sigQ k n u m : Nat) _ _ ad m c u w hS (fun w => by rw [← hk]; exact skeyW k w) (fun w => by rw [← hn]; exact skeyW n w) (sfirstW k (by omega)) (sfirstW n (by omega))
    (fun W hB hs => squestW (Ob.onG_mul Ob.onG_gen n) (Ob.onG_mul Ob.onG_gen k) ad m c hm u hu W (hT.below hB hT.lt) hs)
    cm (splusW n _ (by omega) (word_rest _))
theorem ssignNo (k n : Nat) (h : (isKey k && isKey n) = false) (v : Value) (w : World) :
    Calls Tryd.prog 14 #[.int .u64 k, .int .u64 n, v] w fun e w' => e = .returned (.tuple #[.agg #[.int .u64 0, .int .u64 0, .int .u64 0], .iface 31 (.int .i64 1)]) ∧ Below w.heap.size w w' := by
  cases hk : isKey k with
  | false => exact ssign_nokey _ _ v w (fun w => by rw [← hk]; exact skeyW k w)
  | true =>
    rw [hk, Bool.true_and] at h
    exact ssign_no _ _ (isKey k) v w (skeyW k) (fun w => by rw [← h]; exact skeyW n w)
theorem sturn_no (k t : Int) (q : Bool) (w : World) (h : q = false ∨ 72057593894066549 ≤ t)
   (ck : ∀ w, Calls Tryd.prog 24 #[.int .u64 k] w fun e w' => e = .returned (.bool q) ∧ w = w') :
    Calls Tryd.prog 21 #[.int .u64 k, .int .u64 t] w fun e w' => e = .returned (.tuple #[.int .u64 0, .iface 31 (.int .i64 1)]) ∧ w = w' := by
  cases q
  · clear h
    go_enter Tryd.func21, Tryd.ntmps21
    go_wp2_with (first | (go_at_call 24; first | (with_reducible refine (ck _).mono ?_; rintro e w' ⟨rfl, rfl⟩)))
    go_ret2
    exact ⟨rfl, rfl⟩
  · have h1 : 72057593894066549 ≤ t := by rcases h with h | h; cases h; exact h
    clear h
    go_enter Tryd.func21, Tryd.ntmps21
    go_wp2_with (first | (go_at_call 24; first | (with_reducible refine (ck _).mono ?_; rintro e w' ⟨rfl, rfl⟩)))
    go_ret2
    exact ⟨rfl, rfl⟩
theorem sturn_zero (k t : Int) (w : World) (h1 : ¬ 72057593894066549 ≤ t)
   (ck : ∀ w, Calls Tryd.prog 24 #[.int .u64 k] w fun e w' => e = .returned (.bool true) ∧ w = w')
   (cp : ∀ w, Calls Tryd.prog 27 #[.int .u64 k, .int .u64 t] w fun e w' => e = .returned (.int .u64 0) ∧ w = w') :
    Calls Tryd.prog 21 #[.int .u64 k, .int .u64 t] w fun e w' => e = .returned (.tuple #[.int .u64 0, .iface 31 (.int .i64 7)]) ∧ w = w' := by
  go_enter Tryd.func21, Tryd.ntmps21
  go_wp2_with (first | (go_at_call 24; first | (with_reducible refine (ck _).mono ?_; rintro e w' ⟨rfl, rfl⟩)) | (go_at_call 27; first | (with_reducible refine (cp _).mono ?_; rintro e w' ⟨rfl, rfl⟩)))
  go_ret2
  exact ⟨rfl, rfl⟩
theorem sturn_yes (k t r : Int) (w : World) (h1 : ¬ 72057593894066549 ≤ t) (h2 : r ≠ 0)
   (ck : ∀ w, Calls Tryd.prog 24 #[.int .u64 k] w fun e w' => e = .returned (.bool true) ∧ w = w')
   (cp : ∀ w, Calls Tryd.prog 27 #[.int .u64 k, .int .u64 t] w fun e w' => e = .returned (.int .u64 r) ∧ w = w') :
    Calls Tryd.prog 21 #[.int .u64 k, .int .u64 t] w fun e w' => e = .returned (.tuple #[.int .u64 r, .nilIface]) ∧ w = w' := by
  have h3 : (r == 0) = false := by simpa using h2
  go_enter Tryd.func21, Tryd.ntmps21
  go_wp2_with (first | (go_at_call 24; first | (with_reducible refine (ck _).mono ?_; rintro e w' ⟨rfl, rfl⟩)) | (go_at_call 27; first | (with_reducible refine (cp _).mono ?_; rintro e w' ⟨rfl, rfl⟩)))
  go_ret2
  exact ⟨rfl, rfl⟩
/-- What Turn answers. -/
def turnV (k t : Nat) : Value :=
  if isKey k = false ∨ 72057593894066549 ≤ t then .tuple #[.int .u64 0, .iface 31 (.int .i64 1)]
  else if (k + t) % 72057593894066549 = 0 then .tuple #[.int .u64 0, .iface 31 (.int .i64 7)] else .tuple #[.int .u64 ((k + t) % 72057593894066549 : Nat), .nilIface]
theorem sturnW (k t : Nat) (ht : t < 18446744073709551616) (w : World) :
    Calls Tryd.prog 21 #[.int .u64 k, .int .u64 t] w fun e w' => e = .returned (turnV k t) ∧ w = w' := by
  unfold turnV
  split
  · rename_i h
    exact sturn_no _ _ (isKey k) w (h.imp id fun h => by omega) (skeyW k)
  · rename_i h
    have hk : isKey k = true := by cases hk : isKey k with | true => rfl | false => exact absurd (Or.inl hk) h
    have lk := of_decide_eq_true hk
    have cp := splusW k t (by omega) ht
    have ck := skeyW k
    rw [hk] at ck
    split
    · rename_i h0
      rw [h0] at cp
      exact sturn_zero _ _ w (by omega) ck cp
    · exact sturn_yes _ _ _ w (by omega) (by omega) ck cp
set_option maxHeartbeats 1000000 in
theorem stpoint_no (x y t : Int) (q : Bool) (w : World) (h : q = false ∨ 72057593894066549 ≤ t)
   (ci : ∀ w, Calls Tryd.prog 40 #[.agg #[.int .u64 x, .int .u64 y]] w fun e w' => e = .returned (.bool q) ∧ Below w.heap.size w w') :
    Calls Tryd.prog 22 #[.agg #[.int .u64 x, .int .u64 y], .int .u64 t] w fun e w' => e = .returned (.tuple #[.agg #[.int .u64 0, .int .u64 0], .iface 31 (.int .i64 1)]) ∧ Below w.heap.size w w' := by
  cases q
  · clear h
    go_enter Tryd.func22, Tryd.ntmps22
    go_wp2_with (first | (go_at_call 40; first | (with_reducible refine (ci _).mono ?_; rintro e w_ci ⟨rfl, b_ci⟩; have z_ci := b_ci.size; (try simp only [szs] at z_ci); (try (have q_ci_0 := own2 b_ci (w.heap.size) (by first | omega | (simp only [szs]; omega)))); (try (have q_ci_1 := own2 b_ci (w.heap.size + 1) (by first | omega | (simp only [szs]; omega)))))))
    exact bodyPost_ret (v := .tuple #[.agg #[.int .u64 0, .int .u64 0], .iface 31 (.int .i64 1)]) (by simp [results, Tryd.results22, go_sem, *]) rfl ⟨rfl, by (repeat' (first | (with_reducible first | exact Below.refl _ _ | assumption | refine Below.alloc ?_ ?_ _ | refine Below.drew ?_ | refine below_drewN ?_ _ | refine Below.setCell ?_ ?_ _ | refine below_via (by with_reducible assumption) ?_ ?_) | omega | (simp only [szs]; omega) | (simp only [szs] at *; omega)))⟩
  · have h1 : 72057593894066549 ≤ t := by rcases h with h | h; cases h; exact h
    clear h
    go_enter Tryd.func22, Tryd.ntmps22
    go_wp2_with (first | (go_at_call 40; first | (with_reducible refine (ci _).mono ?_; rintro e w_ci ⟨rfl, b_ci⟩; have z_ci := b_ci.size; (try simp only [szs] at z_ci); (try (have q_ci_0 := own2 b_ci (w.heap.size) (by first | omega | (simp only [szs]; omega)))); (try (have q_ci_1 := own2 b_ci (w.heap.size + 1) (by first | omega | (simp only [szs]; omega)))))))
    exact bodyPost_ret (v := .tuple #[.agg #[.int .u64 0, .int .u64 0], .iface 31 (.int .i64 1)]) (by simp [results, Tryd.results22, go_sem, *]) rfl ⟨rfl, by (repeat' (first | (with_reducible first | exact Below.refl _ _ | assumption | refine Below.alloc ?_ ?_ _ | refine Below.drew ?_ | refine below_drewN ?_ _ | refine Below.setCell ?_ ?_ _ | refine below_via (by with_reducible assumption) ?_ ?_) | omega | (simp only [szs]; omega) | (simp only [szs] at *; omega)))⟩
set_option maxHeartbeats 4000000 in
theorem stpoint_yes (x y t fx fy rx ry : Int) (w : World) (h1 : ¬ 72057593894066549 ≤ t)
   (ci : ∀ w, Calls Tryd.prog 40 #[.agg #[.int .u64 x, .int .u64 y]] w fun e w' => e = .returned (.bool true) ∧ Below w.heap.size w w')
   (cf : ∀ w, Calls Tryd.prog 25 #[.int .u64 t] w fun e w' => e = .returned (.agg #[.int .u64 fx, .int .u64 fy]) ∧ Below w.heap.size w w')
   (ca : ∀ w, Calls Tryd.prog 33 #[.agg #[.int .u64 x, .int .u64 y], .agg #[.int .u64 fx, .int .u64 fy]] w fun e w' => e = .returned (.agg #[.int .u64 rx, .int .u64 ry]) ∧ Below w.heap.size w w') :
    Calls Tryd.prog 22 #[.agg #[.int .u64 x, .int .u64 y], .int .u64 t] w fun e w' => e = .returned (.tuple #[.agg #[.int .u64 rx, .int .u64 ry], .nilIface]) ∧ Below w.heap.size w w' := by
  go_enter Tryd.func22, Tryd.ntmps22
  go_wp2_with (first | (go_at_call 40; first | (with_reducible refine (ci _).mono ?_; rintro e w_ci ⟨rfl, b_ci⟩; have z_ci := b_ci.size; (try simp only [szs] at z_ci); (try (have q_ci_0 := own2 b_ci (w.heap.size) (by first | omega | (simp only [szs]; omega)))); (try (have q_ci_1 := own2 b_ci (w.heap.size + 1) (by first | omega | (simp only [szs]; omega)))))))
  go_region_held3 (fun w' => w'.cell? ⟨w.heap.size, 0, none⟩ = some (.int .u64 x) ∧ w'.cell? ⟨w.heap.size, 1, none⟩ = some (.int .u64 y)) (go_keep)
    ((first | (go_at_call 25; first | (with_reducible refine (cf _).mono ?_; rintro e w_cf ⟨rfl, b_cf⟩; have z_cf := b_cf.size; (try simp only [szs] at z_cf); (try (have q_cf_0 := own2 b_cf (w.heap.size) (by first | omega | (simp only [szs]; omega)))); (try (have q_cf_1 := own2 b_cf (w.heap.size + 1) (by first | omega | (simp only [szs]; omega)))))) | (go_at_call 33; first | (with_reducible refine (ca _).mono ?_; rintro e w_ca ⟨rfl, b_ca⟩; have z_ca := b_ca.size; (try simp only [szs] at z_ca); (try (have q_ca_0 := own2 b_ca (w.heap.size) (by first | omega | (simp only [szs]; omega)))); (try (have q_ca_1 := own2 b_ca (w.heap.size + 1) (by first | omega | (simp only [szs]; omega))))))))
  go_wp2
  exact bodyPost_ret (v := .tuple #[.agg #[.int .u64 rx, .int .u64 ry], .nilIface]) (by simp [results, Tryd.results22, go_sem, *]) rfl ⟨rfl, by (repeat' (first | (with_reducible first | exact Below.refl _ _ | assumption | refine Below.alloc ?_ ?_ _ | refine Below.drew ?_ | refine below_drewN ?_ _ | refine Below.setCell ?_ ?_ _ | refine below_via (by with_reducible assumption) ?_ ?_) | omega | (simp only [szs]; omega) | (simp only [szs] at *; omega)))⟩
/-- What TurnPoint answers. -/
def tpointV (x y t : Nat) : Value :=
  if inS x y = false ∨ 72057593894066549 ≤ t then .tuple #[.agg #[.int .u64 0, .int .u64 0], .iface 31 (.int .i64 1)]
  else .tuple #[edV (Ob.gadd (Ob.ofG x y) (Ob.gmul Ob.gGen t)), .nilIface]
theorem stpointW (x y t : Nat) (hx : x < 18446744073709551616) (hy : y < 18446744073709551616) (ht : t < 18446744073709551616) (w : World) :
    Calls Tryd.prog 22 #[.agg #[.int .u64 x, .int .u64 y], .int .u64 t] w fun e w' => e = .returned (tpointV x y t) ∧ Below w.heap.size w w' := by
  have ci := einW x y hx hy
  unfold tpointV
  split
  · rename_i h
    exact stpoint_no _ _ _ (inS x y) w (h.imp id fun h => by omega) ci
  · rename_i h
    have hk : inS x y = true := by cases hk : inS x y with | true => rfl | false => exact absurd (Or.inl hk) h
    rw [hk] at ci
    have hg : Ob.isG x y = true := by unfold inS at hk; cases hg : Ob.isG x y with | true => rfl | false => rw [hg] at hk; cases hk
    have e : edV (Ob.ofG x y) = .agg #[.int .u64 x, .int .u64 y] := (edV_yes hg).symm
    have ca := eaddE (a := Ob.ofG x y) (b := Ob.gmul Ob.gGen t) (Ob.ofG_on _ _) (Ob.onG_mul Ob.onG_gen t)
    rw [e] at ca
    exact stpoint_yes _ _ _ _ _ _ _ w (by omega) ci (sfirstW t ht) ca
end Go.Proofs.YtdhbkhmknnlmnaaDoor
