/-
  The walks of package edwards: numbers modulo R, points, their sums.
-/
import Derived.Test.YtoigpjaffggekabDoorKit3
import Derived.Test.YtoigpjaffggekabDoorInvW
import Derived.Test.YtoigpjaffggekabDoorModX
import Derived.Test.YtoigpjaffggekabDoorEdV
namespace Go.Proofs.YtoigpjaffggekabDoor
open Go.RowKit Go.Proofs
set_option linter.unusedVariables false
set_option linter.unusedSimpArgs false
attribute [local go_sem ↓] Go.wp_at_zero Go.wp_at_succ

/-! Numbers modulo R -/

theorem eplusW (a b : Nat) (ha : a < 18446744073709551616) (hb : b < 18446744073709551616) (w : World) :
    Calls Tryd.prog 29 #[.int .u64 a, .int .u64 b] w fun e w' => e = .returned (.int .u64 ((Ob.toG a + Ob.toG b).val : Nat)) ∧ w = w' := by
  have c0 : ∀ w, Calls Tryd.prog 36 #[.int .u64 288230376287764481, .int .u64 a, .int .u64 b] w fun e w' => e = .returned (.int .u64 ((Ob.toG a + Ob.toG b).val : Nat)) ∧ w = w' := fun w => by
    rw [← Ob.addG]
    exact add_any Ob.RE a b w (by decide) ha hb
  generalize (Ob.toG a + Ob.toG b).val = r at *
  go_enter Tryd.func29, Tryd.ntmps29
  go_wp2_with (first | (go_at_call 36; first | (with_reducible refine (c0 _).mono ?_; rintro e w' ⟨rfl, rfl⟩)))
  go_ret
  exact ⟨rfl, rfl⟩
theorem eminusW (a b : Nat) (ha : a < 18446744073709551616) (hb : b < 18446744073709551616) (w : World) :
    Calls Tryd.prog 28 #[.int .u64 a, .int .u64 b] w fun e w' => e = .returned (.int .u64 ((Ob.toG a - Ob.toG b).val : Nat)) ∧ w = w' := by
  have c0 : ∀ w, Calls Tryd.prog 35 #[.int .u64 288230376287764481, .int .u64 a, .int .u64 b] w fun e w' => e = .returned (.int .u64 ((Ob.toG a - Ob.toG b).val : Nat)) ∧ w = w' := fun w => by
    rw [← Ob.subG]
    exact sub_any Ob.RE a b w (by decide) ha hb
  generalize (Ob.toG a - Ob.toG b).val = r at *
  go_enter Tryd.func28, Tryd.ntmps28
  go_wp2_with (first | (go_at_call 35; first | (with_reducible refine (c0 _).mono ?_; rintro e w' ⟨rfl, rfl⟩)))
  go_ret
  exact ⟨rfl, rfl⟩
theorem etimesW (a b : Nat) (ha : a < 18446744073709551616) (hb : b < 18446744073709551616) (w : World) :
    Calls Tryd.prog 27 #[.int .u64 a, .int .u64 b] w fun e w' => e = .returned (.int .u64 ((Ob.toG a * Ob.toG b).val : Nat)) ∧ ∃ n, w' = w.drewN n := by
  have c0 : ∀ w, Calls Tryd.prog 34 #[.int .u64 288230376287764481, .int .u64 a, .int .u64 b] w fun e w' => e = .returned (.int .u64 ((Ob.toG a * Ob.toG b).val : Nat)) ∧ ∃ n, w' = w.drewN n := fun w => by
    rw [← Ob.mulG]
    exact mul_any Ob.RE a b w (by decide) ha hb
  generalize (Ob.toG a * Ob.toG b).val = r at *
  go_enter Tryd.func27, Tryd.ntmps27
  go_wp2_with (first | (go_at_call 34; first | (with_reducible refine (c0 _).mono ?_; rintro e w' ⟨rfl, nd, rfl⟩)))
  go_ret
  exact ⟨rfl, _, rfl⟩
/-- The same on elements. -/
theorem eplusF (a b : Fin Ob.RE) (w : World) :
    Calls Tryd.prog 29 #[.int .u64 (a.val : Nat), .int .u64 (b.val : Nat)] w fun e w' => e = .returned (.int .u64 ((a + b).val : Nat)) ∧ w = w' := by
  have := eplusW a.val b.val (Ob.G_word _) (Ob.G_word _) w
  rw [Ob.toG_of_val, Ob.toG_of_val] at this
  exact this
theorem eminusF (a b : Fin Ob.RE) (w : World) :
    Calls Tryd.prog 28 #[.int .u64 (a.val : Nat), .int .u64 (b.val : Nat)] w fun e w' => e = .returned (.int .u64 ((a - b).val : Nat)) ∧ w = w' := by
  have := eminusW a.val b.val (Ob.G_word _) (Ob.G_word _) w
  rw [Ob.toG_of_val, Ob.toG_of_val] at this
  exact this
theorem etimesF (a b : Fin Ob.RE) (w : World) :
    Calls Tryd.prog 27 #[.int .u64 (a.val : Nat), .int .u64 (b.val : Nat)] w fun e w' => e = .returned (.int .u64 ((a * b).val : Nat)) ∧ ∃ n, w' = w.drewN n := by
  have := etimesW a.val b.val (Ob.G_word _) (Ob.G_word _) w
  rw [Ob.toG_of_val, Ob.toG_of_val] at this
  exact this
theorem eover_core (a b i r : Int) (er : Value) (w : World)
   (c0 : ∀ w, Calls Tryd.prog 37 #[.int .u64 288230376287764481, .int .u64 b] w fun e w' => e = .returned (.tuple #[.int .u64 i, er]) ∧ w = w')
   (c1 : ∀ w, Calls Tryd.prog 27 #[.int .u64 a, .int .u64 i] w fun e w' => e = .returned (.int .u64 r) ∧ ∃ n, w' = w.drewN n) :
    Calls Tryd.prog 30 #[.int .u64 a, .int .u64 b] w fun e w' => e = .returned (.int .u64 r) ∧ ∃ n, w' = w.drewN n := by
  go_enter Tryd.func30, Tryd.ntmps30
  go_wp2_with (first | (go_at_call 37; first | (with_reducible refine (c0 _).mono ?_; rintro e w' ⟨rfl, rfl⟩)) | (go_at_call 27; first | (with_reducible refine (c1 _).mono ?_; rintro e w' ⟨rfl, nd, rfl⟩)))
  go_ret
  exact ⟨rfl, _, rfl⟩
theorem eoverF (a b : Fin Ob.RE) (h : b ≠ 0) (w : World) :
    Calls Tryd.prog 30 #[.int .u64 (a.val : Nat), .int .u64 (b.val : Nat)] w fun e w' => e = .returned (.int .u64 ((a * Ob.ginv b).val : Nat)) ∧ ∃ n, w' = w.drewN n := by
  have hg : Nat.gcd Ob.RE b.val = 1 := by
    rcases Ob.primeR.2 (Nat.gcd Ob.RE b.val) (Nat.gcd_dvd_left _ _) with h1 | h1
    · exact h1
    · exact absurd (Nat.mod_eq_zero_of_dvd (show Ob.R ∣ b.val from h1 ▸ Nat.gcd_dvd_right Ob.RE b.val)) (Ob.G_ne h)
  obtain ⟨Y, hY, hYY⟩ := Ob.inverse_exists Ob.modRE.1 hg
  have hi := Ob.inv_ok_of hY hYY
  have c2 := fun w => inv_some Ob.RE b.val w Ob.modRE (Ob.G_word _) hg
  generalize Ob.inv Ob.RE b.val = X at hi c2
  have hX : ∃ Z : Fin Ob.RE, Z.val = X := ⟨⟨X, hi.1⟩, rfl⟩
  obtain ⟨Z, rfl⟩ := hX
  have hZ : b * Z = 1 := Fin.ext (by rw [Fin.val_mul, Nat.mul_comm]; exact hi.2)
  rw [Ob.ginv_unique hZ]
  exact eover_core _ _ _ _ _ w c2 (etimesF a Z)

/-! Whether it is a point -/

/-- A point, as a value. -/
def edV (u : Ob.Ep) : Value := .agg #[.int .u64 (u.1.val : Nat), .int .u64 (u.2.val : Nat)]
/-- One with a third number, as a value. -/
def wtV (a : Ob.Wt) : Value := .agg #[.int .u64 (a.1.val : Nat), .int .u64 (a.2.1.val : Nat), .int .u64 (a.2.2.val : Nat)]

set_option maxHeartbeats 1000000 in
theorem eis_core (x y a b c d f g : Int) (hx : x < 288230376287764481) (hy : y < 288230376287764481) (w : World)
   (c0 : ∀ w, Calls Tryd.prog 27 #[.int .u64 x, .int .u64 x] w fun e w' => e = .returned (.int .u64 a) ∧ ∃ n, w' = w.drewN n)
   (c1 : ∀ w, Calls Tryd.prog 27 #[.int .u64 y, .int .u64 y] w fun e w' => e = .returned (.int .u64 b) ∧ ∃ n, w' = w.drewN n)
   (c2 : ∀ w, Calls Tryd.prog 28 #[.int .u64 b, .int .u64 a] w fun e w' => e = .returned (.int .u64 c) ∧ w = w')
   (c3 : ∀ w, Calls Tryd.prog 27 #[.int .u64 a, .int .u64 b] w fun e w' => e = .returned (.int .u64 d) ∧ ∃ n, w' = w.drewN n)
   (c4 : ∀ w, Calls Tryd.prog 27 #[.int .u64 439, .int .u64 d] w fun e w' => e = .returned (.int .u64 f) ∧ ∃ n, w' = w.drewN n)
   (c5 : ∀ w, Calls Tryd.prog 29 #[.int .u64 1, .int .u64 f] w fun e w' => e = .returned (.int .u64 g) ∧ w = w') :
    Calls Tryd.prog 15 #[.agg #[.int .u64 x, .int .u64 y]] w fun e w' => e = .returned (.bool (c == g)) ∧ Below w.heap.size w w' := by
  have hx' : ¬ (288230376287764481 ≤ x) := by omega
  have hy' : ¬ (288230376287764481 ≤ y) := by omega
  go_enter Tryd.func15, Tryd.ntmps15
  go_wp2
  go_region_held3 (fun w' => w'.cell? ⟨w.heap.size, 0, none⟩ = some (.int .u64 x) ∧ w'.cell? ⟨w.heap.size, 1, none⟩ = some (.int .u64 y)) (go_keep)
    ((first | (go_at_call 27; first | (with_reducible refine (c0 _).mono ?_; rintro e w' ⟨rfl, nd, rfl⟩) | (with_reducible refine (c1 _).mono ?_; rintro e w' ⟨rfl, nd, rfl⟩))))
  go_wp2_with (first | (go_at_call 28; first | (with_reducible refine (c2 _).mono ?_; rintro e w' ⟨rfl, rfl⟩)) | (go_at_call 27; first | (with_reducible refine (c3 _).mono ?_; rintro e w' ⟨rfl, nd, rfl⟩) | (with_reducible refine (c4 _).mono ?_; rintro e w' ⟨rfl, nd, rfl⟩)) | (go_at_call 29; first | (with_reducible refine (c5 _).mono ?_; rintro e w' ⟨rfl, rfl⟩)))
  go_ret
  exact ⟨rfl, by (repeat' (first | (with_reducible first | exact Below.refl _ _ | assumption | refine Below.alloc ?_ ?_ _ | refine Below.drew ?_ | refine below_drewN ?_ _ | refine Below.setCell ?_ ?_ _ | refine below_via (by with_reducible assumption) ?_ ?_) | omega | (simp only [szs]; omega) | (simp only [szs] at *; omega)))⟩
set_option maxHeartbeats 1000000 in
theorem eis_big (x y : Int) (h : ¬ (x < 288230376287764481 ∧ y < 288230376287764481)) (w : World) :
    Calls Tryd.prog 15 #[.agg #[.int .u64 x, .int .u64 y]] w fun e w' => e = .returned (.bool false) ∧ Below w.heap.size w w' := by
  by_cases hx : x < 288230376287764481
  · have hx' : ¬ (288230376287764481 ≤ x) := by omega
    have hy' : 288230376287764481 ≤ y := by omega
    clear h
    go_enter Tryd.func15, Tryd.ntmps15
    go_wp2
    go_ret
    exact ⟨rfl, by (repeat' (first | (with_reducible first | exact Below.refl _ _ | assumption | refine Below.alloc ?_ ?_ _ | refine Below.drew ?_ | refine below_drewN ?_ _ | refine Below.setCell ?_ ?_ _ | refine below_via (by with_reducible assumption) ?_ ?_) | omega | (simp only [szs]; omega) | (simp only [szs] at *; omega)))⟩
  · have hx' : 288230376287764481 ≤ x := by omega
    clear h hx
    go_enter Tryd.func15, Tryd.ntmps15
    go_wp2
    go_ret
    exact ⟨rfl, by (repeat' (first | (with_reducible first | exact Below.refl _ _ | assumption | refine Below.alloc ?_ ?_ _ | refine Below.drew ?_ | refine below_drewN ?_ _ | refine Below.setCell ?_ ?_ _ | refine below_via (by with_reducible assumption) ?_ ?_) | omega | (simp only [szs]; omega) | (simp only [szs] at *; omega)))⟩
theorem beq_valG (a b : Fin Ob.RE) : (((a.val : Nat) : Int) == ((b.val : Nat) : Int)) = decide (a = b) := by
  by_cases h : a = b
  · subst h; simp
  · simp [h]
    intro e
    exact h (Fin.ext (by omega))
theorem isG_big {x y : Nat} (h : ¬ (x < Ob.RE ∧ y < Ob.RE)) : Ob.isG x y = false := by
  cases hc : Ob.isG x y with
  | false => rfl
  | true => simp [Ob.isG] at hc; exact absurd hc.1 h
theorem eisW (x y : Nat) (hx : x < 18446744073709551616) (hy : y < 18446744073709551616) (w : World) :
    Calls Tryd.prog 15 #[.agg #[.int .u64 x, .int .u64 y]] w fun e w' => e = .returned (.bool (Ob.isG x y)) ∧ Below w.heap.size w w' := by
  by_cases hp : x < Ob.RE ∧ y < Ob.RE
  · have c4 := etimesW 439 (Ob.toG x * Ob.toG x * (Ob.toG y * Ob.toG y)).val (by decide) (Ob.G_word _)
    have c5 := eplusW 1 (439 * (Ob.toG x * Ob.toG x * (Ob.toG y * Ob.toG y))).val (by decide) (Ob.G_word _)
    rw [Ob.toG_of_val] at c4 c5
    have := eis_core x y _ _ _ _ _ _ (by have := hp.1; simp only [Ob.RE] at this; omega) (by have := hp.2; simp only [Ob.RE] at this; omega) w (etimesW x x hx hx) (etimesW y y hy hy) (eminusF _ _) (etimesF _ _) c4 c5
    refine this.mono fun e w' ⟨h, hb⟩ => ⟨h.trans ?_, hb⟩
    rw [beq_valG]
    have e1 : (Ob.toG y * Ob.toG y - Ob.toG x * Ob.toG x = Ob.toG 1 + 439 * (Ob.toG x * Ob.toG x * (Ob.toG y * Ob.toG y))) ↔ (Ob.toG y * Ob.toG y = Ob.toG x * Ob.toG x + (1 + 439 * (Ob.toG x * Ob.toG x * (Ob.toG y * Ob.toG y)))) := by
      rw [Ob.toG_1]
      generalize (439 : Fin Ob.RE) = d
      generalize Ob.toG x * Ob.toG x = p
      generalize Ob.toG y * Ob.toG y = q
      constructor
      · intro h; grobner
      · intro h; grobner
    simp only [Ob.isG, hp.1, hp.2, decide_true, Bool.true_and, e1]
  · refine (eis_big x y (fun h => hp ⟨by simp only [Ob.RE]; omega, by simp only [Ob.RE]; omega⟩) w).mono fun e w' ⟨h, hb⟩ => ⟨h.trans ?_, hb⟩
    rw [isG_big hp]

theorem ezeroW (w : World) : Calls Tryd.prog 20 #[] w fun e w' => e = .returned (.agg #[.int .u64 0, .int .u64 1]) ∧ Below w.heap.size w w' := by
  go_enter Tryd.func20, Tryd.ntmps20
  go_wp2
  exact bodyPost_ret (v := .agg #[.int .u64 0, .int .u64 1]) (by simp [results, Tryd.results20, go_sem]) rfl ⟨rfl, by (repeat' (first | (with_reducible first | exact Below.refl _ _ | assumption | refine Below.alloc ?_ ?_ _ | refine Below.drew ?_ | refine below_drewN ?_ _ | refine Below.setCell ?_ ?_ _ | refine below_via (by with_reducible assumption) ?_ ?_) | omega | (simp only [szs]; omega) | (simp only [szs] at *; omega)))⟩
theorem egenW (w : World) : Calls Tryd.prog 14 #[] w fun e w' => e = .returned (.agg #[.int .u64 223588670687113535, .int .u64 82055451961885530]) ∧ Below w.heap.size w w' := by
  go_enter Tryd.func14, Tryd.ntmps14
  go_wp2
  exact bodyPost_ret (v := .agg #[.int .u64 223588670687113535, .int .u64 82055451961885530]) (by simp [results, Tryd.results14, go_sem]) rfl ⟨rfl, by (repeat' (first | (with_reducible first | exact Below.refl _ _ | assumption | refine Below.alloc ?_ ?_ _ | refine Below.drew ?_ | refine below_drewN ?_ _ | refine Below.setCell ?_ ?_ _ | refine below_via (by with_reducible assumption) ?_ ?_) | omega | (simp only [szs]; omega) | (simp only [szs] at *; omega)))⟩

/-! Wide ones -/

set_option maxHeartbeats 1000000 in
theorem ewiden_yes (x y : Int) (w : World)
   (c0 : ∀ w, Calls Tryd.prog 15 #[.agg #[.int .u64 x, .int .u64 y]] w fun e w' => e = .returned (.bool true) ∧ Below w.heap.size w w') :
    Calls Tryd.prog 19 #[.agg #[.int .u64 x, .int .u64 y]] w fun e w' => e = .returned (.agg #[.int .u64 x, .int .u64 y, .int .u64 1]) ∧ Below w.heap.size w w' := by
  go_enter Tryd.func19, Tryd.ntmps19
  go_wp2_with (first | (go_at_call 15; first | (with_reducible refine (c0 _).mono ?_; rintro e w_c0 ⟨rfl, b_c0⟩; have z_c0 := b_c0.size; (try simp only [szs] at z_c0); (try (have q_c0_0 := own2 b_c0 (w.heap.size) (by first | omega | (simp only [szs]; omega)))); (try (have q_c0_1 := own3 b_c0 (w.heap.size + 1) (by first | omega | (simp only [szs]; omega)))))))
  exact bodyPost_ret (v := .agg #[.int .u64 x, .int .u64 y, .int .u64 1]) (by simp [results, Tryd.results19, go_sem, *]) rfl ⟨rfl, by (repeat' (first | (with_reducible first | exact Below.refl _ _ | assumption | refine Below.alloc ?_ ?_ _ | refine Below.drew ?_ | refine below_drewN ?_ _ | refine Below.setCell ?_ ?_ _ | refine below_via (by with_reducible assumption) ?_ ?_) | omega | (simp only [szs]; omega) | (simp only [szs] at *; omega)))⟩
set_option maxHeartbeats 1000000 in
theorem ewiden_no (x y : Int) (w : World)
   (c0 : ∀ w, Calls Tryd.prog 15 #[.agg #[.int .u64 x, .int .u64 y]] w fun e w' => e = .returned (.bool false) ∧ Below w.heap.size w w')
   (c1 : ∀ w, Calls Tryd.prog 20 #[] w fun e w' => e = .returned (.agg #[.int .u64 0, .int .u64 1]) ∧ Below w.heap.size w w') :
    Calls Tryd.prog 19 #[.agg #[.int .u64 x, .int .u64 y]] w fun e w' => e = .returned (.agg #[.int .u64 0, .int .u64 1, .int .u64 1]) ∧ Below w.heap.size w w' := by
  go_enter Tryd.func19, Tryd.ntmps19
  go_wp2_with (first | (go_at_call 15; first | (with_reducible refine (c0 _).mono ?_; rintro e w_c0 ⟨rfl, b_c0⟩; have z_c0 := b_c0.size; (try simp only [szs] at z_c0); (try (have q_c0_0 := own2 b_c0 (w.heap.size) (by first | omega | (simp only [szs]; omega)))); (try (have q_c0_1 := own3 b_c0 (w.heap.size + 1) (by first | omega | (simp only [szs]; omega)))))) | (go_at_call 20; first | (with_reducible refine (c1 _).mono ?_; rintro e w_c1 ⟨rfl, b_c1⟩; have z_c1 := b_c1.size; (try simp only [szs] at z_c1); (try (have q_c1_0 := own2 b_c1 (w.heap.size) (by first | omega | (simp only [szs]; omega)))); (try (have q_c1_1 := own3 b_c1 (w.heap.size + 1) (by first | omega | (simp only [szs]; omega)))))))
  exact bodyPost_ret (v := .agg #[.int .u64 0, .int .u64 1, .int .u64 1]) (by simp [results, Tryd.results19, go_sem, *]) rfl ⟨rfl, by (repeat' (first | (with_reducible first | exact Below.refl _ _ | assumption | refine Below.alloc ?_ ?_ _ | refine Below.drew ?_ | refine below_drewN ?_ _ | refine Below.setCell ?_ ?_ _ | refine below_via (by with_reducible assumption) ?_ ?_) | omega | (simp only [szs]; omega) | (simp only [szs] at *; omega)))⟩
theorem ewidenW (x y : Nat) (hx : x < 18446744073709551616) (hy : y < 18446744073709551616) (w : World) :
    Calls Tryd.prog 19 #[.agg #[.int .u64 x, .int .u64 y]] w fun e w' => e = .returned (wtV ((Ob.ofG x y).1, (Ob.ofG x y).2, 1)) ∧ Below w.heap.size w w' := by
  have c0 := eisW x y hx hy
  cases h : Ob.isG x y with
  | true =>
    rw [h] at c0
    obtain ⟨h1, h2⟩ := Ob.ofG_yes h
    have := ewiden_yes x y w c0
    unfold wtV
    simp only
    rw [← h1, ← h2]
    exact this
  | false =>
    rw [h] at c0
    rw [Ob.ofG_no h]
    exact ewiden_no x y w c0 ezeroW

set_option maxHeartbeats 1000000 in
theorem enarrow_core (x y z i r s : Int) (w : World)
   (c0 : ∀ w, Calls Tryd.prog 30 #[.int .u64 1, .int .u64 z] w fun e w' => e = .returned (.int .u64 i) ∧ ∃ n, w' = w.drewN n)
   (c1 : ∀ w, Calls Tryd.prog 27 #[.int .u64 x, .int .u64 i] w fun e w' => e = .returned (.int .u64 r) ∧ ∃ n, w' = w.drewN n)
   (c2 : ∀ w, Calls Tryd.prog 27 #[.int .u64 y, .int .u64 i] w fun e w' => e = .returned (.int .u64 s) ∧ ∃ n, w' = w.drewN n) :
    Calls Tryd.prog 17 #[.agg #[.int .u64 x, .int .u64 y, .int .u64 z]] w fun e w' => e = .returned (.agg #[.int .u64 r, .int .u64 s]) ∧ Below w.heap.size w w' := by
  go_enter Tryd.func17, Tryd.ntmps17
  go_wp2_with (first | (go_at_call 30; first | (with_reducible refine (c0 _).mono ?_; rintro e w' ⟨rfl, nd, rfl⟩)))
  go_region_held3 (fun w' => w'.cell? ⟨w.heap.size, 0, none⟩ = some (.int .u64 x) ∧ w'.cell? ⟨w.heap.size, 1, none⟩ = some (.int .u64 y) ∧ w'.cell? ⟨w.heap.size, 2, none⟩ = some (.int .u64 z)) (go_keep)
    ((first | (go_at_call 27; first | (with_reducible refine (c1 _).mono ?_; rintro e w' ⟨rfl, nd, rfl⟩) | (with_reducible refine (c2 _).mono ?_; rintro e w' ⟨rfl, nd, rfl⟩))))
  go_wp2
  exact bodyPost_ret (v := .agg #[.int .u64 r, .int .u64 s]) (by simp [results, Tryd.results17, go_sem, *]) rfl ⟨rfl, by (repeat' (first | (with_reducible first | exact Below.refl _ _ | assumption | refine Below.alloc ?_ ?_ _ | refine Below.drew ?_ | refine below_drewN ?_ _ | refine Below.setCell ?_ ?_ _ | refine below_via (by with_reducible assumption) ?_ ?_) | omega | (simp only [szs]; omega) | (simp only [szs] at *; omega)))⟩
theorem enarrowW {a : Ob.Wt} {u : Ob.Ep} (h : Ob.Wide a u) (w : World) :
    Calls Tryd.prog 17 #[wtV a] w fun e w' => e = .returned (edV u) ∧ Below w.heap.size w w' := by
  obtain ⟨h1, h2⟩ := h.out
  have c0 := eoverF 1 a.2.2 h.1
  have c1 := etimesF a.1 (1 * Ob.ginv a.2.2)
  have c2 := etimesF a.2.1 (1 * Ob.ginv a.2.2)
  have e1 : 1 * Ob.ginv a.2.2 = Ob.ginv a.2.2 := by generalize Ob.ginv a.2.2 = q; grobner
  rw [e1] at c0 c1 c2
  rw [h1] at c1
  rw [h2] at c2
  exact enarrow_core _ _ _ _ _ _ w c0 c1 c2

set_option maxHeartbeats 4000000 in
theorem esum_core (x1 y1 z1 x2 y2 z2 z q p1 p2 p3 k l m a1 a2 x y r1 r2 s1 s2 t : Int) (w : World)
   (c0 : ∀ w, Calls Tryd.prog 27 #[.int .u64 z1, .int .u64 z2] w fun e w' => e = .returned (.int .u64 z) ∧ ∃ n, w' = w.drewN n)
   (c1 : ∀ w, Calls Tryd.prog 27 #[.int .u64 z, .int .u64 z] w fun e w' => e = .returned (.int .u64 q) ∧ ∃ n, w' = w.drewN n)
   (c2 : ∀ w, Calls Tryd.prog 27 #[.int .u64 x1, .int .u64 x2] w fun e w' => e = .returned (.int .u64 p1) ∧ ∃ n, w' = w.drewN n)
   (c3 : ∀ w, Calls Tryd.prog 27 #[.int .u64 439, .int .u64 p1] w fun e w' => e = .returned (.int .u64 p2) ∧ ∃ n, w' = w.drewN n)
   (c4 : ∀ w, Calls Tryd.prog 27 #[.int .u64 y1, .int .u64 y2] w fun e w' => e = .returned (.int .u64 p3) ∧ ∃ n, w' = w.drewN n)
   (c5 : ∀ w, Calls Tryd.prog 27 #[.int .u64 p2, .int .u64 p3] w fun e w' => e = .returned (.int .u64 k) ∧ ∃ n, w' = w.drewN n)
   (c6 : ∀ w, Calls Tryd.prog 28 #[.int .u64 q, .int .u64 k] w fun e w' => e = .returned (.int .u64 l) ∧ w = w')
   (c7 : ∀ w, Calls Tryd.prog 29 #[.int .u64 q, .int .u64 k] w fun e w' => e = .returned (.int .u64 m) ∧ w = w')
   (c8 : ∀ w, Calls Tryd.prog 27 #[.int .u64 x1, .int .u64 y2] w fun e w' => e = .returned (.int .u64 a1) ∧ ∃ n, w' = w.drewN n)
   (c9 : ∀ w, Calls Tryd.prog 27 #[.int .u64 y1, .int .u64 x2] w fun e w' => e = .returned (.int .u64 a2) ∧ ∃ n, w' = w.drewN n)
   (c10 : ∀ w, Calls Tryd.prog 29 #[.int .u64 a1, .int .u64 a2] w fun e w' => e = .returned (.int .u64 x) ∧ w = w')
   (c11 : ∀ w, Calls Tryd.prog 29 #[.int .u64 p3, .int .u64 p1] w fun e w' => e = .returned (.int .u64 y) ∧ w = w')
   (c12 : ∀ w, Calls Tryd.prog 27 #[.int .u64 z, .int .u64 x] w fun e w' => e = .returned (.int .u64 r1) ∧ ∃ n, w' = w.drewN n)
   (c13 : ∀ w, Calls Tryd.prog 27 #[.int .u64 r1, .int .u64 l] w fun e w' => e = .returned (.int .u64 r2) ∧ ∃ n, w' = w.drewN n)
   (c14 : ∀ w, Calls Tryd.prog 27 #[.int .u64 z, .int .u64 y] w fun e w' => e = .returned (.int .u64 s1) ∧ ∃ n, w' = w.drewN n)
   (c15 : ∀ w, Calls Tryd.prog 27 #[.int .u64 s1, .int .u64 m] w fun e w' => e = .returned (.int .u64 s2) ∧ ∃ n, w' = w.drewN n)
   (c16 : ∀ w, Calls Tryd.prog 27 #[.int .u64 l, .int .u64 m] w fun e w' => e = .returned (.int .u64 t) ∧ ∃ n, w' = w.drewN n) :
    Calls Tryd.prog 18 #[.agg #[.int .u64 x1, .int .u64 y1, .int .u64 z1], .agg #[.int .u64 x2, .int .u64 y2, .int .u64 z2]] w fun e w' => e = .returned (.agg #[.int .u64 r2, .int .u64 s2, .int .u64 t]) ∧ Below w.heap.size w w' := by
  go_enter Tryd.func18, Tryd.ntmps18
  go_wp2_with (first | (go_at_call 27; first | (with_reducible refine (c0 _).mono ?_; rintro e w' ⟨rfl, nd, rfl⟩) | (with_reducible refine (c1 _).mono ?_; rintro e w' ⟨rfl, nd, rfl⟩)))
  go_region_held3 (fun w' => w'.cell? ⟨w.heap.size, 0, none⟩ = some (.int .u64 x1) ∧ w'.cell? ⟨w.heap.size, 1, none⟩ = some (.int .u64 y1) ∧ w'.cell? ⟨w.heap.size, 2, none⟩ = some (.int .u64 z1) ∧ w'.cell? ⟨w.heap.size + 1, 0, none⟩ = some (.int .u64 x2) ∧ w'.cell? ⟨w.heap.size + 1, 1, none⟩ = some (.int .u64 y2) ∧ w'.cell? ⟨w.heap.size + 1, 2, none⟩ = some (.int .u64 z2)) (go_keep)
    ((first | (go_at_call 27; first | (with_reducible refine (c2 _).mono ?_; rintro e w' ⟨rfl, nd, rfl⟩) | (with_reducible refine (c3 _).mono ?_; rintro e w' ⟨rfl, nd, rfl⟩) | (with_reducible refine (c4 _).mono ?_; rintro e w' ⟨rfl, nd, rfl⟩) | (with_reducible refine (c5 _).mono ?_; rintro e w' ⟨rfl, nd, rfl⟩))))
  go_wp2_with (first | (go_at_call 28; first | (with_reducible refine (c6 _).mono ?_; rintro e w' ⟨rfl, rfl⟩)) | (go_at_call 29; first | (with_reducible refine (c7 _).mono ?_; rintro e w' ⟨rfl, rfl⟩)))
  go_region_held3 (fun w' => w'.cell? ⟨w.heap.size, 0, none⟩ = some (.int .u64 x1) ∧ w'.cell? ⟨w.heap.size, 1, none⟩ = some (.int .u64 y1) ∧ w'.cell? ⟨w.heap.size, 2, none⟩ = some (.int .u64 z1) ∧ w'.cell? ⟨w.heap.size + 1, 0, none⟩ = some (.int .u64 x2) ∧ w'.cell? ⟨w.heap.size + 1, 1, none⟩ = some (.int .u64 y2) ∧ w'.cell? ⟨w.heap.size + 1, 2, none⟩ = some (.int .u64 z2)) (go_keep)
    ((first | (go_at_call 27; first | (with_reducible refine (c8 _).mono ?_; rintro e w' ⟨rfl, nd, rfl⟩) | (with_reducible refine (c9 _).mono ?_; rintro e w' ⟨rfl, nd, rfl⟩)) | (go_at_call 29; first | (with_reducible refine (c10 _).mono ?_; rintro e w' ⟨rfl, rfl⟩))))
  go_wp2
  go_region_held3 (fun w' => w'.cell? ⟨w.heap.size, 0, none⟩ = some (.int .u64 x1) ∧ w'.cell? ⟨w.heap.size, 1, none⟩ = some (.int .u64 y1) ∧ w'.cell? ⟨w.heap.size, 2, none⟩ = some (.int .u64 z1) ∧ w'.cell? ⟨w.heap.size + 1, 0, none⟩ = some (.int .u64 x2) ∧ w'.cell? ⟨w.heap.size + 1, 1, none⟩ = some (.int .u64 y2) ∧ w'.cell? ⟨w.heap.size + 1, 2, none⟩ = some (.int .u64 z2)) (go_keep)
    ((first | (go_at_call 27; first | (with_reducible refine (c4 _).mono ?_; rintro e w' ⟨rfl, nd, rfl⟩) | (with_reducible refine (c2 _).mono ?_; rintro e w' ⟨rfl, nd, rfl⟩)) | (go_at_call 29; first | (with_reducible refine (c11 _).mono ?_; rintro e w' ⟨rfl, rfl⟩))))
  go_wp2_with (first | (go_at_call 27; first | (with_reducible refine (c12 _).mono ?_; rintro e w' ⟨rfl, nd, rfl⟩) | (with_reducible refine (c13 _).mono ?_; rintro e w' ⟨rfl, nd, rfl⟩) | (with_reducible refine (c14 _).mono ?_; rintro e w' ⟨rfl, nd, rfl⟩) | (with_reducible refine (c15 _).mono ?_; rintro e w' ⟨rfl, nd, rfl⟩) | (with_reducible refine (c16 _).mono ?_; rintro e w' ⟨rfl, nd, rfl⟩)))
  exact bodyPost_ret (v := .agg #[.int .u64 r2, .int .u64 s2, .int .u64 t]) (by simp [results, Tryd.results18, go_sem, *]) rfl ⟨rfl, by (repeat' (first | (with_reducible first | exact Below.refl _ _ | assumption | refine Below.alloc ?_ ?_ _ | refine Below.drew ?_ | refine below_drewN ?_ _ | refine Below.setCell ?_ ?_ _ | refine below_via (by with_reducible assumption) ?_ ?_) | omega | (simp only [szs]; omega) | (simp only [szs] at *; omega)))⟩
theorem esumW (a b : Ob.Wt) (w : World) :
    Calls Tryd.prog 18 #[wtV a, wtV b] w fun e w' => e = .returned (wtV (Ob.wsum a b)) ∧ Below w.heap.size w w' := by
  have c3 := etimesW 439 (a.1 * b.1).val (by decide) (Ob.G_word _)
  rw [Ob.toG_of_val, Ob.toG_439] at c3
  exact esum_core _ _ _ _ _ _ _ _ _ _ _ _ _ _ _ _ _ _ _ _ _ _ _ w (etimesF _ _) (etimesF _ _) (etimesF _ _) c3 (etimesF _ _) (etimesF _ _) (eminusF _ _) (eplusF _ _) (etimesF _ _) (etimesF _ _) (eplusF _ _) (eplusF _ _) (etimesF _ _) (etimesF _ _) (etimesF _ _) (etimesF _ _) (etimesF _ _)
end Go.Proofs.YtoigpjaffggekabDoor
