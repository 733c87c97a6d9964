/-
  The walks of modular.someRoot and modular.Root.
-/
import Derived.Test.YtoigpjaffggekabDoorRefW
import Derived.Test.YtoigpjaffggekabDoorRoot
namespace Go.Proofs.YtoigpjaffggekabDoor
open Go.RowKit Go.Proofs
set_option linter.unusedVariables false

/-- The one cell of the table that is read. -/
def TabOk (w : World) : Prop := w.cell? ⟨0, 29, none⟩ = some (.int .u8 18)
theorem TabOk.drew {w : World} (h : TabOk w) (n : Nat) : TabOk (w.drewN n) := h

theorem tz_core (x : Int) (w : World) (hx0 : (x == 0) = false) (key : IntKind.u64.wrap (bits BinOp.and IntKind.u64 x (IntKind.u64.wrap (-x)) * 285870213051353865) / 288230376151711744 = 29)
    (hcell : w.cell? ⟨0, 29, none⟩ = some (.int .u8 18)) :
    Calls Tryd.prog 49 #[.int .u64 x] w fun e w' => e = .returned (.int .i64 18) ∧ w = w' := by
  go_enter Tryd.func49, Tryd.ntmps49
  go_wp2_with (simp only [key])
  go_ret
  exact ⟨rfl, rfl⟩

theorem tz_R (w : World) (h : TabOk w) :
    Calls Tryd.prog 49 #[.int .u64 288230376287764480] w fun e w' => e = .returned (.int .i64 18) ∧ w = w' :=
  tz_core 288230376287764480 w (by decide +kernel) (by decide +kernel) h

theorem pow_R (a x : Nat) (w : World) (ha : a < Ob.R) (hx : x < 18446744073709551616) :
    Calls Tryd.prog 41 #[.int .u64 288230376287764481, .int .u64 a, .int .u64 x] w fun e w' => e = .returned (.int .u64 ((a ^ x % Ob.R : Nat) : Int)) ∧ ∃ n, w' = w.drewN n :=
  powRest_any Ob.R a x w (by decide +kernel) (by decide +kernel) ha hx

theorem mul_R (a b : Nat) (w : World) (ha : a < Ob.R) (hb : b < Ob.R) :
    Calls Tryd.prog 44 #[.int .u64 288230376287764481, .int .u64 a, .int .u64 b] w fun e w' => e = .returned (.int .u64 ((a * b % Ob.R : Nat) : Int)) ∧ ∃ n, w' = w.drewN n :=
  mulRests_any Ob.R a b w (by decide +kernel) ha hb

theorem two_pow_word (j : Nat) (hj : j ≤ 16) : ∃ E : Nat, Hid (2 ^ j = E) ∧ E < 18446744073709551616 ∧ IntKind.u64.wrap (2 ^ j) = (E : Int) := by
  have h : 2 ^ j ≤ 2 ^ 16 := Nat.pow_le_pow_right (by decide) hj
  refine ⟨2 ^ j, rfl, by omega, ?_⟩
  have e : (2 : Int) ^ j = ((2 ^ j : Nat) : Int) := (Int.natCast_pow 2 j).symm
  rw [e]
  exact wrapNat _ (by omega)

set_option maxHeartbeats 1000000 in
theorem someRoot_any (a : Nat) (w : World) (hT : TabOk w) (ha : a < Ob.R) (hsq : Hid (a ^ ((Ob.R - 1) / 2) % Ob.R = 1)) :
    Calls Tryd.prog 42 #[.int .u64 a] w fun e w' => ∃ x : Nat, e = .returned (.int .u64 x) ∧ x < Ob.R ∧ Hid (x * x % Ob.R = a % Ob.R) ∧ ∃ n, w' = w.drewN n := by
  obtain ⟨x0, hx0, hx0l⟩ : ∃ x0 : Nat, Hid (a ^ ((Ob.ODD + 1) / 2) % Ob.R = x0) ∧ x0 < Ob.R := ⟨_, rfl, Nat.mod_lt _ (by decide +kernel)⟩
  obtain ⟨o0, ho0, ho0l⟩ : ∃ o0 : Nat, Hid (a ^ Ob.ODD % Ob.R = o0) ∧ o0 < Ob.R := ⟨_, rfl, Nat.mod_lt _ (by decide +kernel)⟩
  obtain ⟨s0, hs0, hs0l⟩ : ∃ s0 : Nat, Hid (3 ^ Ob.ODD % Ob.R = s0) ∧ s0 < Ob.R := ⟨_, rfl, Nat.mod_lt _ (by decide +kernel)⟩
  have hstart : Hid (Ob.Ton a 17 x0 o0 s0) := by
    have := Ob.Ton.start (a := a) rfl hsq.out
    rw [hx0.out, ho0.out, hs0.out] at this
    exact this
  have c1 : ∀ w, Calls Tryd.prog 41 #[.int .u64 288230376287764481, .int .u64 a, .int .u64 549755814148] w fun e w' => e = .returned (.int .u64 x0) ∧ ∃ n, w' = w.drewN n := fun w => by
    have := pow_R a ((Ob.ODD + 1) / 2) w ha (by decide +kernel)
    rw [hx0.out] at this
    exact this
  have c2 : ∀ w, Calls Tryd.prog 41 #[.int .u64 288230376287764481, .int .u64 a, .int .u64 1099511628295] w fun e w' => e = .returned (.int .u64 o0) ∧ ∃ n, w' = w.drewN n := fun w => by
    have := pow_R a Ob.ODD w ha (by decide +kernel)
    rw [ho0.out] at this
    exact this
  have c3 : ∀ w, Calls Tryd.prog 41 #[.int .u64 288230376287764481, .int .u64 3, .int .u64 1099511628295] w fun e w' => e = .returned (.int .u64 s0) ∧ ∃ n, w' = w.drewN n := fun w => by
    have := pow_R 3 Ob.ODD w (by decide +kernel) (by decide +kernel)
    rw [hs0.out] at this
    exact this
  have k1 : (288230376287764480 : Int) / 2 ^ 18 = 1099511628295 := by decide +kernel
  clear hx0 ho0 hs0 hsq
  go_enter Tryd.func42, Tryd.ntmps42
  go_wp2_with (go_at_call 49; refine (tz_R _ hT).mono ?_; rintro e w' ⟨rfl, rfl⟩)
  refine (c1 _).mono ?_
  rintro e w1 ⟨rfl, n1, rfl⟩
  go_wp2_with fail
  refine (c2 _).mono ?_
  rintro e w1 ⟨rfl, n2, rfl⟩
  go_wp2_with fail
  refine (c3 _).mono ?_
  rintro e w1 ⟨rfl, n3, rfl⟩
  clear c1 c2 c3
  go_wp2
  go_loopw [5, 6, 7, 8, 9] (fun sx so ss sk _ wr => ∃ k x o s n : Nat, k ≤ 17 ∧ x < Ob.R ∧ o < Ob.R ∧ s < Ob.R ∧ sx = .int .u64 x ∧ so = .int .u64 o ∧ ss = .int .u64 s ∧ sk = .int .i64 k ∧ wr = w.drewN n ∧ Hid (Ob.Ton a k x o s)) (fun _ _ _ sk _ _ => (intOf sk).toNat)
  case atStart => exact ⟨17, x0, o0, s0, _, by omega, hx0l, ho0l, hs0l, rfl, rfl, rfl, rfl, rfl, hstart⟩
  case round =>
    obtain ⟨k, x, o, s, n, hk, hx, ho, hs, rfl, rfl, rfl, rfl, rfl, hI⟩ := hrel
    clear hstart
    by_cases h0 : k = 0
    · subst h0
      have hn : Hid (x * x % Ob.R = a % Ob.R) := hI.out.last
      go_wp2
      go_ret
      exact ⟨x, rfl, hx, hn, _, rfl⟩
    · obtain ⟨j, rfl⟩ : ∃ j, k = j + 1 := ⟨k - 1, by omega⟩
      obtain ⟨nx, hnx, hnxl⟩ : ∃ nx : Nat, Hid (s * s % Ob.R = nx) ∧ nx < Ob.R := ⟨_, rfl, Nat.mod_lt _ (by decide +kernel)⟩
      have c1 : ∀ w, Calls Tryd.prog 44 #[.int .u64 288230376287764481, .int .u64 s, .int .u64 s] w fun e w' => e = .returned (.int .u64 nx) ∧ ∃ n, w' = w.drewN n := fun w => by
        have := mul_R s s w hs hs
        rw [hnx.out] at this
        exact this
      obtain ⟨E, hE, hEl, hEi⟩ : ∃ E : Nat, Hid (2 ^ j = E) ∧ E < 18446744073709551616 ∧ IntKind.u64.wrap (2 ^ j) = (E : Int) := two_pow_word j (by omega)
      obtain ⟨q, hq, hql⟩ : ∃ q : Nat, Hid (o ^ E % Ob.R = q) ∧ q < Ob.R := ⟨_, rfl, Nat.mod_lt _ (by decide +kernel)⟩
      have c2 : ∀ w, Calls Tryd.prog 41 #[.int .u64 288230376287764481, .int .u64 o, .int .u64 E] w fun e w' => e = .returned (.int .u64 q) ∧ ∃ n, w' = w.drewN n := fun w => by
        have := pow_R o E w ho hEl
        rw [hq.out] at this
        exact this
      by_cases hq1 : q = 1
      · have hN : Hid (Ob.Ton a j x o nx) := by
          have := hI.out.keep (by rw [hE.out, hq.out, hq1])
          rw [hnx.out] at this
          exact this
        have hq1i : ((q : Int) != 1) = false := by rw [hq1]; rfl
        clear hI hq hE hnx hq1
        go_wp2_with (first | (go_at_call 44; refine (c1 _).mono ?_; rintro e w' ⟨rfl, n1', rfl⟩) | (go_at_call 41; refine (c2 _).mono ?_; rintro e w' ⟨rfl, n2', rfl⟩))
        go_roundw
        case rel => exact ⟨j, x, o, nx, _, by omega, hx, ho, hnxl, rfl, rfl, rfl, by first | rfl | go_num, rfl, hN⟩
        case measure => simp [intOf]
      · obtain ⟨x2, hx2, hx2l⟩ : ∃ x2 : Nat, Hid (x * s % Ob.R = x2) ∧ x2 < Ob.R := ⟨_, rfl, Nat.mod_lt _ (by decide +kernel)⟩
        obtain ⟨o2, ho2, ho2l⟩ : ∃ o2 : Nat, Hid (o * nx % Ob.R = o2) ∧ o2 < Ob.R := ⟨_, rfl, Nat.mod_lt _ (by decide +kernel)⟩
        have c3 : ∀ w, Calls Tryd.prog 44 #[.int .u64 288230376287764481, .int .u64 x, .int .u64 s] w fun e w' => e = .returned (.int .u64 x2) ∧ ∃ n, w' = w.drewN n := fun w => by
          have := mul_R x s w hx hs
          rw [hx2.out] at this
          exact this
        have c4 : ∀ w, Calls Tryd.prog 44 #[.int .u64 288230376287764481, .int .u64 o, .int .u64 nx] w fun e w' => e = .returned (.int .u64 o2) ∧ ∃ n, w' = w.drewN n := fun w => by
          have := mul_R o nx w ho hnxl
          rw [ho2.out] at this
          exact this
        have hN : Hid (Ob.Ton a j x2 o2 nx) := by
          have := hI.out.turn (by rw [hE.out, hq.out]; exact hq1)
          rw [hnx.out, hx2.out, ho2.out] at this
          exact this
        have hq1i : ((q : Int) != 1) = true := by simp; omega
        clear hI hq hE hnx hq1 hx2 ho2
        go_wp2_with (first | (go_at_call 41; refine (c2 _).mono ?_; rintro e w' ⟨rfl, n2', rfl⟩))
        refine (c1 _).mono ?_
        rintro e w' ⟨rfl, n3', rfl⟩
        go_wp2_with (first | (go_at_call 41; refine (c2 _).mono ?_; rintro e w' ⟨rfl, n2', rfl⟩))
        refine (c3 _).mono ?_
        rintro e w' ⟨rfl, n4', rfl⟩
        go_wp2_with fail
        refine (c4 _).mono ?_
        rintro e w' ⟨rfl, n5', rfl⟩
        go_wp2
        go_roundw
        case rel => exact ⟨j, x2, o2, nx, _, by omega, hx2l, ho2l, hnxl, rfl, rfl, rfl, by first | rfl | go_num, rfl, hN⟩
        case measure => simp [intOf]

theorem rest_R (a : Nat) (w : World) (ha : a < 18446744073709551616) :
    Calls Tryd.prog 40 #[.int .u64 288230376287764481, .int .u64 a] w fun e w' => e = .returned (.int .u64 ((a % Ob.R : Nat) : Int)) ∧ w = w' :=
  rest_any Ob.R a w (by decide +kernel) ha

set_option maxHeartbeats 400000 in
theorem root_zero (a : Nat) (w : World) (ha : a < 18446744073709551616) (h : a % Ob.R = 0) :
    Calls Tryd.prog 33 #[.int .u64 a] w fun e w' => e = .returned (.tuple #[.int .u64 0, .nilIface]) ∧ ∃ n, w' = w.drewN n := by
  have c1 := fun w => rest_R a w ha
  rw [h] at c1
  clear h
  go_enter Tryd.func33, Tryd.ntmps33
  go_wp2_with (go_at_call 40; refine (c1 _).mono ?_; rintro e w' ⟨rfl, rfl⟩)
  go_ret2
  exact ⟨rfl, 0, rfl⟩

set_option maxHeartbeats 400000 in
theorem root_no_core (a r q : Nat) (w : World) (ha : a < 18446744073709551616) (hr : ((r : Int) == 0) = false) (hq : ((q : Int) != 1) = true)
    (c1 : ∀ w, Calls Tryd.prog 40 #[.int .u64 288230376287764481, .int .u64 a] w fun e w' => e = .returned (.int .u64 r) ∧ w = w')
    (c2 : ∀ w, Calls Tryd.prog 41 #[.int .u64 288230376287764481, .int .u64 r, .int .u64 144115188143882240] w fun e w' => e = .returned (.int .u64 q) ∧ ∃ n, w' = w.drewN n) :
    Calls Tryd.prog 33 #[.int .u64 a] w fun e w' => e = .returned (.tuple #[.int .u64 0, .iface 49 (.int .i64 2)]) ∧ ∃ n, w' = w.drewN n := by
  go_enter Tryd.func33, Tryd.ntmps33
  go_wp2_with (first | (go_at_call 40; refine (c1 _).mono ?_; rintro e w' ⟨rfl, rfl⟩) | (go_at_call 41; refine (c2 _).mono ?_; rintro e w' ⟨rfl, n, rfl⟩))
  go_ret2
  exact ⟨rfl, _, rfl⟩

theorem ret_fst {k : IntKind} {a b : Int} {v : Value} (h : a = b) : Ending.returned (.tuple #[.int k a, v]) = .returned (.tuple #[.int k b, v]) := by rw [h]
theorem bne_of {q : Nat} (h : q ≠ 1) : ((q : Int) != 1) = true := by simp; omega
theorem beq_of {q : Nat} (h : q ≠ 1) : ((q : Int) == 1) = false := by simp; omega

set_option maxHeartbeats 400000 in
theorem root_yes_core (a r : Nat) (w : World) (hT : TabOk w) (ha : a < 18446744073709551616) (hr : ((r : Int) == 0) = false) (y : Nat)
    (c1 : ∀ w, Calls Tryd.prog 40 #[.int .u64 288230376287764481, .int .u64 a] w fun e w' => e = .returned (.int .u64 r) ∧ w = w')
    (c2 : ∀ w, Calls Tryd.prog 41 #[.int .u64 288230376287764481, .int .u64 r, .int .u64 144115188143882240] w fun e w' => e = .returned (.int .u64 1) ∧ ∃ n, w' = w.drewN n)
    (c3 : ∀ w, TabOk w → Calls Tryd.prog 42 #[.int .u64 r] w fun e w' => ∃ x : Nat, e = .returned (.int .u64 x) ∧ x < Ob.R ∧ Hid (y = min x (Ob.R - x)) ∧ ∃ n, w' = w.drewN n) :
    Calls Tryd.prog 33 #[.int .u64 a] w fun e w' => e = .returned (.tuple #[.int .u64 y, .nilIface]) ∧ ∃ n, w' = w.drewN n := by
  go_enter Tryd.func33, Tryd.ntmps33
  go_wp2_with (first | (go_at_call 40; refine (c1 _).mono ?_; rintro e w' ⟨rfl, rfl⟩) | (go_at_call 41; refine (c2 _).mono ?_; rintro e w' ⟨rfl, n, rfl⟩))
  refine (c3 _ (hT.drew _)).mono ?_
  rintro e w' ⟨x, rfl, hx, hy, n', rfl⟩
  have hx2 : x < 288230376287764481 := hx
  have hyi : Hid (min (x : Int) (288230376287764481 - (x : Int)) = (y : Int)) := by
    have h := hy.out
    show min (x : Int) (288230376287764481 - (x : Int)) = (y : Int)
    simp only [Ob.R] at h
    omega
  go_wp2
  go_ret2
  exact ⟨ret_fst hyi.out, _, rfl⟩

theorem R_half_num : (Ob.R - 1) / 2 = 144115188143882240 := by decide +kernel

/-- Root of a number that has one. -/
theorem root_yes (a : Nat) (w : World) (hT : TabOk w) (ha : a < 18446744073709551616) (h : Ob.Sq a) :
    Calls Tryd.prog 33 #[.int .u64 a] w fun e w' => e = .returned (.tuple #[.int .u64 (Ob.root a : Nat), .nilIface]) ∧ ∃ n, w' = w.drewN n := by
  by_cases h0 : a % Ob.R = 0
  · have : Ob.root a = 0 := Ob.root_eq (by omega) (by rw [h0, Nat.mul_zero, Nat.zero_mod])
    rw [this]
    exact root_zero a w ha h0
  · have hl : a % Ob.R < Ob.R := Nat.mod_lt _ (by have := Ob.R_two; omega)
    have h1 : (a % Ob.R) ^ ((Ob.R - 1) / 2) % Ob.R = 1 := by
      rw [Ob.pow_mod_left]
      rcases h with h | h
      · exact absurd h h0
      · exact h
    refine root_yes_core a (a % Ob.R) w hT ha (by simp; omega) (Ob.root a) (fun w => rest_R a w ha) (fun w => ?_) (fun w hw => ?_)
    · have := pow_R (a % Ob.R) ((Ob.R - 1) / 2) w hl (by decide +kernel)
      rw [h1] at this
      exact this
    · refine (someRoot_any (a % Ob.R) w hw hl h1).mono fun e w' ⟨x, he, hx, hxx, hw⟩ => ⟨x, he, hx, ?_, hw⟩
      have := hxx.out
      rw [Nat.mod_mod] at this
      exact Ob.lesser hx this

/-- Root of a number that has none. -/
theorem root_no (a : Nat) (w : World) (ha : a < 18446744073709551616) (h : ¬ Ob.Sq a) :
    Calls Tryd.prog 33 #[.int .u64 a] w fun e w' => e = .returned (.tuple #[.int .u64 0, .iface 49 (.int .i64 2)]) ∧ ∃ n, w' = w.drewN n := by
  have h0 : a % Ob.R ≠ 0 := fun e => h (Or.inl e)
  have hl : a % Ob.R < Ob.R := Nat.mod_lt _ (by have := Ob.R_two; omega)
  have h1 : (a % Ob.R) ^ ((Ob.R - 1) / 2) % Ob.R ≠ 1 := by
    rw [Ob.pow_mod_left]
    exact fun e => h (Or.inr e)
  exact root_no_core a (a % Ob.R) ((a % Ob.R) ^ ((Ob.R - 1) / 2) % Ob.R) w ha (by simp; omega) (bne_of h1) (fun w => rest_R a w ha) (fun w => pow_R (a % Ob.R) ((Ob.R - 1) / 2) w hl (by decide +kernel))

end Go.Proofs.YtoigpjaffggekabDoor
