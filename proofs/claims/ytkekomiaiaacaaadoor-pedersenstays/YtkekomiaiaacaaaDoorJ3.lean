/-
  Joined texts: The walks of modular.someRoot and modular.Root. Numbers as bytes, the highest first. The walks of bytes as numbers: package words' Number, and the document's own. The walks of package edwards: the points of one Y, a point's bytes. Cells of variables, as a region's condition asks for them. Words of 32 bits as plain numbers: sums, rolling, mixing, pressing. Arrays of integers, as variables of one's own. Bytes copied into arrays of one's own. Bytes of words of 32 bits, the lowest first. Numbers out of bytes, the lowest first; a block's words. Regions that draw their order and end in a store into what they read: the condition on the world need not be met behind those last operations. Package blake, walked: rolling, half a mixing. Package blake's tables.
-/
import Derived.Test.YtkekomiaiaacaaaDoorJ1
import Derived.Test.YtkekomiaiaacaaaDoorJ2
import Derived.Laws.BytesArg
import Derived.OwnWalk
import Derived.WalkSpells
import Derived.Deep.DeepAppendRoom
import Derived.Laws.BitsAllLaws
import Derived.Deep.MidRow
import Derived.Laws.BitsLemmas
import Derived.Lib.LazyBuf
import Derived.Lib.SlBuf
import Derived.Deep.DeepCutAuto
import Derived.Deep.RegionHeld3

namespace Go.Proofs.YtkekomiaiaacaaaDoor
open Go.RowKit Go.Proofs
set_option linter.unusedVariables false

/-- The one cell of the table that is read. -/
def TabOk (w : World) : Prop := w.cell? ⟨5, 29, none⟩ = some (.int .u8 18)
theorem TabOk.drew {w : World} (h : TabOk w) (n : Nat) : TabOk (w.drewN n) := h

theorem tz_core (x : Int) (w : World) (hx0 : (x == 0) = false) (key : IntKind.u64.wrap (bits BinOp.and IntKind.u64 x (IntKind.u64.wrap (-x)) * 285870213051353865) / 288230376151711744 = 29)
    (hcell : w.cell? ⟨5, 29, none⟩ = some (.int .u8 18)) :
    Calls Tryd.prog 78 #[.int .u64 x] w fun e w' => e = .returned (.int .i64 18) ∧ w = w' := by
  go_enter Tryd.func78, Tryd.ntmps78
  go_wp2_with (simp only [key])
  go_ret
  exact ⟨rfl, rfl⟩

theorem tz_R (w : World) (h : TabOk w) :
    Calls Tryd.prog 78 #[.int .u64 288230376287764480] w fun e w' => e = .returned (.int .i64 18) ∧ w = w' :=
  tz_core 288230376287764480 w (by decide +kernel) (by decide +kernel) h

theorem pow_R (a x : Nat) (w : World) (ha : a < Ob.R) (hx : x < 18446744073709551616) :
    Calls Tryd.prog 70 #[.int .u64 288230376287764481, .int .u64 a, .int .u64 x] w fun e w' => e = .returned (.int .u64 ((a ^ x % Ob.R : Nat) : Int)) ∧ ∃ n, w' = w.drewN n :=
  powRest_any Ob.R a x w (by decide +kernel) (by decide +kernel) ha hx

theorem mul_R (a b : Nat) (w : World) (ha : a < Ob.R) (hb : b < Ob.R) :
    Calls Tryd.prog 67 #[.int .u64 288230376287764481, .int .u64 a, .int .u64 b] w fun e w' => e = .returned (.int .u64 ((a * b % Ob.R : Nat) : Int)) ∧ ∃ n, w' = w.drewN n :=
  mulRests_any Ob.R a b w (by decide +kernel) ha hb

theorem two_pow_word (j : Nat) (hj : j ≤ 16) : ∃ E : Nat, Hid (2 ^ j = E) ∧ E < 18446744073709551616 ∧ IntKind.u64.wrap (2 ^ j) = (E : Int) := by
  have h : 2 ^ j ≤ 2 ^ 16 := Nat.pow_le_pow_right (by decide) hj
  refine ⟨2 ^ j, rfl, by omega, ?_⟩
  have e : (2 : Int) ^ j = ((2 ^ j : Nat) : Int) := (Int.natCast_pow 2 j).symm
  rw [e]
  exact wrapNat _ (by omega)

set_option maxHeartbeats 1000000 in
theorem someRoot_any (a : Nat) (w : World) (hT : TabOk w) (ha : a < Ob.R) (hsq : Hid (a ^ ((Ob.R - 1) / 2) % Ob.R = 1)) :
    Calls Tryd.prog 71 #[.int .u64 a] w fun e w' => ∃ x : Nat, e = .returned (.int .u64 x) ∧ x < Ob.R ∧ Hid (x * x % Ob.R = a % Ob.R) ∧ ∃ n, w' = w.drewN n := by
  obtain ⟨x0, hx0, hx0l⟩ : ∃ x0 : Nat, Hid (a ^ ((Ob.ODD + 1) / 2) % Ob.R = x0) ∧ x0 < Ob.R := ⟨_, rfl, Nat.mod_lt _ (by decide +kernel)⟩
  obtain ⟨o0, ho0, ho0l⟩ : ∃ o0 : Nat, Hid (a ^ Ob.ODD % Ob.R = o0) ∧ o0 < Ob.R := ⟨_, rfl, Nat.mod_lt _ (by decide +kernel)⟩
  obtain ⟨s0, hs0, hs0l⟩ : ∃ s0 : Nat, Hid (3 ^ Ob.ODD % Ob.R = s0) ∧ s0 < Ob.R := ⟨_, rfl, Nat.mod_lt _ (by decide +kernel)⟩
  have hstart : Hid (Ob.Ton a 17 x0 o0 s0) := by
    have := Ob.Ton.start (a := a) rfl hsq.out
    rw [hx0.out, ho0.out, hs0.out] at this
    exact this
  have c1 : ∀ w, Calls Tryd.prog 70 #[.int .u64 288230376287764481, .int .u64 a, .int .u64 549755814148] w fun e w' => e = .returned (.int .u64 x0) ∧ ∃ n, w' = w.drewN n := fun w => by
    have := pow_R a ((Ob.ODD + 1) / 2) w ha (by decide +kernel)
    rw [hx0.out] at this
    exact this
  have c2 : ∀ w, Calls Tryd.prog 70 #[.int .u64 288230376287764481, .int .u64 a, .int .u64 1099511628295] w fun e w' => e = .returned (.int .u64 o0) ∧ ∃ n, w' = w.drewN n := fun w => by
    have := pow_R a Ob.ODD w ha (by decide +kernel)
    rw [ho0.out] at this
    exact this
  have c3 : ∀ w, Calls Tryd.prog 70 #[.int .u64 288230376287764481, .int .u64 3, .int .u64 1099511628295] w fun e w' => e = .returned (.int .u64 s0) ∧ ∃ n, w' = w.drewN n := fun w => by
    have := pow_R 3 Ob.ODD w (by decide +kernel) (by decide +kernel)
    rw [hs0.out] at this
    exact this
  have k1 : (288230376287764480 : Int) / 2 ^ 18 = 1099511628295 := by decide +kernel
  clear hx0 ho0 hs0 hsq
  go_enter Tryd.func71, Tryd.ntmps71
  go_wp2_with (go_at_call 78; refine (tz_R _ hT).mono ?_; rintro e w' ⟨rfl, rfl⟩)
  refine (c1 _).mono ?_
  rintro e w1 ⟨rfl, n1, rfl⟩
  go_wp2_with fail
  refine (c2 _).mono ?_
  rintro e w1 ⟨rfl, n2, rfl⟩
  go_wp2_with fail
  refine (c3 _).mono ?_
  rintro e w1 ⟨rfl, n3, rfl⟩
  clear c1 c2 c3
  go_wp2
  go_loopw [5, 6, 7, 8, 9] (fun sx so ss sk _ wr => ∃ k x o s n : Nat, k ≤ 17 ∧ x < Ob.R ∧ o < Ob.R ∧ s < Ob.R ∧ sx = .int .u64 x ∧ so = .int .u64 o ∧ ss = .int .u64 s ∧ sk = .int .i64 k ∧ wr = w.drewN n ∧ Hid (Ob.Ton a k x o s)) (fun _ _ _ sk _ _ => (intOf sk).toNat)
  case atStart => exact ⟨17, x0, o0, s0, _, by omega, hx0l, ho0l, hs0l, rfl, rfl, rfl, rfl, rfl, hstart⟩
  case round =>
    obtain ⟨k, x, o, s, n, hk, hx, ho, hs, rfl, rfl, rfl, rfl, rfl, hI⟩ := hrel
    clear hstart
    by_cases h0 : k = 0
    · subst h0
      have hn : Hid (x * x % Ob.R = a % Ob.R) := hI.out.last
      go_wp2
      go_ret
      exact ⟨x, rfl, hx, hn, _, rfl⟩
    · obtain ⟨j, rfl⟩ : ∃ j, k = j + 1 := ⟨k - 1, by omega⟩
      obtain ⟨nx, hnx, hnxl⟩ : ∃ nx : Nat, Hid (s * s % Ob.R = nx) ∧ nx < Ob.R := ⟨_, rfl, Nat.mod_lt _ (by decide +kernel)⟩
      have c1 : ∀ w, Calls Tryd.prog 67 #[.int .u64 288230376287764481, .int .u64 s, .int .u64 s] w fun e w' => e = .returned (.int .u64 nx) ∧ ∃ n, w' = w.drewN n := fun w => by
        have := mul_R s s w hs hs
        rw [hnx.out] at this
        exact this
      obtain ⟨E, hE, hEl, hEi⟩ : ∃ E : Nat, Hid (2 ^ j = E) ∧ E < 18446744073709551616 ∧ IntKind.u64.wrap (2 ^ j) = (E : Int) := two_pow_word j (by omega)
      obtain ⟨q, hq, hql⟩ : ∃ q : Nat, Hid (o ^ E % Ob.R = q) ∧ q < Ob.R := ⟨_, rfl, Nat.mod_lt _ (by decide +kernel)⟩
      have c2 : ∀ w, Calls Tryd.prog 70 #[.int .u64 288230376287764481, .int .u64 o, .int .u64 E] w fun e w' => e = .returned (.int .u64 q) ∧ ∃ n, w' = w.drewN n := fun w => by
        have := pow_R o E w ho hEl
        rw [hq.out] at this
        exact this
      by_cases hq1 : q = 1
      · have hN : Hid (Ob.Ton a j x o nx) := by
          have := hI.out.keep (by rw [hE.out, hq.out, hq1])
          rw [hnx.out] at this
          exact this
        have hq1i : ((q : Int) != 1) = false := by rw [hq1]; rfl
        clear hI hq hE hnx hq1
        go_wp2_with (first | (go_at_call 67; refine (c1 _).mono ?_; rintro e w' ⟨rfl, n1', rfl⟩) | (go_at_call 70; refine (c2 _).mono ?_; rintro e w' ⟨rfl, n2', rfl⟩))
        go_roundw
        case rel => exact ⟨j, x, o, nx, _, by omega, hx, ho, hnxl, rfl, rfl, rfl, by first | rfl | go_num, rfl, hN⟩
        case measure => simp [intOf]
      · obtain ⟨x2, hx2, hx2l⟩ : ∃ x2 : Nat, Hid (x * s % Ob.R = x2) ∧ x2 < Ob.R := ⟨_, rfl, Nat.mod_lt _ (by decide +kernel)⟩
        obtain ⟨o2, ho2, ho2l⟩ : ∃ o2 : Nat, Hid (o * nx % Ob.R = o2) ∧ o2 < Ob.R := ⟨_, rfl, Nat.mod_lt _ (by decide +kernel)⟩
        have c3 : ∀ w, Calls Tryd.prog 67 #[.int .u64 288230376287764481, .int .u64 x, .int .u64 s] w fun e w' => e = .returned (.int .u64 x2) ∧ ∃ n, w' = w.drewN n := fun w => by
          have := mul_R x s w hx hs
          rw [hx2.out] at this
          exact this
        have c4 : ∀ w, Calls Tryd.prog 67 #[.int .u64 288230376287764481, .int .u64 o, .int .u64 nx] w fun e w' => e = .returned (.int .u64 o2) ∧ ∃ n, w' = w.drewN n := fun w => by
          have := mul_R o nx w ho hnxl
          rw [ho2.out] at this
          exact this
        have hN : Hid (Ob.Ton a j x2 o2 nx) := by
          have := hI.out.turn (by rw [hE.out, hq.out]; exact hq1)
          rw [hnx.out, hx2.out, ho2.out] at this
          exact this
        have hq1i : ((q : Int) != 1) = true := by simp; omega
        clear hI hq hE hnx hq1 hx2 ho2
        go_wp2_with (first | (go_at_call 70; refine (c2 _).mono ?_; rintro e w' ⟨rfl, n2', rfl⟩))
        refine (c1 _).mono ?_
        rintro e w' ⟨rfl, n3', rfl⟩
        go_wp2_with (first | (go_at_call 70; refine (c2 _).mono ?_; rintro e w' ⟨rfl, n2', rfl⟩))
        refine (c3 _).mono ?_
        rintro e w' ⟨rfl, n4', rfl⟩
        go_wp2_with fail
        refine (c4 _).mono ?_
        rintro e w' ⟨rfl, n5', rfl⟩
        go_wp2
        go_roundw
        case rel => exact ⟨j, x2, o2, nx, _, by omega, hx2l, ho2l, hnxl, rfl, rfl, rfl, by first | rfl | go_num, rfl, hN⟩
        case measure => simp [intOf]

theorem rest_R (a : Nat) (w : World) (ha : a < 18446744073709551616) :
    Calls Tryd.prog 65 #[.int .u64 288230376287764481, .int .u64 a] w fun e w' => e = .returned (.int .u64 ((a % Ob.R : Nat) : Int)) ∧ w = w' :=
  rest_any Ob.R a w (by decide +kernel) ha

set_option maxHeartbeats 400000 in
theorem root_zero (a : Nat) (w : World) (ha : a < 18446744073709551616) (h : a % Ob.R = 0) :
    Calls Tryd.prog 61 #[.int .u64 a] w fun e w' => e = .returned (.tuple #[.int .u64 0, .nilIface]) ∧ ∃ n, w' = w.drewN n := by
  have c1 := fun w => rest_R a w ha
  rw [h] at c1
  clear h
  go_enter Tryd.func61, Tryd.ntmps61
  go_wp2_with (go_at_call 65; refine (c1 _).mono ?_; rintro e w' ⟨rfl, rfl⟩)
  go_ret2
  exact ⟨rfl, 0, rfl⟩

set_option maxHeartbeats 400000 in
theorem root_no_core (a r q : Nat) (w : World) (ha : a < 18446744073709551616) (hr : ((r : Int) == 0) = false) (hq : ((q : Int) != 1) = true)
    (c1 : ∀ w, Calls Tryd.prog 65 #[.int .u64 288230376287764481, .int .u64 a] w fun e w' => e = .returned (.int .u64 r) ∧ w = w')
    (c2 : ∀ w, Calls Tryd.prog 70 #[.int .u64 288230376287764481, .int .u64 r, .int .u64 144115188143882240] w fun e w' => e = .returned (.int .u64 q) ∧ ∃ n, w' = w.drewN n) :
    Calls Tryd.prog 61 #[.int .u64 a] w fun e w' => e = .returned (.tuple #[.int .u64 0, .iface 33 (.int .i64 2)]) ∧ ∃ n, w' = w.drewN n := by
  go_enter Tryd.func61, Tryd.ntmps61
  go_wp2_with (first | (go_at_call 65; refine (c1 _).mono ?_; rintro e w' ⟨rfl, rfl⟩) | (go_at_call 70; refine (c2 _).mono ?_; rintro e w' ⟨rfl, n, rfl⟩))
  go_ret2
  exact ⟨rfl, _, rfl⟩

theorem ret_fst {k : IntKind} {a b : Int} {v : Value} (h : a = b) : Ending.returned (.tuple #[.int k a, v]) = .returned (.tuple #[.int k b, v]) := by rw [h]
theorem bne_of {q : Nat} (h : q ≠ 1) : ((q : Int) != 1) = true := by simp; omega
theorem beq_of {q : Nat} (h : q ≠ 1) : ((q : Int) == 1) = false := by simp; omega

set_option maxHeartbeats 400000 in
theorem root_yes_core (a r : Nat) (w : World) (hT : TabOk w) (ha : a < 18446744073709551616) (hr : ((r : Int) == 0) = false) (y : Nat)
    (c1 : ∀ w, Calls Tryd.prog 65 #[.int .u64 288230376287764481, .int .u64 a] w fun e w' => e = .returned (.int .u64 r) ∧ w = w')
    (c2 : ∀ w, Calls Tryd.prog 70 #[.int .u64 288230376287764481, .int .u64 r, .int .u64 144115188143882240] w fun e w' => e = .returned (.int .u64 1) ∧ ∃ n, w' = w.drewN n)
    (c3 : ∀ w, TabOk w → Calls Tryd.prog 71 #[.int .u64 r] w fun e w' => ∃ x : Nat, e = .returned (.int .u64 x) ∧ x < Ob.R ∧ Hid (y = min x (Ob.R - x)) ∧ ∃ n, w' = w.drewN n) :
    Calls Tryd.prog 61 #[.int .u64 a] w fun e w' => e = .returned (.tuple #[.int .u64 y, .nilIface]) ∧ ∃ n, w' = w.drewN n := by
  go_enter Tryd.func61, Tryd.ntmps61
  go_wp2_with (first | (go_at_call 65; refine (c1 _).mono ?_; rintro e w' ⟨rfl, rfl⟩) | (go_at_call 70; refine (c2 _).mono ?_; rintro e w' ⟨rfl, n, rfl⟩))
  refine (c3 _ (hT.drew _)).mono ?_
  rintro e w' ⟨x, rfl, hx, hy, n', rfl⟩
  have hx2 : x < 288230376287764481 := hx
  have hyi : Hid (min (x : Int) (288230376287764481 - (x : Int)) = (y : Int)) := by
    have h := hy.out
    show min (x : Int) (288230376287764481 - (x : Int)) = (y : Int)
    simp only [Ob.R] at h
    omega
  go_wp2
  go_ret2
  exact ⟨ret_fst hyi.out, _, rfl⟩

theorem R_half_num : (Ob.R - 1) / 2 = 144115188143882240 := by decide +kernel

/-- Root of a number that has one. -/
theorem root_yes (a : Nat) (w : World) (hT : TabOk w) (ha : a < 18446744073709551616) (h : Ob.Sq a) :
    Calls Tryd.prog 61 #[.int .u64 a] w fun e w' => e = .returned (.tuple #[.int .u64 (Ob.root a : Nat), .nilIface]) ∧ ∃ n, w' = w.drewN n := by
  by_cases h0 : a % Ob.R = 0
  · have : Ob.root a = 0 := Ob.root_eq (by omega) (by rw [h0, Nat.mul_zero, Nat.zero_mod])
    rw [this]
    exact root_zero a w ha h0
  · have hl : a % Ob.R < Ob.R := Nat.mod_lt _ (by have := Ob.R_two; omega)
    have h1 : (a % Ob.R) ^ ((Ob.R - 1) / 2) % Ob.R = 1 := by
      rw [Ob.pow_mod_left]
      rcases h with h | h
      · exact absurd h h0
      · exact h
    refine root_yes_core a (a % Ob.R) w hT ha (by simp; omega) (Ob.root a) (fun w => rest_R a w ha) (fun w => ?_) (fun w hw => ?_)
    · have := pow_R (a % Ob.R) ((Ob.R - 1) / 2) w hl (by decide +kernel)
      rw [h1] at this
      exact this
    · refine (someRoot_any (a % Ob.R) w hw hl h1).mono fun e w' ⟨x, he, hx, hxx, hw⟩ => ⟨x, he, hx, ?_, hw⟩
      have := hxx.out
      rw [Nat.mod_mod] at this
      exact Ob.lesser hx this

/-- Root of a number that has none. -/
theorem root_no (a : Nat) (w : World) (ha : a < 18446744073709551616) (h : ¬ Ob.Sq a) :
    Calls Tryd.prog 61 #[.int .u64 a] w fun e w' => e = .returned (.tuple #[.int .u64 0, .iface 33 (.int .i64 2)]) ∧ ∃ n, w' = w.drewN n := by
  have h0 : a % Ob.R ≠ 0 := fun e => h (Or.inl e)
  have hl : a % Ob.R < Ob.R := Nat.mod_lt _ (by have := Ob.R_two; omega)
  have h1 : (a % Ob.R) ^ ((Ob.R - 1) / 2) % Ob.R ≠ 1 := by
    rw [Ob.pow_mod_left]
    exact fun e => h (Or.inr e)
  exact root_no_core a (a % Ob.R) ((a % Ob.R) ^ ((Ob.R - 1) / 2) % Ob.R) w ha (by simp; omega) (bne_of h1) (fun w => rest_R a w ha) (fun w => pow_R (a % Ob.R) ((Ob.R - 1) / 2) w hl (by decide +kernel))

/-- The document's own: has a number a root? -/
theorem square_yes (a : Nat) (w : World) (ha : a < 18446744073709551616) (h : Ob.Sq a) :
    Calls Tryd.prog 22 #[.int .u64 a] w fun e w' => e = .returned (.bool true) ∧ w = w' := by
  have c1 := fun w => rpow_any Ob.R a ((Ob.R - 1) / 2) w ⟨by decide +kernel, by decide +kernel⟩ ha (by decide +kernel)
  rw [Ob.pow_yes ⟨by decide +kernel, by decide +kernel⟩] at c1
  by_cases h0 : a % Ob.R = 0
  · have h0i : ((a : Int) % 288230376287764481 == 0) = true := by simp [Ob.R] at h0 ⊢; omega
    clear c1
    go_enter Tryd.func22, Tryd.ntmps22
    go_wp2
    go_ret
    exact ⟨rfl, rfl⟩
  · have h0i : ((a : Int) % 288230376287764481 == 0) = false := by simp [Ob.R] at h0 ⊢; omega
    rcases h with h | h
    · exact absurd h h0
    rw [h] at c1
    have c2 : ∀ w, Calls Tryd.prog 40 #[.int .u64 288230376287764481, .int .u64 a, .int .u64 144115188143882240] w fun e w' => e = .returned (.int .u64 1) ∧ w = w' := c1
    clear c1 h h0
    go_enter Tryd.func22, Tryd.ntmps22
    go_wp2_with (go_at_call 40; refine (c2 _).mono ?_; rintro e w' ⟨rfl, rfl⟩)
    go_ret
    exact ⟨rfl, rfl⟩

theorem square_no_core (a q : Nat) (w : World) (h0i : ((a : Int) % 288230376287764481 == 0) = false) (hq : ((q : Int) == 1) = false)
    (c2 : ∀ w, Calls Tryd.prog 40 #[.int .u64 288230376287764481, .int .u64 a, .int .u64 144115188143882240] w fun e w' => e = .returned (.int .u64 q) ∧ w = w') :
    Calls Tryd.prog 22 #[.int .u64 a] w fun e w' => e = .returned (.bool false) ∧ w = w' := by
  go_enter Tryd.func22, Tryd.ntmps22
  go_wp2_with (go_at_call 40; refine (c2 _).mono ?_; rintro e w' ⟨rfl, rfl⟩)
  go_ret
  exact ⟨rfl, rfl⟩

theorem square_no (a : Nat) (w : World) (ha : a < 18446744073709551616) (h : ¬ Ob.Sq a) :
    Calls Tryd.prog 22 #[.int .u64 a] w fun e w' => e = .returned (.bool false) ∧ w = w' := by
  have c1 := fun w => rpow_any Ob.R a ((Ob.R - 1) / 2) w ⟨by decide +kernel, by decide +kernel⟩ ha (by decide +kernel)
  rw [Ob.pow_yes ⟨by decide +kernel, by decide +kernel⟩] at c1
  have h0 : a % Ob.R ≠ 0 := fun e => h (Or.inl e)
  have h1 : a ^ ((Ob.R - 1) / 2) % Ob.R ≠ 1 := fun e => h (Or.inr e)
  exact square_no_core a _ w (by simp [Ob.R] at h0 ⊢; omega) (beq_of h1) c1
end Go.Proofs.YtkekomiaiaacaaaDoor

namespace Ob

/-- The number that the first k bytes of z tell. -/
def num (z : Nat → Nat) : Nat → Nat
  | 0 => 0
  | k + 1 => 256 * num z k + z k
theorem num_lt (z : Nat → Nat) (h : ∀ i, z i < 256) (k : Nat) : num z k < 256 ^ k := by
  induction k with
  | zero => simp [num]
  | succ k ih =>
    have := h k
    rw [Nat.pow_succ]
    simp only [num]
    omega
theorem num_small (z : Nat → Nat) (h : ∀ i, z i < 256) (k : Nat) (hk : k ≤ 7) : num z k < 72057594037927936 :=
  Nat.lt_of_lt_of_le (num_lt z h k) (Nat.pow_le_pow_right (n := 256) (by decide) hk)
theorem num_word (z : Nat → Nat) (h : ∀ i, z i < 256) : num z 8 < 18446744073709551616 := num_lt z h 8

/-- The byte number i of the 8 of n. -/
def byteAt (n i : Nat) : Nat := n / 256 ^ (7 - i) % 256
theorem byteAt_lt (n i : Nat) : byteAt n i < 256 := Nat.mod_lt _ (by decide)

theorem num_byteAt (n k : Nat) (hk : k ≤ 8) (hn : n < 18446744073709551616) : num (byteAt n) k = n / 256 ^ (8 - k) := by
  induction k with
  | zero => simp only [num]; rw [Nat.div_eq_of_lt (by simpa using hn)]
  | succ k ih =>
    simp only [num]
    rw [ih (by omega)]
    have e : 8 - k = (8 - (k + 1)) + 1 := by omega
    have e2 : 7 - k = 8 - (k + 1) := by omega
    rw [e, Nat.pow_succ, ← Nat.div_div_eq_div_mul]
    unfold byteAt
    rw [e2]
    omega
theorem num_bytes (n : Nat) (hn : n < 18446744073709551616) : num (byteAt n) 8 = n := by
  rw [num_byteAt n 8 (by decide) hn]; simp
theorem num_congr (y z : Nat → Nat) (k : Nat) (h : ∀ i, i < k → y i = z i) : num y k = num z k := by
  induction k with
  | zero => rfl
  | succ k ih => simp only [num]; rw [ih fun i hi => h i (by omega), h k (by omega)]
theorem byteAt_num (z : Nat → Nat) (h : ∀ i, z i < 256) (i : Nat) (hi : i < 8) : byteAt (num z 8) i = z i := by
  have h0 := h 0; have h1 := h 1; have h2 := h 2; have h3 := h 3; have h4 := h 4; have h5 := h 5; have h6 := h 6; have h7 := h 7
  have h8 : i = 0 ∨ i = 1 ∨ i = 2 ∨ i = 3 ∨ i = 4 ∨ i = 5 ∨ i = 6 ∨ i = 7 := by omega
  rcases h8 with rfl | rfl | rfl | rfl | rfl | rfl | rfl | rfl
  all_goals
    simp only [byteAt, num]
    omega
end Ob

namespace Go.Proofs.YtkekomiaiaacaaaDoor
open Go.RowKit Go.Proofs
set_option linter.unusedVariables false
set_option linter.unusedSimpArgs false

/-- n bytes, from a place on. -/
structure Bys (w : World) (b off n : Nat) (z : Nat → Nat) : Prop where
  lt : b < w.heap.size
  at_ : ∀ i, i < n → w.cell? ⟨b, off + i, none⟩ = some (.int .u8 (z i : Nat))
theorem Bys.below {w w1 : World} {B b off n : Nat} {z : Nat → Nat} (t : Bys w b off n z) (hb : Below B w w1) (h : b < B) : Bys w1 b off n z :=
  ⟨Nat.lt_of_lt_of_le t.lt hb.size, fun i hi => by rw [(bcell hb).1 b _ h]; exact t.at_ i hi⟩
theorem Bys.via {w w1 : World} {B b off n : Nat} {z : Nat → Nat} (hb : Below B w w1) (t : Bys w b off n z) (h : b < B) : Bys w1 b off n z := t.below hb h
theorem Bys.drew {w : World} {b off n : Nat} {z : Nat → Nat} (t : Bys w b off n z) : Bys w.drew b off n z := ⟨t.lt, t.at_⟩
theorem Bys.drewN {w : World} {b off n : Nat} {z : Nat → Nat} (t : Bys w b off n z) (k : Nat) : Bys (w.drewN k) b off n z := ⟨t.lt, t.at_⟩
theorem Bys.alloc {w : World} {b off n : Nat} {z : Nat → Nat} (t : Bys w b off n z) (o : Obj) : Bys (w.alloc o) b off n z := t.below ((Below.refl w.heap.size w).alloc (Nat.le_refl _) o) t.lt
theorem Bys.far {w : World} {b off n b' : Nat} {z : Nat → Nat} (t : Bys w b off n z) (h : b' ≠ b) (o : Nat) (v : Value) : Bys (w.setCell ⟨b', o, none⟩ v) b off n z :=
  ⟨by simp [t.lt], fun i hi => by rw [World.cell?_setCell_other _ _ _ _ (by simp [h]), t.at_ i hi]⟩
theorem Bys.less {w : World} {b off n m : Nat} {z : Nat → Nat} (t : Bys w b off n z) (h : m ≤ n) : Bys w b off m z := ⟨t.lt, fun i hi => t.at_ i (by omega)⟩
theorem Bys.more {w : World} {b off n : Nat} {z : Nat → Nat} (t : Bys w b off n z) (k m : Nat) (h : k + m ≤ n) : Bys w b (off + k) m (fun i => z (k + i)) :=
  ⟨t.lt, fun i hi => by rw [Nat.add_assoc]; exact t.at_ (k + i) (by omega)⟩


theorem or_byte (n x : Nat) (hn : n < 72057594037927936) (hx : x < 256) : bits .or .u64 ((n : Int) * 256) (x : Int) = ((256 * n + x : Nat) : Int) := by
  have h := bits_or_u64_nat (256 * n) x (by omega) (by omega)
  have e : 256 * n ||| x = 256 * n + x := (Nat.two_pow_add_eq_or_of_lt (i := 8) (show x < 2 ^ 8 from hx) n).symm
  rw [e] at h
  have e2 : ((256 * n : Nat) : Int) = (n : Int) * 256 := by omega
  rw [e2] at h
  exact h


theorem byteInfo : ∃ i, Tryd.prog.info? 5 = some i ∧ i.size = 1 ∧ i.bytes = 1 ∧ i.zero = some (.int .u8 0) := by
  have h : (Tryd.prog.info? 5).map (fun i => (i.size, i.bytes, i.zero)) = some (1, 1, some (.int .u8 0)) := by kernel_rfl
  cases hi : Tryd.prog.info? 5 with
  | none => rw [hi] at h; cases h
  | some i =>
    rw [hi] at h
    simp only [Option.map_some, Option.some.injEq, Prod.mk.injEq] at h
    exact ⟨i, rfl, h.1, h.2.1, h.2.2⟩

/-- The values of bytes. -/
def vals (z : Nat → Nat) (n : Nat) : List Value := (List.range n).map fun i => .int .u8 (z i : Nat)
theorem vals_zero (z : Nat → Nat) : vals z 0 = [] := rfl
theorem vals_succ (z : Nat → Nat) (n : Nat) : vals z (n + 1) = vals z n ++ [.int .u8 (z n : Nat)] := by simp [vals, List.range_succ]
theorem vals_get (z : Nat → Nat) (n i : Nat) (h : i < n) : (vals z n)[i]? = some (.int .u8 (z i : Nat)) := by simp [vals, h]

/-- A row of the call's own, as bytes. -/
theorem bys_of_row {w : World} {base n cap g : Nat} {z : Nat → Nat} (h : w.ownsRow base 5 1 (.slice (some ⟨g, 0, none⟩) n cap) n (vals z n)) : Bys w g 0 n z := by
  refine ⟨(h.lt g rfl).2, fun i hi => ?_⟩
  have := h.cells (g := g) rfl i _ (vals_get z n i hi)
  have hadd : (⟨g, 0, none⟩ : Addr).add i = ⟨g, 0 + i, none⟩ := by unfold Addr.add; split <;> simp_all
  rw [hadd] at this
  exact this
theorem free_of_row {w : World} {base n cap g : Nat} {xs : List Value} (h : w.ownsRow base 5 1 (.slice (some ⟨g, 0, none⟩) n cap) n xs) (o : Nat) : w.frozen? ⟨g, o, none⟩ = false := by
  rcases h.2 with ⟨h0, _⟩ | ⟨g', cap', cur, hv, _, hg, _⟩
  · cases h0
  · cases hv
    simp [World.frozen?, hg]

/-- Bytes that lie in memory, as the cells that an append takes. -/
theorem bys_news {w : World} {b off n : Nat} {z : Nat → Nat} (h : Bys w b off n z) : ∀ j u, (vals z n)[j]? = some u → w.cell? ((⟨b, off, none⟩ : Addr).add j) = some u := by
  intro j u hu
  have hj : j < n := by
    rcases Nat.lt_or_ge j n with h1 | h1
    · exact h1
    · have : (vals z n)[j]? = none := List.getElem?_eq_none (by simp [vals]; exact h1)
      rw [this] at hu
      cases hu
  rw [vals_get z n j hj] at hu
  cases hu
  have hadd : (⟨b, off, none⟩ : Addr).add j = ⟨b, off + j, none⟩ := by unfold Addr.add; split <;> simp_all
  rw [hadd]
  exact h.at_ j hj
theorem vals_one (z : Nat → Nat) (n : Nat) : ∀ u ∈ vals z n, u.oneCell' = true := by
  intro u hu
  simp only [vals, List.mem_map] at hu
  obtain ⟨i, _, rfl⟩ := hu
  rfl

/-- Byte number i of the numbers ns, one behind the other. -/
def byteOf (ns : Nat → Nat) (i : Nat) : Nat := Ob.byteAt (ns (i / 8)) (i % 8)

theorem shr_byte (n j : Nat) (hj : j < 8) (hn : n < 18446744073709551616) : IntKind.u8.wrap ((n : Int) / 2 ^ (56 - 8 * j)) = ((Ob.byteAt n j : Nat) : Int) := by
  have e : (2 : Nat) ^ (56 - 8 * j) = 256 ^ (7 - j) := by
    have : 56 - 8 * j = 8 * (7 - j) := by omega
    rw [this, Nat.pow_mul]
  have e1 : (n : Int) / 2 ^ (56 - 8 * j) = ((n / 2 ^ (56 - 8 * j) : Nat) : Int) := by simp
  rw [e1, e, IntKind.wrap_u8]
  unfold Ob.byteAt
  omega

set_option maxRecDepth 4000 in
set_option maxHeartbeats 1000000 in
theorem bytesW (b off k cap : Nat) (ns : Nat → Nat) (hns : ∀ i, ns i < 18446744073709551616) (w : World) (hk : k ≤ 1000000) (hc : ∀ i, i < k → w.cell? ⟨b, off + i, none⟩ = some (.int .u64 (ns i : Nat))) (hbw : b < w.heap.size) :
    Calls Tryd.prog 30 #[.slice (some ⟨b, off, none⟩) k cap] w fun e w' => e = .returned (.slice (some ⟨w.heap.size, 0, none⟩) (8 * k) (8 * k)) ∧ w'.ownsRow w.heap.size 5 1 (.slice (some ⟨w.heap.size, 0, none⟩) (8 * k) (8 * k)) (8 * k) (vals (byteOf ns) (8 * k)) ∧ Below w.heap.size w w' := by
  obtain ⟨i0, hi, hz1, hz2, hz0⟩ := byteInfo
  have hm : 8 * k ≤ maxLen := by unfold maxLen; omega
  go_enter Tryd.func30, Tryd.ntmps30
  go_wp2_with (at_make; refine wpList_make_own _ rfl _ _ 46 rfl w.heap.size 5 i0 _ 1 Tryd.underlying46 hi hz0 hz1 _ _ _ (8 * k) rfl rfl (by omega) (by rw [hz2]; omega) hm (Nat.le_refl _) ?_; intro w0 hown0 hgrow0)
  have hB0 : Below w.heap.size w w0 := (Below.refl _ _).grown hgrow0 (Nat.le_refl _) (fun k h => by cases h)
  clear hgrow0
  go_loopw [3, 13] (fun sb si wr => ∃ i : Nat, i ≤ k ∧ si = .int .i64 i ∧ sb = .slice (some ⟨w.heap.size, 0, none⟩) (8 * i) (8 * k) ∧ wr.ownsRow w.heap.size 5 1 (.slice (some ⟨w.heap.size, 0, none⟩) (8 * i) (8 * k)) (8 * i) (vals (byteOf ns) (8 * i)) ∧ Below w.heap.size w wr) (fun _ si _ => k - (intOf si).toNat)
  case atStart => exact ⟨0, by omega, rfl, rfl, hown0, hB0⟩
  case round =>
    obtain ⟨i, hik, rfl, rfl, hown, hB⟩ := hrel
    clear hown0 hB0
    by_cases hlt : i < k
    · have hci : wr.cell? ⟨b, off + i, none⟩ = some (.int .u64 (ns i : Nat)) := by rw [(bcell hB).1 b _ hbw]; exact hc i hlt
      have hni := hns i
      have hby : ∀ j, j < 8 → Hid (byteOf ns (8 * i + j) = Ob.byteAt (ns i) j) := fun j hj => by
        show byteOf ns (8 * i + j) = Ob.byteAt (ns i) j
        unfold byteOf
        have e1 : (8 * i + j) / 8 = i := by omega
        have e2 : (8 * i + j) % 8 = j := by omega
        rw [e1, e2]
      have hsh := fun j (hj : j < 8) => shr_byte (ns i) j hj hni
      generalize ns i = n at hci hni hby hsh
      go_wp2_with fail
      go_loopw [3, 6] (fun sb ss wq => ∃ j : Nat, j ≤ 8 ∧ ss = .int .i64 (56 - 8 * (j : Int)) ∧ sb = .slice (some ⟨w.heap.size, 0, none⟩) (8 * i + j) (8 * k) ∧ wq.ownsRow w.heap.size 5 1 (.slice (some ⟨w.heap.size, 0, none⟩) (8 * i + j) (8 * k)) (8 * i + j) (vals (byteOf ns) (8 * i + j)) ∧ Below w.heap.size w wq) (fun _ ss _ => (intOf ss + 8).toNat)
      case atStart => exact ⟨0, by omega, rfl, rfl, hown, hB⟩
      case round =>
        obtain ⟨j, hj, rfl, rfl, hown1, hB1⟩ := hrel
        clear hown hB hci
        by_cases hj8 : j < 8
        · have hs := hsh j hj8
          have hv := hby j hj8
          clear hsh hby hc
          have hown2 := hown1.alloc (.cells #[.int .u8 (Ob.byteAt n j : Nat)] 5)
          have hroom : 8 * i + j + 1 ≤ 8 * k := by omega
          have hj0 : (0 : Int) ≤ 56 - 8 * (j : Int) := by omega
          go_wp2_with (at_builtin; refine wpList_append_own_spare _ rfl _ _ 46 rfl w.heap.size 5 i0 1 Tryd.underlying46 hi hz1 w.heap.size (8 * i + j) (8 * k) _ rfl hown2 ⟨wr.heap.size, 0, none⟩ 1 1 [.int .u8 (Ob.byteAt n j : Nat)] rfl rfl (cell_one_new _ _ _) (by simp [Value.oneCell']) hroom ?_; intro w1 hown3 hgrow1)
          rw [← hv.out, ← vals_succ] at hown3
          have hB2 : Below w.heap.size w w1 := (hB1.alloc hB1.size _).grown hgrow1 (by have := hB1.size; simp only [World.size_alloc]; omega) (fun k h => by cases h; exact Nat.le_refl _)
          go_roundw
          case rel => exact ⟨j + 1, by omega, val_int (by omega), rfl, hown3, hB2⟩
          case measure => simp [intOf]; omega
        · obtain rfl : j = 8 := by omega
          clear hsh hby
          go_wp2
          go_roundw
          case rel => exact ⟨i + 1, by omega, by go_num, rfl, hown1, hB1⟩
          case measure => simp [intOf]; omega
    · obtain rfl : i = k := by omega
      go_wp2
      go_ret
      exact ⟨rfl, hown, hB⟩

theorem run_make8 (w : World) : (Instr.makeSlice 46 (.int .i64 8) (.int .i64 8)).run Tryd.prog w = .ok (.slice (some ⟨w.heap.size, 0, none⟩) 8 8) (w.alloc (.cells #[.int .u8 0, .int .u8 0, .int .u8 0, .int .u8 0, .int .u8 0, .int .u8 0, .int .u8 0, .int .u8 0] 5)) := by
  obtain ⟨i0, hi, hz1, hz2, hz0⟩ := byteInfo
  have h := run_make (P := Tryd.prog) w 46 5 i0 _ Tryd.underlying46 hi hz0 .i64 .i64 8 8 (by omega) (by omega) (by rw [hz2]; decide) (by omega)
  rw [hz1] at h
  have e : madeCells (Value.int .u8 0).cells (Int.toNat 8 * 1) = #[.int .u8 0, .int .u8 0, .int .u8 0, .int .u8 0, .int .u8 0, .int .u8 0, .int .u8 0, .int .u8 0] := by kernel_rfl
  rw [e] at h
  exact h

set_option maxHeartbeats 2000000 in
set_option maxRecDepth 4000 in
theorem rbytesW (n : Nat) (hn : n < 18446744073709551616) (w : World) :
    Calls Tryd.prog 18 #[.int .u64 n] w fun e w' => e = .returned (.slice (some ⟨w.heap.size, 0, none⟩) 8 8) ∧ Bys w' w.heap.size 0 8 (Ob.byteAt n) ∧ Below w.heap.size w w' := by
  have hmk := run_make8
  go_enter Tryd.func18, Tryd.ntmps18
  go_wp2
  go_rounds 9
  go_ret
  refine ⟨rfl, ⟨by simp, fun i hi => ?_⟩, by (repeat' (first | (with_reducible first | exact Below.refl _ _ | assumption | refine Below.alloc ?_ ?_ _ | refine Below.drew ?_ | refine below_drewN ?_ _ | refine Below.setCell ?_ ?_ _ | refine below_via (by with_reducible assumption) ?_ ?_) | omega | (simp only [szs]; omega) | (simp only [szs] at *; omega)))⟩
  rw [Nat.zero_add, World.cell?_alloc_new]
  have h8 : i = 0 ∨ i = 1 ∨ i = 2 ∨ i = 3 ∨ i = 4 ∨ i = 5 ∨ i = 6 ∨ i = 7 := by omega
  rcases h8 with rfl | rfl | rfl | rfl | rfl | rfl | rfl | rfl
  all_goals
    refine congrArg some (val_int ?_)
    simp only [Ob.byteAt]
    omega

/-- The numbers of bytes, as a list. -/
def nums (z : Nat → Nat) (n : Nat) : List Int := (List.range n).map fun i => (z i : Int)
/-- A slice of bytes, told as a string. -/
theorem bys_str (b off n cap : Nat) (z : Nat → Nat) (w : World) (h : Bys w b off n z) : (convert 46 9 (.slice (some ⟨b, off, none⟩) n cap)).run Tryd.prog w = .ok (.string (strOfNums (nums z n))) w := by
  refine run_convert_bytes_arg w 46 5 Tryd.underlying46 Tryd.underlying5 b off n cap (nums z n) (by simp [nums]) (fun i hi => ?_) 9 Tryd.underlying9
  rw [h.at_ i hi]
  simp [nums, hi]
theorem nums_add (z : Nat → Nat) (m n : Nat) : nums z (m + n) = nums z m ++ nums (fun i => z (m + i)) n := by
  simp [nums, List.range_add]
theorem nums_congr (y z : Nat → Nat) (n : Nat) (h : ∀ i, i < n → y i = z i) : nums y n = nums z n := by
  simp only [nums]
  refine List.map_congr_left fun i hi => ?_
  rw [h i (List.mem_range.mp hi)]
theorem strOfNums_append (x y : List Int) : strOfNums x ++ strOfNums y = strOfNums (x ++ y) := by
  apply ByteArray.ext
  simp [strOfNums, ByteArray.data_append]

/-- n bytes of the call's own, that may be written. -/
structure Wby (w : World) (g n : Nat) : Prop where
  at_ : ∀ j, j < n → ∃ v : Nat, v < 256 ∧ w.cell? ⟨g, j, none⟩ = some (.int .u8 v)
  free : ∀ o, w.frozen? ⟨g, o, none⟩ = false
  lt : g < w.heap.size
theorem Wby.of_bys {w : World} {g n : Nat} {z : Nat → Nat} (hz : ∀ i, z i < 256) (h : Bys w g 0 n z) (f : ∀ o, w.frozen? ⟨g, o, none⟩ = false) : Wby w g n :=
  ⟨fun j hj => ⟨z j, hz j, by have := h.at_ j hj; rw [Nat.zero_add] at this; exact this⟩, f, h.lt⟩
theorem Wby.set {w : World} {g n k : Nat} (h : Wby w g n) (v : Nat) (hv : v < 256) (hk : k < n) : Wby (w.setCell ⟨g, k, none⟩ (.int .u8 v)) g n := by
  refine ⟨fun j hj => ?_, fun o => by simp [h.free o], by simp [h.lt]⟩
  by_cases e : j = k
  · subst e
    obtain ⟨u, _, hc⟩ := h.at_ j hj
    exact ⟨v, hv, World.cell?_setCell_same _ _ _ hc⟩
  · obtain ⟨u, hu, hc⟩ := h.at_ j hj
    exact ⟨u, hu, by rw [World.cell?_setCell_other _ _ _ _ (fun h => e (by injection h with _ h2; exact h2.symm)), hc]⟩
theorem Wby.below {w w1 : World} {B g n : Nat} (t : Wby w g n) (hb : Below B w w1) (h : g < B) : Wby w1 g n :=
  ⟨fun j hj => by obtain ⟨v, hv, hc⟩ := t.at_ j hj; exact ⟨v, hv, by rw [(bcell hb).1 g _ h]; exact hc⟩, fun o => by rw [(bcell hb).2 g o h]; exact t.free o, Nat.lt_of_lt_of_le t.lt hb.size⟩
theorem wrap_succ (v : Nat) : IntKind.u8.wrap ((v : Int) + 1) = (((v + 1) % 256 : Nat) : Int) := by rw [IntKind.wrap_u8]; omega
/-- A row of one's own is kept by calls that turn nothing that was there. -/
theorem own_below {w w1 : World} {B base n size : Nat} {e : TypeId} {v : Value} {xs : List Value} (h : w.ownsRow base e size v n xs) (hb : Below B w w1) (hl : ∀ k, v.ownBlock = some k → k < B) : w1.ownsRow base e size v n xs := by
  refine ⟨h.1, ?_⟩
  rcases h.2 with h0 | ⟨g, cap, cur, hv, h1, h2, h3⟩
  · exact .inl h0
  · exact .inr ⟨g, cap, cur, hv, h1, by rw [hb.block g (hl g (by rw [hv]; rfl))]; exact h2, h3⟩
theorem vals_cons (z : Nat → Nat) (n : Nat) : .int .u8 (z 0 : Nat) :: vals (fun i => z (1 + i)) n = vals z (1 + n) := by
  simp [vals, List.range_add]
theorem vals_add (z : Nat → Nat) (m n : Nat) : vals z m ++ vals (fun i => z (m + i)) n = vals z (m + n) := by
  simp [vals, List.range_add]
theorem vals_congr (y z : Nat → Nat) (n : Nat) (h : ∀ i, i < n → y i = z i) : vals y n = vals z n := by
  simp only [vals]
  refine List.map_congr_left fun i hi => ?_
  rw [h i (List.mem_range.mp hi)]
/-- The room behind a row. -/
theorem cap_of_row {w : World} {base n cap g : Nat} {xs : List Value} (h : w.ownsRow base 5 1 (.slice (some ⟨g, 0, none⟩) n cap) n xs) : n ≤ cap ∧ cap ≤ maxLen := by
  rcases h.2 with ⟨h0, _⟩ | ⟨g', cap', cur, hv, _, _, h1, h2, _⟩
  · cases h0
  · cases hv; exact ⟨h1, h2⟩
/-- Two numbers, one behind the other. -/
def pair (x y : Nat) (i : Nat) : Nat := if i = 0 then x else y
theorem pair_lt (x y : Nat) (hx : x < 18446744073709551616) (hy : y < 18446744073709551616) (i : Nat) : pair x y i < 18446744073709551616 := by unfold pair; split <;> assumption
theorem pair_cells (W : World) (x y : Nat) (t : TypeId) : ∀ i, i < 2 → (W.alloc (.cells #[.int .u64 x, .int .u64 y] t)).cell? ⟨W.heap.size, 0 + i, none⟩ = some (.int .u64 (pair x y i : Nat)) := by
  intro i hi
  rw [Nat.zero_add, World.cell?_alloc_new]
  have h : i = 0 ∨ i = 1 := by omega
  rcases h with rfl | rfl <;> rfl
end Go.Proofs.YtkekomiaiaacaaaDoor

namespace Go.Proofs.YtkekomiaiaacaaaDoor
open Go.RowKit Go.Proofs
set_option linter.unusedVariables false
set_option linter.unusedSimpArgs false
attribute [local go_sem ↓] Go.wp_at_zero Go.wp_at_succ

theorem TabOk.below {w w1 : World} {B : Nat} (h : TabOk w) (hb : Below B w w1) (hB : 5 < B) : TabOk w1 := by
  unfold TabOk at *
  rw [(bcell hb).1 _ _ hB]
  exact h
theorem TabOk.lt {w : World} (h : TabOk w) : 5 < w.heap.size := by
  have := World.block_lt_of_cell? _ _ h
  simpa using this

/-! The points of one Y -/

set_option maxHeartbeats 1000000 in
theorem eat_core (y q a b c s x : Int) (er : Value) (xv yv : Int) (w : World)
   (c0 : ∀ w, Calls Tryd.prog 44 #[.int .u64 y, .int .u64 y] w fun e w' => e = .returned (.int .u64 q) ∧ ∃ n, w' = w.drewN n)
   (c1 : ∀ w, Calls Tryd.prog 45 #[.int .u64 q, .int .u64 1] w fun e w' => e = .returned (.int .u64 a) ∧ w = w')
   (c2 : ∀ w, Calls Tryd.prog 44 #[.int .u64 439, .int .u64 q] w fun e w' => e = .returned (.int .u64 b) ∧ ∃ n, w' = w.drewN n)
   (c3 : ∀ w, Calls Tryd.prog 46 #[.int .u64 b, .int .u64 1] w fun e w' => e = .returned (.int .u64 c) ∧ w = w')
   (c4 : ∀ w, Calls Tryd.prog 43 #[.int .u64 a, .int .u64 c] w fun e w' => e = .returned (.int .u64 s) ∧ ∃ n, w' = w.drewN n)
   (c5 : ∀ w1, Below w.heap.size w w1 → Calls Tryd.prog 61 #[.int .u64 s] w1 fun e w' => e = .returned (.tuple #[.int .u64 x, er]) ∧ ∃ n, w' = w1.drewN n)
   (her : (er = .nilIface ∧ xv = x ∧ yv = y) ∨ (er = .iface 33 (.int .i64 2) ∧ xv = 0 ∧ yv = 0)) :
    Calls Tryd.prog 51 #[.int .u64 y] w fun e w' => e = .returned (.tuple #[.agg #[.int .u64 xv, .int .u64 yv], er]) ∧ Below w.heap.size w w' := by
  rcases her with ⟨rfl, rfl, rfl⟩ | ⟨rfl, rfl, rfl⟩
  · go_enter Tryd.func51, Tryd.ntmps51
    go_wp2_with (first | (first | (go_at_call 44; first | (with_reducible refine (c0 _).mono ?_; rintro e w' ⟨rfl, nd, rfl⟩) | (with_reducible refine (c2 _).mono ?_; rintro e w' ⟨rfl, nd, rfl⟩)) | (go_at_call 45; first | (with_reducible refine (c1 _).mono ?_; rintro e w' ⟨rfl, rfl⟩)) | (go_at_call 46; first | (with_reducible refine (c3 _).mono ?_; rintro e w' ⟨rfl, rfl⟩)) | (go_at_call 43; first | (with_reducible refine (c4 _).mono ?_; rintro e w' ⟨rfl, nd, rfl⟩))) | (go_at_call 61; with_reducible refine (c5 _ (by (repeat' (first | (with_reducible first | exact Below.refl _ _ | assumption | refine Below.alloc ?_ ?_ _ | refine Below.drew ?_ | refine below_drewN ?_ _ | refine Below.setCell ?_ ?_ _ | refine below_via (by with_reducible assumption) ?_ ?_) | omega | (simp only [szs]; omega) | (simp only [szs] at *; omega))))).mono ?_; rintro e w' ⟨rfl, nd, rfl⟩))
    exact bodyPost_ret (v := .tuple #[.agg #[.int .u64 xv, .int .u64 yv], .nilIface]) (by simp [results, Tryd.results51, go_sem, *]) rfl ⟨rfl, by (repeat' (first | (with_reducible first | exact Below.refl _ _ | assumption | refine Below.alloc ?_ ?_ _ | refine Below.drew ?_ | refine below_drewN ?_ _ | refine Below.setCell ?_ ?_ _ | refine below_via (by with_reducible assumption) ?_ ?_) | omega | (simp only [szs]; omega) | (simp only [szs] at *; omega)))⟩
  · go_enter Tryd.func51, Tryd.ntmps51
    go_wp2_with (first | (first | (go_at_call 44; first | (with_reducible refine (c0 _).mono ?_; rintro e w' ⟨rfl, nd, rfl⟩) | (with_reducible refine (c2 _).mono ?_; rintro e w' ⟨rfl, nd, rfl⟩)) | (go_at_call 45; first | (with_reducible refine (c1 _).mono ?_; rintro e w' ⟨rfl, rfl⟩)) | (go_at_call 46; first | (with_reducible refine (c3 _).mono ?_; rintro e w' ⟨rfl, rfl⟩)) | (go_at_call 43; first | (with_reducible refine (c4 _).mono ?_; rintro e w' ⟨rfl, nd, rfl⟩))) | (go_at_call 61; with_reducible refine (c5 _ (by (repeat' (first | (with_reducible first | exact Below.refl _ _ | assumption | refine Below.alloc ?_ ?_ _ | refine Below.drew ?_ | refine below_drewN ?_ _ | refine Below.setCell ?_ ?_ _ | refine below_via (by with_reducible assumption) ?_ ?_) | omega | (simp only [szs]; omega) | (simp only [szs] at *; omega))))).mono ?_; rintro e w' ⟨rfl, nd, rfl⟩))
    exact bodyPost_ret (v := .tuple #[.agg #[.int .u64 0, .int .u64 0], .iface 33 (.int .i64 2)]) (by simp [results, Tryd.results51, go_sem, *]) rfl ⟨rfl, by (repeat' (first | (with_reducible first | exact Below.refl _ _ | assumption | refine Below.alloc ?_ ?_ _ | refine Below.drew ?_ | refine below_drewN ?_ _ | refine Below.setCell ?_ ?_ _ | refine below_via (by with_reducible assumption) ?_ ?_) | omega | (simp only [szs]; omega) | (simp only [szs] at *; omega)))⟩
theorem gsqr_code (y : Fin Ob.RE) : (y * y - 1) * Ob.ginv (439 * (y * y) + 1) = Ob.gsqr y := by
  have e : 439 * (y * y) + 1 = 1 + 439 * (y * y) := by generalize (439 : Fin Ob.RE) = d; grobner
  rw [e]; rfl
theorem eatW_pre (y : Nat) (hy : y < 18446744073709551616) (x : Int) (er : Value) (xv yv : Int) (w : World)
   (c5 : ∀ w1, Below w.heap.size w w1 → Calls Tryd.prog 61 #[.int .u64 ((Ob.gsqr (Ob.toG y)).val : Nat)] w1 fun e w' => e = .returned (.tuple #[.int .u64 x, er]) ∧ ∃ n, w' = w1.drewN n)
   (her : (er = .nilIface ∧ xv = x ∧ yv = y) ∨ (er = .iface 33 (.int .i64 2) ∧ xv = 0 ∧ yv = 0)) :
    Calls Tryd.prog 51 #[.int .u64 y] w fun e w' => e = .returned (.tuple #[.agg #[.int .u64 xv, .int .u64 yv], er]) ∧ Below w.heap.size w w' := by
  have c1 := eminusW (Ob.toG y * Ob.toG y).val 1 (Ob.G_word _) (by decide)
  have c2 := etimesW 439 (Ob.toG y * Ob.toG y).val (by decide) (Ob.G_word _)
  have c3 := eplusW (439 * (Ob.toG y * Ob.toG y)).val 1 (Ob.G_word _) (by decide)
  rw [Ob.toG_of_val] at c1 c2 c3
  have hd : 439 * (Ob.toG y * Ob.toG y) + Ob.toG 1 ≠ 0 := by
    rw [Ob.toG_1]
    have := Ob.gsqr_den (Ob.toG y)
    generalize (439 : Fin Ob.RE) = d at *
    intro e; apply this; grobner
  have c4 := eoverF (Ob.toG y * Ob.toG y - Ob.toG 1) (439 * (Ob.toG y * Ob.toG y) + Ob.toG 1) hd
  rw [Ob.toG_1] at c4
  rw [gsqr_code] at c4
  exact eat_core y _ _ _ _ _ x er xv yv w (etimesW y y hy hy) c1 c2 c3 c4 c5 her
/-- A Y that a point has. -/
theorem eat_yes (y : Nat) (hy : y < 18446744073709551616) (hs : Ob.Sq (Ob.gsqr (Ob.toG y)).val) (w : World) (hT : TabOk w) :
    Calls Tryd.prog 51 #[.int .u64 y] w fun e w' => e = .returned (.tuple #[.agg #[.int .u64 (Ob.rtX y : Nat), .int .u64 y], .nilIface]) ∧ Below w.heap.size w w' :=
  eatW_pre y hy _ _ _ _ w (fun w1 hb => root_yes _ w1 (hT.below hb hT.lt) (Ob.G_word _) hs) (Or.inl ⟨rfl, rfl, rfl⟩)
/-- One that none has. -/
theorem eat_no (y : Nat) (hy : y < 18446744073709551616) (hs : ¬ Ob.Sq (Ob.gsqr (Ob.toG y)).val) (w : World) :
    Calls Tryd.prog 51 #[.int .u64 y] w fun e w' => e = .returned (.tuple #[.agg #[.int .u64 0, .int .u64 0], .iface 33 (.int .i64 2)]) ∧ Below w.heap.size w w' :=
  eatW_pre y hy _ _ _ _ w (fun w1 hb => root_no _ w1 (Ob.G_word _) hs) (Or.inr ⟨rfl, rfl, rfl⟩)

end Go.Proofs.YtkekomiaiaacaaaDoor

namespace Go.Proofs.YtkekomiaiaacaaaDoor
open Go.RowKit Go.Proofs
set_option linter.unusedVariables false
set_option linter.unusedSimpArgs false

theorem cells2 {w : World} {a : Nat} {x y : Value} (t : Two w a x y) : w.cell? ⟨a, 0, none⟩ = some x ∧ w.cell? ⟨a, 1, none⟩ = some y := ⟨t.c0, t.c1⟩
theorem cells3 {w : World} {a : Nat} {x y z : Value} (t : Three w a x y z) : w.cell? ⟨a, 0, none⟩ = some x ∧ w.cell? ⟨a, 1, none⟩ = some y ∧ w.cell? ⟨a, 2, none⟩ = some z := ⟨t.c0, t.c1, t.c2⟩
theorem cells_and {A B C : Prop} (h : A ∧ B) (k : C) : A ∧ B ∧ C := ⟨h.1, h.2, k⟩
theorem cells_and3 {A B C D : Prop} (h : A ∧ B ∧ C) (k : D) : A ∧ B ∧ C ∧ D := ⟨h.1, h.2.1, h.2.2, k⟩
end Go.Proofs.YtkekomiaiaacaaaDoor

namespace Ob
set_option linter.unusedVariables false
set_option linter.unusedSimpArgs false

def upd (v : Nat → Nat) (i z : Nat) : Nat → Nat := fun j => if j = i then z else v j
theorem upd_same (v : Nat → Nat) (i z : Nat) : upd v i z i = z := if_pos rfl
theorem upd_ne (v : Nat → Nat) {i j : Nat} (z : Nat) (h : j ≠ i) : upd v i z j = v j := if_neg h
def s32 (x y : Nat) : Nat := (x + y) % 4294967296
/-- Rolled to the right. -/
def rot (x n : Nat) : Nat := x / 2 ^ n + x % 2 ^ n * 2 ^ (32 - n)
theorem s32_lt (x y : Nat) : s32 x y < 4294967296 := Nat.mod_lt _ (by decide)
theorem rot_lt {x n : Nat} (hx : x < 4294967296) (hn : n ≤ 32) : rot x n < 4294967296 := by
  unfold rot
  have hp : 0 < 2 ^ n := Nat.two_pow_pos n
  have e : (2 : Nat) ^ n * 2 ^ (32 - n) = 4294967296 := by rw [← Nat.pow_add, Nat.add_sub_cancel' hn]
  have h1 : x / 2 ^ n < 2 ^ (32 - n) := Nat.div_lt_of_lt_mul (by rw [e]; exact hx)
  have h2 : x % 2 ^ n + 1 ≤ 2 ^ n := Nat.mod_lt _ hp
  have h3 : (x % 2 ^ n + 1) * 2 ^ (32 - n) ≤ 4294967296 := by rw [← e]; exact Nat.mul_le_mul_right _ h2
  rw [Nat.add_mul, Nat.one_mul] at h3
  omega
theorem xor_lt {x y : Nat} (hx : x < 4294967296) (hy : y < 4294967296) : x ^^^ y < 4294967296 := Nat.xor_lt_two_pow (n := 32) hx hy
/-- All words below n. -/
def Words32 (v : Nat → Nat) : Prop := ∀ i, v i < 4294967296
theorem Words32.upd {v : Nat → Nat} (h : Words32 v) (i : Nat) {z : Nat} (hz : z < 4294967296) : Words32 (upd v i z) := fun j => by
  unfold Ob.upd
  split
  · exact hz
  · exact h j
/-- The first half of mixing four words with one, rolled by p and q. -/
def half (v : Nat → Nat) (a b c d x p q : Nat) : Nat → Nat :=
  let v1 := upd v a (s32 (s32 (v a) (v b)) x)
  let v2 := upd v1 d (rot (v1 d ^^^ v1 a) p)
  let v3 := upd v2 c (s32 (v2 c) (v2 d))
  upd v3 b (rot (v3 b ^^^ v3 c) q)
def mixN (v : Nat → Nat) (a b c d x y : Nat) : Nat → Nat := half (half v a b c d x 16 12) a b c d y 8 7
theorem half_words {v : Nat → Nat} (h : Words32 v) (a b c d x p q : Nat) (hp : p ≤ 32) (hq : q ≤ 32) : Words32 (half v a b c d x p q) := by
  have h1 : Words32 (upd v a (s32 (s32 (v a) (v b)) x)) := h.upd a (s32_lt _ _)
  have h2 := h1.upd d (rot_lt (xor_lt (h1 d) (h1 a)) hp)
  have h3 := h2.upd c (s32_lt ((upd (upd v a (s32 (s32 (v a) (v b)) x)) d (rot (upd v a (s32 (s32 (v a) (v b)) x) d ^^^ upd v a (s32 (s32 (v a) (v b)) x) a) p)) c) ((upd (upd v a (s32 (s32 (v a) (v b)) x)) d (rot (upd v a (s32 (s32 (v a) (v b)) x) d ^^^ upd v a (s32 (s32 (v a) (v b)) x) a) p)) d))
  exact h3.upd b (rot_lt (xor_lt (h3 b) (h3 c)) hq)
theorem mixN_words {v : Nat → Nat} (h : Words32 v) (a b c d x y : Nat) : Words32 (mixN v a b c d x y) := half_words (half_words h _ _ _ _ _ _ _ (by decide) (by decide)) _ _ _ _ _ _ _ (by decide) (by decide)
/-- The rounds' rows. -/
def sigT : List (List Nat) := [[0, 1, 2, 3, 4, 5, 6, 7, 8, 9, 10, 11, 12, 13, 14, 15], [14, 10, 4, 8, 9, 15, 13, 6, 1, 12, 0, 2, 11, 7, 5, 3], [11, 8, 12, 0, 5, 2, 15, 13, 10, 14, 3, 6, 7, 1, 9, 4], [7, 9, 3, 1, 13, 12, 11, 14, 2, 6, 5, 10, 4, 0, 15, 8], [9, 0, 5, 7, 2, 4, 10, 15, 14, 1, 11, 12, 6, 8, 3, 13], [2, 12, 6, 10, 0, 11, 8, 3, 4, 13, 7, 5, 15, 14, 1, 9], [12, 5, 1, 15, 14, 13, 4, 10, 0, 7, 6, 3, 9, 2, 8, 11], [13, 11, 7, 14, 12, 1, 3, 9, 5, 0, 15, 4, 8, 6, 2, 10], [6, 15, 14, 9, 11, 3, 0, 8, 12, 2, 13, 7, 1, 4, 10, 5], [10, 2, 8, 4, 7, 6, 1, 5, 15, 11, 9, 14, 3, 12, 13, 0]]
def sig (i j : Nat) : Nat := (sigT.getD i []).getD j 0
theorem sig_lt {i j : Nat} (hi : i < 10) (hj : j < 16) : sig i j < 16 := by
  have h : ∀ i : Fin 10, ∀ j : Fin 16, sig i.val j.val < 16 := by decide
  exact h ⟨i, hi⟩ ⟨j, hj⟩
/-- The words of the beginning. -/
def firstT : List Nat := [1779033703, 3144134277, 1013904242, 2773480762, 1359893119, 2600822924, 528734635, 1541459225]
def first (j : Nat) : Nat := firstT.getD j 0
/-- The places of a round's mixings. -/
def plcT : List (List Nat) := [[0, 4, 8, 12], [1, 5, 9, 13], [2, 6, 10, 14], [3, 7, 11, 15], [0, 5, 10, 15], [1, 6, 11, 12], [2, 7, 8, 13], [3, 4, 9, 14]]
def plc (i j : Nat) : Nat := (plcT.getD i []).getD j 0
theorem plc_lt {i j : Nat} (hi : i < 8) (hj : j < 4) : plc i j < 16 := by
  have h : ∀ i : Fin 8, ∀ j : Fin 4, plc i.val j.val < 16 := by decide
  exact h ⟨i, hi⟩ ⟨j, hj⟩
theorem plc_ne {i j k : Nat} (hi : i < 8) (hj : j < 4) (hk : k < 4) (h : j ≠ k) : plc i j ≠ plc i k := by
  have h' : ∀ i : Fin 8, ∀ j k : Fin 4, j ≠ k → plc i.val j.val ≠ plc i.val k.val := by decide
  exact h' ⟨i, hi⟩ ⟨j, hj⟩ ⟨k, hk⟩ (by intro e; exact h (congrArg Fin.val e))
/-- One mixing of a round, a round, the rounds. -/
def mixI (v m : Nat → Nat) (r i : Nat) : Nat → Nat := mixN v (plc i 0) (plc i 1) (plc i 2) (plc i 3) (m (sig r (2 * i))) (m (sig r (2 * i + 1)))
def roundN (v m : Nat → Nat) (r : Nat) : Nat → Nat → Nat
  | 0 => v
  | i + 1 => mixI (roundN v m r i) m r i
def rounds (v m : Nat → Nat) : Nat → Nat → Nat
  | 0 => v
  | r + 1 => roundN (rounds v m r) m r 8
theorem roundN_words {v : Nat → Nat} (h : Words32 v) (m : Nat → Nat) (r : Nat) : ∀ i, Words32 (roundN v m r i)
  | 0 => h
  | i + 1 => mixN_words (roundN_words h m r i) _ _ _ _ _ _
theorem rounds_words {v : Nat → Nat} (h : Words32 v) (m : Nat → Nat) : ∀ r, Words32 (rounds v m r)
  | 0 => h
  | r + 1 => roundN_words (rounds_words h m r) m r 8
/-- The sixteen words. -/
def six0 (h : Nat → Nat) (j : Nat) : Nat := if j < 8 then h j else first (j - 8)
/-- .. i of each half laid. -/
def sixI (h : Nat → Nat) (i j : Nat) : Nat := if j < 8 then (if j < i then h j else 0) else (if j < 8 + i then first (j - 8) else 0)
theorem sixI_zero (h : Nat → Nat) : sixI h 0 = fun _ => 0 := by
  funext j
  unfold sixI
  split <;> simp <;> omega
theorem sixI_succ (h : Nat → Nat) {i : Nat} (hi : i < 8) : upd (upd (sixI h i) i (h i)) (i + 8) (first i) = sixI h (i + 1) := by
  funext j
  unfold upd sixI
  by_cases h1 : j = i + 8
  · subst h1
    rw [if_pos rfl, if_neg (by omega), if_pos (by omega), Nat.add_sub_cancel]
  · by_cases h2 : j = i
    · subst h2; simp [h1, hi]
    · simp only [h1, h2, if_false]
      by_cases h3 : j < 8
      · simp only [h3, if_true]
        by_cases h4 : j < i
        · simp [h4, Nat.lt_succ_of_lt h4]
        · simp [h4]; omega
      · simp only [h3, if_false]
        by_cases h4 : j < 8 + i
        · simp [h4]; omega
        · simp [h4]; omega
theorem sixI_end (h : Nat → Nat) : ∀ j, j < 16 → sixI h 8 j = six0 h j := by
  intro j hj
  unfold sixI six0
  by_cases h3 : j < 8
  · simp [h3]
  · simp [h3]; omega
def six (h : Nat → Nat) (c : Nat) (last : Bool) : Nat → Nat :=
  let v2 := upd (upd (six0 h) 12 (six0 h 12 ^^^ (c % 4294967296))) 13 (six0 h 13 ^^^ (c / 4294967296))
  if last then upd v2 14 (six0 h 14 ^^^ 4294967295) else v2
def press (h m : Nat → Nat) (c : Nat) (last : Bool) (j : Nat) : Nat := h j ^^^ (rounds (six h c last) m 10 j ^^^ rounds (six h c last) m 10 (j + 8))
theorem first_lt (j : Nat) : first j < 4294967296 := by
  have h : ∀ j : Fin 8, first j.val < 4294967296 := by decide
  rcases Nat.lt_or_ge j 8 with hj | hj
  · exact h ⟨j, hj⟩
  · have : first j = 0 := by
      unfold first
      rw [List.getD_eq_getElem?_getD, List.getElem?_eq_none (by simpa [firstT] using hj)]
      rfl
    rw [this]; decide
theorem six0_words {h : Nat → Nat} (hh : Words32 h) : Words32 (six0 h) := fun j => by
  unfold six0
  split
  · exact hh j
  · exact first_lt _
theorem six_words {h : Nat → Nat} (hh : Words32 h) {c : Nat} (hc : c < 18446744073709551616) (last : Bool) : Words32 (six h c last) := by
  have h0 := six0_words hh
  have h2 := (h0.upd 12 (xor_lt (h0 12) (y := c % 4294967296) (by omega))).upd 13 (xor_lt (h0 13) (y := c / 4294967296) (by omega))
  unfold six
  cases last
  · exact h2
  · exact h2.upd 14 (xor_lt (h0 14) (by decide))
theorem press_words {h m : Nat → Nat} (hh : Words32 h) {c : Nat} (hc : c < 18446744073709551616) (last : Bool) : Words32 (press h m c last) := fun j =>
  xor_lt (hh j) (xor_lt (rounds_words (six_words hh hc last) m 10 j) (rounds_words (six_words hh hc last) m 10 (j + 8)))
theorem flip32 (x : Nat) (hx : x < 4294967296) : x ^^^ 4294967295 = 4294967295 - x := by
  have h := congrArg BitVec.toNat (BitVec.xor_allOnes (x := BitVec.ofNat 32 x))
  simp only [BitVec.toNat_xor, BitVec.toNat_ofNat, BitVec.toNat_allOnes, BitVec.toNat_not] at h
  rw [Nat.mod_eq_of_lt (by omega)] at h
  simpa using h
/-- The number of k bytes, the lowest first. -/
def lowN (z : Nat → Nat) : Nat → Nat
  | 0 => 0
  | k + 1 => lowN z k + z k * 2 ^ (8 * k)
theorem lowN_lt {z : Nat → Nat} (hz : ∀ i, z i < 256) : ∀ k, lowN z k < 2 ^ (8 * k)
  | 0 => by show 0 < 2 ^ (8 * 0); decide
  | k + 1 => by
    have h := lowN_lt hz k
    have e : (2 : Nat) ^ (8 * (k + 1)) = 2 ^ (8 * k) * 256 := by rw [Nat.mul_add, Nat.pow_add]
    have h1 : (z k + 1) * 2 ^ (8 * k) ≤ 256 * 2 ^ (8 * k) := Nat.mul_le_mul_right _ (hz k)
    rw [e, lowN]
    rw [Nat.add_mul, Nat.one_mul] at h1
    rw [Nat.mul_comm (2 ^ (8 * k)) 256]
    omega
/-- The words that the first block is pressed into, by the two words of a person. -/
def open0 (x y : Nat) : Nat → Nat := upd (upd (upd first 0 (first 0 ^^^ 16842784)) 6 (first 6 ^^^ x)) 7 (first 7 ^^^ y)
theorem open0_words {x y : Nat} (hx : x < 4294967296) (hy : y < 4294967296) : Words32 (open0 x y) :=
  ((Words32.upd (fun j => first_lt j) 0 (xor_lt (first_lt 0) (by decide))).upd 6 (xor_lt (first_lt 6) hx)).upd 7 (xor_lt (first_lt 7) hy)
/-- A block of n bytes. -/
def blk (z : Nat → Nat) (n i j : Nat) : Nat := if 64 * i + j < n then z (64 * i + j) else 0
theorem blk_lt {z : Nat → Nat} (hz : ∀ i, z i < 256) (n i j : Nat) : blk z n i j < 256 := by
  unfold blk
  split
  · exact hz _
  · decide
/-- How many blocks n bytes have; the words behind i of them. -/
def nblk (n : Nat) : Nat := if n = 0 then 1 else (n + 63) / 64
def digI (h : Nat → Nat) (m : Nat → Nat → Nat) (n : Nat) : Nat → Nat → Nat
  | 0 => h
  | i + 1 => press (digI h m n i) (m i) (min (64 * (i + 1)) n) (decide (n ≤ 64 * (i + 1)))
theorem digI_words {h : Nat → Nat} (hh : Words32 h) (m : Nat → Nat → Nat) {n : Nat} (hn : n < 18446744073709551616) : ∀ i, Words32 (digI h m n i)
  | 0 => hh
  | i + 1 => press_words (digI_words hh m hn i) (by omega) _
/-- The half of a mixing, as four words. -/
theorem half_four (v : Nat → Nat) {a b c d : Nat} (hab : a ≠ b) (hac : a ≠ c) (had : a ≠ d) (hbc : b ≠ c) (hbd : b ≠ d) (hcd : c ≠ d) (x p q A B C D : Nat)
    (hA : s32 (v a) (s32 (v b) x) = A) (hD : rot (v d ^^^ A) p = D) (hC : s32 (v c) D = C) (hB : rot (v b ^^^ C) q = B) :
    upd (upd (upd (upd v a A) b B) c C) d D = half v a b c d x p q := by
  have e : s32 (s32 (v a) (v b)) x = A := by rw [← hA]; unfold s32; omega
  unfold half
  simp only [e]
  have e1 : upd v a A d = v d := upd_ne v A (Ne.symm had)
  have e2 : upd v a A a = A := upd_same v a A
  rw [e1, e2, hD]
  have e3 : upd (upd v a A) d D c = v c := by rw [upd_ne _ _ hcd, upd_ne _ _ (Ne.symm hac)]
  have e4 : upd (upd v a A) d D d = D := upd_same _ _ _
  rw [e3, e4, hC]
  have e5 : upd (upd (upd v a A) d D) c C b = v b := by rw [upd_ne _ _ hbc, upd_ne _ _ hbd, upd_ne _ _ (Ne.symm hab)]
  have e6 : upd (upd (upd v a A) d D) c C c = C := upd_same _ _ _
  rw [e5, e6, hB]
  funext j
  unfold upd
  by_cases h1 : j = a
  · subst h1; simp [hab, hac, had]
  · by_cases h2 : j = b
    · subst h2; simp [hbc, hbd, h1]
    · by_cases h3 : j = c
      · subst h3; simp [hcd, h1, h2]
      · by_cases h4 : j = d
        · subst h4; simp [h1, h2, h3]
        · simp [h1, h2, h3, h4]
end Ob

namespace Go.Proofs.YtkekomiaiaacaaaDoor
open Go.RowKit Go.Proofs
set_option linter.unusedVariables false
set_option linter.unusedSimpArgs false

def arrL (k : IntKind) (v : Nat → Nat) (n : Nat) : List Value := (List.range n).map fun i => .int k (v i : Nat)
def arrV (k : IntKind) (v : Nat → Nat) (n : Nat) : Value := .agg (arrL k v n).toArray
theorem arrL_length (k : IntKind) (v : Nat → Nat) (n : Nat) : (arrL k v n).length = n := by unfold arrL; simp
theorem arrL_get (k : IntKind) (v : Nat → Nat) (n i : Nat) (h : i < n) : (arrL k v n)[i]? = some (.int k (v i : Nat)) := by unfold arrL; simp [h]
theorem arrL_one (k : IntKind) (v : Nat → Nat) (n : Nat) : ∀ u ∈ arrL k v n, u.oneCell' = true := by
  unfold arrL
  intro u hu
  obtain ⟨_, _, rfl⟩ := List.mem_map.1 hu
  rfl
theorem arrL_congr {k : IntKind} {v v' : Nat → Nat} {n : Nat} (h : ∀ i, i < n → v i = v' i) : arrL k v n = arrL k v' n := by
  unfold arrL
  exact List.map_congr_left fun i hi => by rw [h i (List.mem_range.1 hi)]
/-- An array of n numbers lies in block b. -/
structure Arr (w : World) (k : IntKind) (b n : Nat) (v : Nat → Nat) : Prop where
  lt : b < w.heap.size
  c : ∀ i, i < n → w.cell? ⟨b, i, none⟩ = some (.int k (v i : Nat))
  f : ∀ i, i < n → w.frozen? ⟨b, i, none⟩ = false
theorem Arr.below {w w1 : World} {k : IntKind} {B b n : Nat} {v : Nat → Nat} (t : Arr w k b n v) (hb : Below B w w1) (h : b < B) : Arr w1 k b n v :=
  ⟨Nat.lt_of_lt_of_le t.lt hb.size, fun i hi => by rw [(bcell hb).1 b i h]; exact t.c i hi, fun i hi => by rw [(bcell hb).2 b i h]; exact t.f i hi⟩
theorem Arr.via {w w1 : World} {k : IntKind} {B b n : Nat} {v : Nat → Nat} (hb : Below B w w1) (t : Arr w k b n v) (h : b < B) : Arr w1 k b n v := t.below hb h
theorem Arr.alloc {w : World} {k : IntKind} {b n : Nat} {v : Nat → Nat} (t : Arr w k b n v) (o : Obj) : Arr (w.alloc o) k b n v := t.below ((Below.refl w.heap.size w).alloc (Nat.le_refl _) o) t.lt
theorem Arr.drew {w : World} {k : IntKind} {b n : Nat} {v : Nat → Nat} (t : Arr w k b n v) : Arr w.drew k b n v := t.below ((Below.refl w.heap.size w).drew) t.lt
theorem Arr.drewN {w : World} {k : IntKind} {b n : Nat} {v : Nat → Nat} (t : Arr w k b n v) (m : Nat) : Arr (w.drewN m) k b n v := t.below (below_drewN (Below.refl w.heap.size w) m) t.lt
theorem Arr.far {w : World} {k : IntKind} {b b' n : Nat} {v : Nat → Nat} (t : Arr w k b n v) (h : b' ≠ b) (o : Nat) (z : Value) : Arr (w.setCell ⟨b', o, none⟩ z) k b n v :=
  ⟨by simp [t.lt], fun i hi => by rw [World.cell?_setCell_other _ _ _ _ (by simp [h]), t.c i hi], fun i hi => by simp [t.f i hi]⟩
theorem Arr.set {w : World} {k : IntKind} {b n : Nat} {v : Nat → Nat} (t : Arr w k b n v) {i z : Nat} (hi : i < n) : Arr (w.setCell ⟨b, i, none⟩ (.int k (z : Nat))) k b n (Ob.upd v i z) where
  lt := by simp [t.lt]
  c := fun j hj => by
    by_cases h : j = i
    · subst h
      rw [Ob.upd_same]
      exact World.cell?_setCell_same _ _ _ (t.c j hj)
    · rw [Ob.upd_ne _ _ h, World.cell?_setCell_other _ _ _ _ (by first | (simp; done) | (simp; omega)), t.c j hj]
  f := fun j hj => by simp [t.f j hj]
theorem Arr.new {w : World} {k : IntKind} {v : Nat → Nat} {n : Nat} {t : TypeId} {b : Nat} (h : b = w.heap.size) : Arr (w.alloc (.cells (arrL k v n).toArray t)) k b n v := by
  subst h
  exact ⟨by simp, fun i hi => by rw [World.cell?_alloc_at _ _ _ _ rfl, List.getElem?_toArray, arrL_get k v n i hi], fun i hi => by rw [World.frozen?_alloc_at _ _ _ _ rfl]⟩
theorem Arr.range {w : World} {k : IntKind} {b n : Nat} {v : Nat → Nat} (t : Arr w k b n v) : w.rangeAt b 0 (arrL k v n) := fun j u hu => by
  have hj : j < n := by have := (List.getElem?_eq_some_iff.1 hu).1; rwa [arrL_length] at this
  rw [arrL_get k v n j hj] at hu
  rw [Nat.zero_add, t.c j hj]; exact hu
theorem Arr.there {w : World} {k : IntKind} {b n : Nat} {v : Nat → Nat} (t : Arr w k b n v) : w.there b 0 n := fun j hj => by
  rw [Nat.zero_add]
  exact ⟨by rw [t.c j hj]; rfl, t.f j hj⟩

theorem setCells_size (w : World) (b o : Nat) (cs : List Value) : (w.setCells b o cs).heap.size = w.heap.size := by
  induction cs generalizing o w with
  | nil => rfl
  | cons c r ih => rw [World.setCells, ih]; exact World.size_setCell _ _ _
/-- The whole of it stored. -/
theorem Arr.whole {w : World} {k : IntKind} {b n : Nat} {v : Nat → Nat} (t : Arr w k b n v) (v' : Nat → Nat) : Arr (w.setCells b 0 (arrL k v' n)) k b n v' := by
  have h := World.rangeAt_setCells_same w b 0 (arrL k v' n) (by rw [arrL_length]; exact t.there)
  have ht := World.there_setCells t.there b 0 (arrL k v' n)
  refine ⟨?_, fun i hi => ?_, fun i hi => ?_⟩
  · by_cases hn : n = 0
    · subst hn
      exact t.lt
    · have := h 0 _ (arrL_get k v' n 0 (by omega))
      simpa using World.block_lt_of_cell? _ _ this
  · have := h i _ (arrL_get k v' n i hi)
    rwa [Nat.zero_add] at this
  · have := (ht i hi).2
    rwa [Nat.zero_add] at this
theorem below_setCells {B b : Nat} {a w : World} (h : Below B a w) (hb : B ≤ b) (vs : List Value) : ∀ o, Below B a (w.setCells b o vs) := by
  induction vs generalizing w with
  | nil => intro o; exact h
  | cons v r ih => intro o; exact ih (h.setCell hb _) (o + 1)
theorem Arr.farCells {w : World} {k : IntKind} {b b' n : Nat} {v : Nat → Nat} (t : Arr w k b n v) (h : b' ≠ b) (o : Nat) (cs : List Value) : Arr (w.setCells b' o cs) k b n v := by
  have hs : ∀ (cs : List Value) (o : Nat) (w : World), Arr w k b n v → Arr (w.setCells b' o cs) k b n v := by
    intro cs
    induction cs with
    | nil => intro o w t; exact t
    | cons c r ih => intro o w t; exact ih (o + 1) _ (t.far h o c)
  exact hs cs o w t
theorem Arr.congr {w : World} {k : IntKind} {b n : Nat} {v v' : Nat → Nat} (t : Arr w k b n v) (h : ∀ i, i < n → v i = v' i) : Arr w k b n v' :=
  ⟨t.lt, fun i hi => by rw [← h i hi]; exact t.c i hi, t.f⟩
theorem Arr.new16 {w : World} {t : TypeId} : Arr (w.alloc (.cells #[.int .u32 0, .int .u32 0, .int .u32 0, .int .u32 0, .int .u32 0, .int .u32 0, .int .u32 0, .int .u32 0, .int .u32 0, .int .u32 0, .int .u32 0, .int .u32 0, .int .u32 0, .int .u32 0, .int .u32 0, .int .u32 0] t)) .u32 w.heap.size 16 (fun _ => 0) := Arr.new (k := .u32) (n := 16) (v := fun _ => 0) rfl
theorem Arr.new8 {w : World} {t : TypeId} : Arr (w.alloc (.cells #[.int .u32 0, .int .u32 0, .int .u32 0, .int .u32 0, .int .u32 0, .int .u32 0, .int .u32 0, .int .u32 0] t)) .u32 w.heap.size 8 (fun _ => 0) := Arr.new (k := .u32) (n := 8) (v := fun _ => 0) rfl
theorem Arr.new8b {w : World} {t : TypeId} : Arr (w.alloc (.cells #[.int .u8 0, .int .u8 0, .int .u8 0, .int .u8 0, .int .u8 0, .int .u8 0, .int .u8 0, .int .u8 0] t)) .u8 w.heap.size 8 (fun _ => 0) := Arr.new (k := .u8) (n := 8) (v := fun _ => 0) rfl
theorem Arr.new64b {w : World} {t : TypeId} : Arr (w.alloc (.cells #[.int .u8 0, .int .u8 0, .int .u8 0, .int .u8 0, .int .u8 0, .int .u8 0, .int .u8 0, .int .u8 0, .int .u8 0, .int .u8 0, .int .u8 0, .int .u8 0, .int .u8 0, .int .u8 0, .int .u8 0, .int .u8 0, .int .u8 0, .int .u8 0, .int .u8 0, .int .u8 0, .int .u8 0, .int .u8 0, .int .u8 0, .int .u8 0, .int .u8 0, .int .u8 0, .int .u8 0, .int .u8 0, .int .u8 0, .int .u8 0, .int .u8 0, .int .u8 0, .int .u8 0, .int .u8 0, .int .u8 0, .int .u8 0, .int .u8 0, .int .u8 0, .int .u8 0, .int .u8 0, .int .u8 0, .int .u8 0, .int .u8 0, .int .u8 0, .int .u8 0, .int .u8 0, .int .u8 0, .int .u8 0, .int .u8 0, .int .u8 0, .int .u8 0, .int .u8 0, .int .u8 0, .int .u8 0, .int .u8 0, .int .u8 0, .int .u8 0, .int .u8 0, .int .u8 0, .int .u8 0, .int .u8 0, .int .u8 0, .int .u8 0, .int .u8 0] t)) .u8 w.heap.size 64 (fun _ => 0) := Arr.new (k := .u8) (n := 64) (v := fun _ => 0) rfl
/-- The whole of it read. -/
theorem Arr.loadAt {w : World} {k : IntKind} {b n : Nat} {v : Nat → Nat} (t : Arr w k b n v) {ty : TypeId} {d : TypeDesc} (hu : Tryd.prog.underlying ty = some d) (hd : d.isRow = true) (hi : (Tryd.prog.info? ty).map (·.size) = some n) :
    (Instr.loadAt ty (.pointer (some ⟨b, 0, none⟩))).run Tryd.prog w = .ok (.agg (arrL k v n).toArray) w :=
  run_loadAt_mid w b 0 ty (arrL k v n) d t.range hu hd (by rw [arrL_length]; exact hi)
theorem Arr.loadVar {w : World} {k : IntKind} {b n : Nat} {v : Nat → Nat} (t : Arr w k b n v) {ty : TypeId} {d : TypeDesc} (hu : Tryd.prog.underlying ty = some d) (hd : d.isRow = true) (hi : (Tryd.prog.info? ty).map (·.size) = some n) :
    (Go.loadVar ty ⟨b, 0, none⟩).run Tryd.prog w = .ok (.agg (arrL k v n).toArray) w :=
  run_loadVar_mid w b 0 ty (arrL k v n) d t.range hu hd (by rw [arrL_length]; exact hi)
/-- The whole of it stored: the world behind it. -/
theorem Arr.storeAt {w : World} {k : IntKind} {b n : Nat} {v : Nat → Nat} (t : Arr w k b n v) (v' : Nat → Nat) {ty : TypeId} (hi : (Tryd.prog.info? ty).map (·.size) = some n) :
    ∃ w', (Instr.storeAt ty (.pointer (some ⟨b, 0, none⟩)) (.agg (arrL k v' n).toArray)).run Tryd.prog w = .ok () w' ∧ Hid (w' = w.setCells b 0 (arrL k v' n)) ∧ Arr w' k b n v' ∧ w'.heap.size = w.heap.size :=
  ⟨_, run_storeAt_mid w b 0 ty (arrL k v' n).toArray (by rw [show (arrL k v' n).toArray.size = n by simp [arrL_length]]; exact t.there) (by rw [show (arrL k v' n).toArray.size = n by simp [arrL_length]]; exact hi) (all_oneCell_toArray (arrL_one k v' n)), rfl, t.whole v', setCells_size _ _ _ _⟩
theorem wpList_loadArr {ops : Array Oper} {rest : List Oper} {op : Oper} {a : Act} {w : World} {Q : Exit → Act → World → Prop} (hgd : op.guard = none) (ty : TypeId) (x : Operand) (ho : op.op = .load ty x)
    (b : Nat) (hx : a.eval x = .pointer (some ⟨b, 0, none⟩)) {k : IntKind} {n : Nat} {v : Nat → Nat} {d : TypeDesc} (t : Arr w k b n v)
    (hu : Tryd.prog.underlying ty = some d) (hd : d.isRow = true) (hi : (Tryd.prog.info? ty).map (·.size) = some n)
    (h : wpList Tryd.prog ops Q rest (a.put op.dst (.agg (arrL k v n).toArray)) w) : wpList Tryd.prog ops Q (op :: rest) a w :=
  wpList_load_mid hgd ty x ho b 0 hx (arrL k v n) d t.range hu hd (by rw [arrL_length]; exact hi) h
theorem wpList_storeArr {ops : Array Oper} {rest : List Oper} {op : Oper} {a : Act} {w : World} {Q : Exit → Act → World → Prop} (hgd : op.guard = none) (ty : TypeId) (x y : Operand) (ho : op.op = .store ty x y)
    (b : Nat) (hx : a.eval x = .pointer (some ⟨b, 0, none⟩)) {k : IntKind} {n : Nat} {v : Nat → Nat} (v' : Nat → Nat) (hy : a.eval y = .agg (arrL k v' n).toArray) (t : Arr w k b n v)
    (hi : (Tryd.prog.info? ty).map (·.size) = some n)
    (h : ∀ w', Hid (w' = w.setCells b 0 (arrL k v' n)) → Hid (Arr w' k b n v') → w'.heap.size = w.heap.size → wpList Tryd.prog ops Q rest (a.put op.dst undef) w') : wpList Tryd.prog ops Q (op :: rest) a w := by
  have hs : (arrL k v' n).toArray.size = n := by simp [arrL_length]
  exact wpList_store_mid hgd ty x y ho b 0 (arrL k v' n).toArray hx hy (by rw [hs]; exact t.there) (by rw [hs]; exact hi) (all_oneCell_toArray (arrL_one k v' n))
    (by rw [List.toList_toArray]; exact h _ rfl (t.whole v') (setCells_size _ _ _ _))
theorem wpList_loadLit {ops : Array Oper} {rest : List Oper} {dst : Option Tmp} {ty ty' : TypeId} {x : Operand} {ps : String} {af : Array Edge} {a : Act} {w : World} {Q : Exit → Act → World → Prop}
    {b : Nat} {k : IntKind} {n : Nat} {v : Nat → Nat} {d : TypeDesc} (t : Arr w k b n v) (hx : a.eval x = .pointer (some ⟨b, 0, none⟩))
    (hu : Tryd.prog.underlying ty = some d) (hd : d.isRow = true) (hi : (Tryd.prog.info? ty).map (·.size) = some n)
    (h : wpList Tryd.prog ops Q rest (a.put dst (.agg (arrL k v n).toArray)) w) : wpList Tryd.prog ops Q (⟨dst, .load ty x, ty', ps, af, none⟩ :: rest) a w :=
  wpList_loadArr rfl ty x rfl b hx t hu hd hi h
theorem wpList_storeLit {ops : Array Oper} {rest : List Oper} {dst : Option Tmp} {ty ty' : TypeId} {x y : Operand} {ps : String} {af : Array Edge} {a : Act} {w : World} {Q : Exit → Act → World → Prop}
    {b : Nat} {k : IntKind} {n : Nat} {v : Nat → Nat} (v' : Nat → Nat) (t : Arr w k b n v) (hx : a.eval x = .pointer (some ⟨b, 0, none⟩)) (hy : a.eval y = .agg (arrL k v' n).toArray)
    (hi : (Tryd.prog.info? ty).map (·.size) = some n)
    (h : ∀ w', Hid (w' = w.setCells b 0 (arrL k v' n)) → Hid (Arr w' k b n v') → w'.heap.size = w.heap.size → wpList Tryd.prog ops Q rest (a.put dst undef) w') : wpList Tryd.prog ops Q (⟨dst, .store ty x y, ty', ps, af, none⟩ :: rest) a w :=
  wpList_storeArr rfl ty x y rfl b hx v' hy t hi h
/-- n numbers that lie in a block, from its head on, to be read. -/
structure Rd (w : World) (k : IntKind) (b n : Nat) (v : Nat → Nat) : Prop where
  lt : b < w.heap.size
  c : ∀ i, i < n → w.cell? ⟨b, i, none⟩ = some (.int k (v i : Nat))
theorem Rd.below {w w1 : World} {k : IntKind} {B b n : Nat} {v : Nat → Nat} (t : Rd w k b n v) (hb : Below B w w1) (h : b < B) : Rd w1 k b n v :=
  ⟨Nat.lt_of_lt_of_le t.lt hb.size, fun i hi => by rw [(bcell hb).1 b i h]; exact t.c i hi⟩
theorem Rd.drew {w : World} {k : IntKind} {b n : Nat} {v : Nat → Nat} (t : Rd w k b n v) : Rd w.drew k b n v := t.below ((Below.refl w.heap.size w).drew) t.lt
theorem Rd.drewN {w : World} {k : IntKind} {b n : Nat} {v : Nat → Nat} (t : Rd w k b n v) (m : Nat) : Rd (w.drewN m) k b n v := t.below (below_drewN (Below.refl w.heap.size w) m) t.lt
theorem Rd.far {w : World} {k : IntKind} {b b' n : Nat} {v : Nat → Nat} (t : Rd w k b n v) (h : b' ≠ b) (o : Nat) (z : Value) : Rd (w.setCell ⟨b', o, none⟩ z) k b n v :=
  ⟨by simp [t.lt], fun i hi => by rw [World.cell?_setCell_other _ _ _ _ (by simp [h]), t.c i hi]⟩
theorem Arr.rd {w : World} {k : IntKind} {b n : Nat} {v : Nat → Nat} (t : Arr w k b n v) : Rd w k b n v := ⟨t.lt, t.c⟩
/-! Words of 32 bits -/
def wordAt (z : Nat → Nat) (j : Nat) : Nat := z (4 * j) + 256 * z (4 * j + 1) + 65536 * z (4 * j + 2) + 16777216 * z (4 * j + 3)
theorem wraps_u32 (n : Int) (h0 : 0 ≤ n) (h1 : n < 2 ^ 32) : IntKind.u32.wrap n = n := by rw [IntKind.wrap_u32]; omega
theorem xor_u32 (a b : Nat) (ha : a < 4294967296) (hb : b < 4294967296) : bits .xor .u32 (a : Int) (b : Int) = ((a ^^^ b : Nat) : Int) := by
  have ha' : a % 2 ^ 32 = a := Nat.mod_eq_of_lt ha
  have hb' : b % 2 ^ 32 = b := Nat.mod_eq_of_lt hb
  have hk : IntKind.u32.bits = 32 := rfl
  simp only [bits, BitVec.ofInt_natCast, BitVec.toNat_xor, BitVec.toNat_ofNat, hk, ha', hb']
  exact wraps_u32 _ (Int.natCast_nonneg _) (by have := Ob.xor_lt ha hb; omega)
theorem or_u32 (a b n : Nat) (hn : n ≤ 32) (ha : a < 2 ^ n) (hb : b < 2 ^ (32 - n)) : bits .or .u32 (a : Int) ((b * 2 ^ n : Nat) : Int) = ((a + b * 2 ^ n : Nat) : Int) := by
  have e : (2 : Nat) ^ n * 2 ^ (32 - n) = 4294967296 := by rw [← Nat.pow_add, Nat.add_sub_cancel' hn]
  have h1 : a < 2 ^ 32 := Nat.lt_of_lt_of_le ha (Nat.pow_le_pow_right (by decide) hn)
  have h2 : b * 2 ^ n < 2 ^ 32 := by
    have : (b + 1) * 2 ^ n ≤ 2 ^ (32 - n) * 2 ^ n := Nat.mul_le_mul_right _ hb
    rw [Nat.mul_comm (2 ^ (32 - n)), e, Nat.add_mul, Nat.one_mul] at this
    have := Nat.two_pow_pos n
    omega
  rw [(bits_nat .u32 32 (by decide) wraps_u32 a (b * 2 ^ n) h1 h2).2, Nat.or_comm, Nat.mul_comm, ← Nat.two_pow_add_eq_or_of_lt ha b, Nat.add_comm]
end Go.Proofs.YtkekomiaiaacaaaDoor

namespace Go.Proofs.YtkekomiaiaacaaaDoor
open Go.RowKit Go.Proofs
set_option linter.unusedVariables false
set_option linter.unusedSimpArgs false

/-- The bytes of a string, 0 behind them. -/
def sby (s : ByteArray) (i : Nat) : Nat := ((s.data.toList[i]?).map UInt8.toNat).getD 0
theorem sby_lt (s : ByteArray) (i : Nat) : sby s i < 256 := by
  unfold sby
  cases s.data.toList[i]? with
  | none => decide
  | some x => exact x.toNat_lt
theorem sby_out (s : ByteArray) {i : Nat} (h : s.size ≤ i) : sby s i = 0 := by
  unfold sby
  rw [List.getElem?_eq_none (by rw [Array.length_toList]; exact h)]
  rfl
theorem sby_cells (s : ByteArray) : (s.data.toList.map fun x => Value.int .u8 (x.toNat : Int)) = arrL .u8 (sby s) s.size := by
  apply List.ext_getElem?
  intro i
  by_cases h : i < s.size
  · rw [arrL_get _ _ _ _ h]
    have h' : i < s.data.toList.length := by rw [Array.length_toList]; exact h
    unfold sby
    rw [List.getElem?_map, List.getElem?_eq_getElem h']
    rfl
  · rw [List.getElem?_eq_none (by rw [List.length_map, Array.length_toList]; exact Nat.le_of_not_lt h), List.getElem?_eq_none (by rw [arrL_length]; omega)]
/-- The first k of an array's cells stored. -/
theorem Arr.part {w : World} {k : IntKind} {b n m : Nat} {v : Nat → Nat} (t : Arr w k b n v) (u : Nat → Nat) (hm : m ≤ n) : Arr (w.setCells b 0 (arrL k u m)) k b n (fun i => if i < m then u i else v i) := by
  refine ⟨by rw [setCells_size]; exact t.lt, fun i hi => ?_, fun i hi => by rw [World.frozen?_setCells]; exact t.f i hi⟩
  by_cases h : i < m
  · have hin := World.cell?_setCells_in b (arrL k u m) 0 w (fun j hj => by rw [Nat.zero_add, t.c j (by rw [arrL_length] at hj; omega)]; rfl) i (by rw [arrL_length]; exact h)
    rw [Nat.zero_add] at hin
    rw [hin, if_pos h]
    have := arrL_get k u m i h
    rw [List.getElem?_eq_getElem (by rw [arrL_length]; exact h)] at this
    exact this
  · rw [World.cell?_setCells_out b _ 0 w _ (fun _ _ => Or.inr (by rw [arrL_length]; show 0 + m ≤ i; omega)), if_neg h]
    exact t.c i hi
theorem sizeByte : ∀ w, (Go.sizeOf 5).run Tryd.prog w = .ok 1 w := by
  obtain ⟨i, hi, h1, _⟩ := byteInfo
  intro w
  simp [sizeOf, typeInfo, hi, h1]
theorem sizeByte' : (Tryd.prog.info? 5).map (·.size) = some 1 := by kernel_rfl
/-- A string copied into bytes that are 0. -/
theorem Arr.copyStr {w : World} {b n : Nat} (t : Arr w .u8 b n (fun _ => 0)) (s : ByteArray) (hs : s.size ≤ n) (c : Nat) (ty : TypeId) :
    ∃ w', (Builtin.copy_ #[46, 9] ty #[.slice (some ⟨b, 0, none⟩) n c, .string s]).run Tryd.prog w = .ok (goInt s.size) w' ∧ Hid (w' = w.setCells b 0 (arrL .u8 (sby s) s.size)) ∧ Hid (Arr w' .u8 b n (sby s)) ∧ w'.heap.size = w.heap.size := by
  have h := run_copy_string (P := Tryd.prog) w 46 9 ty 5 b 0 n c s Tryd.underlying46 sizeByte hs (fun j hj => by rw [Nat.zero_add, t.c j (by omega)]; rfl) (fun j hj => by rw [Nat.zero_add]; exact t.f j (by omega))
  rw [sby_cells] at h
  refine ⟨_, h, rfl, ?_, setCells_size _ _ _ _⟩
  exact (t.part (sby s) hs).congr fun i hi => by
    by_cases hh : i < s.size
    · rw [if_pos hh]
    · rw [if_neg hh, sby_out s (by omega)]
/-- The whole of an array, in a region that draws its order. -/
theorem yieldsArr {ops : Array Oper} {S : World → Prop} {op : Oper} {a : Act} (hw : Region.wanted op (yielded ops a.tmps) = true) (ty : TypeId) (x : Operand) (ho : op.op = .load ty x)
    (b : Nat) (hx : a.eval x = .pointer (some ⟨b, 0, none⟩)) {k : IntKind} {n : Nat} {v : Nat → Nat} {d : TypeDesc} (hS : ∀ w, S w → Arr w k b n v)
    (hu : Tryd.prog.underlying ty = some d) (hd : d.isRow = true) (hi : (Tryd.prog.info? ty).map (·.size) = some n) : YieldsIf Tryd.prog ops S op (.agg (arrL k v n).toArray) a :=
  yieldsIf_load_mid hw ty x ho b 0 hx (arrL k v n) d (fun w h => (hS w h).range) hu hd (by rw [arrL_length]; exact hi)
theorem wp_storeArr {op : Oper} {a : Act} {w : World} {K : Act → World → Prop} {Q : Exit → Act → World → Prop} (ty : TypeId) (x y : Operand) (ho : op.op = .store ty x y)
    (b : Nat) (hx : a.eval x = .pointer (some ⟨b, 0, none⟩)) {k : IntKind} {n : Nat} {v : Nat → Nat} (v' : Nat → Nat) (hy : a.eval y = .agg (arrL k v' n).toArray) (t : Arr w k b n v)
    (hi : (Tryd.prog.info? ty).map (·.size) = some n)
    (h : ∀ w', Hid (w' = w.setCells b 0 (arrL k v' n)) → Hid (Arr w' k b n v') → w'.heap.size = w.heap.size → K (a.put op.dst undef) w') : op.wp Tryd.prog a w K Q := by
  have hs : (arrL k v' n).toArray.size = n := by simp [arrL_length]
  exact wp_store_mid ty x y ho b 0 (arrL k v' n).toArray hx hy (by rw [hs]; exact t.there) (by rw [hs]; exact hi) (all_oneCell_toArray (arrL_one k v' n))
    (by rw [List.toList_toArray]; exact h _ rfl (t.whole v') (setCells_size _ _ _ _))
/-- n bytes that may be read at an address. -/
def Src (w : World) (a : Option Addr) (n : Nat) (z : Nat → Nat) : Prop := n = 0 ∨ ∃ b off, a = some ⟨b, off, none⟩ ∧ Bys w b off n z
theorem Src.below {w w1 : World} {a : Option Addr} {n : Nat} {z : Nat → Nat} (h : Src w a n z) (hb : Below w.heap.size w w1) : Src w1 a n z := by
  rcases h with h | ⟨b, off, ha, hB⟩
  · exact Or.inl h
  · exact Or.inr ⟨b, off, ha, hB.below hb hB.lt⟩
theorem Src.tail {w : World} {p : Option Addr} {m c T : Nat} {u : Nat → Nat} (h : Src w p m u) (hT : T ≤ m) (hc : m ≤ c) {p' : Option Addr} (hp : p' = if c = T then p else p.map (·.add T)) : Src w p' (m - T) (fun j => u (T + j)) := by
  by_cases e : m - T = 0
  · exact Or.inl e
  · rcases h with h | ⟨b, off, rfl, hB⟩
    · omega
    · right
      rw [if_neg (by omega)] at hp
      refine ⟨b, off + T, by rw [hp, Option.map_some, Addr.add_mid], hB.more T (m - T) (by omega)⟩
theorem Arr.copyBys {w : World} {B n : Nat} (t : Arr w .u8 B n (fun _ => 0)) {a : Option Addr} {m : Nat} {u : Nat → Nat} (hS : Src w a m u) (c c' : Nat) (ty : TypeId) {T : Nat} (hT : min m n = T) :
    ∃ w', (Builtin.copy_ #[46, 46] ty #[.slice (some ⟨B, 0, none⟩) n c, .slice a m c']).run Tryd.prog w = .ok (.int .i64 (T : Nat)) w' ∧ Hid (w' = w.setCells B 0 (arrL .u8 u T)) ∧ Hid (Arr w' .u8 B n (fun j => if j < m then u j else 0)) ∧ w'.heap.size = w.heap.size := by
  have ht : T ≤ n := by omega
  have hA : Arr (w.setCells B 0 (arrL .u8 u T)) .u8 B n (fun j => if j < m then u j else 0) := (t.part u ht).congr fun i hi => by
    by_cases h : i < T
    · rw [if_pos h, if_pos (by omega)]
    · rw [if_neg h, if_neg (by omega)]
  rcases hS with h0 | ⟨b, off, rfl, hB⟩
  · have hT0 : T = 0 := by omega
    subst hT0
    refine ⟨_, ?_, rfl, hA, setCells_size _ _ _ _⟩
    exact run_copy_none (P := Tryd.prog) w 46 46 ty 5 _ _ n c m c' Tryd.underlying46 sizeByte' (by rw [h0]; exact Nat.zero_min _)
  · refine ⟨_, ?_, rfl, hA, setCells_size _ _ _ _⟩
    have := run_copy_cells (P := Tryd.prog) w 46 46 ty 5 B 0 n c ⟨b, off, none⟩ m c' (arrL .u8 u T) Tryd.underlying46 sizeByte' (by rw [arrL_length]; exact hT.symm)
      (fun j v hv => by
        have hj : j < T := by have := (List.getElem?_eq_some_iff.1 hv).1; rwa [arrL_length] at this
        rw [arrL_get _ _ _ _ hj] at hv
        rw [Addr.add_mid, hB.at_ j (by omega)]
        exact hv)
      (fun j hj => by rw [arrL_length] at hj; rw [Nat.zero_add, t.c j (by omega)]; rfl) (fun j hj => by rw [arrL_length] at hj; rw [Nat.zero_add]; exact t.f j (by omega)) (arrL_one _ _ _)
    rw [arrL_length] at this
    exact this
theorem wpList_tail {ops : Array Oper} {rest : List Oper} {dst : Option Tmp} {ty' : TypeId} {x l : Operand} {ps : String} {af : Array Edge} {a : Act} {w : World} {Q : Exit → Act → World → Prop}
    {ty : TypeId} {p : Option Addr} {m c T : Nat} (hT : T ≤ m) (hty : ty = 46) (hx : a.eval x = .slice p m c) (hl : a.eval l = .int .i64 (T : Nat))
    (h : ∀ p', Hid (p' = if c = T then p else p.map (·.add T)) → wpList Tryd.prog ops Q rest (a.put dst (.slice p' (m - T) (c - T))) w) : wpList Tryd.prog ops Q (⟨dst, .slice ty x (some l) none none, ty', ps, af, none⟩ :: rest) a w :=
  wpList_plain rfl fun K hK => by
    subst hty
    have hr : (Instr.sliceAt 46 (.slice p m c) (some (.int .i64 (T : Nat))) none none).run Tryd.prog w = .ok (.slice (if c = T then p else p.map (·.add T)) (m - T) (c - T)) w := by
      rw [run_sliceAt_slice w _ _ _ _ _ (show Tryd.prog.underlying 46 = some (.slice (Tryd.prog.elem 46)) by kernel_rfl), run_slice_l w _ _ _ _ (show Tryd.prog.underlying 46 = some (.slice (Tryd.prog.elem 46)) by kernel_rfl) .i64 (T : Nat) (by omega) (by omega)]
      have he : Tryd.prog.elem 46 = 5 := by kernel_rfl
      rw [he, sizeByte]
      simp [Result.andThen, sliced]
    unfold Oper.wp
    simp only [execOp, hx, hl, Option.map_some, Option.map_none, hr, Sem.run_bind, Sem.run_pure, Result.andThen_ok]
    exact hK _ _ (h _ rfl)
end Go.Proofs.YtkekomiaiaacaaaDoor

namespace Go.Proofs.YtkekomiaiaacaaaDoor
open Go.RowKit Go.Proofs
set_option linter.unusedVariables false
set_option linter.unusedSimpArgs false
attribute [local go_sem ↓] Go.wp_at_zero Go.wp_at_succ

/-- Byte number i of the words ns. -/
def lowBy (ns : Nat → Nat) (i : Nat) : Nat := ns (i / 4) / 256 ^ (i % 4) % 256
theorem lowBy_lt (ns : Nat → Nat) (i : Nat) : lowBy ns i < 256 := Nat.mod_lt _ (by decide)
theorem lowBy_at (ns : Nat → Nat) (i j : Nat) (hj : j < 4) : lowBy ns (4 * i + j) = ns i / 256 ^ j % 256 := by
  unfold lowBy
  rw [show (4 * i + j) / 4 = i by omega, show (4 * i + j) % 4 = j by omega]

set_option maxHeartbeats 1000000 in
theorem lowBytesW (b k cap : Nat) (ns : Nat → Nat) (hns : Ob.Words32 ns) (w : World) (hk : k ≤ 1000000) (hc : Rd w .u32 b k ns) :
    Calls Tryd.prog 60 #[.slice (some ⟨b, 0, none⟩) k cap] w fun e w' => e = .returned (.slice (some ⟨w.heap.size, 0, none⟩) (4 * k) (4 * k)) ∧ w'.ownsRow w.heap.size 5 1 (.slice (some ⟨w.heap.size, 0, none⟩) (4 * k) (4 * k)) (4 * k) (vals (lowBy ns) (4 * k)) ∧ Below w.heap.size w w' := by
  obtain ⟨i0, hi, hz1, hz2, hz0⟩ := byteInfo
  have hm : 4 * k ≤ maxLen := by unfold maxLen; omega
  have hc' : Hid (Rd w .u32 b k ns) := hc
  have hn' : Hid (Ob.Words32 ns) := hns
  clear hc hns
  go_enter Tryd.func60, Tryd.ntmps60
  go_wp2_with (at_make; refine wpList_make_own _ rfl _ _ 46 rfl w.heap.size 5 i0 _ 1 Tryd.underlying46 hi hz0 hz1 _ _ _ (4 * k) rfl rfl (by omega) (by rw [hz2]; omega) hm (Nat.le_refl _) ?_; intro w0 hown0 hgrow0)
  have hB0 : Below w.heap.size w w0 := (Below.refl _ _).grown hgrow0 (Nat.le_refl _) (fun k h => by cases h)
  clear hgrow0
  go_loopw [3, 12] (fun sb si wr => ∃ i : Nat, i ≤ k ∧ si = .int .i64 i ∧ sb = .slice (some ⟨w.heap.size, 0, none⟩) (4 * i) (4 * k) ∧ wr.ownsRow w.heap.size 5 1 (.slice (some ⟨w.heap.size, 0, none⟩) (4 * i) (4 * k)) (4 * i) (vals (lowBy ns) (4 * i)) ∧ Below w.heap.size w wr) (fun _ si _ => k - (intOf si).toNat)
  case atStart => exact ⟨0, by omega, rfl, rfl, hown0, hB0⟩
  case round =>
    obtain ⟨i, hik, rfl, rfl, hown, hB⟩ := hrel
    clear hown0 hB0
    by_cases hlt : i < k
    · have hci := (hc'.out.below hB hc'.out.lt).c i hlt
      have hni := hn'.out i
      have e0 : Hid (lowBy ns (4 * i) = ns i % 256) := by have := lowBy_at ns i 0 (by decide); rw [Nat.add_zero, Nat.pow_zero, Nat.div_one] at this; exact this
      have e1 : Hid (lowBy ns (4 * i + 1) = ns i / 256 % 256) := lowBy_at ns i 1 (by decide)
      have e2 : Hid (lowBy ns (4 * i + 2) = ns i / 65536 % 256) := lowBy_at ns i 2 (by decide)
      have e3 : Hid (lowBy ns (4 * i + 3) = ns i / 16777216 % 256) := lowBy_at ns i 3 (by decide)
      obtain ⟨n, hn⟩ : ∃ n, Hid (ns i = n) := ⟨_, rfl⟩
      rw [hn.out] at hci hni e0 e1 e2 e3
      obtain ⟨b0, f0, g0⟩ : ∃ x : Nat, Hid (n % 256 = x) ∧ IntKind.u8.wrap (n : Int) = (x : Int) := ⟨_, rfl, by rw [IntKind.wrap_u8]; omega⟩
      obtain ⟨b1, f1, g1⟩ : ∃ x : Nat, Hid (n / 256 % 256 = x) ∧ IntKind.u8.wrap ((n : Int) / 256) = (x : Int) := ⟨_, rfl, by rw [IntKind.wrap_u8]; omega⟩
      obtain ⟨b2, f2, g2⟩ : ∃ x : Nat, Hid (n / 65536 % 256 = x) ∧ IntKind.u8.wrap ((n : Int) / 65536) = (x : Int) := ⟨_, rfl, by rw [IntKind.wrap_u8]; omega⟩
      obtain ⟨b3, f3, g3⟩ : ∃ x : Nat, Hid (n / 16777216 % 256 = x) ∧ IntKind.u8.wrap ((n : Int) / 16777216) = (x : Int) := ⟨_, rfl, by rw [IntKind.wrap_u8]; omega⟩
      rw [f0.out] at e0
      rw [f1.out] at e1
      rw [f2.out] at e2
      rw [f3.out] at e3
      have hown2 := hown.alloc (.cells #[.int .u8 (b0 : Nat), .int .u8 (b1 : Nat), .int .u8 (b2 : Nat), .int .u8 (b3 : Nat)] 5)
      have hroom : 4 * i + 4 ≤ 4 * k := by omega
      have i0' : (i : Int) < (k : Int) := by omega
      have i1' : (0 : Int) ≤ (i : Int) := by omega
      have hnews : ∀ (j : Nat) (u : Value), [Value.int .u8 (b0 : Nat), .int .u8 (b1 : Nat), .int .u8 (b2 : Nat), .int .u8 (b3 : Nat)][j]? = some u → (wr.alloc (.cells #[.int .u8 (b0 : Nat), .int .u8 (b1 : Nat), .int .u8 (b2 : Nat), .int .u8 (b3 : Nat)] 5)).cell? ((⟨wr.heap.size, 0, none⟩ : Addr).add j) = some u := fun j u h => by
        rw [Addr.add_mid, Nat.zero_add, World.cell?_alloc_new, List.getElem?_toArray]
        exact h
      have hv : Hid (vals (lowBy ns) (4 * i) ++ [.int .u8 (b0 : Nat), .int .u8 (b1 : Nat), .int .u8 (b2 : Nat), .int .u8 (b3 : Nat)] = vals (lowBy ns) (4 * (i + 1))) := by
        show _ = _
        rw [show 4 * (i + 1) = 4 * i + 1 + 1 + 1 + 1 by omega, vals_succ, vals_succ, vals_succ, vals_succ, e0.out, e1.out, show 4 * i + 1 + 1 = 4 * i + 2 by omega, e2.out, show 4 * i + 2 + 1 = 4 * i + 3 by omega, e3.out]
        simp
      go_wp2_with (at_builtin; refine wpList_append_own_spare _ rfl _ _ 46 rfl w.heap.size 5 i0 1 Tryd.underlying46 hi hz1 w.heap.size (4 * i) (4 * k) _ rfl hown2 ⟨wr.heap.size, 0, none⟩ 4 4 _ rfl rfl hnews (by simp [Value.oneCell']) hroom ?_; intro w1 hown3 hgrow1)
      rw [hv.out] at hown3
      have hB2 : Below w.heap.size w w1 := (hB.alloc hB.size _).grown hgrow1 (by have := hB.size; simp only [World.size_alloc]; omega) (fun k h => by cases h; exact Nat.le_refl _)
      go_roundw
      case rel => exact ⟨i + 1, by omega, by go_num, rfl, hown3, hB2⟩
      case measure => simp [intOf]; omega
    · obtain rfl : i = k := by omega
      go_wp2
      go_ret
      exact ⟨rfl, hown, hB⟩
end Go.Proofs.YtkekomiaiaacaaaDoor

namespace Go.Proofs.YtkekomiaiaacaaaDoor
open Go.RowKit Go.Proofs
set_option linter.unusedVariables false
set_option linter.unusedSimpArgs false
attribute [local go_sem ↓] Go.wp_at_zero Go.wp_at_succ

theorem or_low (n x k : Nat) (hn : n < 2 ^ (8 * k)) (hx : x < 256) (hk : k < 8) : bits .or .u64 (n : Int) (IntKind.u64.wrap ((x : Int) * 2 ^ (8 * k))) = ((n + x * 2 ^ (8 * k) : Nat) : Int) := by
  have h8 : 2 ^ (8 * k) * 256 ≤ 2 ^ 64 := by
    have : (2 : Nat) ^ (8 * k + 8) ≤ 2 ^ 64 := Nat.pow_le_pow_right (by decide) (by omega)
    rwa [Nat.pow_add] at this
  have h1 : x * 2 ^ (8 * k) < 2 ^ 64 := by
    have : (x + 1) * 2 ^ (8 * k) ≤ 256 * 2 ^ (8 * k) := Nat.mul_le_mul_right _ hx
    have hp : 0 < 2 ^ (8 * k) := Nat.two_pow_pos _
    rw [Nat.add_mul, Nat.one_mul] at this
    rw [Nat.mul_comm] at h8
    omega
  have h2 : n < 2 ^ 64 := by omega
  have e : IntKind.u64.wrap ((x : Int) * 2 ^ (8 * k)) = ((x * 2 ^ (8 * k) : Nat) : Int) := by
    rw [IntKind.wrap_u64]
    have : (x : Int) * 2 ^ (8 * k) = ((x * 2 ^ (8 * k) : Nat) : Int) := by simp
    rw [this]
    generalize x * 2 ^ (8 * k) = y at *
    omega
  rw [e, bits_or_u64_nat _ _ h2 h1, Nat.mul_comm x, Nat.or_comm, ← Nat.two_pow_add_eq_or_of_lt hn x, Nat.add_comm]

set_option maxHeartbeats 400000 in
theorem lowNumberW (b off L cap : Nat) (hL : L ≤ 8) (z : Nat → Nat) (hz : ∀ i, z i < 256) (w : World) (hB : Bys w b off L z) :
    Calls Tryd.prog 50 #[.slice (some ⟨b, off, none⟩) L cap] w fun e w' => e = .returned (.int .u64 (Ob.lowN z L : Nat)) ∧ w = w' := by
  have hc := hB.at_
  clear hB
  go_enter Tryd.func50, Tryd.ntmps50
  go_wp2
  go_loop [3, 8] (fun sn si => ∃ k : Nat, k ≤ L ∧ si = .int .i64 k ∧ sn = .int .u64 (Ob.lowN z k : Nat)) (fun _ si => L - (intOf si).toNat)
  case atStart => exact ⟨0, by omega, rfl, rfl⟩
  case round =>
    obtain ⟨k, hk, rfl, rfl⟩ := hrel
    by_cases hlt : k < L
    · have hck := hc k hlt
      clear hc
      have hzk := hz k
      have hor := or_low (Ob.lowN z k) (z k) k (Ob.lowN_lt hz k) hzk (by omega)
      have hn : Hid (Ob.lowN z (k + 1) = Ob.lowN z k + z k * 2 ^ (8 * k)) := rfl
      obtain ⟨N', hN'⟩ : ∃ N', Hid (Ob.lowN z (k + 1) = N') := ⟨_, rfl⟩
      rw [← hn.out, hN'.out] at hor
      have i0 : (k : Int) < (L : Int) := by omega
      have i1 : (0 : Int) ≤ (k : Int) := by omega
      have i2 : IntKind.i64.wrap (8 * (k : Int)) = ((8 * k : Nat) : Int) := by rw [IntKind.wrap_i64]; omega
      obtain ⟨s, hs⟩ : ∃ s, Hid (8 * k = s) := ⟨_, rfl⟩
      rw [hs.out] at hor i2
      have i3 : (0 : Int) ≤ (s : Int) := by omega
      generalize Ob.lowN z k = N at hor ⊢
      have hmin : min s 64 = s := by have := hs.out; omega
      generalize z k = zk at hck hzk hor
      clear hz
      go_wp2
      go_round
      case rel => exact ⟨k + 1, by omega, by go_num, by rw [hN'.out]⟩
      case measure => simp [intOf]; omega
    · obtain rfl : k = L := by omega
      clear hc
      go_wp2
      go_ret
      exact ⟨rfl, rfl⟩

theorem lowN_four (z : Nat → Nat) : Ob.lowN z 4 = z 0 + 256 * z 1 + 65536 * z 2 + 16777216 * z 3 := by
  simp only [Ob.lowN]
  omega
theorem wordW (b off cap : Nat) (z : Nat → Nat) (hz : ∀ i, z i < 256) (w : World) (hB : Bys w b off 4 z) :
    Calls Tryd.prog 74 #[.slice (some ⟨b, off, none⟩) 4 cap] w fun e w' => e = .returned (.int .u32 (Ob.lowN z 4 : Nat)) ∧ w = w' := by
  have c := lowNumberW b off 4 cap (by decide) z hz w hB
  have hl : Ob.lowN z 4 < 4294967296 := Ob.lowN_lt hz 4
  have hw : IntKind.u32.wrap ((Ob.lowN z 4 : Nat) : Int) = ((Ob.lowN z 4 : Nat) : Int) := by rw [IntKind.wrap_u32]; omega
  generalize Ob.lowN z 4 = x at *
  go_enter Tryd.func74, Tryd.ntmps74
  go_wp2_with (go_at_call 50; with_reducible refine c.mono ?_; rintro e w' ⟨rfl, rfl⟩)
  go_ret
  exact ⟨rfl, rfl⟩

def wordsI (z : Nat → Nat) (i j : Nat) : Nat := if j < i then wordAt z j else 0
theorem wordsI_zero (z : Nat → Nat) : wordsI z 0 = fun _ => 0 := by funext j; simp [wordsI]
theorem wordsI_succ (z : Nat → Nat) (i : Nat) : Ob.upd (wordsI z i) i (wordAt z i) = wordsI z (i + 1) := by
  funext j
  unfold Ob.upd wordsI
  by_cases h1 : j = i
  · subst h1; simp
  · by_cases h2 : j < i
    · simp [h1, h2, Nat.lt_succ_of_lt h2]
    · simp [h1, h2]; omega

set_option maxHeartbeats 4000000 in
theorem blockWords_core (z : Nat → Nat) (hz : ∀ i, z i < 256) (w : World) :
    Calls Tryd.prog 76 #[arrV .u8 z 64] w fun e w' => e = .returned (arrV .u32 (wordAt z) 16) ∧ Below w.heap.size w w' := by
  unfold arrV
  have hl := arrL_length .u8 z 64
  have hz' : Hid (∀ i, z i < 256) := hz
  clear hz
  go_enter Tryd.func76, Tryd.ntmps76
  go_upto_region 2 with (fail)
  obtain ⟨W0, hW0⟩ : ∃ W, Hid ((((w.alloc (.cells (arrL .u8 z 64).toArray 87)).alloc (.cells (arrL .u32 (fun _ => 0) 16).toArray 74)).alloc (.cells (arrL .u32 (fun _ => 0) 16).toArray 74)) = W) := ⟨_, rfl⟩
  have th0 : Arr W0 .u8 w.heap.size 64 z := by rw [← hW0.out]; exact ((Arr.new rfl).alloc _).alloc _
  have tr0 : Arr W0 .u32 (w.heap.size + 1) 16 (fun _ => 0) := by rw [← hW0.out]; exact (Arr.new (by simp)).alloc _
  have tv0 : Arr W0 .u32 (w.heap.size + 1 + 1) 16 (wordsI z 0) := by rw [← hW0.out, wordsI_zero]; exact Arr.new (by simp)
  have hB0 : Below w.heap.size w W0 := by rw [← hW0.out]; (repeat' (first | (with_reducible first | exact Below.refl _ _ | assumption | refine Below.alloc ?_ ?_ _ | refine Below.drew ?_ | refine below_drewN ?_ _ | refine Below.setCell ?_ ?_ _ | refine below_via (by with_reducible assumption) ?_ ?_) | omega | (simp only [szs]; omega) | (simp only [szs] at *; omega)))
  change Code.wp _ _ _ _ (((w.alloc (.cells (arrL .u8 z 64).toArray 87)).alloc (.cells (arrL .u32 (fun _ => 0) 16).toArray 74)).alloc (.cells (arrL .u32 (fun _ => 0) 16).toArray 74))
  rw [hW0.out]
  clear hW0
  obtain ⟨N, hN⟩ : ∃ N, Hid (w.heap.size = N) := ⟨_, rfl⟩
  rw [hN.out] at tv0 th0 tr0 hB0 ⊢
  go_wp2
  go_loopw [5] (fun s5 wr => ∃ (i : Nat), i ≤ 16 ∧ s5 = .int .i64 (i : Nat) ∧ Hid (Arr wr .u8 N 64 z) ∧ Hid (Arr wr .u32 (N + 1) 16 (fun _ => 0)) ∧ Hid (Arr wr .u32 (N + 1 + 1) 16 (wordsI z i)) ∧ Below N w wr) (fun s5 _ => 16 - (intOf s5).toNat)
  case atStart => exact ⟨0, by omega, rfl, th0, tr0, tv0, hB0⟩
  case round =>
    clear tv0 th0 tr0 hB0
    obtain ⟨i, hi, rfl, th, tr, tv, hB⟩ := hrel
    have l0 := hB.size
    by_cases hlt : i < 16
    · have y : Bys wr N (4 * i) 4 (fun j => z (4 * i + j)) := ⟨th.out.lt, fun j hj => th.out.c (4 * i + j) (by omega)⟩
      have hx : Hid (Ob.lowN (fun j => z (4 * i + j)) 4 = wordAt z i) := lowN_four _
      have c1 := wordW N (4 * i) (64 - 4 * i) _ (fun j => hz'.out (4 * i + j)) wr y
      rw [hx.out] at c1
      have p2 := tv.out.c i (by omega)
      have p4 := tv.out.f i (by omega)
      have i0 : (i : Int) < 16 := by omega
      have i1 : (0 : Int) ≤ (i : Int) := by omega
      obtain ⟨s, hs, i2⟩ : ∃ s : Nat, Hid (4 * i = s) ∧ IntKind.i64.wrap (4 * (i : Int)) = (s : Int) := ⟨4 * i, rfl, by rw [IntKind.wrap_i64]; omega⟩
      obtain ⟨i', hi', i3⟩ : ∃ s : Nat, Hid (i + 1 = s) ∧ IntKind.i64.wrap ((i : Int) + 1) = (s : Int) := ⟨i + 1, rfl, by rw [IntKind.wrap_i64]; omega⟩
      obtain ⟨t, ht, i4⟩ : ∃ s : Nat, Hid (4 * i + 4 = s) ∧ IntKind.i64.wrap (4 * (i' : Int)) = (s : Int) := ⟨4 * i + 4, rfl, by rw [IntKind.wrap_i64]; have := hi'.out; omega⟩
      rw [hs.out] at c1
      have s0 : (0 : Int) ≤ (s : Int) := by omega
      have s1 : (s : Int) ≤ (t : Int) := by have := hs.out; have := ht.out; omega
      have s2 : (t : Int) ≤ 64 := by have := ht.out; omega
      have s3 : t - s = 4 := by have := hs.out; have := ht.out; omega
      have s4 : 64 ≠ s := by have := hs.out; omega
      obtain ⟨X, hX⟩ : ∃ X, Hid (wordAt z i = X) := ⟨_, rfl⟩
      rw [hX.out] at c1
      clear y hx
      go_upto_region 5 with (fail)
      go_wp2_with (go_at_call 74; with_reducible refine c1.mono ?_; rintro e w' ⟨rfl, rfl⟩)
      have q := tv.out.set (i := i) (z := X) hlt
      rw [← hX.out, wordsI_succ, hX.out] at q
      have hB1 : Below N w (wr.setCell ⟨N + 1 + 1, i, none⟩ (.int .u32 (X : Nat))) := by (repeat' (first | (with_reducible first | exact Below.refl _ _ | assumption | refine Below.alloc ?_ ?_ _ | refine Below.drew ?_ | refine below_drewN ?_ _ | refine Below.setCell ?_ ?_ _ | refine below_via (by with_reducible assumption) ?_ ?_) | omega | (simp only [szs]; omega) | (simp only [szs] at *; omega)))
      go_roundw
      case rel => exact ⟨i + 1, by omega, by rw [hi'.out], th.out.far (by omega) _ _, tr.out.far (by omega) _ _, q, hB1⟩
      case measure => (simp only [intOf, Int.toNat_natCast]; have := hi'.out; omega)
    · obtain rfl : i = 16 := by omega
      have t0 : Arr wr .u32 (N + 1 + 1) 16 (wordAt z) := tv.out.congr (fun j hj => by unfold wordsI; rw [if_pos hj])
      go_upto_region 7 with (fail)
      go_wp2_with (first | ((with_reducible refine wpList_loadLit t0 ?_ Tryd.underlying74 ?_ ?_ ?_); (focus rfl); (focus rfl); (focus kernel_rfl); simp only [Act.put, List.setIfInBounds_toArray, List.set_cons_zero, List.set_cons_succ]) | ((with_reducible refine wpList_storeLit (wordAt z) tr.out ?_ ?_ ?_ ?_); (focus rfl); (focus rfl); (focus kernel_rfl); intro W5 hW5_ tW5_ zW5_; try simp only [Act.put, List.setIfInBounds_toArray, List.set_cons_zero, List.set_cons_succ]))
      have hB5 : Below w.heap.size w W5 := by rw [hW5_.out, hN.out]; exact below_setCells hB (by omega) _ _
      have rv := tW5_.out.loadVar Tryd.underlying74 rfl (by kernel_rfl)
      exact bodyPost_ret (v := .agg (arrL .u32 (wordAt z) 16).toArray) (by simp [results, Tryd.results76, asAddr, rv]) rfl ⟨rfl, hB5⟩
end Go.Proofs.YtkekomiaiaacaaaDoor

namespace Go.Proofs.YtkekomiaiaacaaaDoor
open Go
set_option linter.unusedVariables false
set_option linter.unusedSimpArgs false
section
variable {P : Program} {ops : Array Oper} {Q : Exit → Act → World → Prop} {md : Region.Mode} {S : World → Prop} {Z : List Nat}

/-- Whatever order is picked; S holds behind each operation but those of Z. -/
def AnyZ (P : Program) (md : Region.Mode) (ops : Array Oper) (Q : Exit → Act → World → Prop) (S : World → Prop) (Z : List Nat) : Nat → Array Bool → Act → World → Prop
  | 0, L, a, w => Region.ready md ops L = [] ∧ Q .normal a w
  | n + 1, L, a, w => (Region.ready md ops L = [] → Q .normal a w) ∧
    ∀ i ∈ Region.ready md ops L, wpOp P ops Q i (fun a' w' => (Z.contains i = false → S w → S w') ∧ AnyZ P md ops Q S Z n (L.setIfInBounds i true) a' w') a w

theorem AnyZ.any : ∀ (n : Nat) (L : Array Bool) (a : Act) (w : World), AnyZ P md ops Q S Z n L a w → wpAny P md ops Q n L a w
  | 0, _, _, _, h => h
  | n + 1, _, _, _, h => ⟨h.1, fun i hi => wpOp_mono (fun a' w' k => AnyZ.any n _ a' w' k.2) (h.2 i hi)⟩

/-- Each of Z waits for number i. -/
def waits (md : Region.Mode) (ops : Array Oper) (Z : List Nat) (i : Nat) : Bool :=
  Z.all fun j => match ops[j]? with
    | some o => o.after.any fun e => Region.binds md e && e.on == i
    | none => false
theorem waits_not {i j : Nat} {L : Array Bool} (h : waits md ops Z i = true) (hi : i ∈ Region.ready md ops L) (hj : j ∈ Region.ready md ops L) : Z.contains j = false := by
  cases hz : Z.contains j with
  | false => rfl
  | true =>
    have hm : j ∈ Z := by simpa using hz
    have h1 := List.all_eq_true.1 h j hm
    obtain ⟨_, o, ho, hall⟩ := mem_ready.1 hj
    rw [ho] at h1
    obtain ⟨e, he, hb⟩ := Array.any_eq_true'.1 h1
    simp only [Bool.and_eq_true, beq_iff_eq] at hb
    have h2 := hall e he hb.1
    rw [hb.2] at h2
    have h3 := (mem_ready.1 hi).1
    cases hl : L[i]? with
    | none => simp [hl] at h2
    | some b => simp [hl] at h2 h3; rw [h2] at h3; cases h3

theorem AnyZ.first {i : Nat} {o : Oper} {v : Value} (hi : ops[i]? = some o) (hs : ∀ (j : Nat) (o : Oper) cs b, ops[j]? = some o → o.op ≠ .select cs b)
    (hQ : ∀ c a w, Q (.panic c) (a.put o.dst v) w → Q (.panic c) a w) (hz : waits md ops Z i = true) :
    ∀ (n : Nat) (L : Array Bool) (a : Act) (w : World),
      (∀ j oj, ops[j]? = some oj → j ≠ i → L.getD j true = false → (∀ e ∈ oj.after, Region.binds md e = true → e.on ≠ i) → o.apart ops oj = true) →
      i ∈ Region.ready md ops L → YieldsIf P ops S o v a → S w → AnyZ P md ops Q S Z n (L.setIfInBounds i true) (a.put o.dst v) w → AnyZ P md ops Q S Z (n + 1) L a w
  | n, L, a, w, hfree, hr, hy, hS, H => by
    refine ⟨fun h => absurd hr (by simp [h]), fun j hj => ?_⟩
    by_cases hji : j = i
    · subst hji
      exact hy.wpOp hi hS ⟨fun _ _ => hS, H⟩
    have hj2 := ready_mono hj hji
    cases n with
    | zero => exact absurd hj2 (by simp [H.1])
    | succ n =>
      obtain ⟨hun, oj, hoj, hall⟩ := mem_ready.1 hj
      have hno : ∀ e ∈ oj.after, Region.binds md e = true → e.on ≠ i := fun e he hb e1 => by
        have h2 := hall e he hb
        have h3 := (mem_ready.1 hr).1
        rw [e1] at h2
        cases hl : L[i]? with
        | none => simp [hl] at h2
        | some b => simp [hl] at h2 h3; rw [h2] at h3; cases h3
      have hk := waits_not hz hr hj
      refine wpOp_mono (fun a' w' h3 => ?_) (wpOp_putIf hoj (hfree j oj hoj hji hun hno) (fun cs b => hs i o cs b hi) (fun cs b => hs j oj cs b hoj) hQ hy (H.2 j hj2))
      refine ⟨h3.2.1, AnyZ.first hi hs hQ hz n _ a' w' (fun k ok hok hki hun' hno' => hfree k ok hok hki ?_ hno') (ready_mono hr (Ne.symm hji)) h3.1 (h3.2.1 hk hS) ?_⟩
      · by_cases hjk : j = k
        · subst hjk; exact hun
        · rwa [getD_set_ne true hjk] at hun'
      · rw [Array.setIfInBounds_comm _ _ hji]
        exact h3.2.2

theorem anyZ_take {i : Nat} {oi : Oper} {v : Value} {n : Nat} {L : Array Bool} {a : Act} {w : World} (hi : ops[i]? = some oi) (hz : waits md ops Z i = true)
    (hs : Region.noSelect ops = true) (hf : Region.free md ops L i = true) (hr : (Region.ready md ops L).contains i = true)
    (hQ : ∀ c a w, Q (.panic c) (a.put oi.dst v) w → Q (.panic c) a w) (hy : YieldsIf P ops S oi v a) (hS : S w)
    (h : AnyZ P md ops Q S Z n (L.setIfInBounds i true) (a.put oi.dst v) w) : AnyZ P md ops Q S Z (n + 1) L a w :=
  AnyZ.first hi (Region.noSelect_spec hs) hQ hz n L a w (Region.free_spec hi hf) (by simpa using hr) hy hS h

/-- One that yields the same in every world may be taken first, whatever waits for it. -/
theorem AnyZ.free {i : Nat} {o : Oper} {v : Value} (hi : ops[i]? = some o) (hs : ∀ (j : Nat) (o : Oper) cs b, ops[j]? = some o → o.op ≠ .select cs b)
    (hQ : ∀ c a w, Q (.panic c) (a.put o.dst v) w → Q (.panic c) a w) :
    ∀ (n : Nat) (L : Array Bool) (a : Act) (w : World),
      (∀ j oj, ops[j]? = some oj → j ≠ i → L.getD j true = false → (∀ e ∈ oj.after, Region.binds md e = true → e.on ≠ i) → o.apart ops oj = true) →
      i ∈ Region.ready md ops L → YieldsIf P ops (fun _ => True) o v a → AnyZ P md ops Q S Z n (L.setIfInBounds i true) (a.put o.dst v) w → AnyZ P md ops Q S Z (n + 1) L a w
  | n, L, a, w, hfree, hr, hy, H => by
    refine ⟨fun h => absurd hr (by simp [h]), fun j hj => ?_⟩
    by_cases hji : j = i
    · subst hji
      exact hy.wpOp hi True.intro ⟨fun _ h => h, H⟩
    have hj2 := ready_mono hj hji
    cases n with
    | zero => exact absurd hj2 (by simp [H.1])
    | succ n =>
      obtain ⟨hun, oj, hoj, hall⟩ := mem_ready.1 hj
      have hno : ∀ e ∈ oj.after, Region.binds md e = true → e.on ≠ i := fun e he hb e1 => by
        have h2 := hall e he hb
        have h3 := (mem_ready.1 hr).1
        rw [e1] at h2
        cases hl : L[i]? with
        | none => simp [hl] at h2
        | some b => simp [hl] at h2 h3; rw [h2] at h3; cases h3
      refine wpOp_mono (fun a' w' h3 => ?_) (wpOp_putIf hoj (hfree j oj hoj hji hun hno) (fun cs b => hs i o cs b hi) (fun cs b => hs j oj cs b hoj) hQ hy (H.2 j hj2))
      refine ⟨h3.2.1, AnyZ.free hi hs hQ n _ a' w' (fun k ok hok hki hun' hno' => hfree k ok hok hki ?_ hno') (ready_mono hr (Ne.symm hji)) h3.1 ?_⟩
      · by_cases hjk : j = k
        · subst hjk; exact hun
        · rwa [getD_set_ne true hjk] at hun'
      · rw [Array.setIfInBounds_comm _ _ hji]
        exact h3.2.2
theorem anyZ_free {i : Nat} {oi : Oper} {v : Value} {n : Nat} {L : Array Bool} {a : Act} {w : World} (hi : ops[i]? = some oi)
    (hs : Region.noSelect ops = true) (hf : Region.free md ops L i = true) (hr : (Region.ready md ops L).contains i = true)
    (hQ : ∀ c a w, Q (.panic c) (a.put oi.dst v) w → Q (.panic c) a w) (hy : YieldsIf P ops (fun _ => True) oi v a)
    (h : AnyZ P md ops Q S Z n (L.setIfInBounds i true) (a.put oi.dst v) w) : AnyZ P md ops Q S Z (n + 1) L a w :=
  AnyZ.free hi (Region.noSelect_spec hs) hQ n L a w (Region.free_spec hi hf) (by simpa using hr) hy h

def AllZ (P : Program) (md : Region.Mode) (ops : Array Oper) (Q : Exit → Act → World → Prop) (S : World → Prop) (Z : List Nat) (n : Nat) (L : Array Bool) (a : Act) (w : World) (rs : List Nat) : Prop :=
  ∀ i ∈ rs, wpOp P ops Q i (fun a' w' => (Z.contains i = false → S w → S w') ∧ AnyZ P md ops Q S Z n (L.setIfInBounds i true) a' w') a w
theorem AllZ.nil {n : Nat} {L : Array Bool} {a : Act} {w : World} : AllZ P md ops Q S Z n L a w [] := fun _ h => absurd h (by simp)
/-- One that keeps S. -/
theorem AllZ.cons {n : Nat} {L : Array Bool} {a : Act} {w : World} {i : Nat} {o : Oper} {rs : List Nat} (ho : ops[i]? = some o)
    (h : ∀ K : Act → World → Prop, Shut (∀ a w, S w → (S w → AnyZ P md ops Q S Z n (L.setIfInBounds i true) a w) → K a w) → if Region.wanted o (yielded ops a.tmps) = true then Oper.wp P o a w K Q else K (a.put o.dst undef) w)
    (hs : AllZ P md ops Q S Z n L a w rs) : AllZ P md ops Q S Z n L a w (i :: rs) := fun j hj => by
  rcases List.mem_cons.1 hj with rfl | hj
  · exact wpOp_step ho fun K hK => h K fun a w hS hW => hK a w ⟨fun _ _ => hS, hW hS⟩
  · exact hs j hj
/-- One of Z. -/
theorem AllZ.last {n : Nat} {L : Array Bool} {a : Act} {w : World} {i : Nat} {o : Oper} {rs : List Nat} (ho : ops[i]? = some o) (hz : Z.contains i = true)
    (h : ∀ K : Act → World → Prop, Shut (∀ a w, AnyZ P md ops Q S Z n (L.setIfInBounds i true) a w → K a w) → if Region.wanted o (yielded ops a.tmps) = true then Oper.wp P o a w K Q else K (a.put o.dst undef) w)
    (hs : AllZ P md ops Q S Z n L a w rs) : AllZ P md ops Q S Z n L a w (i :: rs) := fun j hj => by
  rcases List.mem_cons.1 hj with rfl | hj
  · exact wpOp_step ho fun K hK => h K fun a w hW => hK a w ⟨fun e => absurd (hz.symm.trans e) (by decide), hW⟩
  · exact hs j hj
theorem anyZ_ready {rs : List Nat} {n : Nat} {L : Array Bool} {a : Act} {w : World} (hr : Region.ready md ops L = rs) (hne : rs ≠ []) (h : AllZ P md ops Q S Z n L a w rs) : AnyZ P md ops Q S Z (n + 1) L a w :=
  ⟨fun e => absurd (hr.symm.trans e) hne, by rw [hr]; exact h⟩
theorem anyZ_done {L : Array Bool} {a : Act} {w : World} (hr : Region.ready md ops L = []) (h : Q .normal a w) : ∀ n, AnyZ P md ops Q S Z n L a w
  | 0 => ⟨hr, h⟩
  | _ + 1 => ⟨fun _ => h, fun i hi => absurd hi (by simp [hr])⟩
theorem region_lastly {id : Nat} {a : Act} {w : World} (Z : List Nat) (hm : P.follows .mixedOrders = true) (hS : S w.drew)
    (h : S w.drew → AnyZ P .any ops Q S Z ops.size (Array.replicate ops.size false) a w.drew) : (Code.region id ops true).wp P Q a w :=
  wp_region_any hm (AnyZ.any _ _ _ _ (h hS))
end
end Go.Proofs.YtkekomiaiaacaaaDoor

namespace Go.Proofs.YtkekomiaiaacaaaDoor
open Go.RowKit Go.Proofs
set_option linter.unusedVariables false
set_option linter.unusedSimpArgs false
attribute [local go_sem ↓] Go.wp_at_zero Go.wp_at_succ

theorem rollL_num (x n : Nat) (hx : x < 4294967296) (hn : n ≤ 32) : bits .or .u32 (((x * 2 ^ (32 - n)) % 4294967296 : Nat) : Int) ((x / 2 ^ n : Nat) : Int) = ((Ob.rot x n : Nat) : Int) := by
  have e : (2 : Nat) ^ n * 2 ^ (32 - n) = 4294967296 := by rw [← Nat.pow_add, Nat.add_sub_cancel' hn]
  have e1 : x * 2 ^ (32 - n) % 4294967296 = x % 2 ^ n * 2 ^ (32 - n) := by rw [← e, Nat.mul_mod_mul_right]
  have h1 : x / 2 ^ n < 2 ^ (32 - n) := Nat.div_lt_of_lt_mul (by rw [e]; exact hx)
  have h3 := Ob.rot_lt hx hn
  unfold Ob.rot at h3
  have ha : x % 2 ^ n * 2 ^ (32 - n) < 2 ^ 32 := by omega
  have hb : x / 2 ^ n < 2 ^ 32 := by omega
  rw [e1, (bits_nat .u32 32 (by decide) wraps_u32 _ _ ha hb).2, Nat.mul_comm (x % 2 ^ n), ← Nat.two_pow_add_eq_or_of_lt h1 (x % 2 ^ n)]
  unfold Ob.rot
  rw [Nat.mul_comm (2 ^ (32 - n)), Nat.add_comm]
theorem left_num : ∀ p : Fin 32, 0 < p.val → bits .and .u64 (IntKind.u64.wrap (-(p.val : Int))) 31 = ((32 - p.val : Nat) : Int) := by decide +kernel

set_option maxHeartbeats 1000000 in
theorem rotW (x p : Nat) (hx : x < 4294967296) (hp0 : 0 < p) (hp : p < 32) (w : World) :
    Calls Tryd.prog 82 #[.int .u32 x, .int .i64 (-(p : Int))] w fun e w' => e = .returned (.int .u32 (Ob.rot x p : Nat)) ∧ w = w' := by
  obtain ⟨s, hs⟩ : ∃ s, Hid (32 - p = s) := ⟨_, rfl⟩
  have h1 : bits .and .u64 (IntKind.u64.wrap (-(p : Int))) 31 = (s : Int) := by rw [← hs.out]; exact left_num ⟨p, hp⟩ hp0
  have hs1 : 32 - s = p := by have := hs.out; omega
  have hs2 : 0 < s := by have := hs.out; omega
  have hs3 : s < 32 := by have := hs.out; omega
  have h4 : IntKind.u64.wrap (32 - (s : Int)) = ((32 - s : Nat) : Int) := by rw [IntKind.wrap_u64]; omega
  have h5 : bits .or .u32 ((x : Int) * 2 ^ s % 4294967296) ((x : Int) / 2 ^ p) = ((Ob.rot x p : Nat) : Int) := by
    rw [← rollL_num x p hx (by omega), hs.out]
    simp
  go_enter Tryd.func82, Tryd.ntmps82
  have g0 : (0 : Int) ≤ (s : Int) := by omega
  have g1 : ¬ (s : Int) < 0 := by omega
  have g2 : (s : Int) ≤ 32 := by omega
  have g3 : ¬ (32 : Int) < (s : Int) := by omega
  go_wp2
  go_ret
  exact ⟨rfl, rfl⟩

set_option maxHeartbeats 1000000 in
theorem half_core (a b c d x p q A B C D y s t : Nat) (w : World)
    (h1 : IntKind.u32.wrap ((b : Int) + (x : Int)) = (y : Int)) (h2 : IntKind.u32.wrap ((a : Int) + (y : Int)) = (A : Int))
    (h3 : bits .xor .u32 (d : Int) (A : Int) = (s : Int)) (h4 : IntKind.u32.wrap ((c : Int) + (D : Int)) = (C : Int)) (h5 : bits .xor .u32 (b : Int) (C : Int) = (t : Int))
    (p1 : IntKind.i64.wrap (-(p : Int)) = -(p : Int)) (q1 : IntKind.i64.wrap (-(q : Int)) = -(q : Int))
    (c1 : ∀ w, Calls Tryd.prog 82 #[.int .u32 s, .int .i64 (-(p : Int))] w fun e w' => e = .returned (.int .u32 D) ∧ w = w')
    (c2 : ∀ w, Calls Tryd.prog 82 #[.int .u32 t, .int .i64 (-(q : Int))] w fun e w' => e = .returned (.int .u32 B) ∧ w = w') :
    Calls Tryd.prog 80 #[.int .u32 a, .int .u32 b, .int .u32 c, .int .u32 d, .int .u32 x, .int .i64 p, .int .i64 q] w fun e w' => e = .returned (.tuple #[.int .u32 A, .int .u32 B, .int .u32 C, .int .u32 D]) ∧ w = w' := by
  go_enter Tryd.func80, Tryd.ntmps80
  go_wp2_with (first | (go_at_call 82; first | (with_reducible refine (c1 _).mono ?_; rintro e w' ⟨rfl, rfl⟩) | (with_reducible refine (c2 _).mono ?_; rintro e w' ⟨rfl, rfl⟩)))
  exact bodyPost_ret (v := .tuple #[.int .u32 A, .int .u32 B, .int .u32 C, .int .u32 D]) (by simp [results, Tryd.results80, go_sem]) rfl ⟨rfl, rfl⟩
theorem halfW (a b c d x p q A B C D : Nat) (ha : a < 4294967296) (hb : b < 4294967296) (hc : c < 4294967296) (hd : d < 4294967296) (hx : x < 4294967296) (hp0 : 0 < p) (hp : p < 32) (hq0 : 0 < q) (hq : q < 32)
    (hA : Ob.s32 a (Ob.s32 b x) = A) (hD : Ob.rot (d ^^^ A) p = D) (hC : Ob.s32 c D = C) (hB : Ob.rot (b ^^^ C) q = B) (w : World) :
    Calls Tryd.prog 80 #[.int .u32 a, .int .u32 b, .int .u32 c, .int .u32 d, .int .u32 x, .int .i64 p, .int .i64 q] w fun e w' => e = .returned (.tuple #[.int .u32 A, .int .u32 B, .int .u32 C, .int .u32 D]) ∧ w = w' := by
  have lA : A < 4294967296 := by rw [← hA]; exact Ob.s32_lt _ _
  have lC : C < 4294967296 := by rw [← hC]; exact Ob.s32_lt _ _
  refine half_core a b c d x p q A B C D (Ob.s32 b x) (d ^^^ A) (b ^^^ C) w ?_ ?_ (xor_u32 _ _ hd lA) ?_ (xor_u32 _ _ hb lC) ?_ ?_ ?_ ?_
  · rw [IntKind.wrap_u32]; unfold Ob.s32; omega
  · rw [← hA, IntKind.wrap_u32]; unfold Ob.s32; omega
  · rw [← hC, IntKind.wrap_u32]; unfold Ob.s32; omega
  · rw [IntKind.wrap_i64]; omega
  · rw [IntKind.wrap_i64]; omega
  · rw [← hD]; exact rotW _ p (Ob.xor_lt hd lA) hp0 hp
  · rw [← hB]; exact rotW _ q (Ob.xor_lt hb lC) hq0 hq
end Go.Proofs.YtkekomiaiaacaaaDoor

namespace Go.Proofs.YtkekomiaiaacaaaDoor
open Go.RowKit Go.Proofs

/-- The tables lie as the program lays them. -/
structure Tabs (w : World) : Prop where
  lt : 5 ≤ w.heap.size
  first : Rd w .u32 0 8 Ob.first
  rows : ∀ i j, i < 10 → j < 16 → w.cell? ⟨4, i * 16 + j, none⟩ = some (.int .u8 (Ob.sig i j : Nat))
  places : ∀ i j, i < 8 → j < 4 → w.cell? ⟨3, i * 4 + j, none⟩ = some (.int .u8 (Ob.plc i j : Nat))
theorem Tabs.below {w w1 : World} {B : Nat} (t : Tabs w) (hb : Below B w w1) (h : 5 ≤ B) : Tabs w1 :=
  ⟨Nat.le_trans t.lt hb.size, t.first.below hb (by omega), fun i j hi hj => by rw [(bcell hb).1 _ _ (by omega)]; exact t.rows i j hi hj, fun i j hi hj => by rw [(bcell hb).1 _ _ (by omega)]; exact t.places i j hi hj⟩

end Go.Proofs.YtkekomiaiaacaaaDoor
