/-
  The walks of modular.euclid and modular.Inv.
-/
import Derived.Test.YtoigpjaffggekabDoorModX
import Derived.Test.YtoigpjaffggekabDoorEuclid
import Derived.LoopTactic
namespace Go.Proofs.YtoigpjaffggekabDoor
open Go.RowKit Go.Proofs
set_option linter.unusedVariables false

theorem w64_in (n : Int) (h1 : -9223372036854775808 ≤ n) (h2 : n ≤ 9223372036854775807) : wrap64 n = n := IntWalk.wrap64_in n ⟨h1, h2⟩

theorem ret_two {k l : IntKind} {a b c d : Int} (h : a = b) (h' : c = d) : Ending.returned (.tuple #[.int k a, .int l c]) = .returned (.tuple #[.int k b, .int l d]) := by rw [h, h']

set_option maxHeartbeats 400000 in
theorem euclid_any (m a : Nat) (w : World) (hm : m ≤ 4611686018427387904) (ha : a < m) :
    Calls Tryd.prog 46 #[.int .u64 m, .int .u64 a] w fun e w' => ∃ X : Nat, e = .returned (.tuple #[.int .u64 ((Nat.gcd m a : Nat) : Int), .int .u64 X]) ∧ X ≤ m ∧ (Nat.gcd m a = 1 → X < m ∧ X * a % m = 1 % m) ∧ w = w' := by
  have hstart : Hid (Ob.Euc m a m a 0 1) := Ob.Euc.start ha
  go_enter Tryd.func46, Tryd.ntmps46
  go_wp2
  go_loop [6, 7, 8, 9, 10] (fun sr sn sx sy _ => ∃ (r n : Nat) (x y : Int), r ≤ m ∧ n < r ∧ -(m : Int) ≤ x ∧ x ≤ (m : Int) ∧ -(m : Int) ≤ y ∧ y ≤ (m : Int) ∧ sr = .int .i64 r ∧ sn = .int .i64 n ∧ sx = .int .i64 x ∧ sy = .int .i64 y ∧ Hid (Ob.Euc m a r n x y)) (fun _ sn _ _ _ => (intOf sn).toNat)
  case atStart => exact ⟨m, a, 0, 1, by omega, ha, by omega, by omega, by omega, by omega, rfl, rfl, rfl, rfl, hstart⟩
  case round =>
    obtain ⟨r, n, x, y, hr, hn, hx1, hx2, hy1, hy2, rfl, rfl, rfl, rfl, hE⟩ := hrel
    clear hstart
    by_cases h0 : n = 0
    · subst h0
      have hg := hE.out.last
      have hsm := hE.out.small
      by_cases hx0 : x < 0
      · have hinv : Hid (Nat.gcd m a = 1 → (x + m).toNat < m ∧ (x + m).toNat * a % m = 1 % m) := fun h => by
          have h1 : r = 1 := by omega
          have h2 := hE.out
          rw [h1] at h2
          exact h2.inverse (x + m).toNat (by rw [if_pos hx0]; omega)
        clear hE
        have hHg : Hid (r = Nat.gcd m a) := hg
        clear hg
        go_wp2
        go_ret2
        exact ⟨(x + m).toNat, by rw [← hHg.out]; exact ret_two rfl (by omega), by omega, hinv, rfl⟩
      · have hinv : Hid (Nat.gcd m a = 1 → x.toNat < m ∧ x.toNat * a % m = 1 % m) := fun h => by
          have h1 : r = 1 := by omega
          have h2 := hE.out
          rw [h1] at h2
          exact h2.inverse x.toNat (by rw [if_neg hx0]; omega)
        clear hE
        have hHg : Hid (r = Nat.gcd m a) := hg
        clear hg
        go_wp2
        go_ret2
        exact ⟨x.toNat, by rw [← hHg.out]; exact ret_two rfl (by omega), by omega, hinv, rfl⟩
    · obtain ⟨q, d, hq, hd, hqd⟩ : ∃ q d : Nat, (r : Int) / (n : Int) = (q : Int) ∧ d < n ∧ Hid (q = r / n ∧ d = r % n) := ⟨r / n, r % n, (Int.natCast_ediv r n).symm, Nat.mod_lt _ (by omega), ⟨rfl, rfl⟩⟩
      have hN : Hid (Ob.Euc m a n d y (x - q * y)) := by
        have := hE.out.step (by omega)
        rw [← hqd.out.1, ← hqd.out.2] at this
        exact this
      obtain ⟨z, hz, hzr⟩ : ∃ z : Nat, (q : Int) * (n : Int) = (z : Int) ∧ z + d = r := ⟨q * n, (Int.natCast_mul q n).symm, by rw [hqd.out.1, hqd.out.2]; exact Nat.div_add_mod' r n⟩
      have hb := hN.out.bounds
      have hqr : q ≤ r := by rw [hqd.out.1]; exact Nat.div_le_self _ _
      obtain ⟨t, ht⟩ : ∃ t : Int, (q : Int) * y = t := ⟨_, rfl⟩
      have hsg : (t ≤ 0 ∧ 0 ≤ x) ∨ (0 ≤ t ∧ x ≤ 0) := by
        rcases hE.out.signs with ⟨h1, h2⟩ | ⟨h1, h2⟩
        · exact Or.inl ⟨by rw [← ht]; exact Int.mul_nonpos_of_nonneg_of_nonpos (by omega) h2, h1⟩
        · exact Or.inr ⟨by rw [← ht]; exact Int.mul_nonneg (by omega) h2, h1⟩
      rw [ht] at hN hb
      have ht1 : x - t ≤ (m : Int) := by omega
      have ht2 : -(m : Int) ≤ x - t := by omega
      have ht3 : t ≤ (m : Int) := by omega
      have ht4 : -(m : Int) ≤ t := by omega
      clear hsg
      have h0i : ((n : Int) != 0) = true := by simp; omega
      clear hb hE hqd h0
      go_wp2
      go_round
      case rel => exact ⟨n, d, y, x - t, by omega, hd, hy1, hy2, ht2, ht1, rfl, val_int (by omega), rfl, rfl, hN⟩
      case measure => simp [intOf]; omega

theorem gcd_mod_left (m a : Nat) : Nat.gcd m (a % m) = Nat.gcd m a := by rw [Nat.gcd_comm, ← Nat.gcd_rec]

set_option maxHeartbeats 400000 in
theorem inv_arg (m a : Nat) (w : World) (h : ¬ Ob.Mod m) :
    Calls Tryd.prog 37 #[.int .u64 m, .int .u64 a] w fun e w' => e = .returned (.tuple #[.int .u64 0, .iface 49 (.int .i64 1)]) ∧ w = w' := by
  have h' : m < 2 ∨ 4611686018427387904 < m := Ob.not_mod h
  clear h
  go_enter Tryd.func37, Tryd.ntmps37
  go_wp2_with (go_at_call 43; refine (isModulus_no m _ h').mono ?_; rintro e w' ⟨rfl, rfl⟩)
  go_ret2
  exact ⟨rfl, rfl⟩

set_option maxHeartbeats 400000 in
theorem inv_some_core (m a X r : Nat) (w : World) (h1 : 2 ≤ m) (h2 : m ≤ 4611686018427387904)
    (hrest : ∀ w, Calls Tryd.prog 40 #[.int .u64 m, .int .u64 a] w fun e w' => e = .returned (.int .u64 r) ∧ w = w')
    (heuc : ∀ w, Calls Tryd.prog 46 #[.int .u64 m, .int .u64 r] w fun e w' => e = .returned (.tuple #[.int .u64 1, .int .u64 X]) ∧ w = w') :
    Calls Tryd.prog 37 #[.int .u64 m, .int .u64 a] w fun e w' => e = .returned (.tuple #[.int .u64 X, .nilIface]) ∧ w = w' := by
  go_enter Tryd.func37, Tryd.ntmps37
  go_wp2_with (first | (go_at_call 43; refine (isModulus_yes m _ h1 h2).mono ?_; rintro e w' ⟨rfl, rfl⟩) | (go_at_call 40; refine (hrest _).mono ?_; rintro e w' ⟨rfl, rfl⟩) | (go_at_call 46; refine (heuc _).mono ?_; rintro e w' ⟨rfl, rfl⟩))
  go_ret2
  exact ⟨rfl, rfl⟩

set_option maxHeartbeats 400000 in
theorem inv_none_core (m a g r : Nat) (w : World) (h1 : 2 ≤ m) (h2 : m ≤ 4611686018427387904) (hg : ((g : Int) != 1) = true)
    (hrest : ∀ w, Calls Tryd.prog 40 #[.int .u64 m, .int .u64 a] w fun e w' => e = .returned (.int .u64 r) ∧ w = w')
    (heuc : ∀ w, Calls Tryd.prog 46 #[.int .u64 m, .int .u64 r] w fun e w' => ∃ X : Nat, e = .returned (.tuple #[.int .u64 g, .int .u64 X]) ∧ w = w') :
    Calls Tryd.prog 37 #[.int .u64 m, .int .u64 a] w fun e w' => e = .returned (.tuple #[.int .u64 0, .iface 49 (.int .i64 2)]) ∧ w = w' := by
  go_enter Tryd.func37, Tryd.ntmps37
  go_wp2_with (first | (go_at_call 43; refine (isModulus_yes m _ h1 h2).mono ?_; rintro e w' ⟨rfl, rfl⟩) | (go_at_call 40; refine (hrest _).mono ?_; rintro e w' ⟨rfl, rfl⟩) | (go_at_call 46; refine (heuc _).mono ?_; rintro e w' ⟨X, rfl, rfl⟩))
  go_ret2
  exact ⟨rfl, rfl⟩

/-- Inv where there is one. -/
theorem inv_some (m a : Nat) (w : World) (h : Ob.Mod m) (ha : a < 18446744073709551616) (hg : Nat.gcd m a = 1) :
    Calls Tryd.prog 37 #[.int .u64 m, .int .u64 a] w fun e w' => e = .returned (.tuple #[.int .u64 (Ob.inv m a : Nat), .nilIface]) ∧ w = w' := by
  have hl : a % m < m := Nat.mod_lt _ (by have := h.1; omega)
  refine inv_some_core m a (Ob.inv m a) (a % m) w h.1 h.2 (fun w => rest_any m a w (by have := h.1; omega) ha) (fun w => (euclid_any m (a % m) w h.2 hl).mono fun e w' ⟨X, he, _, hX, hw⟩ => ⟨?_, hw⟩)
  rw [gcd_mod_left, hg] at he hX
  obtain ⟨hX1, hX2⟩ := hX rfl
  rw [Ob.mul_mod_right] at hX2
  rw [he, Ob.inv_eq hX1 hX2]
  rfl

/-- Inv where there is none. -/
theorem inv_none (m a : Nat) (w : World) (h : Ob.Mod m) (ha : a < 18446744073709551616) (hg : Nat.gcd m a ≠ 1) :
    Calls Tryd.prog 37 #[.int .u64 m, .int .u64 a] w fun e w' => e = .returned (.tuple #[.int .u64 0, .iface 49 (.int .i64 2)]) ∧ w = w' := by
  have hl : a % m < m := Nat.mod_lt _ (by have := h.1; omega)
  exact inv_none_core m a (Nat.gcd m (a % m)) (a % m) w h.1 h.2 (by rw [gcd_mod_left]; simp; omega) (fun w => rest_any m a w (by have := h.1; omega) ha) (fun w => (euclid_any m (a % m) w h.2 hl).mono fun e w' ⟨X, he, _, hX, hw⟩ => ⟨X, he, hw⟩)
end Go.Proofs.YtoigpjaffggekabDoor
