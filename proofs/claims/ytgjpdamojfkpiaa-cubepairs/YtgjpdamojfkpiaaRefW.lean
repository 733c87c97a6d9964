/-
  The walks of the document's own answers for layer 1 (package obolref01).
-/
import Derived.Test.YtgjpdamojfkpiaaInvW
namespace Go.Proofs.Ytgjpdamojfkpiaa
open Go.RowKit Go.Proofs
set_option linter.unusedVariables false

theorem add_rests (m x y : Nat) (hx : x < m) (hy : y < m) : (x + y) % m = if m - y ≤ x then x - (m - y) else x + y := by
  split
  · rw [Nat.mod_eq_sub_mod (by omega), Nat.mod_eq_of_lt (by omega)]; omega
  · rw [Nat.mod_eq_of_lt (by omega)]

set_option maxHeartbeats 400000 in
theorem radd_any (m a b : Nat) (w : World) (h : Ob.Mod m) (ha : a < 18446744073709551616) (hb : b < 18446744073709551616) :
    Calls Try.prog 34 #[.int .u64 m, .int .u64 a, .int .u64 b] w fun e w' => e = .returned (.int .u64 (Ob.add m a b : Nat)) ∧ w = w' := by
  obtain ⟨x, ex, hx⟩ : ∃ x : Nat, (a : Int) % (m : Int) = (x : Int) ∧ Hid (x = a % m) := ⟨a % m, by simp, rfl⟩
  obtain ⟨y, ey, hy⟩ : ∃ y : Nat, (b : Int) % (m : Int) = (y : Int) ∧ Hid (y = b % m) := ⟨b % m, by simp, rfl⟩
  have h1 := h.1
  have h2 := h.2
  have lx : x < m := by rw [hx.out]; exact Nat.mod_lt _ (by omega)
  have ly : y < m := by rw [hy.out]; exact Nat.mod_lt _ (by omega)
  have he : Hid (Ob.add m a b = if m - y ≤ x then x - (m - y) else x + y) := by
    show Ob.add m a b = if m - y ≤ x then x - (m - y) else x + y
    rw [Ob.add_yes h, ← add_rests m x y lx ly, hx.out, hy.out, ← Nat.add_mod]
  clear hx hy h
  by_cases hc : m ≤ x + y
  · have hn : Hid (Ob.add m a b = x - (m - y)) := by rw [he.out, if_pos (by omega)]; rfl
    clear he
    go_enter Try.func34, Try.ntmps34
    go_wp2
    go_ret
    exact ⟨ret_int (by rw [hn.out]; omega), rfl⟩
  · have hn : Hid (Ob.add m a b = x + y) := by rw [he.out, if_neg (by omega)]; rfl
    clear he
    go_enter Try.func34, Try.ntmps34
    go_wp2
    go_ret
    exact ⟨ret_int (by rw [hn.out]; omega), rfl⟩

/-- One round of the product by doubling. -/
theorem mul_round (m x y o k : Nat) (hm : 0 < m) (hx : x < m) (ho : o = x * (y / 2 ^ (k + 1)) % m) (b : Nat) (hb : b = y / 2 ^ k % 2) :
    x * (y / 2 ^ k) % m = ((o + o) % m + x * b) % m := by rw [Ob.mul_bit, ← ho, ← hb]

set_option maxHeartbeats 1000000 in
theorem rmul_any (m a b : Nat) (w : World) (h : Ob.Mod m) (ha : a < 18446744073709551616) (hb : b < 18446744073709551616) :
    Calls Try.prog 29 #[.int .u64 m, .int .u64 a, .int .u64 b] w fun e w' => e = .returned (.int .u64 (Ob.mul m a b : Nat)) ∧ w = w' := by
  obtain ⟨x, ex, hx⟩ : ∃ x : Nat, (a : Int) % (m : Int) = (x : Int) ∧ Hid (x = a % m) := ⟨a % m, by simp, rfl⟩
  obtain ⟨y, ey, hy⟩ : ∃ y : Nat, (b : Int) % (m : Int) = (y : Int) ∧ Hid (y = b % m) := ⟨b % m, by simp, rfl⟩
  have h1 := h.1
  have h2 := h.2
  have lx : x < m := by rw [hx.out]; exact Nat.mod_lt _ (by omega)
  have ly : y < m := by rw [hy.out]; exact Nat.mod_lt _ (by omega)
  have hlast : Hid (x * y % m = Ob.mul m a b) := by
    show x * y % m = Ob.mul m a b
    rw [Ob.mul_yes h, hx.out, hy.out, ← Nat.mul_mod]
  clear hx hy h
  go_enter Try.func29, Try.ntmps29
  go_wp2
  go_loop [9, 10] (fun so si => ∃ o i : Nat, o < m ∧ i ≤ 64 ∧ so = .int .u64 o ∧ si = .int .i64 i ∧ Hid (o = x * (y / 2 ^ (64 - i)) % m)) (fun _ si => 64 - (intOf si).toNat)
  case atStart => exact ⟨0, 0, by omega, by omega, rfl, rfl, by
    have : y / 2 ^ (64 - 0) = 0 := Nat.div_eq_of_lt (by omega)
    show 0 = x * (y / 2 ^ (64 - 0)) % m
    rw [this, Nat.mul_zero, Nat.zero_mod]⟩
  case round =>
    obtain ⟨o, i, ho, hi, rfl, rfl, hI⟩ := hrel
    by_cases hlt : i < 64
    · obtain ⟨k, hk⟩ : ∃ k, k + i = 63 := ⟨63 - i, by omega⟩
      have hyk : y / 2 ^ k < 18446744073709551616 := Nat.lt_of_le_of_lt (Nat.div_le_self _ _) (by omega)
      obtain ⟨t, ht⟩ : ∃ t : Nat, (y : Int) / 2 ^ (63 - i) = (t : Int) ∧ Hid (t = y / 2 ^ k) := ⟨y / 2 ^ k, by
        have : 63 - i = k := by omega
        rw [this]
        simp, rfl⟩
      obtain ⟨ht, htk⟩ := ht
      have hand := and_one t (by rw [htk.out]; exact hyk)
      obtain ⟨d, hd, hdd⟩ : ∃ d : Nat, d < m ∧ Hid (d = (o + o) % m) := ⟨(o + o) % m, Nat.mod_lt _ (by omega), rfl⟩
      have hI2 : Hid (x * (y / 2 ^ k) % m = (d + x * (t % 2)) % m) := by
        have e1 : 64 - i = k + 1 := by omega
        have := hI.out
        rw [e1] at this
        show x * (y / 2 ^ k) % m = (d + x * (t % 2)) % m
        rw [mul_round m x y o k (by omega) lx this (t % 2) (by rw [htk.out]), hdd.out]
      clear hI
      have hdo : (m ≤ o + o ∧ (o : Int) - ((m : Int) - (o : Int)) = (d : Int)) ∨ (o + o < m ∧ (o : Int) + (o : Int) = (d : Int)) := by
        have := hdd.out
        rcases Nat.lt_or_ge (o + o) m with c | c
        · exact Or.inr ⟨c, by rw [Nat.mod_eq_of_lt c] at this; omega⟩
        · refine Or.inl ⟨c, ?_⟩
          rw [Nat.mod_eq_sub_mod c, Nat.mod_eq_of_lt (by omega)] at this
          omega
      clear hdd hyk htk
      have e2 : Hid (64 - (i + 1) = k) := by show 64 - (i + 1) = k; omega
      by_cases hbit : t % 2 = 1
      · have hb1 : ((t % 2 : Nat) : Int) = 1 := by omega
        rw [hb1] at hand
        clear hb1
        have hI3 : Hid (x * (y / 2 ^ k) % m = (d + x) % m) := by have := hI2.out; rw [hbit, Nat.mul_one] at this; exact this
        clear hI2 hbit
        by_cases hc : m ≤ d + x
        · have hn : Hid (d - (m - x) = x * (y / 2 ^ k) % m) := by
            show d - (m - x) = x * (y / 2 ^ k) % m
            rw [hI3.out, Nat.mod_eq_sub_mod hc, Nat.mod_eq_of_lt (by omega)]
            omega
          clear hI3
          rcases hdo with ⟨c1, c2⟩ | ⟨c1, c2⟩
          all_goals
            go_wp2
            go_round
            case rel => exact ⟨d - (m - x), i + 1, by omega, by omega, val_int (by omega), by go_num, by show d - (m - x) = _; rw [e2.out]; exact hn⟩
            case measure => simp [intOf]; omega
        · have hn : Hid (d + x = x * (y / 2 ^ k) % m) := by
            show d + x = x * (y / 2 ^ k) % m
            rw [hI3.out, Nat.mod_eq_of_lt (by omega)]
          clear hI3
          rcases hdo with ⟨c1, c2⟩ | ⟨c1, c2⟩
          all_goals
            go_wp2
            go_round
            case rel => exact ⟨d + x, i + 1, by omega, by omega, val_int (by omega), by go_num, by show d + x = _; rw [e2.out]; exact hn⟩
            case measure => simp [intOf]; omega
      · have hb1 : ((t % 2 : Nat) : Int) = 0 := by omega
        rw [hb1] at hand
        clear hb1
        have hn : Hid (d = x * (y / 2 ^ k) % m) := by
          have := hI2.out
          have hz : t % 2 = 0 := by omega
          rw [hz, Nat.mul_zero, Nat.add_zero, Nat.mod_eq_of_lt hd] at this
          exact this.symm
        clear hI2 hbit
        rcases hdo with ⟨c1, c2⟩ | ⟨c1, c2⟩
        all_goals
          go_wp2
          go_round
          case rel => exact ⟨d, i + 1, by omega, by omega, by first | rfl | exact val_int (by omega), by go_num, by show d = _; rw [e2.out]; exact hn⟩
          case measure => simp [intOf]; omega
    · have hn : Hid (o = Ob.mul m a b) := by
        have := hI.out
        have e : 64 - i = 0 := by omega
        rw [e, Nat.pow_zero, Nat.div_one, hlast.out] at this
        exact this
      clear hI hlast
      go_wp2
      go_ret
      exact ⟨ret_int (by rw [hn.out]), rfl⟩

set_option maxHeartbeats 1000000 in
theorem rpow_any (m a x : Nat) (w : World) (h : Ob.Mod m) (ha : a < 18446744073709551616) (hx : x < 18446744073709551616) :
    Calls Try.prog 28 #[.int .u64 m, .int .u64 a, .int .u64 x] w fun e w' => e = .returned (.int .u64 (Ob.pow m a x : Nat)) ∧ w = w' := by
  have h1 := h.1
  have h2 := h.2
  have e1 : (1 : Int) % (m : Int) = 1 := by rw [Int.emod_eq_of_lt (by omega) (by omega)]
  have hlast : Hid (a ^ x % m = Ob.pow m a x) := (Ob.pow_yes h).symm
  go_enter Try.func28, Try.ntmps28
  go_wp2
  go_loop [7, 8] (fun so si => ∃ o i : Nat, o < m ∧ i ≤ 64 ∧ so = .int .u64 o ∧ si = .int .i64 i ∧ Hid (o = a ^ (x / 2 ^ (64 - i)) % m)) (fun _ si => 64 - (intOf si).toNat)
  case atStart => exact ⟨1, 0, by omega, by omega, by first | rfl | simp [e1], rfl, by
    have : x / 2 ^ (64 - 0) = 0 := Nat.div_eq_of_lt (by omega)
    show 1 = a ^ (x / 2 ^ (64 - 0)) % m
    rw [this, Nat.pow_zero, Nat.mod_eq_of_lt (by omega)]⟩
  case round =>
    obtain ⟨o, i, ho, hi, rfl, rfl, hI⟩ := hrel
    clear e1
    by_cases hlt : i < 64
    · obtain ⟨k, hk⟩ : ∃ k, k + i = 63 := ⟨63 - i, by omega⟩
      have hyk : x / 2 ^ k < 18446744073709551616 := Nat.lt_of_le_of_lt (Nat.div_le_self _ _) (by omega)
      obtain ⟨t, ht⟩ : ∃ t : Nat, (x : Int) / 2 ^ (63 - i) = (t : Int) ∧ Hid (t = x / 2 ^ k) := ⟨x / 2 ^ k, by
        have : 63 - i = k := by omega
        rw [this]
        simp, rfl⟩
      obtain ⟨ht, htk⟩ := ht
      have hand := and_one t (by rw [htk.out]; exact hyk)
      obtain ⟨d, hd, hdd⟩ : ∃ d : Nat, d < m ∧ Hid (Ob.mul m o o = d) := ⟨_, Ob.mul_lt h, rfl⟩
      have hsq := fun w => rmul_any m o o w h (by omega) (by omega)
      rw [hdd.out] at hsq
      have hI2 : Hid (a ^ (x / 2 ^ k) % m = d * a ^ (t % 2) % m) := by
        have e1 : 64 - i = k + 1 := by omega
        have := hI.out
        rw [e1] at this
        show a ^ (x / 2 ^ k) % m = d * a ^ (t % 2) % m
        rw [Ob.pow_bit, ← this, ← hdd.out, Ob.mul_yes h, ← htk.out]
      clear hI hdd hyk htk
      have e2 : Hid (64 - (i + 1) = k) := by show 64 - (i + 1) = k; omega
      by_cases hbit : t % 2 = 1
      · have hb1 : ((t % 2 : Nat) : Int) = 1 := by omega
        rw [hb1] at hand
        clear hb1
        obtain ⟨z, hz, hzz⟩ : ∃ z : Nat, z < m ∧ Hid (Ob.mul m d a = z) := ⟨_, Ob.mul_lt h, rfl⟩
        have hml := fun w => rmul_any m d a w h (by omega) ha
        rw [hzz.out] at hml
        have hn : Hid (z = a ^ (x / 2 ^ k) % m) := by
          show z = a ^ (x / 2 ^ k) % m
          rw [hI2.out, hbit, Nat.pow_one, ← hzz.out, Ob.mul_yes h]
        clear hI2 hbit hzz
        go_wp2_with (first | (go_at_call_of 29 (o : Int); refine (hsq _).mono ?_; rintro e w' ⟨rfl, rfl⟩) | (go_at_call_of 29 (a : Int); refine (hml _).mono ?_; rintro e w' ⟨rfl, rfl⟩))
        go_round
        case rel => exact ⟨z, i + 1, by omega, by omega, rfl, by go_num, by show z = _; rw [e2.out]; exact hn⟩
        case measure => simp [intOf]; omega
      · have hb1 : ((t % 2 : Nat) : Int) = 0 := by omega
        rw [hb1] at hand
        clear hb1
        have hn : Hid (d = a ^ (x / 2 ^ k) % m) := by
          have := hI2.out
          have hz : t % 2 = 0 := by omega
          rw [hz, Nat.pow_zero, Nat.mul_one, Nat.mod_eq_of_lt hd] at this
          exact this.symm
        clear hI2 hbit
        go_wp2_with (go_at_call 29; refine (hsq _).mono ?_; rintro e w' ⟨rfl, rfl⟩)
        go_round
        case rel => exact ⟨d, i + 1, by omega, by omega, rfl, by go_num, by show d = _; rw [e2.out]; exact hn⟩
        case measure => simp [intOf]; omega
    · have hn : Hid (o = Ob.pow m a x) := by
        have := hI.out
        have e : 64 - i = 0 := by omega
        rw [e, Nat.pow_zero, Nat.div_one, hlast.out] at this
        exact this
      clear hI hlast
      go_wp2
      go_ret
      exact ⟨ret_int (by rw [hn.out]), rfl⟩

end Go.Proofs.Ytgjpdamojfkpiaa
