/-
  The exported sums, differences, products and powers of package modular.
-/
import Derived.Test.YtoigpjaffggekabDoorModW
import Derived.Deep.RegionWith
import Derived.Test.YtoigpjaffggekabDoorSpec
namespace Go.Proofs.YtoigpjaffggekabDoor
open Go.RowKit Go.Proofs
set_option linter.unusedVariables false

theorem add_any (m a b : Nat) (w : World) (hm : m < 18446744073709551616) (ha : a < 18446744073709551616) (hb : b < 18446744073709551616) :
    Calls Tryd.prog 36 #[.int .u64 m, .int .u64 a, .int .u64 b] w fun e w' => e = .returned (.int .u64 (Ob.add m a b : Nat)) ∧ w = w' := by
  by_cases h : Ob.Mod m
  · obtain ⟨h1, h2⟩ := h
    have la : a % m < m := Nat.mod_lt _ (by omega)
    have lb : b % m < m := Nat.mod_lt _ (by omega)
    have e : Hid (Ob.add m a b = (a % m + b % m) % m) := by rw [Ob.add_yes ⟨h1, h2⟩, Nat.add_mod]; rfl
    go_enter Tryd.func36, Tryd.ntmps36
    go_wp2_with (first | (go_at_call 43; refine (isModulus_yes m _ h1 h2).mono ?_; rintro e w' ⟨rfl, rfl⟩) | (go_at_call 40; refine (rest_any m _ _ (by omega) (by assumption)).mono ?_; rintro e w' ⟨rfl, rfl⟩) | (go_at_call 45; refine (addRests_any m (a % m) (b % m) _ h2 (by omega) (by omega) (by omega)).mono ?_; rintro e w' ⟨rfl, rfl⟩))
    go_ret
    exact ⟨ret_int (by rw [e.out]; simp), rfl⟩
  · have e : Hid (Ob.add m a b = 0) := Ob.add_no h
    have h' : m < 2 ∨ 4611686018427387904 < m := Ob.not_mod h
    clear h
    go_enter Tryd.func36, Tryd.ntmps36
    go_wp2_with (go_at_call 43; refine (isModulus_no m _ h').mono ?_; rintro e w' ⟨rfl, rfl⟩)
    go_ret
    exact ⟨ret_int (by rw [e.out]; rfl), rfl⟩

theorem sub_any (m a b : Nat) (w : World) (hm : m < 18446744073709551616) (ha : a < 18446744073709551616) (hb : b < 18446744073709551616) :
    Calls Tryd.prog 35 #[.int .u64 m, .int .u64 a, .int .u64 b] w fun e w' => e = .returned (.int .u64 (Ob.sub m a b : Nat)) ∧ w = w' := by
  by_cases h : Ob.Mod m
  · obtain ⟨h1, h2⟩ := h
    have la : a % m < m := Nat.mod_lt _ (by omega)
    have lb : b % m < m := Nat.mod_lt _ (by omega)
    obtain ⟨r, hr, hrl⟩ : ∃ r : Nat, Hid (r = b % m) ∧ r < m := ⟨b % m, rfl, lb⟩
    obtain ⟨d, hd, hdl⟩ : ∃ d : Nat, (m : Int) - (r : Int) = (d : Int) ∧ d + r = m := ⟨m - r, by omega, by omega⟩
    have e : Hid (Ob.sub m a b = (a % m + d) % m) := by
      have h3 := hr.out
      have h4 : m - b % m = d := by omega
      rw [Ob.sub_yes ⟨h1, h2⟩, h4]; rfl
    have hrest := fun w => rest_any m b w (by omega) hb
    rw [← hr.out] at hrest
    clear hr lb
    go_enter Tryd.func35, Tryd.ntmps35
    go_wp2_with (first | (go_at_call 43; refine (isModulus_yes m _ h1 h2).mono ?_; rintro e w' ⟨rfl, rfl⟩) | (go_at_call_of 40 (b : Int); refine (hrest _).mono ?_; rintro e w' ⟨rfl, rfl⟩) | (go_at_call 40; refine (rest_any m a _ (by omega) (by assumption)).mono ?_; rintro e w' ⟨rfl, rfl⟩) | (go_at_call 45; refine (addRests_any m (a % m) d _ h2 (by omega) (by omega) (by omega)).mono ?_; rintro e w' ⟨rfl, rfl⟩))
    go_ret
    exact ⟨ret_int (by rw [e.out]; simp), rfl⟩
  · have e : Hid (Ob.sub m a b = 0) := Ob.sub_no h
    have h' : m < 2 ∨ 4611686018427387904 < m := Ob.not_mod h
    clear h
    go_enter Tryd.func35, Tryd.ntmps35
    go_wp2_with (go_at_call 43; refine (isModulus_no m _ h').mono ?_; rintro e w' ⟨rfl, rfl⟩)
    go_ret
    exact ⟨ret_int (by rw [e.out]; rfl), rfl⟩

theorem mul_any (m a b : Nat) (w : World) (hm : m < 18446744073709551616) (ha : a < 18446744073709551616) (hb : b < 18446744073709551616) :
    Calls Tryd.prog 34 #[.int .u64 m, .int .u64 a, .int .u64 b] w fun e w' => e = .returned (.int .u64 (Ob.mul m a b : Nat)) ∧ ∃ n, w' = w.drewN n := by
  by_cases h : Ob.Mod m
  · obtain ⟨h1, h2⟩ := h
    have la : a % m < m := Nat.mod_lt _ (by omega)
    have lb : b % m < m := Nat.mod_lt _ (by omega)
    have e : Hid (Ob.mul m a b = a % m * (b % m) % m) := by rw [Ob.mul_yes ⟨h1, h2⟩, Nat.mul_mod]; rfl
    go_enter Tryd.func34, Tryd.ntmps34
    go_wp2_with (first | (go_at_call 43; refine (isModulus_yes m _ h1 h2).mono ?_; rintro e w' ⟨rfl, rfl⟩) | (go_at_call 40; refine (rest_any m _ _ (by omega) (by assumption)).mono ?_; rintro e w' ⟨rfl, rfl⟩) | (go_at_call 44; refine (mulRests_any m (a % m) (b % m) _ hm la lb).mono ?_; rintro e w' ⟨rfl, n, rfl⟩))
    go_ret
    exact ⟨ret_int (by rw [e.out]; simp), _, rfl⟩
  · have e : Hid (Ob.mul m a b = 0) := Ob.mul_no h
    have h' : m < 2 ∨ 4611686018427387904 < m := Ob.not_mod h
    clear h
    go_enter Tryd.func34, Tryd.ntmps34
    go_wp2_with (go_at_call 43; refine (isModulus_no m _ h').mono ?_; rintro e w' ⟨rfl, rfl⟩)
    go_ret
    exact ⟨ret_int (by rw [e.out]; rfl), 0, rfl⟩

end Go.Proofs.YtoigpjaffggekabDoor
