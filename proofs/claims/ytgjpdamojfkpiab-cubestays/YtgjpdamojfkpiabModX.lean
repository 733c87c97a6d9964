/-
  The exported sums, differences, products and powers of package modular.
-/
import Derived.Test.YtgjpdamojfkpiabModW
import Derived.Deep.RegionWith
import Derived.Test.YtgjpdamojfkpiabSpec
namespace Go.Proofs.Ytgjpdamojfkpiab
open Go.RowKit Go.Proofs
set_option linter.unusedVariables false

theorem add_any (m a b : Nat) (w : World) (hm : m < 18446744073709551616) (ha : a < 18446744073709551616) (hb : b < 18446744073709551616) :
    Calls Try.prog 22 #[.int .u64 m, .int .u64 a, .int .u64 b] w fun e w' => e = .returned (.int .u64 (Ob.add m a b : Nat)) ∧ w = w' := by
  by_cases h : Ob.Mod m
  · obtain ⟨h1, h2⟩ := h
    have la : a % m < m := Nat.mod_lt _ (by omega)
    have lb : b % m < m := Nat.mod_lt _ (by omega)
    have e : Hid (Ob.add m a b = (a % m + b % m) % m) := by rw [Ob.add_yes ⟨h1, h2⟩, Nat.add_mod]; rfl
    go_enter Try.func22, Try.ntmps22
    go_wp2_with (first | (go_at_call 18; refine (isModulus_yes m _ h1 h2).mono ?_; rintro e w' ⟨rfl, rfl⟩) | (go_at_call 20; refine (rest_any m _ _ (by omega) (by assumption)).mono ?_; rintro e w' ⟨rfl, rfl⟩) | (go_at_call 19; refine (addRests_any m (a % m) (b % m) _ h2 (by omega) (by omega) (by omega)).mono ?_; rintro e w' ⟨rfl, rfl⟩))
    go_ret
    exact ⟨ret_int (by rw [e.out]; simp), rfl⟩
  · have e : Hid (Ob.add m a b = 0) := Ob.add_no h
    have h' : m < 2 ∨ 4611686018427387904 < m := Ob.not_mod h
    clear h
    go_enter Try.func22, Try.ntmps22
    go_wp2_with (go_at_call 18; refine (isModulus_no m _ h').mono ?_; rintro e w' ⟨rfl, rfl⟩)
    go_ret
    exact ⟨ret_int (by rw [e.out]; rfl), rfl⟩

theorem sub_any (m a b : Nat) (w : World) (hm : m < 18446744073709551616) (ha : a < 18446744073709551616) (hb : b < 18446744073709551616) :
    Calls Try.prog 12 #[.int .u64 m, .int .u64 a, .int .u64 b] w fun e w' => e = .returned (.int .u64 (Ob.sub m a b : Nat)) ∧ w = w' := by
  by_cases h : Ob.Mod m
  · obtain ⟨h1, h2⟩ := h
    have la : a % m < m := Nat.mod_lt _ (by omega)
    have lb : b % m < m := Nat.mod_lt _ (by omega)
    obtain ⟨r, hr, hrl⟩ : ∃ r : Nat, Hid (r = b % m) ∧ r < m := ⟨b % m, rfl, lb⟩
    obtain ⟨d, hd, hdl⟩ : ∃ d : Nat, (m : Int) - (r : Int) = (d : Int) ∧ d + r = m := ⟨m - r, by omega, by omega⟩
    have e : Hid (Ob.sub m a b = (a % m + d) % m) := by
      have h3 := hr.out
      have h4 : m - b % m = d := by omega
      rw [Ob.sub_yes ⟨h1, h2⟩, h4]; rfl
    have hrest := fun w => rest_any m b w (by omega) hb
    rw [← hr.out] at hrest
    clear hr lb
    go_enter Try.func12, Try.ntmps12
    go_wp2_with (first | (go_at_call 18; refine (isModulus_yes m _ h1 h2).mono ?_; rintro e w' ⟨rfl, rfl⟩) | (go_at_call_of 20 (b : Int); refine (hrest _).mono ?_; rintro e w' ⟨rfl, rfl⟩) | (go_at_call 20; refine (rest_any m a _ (by omega) (by assumption)).mono ?_; rintro e w' ⟨rfl, rfl⟩) | (go_at_call 19; refine (addRests_any m (a % m) d _ h2 (by omega) (by omega) (by omega)).mono ?_; rintro e w' ⟨rfl, rfl⟩))
    go_ret
    exact ⟨ret_int (by rw [e.out]; simp), rfl⟩
  · have e : Hid (Ob.sub m a b = 0) := Ob.sub_no h
    have h' : m < 2 ∨ 4611686018427387904 < m := Ob.not_mod h
    clear h
    go_enter Try.func12, Try.ntmps12
    go_wp2_with (go_at_call 18; refine (isModulus_no m _ h').mono ?_; rintro e w' ⟨rfl, rfl⟩)
    go_ret
    exact ⟨ret_int (by rw [e.out]; rfl), rfl⟩

theorem pow_any (m a x : Nat) (w : World) (hm : m < 18446744073709551616) (ha : a < 18446744073709551616) (hx : x < 18446744073709551616) :
    Calls Try.prog 13 #[.int .u64 m, .int .u64 a, .int .u64 x] w fun e w' => e = .returned (.int .u64 (Ob.pow m a x : Nat)) ∧ ∃ n, w' = w.drewN n := by
  by_cases h : Ob.Mod m
  · obtain ⟨h1, h2⟩ := h
    have la : a % m < m := Nat.mod_lt _ (by omega)
    have e : Hid (Ob.pow m a x = (a % m) ^ x % m) := by rw [Ob.pow_yes ⟨h1, h2⟩, Nat.pow_mod]; rfl
    go_enter Try.func13, Try.ntmps13
    go_wp2_with (first | (go_at_call 18; refine (isModulus_yes m _ h1 h2).mono ?_; rintro e w' ⟨rfl, rfl⟩) | (go_at_call 20; refine (rest_any m _ _ (by omega) (by assumption)).mono ?_; rintro e w' ⟨rfl, rfl⟩) | (go_at_call 21; refine (powRest_any m (a % m) x _ h1 h2 la hx).mono ?_; rintro e w' ⟨rfl, n, rfl⟩))
    go_ret
    exact ⟨ret_int (by rw [e.out]; simp), _, rfl⟩
  · have e : Hid (Ob.pow m a x = 0) := Ob.pow_no h
    have h' : m < 2 ∨ 4611686018427387904 < m := Ob.not_mod h
    clear h
    go_enter Try.func13, Try.ntmps13
    go_wp2_with (go_at_call 18; refine (isModulus_no m _ h').mono ?_; rintro e w' ⟨rfl, rfl⟩)
    go_ret
    exact ⟨ret_int (by rw [e.out]; rfl), 0, rfl⟩
end Go.Proofs.Ytgjpdamojfkpiab
