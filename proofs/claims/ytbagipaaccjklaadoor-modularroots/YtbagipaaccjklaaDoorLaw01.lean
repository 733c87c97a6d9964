/-
  The walks of the statements of layer 1.
-/
import Derived.Test.YtbagipaaccjklaaDoorUpW
import Derived.OpenShut
namespace Go.Proofs.YtbagipaaccjklaaDoor
open Go.RowKit Go.Proofs
set_option linter.unusedVariables false

theorem quiet_same {f : FuncId} {args : Array Value} {w : World} {n : Nat} {v : Value} (h : ∀ w, Calls Tryd.prog f args w fun e w' => e = .returned v ∧ w = w') :
    Calls Tryd.prog f args (w.drewN n) fun e w'' => e = .returned v ∧ ∃ m, w'' = w.drewN m := (h _).mono fun e w' ⟨he, hw⟩ => ⟨he, n, hw.symm⟩
theorem quiet_drew {f : FuncId} {args : Array Value} {w : World} {n : Nat} {v : Value} (h : ∀ w, Calls Tryd.prog f args w fun e w' => e = .returned v ∧ ∃ n, w' = w.drewN n) :
    Calls Tryd.prog f args (w.drewN n) fun e w'' => e = .returned v ∧ ∃ m, w'' = w.drewN m := (h _).mono fun e w' ⟨he, k, hw⟩ => ⟨he, n + k, by rw [hw, World.drewN_drewN]⟩

theorem up_hid (w : World) (hT : TabOk w) : Calls Tryd.prog 9 #[] w fun e w' => e = .returned (.bool true) ∧ Hid (∃ n, w' = w.drewN n) := up_any w hT
theorem drew_on {w w1 : World} (H : Hid (∃ n, w1 = w.drewN n)) (k : Nat) : ∃ n, w1.drewN k = w.drewN n := by
  obtain ⟨n, hn⟩ := H.out
  exact ⟨n + k, by rw [hn, World.drewN_drewN]⟩

theorem tab_on {w w1 : World} (H : Hid (∃ n, w1 = w.drewN n)) (hT : TabOk w) : TabOk w1 := by
  obtain ⟨n, hn⟩ := H.out
  rw [hn]
  exact hT.drew n

set_option maxHeartbeats 1000000 in
theorem adds_yes (m a b s d r : Nat) (w : World) (hT : TabOk w) (hM : Ob.Mod m) (hd : d < m) (hr : (a : Int) % (m : Int) = (r : Int))
    (c1 : ∀ w, Calls Tryd.prog 12 #[.int .u64 m, .int .u64 a, .int .u64 b] w fun e w' => e = .returned (.int .u64 d) ∧ w = w')
    (c2 : ∀ w, Calls Tryd.prog 11 #[.int .u64 m, .int .u64 a, .int .u64 b] w fun e w' => e = .returned (.int .u64 s) ∧ w = w')
    (c3 : ∀ w, Calls Tryd.prog 13 #[.int .u64 m, .int .u64 a, .int .u64 b] w fun e w' => e = .returned (.int .u64 s) ∧ w = w')
    (c4 : ∀ w, Calls Tryd.prog 13 #[.int .u64 m, .int .u64 d, .int .u64 b] w fun e w' => e = .returned (.int .u64 r) ∧ w = w') :
    Calls Tryd.prog 3 #[.int .u64 m, .int .u64 a, .int .u64 b] w fun e w' => e = .returned (.bool true) ∧ ∃ n, w' = w.drewN n := by
  have h1 := hM.1
  have c0 := fun w => is_yes m w hM
  clear hM
  go_enter Tryd.func3, Tryd.ntmps3
  go_wp2_with (first | (go_at_call 9; refine (up_hid _ hT).mono ?_; rintro e w1 ⟨rfl, H⟩) | (go_at_call 10; refine (c0 _).mono ?_; rintro e w' ⟨rfl, rfl⟩) | (go_at_call 12; refine (c1 _).mono ?_; rintro e w' ⟨rfl, rfl⟩))
  go_quiet ((first | (go_at_call 11; exact quiet_same c2) | (go_at_call_of 13 (d : Int); exact quiet_same c4) | (go_at_call 13; exact quiet_same c3)))
  go_wp2
  go_ret
  exact ⟨rfl, drew_on H _⟩

/-- A word of 64 bits, as a plain number. -/
theorem word_of {a : Int} (h : (Lit.int .u64 a).wf = true) : ∃ n : Nat, a = (n : Int) ∧ n < 18446744073709551616 := by
  have := bounds_u64 h
  exact ⟨a.toNat, by omega, by omega⟩

set_option maxHeartbeats 1000000 in
theorem adds_no (m a b : Nat) (w : World) (hT : TabOk w) (hM : ¬ Ob.Mod m)
    (c1 : ∀ w, Calls Tryd.prog 12 #[.int .u64 m, .int .u64 a, .int .u64 b] w fun e w' => e = .returned (.int .u64 0) ∧ w = w')
    (c2 : ∀ w, Calls Tryd.prog 11 #[.int .u64 m, .int .u64 a, .int .u64 b] w fun e w' => e = .returned (.int .u64 0) ∧ w = w') :
    Calls Tryd.prog 3 #[.int .u64 m, .int .u64 a, .int .u64 b] w fun e w' => e = .returned (.bool true) ∧ ∃ n, w' = w.drewN n := by
  have c0 := fun w => is_no m w hM
  clear hM
  go_enter Tryd.func3, Tryd.ntmps3
  go_wp2_with (first | (go_at_call 9; refine (up_hid _ hT).mono ?_; rintro e w1 ⟨rfl, H⟩) | (go_at_call 10; refine (c0 _).mono ?_; rintro e w' ⟨rfl, rfl⟩) | (go_at_call 12; refine (c1 _).mono ?_; rintro e w' ⟨rfl, rfl⟩) | (go_at_call 11; refine (c2 _).mono ?_; rintro e w' ⟨rfl, rfl⟩))
  go_ret
  exact ⟨rfl, H.out⟩

theorem sub_add {m a b : Nat} (h : Ob.Mod m) : Ob.add m (Ob.sub m a b) b = a % m := by
  have h1 := h.1
  rw [Ob.add_yes h, Ob.sub_yes h, Nat.add_mod, Nat.mod_mod, ← Nat.add_mod]
  have hb : b % m < m := Nat.mod_lt _ (by omega)
  have e : a % m + (m - b % m) + b = a % m + m * 1 + m * (b / m) := by
    have := Nat.div_add_mod b m
    omega
  rw [e, Nat.add_mul_mod_self_left, Nat.add_mul_mod_self_left, Nat.mod_mod]

theorem modularAdds_walk (a0 a1 a2 : Int) (w0 : (Lit.int .u64 a0).wf = true) (w1 : (Lit.int .u64 a1).wf = true) (w2 : (Lit.int .u64 a2).wf = true) (w : World) (hT : TabOk w) :
    Calls Tryd.prog 3 #[.int .u64 a0, .int .u64 a1, .int .u64 a2] w fun e w' => e = .returned (.bool true) ∧ ∃ n, w' = w.drewN n := by
  obtain ⟨m, rfl, hm⟩ := word_of w0
  obtain ⟨a, rfl, ha⟩ := word_of w1
  obtain ⟨b, rfl, hb⟩ := word_of w2
  by_cases hM : Ob.Mod m
  · have hd := Ob.sub_lt (a := a) (b := b) hM
    refine adds_yes m a b (Ob.add m a b) (Ob.sub m a b) (a % m) w hT hM hd (by simp) (fun w => sub_any m a b w hm ha hb) (fun w => add_any m a b w hm ha hb) (fun w => radd_any m a b w hM ha hb) (fun w => ?_)
    have := radd_any m (Ob.sub m a b) b w hM (by omega) hb
    rw [sub_add hM] at this
    exact this
  · refine adds_no m a b w hT hM (fun w => ?_) (fun w => ?_)
    · have := sub_any m a b w hm ha hb
      rw [Ob.sub_no hM] at this
      exact this
    · have := add_any m a b w hm ha hb
      rw [Ob.add_no hM] at this
      exact this
end Go.Proofs.YtbagipaaccjklaaDoor
