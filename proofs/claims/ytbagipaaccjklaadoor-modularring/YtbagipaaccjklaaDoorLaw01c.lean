/-
  The walk of the statement of layer 1 on the ring.
-/
import Derived.Test.YtbagipaaccjklaaDoorLaw01
import Derived.Test.YtbagipaaccjklaaDoorRing
namespace Go.Proofs.YtbagipaaccjklaaDoor
open Go.RowKit Go.Proofs
set_option linter.unusedVariables false

theorem beq_nat {a b : Nat} (h : a = b) : ((a : Int) == (b : Int)) = true := by simp [h]

set_option maxHeartbeats 1000000 in
theorem ring_short (m a b c : Nat) (w : World) (hT : TabOk w) (hm : m < 18446744073709551616) (ha : a < 18446744073709551616) (hb : b < 18446744073709551616) (hc : c < 18446744073709551616)
    (hl : 4611686018427387904 < (b : Int) ∨ ((b : Int) ≤ 4611686018427387904 ∧ 4611686018427387904 < (c : Int))) :
    Calls Tryd.prog 8 #[.int .u64 m, .int .u64 a, .int .u64 b, .int .u64 c] w fun e w' => e = .returned (.bool true) ∧ ∃ n, w' = w.drewN n := by
  have e1 := beq_nat (Ob.ring_assoc m a b c)
  have e2 := beq_nat (Ob.ring_distrib m a b c)
  have m1 := Ob.mul_word m a b
  have m2 := Ob.mul_word m c b
  have m3 := Ob.add_word m b c
  have m4 := Ob.mul_word m c a
  have m5 := Ob.mul_word m b a
  rcases hl with hl | ⟨hl1, hl2⟩
  all_goals
    go_enter Tryd.func8, Tryd.ntmps8
    go_wp2_with (first | (go_at_call 9; refine (up_hid _ hT).mono ?_; rintro e w1 ⟨rfl, H⟩) | (go_at_call 14; refine (mul_any m _ _ _ hm (by assumption) (by assumption)).mono ?_; rintro e w' ⟨rfl, n, rfl⟩) | (go_at_call 11; refine (add_any m _ _ _ hm (by assumption) (by assumption)).mono ?_; rintro e w' ⟨rfl, rfl⟩))
    go_ret
    exact ⟨rfl, drew_on H _⟩

set_option maxHeartbeats 2000000 in
theorem ring_long (m a b c x : Nat) (w : World) (hT : TabOk w) (hm : m < 18446744073709551616) (ha : a < 18446744073709551616) (hb : b < 18446744073709551616) (hc : c < 18446744073709551616)
    (hx : (b : Int) + (c : Int) = (x : Int)) (hx2 : x < 18446744073709551616) (hxx : Hid (x = b + c)) (hl1 : (b : Int) ≤ 4611686018427387904) (hl2 : (c : Int) ≤ 4611686018427387904) :
    Calls Tryd.prog 8 #[.int .u64 m, .int .u64 a, .int .u64 b, .int .u64 c] w fun e w' => e = .returned (.bool true) ∧ ∃ n, w' = w.drewN n := by
  have e1 := beq_nat (Ob.ring_assoc m a b c)
  have e2 := beq_nat (Ob.ring_distrib m a b c)
  have e3 : (((Ob.pow m a x : Nat) : Int) == ((Ob.mul m (Ob.pow m a b) (Ob.pow m a c) : Nat) : Int)) = true := beq_nat (by rw [hxx.out, Ob.ring_pow])
  have m1 := Ob.mul_word m a b
  have m2 := Ob.mul_word m c b
  have m3 := Ob.add_word m b c
  have m4 := Ob.mul_word m c a
  have m5 := Ob.mul_word m b a
  have m6 := Ob.pow_word m a b
  have m7 := Ob.pow_word m a c
  clear hxx
  go_enter Tryd.func8, Tryd.ntmps8
  go_wp2_with (first | (go_at_call 9; refine (up_hid _ hT).mono ?_; rintro e w1 ⟨rfl, H⟩) | (go_at_call 14; refine (mul_any m _ _ _ hm (by assumption) (by assumption)).mono ?_; rintro e w' ⟨rfl, n, rfl⟩) | (go_at_call 11; refine (add_any m _ _ _ hm (by assumption) (by assumption)).mono ?_; rintro e w' ⟨rfl, rfl⟩) | (go_at_call 16; refine (pow_any m _ _ _ hm (by assumption) (by assumption)).mono ?_; rintro e w' ⟨rfl, n, rfl⟩))
  go_ret
  exact ⟨rfl, drew_on H _⟩

theorem modularRing_walk (a0 a1 a2 a3 : Int) (w0 : (Lit.int .u64 a0).wf = true) (w1 : (Lit.int .u64 a1).wf = true) (w2 : (Lit.int .u64 a2).wf = true) (w3 : (Lit.int .u64 a3).wf = true) (w : World) (hT : TabOk w) :
    Calls Tryd.prog 8 #[.int .u64 a0, .int .u64 a1, .int .u64 a2, .int .u64 a3] w fun e w' => e = .returned (.bool true) ∧ ∃ n, w' = w.drewN n := by
  obtain ⟨m, rfl, hm⟩ := word_of w0
  obtain ⟨a, rfl, ha⟩ := word_of w1
  obtain ⟨b, rfl, hb⟩ := word_of w2
  obtain ⟨c, rfl, hc⟩ := word_of w3
  by_cases h1 : b ≤ 4611686018427387904
  · by_cases h2 : c ≤ 4611686018427387904
    · exact ring_long m a b c (b + c) w hT hm ha hb hc (by omega) (by omega) rfl (by omega) (by omega)
    · exact ring_short m a b c w hT hm ha hb hc (Or.inr ⟨by omega, by omega⟩)
  · exact ring_short m a b c w hT hm ha hb hc (Or.inl (by omega))
end Go.Proofs.YtbagipaaccjklaaDoor
