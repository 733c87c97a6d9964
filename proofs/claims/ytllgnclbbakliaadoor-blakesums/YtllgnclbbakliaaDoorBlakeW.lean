/-
  Package blake, walked: rolling, half a mixing.
-/
import Derived.Test.YtllgnclbbakliaaDoorArr
import Derived.Test.YtllgnclbbakliaaDoorLast
import Derived.Deep.DeepCutAuto
namespace Go.Proofs.YtllgnclbbakliaaDoor
open Go.RowKit Go.Proofs
set_option linter.unusedVariables false
set_option linter.unusedSimpArgs false
attribute [local go_sem ↓] Go.wp_at_zero Go.wp_at_succ

theorem rollL_num (x n : Nat) (hx : x < 4294967296) (hn : n ≤ 32) : bits .or .u32 (((x * 2 ^ (32 - n)) % 4294967296 : Nat) : Int) ((x / 2 ^ n : Nat) : Int) = ((Ob.rot x n : Nat) : Int) := by
  have e : (2 : Nat) ^ n * 2 ^ (32 - n) = 4294967296 := by rw [← Nat.pow_add, Nat.add_sub_cancel' hn]
  have e1 : x * 2 ^ (32 - n) % 4294967296 = x % 2 ^ n * 2 ^ (32 - n) := by rw [← e, Nat.mul_mod_mul_right]
  have h1 : x / 2 ^ n < 2 ^ (32 - n) := Nat.div_lt_of_lt_mul (by rw [e]; exact hx)
  have h3 := Ob.rot_lt hx hn
  unfold Ob.rot at h3
  have ha : x % 2 ^ n * 2 ^ (32 - n) < 2 ^ 32 := by omega
  have hb : x / 2 ^ n < 2 ^ 32 := by omega
  rw [e1, (bits_nat .u32 32 (by decide) wraps_u32 _ _ ha hb).2, Nat.mul_comm (x % 2 ^ n), ← Nat.two_pow_add_eq_or_of_lt h1 (x % 2 ^ n)]
  unfold Ob.rot
  rw [Nat.mul_comm (2 ^ (32 - n)), Nat.add_comm]
theorem left_num : ∀ p : Fin 32, 0 < p.val → bits .and .u64 (IntKind.u64.wrap (-(p.val : Int))) 31 = ((32 - p.val : Nat) : Int) := by decide +kernel

set_option maxHeartbeats 1000000 in
theorem rotW (x p : Nat) (hx : x < 4294967296) (hp0 : 0 < p) (hp : p < 32) (w : World) :
    Calls Tryd.prog 30 #[.int .u32 x, .int .i64 (-(p : Int))] w fun e w' => e = .returned (.int .u32 (Ob.rot x p : Nat)) ∧ w = w' := by
  obtain ⟨s, hs⟩ : ∃ s, Hid (32 - p = s) := ⟨_, rfl⟩
  have h1 : bits .and .u64 (IntKind.u64.wrap (-(p : Int))) 31 = (s : Int) := by rw [← hs.out]; exact left_num ⟨p, hp⟩ hp0
  have hs1 : 32 - s = p := by have := hs.out; omega
  have hs2 : 0 < s := by have := hs.out; omega
  have hs3 : s < 32 := by have := hs.out; omega
  have h4 : IntKind.u64.wrap (32 - (s : Int)) = ((32 - s : Nat) : Int) := by rw [IntKind.wrap_u64]; omega
  have h5 : bits .or .u32 ((x : Int) * 2 ^ s % 4294967296) ((x : Int) / 2 ^ p) = ((Ob.rot x p : Nat) : Int) := by
    rw [← rollL_num x p hx (by omega), hs.out]
    simp
  go_enter Tryd.func30, Tryd.ntmps30
  have g0 : (0 : Int) ≤ (s : Int) := by omega
  have g1 : ¬ (s : Int) < 0 := by omega
  have g2 : (s : Int) ≤ 32 := by omega
  have g3 : ¬ (32 : Int) < (s : Int) := by omega
  go_wp2
  go_ret
  exact ⟨rfl, rfl⟩

set_option maxHeartbeats 1000000 in
theorem half_core (a b c d x p q A B C D y s t : Nat) (w : World)
    (h1 : IntKind.u32.wrap ((b : Int) + (x : Int)) = (y : Int)) (h2 : IntKind.u32.wrap ((a : Int) + (y : Int)) = (A : Int))
    (h3 : bits .xor .u32 (d : Int) (A : Int) = (s : Int)) (h4 : IntKind.u32.wrap ((c : Int) + (D : Int)) = (C : Int)) (h5 : bits .xor .u32 (b : Int) (C : Int) = (t : Int))
    (p1 : IntKind.i64.wrap (-(p : Int)) = -(p : Int)) (q1 : IntKind.i64.wrap (-(q : Int)) = -(q : Int))
    (c1 : ∀ w, Calls Tryd.prog 30 #[.int .u32 s, .int .i64 (-(p : Int))] w fun e w' => e = .returned (.int .u32 D) ∧ w = w')
    (c2 : ∀ w, Calls Tryd.prog 30 #[.int .u32 t, .int .i64 (-(q : Int))] w fun e w' => e = .returned (.int .u32 B) ∧ w = w') :
    Calls Tryd.prog 27 #[.int .u32 a, .int .u32 b, .int .u32 c, .int .u32 d, .int .u32 x, .int .i64 p, .int .i64 q] w fun e w' => e = .returned (.tuple #[.int .u32 A, .int .u32 B, .int .u32 C, .int .u32 D]) ∧ w = w' := by
  go_enter Tryd.func27, Tryd.ntmps27
  go_wp2_with (first | (go_at_call 30; first | (with_reducible refine (c1 _).mono ?_; rintro e w' ⟨rfl, rfl⟩) | (with_reducible refine (c2 _).mono ?_; rintro e w' ⟨rfl, rfl⟩)))
  exact bodyPost_ret (v := .tuple #[.int .u32 A, .int .u32 B, .int .u32 C, .int .u32 D]) (by simp [results, Tryd.results27, go_sem]) rfl ⟨rfl, rfl⟩
theorem halfW (a b c d x p q A B C D : Nat) (ha : a < 4294967296) (hb : b < 4294967296) (hc : c < 4294967296) (hd : d < 4294967296) (hx : x < 4294967296) (hp0 : 0 < p) (hp : p < 32) (hq0 : 0 < q) (hq : q < 32)
    (hA : Ob.s32 a (Ob.s32 b x) = A) (hD : Ob.rot (d ^^^ A) p = D) (hC : Ob.s32 c D = C) (hB : Ob.rot (b ^^^ C) q = B) (w : World) :
    Calls Tryd.prog 27 #[.int .u32 a, .int .u32 b, .int .u32 c, .int .u32 d, .int .u32 x, .int .i64 p, .int .i64 q] w fun e w' => e = .returned (.tuple #[.int .u32 A, .int .u32 B, .int .u32 C, .int .u32 D]) ∧ w = w' := by
  have lA : A < 4294967296 := by rw [← hA]; exact Ob.s32_lt _ _
  have lC : C < 4294967296 := by rw [← hC]; exact Ob.s32_lt _ _
  refine half_core a b c d x p q A B C D (Ob.s32 b x) (d ^^^ A) (b ^^^ C) w ?_ ?_ (xor_u32 _ _ hd lA) ?_ (xor_u32 _ _ hb lC) ?_ ?_ ?_ ?_
  · rw [IntKind.wrap_u32]; unfold Ob.s32; omega
  · rw [← hA, IntKind.wrap_u32]; unfold Ob.s32; omega
  · rw [← hC, IntKind.wrap_u32]; unfold Ob.s32; omega
  · rw [IntKind.wrap_i64]; omega
  · rw [IntKind.wrap_i64]; omega
  · rw [← hD]; exact rotW _ p (Ob.xor_lt hd lA) hp0 hp
  · rw [← hB]; exact rotW _ q (Ob.xor_lt hb lC) hq0 hq
end Go.Proofs.YtllgnclbbakliaaDoor
