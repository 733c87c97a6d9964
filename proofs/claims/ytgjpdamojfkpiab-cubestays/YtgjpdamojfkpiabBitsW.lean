/-
  The walk of math/bits.Div64.
-/
import Derived.Test.YtgjpdamojfkpiabProg
import Derived.Test.YtgjpdamojfkpiabShelf
import Derived.Test.YtgjpdamojfkpiabDiv
import Derived.WalkKit
import Derived.WalkLawsBesides
import Derived.Outline
import Derived.Deep.QuietTactic
import Derived.BigQuiet
import Derived.Deep.DeepCutAuto
import Derived.Deep.CutBlock
import Derived.Laws.Bits64b
namespace Go.Proofs.Ytgjpdamojfkpiab
open Go.RowKit Go.Proofs
set_option linter.unusedVariables false

theorem wrapNat (a : Nat) (h : a < 18446744073709551616) : IntKind.u64.wrap (a : Int) = (a : Int) := by rw [IntKind.wrap_u64]; omega

theorem wrapNatDiv (a b : Nat) (h : a < 18446744073709551616) : IntKind.u64.wrap ((a : Int) / (b : Int)) = ((a / b : Nat) : Int) := by
  rw [← Int.natCast_ediv]
  exact wrapNat _ (Nat.lt_of_le_of_lt (Nat.div_le_self _ _) h)

set_option maxHeartbeats 400000 in
theorem div64_low (lo y : Nat) (w : World) (hl : lo < 18446744073709551616) (hy : y < 18446744073709551616) (h0 : 0 < y) :
    Calls Try.prog 25 #[.int .u64 0, .int .u64 lo, .int .u64 y] w fun e w' => e = .returned (.tuple #[.int .u64 ((lo / y : Nat) : Int), .int .u64 ((lo % y : Nat) : Int)]) ∧ ∃ n, w' = w.drewN n := by
  go_enter Try.func25, Try.ntmps25
  go_wp2
  go_quiet (fail)
  go_wp2
  go_ret2
  exact ⟨by rw [wrapNatDiv lo y hl]; simp, _, rfl⟩

theorem val_int {k : IntKind} {a b : Int} (h : a = b) : Value.int k a = .int k b := by rw [h]

theorem mul_small (a b : Nat) (ha : a < 4294967296) (hb : b < 4294967296) : ∃ z : Nat, Hid (z = a * b) ∧ IntKind.u64.wrap ((a : Int) * (b : Int)) = (z : Int) := by
  refine ⟨a * b, rfl, ?_⟩
  rw [← Int.natCast_mul]
  refine wrapNat _ ?_
  have : a * b ≤ 4294967295 * 4294967295 := Nat.mul_le_mul (by omega) (by omega)
  omega

theorem dig_broke {u v1 v0 d qh rh q : Nat} (h : Ob.Dig u v1 v0 d qh rh) (hv1 : 2147483648 ≤ v1) (hv0 : v0 < 4294967296) (hd : d < 4294967296) (hu : u < v1 * Ob.B32 + v0) (c : Ob.B32 ≤ qh ∨ Ob.B32 * rh + d < qh * v0) (hr : (4294967296 : Int) ≤ (rh : Int) + (v1 : Int))
    (hq : q = (u * Ob.B32 + d) / (v1 * Ob.B32 + v0)) : Hid ((qh : Int) - 1 = (q : Int)) := by
  have := h.broke hv1 hv0 hd hu c (by simp only [Ob.B32]; omega)
  rw [← hq] at this
  show (qh : Int) - 1 = (q : Int)
  omega

set_option maxRecDepth 4000 in
set_option maxHeartbeats 1000000 in
theorem div64_core (hi lo y s u v v1 v0 t d1 d0 : Nat) (w : World) (hl : lo < 18446744073709551616) (hy : y < 18446744073709551616) (h0 : 0 < hi) (h1 : hi < y)
    (hs : s < 64)
    (hlz : ∀ w, Calls Try.prog 26 #[.int .u64 y] w fun e w' => e = .returned (.int .i64 s) ∧ w = w')
    (e1 : IntKind.u64.wrap ((y : Int) * 2 ^ s) = (v : Int)) (e2 : (v : Int) / 4294967296 = (v1 : Int)) (e3 : bits .and .u64 (v : Int) 4294967295 = (v0 : Int))
    (e4 : bits .or .u64 (IntKind.u64.wrap ((hi : Int) * 2 ^ s)) ((lo : Int) / 2 ^ (64 - s)) = (u : Int))
    (e5 : IntKind.u64.wrap ((lo : Int) * 2 ^ s) = (t : Int)) (e6 : (t : Int) / 4294967296 = (d1 : Int)) (e7 : bits .and .u64 (t : Int) 4294967295 = (d0 : Int))
    (hv1 : 2147483648 ≤ v1) (hv1' : v1 < 4294967296) (hv0 : v0 < 4294967296) (hd1 : d1 < 4294967296) (hd0 : d0 < 4294967296)
    (hu : u < 18446744073709551616)
    (huv : Hid (u < v1 * Ob.B32 + v0))
    (qf rf : Nat) (hqf : qf ≤ 4294967297) (hrf : rf < 4294967296) (f1 : (u : Int) / (v1 : Int) = (qf : Int)) (f2 : IntKind.u64.wrap ((u : Int) - IntKind.u64.wrap ((qf : Int) * (v1 : Int))) = rf) (hfirst : Hid (Ob.Dig u v1 v0 d1 qf rf))
    (q1 r1 : Nat) (hq1 : Hid (q1 = (u * Ob.B32 + d1) / (v1 * Ob.B32 + v0))) (hr1 : r1 < 18446744073709551616) (huv2 : Hid (r1 < v1 * Ob.B32 + v0))
    (g1 : IntKind.u64.wrap (IntKind.u64.wrap (IntKind.u64.wrap ((u : Int) * 4294967296) + (d1 : Int)) - IntKind.u64.wrap ((q1 : Int) * (v : Int))) = (r1 : Int))
    (qg rg : Nat) (hqg : qg ≤ 4294967297) (hrg : rg < 4294967296) (g2 : (r1 : Int) / (v1 : Int) = (qg : Int)) (g3 : IntKind.u64.wrap ((r1 : Int) - IntKind.u64.wrap ((qg : Int) * (v1 : Int))) = rg) (hfirst2 : Hid (Ob.Dig r1 v1 v0 d0 qg rg))
    (q0 r0 : Nat) (hq0 : Hid (q0 = (r1 * Ob.B32 + d0) / (v1 * Ob.B32 + v0))) (hr0 : r0 < 18446744073709551616)
    (Q R : Nat) (k1 : IntKind.u64.wrap (IntKind.u64.wrap ((q1 : Int) * 4294967296) + (q0 : Int)) = (Q : Int))
    (k2 : IntKind.u64.wrap (IntKind.u64.wrap (IntKind.u64.wrap ((r1 : Int) * 4294967296) + (d0 : Int)) - IntKind.u64.wrap ((q0 : Int) * (v : Int))) = (r0 : Int))
    (k3 : (r0 : Int) / 2 ^ s = (R : Int)) :
    Calls Try.prog 25 #[.int .u64 hi, .int .u64 lo, .int .u64 y] w fun e w' => e = .returned (.tuple #[.int .u64 Q, .int .u64 R]) ∧ w' = w := by
  go_enter Try.func25, Try.ntmps25
  go_upto_block 0 with (go_at_call 26; refine (hlz _).mono ?_; rintro e w' ⟨rfl, rfl⟩)
  clear hlz e1 e2 e3 e4 e5 e6 e7 f1 f2
  go_cut [15, 16] (fun q _ w1 => q = .int .u64 q1 ∧ w1 = w)
  case first =>
    go_wp2
    go_loop [15, 16] (fun q r => ∃ qh rh : Nat, qh ≤ 4294967297 ∧ rh < 4294967296 ∧ q = .int .u64 qh ∧ r = .int .u64 rh ∧ Hid (Ob.Dig u v1 v0 d1 qh rh)) (fun q _ => (intOf q).toNat)
    case atStart => exact ⟨qf, rf, hqf, hrf, rfl, rfl, hfirst⟩
    case round =>
      clear g1 g2 g3 k1 k2 k3 hr1 hr0 hfirst hfirst2 hqf hrf hqg hrg hl hy hu hq0 huv2
      obtain ⟨qh, rh, hqh, hrh, rfl, rfl, hD⟩ := hrel
      by_cases c1 : 4294967296 ≤ qh
      · have c1i : ¬ ((qh : Int) < 4294967296) := by omega
        have c1j : (4294967296 : Int) ≤ (qh : Int) := by omega
        by_cases c3 : (4294967296 : Int) ≤ (rh : Int) + (v1 : Int)
        · have c3i : ¬ ((rh : Int) + (v1 : Int) < 4294967296) := by omega
          have hb : Hid ((qh : Int) - 1 = (q1 : Int)) := dig_broke hD.out hv1 hv0 hd1 huv.out (Or.inl c1) (by omega) hq1.out
          clear c1
          go_wp2
          go_meet
          case rel => exact ⟨val_int hb.out, rfl⟩
        · have c3i : (rh : Int) + (v1 : Int) < 4294967296 := by omega
          have hb := hD.out.next hv1 hd1 huv.out (Or.inl c1) (by simp only [Ob.B32]; omega)
          have hN : Hid (Ob.Dig u v1 v0 d1 (qh - 1) (rh + v1)) := hb.1
          clear c1 hb
          go_wp2
          go_round
          case rel => exact ⟨qh - 1, rh + v1, by omega, by omega, by go_num, by go_num, hN⟩
          case measure => simp [intOf]; omega
      · have c1i : (qh : Int) < 4294967296 := by omega
        have c1j : ¬ ((4294967296 : Int) ≤ (qh : Int)) := by omega
        obtain ⟨z, hz, hm⟩ := mul_small qh v0 (by omega) hv0
        by_cases c2 : 4294967296 * (rh : Int) + (d1 : Int) < (z : Int)
        · have c2' : Ob.B32 ≤ qh ∨ Ob.B32 * rh + d1 < qh * v0 := Or.inr (by have := hz.out; simp only [Ob.B32]; omega)
          by_cases c3 : (4294967296 : Int) ≤ (rh : Int) + (v1 : Int)
          · have c3i : ¬ ((rh : Int) + (v1 : Int) < 4294967296) := by omega
            have hb : Hid ((qh : Int) - 1 = (q1 : Int)) := dig_broke hD.out hv1 hv0 hd1 huv.out c2' (by omega) hq1.out
            have hp : 0 < qh := (hD.out.broke hv1 hv0 hd1 huv.out c2' (by simp only [Ob.B32]; omega)).2
            clear c1 c2'
            go_wp2
            go_meet
            case rel => exact ⟨val_int hb.out, rfl⟩
          · have c3i : (rh : Int) + (v1 : Int) < 4294967296 := by omega
            have hb := hD.out.next hv1 hd1 huv.out c2' (by simp only [Ob.B32]; omega)
            have hN : Hid (Ob.Dig u v1 v0 d1 (qh - 1) (rh + v1)) := hb.1
            have hp : 0 < qh := hb.2
            clear c1 c2' hb
            go_wp2
            go_round
            case rel => exact ⟨qh - 1, rh + v1, by omega, by omega, by go_num, by go_num, hN⟩
            case measure => simp [intOf]; omega
        · have hb : Hid ((qh : Int) = (q1 : Int)) := by
            have := hD.out.done hv1 (by have := hz.out; simp only [Ob.B32]; omega)
            rw [← hq1.out] at this
            exact congrArg Int.ofNat this
          clear c1
          go_wp2
          go_meet
          case rel => exact ⟨val_int hb.out, rfl⟩
  case rest =>
    obtain ⟨rfl, rfl⟩ := hcut
    clear hfirst hqf hrf
    go_upto_block 2 with fail
    clear g1 g2 g3
    go_cut [18, 16] (fun q _ w1 => q = .int .u64 q0 ∧ w1 = wc)
    case first =>
      go_wp2
      go_loop [18, 16] (fun q r => ∃ qh rh : Nat, qh ≤ 4294967297 ∧ rh < 4294967296 ∧ q = .int .u64 qh ∧ r = .int .u64 rh ∧ Hid (Ob.Dig r1 v1 v0 d0 qh rh)) (fun q _ => (intOf q).toNat)
      case atStart => exact ⟨qg, rg, hqg, hrg, rfl, rfl, hfirst2⟩
      case round =>
        clear k1 k2 k3 hr0 hfirst2 hqg hrg hl hy hu hq1 huv hr1
        obtain ⟨qh, rh, hqh, hrh, rfl, rfl, hD⟩ := hrel
        by_cases c1 : 4294967296 ≤ qh
        · have c1i : ¬ ((qh : Int) < 4294967296) := by omega
          have c1j : (4294967296 : Int) ≤ (qh : Int) := by omega
          by_cases c3 : (4294967296 : Int) ≤ (rh : Int) + (v1 : Int)
          · have c3i : ¬ ((rh : Int) + (v1 : Int) < 4294967296) := by omega
            have hb : Hid ((qh : Int) - 1 = (q0 : Int)) := dig_broke hD.out hv1 hv0 hd0 huv2.out (Or.inl c1) (by omega) hq0.out
            clear c1
            go_wp2
            go_meet
            case rel => exact ⟨val_int hb.out, rfl⟩
          · have c3i : (rh : Int) + (v1 : Int) < 4294967296 := by omega
            have hb := hD.out.next hv1 hd0 huv2.out (Or.inl c1) (by simp only [Ob.B32]; omega)
            have hN : Hid (Ob.Dig r1 v1 v0 d0 (qh - 1) (rh + v1)) := hb.1
            clear c1 hb
            go_wp2
            go_round
            case rel => exact ⟨qh - 1, rh + v1, by omega, by omega, by go_num, by go_num, hN⟩
            case measure => simp [intOf]; omega
        · have c1i : (qh : Int) < 4294967296 := by omega
          have c1j : ¬ ((4294967296 : Int) ≤ (qh : Int)) := by omega
          obtain ⟨z, hz, hm⟩ := mul_small qh v0 (by omega) hv0
          by_cases c2 : 4294967296 * (rh : Int) + (d0 : Int) < (z : Int)
          · have c2' : Ob.B32 ≤ qh ∨ Ob.B32 * rh + d0 < qh * v0 := Or.inr (by have := hz.out; simp only [Ob.B32]; omega)
            by_cases c3 : (4294967296 : Int) ≤ (rh : Int) + (v1 : Int)
            · have c3i : ¬ ((rh : Int) + (v1 : Int) < 4294967296) := by omega
              have hb : Hid ((qh : Int) - 1 = (q0 : Int)) := dig_broke hD.out hv1 hv0 hd0 huv2.out c2' (by omega) hq0.out
              have hp : 0 < qh := (hD.out.broke hv1 hv0 hd0 huv2.out c2' (by simp only [Ob.B32]; omega)).2
              clear c1 c2'
              go_wp2
              go_meet
              case rel => exact ⟨val_int hb.out, rfl⟩
            · have c3i : (rh : Int) + (v1 : Int) < 4294967296 := by omega
              have hb := hD.out.next hv1 hd0 huv2.out c2' (by simp only [Ob.B32]; omega)
              have hN : Hid (Ob.Dig r1 v1 v0 d0 (qh - 1) (rh + v1)) := hb.1
              have hp : 0 < qh := hb.2
              clear c1 c2' hb
              go_wp2
              go_round
              case rel => exact ⟨qh - 1, rh + v1, by omega, by omega, by go_num, by go_num, hN⟩
              case measure => simp [intOf]; omega
          · have hb : Hid ((qh : Int) = (q0 : Int)) := by
              have := hD.out.done hv1 (by have := hz.out; simp only [Ob.B32]; omega)
              rw [← hq0.out] at this
              exact congrArg Int.ofNat this
            clear c1
            go_wp2
            go_meet
            case rel => exact ⟨val_int hb.out, rfl⟩
    case rest =>
      obtain ⟨rfl, rfl⟩ := hcut
      go_wp2
      go_ret2
      exact ⟨rfl, rfl⟩

theorem bitLenAux_bounds : ∀ (f x : Nat), x < 2 ^ f → x ≠ 0 → 1 ≤ Lib.bitLenAux f x ∧ Lib.bitLenAux f x ≤ f ∧ 2 ^ (Lib.bitLenAux f x - 1) ≤ x ∧ x < 2 ^ Lib.bitLenAux f x
  | 0, x, hx, h0 => by simp at hx; exact absurd hx h0
  | f + 1, x, hx, h0 => by
    simp only [Lib.bitLenAux, if_neg h0]
    by_cases h1 : x / 2 = 0
    · have e : Lib.bitLenAux f (x / 2) = 0 := by rw [h1]; cases f <;> simp [Lib.bitLenAux]
      rw [e]
      have : x = 1 := by omega
      subst this
      simp
    · have ih := bitLenAux_bounds f (x / 2) (by rw [Nat.pow_succ] at hx; omega) h1
      generalize Lib.bitLenAux f (x / 2) = b at ih ⊢
      obtain ⟨c, rfl⟩ : ∃ c, b = c + 1 := ⟨b - 1, by omega⟩
      have e1 : 2 ^ (1 + (c + 1) - 1) = 2 ^ c * 2 := by rw [← Nat.pow_succ]; congr 1; omega
      have e2 : 2 ^ (1 + (c + 1)) = 2 ^ (c + 1) * 2 := by rw [← Nat.pow_succ]; congr 1; omega
      rw [e1, e2]
      simp only [Nat.add_sub_cancel] at ih
      omega

/-- How far y is shifted, and that it then has its highest bit. -/
theorem shift_of (y : Nat) (hy : y < 18446744073709551616) (h0 : 0 < y) : ∃ s K L : Nat, s < 64 ∧ K = 2 ^ s ∧ L = 2 ^ (64 - s) ∧ K * L = Ob.B64 ∧ 9223372036854775808 ≤ y * K ∧ y * K < Ob.B64 ∧
    (64 : Int) - (Lib.bitLen y : Int) = (s : Int) := by
  obtain ⟨b1, b2, b3, b4⟩ := bitLenAux_bounds 64 y hy (by omega)
  change 1 ≤ Lib.bitLen y at b1
  change Lib.bitLen y ≤ 64 at b2
  change 2 ^ (Lib.bitLen y - 1) ≤ y at b3
  change y < 2 ^ Lib.bitLen y at b4
  generalize Lib.bitLen y = b at b1 b2 b3 b4 ⊢
  have hpos : 0 < 2 ^ (64 - b) := Nat.two_pow_pos _
  refine ⟨64 - b, 2 ^ (64 - b), 2 ^ (64 - (64 - b)), by omega, rfl, rfl, ?_, ?_, ?_, by omega⟩
  · rw [← Nat.pow_add]
    have : 64 - b + (64 - (64 - b)) = 64 := by omega
    rw [this]
  · have h := Nat.mul_le_mul_right (2 ^ (64 - b)) b3
    rw [← Nat.pow_add] at h
    have e : b - 1 + (64 - b) = 63 := by omega
    rw [e] at h
    exact h
  · have h := Nat.mul_lt_mul_of_pos_right b4 hpos
    rw [← Nat.pow_add] at h
    have e : b + (64 - b) = 64 := by omega
    rw [e] at h
    exact h

theorem mask32 (a : Nat) (ha : a < 18446744073709551616) : bits .and .u64 (a : Int) 4294967295 = ((a % 4294967296 : Nat) : Int) := by
  have h := bits_and_u64_nat a 4294967295 ha (by omega)
  have e : a &&& 4294967295 = a % 4294967296 := Nat.and_two_pow_sub_one_eq_mod a 32
  rw [e] at h
  exact h

theorem wrapMod (a : Nat) : IntKind.u64.wrap (a : Int) = ((a % 18446744073709551616 : Nat) : Int) := by rw [IntKind.wrap_u64]; omega

/-- A difference that is reckoned with wraps, and that is at least 0 and small. -/
theorem wrap_rest (u d q v r : Nat) (hr : r < 18446744073709551616) (h : u * 4294967296 + d = q * v + r) :
    IntKind.u64.wrap (IntKind.u64.wrap (IntKind.u64.wrap ((u : Int) * 4294967296) + (d : Int)) - IntKind.u64.wrap ((q : Int) * (v : Int))) = (r : Int) := by
  have e1 : (u : Int) * 4294967296 = ((u * 4294967296 : Nat) : Int) := by simp
  rw [e1, ← Int.natCast_mul]
  generalize q * v = z at h ⊢
  generalize u * 4294967296 = x at h ⊢
  simp only [IntKind.wrap_u64]
  omega

theorem first_rest (u v1 : Nat) (hu : u < 18446744073709551616) : IntKind.u64.wrap ((u : Int) - IntKind.u64.wrap (((u / v1 : Nat) : Int) * (v1 : Int))) = ((u - u / v1 * v1 : Nat) : Int) := by
  have h := Nat.div_mul_le_self u v1
  rw [← Int.natCast_mul]
  generalize u / v1 * v1 = z at h ⊢
  simp only [IntKind.wrap_u64]
  omega

theorem div64_high (hi lo y : Nat) (w : World) (hl : lo < 18446744073709551616) (hy : y < 18446744073709551616) (h0 : 0 < hi) (h1 : hi < y) :
    Calls Try.prog 25 #[.int .u64 hi, .int .u64 lo, .int .u64 y] w fun e w' => e = .returned (.tuple #[.int .u64 (((hi * Ob.B64 + lo) / y : Nat) : Int), .int .u64 (((hi * Ob.B64 + lo) % y : Nat) : Int)]) ∧ w' = w := by
  obtain ⟨s, K, L, hs, hK, hL, hKL, hlo, hhi, hb⟩ := shift_of y hy (by omega)
  have hKp : 0 < K := by rw [hK]; exact Nat.two_pow_pos _
  have hLp : 0 < L := by rw [hL]; exact Nat.two_pow_pos _
  have hKi : (2 : Int) ^ s = (K : Int) := by rw [hK]; exact (Int.natCast_pow 2 s).symm
  have hLi : (2 : Int) ^ (64 - s) = (L : Int) := by rw [hL]; exact (Int.natCast_pow 2 (64 - s)).symm
  -- the shifted divisor, and its two digits
  obtain ⟨v, hv⟩ : ∃ v, v = y * K := ⟨_, rfl⟩
  obtain ⟨u, hu⟩ : ∃ u, u = hi * K + lo / L := ⟨_, rfl⟩
  obtain ⟨t, ht⟩ : ∃ t, t = lo * K % Ob.B64 := ⟨_, rfl⟩
  have hvd : v / Ob.B32 * Ob.B32 + v % Ob.B32 = v := Nat.div_add_mod' v Ob.B32
  have htd : t / Ob.B32 * Ob.B32 + t % Ob.B32 = t := Nat.div_add_mod' t Ob.B32
  have hvlt : v < 18446744073709551616 := by rw [hv]; exact hhi
  have htlt : t < 18446744073709551616 := by rw [ht]; exact Nat.mod_lt _ (by decide)
  have hloL : lo / L < K := by
    rw [Nat.div_lt_iff_lt_mul hLp, hKL]
    exact hl
  have huv : u < v := by
    have h2 : (hi + 1) * K ≤ y * K := Nat.mul_le_mul_right _ h1
    rw [Nat.succ_mul] at h2
    omega
  have hhiK : hi * K < 18446744073709551616 := by
    have h2 : hi * K ≤ u := by rw [hu]; exact Nat.le_add_right _ _
    omega
  have hv1 : 2147483648 ≤ v / Ob.B32 := by simp only [Ob.B32]; omega
  have hv1' : v / Ob.B32 < 4294967296 := by simp only [Ob.B32]; omega
  have huv' : u < v / Ob.B32 * Ob.B32 + v % Ob.B32 := by omega
  have hv0 : v % Ob.B32 < 4294967296 := Nat.mod_lt _ (by decide)
  have hd1 : t / Ob.B32 < 4294967296 := by simp only [Ob.B32]; omega
  have hd0 : t % Ob.B32 < 4294967296 := Nat.mod_lt _ (by decide)
  have e4 : bits .or .u64 (IntKind.u64.wrap ((hi : Int) * 2 ^ s)) ((lo : Int) / 2 ^ (64 - s)) = (u : Int) := by
    rw [hKi, hLi, ← Int.natCast_mul, wrapNat _ hhiK, ← Int.natCast_ediv, bits_or_u64_nat _ _ hhiK (by omega)]
    have := Nat.shiftLeft_add_eq_or_of_lt (b := lo / L) (i := s) (by rw [← hK]; exact hloL) hi
    rw [Nat.shiftLeft_eq, ← hK] at this
    rw [← this, hu]
  have first1 := Ob.Dig.first u (v / Ob.B32) (v % Ob.B32) (t / Ob.B32) hv1 hv1' hv0 hd1 huv'
  obtain ⟨r1, hr1⟩ : ∃ r1, r1 = (u * Ob.B32 + t / Ob.B32) % v := ⟨_, rfl⟩
  have hr1v : r1 < v := by rw [hr1]; exact Nat.mod_lt _ (by omega)
  have first2 := Ob.Dig.first r1 (v / Ob.B32) (v % Ob.B32) (t % Ob.B32) hv1 hv1' hv0 hd0 (by omega)
  obtain ⟨q1, hq1⟩ : ∃ q1, q1 = (u * Ob.B32 + t / Ob.B32) / v := ⟨_, rfl⟩
  obtain ⟨q0, hq0⟩ : ∃ q0, q0 = (r1 * Ob.B32 + t % Ob.B32) / v := ⟨_, rfl⟩
  obtain ⟨r0, hr0⟩ : ∃ r0, r0 = (r1 * Ob.B32 + t % Ob.B32) % v := ⟨_, rfl⟩
  have hr0v : r0 < v := by rw [hr0]; exact Nat.mod_lt _ (by omega)
  have a1 : u * 4294967296 + t / Ob.B32 = q1 * v + r1 := by rw [hq1, hr1]; exact (Nat.div_add_mod' _ _).symm
  have a0 : r1 * 4294967296 + t % Ob.B32 = q0 * v + r0 := by rw [hq0, hr0]; exact (Nat.div_add_mod' _ _).symm
  have hq1b : q1 < Ob.B32 := by rw [hq1]; exact Ob.dig_lt u v _ huv hd1
  have hq0b : q0 < Ob.B32 := by rw [hq0]; exact Ob.dig_lt r1 v _ hr1v hd0
  have whole := Ob.div64_whole hi lo y K L hKL (by omega) u (t / Ob.B32) (t % Ob.B32) q1 r1 q0 hu (htd.trans ht) (by rw [← hv]; exact hq1) (by rw [← hv]; exact hr1) (by rw [← hv]; exact hq0)
  rw [← hv, ← hr0] at whole
  have hlz : ∀ w, Calls Try.prog 26 #[.int .u64 y] w fun e w' => e = .returned (.int .i64 s) ∧ w = w' := fun w =>
    (Try.bits_LeadingZeros64 (y : Int) w (by omega) (by omega)).mono fun e w' ⟨he, hw⟩ => ⟨by rw [he, Int.toNat_natCast, hb], hw.symm⟩
  refine div64_core hi lo y s u v (v / Ob.B32) (v % Ob.B32) t (t / Ob.B32) (t % Ob.B32) w hl hy h0 h1 hs hlz
    (by rw [hKi, ← Int.natCast_mul, wrapNat _ hhi, hv]) (Int.natCast_ediv v 4294967296).symm (mask32 v hvlt) e4
    (by rw [hKi, ← Int.natCast_mul, wrapMod, ht]) (Int.natCast_ediv t 4294967296).symm (mask32 t htlt)
    hv1 hv1' hv0 hd1 hd0 (by omega) huv' (u / (v / Ob.B32)) (u - u / (v / Ob.B32) * (v / Ob.B32)) (first1.2.2.1) (first1.2.2.2) (Int.natCast_ediv u _).symm (first_rest u _ (by omega)) first1
    q1 r1 (by rw [hvd]; exact hq1) (by omega) (by show r1 < _; omega) (wrap_rest u _ q1 v r1 (by omega) a1)
    (r1 / (v / Ob.B32)) (r1 - r1 / (v / Ob.B32) * (v / Ob.B32)) (first2.2.2.1) (first2.2.2.2) (Int.natCast_ediv r1 _).symm (first_rest r1 _ (by omega)) first2
    q0 r0 (by rw [hvd]; exact hq0) (by omega) _ _ ?_ (wrap_rest r1 _ q0 v r0 (by omega) a0) ?_
  · rw [← whole.1]
    simp only [IntKind.wrap_u64, Ob.B32] at *
    omega
  · rw [← whole.2, hKi]
    exact (Int.natCast_ediv r0 K).symm

/-- math/bits.Div64 at a divisor above the upper word: the quotient and the remainder. -/
theorem div64_any (hi lo y : Nat) (w : World) (hl : lo < 18446744073709551616) (hy : y < 18446744073709551616) (h1 : hi < y) :
    Calls Try.prog 25 #[.int .u64 hi, .int .u64 lo, .int .u64 y] w fun e w' => e = .returned (.tuple #[.int .u64 (((hi * Ob.B64 + lo) / y : Nat) : Int), .int .u64 (((hi * Ob.B64 + lo) % y : Nat) : Int)]) ∧ ∃ n, w' = w.drewN n := by
  by_cases h0 : hi = 0
  · subst h0
    have e : 0 * Ob.B64 + lo = lo := by rw [Nat.zero_mul, Nat.zero_add]
    rw [e]
    exact div64_low lo y w hl hy h1
  · exact (div64_high hi lo y w hl hy (by omega) h1).mono fun e w' ⟨he, hw⟩ => ⟨he, 0, hw⟩
end Go.Proofs.Ytgjpdamojfkpiab
