/-
  Joined texts: The library's contracts on package math/bits (and the like), laid at this seat's program: each an application of what the shelf proves over any program. The arithmetic under math/bits.Div64: one digit of the school division by two digits of 32 bits; and that shifting both sides by s changes nothing but the remainder's scale. The walk of math/bits.Div64. Plain numbers: powers by squaring, products by doubling, Euclid's way with its two factors. The walks of package modular: each function's contract in plain numbers. What the calls of layer 1 answer, as functions of plain numbers. The exported sums, differences, products and powers of package modular. Euclid's way with one factor beside it: what holds at every round, and what is told at the end; the inverse modulo m. The walks of modular.euclid and modular.Inv. The walks of the document's own answers for layer 1 (package obolref01). Small helps for all walks: calls that only make memory of their own, errors that are codes, words as plain numbers. Numbers as bytes, the highest first. The walks of bytes as numbers: package words' Number, and the document's own. Bytes behind bytes that fill their room. Variables of three cells. Cells of variables, as a region's condition asks for them.
-/
import Derived.Shelf.Small.Bits
import Derived.Shelf.Strconv.Itoa0
import Derived.Shelf.Bits.Mul64
import Derived.Test.YtdhbkhmknnlmnaaDoorProg
import Derived.WalkKit
import Derived.WalkLawsBesides
import Derived.Outline
import Derived.Deep.QuietTactic
import Derived.BigQuiet
import Derived.Deep.DeepCutAuto
import Derived.Deep.CutBlock
import Derived.Laws.Bits64b
import Derived.Deep.RegionWith
import Derived.LoopTactic
import Derived.LaidEql
import Derived.OpenShut
import Derived.Handy
import Derived.Deep.RegionHeld3
import Derived.Deep.DrawnRows
import Derived.Laws.BytesArg
import Derived.OwnWalk
import Derived.WalkSpells
import Derived.Deep.DeepAppendRoom
import Derived.Deep.AppendSrc

namespace Go.Proofs
open Go.Shelf
def Tryd.lays134_ren : Go.Shelf.Ren := ⟨fun | 134 => 75 | 129 => 81 | n => n, fun | 53 => 22 | 3 => 3 | 4 => 4 | 46 => 74 | 5 => 5 | 9 => 9 | n => n, fun | n => n⟩
theorem Tryd.lays134 : Go.Proofs.Lays.n134 Tryd.prog Tryd.lays134_ren := {
  mixed := by kernel_rfl
  f129 := Tryd.func81.trans (congrArg some (by kernel_rfl))
  f134 := Tryd.func75.trans (congrArg some (by kernel_rfl))
  t3 := Tryd.underlying3
  a3 := Tryd.isAgg3
  z3 := Tryd.sizeOf3
  v3 := Tryd.zeroValue3
  t4 := Tryd.underlying4
  a4 := Tryd.isAgg4
  z4 := Tryd.sizeOf4
  v4 := Tryd.zeroValue4
  t5 := Tryd.underlying5
  a5 := Tryd.isAgg5
  z5 := Tryd.sizeOf5
  v5 := Tryd.zeroValue5
  t9 := Tryd.underlying9
  a9 := Tryd.isAgg9
  z9 := Tryd.sizeOf9
  v9 := Tryd.zeroValue9
  t46 := Tryd.underlying74
  a46 := Tryd.isAgg74
  z46 := Tryd.sizeOf74
  v46 := Tryd.zeroValue74
  t53 := Tryd.underlying22
  a53 := Tryd.isAgg22
  z53 := Tryd.sizeOf22
  v53 := Tryd.zeroValue22 }
theorem Tryd.bits_LeadingZeros64 (x : Int) (w : World) (h0 : 0 ≤ x) (h1 : x ≤ 18446744073709551615) :
    Calls Tryd.prog 75 #[.int .u64 x] w fun e w' => e = .returned (.int .i64 (64 - (Lib.bitLen x.toNat : Int))) ∧ w' = w := Any.bits_LeadingZeros64 Tryd.lays134 x w h0 h1
def Tryd.lays129_ren : Go.Shelf.Ren := ⟨fun | 129 => 81 | n => n, fun | 53 => 22 | 3 => 3 | 4 => 4 | 46 => 74 | 5 => 5 | 9 => 9 | n => n, fun | n => n⟩
theorem Tryd.lays129 : Go.Proofs.Lays.n129 Tryd.prog Tryd.lays129_ren := {
  mixed := by kernel_rfl
  f129 := Tryd.func81.trans (congrArg some (by kernel_rfl))
  t3 := Tryd.underlying3
  a3 := Tryd.isAgg3
  z3 := Tryd.sizeOf3
  v3 := Tryd.zeroValue3
  t4 := Tryd.underlying4
  a4 := Tryd.isAgg4
  z4 := Tryd.sizeOf4
  v4 := Tryd.zeroValue4
  t5 := Tryd.underlying5
  a5 := Tryd.isAgg5
  z5 := Tryd.sizeOf5
  v5 := Tryd.zeroValue5
  t9 := Tryd.underlying9
  a9 := Tryd.isAgg9
  z9 := Tryd.sizeOf9
  v9 := Tryd.zeroValue9
  t46 := Tryd.underlying74
  a46 := Tryd.isAgg74
  z46 := Tryd.sizeOf74
  v46 := Tryd.zeroValue74
  t53 := Tryd.underlying22
  a53 := Tryd.isAgg22
  z53 := Tryd.sizeOf22
  v53 := Tryd.zeroValue22 }
theorem Tryd.bits_Len64 (x : Int) (w : World) (h0 : 0 ≤ x) (h1 : x ≤ 18446744073709551615) :
    Calls Tryd.prog 81 #[.int .u64 x] w fun e w' => e = .returned (.int .i64 (Lib.bitLen x.toNat)) ∧ w' = w := Any.bits_Len64 Tryd.lays129 x w h0 h1
def Tryd.lays264_ren : Go.Shelf.Ren := ⟨fun | 264 => 65 | n => n, fun | 53 => 22 | 46 => 74 | n => n, fun | n => n⟩
theorem Tryd.lays264 : Go.Proofs.Lays.n264 Tryd.prog Tryd.lays264_ren := {
  mixed := by kernel_rfl
  f264 := Tryd.func65.trans (congrArg some (by kernel_rfl))
  t46 := Tryd.underlying74
  a46 := Tryd.isAgg74
  z46 := Tryd.sizeOf74
  v46 := Tryd.zeroValue74
  t53 := Tryd.underlying22
  a53 := Tryd.isAgg22
  z53 := Tryd.sizeOf22
  v53 := Tryd.zeroValue22 }
open Go.RowKit Go.Lib in
theorem Tryd.bits_Mul64 (x y : Nat) (hx : x < 18446744073709551616) (hy : y < 18446744073709551616) (w : World) :
    Calls Tryd.prog 65 #[.int .u64 x, .int .u64 y] w fun e w' => e = .returned (.tuple #[.int .u64 ((x * y / 18446744073709551616 : Nat) : Int), .int .u64 ((x * y % 18446744073709551616 : Nat) : Int)]) ∧ w' = w := Any.bits_Mul64 Tryd.lays264 x y hx hy w
end Go.Proofs

namespace Ob

abbrev B32 : Nat := 4294967296
abbrev B64 : Nat := 18446744073709551616

/-- The true digit is below B. -/
theorem dig_lt (u v d : Nat) (hu : u < v) (hd : d < B32) : (u * B32 + d) / v < B32 := by
  have hv : 0 < v := by omega
  rw [Nat.div_lt_iff_lt_mul hv]
  have : (u + 1) * B32 ≤ v * B32 := Nat.mul_le_mul_right _ hu
  have e : (u + 1) * B32 = u * B32 + B32 := Nat.succ_mul u B32
  rw [Nat.mul_comm B32 v]
  omega

/-- The first guess is at least the digit. -/
theorem dig_le_first (u v1 v0 d : Nat) (hv1 : 0 < v1) (hd : d < B32) : (u * B32 + d) / (v1 * B32 + v0) ≤ u / v1 := by
  rw [Nat.le_div_iff_mul_le hv1]
  have h1 := Nat.div_mul_le_self (u * B32 + d) (v1 * B32 + v0)
  generalize (u * B32 + d) / (v1 * B32 + v0) = q at h1 ⊢
  have e : q * (v1 * B32 + v0) = (q * v1) * B32 + q * v0 := by rw [Nat.mul_add, Nat.mul_assoc]
  rw [e] at h1
  generalize q * v1 = t at h1 ⊢
  generalize q * v0 = z at h1
  simp only [B32] at h1 hd
  omega

/-- The first guess is at most two too great. -/
theorem first_le (u v1 v0 : Nat) (hu : u < v1 * B32 + v0) (hv0 : v0 < B32) (hv1 : 2147483648 ≤ v1) : u / v1 ≤ B32 + 1 := by
  have : u / v1 < B32 + 2 := by
    rw [Nat.div_lt_iff_lt_mul (by omega)]
    have e : (B32 + 2) * v1 = v1 * B32 + 2 * v1 := by rw [Nat.add_mul, Nat.mul_comm]
    rw [e]
    simp only [B32] at *
    omega
  omega

theorem dig_id (u v1 v0 d qh rh : Nat) (e : u = qh * v1 + rh) : qh * (v1 * B32 + v0) + (B32 * rh + d) = u * B32 + d + qh * v0 := by
  rw [e, Nat.mul_add, Nat.add_mul, ← Nat.mul_assoc]
  generalize qh * v1 = t
  generalize qh * v0 = z
  simp only [B32]
  omega

/-- What fits is at most the digit. -/
theorem dig_fits (u v1 v0 d qh rh : Nat) (hv1 : 0 < v1) (e : u = qh * v1 + rh) (h : qh * v0 ≤ B32 * rh + d) : qh ≤ (u * B32 + d) / (v1 * B32 + v0) := by
  rw [Nat.le_div_iff_mul_le (by simp only [B32]; omega)]
  have := dig_id u v1 v0 d qh rh e
  omega

/-- What does not fit is above the digit. -/
theorem dig_over (u v1 v0 d qh rh : Nat) (hv1 : 0 < v1) (e : u = qh * v1 + rh) (h : B32 * rh + d < qh * v0) : (u * B32 + d) / (v1 * B32 + v0) < qh := by
  rw [Nat.div_lt_iff_lt_mul (by simp only [B32]; omega)]
  have := dig_id u v1 v0 d qh rh e
  omega

/-- Behind the break it fits. -/
theorem dig_break (v0 d qh rh : Nat) (hq : qh ≤ B32) (hv0 : v0 < B32) (hr : B32 ≤ rh) : qh * v0 ≤ B32 * rh + d := by
  have h1 : qh * v0 ≤ B32 * B32 := Nat.mul_le_mul hq (by omega)
  have h2 : B32 * B32 ≤ B32 * rh := Nat.mul_le_mul_left _ hr
  omega

/-- The loop's relation over one digit. -/
def Dig (u v1 v0 d qh rh : Nat) : Prop := u = qh * v1 + rh ∧ (u * B32 + d) / (v1 * B32 + v0) ≤ qh ∧ qh ≤ B32 + 1 ∧ rh < B32

theorem Dig.first (u v1 v0 d : Nat) (hv1 : 2147483648 ≤ v1) (hv1' : v1 < B32) (hv0 : v0 < B32) (hd : d < B32) (hu : u < v1 * B32 + v0) : Dig u v1 v0 d (u / v1) (u - u / v1 * v1) := by
  have h1 := Nat.div_add_mod' u v1
  have h2 := Nat.mod_lt u (show 0 < v1 by omega)
  refine ⟨by omega, dig_le_first u v1 v0 d (by omega) hd, first_le u v1 v0 hu hv0 hv1, by omega⟩

theorem dig_lower {u v1 qh rh : Nat} (e : u = qh * v1 + rh) (h : 0 < qh) : u = (qh - 1) * v1 + (rh + v1) := by
  obtain ⟨k, rfl⟩ : ∃ k, qh = k + 1 := ⟨qh - 1, by omega⟩
  rw [Nat.succ_mul] at e
  simp only [Nat.add_sub_cancel]
  omega

theorem Dig.above {u v1 v0 d qh rh : Nat} (h : Dig u v1 v0 d qh rh) (hv1 : 2147483648 ≤ v1) (hd : d < B32) (hu : u < v1 * B32 + v0) (c : B32 ≤ qh ∨ B32 * rh + d < qh * v0) :
    (u * B32 + d) / (v1 * B32 + v0) < qh := by
  obtain ⟨e, h1, h2, h3⟩ := h
  rcases c with c | c
  · exact Nat.lt_of_lt_of_le (dig_lt u (v1 * B32 + v0) d hu hd) c
  · exact dig_over u v1 v0 d qh rh (by omega) e c

/-- One round that goes on. -/
theorem Dig.next {u v1 v0 d qh rh : Nat} (h : Dig u v1 v0 d qh rh) (hv1 : 2147483648 ≤ v1) (hd : d < B32) (hu : u < v1 * B32 + v0) (c : B32 ≤ qh ∨ B32 * rh + d < qh * v0) (hr : rh + v1 < B32) :
    Dig u v1 v0 d (qh - 1) (rh + v1) ∧ 0 < qh := by
  have lt := h.above hv1 hd hu c
  obtain ⟨e, h1, h2, h3⟩ := h
  have hp : 0 < qh := Nat.lt_of_le_of_lt (Nat.zero_le _) lt
  exact ⟨⟨dig_lower e hp, Nat.le_sub_one_of_lt lt, Nat.le_trans (Nat.sub_le _ _) h2, hr⟩, hp⟩

/-- One round that breaks off: it is the digit. -/
theorem Dig.broke {u v1 v0 d qh rh : Nat} (h : Dig u v1 v0 d qh rh) (hv1 : 2147483648 ≤ v1) (hv0 : v0 < B32) (hd : d < B32) (hu : u < v1 * B32 + v0) (c : B32 ≤ qh ∨ B32 * rh + d < qh * v0) (hr : B32 ≤ rh + v1) :
    qh - 1 = (u * B32 + d) / (v1 * B32 + v0) ∧ 0 < qh := by
  have lt := h.above hv1 hd hu c
  obtain ⟨e, h1, h2, h3⟩ := h
  have hp : 0 < qh := Nat.lt_of_le_of_lt (Nat.zero_le _) lt
  have := dig_fits u v1 v0 d (qh - 1) (rh + v1) (by omega) (dig_lower e hp) (dig_break v0 d (qh - 1) (rh + v1) (by omega) hv0 hr)
  exact ⟨Nat.le_antisymm this (Nat.le_sub_one_of_lt lt), hp⟩

/-- The loop's end by its test: it is the digit. -/
theorem Dig.done {u v1 v0 d qh rh : Nat} (h : Dig u v1 v0 d qh rh) (hv1 : 2147483648 ≤ v1) (c : qh * v0 ≤ B32 * rh + d) :
    qh = (u * B32 + d) / (v1 * B32 + v0) := by
  obtain ⟨e, h1, h2, h3⟩ := h
  exact Nat.le_antisymm (dig_fits u v1 v0 d qh rh (by omega) e c) h1

theorem two_digits_at (u v d1 d0 B : Nat) (hv : 0 < v) :
    (u * (B * B) + (d1 * B + d0)) / v = (u * B + d1) / v * B + ((u * B + d1) % v * B + d0) / v ∧
    (u * (B * B) + (d1 * B + d0)) % v = ((u * B + d1) % v * B + d0) % v := by
  have h1 := Nat.div_add_mod' (u * B + d1) v
  generalize (u * B + d1) / v = q1 at h1 ⊢
  generalize (u * B + d1) % v = r1 at h1 ⊢
  have e : u * (B * B) + (d1 * B + d0) = (r1 * B + d0) + v * (q1 * B) := by
    have e1 : (u * B + d1) * B = u * (B * B) + d1 * B := by rw [Nat.add_mul, Nat.mul_assoc]
    have e2 : (q1 * v + r1) * B = v * (q1 * B) + r1 * B := by rw [Nat.add_mul, Nat.mul_comm q1 v, Nat.mul_assoc]
    rw [← Nat.add_assoc, ← e1, ← h1, e2]
    omega
  rw [e, Nat.add_mul_div_left _ _ hv, Nat.add_mul_mod_self_left]
  exact ⟨Nat.add_comm _ _, rfl⟩

/-- Two digits, one behind the other. -/
theorem two_digits (u v d1 d0 : Nat) (hv : 0 < v) :
    (u * B64 + (d1 * B32 + d0)) / v = (u * B32 + d1) / v * B32 + ((u * B32 + d1) % v * B32 + d0) / v ∧
    (u * B64 + (d1 * B32 + d0)) % v = ((u * B32 + d1) % v * B32 + d0) % v :=
  two_digits_at u v d1 d0 B32 hv

/-- Shifted by s (K is 2^s, L is 2^(64-s)): the upper word and the lower one. -/
theorem shifted (hi lo K L : Nat) (hKL : K * L = B64) : (hi * K + lo / L) * B64 + lo * K % B64 = (hi * B64 + lo) * K := by
  have hL : 0 < L := by
    rcases Nat.eq_zero_or_pos L with h | h
    · subst h; simp [B64] at hKL
    · exact h
  have hK : 0 < K := by
    rcases Nat.eq_zero_or_pos K with h | h
    · subst h; simp [B64] at hKL
    · exact h
  have h1 := Nat.div_add_mod' lo L
  have h2 := Nat.mod_lt lo hL
  generalize lo / L = a at *
  generalize lo % L = b at *
  have h3 : lo * K = a * B64 + b * K := by
    rw [← h1, Nat.add_mul, Nat.mul_assoc, Nat.mul_comm L K, hKL]
  have h4 : b * K < B64 := by
    rw [← hKL, Nat.mul_comm K L]
    exact Nat.mul_lt_mul_of_pos_right h2 hK
  have h5 : lo * K % B64 = b * K := by
    rw [h3, Nat.mul_comm a B64, Nat.mul_add_mod, Nat.mod_eq_of_lt h4]
  rw [h5, Nat.add_mul, Nat.add_mul, h3, Nat.mul_right_comm]
  omega

theorem shifted_div (N y K : Nat) (hK : 0 < K) : N * K / (y * K) = N / y ∧ N * K % (y * K) / K = N % y := by
  refine ⟨Nat.mul_div_mul_right N y hK, ?_⟩
  rw [Nat.mul_mod_mul_right, Nat.mul_div_cancel _ hK]

/-- The whole of it: out of the two digits of the shifted numbers. -/
theorem div64_whole (hi lo y K L : Nat) (hKL : K * L = B64) (hy : 0 < y)
    (u d1 d0 q1 r1 q0 : Nat) (hu : u = hi * K + lo / L) (hd : d1 * B32 + d0 = lo * K % B64)
    (h1 : q1 = (u * B32 + d1) / (y * K)) (hr1 : r1 = (u * B32 + d1) % (y * K)) (h0 : q0 = (r1 * B32 + d0) / (y * K)) :
    q1 * B32 + q0 = (hi * B64 + lo) / y ∧ (r1 * B32 + d0) % (y * K) / K = (hi * B64 + lo) % y := by
  have hK : 0 < K := by
    rcases Nat.eq_zero_or_pos K with h | h
    · subst h; simp [B64] at hKL
    · exact h
  have hv : 0 < y * K := Nat.mul_pos hy hK
  have t := two_digits u (y * K) d1 d0 hv
  rw [hd, hu, shifted hi lo K L hKL, ← hu, ← h1, ← hr1, ← h0] at t
  have s := shifted_div (hi * B64 + lo) y K hK
  exact ⟨by rw [← t.1, s.1], by rw [← t.2, s.2]⟩

end Ob

namespace Go.Proofs.YtdhbkhmknnlmnaaDoor
open Go.RowKit Go.Proofs
set_option linter.unusedVariables false

theorem wrapNat (a : Nat) (h : a < 18446744073709551616) : IntKind.u64.wrap (a : Int) = (a : Int) := by rw [IntKind.wrap_u64]; omega

theorem wrapNatDiv (a b : Nat) (h : a < 18446744073709551616) : IntKind.u64.wrap ((a : Int) / (b : Int)) = ((a / b : Nat) : Int) := by
  rw [← Int.natCast_ediv]
  exact wrapNat _ (Nat.lt_of_le_of_lt (Nat.div_le_self _ _) h)

set_option maxHeartbeats 400000 in
theorem div64_low (lo y : Nat) (w : World) (hl : lo < 18446744073709551616) (hy : y < 18446744073709551616) (h0 : 0 < y) :
    Calls Tryd.prog 66 #[.int .u64 0, .int .u64 lo, .int .u64 y] w fun e w' => e = .returned (.tuple #[.int .u64 ((lo / y : Nat) : Int), .int .u64 ((lo % y : Nat) : Int)]) ∧ ∃ n, w' = w.drewN n := by
  go_enter Tryd.func66, Tryd.ntmps66
  go_wp2
  go_quiet (fail)
  go_wp2
  go_ret2
  exact ⟨by rw [wrapNatDiv lo y hl]; simp, _, rfl⟩

theorem val_int {k : IntKind} {a b : Int} (h : a = b) : Value.int k a = .int k b := by rw [h]

theorem mul_small (a b : Nat) (ha : a < 4294967296) (hb : b < 4294967296) : ∃ z : Nat, Hid (z = a * b) ∧ IntKind.u64.wrap ((a : Int) * (b : Int)) = (z : Int) := by
  refine ⟨a * b, rfl, ?_⟩
  rw [← Int.natCast_mul]
  refine wrapNat _ ?_
  have : a * b ≤ 4294967295 * 4294967295 := Nat.mul_le_mul (by omega) (by omega)
  omega

theorem dig_broke {u v1 v0 d qh rh q : Nat} (h : Ob.Dig u v1 v0 d qh rh) (hv1 : 2147483648 ≤ v1) (hv0 : v0 < 4294967296) (hd : d < 4294967296) (hu : u < v1 * Ob.B32 + v0) (c : Ob.B32 ≤ qh ∨ Ob.B32 * rh + d < qh * v0) (hr : (4294967296 : Int) ≤ (rh : Int) + (v1 : Int))
    (hq : q = (u * Ob.B32 + d) / (v1 * Ob.B32 + v0)) : Hid ((qh : Int) - 1 = (q : Int)) := by
  have := h.broke hv1 hv0 hd hu c (by simp only [Ob.B32]; omega)
  rw [← hq] at this
  show (qh : Int) - 1 = (q : Int)
  omega

set_option maxRecDepth 4000 in
set_option maxHeartbeats 1000000 in
theorem div64_core (hi lo y s u v v1 v0 t d1 d0 : Nat) (w : World) (hl : lo < 18446744073709551616) (hy : y < 18446744073709551616) (h0 : 0 < hi) (h1 : hi < y)
    (hs : s < 64)
    (hlz : ∀ w, Calls Tryd.prog 75 #[.int .u64 y] w fun e w' => e = .returned (.int .i64 s) ∧ w = w')
    (e1 : IntKind.u64.wrap ((y : Int) * 2 ^ s) = (v : Int)) (e2 : (v : Int) / 4294967296 = (v1 : Int)) (e3 : bits .and .u64 (v : Int) 4294967295 = (v0 : Int))
    (e4 : bits .or .u64 (IntKind.u64.wrap ((hi : Int) * 2 ^ s)) ((lo : Int) / 2 ^ (64 - s)) = (u : Int))
    (e5 : IntKind.u64.wrap ((lo : Int) * 2 ^ s) = (t : Int)) (e6 : (t : Int) / 4294967296 = (d1 : Int)) (e7 : bits .and .u64 (t : Int) 4294967295 = (d0 : Int))
    (hv1 : 2147483648 ≤ v1) (hv1' : v1 < 4294967296) (hv0 : v0 < 4294967296) (hd1 : d1 < 4294967296) (hd0 : d0 < 4294967296)
    (hu : u < 18446744073709551616)
    (huv : Hid (u < v1 * Ob.B32 + v0))
    (qf rf : Nat) (hqf : qf ≤ 4294967297) (hrf : rf < 4294967296) (f1 : (u : Int) / (v1 : Int) = (qf : Int)) (f2 : IntKind.u64.wrap ((u : Int) - IntKind.u64.wrap ((qf : Int) * (v1 : Int))) = rf) (hfirst : Hid (Ob.Dig u v1 v0 d1 qf rf))
    (q1 r1 : Nat) (hq1 : Hid (q1 = (u * Ob.B32 + d1) / (v1 * Ob.B32 + v0))) (hr1 : r1 < 18446744073709551616) (huv2 : Hid (r1 < v1 * Ob.B32 + v0))
    (g1 : IntKind.u64.wrap (IntKind.u64.wrap (IntKind.u64.wrap ((u : Int) * 4294967296) + (d1 : Int)) - IntKind.u64.wrap ((q1 : Int) * (v : Int))) = (r1 : Int))
    (qg rg : Nat) (hqg : qg ≤ 4294967297) (hrg : rg < 4294967296) (g2 : (r1 : Int) / (v1 : Int) = (qg : Int)) (g3 : IntKind.u64.wrap ((r1 : Int) - IntKind.u64.wrap ((qg : Int) * (v1 : Int))) = rg) (hfirst2 : Hid (Ob.Dig r1 v1 v0 d0 qg rg))
    (q0 r0 : Nat) (hq0 : Hid (q0 = (r1 * Ob.B32 + d0) / (v1 * Ob.B32 + v0))) (hr0 : r0 < 18446744073709551616)
    (Q R : Nat) (k1 : IntKind.u64.wrap (IntKind.u64.wrap ((q1 : Int) * 4294967296) + (q0 : Int)) = (Q : Int))
    (k2 : IntKind.u64.wrap (IntKind.u64.wrap (IntKind.u64.wrap ((r1 : Int) * 4294967296) + (d0 : Int)) - IntKind.u64.wrap ((q0 : Int) * (v : Int))) = (r0 : Int))
    (k3 : (r0 : Int) / 2 ^ s = (R : Int)) :
    Calls Tryd.prog 66 #[.int .u64 hi, .int .u64 lo, .int .u64 y] w fun e w' => e = .returned (.tuple #[.int .u64 Q, .int .u64 R]) ∧ w' = w := by
  go_enter Tryd.func66, Tryd.ntmps66
  go_upto_block 0 with (go_at_call 75; refine (hlz _).mono ?_; rintro e w' ⟨rfl, rfl⟩)
  clear hlz e1 e2 e3 e4 e5 e6 e7 f1 f2
  go_cut [15, 16] (fun q _ w1 => q = .int .u64 q1 ∧ w1 = w)
  case first =>
    go_wp2
    go_loop [15, 16] (fun q r => ∃ qh rh : Nat, qh ≤ 4294967297 ∧ rh < 4294967296 ∧ q = .int .u64 qh ∧ r = .int .u64 rh ∧ Hid (Ob.Dig u v1 v0 d1 qh rh)) (fun q _ => (intOf q).toNat)
    case atStart => exact ⟨qf, rf, hqf, hrf, rfl, rfl, hfirst⟩
    case round =>
      clear g1 g2 g3 k1 k2 k3 hr1 hr0 hfirst hfirst2 hqf hrf hqg hrg hl hy hu hq0 huv2
      obtain ⟨qh, rh, hqh, hrh, rfl, rfl, hD⟩ := hrel
      by_cases c1 : 4294967296 ≤ qh
      · have c1i : ¬ ((qh : Int) < 4294967296) := by omega
        have c1j : (4294967296 : Int) ≤ (qh : Int) := by omega
        by_cases c3 : (4294967296 : Int) ≤ (rh : Int) + (v1 : Int)
        · have c3i : ¬ ((rh : Int) + (v1 : Int) < 4294967296) := by omega
          have hb : Hid ((qh : Int) - 1 = (q1 : Int)) := dig_broke hD.out hv1 hv0 hd1 huv.out (Or.inl c1) (by omega) hq1.out
          clear c1
          go_wp2
          go_meet
          case rel => exact ⟨val_int hb.out, rfl⟩
        · have c3i : (rh : Int) + (v1 : Int) < 4294967296 := by omega
          have hb := hD.out.next hv1 hd1 huv.out (Or.inl c1) (by simp only [Ob.B32]; omega)
          have hN : Hid (Ob.Dig u v1 v0 d1 (qh - 1) (rh + v1)) := hb.1
          clear c1 hb
          go_wp2
          go_round
          case rel => exact ⟨qh - 1, rh + v1, by omega, by omega, by go_num, by go_num, hN⟩
          case measure => simp [intOf]; omega
      · have c1i : (qh : Int) < 4294967296 := by omega
        have c1j : ¬ ((4294967296 : Int) ≤ (qh : Int)) := by omega
        obtain ⟨z, hz, hm⟩ := mul_small qh v0 (by omega) hv0
        by_cases c2 : 4294967296 * (rh : Int) + (d1 : Int) < (z : Int)
        · have c2' : Ob.B32 ≤ qh ∨ Ob.B32 * rh + d1 < qh * v0 := Or.inr (by have := hz.out; simp only [Ob.B32]; omega)
          by_cases c3 : (4294967296 : Int) ≤ (rh : Int) + (v1 : Int)
          · have c3i : ¬ ((rh : Int) + (v1 : Int) < 4294967296) := by omega
            have hb : Hid ((qh : Int) - 1 = (q1 : Int)) := dig_broke hD.out hv1 hv0 hd1 huv.out c2' (by omega) hq1.out
            have hp : 0 < qh := (hD.out.broke hv1 hv0 hd1 huv.out c2' (by simp only [Ob.B32]; omega)).2
            clear c1 c2'
            go_wp2
            go_meet
            case rel => exact ⟨val_int hb.out, rfl⟩
          · have c3i : (rh : Int) + (v1 : Int) < 4294967296 := by omega
            have hb := hD.out.next hv1 hd1 huv.out c2' (by simp only [Ob.B32]; omega)
            have hN : Hid (Ob.Dig u v1 v0 d1 (qh - 1) (rh + v1)) := hb.1
            have hp : 0 < qh := hb.2
            clear c1 c2' hb
            go_wp2
            go_round
            case rel => exact ⟨qh - 1, rh + v1, by omega, by omega, by go_num, by go_num, hN⟩
            case measure => simp [intOf]; omega
        · have hb : Hid ((qh : Int) = (q1 : Int)) := by
            have := hD.out.done hv1 (by have := hz.out; simp only [Ob.B32]; omega)
            rw [← hq1.out] at this
            exact congrArg Int.ofNat this
          clear c1
          go_wp2
          go_meet
          case rel => exact ⟨val_int hb.out, rfl⟩
  case rest =>
    obtain ⟨rfl, rfl⟩ := hcut
    clear hfirst hqf hrf
    go_upto_block 2 with fail
    clear g1 g2 g3
    go_cut [18, 16] (fun q _ w1 => q = .int .u64 q0 ∧ w1 = wc)
    case first =>
      go_wp2
      go_loop [18, 16] (fun q r => ∃ qh rh : Nat, qh ≤ 4294967297 ∧ rh < 4294967296 ∧ q = .int .u64 qh ∧ r = .int .u64 rh ∧ Hid (Ob.Dig r1 v1 v0 d0 qh rh)) (fun q _ => (intOf q).toNat)
      case atStart => exact ⟨qg, rg, hqg, hrg, rfl, rfl, hfirst2⟩
      case round =>
        clear k1 k2 k3 hr0 hfirst2 hqg hrg hl hy hu hq1 huv hr1
        obtain ⟨qh, rh, hqh, hrh, rfl, rfl, hD⟩ := hrel
        by_cases c1 : 4294967296 ≤ qh
        · have c1i : ¬ ((qh : Int) < 4294967296) := by omega
          have c1j : (4294967296 : Int) ≤ (qh : Int) := by omega
          by_cases c3 : (4294967296 : Int) ≤ (rh : Int) + (v1 : Int)
          · have c3i : ¬ ((rh : Int) + (v1 : Int) < 4294967296) := by omega
            have hb : Hid ((qh : Int) - 1 = (q0 : Int)) := dig_broke hD.out hv1 hv0 hd0 huv2.out (Or.inl c1) (by omega) hq0.out
            clear c1
            go_wp2
            go_meet
            case rel => exact ⟨val_int hb.out, rfl⟩
          · have c3i : (rh : Int) + (v1 : Int) < 4294967296 := by omega
            have hb := hD.out.next hv1 hd0 huv2.out (Or.inl c1) (by simp only [Ob.B32]; omega)
            have hN : Hid (Ob.Dig r1 v1 v0 d0 (qh - 1) (rh + v1)) := hb.1
            clear c1 hb
            go_wp2
            go_round
            case rel => exact ⟨qh - 1, rh + v1, by omega, by omega, by go_num, by go_num, hN⟩
            case measure => simp [intOf]; omega
        · have c1i : (qh : Int) < 4294967296 := by omega
          have c1j : ¬ ((4294967296 : Int) ≤ (qh : Int)) := by omega
          obtain ⟨z, hz, hm⟩ := mul_small qh v0 (by omega) hv0
          by_cases c2 : 4294967296 * (rh : Int) + (d0 : Int) < (z : Int)
          · have c2' : Ob.B32 ≤ qh ∨ Ob.B32 * rh + d0 < qh * v0 := Or.inr (by have := hz.out; simp only [Ob.B32]; omega)
            by_cases c3 : (4294967296 : Int) ≤ (rh : Int) + (v1 : Int)
            · have c3i : ¬ ((rh : Int) + (v1 : Int) < 4294967296) := by omega
              have hb : Hid ((qh : Int) - 1 = (q0 : Int)) := dig_broke hD.out hv1 hv0 hd0 huv2.out c2' (by omega) hq0.out
              have hp : 0 < qh := (hD.out.broke hv1 hv0 hd0 huv2.out c2' (by simp only [Ob.B32]; omega)).2
              clear c1 c2'
              go_wp2
              go_meet
              case rel => exact ⟨val_int hb.out, rfl⟩
            · have c3i : (rh : Int) + (v1 : Int) < 4294967296 := by omega
              have hb := hD.out.next hv1 hd0 huv2.out c2' (by simp only [Ob.B32]; omega)
              have hN : Hid (Ob.Dig r1 v1 v0 d0 (qh - 1) (rh + v1)) := hb.1
              have hp : 0 < qh := hb.2
              clear c1 c2' hb
              go_wp2
              go_round
              case rel => exact ⟨qh - 1, rh + v1, by omega, by omega, by go_num, by go_num, hN⟩
              case measure => simp [intOf]; omega
          · have hb : Hid ((qh : Int) = (q0 : Int)) := by
              have := hD.out.done hv1 (by have := hz.out; simp only [Ob.B32]; omega)
              rw [← hq0.out] at this
              exact congrArg Int.ofNat this
            clear c1
            go_wp2
            go_meet
            case rel => exact ⟨val_int hb.out, rfl⟩
    case rest =>
      obtain ⟨rfl, rfl⟩ := hcut
      go_wp2
      go_ret2
      exact ⟨rfl, rfl⟩

theorem bitLenAux_bounds : ∀ (f x : Nat), x < 2 ^ f → x ≠ 0 → 1 ≤ Lib.bitLenAux f x ∧ Lib.bitLenAux f x ≤ f ∧ 2 ^ (Lib.bitLenAux f x - 1) ≤ x ∧ x < 2 ^ Lib.bitLenAux f x
  | 0, x, hx, h0 => by simp at hx; exact absurd hx h0
  | f + 1, x, hx, h0 => by
    simp only [Lib.bitLenAux, if_neg h0]
    by_cases h1 : x / 2 = 0
    · have e : Lib.bitLenAux f (x / 2) = 0 := by rw [h1]; cases f <;> simp [Lib.bitLenAux]
      rw [e]
      have : x = 1 := by omega
      subst this
      simp
    · have ih := bitLenAux_bounds f (x / 2) (by rw [Nat.pow_succ] at hx; omega) h1
      generalize Lib.bitLenAux f (x / 2) = b at ih ⊢
      obtain ⟨c, rfl⟩ : ∃ c, b = c + 1 := ⟨b - 1, by omega⟩
      have e1 : 2 ^ (1 + (c + 1) - 1) = 2 ^ c * 2 := by rw [← Nat.pow_succ]; congr 1; omega
      have e2 : 2 ^ (1 + (c + 1)) = 2 ^ (c + 1) * 2 := by rw [← Nat.pow_succ]; congr 1; omega
      rw [e1, e2]
      simp only [Nat.add_sub_cancel] at ih
      omega

/-- How far y is shifted, and that it then has its highest bit. -/
theorem shift_of (y : Nat) (hy : y < 18446744073709551616) (h0 : 0 < y) : ∃ s K L : Nat, s < 64 ∧ K = 2 ^ s ∧ L = 2 ^ (64 - s) ∧ K * L = Ob.B64 ∧ 9223372036854775808 ≤ y * K ∧ y * K < Ob.B64 ∧
    (64 : Int) - (Lib.bitLen y : Int) = (s : Int) := by
  obtain ⟨b1, b2, b3, b4⟩ := bitLenAux_bounds 64 y hy (by omega)
  change 1 ≤ Lib.bitLen y at b1
  change Lib.bitLen y ≤ 64 at b2
  change 2 ^ (Lib.bitLen y - 1) ≤ y at b3
  change y < 2 ^ Lib.bitLen y at b4
  generalize Lib.bitLen y = b at b1 b2 b3 b4 ⊢
  have hpos : 0 < 2 ^ (64 - b) := Nat.two_pow_pos _
  refine ⟨64 - b, 2 ^ (64 - b), 2 ^ (64 - (64 - b)), by omega, rfl, rfl, ?_, ?_, ?_, by omega⟩
  · rw [← Nat.pow_add]
    have : 64 - b + (64 - (64 - b)) = 64 := by omega
    rw [this]
  · have h := Nat.mul_le_mul_right (2 ^ (64 - b)) b3
    rw [← Nat.pow_add] at h
    have e : b - 1 + (64 - b) = 63 := by omega
    rw [e] at h
    exact h
  · have h := Nat.mul_lt_mul_of_pos_right b4 hpos
    rw [← Nat.pow_add] at h
    have e : b + (64 - b) = 64 := by omega
    rw [e] at h
    exact h

theorem mask32 (a : Nat) (ha : a < 18446744073709551616) : bits .and .u64 (a : Int) 4294967295 = ((a % 4294967296 : Nat) : Int) := by
  have h := bits_and_u64_nat a 4294967295 ha (by omega)
  have e : a &&& 4294967295 = a % 4294967296 := Nat.and_two_pow_sub_one_eq_mod a 32
  rw [e] at h
  exact h

theorem wrapMod (a : Nat) : IntKind.u64.wrap (a : Int) = ((a % 18446744073709551616 : Nat) : Int) := by rw [IntKind.wrap_u64]; omega

/-- A difference that is reckoned with wraps, and that is at least 0 and small. -/
theorem wrap_rest (u d q v r : Nat) (hr : r < 18446744073709551616) (h : u * 4294967296 + d = q * v + r) :
    IntKind.u64.wrap (IntKind.u64.wrap (IntKind.u64.wrap ((u : Int) * 4294967296) + (d : Int)) - IntKind.u64.wrap ((q : Int) * (v : Int))) = (r : Int) := by
  have e1 : (u : Int) * 4294967296 = ((u * 4294967296 : Nat) : Int) := by simp
  rw [e1, ← Int.natCast_mul]
  generalize q * v = z at h ⊢
  generalize u * 4294967296 = x at h ⊢
  simp only [IntKind.wrap_u64]
  omega

theorem first_rest (u v1 : Nat) (hu : u < 18446744073709551616) : IntKind.u64.wrap ((u : Int) - IntKind.u64.wrap (((u / v1 : Nat) : Int) * (v1 : Int))) = ((u - u / v1 * v1 : Nat) : Int) := by
  have h := Nat.div_mul_le_self u v1
  rw [← Int.natCast_mul]
  generalize u / v1 * v1 = z at h ⊢
  simp only [IntKind.wrap_u64]
  omega

theorem div64_high (hi lo y : Nat) (w : World) (hl : lo < 18446744073709551616) (hy : y < 18446744073709551616) (h0 : 0 < hi) (h1 : hi < y) :
    Calls Tryd.prog 66 #[.int .u64 hi, .int .u64 lo, .int .u64 y] w fun e w' => e = .returned (.tuple #[.int .u64 (((hi * Ob.B64 + lo) / y : Nat) : Int), .int .u64 (((hi * Ob.B64 + lo) % y : Nat) : Int)]) ∧ w' = w := by
  obtain ⟨s, K, L, hs, hK, hL, hKL, hlo, hhi, hb⟩ := shift_of y hy (by omega)
  have hKp : 0 < K := by rw [hK]; exact Nat.two_pow_pos _
  have hLp : 0 < L := by rw [hL]; exact Nat.two_pow_pos _
  have hKi : (2 : Int) ^ s = (K : Int) := by rw [hK]; exact (Int.natCast_pow 2 s).symm
  have hLi : (2 : Int) ^ (64 - s) = (L : Int) := by rw [hL]; exact (Int.natCast_pow 2 (64 - s)).symm
  -- the shifted divisor, and its two digits
  obtain ⟨v, hv⟩ : ∃ v, v = y * K := ⟨_, rfl⟩
  obtain ⟨u, hu⟩ : ∃ u, u = hi * K + lo / L := ⟨_, rfl⟩
  obtain ⟨t, ht⟩ : ∃ t, t = lo * K % Ob.B64 := ⟨_, rfl⟩
  have hvd : v / Ob.B32 * Ob.B32 + v % Ob.B32 = v := Nat.div_add_mod' v Ob.B32
  have htd : t / Ob.B32 * Ob.B32 + t % Ob.B32 = t := Nat.div_add_mod' t Ob.B32
  have hvlt : v < 18446744073709551616 := by rw [hv]; exact hhi
  have htlt : t < 18446744073709551616 := by rw [ht]; exact Nat.mod_lt _ (by decide)
  have hloL : lo / L < K := by
    rw [Nat.div_lt_iff_lt_mul hLp, hKL]
    exact hl
  have huv : u < v := by
    have h2 : (hi + 1) * K ≤ y * K := Nat.mul_le_mul_right _ h1
    rw [Nat.succ_mul] at h2
    omega
  have hhiK : hi * K < 18446744073709551616 := by
    have h2 : hi * K ≤ u := by rw [hu]; exact Nat.le_add_right _ _
    omega
  have hv1 : 2147483648 ≤ v / Ob.B32 := by simp only [Ob.B32]; omega
  have hv1' : v / Ob.B32 < 4294967296 := by simp only [Ob.B32]; omega
  have huv' : u < v / Ob.B32 * Ob.B32 + v % Ob.B32 := by omega
  have hv0 : v % Ob.B32 < 4294967296 := Nat.mod_lt _ (by decide)
  have hd1 : t / Ob.B32 < 4294967296 := by simp only [Ob.B32]; omega
  have hd0 : t % Ob.B32 < 4294967296 := Nat.mod_lt _ (by decide)
  have e4 : bits .or .u64 (IntKind.u64.wrap ((hi : Int) * 2 ^ s)) ((lo : Int) / 2 ^ (64 - s)) = (u : Int) := by
    rw [hKi, hLi, ← Int.natCast_mul, wrapNat _ hhiK, ← Int.natCast_ediv, bits_or_u64_nat _ _ hhiK (by omega)]
    have := Nat.shiftLeft_add_eq_or_of_lt (b := lo / L) (i := s) (by rw [← hK]; exact hloL) hi
    rw [Nat.shiftLeft_eq, ← hK] at this
    rw [← this, hu]
  have first1 := Ob.Dig.first u (v / Ob.B32) (v % Ob.B32) (t / Ob.B32) hv1 hv1' hv0 hd1 huv'
  obtain ⟨r1, hr1⟩ : ∃ r1, r1 = (u * Ob.B32 + t / Ob.B32) % v := ⟨_, rfl⟩
  have hr1v : r1 < v := by rw [hr1]; exact Nat.mod_lt _ (by omega)
  have first2 := Ob.Dig.first r1 (v / Ob.B32) (v % Ob.B32) (t % Ob.B32) hv1 hv1' hv0 hd0 (by omega)
  obtain ⟨q1, hq1⟩ : ∃ q1, q1 = (u * Ob.B32 + t / Ob.B32) / v := ⟨_, rfl⟩
  obtain ⟨q0, hq0⟩ : ∃ q0, q0 = (r1 * Ob.B32 + t % Ob.B32) / v := ⟨_, rfl⟩
  obtain ⟨r0, hr0⟩ : ∃ r0, r0 = (r1 * Ob.B32 + t % Ob.B32) % v := ⟨_, rfl⟩
  have hr0v : r0 < v := by rw [hr0]; exact Nat.mod_lt _ (by omega)
  have a1 : u * 4294967296 + t / Ob.B32 = q1 * v + r1 := by rw [hq1, hr1]; exact (Nat.div_add_mod' _ _).symm
  have a0 : r1 * 4294967296 + t % Ob.B32 = q0 * v + r0 := by rw [hq0, hr0]; exact (Nat.div_add_mod' _ _).symm
  have hq1b : q1 < Ob.B32 := by rw [hq1]; exact Ob.dig_lt u v _ huv hd1
  have hq0b : q0 < Ob.B32 := by rw [hq0]; exact Ob.dig_lt r1 v _ hr1v hd0
  have whole := Ob.div64_whole hi lo y K L hKL (by omega) u (t / Ob.B32) (t % Ob.B32) q1 r1 q0 hu (htd.trans ht) (by rw [← hv]; exact hq1) (by rw [← hv]; exact hr1) (by rw [← hv]; exact hq0)
  rw [← hv, ← hr0] at whole
  have hlz : ∀ w, Calls Tryd.prog 75 #[.int .u64 y] w fun e w' => e = .returned (.int .i64 s) ∧ w = w' := fun w =>
    (Tryd.bits_LeadingZeros64 (y : Int) w (by omega) (by omega)).mono fun e w' ⟨he, hw⟩ => ⟨by rw [he, Int.toNat_natCast, hb], hw.symm⟩
  refine div64_core hi lo y s u v (v / Ob.B32) (v % Ob.B32) t (t / Ob.B32) (t % Ob.B32) w hl hy h0 h1 hs hlz
    (by rw [hKi, ← Int.natCast_mul, wrapNat _ hhi, hv]) (Int.natCast_ediv v 4294967296).symm (mask32 v hvlt) e4
    (by rw [hKi, ← Int.natCast_mul, wrapMod, ht]) (Int.natCast_ediv t 4294967296).symm (mask32 t htlt)
    hv1 hv1' hv0 hd1 hd0 (by omega) huv' (u / (v / Ob.B32)) (u - u / (v / Ob.B32) * (v / Ob.B32)) (first1.2.2.1) (first1.2.2.2) (Int.natCast_ediv u _).symm (first_rest u _ (by omega)) first1
    q1 r1 (by rw [hvd]; exact hq1) (by omega) (by show r1 < _; omega) (wrap_rest u _ q1 v r1 (by omega) a1)
    (r1 / (v / Ob.B32)) (r1 - r1 / (v / Ob.B32) * (v / Ob.B32)) (first2.2.2.1) (first2.2.2.2) (Int.natCast_ediv r1 _).symm (first_rest r1 _ (by omega)) first2
    q0 r0 (by rw [hvd]; exact hq0) (by omega) _ _ ?_ (wrap_rest r1 _ q0 v r0 (by omega) a0) ?_
  · rw [← whole.1]
    simp only [IntKind.wrap_u64, Ob.B32] at *
    omega
  · rw [← whole.2, hKi]
    exact (Int.natCast_ediv r0 K).symm

/-- math/bits.Div64 at a divisor above the upper word: the quotient and the remainder. -/
theorem div64_any (hi lo y : Nat) (w : World) (hl : lo < 18446744073709551616) (hy : y < 18446744073709551616) (h1 : hi < y) :
    Calls Tryd.prog 66 #[.int .u64 hi, .int .u64 lo, .int .u64 y] w fun e w' => e = .returned (.tuple #[.int .u64 (((hi * Ob.B64 + lo) / y : Nat) : Int), .int .u64 (((hi * Ob.B64 + lo) % y : Nat) : Int)]) ∧ ∃ n, w' = w.drewN n := by
  by_cases h0 : hi = 0
  · subst h0
    have e : 0 * Ob.B64 + lo = lo := by rw [Nat.zero_mul, Nat.zero_add]
    rw [e]
    exact div64_low lo y w hl hy h1
  · exact (div64_high hi lo y w hl hy (by omega) h1).mono fun e w' ⟨he, hw⟩ => ⟨he, 0, hw⟩
end Go.Proofs.YtdhbkhmknnlmnaaDoor

namespace Ob

theorem mul_mod_left (a b m : Nat) : (a % m) * b % m = a * b % m := by rw [Nat.mul_mod, Nat.mod_mod, ← Nat.mul_mod]
theorem mul_mod_right (a b m : Nat) : a * (b % m) % m = a * b % m := by rw [Nat.mul_mod, Nat.mod_mod, ← Nat.mul_mod]
theorem pow_mod_left (a e m : Nat) : (a % m) ^ e % m = a ^ e % m := (Nat.pow_mod a e m).symm
theorem mul_congr {a b c d m : Nat} (h1 : a % m = b % m) (h2 : c % m = d % m) : a * c % m = b * d % m := by rw [Nat.mul_mod, h1, h2, ← Nat.mul_mod]

theorem square_pow (A k m : Nat) : (A * A % m) ^ k % m = A ^ (2 * k) % m := by
  rw [pow_mod_left, ← Nat.pow_two, ← Nat.pow_mul]

/-- A round of a power by squaring, from the lowest bit on. -/
theorem pow_even (m p A E : Nat) (h : E % 2 = 0) : p * (A * A % m) ^ (E / 2) % m = p * A ^ E % m := by
  have e : 2 * (E / 2) = E := by omega
  rw [Nat.mul_mod, square_pow, e, ← Nat.mul_mod]
theorem pow_odd (m p A E : Nat) (h : E % 2 = 1) : (p * A % m) * (A * A % m) ^ (E / 2) % m = p * A ^ E % m := by
  have e : 2 * (E / 2) + 1 = E := by omega
  have e2 : A ^ E = A * A ^ (2 * (E / 2)) := by rw [← Nat.pow_succ', Nat.succ_eq_add_one, e]
  rw [mul_mod_left, Nat.mul_mod, square_pow, ← Nat.mul_mod, e2, Nat.mul_assoc]

/-- A round of a product by doubling, from the highest bit on. -/
theorem shr_step (y k : Nat) : y / 2 ^ k = 2 * (y / 2 ^ (k + 1)) + y / 2 ^ k % 2 := by
  have : y / 2 ^ (k + 1) = y / 2 ^ k / 2 := by rw [Nat.pow_succ, Nat.div_div_eq_div_mul]
  omega

theorem dbl_mod (m o : Nat) : (o % m + o % m) % m = 2 * o % m := by
  rw [← Nat.two_mul, mul_mod_right]

theorem mul_bit (m x y k : Nat) : (x * (y / 2 ^ k)) % m = ((x * (y / 2 ^ (k + 1)) % m + x * (y / 2 ^ (k + 1)) % m) % m + x * (y / 2 ^ k % 2)) % m := by
  have e : x * (y / 2 ^ k) = x * (y / 2 ^ (k + 1)) + x * (y / 2 ^ (k + 1)) + x * (y / 2 ^ k % 2) := by
    have h := shr_step y k
    generalize y / 2 ^ k % 2 = b at h ⊢
    rw [h, Nat.mul_add, Nat.mul_left_comm, Nat.two_mul]
  rw [e, Nat.add_mod, Nat.add_mod (x * (y / 2 ^ (k + 1))), Nat.add_mod_mod]

/-- A round of a power, from the highest bit on. -/
theorem pow_bit (m a e k : Nat) : a ^ (e / 2 ^ k) % m = ((a ^ (e / 2 ^ (k + 1)) % m) * (a ^ (e / 2 ^ (k + 1)) % m) % m * a ^ (e / 2 ^ k % 2)) % m := by
  have h := shr_step e k
  generalize e / 2 ^ k % 2 = b at h ⊢
  rw [h, Nat.pow_add, Nat.two_mul, Nat.pow_add, ← Nat.mul_mod (a ^ (e / 2 ^ (k + 1))) (a ^ (e / 2 ^ (k + 1))) m, mul_mod_left]
end Ob

namespace Go.Proofs.YtdhbkhmknnlmnaaDoor
open Go.RowKit Go.Proofs
set_option linter.unusedVariables false

theorem ret_int {k : IntKind} {a b : Int} (h : a = b) : Ending.returned (.int k a) = .returned (.int k b) := by rw [h]

theorem isModulus_yes (m : Nat) (w : World) (h1 : 2 ≤ m) (h2 : m ≤ 4611686018427387904) :
    Calls Tryd.prog 46 #[.int .u64 m] w fun e w' => e = .returned (.bool true) ∧ w = w' := by
  have i1 : (2 : Int) ≤ (m : Int) := by omega
  have i2 : (m : Int) ≤ 4611686018427387904 := by omega
  go_enter Tryd.func46, Tryd.ntmps46
  go_wp2
  go_ret
  exact ⟨rfl, rfl⟩

theorem isModulus_no (m : Nat) (w : World) (h : m < 2 ∨ 4611686018427387904 < m) :
    Calls Tryd.prog 46 #[.int .u64 m] w fun e w' => e = .returned (.bool false) ∧ w = w' := by
  rcases h with h | h
  · have i1 : ¬ (2 : Int) ≤ (m : Int) := by omega
    have i2 : (m : Int) < 2 := by omega
    go_enter Tryd.func46, Tryd.ntmps46
    go_wp2
    go_ret
    exact ⟨rfl, rfl⟩
  · have i1 : (2 : Int) ≤ (m : Int) := by omega
    have i2 : ¬ (m : Int) ≤ 4611686018427387904 := by omega
    have i3 : (4611686018427387904 : Int) < (m : Int) := by omega
    go_enter Tryd.func46, Tryd.ntmps46
    go_wp2
    go_ret
    exact ⟨rfl, rfl⟩

theorem rest_any (m a : Nat) (w : World) (hm : 0 < m) (ha : a < 18446744073709551616) :
    Calls Tryd.prog 48 #[.int .u64 m, .int .u64 a] w fun e w' => e = .returned (.int .u64 ((a % m : Nat) : Int)) ∧ w = w' := by
  by_cases h : a < m
  · have e : Hid (a % m = a) := Nat.mod_eq_of_lt h
    go_enter Tryd.func48, Tryd.ntmps48
    go_wp2
    go_ret
    exact ⟨ret_int (by rw [e.out]), rfl⟩
  · go_enter Tryd.func48, Tryd.ntmps48
    go_wp2
    go_ret
    exact ⟨ret_int (by simp), rfl⟩

theorem addRests_any (m a b : Nat) (w : World) (hm : m ≤ 4611686018427387904) (ha : a ≤ m) (hb : b ≤ m) (hab : a + b < 2 * m) :
    Calls Tryd.prog 64 #[.int .u64 m, .int .u64 a, .int .u64 b] w fun e w' => e = .returned (.int .u64 (((a + b) % m : Nat) : Int)) ∧ w = w' := by
  by_cases h : m ≤ a + b
  · have e : Hid ((a + b) % m = a + b - m) := by
      show (a + b) % m = a + b - m
      rw [Nat.mod_eq_sub_mod h, Nat.mod_eq_of_lt (by omega)]
    go_enter Tryd.func64, Tryd.ntmps64
    go_wp2
    go_ret
    exact ⟨ret_int (by rw [e.out]; omega), rfl⟩
  · have e : Hid ((a + b) % m = a + b) := Nat.mod_eq_of_lt (by omega)
    go_enter Tryd.func64, Tryd.ntmps64
    go_wp2
    go_ret
    exact ⟨ret_int (by rw [e.out]; omega), rfl⟩

theorem mulRests_core (m a b hi lo q r : Nat) (w : World)
    (hmul : ∀ w, Calls Tryd.prog 65 #[.int .u64 a, .int .u64 b] w fun e w' => e = .returned (.tuple #[.int .u64 hi, .int .u64 lo]) ∧ w = w')
    (hdiv : ∀ w, Calls Tryd.prog 66 #[.int .u64 hi, .int .u64 lo, .int .u64 m] w fun e w' => e = .returned (.tuple #[.int .u64 q, .int .u64 r]) ∧ ∃ n, w' = w.drewN n) :
    Calls Tryd.prog 47 #[.int .u64 m, .int .u64 a, .int .u64 b] w fun e w' => e = .returned (.int .u64 r) ∧ ∃ n, w' = w.drewN n := by
  go_enter Tryd.func47, Tryd.ntmps47
  go_wp2_with (first | (go_at_call 65; refine (hmul _).mono ?_; rintro e w' ⟨rfl, rfl⟩) | (go_at_call 66; refine (hdiv _).mono ?_; rintro e w' ⟨rfl, n, rfl⟩))
  go_ret
  exact ⟨rfl, _, rfl⟩

theorem mulRests_any (m a b : Nat) (w : World) (hm : m < 18446744073709551616) (ha : a < m) (hb : b < m) :
    Calls Tryd.prog 47 #[.int .u64 m, .int .u64 a, .int .u64 b] w fun e w' => e = .returned (.int .u64 ((a * b % m : Nat) : Int)) ∧ ∃ n, w' = w.drewN n := by
  have hlt : a * b < m * 18446744073709551616 := Nat.mul_lt_mul_of_lt_of_lt ha (by omega)
  have hhi : a * b / 18446744073709551616 < m := by rw [Nat.div_lt_iff_lt_mul (by decide)]; exact hlt
  have hd := Nat.div_add_mod' (a * b) 18446744073709551616
  have := mulRests_core m a b _ _ _ _ w (fun w => (Tryd.bits_Mul64 a b (by omega) (by omega) w).mono fun e w' ⟨he, hw⟩ => ⟨he, hw.symm⟩)
    (fun w => div64_any _ _ m w (Nat.mod_lt _ (by decide)) hm hhi)
  rwa [hd] at this

theorem and_one (a : Nat) (ha : a < 18446744073709551616) : bits .and .u64 (a : Int) 1 = ((a % 2 : Nat) : Int) := by
  have h := bits_and_u64_nat a 1 ha (by omega)
  have e : a &&& 1 = a % 2 := Nat.and_two_pow_sub_one_eq_mod a 1
  rw [e] at h
  exact h

end Go.Proofs.YtdhbkhmknnlmnaaDoor

namespace Ob

/-- A number that counts as a modulus. -/
def Mod (m : Nat) : Prop := 2 ≤ m ∧ m ≤ 4611686018427387904
theorem not_mod {m : Nat} (h : ¬ Mod m) : m < 2 ∨ 4611686018427387904 < m := by unfold Mod at h; omega

def add (m a b : Nat) : Nat := if 2 ≤ m ∧ m ≤ 4611686018427387904 then (a + b) % m else 0
def sub (m a b : Nat) : Nat := if 2 ≤ m ∧ m ≤ 4611686018427387904 then (a % m + (m - b % m)) % m else 0
def mul (m a b : Nat) : Nat := if 2 ≤ m ∧ m ≤ 4611686018427387904 then a * b % m else 0
def pow (m a e : Nat) : Nat := if 2 ≤ m ∧ m ≤ 4611686018427387904 then a ^ e % m else 0

theorem add_yes {m a b : Nat} (h : Mod m) : add m a b = (a + b) % m := if_pos h
theorem add_no {m a b : Nat} (h : ¬ Mod m) : add m a b = 0 := if_neg h
theorem sub_yes {m a b : Nat} (h : Mod m) : sub m a b = (a % m + (m - b % m)) % m := if_pos h
theorem sub_no {m a b : Nat} (h : ¬ Mod m) : sub m a b = 0 := if_neg h
theorem mul_yes {m a b : Nat} (h : Mod m) : mul m a b = a * b % m := if_pos h
theorem mul_no {m a b : Nat} (h : ¬ Mod m) : mul m a b = 0 := if_neg h
theorem pow_yes {m a e : Nat} (h : Mod m) : pow m a e = a ^ e % m := if_pos h
theorem pow_no {m a e : Nat} (h : ¬ Mod m) : pow m a e = 0 := if_neg h

theorem add_lt {m a b : Nat} (h : Mod m) : add m a b < m := by rw [add_yes h]; exact Nat.mod_lt _ (by have := h.1; omega)
theorem sub_lt {m a b : Nat} (h : Mod m) : sub m a b < m := by rw [sub_yes h]; exact Nat.mod_lt _ (by have := h.1; omega)
theorem mul_lt {m a b : Nat} (h : Mod m) : mul m a b < m := by rw [mul_yes h]; exact Nat.mod_lt _ (by have := h.1; omega)
theorem pow_lt {m a e : Nat} (h : Mod m) : pow m a e < m := by rw [pow_yes h]; exact Nat.mod_lt _ (by have := h.1; omega)
theorem add_word (m a b : Nat) : add m a b < 18446744073709551616 := by
  by_cases h : Mod m
  · have := add_lt (a := a) (b := b) h; have := h.2; omega
  · rw [add_no h]; omega
theorem sub_word (m a b : Nat) : sub m a b < 18446744073709551616 := by
  by_cases h : Mod m
  · have := sub_lt (a := a) (b := b) h; have := h.2; omega
  · rw [sub_no h]; omega
theorem mul_word (m a b : Nat) : mul m a b < 18446744073709551616 := by
  by_cases h : Mod m
  · have := mul_lt (a := a) (b := b) h; have := h.2; omega
  · rw [mul_no h]; omega
theorem pow_word (m a e : Nat) : pow m a e < 18446744073709551616 := by
  by_cases h : Mod m
  · have := pow_lt (a := a) (e := e) h; have := h.2; omega
  · rw [pow_no h]; omega

/-- The inverse of a modulo m (0 where there is none): the first number that serves. -/
def inv (m a : Nat) : Nat := ((List.range m).find? fun X => X * a % m == 1 % m).getD 0

/-- Two numbers that undo a modulo m are the same below m. -/
theorem inv_unique {m a X Y : Nat} (hX : X < m) (hY : Y < m) (h1 : X * a % m = 1 % m) (h2 : Y * a % m = 1 % m) : X = Y := by
  have e1 : X * (a * Y) % m = X % m := by
    rw [Nat.mul_mod, Nat.mul_comm a Y, h2, ← Nat.mul_mod, Nat.mul_one]
  have e2 : X * a * Y % m = Y % m := by
    rw [Nat.mul_mod, h1, ← Nat.mul_mod, Nat.one_mul]
  rw [← Nat.mul_assoc, e2, Nat.mod_eq_of_lt hX, Nat.mod_eq_of_lt hY] at e1
  exact e1.symm

theorem inv_eq {m a X : Nat} (hX : X < m) (h : X * a % m = 1 % m) : inv m a = X := by
  unfold inv
  cases hf : (List.range m).find? fun X => X * a % m == 1 % m with
  | none =>
    have := List.find?_eq_none.mp hf X (List.mem_range.mpr hX)
    simp [h] at this
  | some Y =>
    have h1 := List.find?_some hf
    have h2 := List.mem_range.mp (List.mem_of_find?_eq_some hf)
    simp only [beq_iff_eq] at h1
    exact inv_unique h2 hX h1 h

/-- What has no divisor in common with m has an inverse: Euclid. -/
theorem inv_ok_of {m a X : Nat} (hX : X < m) (h : X * a % m = 1 % m) : inv m a < m ∧ inv m a * a % m = 1 % m := by rw [inv_eq hX h]; exact ⟨hX, h⟩
end Ob

namespace Go.Proofs.YtdhbkhmknnlmnaaDoor
open Go.RowKit Go.Proofs
set_option linter.unusedVariables false

theorem add_any (m a b : Nat) (w : World) (hm : m < 18446744073709551616) (ha : a < 18446744073709551616) (hb : b < 18446744073709551616) :
    Calls Tryd.prog 45 #[.int .u64 m, .int .u64 a, .int .u64 b] w fun e w' => e = .returned (.int .u64 (Ob.add m a b : Nat)) ∧ w = w' := by
  by_cases h : Ob.Mod m
  · obtain ⟨h1, h2⟩ := h
    have la : a % m < m := Nat.mod_lt _ (by omega)
    have lb : b % m < m := Nat.mod_lt _ (by omega)
    have e : Hid (Ob.add m a b = (a % m + b % m) % m) := by rw [Ob.add_yes ⟨h1, h2⟩, Nat.add_mod]; rfl
    go_enter Tryd.func45, Tryd.ntmps45
    go_wp2_with (first | (go_at_call 46; refine (isModulus_yes m _ h1 h2).mono ?_; rintro e w' ⟨rfl, rfl⟩) | (go_at_call 48; refine (rest_any m _ _ (by omega) (by assumption)).mono ?_; rintro e w' ⟨rfl, rfl⟩) | (go_at_call 64; refine (addRests_any m (a % m) (b % m) _ h2 (by omega) (by omega) (by omega)).mono ?_; rintro e w' ⟨rfl, rfl⟩))
    go_ret
    exact ⟨ret_int (by rw [e.out]; simp), rfl⟩
  · have e : Hid (Ob.add m a b = 0) := Ob.add_no h
    have h' : m < 2 ∨ 4611686018427387904 < m := Ob.not_mod h
    clear h
    go_enter Tryd.func45, Tryd.ntmps45
    go_wp2_with (go_at_call 46; refine (isModulus_no m _ h').mono ?_; rintro e w' ⟨rfl, rfl⟩)
    go_ret
    exact ⟨ret_int (by rw [e.out]; rfl), rfl⟩

theorem sub_any (m a b : Nat) (w : World) (hm : m < 18446744073709551616) (ha : a < 18446744073709551616) (hb : b < 18446744073709551616) :
    Calls Tryd.prog 78 #[.int .u64 m, .int .u64 a, .int .u64 b] w fun e w' => e = .returned (.int .u64 (Ob.sub m a b : Nat)) ∧ w = w' := by
  by_cases h : Ob.Mod m
  · obtain ⟨h1, h2⟩ := h
    have la : a % m < m := Nat.mod_lt _ (by omega)
    have lb : b % m < m := Nat.mod_lt _ (by omega)
    obtain ⟨r, hr, hrl⟩ : ∃ r : Nat, Hid (r = b % m) ∧ r < m := ⟨b % m, rfl, lb⟩
    obtain ⟨d, hd, hdl⟩ : ∃ d : Nat, (m : Int) - (r : Int) = (d : Int) ∧ d + r = m := ⟨m - r, by omega, by omega⟩
    have e : Hid (Ob.sub m a b = (a % m + d) % m) := by
      have h3 := hr.out
      have h4 : m - b % m = d := by omega
      rw [Ob.sub_yes ⟨h1, h2⟩, h4]; rfl
    have hrest := fun w => rest_any m b w (by omega) hb
    rw [← hr.out] at hrest
    clear hr lb
    go_enter Tryd.func78, Tryd.ntmps78
    go_wp2_with (first | (go_at_call 46; refine (isModulus_yes m _ h1 h2).mono ?_; rintro e w' ⟨rfl, rfl⟩) | (go_at_call_of 48 (b : Int); refine (hrest _).mono ?_; rintro e w' ⟨rfl, rfl⟩) | (go_at_call 48; refine (rest_any m a _ (by omega) (by assumption)).mono ?_; rintro e w' ⟨rfl, rfl⟩) | (go_at_call 64; refine (addRests_any m (a % m) d _ h2 (by omega) (by omega) (by omega)).mono ?_; rintro e w' ⟨rfl, rfl⟩))
    go_ret
    exact ⟨ret_int (by rw [e.out]; simp), rfl⟩
  · have e : Hid (Ob.sub m a b = 0) := Ob.sub_no h
    have h' : m < 2 ∨ 4611686018427387904 < m := Ob.not_mod h
    clear h
    go_enter Tryd.func78, Tryd.ntmps78
    go_wp2_with (go_at_call 46; refine (isModulus_no m _ h').mono ?_; rintro e w' ⟨rfl, rfl⟩)
    go_ret
    exact ⟨ret_int (by rw [e.out]; rfl), rfl⟩

theorem mul_any (m a b : Nat) (w : World) (hm : m < 18446744073709551616) (ha : a < 18446744073709551616) (hb : b < 18446744073709551616) :
    Calls Tryd.prog 28 #[.int .u64 m, .int .u64 a, .int .u64 b] w fun e w' => e = .returned (.int .u64 (Ob.mul m a b : Nat)) ∧ ∃ n, w' = w.drewN n := by
  by_cases h : Ob.Mod m
  · obtain ⟨h1, h2⟩ := h
    have la : a % m < m := Nat.mod_lt _ (by omega)
    have lb : b % m < m := Nat.mod_lt _ (by omega)
    have e : Hid (Ob.mul m a b = a % m * (b % m) % m) := by rw [Ob.mul_yes ⟨h1, h2⟩, Nat.mul_mod]; rfl
    go_enter Tryd.func28, Tryd.ntmps28
    go_wp2_with (first | (go_at_call 46; refine (isModulus_yes m _ h1 h2).mono ?_; rintro e w' ⟨rfl, rfl⟩) | (go_at_call 48; refine (rest_any m _ _ (by omega) (by assumption)).mono ?_; rintro e w' ⟨rfl, rfl⟩) | (go_at_call 47; refine (mulRests_any m (a % m) (b % m) _ hm la lb).mono ?_; rintro e w' ⟨rfl, n, rfl⟩))
    go_ret
    exact ⟨ret_int (by rw [e.out]; simp), _, rfl⟩
  · have e : Hid (Ob.mul m a b = 0) := Ob.mul_no h
    have h' : m < 2 ∨ 4611686018427387904 < m := Ob.not_mod h
    clear h
    go_enter Tryd.func28, Tryd.ntmps28
    go_wp2_with (go_at_call 46; refine (isModulus_no m _ h').mono ?_; rintro e w' ⟨rfl, rfl⟩)
    go_ret
    exact ⟨ret_int (by rw [e.out]; rfl), 0, rfl⟩

end Go.Proofs.YtdhbkhmknnlmnaaDoor

namespace Ob

/-- At every round: r and n are x a and y a modulo m; their divisors are those of m and a; the factors' signs alternate, and they stay within m. -/
structure Euc (m a r n : Nat) (x y : Int) : Prop where
  fx : ∃ k : Int, x * a = r + m * k
  fy : ∃ k : Int, y * a = n + m * k
  gcd : Nat.gcd r n = Nat.gcd m a
  sum : r * y.natAbs + n * x.natAbs = m
  signs : (0 ≤ x ∧ y ≤ 0) ∨ (x ≤ 0 ∧ 0 ≤ y)
  lt : n < r
  small : x.natAbs < m
  le : r ≤ m

theorem Euc.start {m a : Nat} (h : a < m) : Euc m a m a 0 1 where
  fx := ⟨-1, by grind⟩
  fy := ⟨0, by grind⟩
  gcd := rfl
  sum := by simp
  signs := by omega
  lt := h
  small := by simp; omega
  le := Nat.le_refl _

theorem sum_step (r n q d X Y m : Nat) (h : r * Y + n * X = m) (hd : r = q * n + d) : n * (X + q * Y) + d * Y = m := by
  subst hd
  rw [← h, Nat.mul_add, Nat.add_mul, ← Nat.mul_assoc, Nat.mul_comm n q]
  omega

theorem Euc.step {m a r n : Nat} {x y : Int} (h : Euc m a r n x y) (hn : 0 < n) : Euc m a n (r % n) y (x - (r / n : Nat) * y) := by
  have hd : r = r / n * n + r % n := (Nat.div_add_mod' r n).symm
  have hl : r % n < n := Nat.mod_lt _ hn
  generalize r / n = q at *
  have hg : Nat.gcd n (r % n) = Nat.gcd r n := by rw [Nat.gcd_comm, ← Nat.gcd_rec, Nat.gcd_comm]
  generalize r % n = d at *
  obtain ⟨⟨k, hk⟩, ⟨l, hll⟩, g, s, sg, lt, sm, le⟩ := h
  have hab : (x - (q : Int) * y).natAbs = x.natAbs + q * y.natAbs := by
    have e : (q : Int) * y = (q : Int) * y := rfl
    have e2 : ((q : Int) * y).natAbs = q * y.natAbs := by rw [Int.natAbs_mul, Int.natAbs_natCast]
    rcases sg with ⟨h1, h2⟩ | ⟨h1, h2⟩
    · have h3 : (q : Int) * y ≤ 0 := Int.mul_nonpos_of_nonneg_of_nonpos (by omega) h2
      omega
    · have h3 : 0 ≤ (q : Int) * y := Int.mul_nonneg (by omega) h2
      omega
  refine ⟨⟨l, hll⟩, ⟨k - q * l, ?_⟩, by rw [hg, g], ?_, ?_, hl, ?_, by omega⟩
  · have : (r : Int) = q * n + d := by rw [hd]; simp
    grind
  · rw [hab]
    exact sum_step r n q d x.natAbs y.natAbs m s hd
  · rcases sg with ⟨h1, h2⟩ | ⟨h1, h2⟩
    · have h3 : (q : Int) * y ≤ 0 := Int.mul_nonpos_of_nonneg_of_nonpos (by omega) h2
      omega
    · have h3 : 0 ≤ (q : Int) * y := Int.mul_nonneg (by omega) h2
      omega
  · rcases Nat.eq_zero_or_pos y.natAbs with h0 | h0
    · omega
    · have : 2 * y.natAbs ≤ r * y.natAbs := Nat.mul_le_mul_right _ (by omega)
      omega

theorem Euc.bounds {m a r n : Nat} {x y : Int} (h : Euc m a r n x y) : y.natAbs ≤ m := by
  have h1 := h.sum
  have h2 := h.lt
  have : 1 * y.natAbs ≤ r * y.natAbs := Nat.mul_le_mul_right _ (by omega)
  omega

/-- What is told at the end, with the divisor 1. -/
theorem Euc.last {m a r : Nat} {x y : Int} (h : Euc m a r 0 x y) : r = Nat.gcd m a := by
  have := h.gcd
  rw [Nat.gcd_zero_right] at this
  exact this

theorem Euc.inverse {m a : Nat} {x y : Int} (h : Euc m a 1 0 x y) (X : Nat) (hX : (X : Int) = if x < 0 then x + m else x) : X < m ∧ X * a % m = 1 % m := by
  obtain ⟨k, hk⟩ := h.fx
  have hs := h.small
  refine ⟨by split at hX <;> omega, ?_⟩
  have : ∃ j : Int, (X : Int) * a = 1 + m * j := by
    split at hX
    · exact ⟨k + a, by rw [hX]; grind⟩
    · exact ⟨k, by rw [hX]; grind⟩
  obtain ⟨j, hj⟩ := this
  have e : ((X * a % m : Nat) : Int) = ((1 % m : Nat) : Int) := by
    rw [Int.natCast_emod, Int.natCast_mul, hj, Int.add_mul_emod_self_left, Int.natCast_emod]
    rfl
  exact Int.ofNat.inj e

theorem Euc.ends {m a : Nat} : ∀ (n r : Nat) (x y : Int), Euc m a r n x y → ∃ r x y, Euc m a r 0 x y := by
  intro n
  induction n using Nat.strongRecOn with
  | ind n ih =>
    intro r x y h
    rcases Nat.eq_zero_or_pos n with h0 | h0
    · subst h0; exact ⟨r, x, y, h⟩
    · exact ih (r % n) (Nat.mod_lt _ h0) n y _ (h.step h0)

/-- What has no divisor in common with m has an inverse. -/
theorem inverse_exists {m a : Nat} (hm : 2 ≤ m) (hg : Nat.gcd m a = 1) : ∃ X, X < m ∧ X * a % m = 1 % m := by
  have hl : a % m < m := Nat.mod_lt _ (by omega)
  obtain ⟨r, x, y, h⟩ := Euc.ends _ _ _ _ (Euc.start hl)
  have hr := h.last
  have e : Nat.gcd m (a % m) = 1 := by rw [Nat.gcd_comm, ← Nat.gcd_rec, hg]
  rw [e] at hr
  subst hr
  have hs := h.small
  obtain ⟨h1, h2⟩ := h.inverse (if x < 0 then x + m else x).toNat (by split <;> omega)
  refine ⟨_, h1, ?_⟩
  rw [Nat.mul_mod, Nat.mod_mod, ← Nat.mul_mod] at h2
  exact h2
end Ob

namespace Go.Proofs.YtdhbkhmknnlmnaaDoor
open Go.RowKit Go.Proofs
set_option linter.unusedVariables false

theorem w64_in (n : Int) (h1 : -9223372036854775808 ≤ n) (h2 : n ≤ 9223372036854775807) : wrap64 n = n := IntWalk.wrap64_in n ⟨h1, h2⟩

theorem ret_two {k l : IntKind} {a b c d : Int} (h : a = b) (h' : c = d) : Ending.returned (.tuple #[.int k a, .int l c]) = .returned (.tuple #[.int k b, .int l d]) := by rw [h, h']

set_option maxHeartbeats 400000 in
theorem euclid_any (m a : Nat) (w : World) (hm : m ≤ 4611686018427387904) (ha : a < m) :
    Calls Tryd.prog 82 #[.int .u64 m, .int .u64 a] w fun e w' => ∃ X : Nat, e = .returned (.tuple #[.int .u64 ((Nat.gcd m a : Nat) : Int), .int .u64 X]) ∧ X ≤ m ∧ (Nat.gcd m a = 1 → X < m ∧ X * a % m = 1 % m) ∧ w = w' := by
  have hstart : Hid (Ob.Euc m a m a 0 1) := Ob.Euc.start ha
  go_enter Tryd.func82, Tryd.ntmps82
  go_wp2
  go_loop [6, 7, 8, 9, 10] (fun sr sn sx sy _ => ∃ (r n : Nat) (x y : Int), r ≤ m ∧ n < r ∧ -(m : Int) ≤ x ∧ x ≤ (m : Int) ∧ -(m : Int) ≤ y ∧ y ≤ (m : Int) ∧ sr = .int .i64 r ∧ sn = .int .i64 n ∧ sx = .int .i64 x ∧ sy = .int .i64 y ∧ Hid (Ob.Euc m a r n x y)) (fun _ sn _ _ _ => (intOf sn).toNat)
  case atStart => exact ⟨m, a, 0, 1, by omega, ha, by omega, by omega, by omega, by omega, rfl, rfl, rfl, rfl, hstart⟩
  case round =>
    obtain ⟨r, n, x, y, hr, hn, hx1, hx2, hy1, hy2, rfl, rfl, rfl, rfl, hE⟩ := hrel
    clear hstart
    by_cases h0 : n = 0
    · subst h0
      have hg := hE.out.last
      have hsm := hE.out.small
      by_cases hx0 : x < 0
      · have hinv : Hid (Nat.gcd m a = 1 → (x + m).toNat < m ∧ (x + m).toNat * a % m = 1 % m) := fun h => by
          have h1 : r = 1 := by omega
          have h2 := hE.out
          rw [h1] at h2
          exact h2.inverse (x + m).toNat (by rw [if_pos hx0]; omega)
        clear hE
        have hHg : Hid (r = Nat.gcd m a) := hg
        clear hg
        go_wp2
        go_ret2
        exact ⟨(x + m).toNat, by rw [← hHg.out]; exact ret_two rfl (by omega), by omega, hinv, rfl⟩
      · have hinv : Hid (Nat.gcd m a = 1 → x.toNat < m ∧ x.toNat * a % m = 1 % m) := fun h => by
          have h1 : r = 1 := by omega
          have h2 := hE.out
          rw [h1] at h2
          exact h2.inverse x.toNat (by rw [if_neg hx0]; omega)
        clear hE
        have hHg : Hid (r = Nat.gcd m a) := hg
        clear hg
        go_wp2
        go_ret2
        exact ⟨x.toNat, by rw [← hHg.out]; exact ret_two rfl (by omega), by omega, hinv, rfl⟩
    · obtain ⟨q, d, hq, hd, hqd⟩ : ∃ q d : Nat, (r : Int) / (n : Int) = (q : Int) ∧ d < n ∧ Hid (q = r / n ∧ d = r % n) := ⟨r / n, r % n, (Int.natCast_ediv r n).symm, Nat.mod_lt _ (by omega), ⟨rfl, rfl⟩⟩
      have hN : Hid (Ob.Euc m a n d y (x - q * y)) := by
        have := hE.out.step (by omega)
        rw [← hqd.out.1, ← hqd.out.2] at this
        exact this
      obtain ⟨z, hz, hzr⟩ : ∃ z : Nat, (q : Int) * (n : Int) = (z : Int) ∧ z + d = r := ⟨q * n, (Int.natCast_mul q n).symm, by rw [hqd.out.1, hqd.out.2]; exact Nat.div_add_mod' r n⟩
      have hb := hN.out.bounds
      have hqr : q ≤ r := by rw [hqd.out.1]; exact Nat.div_le_self _ _
      obtain ⟨t, ht⟩ : ∃ t : Int, (q : Int) * y = t := ⟨_, rfl⟩
      have hsg : (t ≤ 0 ∧ 0 ≤ x) ∨ (0 ≤ t ∧ x ≤ 0) := by
        rcases hE.out.signs with ⟨h1, h2⟩ | ⟨h1, h2⟩
        · exact Or.inl ⟨by rw [← ht]; exact Int.mul_nonpos_of_nonneg_of_nonpos (by omega) h2, h1⟩
        · exact Or.inr ⟨by rw [← ht]; exact Int.mul_nonneg (by omega) h2, h1⟩
      rw [ht] at hN hb
      have ht1 : x - t ≤ (m : Int) := by omega
      have ht2 : -(m : Int) ≤ x - t := by omega
      have ht3 : t ≤ (m : Int) := by omega
      have ht4 : -(m : Int) ≤ t := by omega
      clear hsg
      have h0i : ((n : Int) != 0) = true := by simp; omega
      clear hb hE hqd h0
      go_wp2
      go_round
      case rel => exact ⟨n, d, y, x - t, by omega, hd, hy1, hy2, ht2, ht1, rfl, val_int (by omega), rfl, rfl, hN⟩
      case measure => simp [intOf]; omega

theorem gcd_mod_left (m a : Nat) : Nat.gcd m (a % m) = Nat.gcd m a := by rw [Nat.gcd_comm, ← Nat.gcd_rec]

set_option maxHeartbeats 400000 in
theorem inv_arg (m a : Nat) (w : World) (h : ¬ Ob.Mod m) :
    Calls Tryd.prog 77 #[.int .u64 m, .int .u64 a] w fun e w' => e = .returned (.tuple #[.int .u64 0, .iface 31 (.int .i64 1)]) ∧ w = w' := by
  have h' : m < 2 ∨ 4611686018427387904 < m := Ob.not_mod h
  clear h
  go_enter Tryd.func77, Tryd.ntmps77
  go_wp2_with (go_at_call 46; refine (isModulus_no m _ h').mono ?_; rintro e w' ⟨rfl, rfl⟩)
  go_ret2
  exact ⟨rfl, rfl⟩

set_option maxHeartbeats 400000 in
theorem inv_some_core (m a X r : Nat) (w : World) (h1 : 2 ≤ m) (h2 : m ≤ 4611686018427387904)
    (hrest : ∀ w, Calls Tryd.prog 48 #[.int .u64 m, .int .u64 a] w fun e w' => e = .returned (.int .u64 r) ∧ w = w')
    (heuc : ∀ w, Calls Tryd.prog 82 #[.int .u64 m, .int .u64 r] w fun e w' => e = .returned (.tuple #[.int .u64 1, .int .u64 X]) ∧ w = w') :
    Calls Tryd.prog 77 #[.int .u64 m, .int .u64 a] w fun e w' => e = .returned (.tuple #[.int .u64 X, .nilIface]) ∧ w = w' := by
  go_enter Tryd.func77, Tryd.ntmps77
  go_wp2_with (first | (go_at_call 46; refine (isModulus_yes m _ h1 h2).mono ?_; rintro e w' ⟨rfl, rfl⟩) | (go_at_call 48; refine (hrest _).mono ?_; rintro e w' ⟨rfl, rfl⟩) | (go_at_call 82; refine (heuc _).mono ?_; rintro e w' ⟨rfl, rfl⟩))
  go_ret2
  exact ⟨rfl, rfl⟩

set_option maxHeartbeats 400000 in
theorem inv_none_core (m a g r : Nat) (w : World) (h1 : 2 ≤ m) (h2 : m ≤ 4611686018427387904) (hg : ((g : Int) != 1) = true)
    (hrest : ∀ w, Calls Tryd.prog 48 #[.int .u64 m, .int .u64 a] w fun e w' => e = .returned (.int .u64 r) ∧ w = w')
    (heuc : ∀ w, Calls Tryd.prog 82 #[.int .u64 m, .int .u64 r] w fun e w' => ∃ X : Nat, e = .returned (.tuple #[.int .u64 g, .int .u64 X]) ∧ w = w') :
    Calls Tryd.prog 77 #[.int .u64 m, .int .u64 a] w fun e w' => e = .returned (.tuple #[.int .u64 0, .iface 31 (.int .i64 2)]) ∧ w = w' := by
  go_enter Tryd.func77, Tryd.ntmps77
  go_wp2_with (first | (go_at_call 46; refine (isModulus_yes m _ h1 h2).mono ?_; rintro e w' ⟨rfl, rfl⟩) | (go_at_call 48; refine (hrest _).mono ?_; rintro e w' ⟨rfl, rfl⟩) | (go_at_call 82; refine (heuc _).mono ?_; rintro e w' ⟨X, rfl, rfl⟩))
  go_ret2
  exact ⟨rfl, rfl⟩

/-- Inv where there is one. -/
theorem inv_some (m a : Nat) (w : World) (h : Ob.Mod m) (ha : a < 18446744073709551616) (hg : Nat.gcd m a = 1) :
    Calls Tryd.prog 77 #[.int .u64 m, .int .u64 a] w fun e w' => e = .returned (.tuple #[.int .u64 (Ob.inv m a : Nat), .nilIface]) ∧ w = w' := by
  have hl : a % m < m := Nat.mod_lt _ (by have := h.1; omega)
  refine inv_some_core m a (Ob.inv m a) (a % m) w h.1 h.2 (fun w => rest_any m a w (by have := h.1; omega) ha) (fun w => (euclid_any m (a % m) w h.2 hl).mono fun e w' ⟨X, he, _, hX, hw⟩ => ⟨?_, hw⟩)
  rw [gcd_mod_left, hg] at he hX
  obtain ⟨hX1, hX2⟩ := hX rfl
  rw [Ob.mul_mod_right] at hX2
  rw [he, Ob.inv_eq hX1 hX2]
  rfl

/-- Inv where there is none. -/
theorem inv_none (m a : Nat) (w : World) (h : Ob.Mod m) (ha : a < 18446744073709551616) (hg : Nat.gcd m a ≠ 1) :
    Calls Tryd.prog 77 #[.int .u64 m, .int .u64 a] w fun e w' => e = .returned (.tuple #[.int .u64 0, .iface 31 (.int .i64 2)]) ∧ w = w' := by
  have hl : a % m < m := Nat.mod_lt _ (by have := h.1; omega)
  exact inv_none_core m a (Nat.gcd m (a % m)) (a % m) w h.1 h.2 (by rw [gcd_mod_left]; simp; omega) (fun w => rest_any m a w (by have := h.1; omega) ha) (fun w => (euclid_any m (a % m) w h.2 hl).mono fun e w' ⟨X, he, _, hX, hw⟩ => ⟨X, he, hw⟩)
end Go.Proofs.YtdhbkhmknnlmnaaDoor

namespace Go.Proofs.YtdhbkhmknnlmnaaDoor
open Go.RowKit Go.Proofs
set_option linter.unusedVariables false

theorem add_rests (m x y : Nat) (hx : x < m) (hy : y < m) : (x + y) % m = if m - y ≤ x then x - (m - y) else x + y := by
  split
  · rw [Nat.mod_eq_sub_mod (by omega), Nat.mod_eq_of_lt (by omega)]; omega
  · rw [Nat.mod_eq_of_lt (by omega)]

set_option maxHeartbeats 400000 in
theorem radd_any (m a b : Nat) (w : World) (h : Ob.Mod m) (ha : a < 18446744073709551616) (hb : b < 18446744073709551616) :
    Calls Tryd.prog 16 #[.int .u64 m, .int .u64 a, .int .u64 b] w fun e w' => e = .returned (.int .u64 (Ob.add m a b : Nat)) ∧ w = w' := by
  obtain ⟨x, ex, hx⟩ : ∃ x : Nat, (a : Int) % (m : Int) = (x : Int) ∧ Hid (x = a % m) := ⟨a % m, by simp, rfl⟩
  obtain ⟨y, ey, hy⟩ : ∃ y : Nat, (b : Int) % (m : Int) = (y : Int) ∧ Hid (y = b % m) := ⟨b % m, by simp, rfl⟩
  have h1 := h.1
  have h2 := h.2
  have lx : x < m := by rw [hx.out]; exact Nat.mod_lt _ (by omega)
  have ly : y < m := by rw [hy.out]; exact Nat.mod_lt _ (by omega)
  have he : Hid (Ob.add m a b = if m - y ≤ x then x - (m - y) else x + y) := by
    show Ob.add m a b = if m - y ≤ x then x - (m - y) else x + y
    rw [Ob.add_yes h, ← add_rests m x y lx ly, hx.out, hy.out, ← Nat.add_mod]
  clear hx hy h
  by_cases hc : m ≤ x + y
  · have hn : Hid (Ob.add m a b = x - (m - y)) := by rw [he.out, if_pos (by omega)]; rfl
    clear he
    go_enter Tryd.func16, Tryd.ntmps16
    go_wp2
    go_ret
    exact ⟨ret_int (by rw [hn.out]; omega), rfl⟩
  · have hn : Hid (Ob.add m a b = x + y) := by rw [he.out, if_neg (by omega)]; rfl
    clear he
    go_enter Tryd.func16, Tryd.ntmps16
    go_wp2
    go_ret
    exact ⟨ret_int (by rw [hn.out]; omega), rfl⟩

/-- One round of the product by doubling. -/
theorem mul_round (m x y o k : Nat) (hm : 0 < m) (hx : x < m) (ho : o = x * (y / 2 ^ (k + 1)) % m) (b : Nat) (hb : b = y / 2 ^ k % 2) :
    x * (y / 2 ^ k) % m = ((o + o) % m + x * b) % m := by rw [Ob.mul_bit, ← ho, ← hb]

set_option maxHeartbeats 1000000 in
theorem rmul_any (m a b : Nat) (w : World) (h : Ob.Mod m) (ha : a < 18446744073709551616) (hb : b < 18446744073709551616) :
    Calls Tryd.prog 17 #[.int .u64 m, .int .u64 a, .int .u64 b] w fun e w' => e = .returned (.int .u64 (Ob.mul m a b : Nat)) ∧ w = w' := by
  obtain ⟨x, ex, hx⟩ : ∃ x : Nat, (a : Int) % (m : Int) = (x : Int) ∧ Hid (x = a % m) := ⟨a % m, by simp, rfl⟩
  obtain ⟨y, ey, hy⟩ : ∃ y : Nat, (b : Int) % (m : Int) = (y : Int) ∧ Hid (y = b % m) := ⟨b % m, by simp, rfl⟩
  have h1 := h.1
  have h2 := h.2
  have lx : x < m := by rw [hx.out]; exact Nat.mod_lt _ (by omega)
  have ly : y < m := by rw [hy.out]; exact Nat.mod_lt _ (by omega)
  have hlast : Hid (x * y % m = Ob.mul m a b) := by
    show x * y % m = Ob.mul m a b
    rw [Ob.mul_yes h, hx.out, hy.out, ← Nat.mul_mod]
  clear hx hy h
  go_enter Tryd.func17, Tryd.ntmps17
  go_wp2
  go_loop [9, 10] (fun so si => ∃ o i : Nat, o < m ∧ i ≤ 64 ∧ so = .int .u64 o ∧ si = .int .i64 i ∧ Hid (o = x * (y / 2 ^ (64 - i)) % m)) (fun _ si => 64 - (intOf si).toNat)
  case atStart => exact ⟨0, 0, by omega, by omega, rfl, rfl, by
    have : y / 2 ^ (64 - 0) = 0 := Nat.div_eq_of_lt (by omega)
    show 0 = x * (y / 2 ^ (64 - 0)) % m
    rw [this, Nat.mul_zero, Nat.zero_mod]⟩
  case round =>
    obtain ⟨o, i, ho, hi, rfl, rfl, hI⟩ := hrel
    by_cases hlt : i < 64
    · obtain ⟨k, hk⟩ : ∃ k, k + i = 63 := ⟨63 - i, by omega⟩
      have hyk : y / 2 ^ k < 18446744073709551616 := Nat.lt_of_le_of_lt (Nat.div_le_self _ _) (by omega)
      obtain ⟨t, ht⟩ : ∃ t : Nat, (y : Int) / 2 ^ (63 - i) = (t : Int) ∧ Hid (t = y / 2 ^ k) := ⟨y / 2 ^ k, by
        have : 63 - i = k := by omega
        rw [this]
        simp, rfl⟩
      obtain ⟨ht, htk⟩ := ht
      have hand := and_one t (by rw [htk.out]; exact hyk)
      obtain ⟨d, hd, hdd⟩ : ∃ d : Nat, d < m ∧ Hid (d = (o + o) % m) := ⟨(o + o) % m, Nat.mod_lt _ (by omega), rfl⟩
      have hI2 : Hid (x * (y / 2 ^ k) % m = (d + x * (t % 2)) % m) := by
        have e1 : 64 - i = k + 1 := by omega
        have := hI.out
        rw [e1] at this
        show x * (y / 2 ^ k) % m = (d + x * (t % 2)) % m
        rw [mul_round m x y o k (by omega) lx this (t % 2) (by rw [htk.out]), hdd.out]
      clear hI
      have hdo : (m ≤ o + o ∧ (o : Int) - ((m : Int) - (o : Int)) = (d : Int)) ∨ (o + o < m ∧ (o : Int) + (o : Int) = (d : Int)) := by
        have := hdd.out
        rcases Nat.lt_or_ge (o + o) m with c | c
        · exact Or.inr ⟨c, by rw [Nat.mod_eq_of_lt c] at this; omega⟩
        · refine Or.inl ⟨c, ?_⟩
          rw [Nat.mod_eq_sub_mod c, Nat.mod_eq_of_lt (by omega)] at this
          omega
      clear hdd hyk htk
      have e2 : Hid (64 - (i + 1) = k) := by show 64 - (i + 1) = k; omega
      by_cases hbit : t % 2 = 1
      · have hb1 : ((t % 2 : Nat) : Int) = 1 := by omega
        rw [hb1] at hand
        clear hb1
        have hI3 : Hid (x * (y / 2 ^ k) % m = (d + x) % m) := by have := hI2.out; rw [hbit, Nat.mul_one] at this; exact this
        clear hI2 hbit
        by_cases hc : m ≤ d + x
        · have hn : Hid (d - (m - x) = x * (y / 2 ^ k) % m) := by
            show d - (m - x) = x * (y / 2 ^ k) % m
            rw [hI3.out, Nat.mod_eq_sub_mod hc, Nat.mod_eq_of_lt (by omega)]
            omega
          clear hI3
          rcases hdo with ⟨c1, c2⟩ | ⟨c1, c2⟩
          all_goals
            go_wp2
            go_round
            case rel => exact ⟨d - (m - x), i + 1, by omega, by omega, val_int (by omega), by go_num, by show d - (m - x) = _; rw [e2.out]; exact hn⟩
            case measure => simp [intOf]; omega
        · have hn : Hid (d + x = x * (y / 2 ^ k) % m) := by
            show d + x = x * (y / 2 ^ k) % m
            rw [hI3.out, Nat.mod_eq_of_lt (by omega)]
          clear hI3
          rcases hdo with ⟨c1, c2⟩ | ⟨c1, c2⟩
          all_goals
            go_wp2
            go_round
            case rel => exact ⟨d + x, i + 1, by omega, by omega, val_int (by omega), by go_num, by show d + x = _; rw [e2.out]; exact hn⟩
            case measure => simp [intOf]; omega
      · have hb1 : ((t % 2 : Nat) : Int) = 0 := by omega
        rw [hb1] at hand
        clear hb1
        have hn : Hid (d = x * (y / 2 ^ k) % m) := by
          have := hI2.out
          have hz : t % 2 = 0 := by omega
          rw [hz, Nat.mul_zero, Nat.add_zero, Nat.mod_eq_of_lt hd] at this
          exact this.symm
        clear hI2 hbit
        rcases hdo with ⟨c1, c2⟩ | ⟨c1, c2⟩
        all_goals
          go_wp2
          go_round
          case rel => exact ⟨d, i + 1, by omega, by omega, by first | rfl | exact val_int (by omega), by go_num, by show d = _; rw [e2.out]; exact hn⟩
          case measure => simp [intOf]; omega
    · have hn : Hid (o = Ob.mul m a b) := by
        have := hI.out
        have e : 64 - i = 0 := by omega
        rw [e, Nat.pow_zero, Nat.div_one, hlast.out] at this
        exact this
      clear hI hlast
      go_wp2
      go_ret
      exact ⟨ret_int (by rw [hn.out]), rfl⟩

set_option maxHeartbeats 1000000 in
theorem rpow_any (m a x : Nat) (w : World) (h : Ob.Mod m) (ha : a < 18446744073709551616) (hx : x < 18446744073709551616) :
    Calls Tryd.prog 23 #[.int .u64 m, .int .u64 a, .int .u64 x] w fun e w' => e = .returned (.int .u64 (Ob.pow m a x : Nat)) ∧ w = w' := by
  have h1 := h.1
  have h2 := h.2
  have e1 : (1 : Int) % (m : Int) = 1 := by rw [Int.emod_eq_of_lt (by omega) (by omega)]
  have hlast : Hid (a ^ x % m = Ob.pow m a x) := (Ob.pow_yes h).symm
  go_enter Tryd.func23, Tryd.ntmps23
  go_wp2
  go_loop [7, 8] (fun so si => ∃ o i : Nat, o < m ∧ i ≤ 64 ∧ so = .int .u64 o ∧ si = .int .i64 i ∧ Hid (o = a ^ (x / 2 ^ (64 - i)) % m)) (fun _ si => 64 - (intOf si).toNat)
  case atStart => exact ⟨1, 0, by omega, by omega, by first | rfl | simp [e1], rfl, by
    have : x / 2 ^ (64 - 0) = 0 := Nat.div_eq_of_lt (by omega)
    show 1 = a ^ (x / 2 ^ (64 - 0)) % m
    rw [this, Nat.pow_zero, Nat.mod_eq_of_lt (by omega)]⟩
  case round =>
    obtain ⟨o, i, ho, hi, rfl, rfl, hI⟩ := hrel
    clear e1
    by_cases hlt : i < 64
    · obtain ⟨k, hk⟩ : ∃ k, k + i = 63 := ⟨63 - i, by omega⟩
      have hyk : x / 2 ^ k < 18446744073709551616 := Nat.lt_of_le_of_lt (Nat.div_le_self _ _) (by omega)
      obtain ⟨t, ht⟩ : ∃ t : Nat, (x : Int) / 2 ^ (63 - i) = (t : Int) ∧ Hid (t = x / 2 ^ k) := ⟨x / 2 ^ k, by
        have : 63 - i = k := by omega
        rw [this]
        simp, rfl⟩
      obtain ⟨ht, htk⟩ := ht
      have hand := and_one t (by rw [htk.out]; exact hyk)
      obtain ⟨d, hd, hdd⟩ : ∃ d : Nat, d < m ∧ Hid (Ob.mul m o o = d) := ⟨_, Ob.mul_lt h, rfl⟩
      have hsq := fun w => rmul_any m o o w h (by omega) (by omega)
      rw [hdd.out] at hsq
      have hI2 : Hid (a ^ (x / 2 ^ k) % m = d * a ^ (t % 2) % m) := by
        have e1 : 64 - i = k + 1 := by omega
        have := hI.out
        rw [e1] at this
        show a ^ (x / 2 ^ k) % m = d * a ^ (t % 2) % m
        rw [Ob.pow_bit, ← this, ← hdd.out, Ob.mul_yes h, ← htk.out]
      clear hI hdd hyk htk
      have e2 : Hid (64 - (i + 1) = k) := by show 64 - (i + 1) = k; omega
      by_cases hbit : t % 2 = 1
      · have hb1 : ((t % 2 : Nat) : Int) = 1 := by omega
        rw [hb1] at hand
        clear hb1
        obtain ⟨z, hz, hzz⟩ : ∃ z : Nat, z < m ∧ Hid (Ob.mul m d a = z) := ⟨_, Ob.mul_lt h, rfl⟩
        have hml := fun w => rmul_any m d a w h (by omega) ha
        rw [hzz.out] at hml
        have hn : Hid (z = a ^ (x / 2 ^ k) % m) := by
          show z = a ^ (x / 2 ^ k) % m
          rw [hI2.out, hbit, Nat.pow_one, ← hzz.out, Ob.mul_yes h]
        clear hI2 hbit hzz
        go_wp2_with (first | (go_at_call_of 17 (o : Int); refine (hsq _).mono ?_; rintro e w' ⟨rfl, rfl⟩) | (go_at_call_of 17 (a : Int); refine (hml _).mono ?_; rintro e w' ⟨rfl, rfl⟩))
        go_round
        case rel => exact ⟨z, i + 1, by omega, by omega, rfl, by go_num, by show z = _; rw [e2.out]; exact hn⟩
        case measure => simp [intOf]; omega
      · have hb1 : ((t % 2 : Nat) : Int) = 0 := by omega
        rw [hb1] at hand
        clear hb1
        have hn : Hid (d = a ^ (x / 2 ^ k) % m) := by
          have := hI2.out
          have hz : t % 2 = 0 := by omega
          rw [hz, Nat.pow_zero, Nat.mul_one, Nat.mod_eq_of_lt hd] at this
          exact this.symm
        clear hI2 hbit
        go_wp2_with (go_at_call 17; refine (hsq _).mono ?_; rintro e w' ⟨rfl, rfl⟩)
        go_round
        case rel => exact ⟨d, i + 1, by omega, by omega, rfl, by go_num, by show d = _; rw [e2.out]; exact hn⟩
        case measure => simp [intOf]; omega
    · have hn : Hid (o = Ob.pow m a x) := by
        have := hI.out
        have e : 64 - i = 0 := by omega
        rw [e, Nat.pow_zero, Nat.div_one, hlast.out] at this
        exact this
      clear hI hlast
      go_wp2
      go_ret
      exact ⟨ret_int (by rw [hn.out]), rfl⟩

end Go.Proofs.YtdhbkhmknnlmnaaDoor

namespace Go.Proofs.YtdhbkhmknnlmnaaDoor
open Go.RowKit Go.Proofs
set_option linter.unusedVariables false
set_option linter.unusedSimpArgs false

/-- A call that returns v, whatever the world is, and turns nothing that was there. -/
def Gives (f : FuncId) (args : Array Value) (v : Value) : Prop := ∀ w, Calls Tryd.prog f args w fun e w' => e = .returned v ∧ Below w.heap.size w w'

theorem below_drewN {B : Nat} {a w : World} (h : Below B a w) (n : Nat) : Below B a (w.drewN n) := ⟨h.os, h.tape, h.output, h.size, h.block⟩

theorem size_drewN (w : World) (n : Nat) : (w.drewN n).heap.size = w.heap.size := rfl
theorem below_via {B C : Nat} {a W w : World} (h : Below C W w) (h1 : Below B a W) (h2 : B ≤ C) : Below B a w := h1.trans (h.mono h2)

theorem Gives.of_same {f : FuncId} {args : Array Value} {v : Value} (h : ∀ w, Calls Tryd.prog f args w fun e w' => e = .returned v ∧ w = w') : Gives f args v :=
  fun w => (h w).mono fun e w' ⟨he, hw⟩ => ⟨he, hw ▸ Below.refl _ _⟩
theorem Gives.of_drew {f : FuncId} {args : Array Value} {v : Value} (h : ∀ w, Calls Tryd.prog f args w fun e w' => e = .returned v ∧ ∃ n, w' = w.drewN n) : Gives f args v :=
  fun w => (h w).mono fun e w' ⟨he, n, hw⟩ => ⟨he, hw ▸ below_drewN (Below.refl _ _) n⟩

/-- What lay in memory below B reads as it did. -/
theorem bcell {B : Nat} {W w1 : World} (hb : Below B W w1) : (∀ b o, b < B → w1.cell? ⟨b, o, none⟩ = W.cell? ⟨b, o, none⟩) ∧ (∀ b o, b < B → w1.frozen? ⟨b, o, none⟩ = W.frozen? ⟨b, o, none⟩) :=
  ⟨fun b o h => hb.cell (p := ⟨b, o, none⟩) h, fun b o h => hb.frozen (p := ⟨b, o, none⟩) h⟩

/-- How many blocks there are, behind one step. -/
theorem szs : (∀ (w : World) (o : Obj), (w.alloc o).heap.size = w.heap.size + 1) ∧ (∀ (w : World) (p : Addr) (v : Value), (w.setCell p v).heap.size = w.heap.size) ∧ (∀ w : World, w.drew.heap.size = w.heap.size) ∧ (∀ (w : World) (n : Nat), (w.drewN n).heap.size = w.heap.size) :=
  ⟨World.size_alloc, World.size_setCell, World.size_drew, size_drewN⟩
theorem own1 {B : Nat} {W w1 : World} (hb : Below B W w1) (x : Nat) (h : x < B) (hB : B ≤ W.heap.size := by exact Nat.le_refl _) : x < w1.heap.size ∧ x ≤ w1.heap.size ∧ x ≠ w1.heap.size ∧ w1.heap.size ≠ x ∧ w1.cell? ⟨x, 0, none⟩ = W.cell? ⟨x, 0, none⟩ ∧ w1.frozen? ⟨x, 0, none⟩ = W.frozen? ⟨x, 0, none⟩ :=
  have l : x < w1.heap.size := Nat.lt_of_lt_of_le (Nat.lt_of_lt_of_le h hB) hb.size
  ⟨l, Nat.le_of_lt l, Nat.ne_of_lt l, Nat.ne_of_gt l, (bcell hb).1 x 0 h, (bcell hb).2 x 0 h⟩
theorem own2 {B : Nat} {W w1 : World} (hb : Below B W w1) (x : Nat) (h : x < B) (hB : B ≤ W.heap.size := by exact Nat.le_refl _) : x < w1.heap.size ∧ x ≤ w1.heap.size ∧ x ≠ w1.heap.size ∧ w1.heap.size ≠ x ∧ w1.cell? ⟨x, 0, none⟩ = W.cell? ⟨x, 0, none⟩ ∧ w1.frozen? ⟨x, 0, none⟩ = W.frozen? ⟨x, 0, none⟩ ∧ w1.cell? ⟨x, 1, none⟩ = W.cell? ⟨x, 1, none⟩ ∧ w1.frozen? ⟨x, 1, none⟩ = W.frozen? ⟨x, 1, none⟩ :=
  have l : x < w1.heap.size := Nat.lt_of_lt_of_le (Nat.lt_of_lt_of_le h hB) hb.size
  ⟨l, Nat.le_of_lt l, Nat.ne_of_lt l, Nat.ne_of_gt l, (bcell hb).1 x 0 h, (bcell hb).2 x 0 h, (bcell hb).1 x 1 h, (bcell hb).2 x 1 h⟩
theorem own3 {B : Nat} {W w1 : World} (hb : Below B W w1) (x : Nat) (h : x < B) (hB : B ≤ W.heap.size := by exact Nat.le_refl _) : x < w1.heap.size ∧ x ≤ w1.heap.size ∧ x ≠ w1.heap.size ∧ w1.heap.size ≠ x ∧ w1.cell? ⟨x, 0, none⟩ = W.cell? ⟨x, 0, none⟩ ∧ w1.frozen? ⟨x, 0, none⟩ = W.frozen? ⟨x, 0, none⟩ ∧ w1.cell? ⟨x, 1, none⟩ = W.cell? ⟨x, 1, none⟩ ∧ w1.frozen? ⟨x, 1, none⟩ = W.frozen? ⟨x, 1, none⟩ ∧ w1.cell? ⟨x, 2, none⟩ = W.cell? ⟨x, 2, none⟩ ∧ w1.frozen? ⟨x, 2, none⟩ = W.frozen? ⟨x, 2, none⟩ :=
  have l : x < w1.heap.size := Nat.lt_of_lt_of_le (Nat.lt_of_lt_of_le h hB) hb.size
  ⟨l, Nat.le_of_lt l, Nat.ne_of_lt l, Nat.ne_of_gt l, (bcell hb).1 x 0 h, (bcell hb).2 x 0 h, (bcell hb).1 x 1 h, (bcell hb).2 x 1 h, (bcell hb).1 x 2 h, (bcell hb).2 x 2 h⟩
theorem own4 {B : Nat} {W w1 : World} (hb : Below B W w1) (x : Nat) (h : x < B) (hB : B ≤ W.heap.size := by exact Nat.le_refl _) : x < w1.heap.size ∧ x ≤ w1.heap.size ∧ x ≠ w1.heap.size ∧ w1.heap.size ≠ x ∧ w1.cell? ⟨x, 0, none⟩ = W.cell? ⟨x, 0, none⟩ ∧ w1.frozen? ⟨x, 0, none⟩ = W.frozen? ⟨x, 0, none⟩ ∧ w1.cell? ⟨x, 1, none⟩ = W.cell? ⟨x, 1, none⟩ ∧ w1.frozen? ⟨x, 1, none⟩ = W.frozen? ⟨x, 1, none⟩ ∧ w1.cell? ⟨x, 2, none⟩ = W.cell? ⟨x, 2, none⟩ ∧ w1.frozen? ⟨x, 2, none⟩ = W.frozen? ⟨x, 2, none⟩ ∧ w1.cell? ⟨x, 3, none⟩ = W.cell? ⟨x, 3, none⟩ ∧ w1.frozen? ⟨x, 3, none⟩ = W.frozen? ⟨x, 3, none⟩ :=
  have l : x < w1.heap.size := Nat.lt_of_lt_of_le (Nat.lt_of_lt_of_le h hB) hb.size
  ⟨l, Nat.le_of_lt l, Nat.ne_of_lt l, Nat.ne_of_gt l, (bcell hb).1 x 0 h, (bcell hb).2 x 0 h, (bcell hb).1 x 1 h, (bcell hb).2 x 1 h, (bcell hb).1 x 2 h, (bcell hb).2 x 2 h, (bcell hb).1 x 3 h, (bcell hb).2 x 3 h⟩
/-- A variable of the call's own, of two cells. -/
structure Two (w : World) (b : Nat) (x y : Value) : Prop where
  c0 : w.cell? ⟨b, 0, none⟩ = some x
  c1 : w.cell? ⟨b, 1, none⟩ = some y
  f0 : w.frozen? ⟨b, 0, none⟩ = false
  f1 : w.frozen? ⟨b, 1, none⟩ = false
  lt : b < w.heap.size
theorem Two.below {w w1 : World} {B b : Nat} {x y : Value} (t : Two w b x y) (hb : Below B w w1) (h : b < B) : Two w1 b x y :=
  ⟨by rw [(bcell hb).1 b 0 h]; exact t.c0, by rw [(bcell hb).1 b 1 h]; exact t.c1, by rw [(bcell hb).2 b 0 h]; exact t.f0, by rw [(bcell hb).2 b 1 h]; exact t.f1, Nat.lt_of_lt_of_le t.lt hb.size⟩
theorem Two.alloc {w : World} {b : Nat} {x y : Value} (t : Two w b x y) (o : Obj) : Two (w.alloc o) b x y := t.below ((Below.refl w.heap.size w).alloc (Nat.le_refl _) o) t.lt
theorem Two.put {w : World} {b : Nat} {x y : Value} (t : Two w b x y) (x' y' : Value) : Two ((w.setCell ⟨b, 0, none⟩ x').setCell ⟨b, 1, none⟩ y') b x' y' where
  c0 := by rw [World.cell?_setCell_other _ _ _ _ (by simp), World.cell?_setCell_same _ _ _ t.c0]
  c1 := by rw [World.cell?_setCell_same _ _ _ (u := y) (by rw [World.cell?_setCell_other _ _ _ _ (by simp), t.c1])]
  f0 := by simp [t.f0]
  f1 := by simp [t.f1]
  lt := by simp [t.lt]
theorem Two.far {w : World} {b b' : Nat} {x y : Value} (t : Two w b x y) (h : b' ≠ b) (o : Nat) (v : Value) : Two (w.setCell ⟨b', o, none⟩ v) b x y where
  c0 := by rw [World.cell?_setCell_other _ _ _ _ (by simp [h]), t.c0]
  c1 := by rw [World.cell?_setCell_other _ _ _ _ (by simp [h]), t.c1]
  f0 := by simp [t.f0]
  f1 := by simp [t.f1]
  lt := by simp [t.lt]
theorem Two.new {w : World} {x y : Value} {t : TypeId} {b : Nat} (h : b = w.heap.size) : Two (w.alloc (.cells #[x, y] t)) b x y := by subst h; exact ⟨by simp [go_sem], by simp [go_sem], by simp [go_sem], by simp [go_sem], by simp⟩

/-- Such a variable, whatever it holds. -/
def Own2 (w : World) (b : Nat) : Prop := ∃ x y, Two w b x y
theorem Two.own {w : World} {b : Nat} {x y : Value} (t : Two w b x y) : Own2 w b := ⟨x, y, t⟩
theorem Two.set {w : World} {b : Nat} (t : Own2 w b) (x' y' : Value) : Two ((w.setCell ⟨b, 0, none⟩ x').setCell ⟨b, 1, none⟩ y') b x' y' := by obtain ⟨x, y, t⟩ := t; exact t.put x' y'
theorem Own2.set {w : World} {b : Nat} (t : Own2 w b) (x' y' : Value) : Own2 ((w.setCell ⟨b, 0, none⟩ x').setCell ⟨b, 1, none⟩ y') b := (Two.set t x' y').own
theorem Two.via {w w1 : World} {B b : Nat} {x y : Value} (hb : Below B w w1) (t : Two w b x y) (h : b < B) : Two w1 b x y := t.below hb h
theorem Two.drew {w : World} {b : Nat} {x y : Value} (t : Two w b x y) : Two w.drew b x y := t.below ((Below.refl w.heap.size w).drew) t.lt
theorem Two.drewN {w : World} {b : Nat} {x y : Value} (t : Two w b x y) (n : Nat) : Two (w.drewN n) b x y := t.below (below_drewN (Below.refl w.heap.size w) n) t.lt
theorem Own2.via {w w1 : World} {B b : Nat} (hb : Below B w w1) (t : Own2 w b) (h : b < B) : Own2 w1 b := by obtain ⟨x, y, t⟩ := t; exact ⟨x, y, t.below hb h⟩
theorem Own2.far {w : World} {b b' : Nat} (t : Own2 w b) (h : b' ≠ b) (o : Nat) (v : Value) : Own2 (w.setCell ⟨b', o, none⟩ v) b := by obtain ⟨x, y, t⟩ := t; exact ⟨x, y, t.far h o v⟩
theorem Own2.alloc {w : World} {b : Nat} (t : Own2 w b) (o : Obj) : Own2 (w.alloc o) b := by obtain ⟨x, y, t⟩ := t; exact ⟨x, y, t.alloc o⟩
theorem Own2.new {w : World} {x y : Value} {t : TypeId} {b : Nat} (h : b = w.heap.size) : Own2 (w.alloc (.cells #[x, y] t)) b := ⟨x, y, Two.new h⟩
theorem Own2.drew {w : World} {b : Nat} (t : Own2 w b) : Own2 w.drew b := by obtain ⟨x, y, t⟩ := t; exact ⟨x, y, t.drew⟩
theorem Own2.drewN {w : World} {b : Nat} (t : Own2 w b) (n : Nat) : Own2 (w.drewN n) b := by obtain ⟨x, y, t⟩ := t; exact ⟨x, y, t.drewN n⟩

/-- A word of 64 bits, as a plain number. -/
theorem word_of {a : Int} (h : (Lit.int .u64 a).wf = true) : ∃ n : Nat, a = (n : Int) ∧ n < 18446744073709551616 := by
  have := bounds_u64 h
  exact ⟨a.toNat, by omega, by omega⟩
end Go.Proofs.YtdhbkhmknnlmnaaDoor

namespace Ob

/-- The number that the first k bytes of z tell. -/
def num (z : Nat → Nat) : Nat → Nat
  | 0 => 0
  | k + 1 => 256 * num z k + z k
theorem num_lt (z : Nat → Nat) (h : ∀ i, z i < 256) (k : Nat) : num z k < 256 ^ k := by
  induction k with
  | zero => simp [num]
  | succ k ih =>
    have := h k
    rw [Nat.pow_succ]
    simp only [num]
    omega
theorem num_small (z : Nat → Nat) (h : ∀ i, z i < 256) (k : Nat) (hk : k ≤ 7) : num z k < 72057594037927936 :=
  Nat.lt_of_lt_of_le (num_lt z h k) (Nat.pow_le_pow_right (n := 256) (by decide) hk)
theorem num_word (z : Nat → Nat) (h : ∀ i, z i < 256) : num z 8 < 18446744073709551616 := num_lt z h 8

/-- The byte number i of the 8 of n. -/
def byteAt (n i : Nat) : Nat := n / 256 ^ (7 - i) % 256
theorem byteAt_lt (n i : Nat) : byteAt n i < 256 := Nat.mod_lt _ (by decide)

theorem num_byteAt (n k : Nat) (hk : k ≤ 8) (hn : n < 18446744073709551616) : num (byteAt n) k = n / 256 ^ (8 - k) := by
  induction k with
  | zero => simp only [num]; rw [Nat.div_eq_of_lt (by simpa using hn)]
  | succ k ih =>
    simp only [num]
    rw [ih (by omega)]
    have e : 8 - k = (8 - (k + 1)) + 1 := by omega
    have e2 : 7 - k = 8 - (k + 1) := by omega
    rw [e, Nat.pow_succ, ← Nat.div_div_eq_div_mul]
    unfold byteAt
    rw [e2]
    omega
theorem num_bytes (n : Nat) (hn : n < 18446744073709551616) : num (byteAt n) 8 = n := by
  rw [num_byteAt n 8 (by decide) hn]; simp
theorem num_congr (y z : Nat → Nat) (k : Nat) (h : ∀ i, i < k → y i = z i) : num y k = num z k := by
  induction k with
  | zero => rfl
  | succ k ih => simp only [num]; rw [ih fun i hi => h i (by omega), h k (by omega)]
theorem byteAt_num (z : Nat → Nat) (h : ∀ i, z i < 256) (i : Nat) (hi : i < 8) : byteAt (num z 8) i = z i := by
  have h0 := h 0; have h1 := h 1; have h2 := h 2; have h3 := h 3; have h4 := h 4; have h5 := h 5; have h6 := h 6; have h7 := h 7
  have h8 : i = 0 ∨ i = 1 ∨ i = 2 ∨ i = 3 ∨ i = 4 ∨ i = 5 ∨ i = 6 ∨ i = 7 := by omega
  rcases h8 with rfl | rfl | rfl | rfl | rfl | rfl | rfl | rfl
  all_goals
    simp only [byteAt, num]
    omega
end Ob

namespace Go.Proofs.YtdhbkhmknnlmnaaDoor
open Go.RowKit Go.Proofs
set_option linter.unusedVariables false
set_option linter.unusedSimpArgs false

/-- n bytes, from a place on. -/
structure Bys (w : World) (b off n : Nat) (z : Nat → Nat) : Prop where
  lt : b < w.heap.size
  at_ : ∀ i, i < n → w.cell? ⟨b, off + i, none⟩ = some (.int .u8 (z i : Nat))
theorem Bys.below {w w1 : World} {B b off n : Nat} {z : Nat → Nat} (t : Bys w b off n z) (hb : Below B w w1) (h : b < B) : Bys w1 b off n z :=
  ⟨Nat.lt_of_lt_of_le t.lt hb.size, fun i hi => by rw [(bcell hb).1 b _ h]; exact t.at_ i hi⟩
theorem Bys.via {w w1 : World} {B b off n : Nat} {z : Nat → Nat} (hb : Below B w w1) (t : Bys w b off n z) (h : b < B) : Bys w1 b off n z := t.below hb h
theorem Bys.drew {w : World} {b off n : Nat} {z : Nat → Nat} (t : Bys w b off n z) : Bys w.drew b off n z := ⟨t.lt, t.at_⟩
theorem Bys.drewN {w : World} {b off n : Nat} {z : Nat → Nat} (t : Bys w b off n z) (k : Nat) : Bys (w.drewN k) b off n z := ⟨t.lt, t.at_⟩
theorem Bys.alloc {w : World} {b off n : Nat} {z : Nat → Nat} (t : Bys w b off n z) (o : Obj) : Bys (w.alloc o) b off n z := t.below ((Below.refl w.heap.size w).alloc (Nat.le_refl _) o) t.lt
theorem Bys.far {w : World} {b off n b' : Nat} {z : Nat → Nat} (t : Bys w b off n z) (h : b' ≠ b) (o : Nat) (v : Value) : Bys (w.setCell ⟨b', o, none⟩ v) b off n z :=
  ⟨by simp [t.lt], fun i hi => by rw [World.cell?_setCell_other _ _ _ _ (by simp [h]), t.at_ i hi]⟩
theorem Bys.less {w : World} {b off n m : Nat} {z : Nat → Nat} (t : Bys w b off n z) (h : m ≤ n) : Bys w b off m z := ⟨t.lt, fun i hi => t.at_ i (by omega)⟩
theorem Bys.more {w : World} {b off n : Nat} {z : Nat → Nat} (t : Bys w b off n z) (k m : Nat) (h : k + m ≤ n) : Bys w b (off + k) m (fun i => z (k + i)) :=
  ⟨t.lt, fun i hi => by rw [Nat.add_assoc]; exact t.at_ (k + i) (by omega)⟩


theorem or_byte (n x : Nat) (hn : n < 72057594037927936) (hx : x < 256) : bits .or .u64 ((n : Int) * 256) (x : Int) = ((256 * n + x : Nat) : Int) := by
  have h := bits_or_u64_nat (256 * n) x (by omega) (by omega)
  have e : 256 * n ||| x = 256 * n + x := (Nat.two_pow_add_eq_or_of_lt (i := 8) (show x < 2 ^ 8 from hx) n).symm
  rw [e] at h
  have e2 : ((256 * n : Nat) : Int) = (n : Int) * 256 := by omega
  rw [e2] at h
  exact h


theorem byteInfo : ∃ i, Tryd.prog.info? 5 = some i ∧ i.size = 1 ∧ i.bytes = 1 ∧ i.zero = some (.int .u8 0) := by
  have h : (Tryd.prog.info? 5).map (fun i => (i.size, i.bytes, i.zero)) = some (1, 1, some (.int .u8 0)) := by kernel_rfl
  cases hi : Tryd.prog.info? 5 with
  | none => rw [hi] at h; cases h
  | some i =>
    rw [hi] at h
    simp only [Option.map_some, Option.some.injEq, Prod.mk.injEq] at h
    exact ⟨i, rfl, h.1, h.2.1, h.2.2⟩

/-- The values of bytes. -/
def vals (z : Nat → Nat) (n : Nat) : List Value := (List.range n).map fun i => .int .u8 (z i : Nat)
theorem vals_zero (z : Nat → Nat) : vals z 0 = [] := rfl
theorem vals_succ (z : Nat → Nat) (n : Nat) : vals z (n + 1) = vals z n ++ [.int .u8 (z n : Nat)] := by simp [vals, List.range_succ]
theorem vals_get (z : Nat → Nat) (n i : Nat) (h : i < n) : (vals z n)[i]? = some (.int .u8 (z i : Nat)) := by simp [vals, h]

/-- A row of the call's own, as bytes. -/
theorem bys_of_row {w : World} {base n cap g : Nat} {z : Nat → Nat} (h : w.ownsRow base 5 1 (.slice (some ⟨g, 0, none⟩) n cap) n (vals z n)) : Bys w g 0 n z := by
  refine ⟨(h.lt g rfl).2, fun i hi => ?_⟩
  have := h.cells (g := g) rfl i _ (vals_get z n i hi)
  have hadd : (⟨g, 0, none⟩ : Addr).add i = ⟨g, 0 + i, none⟩ := by unfold Addr.add; split <;> simp_all
  rw [hadd] at this
  exact this
theorem free_of_row {w : World} {base n cap g : Nat} {xs : List Value} (h : w.ownsRow base 5 1 (.slice (some ⟨g, 0, none⟩) n cap) n xs) (o : Nat) : w.frozen? ⟨g, o, none⟩ = false := by
  rcases h.2 with ⟨h0, _⟩ | ⟨g', cap', cur, hv, _, hg, _⟩
  · cases h0
  · cases hv
    simp [World.frozen?, hg]

/-- Bytes that lie in memory, as the cells that an append takes. -/
theorem bys_news {w : World} {b off n : Nat} {z : Nat → Nat} (h : Bys w b off n z) : ∀ j u, (vals z n)[j]? = some u → w.cell? ((⟨b, off, none⟩ : Addr).add j) = some u := by
  intro j u hu
  have hj : j < n := by
    rcases Nat.lt_or_ge j n with h1 | h1
    · exact h1
    · have : (vals z n)[j]? = none := List.getElem?_eq_none (by simp [vals]; exact h1)
      rw [this] at hu
      cases hu
  rw [vals_get z n j hj] at hu
  cases hu
  have hadd : (⟨b, off, none⟩ : Addr).add j = ⟨b, off + j, none⟩ := by unfold Addr.add; split <;> simp_all
  rw [hadd]
  exact h.at_ j hj
theorem vals_one (z : Nat → Nat) (n : Nat) : ∀ u ∈ vals z n, u.oneCell' = true := by
  intro u hu
  simp only [vals, List.mem_map] at hu
  obtain ⟨i, _, rfl⟩ := hu
  rfl

/-- Byte number i of the numbers ns, one behind the other. -/
def byteOf (ns : Nat → Nat) (i : Nat) : Nat := Ob.byteAt (ns (i / 8)) (i % 8)

theorem shr_byte (n j : Nat) (hj : j < 8) (hn : n < 18446744073709551616) : IntKind.u8.wrap ((n : Int) / 2 ^ (56 - 8 * j)) = ((Ob.byteAt n j : Nat) : Int) := by
  have e : (2 : Nat) ^ (56 - 8 * j) = 256 ^ (7 - j) := by
    have : 56 - 8 * j = 8 * (7 - j) := by omega
    rw [this, Nat.pow_mul]
  have e1 : (n : Int) / 2 ^ (56 - 8 * j) = ((n / 2 ^ (56 - 8 * j) : Nat) : Int) := by simp
  rw [e1, e, IntKind.wrap_u8]
  unfold Ob.byteAt
  omega

set_option maxRecDepth 4000 in
set_option maxHeartbeats 1000000 in
theorem bytesW (b off k cap : Nat) (ns : Nat → Nat) (hns : ∀ i, ns i < 18446744073709551616) (w : World) (hk : k ≤ 1000000) (hc : ∀ i, i < k → w.cell? ⟨b, off + i, none⟩ = some (.int .u64 (ns i : Nat))) (hbw : b < w.heap.size) :
    Calls Tryd.prog 61 #[.slice (some ⟨b, off, none⟩) k cap] w fun e w' => e = .returned (.slice (some ⟨w.heap.size, 0, none⟩) (8 * k) (8 * k)) ∧ w'.ownsRow w.heap.size 5 1 (.slice (some ⟨w.heap.size, 0, none⟩) (8 * k) (8 * k)) (8 * k) (vals (byteOf ns) (8 * k)) ∧ Below w.heap.size w w' := by
  obtain ⟨i0, hi, hz1, hz2, hz0⟩ := byteInfo
  have hm : 8 * k ≤ maxLen := by unfold maxLen; omega
  go_enter Tryd.func61, Tryd.ntmps61
  go_wp2_with (at_make; refine wpList_make_own _ rfl _ _ 34 rfl w.heap.size 5 i0 _ 1 Tryd.underlying34 hi hz0 hz1 _ _ _ (8 * k) rfl rfl (by omega) (by rw [hz2]; omega) hm (Nat.le_refl _) ?_; intro w0 hown0 hgrow0)
  have hB0 : Below w.heap.size w w0 := (Below.refl _ _).grown hgrow0 (Nat.le_refl _) (fun k h => by cases h)
  clear hgrow0
  go_loopw [3, 13] (fun sb si wr => ∃ i : Nat, i ≤ k ∧ si = .int .i64 i ∧ sb = .slice (some ⟨w.heap.size, 0, none⟩) (8 * i) (8 * k) ∧ wr.ownsRow w.heap.size 5 1 (.slice (some ⟨w.heap.size, 0, none⟩) (8 * i) (8 * k)) (8 * i) (vals (byteOf ns) (8 * i)) ∧ Below w.heap.size w wr) (fun _ si _ => k - (intOf si).toNat)
  case atStart => exact ⟨0, by omega, rfl, rfl, hown0, hB0⟩
  case round =>
    obtain ⟨i, hik, rfl, rfl, hown, hB⟩ := hrel
    clear hown0 hB0
    by_cases hlt : i < k
    · have hci : wr.cell? ⟨b, off + i, none⟩ = some (.int .u64 (ns i : Nat)) := by rw [(bcell hB).1 b _ hbw]; exact hc i hlt
      have hni := hns i
      have hby : ∀ j, j < 8 → Hid (byteOf ns (8 * i + j) = Ob.byteAt (ns i) j) := fun j hj => by
        show byteOf ns (8 * i + j) = Ob.byteAt (ns i) j
        unfold byteOf
        have e1 : (8 * i + j) / 8 = i := by omega
        have e2 : (8 * i + j) % 8 = j := by omega
        rw [e1, e2]
      have hsh := fun j (hj : j < 8) => shr_byte (ns i) j hj hni
      generalize ns i = n at hci hni hby hsh
      go_wp2_with fail
      go_loopw [3, 6] (fun sb ss wq => ∃ j : Nat, j ≤ 8 ∧ ss = .int .i64 (56 - 8 * (j : Int)) ∧ sb = .slice (some ⟨w.heap.size, 0, none⟩) (8 * i + j) (8 * k) ∧ wq.ownsRow w.heap.size 5 1 (.slice (some ⟨w.heap.size, 0, none⟩) (8 * i + j) (8 * k)) (8 * i + j) (vals (byteOf ns) (8 * i + j)) ∧ Below w.heap.size w wq) (fun _ ss _ => (intOf ss + 8).toNat)
      case atStart => exact ⟨0, by omega, rfl, rfl, hown, hB⟩
      case round =>
        obtain ⟨j, hj, rfl, rfl, hown1, hB1⟩ := hrel
        clear hown hB hci
        by_cases hj8 : j < 8
        · have hs := hsh j hj8
          have hv := hby j hj8
          clear hsh hby hc
          have hown2 := hown1.alloc (.cells #[.int .u8 (Ob.byteAt n j : Nat)] 5)
          have hroom : 8 * i + j + 1 ≤ 8 * k := by omega
          have hj0 : (0 : Int) ≤ 56 - 8 * (j : Int) := by omega
          go_wp2_with (at_builtin; refine wpList_append_own_spare _ rfl _ _ 34 rfl w.heap.size 5 i0 1 Tryd.underlying34 hi hz1 w.heap.size (8 * i + j) (8 * k) _ rfl hown2 ⟨wr.heap.size, 0, none⟩ 1 1 [.int .u8 (Ob.byteAt n j : Nat)] rfl rfl (cell_one_new _ _ _) (by simp [Value.oneCell']) hroom ?_; intro w1 hown3 hgrow1)
          rw [← hv.out, ← vals_succ] at hown3
          have hB2 : Below w.heap.size w w1 := (hB1.alloc hB1.size _).grown hgrow1 (by have := hB1.size; simp only [World.size_alloc]; omega) (fun k h => by cases h; exact Nat.le_refl _)
          go_roundw
          case rel => exact ⟨j + 1, by omega, val_int (by omega), rfl, hown3, hB2⟩
          case measure => simp [intOf]; omega
        · obtain rfl : j = 8 := by omega
          clear hsh hby
          go_wp2
          go_roundw
          case rel => exact ⟨i + 1, by omega, by go_num, rfl, hown1, hB1⟩
          case measure => simp [intOf]; omega
    · obtain rfl : i = k := by omega
      go_wp2
      go_ret
      exact ⟨rfl, hown, hB⟩

theorem run_make8 (w : World) : (Instr.makeSlice 34 (.int .i64 8) (.int .i64 8)).run Tryd.prog w = .ok (.slice (some ⟨w.heap.size, 0, none⟩) 8 8) (w.alloc (.cells #[.int .u8 0, .int .u8 0, .int .u8 0, .int .u8 0, .int .u8 0, .int .u8 0, .int .u8 0, .int .u8 0] 5)) := by
  obtain ⟨i0, hi, hz1, hz2, hz0⟩ := byteInfo
  have h := run_make (P := Tryd.prog) w 34 5 i0 _ Tryd.underlying34 hi hz0 .i64 .i64 8 8 (by omega) (by omega) (by rw [hz2]; decide) (by omega)
  rw [hz1] at h
  have e : madeCells (Value.int .u8 0).cells (Int.toNat 8 * 1) = #[.int .u8 0, .int .u8 0, .int .u8 0, .int .u8 0, .int .u8 0, .int .u8 0, .int .u8 0, .int .u8 0] := by kernel_rfl
  rw [e] at h
  exact h

set_option maxHeartbeats 2000000 in
set_option maxRecDepth 4000 in
theorem rbytesW (n : Nat) (hn : n < 18446744073709551616) (w : World) :
    Calls Tryd.prog 49 #[.int .u64 n] w fun e w' => e = .returned (.slice (some ⟨w.heap.size, 0, none⟩) 8 8) ∧ Bys w' w.heap.size 0 8 (Ob.byteAt n) ∧ Below w.heap.size w w' := by
  have hmk := run_make8
  go_enter Tryd.func49, Tryd.ntmps49
  go_wp2
  go_rounds 9
  go_ret
  refine ⟨rfl, ⟨by simp, fun i hi => ?_⟩, by (repeat' (first | (with_reducible first | exact Below.refl _ _ | assumption | refine Below.alloc ?_ ?_ _ | refine Below.drew ?_ | refine below_drewN ?_ _ | refine Below.setCell ?_ ?_ _ | refine below_via (by with_reducible assumption) ?_ ?_) | omega | (simp only [szs]; omega) | (simp only [szs] at *; omega)))⟩
  rw [Nat.zero_add, World.cell?_alloc_new]
  have h8 : i = 0 ∨ i = 1 ∨ i = 2 ∨ i = 3 ∨ i = 4 ∨ i = 5 ∨ i = 6 ∨ i = 7 := by omega
  rcases h8 with rfl | rfl | rfl | rfl | rfl | rfl | rfl | rfl
  all_goals
    refine congrArg some (val_int ?_)
    simp only [Ob.byteAt]
    omega

/-- The numbers of bytes, as a list. -/
def nums (z : Nat → Nat) (n : Nat) : List Int := (List.range n).map fun i => (z i : Int)
/-- A slice of bytes, told as a string. -/
theorem bys_str (b off n cap : Nat) (z : Nat → Nat) (w : World) (h : Bys w b off n z) : (convert 34 9 (.slice (some ⟨b, off, none⟩) n cap)).run Tryd.prog w = .ok (.string (strOfNums (nums z n))) w := by
  refine run_convert_bytes_arg w 34 5 Tryd.underlying34 Tryd.underlying5 b off n cap (nums z n) (by simp [nums]) (fun i hi => ?_) 9 Tryd.underlying9
  rw [h.at_ i hi]
  simp [nums, hi]
theorem nums_add (z : Nat → Nat) (m n : Nat) : nums z (m + n) = nums z m ++ nums (fun i => z (m + i)) n := by
  simp [nums, List.range_add]
theorem nums_congr (y z : Nat → Nat) (n : Nat) (h : ∀ i, i < n → y i = z i) : nums y n = nums z n := by
  simp only [nums]
  refine List.map_congr_left fun i hi => ?_
  rw [h i (List.mem_range.mp hi)]
theorem strOfNums_append (x y : List Int) : strOfNums x ++ strOfNums y = strOfNums (x ++ y) := by
  apply ByteArray.ext
  simp [strOfNums, ByteArray.data_append]

/-- n bytes of the call's own, that may be written. -/
structure Wby (w : World) (g n : Nat) : Prop where
  at_ : ∀ j, j < n → ∃ v : Nat, v < 256 ∧ w.cell? ⟨g, j, none⟩ = some (.int .u8 v)
  free : ∀ o, w.frozen? ⟨g, o, none⟩ = false
  lt : g < w.heap.size
theorem Wby.of_bys {w : World} {g n : Nat} {z : Nat → Nat} (hz : ∀ i, z i < 256) (h : Bys w g 0 n z) (f : ∀ o, w.frozen? ⟨g, o, none⟩ = false) : Wby w g n :=
  ⟨fun j hj => ⟨z j, hz j, by have := h.at_ j hj; rw [Nat.zero_add] at this; exact this⟩, f, h.lt⟩
theorem Wby.set {w : World} {g n k : Nat} (h : Wby w g n) (v : Nat) (hv : v < 256) (hk : k < n) : Wby (w.setCell ⟨g, k, none⟩ (.int .u8 v)) g n := by
  refine ⟨fun j hj => ?_, fun o => by simp [h.free o], by simp [h.lt]⟩
  by_cases e : j = k
  · subst e
    obtain ⟨u, _, hc⟩ := h.at_ j hj
    exact ⟨v, hv, World.cell?_setCell_same _ _ _ hc⟩
  · obtain ⟨u, hu, hc⟩ := h.at_ j hj
    exact ⟨u, hu, by rw [World.cell?_setCell_other _ _ _ _ (fun h => e (by injection h with _ h2; exact h2.symm)), hc]⟩
theorem Wby.below {w w1 : World} {B g n : Nat} (t : Wby w g n) (hb : Below B w w1) (h : g < B) : Wby w1 g n :=
  ⟨fun j hj => by obtain ⟨v, hv, hc⟩ := t.at_ j hj; exact ⟨v, hv, by rw [(bcell hb).1 g _ h]; exact hc⟩, fun o => by rw [(bcell hb).2 g o h]; exact t.free o, Nat.lt_of_lt_of_le t.lt hb.size⟩
theorem wrap_succ (v : Nat) : IntKind.u8.wrap ((v : Int) + 1) = (((v + 1) % 256 : Nat) : Int) := by rw [IntKind.wrap_u8]; omega
/-- A row of one's own is kept by calls that turn nothing that was there. -/
theorem own_below {w w1 : World} {B base n size : Nat} {e : TypeId} {v : Value} {xs : List Value} (h : w.ownsRow base e size v n xs) (hb : Below B w w1) (hl : ∀ k, v.ownBlock = some k → k < B) : w1.ownsRow base e size v n xs := by
  refine ⟨h.1, ?_⟩
  rcases h.2 with h0 | ⟨g, cap, cur, hv, h1, h2, h3⟩
  · exact .inl h0
  · exact .inr ⟨g, cap, cur, hv, h1, by rw [hb.block g (hl g (by rw [hv]; rfl))]; exact h2, h3⟩
theorem vals_cons (z : Nat → Nat) (n : Nat) : .int .u8 (z 0 : Nat) :: vals (fun i => z (1 + i)) n = vals z (1 + n) := by
  simp [vals, List.range_add]
theorem vals_add (z : Nat → Nat) (m n : Nat) : vals z m ++ vals (fun i => z (m + i)) n = vals z (m + n) := by
  simp [vals, List.range_add]
theorem vals_congr (y z : Nat → Nat) (n : Nat) (h : ∀ i, i < n → y i = z i) : vals y n = vals z n := by
  simp only [vals]
  refine List.map_congr_left fun i hi => ?_
  rw [h i (List.mem_range.mp hi)]
/-- The room behind a row. -/
theorem cap_of_row {w : World} {base n cap g : Nat} {xs : List Value} (h : w.ownsRow base 5 1 (.slice (some ⟨g, 0, none⟩) n cap) n xs) : n ≤ cap ∧ cap ≤ maxLen := by
  rcases h.2 with ⟨h0, _⟩ | ⟨g', cap', cur, hv, _, _, h1, h2, _⟩
  · cases h0
  · cases hv; exact ⟨h1, h2⟩
/-- Two numbers, one behind the other. -/
def pair (x y : Nat) (i : Nat) : Nat := if i = 0 then x else y
theorem pair_lt (x y : Nat) (hx : x < 18446744073709551616) (hy : y < 18446744073709551616) (i : Nat) : pair x y i < 18446744073709551616 := by unfold pair; split <;> assumption
theorem pair_cells (W : World) (x y : Nat) (t : TypeId) : ∀ i, i < 2 → (W.alloc (.cells #[.int .u64 x, .int .u64 y] t)).cell? ⟨W.heap.size, 0 + i, none⟩ = some (.int .u64 (pair x y i : Nat)) := by
  intro i hi
  rw [Nat.zero_add, World.cell?_alloc_new]
  have h : i = 0 ∨ i = 1 := by omega
  rcases h with rfl | rfl <;> rfl
end Go.Proofs.YtdhbkhmknnlmnaaDoor

namespace Go.Proofs.YtdhbkhmknnlmnaaDoor
open Go.RowKit Go.Proofs
set_option linter.unusedVariables false
set_option linter.unusedSimpArgs false

/-- n bytes, others behind them. -/
def joinB (z : Nat → Nat) (n : Nat) (u : Nat → Nat) (j : Nat) : Nat := if j < n then z j else u (j - n)
theorem vals_joinB (z u : Nat → Nat) (n : Nat) : ∀ m, vals z n ++ vals u m = vals (joinB z n u) (n + m)
  | 0 => by rw [vals_zero, List.append_nil]; exact vals_congr _ _ _ fun i hi => by unfold joinB; rw [if_pos hi]
  | m + 1 => by
    rw [vals_succ, ← List.append_assoc, vals_joinB z u n m, ← Nat.add_assoc, vals_succ]
    have e : joinB z n u (n + m) = u m := by unfold joinB; rw [if_neg (by omega), Nat.add_sub_cancel_left]
    rw [e]
theorem wpList_full {ops : Array Oper} {rest : List Oper} {o : Oper} {a : Act} {w : World} {Q : Exit → Act → World → Prop} (hgd : o.guard = none) (s x : Operand)
    (ho : o.op = .call { callee := .builtin .append, args := #[s, x], argTypes := #[34, 34] }) (g n b off m c : Nat) (z u : Nat → Nat) (hz : Bys w g 0 n z) (hu : Bys w b off m u) (hm : 0 < m) (hn : n ≤ 1000000) (hm' : m ≤ 1000000)
    (hs : a.eval s = .slice (some ⟨g, 0, none⟩) n n) (hx : a.eval x = .slice (some ⟨b, off, none⟩) m c)
    (h : ∀ cap' w', n + m ≤ cap' → Bys w' w.heap.size 0 (n + m) (joinB z n u) → Below w.heap.size w w' → wpList Tryd.prog ops Q rest (a.put o.dst (.slice (some ⟨w.heap.size, 0, none⟩) (n + m) cap')) w') : wpList Tryd.prog ops Q (o :: rest) a w := by
  refine wpList_plain hgd fun K hK => ?_
  obtain ⟨i0, hi, hz1, hz2, hz0⟩ := byteInfo
  have src : Go.Src Tryd.prog i0.size 34 (.slice (some ⟨b, off, none⟩) m c) m (vals u m) w :=
    Go.Src.ofSlice w Tryd.underlying34 _ m c _ (by rw [hz1]; simp [vals]) (bys_news hu) (vals_one u m)
  have hold := run_firstCells_some (P := Tryd.prog) w.drew i0.size n ⟨g, 0, none⟩ n n (vals z n) (by rw [hz1]; simp [vals]) (fun j v hv => bys_news hz j v hv)
  have hr := run_append_grow_src w 34 34 o.type 5 i0 _ Tryd.underlying34 hi hz0 (some ⟨g, 0, none⟩) n n (vals z n) hold _ m _ src (by omega) (by omega) (by rw [hz2]; exact growslice_fits (by omega) (by omega))
  rw [vals_joinB] at hr
  have hge := grownCap_ge w (n + m) n 5
  generalize grownCap w (n + m) n 5 = C at hr hge
  unfold Oper.wp execOp
  simp only [ho, resolve, invoke, builtin, Sem.run_bind, Sem.run_pure, Result.andThen_ok, List.map_toArray, List.map_cons, List.map_nil, hs, hx, hr]
  refine hK _ _ (h C _ hge ⟨by simp, fun j hj => ?_⟩ (((Below.refl w.heap.size w).drew).alloc (Nat.le_refl _) _))
  rw [Nat.zero_add, show (w.drew.alloc (.cells ((vals (joinB z n u) (n + m)).toArray ++ Builtin.zeroCells (Value.int IntKind.u8 0).cells (C - (n + m))) 5)).cell? ⟨w.heap.size, j, none⟩ = ((vals (joinB z n u) (n + m)).toArray ++ Builtin.zeroCells (Value.int IntKind.u8 0).cells (C - (n + m)))[j]? from World.cell?_alloc_at _ _ _ _ (by simp),
    Array.getElem?_append_left (by simp [vals]; omega), List.getElem?_toArray]
  exact vals_get _ _ j hj
theorem joinB_pair (n k i : Nat) (hi : i < 16) : joinB (Ob.byteAt n) 8 (Ob.byteAt k) i = byteOf (pair n k) i := by
  unfold joinB byteOf pair
  by_cases h : i < 8
  · rw [if_pos h, show i / 8 = 0 by omega, show i % 8 = i by omega, if_pos rfl]
  · rw [if_neg h, show i / 8 = 1 by omega, show i % 8 = i - 8 by omega, if_neg (by decide)]
theorem Bys.congr {w : World} {b off n : Nat} {y z : Nat → Nat} (t : Bys w b off n y) (h : ∀ i, i < n → y i = z i) : Bys w b off n z := ⟨t.lt, fun i hi => by rw [← h i hi]; exact t.at_ i hi⟩
end Go.Proofs.YtdhbkhmknnlmnaaDoor

namespace Go.Proofs.YtdhbkhmknnlmnaaDoor
open Go.RowKit Go.Proofs
set_option linter.unusedVariables false
set_option linter.unusedSimpArgs false

/-- A variable of the call's own, of three cells. -/
structure Three (w : World) (b : Nat) (x y z : Value) : Prop where
  c0 : w.cell? ⟨b, 0, none⟩ = some x
  c1 : w.cell? ⟨b, 1, none⟩ = some y
  c2 : w.cell? ⟨b, 2, none⟩ = some z
  f0 : w.frozen? ⟨b, 0, none⟩ = false
  f1 : w.frozen? ⟨b, 1, none⟩ = false
  f2 : w.frozen? ⟨b, 2, none⟩ = false
  lt : b < w.heap.size
theorem Three.below {w w1 : World} {B b : Nat} {x y z : Value} (t : Three w b x y z) (hb : Below B w w1) (h : b < B) : Three w1 b x y z :=
  ⟨by rw [(bcell hb).1 b 0 h]; exact t.c0, by rw [(bcell hb).1 b 1 h]; exact t.c1, by rw [(bcell hb).1 b 2 h]; exact t.c2, by rw [(bcell hb).2 b 0 h]; exact t.f0, by rw [(bcell hb).2 b 1 h]; exact t.f1, by rw [(bcell hb).2 b 2 h]; exact t.f2, Nat.lt_of_lt_of_le t.lt hb.size⟩
theorem Three.alloc {w : World} {b : Nat} {x y z : Value} (t : Three w b x y z) (o : Obj) : Three (w.alloc o) b x y z := t.below ((Below.refl w.heap.size w).alloc (Nat.le_refl _) o) t.lt
theorem Three.put0 {w : World} {b : Nat} {x y z : Value} (t : Three w b x y z) (v : Value) : Three (w.setCell ⟨b, 0, none⟩ v) b v y z where
  c0 := by rw [World.cell?_setCell_same _ _ _ t.c0]
  c1 := by rw [World.cell?_setCell_other _ _ _ _ (by simp), t.c1]
  c2 := by rw [World.cell?_setCell_other _ _ _ _ (by simp), t.c2]
  f0 := by simp [t.f0]
  f1 := by simp [t.f1]
  f2 := by simp [t.f2]
  lt := by simp [t.lt]
theorem Three.put1 {w : World} {b : Nat} {x y z : Value} (t : Three w b x y z) (v : Value) : Three (w.setCell ⟨b, 1, none⟩ v) b x v z where
  c0 := by rw [World.cell?_setCell_other _ _ _ _ (by simp), t.c0]
  c1 := by rw [World.cell?_setCell_same _ _ _ t.c1]
  c2 := by rw [World.cell?_setCell_other _ _ _ _ (by simp), t.c2]
  f0 := by simp [t.f0]
  f1 := by simp [t.f1]
  f2 := by simp [t.f2]
  lt := by simp [t.lt]
theorem Three.put2 {w : World} {b : Nat} {x y z : Value} (t : Three w b x y z) (v : Value) : Three (w.setCell ⟨b, 2, none⟩ v) b x y v where
  c0 := by rw [World.cell?_setCell_other _ _ _ _ (by simp), t.c0]
  c1 := by rw [World.cell?_setCell_other _ _ _ _ (by simp), t.c1]
  c2 := by rw [World.cell?_setCell_same _ _ _ t.c2]
  f0 := by simp [t.f0]
  f1 := by simp [t.f1]
  f2 := by simp [t.f2]
  lt := by simp [t.lt]
theorem Three.put {w : World} {b : Nat} {x y z : Value} (t : Three w b x y z) (x' y' z' : Value) : Three (((w.setCell ⟨b, 0, none⟩ x').setCell ⟨b, 1, none⟩ y').setCell ⟨b, 2, none⟩ z') b x' y' z' :=
  ((t.put0 x').put1 y').put2 z'
theorem Three.far {w : World} {b b' : Nat} {x y z : Value} (t : Three w b x y z) (h : b' ≠ b) (o : Nat) (v : Value) : Three (w.setCell ⟨b', o, none⟩ v) b x y z where
  c0 := by rw [World.cell?_setCell_other _ _ _ _ (by simp [h]), t.c0]
  c1 := by rw [World.cell?_setCell_other _ _ _ _ (by simp [h]), t.c1]
  c2 := by rw [World.cell?_setCell_other _ _ _ _ (by simp [h]), t.c2]
  f0 := by simp [t.f0]
  f1 := by simp [t.f1]
  f2 := by simp [t.f2]
  lt := by simp [t.lt]
theorem Three.new {w : World} {x y z : Value} {t : TypeId} {b : Nat} (h : b = w.heap.size) : Three (w.alloc (.cells #[x, y, z] t)) b x y z := by subst h; exact ⟨by simp [go_sem], by simp [go_sem], by simp [go_sem], by simp [go_sem], by simp [go_sem], by simp [go_sem], by simp⟩

/-- Such a variable, whatever it holds. -/
def Own3 (w : World) (b : Nat) : Prop := ∃ x y z, Three w b x y z
theorem Three.own {w : World} {b : Nat} {x y z : Value} (t : Three w b x y z) : Own3 w b := ⟨x, y, z, t⟩
theorem Three.set {w : World} {b : Nat} (t : Own3 w b) (x' y' z' : Value) : Three (((w.setCell ⟨b, 0, none⟩ x').setCell ⟨b, 1, none⟩ y').setCell ⟨b, 2, none⟩ z') b x' y' z' := by obtain ⟨x, y, z, t⟩ := t; exact t.put x' y' z'
theorem Own3.set {w : World} {b : Nat} (t : Own3 w b) (x' y' z' : Value) : Own3 (((w.setCell ⟨b, 0, none⟩ x').setCell ⟨b, 1, none⟩ y').setCell ⟨b, 2, none⟩ z') b := (Three.set t x' y' z').own
theorem Three.via {w w1 : World} {B b : Nat} {x y z : Value} (hb : Below B w w1) (t : Three w b x y z) (h : b < B) : Three w1 b x y z := t.below hb h
theorem Three.drew {w : World} {b : Nat} {x y z : Value} (t : Three w b x y z) : Three w.drew b x y z := t.below ((Below.refl w.heap.size w).drew) t.lt
theorem Three.drewN {w : World} {b : Nat} {x y z : Value} (t : Three w b x y z) (n : Nat) : Three (w.drewN n) b x y z := t.below (below_drewN (Below.refl w.heap.size w) n) t.lt
theorem Own3.via {w w1 : World} {B b : Nat} (hb : Below B w w1) (t : Own3 w b) (h : b < B) : Own3 w1 b := by obtain ⟨x, y, z, t⟩ := t; exact ⟨x, y, z, t.below hb h⟩
theorem Own3.far {w : World} {b b' : Nat} (t : Own3 w b) (h : b' ≠ b) (o : Nat) (v : Value) : Own3 (w.setCell ⟨b', o, none⟩ v) b := by obtain ⟨x, y, z, t⟩ := t; exact ⟨x, y, z, t.far h o v⟩
theorem Own3.alloc {w : World} {b : Nat} (t : Own3 w b) (o : Obj) : Own3 (w.alloc o) b := by obtain ⟨x, y, z, t⟩ := t; exact ⟨x, y, z, t.alloc o⟩
theorem Own3.new {w : World} {x y z : Value} {t : TypeId} {b : Nat} (h : b = w.heap.size) : Own3 (w.alloc (.cells #[x, y, z] t)) b := ⟨x, y, z, Three.new h⟩
theorem Own3.drew {w : World} {b : Nat} (t : Own3 w b) : Own3 w.drew b := by obtain ⟨x, y, z, t⟩ := t; exact ⟨x, y, z, t.drew⟩
theorem Own3.drewN {w : World} {b : Nat} (t : Own3 w b) (n : Nat) : Own3 (w.drewN n) b := by obtain ⟨x, y, z, t⟩ := t; exact ⟨x, y, z, t.drewN n⟩
end Go.Proofs.YtdhbkhmknnlmnaaDoor

namespace Go.Proofs.YtdhbkhmknnlmnaaDoor
open Go.RowKit Go.Proofs
set_option linter.unusedVariables false
set_option linter.unusedSimpArgs false

theorem cells2 {w : World} {a : Nat} {x y : Value} (t : Two w a x y) : w.cell? ⟨a, 0, none⟩ = some x ∧ w.cell? ⟨a, 1, none⟩ = some y := ⟨t.c0, t.c1⟩
theorem cells3 {w : World} {a : Nat} {x y z : Value} (t : Three w a x y z) : w.cell? ⟨a, 0, none⟩ = some x ∧ w.cell? ⟨a, 1, none⟩ = some y ∧ w.cell? ⟨a, 2, none⟩ = some z := ⟨t.c0, t.c1, t.c2⟩
theorem cells_and {A B C : Prop} (h : A ∧ B) (k : C) : A ∧ B ∧ C := ⟨h.1, h.2, k⟩
theorem cells_and3 {A B C D : Prop} (h : A ∧ B ∧ C) (k : D) : A ∧ B ∧ C ∧ D := ⟨h.1, h.2.1, h.2.2, k⟩
end Go.Proofs.YtdhbkhmknnlmnaaDoor
