/-
  Numbers out of bytes, the lowest first; a block's words.
-/
import Derived.Test.YtllgnclbbakliaaDoorArr
import Derived.Test.YtllgnclbbakliaaDoorWordsW
import Derived.Deep.DeepCutAuto
namespace Go.Proofs.YtllgnclbbakliaaDoor
open Go.RowKit Go.Proofs
set_option linter.unusedVariables false
set_option linter.unusedSimpArgs false
attribute [local go_sem ↓] Go.wp_at_zero Go.wp_at_succ

theorem or_low (n x k : Nat) (hn : n < 2 ^ (8 * k)) (hx : x < 256) (hk : k < 8) : bits .or .u64 (n : Int) (IntKind.u64.wrap ((x : Int) * 2 ^ (8 * k))) = ((n + x * 2 ^ (8 * k) : Nat) : Int) := by
  have h8 : 2 ^ (8 * k) * 256 ≤ 2 ^ 64 := by
    have : (2 : Nat) ^ (8 * k + 8) ≤ 2 ^ 64 := Nat.pow_le_pow_right (by decide) (by omega)
    rwa [Nat.pow_add] at this
  have h1 : x * 2 ^ (8 * k) < 2 ^ 64 := by
    have : (x + 1) * 2 ^ (8 * k) ≤ 256 * 2 ^ (8 * k) := Nat.mul_le_mul_right _ hx
    have hp : 0 < 2 ^ (8 * k) := Nat.two_pow_pos _
    rw [Nat.add_mul, Nat.one_mul] at this
    rw [Nat.mul_comm] at h8
    omega
  have h2 : n < 2 ^ 64 := by omega
  have e : IntKind.u64.wrap ((x : Int) * 2 ^ (8 * k)) = ((x * 2 ^ (8 * k) : Nat) : Int) := by
    rw [IntKind.wrap_u64]
    have : (x : Int) * 2 ^ (8 * k) = ((x * 2 ^ (8 * k) : Nat) : Int) := by simp
    rw [this]
    generalize x * 2 ^ (8 * k) = y at *
    omega
  rw [e, bits_or_u64_nat _ _ h2 h1, Nat.mul_comm x, Nat.or_comm, ← Nat.two_pow_add_eq_or_of_lt hn x, Nat.add_comm]

set_option maxHeartbeats 400000 in
theorem lowNumberW (b off L cap : Nat) (hL : L ≤ 8) (z : Nat → Nat) (hz : ∀ i, z i < 256) (w : World) (hB : Bys w b off L z) :
    Calls Tryd.prog 25 #[.slice (some ⟨b, off, none⟩) L cap] w fun e w' => e = .returned (.int .u64 (Ob.lowN z L : Nat)) ∧ w = w' := by
  have hc := hB.at_
  clear hB
  go_enter Tryd.func25, Tryd.ntmps25
  go_wp2
  go_loop [3, 8] (fun sn si => ∃ k : Nat, k ≤ L ∧ si = .int .i64 k ∧ sn = .int .u64 (Ob.lowN z k : Nat)) (fun _ si => L - (intOf si).toNat)
  case atStart => exact ⟨0, by omega, rfl, rfl⟩
  case round =>
    obtain ⟨k, hk, rfl, rfl⟩ := hrel
    by_cases hlt : k < L
    · have hck := hc k hlt
      clear hc
      have hzk := hz k
      have hor := or_low (Ob.lowN z k) (z k) k (Ob.lowN_lt hz k) hzk (by omega)
      have hn : Hid (Ob.lowN z (k + 1) = Ob.lowN z k + z k * 2 ^ (8 * k)) := rfl
      obtain ⟨N', hN'⟩ : ∃ N', Hid (Ob.lowN z (k + 1) = N') := ⟨_, rfl⟩
      rw [← hn.out, hN'.out] at hor
      have i0 : (k : Int) < (L : Int) := by omega
      have i1 : (0 : Int) ≤ (k : Int) := by omega
      have i2 : IntKind.i64.wrap (8 * (k : Int)) = ((8 * k : Nat) : Int) := by rw [IntKind.wrap_i64]; omega
      obtain ⟨s, hs⟩ : ∃ s, Hid (8 * k = s) := ⟨_, rfl⟩
      rw [hs.out] at hor i2
      have i3 : (0 : Int) ≤ (s : Int) := by omega
      generalize Ob.lowN z k = N at hor ⊢
      have hmin : min s 64 = s := by have := hs.out; omega
      generalize z k = zk at hck hzk hor
      clear hz
      go_wp2
      go_round
      case rel => exact ⟨k + 1, by omega, by go_num, by rw [hN'.out]⟩
      case measure => simp [intOf]; omega
    · obtain rfl : k = L := by omega
      clear hc
      go_wp2
      go_ret
      exact ⟨rfl, rfl⟩

theorem lowN_four (z : Nat → Nat) : Ob.lowN z 4 = z 0 + 256 * z 1 + 65536 * z 2 + 16777216 * z 3 := by
  simp only [Ob.lowN]
  omega
theorem wordW (b off cap : Nat) (z : Nat → Nat) (hz : ∀ i, z i < 256) (w : World) (hB : Bys w b off 4 z) :
    Calls Tryd.prog 26 #[.slice (some ⟨b, off, none⟩) 4 cap] w fun e w' => e = .returned (.int .u32 (Ob.lowN z 4 : Nat)) ∧ w = w' := by
  have c := lowNumberW b off 4 cap (by decide) z hz w hB
  have hl : Ob.lowN z 4 < 4294967296 := Ob.lowN_lt hz 4
  have hw : IntKind.u32.wrap ((Ob.lowN z 4 : Nat) : Int) = ((Ob.lowN z 4 : Nat) : Int) := by rw [IntKind.wrap_u32]; omega
  generalize Ob.lowN z 4 = x at *
  go_enter Tryd.func26, Tryd.ntmps26
  go_wp2_with (go_at_call 25; with_reducible refine c.mono ?_; rintro e w' ⟨rfl, rfl⟩)
  go_ret
  exact ⟨rfl, rfl⟩

def wordsI (z : Nat → Nat) (i j : Nat) : Nat := if j < i then wordAt z j else 0
theorem wordsI_zero (z : Nat → Nat) : wordsI z 0 = fun _ => 0 := by funext j; simp [wordsI]
theorem wordsI_succ (z : Nat → Nat) (i : Nat) : Ob.upd (wordsI z i) i (wordAt z i) = wordsI z (i + 1) := by
  funext j
  unfold Ob.upd wordsI
  by_cases h1 : j = i
  · subst h1; simp
  · by_cases h2 : j < i
    · simp [h1, h2, Nat.lt_succ_of_lt h2]
    · simp [h1, h2]; omega

set_option maxHeartbeats 4000000 in
theorem blockWords_core (z : Nat → Nat) (hz : ∀ i, z i < 256) (w : World) :
    Calls Tryd.prog 16 #[arrV .u8 z 64] w fun e w' => e = .returned (arrV .u32 (wordAt z) 16) ∧ Below w.heap.size w w' := by
  unfold arrV
  have hl := arrL_length .u8 z 64
  have hz' : Hid (∀ i, z i < 256) := hz
  clear hz
  go_enter Tryd.func16, Tryd.ntmps16
  go_upto_region 2 with (fail)
  obtain ⟨W0, hW0⟩ : ∃ W, Hid ((((w.alloc (.cells (arrL .u8 z 64).toArray 24)).alloc (.cells (arrL .u32 (fun _ => 0) 16).toArray 43)).alloc (.cells (arrL .u32 (fun _ => 0) 16).toArray 43)) = W) := ⟨_, rfl⟩
  have th0 : Arr W0 .u8 w.heap.size 64 z := by rw [← hW0.out]; exact ((Arr.new rfl).alloc _).alloc _
  have tr0 : Arr W0 .u32 (w.heap.size + 1) 16 (fun _ => 0) := by rw [← hW0.out]; exact (Arr.new (by simp)).alloc _
  have tv0 : Arr W0 .u32 (w.heap.size + 1 + 1) 16 (wordsI z 0) := by rw [← hW0.out, wordsI_zero]; exact Arr.new (by simp)
  have hB0 : Below w.heap.size w W0 := by rw [← hW0.out]; (repeat' (first | (with_reducible first | exact Below.refl _ _ | assumption | refine Below.alloc ?_ ?_ _ | refine Below.drew ?_ | refine below_drewN ?_ _ | refine Below.setCell ?_ ?_ _ | refine below_via (by with_reducible assumption) ?_ ?_) | omega | (simp only [szs]; omega) | (simp only [szs] at *; omega)))
  change Code.wp _ _ _ _ (((w.alloc (.cells (arrL .u8 z 64).toArray 24)).alloc (.cells (arrL .u32 (fun _ => 0) 16).toArray 43)).alloc (.cells (arrL .u32 (fun _ => 0) 16).toArray 43))
  rw [hW0.out]
  clear hW0
  obtain ⟨N, hN⟩ : ∃ N, Hid (w.heap.size = N) := ⟨_, rfl⟩
  rw [hN.out] at tv0 th0 tr0 hB0 ⊢
  go_wp2
  go_loopw [5] (fun s5 wr => ∃ (i : Nat), i ≤ 16 ∧ s5 = .int .i64 (i : Nat) ∧ Hid (Arr wr .u8 N 64 z) ∧ Hid (Arr wr .u32 (N + 1) 16 (fun _ => 0)) ∧ Hid (Arr wr .u32 (N + 1 + 1) 16 (wordsI z i)) ∧ Below N w wr) (fun s5 _ => 16 - (intOf s5).toNat)
  case atStart => exact ⟨0, by omega, rfl, th0, tr0, tv0, hB0⟩
  case round =>
    clear tv0 th0 tr0 hB0
    obtain ⟨i, hi, rfl, th, tr, tv, hB⟩ := hrel
    have l0 := hB.size
    by_cases hlt : i < 16
    · have y : Bys wr N (4 * i) 4 (fun j => z (4 * i + j)) := ⟨th.out.lt, fun j hj => th.out.c (4 * i + j) (by omega)⟩
      have hx : Hid (Ob.lowN (fun j => z (4 * i + j)) 4 = wordAt z i) := lowN_four _
      have c1 := wordW N (4 * i) (64 - 4 * i) _ (fun j => hz'.out (4 * i + j)) wr y
      rw [hx.out] at c1
      have p2 := tv.out.c i (by omega)
      have p4 := tv.out.f i (by omega)
      have i0 : (i : Int) < 16 := by omega
      have i1 : (0 : Int) ≤ (i : Int) := by omega
      obtain ⟨s, hs, i2⟩ : ∃ s : Nat, Hid (4 * i = s) ∧ IntKind.i64.wrap (4 * (i : Int)) = (s : Int) := ⟨4 * i, rfl, by rw [IntKind.wrap_i64]; omega⟩
      obtain ⟨i', hi', i3⟩ : ∃ s : Nat, Hid (i + 1 = s) ∧ IntKind.i64.wrap ((i : Int) + 1) = (s : Int) := ⟨i + 1, rfl, by rw [IntKind.wrap_i64]; omega⟩
      obtain ⟨t, ht, i4⟩ : ∃ s : Nat, Hid (4 * i + 4 = s) ∧ IntKind.i64.wrap (4 * (i' : Int)) = (s : Int) := ⟨4 * i + 4, rfl, by rw [IntKind.wrap_i64]; have := hi'.out; omega⟩
      rw [hs.out] at c1
      have s0 : (0 : Int) ≤ (s : Int) := by omega
      have s1 : (s : Int) ≤ (t : Int) := by have := hs.out; have := ht.out; omega
      have s2 : (t : Int) ≤ 64 := by have := ht.out; omega
      have s3 : t - s = 4 := by have := hs.out; have := ht.out; omega
      have s4 : 64 ≠ s := by have := hs.out; omega
      obtain ⟨X, hX⟩ : ∃ X, Hid (wordAt z i = X) := ⟨_, rfl⟩
      rw [hX.out] at c1
      clear y hx
      go_upto_region 5 with (fail)
      go_wp2_with (go_at_call 26; with_reducible refine c1.mono ?_; rintro e w' ⟨rfl, rfl⟩)
      have q := tv.out.set (i := i) (z := X) hlt
      rw [← hX.out, wordsI_succ, hX.out] at q
      have hB1 : Below N w (wr.setCell ⟨N + 1 + 1, i, none⟩ (.int .u32 (X : Nat))) := by (repeat' (first | (with_reducible first | exact Below.refl _ _ | assumption | refine Below.alloc ?_ ?_ _ | refine Below.drew ?_ | refine below_drewN ?_ _ | refine Below.setCell ?_ ?_ _ | refine below_via (by with_reducible assumption) ?_ ?_) | omega | (simp only [szs]; omega) | (simp only [szs] at *; omega)))
      go_roundw
      case rel => exact ⟨i + 1, by omega, by rw [hi'.out], th.out.far (by omega) _ _, tr.out.far (by omega) _ _, q, hB1⟩
      case measure => (simp only [intOf, Int.toNat_natCast]; have := hi'.out; omega)
    · obtain rfl : i = 16 := by omega
      have t0 : Arr wr .u32 (N + 1 + 1) 16 (wordAt z) := tv.out.congr (fun j hj => by unfold wordsI; rw [if_pos hj])
      go_upto_region 7 with (fail)
      go_wp2_with (first | ((with_reducible refine wpList_loadLit t0 ?_ Tryd.underlying43 ?_ ?_ ?_); (focus rfl); (focus rfl); (focus kernel_rfl); simp only [Act.put, List.setIfInBounds_toArray, List.set_cons_zero, List.set_cons_succ]) | ((with_reducible refine wpList_storeLit (wordAt z) tr.out ?_ ?_ ?_ ?_); (focus rfl); (focus rfl); (focus kernel_rfl); intro W5 hW5_ tW5_ zW5_; try simp only [Act.put, List.setIfInBounds_toArray, List.set_cons_zero, List.set_cons_succ]))
      have hB5 : Below w.heap.size w W5 := by rw [hW5_.out, hN.out]; exact below_setCells hB (by omega) _ _
      have rv := tW5_.out.loadVar Tryd.underlying43 rfl (by kernel_rfl)
      exact bodyPost_ret (v := .agg (arrL .u32 (wordAt z) 16).toArray) (by simp [results, Tryd.results16, asAddr, rv]) rfl ⟨rfl, hB5⟩
end Go.Proofs.YtllgnclbbakliaaDoor
