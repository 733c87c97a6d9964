/-
  The document's own digest, walked: words as bytes; the number of bytes.
-/
import Derived.Test.YtkekomiaiaacaaaDoorJ3
namespace Go.Proofs.YtkekomiaiaacaaaDoor
open Go.RowKit Go.Proofs
set_option linter.unusedVariables false
set_option linter.unusedSimpArgs false
attribute [local go_sem ↓] Go.wp_at_zero Go.wp_at_succ

set_option maxHeartbeats 4000000 in
theorem rbytes_core (b k c : Nat) (ns : Nat → Nat) (hns : Ob.Words32 ns) (hk : k ≤ 1000000) (w : World) (hc : Rd w .u32 b k ns) :
    Calls Tryd.prog 35 #[.slice (some ⟨b, 0, none⟩) k c] w fun e w' => ∃ v, e = .returned v ∧ w'.ownsRow w.heap.size 5 1 v (4 * k) (vals (lowBy ns) (4 * k)) ∧ Below w.heap.size w w' := by
  obtain ⟨i0, hi, hz1, hz2, hz0⟩ := byteInfo
  have hc' : Hid (Rd w .u32 b k ns) := hc
  have hn' : Hid (Ob.Words32 ns) := hns
  clear hc hns
  have hown0 : w.ownsRow w.heap.size 5 1 (.slice none 0 0) 0 (vals (lowBy ns) 0) := ⟨rfl, Or.inl ⟨rfl, rfl⟩⟩
  go_enter Tryd.func35, Tryd.ntmps35
  go_wp2
  go_loopw [3, 4] (fun s3 s4 wr => ∃ (i : Nat), i ≤ k ∧ s4 = .int .i64 (i : Nat) ∧ Hid (wr.ownsRow w.heap.size 5 1 s3 (4 * i) (vals (lowBy ns) (4 * i))) ∧ Below w.heap.size w wr) (fun _ s4 _ => k - (intOf s4).toNat)
  case atStart => exact ⟨0, by omega, rfl, hown0, Below.refl _ _⟩
  case round =>
    clear hown0
    obtain ⟨i, hik, rfl, hown, hB⟩ := hrel
    have l0 := hB.size
    by_cases hlt : i < k
    · have hni := hn'.out i
      have e0 : Hid (lowBy ns (4 * i) = ns i % 256) := by have := lowBy_at ns i 0 (by decide); rw [Nat.add_zero, Nat.pow_zero, Nat.div_one] at this; exact this
      have e1 : Hid (lowBy ns (4 * i + 1) = ns i / 256 % 256) := lowBy_at ns i 1 (by decide)
      have e2 : Hid (lowBy ns (4 * i + 2) = ns i / 65536 % 256) := lowBy_at ns i 2 (by decide)
      have e3 : Hid (lowBy ns (4 * i + 3) = ns i / 16777216 % 256) := lowBy_at ns i 3 (by decide)
      have hkeep : Hid (∀ w1, Below w.heap.size w w1 → w1.cell? ⟨b, i, none⟩ = some (.int .u32 (ns i : Nat))) := fun w1 h => (hc'.out.below h hc'.out.lt).c i hlt
      obtain ⟨n, hn⟩ : ∃ n, Hid (ns i = n) := ⟨_, rfl⟩
      rw [hn.out] at hni e0 e1 e2 e3 hkeep
      obtain ⟨b0, f0, g0⟩ : ∃ x : Nat, Hid (n % 256 = x) ∧ IntKind.u8.wrap (n : Int) = (x : Int) := ⟨_, rfl, by rw [IntKind.wrap_u8]; omega⟩
      obtain ⟨b1, f1, g1⟩ : ∃ x : Nat, Hid (n / 256 % 256 = x) ∧ IntKind.u8.wrap ((n : Int) / 256) = (x : Int) := ⟨_, rfl, by rw [IntKind.wrap_u8]; omega⟩
      obtain ⟨b2, f2, g2⟩ : ∃ x : Nat, Hid (n / 65536 % 256 = x) ∧ IntKind.u8.wrap ((n : Int) / 65536) = (x : Int) := ⟨_, rfl, by rw [IntKind.wrap_u8]; omega⟩
      obtain ⟨b3, f3, g3⟩ : ∃ x : Nat, Hid (n / 16777216 % 256 = x) ∧ IntKind.u8.wrap ((n : Int) / 16777216) = (x : Int) := ⟨_, rfl, by rw [IntKind.wrap_u8]; omega⟩
      rw [f0.out] at e0
      rw [f1.out] at e1
      rw [f2.out] at e2
      rw [f3.out] at e3
      have i0' : (i : Int) < (k : Int) := by omega
      have i1' : (0 : Int) ≤ (i : Int) := by omega
      have hv : Hid (vals (lowBy ns) (4 * i) ++ [.int .u8 (b0 : Nat), .int .u8 (b1 : Nat), .int .u8 (b2 : Nat), .int .u8 (b3 : Nat)] = vals (lowBy ns) (4 * (i + 1))) := by
        show _ = _
        rw [show 4 * (i + 1) = 4 * i + 1 + 1 + 1 + 1 by omega, vals_succ, vals_succ, vals_succ, vals_succ, e0.out, e1.out, show 4 * i + 1 + 1 = 4 * i + 2 by omega, e2.out, show 4 * i + 2 + 1 = 4 * i + 3 by omega, e3.out]
        simp
      have hb1 : Below wr.heap.size wr (wr.alloc (.cells #[.int .u8 (b0 : Nat), .int .u8 (b1 : Nat), .int .u8 (b2 : Nat), .int .u8 (b3 : Nat)] 5)).drew := by clear hB; (repeat' (first | (with_reducible first | exact Below.refl _ _ | assumption | refine Below.alloc ?_ ?_ _ | refine Below.drew ?_ | refine below_drewN ?_ _ | refine Below.setCell ?_ ?_ _ | refine below_via (by with_reducible assumption) ?_ ?_) | omega | (simp only [szs]; omega) | (simp only [szs] at *; omega)))
      have hb0 : Below w.heap.size w (wr.alloc (.cells #[.int .u8 (b0 : Nat), .int .u8 (b1 : Nat), .int .u8 (b2 : Nat), .int .u8 (b3 : Nat)] 5)).drew := by clear hb1; (repeat' (first | (with_reducible first | exact Below.refl _ _ | assumption | refine Below.alloc ?_ ?_ _ | refine Below.drew ?_ | refine below_drewN ?_ _ | refine Below.setCell ?_ ?_ _ | refine below_via (by with_reducible assumption) ?_ ?_) | omega | (simp only [szs]; omega) | (simp only [szs] at *; omega)))
      have hown1 : Hid ((wr.alloc (.cells #[.int .u8 (b0 : Nat), .int .u8 (b1 : Nat), .int .u8 (b2 : Nat), .int .u8 (b3 : Nat)] 5)).drew.ownsRow w.heap.size 5 1 u3 (4 * i) (vals (lowBy ns) (4 * i))) := own_below hown.out hb1 (fun k h => (hown.out.lt k h).2)
      have hnews : Hid (∀ (j : Nat) (u : Value), [Value.int .u8 (b0 : Nat), .int .u8 (b1 : Nat), .int .u8 (b2 : Nat), .int .u8 (b3 : Nat)][j]? = some u → (wr.alloc (.cells #[.int .u8 (b0 : Nat), .int .u8 (b1 : Nat), .int .u8 (b2 : Nat), .int .u8 (b3 : Nat)] 5)).drew.cell? ((⟨wr.heap.size, 0, none⟩ : Addr).add j) = some u) := fun j u h => by
        rw [Addr.add_mid, Nat.zero_add]
        show (wr.alloc (.cells #[.int .u8 (b0 : Nat), .int .u8 (b1 : Nat), .int .u8 (b2 : Nat), .int .u8 (b3 : Nat)] 5)).cell? ⟨wr.heap.size, j, none⟩ = some u
        rw [World.cell?_alloc_new, List.getElem?_toArray]
        exact h
      go_wp2
      go_region_held3 (fun w' => w'.cell? ⟨b, i, none⟩ = some (.int .u32 (n : Nat))) (first | exact hkeep.out _ hBw | exact hkeep.out _ (by (repeat' (first | (with_reducible first | exact Below.refl _ _ | assumption | refine Below.alloc ?_ ?_ _ | refine Below.drew ?_ | refine below_drewN ?_ _ | refine Below.setCell ?_ ?_ _ | refine below_via (by with_reducible assumption) ?_ ?_) | omega | (simp only [szs]; omega) | (simp only [szs] at *; omega)))))
        ((rw [if_pos (by rfl)]; (refine wp_append_own _ _ _ 46 rfl w.heap.size 5 i0 _ 1 1 Tryd.underlying46 hi hz0 hz1 hz2 rfl (by decide) _ (4 * i) _ rfl hown1.out ⟨wr.heap.size, 0, none⟩ 4 4 [.int .u8 (b0 : Nat), .int .u8 (b1 : Nat), .int .u8 (b2 : Nat), .int .u8 (b3 : Nat)] rfl rfl hnews.out (by simp [Value.oneCell']) (by unfold maxLen; omega) (by omega) (by first | (simp; done) | (simp; omega)) ?_); intro v' w1 ho hg hnil; have hBw : Below w.heap.size w w1 := hb0.grown hg hb0.size (fun k h => (hown.out.lt k h).1); have ho' : Hid (w1.ownsRow w.heap.size 5 1 v' (4 * i + 4) (vals (lowBy ns) (4 * (i + 1)))) := (by rw [← hv.out]; exact ho); clear ho hg hnil))
      go_wp2
      go_roundw
      case rel => exact ⟨i + 1, by omega, by go_num, ho', hBw⟩
      case measure => first | (simp [intOf]; done) | (simp [intOf]; omega)
    · obtain rfl : i = k := by omega
      go_wp2
      go_ret
      exact ⟨_, rfl, hown.out, by (repeat' (first | (with_reducible first | exact Below.refl _ _ | assumption | refine Below.alloc ?_ ?_ _ | refine Below.drew ?_ | refine below_drewN ?_ _ | refine Below.setCell ?_ ?_ _ | refine below_via (by with_reducible assumption) ?_ ?_) | omega | (simp only [szs]; omega) | (simp only [szs] at *; omega)))⟩
/-- The bytes of words. -/
theorem rbytes32W (b k c : Nat) (ns : Nat → Nat) (hns : Ob.Words32 ns) (h0 : 0 < k) (hk : k ≤ 1000000) (w : World) (hc : Rd w .u32 b k ns) :
    Calls Tryd.prog 35 #[.slice (some ⟨b, 0, none⟩) k c] w fun e w' => ∃ g cap, e = .returned (.slice (some ⟨g, 0, none⟩) (4 * k) cap) ∧ w.heap.size ≤ g ∧ Bys w' g 0 (4 * k) (lowBy ns) ∧ Below w.heap.size w w' := by
  refine (rbytes_core b k c ns hns hk w hc).mono fun e w' ⟨v, he, ho, hb⟩ => ?_
  rcases ho.2 with ⟨_, h⟩ | ⟨g, cap, cur, rfl, hg, _⟩
  · omega
  · exact ⟨g, cap, he, hg, bys_of_row ho, hb⟩

/-- The same, and that there is room for them. -/
theorem rbytes32C (b k c : Nat) (ns : Nat → Nat) (hns : Ob.Words32 ns) (h0 : 0 < k) (hk : k ≤ 1000000) (w : World) (hc : Rd w .u32 b k ns) :
    Calls Tryd.prog 35 #[.slice (some ⟨b, 0, none⟩) k c] w fun e w' => ∃ g cap, e = .returned (.slice (some ⟨g, 0, none⟩) (4 * k) cap) ∧ w.heap.size ≤ g ∧ Bys w' g 0 (4 * k) (lowBy ns) ∧ Below w.heap.size w w' ∧ 4 * k ≤ cap := by
  refine (rbytes_core b k c ns hns hk w hc).mono fun e w' ⟨v, he, ho, hb⟩ => ?_
  rcases ho.2 with ⟨_, h⟩ | ⟨g, cap, cur, rfl, hg, _⟩
  · omega
  · exact ⟨g, cap, he, hg, bys_of_row ho, hb, (cap_of_row ho).1⟩

/-- The number of 8 bytes, the lowest first, from the last on. -/
def downN (z : Nat → Nat) : Nat → Nat
  | 0 => 0
  | k + 1 => 256 * downN z k + z (7 - k)
theorem downN_eq (z : Nat → Nat) : downN z 8 = Ob.lowN z 8 := by
  simp only [downN, Ob.lowN, Nat.reduceSub]
  omega
theorem downN_lt {z : Nat → Nat} (hz : ∀ i, z i < 256) : ∀ k, downN z k < 256 ^ k
  | 0 => by show 0 < 256 ^ 0; decide
  | k + 1 => by
    have h := downN_lt hz k
    have h1 := hz (7 - k)
    rw [downN, Nat.pow_succ]
    omega
set_option maxHeartbeats 1000000 in
theorem rnumW (b len cap : Nat) (hl : 8 ≤ len) (hlm : len ≤ 1000000) (z : Nat → Nat) (hz : ∀ i, z i < 256) (w : World) (hB : Bys w b 0 8 z) :
    Calls Tryd.prog 19 #[.slice (some ⟨b, 0, none⟩) len cap] w fun e w' => e = .returned (.int .u64 (Ob.lowN z 8 : Nat)) ∧ w = w' := by
  rw [← downN_eq]
  have hc := hB.at_
  clear hB
  go_enter Tryd.func19, Tryd.ntmps19
  go_wp2
  go_loop [3, 4] (fun sn si => ∃ k : Nat, k ≤ 8 ∧ si = .int .i64 (7 - (k : Int)) ∧ sn = .int .u64 (downN z k : Nat)) (fun _ si => (intOf si + 1).toNat)
  case atStart => exact ⟨0, by omega, rfl, rfl⟩
  case round =>
    obtain ⟨k, hk, rfl, rfl⟩ := hrel
    by_cases hlt : k < 8
    · have hck := hc (7 - k) (by omega)
      rw [Nat.zero_add] at hck
      clear hc
      have hb : downN z k < 72057594037927936 := Nat.lt_of_lt_of_le (downN_lt hz k) (Nat.le_trans (Nat.pow_le_pow_right (by decide) (show k ≤ 7 by omega)) (by decide))
      have hzk := hz (7 - k)
      have hn : Hid (downN z (k + 1) = 256 * downN z k + z (7 - k)) := rfl
      obtain ⟨j, hj, ej⟩ : ∃ j : Nat, Hid (7 - k = j) ∧ (7 : Int) - (k : Int) = (j : Int) := ⟨7 - k, rfl, by omega⟩
      rw [hj.out] at hck hzk hn
      rw [ej]
      have j0 : (0 : Int) ≤ (j : Int) := by omega
      have j1 : (j : Int) < (len : Int) := by have := hj.out; omega
      generalize downN z k = N at hb hn ⊢
      generalize z j = zk at hck hzk hn
      clear hz
      go_wp2
      go_round
      case rel => exact ⟨k + 1, by omega, by have := hj.out; go_num, by rw [hn.out]; go_num⟩
      case measure => first | (simp [intOf]; done) | (simp [intOf]; omega)
    · obtain rfl : k = 8 := by omega
      clear hc
      go_wp2
      go_ret
      exact ⟨rfl, rfl⟩
end Go.Proofs.YtkekomiaiaacaaaDoor
