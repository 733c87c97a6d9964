/-
  Joined texts: Bytes of words of 32 bits, the lowest first. The document's own digest, walked: words as bytes; the number of bytes. A copy of bytes that came in: append onto an empty row. Rows of bytes that grow byte by byte, whatever mark they bear. Package blake, walked: what the first block is pressed into. Package blake, walked: the words of a digest. Package blake, walked: Sum and Number.
-/
import Derived.Test.YtoigpjaffggekaaDoorJ7
import Derived.Deep.AppendLies
import Derived.Deep.AppendSrc
import Derived.Laws.IdiomStrings
import Derived.Test.YtoigpjaffggekaaDoorJ6

namespace Go.Proofs.YtoigpjaffggekaaDoor
open Go.RowKit Go.Proofs
set_option linter.unusedVariables false
set_option linter.unusedSimpArgs false
attribute [local go_sem ↓] Go.wp_at_zero Go.wp_at_succ

/-- Byte number i of the words ns. -/
def lowBy (ns : Nat → Nat) (i : Nat) : Nat := ns (i / 4) / 256 ^ (i % 4) % 256
theorem lowBy_lt (ns : Nat → Nat) (i : Nat) : lowBy ns i < 256 := Nat.mod_lt _ (by decide)
theorem lowBy_at (ns : Nat → Nat) (i j : Nat) (hj : j < 4) : lowBy ns (4 * i + j) = ns i / 256 ^ j % 256 := by
  unfold lowBy
  rw [show (4 * i + j) / 4 = i by omega, show (4 * i + j) % 4 = j by omega]

set_option maxHeartbeats 1000000 in
theorem lowBytesW (b k cap : Nat) (ns : Nat → Nat) (hns : Ob.Words32 ns) (w : World) (hk : k ≤ 1000000) (hc : Rd w .u32 b k ns) :
    Calls Tryd.prog 69 #[.slice (some ⟨b, 0, none⟩) k cap] w fun e w' => e = .returned (.slice (some ⟨w.heap.size, 0, none⟩) (4 * k) (4 * k)) ∧ w'.ownsRow w.heap.size 5 1 (.slice (some ⟨w.heap.size, 0, none⟩) (4 * k) (4 * k)) (4 * k) (vals (lowBy ns) (4 * k)) ∧ Below w.heap.size w w' := by
  obtain ⟨i0, hi, hz1, hz2, hz0⟩ := byteInfo
  have hm : 4 * k ≤ maxLen := by unfold maxLen; omega
  have hc' : Hid (Rd w .u32 b k ns) := hc
  have hn' : Hid (Ob.Words32 ns) := hns
  clear hc hns
  go_enter Tryd.func69, Tryd.ntmps69
  go_wp2_with (at_make; refine wpList_make_own _ rfl _ _ 34 rfl w.heap.size 5 i0 _ 1 Tryd.underlying34 hi hz0 hz1 _ _ _ (4 * k) rfl rfl (by omega) (by rw [hz2]; omega) hm (Nat.le_refl _) ?_; intro w0 hown0 hgrow0)
  have hB0 : Below w.heap.size w w0 := (Below.refl _ _).grown hgrow0 (Nat.le_refl _) (fun k h => by cases h)
  clear hgrow0
  go_loopw [3, 12] (fun sb si wr => ∃ i : Nat, i ≤ k ∧ si = .int .i64 i ∧ sb = .slice (some ⟨w.heap.size, 0, none⟩) (4 * i) (4 * k) ∧ wr.ownsRow w.heap.size 5 1 (.slice (some ⟨w.heap.size, 0, none⟩) (4 * i) (4 * k)) (4 * i) (vals (lowBy ns) (4 * i)) ∧ Below w.heap.size w wr) (fun _ si _ => k - (intOf si).toNat)
  case atStart => exact ⟨0, by omega, rfl, rfl, hown0, hB0⟩
  case round =>
    obtain ⟨i, hik, rfl, rfl, hown, hB⟩ := hrel
    clear hown0 hB0
    by_cases hlt : i < k
    · have hci := (hc'.out.below hB hc'.out.lt).c i hlt
      have hni := hn'.out i
      have e0 : Hid (lowBy ns (4 * i) = ns i % 256) := by have := lowBy_at ns i 0 (by decide); rw [Nat.add_zero, Nat.pow_zero, Nat.div_one] at this; exact this
      have e1 : Hid (lowBy ns (4 * i + 1) = ns i / 256 % 256) := lowBy_at ns i 1 (by decide)
      have e2 : Hid (lowBy ns (4 * i + 2) = ns i / 65536 % 256) := lowBy_at ns i 2 (by decide)
      have e3 : Hid (lowBy ns (4 * i + 3) = ns i / 16777216 % 256) := lowBy_at ns i 3 (by decide)
      obtain ⟨n, hn⟩ : ∃ n, Hid (ns i = n) := ⟨_, rfl⟩
      rw [hn.out] at hci hni e0 e1 e2 e3
      obtain ⟨b0, f0, g0⟩ : ∃ x : Nat, Hid (n % 256 = x) ∧ IntKind.u8.wrap (n : Int) = (x : Int) := ⟨_, rfl, by rw [IntKind.wrap_u8]; omega⟩
      obtain ⟨b1, f1, g1⟩ : ∃ x : Nat, Hid (n / 256 % 256 = x) ∧ IntKind.u8.wrap ((n : Int) / 256) = (x : Int) := ⟨_, rfl, by rw [IntKind.wrap_u8]; omega⟩
      obtain ⟨b2, f2, g2⟩ : ∃ x : Nat, Hid (n / 65536 % 256 = x) ∧ IntKind.u8.wrap ((n : Int) / 65536) = (x : Int) := ⟨_, rfl, by rw [IntKind.wrap_u8]; omega⟩
      obtain ⟨b3, f3, g3⟩ : ∃ x : Nat, Hid (n / 16777216 % 256 = x) ∧ IntKind.u8.wrap ((n : Int) / 16777216) = (x : Int) := ⟨_, rfl, by rw [IntKind.wrap_u8]; omega⟩
      rw [f0.out] at e0
      rw [f1.out] at e1
      rw [f2.out] at e2
      rw [f3.out] at e3
      have hown2 := hown.alloc (.cells #[.int .u8 (b0 : Nat), .int .u8 (b1 : Nat), .int .u8 (b2 : Nat), .int .u8 (b3 : Nat)] 5)
      have hroom : 4 * i + 4 ≤ 4 * k := by omega
      have i0' : (i : Int) < (k : Int) := by omega
      have i1' : (0 : Int) ≤ (i : Int) := by omega
      have hnews : ∀ (j : Nat) (u : Value), [Value.int .u8 (b0 : Nat), .int .u8 (b1 : Nat), .int .u8 (b2 : Nat), .int .u8 (b3 : Nat)][j]? = some u → (wr.alloc (.cells #[.int .u8 (b0 : Nat), .int .u8 (b1 : Nat), .int .u8 (b2 : Nat), .int .u8 (b3 : Nat)] 5)).cell? ((⟨wr.heap.size, 0, none⟩ : Addr).add j) = some u := fun j u h => by
        rw [Addr.add_mid, Nat.zero_add, World.cell?_alloc_new, List.getElem?_toArray]
        exact h
      have hv : Hid (vals (lowBy ns) (4 * i) ++ [.int .u8 (b0 : Nat), .int .u8 (b1 : Nat), .int .u8 (b2 : Nat), .int .u8 (b3 : Nat)] = vals (lowBy ns) (4 * (i + 1))) := by
        show _ = _
        rw [show 4 * (i + 1) = 4 * i + 1 + 1 + 1 + 1 by omega, vals_succ, vals_succ, vals_succ, vals_succ, e0.out, e1.out, show 4 * i + 1 + 1 = 4 * i + 2 by omega, e2.out, show 4 * i + 2 + 1 = 4 * i + 3 by omega, e3.out]
        simp
      go_wp2_with (at_builtin; refine wpList_append_own_spare _ rfl _ _ 34 rfl w.heap.size 5 i0 1 Tryd.underlying34 hi hz1 w.heap.size (4 * i) (4 * k) _ rfl hown2 ⟨wr.heap.size, 0, none⟩ 4 4 _ rfl rfl hnews (by simp [Value.oneCell']) hroom ?_; intro w1 hown3 hgrow1)
      rw [hv.out] at hown3
      have hB2 : Below w.heap.size w w1 := (hB.alloc hB.size _).grown hgrow1 (by have := hB.size; simp only [World.size_alloc]; omega) (fun k h => by cases h; exact Nat.le_refl _)
      go_roundw
      case rel => exact ⟨i + 1, by omega, by go_num, rfl, hown3, hB2⟩
      case measure => simp [intOf]; omega
    · obtain rfl : i = k := by omega
      go_wp2
      go_ret
      exact ⟨rfl, hown, hB⟩
end Go.Proofs.YtoigpjaffggekaaDoor

namespace Go.Proofs.YtoigpjaffggekaaDoor
open Go.RowKit Go.Proofs
set_option linter.unusedVariables false
set_option linter.unusedSimpArgs false
attribute [local go_sem ↓] Go.wp_at_zero Go.wp_at_succ

set_option maxHeartbeats 4000000 in
theorem rbytes_core (b k c : Nat) (ns : Nat → Nat) (hns : Ob.Words32 ns) (hk : k ≤ 1000000) (w : World) (hc : Rd w .u32 b k ns) :
    Calls Tryd.prog 49 #[.slice (some ⟨b, 0, none⟩) k c] w fun e w' => ∃ v, e = .returned v ∧ w'.ownsRow w.heap.size 5 1 v (4 * k) (vals (lowBy ns) (4 * k)) ∧ Below w.heap.size w w' := by
  obtain ⟨i0, hi, hz1, hz2, hz0⟩ := byteInfo
  have hc' : Hid (Rd w .u32 b k ns) := hc
  have hn' : Hid (Ob.Words32 ns) := hns
  clear hc hns
  have hown0 : w.ownsRow w.heap.size 5 1 (.slice none 0 0) 0 (vals (lowBy ns) 0) := ⟨rfl, Or.inl ⟨rfl, rfl⟩⟩
  go_enter Tryd.func49, Tryd.ntmps49
  go_wp2
  go_loopw [3, 4] (fun s3 s4 wr => ∃ (i : Nat), i ≤ k ∧ s4 = .int .i64 (i : Nat) ∧ Hid (wr.ownsRow w.heap.size 5 1 s3 (4 * i) (vals (lowBy ns) (4 * i))) ∧ Below w.heap.size w wr) (fun _ s4 _ => k - (intOf s4).toNat)
  case atStart => exact ⟨0, by omega, rfl, hown0, Below.refl _ _⟩
  case round =>
    clear hown0
    obtain ⟨i, hik, rfl, hown, hB⟩ := hrel
    have l0 := hB.size
    by_cases hlt : i < k
    · have hni := hn'.out i
      have e0 : Hid (lowBy ns (4 * i) = ns i % 256) := by have := lowBy_at ns i 0 (by decide); rw [Nat.add_zero, Nat.pow_zero, Nat.div_one] at this; exact this
      have e1 : Hid (lowBy ns (4 * i + 1) = ns i / 256 % 256) := lowBy_at ns i 1 (by decide)
      have e2 : Hid (lowBy ns (4 * i + 2) = ns i / 65536 % 256) := lowBy_at ns i 2 (by decide)
      have e3 : Hid (lowBy ns (4 * i + 3) = ns i / 16777216 % 256) := lowBy_at ns i 3 (by decide)
      have hkeep : Hid (∀ w1, Below w.heap.size w w1 → w1.cell? ⟨b, i, none⟩ = some (.int .u32 (ns i : Nat))) := fun w1 h => (hc'.out.below h hc'.out.lt).c i hlt
      obtain ⟨n, hn⟩ : ∃ n, Hid (ns i = n) := ⟨_, rfl⟩
      rw [hn.out] at hni e0 e1 e2 e3 hkeep
      obtain ⟨b0, f0, g0⟩ : ∃ x : Nat, Hid (n % 256 = x) ∧ IntKind.u8.wrap (n : Int) = (x : Int) := ⟨_, rfl, by rw [IntKind.wrap_u8]; omega⟩
      obtain ⟨b1, f1, g1⟩ : ∃ x : Nat, Hid (n / 256 % 256 = x) ∧ IntKind.u8.wrap ((n : Int) / 256) = (x : Int) := ⟨_, rfl, by rw [IntKind.wrap_u8]; omega⟩
      obtain ⟨b2, f2, g2⟩ : ∃ x : Nat, Hid (n / 65536 % 256 = x) ∧ IntKind.u8.wrap ((n : Int) / 65536) = (x : Int) := ⟨_, rfl, by rw [IntKind.wrap_u8]; omega⟩
      obtain ⟨b3, f3, g3⟩ : ∃ x : Nat, Hid (n / 16777216 % 256 = x) ∧ IntKind.u8.wrap ((n : Int) / 16777216) = (x : Int) := ⟨_, rfl, by rw [IntKind.wrap_u8]; omega⟩
      rw [f0.out] at e0
      rw [f1.out] at e1
      rw [f2.out] at e2
      rw [f3.out] at e3
      have i0' : (i : Int) < (k : Int) := by omega
      have i1' : (0 : Int) ≤ (i : Int) := by omega
      have hv : Hid (vals (lowBy ns) (4 * i) ++ [.int .u8 (b0 : Nat), .int .u8 (b1 : Nat), .int .u8 (b2 : Nat), .int .u8 (b3 : Nat)] = vals (lowBy ns) (4 * (i + 1))) := by
        show _ = _
        rw [show 4 * (i + 1) = 4 * i + 1 + 1 + 1 + 1 by omega, vals_succ, vals_succ, vals_succ, vals_succ, e0.out, e1.out, show 4 * i + 1 + 1 = 4 * i + 2 by omega, e2.out, show 4 * i + 2 + 1 = 4 * i + 3 by omega, e3.out]
        simp
      have hb1 : Below wr.heap.size wr (wr.alloc (.cells #[.int .u8 (b0 : Nat), .int .u8 (b1 : Nat), .int .u8 (b2 : Nat), .int .u8 (b3 : Nat)] 5)).drew := by clear hB; (repeat' (first | (with_reducible first | exact Below.refl _ _ | assumption | refine Below.alloc ?_ ?_ _ | refine Below.drew ?_ | refine below_drewN ?_ _ | refine Below.setCell ?_ ?_ _ | refine below_via (by with_reducible assumption) ?_ ?_) | omega | (simp only [szs]; omega) | (simp only [szs] at *; omega)))
      have hb0 : Below w.heap.size w (wr.alloc (.cells #[.int .u8 (b0 : Nat), .int .u8 (b1 : Nat), .int .u8 (b2 : Nat), .int .u8 (b3 : Nat)] 5)).drew := by clear hb1; (repeat' (first | (with_reducible first | exact Below.refl _ _ | assumption | refine Below.alloc ?_ ?_ _ | refine Below.drew ?_ | refine below_drewN ?_ _ | refine Below.setCell ?_ ?_ _ | refine below_via (by with_reducible assumption) ?_ ?_) | omega | (simp only [szs]; omega) | (simp only [szs] at *; omega)))
      have hown1 : Hid ((wr.alloc (.cells #[.int .u8 (b0 : Nat), .int .u8 (b1 : Nat), .int .u8 (b2 : Nat), .int .u8 (b3 : Nat)] 5)).drew.ownsRow w.heap.size 5 1 u3 (4 * i) (vals (lowBy ns) (4 * i))) := own_below hown.out hb1 (fun k h => (hown.out.lt k h).2)
      have hnews : Hid (∀ (j : Nat) (u : Value), [Value.int .u8 (b0 : Nat), .int .u8 (b1 : Nat), .int .u8 (b2 : Nat), .int .u8 (b3 : Nat)][j]? = some u → (wr.alloc (.cells #[.int .u8 (b0 : Nat), .int .u8 (b1 : Nat), .int .u8 (b2 : Nat), .int .u8 (b3 : Nat)] 5)).drew.cell? ((⟨wr.heap.size, 0, none⟩ : Addr).add j) = some u) := fun j u h => by
        rw [Addr.add_mid, Nat.zero_add]
        show (wr.alloc (.cells #[.int .u8 (b0 : Nat), .int .u8 (b1 : Nat), .int .u8 (b2 : Nat), .int .u8 (b3 : Nat)] 5)).cell? ⟨wr.heap.size, j, none⟩ = some u
        rw [World.cell?_alloc_new, List.getElem?_toArray]
        exact h
      go_wp2
      go_region_held3 (fun w' => w'.cell? ⟨b, i, none⟩ = some (.int .u32 (n : Nat))) (first | exact hkeep.out _ hBw | exact hkeep.out _ (by (repeat' (first | (with_reducible first | exact Below.refl _ _ | assumption | refine Below.alloc ?_ ?_ _ | refine Below.drew ?_ | refine below_drewN ?_ _ | refine Below.setCell ?_ ?_ _ | refine below_via (by with_reducible assumption) ?_ ?_) | omega | (simp only [szs]; omega) | (simp only [szs] at *; omega)))))
        ((rw [if_pos (by rfl)]; (refine wp_append_own _ _ _ 34 rfl w.heap.size 5 i0 _ 1 1 Tryd.underlying34 hi hz0 hz1 hz2 rfl (by decide) _ (4 * i) _ rfl hown1.out ⟨wr.heap.size, 0, none⟩ 4 4 [.int .u8 (b0 : Nat), .int .u8 (b1 : Nat), .int .u8 (b2 : Nat), .int .u8 (b3 : Nat)] rfl rfl hnews.out (by simp [Value.oneCell']) (by unfold maxLen; omega) (by omega) (by first | (simp; done) | (simp; omega)) ?_); intro v' w1 ho hg hnil; have hBw : Below w.heap.size w w1 := hb0.grown hg hb0.size (fun k h => (hown.out.lt k h).1); have ho' : Hid (w1.ownsRow w.heap.size 5 1 v' (4 * i + 4) (vals (lowBy ns) (4 * (i + 1)))) := (by rw [← hv.out]; exact ho); clear ho hg hnil))
      go_wp2
      go_roundw
      case rel => exact ⟨i + 1, by omega, by go_num, ho', hBw⟩
      case measure => first | (simp [intOf]; done) | (simp [intOf]; omega)
    · obtain rfl : i = k := by omega
      go_wp2
      go_ret
      exact ⟨_, rfl, hown.out, by (repeat' (first | (with_reducible first | exact Below.refl _ _ | assumption | refine Below.alloc ?_ ?_ _ | refine Below.drew ?_ | refine below_drewN ?_ _ | refine Below.setCell ?_ ?_ _ | refine below_via (by with_reducible assumption) ?_ ?_) | omega | (simp only [szs]; omega) | (simp only [szs] at *; omega)))⟩
/-- The bytes of words. -/
theorem rbytes32W (b k c : Nat) (ns : Nat → Nat) (hns : Ob.Words32 ns) (h0 : 0 < k) (hk : k ≤ 1000000) (w : World) (hc : Rd w .u32 b k ns) :
    Calls Tryd.prog 49 #[.slice (some ⟨b, 0, none⟩) k c] w fun e w' => ∃ g cap, e = .returned (.slice (some ⟨g, 0, none⟩) (4 * k) cap) ∧ w.heap.size ≤ g ∧ Bys w' g 0 (4 * k) (lowBy ns) ∧ Below w.heap.size w w' := by
  refine (rbytes_core b k c ns hns hk w hc).mono fun e w' ⟨v, he, ho, hb⟩ => ?_
  rcases ho.2 with ⟨_, h⟩ | ⟨g, cap, cur, rfl, hg, _⟩
  · omega
  · exact ⟨g, cap, he, hg, bys_of_row ho, hb⟩

/-- The same, and that there is room for them. -/
theorem rbytes32C (b k c : Nat) (ns : Nat → Nat) (hns : Ob.Words32 ns) (h0 : 0 < k) (hk : k ≤ 1000000) (w : World) (hc : Rd w .u32 b k ns) :
    Calls Tryd.prog 49 #[.slice (some ⟨b, 0, none⟩) k c] w fun e w' => ∃ g cap, e = .returned (.slice (some ⟨g, 0, none⟩) (4 * k) cap) ∧ w.heap.size ≤ g ∧ Bys w' g 0 (4 * k) (lowBy ns) ∧ Below w.heap.size w w' ∧ 4 * k ≤ cap := by
  refine (rbytes_core b k c ns hns hk w hc).mono fun e w' ⟨v, he, ho, hb⟩ => ?_
  rcases ho.2 with ⟨_, h⟩ | ⟨g, cap, cur, rfl, hg, _⟩
  · omega
  · exact ⟨g, cap, he, hg, bys_of_row ho, hb, (cap_of_row ho).1⟩

/-- The number of 8 bytes, the lowest first, from the last on. -/
def downN (z : Nat → Nat) : Nat → Nat
  | 0 => 0
  | k + 1 => 256 * downN z k + z (7 - k)
theorem downN_eq (z : Nat → Nat) : downN z 8 = Ob.lowN z 8 := by
  simp only [downN, Ob.lowN, Nat.reduceSub]
  omega
theorem downN_lt {z : Nat → Nat} (hz : ∀ i, z i < 256) : ∀ k, downN z k < 256 ^ k
  | 0 => by show 0 < 256 ^ 0; decide
  | k + 1 => by
    have h := downN_lt hz k
    have h1 := hz (7 - k)
    rw [downN, Nat.pow_succ]
    omega
set_option maxHeartbeats 1000000 in
theorem rnumW (b len cap : Nat) (hl : 8 ≤ len) (hlm : len ≤ 1000000) (z : Nat → Nat) (hz : ∀ i, z i < 256) (w : World) (hB : Bys w b 0 8 z) :
    Calls Tryd.prog 25 #[.slice (some ⟨b, 0, none⟩) len cap] w fun e w' => e = .returned (.int .u64 (Ob.lowN z 8 : Nat)) ∧ w = w' := by
  rw [← downN_eq]
  have hc := hB.at_
  clear hB
  go_enter Tryd.func25, Tryd.ntmps25
  go_wp2
  go_loop [3, 4] (fun sn si => ∃ k : Nat, k ≤ 8 ∧ si = .int .i64 (7 - (k : Int)) ∧ sn = .int .u64 (downN z k : Nat)) (fun _ si => (intOf si + 1).toNat)
  case atStart => exact ⟨0, by omega, rfl, rfl⟩
  case round =>
    obtain ⟨k, hk, rfl, rfl⟩ := hrel
    by_cases hlt : k < 8
    · have hck := hc (7 - k) (by omega)
      rw [Nat.zero_add] at hck
      clear hc
      have hb : downN z k < 72057594037927936 := Nat.lt_of_lt_of_le (downN_lt hz k) (Nat.le_trans (Nat.pow_le_pow_right (by decide) (show k ≤ 7 by omega)) (by decide))
      have hzk := hz (7 - k)
      have hn : Hid (downN z (k + 1) = 256 * downN z k + z (7 - k)) := rfl
      obtain ⟨j, hj, ej⟩ : ∃ j : Nat, Hid (7 - k = j) ∧ (7 : Int) - (k : Int) = (j : Int) := ⟨7 - k, rfl, by omega⟩
      rw [hj.out] at hck hzk hn
      rw [ej]
      have j0 : (0 : Int) ≤ (j : Int) := by omega
      have j1 : (j : Int) < (len : Int) := by have := hj.out; omega
      generalize downN z k = N at hb hn ⊢
      generalize z j = zk at hck hzk hn
      clear hz
      go_wp2
      go_round
      case rel => exact ⟨k + 1, by omega, by have := hj.out; go_num, by rw [hn.out]; go_num⟩
      case measure => first | (simp [intOf]; done) | (simp [intOf]; omega)
    · obtain rfl : k = 8 := by omega
      clear hc
      go_wp2
      go_ret
      exact ⟨rfl, rfl⟩
end Go.Proofs.YtoigpjaffggekaaDoor

namespace Go.Proofs.YtoigpjaffggekaaDoor
open Go.RowKit Go.Proofs
set_option linter.unusedVariables false
set_option linter.unusedSimpArgs false

theorem wpList_copyB {ops : Array Oper} {rest : List Oper} {o : Oper} {a : Act} {w : World} {Q : Exit → Act → World → Prop} (hgd : o.guard = none) (s x : Operand)
    (ho : o.op = .call { callee := .builtin .append, args := #[s, x], argTypes := #[34, 34] }) (base b0 : Nat) (hs : a.eval s = .slice (some ⟨b0, 0, none⟩) 0 0)
    (hown0 : w.ownsRow base 5 1 (.slice (some ⟨b0, 0, none⟩) 0 0) 0 []) (hbase : base ≤ w.heap.size) (ad : Option Addr) (n c : Nat) (z : Nat → Nat) (hx : a.eval x = .slice ad n c) (hS : Src w ad n z) (hn : n ≤ 1000000)
    (h : ∀ g cap w', w'.ownsRow base 5 1 (.slice (some ⟨g, 0, none⟩) n cap) n (vals z n) → Below base w w' → wpList Tryd.prog ops Q rest (a.put o.dst (.slice (some ⟨g, 0, none⟩) n cap)) w') : wpList Tryd.prog ops Q (o :: rest) a w := by
  obtain ⟨i0, hi, hz1, hz2, hz0⟩ := byteInfo
  by_cases h0 : n = 0
  · subst h0
    have src : Go.Src Tryd.prog i0.size 34 (.slice ad 0 c) 0 [] w := by
      cases ad with
      | none => exact Go.Src.ofNil w Tryd.underlying34 c
      | some a => exact Go.Src.ofSlice w Tryd.underlying34 a 0 c [] (by simp) (fun j u h => by simp at h) (fun u h => by cases h)
    have hr := run_append_room_src w 34 34 o.type 5 i0 Tryd.underlying34 hi b0 0 0 0 (.slice ad 0 c) 0 [] src (by omega) (fun j h => by simp at h) (fun j h => by simp at h)
    refine wpList_plain hgd fun K hK => ?_
    unfold Oper.wp execOp
    simp only [ho, resolve, invoke, builtin, Sem.run_bind, Sem.run_pure, Result.andThen_ok, List.map_toArray, List.map_cons, List.map_nil, hs, hx, hr]
    exact hK _ _ (h b0 0 w hown0 (Below.refl _ _))
  · rcases hS with h1 | ⟨b, off, rfl, hB⟩
    · exact absurd h1 h0
    refine wpList_append_lies _ hgd s x 34 ho base 5 i0 _ 1 1 Tryd.underlying34 hi hz0 hz1 hz2 rfl (by decide) _ 0 [] hs hown0 ⟨b, off, none⟩ n c (vals z n) hx (by simp [vals]) (bys_news hB) (vals_one z n) (by omega) (by unfold maxLen; omega) (by omega) hbase w.heap.size rfl ?_
    intro g cap w' hown hg _ _
    rw [Nat.zero_add, List.nil_append] at hown
    rw [Nat.zero_add]
    exact h g cap w' hown ((Below.refl base w).grown hg hbase (fun k hk => (hown0.lt k hk).1))
end Go.Proofs.YtoigpjaffggekaaDoor

namespace Go.Proofs.YtoigpjaffggekaaDoor
open Go.RowKit Go.Proofs
set_option linter.unusedVariables false
set_option linter.unusedSimpArgs false

/-- A row of the call's own: its first len cells are the bytes z, the others up to cap may be written. -/
structure PRow (w : World) (base g len cap : Nat) (z : Nat → Nat) : Prop where
  lb : base ≤ g
  lt : g < w.heap.size
  le : len ≤ cap
  c : ∀ j, j < len → w.cell? ⟨g, j, none⟩ = some (.int .u8 (z j : Nat))
  room : ∀ j, len ≤ j → j < cap → (w.cell? ⟨g, j, none⟩).isSome = true ∧ w.frozen? ⟨g, j, none⟩ = false
theorem PRow.below {w w1 : World} {B base g len cap : Nat} {z : Nat → Nat} (t : PRow w base g len cap z) (hb : Below B w w1) (h : g < B) : PRow w1 base g len cap z :=
  ⟨t.lb, Nat.lt_of_lt_of_le t.lt hb.size, t.le, fun j hj => by rw [(bcell hb).1 g j h]; exact t.c j hj, fun j h1 h2 => by rw [(bcell hb).1 g j h, (bcell hb).2 g j h]; exact t.room j h1 h2⟩
theorem PRow.bys {w : World} {base g len cap : Nat} {z : Nat → Nat} (t : PRow w base g len cap z) : Bys w g 0 len z := ⟨t.lt, fun i hi => by rw [Nat.zero_add]; exact t.c i hi⟩
theorem PRow.of_row {w : World} {base n cap g : Nat} {z : Nat → Nat} (h : w.ownsRow base 5 1 (.slice (some ⟨g, 0, none⟩) n cap) n (vals z n)) : PRow w base g n cap z := by
  have hb := bys_of_row h
  have hf := free_of_row h
  refine ⟨(h.lt g rfl).1, hb.lt, (cap_of_row h).1, fun j hj => by have := hb.at_ j hj; rwa [Nat.zero_add] at this, fun j h1 h2 => ⟨?_, hf j⟩⟩
  rcases h.2 with ⟨h0, _⟩ | ⟨g', cap', cur, hv, _, hg, _, _, hs, _⟩
  · cases h0
  · cases hv
    have : w.cell? ⟨g, j, none⟩ = cur[j]? := by simp [World.cell?, hg]
    rw [this, Array.getElem?_eq_getElem (by omega)]
    rfl

/-- A string's bytes. -/
theorem prow_str (w : World) (s : ByteArray) : ∃ cap w', (convert 9 34 (.string s)).run Tryd.prog w = .ok (.slice (some ⟨w.heap.size, 0, none⟩) s.size cap) w' ∧ PRow w' w.heap.size w.heap.size s.size cap (sby s) ∧ Below w.heap.size w w' := by
  have h := run_bytes_of_string (P := Tryd.prog) w 9 34 5 s Tryd.underlying9 Tryd.underlying34 Tryd.underlying5
  have hge := grownCap_ge w s.size 0 5
  generalize grownCap w s.size 0 5 = cap at h hge
  refine ⟨cap, _, h, ⟨Nat.le_refl _, by simp, hge, fun j hj => ?_, fun j h1 h2 => ?_⟩, ((Below.refl w.heap.size w).drew).alloc (by simp) _⟩
  · have hc : (w.drew.alloc (.cells (bytesRow s cap) 5 ((bytesRow s cap).size, (bytesRow s cap).size + 1))).cell? ⟨w.heap.size, j, none⟩ = (bytesRow s cap)[j]? := by
      have hs : w.drew.heap.size = w.heap.size := World.size_drew w
      simp only [World.cell?, World.alloc]
      rw [← hs, Array.getElem?_push_size]
      rfl
    rw [hc]
    have hj' : j < s.data.size := hj
    unfold bytesRow sby
    rw [Array.getElem?_append_left (by simpa using hj'), Array.getElem?_map, ← Array.getElem?_toList, List.getElem?_eq_getElem (by simpa using hj')]
    rfl
  · have hc : (w.drew.alloc (.cells (bytesRow s cap) 5 ((bytesRow s cap).size, (bytesRow s cap).size + 1))).cell? ⟨w.heap.size, j, none⟩ = (bytesRow s cap)[j]? := by
      have hs : w.drew.heap.size = w.heap.size := World.size_drew w
      simp only [World.cell?, World.alloc]
      rw [← hs, Array.getElem?_push_size]
      rfl
    have hsz : (bytesRow s cap).size = cap := by
      have : s.data.size = s.size := rfl
      unfold bytesRow
      rw [Array.size_append, Array.size_map, Array.size_replicate]
      omega
    refine ⟨by rw [hc, Array.getElem?_eq_getElem (by omega)]; rfl, ?_⟩
    have hs : w.drew.heap.size = w.heap.size := World.size_drew w
    simp only [World.frozen?, World.alloc]
    rw [← hs, Array.getElem?_push_size]
    simp [hsz]
    omega
theorem nextcap_one (n : Nat) (hn : n ≤ 1000000) : Builtin.nextslicecap (n + 1) n * 1 ≤ 281474976710656 := growslice_fits (by omega) (by omega)
/-- One byte more. -/
theorem prow_append {w : World} {base g len cap : Nat} {z : Nat → Nat} (t : PRow w base g len cap z) (hbase : base ≤ w.heap.size) (hn : len ≤ 1000000) (b1 c1 x : Nat) (hx : w.cell? ⟨b1, 0, none⟩ = some (.int .u8 (x : Nat))) (ty : TypeId) :
    ∃ g' cap' w', (Builtin.append_ #[34, 34] ty #[.slice (some ⟨g, 0, none⟩) len cap, .slice (some ⟨b1, 0, none⟩) 1 c1]).run Tryd.prog w = .ok (.slice (some ⟨g', 0, none⟩) (len + 1) cap') w' ∧ PRow w' base g' (len + 1) cap' (Ob.upd z len x) ∧ Below base w w' := by
  obtain ⟨i0, hi, hz1, hz2, hz0⟩ := byteInfo
  have src : Go.Src Tryd.prog i0.size 34 (.slice (some ⟨b1, 0, none⟩) 1 c1) 1 [.int .u8 (x : Nat)] w :=
    Go.Src.ofSlice w Tryd.underlying34 _ 1 c1 _ (by rw [hz1]; rfl) (fun j u h => by
      cases j with
      | zero => simp at h; subst h; rw [Addr.add_mid]; exact hx
      | succ j => simp at h) (fun u hu => by simp at hu; subst hu; rfl)
  by_cases hc : len < cap
  · have h := run_append_room_src w 34 34 ty 5 i0 Tryd.underlying34 hi g 0 len cap _ 1 _ src (by omega)
      (fun j hj => by
        have : j = 0 := by simp at hj; omega
        subst this
        rw [hz1, Nat.zero_add, Nat.mul_one, Nat.add_zero]
        exact (t.room len (Nat.le_refl _) hc).1)
      (fun j hj => by
        have : j = 0 := by simp at hj; omega
        subst this
        rw [hz1, Nat.zero_add, Nat.mul_one, Nat.add_zero]
        exact (t.room len (Nat.le_refl _) hc).2)
    rw [hz1, Nat.zero_add, Nat.mul_one] at h
    refine ⟨g, cap, _, h, ⟨t.lb, by simp [World.setCells, t.lt], by omega, fun j hj => ?_, fun j h1 h2 => ?_⟩, ?_⟩
    · by_cases e : j = len
      · subst e
        rw [Ob.upd_same]
        obtain ⟨u, hu⟩ := Option.isSome_iff_exists.1 (t.room j (Nat.le_refl _) hc).1
        exact World.cell?_setCell_same _ _ _ hu
      · rw [Ob.upd_ne _ _ e]
        show (w.setCell ⟨g, len, none⟩ _).cell? _ = _
        rw [World.cell?_setCell_other _ _ _ _ (by first | (simp; done) | (simp; omega))]
        exact t.c j (by omega)
    · show ((w.setCell ⟨g, len, none⟩ _).cell? _).isSome = true ∧ (w.setCell ⟨g, len, none⟩ _).frozen? _ = false
      rw [World.cell?_setCell_other _ _ _ _ (by first | (simp; done) | (simp; omega)), World.frozen?_setCell]
      exact t.room j (by omega) h2
    · exact (Below.refl base w).setCell t.lb _
  · have e : cap = len := by have := t.le; omega
    subst e
    have hold := run_firstCells_some (P := Tryd.prog) w.drew i0.size cap ⟨g, 0, none⟩ cap cap (vals z cap) (by rw [hz1]; simp [vals]) (fun j u h => by
      have := bys_news t.bys j u h
      exact this)
    have h := run_append_grow_src w 34 34 ty 5 i0 _ Tryd.underlying34 hi hz0 (some ⟨g, 0, none⟩) cap cap (vals z cap) hold _ 1 _ src (by omega) (by omega) (by rw [hz2]; exact nextcap_one cap hn)
    have hge := grownCap_ge w (cap + 1) cap 5
    generalize grownCap w (cap + 1) cap 5 = C at h hge
    have hsz : ((vals z cap ++ [Value.int .u8 (x : Nat)]).toArray ++ Builtin.zeroCells (Value.int IntKind.u8 0).cells (C - (cap + 1))).size = C := by
      rw [Array.size_append, size_zeroCells]
      simp [vals, Value.cells]
      omega
    have hcell : ∀ j, (w.drew.alloc (.cells ((vals z cap ++ [Value.int .u8 (x : Nat)]).toArray ++ Builtin.zeroCells (Value.int IntKind.u8 0).cells (C - (cap + 1))) 5)).cell? ⟨w.heap.size, j, none⟩ = ((vals z cap ++ [Value.int .u8 (x : Nat)]).toArray ++ Builtin.zeroCells (Value.int IntKind.u8 0).cells (C - (cap + 1)))[j]? := fun j =>
      World.cell?_alloc_at _ _ _ _ (by simp)
    refine ⟨w.heap.size, C, _, h, ⟨hbase, by simp, hge, fun j hj => ?_, fun j h1 h2 => ?_⟩, ((Below.refl base w).drew).alloc (by simpa using hbase) _⟩
    · rw [hcell, Array.getElem?_append_left (by simp [vals]; omega), List.getElem?_toArray]
      by_cases e : j = cap
      · subst e
        rw [Ob.upd_same, List.getElem?_append_right (by simp [vals])]
        simp [vals]
      · rw [Ob.upd_ne _ _ e, List.getElem?_append_left (by simp [vals]; omega)]
        exact vals_get z cap j (by omega)
    · refine ⟨by rw [hcell, Array.getElem?_eq_getElem (by omega)]; rfl, ?_⟩
      exact World.frozen?_alloc_at _ _ _ _ (by simp)
theorem wpList_prow {ops : Array Oper} {rest : List Oper} {o : Oper} {a : Act} {w : World} {Q : Exit → Act → World → Prop} (hgd : o.guard = none) (s x : Operand)
    (ho : o.op = .call { callee := .builtin .append, args := #[s, x], argTypes := #[34, 34] }) {base g len cap : Nat} {z : Nat → Nat} (t : PRow w base g len cap z) (hbase : base ≤ w.heap.size) (hn : len ≤ 1000000) (b1 c1 v : Nat)
    (hx : w.cell? ⟨b1, 0, none⟩ = some (.int .u8 (v : Nat))) (hs : a.eval s = .slice (some ⟨g, 0, none⟩) len cap) (hx' : a.eval x = .slice (some ⟨b1, 0, none⟩) 1 c1)
    (h : ∀ g' cap' w', PRow w' base g' (len + 1) cap' (Ob.upd z len v) → Below base w w' → wpList Tryd.prog ops Q rest (a.put o.dst (.slice (some ⟨g', 0, none⟩) (len + 1) cap')) w') : wpList Tryd.prog ops Q (o :: rest) a w := by
  refine wpList_plain hgd fun K hK => ?_
  obtain ⟨g', cap', w', hr, h1, h2⟩ := prow_append t hbase hn b1 c1 v hx o.type
  unfold Oper.wp execOp
  simp only [ho, resolve, invoke, builtin, Sem.run_bind, Sem.run_pure, Result.andThen_ok, List.map_toArray, List.map_cons, List.map_nil, hs, hx', hr]
  exact hK _ _ (h g' cap' w' h1 h2)
end Go.Proofs.YtoigpjaffggekaaDoor

namespace Go.Proofs.YtoigpjaffggekaaDoor
open Go.RowKit Go.Proofs
set_option linter.unusedVariables false
set_option linter.unusedSimpArgs false
attribute [local go_sem ↓] Go.wp_at_zero Go.wp_at_succ

def beginI (i j : Nat) : Nat := if j < i then Ob.first j else 0
theorem beginI_zero : beginI 0 = fun _ => 0 := by funext j; simp [beginI]
theorem beginI_succ (i : Nat) : Ob.upd (beginI i) i (Ob.first i) = beginI (i + 1) := by
  funext j
  unfold Ob.upd beginI
  by_cases h1 : j = i
  · subst h1; simp
  · by_cases h2 : j < i
    · simp [h1, h2, Nat.lt_succ_of_lt h2]
    · simp [h1, h2]; omega
theorem lowN_word0 (z : Nat → Nat) : Ob.lowN z 4 = wordAt z 0 := lowN_four z
theorem lowN_word1 (z : Nat → Nat) : Ob.lowN (fun i => z (4 + i)) 4 = wordAt z 1 := lowN_four _

set_option maxHeartbeats 4000000 in
theorem opened_core (s : ByteArray) (hs : s.size ≤ 8) (w : World) (hT : Tabs w) :
    Calls Tryd.prog 75 #[.string s] w fun e w' => e = .returned (arrV .u32 (Ob.open0 (wordAt (sby s) 0) (wordAt (sby s) 1)) 8) ∧ Below w.heap.size w w' := by
  unfold arrV
  have hT' : Hid (Tabs w) := hT
  clear hT
  go_enter Tryd.func75, Tryd.ntmps75
  go_upto_region 2 with (fail)
  obtain ⟨W0, hW0⟩ : ∃ W, Hid (((w.alloc (.cells (arrL .u32 (fun _ => 0) 8).toArray 68)).alloc (.cells (arrL .u8 (fun _ => 0) 8).toArray 90)) = W) := ⟨_, rfl⟩
  have tr0 : Arr W0 .u32 w.heap.size 8 (fun _ => 0) := by rw [← hW0.out]; exact (Arr.new rfl).alloc _
  have tn0 : Arr W0 .u8 (w.heap.size + 1) 8 (fun _ => 0) := by rw [← hW0.out]; exact Arr.new (by simp)
  have hB0 : Below w.heap.size w W0 := by rw [← hW0.out]; (repeat' (first | (with_reducible first | exact Below.refl _ _ | assumption | refine Below.alloc ?_ ?_ _ | refine Below.drew ?_ | refine below_drewN ?_ _ | refine Below.setCell ?_ ?_ _ | refine below_via (by with_reducible assumption) ?_ ?_) | omega | (simp only [szs]; omega) | (simp only [szs] at *; omega)))
  change Code.wp _ _ _ _ ((w.alloc (.cells (arrL .u32 (fun _ => 0) 8).toArray 68)).alloc (.cells (arrL .u8 (fun _ => 0) 8).toArray 90))
  rw [hW0.out]
  clear hW0
  obtain ⟨N, hN⟩ : ∃ N, Hid (w.heap.size = N) := ⟨_, rfl⟩
  rw [hN.out] at tn0 tr0 hB0 ⊢
  have hlN : 6 ≤ N := by have := hT'.out.lt; have := hN.out; omega
  obtain ⟨W1, h1, hW1, tn1, z1⟩ := tn0.copyStr s hs 8 3
  have tr1 : Hid (Arr W1 .u32 N 8 (fun _ => 0)) := by rw [hW1.out]; exact tr0.farCells (by omega) _ _
  have hB1 : Below N w W1 := by rw [hW1.out]; exact below_setCells hB0 (by omega) _ _
  have l1 := tn1.out.lt
  clear hW1 tr0 tn0 hB0 z1
  go_upto_region 4 with (at_builtin; refine Lib.wpList_copy_run _ rfl _ _ 34 9 rfl _ _ rfl rfl h1 ?_)
  obtain ⟨W2, hW2⟩ : ∃ W, Hid (W1.alloc (.cells #[.int .u32 0, .int .u32 0, .int .u32 0, .int .u32 0, .int .u32 0, .int .u32 0, .int .u32 0, .int .u32 0] 68) = W) := ⟨_, rfl⟩
  have th2 : Arr W2 .u32 W1.heap.size 8 (beginI 0) := by rw [← hW2.out, beginI_zero]; exact Arr.new8
  have tn2 : Arr W2 .u8 (N + 1) 8 (sby s) := by rw [← hW2.out]; exact tn1.out.alloc _
  have tr2 : Arr W2 .u32 N 8 (fun _ => 0) := by rw [← hW2.out]; exact tr1.out.alloc _
  have hB2 : Below N w W2 := by rw [← hW2.out]; exact hB1.alloc (by omega) _
  rw [hW2.out]
  obtain ⟨H, hH⟩ : ∃ H, Hid (W1.heap.size = H) := ⟨_, rfl⟩
  rw [hH.out] at th2 l1 ⊢
  clear hW2 hB1 tr1 tn1 hH h1
  go_wp2
  go_loopw [9] (fun s9 wr => ∃ (i : Nat), i ≤ 8 ∧ s9 = .int .i64 (i : Nat) ∧ Hid (Arr wr .u32 H 8 (beginI i)) ∧ Hid (Arr wr .u8 (N + 1) 8 (sby s)) ∧ Hid (Arr wr .u32 N 8 (fun _ => 0)) ∧ Below N w wr) (fun s9 _ => 8 - (intOf s9).toNat)
  case atStart => exact ⟨0, by omega, rfl, th2, tn2, tr2, hB2⟩
  case round =>
    clear th2 tn2 tr2 hB2
    obtain ⟨i, hi, rfl, th, tn, tr, hB⟩ := hrel
    have l0 := hB.size
    by_cases hlt : i < 8
    · have g1 := (hT'.out.below hB hlN).first.c i hlt
      have p2 := th.out.c i hlt
      have p4 := th.out.f i hlt
      have i0 : (i : Int) < 8 := by omega
      have i1 : (0 : Int) ≤ (i : Int) := by omega
      have q := th.out.set (i := i) (z := Ob.first i) hlt
      rw [beginI_succ] at q
      have hB1 : Below N w (wr.setCell ⟨H, i, none⟩ (.int .u32 (Ob.first i : Nat))) := by (repeat' (first | (with_reducible first | exact Below.refl _ _ | assumption | refine Below.alloc ?_ ?_ _ | refine Below.drew ?_ | refine below_drewN ?_ _ | refine Below.setCell ?_ ?_ _ | refine below_via (by with_reducible assumption) ?_ ?_) | omega | (simp only [szs]; omega) | (simp only [szs] at *; omega)))
      go_wp2
      go_roundw
      case rel => exact ⟨i + 1, by omega, by go_num, q, tn.out.far (by omega) _ _, tr.out.far (by omega) _ _, hB1⟩
      case measure => (simp only [intOf, Int.toNat_natCast]; omega)
    · obtain rfl : i = 8 := by omega
      have t0 : Arr wr .u32 H 8 Ob.first := th.out.congr (fun j hj => by unfold beginI; rw [if_pos hj])
      have x0 := xor_u32 (Ob.first 0) 16842784 (Ob.first_lt 0) (by decide)
      obtain ⟨X0, hX0⟩ : ∃ X, Hid (Ob.first 0 ^^^ 16842784 = X) := ⟨_, rfl⟩
      rw [hX0.out] at x0
      have x0' : bits .xor .u32 ((Ob.first 0 : Nat) : Int) 16842784 = (X0 : Int) := x0
      have c0 := t0.c 0 (by decide)
      have f0 := t0.f 0 (by decide)
      go_upto_region 10 with (fail)
      have th1 : Hid (Arr (wr.setCell ⟨H, 0, none⟩ (.int .u32 (X0 : Nat))) .u32 H 8 (Ob.upd Ob.first 0 X0)) := t0.set (by decide)
      have tn1 : Hid (Arr (wr.setCell ⟨H, 0, none⟩ (.int .u32 (X0 : Nat))) .u8 (N + 1) 8 (sby s)) := tn.out.far (by omega) _ _
      have tr1 : Hid (Arr (wr.setCell ⟨H, 0, none⟩ (.int .u32 (X0 : Nat))) .u32 N 8 (fun _ => 0)) := tr.out.far (by omega) _ _
      have hB1 : Below N w (wr.setCell ⟨H, 0, none⟩ (.int .u32 (X0 : Nat))) := by (repeat' (first | (with_reducible first | exact Below.refl _ _ | assumption | refine Below.alloc ?_ ?_ _ | refine Below.drew ?_ | refine below_drewN ?_ _ | refine Below.setCell ?_ ?_ _ | refine below_via (by with_reducible assumption) ?_ ?_) | omega | (simp only [szs]; omega) | (simp only [szs] at *; omega)))
      clear t0 th tn tr hB c0 f0 x0 x0'
      generalize (wr.setCell ⟨H, 0, none⟩ (.int .u32 (X0 : Nat))) = W3 at *
      have hv1 : Hid (Ob.Words32 (Ob.upd Ob.first 0 X0)) := Ob.Words32.upd (fun j => Ob.first_lt j) 0 (by rw [← hX0.out]; exact Ob.xor_lt (Ob.first_lt 0) (by decide))
      have hw1 : Hid (Ob.lowN (sby s) 4 = wordAt (sby s) 0) := lowN_word0 _
      have hw2 : Hid (Ob.lowN (fun i => sby s (4 + i)) 4 = wordAt (sby s) 1) := lowN_word1 _
      have hend : Hid (Ob.open0 (wordAt (sby s) 0) (wordAt (sby s) 1) = Ob.upd (Ob.upd (Ob.upd Ob.first 0 X0) 6 (Ob.upd Ob.first 0 X0 6 ^^^ wordAt (sby s) 0)) 7 (Ob.upd (Ob.upd Ob.first 0 X0) 6 (Ob.upd Ob.first 0 X0 6 ^^^ wordAt (sby s) 0) 7 ^^^ wordAt (sby s) 1)) := by
        rw [← hX0.out]; rfl
      have lw1 : wordAt (sby s) 0 < 4294967296 := by rw [← hw1.out]; exact Ob.lowN_lt (sby_lt s) 4
      have lw2 : wordAt (sby s) 1 < 4294967296 := by rw [← hw2.out]; exact Ob.lowN_lt (fun i => sby_lt s _) 4
      obtain ⟨x, hx⟩ : ∃ x, Hid (wordAt (sby s) 0 = x) := ⟨_, rfl⟩
      obtain ⟨y, hy⟩ : ∃ x, Hid (wordAt (sby s) 1 = x) := ⟨_, rfl⟩
      obtain ⟨V, hV⟩ : ∃ V, Hid (Ob.upd Ob.first 0 X0 = V) := ⟨_, rfl⟩
      rw [hx.out] at hw1 lw1
      rw [hy.out] at hw2 lw2
      rw [hx.out, hy.out, hV.out] at hend
      rw [hV.out] at hv1 th1
      have xw1 := xor_u32 (V 6) x (hv1.out _) lw1
      obtain ⟨X1, hX1⟩ : ∃ X, Hid (V 6 ^^^ x = X) := ⟨_, rfl⟩
      rw [hX1.out] at xw1
      have p1 := th1.out.drew.c 6 (by decide)
      have c1 := th1.out.c 6 (by decide)
      have f1 := th1.out.f 6 (by decide)
      have y1 : Hid (Bys W3.drew (N + 1) 0 4 (sby s)) := ⟨tn1.out.drew.lt, fun j hj => by have := tn1.out.drew.c (0 + j) (by omega); simpa using this⟩
      have cw1 := wordW (N + 1) 0 8 (sby s) (fun j => sby_lt s _) W3.drew y1.out
      rw [hw1.out] at cw1
      go_upto_region 10 with (fail)
      refine wp_region_noPanic ?_
      refine region_lastly (S := (fun w' => w'.cell? ⟨H, 6, none⟩ = some (.int .u32 (V 6 : Nat)))) [6] (by kernel_rfl) (by ((try dsimp only); (exact p1))) (fun hHeld => ?_)
      refine anyZ_free (i := 0) (oi := ?oi_1) (v := ?v_1) ?hi_1 ?hs_1 ?hf_1 ?hr_1 ?hQ_1 (Or.inl ⟨?hw_1, ?hy_1⟩) ?hrest_1
      case hi_1 => (simp only [List.getElem?_toArray, List.getElem?_cons_succ, List.getElem?_cons_zero]; exact rfl)
      case hs_1 => kernel_rfl
      case hf_1 => kernel_rfl
      case hr_1 => kernel_rfl
      case hQ_1 => exact fun _ _ _ h => h
      case hw_1 => rfl
      case hy_1 => (intro w _; go_simp; try with_reducible rfl)
      try simp only [Act.put, List.setIfInBounds_toArray, List.set_cons_zero, List.set_cons_succ]
      refine anyZ_take (i := 1) (oi := ?oi_2) (v := ?v_2) ?hi_2 ?hz_2 ?hs_2 ?hf_2 ?hr_2 ?hQ_2 (Or.inl ⟨?hw_2, ?hy_2⟩) ?hS_2 ?hrest_2
      case hi_2 => (simp only [List.getElem?_toArray, List.getElem?_cons_succ, List.getElem?_cons_zero]; exact rfl)
      case hz_2 => kernel_rfl
      case hs_2 => kernel_rfl
      case hf_2 => kernel_rfl
      case hr_2 => kernel_rfl
      case hQ_2 => exact fun _ _ _ h => h
      case hw_2 => rfl
      case hS_2 => assumption
      case hy_2 => (intro w hSw; (try dsimp only at hSw); go_simp; try with_reducible rfl)
      try simp only [Act.put, List.setIfInBounds_toArray, List.set_cons_zero, List.set_cons_succ]
      refine anyZ_free (i := 2) (oi := ?oi_3) (v := ?v_3) ?hi_3 ?hs_3 ?hf_3 ?hr_3 ?hQ_3 (Or.inl ⟨?hw_3, ?hy_3⟩) ?hrest_3
      case hi_3 => (simp only [List.getElem?_toArray, List.getElem?_cons_succ, List.getElem?_cons_zero]; exact rfl)
      case hs_3 => kernel_rfl
      case hf_3 => kernel_rfl
      case hr_3 => kernel_rfl
      case hQ_3 => exact fun _ _ _ h => h
      case hw_3 => rfl
      case hy_3 => (intro w _; go_simp; try with_reducible rfl)
      try simp only [Act.put, List.setIfInBounds_toArray, List.set_cons_zero, List.set_cons_succ]
      refine anyZ_ready (rs := [3]) (by kernel_rfl) (by simp) ?_
      refine (AllZ.cons (o := ?o_4) ?ho_4 (fun K hK => ?st_4) AllZ.nil)
      case ho_4 => (simp only [List.getElem?_toArray, List.getElem?_cons_succ, List.getElem?_cons_zero]; exact rfl)
      case st_4 =>
        go_simp
        (go_at_call 78; with_reducible refine cw1.mono ?_; rintro e w' ⟨rfl, rfl⟩)
        refine hK.out _ _ (by ((try dsimp only); (exact p1))) (fun hHeld => ?_)
        clear hK K
        try simp only [Act.put, List.setIfInBounds_toArray, List.set_cons_zero, List.set_cons_succ]
        refine anyZ_free (i := 4) (oi := ?oi_5) (v := ?v_5) ?hi_5 ?hs_5 ?hf_5 ?hr_5 ?hQ_5 (Or.inl ⟨?hw_5, ?hy_5⟩) ?hrest_5
        case hi_5 => (simp only [List.getElem?_toArray, List.getElem?_cons_succ, List.getElem?_cons_zero]; exact rfl)
        case hs_5 => kernel_rfl
        case hf_5 => kernel_rfl
        case hr_5 => kernel_rfl
        case hQ_5 => exact fun _ _ _ h => h
        case hw_5 => rfl
        case hy_5 => (intro w _; go_simp; try with_reducible rfl)
        try simp only [Act.put, List.setIfInBounds_toArray, List.set_cons_zero, List.set_cons_succ]
        refine anyZ_free (i := 5) (oi := ?oi_6) (v := ?v_6) ?hi_6 ?hs_6 ?hf_6 ?hr_6 ?hQ_6 (Or.inl ⟨?hw_6, ?hy_6⟩) ?hrest_6
        case hi_6 => (simp only [List.getElem?_toArray, List.getElem?_cons_succ, List.getElem?_cons_zero]; exact rfl)
        case hs_6 => kernel_rfl
        case hf_6 => kernel_rfl
        case hr_6 => kernel_rfl
        case hQ_6 => exact fun _ _ _ h => h
        case hw_6 => rfl
        case hy_6 => (intro w _; go_simp; try with_reducible rfl)
        try simp only [Act.put, List.setIfInBounds_toArray, List.set_cons_zero, List.set_cons_succ]
        refine anyZ_ready (rs := [6]) (by kernel_rfl) (by simp) ?_
        refine (AllZ.last (o := ?o_7) ?ho_7 (by rfl) (fun K hK => ?st_7) AllZ.nil)
        case ho_7 => (simp only [List.getElem?_toArray, List.getElem?_cons_succ, List.getElem?_cons_zero]; exact rfl)
        case st_7 =>
          go_simp
          refine hK.out _ _ ?_
          clear hK K
          try simp only [Act.put, List.setIfInBounds_toArray, List.set_cons_zero, List.set_cons_succ]
          refine anyZ_done (by kernel_rfl) ?_ _
          refine NoPanic.normal ?_
          have th2 : Hid (Arr ((W3.setCell ⟨H, 6, none⟩ (.int .u32 (X1 : Nat))).drew) .u32 H 8 (Ob.upd (V) 6 X1)) := (th1.out.set (i := 6) (z := X1) (by decide)).drew
          have tn2 : Hid (Arr ((W3.setCell ⟨H, 6, none⟩ (.int .u32 (X1 : Nat))).drew) .u8 (N + 1) 8 (sby s)) := (tn1.out.far (by omega) _ _).drew
          have tr2 : Hid (Arr ((W3.setCell ⟨H, 6, none⟩ (.int .u32 (X1 : Nat))).drew) .u32 N 8 (fun _ => 0)) := (tr1.out.far (by omega) _ _).drew
          have hB2 : Below N w ((W3.setCell ⟨H, 6, none⟩ (.int .u32 (X1 : Nat))).drew) := by (repeat' (first | (with_reducible first | exact Below.refl _ _ | assumption | refine Below.alloc ?_ ?_ _ | refine Below.drew ?_ | refine below_drewN ?_ _ | refine Below.setCell ?_ ?_ _ | refine below_via (by with_reducible assumption) ?_ ?_) | omega | (simp only [szs]; omega) | (simp only [szs] at *; omega)))
          clear hHeld th1 tn1 tr1 hB1 p1 c1 f1 y1 cw1 xw1
          generalize ((W3.setCell ⟨H, 6, none⟩ (.int .u32 (X1 : Nat))).drew) = W4 at *
          have hv2 : Hid (Ob.Words32 (Ob.upd V 6 X1)) := hv1.out.upd 6 (by rw [← hX1.out]; exact Ob.xor_lt (hv1.out _) lw1)
          rw [hX1.out] at hend
          obtain ⟨V', hV'⟩ : ∃ V', Hid (Ob.upd V 6 X1 = V') := ⟨_, rfl⟩
          rw [hV'.out] at hend hv2 th2
          have xw2 := xor_u32 (V' 7) y (hv2.out _) lw2
          obtain ⟨X2, hX2⟩ : ∃ X, Hid (V' 7 ^^^ y = X) := ⟨_, rfl⟩
          rw [hX2.out] at xw2
          have p2 := th2.out.drew.c 7 (by decide)
          have c2 := th2.out.c 7 (by decide)
          have f2 := th2.out.f 7 (by decide)
          have y2 : Hid (Bys W4.drew (N + 1) 4 4 (fun i => sby s (4 + i))) := ⟨tn2.out.drew.lt, fun j hj => by have := tn2.out.drew.c (4 + j) (by omega); simpa using this⟩
          have cw2 := wordW (N + 1) 4 4 (fun i => sby s (4 + i)) (fun j => sby_lt s _) W4.drew y2.out
          rw [hw2.out] at cw2
          go_upto_region 11 with (fail)
          refine wp_region_noPanic ?_
          refine region_lastly (S := (fun w' => w'.cell? ⟨H, 7, none⟩ = some (.int .u32 (V' 7 : Nat)))) [6] (by kernel_rfl) (by ((try dsimp only); (exact p2))) (fun hHeld => ?_)
          refine anyZ_free (i := 0) (oi := ?oi_8) (v := ?v_8) ?hi_8 ?hs_8 ?hf_8 ?hr_8 ?hQ_8 (Or.inl ⟨?hw_8, ?hy_8⟩) ?hrest_8
          case hi_8 => (simp only [List.getElem?_toArray, List.getElem?_cons_succ, List.getElem?_cons_zero]; exact rfl)
          case hs_8 => kernel_rfl
          case hf_8 => kernel_rfl
          case hr_8 => kernel_rfl
          case hQ_8 => exact fun _ _ _ h => h
          case hw_8 => rfl
          case hy_8 => (intro w _; go_simp; try with_reducible rfl)
          try simp only [Act.put, List.setIfInBounds_toArray, List.set_cons_zero, List.set_cons_succ]
          refine anyZ_take (i := 1) (oi := ?oi_9) (v := ?v_9) ?hi_9 ?hz_9 ?hs_9 ?hf_9 ?hr_9 ?hQ_9 (Or.inl ⟨?hw_9, ?hy_9⟩) ?hS_9 ?hrest_9
          case hi_9 => (simp only [List.getElem?_toArray, List.getElem?_cons_succ, List.getElem?_cons_zero]; exact rfl)
          case hz_9 => kernel_rfl
          case hs_9 => kernel_rfl
          case hf_9 => kernel_rfl
          case hr_9 => kernel_rfl
          case hQ_9 => exact fun _ _ _ h => h
          case hw_9 => rfl
          case hS_9 => assumption
          case hy_9 => (intro w hSw; (try dsimp only at hSw); go_simp; try with_reducible rfl)
          try simp only [Act.put, List.setIfInBounds_toArray, List.set_cons_zero, List.set_cons_succ]
          refine anyZ_free (i := 2) (oi := ?oi_10) (v := ?v_10) ?hi_10 ?hs_10 ?hf_10 ?hr_10 ?hQ_10 (Or.inl ⟨?hw_10, ?hy_10⟩) ?hrest_10
          case hi_10 => (simp only [List.getElem?_toArray, List.getElem?_cons_succ, List.getElem?_cons_zero]; exact rfl)
          case hs_10 => kernel_rfl
          case hf_10 => kernel_rfl
          case hr_10 => kernel_rfl
          case hQ_10 => exact fun _ _ _ h => h
          case hw_10 => rfl
          case hy_10 => (intro w _; go_simp; try with_reducible rfl)
          try simp only [Act.put, List.setIfInBounds_toArray, List.set_cons_zero, List.set_cons_succ]
          refine anyZ_ready (rs := [3]) (by kernel_rfl) (by simp) ?_
          refine (AllZ.cons (o := ?o_11) ?ho_11 (fun K hK => ?st_11) AllZ.nil)
          case ho_11 => (simp only [List.getElem?_toArray, List.getElem?_cons_succ, List.getElem?_cons_zero]; exact rfl)
          case st_11 =>
            go_simp
            (go_at_call 78; with_reducible refine cw2.mono ?_; rintro e w' ⟨rfl, rfl⟩)
            refine hK.out _ _ (by ((try dsimp only); (exact p2))) (fun hHeld => ?_)
            clear hK K
            try simp only [Act.put, List.setIfInBounds_toArray, List.set_cons_zero, List.set_cons_succ]
            refine anyZ_free (i := 4) (oi := ?oi_12) (v := ?v_12) ?hi_12 ?hs_12 ?hf_12 ?hr_12 ?hQ_12 (Or.inl ⟨?hw_12, ?hy_12⟩) ?hrest_12
            case hi_12 => (simp only [List.getElem?_toArray, List.getElem?_cons_succ, List.getElem?_cons_zero]; exact rfl)
            case hs_12 => kernel_rfl
            case hf_12 => kernel_rfl
            case hr_12 => kernel_rfl
            case hQ_12 => exact fun _ _ _ h => h
            case hw_12 => rfl
            case hy_12 => (intro w _; go_simp; try with_reducible rfl)
            try simp only [Act.put, List.setIfInBounds_toArray, List.set_cons_zero, List.set_cons_succ]
            refine anyZ_free (i := 5) (oi := ?oi_13) (v := ?v_13) ?hi_13 ?hs_13 ?hf_13 ?hr_13 ?hQ_13 (Or.inl ⟨?hw_13, ?hy_13⟩) ?hrest_13
            case hi_13 => (simp only [List.getElem?_toArray, List.getElem?_cons_succ, List.getElem?_cons_zero]; exact rfl)
            case hs_13 => kernel_rfl
            case hf_13 => kernel_rfl
            case hr_13 => kernel_rfl
            case hQ_13 => exact fun _ _ _ h => h
            case hw_13 => rfl
            case hy_13 => (intro w _; go_simp; try with_reducible rfl)
            try simp only [Act.put, List.setIfInBounds_toArray, List.set_cons_zero, List.set_cons_succ]
            refine anyZ_ready (rs := [6]) (by kernel_rfl) (by simp) ?_
            refine (AllZ.last (o := ?o_14) ?ho_14 (by rfl) (fun K hK => ?st_14) AllZ.nil)
            case ho_14 => (simp only [List.getElem?_toArray, List.getElem?_cons_succ, List.getElem?_cons_zero]; exact rfl)
            case st_14 =>
              go_simp
              refine hK.out _ _ ?_
              clear hK K
              try simp only [Act.put, List.setIfInBounds_toArray, List.set_cons_zero, List.set_cons_succ]
              refine anyZ_done (by kernel_rfl) ?_ _
              refine NoPanic.normal ?_
              have th3 : Hid (Arr ((W4.setCell ⟨H, 7, none⟩ (.int .u32 (X2 : Nat))).drew) .u32 H 8 (Ob.upd (V') 7 X2)) := (th2.out.set (i := 7) (z := X2) (by decide)).drew
              have tn3 : Hid (Arr ((W4.setCell ⟨H, 7, none⟩ (.int .u32 (X2 : Nat))).drew) .u8 (N + 1) 8 (sby s)) := (tn2.out.far (by omega) _ _).drew
              have tr3 : Hid (Arr ((W4.setCell ⟨H, 7, none⟩ (.int .u32 (X2 : Nat))).drew) .u32 N 8 (fun _ => 0)) := (tr2.out.far (by omega) _ _).drew
              have hB3 : Below N w ((W4.setCell ⟨H, 7, none⟩ (.int .u32 (X2 : Nat))).drew) := by (repeat' (first | (with_reducible first | exact Below.refl _ _ | assumption | refine Below.alloc ?_ ?_ _ | refine Below.drew ?_ | refine below_drewN ?_ _ | refine Below.setCell ?_ ?_ _ | refine below_via (by with_reducible assumption) ?_ ?_) | omega | (simp only [szs]; omega) | (simp only [szs] at *; omega)))
              clear hHeld th2 tn2 tr2 hB2 p2 c2 f2 y2 cw2 xw2
              generalize ((W4.setCell ⟨H, 7, none⟩ (.int .u32 (X2 : Nat))).drew) = W5 at *
              rw [hX2.out] at hend
              rw [← hend.out, ← hx.out, ← hy.out] at th3
              clear hend hV hV' hX0 hX1 hX2 hv1 hv2 hw1 hw2 lw1 lw2 hx hy
              go_upto_region 12 with (fail)
              go_wp2_with (first | ((with_reducible refine wpList_loadLit th3.out ?_ Tryd.underlying68 ?_ ?_ ?_); (focus rfl); (focus rfl); (focus kernel_rfl); simp only [Act.put, List.setIfInBounds_toArray, List.set_cons_zero, List.set_cons_succ]) | ((with_reducible refine wpList_storeLit (Ob.open0 (wordAt (sby s) 0) (wordAt (sby s) 1)) tr3.out ?_ ?_ ?_ ?_); (focus rfl); (focus rfl); (focus kernel_rfl); intro W6 hW6_ tW6_ zW6_; try simp only [Act.put, List.setIfInBounds_toArray, List.set_cons_zero, List.set_cons_succ]))
              have hB5 : Below w.heap.size w W6 := by rw [hW6_.out, hN.out]; exact below_setCells hB3 (by omega) _ _
              have rv := tW6_.out.loadVar Tryd.underlying68 rfl (by kernel_rfl)
              exact bodyPost_ret (v := .agg (arrL .u32 (Ob.open0 (wordAt (sby s) 0) (wordAt (sby s) 1)) 8).toArray) (by simp [results, Tryd.results75, asAddr, rv]) rfl ⟨rfl, hB5⟩
end Go.Proofs.YtoigpjaffggekaaDoor

namespace Go.Proofs.YtoigpjaffggekaaDoor
open Go.RowKit Go.Proofs
set_option linter.unusedVariables false
set_option linter.unusedSimpArgs false
attribute [local go_sem ↓] Go.wp_at_zero Go.wp_at_succ

/-- The words of a digest, by the words of a person. -/
def digW (x y : Nat) (z : Nat → Nat) (n : Nat) : Nat → Nat → Nat := Ob.digI (Ob.open0 x y) (fun i => wordAt (Ob.blk z n i)) n
def lenV : Value → Nat
  | .slice _ n _ => n
  | _ => 0
def flagV : Value → Nat
  | .bool false => 1
  | _ => 0
theorem nblk_eq {i n : Nat} (hi : i ≤ Ob.nblk n) (h : 0 < i ∧ n ≤ 64 * i) : i = Ob.nblk n := by
  unfold Ob.nblk at hi ⊢
  by_cases h0 : n = 0
  · rw [if_pos h0] at hi ⊢; omega
  · rw [if_neg h0] at hi ⊢; omega
theorem blk_part (z : Nat → Nat) (n k i : Nat) (hk : min (64 * i) n = k) : ∀ j, j < 64 → (if j < n - k then z (k + j) else 0) = Ob.blk z n i j := by
  intro j hj
  unfold Ob.blk
  by_cases h : 64 * i ≤ n
  · have : k = 64 * i := by omega
    subst this
    by_cases h1 : j < n - 64 * i
    · rw [if_pos h1, if_pos (by omega)]
    · rw [if_neg h1, if_neg (by omega)]
  · rw [if_neg (by omega), if_neg (by omega)]

set_option maxHeartbeats 4000000 in
theorem pressed_core (s : ByteArray) (hs : s.size ≤ 8) (a : Option Addr) (n c : Nat) (hn : n ≤ 4611686018427387904) (hc : n ≤ c) (z : Nat → Nat) (hz : ∀ i, z i < 256) (w : World) (hT : Tabs w) (hS : Src w a n z) :
    Calls Tryd.prog 68 #[.string s, .slice a n c] w fun e w' => e = .returned (arrV .u32 (digW (wordAt (sby s) 0) (wordAt (sby s) 1) z n (Ob.nblk n)) 8) ∧ Below w.heap.size w w' := by
  unfold arrV
  have hT' : Hid (Tabs w) := hT
  have hz' : Hid (∀ i, z i < 256) := hz
  have hS' : Hid (Src w a n z) := hS
  clear hT hz hS
  obtain ⟨x, hx⟩ : ∃ x, Hid (wordAt (sby s) 0 = x) := ⟨_, rfl⟩
  obtain ⟨y, hy⟩ : ∃ x, Hid (wordAt (sby s) 1 = x) := ⟨_, rfl⟩
  rw [hx.out, hy.out]
  go_enter Tryd.func68, Tryd.ntmps68
  go_upto_region 1 with (fail)
  obtain ⟨W0, hW0⟩ : ∃ W, Hid (w.alloc (.cells (arrL .u32 (fun _ => 0) 8).toArray 68) = W) := ⟨_, rfl⟩
  have tr0 : Arr W0 .u32 w.heap.size 8 (fun _ => 0) := by rw [← hW0.out]; exact Arr.new rfl
  have hB0 : Below w.heap.size w W0 := by rw [← hW0.out]; (repeat' (first | (with_reducible first | exact Below.refl _ _ | assumption | refine Below.alloc ?_ ?_ _ | refine Below.drew ?_ | refine below_drewN ?_ _ | refine Below.setCell ?_ ?_ _ | refine below_via (by with_reducible assumption) ?_ ?_) | omega | (simp only [szs]; omega) | (simp only [szs] at *; omega)))
  change Code.wp _ _ _ _ (w.alloc (.cells (arrL .u32 (fun _ => 0) 8).toArray 68))
  rw [hW0.out]
  clear hW0
  obtain ⟨N, hN⟩ : ∃ N, Hid (w.heap.size = N) := ⟨_, rfl⟩
  rw [hN.out] at tr0 hB0 ⊢
  have hlN : 6 ≤ N := by have := hT'.out.lt; have := hN.out; omega
  have c1 := opened_core s hs W0 (hT'.out.below hB0 hlN)
  have hw : Hid (Ob.Words32 (Ob.open0 (wordAt (sby s) 0) (wordAt (sby s) 1))) := Ob.open0_words (word_lt (sby_lt s) 0) (word_lt (sby_lt s) 1)
  unfold arrV at c1
  rw [hx.out, hy.out] at c1 hw
  clear hx hy
  have l0 := tr0.lt
  go_upto_region 2 with (first | ((with_reducible refine wpList_storeLit (Ob.open0 x y) Arr.new8 ?_ ?_ ?_ ?_); (focus rfl); (focus rfl); (focus kernel_rfl); intro W2 hW2_ tW2_ zW2_; try simp only [Act.put, List.setIfInBounds_toArray, List.set_cons_zero, List.set_cons_succ]) | (go_at_call 75; with_reducible refine c1.mono ?_; rintro e W1 ⟨rfl, b1⟩))
  have l1 := b1.size
  have tr2 : Arr W2 .u32 N 8 (fun _ => 0) := by rw [hW2_.out]; exact ((tr0.below b1 (by omega)).alloc _).farCells (by omega) _ _
  have hB1 : Below N w W1 := below_via b1 hB0 (by omega)
  have hB2 : Below N w W2 := by rw [hW2_.out]; exact below_setCells (hB1.alloc (by omega) _) (by omega) _ _
  have th2 := tW2_.out
  obtain ⟨H, hH⟩ : ∃ V, Hid (W1.heap.size = V) := ⟨_, rfl⟩
  rw [hH.out] at th2
  have lH : N < H := by have := hH.out; omega
  rw [hH.out]
  clear tr0 hB0 hB1 hW2_ tW2_ zW2_ l1 b1 c1 l0 hH
  go_wp2
  go_loopw [1, 6, 7] (fun s1 s6 s7 wr => ∃ (i k : Nat) (p : Option Addr) (q : Nat), i ≤ Ob.nblk n ∧ Hid (min (64 * i) n = k) ∧ s1 = .slice p (n - k) q ∧ n - k ≤ q ∧ Hid (Src w p (n - k) (fun j => z (k + j))) ∧ s6 = .int .u64 (k : Nat) ∧ s7 = .bool (decide (0 < i ∧ n ≤ 64 * i)) ∧ Hid (Arr wr .u32 H 8 (digW x y z n i)) ∧ Hid (Arr wr .u32 N 8 (fun _ => 0)) ∧ Below N w wr) (fun s1 _ s7 _ => 2 * lenV s1 + flagV s7)
  case atStart => exact ⟨0, 0, a, c, by unfold Ob.nblk; split <;> omega, by show min (64 * 0) n = 0; omega, rfl, hc, by show Src w a (n - 0) (fun j => z (0 + j)); simpa using hS'.out, rfl, rfl, th2, tr2, hB2⟩
  case round =>
    clear th2 tr2 hB2
    obtain ⟨i, k, p, q, hi, hk, rfl, hq, hSp, rfl, rfl, th, tr, hB⟩ := hrel
    have l0 := hB.size
    by_cases hlast : 0 < i ∧ n ≤ 64 * i
    · have e7 : decide (0 < i ∧ n ≤ 64 * i) = true := decide_eq_true hlast
      rw [e7]
      obtain rfl := nblk_eq hi hlast
      go_upto_region 10 with (fail)
      go_wp2_with (first | ((with_reducible refine wpList_loadLit th.out ?_ Tryd.underlying68 ?_ ?_ ?_); (focus rfl); (focus rfl); (focus kernel_rfl); simp only [Act.put, List.setIfInBounds_toArray, List.set_cons_zero, List.set_cons_succ]) | ((with_reducible refine wpList_storeLit (digW x y z n (Ob.nblk n)) tr.out ?_ ?_ ?_ ?_); (focus rfl); (focus rfl); (focus kernel_rfl); intro W6 hW6_ tW6_ zW6_; try simp only [Act.put, List.setIfInBounds_toArray, List.set_cons_zero, List.set_cons_succ]))
      have hB5 : Below w.heap.size w W6 := by rw [hW6_.out, hN.out]; exact below_setCells hB (by omega) _ _
      have rv := tW6_.out.loadVar Tryd.underlying68 rfl (by kernel_rfl)
      exact bodyPost_ret (v := .agg (arrL .u32 (digW x y z n (Ob.nblk n)) 8).toArray) (by simp [results, Tryd.results68, asAddr, rv]) rfl ⟨rfl, hB5⟩
    · have e7 : decide (0 < i ∧ n ≤ 64 * i) = false := decide_eq_false hlast
      rw [e7]
      go_upto_region 5 with (fail)
      obtain ⟨W3, hW3⟩ : ∃ W, Hid (wr.alloc (.cells #[.int .u8 0, .int .u8 0, .int .u8 0, .int .u8 0, .int .u8 0, .int .u8 0, .int .u8 0, .int .u8 0, .int .u8 0, .int .u8 0, .int .u8 0, .int .u8 0, .int .u8 0, .int .u8 0, .int .u8 0, .int .u8 0, .int .u8 0, .int .u8 0, .int .u8 0, .int .u8 0, .int .u8 0, .int .u8 0, .int .u8 0, .int .u8 0, .int .u8 0, .int .u8 0, .int .u8 0, .int .u8 0, .int .u8 0, .int .u8 0, .int .u8 0, .int .u8 0, .int .u8 0, .int .u8 0, .int .u8 0, .int .u8 0, .int .u8 0, .int .u8 0, .int .u8 0, .int .u8 0, .int .u8 0, .int .u8 0, .int .u8 0, .int .u8 0, .int .u8 0, .int .u8 0, .int .u8 0, .int .u8 0, .int .u8 0, .int .u8 0, .int .u8 0, .int .u8 0, .int .u8 0, .int .u8 0, .int .u8 0, .int .u8 0, .int .u8 0, .int .u8 0, .int .u8 0, .int .u8 0, .int .u8 0, .int .u8 0, .int .u8 0, .int .u8 0] 88) = W) := ⟨_, rfl⟩
      have tb3 : Arr W3 .u8 wr.heap.size 64 (fun _ => 0) := by rw [← hW3.out]; exact Arr.new64b
      have lH' := th.out.lt
      have th3 : Hid (Arr W3 .u32 H 8 (digW x y z n i)) := by rw [← hW3.out]; exact th.out.alloc _
      have tr3 : Hid (Arr W3 .u32 N 8 (fun _ => 0)) := by rw [← hW3.out]; exact tr.out.alloc _
      have hB3 : Below N w W3 := by rw [← hW3.out]; exact hB.alloc (by omega) _
      rw [hW3.out]
      obtain ⟨B, hB'⟩ : ∃ H, Hid (wr.heap.size = H) := ⟨_, rfl⟩
      rw [hB'.out] at tb3 lH' ⊢
      clear hW3 hB tr th hB' l0
      obtain ⟨m, hm⟩ : ∃ m, Hid (n - k = m) := ⟨_, rfl⟩
      obtain ⟨T, hTT⟩ : ∃ T, Hid (min m 64 = T) := ⟨_, rfl⟩
      rw [hm.out] at hSp hq ⊢
      have hSw : Src W3 p m (fun j => z (k + j)) := hSp.out.below (by rw [hN.out]; exact hB3)
      obtain ⟨W4, h4, hW4, tb4, z4⟩ := tb3.copyBys hSw 64 q 3 hTT.out
      have th4 : Hid (Arr W4 .u32 H 8 (digW x y z n i)) := by rw [hW4.out]; exact th3.out.farCells (by omega) _ _
      have tr4 : Hid (Arr W4 .u32 N 8 (fun _ => 0)) := by rw [hW4.out]; exact tr3.out.farCells (by omega) _ _
      have hB4 : Below N w W4 := by rw [hW4.out]; exact below_setCells hB3 (by omega) _ _
      have tb5 : Hid (Arr W4 .u8 B 64 (Ob.blk z n i)) := tb4.out.congr (fun j hj => by rw [← hm.out]; exact blk_part z n k i hk.out j hj)
      clear hW4 th3 tr3 hB3 tb3 tb4 hSw z4
      go_upto_region 6 with (at_builtin; refine Lib.wpList_copy_run _ rfl _ _ 34 34 rfl _ _ rfl rfl h4 ?_)
      have hTm : T ≤ m := by have := hTT.out; omega
      obtain ⟨m', hm'⟩ : ∃ m', Hid (m - T = m') := ⟨_, rfl⟩
      obtain ⟨k', hk'⟩ : ∃ k', Hid (k + T = k') := ⟨_, rfl⟩
      obtain ⟨L, hL⟩ : ∃ L, Hid (decide (n ≤ 64 * (i + 1)) = L) := ⟨_, rfl⟩
      have hk1 : Hid (min (64 * (i + 1)) n = k') := by show _ = _; have := hk.out; have := hk'.out; have := hTT.out; have := hm.out; omega
      have a0 : IntKind.u64.wrap (T : Int) = (T : Int) := by rw [IntKind.wrap_u64]; have := hTT.out; omega
      have a1 : IntKind.u64.wrap ((k : Int) + (T : Int)) = (k' : Int) := by rw [IntKind.wrap_u64]; have := hk'.out; have := hk1.out; omega
      have a2 : decide ((m' : Int) = 0) = L := by
        rw [← hL.out]
        refine decide_eq_decide.2 ?_
        have := hm'.out; have := hm.out; have := hTT.out; have := hk.out
        omega
      have a3 : ((m' : Int) == 0) = L := by rw [← a2]; rfl
      have c5 := press_core (digW x y z n i) (Ob.blk z n i) (Ob.digI_words hw.out _ (by omega) i) (Ob.blk_lt hz'.out n i) k' (by have := hk1.out; omega) L W4 (hT'.out.below hB4 hlN)
      have hnext : Hid (Ob.press (digW x y z n i) (wordAt (Ob.blk z n i)) k' L = digW x y z n (i + 1)) := by rw [← hk1.out, ← hL.out]; rfl
      rw [hnext.out] at c5
      unfold arrV at c5
      go_wp2_with (first | ((with_reducible refine wpList_tail (p := p) (c := q) hTm ?_ ?_ ?_ ?_); (focus rfl); (focus rfl); (focus rfl); intro p' hp'; rw [hm'.out]; simp only [Act.put, List.setIfInBounds_toArray, List.set_cons_zero, List.set_cons_succ]) | ((with_reducible refine wpList_loadLit th4.out ?_ Tryd.underlying68 ?_ ?_ ?_); (focus rfl); (focus rfl); (focus kernel_rfl); simp only [Act.put, List.setIfInBounds_toArray, List.set_cons_zero, List.set_cons_succ]) | ((with_reducible refine wpList_loadLit tb5.out ?_ Tryd.underlying88 ?_ ?_ ?_); (focus rfl); (focus rfl); (focus kernel_rfl); simp only [Act.put, List.setIfInBounds_toArray, List.set_cons_zero, List.set_cons_succ]) | ((with_reducible refine wpList_storeLit (digW x y z n (i + 1)) th5 ?_ ?_ ?_ ?_); (focus rfl); (focus rfl); (focus kernel_rfl); intro W6 hW6_ tW6_ zW6_; try simp only [Act.put, List.setIfInBounds_toArray, List.set_cons_zero, List.set_cons_succ]) | (go_at_call 76; with_reducible refine c5.mono ?_; rintro e W5 ⟨rfl, b5⟩; have th5 := th4.out.below b5 th4.out.lt))
      have tr6 : Hid (Arr W6 .u32 N 8 (fun _ => 0)) := by rw [hW6_.out]; exact (tr4.out.below b5 tr4.out.lt).farCells (by omega) _ _
      have l4 := hB4.size
      have hB5 : Below N w W5 := below_via b5 hB4 (by have := tr4.out.lt; omega)
      have hB6 : Below N w W6 := by rw [hW6_.out]; exact below_setCells hB5 (by omega) _ _
      have hnk : n - k' = m' := by have := hm'.out; have := hm.out; have := hk'.out; omega
      have hS6 : Hid (Src w p' (n - k') (fun j => z (k' + j))) := by
        have := hSp.out.tail hTm hq hp'.out
        rw [hm'.out] at this
        show Src w p' (n - k') (fun j => z (k' + j))
        rw [hnk, ← hk'.out]
        simpa only [Nat.add_assoc] using this
      have hi1 : i + 1 ≤ Ob.nblk n := by
        unfold Ob.nblk
        by_cases h0 : n = 0
        · rw [if_pos h0]; omega
        · rw [if_neg h0]; omega
      have hLd : L = decide (0 < i + 1 ∧ n ≤ 64 * (i + 1)) := by
        rw [← hL.out]
        refine decide_eq_decide.2 ?_
        omega
      have hmm : 2 * m' + flagV (.bool L) < 2 * (n - k) + 1 := by
        have h1 := hm'.out; have h2 := hm.out; have h3 := hTT.out; have h5 := hk.out
        by_cases h0 : m = 0
        · have hLt : L = true := by rw [hLd]; refine decide_eq_true ?_; omega
          rw [hLt]
          show 2 * m' + 0 < _
          omega
        · have : flagV (.bool L) ≤ 1 := by cases L <;> decide
          omega
      go_roundw
      case rel => exact ⟨i + 1, k', p', q - T, hi1, hk1, by rw [hnk], by have := hm'.out; omega, hS6, rfl, by rw [hLd], tW6_, tr6, hB6⟩
      case measure => exact hmm
end Go.Proofs.YtoigpjaffggekaaDoor

namespace Go.Proofs.YtoigpjaffggekaaDoor
open Go.RowKit Go.Proofs
set_option linter.unusedVariables false
set_option linter.unusedSimpArgs false
attribute [local go_sem ↓] Go.wp_at_zero Go.wp_at_succ

/-- The words of the digest of n bytes for a person. -/
def digS (s : ByteArray) (z : Nat → Nat) (n : Nat) : Nat → Nat := digW (wordAt (sby s) 0) (wordAt (sby s) 1) z n (Ob.nblk n)
theorem digS_words (s : ByteArray) (z : Nat → Nat) (n : Nat) (hn : n ≤ 4611686018427387904) : Ob.Words32 (digS s z n) :=
  Ob.digI_words (Ob.open0_words (word_lt (sby_lt s) 0) (word_lt (sby_lt s) 1)) _ (by omega) _

set_option maxHeartbeats 1000000 in
theorem sumW (s : ByteArray) (hs : s.size ≤ 8) (a : Option Addr) (n c : Nat) (hn : n ≤ 4611686018427387904) (hc : n ≤ c) (z : Nat → Nat) (hz : ∀ i, z i < 256) (w : World) (hT : Tabs w) (hS : Src w a n z) :
    Calls Tryd.prog 57 #[.string s, .slice a n c] w fun e w' => ∃ g, e = .returned (.tuple #[.slice (some ⟨g, 0, none⟩) 32 32, .nilIface]) ∧ w.heap.size ≤ g ∧ w'.ownsRow g 5 1 (.slice (some ⟨g, 0, none⟩) 32 32) 32 (vals (lowBy (digS s z n)) 32) ∧ Below w.heap.size w w' := by
  have c1 := pressed_core s hs a n c hn hc z hz w hT hS
  have hd : Hid (Ob.Words32 (digS s z n)) := digS_words s z n hn
  have e0 : digW (wordAt (sby s) 0) (wordAt (sby s) 1) z n (Ob.nblk n) = digS s z n := rfl
  rw [e0] at c1
  unfold arrV at c1
  obtain ⟨D, hD⟩ : ∃ D, Hid (digS s z n = D) := ⟨_, rfl⟩
  rw [hD.out] at c1 hd
  rw [hD.out]
  have hs' : (s.size : Int) ≤ 8 := by omega
  have hs2 : ¬ (8 : Int) < (s.size : Int) := by omega
  clear hT hS hz e0 hD
  go_enter Tryd.func57, Tryd.ntmps57
  go_upto_region 4 with (first | ((with_reducible refine wpList_storeLit (D) Arr.new8 ?_ ?_ ?_ ?_); (focus rfl); (focus rfl); (focus kernel_rfl); intro W2 hW2_ tW2_ zW2_; try simp only [Act.put, List.setIfInBounds_toArray, List.set_cons_zero, List.set_cons_succ]) | (go_at_call 68; with_reducible refine c1.mono ?_; rintro e W1 ⟨rfl, b1⟩))
  have hB2 : Below w.heap.size w W2 := by rw [hW2_.out]; exact below_setCells (b1.alloc b1.size _) b1.size _ _
  have l2 := hB2.size
  have c2 := lowBytesW W1.heap.size 8 8 D hd.out W2 (by decide) tW2_.out.rd
  clear hW2_ zW2_ tW2_ c1 b1
  go_wp2_with (go_at_call 69; with_reducible refine c2.mono ?_; rintro e W3 ⟨rfl, o3, b3⟩)
  go_ret2
  exact ⟨W2.heap.size, rfl, l2, o3, below_via b3 hB2 l2⟩

set_option maxHeartbeats 1000000 in
theorem sumLong (s : ByteArray) (hs : 8 < s.size) (v : Value) (w : World) :
    Calls Tryd.prog 57 #[.string s, v] w fun e w' => e = .returned (.tuple #[.slice none 0 0, .iface 30 (.int .i64 5)]) ∧ w = w' := by
  have hs2 : (8 : Int) < (s.size : Int) := by omega
  go_enter Tryd.func57, Tryd.ntmps57
  go_wp2
  go_ret2
  exact ⟨rfl, rfl⟩

set_option maxHeartbeats 1000000 in
theorem numW (s : ByteArray) (hs : s.size ≤ 8) (a : Option Addr) (n c : Nat) (hn : n ≤ 4611686018427387904) (hc : n ≤ c) (z : Nat → Nat) (hz : ∀ i, z i < 256) (m : Nat) (hm : 0 < m) (w : World) (hT : Tabs w) (hS : Src w a n z) :
    Calls Tryd.prog 44 #[.string s, .slice a n c, .int .u64 m] w fun e w' => e = .returned (.tuple #[.int .u64 (Ob.lowN (lowBy (digS s z n)) 8 % m : Nat), .nilIface]) ∧ Below w.heap.size w w' := by
  have c1 := sumW s hs a n c hn hc z hz w hT hS
  obtain ⟨D, hD⟩ : ∃ D, Hid (digS s z n = D) := ⟨_, rfl⟩
  rw [hD.out] at c1
  rw [hD.out]
  have hm0 : (m : Int) ≠ 0 := by omega
  have hm1 : ((m : Int) == 0) = false := by simpa using hm0
  clear hT hS hz hD
  go_enter Tryd.func44, Tryd.ntmps44
  go_upto_region 6 with (go_at_call 57; with_reducible refine c1.mono ?_; rintro e W1 ⟨g, rfl, lg, o1, b1⟩)
  have hb := bys_of_row o1
  have c2 := lowNumberW g 0 8 32 (by decide) (lowBy D) (lowBy_lt D) W1 (hb.less (by decide))
  obtain ⟨x, hx⟩ : ∃ x, Hid (Ob.lowN (lowBy D) 8 = x) := ⟨_, rfl⟩
  rw [hx.out] at c2
  clear c1 o1 hb
  go_wp2_with (go_at_call 58; with_reducible refine c2.mono ?_; rintro e W2 ⟨rfl, rfl⟩)
  go_ret2
  exact ⟨by rw [hx.out]; rfl, b1⟩
set_option maxHeartbeats 1000000 in
theorem numZero (s : ByteArray) (hs : s.size ≤ 8) (a : Option Addr) (n c : Nat) (hn : n ≤ 4611686018427387904) (hc : n ≤ c) (z : Nat → Nat) (hz : ∀ i, z i < 256) (w : World) (hT : Tabs w) (hS : Src w a n z) :
    Calls Tryd.prog 44 #[.string s, .slice a n c, .int .u64 0] w fun e w' => e = .returned (.tuple #[.int .u64 0, .iface 30 (.int .i64 1)]) ∧ Below w.heap.size w w' := by
  have c1 := sumW s hs a n c hn hc z hz w hT hS
  clear hT hS hz
  go_enter Tryd.func44, Tryd.ntmps44
  go_wp2_with (go_at_call 57; with_reducible refine c1.mono ?_; rintro e W1 ⟨g, rfl, lg, o1, b1⟩)
  go_ret2
  exact ⟨rfl, b1⟩
set_option maxHeartbeats 1000000 in
theorem numLong (s : ByteArray) (hs : 8 < s.size) (v : Value) (m : Nat) (w : World) :
    Calls Tryd.prog 44 #[.string s, v, .int .u64 m] w fun e w' => e = .returned (.tuple #[.int .u64 0, .iface 30 (.int .i64 5)]) ∧ w = w' := by
  have c1 := sumLong s hs v w
  go_enter Tryd.func44, Tryd.ntmps44
  go_wp2_with (go_at_call 57; with_reducible refine c1.mono ?_; rintro e W1 ⟨rfl, rfl⟩)
  go_ret2
  exact ⟨rfl, rfl⟩
end Go.Proofs.YtoigpjaffggekaaDoor
