/-
  Bytes of words of 32 bits, the lowest first.
-/
import Derived.Test.YtllgnclbbakliaaDoorArr2
namespace Go.Proofs.YtllgnclbbakliaaDoor
open Go.RowKit Go.Proofs
set_option linter.unusedVariables false
set_option linter.unusedSimpArgs false
attribute [local go_sem ↓] Go.wp_at_zero Go.wp_at_succ

/-- Byte number i of the words ns. -/
def lowBy (ns : Nat → Nat) (i : Nat) : Nat := ns (i / 4) / 256 ^ (i % 4) % 256
theorem lowBy_lt (ns : Nat → Nat) (i : Nat) : lowBy ns i < 256 := Nat.mod_lt _ (by decide)
theorem lowBy_at (ns : Nat → Nat) (i j : Nat) (hj : j < 4) : lowBy ns (4 * i + j) = ns i / 256 ^ j % 256 := by
  unfold lowBy
  rw [show (4 * i + j) / 4 = i by omega, show (4 * i + j) % 4 = j by omega]

set_option maxHeartbeats 1000000 in
theorem lowBytesW (b k cap : Nat) (ns : Nat → Nat) (hns : Ob.Words32 ns) (w : World) (hk : k ≤ 1000000) (hc : Rd w .u32 b k ns) :
    Calls Tryd.prog 23 #[.slice (some ⟨b, 0, none⟩) k cap] w fun e w' => e = .returned (.slice (some ⟨w.heap.size, 0, none⟩) (4 * k) (4 * k)) ∧ w'.ownsRow w.heap.size 5 1 (.slice (some ⟨w.heap.size, 0, none⟩) (4 * k) (4 * k)) (4 * k) (vals (lowBy ns) (4 * k)) ∧ Below w.heap.size w w' := by
  obtain ⟨i0, hi, hz1, hz2, hz0⟩ := byteInfo
  have hm : 4 * k ≤ maxLen := by unfold maxLen; omega
  have hc' : Hid (Rd w .u32 b k ns) := hc
  have hn' : Hid (Ob.Words32 ns) := hns
  clear hc hns
  go_enter Tryd.func23, Tryd.ntmps23
  go_wp2_with (at_make; refine wpList_make_own _ rfl _ _ 27 rfl w.heap.size 5 i0 _ 1 Tryd.underlying27 hi hz0 hz1 _ _ _ (4 * k) rfl rfl (by omega) (by rw [hz2]; omega) hm (Nat.le_refl _) ?_; intro w0 hown0 hgrow0)
  have hB0 : Below w.heap.size w w0 := (Below.refl _ _).grown hgrow0 (Nat.le_refl _) (fun k h => by cases h)
  clear hgrow0
  go_loopw [3, 12] (fun sb si wr => ∃ i : Nat, i ≤ k ∧ si = .int .i64 i ∧ sb = .slice (some ⟨w.heap.size, 0, none⟩) (4 * i) (4 * k) ∧ wr.ownsRow w.heap.size 5 1 (.slice (some ⟨w.heap.size, 0, none⟩) (4 * i) (4 * k)) (4 * i) (vals (lowBy ns) (4 * i)) ∧ Below w.heap.size w wr) (fun _ si _ => k - (intOf si).toNat)
  case atStart => exact ⟨0, by omega, rfl, rfl, hown0, hB0⟩
  case round =>
    obtain ⟨i, hik, rfl, rfl, hown, hB⟩ := hrel
    clear hown0 hB0
    by_cases hlt : i < k
    · have hci := (hc'.out.below hB hc'.out.lt).c i hlt
      have hni := hn'.out i
      have e0 : Hid (lowBy ns (4 * i) = ns i % 256) := by have := lowBy_at ns i 0 (by decide); rw [Nat.add_zero, Nat.pow_zero, Nat.div_one] at this; exact this
      have e1 : Hid (lowBy ns (4 * i + 1) = ns i / 256 % 256) := lowBy_at ns i 1 (by decide)
      have e2 : Hid (lowBy ns (4 * i + 2) = ns i / 65536 % 256) := lowBy_at ns i 2 (by decide)
      have e3 : Hid (lowBy ns (4 * i + 3) = ns i / 16777216 % 256) := lowBy_at ns i 3 (by decide)
      obtain ⟨n, hn⟩ : ∃ n, Hid (ns i = n) := ⟨_, rfl⟩
      rw [hn.out] at hci hni e0 e1 e2 e3
      obtain ⟨b0, f0, g0⟩ : ∃ x : Nat, Hid (n % 256 = x) ∧ IntKind.u8.wrap (n : Int) = (x : Int) := ⟨_, rfl, by rw [IntKind.wrap_u8]; omega⟩
      obtain ⟨b1, f1, g1⟩ : ∃ x : Nat, Hid (n / 256 % 256 = x) ∧ IntKind.u8.wrap ((n : Int) / 256) = (x : Int) := ⟨_, rfl, by rw [IntKind.wrap_u8]; omega⟩
      obtain ⟨b2, f2, g2⟩ : ∃ x : Nat, Hid (n / 65536 % 256 = x) ∧ IntKind.u8.wrap ((n : Int) / 65536) = (x : Int) := ⟨_, rfl, by rw [IntKind.wrap_u8]; omega⟩
      obtain ⟨b3, f3, g3⟩ : ∃ x : Nat, Hid (n / 16777216 % 256 = x) ∧ IntKind.u8.wrap ((n : Int) / 16777216) = (x : Int) := ⟨_, rfl, by rw [IntKind.wrap_u8]; omega⟩
      rw [f0.out] at e0
      rw [f1.out] at e1
      rw [f2.out] at e2
      rw [f3.out] at e3
      have hown2 := hown.alloc (.cells #[.int .u8 (b0 : Nat), .int .u8 (b1 : Nat), .int .u8 (b2 : Nat), .int .u8 (b3 : Nat)] 5)
      have hroom : 4 * i + 4 ≤ 4 * k := by omega
      have i0' : (i : Int) < (k : Int) := by omega
      have i1' : (0 : Int) ≤ (i : Int) := by omega
      have hnews : ∀ (j : Nat) (u : Value), [Value.int .u8 (b0 : Nat), .int .u8 (b1 : Nat), .int .u8 (b2 : Nat), .int .u8 (b3 : Nat)][j]? = some u → (wr.alloc (.cells #[.int .u8 (b0 : Nat), .int .u8 (b1 : Nat), .int .u8 (b2 : Nat), .int .u8 (b3 : Nat)] 5)).cell? ((⟨wr.heap.size, 0, none⟩ : Addr).add j) = some u := fun j u h => by
        rw [Addr.add_mid, Nat.zero_add, World.cell?_alloc_new, List.getElem?_toArray]
        exact h
      have hv : Hid (vals (lowBy ns) (4 * i) ++ [.int .u8 (b0 : Nat), .int .u8 (b1 : Nat), .int .u8 (b2 : Nat), .int .u8 (b3 : Nat)] = vals (lowBy ns) (4 * (i + 1))) := by
        show _ = _
        rw [show 4 * (i + 1) = 4 * i + 1 + 1 + 1 + 1 by omega, vals_succ, vals_succ, vals_succ, vals_succ, e0.out, e1.out, show 4 * i + 1 + 1 = 4 * i + 2 by omega, e2.out, show 4 * i + 2 + 1 = 4 * i + 3 by omega, e3.out]
        simp
      go_wp2_with (at_builtin; refine wpList_append_own_spare _ rfl _ _ 27 rfl w.heap.size 5 i0 1 Tryd.underlying27 hi hz1 w.heap.size (4 * i) (4 * k) _ rfl hown2 ⟨wr.heap.size, 0, none⟩ 4 4 _ rfl rfl hnews (by simp [Value.oneCell']) hroom ?_; intro w1 hown3 hgrow1)
      rw [hv.out] at hown3
      have hB2 : Below w.heap.size w w1 := (hB.alloc hB.size _).grown hgrow1 (by have := hB.size; simp only [World.size_alloc]; omega) (fun k h => by cases h; exact Nat.le_refl _)
      go_roundw
      case rel => exact ⟨i + 1, by omega, by go_num, rfl, hown3, hB2⟩
      case measure => simp [intOf]; omega
    · obtain rfl : i = k := by omega
      go_wp2
      go_ret
      exact ⟨rfl, hown, hB⟩
end Go.Proofs.YtllgnclbbakliaaDoor
