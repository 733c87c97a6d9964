/-
  Joined texts: Package cipher, walked: the function that takes more bytes. Bytes of words of 32 bits, the lowest first. Package cipher, walked: two numbers as bytes; the function that tells the mark. Package cipher, walked: the function that tells the mark. The document's own marks, walked: carrying. The document's own digest, walked: bytes as words.
-/
import Derived.Test.YtdaonbfdcpkipaaDoorJ2
import Derived.Test.YtdaonbfdcpkipaaDoorJ1
import Derived.Deep.CutRange
import Derived.Deep.DeepCutAuto
import Derived.OwnWalk

namespace Ob
theorem accV_next (R : Nat) (Z f : Nat → Nat) (q : Nat) (h : ∀ i, i < 16 → f i = Z (16 * q + i)) : accV R Z (q + 1) = (accV R Z q + (valD f 16 + 256 ^ 16)) * R % PP := by
  rw [accV, valD_congr (f := f) (g := fun i => Z (16 * q + i)) h]
end Ob
namespace Go.Proofs.YtdaonbfdcpkipaaDoor
open Go.RowKit Go.Proofs
set_option linter.unusedVariables false
set_option linter.unusedSimpArgs false
attribute [local go_sem ↓] Go.wp_at_zero Go.wp_at_succ

set_option maxHeartbeats 4000000 in
theorem take_core (N R k m c : Nat) (r s Z z : Nat → Nat) (hr : Ob.ROk r R) (hz : ∀ i, z i < 256) (hzZ : ∀ i, i < m → z i = Z (k + i)) (hm : m ≤ 1000000000) (a : Option Addr) (w : World) (hT : Stt w N r s R Z k) (hS : SrcO w N a m z) :
    Calls Tryd.prog 37 #[.slice a m c, .pointer (some ⟨N + 4, 0, none⟩), .pointer (some ⟨N + 2, 0, none⟩), .pointer (some ⟨N, 0, none⟩)] w fun e w' => e = .returned (.tuple #[]) ∧ Stt w' N r s R Z (k + m) ∧ Below N w w' ∧ KpR (N + 2) (N + 4) w w' := by
  have hr' : Hid (Ob.ROk r R) := hr
  have hz' : Hid (∀ i, z i < 256) := hz
  have hZ' : Hid (∀ i, i < m → z i = Z (k + i)) := hzZ
  have hT' : Hid (Stt w N r s R Z k) := hT
  have hS' : Hid (SrcO w N a m z) := hS
  have hB0 : Hid (Below N w w) := Below.refl _ _
  have hR0 : Hid (KpR (N + 2) (N + 4) w w) := KpR.refl _ _ _
  clear hr hz hzZ hT hS
  go_enter Tryd.func37, Tryd.ntmps37
  go_wp2
  go_loopw [9] (fun s9 wr => ∃ i : Nat, i ≤ m ∧ s9 = .int .i64 (i : Nat) ∧ Hid (Stt wr N r s R Z (k + i)) ∧ Hid (SrcO wr N a m z) ∧ Hid (Below N w wr) ∧ Hid (KpR (N + 2) (N + 4) w wr)) (fun s9 _ => m - (intOf s9).toNat)
  case atStart => exact ⟨0, by omega, rfl, hT', hS', hB0, hR0⟩
  case round =>
    clear hT' hS' hB0 hR0
    obtain ⟨i, hi, rfl, hT, hS, hB, hKr⟩ := hrel
    by_cases hlt : i < m
    · obtain ⟨b, off, rfl, hbN, hBy⟩ := hS.out.at_ hlt
      have hby := hBy.at_ i hlt
      have hzl := hz'.out i
      have hzZ : Hid (z i = Z (k + i)) := hZ'.out i hlt
      obtain ⟨x, f, hG, hX, hf, hfZ⟩ := hT.out
      have i0 : (i : Int) < (m : Int) := by omega
      have i1 : (0 : Int) ≤ (i : Int) := by omega
      obtain ⟨n, hn⟩ : ∃ n, Hid ((k + i) % 16 = n) := ⟨_, rfl⟩
      obtain ⟨q, hq⟩ : ∃ q, Hid ((k + i) / 16 = q) := ⟨_, rfl⟩
      obtain ⟨n', hn'⟩ : ∃ n', Hid (n + 1 = n') := ⟨_, rfl⟩
      rw [hn.out] at hG hfZ
      rw [hq.out] at hX hfZ
      have hn16 : n < 16 := by rw [← hn.out]; exact Nat.mod_lt _ (by decide)
      obtain ⟨v, hv⟩ : ∃ v, Hid (z i = v) := ⟨_, rfl⟩
      rw [hv.out] at hby hzl hzZ
      have hf2 : Hid (∀ j, Ob.upd f n v j < 256) := fun j => by
        unfold Ob.upd
        split
        · exact hzl
        · exact hf j
      have hfZ2 : Hid (∀ j, j < n' → Ob.upd f n v j = Z (16 * q + j)) := fun j hj => by
        have := hn'.out
        by_cases h : j = n
        · subst h
          rw [Ob.upd_same, hzZ.out]
          congr 1
          have := hn.out
          have := hq.out
          omega
        · rw [Ob.upd_ne _ _ h]
          exact hfZ j (by omega)
      have pcx := hG.pc
      have pfx := hG.pf
      have plx := hG.lt
      have tGa := (hG.alloc (.cells #[.int .u8 (v : Nat)] 5)).tG
      have hx1 : (wr.alloc (.cells #[.int .u8 (v : Nat)] 5)).cell? ⟨wr.heap.size, 0, none⟩ = some (.int .u8 (v : Nat)) := by simp [go_sem]
      have hG1 := ((hG.alloc (.cells #[.int .u8 (v : Nat)] 5)).setG (v := v) hn16).setP n'
      have hS1 : Hid (SrcO (((wr.alloc (.cells #[.int .u8 (v : Nat)] 5)).setCell ⟨N + 3, n, none⟩ (.int .u8 (v : Nat))).setCell ⟨N + 4, 0, none⟩ (.slice (some ⟨N + 3, 0, none⟩) n' 16)) N (some ⟨b, off, none⟩) m z) := ((hS.out.alloc _).far (by omega) _ _).far (by omega) _ _
      have hBo := hB.out
      have hNl : N ≤ wr.heap.size := by omega
      have hB1 : Hid (Below N w (((wr.alloc (.cells #[.int .u8 (v : Nat)] 5)).setCell ⟨N + 3, n, none⟩ (.int .u8 (v : Nat))).setCell ⟨N + 4, 0, none⟩ (.slice (some ⟨N + 3, 0, none⟩) n' 16))) := ((hBo.alloc hNl _).setCell (Nat.le_add_right _ _) _).setCell (Nat.le_add_right _ _) _
      have hR1 : Hid (KpR (N + 2) (N + 4) w (((wr.alloc (.cells #[.int .u8 (v : Nat)] 5)).setCell ⟨N + 3, n, none⟩ (.int .u8 (v : Nat))).setCell ⟨N + 4, 0, none⟩ (.slice (some ⟨N + 3, 0, none⟩) n' 16))) := ((hKr.out.alloc _).set (by omega) _ _).set (by omega) _ _
      clear hBy hS hT hG hBo hB hf hfZ hKr
      go_upto_region 4 with (at_builtin; refine wpList_appRoom rfl _ _ rfl tGa hn16 hn'.out wr.heap.size 1 v hx1 rfl rfl ?_)
      clear pcx pfx plx tGa hx1 hNl hby hn16 hbN
      generalize ((wr.alloc (.cells #[.int .u8 (v : Nat)] 5)).setCell ⟨N + 3, n, none⟩ (.int .u8 (v : Nat))).setCell ⟨N + 4, 0, none⟩ (.slice (some ⟨N + 3, 0, none⟩) n' 16) = W1 at *
      obtain ⟨f', hf'⟩ : ∃ f', Hid (Ob.upd f n v = f') := ⟨_, rfl⟩
      rw [hf'.out] at hG1 hf2 hfZ2
      have pc1 := hG1.pc
      have pf1 := hG1.pf
      have pl1 := hG1.lt
      by_cases h16 : n' = 16
      · have g16 : (n' : Int) = 16 := by omega
        have hGd := hG1
        have c5 := stepped_core x r (Ob.accV R Z q) R n' 16 hX hr'.out (by omega) f' hf2.out (some ⟨N + 3, 0, none⟩) W1 (Or.inr ⟨N + 3, 0, rfl, hG1.tG.lt, fun j hj => by rw [Nat.zero_add]; exact hG1.tG.c j (by omega)⟩)
        unfold arrV at c5
        have tQ := hG1.tQ
        have tR := hG1.tR
        have hl := arrL_length .u64 x 3
        have hq1 : Hid ((k + (i + 1)) / 16 = q + 1) := by show _ = _; have := hn.out; have := hq.out; have := hn'.out; omega
        have hn1 : Hid ((k + (i + 1)) % 16 = 0) := by show _ = _; have := hn.out; have := hq.out; have := hn'.out; omega
        have hacc : Hid ((Ob.accV R Z q + (Ob.valD f' n' + 256 ^ n')) * R % Ob.PP = Ob.accV R Z (q + 1)) := by
          show _ = _
          rw [h16, Ob.accV_next R Z f' q (fun j hj => hfZ2.out j (by omega))]
        rw [hacc.out, h16] at c5
        clear hX hacc
        go_upto_region 5 with (fail)
        go_upto_region 6 with (first | ((with_reducible refine wpList_loadLit tQ ?_ Tryd.underlying63 ?_ ?_ ?_); (focus rfl); (focus rfl); (focus kernel_rfl); simp only [Act.put, List.setIfInBounds_toArray, List.set_cons_zero, List.set_cons_succ]) | ((with_reducible refine wpList_loadLit tR ?_ Tryd.underlying61 ?_ ?_ ?_); (focus rfl); (focus rfl); (focus kernel_rfl); simp only [Act.put, List.setIfInBounds_toArray, List.set_cons_zero, List.set_cons_succ]) | (go_at_call 38; with_reducible refine c5.mono ?_; rintro e W2 ⟨x2, rfl, hX2, b2⟩; have hG2 := hG1.on b2; have tQ2 := hG2.tQ) | ((with_reducible refine wpList_storeLit (x2) tQ2 ?_ ?_ ?_ ?_); (focus rfl); (focus rfl); (focus kernel_rfl); intro W3 hW3_ tW3_ zW3_; try simp only [Act.put, List.setIfInBounds_toArray, List.set_cons_zero, List.set_cons_succ]))
        have hG3 := hG2.setQ x2
        have hS3 := (hS1.out.on b2).farQ x2
        have hB3 : Below N w W3 := by rw [hW3_.out]; exact below_setCells (below_via b2 hB1.out (by omega)) (by omega) _ _
        have hR3 := (hR1.out.below b2).setQ x2
        rw [← hW3_.out] at hG3 hS3 hR3
        clear hW3_ tW3_ zW3_ tQ2 hG2 b2 c5 tQ tR hGd pc1 pf1 pl1 hG1
        have pc3 := hG3.pc
        have pf3 := hG3.pf
        have pl3 := hG3.lt
        have hG4 := hG3.setP 0
        have hS4 : Hid (SrcO (W3.setCell ⟨N + 4, 0, none⟩ (.slice (some ⟨N + 3, 0, none⟩) 0 16)) N (some ⟨b, off, none⟩) m z) := hS3.far (by omega) _ _
        have hB4 : Hid (Below N w (W3.setCell ⟨N + 4, 0, none⟩ (.slice (some ⟨N + 3, 0, none⟩) 0 16))) := hB3.setCell (Nat.le_add_right _ _) _
        have hR4 : Hid (KpR (N + 2) (N + 4) w (W3.setCell ⟨N + 4, 0, none⟩ (.slice (some ⟨N + 3, 0, none⟩) 0 16))) := hR3.set (by omega) _ _
        have hT4 : Hid (Stt (W3.setCell ⟨N + 4, 0, none⟩ (.slice (some ⟨N + 3, 0, none⟩) 0 16)) N r s R Z (k + (i + 1))) := ⟨x2, f', by rw [hn1.out]; exact hG4, by rw [hq1.out]; exact hX2, hf2.out, fun j hj => by rw [hn1.out] at hj; omega⟩
        clear hG4 hG3 hS3 hB3 hS1 hB1 hX2 hR3 hR1
        go_upto_region 7 with (fail)
        clear pc3 pf3 pl3
        generalize W3.setCell ⟨N + 4, 0, none⟩ (.slice (some ⟨N + 3, 0, none⟩) 0 16) = W4 at *
        go_wp2
        go_roundw
        case rel => exact ⟨i + 1, by omega, by go_num, hT4, hS4, hB4, hR4⟩
        case measure => (simp only [intOf, Int.toNat_natCast]; omega)
      · have g16 : ¬ (n' : Int) = 16 := by omega
        have hq1 : Hid ((k + (i + 1)) / 16 = q) := by show _ = _; have := hn.out; have := hq.out; have := hn'.out; omega
        have hn1 : Hid ((k + (i + 1)) % 16 = n') := by show _ = _; have := hn.out; have := hq.out; have := hn'.out; omega
        have hT4 : Hid (Stt W1 N r s R Z (k + (i + 1))) := ⟨x, f', by rw [hn1.out]; exact hG1, by rw [hq1.out]; exact hX, hf2.out, fun j hj => by rw [hn1.out] at hj; rw [hq1.out]; exact hfZ2.out j hj⟩
        clear hG1 hX
        go_upto_region 7 with (fail)
        go_wp2
        go_roundw
        case rel => exact ⟨i + 1, by omega, by go_num, hT4, hS1, hB1, hR1⟩
        case measure => (simp only [intOf, Int.toNat_natCast]; omega)
    · obtain rfl : i = m := by omega
      go_wp2
      go_end0
      exact ⟨rfl, hT.out, hB.out, hKr.out⟩
end Go.Proofs.YtdaonbfdcpkipaaDoor

namespace Go.Proofs.YtdaonbfdcpkipaaDoor
open Go.RowKit Go.Proofs
set_option linter.unusedVariables false
set_option linter.unusedSimpArgs false
attribute [local go_sem ↓] Go.wp_at_zero Go.wp_at_succ

/-- Byte number i of the words ns. -/
def lowBy (ns : Nat → Nat) (i : Nat) : Nat := ns (i / 4) / 256 ^ (i % 4) % 256
theorem lowBy_lt (ns : Nat → Nat) (i : Nat) : lowBy ns i < 256 := Nat.mod_lt _ (by decide)
theorem lowBy_at (ns : Nat → Nat) (i j : Nat) (hj : j < 4) : lowBy ns (4 * i + j) = ns i / 256 ^ j % 256 := by
  unfold lowBy
  rw [show (4 * i + j) / 4 = i by omega, show (4 * i + j) % 4 = j by omega]

set_option maxHeartbeats 1000000 in
theorem lowBytesW (b k cap : Nat) (ns : Nat → Nat) (hns : Ob.Words32 ns) (w : World) (hk : k ≤ 1000000) (hc : Rd w .u32 b k ns) :
    Calls Tryd.prog 34 #[.slice (some ⟨b, 0, none⟩) k cap] w fun e w' => e = .returned (.slice (some ⟨w.heap.size, 0, none⟩) (4 * k) (4 * k)) ∧ w'.ownsRow w.heap.size 5 1 (.slice (some ⟨w.heap.size, 0, none⟩) (4 * k) (4 * k)) (4 * k) (vals (lowBy ns) (4 * k)) ∧ Below w.heap.size w w' := by
  obtain ⟨i0, hi, hz1, hz2, hz0⟩ := byteInfo
  have hm : 4 * k ≤ maxLen := by unfold maxLen; omega
  have hc' : Hid (Rd w .u32 b k ns) := hc
  have hn' : Hid (Ob.Words32 ns) := hns
  clear hc hns
  go_enter Tryd.func34, Tryd.ntmps34
  go_wp2_with (at_make; refine wpList_make_own _ rfl _ _ 22 rfl w.heap.size 5 i0 _ 1 Tryd.underlying22 hi hz0 hz1 _ _ _ (4 * k) rfl rfl (by omega) (by rw [hz2]; omega) hm (Nat.le_refl _) ?_; intro w0 hown0 hgrow0)
  have hB0 : Below w.heap.size w w0 := (Below.refl _ _).grown hgrow0 (Nat.le_refl _) (fun k h => by cases h)
  clear hgrow0
  go_loopw [3, 12] (fun sb si wr => ∃ i : Nat, i ≤ k ∧ si = .int .i64 i ∧ sb = .slice (some ⟨w.heap.size, 0, none⟩) (4 * i) (4 * k) ∧ wr.ownsRow w.heap.size 5 1 (.slice (some ⟨w.heap.size, 0, none⟩) (4 * i) (4 * k)) (4 * i) (vals (lowBy ns) (4 * i)) ∧ Below w.heap.size w wr) (fun _ si _ => k - (intOf si).toNat)
  case atStart => exact ⟨0, by omega, rfl, rfl, hown0, hB0⟩
  case round =>
    obtain ⟨i, hik, rfl, rfl, hown, hB⟩ := hrel
    clear hown0 hB0
    by_cases hlt : i < k
    · have hci := (hc'.out.below hB hc'.out.lt).c i hlt
      have hni := hn'.out i
      have e0 : Hid (lowBy ns (4 * i) = ns i % 256) := by have := lowBy_at ns i 0 (by decide); rw [Nat.add_zero, Nat.pow_zero, Nat.div_one] at this; exact this
      have e1 : Hid (lowBy ns (4 * i + 1) = ns i / 256 % 256) := lowBy_at ns i 1 (by decide)
      have e2 : Hid (lowBy ns (4 * i + 2) = ns i / 65536 % 256) := lowBy_at ns i 2 (by decide)
      have e3 : Hid (lowBy ns (4 * i + 3) = ns i / 16777216 % 256) := lowBy_at ns i 3 (by decide)
      obtain ⟨n, hn⟩ : ∃ n, Hid (ns i = n) := ⟨_, rfl⟩
      rw [hn.out] at hci hni e0 e1 e2 e3
      obtain ⟨b0, f0, g0⟩ : ∃ x : Nat, Hid (n % 256 = x) ∧ IntKind.u8.wrap (n : Int) = (x : Int) := ⟨_, rfl, by rw [IntKind.wrap_u8]; omega⟩
      obtain ⟨b1, f1, g1⟩ : ∃ x : Nat, Hid (n / 256 % 256 = x) ∧ IntKind.u8.wrap ((n : Int) / 256) = (x : Int) := ⟨_, rfl, by rw [IntKind.wrap_u8]; omega⟩
      obtain ⟨b2, f2, g2⟩ : ∃ x : Nat, Hid (n / 65536 % 256 = x) ∧ IntKind.u8.wrap ((n : Int) / 65536) = (x : Int) := ⟨_, rfl, by rw [IntKind.wrap_u8]; omega⟩
      obtain ⟨b3, f3, g3⟩ : ∃ x : Nat, Hid (n / 16777216 % 256 = x) ∧ IntKind.u8.wrap ((n : Int) / 16777216) = (x : Int) := ⟨_, rfl, by rw [IntKind.wrap_u8]; omega⟩
      rw [f0.out] at e0
      rw [f1.out] at e1
      rw [f2.out] at e2
      rw [f3.out] at e3
      have hown2 := hown.alloc (.cells #[.int .u8 (b0 : Nat), .int .u8 (b1 : Nat), .int .u8 (b2 : Nat), .int .u8 (b3 : Nat)] 5)
      have hroom : 4 * i + 4 ≤ 4 * k := by omega
      have i0' : (i : Int) < (k : Int) := by omega
      have i1' : (0 : Int) ≤ (i : Int) := by omega
      have hnews : ∀ (j : Nat) (u : Value), [Value.int .u8 (b0 : Nat), .int .u8 (b1 : Nat), .int .u8 (b2 : Nat), .int .u8 (b3 : Nat)][j]? = some u → (wr.alloc (.cells #[.int .u8 (b0 : Nat), .int .u8 (b1 : Nat), .int .u8 (b2 : Nat), .int .u8 (b3 : Nat)] 5)).cell? ((⟨wr.heap.size, 0, none⟩ : Addr).add j) = some u := fun j u h => by
        rw [Addr.add_mid, Nat.zero_add, World.cell?_alloc_new, List.getElem?_toArray]
        exact h
      have hv : Hid (vals (lowBy ns) (4 * i) ++ [.int .u8 (b0 : Nat), .int .u8 (b1 : Nat), .int .u8 (b2 : Nat), .int .u8 (b3 : Nat)] = vals (lowBy ns) (4 * (i + 1))) := by
        show _ = _
        rw [show 4 * (i + 1) = 4 * i + 1 + 1 + 1 + 1 by omega, vals_succ, vals_succ, vals_succ, vals_succ, e0.out, e1.out, show 4 * i + 1 + 1 = 4 * i + 2 by omega, e2.out, show 4 * i + 2 + 1 = 4 * i + 3 by omega, e3.out]
        simp
      go_wp2_with (at_builtin; refine wpList_append_own_spare _ rfl _ _ 22 rfl w.heap.size 5 i0 1 Tryd.underlying22 hi hz1 w.heap.size (4 * i) (4 * k) _ rfl hown2 ⟨wr.heap.size, 0, none⟩ 4 4 _ rfl rfl hnews (by simp [Value.oneCell']) hroom ?_; intro w1 hown3 hgrow1)
      rw [hv.out] at hown3
      have hB2 : Below w.heap.size w w1 := (hB.alloc hB.size _).grown hgrow1 (by have := hB.size; simp only [World.size_alloc]; omega) (fun k h => by cases h; exact Nat.le_refl _)
      go_roundw
      case rel => exact ⟨i + 1, by omega, by go_num, rfl, hown3, hB2⟩
      case measure => simp [intOf]; omega
    · obtain rfl : i = k := by omega
      go_wp2
      go_ret
      exact ⟨rfl, hown, hB⟩
end Go.Proofs.YtdaonbfdcpkipaaDoor

namespace Go.Proofs.YtdaonbfdcpkipaaDoor
open Go.RowKit Go.Proofs
set_option linter.unusedVariables false
set_option linter.unusedSimpArgs false
attribute [local go_sem ↓] Go.wp_at_zero Go.wp_at_succ

def w4 (a b c d : Nat) (i : Nat) : Nat := if i = 0 then a else if i = 1 then b else if i = 2 then c else if i = 3 then d else 0
theorem w4_words {a b c d : Nat} (ha : a < 4294967296) (hb : b < 4294967296) (hc : c < 4294967296) (hd : d < 4294967296) : Ob.Words32 (w4 a b c d) := fun i => by
  unfold w4
  split
  · exact ha
  · split
    · exact hb
    · split
      · exact hc
      · split
        · exact hd
        · decide
theorem lowBy_word (ns : Nat → Nat) (hn : Ob.Words32 ns) (i : Nat) : Ob.valD (fun j => lowBy ns (4 * i + j)) 4 = ns i := by
  have h := hn i
  have e : ∀ j, j < 4 → lowBy ns (4 * i + j) = ns i / 256 ^ j % 256 := lowBy_at ns i
  simp only [Ob.valD]
  rw [e 0 (by decide), e 1 (by decide), e 2 (by decide), e 3 (by decide)]
  simp only [Nat.pow_zero, Nat.div_one, Nat.pow_one, Nat.reducePow]
  omega
theorem lowBy_four (ns : Nat → Nat) (hn : Ob.Words32 ns) : Ob.valD (lowBy ns) 16 = ns 0 + ns 1 * 4294967296 + (ns 2 + ns 3 * 4294967296) * 18446744073709551616 := by
  have h0 := lowBy_word ns hn 0
  have h1 := lowBy_word ns hn 1
  have h2 := lowBy_word ns hn 2
  have h3 := lowBy_word ns hn 3
  have e1 := Ob.valD_split (lowBy ns) 4 12
  have e2 := Ob.valD_split (fun i => lowBy ns (4 + i)) 4 8
  have e3 := Ob.valD_split (fun i => lowBy ns (4 + (4 + i))) 4 4
  have g0 : Ob.valD (lowBy ns) 4 = ns 0 := by rw [← h0]; exact Ob.valD_congr fun i _ => by simp
  have g2 : Ob.valD (fun i => lowBy ns (4 + (4 + i))) 4 = ns 2 := by rw [← h2]; exact Ob.valD_congr fun i _ => by rw [← Nat.add_assoc]
  have g3 : Ob.valD (fun i => lowBy ns (4 + (4 + (4 + i)))) 4 = ns 3 := by rw [← h3]; exact Ob.valD_congr fun i _ => by rw [← Nat.add_assoc, ← Nat.add_assoc]
  rw [show (16 : Nat) = 4 + 12 from rfl, e1, show (12 : Nat) = 4 + 8 from rfl, e2, show (8 : Nat) = 4 + 4 from rfl, e3, g0, g2, g3, h1]
  simp only [Nat.reducePow]
  omega

set_option maxHeartbeats 1000000 in
theorem lowBytesC_core (x y : Nat) (hx : x < 18446744073709551616) (hy : y < 18446744073709551616) (w : World) :
    Calls Tryd.prog 42 #[.int .u64 (x : Nat), .int .u64 (y : Nat)] w fun e w' => ∃ g d, e = .returned (.slice (some ⟨g, 0, none⟩) 16 16) ∧ w.heap.size < g ∧ w'.ownsRow g 5 1 (.slice (some ⟨g, 0, none⟩) 16 16) 16 (vals d 16) ∧ (∀ i, d i < 256) ∧ Ob.valD d 16 = x + y * 18446744073709551616 ∧ Below w.heap.size w w' := by
  obtain ⟨a, ha, na⟩ : ∃ a : Nat, Hid (x % 4294967296 = a) ∧ IntKind.u32.wrap (x : Int) = (a : Int) := ⟨x % 4294967296, rfl, by rw [IntKind.wrap_u32]; omega⟩
  obtain ⟨b', hb', nb'⟩ : ∃ a : Nat, Hid (x / 4294967296 = a) ∧ (x : Int) / 4294967296 = (a : Int) := ⟨x / 4294967296, rfl, by omega⟩
  obtain ⟨c, hc, nc⟩ : ∃ a : Nat, Hid (y % 4294967296 = a) ∧ IntKind.u32.wrap (y : Int) = (a : Int) := ⟨y % 4294967296, rfl, by rw [IntKind.wrap_u32]; omega⟩
  obtain ⟨d', hd', nd'⟩ : ∃ a : Nat, Hid (y / 4294967296 = a) ∧ (y : Int) / 4294967296 = (a : Int) := ⟨y / 4294967296, rfl, by omega⟩
  have nb : IntKind.u32.wrap (b' : Int) = (b' : Int) := by rw [IntKind.wrap_u32]; have := hb'.out; omega
  have nd : IntKind.u32.wrap (d' : Int) = (d' : Int) := by rw [IntKind.wrap_u32]; have := hd'.out; omega
  have hw : Ob.Words32 (w4 a b' c d') := w4_words (by have := ha.out; omega) (by have := hb'.out; omega) (by have := hc.out; omega) (by have := hd'.out; omega)
  have hval : Hid (Ob.valD (lowBy (w4 a b' c d')) 16 = x + y * 18446744073709551616) := by
    show _ = _
    rw [lowBy_four _ hw]
    show a + b' * 4294967296 + (c + d' * 4294967296) * 18446744073709551616 = _
    have := ha.out
    have := hb'.out
    have := hc.out
    have := hd'.out
    omega
  have tn : Arr (w.alloc (.cells (arrL .u32 (w4 a b' c d') 4).toArray 23)) .u32 w.heap.size 4 (w4 a b' c d') := Arr.new rfl
  have c1 := lowBytesW w.heap.size 4 4 (w4 a b' c d') hw _ (by decide) tn.rd
  have hlit : Hid ((arrL .u32 (w4 a b' c d') 4).toArray = #[.int .u32 (a : Nat), .int .u32 (b' : Nat), .int .u32 (c : Nat), .int .u32 (d' : Nat)]) := rfl
  rw [hlit.out] at c1
  have hBa : Below w.heap.size w (w.alloc (.cells #[.int .u32 (a : Nat), .int .u32 (b' : Nat), .int .u32 (c : Nat), .int .u32 (d' : Nat)] 23)) := (Below.refl _ _).alloc (Nat.le_refl _) _
  clear tn ha hb' hc hd' hw hx hy
  have hdd : Hid (∀ i, lowBy (w4 a b' c d') i < 256) := lowBy_lt _
  generalize lowBy (w4 a b' c d') = dd at *
  go_enter Tryd.func42, Tryd.ntmps42
  go_wp2_with (go_at_call 34; with_reducible refine c1.mono ?_; rintro e W1 ⟨rfl, o1, b1⟩)
  simp only [World.size_alloc] at o1 b1
  go_ret
  exact ⟨_, dd, rfl, by omega, o1, hdd.out, hval.out, below_via b1 hBa (by omega)⟩
end Go.Proofs.YtdaonbfdcpkipaaDoor

namespace Ob
set_option linter.unusedVariables false
set_option linter.unusedSimpArgs false
/-- The sum behind all k bytes. -/
def finV (R : Nat) (Z : Nat → Nat) (k : Nat) : Nat := if 0 < k % 16 then (accV R Z (k / 16) + (valD (fun i => Z (16 * (k / 16) + i)) (k % 16) + 256 ^ (k % 16))) * R % PP else accV R Z (k / 16)
theorem sq_num : (18446744073709551616 : Nat) ^ 2 = 340282366920938463463374607431768211456 := by decide
theorem sum_two (x y : Nat → Nat) : valB (sumW x y) 2 + carW x y 2 * 340282366920938463463374607431768211456 = valB x 2 + valB y 2 := by
  have h := sum_val x y 2
  rw [sq_num] at h
  exact h
theorem low_two (f : Nat → Nat) (h : ∀ i, f i < 18446744073709551616) : valB f 2 < 340282366920938463463374607431768211456 := by
  have := h 0
  have := h 1
  rw [valB2]
  omega
theorem mod_swap (A S V c T M : Nat) (h : T + c * M = A + S) (h1 : A % M = V % M) (hT : T < M) : T = (V + S) % M := by
  have e : (V + S) % M = (A + S) % M := by rw [Nat.add_mod, ← h1, ← Nat.add_mod]
  rw [e, ← h, Nat.add_mul_mod_self_right, Nat.mod_eq_of_lt hT]
theorem top_none (s : Nat → Nat) (h2 : s 2 = 0) : valB s 3 = valB s 2 := by
  have h3 := valB3 s
  have h4 := valB2 s
  rw [h2, Nat.zero_mul, Nat.add_zero] at h3
  rw [h3, h4]
/-- The mark's lowest 128 bits. -/
theorem told_val {x s : Nat → Nat} {V : Nat} (hx : SumOk x V) (h2 : s 2 = 0) : sumW (leastW x) s 0 + sumW (leastW x) s 1 * 18446744073709551616 = (V + valB s 3) % 340282366920938463463374607431768211456 := by
  have h1 := least_val hx.1 hx.2.1
  rw [hx.2.2] at h1
  have e := valB2 (sumW (leastW x) s)
  rw [top_none s h2, ← e]
  exact mod_swap _ _ _ _ _ _ (sum_two (leastW x) s) h1 (low_two _ (sumW_lt _ _))
theorem accV_lt (R : Nat) (Z : Nat → Nat) (q : Nat) : accV R Z q < PP := by
  cases q with
  | zero => show 0 < PP; rw [PP_num]; decide
  | succ q => exact Nat.mod_lt _ (by rw [PP_num]; decide)
theorem finV_lt (R : Nat) (Z : Nat → Nat) (k : Nat) : finV R Z k < PP := by
  unfold finV
  split
  · exact Nat.mod_lt _ (by rw [PP_num]; decide)
  · exact accV_lt _ _ _
end Ob
namespace Go.Proofs.YtdaonbfdcpkipaaDoor
open Go.RowKit Go.Proofs
set_option linter.unusedVariables false
set_option linter.unusedSimpArgs false
attribute [local go_sem ↓] Go.wp_at_zero Go.wp_at_succ

set_option maxHeartbeats 4000000 in
theorem tell_core (N R k : Nat) (r s Z : Nat → Nat) (hr : Ob.ROk r R) (hs : ∀ i, s i < 18446744073709551616) (hs2 : s 2 = 0) (w : World) (hT : Stt w N r s R Z k) :
    Calls Tryd.prog 39 #[.pointer (some ⟨N + 2, 0, none⟩), .pointer (some ⟨N + 4, 0, none⟩), .pointer (some ⟨N, 0, none⟩), .pointer (some ⟨N + 1, 0, none⟩)] w fun e w' => ∃ g d, e = .returned (.slice (some ⟨g, 0, none⟩) 16 16) ∧ w.heap.size ≤ g ∧ w'.ownsRow g 5 1 (.slice (some ⟨g, 0, none⟩) 16 16) 16 (vals d 16) ∧ (∀ i, d i < 256) ∧ Ob.valD d 16 = (Ob.finV R Z k + Ob.valB s 3) % 340282366920938463463374607431768211456 ∧ Below w.heap.size w w' := by
  obtain ⟨x, f, hG, hX, hf, hfZ⟩ := hT
  have hfin : Hid (Ob.finV R Z k = if 0 < k % 16 then (Ob.accV R Z (k / 16) + (Ob.valD f (k % 16) + 256 ^ (k % 16))) * R % Ob.PP else Ob.accV R Z (k / 16)) := by
    show _ = _
    unfold Ob.finV
    rw [Ob.valD_congr (f := f) (g := fun i => Z (16 * (k / 16) + i)) hfZ]
  have hVl : Hid (Ob.finV R Z k < Ob.PP) := Ob.finV_lt R Z k
  obtain ⟨V, hV⟩ : ∃ V, Hid (Ob.finV R Z k = V) := ⟨_, rfl⟩
  rw [hV.out] at hfin hVl ⊢
  have hn16 : k % 16 < 16 := Nat.mod_lt _ (by decide)
  obtain ⟨n, hn⟩ : ∃ n, Hid (k % 16 = n) := ⟨_, rfl⟩
  obtain ⟨U, hU⟩ : ∃ n, Hid (Ob.accV R Z (k / 16) = n) := ⟨_, rfl⟩
  rw [hn.out] at hG hfin hn16
  rw [hU.out] at hX hfin
  have hr' : Hid (Ob.ROk r R) := hr
  have hX' : Hid (Ob.SumOk x U) := hX
  have hs' : Hid (∀ i, s i < 18446744073709551616) := hs
  have hs2' : Hid (s 2 = 0) := hs2
  have hf' : Hid (∀ i, f i < 256) := hf
  have hl := arrL_length .u64 x 3
  have tQ := hG.tQ
  have pl := hG.lt
  have hG' : Hid (Smg w N r s x f n) := hG
  clear hG hX hr hs hs2 hf hfZ hV hn hU
  go_enter Tryd.func39, Tryd.ntmps39
  go_upto_region 2 with (first | ((with_reducible refine wpList_loadLit tQ ?_ Tryd.underlying63 ?_ ?_ ?_); (focus rfl); (focus rfl); (focus kernel_rfl); simp only [Act.put, List.setIfInBounds_toArray, List.set_cons_zero, List.set_cons_succ]) | ((with_reducible refine wpList_storeLit (x) Arr.new3z ?_ ?_ ?_ ?_); (focus rfl); (focus rfl); (focus kernel_rfl); intro W1 hW1_ tW1_ zW1_; try simp only [Act.put, List.setIfInBounds_toArray, List.set_cons_zero, List.set_cons_succ]))
  have hB1 : Below w.heap.size w W1 := by rw [hW1_.out]; exact below_setCells ((Below.refl _ _).alloc (Nat.le_refl _) _) (Nat.le_refl _) _ _
  have tA1 := tW1_.out
  obtain ⟨M, hM⟩ : ∃ M, Hid (w.heap.size = M) := ⟨_, rfl⟩
  have hG1 : Smg W1 N r s x f n := hG'.out.on hB1
  rw [hM.out] at hB1 tA1 pl ⊢
  have hA1 : Hid (Arr W1 .u64 M 3 x) := tA1
  have lM := tA1.lt
  clear hW1_ tW1_ zW1_ tQ tA1
  have pc1 := hG1.pc
  have pf1 := hG1.pf
  have pl1 := hG1.lt
  go_upto_if 10 with (fail)
  go_cut [5] from 7 to 23 (fun s5 w6 => ∃ x', s5 = .pointer (some ⟨M, 0, none⟩) ∧ Hid (Smg w6 N r s x f n) ∧ Hid (Arr w6 .u64 M 3 x') ∧ Hid (Ob.SumOk x' V) ∧ Below M w w6)
  case first =>
    by_cases h0 : 0 < n
    · have h0' : (0 : Int) < (n : Int) := by omega
      rw [if_pos h0] at hfin
      have tQ := hG1.tQ
      have tR := hG1.tR
      have c5 := stepped_core x r U R n 16 hX'.out hr'.out (by omega) f hf'.out (some ⟨N + 3, 0, none⟩) W1 (Or.inr ⟨N + 3, 0, rfl, hG1.tG.lt, fun j hj => by rw [Nat.zero_add]; exact hG1.tG.c j (by omega)⟩)
      unfold arrV at c5
      rw [← hfin.out] at c5
      go_wp2_with (first | ((with_reducible refine wpList_loadLit tQ ?_ Tryd.underlying63 ?_ ?_ ?_); (focus rfl); (focus rfl); (focus kernel_rfl); simp only [Act.put, List.setIfInBounds_toArray, List.set_cons_zero, List.set_cons_succ]) | ((with_reducible refine wpList_loadLit tR ?_ Tryd.underlying61 ?_ ?_ ?_); (focus rfl); (focus rfl); (focus kernel_rfl); simp only [Act.put, List.setIfInBounds_toArray, List.set_cons_zero, List.set_cons_succ]) | (go_at_call 38; with_reducible refine c5.mono ?_; rintro e W2 ⟨x2, rfl, hX2, b2⟩; have hA2 := hA1.out.below b2 lM) | ((with_reducible refine wpList_storeLit (x2) hA2 ?_ ?_ ?_ ?_); (focus rfl); (focus rfl); (focus kernel_rfl); intro W3 hW3_ tW3_ zW3_; try simp only [Act.put, List.setIfInBounds_toArray, List.set_cons_zero, List.set_cons_succ]))
      have hG3 : Smg W3 N r s x f n := (hG1.on b2).below (B := M) (by rw [hW3_.out]; exact below_setCells (Below.refl _ _) (Nat.le_refl _) _ _) pl
      have hB3 : Below M w W3 := by rw [hW3_.out]; exact below_setCells (below_via b2 hB1 (by omega)) (Nat.le_refl _) _ _
      go_meet
      case rel => exact ⟨x2, rfl, hG3, tW3_, hX2, hB3⟩
    · have h0' : ¬ (0 : Int) < (n : Int) := by omega
      rw [if_neg h0] at hfin
      go_wp2
      go_meet
      case rel => exact ⟨x, rfl, hG1, hA1, by rw [hfin.out]; exact hX'.out, hB1⟩
  case rest =>
    clear hG1 hA1 hX' hfin hB1 pc1 pf1 pl1 lM
    obtain ⟨x', rfl, hG6, hA6, hX6, hB6⟩ := hcut
    have c1 := least_core x' hX6.out.1
    have c3 := plus_core (Ob.leastW x') s (Ob.leastW_lt hX6.out.1) hs'.out
    have htold := Ob.told_val hX6.out hs2'.out
    have l0 := Ob.sumW_lt (Ob.leastW x') s 0
    have l1 := Ob.sumW_lt (Ob.leastW x') s 1
    unfold arrV at c1 c3
    obtain ⟨y, hy⟩ : ∃ y, Hid (Ob.leastW x' = y) := ⟨_, rfl⟩
    rw [hy.out] at c1 c3 htold l0 l1
    obtain ⟨t, ht⟩ : ∃ t, Hid (Ob.sumW y s = t) := ⟨_, rfl⟩
    rw [ht.out] at c3 htold l0 l1
    have c7 := lowBytesC_core (t 0) (t 1) l0 l1
    rw [htold] at c7
    obtain ⟨t0, ht0⟩ : ∃ y, Hid (t 0 = y) := ⟨_, rfl⟩
    obtain ⟨t1, ht1⟩ : ∃ y, Hid (t 1 = y) := ⟨_, rfl⟩
    rw [ht0.out, ht1.out] at c7
    have hkeep : Hid (∀ W, Below wc.heap.size wc W → Arr W .u64 M 3 x' ∧ Arr W .u64 (N + 1) 3 s) := fun W h => ⟨hA6.out.below h hA6.out.lt, (hG6.out.on h).tS⟩
    have hB6' : Hid (Below M w wc) := hB6
    have lM6 := hA6.out.lt
    clear l0 l1 hy ht hX6 hB6 hA6 hG6 hVl
    clear htold
    go_upto_region 4 with (fail)
    refine wp_region_noPanic ?_
    refine region_lastly (S := (fun w' => Arr w' .u64 M 3 x' ∧ Arr w' .u64 (N + 1) 3 s)) [5] (by kernel_rfl) (by ((try dsimp only); (exact hkeep.out _ (by (repeat' (first | (with_reducible first | exact Below.refl _ _ | assumption | refine Below.alloc ?_ ?_ _ | refine Below.drew ?_ | refine below_drewN ?_ _ | refine Below.setCell ?_ ?_ _ | refine below_via (by with_reducible assumption) ?_ ?_) | omega | (simp only [szs]; omega) | (simp only [szs] at *; omega))))))) (fun hHeld => ?_)
    refine anyZ_take (i := 0) (oi := ?oi_1) (v := .agg (arrL .u64 x' 3).toArray) ?hi_1 ?hz_1 ?hs_1 ?hf_1 ?hr_1 ?hQ_1 ?hy_1 ?hS_1 ?hrest_1
    case hi_1 => (simp only [List.getElem?_toArray, List.getElem?_cons_succ, List.getElem?_cons_zero]; exact rfl)
    case hz_1 => kernel_rfl
    case hs_1 => kernel_rfl
    case hf_1 => kernel_rfl
    case hr_1 => kernel_rfl
    case hQ_1 => exact fun _ _ _ h => h
    case hS_1 => assumption
    case hy_1 => (refine yieldsArr (k := .u64) (n := 3) (v := x') ?_ 63 (.tmp 5) ?_ M ?_ ?_ Tryd.underlying63 ?_ ?_; (focus rfl); (focus rfl); (focus rfl); (focus exact fun w h => h.1); (focus rfl); kernel_rfl)
    try simp only [Act.put, List.setIfInBounds_toArray, List.set_cons_zero, List.set_cons_succ]
    refine anyZ_take (i := 2) (oi := ?oi_2) (v := .agg (arrL .u64 s 3).toArray) ?hi_2 ?hz_2 ?hs_2 ?hf_2 ?hr_2 ?hQ_2 ?hy_2 ?hS_2 ?hrest_2
    case hi_2 => (simp only [List.getElem?_toArray, List.getElem?_cons_succ, List.getElem?_cons_zero]; exact rfl)
    case hz_2 => kernel_rfl
    case hs_2 => kernel_rfl
    case hf_2 => kernel_rfl
    case hr_2 => kernel_rfl
    case hQ_2 => exact fun _ _ _ h => h
    case hS_2 => assumption
    case hy_2 => (refine yieldsArr (k := .u64) (n := 3) (v := s) ?_ 63 (.tmp 3) ?_ (N + 1) ?_ ?_ Tryd.underlying63 ?_ ?_; (focus rfl); (focus rfl); (focus rfl); (focus exact fun w h => h.2); (focus rfl); kernel_rfl)
    try simp only [Act.put, List.setIfInBounds_toArray, List.set_cons_zero, List.set_cons_succ]
    refine anyZ_ready (rs := [1, 4]) (by kernel_rfl) (by simp) ?_
    refine (AllZ.cons (o := ?o_4) ?ho_4 (fun K hK => ?st_4) (AllZ.cons (o := ?o_3) ?ho_3 (fun K hK => ?st_3) AllZ.nil))
    case ho_4 => (simp only [List.getElem?_toArray, List.getElem?_cons_succ, List.getElem?_cons_zero]; exact rfl)
    case ho_3 => (simp only [List.getElem?_toArray, List.getElem?_cons_succ, List.getElem?_cons_zero]; exact rfl)
    case st_4 =>
      go_simp
      (first | (go_at_call 41; first | (with_reducible refine (c1 _).mono ?_; rintro e w_c1 ⟨rfl, b_c1⟩; have z_c1 := b_c1.size; (try simp only [szs] at z_c1))))
      refine hK.out _ _ (by ((try dsimp only); (exact hkeep.out _ (by (repeat' (first | (with_reducible first | exact Below.refl _ _ | assumption | refine Below.alloc ?_ ?_ _ | refine Below.drew ?_ | refine below_drewN ?_ _ | refine Below.setCell ?_ ?_ _ | refine below_via (by with_reducible assumption) ?_ ?_) | omega | (simp only [szs]; omega) | (simp only [szs] at *; omega))))))) (fun hHeld => ?_)
      clear hK K
      try simp only [Act.put, List.setIfInBounds_toArray, List.set_cons_zero, List.set_cons_succ]
      refine anyZ_ready (rs := [3, 4]) (by kernel_rfl) (by simp) ?_
      refine (AllZ.cons (o := ?o_6) ?ho_6 (fun K hK => ?st_6) (AllZ.cons (o := ?o_5) ?ho_5 (fun K hK => ?st_5) AllZ.nil))
      case ho_6 => (simp only [List.getElem?_toArray, List.getElem?_cons_succ, List.getElem?_cons_zero]; exact rfl)
      case ho_5 => (simp only [List.getElem?_toArray, List.getElem?_cons_succ, List.getElem?_cons_zero]; exact rfl)
      case st_6 =>
        go_simp
        (first | (go_at_call 40; first | (with_reducible refine (c3 _).mono ?_; rintro e w_c3 ⟨rfl, b_c3⟩; have z_c3 := b_c3.size; (try simp only [szs] at z_c3))))
        refine hK.out _ _ (by ((try dsimp only); (exact hkeep.out _ (by (repeat' (first | (with_reducible first | exact Below.refl _ _ | assumption | refine Below.alloc ?_ ?_ _ | refine Below.drew ?_ | refine below_drewN ?_ _ | refine Below.setCell ?_ ?_ _ | refine below_via (by with_reducible assumption) ?_ ?_) | omega | (simp only [szs]; omega) | (simp only [szs] at *; omega))))))) (fun hHeld => ?_)
        clear hK K
        try simp only [Act.put, List.setIfInBounds_toArray, List.set_cons_zero, List.set_cons_succ]
        refine anyZ_ready (rs := [4]) (by kernel_rfl) (by simp) ?_
        refine (AllZ.cons (o := ?o_7) ?ho_7 (fun K hK => ?st_7) AllZ.nil)
        case ho_7 => (simp only [List.getElem?_toArray, List.getElem?_cons_succ, List.getElem?_cons_zero]; exact rfl)
        case st_7 =>
          go_simp
          refine hK.out _ _ (by ((try dsimp only); (exact hkeep.out _ (by (repeat' (first | (with_reducible first | exact Below.refl _ _ | assumption | refine Below.alloc ?_ ?_ _ | refine Below.drew ?_ | refine below_drewN ?_ _ | refine Below.setCell ?_ ?_ _ | refine below_via (by with_reducible assumption) ?_ ?_) | omega | (simp only [szs]; omega) | (simp only [szs] at *; omega))))))) (fun hHeld => ?_)
          clear hK K
          try simp only [Act.put, List.setIfInBounds_toArray, List.set_cons_zero, List.set_cons_succ]
          refine anyZ_ready (rs := [5]) (by kernel_rfl) (by simp) ?_
          refine (AllZ.last (o := ?o_8) ?ho_8 (by rfl) (fun K hK => ?st_8) AllZ.nil)
          case ho_8 => (simp only [List.getElem?_toArray, List.getElem?_cons_succ, List.getElem?_cons_zero]; exact rfl)
          case st_8 =>
            rw [if_pos (by rfl)]; refine wp_storeArr 63 _ _ rfl _ rfl t rfl (v := fun _ => 0) (by (repeat' (first | exact Arr.new3z | (with_reducible refine Arr.drew ?_) | (with_reducible refine Arr.via (by with_reducible assumption) ?_ ?_) | omega | (simp only [szs]; omega)))) (by kernel_rfl) ?_; intro W7 hWn t7 zWn
            refine hK.out _ _ ?_
            clear hK K
            try simp only [Act.put, List.setIfInBounds_toArray, List.set_cons_zero, List.set_cons_succ]
            refine anyZ_done (by kernel_rfl) ?_ _
            refine NoPanic.normal ?_
            have hB6 := hB6'.out
            have hB7 : Below M w W7 := by
              rw [hWn.out]
              refine below_setCells ?_ (by first | omega | (simp only [szs] at *; omega)) _ _
              (repeat' (first | (with_reducible first | exact Below.refl _ _ | assumption | refine Below.alloc ?_ ?_ _ | refine Below.drew ?_ | refine below_drewN ?_ _ | refine Below.setCell ?_ ?_ _ | refine below_via (by with_reducible assumption) ?_ ?_) | omega | (simp only [szs]; omega) | (simp only [szs] at *; omega)))
            have p0 := t7.out.c 0 (by decide)
            have p1 := t7.out.c 1 (by decide)
            rw [ht0.out] at p0
            rw [ht1.out] at p1
            have lM7 : M ≤ W7.heap.size := by have := hB7.size; have := hM.out; omega
            go_wp2_with (go_at_call 42; with_reducible refine (c7 _).mono ?_; rintro e W9 ⟨g9, d9, rfl, lg9, o9, hd9, hv9, b9⟩)
            go_ret
            exact ⟨g9, d9, rfl, by have := hM.out; omega, o9, hd9, hv9, by rw [hM.out]; exact below_via b9 hB7 lM7⟩
      case st_5 =>
        go_simp
        refine hK.out _ _ (by ((try dsimp only); (exact hkeep.out _ (by (repeat' (first | (with_reducible first | exact Below.refl _ _ | assumption | refine Below.alloc ?_ ?_ _ | refine Below.drew ?_ | refine below_drewN ?_ _ | refine Below.setCell ?_ ?_ _ | refine below_via (by with_reducible assumption) ?_ ?_) | omega | (simp only [szs]; omega) | (simp only [szs] at *; omega))))))) (fun hHeld => ?_)
        clear hK K
        try simp only [Act.put, List.setIfInBounds_toArray, List.set_cons_zero, List.set_cons_succ]
        refine anyZ_ready (rs := [3]) (by kernel_rfl) (by simp) ?_
        refine (AllZ.cons (o := ?o_9) ?ho_9 (fun K hK => ?st_9) AllZ.nil)
        case ho_9 => (simp only [List.getElem?_toArray, List.getElem?_cons_succ, List.getElem?_cons_zero]; exact rfl)
        case st_9 =>
          go_simp
          (first | (go_at_call 40; first | (with_reducible refine (c3 _).mono ?_; rintro e w_c3 ⟨rfl, b_c3⟩; have z_c3 := b_c3.size; (try simp only [szs] at z_c3))))
          refine hK.out _ _ (by ((try dsimp only); (exact hkeep.out _ (by (repeat' (first | (with_reducible first | exact Below.refl _ _ | assumption | refine Below.alloc ?_ ?_ _ | refine Below.drew ?_ | refine below_drewN ?_ _ | refine Below.setCell ?_ ?_ _ | refine below_via (by with_reducible assumption) ?_ ?_) | omega | (simp only [szs]; omega) | (simp only [szs] at *; omega))))))) (fun hHeld => ?_)
          clear hK K
          try simp only [Act.put, List.setIfInBounds_toArray, List.set_cons_zero, List.set_cons_succ]
          refine anyZ_ready (rs := [5]) (by kernel_rfl) (by simp) ?_
          refine (AllZ.last (o := ?o_10) ?ho_10 (by rfl) (fun K hK => ?st_10) AllZ.nil)
          case ho_10 => (simp only [List.getElem?_toArray, List.getElem?_cons_succ, List.getElem?_cons_zero]; exact rfl)
          case st_10 =>
            rw [if_pos (by rfl)]; refine wp_storeArr 63 _ _ rfl _ rfl t rfl (v := fun _ => 0) (by (repeat' (first | exact Arr.new3z | (with_reducible refine Arr.drew ?_) | (with_reducible refine Arr.via (by with_reducible assumption) ?_ ?_) | omega | (simp only [szs]; omega)))) (by kernel_rfl) ?_; intro W7 hWn t7 zWn
            refine hK.out _ _ ?_
            clear hK K
            try simp only [Act.put, List.setIfInBounds_toArray, List.set_cons_zero, List.set_cons_succ]
            refine anyZ_done (by kernel_rfl) ?_ _
            refine NoPanic.normal ?_
            have hB6 := hB6'.out
            have hB7 : Below M w W7 := by
              rw [hWn.out]
              refine below_setCells ?_ (by first | omega | (simp only [szs] at *; omega)) _ _
              (repeat' (first | (with_reducible first | exact Below.refl _ _ | assumption | refine Below.alloc ?_ ?_ _ | refine Below.drew ?_ | refine below_drewN ?_ _ | refine Below.setCell ?_ ?_ _ | refine below_via (by with_reducible assumption) ?_ ?_) | omega | (simp only [szs]; omega) | (simp only [szs] at *; omega)))
            have p0 := t7.out.c 0 (by decide)
            have p1 := t7.out.c 1 (by decide)
            rw [ht0.out] at p0
            rw [ht1.out] at p1
            have lM7 : M ≤ W7.heap.size := by have := hB7.size; have := hM.out; omega
            go_wp2_with (go_at_call 42; with_reducible refine (c7 _).mono ?_; rintro e W9 ⟨g9, d9, rfl, lg9, o9, hd9, hv9, b9⟩)
            go_ret
            exact ⟨g9, d9, rfl, by have := hM.out; omega, o9, hd9, hv9, by rw [hM.out]; exact below_via b9 hB7 lM7⟩
    case st_3 =>
      go_simp
      refine hK.out _ _ (by ((try dsimp only); (exact hkeep.out _ (by (repeat' (first | (with_reducible first | exact Below.refl _ _ | assumption | refine Below.alloc ?_ ?_ _ | refine Below.drew ?_ | refine below_drewN ?_ _ | refine Below.setCell ?_ ?_ _ | refine below_via (by with_reducible assumption) ?_ ?_) | omega | (simp only [szs]; omega) | (simp only [szs] at *; omega))))))) (fun hHeld => ?_)
      clear hK K
      try simp only [Act.put, List.setIfInBounds_toArray, List.set_cons_zero, List.set_cons_succ]
      refine anyZ_ready (rs := [1]) (by kernel_rfl) (by simp) ?_
      refine (AllZ.cons (o := ?o_11) ?ho_11 (fun K hK => ?st_11) AllZ.nil)
      case ho_11 => (simp only [List.getElem?_toArray, List.getElem?_cons_succ, List.getElem?_cons_zero]; exact rfl)
      case st_11 =>
        go_simp
        (first | (go_at_call 41; first | (with_reducible refine (c1 _).mono ?_; rintro e w_c1 ⟨rfl, b_c1⟩; have z_c1 := b_c1.size; (try simp only [szs] at z_c1))))
        refine hK.out _ _ (by ((try dsimp only); (exact hkeep.out _ (by (repeat' (first | (with_reducible first | exact Below.refl _ _ | assumption | refine Below.alloc ?_ ?_ _ | refine Below.drew ?_ | refine below_drewN ?_ _ | refine Below.setCell ?_ ?_ _ | refine below_via (by with_reducible assumption) ?_ ?_) | omega | (simp only [szs]; omega) | (simp only [szs] at *; omega))))))) (fun hHeld => ?_)
        clear hK K
        try simp only [Act.put, List.setIfInBounds_toArray, List.set_cons_zero, List.set_cons_succ]
        refine anyZ_ready (rs := [3]) (by kernel_rfl) (by simp) ?_
        refine (AllZ.cons (o := ?o_12) ?ho_12 (fun K hK => ?st_12) AllZ.nil)
        case ho_12 => (simp only [List.getElem?_toArray, List.getElem?_cons_succ, List.getElem?_cons_zero]; exact rfl)
        case st_12 =>
          go_simp
          (first | (go_at_call 40; first | (with_reducible refine (c3 _).mono ?_; rintro e w_c3 ⟨rfl, b_c3⟩; have z_c3 := b_c3.size; (try simp only [szs] at z_c3))))
          refine hK.out _ _ (by ((try dsimp only); (exact hkeep.out _ (by (repeat' (first | (with_reducible first | exact Below.refl _ _ | assumption | refine Below.alloc ?_ ?_ _ | refine Below.drew ?_ | refine below_drewN ?_ _ | refine Below.setCell ?_ ?_ _ | refine below_via (by with_reducible assumption) ?_ ?_) | omega | (simp only [szs]; omega) | (simp only [szs] at *; omega))))))) (fun hHeld => ?_)
          clear hK K
          try simp only [Act.put, List.setIfInBounds_toArray, List.set_cons_zero, List.set_cons_succ]
          refine anyZ_ready (rs := [5]) (by kernel_rfl) (by simp) ?_
          refine (AllZ.last (o := ?o_13) ?ho_13 (by rfl) (fun K hK => ?st_13) AllZ.nil)
          case ho_13 => (simp only [List.getElem?_toArray, List.getElem?_cons_succ, List.getElem?_cons_zero]; exact rfl)
          case st_13 =>
            rw [if_pos (by rfl)]; refine wp_storeArr 63 _ _ rfl _ rfl t rfl (v := fun _ => 0) (by (repeat' (first | exact Arr.new3z | (with_reducible refine Arr.drew ?_) | (with_reducible refine Arr.via (by with_reducible assumption) ?_ ?_) | omega | (simp only [szs]; omega)))) (by kernel_rfl) ?_; intro W7 hWn t7 zWn
            refine hK.out _ _ ?_
            clear hK K
            try simp only [Act.put, List.setIfInBounds_toArray, List.set_cons_zero, List.set_cons_succ]
            refine anyZ_done (by kernel_rfl) ?_ _
            refine NoPanic.normal ?_
            have hB6 := hB6'.out
            have hB7 : Below M w W7 := by
              rw [hWn.out]
              refine below_setCells ?_ (by first | omega | (simp only [szs] at *; omega)) _ _
              (repeat' (first | (with_reducible first | exact Below.refl _ _ | assumption | refine Below.alloc ?_ ?_ _ | refine Below.drew ?_ | refine below_drewN ?_ _ | refine Below.setCell ?_ ?_ _ | refine below_via (by with_reducible assumption) ?_ ?_) | omega | (simp only [szs]; omega) | (simp only [szs] at *; omega)))
            have p0 := t7.out.c 0 (by decide)
            have p1 := t7.out.c 1 (by decide)
            rw [ht0.out] at p0
            rw [ht1.out] at p1
            have lM7 : M ≤ W7.heap.size := by have := hB7.size; have := hM.out; omega
            go_wp2_with (go_at_call 42; with_reducible refine (c7 _).mono ?_; rintro e W9 ⟨g9, d9, rfl, lg9, o9, hd9, hv9, b9⟩)
            go_ret
            exact ⟨g9, d9, rfl, by have := hM.out; omega, o9, hd9, hv9, by rw [hM.out]; exact below_via b9 hB7 lM7⟩
end Go.Proofs.YtdaonbfdcpkipaaDoor

namespace Ob
def mask (f : Nat → Nat) (L i : Nat) : Nat := if i < L then f i else 0
end Ob
namespace Go.Proofs.YtdaonbfdcpkipaaDoor
open Go.RowKit Go.Proofs
set_option linter.unusedVariables false
set_option linter.unusedSimpArgs false
attribute [local go_sem ↓] Go.wp_at_zero Go.wp_at_succ

theorem intInfo : ∃ i, Tryd.prog.info? 3 = some i ∧ i.size = 1 ∧ i.bytes = 8 ∧ i.zero = some (.int .i64 0) := by
  have h : (Tryd.prog.info? 3).map (fun i => (i.size, i.bytes, i.zero)) = some (1, 8, some (.int .i64 0)) := by kernel_rfl
  cases hi : Tryd.prog.info? 3 with
  | none => rw [hi] at h; cases h
  | some i =>
    rw [hi] at h
    simp only [Option.map_some, Option.some.injEq, Prod.mk.injEq] at h
    exact ⟨i, rfl, h.1, h.2.1, h.2.2⟩
/-- make([]int, n). -/
theorem make_ints (n : Nat) (hn : n ≤ 1000) (w : World) : ∃ w', (Instr.makeSlice 49 (.int .i64 (n : Nat)) (.int .i64 (n : Nat))).run Tryd.prog w = .ok (.slice (some ⟨w.heap.size, 0, none⟩) n n) w' ∧ Arr w' .i64 w.heap.size n (fun _ => 0) ∧ Below w.heap.size w w' ∧ w'.heap.size = w.heap.size + 1 := by
  obtain ⟨i0, hi, hz1, hz2, hz0⟩ := intInfo
  have h := run_make (P := Tryd.prog) w 49 3 i0 _ Tryd.underlying49 hi hz0 .i64 .i64 (n : Nat) (n : Nat) (by omega) (by omega) (by rw [hz2]; omega) (by omega)
  rw [hz1] at h
  have e : madeCells (Value.int .i64 0).cells (Int.toNat (n : Nat) * 1) = (arrL .i64 (fun _ => 0) n).toArray := by
    rw [Int.toNat_natCast, Nat.mul_one]
    apply Array.ext'
    simp [madeCells, Value.cells, Nat.mod_one, arrL]
  rw [e] at h
  simp only [Int.toNat_natCast] at h
  exact ⟨_, h, Arr.new rfl, (Below.refl _ _).alloc (Nat.le_refl _) _, World.size_alloc _ _⟩

theorem mask_le {f : Nat → Nat} {L M : Nat} (h : ∀ i, i < L → f i ≤ M) (i : Nat) : Ob.mask f L i ≤ M := by
  unfold Ob.mask
  split
  · exact h i (by assumption)
  · exact Nat.zero_le _
def carI (f : Nat → Nat) (i j : Nat) : Nat := if j < i then Ob.carO f j else 0
theorem carI_zero (f : Nat → Nat) : carI f 0 = fun _ => 0 := by funext j; simp [carI]
theorem carI_succ (f : Nat → Nat) (i : Nat) : Ob.upd (carI f i) i (Ob.carO f i) = carI f (i + 1) := by
  funext j
  unfold Ob.upd carI
  by_cases h1 : j = i
  · subst h1; simp
  · by_cases h2 : j < i
    · simp [h1, h2, Nat.lt_succ_of_lt h2]
    · simp [h1, h2]; omega

set_option maxHeartbeats 2000000 in
theorem carried_core (b L c n : Nat) (hn : n ≤ 1000) (hL : L ≤ 1000) (f : Nat → Nat) (hf : ∀ i, i < L → f i ≤ 1152921504606846976) (w : World) (hR : Rd w .i64 b L f) :
    Calls Tryd.prog 26 #[.slice (some ⟨b, 0, none⟩) L c, .int .i64 (n : Nat)] w fun e w' => e = .returned (.slice (some ⟨w.heap.size, 0, none⟩) n n) ∧ Arr w' .i64 w.heap.size n (Ob.carO (Ob.mask f L)) ∧ Below w.heap.size w w' := by
  obtain ⟨W0, hmk, ta0, hB0, z0⟩ := make_ints n hn w
  have hR' : Hid (Rd w .i64 b L f) := hR
  have hf' : Hid (∀ i, i < L → f i ≤ 1152921504606846976) := hf
  have hM : Hid (∀ i, Ob.mask f L i ≤ 1152921504606846976) := mask_le hf
  clear hR hf
  obtain ⟨N, hN⟩ : ∃ N, Hid (w.heap.size = N) := ⟨_, rfl⟩
  rw [hN.out] at hmk ta0 hB0
  rw [hN.out]
  have ta0' : Hid (Arr W0 .i64 N n (carI (Ob.mask f L) 0)) := by rw [carI_zero]; exact ta0
  clear ta0
  go_enter Tryd.func26, Tryd.ntmps26
  go_wp2
  go_loopw [6, 7] (fun s6 s7 wr => ∃ (i r : Nat), i ≤ n ∧ Hid (Ob.carR (Ob.mask f L) i = r) ∧ s7 = .int .i64 (i : Nat) ∧ s6 = .int .i64 (r : Nat) ∧ Hid (Arr wr .i64 N n (carI (Ob.mask f L) i)) ∧ Below N w wr) (fun _ s7 _ => n - (intOf s7).toNat)
  case atStart => exact ⟨0, 0, by omega, rfl, rfl, rfl, ta0', hB0⟩
  case round =>
    clear ta0' hB0 hmk
    obtain ⟨i, r, hi, hr, rfl, rfl, ta, hB⟩ := hrel
    by_cases hlt : i < n
    · have i0 : (i : Int) < (n : Int) := by omega
      have i1 : (0 : Int) ≤ (i : Int) := by omega
      have hrM : r ≤ 1152921504606846976 := by rw [← hr.out]; exact Ob.carR_le hM.out i
      have q1 := ta.out.c i hlt
      have q2 := ta.out.f i hlt
      have hmi := hM.out i
      obtain ⟨s, hs⟩ : ∃ s, Hid (r + Ob.mask f L i = s) := ⟨_, rfl⟩
      have hsb : s ≤ 2305843009213693952 := by have := hs.out; omega
      obtain ⟨o, ho, eo⟩ : ∃ o : Nat, Hid (s % 256 = o) ∧ (s : Int) % 256 = (o : Int) := ⟨s % 256, rfl, by omega⟩
      obtain ⟨u, hu, eu⟩ : ∃ u : Nat, Hid (s / 256 = u) ∧ (s : Int) / 256 = (u : Int) := ⟨s / 256, rfl, by omega⟩
      have eo' : Int.tmod (s : Int) 256 = (o : Int) := by rw [Int.tmod_eq_emod_of_nonneg (by omega)]; exact eo
      have eu' : Int.tdiv (s : Int) 256 = (u : Int) := by rw [Int.tdiv_eq_ediv_of_nonneg (by omega)]; exact eu
      have hoE : Ob.carO (Ob.mask f L) i = o := by unfold Ob.carO; rw [hr.out, hs.out, ho.out]
      have huE : Hid (Ob.carR (Ob.mask f L) (i + 1) = u) := by show (Ob.carR (Ob.mask f L) i + Ob.mask f L i) / 256 = u; rw [hr.out, hs.out, hu.out]
      have q := ta.out.set (i := i) (z := o) hlt
      rw [← hoE, carI_succ, hoE] at q
      have hB1 : Below N w (wr.setCell ⟨N, i, none⟩ (.int .i64 (o : Nat))) := by (repeat' (first | (with_reducible first | exact Below.refl _ _ | assumption | refine Below.alloc ?_ ?_ _ | refine Below.drew ?_ | refine below_drewN ?_ _ | refine Below.setCell ?_ ?_ _ | refine below_via (by with_reducible assumption) ?_ ?_) | omega | (simp only [szs]; omega) | (simp only [szs] at *; omega)))
      have hub : u ≤ 9223372036854775807 := by have := hu.out; omega
      clear hoE
      by_cases hL1 : i < L
      · have i2 : (i : Int) < (L : Int) := by omega
        have q0 := (hR'.out.below (by rw [hN.out]; exact hB) hR'.out.lt).c i hL1
        have hmE : Ob.mask f L i = f i := if_pos hL1
        rw [hmE] at hs hmi
        obtain ⟨x, hx⟩ : ∃ x, Hid (f i = x) := ⟨_, rfl⟩
        rw [hx.out] at hs q0 hmi
        have es : IntKind.i64.wrap ((r : Int) + (x : Int)) = (s : Int) := by rw [IntKind.wrap_i64]; have := hs.out; omega
        clear hmE
        go_wp2
        go_roundw
        case rel => exact ⟨i + 1, u, by omega, huE, by go_num, rfl, q, hB1⟩
        case measure => (simp only [intOf, Int.toNat_natCast]; omega)
      · have i2 : ¬ (i : Int) < (L : Int) := by omega
        have hmE : Ob.mask f L i = 0 := if_neg hL1
        rw [hmE, Nat.add_zero] at hs
        obtain rfl : r = s := hs.out
        clear hmE
        go_wp2
        go_roundw
        case rel => exact ⟨i + 1, u, by omega, huE, by go_num, rfl, q, hB1⟩
        case measure => (simp only [intOf, Int.toNat_natCast]; omega)
    · obtain rfl : i = n := by omega
      go_wp2
      go_ret
      exact ⟨rfl, ta.out.congr (fun j hj => by unfold carI; rw [if_pos hj]), hB⟩

set_option maxHeartbeats 2000000 in
theorem less_core (b len c : Nat) (hl : 17 ≤ len) (hl2 : len ≤ 1000) (f : Nat → Nat) (hf : ∀ i, i < 16 → f i < 256) (h16 : f 16 < 4) (w : World) (hR : Rd w .i64 b 17 f) :
    Calls Tryd.prog 43 #[.slice (some ⟨b, 0, none⟩) len c] w fun e w' => e = .returned (.bool (decide (Ob.valD f 17 < Ob.PP))) ∧ w = w' := by
  have c16 := hR.c 16 (by decide)
  have c0 := hR.c 0 (by decide)
  have hR' : Hid (Rd w .i64 b 17 f) := hR
  have hf' : Hid (∀ i, i < 16 → f i < 256) := hf
  clear hR hf
  have l0 : (16 : Int) < (len : Int) := by omega
  have l1 : (0 : Int) < (len : Int) := by omega
  obtain ⟨t, ht⟩ : ∃ t, Hid (f 16 = t) := ⟨_, rfl⟩
  obtain ⟨a, ha⟩ : ∃ t, Hid (f 0 = t) := ⟨_, rfl⟩
  rw [ht.out] at c16 h16
  rw [ha.out] at c0
  by_cases h3 : t = 3
  · subst h3
    have c16' : w.cell? ⟨b, 16, none⟩ = some (.int .i64 3) := c16
    clear c16
    go_enter Tryd.func43, Tryd.ntmps43
    go_wp2
    go_loop [3] (fun s3 => ∃ i : Nat, i ≤ 15 ∧ s3 = .int .i64 (i : Nat) ∧ Hid (∀ j, i < j → j < 16 → f j = 255)) (fun s3 => (intOf s3).toNat)
    case atStart => exact ⟨15, by omega, rfl, fun j h1 h2 => by omega⟩
    case round =>
      obtain ⟨i, hi, rfl, hup⟩ := hrel
      by_cases hlt : 0 < i
      · have i0 : (0 : Int) < (i : Int) := by omega
        have i1 : (i : Int) < (len : Int) := by omega
        have i2 : (0 : Int) ≤ (i : Int) := by omega
        have ci := hR'.out.c i (by omega)
        obtain ⟨x, hx⟩ : ∃ x, Hid (f i = x) := ⟨_, rfl⟩
        rw [hx.out] at ci
        by_cases hx5 : x = 255
        · subst hx5
          have ci' : w.cell? ⟨b, i, none⟩ = some (.int .i64 255) := ci
          clear ci
          have hup' : Hid (∀ j, i - 1 < j → j < 16 → f j = 255) := fun j h1 h2 => by
            by_cases e : j = i
            · subst e; exact hx.out
            · exact hup.out j (by omega) h2
          go_wp2
          go_round
          case rel => exact ⟨i - 1, by omega, by go_num, hup'⟩
          case measure => (simp only [intOf]; omega)
        · have x0 : (x : Int) ≠ 255 := by omega
          have x1 : ((x : Int) == 255) = false := by simpa using x0
          have hres : Hid (decide (Ob.valD f 17 < Ob.PP) = true) := decide_eq_true (Ob.less_mid hf'.out ht.out hlt hi hup.out (by rw [hx.out]; exact hx5))
          go_wp2
          go_ret
          exact ⟨by rw [hres.out]; rfl, rfl⟩
      · obtain rfl : i = 0 := by omega
        have hres : Hid (decide (Ob.valD f 17 < Ob.PP) = decide ((a : Int) < 251)) := by
          refine decide_eq_decide.2 ?_
          rw [Ob.less_low ht.out hup.out, ha.out]
          omega
        go_wp2
        go_ret
        exact ⟨by rw [hres.out]; rfl, rfl⟩
  · have x0 : (t : Int) ≠ 3 := by omega
    have x1 : ((t : Int) == 3) = false := by simpa using x0
    have x2 : (t : Int) < 3 := by omega
    have hres : Hid (decide (Ob.valD f 17 < Ob.PP) = true) := decide_eq_true (Ob.less_top hf'.out (by rw [ht.out]; omega))
    go_enter Tryd.func43, Tryd.ntmps43
    go_wp2
    go_ret
    exact ⟨by rw [hres.out]; rfl, rfl⟩
end Go.Proofs.YtdaonbfdcpkipaaDoor

namespace Go.Proofs.YtdaonbfdcpkipaaDoor
open Go.RowKit Go.Proofs
set_option linter.unusedVariables false
set_option linter.unusedSimpArgs false
attribute [local go_sem ↓] Go.wp_at_zero Go.wp_at_succ

theorem wordInfo : ∃ i, Tryd.prog.info? 23 = some i ∧ i.size = 1 ∧ i.bytes = 4 ∧ i.zero = some (.int .u32 0) := by
  have h : (Tryd.prog.info? 23).map (fun i => (i.size, i.bytes, i.zero)) = some (1, 4, some (.int .u32 0)) := by kernel_rfl
  cases hi : Tryd.prog.info? 23 with
  | none => rw [hi] at h; cases h
  | some i =>
    rw [hi] at h
    simp only [Option.map_some, Option.some.injEq, Prod.mk.injEq] at h
    exact ⟨i, rfl, h.1, h.2.1, h.2.2⟩

set_option maxHeartbeats 4000000 in
theorem rwords_core (b off n k c : Nat) (hnk : 4 * k = n) (z : Nat → Nat) (hz : ∀ i, z i < 256) (hk : k ≤ 1000000) (w : World) (hY : Bys w b off n z) :
    Calls Tryd.prog 21 #[.slice (some ⟨b, off, none⟩) n c] w fun e w' => ∃ v, e = .returned v ∧ w'.ownsRow w.heap.size 23 1 v k (arrL .u32 (wordAt z) k) ∧ Below w.heap.size w w' := by
  obtain ⟨i0, hi, hz1, hz2, hz0⟩ := wordInfo
  have hY' : Hid (Bys w b off n z) := hY
  have hn' : Hid (4 * k = n) := hnk
  have ln : (n : Int) ≤ 4000000 := by omega
  clear hnk
  have hz' : Hid (∀ i, z i < 256) := hz
  clear hY hz
  have hown0 : w.ownsRow w.heap.size 23 1 (.slice none 0 0) 0 (arrL .u32 (wordAt z) 0) := ⟨rfl, Or.inl ⟨rfl, rfl⟩⟩
  go_enter Tryd.func21, Tryd.ntmps21
  go_wp2
  go_loopw [3, 4] (fun s3 s4 wr => ∃ (j : Nat), j ≤ k ∧ s4 = .int .i64 ((4 * j : Nat) : Int) ∧ Hid (wr.ownsRow w.heap.size 23 1 s3 j (arrL .u32 (wordAt z) j)) ∧ Below w.heap.size w wr) (fun _ s4 _ => n - (intOf s4).toNat)
  case atStart => exact ⟨0, by omega, rfl, hown0, Below.refl _ _⟩
  case round =>
    clear hown0
    obtain ⟨j, hj, rfl, hown, hB⟩ := hrel
    have l0 := hB.size
    have hnk := hn'.out
    by_cases hlt : j < k
    · have y := hY'.out.below hB hY'.out.lt
      have y0 := y.at_ (4 * j) (by omega)
      have y1 := y.at_ (4 * j + 1) (by omega)
      have y2 := y.at_ (4 * j + 2) (by omega)
      have y3 := y.at_ (4 * j + 3) (by omega)
      have b0 := hz'.out (4 * j)
      have b1 := hz'.out (4 * j + 1)
      have b2 := hz'.out (4 * j + 2)
      have b3 := hz'.out (4 * j + 3)
      have hw : Hid (arrL .u32 (wordAt z) j ++ [.int .u32 ((z (4 * j) + 256 * z (4 * j + 1) + 65536 * z (4 * j + 2) + 16777216 * z (4 * j + 3) : Nat) : Int)] = arrL .u32 (wordAt z) (j + 1)) := by
        show _ = _
        unfold arrL
        rw [List.range_succ, List.map_append]
        rfl
      obtain ⟨i, hi4⟩ : ∃ i, Hid (4 * j = i) := ⟨_, rfl⟩
      rw [hi4.out] at y0 y1 y2 y3 b0 b1 b2 b3 hw
      have li : i + 3 < n := by have := hi4.out; omega
      rw [hi4.out]
      clear hnk
      have hkeep : Hid (∀ w1, Below w.heap.size w w1 → w1.cell? ⟨b, off + i, none⟩ = some (.int .u8 (z i : Nat)) ∧ w1.cell? ⟨b, off + (i + 1), none⟩ = some (.int .u8 (z (i + 1) : Nat)) ∧ w1.cell? ⟨b, off + (i + 2), none⟩ = some (.int .u8 (z (i + 2) : Nat)) ∧ w1.cell? ⟨b, off + (i + 3), none⟩ = some (.int .u8 (z (i + 3) : Nat))) := fun w1 h => by
        have y' := hY'.out.below h hY'.out.lt
        exact ⟨y'.at_ i (by omega), y'.at_ (i + 1) (by omega), y'.at_ (i + 2) (by omega), y'.at_ (i + 3) (by omega)⟩
      generalize z i = q0 at *
      generalize z (i + 1) = q1 at *
      generalize z (i + 2) = q2 at *
      generalize z (i + 3) = q3 at *
      obtain ⟨i1, hi1⟩ : ∃ i1, Hid (i + 1 = i1) := ⟨_, rfl⟩
      obtain ⟨i2, hi2⟩ : ∃ i2, Hid (i + 2 = i2) := ⟨_, rfl⟩
      obtain ⟨i3, hi3⟩ : ∃ i3, Hid (i + 3 = i3) := ⟨_, rfl⟩
      rw [hi1.out, hi2.out, hi3.out] at hkeep
      rw [hi1.out] at y1
      rw [hi2.out] at y2
      rw [hi3.out] at y3
      have e1 : (i : Int) + 1 = (i1 : Int) := by have := hi1.out; omega
      have e2 : (i : Int) + 2 = (i2 : Int) := by have := hi2.out; omega
      have e3 : (i : Int) + 3 = (i3 : Int) := by have := hi3.out; omega
      have f0 : (i3 : Int) < (n : Int) := by omega
      have f1 : (i2 : Int) < (n : Int) := by omega
      have f2 : (i1 : Int) < (n : Int) := by omega
      have f3 : (i : Int) < (n : Int) := by omega
      have w1 : IntKind.i64.wrap (i1 : Int) = (i1 : Int) := by rw [IntKind.wrap_i64]; omega
      have w2 : IntKind.i64.wrap (i2 : Int) = (i2 : Int) := by rw [IntKind.wrap_i64]; omega
      have w3 : IntKind.i64.wrap (i3 : Int) = (i3 : Int) := by rw [IntKind.wrap_i64]; omega
      have g0 : (0 : Int) ≤ (i : Int) := by omega
      have g1 : (0 : Int) ≤ (i1 : Int) := by omega
      have g2 : (0 : Int) ≤ (i2 : Int) := by omega
      have g3 : (0 : Int) ≤ (i3 : Int) := by omega
      have c0 : IntKind.u32.wrap (q0 : Int) = (q0 : Int) := by rw [IntKind.wrap_u32]; omega
      have c1 : IntKind.u32.wrap (q1 : Int) = (q1 : Int) := by rw [IntKind.wrap_u32]; omega
      have c2 : IntKind.u32.wrap (q2 : Int) = (q2 : Int) := by rw [IntKind.wrap_u32]; omega
      have c3 : IntKind.u32.wrap (q3 : Int) = (q3 : Int) := by rw [IntKind.wrap_u32]; omega
      obtain ⟨r1, p1, k1⟩ : ∃ r : Nat, IntKind.u32.wrap (256 * (q1 : Int)) = (r : Int) ∧ Hid (r = 256 * q1) := ⟨256 * q1, by rw [IntKind.wrap_u32]; omega, rfl⟩
      obtain ⟨r2, p2, k2⟩ : ∃ r : Nat, IntKind.u32.wrap (65536 * (q2 : Int)) = (r : Int) ∧ Hid (r = 65536 * q2) := ⟨65536 * q2, by rw [IntKind.wrap_u32]; omega, rfl⟩
      obtain ⟨r3, p3, k3⟩ : ∃ r : Nat, IntKind.u32.wrap (16777216 * (q3 : Int)) = (r : Int) ∧ Hid (r = 16777216 * q3) := ⟨16777216 * q3, by rw [IntKind.wrap_u32]; omega, rfl⟩
      have m1 := k1.out
      have m2 := k2.out
      have m3 := k3.out
      obtain ⟨t1, s1, n1⟩ : ∃ r : Nat, IntKind.u32.wrap ((q0 : Int) + (r1 : Int)) = (r : Int) ∧ Hid (r = q0 + r1) := ⟨q0 + r1, by rw [IntKind.wrap_u32]; omega, rfl⟩
      have m4 := n1.out
      obtain ⟨t2, s2, n2⟩ : ∃ r : Nat, IntKind.u32.wrap ((t1 : Int) + (r2 : Int)) = (r : Int) ∧ Hid (r = t1 + r2) := ⟨t1 + r2, by rw [IntKind.wrap_u32]; omega, rfl⟩
      have m5 := n2.out
      obtain ⟨X, s3, n3⟩ : ∃ r : Nat, IntKind.u32.wrap ((t2 : Int) + (r3 : Int)) = (r : Int) ∧ Hid (r = t2 + r3) := ⟨t2 + r3, by rw [IntKind.wrap_u32]; omega, rfl⟩
      have hX : Hid (q0 + 256 * q1 + 65536 * q2 + 16777216 * q3 = X) := by show _ = _; have := n3.out; omega
      rw [hX.out] at hw
      clear m1 m2 m3 m4 m5
      have hb1 : Below wr.heap.size wr (wr.alloc (.cells #[.int .u32 (X : Nat)] 23)).drew := by clear hB; (repeat' (first | (with_reducible first | exact Below.refl _ _ | assumption | refine Below.alloc ?_ ?_ _ | refine Below.drew ?_ | refine below_drewN ?_ _ | refine Below.setCell ?_ ?_ _ | refine below_via (by with_reducible assumption) ?_ ?_) | omega | (simp only [szs]; omega) | (simp only [szs] at *; omega)))
      have hb0 : Below w.heap.size w (wr.alloc (.cells #[.int .u32 (X : Nat)] 23)).drew := by clear hb1; (repeat' (first | (with_reducible first | exact Below.refl _ _ | assumption | refine Below.alloc ?_ ?_ _ | refine Below.drew ?_ | refine below_drewN ?_ _ | refine Below.setCell ?_ ?_ _ | refine below_via (by with_reducible assumption) ?_ ?_) | omega | (simp only [szs]; omega) | (simp only [szs] at *; omega)))
      have hown1 : Hid ((wr.alloc (.cells #[.int .u32 (X : Nat)] 23)).drew.ownsRow w.heap.size 23 1 u3 j (arrL .u32 (wordAt z) j)) := own_below hown.out hb1 (fun k h => (hown.out.lt k h).2)
      go_wp2
      go_region_held3 (fun w' => w'.cell? ⟨b, off + i, none⟩ = some (.int .u8 (q0 : Nat)) ∧ w'.cell? ⟨b, off + i1, none⟩ = some (.int .u8 (q1 : Nat)) ∧ w'.cell? ⟨b, off + i2, none⟩ = some (.int .u8 (q2 : Nat)) ∧ w'.cell? ⟨b, off + i3, none⟩ = some (.int .u8 (q3 : Nat))) (first | exact hkeep.out _ hBw | exact hkeep.out _ (by (repeat' (first | (with_reducible first | exact Below.refl _ _ | assumption | refine Below.alloc ?_ ?_ _ | refine Below.drew ?_ | refine below_drewN ?_ _ | refine Below.setCell ?_ ?_ _ | refine below_via (by with_reducible assumption) ?_ ?_) | omega | (simp only [szs]; omega) | (simp only [szs] at *; omega)))))
        ((rw [if_pos (by rfl)]; (refine wp_append_own _ _ _ 41 rfl w.heap.size 23 i0 _ 1 4 Tryd.underlying41 hi hz0 hz1 hz2 rfl (by decide) _ j _ rfl hown1.out ⟨wr.heap.size, 0, none⟩ 1 1 [.int .u32 (X : Nat)] rfl rfl (fun j u h => by cases j with | zero => (simp at h; subst h; simp [Addr.add]) | succ j => simp at h) (by simp [Value.oneCell']) (by unfold maxLen; omega) (by omega) (by first | (simp; done) | (simp; omega)) ?_); intro v' w1 ho hg hnil; have hBw : Below w.heap.size w w1 := hb0.grown hg hb0.size (fun k h => (hown.out.lt k h).1); have ho' : Hid (w1.ownsRow w.heap.size 23 1 v' (j + 1) (arrL .u32 (wordAt z) (j + 1))) := (by rw [← hw.out]; exact ho); clear ho hg hnil))
      go_wp2
      go_roundw
      case rel => exact ⟨j + 1, by omega, by have := hi4.out; go_num, ho', hBw⟩
      case measure => first | (simp [intOf]; done) | (simp [intOf]; omega)
    · have hjk : j = k := by omega
      subst hjk
      have hend : ¬ (((4 * j : Nat) : Int) + 3 < (n : Int)) := by omega
      obtain ⟨i, hi4⟩ : ∃ i, Hid (4 * j = i) := ⟨_, rfl⟩
      rw [hi4.out] at hend ⊢
      have li : (i : Int) ≤ 4000000 := by have := hi4.out; omega
      go_wp2
      go_ret
      exact ⟨_, rfl, hown.out, by (repeat' (first | (with_reducible first | exact Below.refl _ _ | assumption | refine Below.alloc ?_ ?_ _ | refine Below.drew ?_ | refine below_drewN ?_ _ | refine Below.setCell ?_ ?_ _ | refine below_via (by with_reducible assumption) ?_ ?_) | omega | (simp only [szs]; omega) | (simp only [szs] at *; omega)))⟩

theorem arr_of_row {w : World} {k : IntKind} {e : TypeId} {base n cap g : Nat} {v : Nat → Nat} (h : w.ownsRow base e 1 (.slice (some ⟨g, 0, none⟩) n cap) n (arrL k v n)) : Arr w k g n v := by
  refine ⟨(h.lt g rfl).2, fun i hi => ?_, fun i hi => ?_⟩
  · have := h.cells (g := g) rfl i _ (arrL_get k v n i hi)
    have hadd : (⟨g, 0, none⟩ : Addr).add i = ⟨g, i, none⟩ := by unfold Addr.add; split <;> simp_all
    rw [hadd] at this
    exact this
  · rcases h.2 with ⟨h0, _⟩ | ⟨g', cap', cur, hv, _, hg, _⟩
    · cases h0
    · cases hv
      simp [World.frozen?, hg]
/-- The words of 4 k bytes. -/
theorem rwordsW (b off n k c : Nat) (hnk : 4 * k = n) (h0 : 0 < k) (z : Nat → Nat) (hz : ∀ i, z i < 256) (hk : k ≤ 1000000) (w : World) (hY : Bys w b off n z) :
    Calls Tryd.prog 21 #[.slice (some ⟨b, off, none⟩) n c] w fun e w' => ∃ g cap, e = .returned (.slice (some ⟨g, 0, none⟩) k cap) ∧ w.heap.size ≤ g ∧ Arr w' .u32 g k (wordAt z) ∧ Below w.heap.size w w' := by
  refine (rwords_core b off n k c hnk z hz hk w hY).mono fun e w' ⟨v, he, ho, hb⟩ => ?_
  rcases ho.2 with ⟨_, h⟩ | ⟨g, cap, cur, rfl, hg, _⟩
  · omega
  · exact ⟨g, cap, he, hg, arr_of_row ho, hb⟩
end Go.Proofs.YtdaonbfdcpkipaaDoor
