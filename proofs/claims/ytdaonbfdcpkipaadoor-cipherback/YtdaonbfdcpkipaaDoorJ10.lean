/-
  Joined texts: Package cipher, walked: zeros that fill a piece; the mark of data and of what was sealed. Package cipher, walked: the stream's function. Package cipher, walked: a text xor the stream. Bytes told as strings. Package cipher, walked: Seal. Package cipher, walked: Open. Errors that are codes, compared. The head of stage 6's statements. What the rows of this seat share: how arguments are opened. Bytes that came in, as numbers. What stage 6's statements share. What the rows of this seat share: the tables that are laid, and the start that fits.
-/
import Derived.Test.YtdaonbfdcpkipaaDoorJ9
import Derived.Deep.CutRange
import Derived.Test.YtdaonbfdcpkipaaDoorJ2
import Derived.Test.YtdaonbfdcpkipaaDoorJ6
import Derived.Test.YtdaonbfdcpkipaaDoorJ1
import Derived.Lib.Bytes
import Derived.Lib.SlBytesConst
import Derived.Test.YtdaonbfdcpkipaaDoorRows
import Derived.WalkKit
import Derived.ProofKit
import Derived.OpenShut
import Derived.ShutString
import Derived.ChangeOld
import Derived.Below
import Derived.SizedLaws
import Derived.Test.YtdaonbfdcpkipaaDoorJ8
import Derived.LaidMore
import Derived.Lib.LaidTab
import Derived.Stop.Joined

namespace Ob
set_option linter.unusedVariables false
set_option linter.unusedSimpArgs false
/-- What the document marks, part by part. -/
theorem allX_a (z1 z2 : Nat → Nat) (n1 n2 i : Nat) (h : i < n1) : allX z1 n1 z2 n2 i = z1 i := by
  have := up16_lt n1
  have h1 : n1 ≤ up16 n1 := by unfold up16; omega
  unfold allX joinX padX
  rw [if_pos (by omega), if_pos (by omega), if_pos (by omega), if_pos h]
theorem allX_b (z1 z2 : Nat → Nat) (n1 n2 i : Nat) (h : n1 + i < up16 n1) : allX z1 n1 z2 n2 (n1 + i) = 0 := by
  unfold allX joinX padX
  rw [if_pos (by omega), if_pos (by omega), if_pos (by omega), if_neg (by omega)]
theorem allX_c (z1 z2 : Nat → Nat) (n1 n2 i : Nat) (h : i < n2) : allX z1 n1 z2 n2 (up16 n1 + i) = z2 i := by
  have h1 : n2 ≤ up16 n2 := by unfold up16; omega
  unfold allX joinX padX
  rw [if_pos (by omega), if_pos (by omega), if_neg (by omega), show up16 n1 + i - up16 n1 = i by omega, if_pos h]
theorem allX_d (z1 z2 : Nat → Nat) (n1 n2 i : Nat) (h : n2 + i < up16 n2) : allX z1 n1 z2 n2 (up16 n1 + n2 + i) = 0 := by
  unfold allX joinX padX
  rw [if_pos (by omega), if_pos (by omega), if_neg (by omega), show up16 n1 + n2 + i - up16 n1 = n2 + i by omega, if_neg (by omega)]
theorem allX_e (z1 z2 : Nat → Nat) (n1 n2 i : Nat) (h : i < 8) : allX z1 n1 z2 n2 (up16 n1 + up16 n2 + i) = lenD n1 i := by
  unfold allX joinX
  rw [if_pos (by omega), if_neg (by omega), show up16 n1 + up16 n2 + i - (up16 n1 + up16 n2) = i by omega]
theorem allX_f (z1 z2 : Nat → Nat) (n1 n2 i : Nat) (h : i < 8) : allX z1 n1 z2 n2 (up16 n1 + up16 n2 + (8 + i)) = lenD n2 i := by
  unfold allX joinX
  rw [if_neg (by omega), show up16 n1 + up16 n2 + (8 + i) - (up16 n1 + up16 n2 + 8) = i by omega]
theorem lenD_val (n : Nat) : ∀ k, valD (lenD n) k = n % 256 ^ k
  | 0 => by simp [valD, Nat.mod_one]
  | k + 1 => by
    rw [valD, lenD_val n k]
    unfold lenD
    rw [Nat.pow_succ, Nat.mod_mul, Nat.mul_comm (256 ^ k)]
theorem lenD_lt (n i : Nat) : lenD n i < 256 := Nat.mod_lt _ (by decide)
/-- Sixteen bytes of two lengths. -/
theorem len_two {d : Nat → Nat} {n1 n2 : Nat} (hd : ∀ i, d i < 256) (h1 : n1 < 18446744073709551616) (h2 : n2 < 18446744073709551616) (h : valD d 16 = n1 + n2 * 18446744073709551616) (i : Nat) (hi : i < 16) : d i = if i < 8 then lenD n1 i else lenD n2 (i - 8) := by
  have e : valD (fun i => if i < 8 then lenD n1 i else lenD n2 (i - 8)) 16 = n1 + n2 * 18446744073709551616 := by
    have s := valD_split (fun i => if i < 8 then lenD n1 i else lenD n2 (i - 8)) 8 8
    have a1 : valD (fun i => if i < 8 then lenD n1 i else lenD n2 (i - 8)) 8 = n1 := by
      rw [valD_congr (g := lenD n1) (fun i hi => if_pos hi), lenD_val, show (256 : Nat) ^ 8 = 18446744073709551616 by decide, Nat.mod_eq_of_lt h1]
    have a2 : valD (fun i => (fun i => if i < 8 then lenD n1 i else lenD n2 (i - 8)) (8 + i)) 8 = n2 := by
      rw [valD_congr (g := lenD n2) (fun i hi => by show (if 8 + i < 8 then lenD n1 (8 + i) else lenD n2 (8 + i - 8)) = lenD n2 i; rw [if_neg (by omega), show 8 + i - 8 = i by omega]), lenD_val, show (256 : Nat) ^ 8 = 18446744073709551616 by decide, Nat.mod_eq_of_lt h2]
    rw [show (16 : Nat) = 8 + 8 from rfl, s, a1, a2, show (256 : Nat) ^ 8 = 18446744073709551616 by decide, Nat.mul_comm]
  exact valD_inj hd (fun i => by split <;> exact lenD_lt _ _) (h.trans e.symm) i hi
end Ob
namespace Go.Proofs.YtdaonbfdcpkipaaDoor
open Go.RowKit Go.Proofs
set_option linter.unusedVariables false
set_option linter.unusedSimpArgs false
attribute [local go_sem ↓] Go.wp_at_zero Go.wp_at_succ

set_option maxHeartbeats 1000000 in
/-- The zeros behind n bytes. -/
theorem zeros_core (a : Option Addr) (n c : Nat) (hn : n ≤ 10000000) (w : World) :
    Calls Tryd.prog 45 #[.slice a n c] w fun e w' => ∃ p cc, e = .returned (.slice p (Ob.up16 n - n) cc) ∧ (∀ N, N + 4 < w.heap.size → SrcO w' N p (Ob.up16 n - n) (fun _ => 0)) ∧ Below w.heap.size w w' := by
  obtain ⟨m, hm, em⟩ : ∃ m : Nat, Hid (n % 16 = m) ∧ (n : Int) % 16 = (m : Int) := ⟨n % 16, rfl, by omega⟩
  have em' : Int.tmod (n : Int) 16 = (m : Int) := by rw [Int.tmod_eq_emod_of_nonneg (by omega)]; exact em
  by_cases h0 : m = 0
  · have h0' : (m : Int) = 0 := by omega
    have hz : Hid (Ob.up16 n - n = 0) := by show _ = _; unfold Ob.up16; have := hm.out; omega
    rw [hz.out]
    go_enter Tryd.func45, Tryd.ntmps45
    go_wp2
    go_ret
    exact ⟨none, 0, rfl, fun _ _ => Or.inl rfl, Below.refl _ _⟩
  · have h0' : ¬ (m : Int) = 0 := by omega
    obtain ⟨k, hk, ek⟩ : ∃ k : Nat, Hid (Ob.up16 n - n = k) ∧ IntKind.i64.wrap (16 - (m : Int)) = (k : Int) := ⟨Ob.up16 n - n, rfl, by rw [IntKind.wrap_i64]; unfold Ob.up16; have := hm.out; omega⟩
    rw [hk.out]
    obtain ⟨W1, hmk, t1, b1, z1⟩ := make_bytes k (by have := hk.out; unfold Ob.up16 at this; omega) w
    clear hk
    go_enter Tryd.func45, Tryd.ntmps45
    go_wp2
    go_ret
    exact ⟨_, k, rfl, fun N hN => Or.inr ⟨w.heap.size, 0, rfl, Or.inr hN, t1.bys8⟩, b1⟩

theorem SrcO.of_old {w W : World} {N : Nat} {a : Option Addr} {n : Nat} {z : Nat → Nat} (h : Src w a n z) (hb : Below w.heap.size w W) (hN : w.heap.size ≤ N) : SrcO W N a n z := by
  rcases h with h | ⟨b, off, ha, hB⟩
  · exact Or.inl h
  · exact Or.inr ⟨b, off, ha, Or.inl (Nat.lt_of_lt_of_le hB.lt hN), hB.below hb hB.lt⟩
/-- The two functions that summing tells. -/
def takeV (N : Nat) : Value := .func (.func 37) #[] #[.pointer (some ⟨N + 4, 0, none⟩), .pointer (some ⟨N + 2, 0, none⟩), .pointer (some ⟨N, 0, none⟩)]
def tellV (N : Nat) : Value := .func (.func 39) #[] #[.pointer (some ⟨N + 2, 0, none⟩), .pointer (some ⟨N + 4, 0, none⟩), .pointer (some ⟨N, 0, none⟩), .pointer (some ⟨N + 1, 0, none⟩)]

/-- How many bytes were taken ahead of round i. -/
def kkS (n1 n2 i : Nat) : Nat := if i = 0 then 0 else if i = 1 then Ob.up16 n1 else Ob.up16 n1 + Ob.up16 n2

set_option maxHeartbeats 4000000 in
theorem sealMark_core (kb ko kc nb no nc c1 n1 c2 n2 : Nat) (hkc : 32 ≤ kc) (hnc : 12 ≤ nc) (zk zn z1 z2 : Nat → Nat) (hzk : ∀ i, zk i < 256) (hzn : ∀ i, zn i < 256) (h1 : ∀ i, z1 i < 256) (h2 : ∀ i, z2 i < 256) (hn1 : n1 ≤ 1000000) (hn2 : n2 ≤ 1000000) (a1 a2 : Option Addr) (w : World) (hT : Tabs w) (hK : Bys w kb ko 32 zk) (hNn : Bys w nb no 12 zn) (hS1 : Src w a1 n1 z1) (hS2 : Src w a2 n2 z2) :
    Calls Tryd.prog 28 #[.slice (some ⟨kb, ko, none⟩) 32 kc, .slice (some ⟨nb, no, none⟩) 12 nc, .slice a1 n1 c1, .slice a2 n2 c2] w fun e w' => ∃ g, e = .returned (.slice (some ⟨g, 0, none⟩) 16 16) ∧ MarkAt w g (Ob.markN (lowBy (Ob.chaB (wordAt zk) (wordAt zn) 0)) (Ob.allX z1 n1 z2 n2) (Ob.allN n1 n2)) w' := by
  have cb := block_core kb ko kc nb no nc 0 hkc hnc (by decide) zk zn hzk hzn w hT hK hNn
  obtain ⟨D, hD⟩ : ∃ D, Hid (lowBy (Ob.chaB (wordAt zk) (wordAt zn) 0) = D) := ⟨_, rfl⟩
  have hDl : ∀ i, D i < 256 := fun i => by rw [← hD.out]; exact lowBy_lt _ _
  rw [hD.out] at cb ⊢
  obtain ⟨Z, hZ⟩ : ∃ Z, Hid (Ob.allX z1 n1 z2 n2 = Z) := ⟨_, rfl⟩
  rw [hZ.out]
  have hRok := Ob.key_ROk hDl
  have hSlt := keyS_lt hDl
  have hV : Hid ((Ob.finV (Ob.valD (Ob.clD D) 16) Z (Ob.allN n1 n2) + Ob.valB (keyS D) 3) % 340282366920938463463374607431768211456 = Ob.markN D Z (Ob.allN n1 n2)) := by
    show _ = _
    unfold Ob.markN keyS
    rw [Ob.mk_fin, Ob.key_s, Ob.p16_num]
  have hU1 := Ob.up16_lt n1
  have hU2 := Ob.up16_lt n2
  have hV1 : n1 ≤ Ob.up16 n1 := by unfold Ob.up16; omega
  have hV2 : n2 ≤ Ob.up16 n2 := by unfold Ob.up16; omega
  obtain ⟨M, hM⟩ : ∃ M, Hid (Ob.markN D Z (Ob.allN n1 n2) = M) := ⟨_, rfl⟩
  rw [hM.out] at hV ⊢
  have hrR : Hid (Ob.ROk (keyR D) (Ob.valD (Ob.clD D) 16)) := hRok
  have hsS : Hid (∀ i, keyS D i < 18446744073709551616) := hSlt
  have hs2 : Hid (keyS D 2 = 0) := rfl
  have csum : ∀ (W : World) (g : Nat), Bys W g 0 32 D → Calls Tryd.prog 24 #[.slice (some ⟨g, 0, none⟩) 32 64] W fun e w' => e = .returned (.tuple #[takeV W.heap.size, tellV W.heap.size]) ∧ Stt w' W.heap.size (keyR D) (keyS D) (Ob.valD (Ob.clD D) 16) Z 0 ∧ Below W.heap.size W w' := fun W g h => summing_core g 0 64 (by decide) D Z hDl W h
  obtain ⟨r, hr⟩ : ∃ r, Hid (keyR D = r) := ⟨_, rfl⟩
  obtain ⟨s, hs⟩ : ∃ r, Hid (keyS D = r) := ⟨_, rfl⟩
  obtain ⟨R, hR⟩ : ∃ r, Hid (Ob.valD (Ob.clD D) 16 = r) := ⟨_, rfl⟩
  rw [hr.out, hs.out, hR.out] at csum
  rw [hr.out, hR.out] at hrR
  rw [hs.out] at hsS hs2
  rw [hs.out, hR.out] at hV
  have hS1' : Hid (Src w a1 n1 z1) := hS1
  have hS2' : Hid (Src w a2 n2 z2) := hS2
  have g1 : Hid (∀ i, z1 i < 256) := h1
  have g2 : Hid (∀ i, z2 i < 256) := h2
  clear hT hK hNn hS1 hS2 hzk hzn h1 h2 hRok hSlt hDl hM hr hs hR
  obtain ⟨B, hB⟩ : ∃ B, Hid (w.heap.size = B) := ⟨_, rfl⟩
  unfold MarkAt
  rw [hB.out] at cb ⊢
  rw [show ((0 : Nat) : Int) = 0 from rfl] at cb
  unfold takeV tellV at csum
  have ctell : ∀ (W : World) (N : Nat), Stt W N r s R Z (Ob.allN n1 n2) → Calls Tryd.prog 39 #[.pointer (some ⟨N + 2, 0, none⟩), .pointer (some ⟨N + 4, 0, none⟩), .pointer (some ⟨N, 0, none⟩), .pointer (some ⟨N + 1, 0, none⟩)] W fun e w' => ∃ g d, e = .returned (.slice (some ⟨g, 0, none⟩) 16 16) ∧ W.heap.size ≤ g ∧ w'.ownsRow g 5 1 (.slice (some ⟨g, 0, none⟩) 16 16) 16 (vals d 16) ∧ (∀ i, d i < 256) ∧ Ob.valD d 16 = M ∧ Below W.heap.size W w' := fun W N h => by
    have := tell_core N R (Ob.allN n1 n2) r s Z hrR.out hsS.out hs2.out W h
    rw [hV.out] at this
    exact this
  have ctake : ∀ (N k m c : Nat) (z : Nat → Nat), (∀ i, z i < 256) → (∀ i, i < m → z i = Z (k + i)) → m ≤ 1000000000 → ∀ (a : Option Addr) (W : World), Stt W N r s R Z k → SrcO W N a m z → Calls Tryd.prog 37 #[.slice a m c, .pointer (some ⟨N + 4, 0, none⟩), .pointer (some ⟨N + 2, 0, none⟩), .pointer (some ⟨N, 0, none⟩)] W fun e w' => e = .returned (.tuple #[]) ∧ Stt w' N r s R Z (k + m) ∧ Below N W w' ∧ KpR (N + 2) (N + 4) W w' := fun N k m c z hz hzZ hm a W hT hS => take_core N R k m c r s Z z hrR.out hz hzZ hm a W hT hS
  go_enter Tryd.func28, Tryd.ntmps28
  go_upto_region 2 with (first | (go_at_call 20; with_reducible refine cb.mono ?_; rintro e W1 ⟨g, rfl, lg, o1, b1⟩; have y1 := (bys_of_row o1).less (m := 32) (by decide)) | (go_at_call 24; with_reducible refine (csum _ _ y1).mono ?_; rintro e W2 ⟨rfl, t2, b2⟩))
  have hBsz : Hid (∀ W, Below B w W → B ≤ W.heap.size) := fun W h => by have := h.size; have := hB.out; omega
  have hB1 : Below B w W1 := b1
  have lN := hBsz.out _ hB1
  have hB2 : Below B w W2 := below_via b2 hB1 lN
  have lt2 := t2.lt
  obtain ⟨N, hN⟩ : ∃ N, Hid (W1.heap.size = N) := ⟨_, rfl⟩
  rw [hN.out] at t2 b2 lN lt2 ⊢
  have t2' : Hid (Stt W2 N r s R Z 0) := t2
  clear cb csum o1 y1 lg b1 hB1 t2 b2
  obtain ⟨X, hX⟩ : ∃ X, Hid (W2.heap.size = X) := ⟨_, rfl⟩
  have lX : N + 4 < X := by rw [← hX.out]; exact lt2
  have st0 : Hid (Stt (W2.alloc (.cells #[.slice a1 n1 c1, .slice a2 n2 c2] 22)) N r s R Z (kkS n1 n2 0)) := t2'.out.on ((Below.refl _ _).alloc (Nat.le_refl _) _)
  have x0 : (W2.alloc (.cells #[.slice a1 n1 c1, .slice a2 n2 c2] 22)).cell? ⟨X, 0, none⟩ = some (.slice a1 n1 c1) := World.cell?_alloc_at _ _ _ _ (by rw [hX.out])
  have x1 : (W2.alloc (.cells #[.slice a1 n1 c1, .slice a2 n2 c2] 22)).cell? ⟨X, 1, none⟩ = some (.slice a2 n2 c2) := World.cell?_alloc_at _ _ _ _ (by rw [hX.out])
  have hB3 : Below B w (W2.alloc (.cells #[.slice a1 n1 c1, .slice a2 n2 c2] 22)) := hB2.alloc (hBsz.out _ hB2) _
  have lX0 : X < (W2.alloc (.cells #[.slice a1 n1 c1, .slice a2 n2 c2] 22)).heap.size := by rw [World.size_alloc, hX.out]; omega
  clear t2' hB2 lt2
  go_wp2
  rw [hX.out]
  go_loopw [25] (fun s25 wr => ∃ i : Nat, i ≤ 2 ∧ s25 = .int .i64 (i : Nat) ∧ Hid (Stt wr N r s R Z (kkS n1 n2 i)) ∧ wr.cell? ⟨X, 0, none⟩ = some (.slice a1 n1 c1) ∧ wr.cell? ⟨X, 1, none⟩ = some (.slice a2 n2 c2) ∧ X < wr.heap.size ∧ Below B w wr) (fun s25 _ => 2 - (intOf s25).toNat)
  case atStart => exact ⟨0, by decide, rfl, st0, x0, x1, lX0, hB3⟩
  case round =>
    clear st0 x0 x1 lX0 hB3
    obtain ⟨i, hi, rfl, hT, hX0, hX1, lX2, hBr⟩ := hrel
    by_cases hlt : i < 2
    · have h01 : i = 0 ∨ i = 1 := by omega
      rcases h01 with rfl | rfl
      · rw [show ((0 : Nat) : Int) = 0 from rfl]
        have hBw : Below w.heap.size w wr := by rw [hB.out]; exact hBr
        have src : Hid (SrcO wr N a1 n1 z1) := SrcO.of_old hS1'.out hBw (by have := hB.out; omega)
        have ck1 := ctake N (0) n1 c1 z1 g1.out (fun i hi => by rw [← hZ.out]; exact (by rw [Nat.zero_add]; exact (Ob.allX_a z1 z2 n1 n2 i hi).symm)) (by omega) a1 wr hT.out src.out
        have cz := zeros_core a1 n1 c1 (by omega)
        have ck2 : ∀ (W : World) (p : Option Addr) (cc : Nat), Stt W N r s R Z (0 + n1) → SrcO W N p (Ob.up16 n1 - n1) (fun _ => 0) → _ := fun W p cc h1 h2 => ctake N (0 + n1) (Ob.up16 n1 - n1) cc (fun _ => 0) (fun _ => by show 0 < 256; omega) (fun i hi => by rw [← hZ.out]; exact (by rw [Nat.zero_add]; exact (Ob.allX_b z1 z2 n1 n2 i (by omega)).symm)) (by omega) p W h1 h2
        rw [show 0 + n1 + (Ob.up16 n1 - n1) = Ob.up16 n1 by omega] at ck2
        obtain ⟨k0, hk0⟩ : ∃ k0, Hid (0 + n1 = k0) := ⟨_, rfl⟩
        rw [hk0.out] at ck1 ck2
        obtain ⟨nz, hnz⟩ : ∃ nz, Hid (Ob.up16 n1 - n1 = nz) := ⟨_, rfl⟩
        rw [hnz.out] at ck2 cz
        clear hBw src hT
        go_upto_region 5 with (fail)
        go_upto_region 6 with (go_at_call 37; with_reducible refine ck1.mono ?_; rintro e W3 ⟨rfl, t3, b3, k3⟩)
        have l3 := t3.lt
        have t3' : Hid (Stt W3 N r s R Z k0) := t3
        clear t3 ck1
        go_upto_region 7 with (first | (go_at_call 45; with_reducible refine (cz _).mono ?_; rintro e W4 ⟨p4, c4, rfl, s4, b4⟩; have t4 := t3'.out.on b4) | (go_at_call 37; with_reducible refine (ck2 _ _ _ t4 (s4 N l3)).mono ?_; rintro e W5 ⟨rfl, t5, b5, k5⟩))
        have hR5 : KpR (N + 2) (N + 4) wr W5 := (k3.below b4).trans k5
        have hX0' := hR5.c X 0 lX2 (Or.inr lX)
        have hX1' := hR5.c X 1 lX2 (Or.inr lX)
        rw [hX0] at hX0'
        rw [hX1] at hX1'
        have hB5 : Below B w W5 := ((hBr.trans (b3.mono lN)).trans (b4.mono (by omega))).trans (b5.mono lN)
        have lX5 : X < W5.heap.size := Nat.lt_of_lt_of_le lX2 hR5.size
        have t5' : Hid (Stt W5 N r s R Z (kkS n1 n2 1)) := by rw [show kkS n1 n2 1 = Ob.up16 n1 from rfl]; exact t5
        clear hX0 hX1 t5 t4 s4 b4 b5 b3 k3 k5 hR5 t3' ck2 cz hBr lX2
        go_wp2
        go_roundw
        case rel => exact ⟨1, by decide, rfl, t5', hX0', hX1', lX5, hB5⟩
        case measure => first | decide | (simp [intOf]; done) | (simp [intOf]; omega)
      · rw [show ((1 : Nat) : Int) = 1 from rfl]
        have hBw : Below w.heap.size w wr := by rw [hB.out]; exact hBr
        have src : Hid (SrcO wr N a2 n2 z2) := SrcO.of_old hS2'.out hBw (by have := hB.out; omega)
        have ck1 := ctake N (Ob.up16 n1) n2 c2 z2 g2.out (fun i hi => by rw [← hZ.out]; exact (Ob.allX_c z1 z2 n1 n2 i hi).symm) (by omega) a2 wr hT.out src.out
        have cz := zeros_core a2 n2 c2 (by omega)
        have ck2 : ∀ (W : World) (p : Option Addr) (cc : Nat), Stt W N r s R Z (Ob.up16 n1 + n2) → SrcO W N p (Ob.up16 n2 - n2) (fun _ => 0) → _ := fun W p cc h1 h2 => ctake N (Ob.up16 n1 + n2) (Ob.up16 n2 - n2) cc (fun _ => 0) (fun _ => by show 0 < 256; omega) (fun i hi => by rw [← hZ.out]; exact (Ob.allX_d z1 z2 n1 n2 i (by omega)).symm) (by omega) p W h1 h2
        rw [show Ob.up16 n1 + n2 + (Ob.up16 n2 - n2) = Ob.up16 n1 + Ob.up16 n2 by omega] at ck2
        obtain ⟨k0, hk0⟩ : ∃ k0, Hid (Ob.up16 n1 + n2 = k0) := ⟨_, rfl⟩
        rw [hk0.out] at ck1 ck2
        obtain ⟨nz, hnz⟩ : ∃ nz, Hid (Ob.up16 n2 - n2 = nz) := ⟨_, rfl⟩
        rw [hnz.out] at ck2 cz
        clear hBw src hT
        go_upto_region 5 with (fail)
        go_upto_region 6 with (go_at_call 37; with_reducible refine ck1.mono ?_; rintro e W3 ⟨rfl, t3, b3, k3⟩)
        have l3 := t3.lt
        have t3' : Hid (Stt W3 N r s R Z k0) := t3
        clear t3 ck1
        go_upto_region 7 with (first | (go_at_call 45; with_reducible refine (cz _).mono ?_; rintro e W4 ⟨p4, c4, rfl, s4, b4⟩; have t4 := t3'.out.on b4) | (go_at_call 37; with_reducible refine (ck2 _ _ _ t4 (s4 N l3)).mono ?_; rintro e W5 ⟨rfl, t5, b5, k5⟩))
        have hR5 : KpR (N + 2) (N + 4) wr W5 := (k3.below b4).trans k5
        have hX0' := hR5.c X 0 lX2 (Or.inr lX)
        have hX1' := hR5.c X 1 lX2 (Or.inr lX)
        rw [hX0] at hX0'
        rw [hX1] at hX1'
        have hB5 : Below B w W5 := ((hBr.trans (b3.mono lN)).trans (b4.mono (by omega))).trans (b5.mono lN)
        have lX5 : X < W5.heap.size := Nat.lt_of_lt_of_le lX2 hR5.size
        have t5' : Hid (Stt W5 N r s R Z (kkS n1 n2 2)) := by rw [show kkS n1 n2 2 = Ob.up16 n1 + Ob.up16 n2 from rfl]; exact t5
        clear hX0 hX1 t5 t4 s4 b4 b5 b3 k3 k5 hR5 t3' ck2 cz hBr lX2
        go_wp2
        go_roundw
        case rel => exact ⟨2, by decide, rfl, t5', hX0', hX1', lX5, hB5⟩
        case measure => first | decide | (simp [intOf]; done) | (simp [intOf]; omega)
    · obtain rfl : i = 2 := by omega
      rw [show ((2 : Nat) : Int) = 2 from rfl]
      have cl := lowBytesC_core n1 n2 (by omega) (by omega)
      have e1 : IntKind.u64.wrap (n1 : Int) = (n1 : Int) := by rw [IntKind.wrap_u64]; omega
      have e2 : IntKind.u64.wrap (n2 : Int) = (n2 : Int) := by rw [IntKind.wrap_u64]; omega
      have ck3 : ∀ (W : World) (g : Nat) (d : Nat → Nat), (∀ i, d i < 256) → Ob.valD d 16 = n1 + n2 * 18446744073709551616 → Stt W N r s R Z (Ob.up16 n1 + Ob.up16 n2) → Bys W g 0 16 d → N + 4 < g → Calls Tryd.prog 37 #[.slice (some ⟨g, 0, none⟩) 16 16, .pointer (some ⟨N + 4, 0, none⟩), .pointer (some ⟨N + 2, 0, none⟩), .pointer (some ⟨N, 0, none⟩)] W fun e w' => e = .returned (.tuple #[]) ∧ Stt w' N r s R Z (Ob.allN n1 n2) ∧ Below N W w' ∧ KpR (N + 2) (N + 4) W w' := fun W g d hd hv ht hy hg =>
        ctake N (Ob.up16 n1 + Ob.up16 n2) 16 16 d hd (fun i hi => by
          rw [Ob.len_two hd (by omega) (by omega) hv i hi, ← hZ.out]
          by_cases h8 : i < 8
          · rw [if_pos h8, Ob.allX_e z1 z2 n1 n2 i h8]
          · rw [if_neg h8]
            have := Ob.allX_f z1 z2 n1 n2 (i - 8) (by omega)
            rw [show 8 + (i - 8) = i by omega] at this
            rw [this]) (by decide) (some ⟨g, 0, none⟩) W ht (Or.inr ⟨g, 0, rfl, Or.inr hg, hy⟩)
      have hT2 : Hid (Stt wr N r s R Z (Ob.up16 n1 + Ob.up16 n2)) := hT
      have lwr : N + 4 < wr.heap.size := by omega
      clear hT ctake
      go_upto_region 8 with (fail)
      go_upto_region 9 with (first | (go_at_call 42; with_reducible refine (cl _).mono ?_; rintro e W3 ⟨g3, d3, rfl, lg3, o3, hd3, hv3, b3⟩; have t3 := hT2.out.on b3; have y3 := bys_of_row o3) | (go_at_call 37; with_reducible refine (ck3 _ _ _ hd3 hv3 t3 y3 (by omega)).mono ?_; rintro e W4 ⟨rfl, t4, b4, k4⟩))
      have t4' : Hid (Stt W4 N r s R Z (Ob.allN n1 n2)) := t4
      have hB3 : Below B w W3 := below_via b3 hBr (hBsz.out _ hBr)
      have hB4 : Below B w W4 := hB3.trans (b4.mono lN)
      clear t4 t3 y3 o3 hd3 hv3 b3 b4 k4 ck3 cl hT2
      go_wp2_with (go_at_call 39; with_reducible refine (ctell _ _ t4'.out).mono ?_; rintro e W5 ⟨g5, d5, rfl, lg5, o5, hd5, hv5, b5⟩)
      have lB4 := hBsz.out _ hB4
      go_ret
      exact ⟨g5, rfl, d5, by omega, o5, hd5, hv5, below_via b5 hB4 lB4⟩
end Go.Proofs.YtdaonbfdcpkipaaDoor

namespace Go.Proofs.YtdaonbfdcpkipaaDoor
open Go.RowKit Go.Proofs
set_option linter.unusedVariables false
set_option linter.unusedSimpArgs false
attribute [local go_sem ↓] Go.wp_at_zero Go.wp_at_succ

/-- All but blocks N + 2 and N + 3 stays. -/
structure Kp (N : Nat) (w w' : World) : Prop where
  size : w.heap.size ≤ w'.heap.size
  c : ∀ b o, b < w.heap.size → b ≠ N + 2 → b ≠ N + 3 → w'.cell? ⟨b, o, none⟩ = w.cell? ⟨b, o, none⟩
  f : ∀ b o, b < w.heap.size → b ≠ N + 2 → b ≠ N + 3 → w'.frozen? ⟨b, o, none⟩ = w.frozen? ⟨b, o, none⟩
theorem Kp.refl (N : Nat) (w : World) : Kp N w w := ⟨Nat.le_refl _, fun _ _ _ _ _ => rfl, fun _ _ _ _ _ => rfl⟩
theorem Kp.set {N : Nat} {w w' : World} (h : Kp N w w') {b : Nat} (hb : b = N + 2 ∨ b = N + 3) (v : Value) : Kp N w (w'.setCell ⟨b, 0, none⟩ v) := by
  refine ⟨by simp [h.size], fun b' o hl h2 h3 => ?_, fun b' o hl h2 h3 => by rw [World.frozen?_setCell]; exact h.f b' o hl h2 h3⟩
  have hne : b ≠ b' := by omega
  rw [World.cell?_setCell_other _ _ _ _ (by simp [hne])]
  exact h.c b' o hl h2 h3
theorem Kp.below {N : Nat} {w w' w2 : World} (h : Kp N w w') (hb : Below w'.heap.size w' w2) : Kp N w w2 :=
  ⟨Nat.le_trans h.size hb.size, fun b o hl h2 h3 => by rw [(bcell hb).1 b o (Nat.lt_of_lt_of_le hl h.size)]; exact h.c b o hl h2 h3, fun b o hl h2 h3 => by rw [(bcell hb).2 b o (Nat.lt_of_lt_of_le hl h.size)]; exact h.f b o hl h2 h3⟩
theorem Arr.kp {N : Nat} {w w' : World} {k : IntKind} {b n : Nat} {v : Nat → Nat} (t : Arr w k b n v) (h : Kp N w w') (h2 : b ≠ N + 2) (h3 : b ≠ N + 3) : Arr w' k b n v :=
  ⟨Nat.lt_of_lt_of_le t.lt h.size, fun i hi => by rw [h.c b i t.lt h2 h3]; exact t.c i hi, fun i hi => by rw [h.f b i t.lt h2 h3]; exact t.f i hi⟩

/-- The stream's bytes, block by block. -/
def strB (zk zn : Nat → Nat) (q : Nat) : Nat → Nat := lowBy (Ob.chaB (wordAt zk) (wordAt zn) (1 + q))

/-- What the function works on behind j bytes, while something of a block is left. -/
structure SL (w : World) (N : Nat) (kv nv : Value) (zk zn : Nat → Nat) (j cnt : Nat) : Prop where
  ck : w.cell? ⟨N, 0, none⟩ = some kv
  cn : w.cell? ⟨N + 1, 0, none⟩ = some nv
  cc : w.cell? ⟨N + 2, 0, none⟩ = some (.int .u32 (cnt : Nat))
  fc : w.frozen? ⟨N + 2, 0, none⟩ = false
  fl : w.frozen? ⟨N + 3, 0, none⟩ = false
  lt : N + 3 < w.heap.size
structure Strm (w : World) (N M : Nat) (kv nv : Value) (zk zn : Nat → Nat) (j : Nat) : Prop where
  s : SL w N kv nv zk zn j (1 + (j + 63) / 64)
  l : ∃ p L c, w.cell? ⟨N + 3, 0, none⟩ = some (.slice p L c) ∧ L ≤ c ∧ L ≤ 64 ∧ (L + j) % 64 = 0 ∧ (L = 0 → j % 64 = 0) ∧ (j % 64 = 0 → L = 0) ∧ (0 < L → ∃ g off, p = some ⟨g, off, none⟩ ∧ M < g ∧ Bys w g off L (fun i => strB zk zn (j / 64) (j % 64 + i)))
theorem SL.below {w w1 : World} {B N : Nat} {kv nv : Value} {zk zn : Nat → Nat} {j cnt : Nat} (t : SL w N kv nv zk zn j cnt) (hb : Below B w w1) (h : N + 3 < B) : SL w1 N kv nv zk zn j cnt :=
  ⟨by rw [(bcell hb).1 _ _ (by omega)]; exact t.ck, by rw [(bcell hb).1 _ _ (by omega)]; exact t.cn, by rw [(bcell hb).1 _ _ (by omega)]; exact t.cc, by rw [(bcell hb).2 _ _ (by omega)]; exact t.fc, by rw [(bcell hb).2 _ _ (by omega)]; exact t.fl, Nat.lt_of_lt_of_le t.lt hb.size⟩
theorem SL.setC {w : World} {N : Nat} {kv nv : Value} {zk zn : Nat → Nat} {j cnt : Nat} (t : SL w N kv nv zk zn j cnt) (cnt' : Nat) : SL (w.setCell ⟨N + 2, 0, none⟩ (.int .u32 (cnt' : Nat))) N kv nv zk zn j cnt' :=
  ⟨by rw [World.cell?_setCell_other _ _ _ _ (by simp)]; exact t.ck, by rw [World.cell?_setCell_other _ _ _ _ (by simp)]; exact t.cn, World.cell?_setCell_same _ _ _ t.cc, by simp [t.fc], by simp [t.fl], by simp [t.lt]⟩
theorem SL.setL {w : World} {N : Nat} {kv nv : Value} {zk zn : Nat → Nat} {j cnt : Nat} (t : SL w N kv nv zk zn j cnt) (v : Value) : SL (w.setCell ⟨N + 3, 0, none⟩ v) N kv nv zk zn j cnt :=
  ⟨by rw [World.cell?_setCell_other _ _ _ _ (by simp)]; exact t.ck, by rw [World.cell?_setCell_other _ _ _ _ (by simp)]; exact t.cn, by rw [World.cell?_setCell_other _ _ _ _ (by simp)]; exact t.cc, by simp [t.fc], by simp [t.fl], by simp [t.lt]⟩
theorem SL.re {w : World} {N : Nat} {kv nv : Value} {zk zn : Nat → Nat} {j cnt : Nat} (t : SL w N kv nv zk zn j cnt) (j' : Nat) : SL w N kv nv zk zn j' cnt := ⟨t.ck, t.cn, t.cc, t.fc, t.fl, t.lt⟩

theorem Strm.on {w w1 : World} {N M : Nat} {kv nv : Value} {zk zn : Nat → Nat} {j : Nat} (t : Strm w N M kv nv zk zn j) (hb : Below w.heap.size w w1) : Strm w1 N M kv nv zk zn j := by
  have l1 := t.s.lt
  obtain ⟨p, L, c, h1, h2, h3, h4, h5, h6, h7⟩ := t.l
  exact ⟨t.s.below hb l1, p, L, c, by rw [(bcell hb).1 _ _ l1]; exact h1, h2, h3, h4, h5, h6, fun h => by obtain ⟨g, off, e, hg, hB⟩ := h7 h; exact ⟨g, off, e, hg, hB.below hb hB.lt⟩⟩
theorem Strm.alloc {w : World} {N M : Nat} {kv nv : Value} {zk zn : Nat → Nat} {j : Nat} (t : Strm w N M kv nv zk zn j) (o : Obj) : Strm (w.alloc o) N M kv nv zk zn j := t.on ((Below.refl w.heap.size w).alloc (Nat.le_refl _) o)
theorem Strm.setO {w : World} {N M : Nat} {kv nv : Value} {zk zn : Nat → Nat} {j : Nat} (t : Strm w N M kv nv zk zn j) (hM : N + 3 < M) (i : Nat) (v : Value) : Strm (w.setCell ⟨M, i, none⟩ v) N M kv nv zk zn j := by
  obtain ⟨⟨a1, a2, a3, a4, a5, a6⟩, p, L, c, h1, h2, h3, h4, h5, h6, h7⟩ := t
  have n0 : M ≠ N := by omega
  have n1 : M ≠ N + 1 := by omega
  have n2 : M ≠ N + 2 := by omega
  have n3 : M ≠ N + 3 := by omega
  exact ⟨⟨by rw [World.cell?_setCell_other _ _ _ _ (by simp [n0])]; exact a1, by rw [World.cell?_setCell_other _ _ _ _ (by simp [n1])]; exact a2, by rw [World.cell?_setCell_other _ _ _ _ (by simp [n2])]; exact a3, by simp [a4], by simp [a5], by simp [a6]⟩, p, L, c, by rw [World.cell?_setCell_other _ _ _ _ (by simp [n3])]; exact h1, h2, h3, h4, h5, h6, fun h => by obtain ⟨g, off, e, hg, hB⟩ := h7 h; exact ⟨g, off, e, hg, hB.far (by omega) _ _⟩⟩

set_option maxHeartbeats 4000000 in
theorem next_core (N M kb ko kc nb no nc j : Nat) (hkc : 32 ≤ kc) (hnc : 12 ≤ nc) (zk zn : Nat → Nat) (hzk : ∀ i, zk i < 256) (hzn : ∀ i, zn i < 256) (hj : j ≤ 1000000000) (w : World) (hN2 : 2 ≤ N) (hM : N + 3 ≤ M) (hMw : M < w.heap.size) (hT : Tabs w) (hK : Bys w kb ko 32 zk) (hkN : kb < N) (hNn : Bys w nb no 12 zn) (hnN : nb < N)
    (hs : Strm w N M (.slice (some ⟨kb, ko, none⟩) 32 kc) (.slice (some ⟨nb, no, none⟩) 12 nc) zk zn j) :
    Calls Tryd.prog 52 #[.pointer (some ⟨N + 3, 0, none⟩), .pointer (some ⟨N, 0, none⟩), .pointer (some ⟨N + 1, 0, none⟩), .pointer (some ⟨N + 2, 0, none⟩)] w fun e w' => e = .returned (.int .u8 (strB zk zn (j / 64) (j % 64) : Nat)) ∧ Strm w' N M (.slice (some ⟨kb, ko, none⟩) 32 kc) (.slice (some ⟨nb, no, none⟩) 12 nc) zk zn (j + 1) ∧ Kp N w w' ∧ Below N w w' := by
  obtain ⟨hS, p, L, c, hcl, hLc, hL64, hLj, hL0, hL1, hLb⟩ := hs
  obtain ⟨kv, hkv⟩ : ∃ v : Value, Hid (.slice (some ⟨kb, ko, none⟩) 32 kc = v) := ⟨_, rfl⟩
  obtain ⟨nv, hnv⟩ : ∃ v : Value, Hid (.slice (some ⟨nb, no, none⟩) 12 nc = v) := ⟨_, rfl⟩
  have q1 := hS.ck
  have q2 := hS.cn
  have q3 := hS.cc
  have q4 := hS.fc
  have q5 := hS.fl
  have q6 := hS.lt
  obtain ⟨cnt, hcnt⟩ : ∃ v, Hid (1 + (j + 63) / 64 = v) := ⟨_, rfl⟩
  rw [hcnt.out] at hS q3
  have hcl' : cnt < 4294967296 := by have := hcnt.out; omega
  have c1 := block_core kb ko kc nb no nc cnt hkc hnc hcl' zk zn hzk hzn w hT hK hNn
  have hS' : Hid (SL w N (.slice (some ⟨kb, ko, none⟩) 32 kc) (.slice (some ⟨nb, no, none⟩) 12 nc) zk zn j cnt) := hS
  have hK' : Hid (0 < L → ∃ g off, p = some ⟨g, off, none⟩ ∧ M < g ∧ Bys w g off L (fun i => strB zk zn (j / 64) (j % 64 + i))) := hLb
  clear hS hLb hT hK hNn hzk hzn hkv hnv
  go_enter Tryd.func52, Tryd.ntmps52
  go_upto_if 8 with (fail)
  go_cut [4] from 5 to 20 (fun s4 w6 => ∃ g off L' c', s4 = .int .u8 0 ∧ 0 < L' ∧ L' ≤ c' ∧ L' ≤ 64 ∧ Hid ((L' + j) % 64 = 0) ∧ M < g ∧ w6.cell? ⟨N + 3, 0, none⟩ = some (.slice (some ⟨g, off, none⟩) L' c') ∧ Hid (Bys w6 g off L' (fun i => strB zk zn (j / 64) (j % 64 + i))) ∧ Hid (SL w6 N (.slice (some ⟨kb, ko, none⟩) 32 kc) (.slice (some ⟨nb, no, none⟩) 12 nc) zk zn (j + 1) (1 + (j + 1 + 63) / 64)) ∧ Hid (Kp N w w6) ∧ Below N w w6)
  case first =>
    by_cases h0 : L = 0
    · have hj64 := hL0 h0
      have hc2 : Hid (lowBy (Ob.chaB (wordAt zk) (wordAt zn) cnt) = strB zk zn (j / 64)) := by
        show _ = _
        unfold strB
        rw [← hcnt.out, show 1 + (j + 63) / 64 = 1 + j / 64 by omega]
      rw [hc2.out] at c1
      obtain ⟨cnt', hcn, ecn⟩ : ∃ v : Nat, Hid (1 + (j + 1 + 63) / 64 = v) ∧ IntKind.u32.wrap ((cnt : Int) + 1) = (v : Int) := ⟨1 + (j + 1 + 63) / 64, rfl, by rw [IntKind.wrap_u32]; have := hcnt.out; omega⟩
      subst h0
      clear hL0 hL1 hLj
      go_wp2_with (go_at_call 20; with_reducible refine c1.mono ?_; rintro e W1 ⟨g, rfl, lg, o1, b1⟩; have hS1 := hS'.out.below b1 q6; have r1 := hS1.cc; have r2 := hS1.fc; have r3 := hS1.fl; have r4 := hS1.lt; have r5 := (bcell b1).1 (N + 3) 0 q6; rw [hcl] at r5)
      have hS2 := ((hS1.setL (.slice (some ⟨g, 0, none⟩) 64 64)).setC cnt').re (j + 1)
      have hK2 : Kp N w ((W1.setCell ⟨N + 3, 0, none⟩ (.slice (some ⟨g, 0, none⟩) 64 64)).setCell ⟨N + 2, 0, none⟩ (.int .u32 (cnt' : Nat))) := (((Kp.refl N w).below b1).set (Or.inr rfl) _).set (Or.inl rfl) _
      have hB2 : Below N w ((W1.setCell ⟨N + 3, 0, none⟩ (.slice (some ⟨g, 0, none⟩) 64 64)).setCell ⟨N + 2, 0, none⟩ (.int .u32 (cnt' : Nat))) := ((b1.mono (by omega)).setCell (Nat.le_add_right _ _) _).setCell (Nat.le_add_right _ _) _
      have hBy := ((bys_of_row o1).far (b' := N + 3) (by omega) 0 (.slice (some ⟨g, 0, none⟩) 64 64)).far (b' := N + 2) (by omega) 0 (.int .u32 (cnt' : Nat))
      go_meet
      case rel => exact ⟨g, 0, 64, 64, rfl, by decide, by decide, by decide, by show _ = _; omega, by omega, by rw [World.cell?_setCell_other _ _ _ _ (by simp)]; exact World.cell?_setCell_same _ _ _ r5, ⟨hBy.lt, fun i hi => by have e := hBy.at_ i hi; rw [hj64, Nat.zero_add i]; rw [Nat.zero_add i] at e; exact e⟩, by rw [hcn.out]; exact hS2, hK2, hB2⟩
    · have h0' : ¬ (L : Int) = 0 := by omega
      obtain ⟨g, off, rfl, hg, hBy⟩ := hK'.out (by omega)
      have hcn : Hid (cnt = 1 + (j + 1 + 63) / 64) := by show _ = _; rw [← hcnt.out]; have : ¬ j % 64 = 0 := fun h => h0 (hL1 h); omega
      go_wp2
      go_meet
      case rel => exact ⟨g, off, L, c, rfl, by omega, hLc, hL64, hLj, hg, hcl, hBy, by rw [← hcn.out]; exact hS'.out.re (j + 1), Kp.refl _ _, Below.refl _ _⟩
  case rest =>
    clear hS' hK' hcl q1 q2 q3 q4 q5 q6 c1 hLc hL64 hLj hL0 hL1 hcnt hcl'
    obtain ⟨g, off, L', c', rfl, h0, h1, h64, hLj, hg, hcl, hBy, hS6, hK6, hB6⟩ := hcut
    have hb0 := hBy.out.at_ 0 h0
    simp only [Nat.add_zero] at hb0
    have r1 := hS6.out.fl
    have r2 := hS6.out.lt
    have i0 : (0 : Int) < (L' : Int) := by omega
    have i1 : (1 : Int) ≤ (L' : Int) := by omega
    obtain ⟨x, hx⟩ : ∃ x, Hid (strB zk zn (j / 64) (j % 64) = x) := ⟨_, rfl⟩
    rw [hx.out] at hb0
    go_upto_region 5 with (fail)
    go_upto_region 6 with (fail)
    obtain ⟨p', hp'⟩ : ∃ p' : Option Addr, Hid ((if c' = 1 then some ⟨g, off, none⟩ else some ⟨g, off + 1, none⟩) = p') := ⟨_, rfl⟩
    rw [hp'.out]
    have hS7 := hS6.out.setL (.slice p' (L' - 1) (c' - 1))
    have hK7 := hK6.out.set (Or.inr rfl) (.slice p' (L' - 1) (c' - 1))
    have hB7 : Below N w (wc.setCell ⟨N + 3, 0, none⟩ (.slice p' (L' - 1) (c' - 1))) := hB6.setCell (Nat.le_add_right _ _) _
    have hl7 : (wc.setCell ⟨N + 3, 0, none⟩ (.slice p' (L' - 1) (c' - 1))).cell? ⟨N + 3, 0, none⟩ = some (.slice p' (L' - 1) (c' - 1)) := World.cell?_setCell_same _ _ _ hcl
    have hBy7 := hBy.out.far (b' := N + 3) (by omega) 0 (.slice p' (L' - 1) (c' - 1))
    go_wp2
    go_ret
    refine ⟨by rw [hx.out]; rfl, ⟨hS7, p', L' - 1, c' - 1, hl7, by omega, by omega, by have := hLj.out; omega, fun h => by have := hLj.out; omega, fun h => by have := hLj.out; omega, fun h => ?_⟩, hK7, hB7⟩
    have hlj := hLj.out
    have hpe : p' = some ⟨g, off + 1, none⟩ := by
      rw [← hp'.out, if_neg (by omega)]
    refine ⟨g, off + 1, hpe, hg, hBy7.lt, fun i hi => ?_⟩
    have := hBy7.at_ (1 + i) (by omega)
    rw [Nat.add_assoc, this]
    have e1 : (j + 1) / 64 = j / 64 := by omega
    have e2 : (j + 1) % 64 = j % 64 + 1 := by omega
    rw [e1, e2, Nat.add_assoc]
end Go.Proofs.YtdaonbfdcpkipaaDoor

namespace Go.Proofs.YtdaonbfdcpkipaaDoor
open Go.RowKit Go.Proofs
set_option linter.unusedVariables false
set_option linter.unusedSimpArgs false
attribute [local go_sem ↓] Go.wp_at_zero Go.wp_at_succ

/-- make([]byte, 0, m). -/
theorem make_roomN (m : Nat) (hm : m ≤ 100000000) (w : World) : ∃ w', (Instr.makeSlice 22 (.int .i64 0) (.int .i64 (m : Nat))).run Tryd.prog w = .ok (.slice (some ⟨w.heap.size, 0, none⟩) 0 m) w' ∧ Hid (Arr w' .u8 w.heap.size m (fun _ => 0)) ∧ Below w.heap.size w w' ∧ w'.heap.size = w.heap.size + 1 := by
  obtain ⟨i0, hi, hz1, hz2, hz0⟩ := byteInfo
  have h := run_make (P := Tryd.prog) w 22 5 i0 _ Tryd.underlying22 hi hz0 .i64 .i64 0 (m : Nat) (by omega) (by omega) (by rw [hz2]; omega) (by omega)
  rw [hz1] at h
  have e : madeCells (Value.int .u8 0).cells (Int.toNat (m : Nat) * 1) = (arrL .u8 (fun _ => 0) m).toArray := by
    rw [Int.toNat_natCast, Nat.mul_one]
    apply Array.ext'
    simp [madeCells, Value.cells, Nat.mod_one, arrL]
  rw [e] at h
  simp only [Int.toNat_natCast] at h
  exact ⟨_, h, Arr.new rfl, (Below.refl _ _).alloc (Nat.le_refl _) _, World.size_alloc _ _⟩

set_option maxHeartbeats 1000000 in
theorem stream_core (kb ko kc nb no nc : Nat) (zk zn : Nat → Nat) (w : World) :
    Calls Tryd.prog 44 #[.slice (some ⟨kb, ko, none⟩) 32 kc, .slice (some ⟨nb, no, none⟩) 12 nc, .int .u32 1] w fun e w' => e = .returned (.func (.func 52) #[] #[.pointer (some ⟨w.heap.size + 3, 0, none⟩), .pointer (some ⟨w.heap.size, 0, none⟩), .pointer (some ⟨w.heap.size + 1, 0, none⟩), .pointer (some ⟨w.heap.size + 2, 0, none⟩)]) ∧ (∀ M, Strm w' w.heap.size M (.slice (some ⟨kb, ko, none⟩) 32 kc) (.slice (some ⟨nb, no, none⟩) 12 nc) zk zn 0) ∧ Below w.heap.size w w' := by
  go_enter Tryd.func44, Tryd.ntmps44
  go_wp2
  go_ret
  refine ⟨rfl, fun M => ⟨⟨?_, ?_, ?_, ?_, ?_, ?_⟩, none, 0, 0, ?_, Nat.le_refl _, by decide, rfl, fun _ => rfl, fun _ => rfl, fun h => absurd h (by decide)⟩, by (repeat' (first | (with_reducible first | exact Below.refl _ _ | assumption | refine Below.alloc ?_ ?_ _ | refine Below.drew ?_ | refine below_drewN ?_ _ | refine Below.setCell ?_ ?_ _ | refine below_via (by with_reducible assumption) ?_ ?_) | omega | (simp only [szs]; omega) | (simp only [szs] at *; omega)))⟩
  all_goals simp [go_sem]

set_option maxHeartbeats 4000000 in
theorem crossed_core (kb ko kc nb no nc n c : Nat) (hkc : 32 ≤ kc) (hnc : 12 ≤ nc) (zk zn z : Nat → Nat) (hzk : ∀ i, zk i < 256) (hzn : ∀ i, zn i < 256) (hz : ∀ i, z i < 256) (hn : n ≤ 10000000) (a : Option Addr) (w : World) (hT : Tabs w) (hK : Bys w kb ko 32 zk) (hNn : Bys w nb no 12 zn) (hS : Src w a n z) :
    Calls Tryd.prog 27 #[.slice (some ⟨kb, ko, none⟩) 32 kc, .slice (some ⟨nb, no, none⟩) 12 nc, .slice a n c] w fun e w' => ∃ g f, e = .returned (.slice (some ⟨g, 0, none⟩) n (n + 16)) ∧ w.heap.size ≤ g ∧ Arr w' .u8 g (n + 16) f ∧ (∀ i, i < n → f i = Ob.strX zk zn z i) ∧ Below w.heap.size w w' := by
  have c1 := stream_core kb ko kc nb no nc zk zn w
  have hT' : Hid (Tabs w) := hT
  have hK' : Hid (Bys w kb ko 32 zk) := hK
  have hN' : Hid (Bys w nb no 12 zn) := hNn
  have hS' : Hid (Src w a n z) := hS
  have hk' : Hid (∀ i, zk i < 256) := hzk
  have hn' : Hid (∀ i, zn i < 256) := hzn
  have hz' : Hid (∀ i, z i < 256) := hz
  clear hT hK hNn hS hzk hzn hz
  obtain ⟨N, hN⟩ : ∃ N, Hid (w.heap.size = N) := ⟨_, rfl⟩
  rw [hN.out] at c1 ⊢
  have hTl : 2 ≤ N := by have := hT'.out.lt; rw [hN.out] at this; exact this
  have hkl : kb < N := by have := hK'.out.lt; rw [hN.out] at this; exact this
  have hnl : nb < N := by have := hN'.out.lt; rw [hN.out] at this; exact this
  obtain ⟨F, hF⟩ : ∃ F, Hid (Ob.strX zk zn z = F) := ⟨_, rfl⟩
  rw [hF.out]
  obtain ⟨m, hm, em⟩ : ∃ m : Nat, Hid (n + 16 = m) ∧ IntKind.i64.wrap ((n : Int) + 16) = (m : Int) := ⟨n + 16, rfl, by rw [IntKind.wrap_i64]; omega⟩
  rw [hm.out]
  have hml : n < m := by have := hm.out; omega
  go_enter Tryd.func27, Tryd.ntmps27
  go_upto_region 2 with (go_at_call 44; with_reducible refine c1.mono ?_; rintro e W1 ⟨rfl, s1, b1⟩)
  obtain ⟨W2, hmk, tO, b2, z2⟩ := make_roomN m (by have := hm.out; omega) W1
  have l1 := (s1 0).s.lt
  have hsz : Hid (∀ W, Below N w W → N ≤ W.heap.size) := fun W h => by have := h.size; have := hN.out; omega
  have s2 : Hid (Strm W2 N W1.heap.size (.slice (some ⟨kb, ko, none⟩) 32 kc) (.slice (some ⟨nb, no, none⟩) 12 nc) zk zn 0) := (s1 _).on b2
  have hB2 : Below N w W2 := below_via b2 b1 (hsz.out _ b1)
  obtain ⟨O, hO⟩ : ∃ O, Hid (W1.heap.size = O) := ⟨_, rfl⟩
  rw [hO.out] at hmk tO l1 s2
  have tO0 : Hid (Arr W2 .u8 O m (layI F 0)) := by rw [layI_zero]; exact tO
  clear tO z2 b2 s1 b1 c1
  go_upto_region 3 with (fail)
  clear hmk
  go_wp2
  go_loopw [8, 20] (fun s8 s20 wr => ∃ i : Nat, i ≤ n ∧ s20 = .int .i64 (i : Nat) ∧ s8 = .slice (some ⟨O, 0, none⟩) i m ∧ Hid (Strm wr N O (.slice (some ⟨kb, ko, none⟩) 32 kc) (.slice (some ⟨nb, no, none⟩) 12 nc) zk zn i) ∧ Hid (Arr wr .u8 O m (layI F i)) ∧ Below N w wr) (fun _ s20 _ => n - (intOf s20).toNat)
  case atStart => exact ⟨0, by omega, rfl, rfl, s2, tO0, hB2⟩
  case round =>
    clear s2 tO0 hB2
    obtain ⟨i, hi, rfl, rfl, hs, tO, hB⟩ := hrel
    by_cases hlt : i < n
    · have hBw : Below w.heap.size w wr := by rw [hN.out]; exact hB
      obtain ⟨tb, tf, rfl, hTx⟩ : ∃ tb tf, a = some ⟨tb, tf, none⟩ ∧ Bys wr tb tf n z := by
        rcases hS'.out.below hBw with h | ⟨b, off, h, hB'⟩
        · omega
        · exact ⟨b, off, h, hB'⟩
      have p0 := hTx.at_ i hlt
      have lO := tO.out.lt
      have cn := next_core N O kb ko kc nb no nc i hkc hnc zk zn hk'.out hn'.out (by omega) wr hTl (by omega) lO (hT'.out.below hB hTl) (hK'.out.below hBw hK'.out.lt) hkl (hN'.out.below hBw hN'.out.lt) hnl hs.out
      have i0 : (i : Int) < (n : Int) := by omega
      have i1 : (0 : Int) ≤ (i : Int) := by omega
      obtain ⟨t, ht⟩ : ∃ t, Hid (z i = t) := ⟨_, rfl⟩
      obtain ⟨k, hk⟩ : ∃ k, Hid (strB zk zn (i / 64) (i % 64) = k) := ⟨_, rfl⟩
      have htl : t < 256 := by rw [← ht.out]; exact hz'.out i
      have hkl' : k < 256 := by rw [← hk.out]; exact lowBy_lt _ _
      obtain ⟨v, hv, ev⟩ : ∃ v : Nat, Hid (t ^^^ k = v) ∧ bits .xor .u8 (t : Int) (k : Int) = (v : Int) := ⟨_, rfl, xor_u8 t k htl hkl'⟩
      have hvE : Hid (F i = v) := by
        show _ = _
        rw [← hF.out, ← hv.out, ← ht.out, ← hk.out]
        rfl
      rw [ht.out] at p0
      rw [hk.out] at cn
      obtain ⟨i', hi'⟩ : ∃ i', Hid (i + 1 = i') := ⟨_, rfl⟩
      have him : i < m := by omega
      clear hTx hBw
      go_upto_region 6 with (fail)
      go_upto_region 7 with (first | (go_at_call 52; with_reducible refine cn.mono ?_; rintro e W3 ⟨rfl, s3, k3, b3⟩; have tO3 := (tO.out.kp k3 (by omega) (by omega)).alloc (.cells #[.int .u8 (v : Nat)] 5); have hx3 : (W3.alloc (.cells #[.int .u8 (v : Nat)] 5)).cell? ⟨W3.heap.size, 0, none⟩ = some (.int .u8 (v : Nat)) := by simp [go_sem]) | (at_builtin; refine wpList_appRoom rfl _ _ rfl tO3 him hi'.out W3.heap.size 1 v hx3 rfl rfl ?_))
      have s4 := (s3.alloc (.cells #[.int .u8 (v : Nat)] 5)).setO (by omega) i (.int .u8 (v : Nat))
      have t4 := tO3.set (i := i) (z := v) him
      rw [← hvE.out, layI_succ, hvE.out] at t4
      have hB3 := hB.trans b3
      have hB4 : Below N w ((W3.alloc (.cells #[.int .u8 (v : Nat)] 5)).setCell ⟨O, i, none⟩ (.int .u8 (v : Nat))) := (hB3.alloc (hsz.out _ hB3) _).setCell (by show N ≤ O; omega) _
      clear s3 tO3 hx3 k3 b3 hB3 cn tO hs hB p0
      generalize (W3.alloc (.cells #[.int .u8 (v : Nat)] 5)).setCell ⟨O, i, none⟩ (.int .u8 (v : Nat)) = W4 at *
      have s4' : Hid (Strm W4 N O (.slice (some ⟨kb, ko, none⟩) 32 kc) (.slice (some ⟨nb, no, none⟩) 12 nc) zk zn (i + 1)) := s4
      have t4' : Hid (Arr W4 .u8 O m (layI F (i + 1))) := t4
      clear s4 t4
      go_wp2
      go_roundw
      case rel => exact ⟨i + 1, by omega, by go_num, by rw [hi'.out], s4', t4', hB4⟩
      case measure => (simp only [intOf, Int.toNat_natCast]; omega)
    · obtain rfl : i = n := by omega
      go_wp2
      go_ret
      exact ⟨O, layI F i, rfl, by omega, tO.out, fun j hj => by unfold layI; rw [if_pos hj], hB⟩
end Go.Proofs.YtdaonbfdcpkipaaDoor

namespace Go.Proofs.YtdaonbfdcpkipaaDoor
open Go.RowKit Go.Proofs
set_option linter.unusedVariables false
set_option linter.unusedSimpArgs false

theorem src_str {w : World} {a : Option Addr} {n : Nat} {z : Nat → Nat} (h : Src w a n z) (cap : Nat) : (convert 22 9 (.slice a n cap)).run Tryd.prog w = .ok (.string (strOfNums (nums z n))) w := by
  by_cases h0 : n = 0
  · subst h0
    rw [run_convert_bytes_string w 22 9 5 a 0 cap Tryd.underlying22 Tryd.underlying5 Tryd.underlying9]
    cases a with
    | none => simp [Conv.bytesToString]; rfl
    | some x =>
      rw [run_bytesToString w x 0 cap [] (by simpa using run_loadCells_list (P := Tryd.prog) w x [] (by simp))]
      rfl
  · rcases h with h | ⟨b, off, rfl, hB⟩
    · exact absurd h h0
    · exact bys_str b off n cap z w hB

/-- A string of bytes. -/
def bst (z : Nat → Nat) (n : Nat) : ByteArray := strOfNums (nums z n)
theorem bst_size (z : Nat → Nat) (n : Nat) : (bst z n).size = n := by unfold bst; rw [strOfNums_size]; simp [nums]
theorem bst_congr {f g : Nat → Nat} {n : Nat} (h : ∀ i, i < n → f i = g i) : bst f n = bst g n := by
  unfold bst
  rw [nums_congr _ _ _ h]
theorem bst_inj {f g : Nat → Nat} {n : Nat} (hf : ∀ i, i < n → f i < 256) (hg : ∀ i, i < n → g i < 256) (h : bst f n = bst g n) : ∀ i, i < n → f i = g i := fun i hi => by
  have h1 : (strOfNums (nums f n)).data.toList = (strOfNums (nums g n)).data.toList := by
    have : strOfNums (nums f n) = strOfNums (nums g n) := h
    rw [this]
  rw [strOfNums_data, strOfNums_data] at h1
  have h2 := congrArg (·[i]?) h1
  simp only [nums, List.map_map, List.getElem?_map, List.getElem?_range hi, Option.map_some, Function.comp, Option.some.injEq, Int.toNat_natCast] at h2
  have h3 := congrArg UInt8.toNat h2
  rw [UInt8.toNat_ofNat_of_lt' (hf i hi), UInt8.toNat_ofNat_of_lt' (hg i hi)] at h3
  exact h3
theorem bst_join (f g : Nat → Nat) (n m : Nat) : bst f n ++ bst g m = bst (fun j => if j < n then f j else g (j - n)) (n + m) := by
  unfold bst
  rw [strOfNums_append, nums_add _ n m]
  congr 2
  · exact nums_congr _ _ _ fun i hi => by rw [if_pos hi]
  · exact nums_congr _ _ _ fun i hi => by rw [if_neg (by omega), show n + i - n = i by omega]
end Go.Proofs.YtdaonbfdcpkipaaDoor

namespace Ob
set_option linter.unusedVariables false
set_option linter.unusedSimpArgs false
/-- The mark's number of data and a sealed text. -/
def sealN (zk zn z1 : Nat → Nat) (n1 : Nat) (z2 : Nat → Nat) (n2 : Nat) : Nat := markN (Go.Proofs.YtdaonbfdcpkipaaDoor.lowBy (chaB (Go.Proofs.YtdaonbfdcpkipaaDoor.wordAt zk) (Go.Proofs.YtdaonbfdcpkipaaDoor.wordAt zn) 0)) (allX z1 n1 z2 n2) (allN n1 n2)
theorem markN_lt (zk z : Nat → Nat) (n : Nat) : markN zk z n < 256 ^ 16 := Nat.mod_lt _ (by decide)
theorem padX_congr {f g : Nat → Nat} {n : Nat} (h : ∀ i, i < n → f i = g i) : padX f n = padX g n := by
  funext j
  unfold padX
  split
  · rename_i hj; exact h j hj
  · rfl
theorem sealN_congr {zk zn z1 f g : Nat → Nat} {n1 n : Nat} (h : ∀ i, i < n → f i = g i) : sealN zk zn z1 n1 f n = sealN zk zn z1 n1 g n := by
  unfold sealN allX
  rw [padX_congr h]
/-- Digits that tell a mark. -/
theorem mark_digits {d : Nat → Nat} {V : Nat} (hd : ∀ i, d i < 256) (hV : V < 256 ^ 16) (h : valD d 16 = V) (i : Nat) (hi : i < 16) : d i = lenD V i :=
  valD_inj hd (lenD_lt V) (by rw [h, lenD_val, Nat.mod_eq_of_lt hV]) i hi
/-- A text sealed. -/
def sealX (zk zn z1 : Nat → Nat) (n1 : Nat) (z : Nat → Nat) (n : Nat) : Nat → Nat := joinX (strX zk zn z) n (lenD (sealN zk zn z1 n1 (strX zk zn z) n))
end Ob
namespace Go.Proofs.YtdaonbfdcpkipaaDoor
open Go.RowKit Go.Proofs
set_option linter.unusedVariables false
set_option linter.unusedSimpArgs false
attribute [local go_sem ↓] Go.wp_at_zero Go.wp_at_succ

theorem strX_lt {zk zn z : Nat → Nat} (hz : ∀ i, z i < 256) (i : Nat) : Ob.strX zk zn z i < 256 := xor_lt8 (hz i) (lowBy_lt _ _)
theorem Arr.setRow {g cap : Nat} : ∀ (l : List Nat) (o : Nat) (w : World) (z : Nat → Nat), Arr w .u8 g cap z → o + l.length ≤ cap → Arr (w.setCells g o (l.map fun x => Value.int .u8 (x : Nat))) .u8 g cap (fun j => if o ≤ j ∧ j < o + l.length then l.getD (j - o) 0 else z j)
  | [], o, w, z, t, _ => t.congr fun j _ => by rw [if_neg (by simp)]
  | x :: r, o, w, z, t, h => by
    have h' : o + (r.length + 1) ≤ cap := h
    have := Arr.setRow r (o + 1) _ _ (t.set (i := o) (z := x) (by omega)) (by omega)
    refine this.congr fun j hj => ?_
    have hl : (x :: r).length = r.length + 1 := rfl
    rw [hl]
    unfold Ob.upd
    by_cases h1 : j = o
    · subst h1
      rw [if_neg (by omega), if_pos rfl, if_pos (by omega), Nat.sub_self]
      rfl
    · by_cases h2 : o + 1 ≤ j ∧ j < o + 1 + r.length
      · rw [if_pos h2, if_pos (by omega), show j - o = j - (o + 1) + 1 by omega]
        rfl
      · rw [if_neg h2, if_neg h1, if_neg (by omega)]

/-- Bytes behind a row that has room for them. -/
theorem wpList_appRow {ops : Array Oper} {rest : List Oper} {o : Oper} {a : Act} {w : World} {Q : Exit → Act → World → Prop} (hgd : o.guard = none) (s x : Operand)
    (ho : o.op = .call { callee := .builtin .append, args := #[s, x], argTypes := #[22, 22] }) {g len m cap : Nat} {z d : Nat → Nat} (t : Arr w .u8 g cap z) (hl : len + m ≤ cap) (g1 c1 : Nat) (hy : Bys w g1 0 m d)
    (hs : a.eval s = .slice (some ⟨g, 0, none⟩) len cap) (hx' : a.eval x = .slice (some ⟨g1, 0, none⟩) m c1)
    (h : ∀ w', Hid (w' = w.setCells g len (vals d m)) → Hid (Arr w' .u8 g cap (fun j => if len ≤ j ∧ j < len + m then d (j - len) else z j)) → w'.heap.size = w.heap.size → wpList Tryd.prog ops Q rest (a.put o.dst (.slice (some ⟨g, 0, none⟩) (len + m) cap)) w') : wpList Tryd.prog ops Q (o :: rest) a w := by
  refine wpList_plain hgd fun K hK => ?_
  obtain ⟨i0, hi, hz1, hz2, hz0⟩ := byteInfo
  have src : Go.Src Tryd.prog i0.size 22 (.slice (some ⟨g1, 0, none⟩) m c1) m (vals d m) w :=
    Go.Src.ofSlice w Tryd.underlying22 _ m c1 _ (by rw [hz1]; simp [vals]) (fun j u h => bys_news hy j u h) (vals_one d m)
  have hr := run_append_room_src w 22 22 o.type 5 i0 Tryd.underlying22 hi g 0 len cap _ m _ src hl
      (fun j hj => by
        have hj' : j < m := by simpa [vals] using hj
        rw [hz1, Nat.zero_add, Nat.mul_one, t.c (len + j) (by omega)]
        rfl)
      (fun j hj => by
        have hj' : j < m := by simpa [vals] using hj
        rw [hz1, Nat.zero_add, Nat.mul_one]
        exact t.f (len + j) (by omega))
  rw [hz1, Nat.zero_add, Nat.mul_one] at hr
  have hA : Arr (w.setCells g len (vals d m)) .u8 g cap (fun j => if len ≤ j ∧ j < len + m then d (j - len) else z j) := by
    have h1 := Arr.setRow ((List.range m).map d) len w z t (by simpa using hl)
    have e : ((List.range m).map d).map (fun x => Value.int .u8 (x : Nat)) = vals d m := by simp [vals]
    rw [e] at h1
    refine h1.congr fun j hj => ?_
    simp only [List.length_map, List.length_range]
    split
    · rename_i hh
      rw [List.getD_eq_getElem?_getD, List.getElem?_map, List.getElem?_range (by omega)]
      rfl
    · rfl
  unfold Oper.wp execOp
  simp only [ho, resolve, invoke, builtin, Sem.run_bind, Sem.run_pure, Result.andThen_ok, List.map_toArray, List.map_cons, List.map_nil, hs, hx', hr]
  exact hK _ _ (h _ rfl hA (setCells_size _ _ _ _))

set_option maxHeartbeats 4000000 in
theorem sealW (kb ko kc nb no nc c1 n1 c2 n2 : Nat) (hkc : 32 ≤ kc) (hnc : 12 ≤ nc) (zk zn z1 z2 : Nat → Nat) (hzk : ∀ i, zk i < 256) (hzn : ∀ i, zn i < 256) (h1 : ∀ i, z1 i < 256) (h2 : ∀ i, z2 i < 256) (hn1 : n1 ≤ 1000000) (hn2 : n2 ≤ 1000000) (a1 a2 : Option Addr) (w : World) (hT : Tabs w) (hK : Bys w kb ko 32 zk) (hNn : Bys w nb no 12 zn) (hS1 : Src w a1 n1 z1) (hS2 : Src w a2 n2 z2) :
    Calls Tryd.prog 15 #[.slice (some ⟨kb, ko, none⟩) 32 kc, .slice (some ⟨nb, no, none⟩) 12 nc, .slice a1 n1 c1, .slice a2 n2 c2] w fun e w' => ∃ g, e = .returned (.tuple #[.slice (some ⟨g, 0, none⟩) (n2 + 16) (n2 + 16), .nilIface]) ∧ w.heap.size ≤ g ∧ Arr w' .u8 g (n2 + 16) (Ob.sealX zk zn z1 n1 z2 n2) ∧ Below w.heap.size w w' := by
  have c0 := fitYes (some ⟨kb, ko, none⟩) (some ⟨nb, no, none⟩) kc nc w
  have cx := crossed_core kb ko kc nb no nc n2 c2 hkc hnc zk zn z2 hzk hzn h2 (by omega) a2 w hT hK hNn hS2
  have cm : ∀ (W : World) (g : Nat), Below w.heap.size w W → Bys W g 0 n2 (Ob.strX zk zn z2) → Calls Tryd.prog 28 #[.slice (some ⟨kb, ko, none⟩) 32 kc, .slice (some ⟨nb, no, none⟩) 12 nc, .slice a1 n1 c1, .slice (some ⟨g, 0, none⟩) n2 (n2 + 16)] W fun e w' => ∃ g, e = .returned (.slice (some ⟨g, 0, none⟩) 16 16) ∧ MarkAt W g (Ob.sealN zk zn z1 n1 (Ob.strX zk zn z2) n2) w' := fun W g hb hy =>
    sealMark_core kb ko kc nb no nc c1 n1 (n2 + 16) n2 hkc hnc zk zn z1 (Ob.strX zk zn z2) hzk hzn h1 (strX_lt h2) hn1 hn2 a1 (some ⟨g, 0, none⟩) W (hT.on hb) (hK.below hb hK.lt) (hNn.below hb hNn.lt) (hS1.below hb) (Or.inr ⟨g, 0, rfl, hy⟩)
  have hVl : Hid (Ob.sealN zk zn z1 n1 (Ob.strX zk zn z2) n2 < 256 ^ 16) := Ob.markN_lt _ _ _
  have hX : Hid (∀ j, Ob.sealX zk zn z1 n1 z2 n2 j = if j < n2 then Ob.strX zk zn z2 j else Ob.lenD (Ob.sealN zk zn z1 n1 (Ob.strX zk zn z2) n2) (j - n2)) := fun j => rfl
  obtain ⟨V, hV⟩ : ∃ V, Hid (Ob.sealN zk zn z1 n1 (Ob.strX zk zn z2) n2 = V) := ⟨_, rfl⟩
  obtain ⟨F, hF⟩ : ∃ F, Hid (Ob.strX zk zn z2 = F) := ⟨_, rfl⟩
  obtain ⟨G, hG⟩ : ∃ F, Hid (Ob.sealX zk zn z1 n1 z2 n2 = F) := ⟨_, rfl⟩
  rw [hV.out, hF.out, hG.out] at hX
  rw [hV.out] at cm hVl
  rw [hF.out] at cx cm
  rw [hG.out]
  clear hT hK hNn hS1 hS2 hzk hzn h1 h2 hV hF hG
  obtain ⟨m, hm⟩ : ∃ m, Hid (n2 + 16 = m) := ⟨_, rfl⟩
  rw [hm.out] at cx cm ⊢
  go_enter Tryd.func15, Tryd.ntmps15
  go_upto_region 4 with (first | (go_at_call 19; with_reducible refine c0.mono ?_; rintro e w' ⟨rfl, rfl⟩) | (go_at_call 27; with_reducible refine cx.mono ?_; rintro e W1 ⟨g, f, rfl, lg, t1, hf, b1⟩))
  have y1 : Bys W1 g 0 n2 F := ⟨t1.lt, fun i hi => by rw [Nat.zero_add, ← hf i hi]; exact t1.c i (by have := hm.out; omega)⟩
  have cm1 := cm W1 g b1 y1
  unfold MarkAt at cm1
  clear cm cx c0
  go_wp2_with (first | (go_at_call 28; with_reducible refine cm1.mono ?_; rintro e W2 ⟨g2, rfl, d2, lg2, o2, hd2, hv2, b2⟩; have t2 := t1.below b2 t1.lt; have y2 := bys_of_row o2) | (at_builtin; refine wpList_appRow (m := 16) rfl _ _ rfl t2 (Nat.le_of_eq hm.out) g2 16 y2 rfl rfl ?_; intro W3 hW3 t3 z3; rw [hm.out]))
  have hB2 : Below w.heap.size w W2 := below_via b2 b1 b1.size
  have hB3 : Below w.heap.size w W3 := by rw [hW3.out]; exact below_setCells hB2 lg _ _
  go_ret2
  refine ⟨g, rfl, lg, t3.out.congr fun j hj => ?_, hB3⟩
  rw [hX.out j]
  by_cases hj2 : j < n2
  · rw [if_pos hj2, if_neg (by omega), hf j hj2]
  · rw [if_neg hj2, if_pos (by have := hm.out; omega)]
    exact Ob.mark_digits hd2 hVl.out hv2 _ (by have := hm.out; omega)
set_option maxHeartbeats 1000000 in
theorem sealBad (a b : Option Addr) (n m c d : Nat) (h : ¬ (n = 32 ∧ m = 12)) (v v' : Value) (w : World) :
    Calls Tryd.prog 15 #[.slice a n c, .slice b m d, v, v'] w fun e w' => e = .returned (.tuple #[.slice none 0 0, .iface 30 (.int .i64 1)]) ∧ w = w' := by
  have c0 := fitNo a b n m c d h w
  clear h
  go_enter Tryd.func15, Tryd.ntmps15
  go_wp2_with (go_at_call 19; with_reducible refine c0.mono ?_; rintro e w' ⟨rfl, rfl⟩)
  go_ret2
  exact ⟨rfl, rfl⟩
end Go.Proofs.YtdaonbfdcpkipaaDoor

namespace Go.Proofs.YtdaonbfdcpkipaaDoor
open Go.RowKit Go.Proofs
set_option linter.unusedVariables false
set_option linter.unusedSimpArgs false
attribute [local go_sem ↓] Go.wp_at_zero Go.wp_at_succ

/-- Do the last 16 of n + 16 bytes tell the mark of the others? -/
def Opens (zk zn z1 : Nat → Nat) (n1 : Nat) (y : Nat → Nat) (n : Nat) : Prop := ∀ i, i < 16 → y (n + i) = Ob.lenD (Ob.sealN zk zn z1 n1 y n) i
theorem ba_ext : ∀ {a b : ByteArray}, a.data = b.data → a = b
  | ⟨_⟩, ⟨_⟩, rfl => rfl
theorem eqb_yes {f g : Nat → Nat} {n : Nat} (h : ∀ i, i < n → f i = g i) : (Lib.bytesOf (nums f n) == Lib.bytesOf (nums g n)) = true := by
  rw [nums_congr _ _ _ h]
  simp
theorem eqb_no {f g : Nat → Nat} {n : Nat} (hf : ∀ i, i < n → f i < 256) (hg : ∀ i, i < n → g i < 256) (h : ¬ ∀ i, i < n → f i = g i) : (Lib.bytesOf (nums f n) == Lib.bytesOf (nums g n)) = false := by
  rw [beq_eq_false_iff_ne]
  intro e
  apply h
  have e' : (strOfNums (nums f n)).data.toList = (strOfNums (nums g n)).data.toList := e
  refine bst_inj hf hg ?_
  unfold bst
  have e2 : (strOfNums (nums f n)).data = (strOfNums (nums g n)).data := Array.ext' e'
  exact ba_ext e2

set_option maxHeartbeats 4000000 in
/-- Up to the question whether it may be opened. -/
theorem open_core (kb ko kc nb no nc c1 n1 sb so c3 n : Nat) (hkc : 32 ≤ kc) (hnc : 12 ≤ nc) (hc3 : n + 16 ≤ c3) (zk zn z1 y : Nat → Nat) (hzk : ∀ i, zk i < 256) (hzn : ∀ i, zn i < 256) (h1 : ∀ i, z1 i < 256) (hy : ∀ i, y i < 256) (hn1 : n1 ≤ 1000000) (hn : n ≤ 1000000) (a1 : Option Addr) (w : World) (hT : Tabs w) (hK : Bys w kb ko 32 zk) (hNn : Bys w nb no 12 zn) (hS1 : Src w a1 n1 z1) (hS3 : Bys w sb so (n + 16) y) :
    Calls Tryd.prog 18 #[.slice (some ⟨kb, ko, none⟩) 32 kc, .slice (some ⟨nb, no, none⟩) 12 nc, .slice a1 n1 c1, .slice (some ⟨sb, so, none⟩) (n + 16) c3] w fun e w' => (Opens zk zn z1 n1 y n ∧ ∃ g f, e = .returned (.tuple #[.slice (some ⟨g, 0, none⟩) n (n + 16), .nilIface]) ∧ w.heap.size ≤ g ∧ Arr w' .u8 g (n + 16) f ∧ (∀ i, i < n → f i = Ob.strX zk zn y i) ∧ Below w.heap.size w w') ∨ (¬ Opens zk zn z1 n1 y n ∧ e = .returned (.tuple #[.slice none 0 0, .iface 30 (.int .i64 6)]) ∧ Below w.heap.size w w') := by
  have c0 := fitYes (some ⟨kb, ko, none⟩) (some ⟨nb, no, none⟩) kc nc w
  have cm : ∀ W, Below w.heap.size w W → Calls Tryd.prog 28 #[.slice (some ⟨kb, ko, none⟩) 32 kc, .slice (some ⟨nb, no, none⟩) 12 nc, .slice a1 n1 c1, .slice (some ⟨sb, so, none⟩) n c3] W fun e w' => ∃ g, e = .returned (.slice (some ⟨g, 0, none⟩) 16 16) ∧ MarkAt W g (Ob.sealN zk zn z1 n1 y n) w' := fun W hb =>
    sealMark_core kb ko kc nb no nc c1 n1 c3 n hkc hnc zk zn z1 y hzk hzn h1 hy hn1 hn a1 (some ⟨sb, so, none⟩) W (hT.on hb) (hK.below hb hK.lt) (hNn.below hb hNn.lt) (hS1.below hb) (Or.inr ⟨sb, so, rfl, (hS3.below hb hS3.lt).less (by omega)⟩)
  have cx : ∀ W, Below w.heap.size w W → Calls Tryd.prog 27 #[.slice (some ⟨kb, ko, none⟩) 32 kc, .slice (some ⟨nb, no, none⟩) 12 nc, .slice (some ⟨sb, so, none⟩) n c3] W fun e w' => ∃ g f, e = .returned (.slice (some ⟨g, 0, none⟩) n (n + 16)) ∧ W.heap.size ≤ g ∧ Arr w' .u8 g (n + 16) f ∧ (∀ i, i < n → f i = Ob.strX zk zn y i) ∧ Below W.heap.size W w' := fun W hb =>
    crossed_core kb ko kc nb no nc n c3 hkc hnc zk zn y hzk hzn hy (by omega) (some ⟨sb, so, none⟩) W (hT.on hb) (hK.below hb hK.lt) (hNn.below hb hNn.lt) (Or.inr ⟨sb, so, rfl, (hS3.below hb hS3.lt).less (by omega)⟩)
  have hstr : Hid (∀ W, Below w.heap.size w W → (convert 22 9 (.slice (some ⟨sb, so + n, none⟩) 16 (c3 - n))).run Tryd.prog W = .ok (.string (strOfNums (nums (fun i => y (n + i)) 16))) W) := fun W hb => bys_str sb (so + n) 16 (c3 - n) _ W ((hS3.below hb hS3.lt).more n 16 (Nat.le_refl _))
  have hVl : Hid (Ob.sealN zk zn z1 n1 y n < 256 ^ 16) := Ob.markN_lt _ _ _
  have hOp : Hid (Opens zk zn z1 n1 y n ↔ ∀ i, i < 16 → y (n + i) = Ob.lenD (Ob.sealN zk zn z1 n1 y n) i) := Iff.rfl
  have hy' : Hid (∀ i, y i < 256) := hy
  obtain ⟨V, hV⟩ : ∃ V, Hid (Ob.sealN zk zn z1 n1 y n = V) := ⟨_, rfl⟩
  obtain ⟨F, hF⟩ : ∃ F, Hid (Ob.strX zk zn y = F) := ⟨_, rfl⟩
  obtain ⟨O, hO⟩ : ∃ F, Hid (Opens zk zn z1 n1 y n = F) := ⟨_, rfl⟩
  rw [hV.out] at cm hVl
  rw [hO.out, hV.out] at hOp
  rw [hF.out] at cx ⊢
  rw [hO.out]
  clear hT hK hNn hS1 hS3 hzk hzn h1 hy hV hF hO
  unfold MarkAt at cm
  obtain ⟨m, hm⟩ : ∃ m, Hid (n + 16 = m) := ⟨_, rfl⟩
  rw [hm.out] at cx ⊢
  have i0 : ¬ (m : Int) < 16 := by have := hm.out; omega
  have i1 : IntKind.i64.wrap ((m : Int) - 16) = (n : Int) := by rw [IntKind.wrap_i64]; have := hm.out; omega
  have i2 : (0 : Int) ≤ (n : Int) := by omega
  have i3 : (n : Int) ≤ (m : Int) := by have := hm.out; omega
  have i4 : (m : Int) ≤ (c3 : Int) := by have := hm.out; omega
  have i5 : (n : Int) ≤ (c3 : Int) := by omega
  have i6 : c3 ≠ n := by omega
  have i7 : m - n = 16 := by have := hm.out; omega
  have i8 : n ≤ m := by have := hm.out; omega
  go_enter Tryd.func18, Tryd.ntmps18
  go_upto_region 6 with (go_at_call 19; with_reducible refine c0.mono ?_; rintro e w' ⟨rfl, rfl⟩)
  have hBr : Below w.heap.size w w := Below.refl _ _
  refine wp_region_noPanic ?_
  refine region_lastly (S := (fun w' => True)) [] (by kernel_rfl) (by ((try dsimp only); (all_goals exact True.intro))) (fun hHeld => ?_)
  refine anyZ_free (i := 0) (oi := ?oi_1) (v := ?v_1) ?hi_1 ?hs_1 ?hf_1 ?hr_1 ?hQ_1 (Or.inl ⟨?hw_1, ?hy_1⟩) ?hrest_1
  case hi_1 => (simp only [List.getElem?_toArray, List.getElem?_cons_succ, List.getElem?_cons_zero]; exact rfl)
  case hs_1 => kernel_rfl
  case hf_1 => kernel_rfl
  case hr_1 => kernel_rfl
  case hQ_1 => exact fun _ _ _ h => h
  case hw_1 => rfl
  case hy_1 => (intro w _; go_simp; try with_reducible rfl)
  try simp only [Act.put, List.setIfInBounds_toArray, List.set_cons_zero, List.set_cons_succ]
  refine anyZ_free (i := 1) (oi := ?oi_2) (v := ?v_2) ?hi_2 ?hs_2 ?hf_2 ?hr_2 ?hQ_2 (Or.inl ⟨?hw_2, ?hy_2⟩) ?hrest_2
  case hi_2 => (simp only [List.getElem?_toArray, List.getElem?_cons_succ, List.getElem?_cons_zero]; exact rfl)
  case hs_2 => kernel_rfl
  case hf_2 => kernel_rfl
  case hr_2 => kernel_rfl
  case hQ_2 => exact fun _ _ _ h => h
  case hw_2 => rfl
  case hy_2 => (intro w _; go_simp; try with_reducible rfl)
  try simp only [Act.put, List.setIfInBounds_toArray, List.set_cons_zero, List.set_cons_succ]
  refine anyZ_free (i := 2) (oi := ?oi_3) (v := ?v_3) ?hi_3 ?hs_3 ?hf_3 ?hr_3 ?hQ_3 (Or.inl ⟨?hw_3, ?hy_3⟩) ?hrest_3
  case hi_3 => (simp only [List.getElem?_toArray, List.getElem?_cons_succ, List.getElem?_cons_zero]; exact rfl)
  case hs_3 => kernel_rfl
  case hf_3 => kernel_rfl
  case hr_3 => kernel_rfl
  case hQ_3 => exact fun _ _ _ h => h
  case hw_3 => rfl
  case hy_3 => (intro w _; go_simp; try with_reducible rfl)
  try simp only [Act.put, List.setIfInBounds_toArray, List.set_cons_zero, List.set_cons_succ]
  refine anyZ_free (i := 3) (oi := ?oi_4) (v := ?v_4) ?hi_4 ?hs_4 ?hf_4 ?hr_4 ?hQ_4 (Or.inl ⟨?hw_4, ?hy_4⟩) ?hrest_4
  case hi_4 => (simp only [List.getElem?_toArray, List.getElem?_cons_succ, List.getElem?_cons_zero]; exact rfl)
  case hs_4 => kernel_rfl
  case hf_4 => kernel_rfl
  case hr_4 => kernel_rfl
  case hQ_4 => exact fun _ _ _ h => h
  case hw_4 => rfl
  case hy_4 => (intro w _; go_simp; try with_reducible rfl)
  try simp only [Act.put, List.setIfInBounds_toArray, List.set_cons_zero, List.set_cons_succ]
  refine anyZ_free (i := 4) (oi := ?oi_5) (v := ?v_5) ?hi_5 ?hs_5 ?hf_5 ?hr_5 ?hQ_5 (Or.inl ⟨?hw_5, ?hy_5⟩) ?hrest_5
  case hi_5 => (simp only [List.getElem?_toArray, List.getElem?_cons_succ, List.getElem?_cons_zero]; exact rfl)
  case hs_5 => kernel_rfl
  case hf_5 => kernel_rfl
  case hr_5 => kernel_rfl
  case hQ_5 => exact fun _ _ _ h => h
  case hw_5 => rfl
  case hy_5 => (intro w _; go_simp; try with_reducible rfl)
  try simp only [Act.put, List.setIfInBounds_toArray, List.set_cons_zero, List.set_cons_succ]
  refine anyZ_free (i := 5) (oi := ?oi_6) (v := ?v_6) ?hi_6 ?hs_6 ?hf_6 ?hr_6 ?hQ_6 (Or.inl ⟨?hw_6, ?hy_6⟩) ?hrest_6
  case hi_6 => (simp only [List.getElem?_toArray, List.getElem?_cons_succ, List.getElem?_cons_zero]; exact rfl)
  case hs_6 => kernel_rfl
  case hf_6 => kernel_rfl
  case hr_6 => kernel_rfl
  case hQ_6 => exact fun _ _ _ h => h
  case hw_6 => rfl
  case hy_6 => (intro w _; go_simp; try with_reducible rfl)
  try simp only [Act.put, List.setIfInBounds_toArray, List.set_cons_zero, List.set_cons_succ]
  refine anyZ_free (i := 6) (oi := ?oi_7) (v := ?v_7) ?hi_7 ?hs_7 ?hf_7 ?hr_7 ?hQ_7 (Or.inl ⟨?hw_7, ?hy_7⟩) ?hrest_7
  case hi_7 => (simp only [List.getElem?_toArray, List.getElem?_cons_succ, List.getElem?_cons_zero]; exact rfl)
  case hs_7 => kernel_rfl
  case hf_7 => kernel_rfl
  case hr_7 => kernel_rfl
  case hQ_7 => exact fun _ _ _ h => h
  case hw_7 => rfl
  case hy_7 => (intro w _; go_simp; try with_reducible rfl)
  try simp only [Act.put, List.setIfInBounds_toArray, List.set_cons_zero, List.set_cons_succ]
  refine anyZ_free (i := 7) (oi := ?oi_8) (v := ?v_8) ?hi_8 ?hs_8 ?hf_8 ?hr_8 ?hQ_8 (Or.inl ⟨?hw_8, ?hy_8⟩) ?hrest_8
  case hi_8 => (simp only [List.getElem?_toArray, List.getElem?_cons_succ, List.getElem?_cons_zero]; exact rfl)
  case hs_8 => kernel_rfl
  case hf_8 => kernel_rfl
  case hr_8 => kernel_rfl
  case hQ_8 => exact fun _ _ _ h => h
  case hw_8 => rfl
  case hy_8 => (intro w _; go_simp; try with_reducible rfl)
  try simp only [Act.put, List.setIfInBounds_toArray, List.set_cons_zero, List.set_cons_succ]
  refine anyZ_free (i := 8) (oi := ?oi_9) (v := ?v_9) ?hi_9 ?hs_9 ?hf_9 ?hr_9 ?hQ_9 (Or.inl ⟨?hw_9, ?hy_9⟩) ?hrest_9
  case hi_9 => (simp only [List.getElem?_toArray, List.getElem?_cons_succ, List.getElem?_cons_zero]; exact rfl)
  case hs_9 => kernel_rfl
  case hf_9 => kernel_rfl
  case hr_9 => kernel_rfl
  case hQ_9 => exact fun _ _ _ h => h
  case hw_9 => rfl
  case hy_9 => (intro w _; go_simp; try with_reducible rfl)
  try simp only [Act.put, List.setIfInBounds_toArray, List.set_cons_zero, List.set_cons_succ]
  refine anyZ_ready (rs := [9]) (by kernel_rfl) (by simp) ?_
  refine (AllZ.cons (o := ?o_10) ?ho_10 (fun K hK => ?st_10) AllZ.nil)
  case ho_10 => (simp only [List.getElem?_toArray, List.getElem?_cons_succ, List.getElem?_cons_zero]; exact rfl)
  case st_10 =>
    go_simp
    (go_at_call 28; with_reducible refine (cm _ (by (repeat' (first | (with_reducible first | exact Below.refl _ _ | assumption | refine Below.alloc ?_ ?_ _ | refine Below.drew ?_ | refine below_drewN ?_ _ | refine Below.setCell ?_ ?_ _ | refine below_via (by with_reducible assumption) ?_ ?_) | omega | (simp only [szs]; omega) | (simp only [szs] at *; omega))))).mono ?_; rintro e W1 ⟨g1, rfl, d1, lg1, o1, hd1, hv1, b1⟩; have hB1 : Below w.heap.size w W1 := below_via b1 hBr.drew (by simp); have z1 := bys_str g1 0 16 16 d1 W1 (bys_of_row o1))
    refine hK.out _ _ (by ((try dsimp only); (all_goals exact True.intro))) (fun hHeld => ?_)
    clear hK K
    try simp only [Act.put, List.setIfInBounds_toArray, List.set_cons_zero, List.set_cons_succ]
    refine anyZ_ready (rs := [10]) (by kernel_rfl) (by simp) ?_
    refine (AllZ.cons (o := ?o_11) ?ho_11 (fun K hK => ?st_11) AllZ.nil)
    case ho_11 => (simp only [List.getElem?_toArray, List.getElem?_cons_succ, List.getElem?_cons_zero]; exact rfl)
    case st_11 =>
      go_simp
      (go_at_call 31; with_reducible refine (Tryd.bytes_Equal _ _ _ _ _ (hstr.out _ hB1) z1).mono ?_; rintro e w' ⟨rfl, rfl⟩)
      refine hK.out _ _ (by ((try dsimp only); (all_goals exact True.intro))) (fun hHeld => ?_)
      clear hK K
      try simp only [Act.put, List.setIfInBounds_toArray, List.set_cons_zero, List.set_cons_succ]
      refine anyZ_free (i := 11) (oi := ?oi_12) (v := ?v_12) ?hi_12 ?hs_12 ?hf_12 ?hr_12 ?hQ_12 (Or.inl ⟨?hw_12, ?hy_12⟩) ?hrest_12
      case hi_12 => (simp only [List.getElem?_toArray, List.getElem?_cons_succ, List.getElem?_cons_zero]; exact rfl)
      case hs_12 => kernel_rfl
      case hf_12 => kernel_rfl
      case hr_12 => kernel_rfl
      case hQ_12 => exact fun _ _ _ h => h
      case hw_12 => rfl
      case hy_12 => (intro w _; go_simp; try with_reducible rfl)
      try simp only [Act.put, List.setIfInBounds_toArray, List.set_cons_zero, List.set_cons_succ]
      refine anyZ_done (by kernel_rfl) ?_ _
      refine NoPanic.normal ?_
      have hdig : ∀ i, i < 16 → d1 i = Ob.lenD V i := Ob.mark_digits hd1 hVl.out hv1
      by_cases hok : O
      · have hb1 := eqb_yes (f := fun i => y (n + i)) (g := d1) (n := 16) (fun i hi => by rw [hdig i hi]; exact hOp.out.1 hok i hi)
        rw [hb1]
        have cx1 := cx _ hB1
        clear hHeld o1 hd1 hv1 z1 hdig cm
        go_wp2_with (go_at_call 27; with_reducible refine cx1.mono ?_; rintro e W3 ⟨g3, f3, rfl, lg3, t3, hf3, b3⟩)
        go_ret2
        exact Or.inl ⟨hok, g3, f3, rfl, Nat.le_trans hB1.size lg3, t3, hf3, below_via b3 hB1 hB1.size⟩
      · have hb1 := eqb_no (f := fun i => y (n + i)) (g := d1) (n := 16) (fun i _ => hy'.out _) (fun i _ => hd1 i) (fun h => hok (hOp.out.2 fun i hi => by rw [← hdig i hi]; exact h i hi))
        rw [hb1]
        clear hHeld o1 hd1 hv1 z1 hdig cm cx
        go_wp2
        go_ret2
        exact Or.inr ⟨hok, rfl, hB1⟩
set_option maxHeartbeats 1000000 in
theorem openBad (a b : Option Addr) (n m c d : Nat) (h : ¬ (n = 32 ∧ m = 12)) (v v' : Value) (w : World) :
    Calls Tryd.prog 18 #[.slice a n c, .slice b m d, v, v'] w fun e w' => e = .returned (.tuple #[.slice none 0 0, .iface 30 (.int .i64 1)]) ∧ w = w' := by
  have c0 := fitNo a b n m c d h w
  clear h
  go_enter Tryd.func18, Tryd.ntmps18
  go_wp2_with (go_at_call 19; with_reducible refine c0.mono ?_; rintro e w' ⟨rfl, rfl⟩)
  go_ret2
  exact ⟨rfl, rfl⟩
set_option maxHeartbeats 1000000 in
theorem openShort (a b s : Option Addr) (c d n e' : Nat) (h : n < 16) (v : Value) (w : World) :
    Calls Tryd.prog 18 #[.slice a 32 c, .slice b 12 d, v, .slice s n e'] w fun e w' => e = .returned (.tuple #[.slice none 0 0, .iface 30 (.int .i64 6)]) ∧ w = w' := by
  have c0 := fitYes a b c d w
  have h1 : (n : Int) < 16 := by omega
  clear h
  go_enter Tryd.func18, Tryd.ntmps18
  go_wp2_with (go_at_call 19; with_reducible refine c0.mono ?_; rintro e w' ⟨rfl, rfl⟩)
  go_ret2
  exact ⟨rfl, rfl⟩
end Go.Proofs.YtdaonbfdcpkipaaDoor

namespace Go.Proofs.YtdaonbfdcpkipaaDoor
open Go.RowKit Go.Proofs
set_option linter.unusedVariables false
set_option linter.unusedSimpArgs false

theorem codeInfo : ∃ i, Tryd.prog.info? 30 = some i ∧ i.comparable = true := by
  have h : (Tryd.prog.info? 30).map (·.comparable) = some true := by kernel_rfl
  cases hi : Tryd.prog.info? 30 with
  | none => rw [hi] at h; cases h
  | some i => rw [hi] at h; exact ⟨i, rfl, Option.some.inj h⟩
/-- Two errors that are codes are compared as their numbers. -/
theorem equalIn_code (d : Nat) (w : World) (a b : Int) : (Op.equalIn (d + 2) 26 (.iface 30 (.int .i64 a)) (.iface 30 (.int .i64 b))).run Tryd.prog w = .ok (a == b) w := by
  obtain ⟨i, hi, hc⟩ := codeInfo
  simp [Op.equalIn, run_underlying Tryd.underlying26, run_underlying Tryd.underlying30, typeInfo, hi, hc]
theorem eql_code (w : World) (a b : Int) : (binOp .eql 26 (.iface 30 (.int .i64 a)) (.iface 30 (.int .i64 b))).run Tryd.prog w = .ok (.bool (a == b)) w := by
  have h := equalIn_code (Op.maxDepth - 2) w a b
  have e : Op.maxDepth - 2 + 2 = Op.maxDepth := by decide +kernel
  rw [e] at h
  simp only [binOp]
  simp [Op.equal, h]
end Go.Proofs.YtdaonbfdcpkipaaDoor

namespace Go.Proofs.YtdaonbfdcpkipaaDoor
open Go.RowKit Go.Proofs
set_option linter.unusedVariables false
set_option linter.unusedSimpArgs false
attribute [local go_sem ↓] Go.wp_at_zero Go.wp_at_succ

theorem sealX_lt {zk zn z1 z : Nat → Nat} {n1 n : Nat} (hz : ∀ i, z i < 256) (i : Nat) : Ob.sealX zk zn z1 n1 z n i < 256 := Ob.joinX_lt (strX_lt hz) (Ob.lenD_lt _) n i
theorem sealX_low (zk zn z1 z : Nat → Nat) (n1 n i : Nat) (h : i < n) : Ob.sealX zk zn z1 n1 z n i = Ob.strX zk zn z i := by
  unfold Ob.sealX Ob.joinX
  rw [if_pos h]
theorem sealX_high (zk zn z1 z : Nat → Nat) (n1 n i : Nat) : Ob.sealX zk zn z1 n1 z n (n + i) = Ob.lenD (Ob.sealN zk zn z1 n1 (Ob.strX zk zn z) n) i := by
  unfold Ob.sealX Ob.joinX
  rw [if_neg (by omega), show n + i - n = i by omega]
/-- What was sealed may be opened. -/
theorem opens_sealed (zk zn z1 z : Nat → Nat) (n1 n : Nat) : Opens zk zn z1 n1 (Ob.sealX zk zn z1 n1 z n) n := fun i hi => by
  rw [sealX_high, Ob.sealN_congr (f := Ob.sealX zk zn z1 n1 z n) (g := Ob.strX zk zn z) (fun j hj => sealX_low zk zn z1 z n1 n j hj)]
theorem strX_congr {zk zn f g : Nat → Nat} {i : Nat} (h : f i = g i) : Ob.strX zk zn f i = Ob.strX zk zn g i := by
  unfold Ob.strX
  rw [h]
/-- The stream twice is nothing. -/
theorem strX_twice (zk zn z : Nat → Nat) (i : Nat) : Ob.strX zk zn (Ob.strX zk zn z) i = z i := by
  unfold Ob.strX
  rw [Nat.xor_assoc, Nat.xor_self, Nat.xor_zero]
theorem back_bytes {zk zn z1 z f : Nat → Nat} {n1 n : Nat} (h : ∀ i, i < n → f i = Ob.strX zk zn (Ob.sealX zk zn z1 n1 z n) i) (i : Nat) (hi : i < n) : f i = z i := by
  rw [h i hi, strX_congr (sealX_low zk zn z1 z n1 n i hi), strX_twice]

def zz (_ : Nat) : Nat := 0
theorem zz_lt (i : Nat) : zz i < 256 := by show 0 < 256; decide
set_option maxRecDepth 100000 in
theorem blk_0 : lowBy (Ob.chaB (wordAt zz) (wordAt zz) 0) 0 = 118 := by decide +kernel
set_option maxRecDepth 100000 in
theorem blk_1 : lowBy (Ob.chaB (wordAt zz) (wordAt zz) 0) 1 = 184 := by decide +kernel
def tZ (_ : Nat) : Nat := 116
theorem tZ_lt (i : Nat) : tZ i < 256 := by show 116 < 256; decide
theorem t_src (w : World) (t : TypeId) : Src (w.alloc (.cells #[.int .u8 116] t (1, 2))) (some ⟨w.heap.size, 0, none⟩) 1 tZ := by
  refine Or.inr ⟨_, _, rfl, by simp, fun i hi => ?_⟩
  have hc : (w.alloc (.cells #[.int .u8 116] t (1, 2))).cell? ⟨w.heap.size, i, none⟩ = #[Value.int .u8 116][i]? := by
    simp only [World.cell?, World.alloc, Array.getElem?_push_size]
    rfl
  obtain rfl : i = 0 := by omega
  rw [Nat.zero_add, hc]
  rfl

set_option maxHeartbeats 2000000 in
theorem upW (w : World) (hT : Tabs w) : Calls Tryd.prog 9 #[] w fun e w' => e = .returned (.bool true) ∧ Below w.heap.size w w' := by
  have hT' : Hid (Tabs w) := hT
  clear hT
  obtain ⟨W1, hk1, tk1, b1, l1⟩ := make_bytes 32 (by decide) w
  obtain ⟨W2, hk2, tn2, b2, l2⟩ := make_bytes 12 (by decide) W1
  rw [show (((32 : Nat) : Int)) = 32 from rfl] at hk1
  rw [show (((12 : Nat) : Int)) = 12 from rfl] at hk2
  have hB2 : Below w.heap.size w W2 := below_via b2 b1 b1.size
  have tk2 := tk1.below b2 tk1.lt
  obtain ⟨N, hN⟩ : ∃ N, Hid (w.heap.size = N) := ⟨_, rfl⟩
  obtain ⟨M, hM⟩ : ∃ N, Hid (W1.heap.size = N) := ⟨_, rfl⟩
  have hT2 := hT'.out.on hB2
  rw [hN.out] at hk1 tk2 hB2 ⊢
  rw [hM.out] at hk2 tn2
  have hKB : ∀ W, Below W2.heap.size W2 W → Bys W N 0 32 zz := fun W h => (tk2.below h tk2.lt).bys8
  have hNB : ∀ W, Below W2.heap.size W2 W → Bys W M 0 12 zz := fun W h => (tn2.below h tn2.lt).bys8
  have hTB : ∀ W, Below W2.heap.size W2 W → Tabs W := fun W h => hT2.on h
  have cb := blockX N 0 32 M 0 12 0 (by decide) (by decide) (by decide) zz zz zz_lt zz_lt W2 (hTB _ (Below.refl _ _)) (hKB _ (Below.refl _ _)) (hNB _ (Below.refl _ _))
  rw [show ((0 : Nat) : Int) = 0 from rfl] at cb
  unfold BlkOut at cb
  have p0 := blk_0
  have p1 := blk_1
  obtain ⟨D, hD⟩ : ∃ D, Hid (lowBy (Ob.chaB (wordAt zz) (wordAt zz) 0) = D) := ⟨_, rfl⟩
  rw [hD.out] at cb p0 p1
  have cs : ∀ W g, Below W2.heap.size W2 W → Src W (some ⟨g, 0, none⟩) 1 tZ → Calls Tryd.prog 15 #[.slice (some ⟨N, 0, none⟩) 32 32, .slice (some ⟨M, 0, none⟩) 12 12, .slice none 0 0, .slice (some ⟨g, 0, none⟩) 1 1] W fun e w' => ∃ g, e = .returned (.tuple #[.slice (some ⟨g, 0, none⟩) 17 17, .nilIface]) ∧ W.heap.size ≤ g ∧ Arr w' .u8 g 17 (Ob.sealX zz zz zz 0 tZ 1) ∧ Below W.heap.size W w' := fun W g hb hs =>
    sealW N 0 32 M 0 12 0 0 1 1 (by decide) (by decide) zz zz zz tZ zz_lt zz_lt zz_lt tZ_lt (by decide) (by decide) none (some ⟨g, 0, none⟩) W (hTB W hb) (hKB W hb) (hNB W hb) (Or.inl rfl) hs
  have co : ∀ W g, Below W2.heap.size W2 W → Bys W g 0 17 (Ob.sealX zz zz zz 0 tZ 1) → Calls Tryd.prog 18 #[.slice (some ⟨N, 0, none⟩) 32 32, .slice (some ⟨M, 0, none⟩) 12 12, .slice none 0 0, .slice (some ⟨g, 0, none⟩) 17 17] W fun e w' => ∃ g f, e = .returned (.tuple #[.slice (some ⟨g, 0, none⟩) 1 17, .nilIface]) ∧ Arr w' .u8 g 17 f ∧ f 0 = 116 ∧ Below W.heap.size W w' := fun W g hb hs =>
    (open_core N 0 32 M 0 12 0 0 g 0 17 1 (by decide) (by decide) (by decide) zz zz zz (Ob.sealX zz zz zz 0 tZ 1) zz_lt zz_lt zz_lt (sealX_lt tZ_lt) (by decide) (by decide) none W (hTB W hb) (hKB W hb) (hNB W hb) (Or.inl rfl) hs).mono fun e w' h => by
      rcases h with ⟨_, g', f, he, _, ht, hf, hB⟩ | ⟨hno, _⟩
      · exact ⟨g', f, he, ht, back_bytes hf 0 (by decide), hB⟩
      · exact absurd (opens_sealed zz zz zz tZ 0 1) hno
  have ch := fun W => openShort (some ⟨N, 0, none⟩) (some ⟨M, 0, none⟩) none 32 12 0 0 (by decide) (.slice none 0 0) W
  have ec : ∀ w, (binOp .eql 26 (.iface 30 (.int .i64 6)) (.iface 30 (.int .i64 6))).run Tryd.prog w = .ok (.bool true) w := fun w => eql_code w 6 6
  have hT3 : Hid (Tabs W2) := hT2
  clear hT2 hD hKB hNB hTB tk1 tk2 tn2
  go_enter Tryd.func9, Tryd.ntmps9
  go_upto_region 4 with (go_at_call 10; with_reducible refine cb.mono ?_; rintro e W3 ⟨g3, rfl, lg3, o3, b3⟩)
  have y3 := bys_of_row o3
  have kc := Lib.run_convert_bytes_const (P := Tryd.prog) W3 22 5 #[.int .u8 116] 1 1 Tryd.underlying22 Tryd.underlying5
  have b4 : Below W3.heap.size W3 (W3.alloc (.cells #[.int .u8 116] 5 (1, 2))) := (Below.refl _ _).alloc (Nat.le_refl _) _
  have hB4 : Below W2.heap.size W2 (W3.alloc (.cells #[.int .u8 116] 5 (1, 2))) := below_via b4 b3 b3.size
  have cs1 := cs _ _ hB4 (t_src W3 5)
  clear cb cs
  go_upto_region 5 with (go_at_call 15; with_reducible refine cs1.mono ?_; rintro e W5 ⟨g5, rfl, lg5, t5, b5⟩)
  have hB5 : Below W2.heap.size W2 W5 := below_via b5 hB4 hB4.size
  have co1 := co W5 g5 hB5 t5.bys8
  go_upto_region 6 with (go_at_call 18; with_reducible refine co1.mono ?_; rintro e W6 ⟨g6, f6, rfl, t6, hf6, b6⟩)
  have hB6 : Below W2.heap.size W2 W6 := below_via b6 hB5 hB5.size
  clear co co1 cs1 kc hk1 hk2
  go_upto_region 7 with (go_at_call 18; with_reducible refine (ch _).mono ?_; rintro e W7 ⟨rfl, rfl⟩)
  have y6 : Bys W6 g3 0 64 D := (((y3.below b4 y3.lt).below b5 (y3.below b4 y3.lt).lt).below b6 ((y3.below b4 y3.lt).below b5 (y3.below b4 y3.lt).lt).lt)
  have q0 := y6.at_ 0 (by decide)
  have q1 := y6.at_ 1 (by decide)
  rw [p0] at q0
  rw [p1] at q1
  simp only [Nat.zero_add] at q0 q1
  have zs := bys_str g6 0 1 17 f6 W6 (t6.bys8.less (by decide))
  have es : strOfNums (nums f6 1) = ⟨#[116]⟩ := by
    have : nums f6 1 = [116] := by
      show [((f6 0 : Nat) : Int)] = [116]
      rw [hf6]
      rfl
    rw [this]
    rfl
  rw [es] at zs
  have hB7 : Below N w W6 := below_via hB6 hB2 (by have := hB2.size; have := hN.out; omega)
  clear y3 y6 t6 t5 o3 b3 b4 b5 b6 hB4 hB5 hB6 hB2 ch
  go_wp2
  go_ret
  exact ⟨rfl, hB7⟩
end Go.Proofs.YtdaonbfdcpkipaaDoor

namespace Go.Proofs.YtdaonbfdcpkipaaDoor
open Go.ChangeShapes Go.WideShapes Go.ChangeAt Go.RowKit
set_option linter.unusedVariables false
set_option linter.unusedSimpArgs false

theorem own : ownKnob Tryd.prog.godebug = none := by kernel_rfl
theorem laidOut : laidOutB Tryd.prog = true := by kernel_rfl

/-- A slice of integers that came in: nil; or it leads to a row of 'cap' cells, the numbers zs (the first 'len' are its elements), each fitting its kind. -/
def IsRow (k : IntKind) (w : World) (a : Option Addr) (len cap : Nat) (zs : List Int) : Prop :=
  (a = none ∧ len = 0 ∧ cap = 0 ∧ zs = []) ∨
  ∃ x, a = some x ∧ len ≤ cap ∧ cap ≤ maxLen ∧ zs.length = cap ∧ (∀ i, i < zs.length → w.cell? (x.add i) = some (.int k (zs.getD i 0))) ∧ ∀ n ∈ zs, (Lit.int k n).wf = true

theorem isRow_of {H : Type} {enc : TypeId × Value → H} {k : IntKind} {t e : TypeId} {W : World} {a : Option Addr} {len cap : Nat} {d : DataW H} {p : List MemPlace} (ht : Tryd.prog.underlying t = some (.slice e)) (he : Tryd.prog.underlying e = some (.int k)) (hc : Tryd.prog.cellsOf e = 1)
    (h : DataW.Trod enc Tryd.prog W 0 (fun _ => true) true t (.slice a len cap) d p) : ∃ zs, IsRow k W a len cap zs := by
  obtain ⟨fuel, hf⟩ := h
  rcases open_ints ht he hc hf with ⟨hcs, _⟩ | ⟨x, l, c, zs, hcs, _, hl, hm, hz, _, hcell, hwz⟩
  · simp [Value.cells] at hcs
    obtain ⟨rfl, rfl, rfl⟩ := hcs
    exact ⟨[], .inl ⟨rfl, rfl, rfl, rfl⟩⟩
  · simp [Value.cells] at hcs
    obtain ⟨rfl, rfl, rfl⟩ := hcs
    exact ⟨zs, .inr ⟨_, rfl, hl, hm, by simpa using hz, hcell, hwz⟩⟩

/-- The same, with the form's own reach. -/
theorem isRow_sized {H : Type} {enc : TypeId × Value → H} {k : IntKind} {t e : TypeId} {W : World} {a : Option Addr} {len cap B j : Nat} {d : DataW H} {p : List MemPlace} {ts : List TypeId} {ds : List (DataW H)}
    (hsz : (DataW.weightsEach Tryd.prog ts ds).all (· ≤ reachBytes) = true) (hj : ts[j]? = some t) (hd : ds[j]? = some d) (ht : Tryd.prog.underlying t = some (.slice e)) (he : Tryd.prog.underlying e = some (.int k)) (hc : Tryd.prog.cellsOf e = 1) (hb : Tryd.prog.bytesOf e = B)
    (h : DataW.Trod enc Tryd.prog W 0 (fun _ => true) true t (.slice a len cap) d p) : ∃ zs, IsRow k W a len cap zs ∧ cap * B ≤ 140737488351232 := by
  obtain ⟨fuel, hf⟩ := h
  rcases open_ints ht he hc hf with ⟨hcs, _⟩ | ⟨x, l, c, zs, hcs, _, hl, hm, hz, hx, hcell, hwz⟩
  · simp [Value.cells] at hcs
    obtain ⟨rfl, rfl, rfl⟩ := hcs
    exact ⟨[], .inl ⟨rfl, rfl, rfl, rfl⟩, by omega⟩
  · simp [Value.cells] at hcs
    obtain ⟨rfl, rfl, rfl⟩ := hcs
    refine ⟨zs, .inr ⟨_, rfl, hl, hm, by simpa using hz, hcell, hwz⟩, ?_⟩
    simp only [Prod.mk.injEq] at hx
    rw [hx.1] at hd
    have hs := sized_slice hsz hj hd ht
    have hz' : zs.length = cap := by simpa using hz
    have e1 : (lits k (zs.take len) : List (DataW H)).length + (lits k (zs.drop len) : List (DataW H)).length = cap := by
      simp only [lits, List.length_map, List.length_take, List.length_drop]
      omega
    rw [e1, hb] at hs
    exact hs

end Go.Proofs.YtdaonbfdcpkipaaDoor

namespace Go.Proofs.YtdaonbfdcpkipaaDoor
open Go.RowKit Go.Proofs
set_option linter.unusedVariables false
set_option linter.unusedSimpArgs false

/-- A slice of n bytes at least, that came in. -/
theorem bys_of_isRow {w : World} {a : Option Addr} {len cap n : Nat} {zs : List Int} (h : IsRow .u8 w a len cap zs) (hn : 0 < n) (hl : n ≤ len) :
    ∃ (b off : Nat) (z : Nat → Nat), a = some ⟨b, off, none⟩ ∧ len ≤ cap ∧ cap ≤ maxLen ∧ (∀ i, z i < 256) ∧ Bys w b off n z ∧ ∀ i, i < n → (z i : Int) = zs.getD i 0 := by
  rcases h with ⟨rfl, rfl, rfl, rfl⟩ | ⟨x, rfl, h1, h2, h3, hcell, hwz⟩
  · omega
  · obtain ⟨b, off, spot⟩ := x
    have hc := hcell 0 (by omega)
    have hspot : spot = none := by simpa [Addr.add] using World.cell?_spot hc
    subst hspot
    have hb : ∀ i, 0 ≤ zs.getD i 0 ∧ zs.getD i 0 < 256 := fun i => by
      rcases Nat.lt_or_ge i zs.length with hi | hi
      · have hm : zs.getD i 0 ∈ zs := by simp [List.getD, List.getElem?_eq_getElem hi]
        have := bounds_u8 (hwz _ hm)
        omega
      · simp [List.getD, List.getElem?_eq_none hi]
    refine ⟨b, off, fun i => (zs.getD i 0).toNat, rfl, h1, h2, fun i => (by have := hb i; show (zs.getD i 0).toNat < 256; omega), ⟨?_, fun i hi => ?_⟩, fun i hi => (by have := hb i; show ((zs.getD i 0).toNat : Int) = _; omega)⟩
    · have := World.block_lt_of_cell? _ _ hc
      simpa [Addr.add] using this
    · have h := hcell i (by omega)
      have hadd : (⟨b, off, none⟩ : Addr).add i = ⟨b, off + i, none⟩ := by unfold Addr.add; split <;> simp_all
      rw [hadd] at h
      rw [h]
      exact congrArg (fun n => some (Value.int .u8 n)) (by have := hb i; show _ = ((zs.getD i 0).toNat : Int); omega)
end Go.Proofs.YtdaonbfdcpkipaaDoor

namespace Go.Proofs.YtdaonbfdcpkipaaDoor
open Go.RowKit Go.Proofs
set_option linter.unusedVariables false
set_option linter.unusedSimpArgs false
attribute [local go_sem ↓] Go.wp_at_zero Go.wp_at_succ

theorem src_of_isRow {w : World} {a : Option Addr} {len cap : Nat} {zs : List Int} (h : IsRow .u8 w a len cap zs) : ∃ z : Nat → Nat, (∀ i, z i < 256) ∧ Src w a len z ∧ len ≤ cap ∧ cap ≤ maxLen := by
  by_cases h0 : len = 0
  · refine ⟨fun _ => 0, fun _ => by show 0 < 256; decide, Or.inl h0, by omega, ?_⟩
    rcases h with ⟨_, _, rfl, _⟩ | ⟨x, _, _, h2, _⟩
    · exact Nat.zero_le _
    · exact h2
  · obtain ⟨b, off, z, ha, h1, h2, hz, hB, _⟩ := bys_of_isRow h (n := len) (by omega) (Nat.le_refl _)
    exact ⟨z, hz, Or.inr ⟨b, off, ha, hB⟩, h1, h2⟩

/-- Bytes that are there. -/
theorem Src.some {w : World} {a : Option Addr} {n : Nat} {z : Nat → Nat} (h : Src w a n z) (hn : 0 < n) : ∃ b off, a = some ⟨b, off, none⟩ ∧ Bys w b off n z := by
  rcases h with h | h
  · omega
  · exact h
set_option maxHeartbeats 1000000 in
theorem fitsYes (a b : Option Addr) (c d : Nat) (w : World) :
    Calls Tryd.prog 11 #[.slice a 32 c, .slice b 12 d] w fun e w' => e = .returned (.bool true) ∧ w = w' := by
  go_enter Tryd.func11, Tryd.ntmps11
  go_wp2
  go_ret
  exact ⟨rfl, rfl⟩
set_option maxHeartbeats 1000000 in
theorem fitsNo (a b : Option Addr) (n m c d : Nat) (h : ¬ (n = 32 ∧ m = 12)) (w : World) :
    Calls Tryd.prog 11 #[.slice a n c, .slice b m d] w fun e w' => e = .returned (.bool false) ∧ w = w' := by
  by_cases h1 : n = 32
  · have h2 : ¬ (m : Int) = 12 := by omega
    have h3 : ((m : Int) == 12) = false := by simpa using h2
    subst h1
    clear h
    go_enter Tryd.func11, Tryd.ntmps11
    go_wp2
    go_ret
    exact ⟨rfl, rfl⟩
  · have h2 : ¬ (n : Int) = 32 := by omega
    clear h
    go_enter Tryd.func11, Tryd.ntmps11
    go_wp2
    go_ret
    exact ⟨rfl, rfl⟩
end Go.Proofs.YtdaonbfdcpkipaaDoor

namespace Go.Proofs.YtdaonbfdcpkipaaDoor
open Go.ChangeShapes Go.WideShapes Go.ChangeAt Go.RowKit
set_option linter.unusedVariables false
set_option linter.unusedSimpArgs false

def openI : List Int := Ob.cha0T.map Int.ofNat
def plcI : List (List Int) := Ob.plcT.map fun l => l.map Int.ofNat
def laidTab : List (String × DataW Unit) := Rows.cipherBlocksRow.laid
theorem laidTab_eq : laidTab = [("obol/cipher.opening", Lib.tabData .u32 openI), ("obol/cipher.places", .agg (plcI.map (Lib.tabData .u8)))] := rfl

/-- A table of rows, cell by cell. -/
theorem cells_of_tab2 {H : Type} {enc : TypeId × Value → H} {P : Program} {w : World} {base : Nat} {sp : Nat → Bool} {held : Bool} {fuel : Nat} {t e1 e : TypeId} {n m : Nat} {k : IntKind} {cs : List Value} {zss : List (List Int)} {p : List MemPlace}
    (ht : P.underlying t = some (.array n e1)) (he1 : P.underlying e1 = some (.array m e)) (he : P.underlying e = some (.int k)) (hce : P.cellsOf e = 1) (hce1 : P.cellsOf e1 = m) (hct : P.cellsOf t = n * m)
    (h : DataW.trod enc P w base sp held fuel t cs = some (.agg (zss.map (Lib.tabData k)), p)) (i j : Nat) (hi : i < n) (hj : j < m) : cs[i * m + j]? = some (.int k ((zss.getD i []).getD j 0)) := by
  cases fuel with
  | zero => simp [DataW.trod] at h
  | succ fuel =>
    simp only [DataW.trod, ht, hce1, hct] at h
    split at h
    · rename_i hl
      obtain ⟨xs, hm, hx⟩ := Option.map_eq_some_iff.1 h
      have hxs : xs.map (·.1) = zss.map (Lib.tabData (H := H) k) := by
        have := congrArg Prod.fst hx
        simpa using this
      have hxl : xs.length = n := by simpa using Lib.mapM_length hm
      have hzl : zss.length = n := by
        have := congrArg List.length hxs
        simp at this
        omega
      obtain ⟨b, hb, hf⟩ := Lib.mapM_at hm i i (by simp [hi])
      have h2 : (xs.map (·.1))[i]? = some b.1 := by simp [hb]
      rw [hxs, List.getElem?_map, List.getElem?_eq_getElem (by omega)] at h2
      have hb1 : b.1 = Lib.tabData k (zss.getD i []) := by
        simp only [Option.map_some, Option.some.injEq] at h2
        rw [← h2, List.getD_eq_getElem?_getD, List.getElem?_eq_getElem (by omega)]
        rfl
      obtain ⟨b1, b2⟩ := b
      simp only at hb1
      subst hb1
      have hc := Lib.cells_of_tab he1 he hce hce1 hf
      have hg := congrArg (·[j]?) hc
      simp only [List.getElem?_take, List.getElem?_drop, hj, if_true, List.getElem?_map] at hg
      rw [hg]
      have hlen : j < (zss.getD i []).length := by
        have := congrArg List.length hc
        simp only [List.length_take, List.length_drop, List.length_map] at this
        have hb' : (i + 1) * m ≤ n * m := Nat.mul_le_mul_right _ hi
        rw [Nat.add_mul, Nat.one_mul] at hb'
        omega
      rw [List.getElem?_eq_getElem hlen, List.getD_eq_getElem?_getD (l := zss.getD i []), List.getElem?_eq_getElem hlen]
      rfl
    · cases h

theorem gOpen : Tryd.prog.globalNamed "obol/cipher.opening" = some 0 := by kernel_rfl
theorem gPlc : Tryd.prog.globalNamed "obol/cipher.places" = some 1 := by kernel_rfl
theorem tOpen : (Tryd.prog.globals[0]?).map (·.type) = some 72 := by kernel_rfl
theorem tPlc : (Tryd.prog.globals[1]?).map (·.type) = some 75 := by kernel_rfl

theorem openI_get : ∀ j : Fin 4, (openI.map fun z => Value.int .u32 z)[j.val]? = some (.int .u32 ((Ob.cha0 j.val : Nat) : Int)) := by
  intro j
  have h : ∀ j : Fin 4, openI[j.val]? = some ((Ob.cha0 j.val : Nat) : Int) := by decide +kernel
  rw [List.getElem?_map, h j]
  rfl
theorem plcI_get : ∀ (i : Fin 8) (j : Fin 4), (plcI.getD i.val []).getD j.val 0 = ((Ob.plc i.val j.val : Nat) : Int) := by decide +kernel

theorem tabs_of_laid {W : World} (h : laidMetH Tryd.prog laidTab W) : Tabs W := by
  rw [MakeChecks.laidMetH_plain _ _ _ (by kernel_rfl)] at h
  rw [laidTab_eq] at h
  obtain ⟨ps, ⟨g, t, cs, fuel, p, q, hg, ht, hvar, hd, ⟨g2, t2, cs2, fuel2, p2, q2, hg2, ht2, hvar2, hd2, _, _⟩, _⟩, _⟩ := h
  obtain rfl := Option.some.inj (gOpen.symm.trans hg)
  obtain rfl := Option.some.inj (tOpen.symm.trans ht)
  obtain rfl := Option.some.inj (gPlc.symm.trans hg2)
  obtain rfl := Option.some.inj (tPlc.symm.trans ht2)
  have c1 := Lib.cells_of_tab Tryd.underlying72 Tryd.underlying23 (by kernel_rfl) (by kernel_rfl) hd
  have r2 : ∀ i j, i < 8 → j < 4 → W.cell? ⟨1, i * 4 + j, none⟩ = some (.int .u8 (Ob.plc i j : Nat)) := fun i j hi hj => by
    have := cells_of_tab2 Tryd.underlying75 Tryd.underlying74 Tryd.underlying5 (by kernel_rfl) (by kernel_rfl) (by kernel_rfl) hd2 i j hi hj
    rw [plcI_get ⟨i, hi⟩ ⟨j, hj⟩] at this
    rw [World.var?_cell hg2 hvar2 (i * 4 + j)]
    rw [← this, Array.getElem?_toList]
  have r0 : ∀ j, j < 4 → W.cell? ⟨0, j, none⟩ = some (.int .u32 (Ob.cha0 j : Nat)) := fun j hj => by
    rw [World.var?_cell hg hvar j, ← openI_get ⟨j, hj⟩, ← c1, Array.getElem?_toList]
  have l0 := World.block_lt_of_cell? _ _ (r0 0 (by decide))
  have l2 := World.block_lt_of_cell? _ _ (r2 0 0 (by decide) (by decide))
  exact ⟨by simp at l0 l2; omega, ⟨l0, r0⟩, r2⟩

theorem door_met (os : Os) (args : Array Value) : laidMetH Tryd.prog laidTab ((World.doorLaid Tryd.prog 400 os).forCall (fun _ _ => 0) ⟨#[], args, []⟩).memory :=
  laidMetH_of_parts3 (fuel := 8) (laidMet_of_run' 8 (by kernel_rfl) (by kernel_rfl)) (by kernel_rfl) (by kernel_rfl)
end Go.Proofs.YtdaonbfdcpkipaaDoor
