/-
  Joined texts: The document's own marks, walked. Plain numbers: the key's halves, the mark.
-/
import Derived.Test.YtdaonbfdcpkipaaDoorJ4
import Derived.Test.YtdaonbfdcpkipaaDoorJ6
import Derived.Test.YtdaonbfdcpkipaaDoorJ3

namespace Ob
/-- The key's first half, as it counts. -/
def clD (z : Nat → Nat) (i : Nat) : Nat := if i % 4 = 3 then z i % 16 else if i % 4 = 0 ∧ 0 < i then z i / 4 * 4 else z i
theorem clD_lt {z : Nat → Nat} (h : ∀ i, z i < 256) (i : Nat) : clD z i < 256 := by
  have := h i
  unfold clD
  split
  · omega
  · split <;> omega
/-- The bytes from one place on, 16 at most, and a 1 behind them. -/
def blkV (z : Nat → Nat) (n at_ : Nat) : Nat := valD (fun k => z (at_ + k)) (min 16 (n - at_)) + 256 ^ min 16 (n - at_)
def mkN (R : Nat) (z : Nat → Nat) (n : Nat) : Nat → Nat
  | 0 => 0
  | i + 1 => (mkN R z n i + blkV z n (16 * i)) * R % PP
theorem upd_val (f : Nat → Nat) (k v : Nat) : ∀ n, k < n → valD (upd f k (f k + v)) n = valD f n + v * 256 ^ k
  | 0, h => by omega
  | n + 1, h => by
    show valD (upd f k (f k + v)) n + upd f k (f k + v) n * 256 ^ n = valD f n + f n * 256 ^ n + v * 256 ^ k
    by_cases e : k = n
    · subst e
      rw [valD_congr (f := upd f k (f k + v)) (g := f) (fun i hi => by unfold upd; rw [if_neg (by omega)]), upd_same, Nat.add_mul]
      omega
    · rw [upd_val f k v n (by omega), show upd f k (f k + v) n = f n from by unfold upd; rw [if_neg (by omega)]]
      omega
end Ob
namespace Go.Proofs.YtdaonbfdcpkipaaDoor
open Go.RowKit Go.Proofs
set_option linter.unusedVariables false
set_option linter.unusedSimpArgs false
attribute [local go_sem ↓] Go.wp_at_zero Go.wp_at_succ

/-- Others added to the first j digits. -/
def adI (d s : Nat → Nat) (j k : Nat) : Nat := if k < j then d k + s k else d k
theorem adI_zero (d s : Nat → Nat) : adI d s 0 = d := by funext k; simp [adI]
theorem adI_self (d s : Nat → Nat) (j : Nat) : adI d s j j = d j := by unfold adI; rw [if_neg (by omega)]
theorem adI_succ (d s : Nat → Nat) (j : Nat) : Ob.upd (adI d s j) j (d j + s j) = adI d s (j + 1) := by
  funext k
  unfold Ob.upd adI
  by_cases h1 : k = j
  · subst h1; simp
  · by_cases h2 : k < j
    · simp [h1, h2, Nat.lt_succ_of_lt h2]
    · simp [h1, h2]; omega
theorem adI_val (d s : Nat → Nat) {j m : Nat} (h : j ≤ m) : Ob.valD (adI d s j) m = Ob.valD d m + Ob.valD s j := by
  have e1 : Ob.valD (Ob.mask s j) m = Ob.valD s j := by
    have e := Ob.valD_more (f := Ob.mask s j) (m := j) (m - j) (fun i hi => by unfold Ob.mask; rw [if_neg (by omega)])
    rw [show j + (m - j) = m by omega] at e
    rw [e]
    exact Ob.valD_congr fun i hi => by unfold Ob.mask; rw [if_pos hi]
  rw [← e1, ← Ob.valD_add]
  refine Ob.valD_congr fun i hi => ?_
  unfold adI Ob.mask
  by_cases e : i < j <;> simp [e]
theorem adI_lt {d s : Nat → Nat} (hd : ∀ i, d i < 256) (hs : ∀ i, s i < 256) (j k : Nat) : adI d s j k < 511 := by
  have := hd k
  have := hs k
  unfold adI
  split <;> omega
/-- A block added: its bytes, and a 1 behind them. -/
def adB (d z : Nat → Nat) (at_ L : Nat) : Nat → Nat := Ob.upd (adI d (fun k => z (at_ + k)) L) L (d L + 1)
theorem adB_lt {d z : Nat → Nat} (hd : ∀ i, d i < 256) (hz : ∀ i, z i < 256) (at_ L k : Nat) : adB d z at_ L k < 512 := by
  have h1 := adI_lt hd (s := fun k => z (at_ + k)) (fun i => hz _) L k
  have h2 := hd L
  unfold adB Ob.upd
  split <;> omega
theorem adB_val (d z : Nat → Nat) (n at_ L : Nat) (hL : L = min 16 (n - at_)) : Ob.valD (adB d z at_ L) 17 = Ob.valD d 17 + Ob.blkV z n at_ := by
  have h : L < 17 := by omega
  have e := Ob.upd_val (adI d (fun k => z (at_ + k)) L) L 1 17 h
  rw [adI_self, adI_val _ _ (by omega)] at e
  unfold adB Ob.blkV
  rw [e, ← hL, Nat.one_mul, Nat.add_assoc]
/-- One product more. -/
theorem mul_step (V A B C q r x : Nat) (h : V = A + B * q * C) : V + B * x * (q * r) = A + B * q * (C + x * r) := by
  rw [h, Nat.mul_add, Nat.add_assoc]
  congr 2
  rw [Nat.mul_assoc, Nat.mul_assoc, Nat.mul_left_comm x q r]
theorem mask_val34 (f : Nat → Nat) : Ob.valD (Ob.mask f 34) 40 = Ob.valD f 34 := by
  rw [Ob.valD_more (m := 34) (f := Ob.mask f 34) 6 (fun i hi => by unfold Ob.mask; rw [if_neg (by omega)])]
  exact Ob.valD_congr fun i hi => by unfold Ob.mask; rw [if_pos hi]
theorem valD_512 {f : Nat → Nat} (h : ∀ i, f i < 512) : ∀ n, Ob.valD f n ≤ 3 * 256 ^ n
  | 0 => Nat.zero_le _
  | n + 1 => by
    show Ob.valD f n + f n * 256 ^ n ≤ _
    have h1 := valD_512 h n
    have h2 : f n * 256 ^ n ≤ 511 * 256 ^ n := Nat.mul_le_mul_right _ (by have := h n; omega)
    rw [Nat.pow_succ]
    generalize 256 ^ n = q at *
    omega
theorem prod_lt {f g : Nat → Nat} (hf : ∀ i, f i < 512) (hg : ∀ i, g i < 256) : Ob.valD f 17 * Ob.valD g 16 < 256 ^ 40 := by
  have h1 := valD_512 hf 17
  have h2 := Ob.valD_lt (f := g) (n := 16) (fun i _ => hg i)
  exact Nat.lt_of_le_of_lt (Nat.mul_le_mul h1 (Nat.le_of_lt h2)) (by decide)
theorem upd_le {p : Nat → Nat} {M k v : Nat} (h : ∀ j, p j ≤ M) (hv : v ≤ M) (j : Nat) : Ob.upd p k v j ≤ M := by
  unfold Ob.upd
  split
  · exact hv
  · exact h j
theorem upd_twice (f : Nat → Nat) (i x y : Nat) : Ob.upd (Ob.upd f i x) i y = Ob.upd f i y := by
  funext j
  unfold Ob.upd
  by_cases e : j = i <;> simp [e]

set_option maxHeartbeats 8000000 in
set_option maxRecDepth 4000 in
theorem rmark_core (kb ko kc n c : Nat) (zk z : Nat → Nat) (hzk : ∀ i, zk i < 256) (hz : ∀ i, z i < 256) (hn : n ≤ 10000000) (a : Option Addr) (w : World) (hK : Bys w kb ko 32 zk) (hS : Src w a n z) :
    Calls Tryd.prog 14 #[.slice (some ⟨kb, ko, none⟩) 32 kc, .slice a n c] w fun e w' => ∃ g d, e = .returned (.slice (some ⟨g, 0, none⟩) 16 16) ∧ w.heap.size ≤ g ∧ Arr w' .u8 g 16 d ∧ (∀ i, d i < 256) ∧ Ob.valD d 16 = (Ob.mkN (Ob.valD (Ob.clD zk) 16) z n ((n + 15) / 16) + Ob.valD (fun i => zk (16 + i)) 16) % 256 ^ 16 ∧ Below w.heap.size w w' := by
  have hK0 : Hid (Bys w kb ko 32 zk) := hK
  have hS0 : Hid (Src w a n z) := hS
  have hk' : Hid (∀ i, zk i < 256) := hzk
  have ht' : Hid (∀ i, z i < 256) := hz
  clear hK hS hzk hz
  obtain ⟨W0, hmk, ta0, hB0, z0⟩ := make_ints 16 (by decide) w
  obtain ⟨N, hN⟩ : ∃ N, Hid (w.heap.size = N) := ⟨_, rfl⟩
  rw [hN.out] at hmk ta0 hB0
  rw [hN.out]
  have hmk' : (Instr.makeSlice 49 (.int .i64 16) (.int .i64 16)).run Tryd.prog w = .ok (.slice (some ⟨N, 0, none⟩) 16 16) W0 := hmk
  obtain ⟨C, hC⟩ : ∃ C, Hid (Ob.clD zk = C) := ⟨_, rfl⟩
  rw [hC.out]
  have hCl : Hid (∀ i, C i < 256) := by rw [← hC.out]; exact Ob.clD_lt hk'.out
  generalize hT0 : (Ob.mkN (Ob.valD C 16) z n ((n + 15) / 16) + Ob.valD (fun i => zk (16 + i)) 16) % 256 ^ 16 = T
  have hT : Hid ((Ob.mkN (Ob.valD C 16) z n ((n + 15) / 16) + Ob.valD (fun i => zk (16 + i)) 16) % 256 ^ 16 = T) := hT0
  clear hT0
  have ta0' : Hid (Arr W0 .i64 N 16 (layI C 0)) := by rw [layI_zero]; exact ta0
  clear ta0 hmk
  go_enter Tryd.func14, Tryd.ntmps14
  go_wp2
  go_loopw [6] (fun s6 wr => ∃ i : Nat, i ≤ 16 ∧ s6 = .int .i64 (i : Nat) ∧ Hid (Arr wr .i64 N 16 (layI C i)) ∧ Below N w wr) (fun s6 _ => 16 - (intOf s6).toNat)
  case atStart => exact ⟨0, by omega, rfl, ta0', hB0⟩
  case round =>
    clear ta0' hB0 hmk'
    obtain ⟨i, hi, rfl, ta, hB⟩ := hrel
    by_cases hlt : i < 16
    · have i0 : (i : Int) < 16 := by omega
      have i1 : (0 : Int) ≤ (i : Int) := by omega
      have i32 : (i : Int) < 32 := by omega
      obtain ⟨x, hx⟩ : ∃ x, Hid (zk i = x) := ⟨_, rfl⟩
      have hxl : x < 256 := by rw [← hx.out]; exact hk'.out i
      have q0 := (hK0.out.below (by rw [hN.out]; exact hB) hK0.out.lt).at_ i (by omega)
      rw [hx.out] at q0
      have q1 := ta.out.c i hlt
      have q2 := ta.out.f i hlt
      obtain ⟨m, hm, em⟩ : ∃ m : Nat, Hid (i % 4 = m) ∧ (i : Int) % 4 = (m : Int) := ⟨i % 4, rfl, by omega⟩
      have em' : Int.tmod (i : Int) 4 = (m : Int) := by rw [Int.tmod_eq_emod_of_nonneg (by omega)]; exact em
      obtain ⟨o, ho, eo⟩ : ∃ o : Nat, Hid (x % 16 = o) ∧ (x : Int) % 16 = (o : Int) := ⟨x % 16, rfl, by omega⟩
      have eo' : Int.tmod (x : Int) 16 = (o : Int) := by rw [Int.tmod_eq_emod_of_nonneg (by omega)]; exact eo
      obtain ⟨u, hu, eu⟩ : ∃ u : Nat, Hid (x / 4 = u) ∧ (x : Int) / 4 = (u : Int) := ⟨x / 4, rfl, by omega⟩
      have eu' : Int.tdiv (x : Int) 4 = (u : Int) := by rw [Int.tdiv_eq_ediv_of_nonneg (by omega)]; exact eu
      obtain ⟨v, hv, ev⟩ : ∃ v : Nat, Hid (u * 4 = v) ∧ IntKind.i64.wrap ((u : Int) * 4) = (v : Int) := ⟨u * 4, rfl, by rw [IntKind.wrap_i64]; have := hu.out; omega⟩
      have ew : IntKind.i64.wrap (x : Int) = (x : Int) := by rw [IntKind.wrap_i64]; omega
      have hm4 : m < 4 := by have := hm.out; omega
      by_cases m3 : m = 3
      · subst m3
        have hcE : C i = o := by rw [← hC.out, ← ho.out, ← hx.out]; unfold Ob.clD; rw [if_pos hm.out]
        have ta4 : Hid (Arr ((wr.setCell ⟨N, i, none⟩ (.int .i64 (x : Nat))).setCell ⟨N, i, none⟩ (.int .i64 (o : Nat))) .i64 N 16 (layI C (i + 1))) := by
          have q := (ta.out.set (i := i) (z := x) hlt).set (i := i) (z := o) hlt
          rw [upd_twice, ← hcE, layI_succ, hcE] at q
          exact q
        have hB4 : Below N w ((wr.setCell ⟨N, i, none⟩ (.int .i64 (x : Nat))).setCell ⟨N, i, none⟩ (.int .i64 (o : Nat))) := by (repeat' (first | (with_reducible first | exact Below.refl _ _ | assumption | refine Below.alloc ?_ ?_ _ | refine Below.drew ?_ | refine below_drewN ?_ _ | refine Below.setCell ?_ ?_ _ | refine below_via (by with_reducible assumption) ?_ ?_) | omega | (simp only [szs]; omega) | (simp only [szs] at *; omega)))
        clear hcE
        go_wp2
        go_roundw
        case rel => exact ⟨i + 1, by omega, by go_num, ta4, hB4⟩
        case measure => (simp only [intOf, Int.toNat_natCast]; omega)
      by_cases m0 : m = 0
      · subst m0
        by_cases hip : 0 < i
        · have ip : (0 : Int) < (i : Int) := by omega
          have hcE : C i = v := by rw [← hC.out, ← hv.out, ← hu.out, ← hx.out]; unfold Ob.clD; rw [if_neg (by have := hm.out; omega), if_pos ⟨hm.out, hip⟩]
          have ta4 : Hid (Arr ((wr.setCell ⟨N, i, none⟩ (.int .i64 (x : Nat))).setCell ⟨N, i, none⟩ (.int .i64 (v : Nat))) .i64 N 16 (layI C (i + 1))) := by
            have q := (ta.out.set (i := i) (z := x) hlt).set (i := i) (z := v) hlt
            rw [upd_twice, ← hcE, layI_succ, hcE] at q
            exact q
          have hB4 : Below N w ((wr.setCell ⟨N, i, none⟩ (.int .i64 (x : Nat))).setCell ⟨N, i, none⟩ (.int .i64 (v : Nat))) := by (repeat' (first | (with_reducible first | exact Below.refl _ _ | assumption | refine Below.alloc ?_ ?_ _ | refine Below.drew ?_ | refine below_drewN ?_ _ | refine Below.setCell ?_ ?_ _ | refine below_via (by with_reducible assumption) ?_ ?_) | omega | (simp only [szs]; omega) | (simp only [szs] at *; omega)))
          clear hcE
          go_wp2
          go_roundw
          case rel => exact ⟨i + 1, by omega, by go_num, ta4, hB4⟩
          case measure => (simp only [intOf, Int.toNat_natCast]; omega)
        · have ip : ¬ (0 : Int) < (i : Int) := by omega
          have hcE : C i = x := by rw [← hC.out, ← hx.out]; unfold Ob.clD; rw [if_neg (by have := hm.out; omega), if_neg (by omega)]
          have ta4 : Hid (Arr (wr.setCell ⟨N, i, none⟩ (.int .i64 (x : Nat))) .i64 N 16 (layI C (i + 1))) := by
            have q := ta.out.set (i := i) (z := x) hlt
            rw [← hcE, layI_succ, hcE] at q
            exact q
          have hB4 : Below N w (wr.setCell ⟨N, i, none⟩ (.int .i64 (x : Nat))) := by (repeat' (first | (with_reducible first | exact Below.refl _ _ | assumption | refine Below.alloc ?_ ?_ _ | refine Below.drew ?_ | refine below_drewN ?_ _ | refine Below.setCell ?_ ?_ _ | refine below_via (by with_reducible assumption) ?_ ?_) | omega | (simp only [szs]; omega) | (simp only [szs] at *; omega)))
          clear hcE
          go_wp2
          go_roundw
          case rel => exact ⟨i + 1, by omega, by go_num, ta4, hB4⟩
          case measure => (simp only [intOf, Int.toNat_natCast]; omega)
      have hcE : C i = x := by rw [← hC.out, ← hx.out]; unfold Ob.clD; rw [if_neg (by have := hm.out; omega), if_neg (by have := hm.out; omega)]
      rcases (show m = 1 ∨ m = 2 by omega) with e | e
      · subst e
        have ta4 : Hid (Arr (wr.setCell ⟨N, i, none⟩ (.int .i64 (x : Nat))) .i64 N 16 (layI C (i + 1))) := by
          have q := ta.out.set (i := i) (z := x) hlt
          rw [← hcE, layI_succ, hcE] at q
          exact q
        have hB4 : Below N w (wr.setCell ⟨N, i, none⟩ (.int .i64 (x : Nat))) := by (repeat' (first | (with_reducible first | exact Below.refl _ _ | assumption | refine Below.alloc ?_ ?_ _ | refine Below.drew ?_ | refine below_drewN ?_ _ | refine Below.setCell ?_ ?_ _ | refine below_via (by with_reducible assumption) ?_ ?_) | omega | (simp only [szs]; omega) | (simp only [szs] at *; omega)))
        clear hcE
        go_wp2
        go_roundw
        case rel => exact ⟨i + 1, by omega, by go_num, ta4, hB4⟩
        case measure => (simp only [intOf, Int.toNat_natCast]; omega)
      · subst e
        have ta4 : Hid (Arr (wr.setCell ⟨N, i, none⟩ (.int .i64 (x : Nat))) .i64 N 16 (layI C (i + 1))) := by
          have q := ta.out.set (i := i) (z := x) hlt
          rw [← hcE, layI_succ, hcE] at q
          exact q
        have hB4 : Below N w (wr.setCell ⟨N, i, none⟩ (.int .i64 (x : Nat))) := by (repeat' (first | (with_reducible first | exact Below.refl _ _ | assumption | refine Below.alloc ?_ ?_ _ | refine Below.drew ?_ | refine below_drewN ?_ _ | refine Below.setCell ?_ ?_ _ | refine below_via (by with_reducible assumption) ?_ ?_) | omega | (simp only [szs]; omega) | (simp only [szs] at *; omega)))
        clear hcE
        go_wp2
        go_roundw
        case rel => exact ⟨i + 1, by omega, by go_num, ta4, hB4⟩
        case measure => (simp only [intOf, Int.toNat_natCast]; omega)
    · obtain rfl : i = 16 := by omega
      rw [show ((16 : Nat) : Int) = (16 : Int) from rfl]
      have ta1 : Hid (Arr wr .i64 N 16 C) := ta.out.congr (fun j hj => by unfold layI; rw [if_pos hj])
      have lN := ta1.out.lt
      obtain ⟨W2, hmk2, th2, b2, z2⟩ := make_ints 17 (by decide) wr
      have ta2 : Hid (Arr W2 .i64 N 16 C) := ta1.out.below b2 lN
      have hB2 : Below N w W2 := below_via b2 hB (by omega)
      have th2' : Hid (Arr W2 .i64 wr.heap.size 17 (fun _ => 0)) := th2
      obtain ⟨G0, hG0⟩ : ∃ G, Hid (wr.heap.size = G) := ⟨_, rfl⟩
      rw [hG0.out] at th2' hmk2 lN
      have hmk2' : (Instr.makeSlice 49 (.int .i64 17) (.int .i64 17)).run Tryd.prog wr = .ok (.slice (some ⟨G0, 0, none⟩) 17 17) W2 := hmk2
      clear ta ta1 hmk2 b2 th2 hB
      go_wp2
      clear hmk2'
      have hz17 : Hid (Ob.valD (fun _ => 0) 17 = Ob.mkN (Ob.valD C 16) z n 0) := by show _ = _; rw [Ob.valD_zero (fun _ _ => rfl)]; rfl
      have hd17 : Hid (∀ i : Nat, (fun _ : Nat => 0) i < 256) := fun i => Nat.succ_pos _
      go_loopw [7, 8] (fun s7 s8 wr => ∃ (i at_ g cap : Nat) (d : Nat → Nat), s8 = .int .i64 (at_ : Nat) ∧ s7 = .slice (some ⟨g, 0, none⟩) 17 cap ∧ Hid (at_ = 16 * i) ∧ i ≤ (n + 15) / 16 ∧ N < g ∧ Hid (Arr wr .i64 N 16 C) ∧ Hid (Arr wr .i64 g 17 d) ∧ Hid (∀ i, d i < 256) ∧ Hid (Ob.valD d 17 = Ob.mkN (Ob.valD C 16) z n i) ∧ Below N w wr) (fun _ s8 _ => n + 16 - (intOf s8).toNat)
      case atStart => exact ⟨0, 0, G0, 17, fun _ => 0, rfl, rfl, rfl, by omega, lN, ta2, th2', hd17, hz17, hB2⟩
      case round =>
        clear ta2 th2' hB2 hz17 hd17
        obtain ⟨i, at_, g, cap, d, rfl, rfl, hat, hi', lNg, tc, td, hd, hv, hB⟩ := hrel
        have l0 := hB.size
        by_cases hlt : at_ < n
        · obtain ⟨tb, tf, rfl, hTx⟩ : ∃ tb tf, a = some ⟨tb, tf, none⟩ ∧ Hid (Bys w tb tf n z) := by
            rcases hS0.out with h | ⟨b, off, h, hB'⟩
            · omega
            · exact ⟨b, off, h, hB'⟩
          have at0 : (at_ : Int) < (n : Int) := by omega
          obtain ⟨L, hL, hL1, hL2, hL3⟩ : ∃ L : Nat, Hid (L = min 16 (n - at_)) ∧ L ≤ 16 ∧ at_ + L ≤ n ∧ (L = 16 ∨ at_ + L = n) := ⟨min 16 (n - at_), rfl, by omega, by omega, by omega⟩
          obtain ⟨s, hs⟩ : ∃ s : Nat → Nat, Hid (s = fun k => z (at_ + k)) := ⟨_, rfl⟩
          have hsl : Hid (∀ i, s i < 256) := fun i => by rw [hs.out]; exact ht'.out _
          have td0 : Hid (Arr wr .i64 g 17 (adI d s 0)) := by rw [adI_zero]; exact td
          clear td
          go_wp2
          go_loopw [9] (fun s9 wr => ∃ j : Nat, j ≤ L ∧ s9 = .int .i64 (j : Nat) ∧ Hid (Arr wr .i64 g 17 (adI d s j)) ∧ Hid (Arr wr .i64 N 16 C) ∧ Below N w wr) (fun s9 _ => 16 - (intOf s9).toNat)
          case atStart => exact ⟨0, by omega, rfl, td0, tc, hB⟩
          case round =>
            clear td0 tc hB
            obtain ⟨j, hj, rfl, td, tc, hB⟩ := hrel
            have l1 := hB.size
            by_cases hjL : j < L
            · have j0 : (j : Int) < 16 := by omega
              have j1 : (0 : Int) ≤ (j : Int) := by omega
              have j17 : (j : Int) < 17 := by omega
              have hj17 : j < 17 := by omega
              obtain ⟨k, hk, ek⟩ : ∃ k : Nat, Hid (at_ + j = k) ∧ IntKind.i64.wrap ((at_ : Int) + (j : Int)) = (k : Int) := ⟨at_ + j, rfl, by rw [IntKind.wrap_i64]; omega⟩
              have hkn : k < n := by have := hk.out; omega
              have k0 : (k : Int) < (n : Int) := by omega
              have k1 : (0 : Int) ≤ (k : Int) := by omega
              obtain ⟨x, hx⟩ : ∃ x, Hid (d j = x) := ⟨_, rfl⟩
              obtain ⟨y, hy⟩ : ∃ y, Hid (z k = y) := ⟨_, rfl⟩
              have hxl : x < 256 := by rw [← hx.out]; exact hd.out j
              have hyl : y < 256 := by rw [← hy.out]; exact ht'.out k
              have ey : IntKind.i64.wrap (y : Int) = (y : Int) := by rw [IntKind.wrap_i64]; omega
              obtain ⟨v, hv', ev⟩ : ∃ v : Nat, Hid (x + y = v) ∧ IntKind.i64.wrap ((x : Int) + (y : Int)) = (v : Int) := ⟨x + y, rfl, by rw [IntKind.wrap_i64]; omega⟩
              have hvE : d j + s j = v := by rw [hs.out, hx.out, ← hv'.out, ← hy.out, ← hk.out]
              have p0 := td.out.drew.c j hj17
              have p1 := (hTx.out.below (by rw [hN.out]; exact hB) hTx.out.lt).drew.at_ k hkn
              rw [adI_self, hx.out] at p0
              rw [hy.out] at p1
              have p2 := td.out.c j hj17
              have p3 := td.out.f j hj17
              go_upto_region 16 with (fail)
              refine wp_region_noPanic ?_
              refine region_lastly (S := (fun w' => w'.cell? ⟨g, j, none⟩ = some (.int .i64 (x : Nat)) ∧ w'.cell? ⟨tb, tf + k, none⟩ = some (.int .u8 (y : Nat)))) [15] (by kernel_rfl) (by ((try dsimp only); (exact ⟨p0, p1⟩))) (fun hHeld => ?_)
              refine anyZ_free (i := 0) (oi := ?oi_1) (v := ?v_1) ?hi_1 ?hs_1 ?hf_1 ?hr_1 ?hQ_1 (Or.inl ⟨?hw_1, ?hy_1⟩) ?hrest_1
              case hi_1 => (simp only [List.getElem?_toArray, List.getElem?_cons_succ, List.getElem?_cons_zero]; exact rfl)
              case hs_1 => kernel_rfl
              case hf_1 => kernel_rfl
              case hr_1 => kernel_rfl
              case hQ_1 => exact fun _ _ _ h => h
              case hw_1 => rfl
              case hy_1 => (intro w _; go_simp; try with_reducible rfl)
              try simp only [Act.put, List.setIfInBounds_toArray, List.set_cons_zero, List.set_cons_succ]
              refine anyZ_free (i := 1) (oi := ?oi_2) (v := ?v_2) ?hi_2 ?hs_2 ?hf_2 ?hr_2 ?hQ_2 (Or.inl ⟨?hw_2, ?hy_2⟩) ?hrest_2
              case hi_2 => (simp only [List.getElem?_toArray, List.getElem?_cons_succ, List.getElem?_cons_zero]; exact rfl)
              case hs_2 => kernel_rfl
              case hf_2 => kernel_rfl
              case hr_2 => kernel_rfl
              case hQ_2 => exact fun _ _ _ h => h
              case hw_2 => rfl
              case hy_2 => (intro w _; go_simp; try with_reducible rfl)
              try simp only [Act.put, List.setIfInBounds_toArray, List.set_cons_zero, List.set_cons_succ]
              refine anyZ_free (i := 2) (oi := ?oi_3) (v := ?v_3) ?hi_3 ?hs_3 ?hf_3 ?hr_3 ?hQ_3 (Or.inl ⟨?hw_3, ?hy_3⟩) ?hrest_3
              case hi_3 => (simp only [List.getElem?_toArray, List.getElem?_cons_succ, List.getElem?_cons_zero]; exact rfl)
              case hs_3 => kernel_rfl
              case hf_3 => kernel_rfl
              case hr_3 => kernel_rfl
              case hQ_3 => exact fun _ _ _ h => h
              case hw_3 => rfl
              case hy_3 => (intro w _; go_simp; try with_reducible rfl)
              try simp only [Act.put, List.setIfInBounds_toArray, List.set_cons_zero, List.set_cons_succ]
              refine anyZ_free (i := 3) (oi := ?oi_4) (v := ?v_4) ?hi_4 ?hs_4 ?hf_4 ?hr_4 ?hQ_4 (Or.inl ⟨?hw_4, ?hy_4⟩) ?hrest_4
              case hi_4 => (simp only [List.getElem?_toArray, List.getElem?_cons_succ, List.getElem?_cons_zero]; exact rfl)
              case hs_4 => kernel_rfl
              case hf_4 => kernel_rfl
              case hr_4 => kernel_rfl
              case hQ_4 => exact fun _ _ _ h => h
              case hw_4 => rfl
              case hy_4 => (intro w _; go_simp; try with_reducible rfl)
              try simp only [Act.put, List.setIfInBounds_toArray, List.set_cons_zero, List.set_cons_succ]
              refine anyZ_free (i := 4) (oi := ?oi_5) (v := ?v_5) ?hi_5 ?hs_5 ?hf_5 ?hr_5 ?hQ_5 (Or.inl ⟨?hw_5, ?hy_5⟩) ?hrest_5
              case hi_5 => (simp only [List.getElem?_toArray, List.getElem?_cons_succ, List.getElem?_cons_zero]; exact rfl)
              case hs_5 => kernel_rfl
              case hf_5 => kernel_rfl
              case hr_5 => kernel_rfl
              case hQ_5 => exact fun _ _ _ h => h
              case hw_5 => rfl
              case hy_5 => (intro w _; go_simp; try with_reducible rfl)
              try simp only [Act.put, List.setIfInBounds_toArray, List.set_cons_zero, List.set_cons_succ]
              refine anyZ_take (i := 5) (oi := ?oi_6) (v := ?v_6) ?hi_6 ?hz_6 ?hs_6 ?hf_6 ?hr_6 ?hQ_6 (Or.inl ⟨?hw_6, ?hy_6⟩) ?hS_6 ?hrest_6
              case hi_6 => (simp only [List.getElem?_toArray, List.getElem?_cons_succ, List.getElem?_cons_zero]; exact rfl)
              case hz_6 => kernel_rfl
              case hs_6 => kernel_rfl
              case hf_6 => kernel_rfl
              case hr_6 => kernel_rfl
              case hQ_6 => exact fun _ _ _ h => h
              case hw_6 => rfl
              case hS_6 => assumption
              case hy_6 => (intro w hSw; (try dsimp only at hSw); go_simp; try with_reducible rfl)
              try simp only [Act.put, List.setIfInBounds_toArray, List.set_cons_zero, List.set_cons_succ]
              refine anyZ_free (i := 6) (oi := ?oi_7) (v := ?v_7) ?hi_7 ?hs_7 ?hf_7 ?hr_7 ?hQ_7 (Or.inl ⟨?hw_7, ?hy_7⟩) ?hrest_7
              case hi_7 => (simp only [List.getElem?_toArray, List.getElem?_cons_succ, List.getElem?_cons_zero]; exact rfl)
              case hs_7 => kernel_rfl
              case hf_7 => kernel_rfl
              case hr_7 => kernel_rfl
              case hQ_7 => exact fun _ _ _ h => h
              case hw_7 => rfl
              case hy_7 => (intro w _; go_simp; try with_reducible rfl)
              try simp only [Act.put, List.setIfInBounds_toArray, List.set_cons_zero, List.set_cons_succ]
              refine anyZ_free (i := 7) (oi := ?oi_8) (v := ?v_8) ?hi_8 ?hs_8 ?hf_8 ?hr_8 ?hQ_8 (Or.inl ⟨?hw_8, ?hy_8⟩) ?hrest_8
              case hi_8 => (simp only [List.getElem?_toArray, List.getElem?_cons_succ, List.getElem?_cons_zero]; exact rfl)
              case hs_8 => kernel_rfl
              case hf_8 => kernel_rfl
              case hr_8 => kernel_rfl
              case hQ_8 => exact fun _ _ _ h => h
              case hw_8 => rfl
              case hy_8 => (intro w _; go_simp; try with_reducible rfl)
              try simp only [Act.put, List.setIfInBounds_toArray, List.set_cons_zero, List.set_cons_succ]
              refine anyZ_free (i := 8) (oi := ?oi_9) (v := ?v_9) ?hi_9 ?hs_9 ?hf_9 ?hr_9 ?hQ_9 (Or.inl ⟨?hw_9, ?hy_9⟩) ?hrest_9
              case hi_9 => (simp only [List.getElem?_toArray, List.getElem?_cons_succ, List.getElem?_cons_zero]; exact rfl)
              case hs_9 => kernel_rfl
              case hf_9 => kernel_rfl
              case hr_9 => kernel_rfl
              case hQ_9 => exact fun _ _ _ h => h
              case hw_9 => rfl
              case hy_9 => (intro w _; go_simp; try with_reducible rfl)
              try simp only [Act.put, List.setIfInBounds_toArray, List.set_cons_zero, List.set_cons_succ]
              refine anyZ_free (i := 9) (oi := ?oi_10) (v := ?v_10) ?hi_10 ?hs_10 ?hf_10 ?hr_10 ?hQ_10 (Or.inl ⟨?hw_10, ?hy_10⟩) ?hrest_10
              case hi_10 => (simp only [List.getElem?_toArray, List.getElem?_cons_succ, List.getElem?_cons_zero]; exact rfl)
              case hs_10 => kernel_rfl
              case hf_10 => kernel_rfl
              case hr_10 => kernel_rfl
              case hQ_10 => exact fun _ _ _ h => h
              case hw_10 => rfl
              case hy_10 => (intro w _; go_simp; try with_reducible rfl)
              try simp only [Act.put, List.setIfInBounds_toArray, List.set_cons_zero, List.set_cons_succ]
              refine anyZ_free (i := 10) (oi := ?oi_11) (v := ?v_11) ?hi_11 ?hs_11 ?hf_11 ?hr_11 ?hQ_11 (Or.inl ⟨?hw_11, ?hy_11⟩) ?hrest_11
              case hi_11 => (simp only [List.getElem?_toArray, List.getElem?_cons_succ, List.getElem?_cons_zero]; exact rfl)
              case hs_11 => kernel_rfl
              case hf_11 => kernel_rfl
              case hr_11 => kernel_rfl
              case hQ_11 => exact fun _ _ _ h => h
              case hw_11 => rfl
              case hy_11 => (intro w _; go_simp; try with_reducible rfl)
              try simp only [Act.put, List.setIfInBounds_toArray, List.set_cons_zero, List.set_cons_succ]
              refine anyZ_take (i := 11) (oi := ?oi_12) (v := ?v_12) ?hi_12 ?hz_12 ?hs_12 ?hf_12 ?hr_12 ?hQ_12 (Or.inl ⟨?hw_12, ?hy_12⟩) ?hS_12 ?hrest_12
              case hi_12 => (simp only [List.getElem?_toArray, List.getElem?_cons_succ, List.getElem?_cons_zero]; exact rfl)
              case hz_12 => kernel_rfl
              case hs_12 => kernel_rfl
              case hf_12 => kernel_rfl
              case hr_12 => kernel_rfl
              case hQ_12 => exact fun _ _ _ h => h
              case hw_12 => rfl
              case hS_12 => assumption
              case hy_12 => (intro w hSw; (try dsimp only at hSw); go_simp; try with_reducible rfl)
              try simp only [Act.put, List.setIfInBounds_toArray, List.set_cons_zero, List.set_cons_succ]
              refine anyZ_free (i := 12) (oi := ?oi_13) (v := ?v_13) ?hi_13 ?hs_13 ?hf_13 ?hr_13 ?hQ_13 (Or.inl ⟨?hw_13, ?hy_13⟩) ?hrest_13
              case hi_13 => (simp only [List.getElem?_toArray, List.getElem?_cons_succ, List.getElem?_cons_zero]; exact rfl)
              case hs_13 => kernel_rfl
              case hf_13 => kernel_rfl
              case hr_13 => kernel_rfl
              case hQ_13 => exact fun _ _ _ h => h
              case hw_13 => rfl
              case hy_13 => (intro w _; go_simp; try with_reducible rfl)
              try simp only [Act.put, List.setIfInBounds_toArray, List.set_cons_zero, List.set_cons_succ]
              refine anyZ_free (i := 13) (oi := ?oi_14) (v := ?v_14) ?hi_14 ?hs_14 ?hf_14 ?hr_14 ?hQ_14 (Or.inl ⟨?hw_14, ?hy_14⟩) ?hrest_14
              case hi_14 => (simp only [List.getElem?_toArray, List.getElem?_cons_succ, List.getElem?_cons_zero]; exact rfl)
              case hs_14 => kernel_rfl
              case hf_14 => kernel_rfl
              case hr_14 => kernel_rfl
              case hQ_14 => exact fun _ _ _ h => h
              case hw_14 => rfl
              case hy_14 => (intro w _; go_simp; try with_reducible rfl)
              try simp only [Act.put, List.setIfInBounds_toArray, List.set_cons_zero, List.set_cons_succ]
              refine anyZ_free (i := 14) (oi := ?oi_15) (v := ?v_15) ?hi_15 ?hs_15 ?hf_15 ?hr_15 ?hQ_15 (Or.inl ⟨?hw_15, ?hy_15⟩) ?hrest_15
              case hi_15 => (simp only [List.getElem?_toArray, List.getElem?_cons_succ, List.getElem?_cons_zero]; exact rfl)
              case hs_15 => kernel_rfl
              case hf_15 => kernel_rfl
              case hr_15 => kernel_rfl
              case hQ_15 => exact fun _ _ _ h => h
              case hw_15 => rfl
              case hy_15 => (intro w _; go_simp; try with_reducible rfl)
              try simp only [Act.put, List.setIfInBounds_toArray, List.set_cons_zero, List.set_cons_succ]
              refine anyZ_ready (rs := [15]) (by kernel_rfl) (by simp) ?_
              refine (AllZ.last (o := ?o_16) ?ho_16 (by rfl) (fun K hK => ?st_16) AllZ.nil)
              case ho_16 => (simp only [List.getElem?_toArray, List.getElem?_cons_succ, List.getElem?_cons_zero]; exact rfl)
              case st_16 =>
                go_simp
                refine hK.out _ _ ?_
                clear hK K
                try simp only [Act.put, List.setIfInBounds_toArray, List.set_cons_zero, List.set_cons_succ]
                refine anyZ_done (by kernel_rfl) ?_ _
                refine NoPanic.normal ?_
                have td4 : Hid (Arr ((wr.setCell ⟨g, j, none⟩ (.int .i64 (v : Nat))).drew) .i64 g 17 (adI d s (j + 1))) := by
                  have q := (td.out.set (i := j) (z := v) hj17).drew
                  rw [← hvE, adI_succ, hvE] at q
                  exact q
                have tc4 : Hid (Arr ((wr.setCell ⟨g, j, none⟩ (.int .i64 (v : Nat))).drew) .i64 N 16 C) := (tc.out.far (by omega) _ _).drew
                have hB4 : Below N w ((wr.setCell ⟨g, j, none⟩ (.int .i64 (v : Nat))).drew) := by (repeat' (first | (with_reducible first | exact Below.refl _ _ | assumption | refine Below.alloc ?_ ?_ _ | refine Below.drew ?_ | refine below_drewN ?_ _ | refine Below.setCell ?_ ?_ _ | refine below_via (by with_reducible assumption) ?_ ?_) | omega | (simp only [szs]; omega) | (simp only [szs] at *; omega)))
                clear hHeld p0 p1 p2 p3 hvE ek
                go_wp2
                go_roundw
                case rel => exact ⟨j + 1, by omega, by go_num, td4, tc4, hB4⟩
                case measure => (simp only [intOf, Int.toNat_natCast]; omega)
            · obtain rfl : j = L := by omega
              obtain ⟨k, hk, ek⟩ : ∃ k : Nat, Hid (at_ + j = k) ∧ IntKind.i64.wrap ((at_ : Int) + (j : Int)) = (k : Int) := ⟨at_ + j, rfl, by rw [IntKind.wrap_i64]; omega⟩
              go_upto_region 15 with (fail)
              go_cut [73] from 64 to 90 (fun s73 w6 => s73 = .bool false ∧ w6 = wr)
              case first =>
                by_cases hL16 : j = 16
                · have e16 : ¬ (j : Int) < 16 := by omega
                  clear hL16 hL3
                  go_wp2
                  go_meet
                  case rel => exact ⟨rfl, rfl⟩
                · have e16 : (j : Int) < 16 := by omega
                  have ekn : ¬ (k : Int) < (n : Int) := by have := hk.out; omega
                  clear hL16 hL3
                  go_wp2
                  go_meet
                  case rel => exact ⟨rfl, rfl⟩
              case rest =>
                obtain ⟨rfl, rfl⟩ := hcut
                have L17 : (j : Int) < 17 := by omega
                have L0 : (0 : Int) ≤ (j : Int) := by omega
                have hj17 : j < 17 := by omega
                obtain ⟨x, hx⟩ : ∃ x, Hid (d j = x) := ⟨_, rfl⟩
                have hxl : x < 256 := by rw [← hx.out]; exact hd.out j
                obtain ⟨v, hv', ev⟩ : ∃ v : Nat, Hid (x + 1 = v) ∧ IntKind.i64.wrap ((x : Int) + 1) = (v : Int) := ⟨x + 1, rfl, by rw [IntKind.wrap_i64]; omega⟩
                have q0 := td.out.c j hj17
                rw [adI_self, hx.out] at q0
                have q1 := td.out.f j hj17
                obtain ⟨h, hh⟩ : ∃ h, Hid (adB d z at_ j = h) := ⟨_, rfl⟩
                have hhl : Hid (∀ i, h i < 512) := by rw [← hh.out]; exact adB_lt hd.out ht'.out at_ j
                have hhv : Hid (Ob.valD h 17 = Ob.valD d 17 + Ob.blkV z n at_) := by rw [← hh.out]; exact adB_val d z n at_ j hL.out
                have th : Hid (Arr (wc.setCell ⟨g, j, none⟩ (.int .i64 (v : Nat))) .i64 g 17 h) := by
                  have q := td.out.set (i := j) (z := v) hj17
                  have e : Ob.upd (adI d s j) j v = h := by rw [← hh.out, ← hv'.out, ← hx.out, hs.out]; rfl
                  rw [e] at q
                  exact q
                have tc5 : Hid (Arr (wc.setCell ⟨g, j, none⟩ (.int .i64 (v : Nat))) .i64 N 16 C) := tc.out.far (by omega) _ _
                have hB5 : Below N w (wc.setCell ⟨g, j, none⟩ (.int .i64 (v : Nat))) := by (repeat' (first | (with_reducible first | exact Below.refl _ _ | assumption | refine Below.alloc ?_ ?_ _ | refine Below.drew ?_ | refine below_drewN ?_ _ | refine Below.setCell ?_ ?_ _ | refine below_via (by with_reducible assumption) ?_ ?_) | omega | (simp only [szs]; omega) | (simp only [szs] at *; omega)))
                clear hL3
                go_upto_region 19 with (fail)
                clear q0 q1 td tc hB
                generalize (wc.setCell ⟨g, j, none⟩ (.int .i64 (v : Nat))) = W5 at *
                obtain ⟨W6, hmk6, tp6, b6, z6⟩ := make_ints 34 (by decide) W5
                have lg5 := th.out.lt
                obtain ⟨B, hBB⟩ : ∃ B, Hid (W5.heap.size = B) := ⟨_, rfl⟩
                have th6 : Hid (Arr W6 .i64 g 17 h) := th.out.below b6 lg5
                have tc6 : Hid (Arr W6 .i64 N 16 C) := tc5.out.below b6 tc5.out.lt
                have hB6 : Below N w W6 := below_via b6 hB5 (by omega)
                rw [hBB.out] at tp6 hmk6 lg5
                have tp6' : Hid (Arr W6 .i64 B 34 (fun _ => 0)) := tp6
                have hmk6' : (Instr.makeSlice 49 (.int .i64 34) (.int .i64 34)).run Tryd.prog W5 = .ok (.slice (some ⟨B, 0, none⟩) 34 34) W6 := hmk6
                clear hmk6 tp6 b6 th tc5 hB5
                go_wp2
                clear hmk6'
                have hp6 : Hid (Ob.valD (fun _ => 0) 34 = Ob.valD h 0 * Ob.valD C 16) := by show _ = _; rw [Ob.valD_zero (fun _ _ => rfl)]; show 0 = 0 * _; rw [Nat.zero_mul]
                go_loopw [11] (fun s11 wr => ∃ (i2 : Nat) (p : Nat → Nat), i2 ≤ 17 ∧ s11 = .int .i64 (i2 : Nat) ∧ Hid (Arr wr .i64 B 34 p) ∧ Hid (∀ k, p k ≤ i2 * 16 * 130305) ∧ Hid (Ob.valD p 34 = Ob.valD h i2 * Ob.valD C 16) ∧ Hid (Arr wr .i64 g 17 h) ∧ Hid (Arr wr .i64 N 16 C) ∧ Below N w wr) (fun s11 _ => 17 - (intOf s11).toNat)
                case atStart => exact ⟨0, fun _ => 0, by omega, rfl, tp6', fun k => Nat.zero_le _, hp6, th6, tc6, hB6⟩
                case round =>
                  clear tp6' hp6 th6 tc6 hB6
                  obtain ⟨i2, p, hi2, rfl, tp, hpl, hpv, th, tc, hB⟩ := hrel
                  by_cases hlt2 : i2 < 17
                  · have i20 : (i2 : Int) < 17 := by omega
                    have i21 : (0 : Int) ≤ (i2 : Int) := by omega
                    have hpv0 : Hid (Ob.valD p 34 = Ob.valD h i2 * Ob.valD C 16 + h i2 * 256 ^ i2 * Ob.valD C 0) := by show _ = _; rw [hpv.out]; show _ = _ + _ * 0; rw [Nat.mul_zero, Nat.add_zero]
                    have hpl0 : Hid (∀ k, p k ≤ (i2 * 16 + 0) * 130305) := hpl
                    clear hpl hpv
                    go_wp2
                    go_loopw [12] (fun s12 wr => ∃ (j2 : Nat) (p : Nat → Nat), j2 ≤ 16 ∧ s12 = .int .i64 (j2 : Nat) ∧ Hid (Arr wr .i64 B 34 p) ∧ Hid (∀ k, p k ≤ (i2 * 16 + j2) * 130305) ∧ Hid (Ob.valD p 34 = Ob.valD h i2 * Ob.valD C 16 + h i2 * 256 ^ i2 * Ob.valD C j2) ∧ Hid (Arr wr .i64 g 17 h) ∧ Hid (Arr wr .i64 N 16 C) ∧ Below N w wr) (fun s12 _ => 16 - (intOf s12).toNat)
                    case atStart => exact ⟨0, p, by omega, rfl, tp, hpl0, hpv0, th, tc, hB⟩
                    case round =>
                      clear tp hpl0 hpv0 th tc hB
                      obtain ⟨j2, p, hj2, rfl, tp, hpl, hpv, th, tc, hB⟩ := hrel
                      have l3 := hB.size
                      by_cases hlt3 : j2 < 16
                      · have j20 : (j2 : Int) < 16 := by omega
                        have j21 : (0 : Int) ≤ (j2 : Int) := by omega
                        obtain ⟨k2, hk2, ek2⟩ : ∃ k : Nat, Hid (i2 + j2 = k) ∧ IntKind.i64.wrap ((i2 : Int) + (j2 : Int)) = (k : Int) := ⟨i2 + j2, rfl, by rw [IntKind.wrap_i64]; omega⟩
                        have hk34 : k2 < 34 := by have := hk2.out; omega
                        have k20 : (k2 : Int) < 34 := by omega
                        have k21 : (0 : Int) ≤ (k2 : Int) := by omega
                        obtain ⟨x0, hx0⟩ : ∃ x, Hid (p k2 = x) := ⟨_, rfl⟩
                        obtain ⟨x1, hx1⟩ : ∃ x, Hid (h i2 = x) := ⟨_, rfl⟩
                        obtain ⟨x2, hx2⟩ : ∃ x, Hid (C j2 = x) := ⟨_, rfl⟩
                        have hx0l : x0 ≤ (i2 * 16 + j2) * 130305 := by rw [← hx0.out]; exact hpl.out k2
                        have hx1l : x1 ≤ 511 := by rw [← hx1.out]; have := hhl.out i2; omega
                        have hx2l : x2 ≤ 255 := by rw [← hx2.out]; have := hCl.out j2; omega
                        have hm0 : x1 * x2 ≤ 130305 := Nat.mul_le_mul hx1l hx2l
                        obtain ⟨y0, hy0, ey0⟩ : ∃ y : Nat, Hid (x1 * x2 = y) ∧ (x1 : Int) * (x2 : Int) = (y : Int) := ⟨x1 * x2, rfl, by rw [Int.natCast_mul]⟩
                        have hy0l : y0 ≤ 130305 := by rw [← hy0.out]; exact hm0
                        have ey1 : IntKind.i64.wrap ((x1 : Int) * (x2 : Int)) = (y0 : Int) := by rw [ey0, IntKind.wrap_i64]; omega
                        obtain ⟨v2, hv2, ev2⟩ : ∃ y : Nat, Hid (x0 + y0 = y) ∧ IntKind.i64.wrap ((x0 : Int) + (y0 : Int)) = (y : Int) := ⟨x0 + y0, rfl, by rw [IntKind.wrap_i64]; omega⟩
                        have p0 := tp.out.drew.c k2 hk34
                        have p1 := th.out.drew.c i2 hlt2
                        have p2 := tc.out.drew.c j2 hlt3
                        rw [hx0.out] at p0
                        rw [hx1.out] at p1
                        rw [hx2.out] at p2
                        have p3 := tp.out.c k2 hk34
                        have p4 := tp.out.f k2 hk34
                        clear ey0 hm0
                        have hx0l' : Hid (x0 ≤ (i2 * 16 + j2) * 130305) := hx0l
                        clear hx0l
                        go_upto_region 26 with (fail)
                        refine wp_region_noPanic ?_
                        refine region_lastly (S := (fun w' => w'.cell? ⟨B, k2, none⟩ = some (.int .i64 (x0 : Nat)) ∧ w'.cell? ⟨g, i2, none⟩ = some (.int .i64 (x1 : Nat)) ∧ w'.cell? ⟨N, j2, none⟩ = some (.int .i64 (x2 : Nat)))) [21] (by kernel_rfl) (by ((try dsimp only); (exact ⟨p0, p1, p2⟩))) (fun hHeld => ?_)
                        refine anyZ_free (i := 0) (oi := ?oi_17) (v := ?v_17) ?hi_17 ?hs_17 ?hf_17 ?hr_17 ?hQ_17 (Or.inl ⟨?hw_17, ?hy_17⟩) ?hrest_17
                        case hi_17 => (simp only [List.getElem?_toArray, List.getElem?_cons_succ, List.getElem?_cons_zero]; exact rfl)
                        case hs_17 => kernel_rfl
                        case hf_17 => kernel_rfl
                        case hr_17 => kernel_rfl
                        case hQ_17 => exact fun _ _ _ h => h
                        case hw_17 => rfl
                        case hy_17 => (intro w _; go_simp; try with_reducible rfl)
                        try simp only [Act.put, List.setIfInBounds_toArray, List.set_cons_zero, List.set_cons_succ]
                        refine anyZ_free (i := 1) (oi := ?oi_18) (v := ?v_18) ?hi_18 ?hs_18 ?hf_18 ?hr_18 ?hQ_18 (Or.inl ⟨?hw_18, ?hy_18⟩) ?hrest_18
                        case hi_18 => (simp only [List.getElem?_toArray, List.getElem?_cons_succ, List.getElem?_cons_zero]; exact rfl)
                        case hs_18 => kernel_rfl
                        case hf_18 => kernel_rfl
                        case hr_18 => kernel_rfl
                        case hQ_18 => exact fun _ _ _ h => h
                        case hw_18 => rfl
                        case hy_18 => (intro w _; go_simp; try with_reducible rfl)
                        try simp only [Act.put, List.setIfInBounds_toArray, List.set_cons_zero, List.set_cons_succ]
                        refine anyZ_free (i := 2) (oi := ?oi_19) (v := ?v_19) ?hi_19 ?hs_19 ?hf_19 ?hr_19 ?hQ_19 (Or.inl ⟨?hw_19, ?hy_19⟩) ?hrest_19
                        case hi_19 => (simp only [List.getElem?_toArray, List.getElem?_cons_succ, List.getElem?_cons_zero]; exact rfl)
                        case hs_19 => kernel_rfl
                        case hf_19 => kernel_rfl
                        case hr_19 => kernel_rfl
                        case hQ_19 => exact fun _ _ _ h => h
                        case hw_19 => rfl
                        case hy_19 => (intro w _; go_simp; try with_reducible rfl)
                        try simp only [Act.put, List.setIfInBounds_toArray, List.set_cons_zero, List.set_cons_succ]
                        refine anyZ_free (i := 3) (oi := ?oi_20) (v := ?v_20) ?hi_20 ?hs_20 ?hf_20 ?hr_20 ?hQ_20 (Or.inl ⟨?hw_20, ?hy_20⟩) ?hrest_20
                        case hi_20 => (simp only [List.getElem?_toArray, List.getElem?_cons_succ, List.getElem?_cons_zero]; exact rfl)
                        case hs_20 => kernel_rfl
                        case hf_20 => kernel_rfl
                        case hr_20 => kernel_rfl
                        case hQ_20 => exact fun _ _ _ h => h
                        case hw_20 => rfl
                        case hy_20 => (intro w _; go_simp; try with_reducible rfl)
                        try simp only [Act.put, List.setIfInBounds_toArray, List.set_cons_zero, List.set_cons_succ]
                        refine anyZ_free (i := 4) (oi := ?oi_21) (v := ?v_21) ?hi_21 ?hs_21 ?hf_21 ?hr_21 ?hQ_21 (Or.inl ⟨?hw_21, ?hy_21⟩) ?hrest_21
                        case hi_21 => (simp only [List.getElem?_toArray, List.getElem?_cons_succ, List.getElem?_cons_zero]; exact rfl)
                        case hs_21 => kernel_rfl
                        case hf_21 => kernel_rfl
                        case hr_21 => kernel_rfl
                        case hQ_21 => exact fun _ _ _ h => h
                        case hw_21 => rfl
                        case hy_21 => (intro w _; go_simp; try with_reducible rfl)
                        try simp only [Act.put, List.setIfInBounds_toArray, List.set_cons_zero, List.set_cons_succ]
                        refine anyZ_free (i := 5) (oi := ?oi_22) (v := ?v_22) ?hi_22 ?hs_22 ?hf_22 ?hr_22 ?hQ_22 (Or.inl ⟨?hw_22, ?hy_22⟩) ?hrest_22
                        case hi_22 => (simp only [List.getElem?_toArray, List.getElem?_cons_succ, List.getElem?_cons_zero]; exact rfl)
                        case hs_22 => kernel_rfl
                        case hf_22 => kernel_rfl
                        case hr_22 => kernel_rfl
                        case hQ_22 => exact fun _ _ _ h => h
                        case hw_22 => rfl
                        case hy_22 => (intro w _; go_simp; try with_reducible rfl)
                        try simp only [Act.put, List.setIfInBounds_toArray, List.set_cons_zero, List.set_cons_succ]
                        refine anyZ_free (i := 6) (oi := ?oi_23) (v := ?v_23) ?hi_23 ?hs_23 ?hf_23 ?hr_23 ?hQ_23 (Or.inl ⟨?hw_23, ?hy_23⟩) ?hrest_23
                        case hi_23 => (simp only [List.getElem?_toArray, List.getElem?_cons_succ, List.getElem?_cons_zero]; exact rfl)
                        case hs_23 => kernel_rfl
                        case hf_23 => kernel_rfl
                        case hr_23 => kernel_rfl
                        case hQ_23 => exact fun _ _ _ h => h
                        case hw_23 => rfl
                        case hy_23 => (intro w _; go_simp; try with_reducible rfl)
                        try simp only [Act.put, List.setIfInBounds_toArray, List.set_cons_zero, List.set_cons_succ]
                        refine anyZ_free (i := 7) (oi := ?oi_24) (v := ?v_24) ?hi_24 ?hs_24 ?hf_24 ?hr_24 ?hQ_24 (Or.inl ⟨?hw_24, ?hy_24⟩) ?hrest_24
                        case hi_24 => (simp only [List.getElem?_toArray, List.getElem?_cons_succ, List.getElem?_cons_zero]; exact rfl)
                        case hs_24 => kernel_rfl
                        case hf_24 => kernel_rfl
                        case hr_24 => kernel_rfl
                        case hQ_24 => exact fun _ _ _ h => h
                        case hw_24 => rfl
                        case hy_24 => (intro w _; go_simp; try with_reducible rfl)
                        try simp only [Act.put, List.setIfInBounds_toArray, List.set_cons_zero, List.set_cons_succ]
                        refine anyZ_free (i := 8) (oi := ?oi_25) (v := ?v_25) ?hi_25 ?hs_25 ?hf_25 ?hr_25 ?hQ_25 (Or.inl ⟨?hw_25, ?hy_25⟩) ?hrest_25
                        case hi_25 => (simp only [List.getElem?_toArray, List.getElem?_cons_succ, List.getElem?_cons_zero]; exact rfl)
                        case hs_25 => kernel_rfl
                        case hf_25 => kernel_rfl
                        case hr_25 => kernel_rfl
                        case hQ_25 => exact fun _ _ _ h => h
                        case hw_25 => rfl
                        case hy_25 => (intro w _; go_simp; try with_reducible rfl)
                        try simp only [Act.put, List.setIfInBounds_toArray, List.set_cons_zero, List.set_cons_succ]
                        refine anyZ_take (i := 9) (oi := ?oi_26) (v := ?v_26) ?hi_26 ?hz_26 ?hs_26 ?hf_26 ?hr_26 ?hQ_26 (Or.inl ⟨?hw_26, ?hy_26⟩) ?hS_26 ?hrest_26
                        case hi_26 => (simp only [List.getElem?_toArray, List.getElem?_cons_succ, List.getElem?_cons_zero]; exact rfl)
                        case hz_26 => kernel_rfl
                        case hs_26 => kernel_rfl
                        case hf_26 => kernel_rfl
                        case hr_26 => kernel_rfl
                        case hQ_26 => exact fun _ _ _ h => h
                        case hw_26 => rfl
                        case hS_26 => assumption
                        case hy_26 => (intro w hSw; (try dsimp only at hSw); go_simp; try with_reducible rfl)
                        try simp only [Act.put, List.setIfInBounds_toArray, List.set_cons_zero, List.set_cons_succ]
                        refine anyZ_free (i := 10) (oi := ?oi_27) (v := ?v_27) ?hi_27 ?hs_27 ?hf_27 ?hr_27 ?hQ_27 (Or.inl ⟨?hw_27, ?hy_27⟩) ?hrest_27
                        case hi_27 => (simp only [List.getElem?_toArray, List.getElem?_cons_succ, List.getElem?_cons_zero]; exact rfl)
                        case hs_27 => kernel_rfl
                        case hf_27 => kernel_rfl
                        case hr_27 => kernel_rfl
                        case hQ_27 => exact fun _ _ _ h => h
                        case hw_27 => rfl
                        case hy_27 => (intro w _; go_simp; try with_reducible rfl)
                        try simp only [Act.put, List.setIfInBounds_toArray, List.set_cons_zero, List.set_cons_succ]
                        refine anyZ_free (i := 11) (oi := ?oi_28) (v := ?v_28) ?hi_28 ?hs_28 ?hf_28 ?hr_28 ?hQ_28 (Or.inl ⟨?hw_28, ?hy_28⟩) ?hrest_28
                        case hi_28 => (simp only [List.getElem?_toArray, List.getElem?_cons_succ, List.getElem?_cons_zero]; exact rfl)
                        case hs_28 => kernel_rfl
                        case hf_28 => kernel_rfl
                        case hr_28 => kernel_rfl
                        case hQ_28 => exact fun _ _ _ h => h
                        case hw_28 => rfl
                        case hy_28 => (intro w _; go_simp; try with_reducible rfl)
                        try simp only [Act.put, List.setIfInBounds_toArray, List.set_cons_zero, List.set_cons_succ]
                        refine anyZ_free (i := 12) (oi := ?oi_29) (v := ?v_29) ?hi_29 ?hs_29 ?hf_29 ?hr_29 ?hQ_29 (Or.inl ⟨?hw_29, ?hy_29⟩) ?hrest_29
                        case hi_29 => (simp only [List.getElem?_toArray, List.getElem?_cons_succ, List.getElem?_cons_zero]; exact rfl)
                        case hs_29 => kernel_rfl
                        case hf_29 => kernel_rfl
                        case hr_29 => kernel_rfl
                        case hQ_29 => exact fun _ _ _ h => h
                        case hw_29 => rfl
                        case hy_29 => (intro w _; go_simp; try with_reducible rfl)
                        try simp only [Act.put, List.setIfInBounds_toArray, List.set_cons_zero, List.set_cons_succ]
                        refine anyZ_take (i := 13) (oi := ?oi_30) (v := ?v_30) ?hi_30 ?hz_30 ?hs_30 ?hf_30 ?hr_30 ?hQ_30 (Or.inl ⟨?hw_30, ?hy_30⟩) ?hS_30 ?hrest_30
                        case hi_30 => (simp only [List.getElem?_toArray, List.getElem?_cons_succ, List.getElem?_cons_zero]; exact rfl)
                        case hz_30 => kernel_rfl
                        case hs_30 => kernel_rfl
                        case hf_30 => kernel_rfl
                        case hr_30 => kernel_rfl
                        case hQ_30 => exact fun _ _ _ h => h
                        case hw_30 => rfl
                        case hS_30 => assumption
                        case hy_30 => (intro w hSw; (try dsimp only at hSw); go_simp; try with_reducible rfl)
                        try simp only [Act.put, List.setIfInBounds_toArray, List.set_cons_zero, List.set_cons_succ]
                        refine anyZ_free (i := 14) (oi := ?oi_31) (v := ?v_31) ?hi_31 ?hs_31 ?hf_31 ?hr_31 ?hQ_31 (Or.inl ⟨?hw_31, ?hy_31⟩) ?hrest_31
                        case hi_31 => (simp only [List.getElem?_toArray, List.getElem?_cons_succ, List.getElem?_cons_zero]; exact rfl)
                        case hs_31 => kernel_rfl
                        case hf_31 => kernel_rfl
                        case hr_31 => kernel_rfl
                        case hQ_31 => exact fun _ _ _ h => h
                        case hw_31 => rfl
                        case hy_31 => (intro w _; go_simp; try with_reducible rfl)
                        try simp only [Act.put, List.setIfInBounds_toArray, List.set_cons_zero, List.set_cons_succ]
                        refine anyZ_free (i := 15) (oi := ?oi_32) (v := ?v_32) ?hi_32 ?hs_32 ?hf_32 ?hr_32 ?hQ_32 (Or.inl ⟨?hw_32, ?hy_32⟩) ?hrest_32
                        case hi_32 => (simp only [List.getElem?_toArray, List.getElem?_cons_succ, List.getElem?_cons_zero]; exact rfl)
                        case hs_32 => kernel_rfl
                        case hf_32 => kernel_rfl
                        case hr_32 => kernel_rfl
                        case hQ_32 => exact fun _ _ _ h => h
                        case hw_32 => rfl
                        case hy_32 => (intro w _; go_simp; try with_reducible rfl)
                        try simp only [Act.put, List.setIfInBounds_toArray, List.set_cons_zero, List.set_cons_succ]
                        refine anyZ_free (i := 16) (oi := ?oi_33) (v := ?v_33) ?hi_33 ?hs_33 ?hf_33 ?hr_33 ?hQ_33 (Or.inl ⟨?hw_33, ?hy_33⟩) ?hrest_33
                        case hi_33 => (simp only [List.getElem?_toArray, List.getElem?_cons_succ, List.getElem?_cons_zero]; exact rfl)
                        case hs_33 => kernel_rfl
                        case hf_33 => kernel_rfl
                        case hr_33 => kernel_rfl
                        case hQ_33 => exact fun _ _ _ h => h
                        case hw_33 => rfl
                        case hy_33 => (intro w _; go_simp; try with_reducible rfl)
                        try simp only [Act.put, List.setIfInBounds_toArray, List.set_cons_zero, List.set_cons_succ]
                        refine anyZ_take (i := 17) (oi := ?oi_34) (v := ?v_34) ?hi_34 ?hz_34 ?hs_34 ?hf_34 ?hr_34 ?hQ_34 (Or.inl ⟨?hw_34, ?hy_34⟩) ?hS_34 ?hrest_34
                        case hi_34 => (simp only [List.getElem?_toArray, List.getElem?_cons_succ, List.getElem?_cons_zero]; exact rfl)
                        case hz_34 => kernel_rfl
                        case hs_34 => kernel_rfl
                        case hf_34 => kernel_rfl
                        case hr_34 => kernel_rfl
                        case hQ_34 => exact fun _ _ _ h => h
                        case hw_34 => rfl
                        case hS_34 => assumption
                        case hy_34 => (intro w hSw; (try dsimp only at hSw); go_simp; try with_reducible rfl)
                        try simp only [Act.put, List.setIfInBounds_toArray, List.set_cons_zero, List.set_cons_succ]
                        refine anyZ_free (i := 18) (oi := ?oi_35) (v := ?v_35) ?hi_35 ?hs_35 ?hf_35 ?hr_35 ?hQ_35 (Or.inl ⟨?hw_35, ?hy_35⟩) ?hrest_35
                        case hi_35 => (simp only [List.getElem?_toArray, List.getElem?_cons_succ, List.getElem?_cons_zero]; exact rfl)
                        case hs_35 => kernel_rfl
                        case hf_35 => kernel_rfl
                        case hr_35 => kernel_rfl
                        case hQ_35 => exact fun _ _ _ h => h
                        case hw_35 => rfl
                        case hy_35 => (intro w _; go_simp; try with_reducible rfl)
                        try simp only [Act.put, List.setIfInBounds_toArray, List.set_cons_zero, List.set_cons_succ]
                        refine anyZ_free (i := 19) (oi := ?oi_36) (v := ?v_36) ?hi_36 ?hs_36 ?hf_36 ?hr_36 ?hQ_36 (Or.inl ⟨?hw_36, ?hy_36⟩) ?hrest_36
                        case hi_36 => (simp only [List.getElem?_toArray, List.getElem?_cons_succ, List.getElem?_cons_zero]; exact rfl)
                        case hs_36 => kernel_rfl
                        case hf_36 => kernel_rfl
                        case hr_36 => kernel_rfl
                        case hQ_36 => exact fun _ _ _ h => h
                        case hw_36 => rfl
                        case hy_36 => (intro w _; go_simp; try with_reducible rfl)
                        try simp only [Act.put, List.setIfInBounds_toArray, List.set_cons_zero, List.set_cons_succ]
                        refine anyZ_free (i := 20) (oi := ?oi_37) (v := ?v_37) ?hi_37 ?hs_37 ?hf_37 ?hr_37 ?hQ_37 (Or.inl ⟨?hw_37, ?hy_37⟩) ?hrest_37
                        case hi_37 => (simp only [List.getElem?_toArray, List.getElem?_cons_succ, List.getElem?_cons_zero]; exact rfl)
                        case hs_37 => kernel_rfl
                        case hf_37 => kernel_rfl
                        case hr_37 => kernel_rfl
                        case hQ_37 => exact fun _ _ _ h => h
                        case hw_37 => rfl
                        case hy_37 => (intro w _; go_simp; try with_reducible rfl)
                        try simp only [Act.put, List.setIfInBounds_toArray, List.set_cons_zero, List.set_cons_succ]
                        refine anyZ_ready (rs := [21]) (by kernel_rfl) (by simp) ?_
                        refine (AllZ.last (o := ?o_38) ?ho_38 (by rfl) (fun K hK => ?st_38) AllZ.nil)
                        case ho_38 => (simp only [List.getElem?_toArray, List.getElem?_cons_succ, List.getElem?_cons_zero]; exact rfl)
                        case st_38 =>
                          go_simp
                          refine hK.out _ _ ?_
                          clear hK K
                          try simp only [Act.put, List.setIfInBounds_toArray, List.set_cons_zero, List.set_cons_succ]
                          refine anyZ_done (by kernel_rfl) ?_ _
                          refine NoPanic.normal ?_
                          have hvE : p k2 + x1 * x2 = v2 := by rw [hx0.out, hy0.out, hv2.out]
                          have tp4 : Hid (Arr ((wr.setCell ⟨B, k2, none⟩ (.int .i64 (v2 : Nat))).drew) .i64 B 34 (Ob.upd p k2 (p k2 + x1 * x2))) := by
                            have q := (tp.out.set (i := k2) (z := v2) hk34).drew
                            rw [← hvE] at q
                            rw [← hvE]
                            exact q
                          have th4 : Hid (Arr ((wr.setCell ⟨B, k2, none⟩ (.int .i64 (v2 : Nat))).drew) .i64 g 17 h) := (th.out.far (by omega) _ _).drew
                          have tc4 : Hid (Arr ((wr.setCell ⟨B, k2, none⟩ (.int .i64 (v2 : Nat))).drew) .i64 N 16 C) := (tc.out.far (by omega) _ _).drew
                          have hB4 : Below N w ((wr.setCell ⟨B, k2, none⟩ (.int .i64 (v2 : Nat))).drew) := by (repeat' (first | (with_reducible first | exact Below.refl _ _ | assumption | refine Below.alloc ?_ ?_ _ | refine Below.drew ?_ | refine below_drewN ?_ _ | refine Below.setCell ?_ ?_ _ | refine below_via (by with_reducible assumption) ?_ ?_) | omega | (simp only [szs]; omega) | (simp only [szs] at *; omega)))
                          have hpl4 : Hid (∀ k, Ob.upd p k2 (p k2 + x1 * x2) k ≤ (i2 * 16 + (j2 + 1)) * 130305) := fun k => by
                            rw [hvE]
                            exact upd_le (fun j => Nat.le_trans (hpl.out j) (by omega)) (by have := hv2.out; have := hx0l'.out; omega) k
                          have hpv4 : Hid (Ob.valD (Ob.upd p k2 (p k2 + x1 * x2)) 34 = Ob.valD h i2 * Ob.valD C 16 + h i2 * 256 ^ i2 * Ob.valD C (j2 + 1)) := by
                            show _ = _
                            rw [Ob.upd_val p k2 (x1 * x2) 34 hk34, ← hx1.out, ← hx2.out, ← hk2.out, Nat.pow_add]
                            exact mul_step _ _ _ _ _ _ _ hpv.out
                          clear hHeld p0 p1 p2 p3 p4 hvE ek2
                          go_wp2
                          go_roundw
                          case rel => exact ⟨j2 + 1, _, by omega, by go_num, tp4, hpl4, hpv4, th4, tc4, hB4⟩
                          case measure => (simp only [intOf, Int.toNat_natCast]; omega)
                      · obtain rfl : j2 = 16 := by omega
                        have hpl5 : Hid (∀ k, p k ≤ (i2 + 1) * 16 * 130305) := fun k => by rw [show (i2 + 1) * 16 = i2 * 16 + 16 by omega]; exact hpl.out k
                        have hpv5 : Hid (Ob.valD p 34 = Ob.valD h (i2 + 1) * Ob.valD C 16) := by
                          show _ = (Ob.valD h i2 + h i2 * 256 ^ i2) * _
                          rw [hpv.out, Nat.add_mul]
                        clear hpl hpv
                        go_wp2
                        go_roundw
                        case rel => exact ⟨i2 + 1, p, by omega, by go_num, tp, hpl5, hpv5, th, tc, hB⟩
                        case measure => (simp only [intOf, Int.toNat_natCast]; omega)
                  · obtain rfl : i2 = 17 := by omega
                    have hbd : ∀ i, i < 34 → p i ≤ 1152921504606846976 := fun i _ => Nat.le_trans (hpl.out i) (by decide)
                    have hvv : Ob.valD (Ob.mask p 34) 40 < 256 ^ 40 := by rw [mask_val34, hpv.out]; exact prod_lt hhl.out hCl.out
                    have cr := rest_core B 34 34 (by decide) p hbd hvv wr tp.out.rd
                    have l5 := hB.size
                    have lN5 : N ≤ wr.heap.size := by have := hN.out; omega
                    have lNN := tc.out.lt
                    have hnew : Hid (Ob.valD (Ob.mask p 34) 40 % Ob.PP = Ob.mkN (Ob.valD C 16) z n (i + 1)) := by
                      show _ = (Ob.mkN (Ob.valD C 16) z n i + Ob.blkV z n (16 * i)) * Ob.valD C 16 % Ob.PP
                      rw [mask_val34, hpv.out, hhv.out, hv.out, hat.out]
                    rw [hnew.out] at cr
                    obtain ⟨at2, hat2, eat2⟩ : ∃ k : Nat, Hid (at_ + 16 = k) ∧ IntKind.i64.wrap ((at_ : Int) + 16) = (k : Int) := ⟨at_ + 16, rfl, by rw [IntKind.wrap_i64]; omega⟩
                    clear hbd hvv hpl hpv
                    go_wp2_with (go_at_call 25; with_reducible refine cr.mono ?_; rintro e W9 ⟨g9, cap9, d9, rfl, lg9, td9, hd9, hv9, b9⟩)
                    have hB9 : Below N w W9 := below_via b9 hB lN5
                    have tc9 : Hid (Arr W9 .i64 N 16 C) := tc.out.below b9 lNN
                    have hd9' : Hid (∀ i, d9 i < 256) := hd9
                    have td9' : Hid (Arr W9 .i64 g9 17 d9) := td9
                    clear hd9 td9 b9
                    go_roundw
                    case rel => exact ⟨i + 1, at2, g9, cap9, d9, rfl, rfl, by show at2 = 16 * (i + 1); have := hat2.out; have := hat.out; omega, by have := hat.out; omega, by omega, tc9, td9', hd9', hv9, hB9⟩
                    case measure => (have := hat2.out; simp only [intOf, Int.toNat_natCast]; omega)
        · have hi16 : i = (n + 15) / 16 := by have := hat.out; omega
          have at0 : ¬ (at_ : Int) < (n : Int) := by omega
          obtain ⟨s, hs⟩ : ∃ s : Nat → Nat, Hid (s = fun k => zk (16 + k)) := ⟨_, rfl⟩
          have hsl : Hid (∀ i, s i < 256) := fun i => by rw [hs.out]; exact hk'.out _
          have hTv : Hid ((Ob.valD d 17 + Ob.valD s 16) % 256 ^ 16 = T) := by show _ = _; rw [hv.out, hi16, hs.out]; exact hT.out
          have td0 : Hid (Arr wr .i64 g 17 (adI d s 0)) := by rw [adI_zero]; exact td
          clear td hv hT hi16 hi' hat
          go_wp2
          go_loopw [13] (fun s13 wr => ∃ j : Nat, j ≤ 16 ∧ s13 = .int .i64 (j : Nat) ∧ Hid (Arr wr .i64 g 17 (adI d s j)) ∧ Below N w wr) (fun s13 _ => 16 - (intOf s13).toNat)
          case atStart => exact ⟨0, by omega, rfl, td0, hB⟩
          case round =>
            clear td0 tc hB
            obtain ⟨j, hj, rfl, td, hB⟩ := hrel
            have l1 := hB.size
            by_cases hjL : j < 16
            · have j0 : (j : Int) < 16 := by omega
              have j1 : (0 : Int) ≤ (j : Int) := by omega
              have j17 : (j : Int) < 17 := by omega
              have hj17 : j < 17 := by omega
              obtain ⟨k, hk, ek⟩ : ∃ k : Nat, Hid (16 + j = k) ∧ IntKind.i64.wrap (16 + (j : Int)) = (k : Int) := ⟨16 + j, rfl, by rw [IntKind.wrap_i64]; omega⟩
              have hkn : k < 32 := by have := hk.out; omega
              have k0 : (k : Int) < 32 := by omega
              have k1 : (0 : Int) ≤ (k : Int) := by omega
              obtain ⟨x, hx⟩ : ∃ x, Hid (d j = x) := ⟨_, rfl⟩
              obtain ⟨y, hy⟩ : ∃ y, Hid (zk k = y) := ⟨_, rfl⟩
              have hxl : x < 256 := by rw [← hx.out]; exact hd.out j
              have hyl : y < 256 := by rw [← hy.out]; exact hk'.out k
              have ey : IntKind.i64.wrap (y : Int) = (y : Int) := by rw [IntKind.wrap_i64]; omega
              obtain ⟨v, hv', ev⟩ : ∃ v : Nat, Hid (x + y = v) ∧ IntKind.i64.wrap ((x : Int) + (y : Int)) = (v : Int) := ⟨x + y, rfl, by rw [IntKind.wrap_i64]; omega⟩
              have hvE : d j + s j = v := by rw [hs.out, hx.out, ← hv'.out, ← hy.out, ← hk.out]
              have p0 := td.out.drew.c j hj17
              have p1 := (hK0.out.below (by rw [hN.out]; exact hB) hK0.out.lt).drew.at_ k hkn
              rw [adI_self, hx.out] at p0
              rw [hy.out] at p1
              have p2 := td.out.c j hj17
              have p3 := td.out.f j hj17
              go_upto_region 31 with (fail)
              refine wp_region_noPanic ?_
              refine region_lastly (S := (fun w' => w'.cell? ⟨g, j, none⟩ = some (.int .i64 (x : Nat)) ∧ w'.cell? ⟨kb, ko + k, none⟩ = some (.int .u8 (y : Nat)))) [14] (by kernel_rfl) (by ((try dsimp only); (exact ⟨p0, p1⟩))) (fun hHeld => ?_)
              refine anyZ_free (i := 0) (oi := ?oi_39) (v := ?v_39) ?hi_39 ?hs_39 ?hf_39 ?hr_39 ?hQ_39 (Or.inl ⟨?hw_39, ?hy_39⟩) ?hrest_39
              case hi_39 => (simp only [List.getElem?_toArray, List.getElem?_cons_succ, List.getElem?_cons_zero]; exact rfl)
              case hs_39 => kernel_rfl
              case hf_39 => kernel_rfl
              case hr_39 => kernel_rfl
              case hQ_39 => exact fun _ _ _ h => h
              case hw_39 => rfl
              case hy_39 => (intro w _; go_simp; try with_reducible rfl)
              try simp only [Act.put, List.setIfInBounds_toArray, List.set_cons_zero, List.set_cons_succ]
              refine anyZ_free (i := 1) (oi := ?oi_40) (v := ?v_40) ?hi_40 ?hs_40 ?hf_40 ?hr_40 ?hQ_40 (Or.inl ⟨?hw_40, ?hy_40⟩) ?hrest_40
              case hi_40 => (simp only [List.getElem?_toArray, List.getElem?_cons_succ, List.getElem?_cons_zero]; exact rfl)
              case hs_40 => kernel_rfl
              case hf_40 => kernel_rfl
              case hr_40 => kernel_rfl
              case hQ_40 => exact fun _ _ _ h => h
              case hw_40 => rfl
              case hy_40 => (intro w _; go_simp; try with_reducible rfl)
              try simp only [Act.put, List.setIfInBounds_toArray, List.set_cons_zero, List.set_cons_succ]
              refine anyZ_free (i := 2) (oi := ?oi_41) (v := ?v_41) ?hi_41 ?hs_41 ?hf_41 ?hr_41 ?hQ_41 (Or.inl ⟨?hw_41, ?hy_41⟩) ?hrest_41
              case hi_41 => (simp only [List.getElem?_toArray, List.getElem?_cons_succ, List.getElem?_cons_zero]; exact rfl)
              case hs_41 => kernel_rfl
              case hf_41 => kernel_rfl
              case hr_41 => kernel_rfl
              case hQ_41 => exact fun _ _ _ h => h
              case hw_41 => rfl
              case hy_41 => (intro w _; go_simp; try with_reducible rfl)
              try simp only [Act.put, List.setIfInBounds_toArray, List.set_cons_zero, List.set_cons_succ]
              refine anyZ_free (i := 3) (oi := ?oi_42) (v := ?v_42) ?hi_42 ?hs_42 ?hf_42 ?hr_42 ?hQ_42 (Or.inl ⟨?hw_42, ?hy_42⟩) ?hrest_42
              case hi_42 => (simp only [List.getElem?_toArray, List.getElem?_cons_succ, List.getElem?_cons_zero]; exact rfl)
              case hs_42 => kernel_rfl
              case hf_42 => kernel_rfl
              case hr_42 => kernel_rfl
              case hQ_42 => exact fun _ _ _ h => h
              case hw_42 => rfl
              case hy_42 => (intro w _; go_simp; try with_reducible rfl)
              try simp only [Act.put, List.setIfInBounds_toArray, List.set_cons_zero, List.set_cons_succ]
              refine anyZ_free (i := 4) (oi := ?oi_43) (v := ?v_43) ?hi_43 ?hs_43 ?hf_43 ?hr_43 ?hQ_43 (Or.inl ⟨?hw_43, ?hy_43⟩) ?hrest_43
              case hi_43 => (simp only [List.getElem?_toArray, List.getElem?_cons_succ, List.getElem?_cons_zero]; exact rfl)
              case hs_43 => kernel_rfl
              case hf_43 => kernel_rfl
              case hr_43 => kernel_rfl
              case hQ_43 => exact fun _ _ _ h => h
              case hw_43 => rfl
              case hy_43 => (intro w _; go_simp; try with_reducible rfl)
              try simp only [Act.put, List.setIfInBounds_toArray, List.set_cons_zero, List.set_cons_succ]
              refine anyZ_take (i := 5) (oi := ?oi_44) (v := ?v_44) ?hi_44 ?hz_44 ?hs_44 ?hf_44 ?hr_44 ?hQ_44 (Or.inl ⟨?hw_44, ?hy_44⟩) ?hS_44 ?hrest_44
              case hi_44 => (simp only [List.getElem?_toArray, List.getElem?_cons_succ, List.getElem?_cons_zero]; exact rfl)
              case hz_44 => kernel_rfl
              case hs_44 => kernel_rfl
              case hf_44 => kernel_rfl
              case hr_44 => kernel_rfl
              case hQ_44 => exact fun _ _ _ h => h
              case hw_44 => rfl
              case hS_44 => assumption
              case hy_44 => (intro w hSw; (try dsimp only at hSw); go_simp; try with_reducible rfl)
              try simp only [Act.put, List.setIfInBounds_toArray, List.set_cons_zero, List.set_cons_succ]
              refine anyZ_free (i := 6) (oi := ?oi_45) (v := ?v_45) ?hi_45 ?hs_45 ?hf_45 ?hr_45 ?hQ_45 (Or.inl ⟨?hw_45, ?hy_45⟩) ?hrest_45
              case hi_45 => (simp only [List.getElem?_toArray, List.getElem?_cons_succ, List.getElem?_cons_zero]; exact rfl)
              case hs_45 => kernel_rfl
              case hf_45 => kernel_rfl
              case hr_45 => kernel_rfl
              case hQ_45 => exact fun _ _ _ h => h
              case hw_45 => rfl
              case hy_45 => (intro w _; go_simp; try with_reducible rfl)
              try simp only [Act.put, List.setIfInBounds_toArray, List.set_cons_zero, List.set_cons_succ]
              refine anyZ_free (i := 7) (oi := ?oi_46) (v := ?v_46) ?hi_46 ?hs_46 ?hf_46 ?hr_46 ?hQ_46 (Or.inl ⟨?hw_46, ?hy_46⟩) ?hrest_46
              case hi_46 => (simp only [List.getElem?_toArray, List.getElem?_cons_succ, List.getElem?_cons_zero]; exact rfl)
              case hs_46 => kernel_rfl
              case hf_46 => kernel_rfl
              case hr_46 => kernel_rfl
              case hQ_46 => exact fun _ _ _ h => h
              case hw_46 => rfl
              case hy_46 => (intro w _; go_simp; try with_reducible rfl)
              try simp only [Act.put, List.setIfInBounds_toArray, List.set_cons_zero, List.set_cons_succ]
              refine anyZ_free (i := 8) (oi := ?oi_47) (v := ?v_47) ?hi_47 ?hs_47 ?hf_47 ?hr_47 ?hQ_47 (Or.inl ⟨?hw_47, ?hy_47⟩) ?hrest_47
              case hi_47 => (simp only [List.getElem?_toArray, List.getElem?_cons_succ, List.getElem?_cons_zero]; exact rfl)
              case hs_47 => kernel_rfl
              case hf_47 => kernel_rfl
              case hr_47 => kernel_rfl
              case hQ_47 => exact fun _ _ _ h => h
              case hw_47 => rfl
              case hy_47 => (intro w _; go_simp; try with_reducible rfl)
              try simp only [Act.put, List.setIfInBounds_toArray, List.set_cons_zero, List.set_cons_succ]
              refine anyZ_free (i := 9) (oi := ?oi_48) (v := ?v_48) ?hi_48 ?hs_48 ?hf_48 ?hr_48 ?hQ_48 (Or.inl ⟨?hw_48, ?hy_48⟩) ?hrest_48
              case hi_48 => (simp only [List.getElem?_toArray, List.getElem?_cons_succ, List.getElem?_cons_zero]; exact rfl)
              case hs_48 => kernel_rfl
              case hf_48 => kernel_rfl
              case hr_48 => kernel_rfl
              case hQ_48 => exact fun _ _ _ h => h
              case hw_48 => rfl
              case hy_48 => (intro w _; go_simp; try with_reducible rfl)
              try simp only [Act.put, List.setIfInBounds_toArray, List.set_cons_zero, List.set_cons_succ]
              refine anyZ_take (i := 10) (oi := ?oi_49) (v := ?v_49) ?hi_49 ?hz_49 ?hs_49 ?hf_49 ?hr_49 ?hQ_49 (Or.inl ⟨?hw_49, ?hy_49⟩) ?hS_49 ?hrest_49
              case hi_49 => (simp only [List.getElem?_toArray, List.getElem?_cons_succ, List.getElem?_cons_zero]; exact rfl)
              case hz_49 => kernel_rfl
              case hs_49 => kernel_rfl
              case hf_49 => kernel_rfl
              case hr_49 => kernel_rfl
              case hQ_49 => exact fun _ _ _ h => h
              case hw_49 => rfl
              case hS_49 => assumption
              case hy_49 => (intro w hSw; (try dsimp only at hSw); go_simp; try with_reducible rfl)
              try simp only [Act.put, List.setIfInBounds_toArray, List.set_cons_zero, List.set_cons_succ]
              refine anyZ_free (i := 11) (oi := ?oi_50) (v := ?v_50) ?hi_50 ?hs_50 ?hf_50 ?hr_50 ?hQ_50 (Or.inl ⟨?hw_50, ?hy_50⟩) ?hrest_50
              case hi_50 => (simp only [List.getElem?_toArray, List.getElem?_cons_succ, List.getElem?_cons_zero]; exact rfl)
              case hs_50 => kernel_rfl
              case hf_50 => kernel_rfl
              case hr_50 => kernel_rfl
              case hQ_50 => exact fun _ _ _ h => h
              case hw_50 => rfl
              case hy_50 => (intro w _; go_simp; try with_reducible rfl)
              try simp only [Act.put, List.setIfInBounds_toArray, List.set_cons_zero, List.set_cons_succ]
              refine anyZ_free (i := 12) (oi := ?oi_51) (v := ?v_51) ?hi_51 ?hs_51 ?hf_51 ?hr_51 ?hQ_51 (Or.inl ⟨?hw_51, ?hy_51⟩) ?hrest_51
              case hi_51 => (simp only [List.getElem?_toArray, List.getElem?_cons_succ, List.getElem?_cons_zero]; exact rfl)
              case hs_51 => kernel_rfl
              case hf_51 => kernel_rfl
              case hr_51 => kernel_rfl
              case hQ_51 => exact fun _ _ _ h => h
              case hw_51 => rfl
              case hy_51 => (intro w _; go_simp; try with_reducible rfl)
              try simp only [Act.put, List.setIfInBounds_toArray, List.set_cons_zero, List.set_cons_succ]
              refine anyZ_free (i := 13) (oi := ?oi_52) (v := ?v_52) ?hi_52 ?hs_52 ?hf_52 ?hr_52 ?hQ_52 (Or.inl ⟨?hw_52, ?hy_52⟩) ?hrest_52
              case hi_52 => (simp only [List.getElem?_toArray, List.getElem?_cons_succ, List.getElem?_cons_zero]; exact rfl)
              case hs_52 => kernel_rfl
              case hf_52 => kernel_rfl
              case hr_52 => kernel_rfl
              case hQ_52 => exact fun _ _ _ h => h
              case hw_52 => rfl
              case hy_52 => (intro w _; go_simp; try with_reducible rfl)
              try simp only [Act.put, List.setIfInBounds_toArray, List.set_cons_zero, List.set_cons_succ]
              refine anyZ_ready (rs := [14]) (by kernel_rfl) (by simp) ?_
              refine (AllZ.last (o := ?o_53) ?ho_53 (by rfl) (fun K hK => ?st_53) AllZ.nil)
              case ho_53 => (simp only [List.getElem?_toArray, List.getElem?_cons_succ, List.getElem?_cons_zero]; exact rfl)
              case st_53 =>
                go_simp
                refine hK.out _ _ ?_
                clear hK K
                try simp only [Act.put, List.setIfInBounds_toArray, List.set_cons_zero, List.set_cons_succ]
                refine anyZ_done (by kernel_rfl) ?_ _
                refine NoPanic.normal ?_
                have td4 : Hid (Arr ((wr.setCell ⟨g, j, none⟩ (.int .i64 (v : Nat))).drew) .i64 g 17 (adI d s (j + 1))) := by
                  have q := (td.out.set (i := j) (z := v) hj17).drew
                  rw [← hvE, adI_succ, hvE] at q
                  exact q
                have hB4 : Below N w ((wr.setCell ⟨g, j, none⟩ (.int .i64 (v : Nat))).drew) := by (repeat' (first | (with_reducible first | exact Below.refl _ _ | assumption | refine Below.alloc ?_ ?_ _ | refine Below.drew ?_ | refine below_drewN ?_ _ | refine Below.setCell ?_ ?_ _ | refine below_via (by with_reducible assumption) ?_ ?_) | omega | (simp only [szs]; omega) | (simp only [szs] at *; omega)))
                clear hHeld p0 p1 p2 p3 hvE ek
                go_wp2
                go_roundw
                case rel => exact ⟨j + 1, by omega, by go_num, td4, hB4⟩
                case measure => (simp only [intOf, Int.toNat_natCast]; omega)
            · obtain rfl : j = 16 := by omega
              rw [show ((16 : Nat) : Int) = (16 : Int) from rfl]
              have hbd : ∀ i, i < 17 → adI d s 16 i ≤ 1152921504606846976 := fun i _ => by have := adI_lt hd.out hsl.out 16 i; omega
              have cc : Calls Tryd.prog 26 #[.slice (some ⟨g, 0, none⟩) 17 cap, .int .i64 16] wr fun e w' => e = .returned (.slice (some ⟨wr.heap.size, 0, none⟩) 16 16) ∧ Arr w' .i64 wr.heap.size 16 (Ob.carO (Ob.mask (adI d s 16) 17)) ∧ Below wr.heap.size wr w' := carried_core g 17 cap 16 (by decide) (by decide) _ hbd wr td.out.rd
              have l5 := hB.size
              have lN5 : N ≤ wr.heap.size := by have := hN.out; omega
              obtain ⟨E, hE⟩ : ∃ E, Hid (Ob.carO (Ob.mask (adI d s 16) 17) = E) := ⟨_, rfl⟩
              have hEl : Hid (∀ i, E i < 256) := fun i => by rw [← hE.out]; exact Ob.carO_lt _ _
              have hEv : Hid (Ob.valD E 16 = T) := by
                show _ = _
                rw [← hE.out, Ob.carO_val, Ob.valD_congr (f := Ob.mask (adI d s 16) 17) (g := adI d s 16) (fun i hi => by unfold Ob.mask; rw [if_pos (by omega)]), adI_val _ _ (Nat.le_refl _), ← hTv.out]
                have e : Ob.valD d 17 = Ob.valD d 16 + d 16 * 256 ^ 16 := rfl
                rw [e, Nat.add_right_comm, Nat.add_mul_mod_self_right]
              rw [hE.out] at cc
              obtain ⟨G, hG⟩ : ∃ G, Hid (wr.heap.size = G) := ⟨_, rfl⟩
              rw [hG.out] at cc lN5 l5
              clear hbd hTv
              go_upto_region 33 with (go_at_call 26; with_reducible refine cc.mono ?_; rintro e W7 ⟨rfl, te7, b7⟩)
              have hB7 : Below N w W7 := below_via b7 hB lN5
              clear cc td hB b7
              obtain ⟨W8, hmk8, to8, b8, z8⟩ := make_bytes 16 (by decide) W7
              have lG7 := te7.lt
              have te8 : Hid (Arr W8 .i64 G 16 E) := te7.below b8 lG7
              have hB8 : Below N w W8 := below_via b8 hB7 (by omega)
              obtain ⟨O, hO⟩ : ∃ O, Hid (W7.heap.size = O) := ⟨_, rfl⟩
              rw [hO.out] at hmk8 to8 lG7
              have to8' : Hid (Arr W8 .u8 O 16 (layI E 0)) := by rw [layI_zero]; exact to8
              have hmk8' : (Instr.makeSlice 22 (.int .i64 16) (.int .i64 16)).run Tryd.prog W7 = .ok (.slice (some ⟨O, 0, none⟩) 16 16) W8 := hmk8
              clear hmk8 to8 b8 te7 hB7
              go_wp2
              clear hmk8'
              go_loopw [16] (fun s16 wr => ∃ j : Nat, j ≤ 16 ∧ s16 = .int .i64 (j : Nat) ∧ Hid (Arr wr .u8 O 16 (layI E j)) ∧ Hid (Arr wr .i64 G 16 E) ∧ Below N w wr) (fun s16 _ => 16 - (intOf s16).toNat)
              case atStart => exact ⟨0, by omega, rfl, to8', te8, hB8⟩
              case round =>
                clear to8' te8 hB8
                obtain ⟨j, hj, rfl, tu, te, hB⟩ := hrel
                by_cases hlt6 : j < 16
                · have j0 : (j : Int) < 16 := by omega
                  have j1 : (0 : Int) ≤ (j : Int) := by omega
                  have q0 := te.out.c j hlt6
                  have q1 := tu.out.c j hlt6
                  have q2 := tu.out.f j hlt6
                  obtain ⟨x, hx⟩ : ∃ x, Hid (E j = x) := ⟨_, rfl⟩
                  rw [hx.out] at q0
                  have hxl : x < 256 := by rw [← hx.out]; exact hEl.out j
                  have ew : IntKind.u8.wrap (x : Int) = (x : Int) := by rw [IntKind.wrap_u8]; omega
                  have to4 : Hid (Arr (wr.setCell ⟨O, j, none⟩ (.int .u8 (x : Nat))) .u8 O 16 (layI E (j + 1))) := by
                    have q := tu.out.set (i := j) (z := x) hlt6
                    rw [← hx.out, layI_succ, hx.out] at q
                    exact q
                  have te4 : Hid (Arr (wr.setCell ⟨O, j, none⟩ (.int .u8 (x : Nat))) .i64 G 16 E) := te.out.far (by omega) _ _
                  have hB4 : Below N w (wr.setCell ⟨O, j, none⟩ (.int .u8 (x : Nat))) := by (repeat' (first | (with_reducible first | exact Below.refl _ _ | assumption | refine Below.alloc ?_ ?_ _ | refine Below.drew ?_ | refine below_drewN ?_ _ | refine Below.setCell ?_ ?_ _ | refine below_via (by with_reducible assumption) ?_ ?_) | omega | (simp only [szs]; omega) | (simp only [szs] at *; omega)))
                  go_wp2
                  go_roundw
                  case rel => exact ⟨j + 1, by omega, by go_num, to4, te4, hB4⟩
                  case measure => (simp only [intOf, Int.toNat_natCast]; omega)
                · obtain rfl : j = 16 := by omega
                  go_wp2
                  go_ret
                  exact ⟨O, E, rfl, by omega, tu.out.congr (fun j hj => by unfold layI; rw [if_pos hj]), hEl.out, hEv.out, hB⟩
end Go.Proofs.YtdaonbfdcpkipaaDoor

namespace Ob
set_option linter.unusedVariables false
set_option linter.unusedSimpArgs false
theorem and252 : ∀ x : Fin 256, x.val &&& 252 = x.val / 4 * 4 := by decide +kernel
theorem and15 (x : Nat) : x &&& 15 = x % 16 := Nat.and_two_pow_sub_one_eq_mod x 4
theorem and255 (x : Nat) (h : x < 256) : x &&& 255 = x := by rw [show (255 : Nat) = 2 ^ 8 - 1 from rfl, Nat.and_two_pow_sub_one_eq_mod x 8]; omega
def maskT : List Nat := [255, 255, 255, 15, 252, 255, 255, 15, 252, 255, 255, 15, 252, 255, 255, 15]
def maskB (i : Nat) : Nat := maskT.getD i 0
theorem maskB_lt (i : Nat) : maskB i < 256 := by
  rcases Nat.lt_or_ge i 16 with h | h
  · have : ∀ j : Fin 16, maskB j.val < 256 := by decide
    exact this ⟨i, h⟩
  · unfold maskB maskT
    rw [List.getD_eq_getElem?_getD, List.getElem?_eq_none (by simpa using h)]
    decide
theorem maskB_and {z : Nat → Nat} (hz : ∀ i, z i < 256) (i : Nat) (hi : i < 16) : z i &&& maskB i = clD z i := by
  have h := hz i
  have h2 := and252 ⟨z i, h⟩
  have hc : i = 0 ∨ i = 1 ∨ i = 2 ∨ i = 3 ∨ i = 4 ∨ i = 5 ∨ i = 6 ∨ i = 7 ∨ i = 8 ∨ i = 9 ∨ i = 10 ∨ i = 11 ∨ i = 12 ∨ i = 13 ∨ i = 14 ∨ i = 15 := by omega
  rcases hc with rfl | rfl | rfl | rfl | rfl | rfl | rfl | rfl | rfl | rfl | rfl | rfl | rfl | rfl | rfl | rfl
  all_goals first | exact (and255 _ h) | exact (and15 _) | exact h2
theorem lowN_congr {f g : Nat → Nat} {n : Nat} (h : ∀ i, i < n → f i = g i) : lowN f n = lowN g n := by rw [lowN_valD, lowN_valD]; exact valD_congr h
theorem mask_low : lowN maskB 8 = 1152921487695413247 := by decide +kernel
theorem mask_high : lowN (fun j => maskB (8 + j)) 8 = 1152921487695413244 := by decide +kernel
theorem key_low {z : Nat → Nat} (hz : ∀ i, z i < 256) : lowN z 8 &&& 1152921487695413247 = lowN (clD z) 8 := by
  rw [← mask_low, lowN_and z maskB hz maskB_lt]
  exact lowN_congr fun i hi => maskB_and hz i (by omega)
theorem key_high {z : Nat → Nat} (hz : ∀ i, z i < 256) : lowN (fun j => z (8 + j)) 8 &&& 1152921487695413244 = lowN (fun j => clD z (8 + j)) 8 := by
  rw [← mask_high, lowN_and (fun j => z (8 + j)) (fun j => maskB (8 + j)) (fun j => hz _) (fun j => maskB_lt _)]
  exact lowN_congr fun i hi => maskB_and hz (8 + i) (by omega)
def w2 (a b : Nat) (i : Nat) : Nat := if i = 0 then a else if i = 1 then b else 0
theorem two_halves (f : Nat → Nat) : lowN f 8 + lowN (fun j => f (8 + j)) 8 * 18446744073709551616 = valD f 16 := by
  have e := valD_split f 8 8
  rw [show (16 : Nat) = 8 + 8 from rfl, e, lowN_valD, lowN_valD, show (256 : Nat) ^ 8 = 18446744073709551616 by decide, Nat.mul_comm]
theorem key_ROk {z : Nat → Nat} (hz : ∀ i, z i < 256) : ROk (w2 (lowN (clD z) 8) (lowN (fun j => clD z (8 + j)) 8)) (valD (clD z) 16) := by
  have h0 : lowN (clD z) 8 ≤ 1152921487695413247 := by rw [← key_low hz]; exact Nat.and_le_right
  have h1 : lowN (fun j => clD z (8 + j)) 8 ≤ 1152921487695413244 := by rw [← key_high hz]; exact Nat.and_le_right
  refine ⟨fun i => ?_, ?_⟩
  · unfold w2
    split
    · omega
    · split
      · omega
      · decide
  · have e := valB2 (w2 (lowN (clD z) 8) (lowN (fun j => clD z (8 + j)) 8))
    rw [e]
    exact two_halves (clD z)
theorem key_s {z : Nat → Nat} : valB (w3 (lowN (fun j => z (16 + j)) 8) (lowN (fun j => z (24 + j)) 8) 0) 3 = valD (fun j => z (16 + j)) 16 := by
  have e := top_none (w3 (lowN (fun j => z (16 + j)) 8) (lowN (fun j => z (24 + j)) 8) 0) rfl
  have e2 := valB2 (w3 (lowN (fun j => z (16 + j)) 8) (lowN (fun j => z (24 + j)) 8) 0)
  have h := two_halves (fun j => z (16 + j))
  rw [e, e2, ← h]
  have e3 : (fun j => z (24 + j)) = (fun j => z (16 + (8 + j))) := by funext j; rw [← Nat.add_assoc]
  rw [e3]
  rfl
theorem mk_acc (R : Nat) (z : Nat → Nat) (n : Nat) : ∀ i, 16 * i ≤ n → mkN R z n i = accV R z i
  | 0, _ => rfl
  | i + 1, h => by
    rw [mkN, accV, mk_acc R z n i (by omega)]
    unfold blkV
    rw [show min 16 (n - 16 * i) = 16 by omega]
theorem mk_fin (R : Nat) (z : Nat → Nat) (n : Nat) : mkN R z n ((n + 15) / 16) = finV R z n := by
  unfold finV
  split
  · rename_i h
    rw [show (n + 15) / 16 = n / 16 + 1 by omega, mkN, mk_acc R z n (n / 16) (by omega)]
    unfold blkV
    rw [show min 16 (n - 16 * (n / 16)) = n % 16 by omega]
  · rw [show (n + 15) / 16 = n / 16 by omega, mk_acc R z n (n / 16) (by omega)]
/-- The mark of n bytes z by a key zk, as a number. -/
def markN (zk z : Nat → Nat) (n : Nat) : Nat := (mkN (valD (clD zk) 16) z n ((n + 15) / 16) + valD (fun i => zk (16 + i)) 16) % 256 ^ 16
theorem p16_num : (256 : Nat) ^ 16 = 340282366920938463463374607431768211456 := by decide
/-- Digits are told by their number. -/
theorem valD_inj {f g : Nat → Nat} (hf : ∀ i, f i < 256) (hg : ∀ i, g i < 256) : ∀ {n : Nat}, valD f n = valD g n → ∀ i, i < n → f i = g i
  | 0, _, i, hi => by omega
  | n + 1, h, i, hi => by
    rw [valD, valD] at h
    have l1 := valD_lt (f := f) (n := n) (fun i _ => hf i)
    have l2 := valD_lt (f := g) (n := n) (fun i _ => hg i)
    have e1 : f n = g n := by
      have a1 : (valD f n + f n * 256 ^ n) / 256 ^ n = f n := by rw [Nat.add_mul_div_right _ _ (Nat.pow_pos (by decide)), Nat.div_eq_of_lt l1, Nat.zero_add]
      have a2 : (valD g n + g n * 256 ^ n) / 256 ^ n = g n := by rw [Nat.add_mul_div_right _ _ (Nat.pow_pos (by decide)), Nat.div_eq_of_lt l2, Nat.zero_add]
      rw [← a1, ← a2, h]
    rcases Nat.lt_or_ge i n with h3 | h3
    · exact valD_inj hf hg (n := n) (by rw [e1] at h; omega) i h3
    · have : i = n := by omega
      subst this
      exact e1
end Ob
