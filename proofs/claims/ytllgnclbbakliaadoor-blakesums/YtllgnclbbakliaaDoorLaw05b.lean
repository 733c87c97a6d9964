/-
  Stage 5's statements: BlakeStays.
-/
import Derived.Test.YtllgnclbbakliaaDoorLaw05
import Derived.Test.YtllgnclbbakliaaDoorCopyB
namespace Go.Proofs.YtllgnclbbakliaaDoor
open Go.RowKit Go.Proofs
set_option linter.unusedVariables false
set_option linter.unusedSimpArgs false
attribute [local go_sem ↓] Go.wp_at_zero Go.wp_at_succ

theorem src_str {w : World} {a : Option Addr} {n : Nat} {z : Nat → Nat} (h : Src w a n z) (cap : Nat) : (convert 27 9 (.slice a n cap)).run Tryd.prog w = .ok (.string (strOfNums (nums z n))) w := by
  by_cases h0 : n = 0
  · subst h0
    rw [run_convert_bytes_string w 27 9 5 a 0 cap Tryd.underlying27 Tryd.underlying5 Tryd.underlying9]
    cases a with
    | none => simp [Conv.bytesToString]; rfl
    | some x =>
      rw [run_bytesToString w x 0 cap [] (by simpa using run_loadCells_list (P := Tryd.prog) w x [] (by simp))]
      rfl
  · rcases h with h | ⟨b, off, rfl, hB⟩
    · exact absurd h h0
    · exact bys_str b off n cap z w hB

set_option maxHeartbeats 1000000 in
theorem bstays_no (a : Option Addr) (len cap : Nat) (w : World) (hno : 5000 < len)
    (c0 : Calls Tryd.prog 8 #[] w fun e w' => e = .returned (.bool true) ∧ Below w.heap.size w w') :
    Calls Tryd.prog 7 #[.slice a len cap] w fun e w' => e = .returned (.bool true) ∧ Below w.heap.size w w' := by
  go_enter Tryd.func7, Tryd.ntmps7
  have h2 : (5000 : Int) < (len : Int) := by omega
  go_wp2_with (go_at_call 8; with_reducible refine c0.mono ?_; rintro e W0 ⟨rfl, b0⟩)
  go_ret
  exact ⟨rfl, b0⟩

set_option maxHeartbeats 4000000 in
theorem bstays_yes (a : Option Addr) (len cap : Nat) (w : World) (hl : len ≤ 5000) (hcap : len ≤ cap) (z : Nat → Nat) (hz : ∀ i, z i < 256) (hT : Tabs w) (hS : Src w a len z)
    (c0 : Calls Tryd.prog 8 #[] w fun e w' => e = .returned (.bool true) ∧ Below w.heap.size w w') :
    Calls Tryd.prog 7 #[.slice a len cap] w fun e w' => e = .returned (.bool true) ∧ Below w.heap.size w w' := by
  have hT' : Hid (Tabs w) := hT
  have hz' : Hid (∀ i, z i < 256) := hz
  have hS' : Hid (Src w a len z) := hS
  clear hT hz hS
  have h2 : ¬ (5000 : Int) < (len : Int) := by omega
  go_enter Tryd.func7, Tryd.ntmps7
  go_upto_region 4 with (go_at_call 8; with_reducible refine c0.mono ?_; rintro e W0 ⟨rfl, b0⟩)
  have l0 := b0.size
  have hown0 : (W0.alloc (.cells #[] 5)).ownsRow W0.heap.size 5 1 (.slice (some ⟨W0.heap.size, 0, none⟩) 0 0) 0 [] := World.ownsRow_made W0 #[] 0 (Nat.le_refl _) (by decide) rfl
  have hBa : Below w.heap.size w (W0.alloc (.cells #[] 5)) := b0.alloc l0 _
  have hS1 := hS'.out.below hBa
  go_upto_region 5 with (at_builtin; refine wpList_copyB rfl _ _ rfl W0.heap.size _ rfl hown0 (by simp) a len cap z rfl hS1 (by omega) ?_; intro g ocap W1 hown1 hb1)
  have hg := (hown1.lt g rfl)
  have hB1 : Below w.heap.size w W1 := below_via hb1 hBa l0
  have yo := bys_of_row hown1
  have fo := free_of_row hown1
  have hoc := (cap_of_row hown1).1
  have c1 := sumW ⟨#[120]⟩ (by decide) (some ⟨g, 0, none⟩) len ocap (by omega) hoc z hz'.out W1 (hT'.out.below hB1 hT'.out.lt) (Or.inr ⟨g, 0, rfl, yo⟩)
  obtain ⟨D, hD⟩ : ∃ D, Hid (lowBy (digS ⟨#[120]⟩ z len) = D) := ⟨_, rfl⟩
  rw [hD.out] at c1
  clear hown0 hown1 hb1 hBa hS1 b0 c0
  go_upto_region 6 with (go_at_call 11; with_reducible refine c1.mono ?_; rintro e W2 ⟨g2, rfl, lg2, o2, b2⟩)
  have l1 := hB1.size
  have hB2 : Below w.heap.size w W2 := below_via b2 hB1 l1
  have yo2 := yo.below b2 hg.2
  have hg2 := (o2.lt g2 rfl).2
  have wo2 : Hid (Wby W2 g len) := Wby.of_bys hz'.out yo2 (fun o => by rw [(bcell b2).2 g o hg.2]; exact fo o)
  have yd2 : Hid (Bys W2 g2 0 32 D) := bys_of_row o2
  have fd2 : Hid (∀ o, W2.frozen? ⟨g2, o, none⟩ = false) := free_of_row o2
  have e1 := bys_str g 0 len ocap z W2 yo2
  have e2 := src_str (hS'.out.below hB2) cap
  generalize strOfNums (nums z len) = S0 at e1 e2
  have lgw : w.heap.size ≤ g := by omega
  have lgg : g < g2 := by omega
  clear c1 o2 b2 yo yo2 fo hg hg2 hB1 l1 lg2 hoc
  go_wp2
  clear e1 e2
  go_loopw [8] (fun si wr => ∃ k : Nat, k ≤ len ∧ si = .int .i64 k ∧ Hid (Wby wr g len) ∧ Hid (Bys wr g2 0 32 D) ∧ Hid (∀ o, wr.frozen? ⟨g2, o, none⟩ = false) ∧ Below w.heap.size w wr) (fun si _ => len - (intOf si).toNat)
  case atStart => exact ⟨0, by omega, rfl, wo2, yd2, fd2, hB2⟩
  case round =>
    clear wo2 yd2 fd2 hB2
    obtain ⟨k, hk, rfl, ro, rd, rf, rB⟩ := hrel
    by_cases hlt : k < len
    · obtain ⟨v, hv, hc⟩ := ro.out.at_ k hlt
      have hf := ro.out.free k
      have hw := wrap_succ v
      go_wp2
      go_roundw
      case rel => exact ⟨k + 1, by omega, by go_num, ro.out.set _ (Nat.mod_lt _ (by decide)) hlt, rd.out.far (by omega) _ _, fun o => by rw [World.frozen?_setCell]; exact rf.out o, rB.setCell lgw _⟩
      case measure => simp [intOf]; omega
    · obtain rfl : k = len := by omega
      have e3 := bys_str g2 0 32 32 D wr rd.out
      obtain ⟨S1, hS1⟩ : ∃ S, Hid (strOfNums (nums D 32) = S) := ⟨_, rfl⟩
      rw [hS1.out] at e3
      have hDlt : Hid (∀ i, D i < 256) := by rw [← hD.out]; exact lowBy_lt _
      have wd : Hid (Wby wr g2 32) := Wby.of_bys hDlt.out rd.out rf.out
      have lgw2 : w.heap.size ≤ g2 := by omega
      clear ro rd rf
      go_wp2
      clear e3
      go_loopw [10] (fun si wr => ∃ j : Nat, j ≤ 32 ∧ si = .int .i64 j ∧ Hid (Wby wr g2 32) ∧ Below w.heap.size w wr) (fun si _ => 32 - (intOf si).toNat)
      case atStart => exact ⟨0, by omega, rfl, wd, rB⟩
      case round =>
        clear wd rB
        obtain ⟨j, hj, rfl, ro, rB⟩ := hrel
        by_cases hlt2 : j < 32
        · obtain ⟨v, hv, hc⟩ := ro.out.at_ j hlt2
          have hf := ro.out.free j
          have hw := wrap_succ v
          go_wp2
          go_roundw
          case rel => exact ⟨j + 1, by omega, by go_num, ro.out.set _ (Nat.mod_lt _ (by decide)) hlt2, rB.setCell lgw2 _⟩
          case measure => simp [intOf]; omega
        · obtain rfl : j = 32 := by omega
          have c2 := sumW ⟨#[120]⟩ (by decide) a k cap (by omega) hcap z hz'.out wr (hT'.out.below rB hT'.out.lt) (hS'.out.below rB)
          rw [hD.out] at c2
          go_upto_region 17 with (go_at_call 11; with_reducible refine c2.mono ?_; rintro e W5 ⟨g3, rfl, lg3, o3, b3⟩)
          have hB5 : Below w.heap.size w W5 := below_via b3 rB rB.size
          have e4 := bys_str g3 0 32 32 D W5 (bys_of_row o3)
          rw [hS1.out] at e4
          clear c2 o3 b3 ro rB
          go_wp2
          go_ret
          exact ⟨rfl, hB5⟩

theorem blakeStays_walk (a : Option Addr) (len cap : Nat) (zs : List Int) (w : World) (h : IsRow .u8 w a len cap zs) (hT : Tabs w) :
    Calls Tryd.prog 7 #[.slice a len cap] w fun e w' => e = .returned (.bool true) ∧ Below w.heap.size w w' := by
  obtain ⟨z, hz, hS, h1, h2⟩ := src_of_isRow h
  by_cases hno : 5000 < len
  · exact bstays_no a len cap w hno (upW w hT)
  · exact bstays_yes a len cap w (by omega) h1 z hz hT hS (upW w hT)
end Go.Proofs.YtllgnclbbakliaaDoor
