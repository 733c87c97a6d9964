/-
  Stage 5's statements: BlakePerson.
-/
import Derived.Test.YtllgnclbbakliaaDoorUpB
import Derived.Test.YtllgnclbbakliaaDoorRowW
namespace Go.Proofs.YtllgnclbbakliaaDoor
open Go.RowKit Go.Proofs
set_option linter.unusedVariables false
set_option linter.unusedSimpArgs false
attribute [local go_sem ↓] Go.wp_at_zero Go.wp_at_succ

theorem src_of_isRow {w : World} {a : Option Addr} {len cap : Nat} {zs : List Int} (h : IsRow .u8 w a len cap zs) : ∃ z : Nat → Nat, (∀ i, z i < 256) ∧ Src w a len z ∧ len ≤ cap ∧ cap ≤ maxLen := by
  by_cases h0 : len = 0
  · refine ⟨fun _ => 0, fun _ => by show 0 < 256; decide, Or.inl h0, by omega, ?_⟩
    rcases h with ⟨_, _, rfl, _⟩ | ⟨x, _, _, h2, _⟩
    · exact Nat.zero_le _
    · exact h2
  · obtain ⟨b, off, z, ha, h1, h2, hz, hB, _⟩ := bys_of_isRow h (n := len) (by omega) (Nat.le_refl _)
    exact ⟨z, hz, Or.inr ⟨b, off, ha, hB⟩, h1, h2⟩

theorem sby_zero (s : ByteArray) : sby (s ++ ⟨#[0]⟩) = sby s := by
  funext i
  unfold sby
  have e : (s ++ (⟨#[0]⟩ : ByteArray)).data.toList = s.data.toList ++ [0] := by simp [ByteArray.data_append]
  rw [e]
  by_cases h : i < s.data.toList.length
  · rw [List.getElem?_append_left h]
  · rw [List.getElem?_append_right (by omega), List.getElem?_eq_none (l := s.data.toList) (by omega)]
    by_cases h1 : i - s.data.toList.length = 0
    · rw [h1]; rfl
    · rw [List.getElem?_eq_none (by rw [List.length_singleton]; omega)]
theorem digS_zero (s : ByteArray) (z : Nat → Nat) (n : Nat) : digS (s ++ ⟨#[0]⟩) z n = digS s z n := by
  unfold digS
  rw [sby_zero]
theorem size_zero (s : ByteArray) : (s ++ (⟨#[0]⟩ : ByteArray)).size = s.size + 1 := by simp [ByteArray.size_append]; rfl

set_option maxHeartbeats 1000000 in
theorem person_no (s : ByteArray) (a : Option Addr) (len cap : Nat) (w : World) (hno : 7 < s.size ∨ 5000 < len)
    (c0 : Calls Tryd.prog 8 #[] w fun e w' => e = .returned (.bool true) ∧ Below w.heap.size w w') :
    Calls Tryd.prog 6 #[.string s, .slice a len cap] w fun e w' => e = .returned (.bool true) ∧ Below w.heap.size w w' := by
  go_enter Tryd.func6, Tryd.ntmps6
  by_cases h : 7 < s.size
  · have h1 : (7 : Int) < (s.size : Int) := by omega
    go_wp2_with (go_at_call 8; with_reducible refine c0.mono ?_; rintro e W0 ⟨rfl, b0⟩)
    go_ret
    exact ⟨rfl, b0⟩
  · have h1 : ¬ (7 : Int) < (s.size : Int) := by omega
    have h2 : (5000 : Int) < (len : Int) := by omega
    go_wp2_with (go_at_call 8; with_reducible refine c0.mono ?_; rintro e W0 ⟨rfl, b0⟩)
    go_ret
    exact ⟨rfl, b0⟩

set_option maxHeartbeats 1000000 in
theorem person_yes (s : ByteArray) (a : Option Addr) (len cap : Nat) (w : World) (hs : s.size ≤ 7) (hl : len ≤ 5000) (hcap : len ≤ cap) (z : Nat → Nat) (hz : ∀ i, z i < 256) (hT : Tabs w) (hS : Src w a len z)
    (c0 : Calls Tryd.prog 8 #[] w fun e w' => e = .returned (.bool true) ∧ Below w.heap.size w w') :
    Calls Tryd.prog 6 #[.string s, .slice a len cap] w fun e w' => e = .returned (.bool true) ∧ Below w.heap.size w w' := by
  have c1 := fun (W : World) (hb : Below w.heap.size w W) => sumW s (by omega) a len cap (by omega) hcap z hz W (hT.below hb hT.lt) (hS.below hb)
  have c2 := fun (W : World) (hb : Below w.heap.size w W) => sumW (s ++ ⟨#[0]⟩) (by rw [size_zero]; omega) a len cap (by omega) hcap z hz W (hT.below hb hT.lt) (hS.below hb)
  rw [digS_zero] at c2
  obtain ⟨D, hD⟩ : ∃ D, Hid (lowBy (digS s z len) = D) := ⟨_, rfl⟩
  rw [hD.out] at c1 c2
  clear hD hT hS hz
  have h1 : ¬ (7 : Int) < (s.size : Int) := by omega
  have h2 : ¬ (5000 : Int) < (len : Int) := by omega
  go_enter Tryd.func6, Tryd.ntmps6
  go_upto_region 5 with (first | (go_at_call 8; with_reducible refine c0.mono ?_; rintro e W0 ⟨rfl, b0⟩) | (go_at_call 11; with_reducible refine (c1 _ b0).mono ?_; rintro e W1 ⟨g1, rfl, lg1, o1, b1⟩))
  have l0 := b0.size
  have hB1 : Below w.heap.size w W1 := below_via b1 b0 l0
  have l1 := hB1.size
  have q1 := (o1.lt g1 rfl).2
  go_upto_region 6 with (go_at_call 11; with_reducible refine (c2 _ hB1).mono ?_; rintro e W2 ⟨g2, rfl, lg2, o2, b2⟩)
  have hB2 : Below w.heap.size w W2 := below_via b2 hB1 l1
  have y1 := (bys_of_row o1).below b2 (by omega)
  have y2 := bys_of_row o2
  have v1 := bys_str g1 0 32 32 D W2 y1
  have v2 := bys_str g2 0 32 32 D W2 y2
  clear c0 c1 c2 o1 o2 b0 b1 b2 y1 y2
  generalize strOfNums (nums D 32) = S at v1 v2
  go_wp2
  go_ret
  exact ⟨rfl, hB2⟩

theorem blakePerson_walk (s : ByteArray) (a : Option Addr) (len cap : Nat) (zs : List Int) (w : World) (hs : s.size ≤ maxLen) (h : IsRow .u8 w a len cap zs) (hT : Tabs w) :
    Calls Tryd.prog 6 #[.string s, .slice a len cap] w fun e w' => e = .returned (.bool true) ∧ Below w.heap.size w w' := by
  obtain ⟨z, hz, hS, h1, h2⟩ := src_of_isRow h
  by_cases hno : 7 < s.size ∨ 5000 < len
  · exact person_no s a len cap w hno (upW w hT)
  · exact person_yes s a len cap w (by omega) (by omega) h1 z hz hT hS (upW w hT)
end Go.Proofs.YtllgnclbbakliaaDoor
