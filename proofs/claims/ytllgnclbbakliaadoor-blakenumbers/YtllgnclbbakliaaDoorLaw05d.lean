/-
  Stage 5's statements: BlakeNumbers.
-/
import Derived.Test.YtllgnclbbakliaaDoorLaw05c
namespace Go.Proofs.YtllgnclbbakliaaDoor
open Go.RowKit Go.Proofs
set_option linter.unusedVariables false
set_option linter.unusedSimpArgs false
attribute [local go_sem ↓] Go.wp_at_zero Go.wp_at_succ

set_option maxHeartbeats 2000000 in
theorem nums_small_long (s : ByteArray) (a : Option Addr) (len cap m : Nat) (w : World) (hs : 8 < s.size) (hl : len ≤ 20000) (hcap : len ≤ cap)
    (c0 : Calls Tryd.prog 8 #[] w fun e w' => e = .returned (.bool true) ∧ Below w.heap.size w w') :
    Calls Tryd.prog 5 #[.string s, .slice a len cap, .int .u64 m] w fun e w' => e = .returned (.bool true) ∧ Below w.heap.size w w' := by
  have h1 : (8 : Int) < (s.size : Int) := by omega
  have h2 : ¬ (20000 : Int) < (len : Int) := by omega
  have ec := fun w => eql_code w 5 5
  have c1 := fun v W => numLong s hs v m W
  go_enter Tryd.func5, Tryd.ntmps5
  go_wp2_with (first | (go_at_call 8; with_reducible refine c0.mono ?_; rintro e W0 ⟨rfl, b0'⟩) | (go_at_call 13; with_reducible refine (c1 _ _).mono ?_; rintro e W1 ⟨rfl, rfl⟩))
  go_ret
  exact ⟨rfl, b0'⟩

set_option maxHeartbeats 2000000 in
theorem nums_small_zero (s : ByteArray) (a : Option Addr) (len cap : Nat) (w : World) (hs : s.size ≤ 8) (hl : len ≤ 20000) (hcap : len ≤ cap) (z : Nat → Nat) (hz : ∀ i, z i < 256) (hT : Tabs w) (hS : Src w a len z)
    (c0 : Calls Tryd.prog 8 #[] w fun e w' => e = .returned (.bool true) ∧ Below w.heap.size w w') :
    Calls Tryd.prog 5 #[.string s, .slice a len cap, .int .u64 0] w fun e w' => e = .returned (.bool true) ∧ Below w.heap.size w w' := by
  have h1 : ¬ (8 : Int) < (s.size : Int) := by omega
  have h2 : ¬ (20000 : Int) < (len : Int) := by omega
  have hS1 : Src w a len z := hS
  have ec := fun w => eql_code w 1 1
  have c1 := fun (W : World) (hb : Below w.heap.size w W) => numZero s hs a len cap (by omega) (by omega) z hz W (hT.below hb hT.lt) (hS1.below hb)
  clear hT hS hS1 hz
  go_enter Tryd.func5, Tryd.ntmps5
  go_wp2_with (first | (go_at_call 8; with_reducible refine c0.mono ?_; rintro e W0 ⟨rfl, b0'⟩) | (go_at_call 13; with_reducible refine (c1 _ b0').mono ?_; rintro e W1 ⟨rfl, b1⟩))
  go_ret
  exact ⟨rfl, below_via b1 b0' b0'.size⟩

set_option maxHeartbeats 2000000 in
theorem nums_small_ok (s : ByteArray) (a : Option Addr) (len cap m : Nat) (hm : 0 < m) (w : World) (hs : s.size ≤ 8) (hl : len ≤ 20000) (hcap : len ≤ cap) (z : Nat → Nat) (hz : ∀ i, z i < 256) (hT : Tabs w) (hS : Src w a len z)
    (c0 : Calls Tryd.prog 8 #[] w fun e w' => e = .returned (.bool true) ∧ Below w.heap.size w w') :
    Calls Tryd.prog 5 #[.string s, .slice a len cap, .int .u64 m] w fun e w' => e = .returned (.bool true) ∧ Below w.heap.size w w' := by
  have h1 : ¬ (8 : Int) < (s.size : Int) := by omega
  have h2 : ¬ (20000 : Int) < (len : Int) := by omega
  have hm0 : (m : Int) ≠ 0 := by omega
  have hm1 : ((m : Int) == 0) = false := by simpa using hm0
  have hS1 : Src w a len z := hS
  have c1 := fun (W : World) (hb : Below w.heap.size w W) => numW s hs a len cap (by omega) (by omega) z hz m hm W (hT.below hb hT.lt) (hS1.below hb)
  have c2 := fun (W : World) (hb : Below w.heap.size w W) => rsum_core s hs a len cap (by omega) (by omega) z hz W (hS1.below hb)
  have hlt : Hid (∀ i, lowBy (digS s z len) i < 256) := lowBy_lt _
  obtain ⟨D, hD⟩ : ∃ D, Hid (lowBy (digS s z len) = D) := ⟨_, rfl⟩
  rw [hD.out] at c1 c2 hlt
  have c3 := fun (W : World) (g cap : Nat) (hb : Bys W g 0 32 D) => rnumW g 32 cap (by decide) (by decide) D hlt.out W (hb.less (by decide))
  obtain ⟨x, hx⟩ : ∃ x, Hid (Ob.lowN D 8 = x) := ⟨_, rfl⟩
  rw [hx.out] at c1 c3
  clear hD hT hS hS1 hz hlt
  obtain ⟨y, hy⟩ : ∃ y, Hid (x % m = y) := ⟨_, rfl⟩
  rw [hy.out] at c1
  have hmod : (x : Int) % (m : Int) = (y : Int) := by rw [← hy.out]; rfl
  go_enter Tryd.func5, Tryd.ntmps5
  go_upto_region 5 with (first | (go_at_call 8; with_reducible refine c0.mono ?_; rintro e W0 ⟨rfl, b0'⟩) | (go_at_call 13; with_reducible refine (c1 _ b0').mono ?_; rintro e W1 ⟨rfl, b1⟩))
  have hB1 : Below w.heap.size w W1 := below_via b1 b0' b0'.size
  go_wp2_with (first | (go_at_call 12; with_reducible refine (c2 _ hB1).mono ?_; rintro e W2 ⟨g2, cap2, rfl, lg2, y2, b2⟩) | (go_at_call 14; with_reducible refine (c3 _ _ _ y2).mono ?_; rintro e W3 ⟨rfl, rfl⟩))
  go_ret
  exact ⟨rfl, below_via b2 hB1 hB1.size⟩

set_option maxHeartbeats 2000000 in
theorem nums_big_long (s : ByteArray) (b0 off0 : Nat) (len cap m : Nat) (w : World) (hs : 8 < s.size) (hl : 20000 < len) (hcap : len ≤ cap)
    (c0 : Calls Tryd.prog 8 #[] w fun e w' => e = .returned (.bool true) ∧ Below w.heap.size w w') :
    Calls Tryd.prog 5 #[.string s, .slice (some ⟨b0, off0, none⟩) len cap, .int .u64 m] w fun e w' => e = .returned (.bool true) ∧ Below w.heap.size w w' := by
  have h1 : (8 : Int) < (s.size : Int) := by omega
  have h2 : (20000 : Int) < (len : Int) := by omega
  have h3 : (20000 : Int) ≤ (cap : Int) := by omega
  have h4 : cap ≠ 0 := by omega
  have ec := fun w => eql_code w 5 5
  have c1 := fun v W => numLong s hs v m W
  go_enter Tryd.func5, Tryd.ntmps5
  go_wp2_with (first | (go_at_call 8; with_reducible refine c0.mono ?_; rintro e W0 ⟨rfl, b0'⟩) | (go_at_call 13; with_reducible refine (c1 _ _).mono ?_; rintro e W1 ⟨rfl, rfl⟩))
  go_ret
  exact ⟨rfl, b0'⟩

set_option maxHeartbeats 2000000 in
theorem nums_big_zero (s : ByteArray) (b0 off0 : Nat) (len cap : Nat) (w : World) (hs : s.size ≤ 8) (hl : 20000 < len) (hcap : len ≤ cap) (z : Nat → Nat) (hz : ∀ i, z i < 256) (hT : Tabs w) (hS : Src w (some ⟨b0, off0, none⟩) len z)
    (c0 : Calls Tryd.prog 8 #[] w fun e w' => e = .returned (.bool true) ∧ Below w.heap.size w w') :
    Calls Tryd.prog 5 #[.string s, .slice (some ⟨b0, off0, none⟩) len cap, .int .u64 0] w fun e w' => e = .returned (.bool true) ∧ Below w.heap.size w w' := by
  have h1 : ¬ (8 : Int) < (s.size : Int) := by omega
  have h2 : (20000 : Int) < (len : Int) := by omega
  have h3 : (20000 : Int) ≤ (cap : Int) := by omega
  have h4 : cap ≠ 0 := by omega
  have hS1 : Src w (some ⟨b0, off0, none⟩) 20000 z := hS.less (m := 20000) (by omega)
  have ec := fun w => eql_code w 1 1
  have c1 := fun (W : World) (hb : Below w.heap.size w W) => numZero s hs (some ⟨b0, off0, none⟩) 20000 cap (by omega) (by omega) z hz W (hT.below hb hT.lt) (hS1.below hb)
  clear hT hS hS1 hz
  go_enter Tryd.func5, Tryd.ntmps5
  go_wp2_with (first | (go_at_call 8; with_reducible refine c0.mono ?_; rintro e W0 ⟨rfl, b0'⟩) | (go_at_call 13; with_reducible refine (c1 _ b0').mono ?_; rintro e W1 ⟨rfl, b1⟩))
  go_ret
  exact ⟨rfl, below_via b1 b0' b0'.size⟩

set_option maxHeartbeats 2000000 in
theorem nums_big_ok (s : ByteArray) (b0 off0 : Nat) (len cap m : Nat) (hm : 0 < m) (w : World) (hs : s.size ≤ 8) (hl : 20000 < len) (hcap : len ≤ cap) (z : Nat → Nat) (hz : ∀ i, z i < 256) (hT : Tabs w) (hS : Src w (some ⟨b0, off0, none⟩) len z)
    (c0 : Calls Tryd.prog 8 #[] w fun e w' => e = .returned (.bool true) ∧ Below w.heap.size w w') :
    Calls Tryd.prog 5 #[.string s, .slice (some ⟨b0, off0, none⟩) len cap, .int .u64 m] w fun e w' => e = .returned (.bool true) ∧ Below w.heap.size w w' := by
  have h1 : ¬ (8 : Int) < (s.size : Int) := by omega
  have h2 : (20000 : Int) < (len : Int) := by omega
  have h3 : (20000 : Int) ≤ (cap : Int) := by omega
  have h4 : cap ≠ 0 := by omega
  have hm0 : (m : Int) ≠ 0 := by omega
  have hm1 : ((m : Int) == 0) = false := by simpa using hm0
  have hS1 : Src w (some ⟨b0, off0, none⟩) 20000 z := hS.less (m := 20000) (by omega)
  have c1 := fun (W : World) (hb : Below w.heap.size w W) => numW s hs (some ⟨b0, off0, none⟩) 20000 cap (by omega) (by omega) z hz m hm W (hT.below hb hT.lt) (hS1.below hb)
  have c2 := fun (W : World) (hb : Below w.heap.size w W) => rsum_core s hs (some ⟨b0, off0, none⟩) 20000 cap (by omega) (by omega) z hz W (hS1.below hb)
  have hlt : Hid (∀ i, lowBy (digS s z 20000) i < 256) := lowBy_lt _
  obtain ⟨D, hD⟩ : ∃ D, Hid (lowBy (digS s z 20000) = D) := ⟨_, rfl⟩
  rw [hD.out] at c1 c2 hlt
  have c3 := fun (W : World) (g cap : Nat) (hb : Bys W g 0 32 D) => rnumW g 32 cap (by decide) (by decide) D hlt.out W (hb.less (by decide))
  obtain ⟨x, hx⟩ : ∃ x, Hid (Ob.lowN D 8 = x) := ⟨_, rfl⟩
  rw [hx.out] at c1 c3
  clear hD hT hS hS1 hz hlt
  obtain ⟨y, hy⟩ : ∃ y, Hid (x % m = y) := ⟨_, rfl⟩
  rw [hy.out] at c1
  have hmod : (x : Int) % (m : Int) = (y : Int) := by rw [← hy.out]; rfl
  go_enter Tryd.func5, Tryd.ntmps5
  go_upto_region 5 with (first | (go_at_call 8; with_reducible refine c0.mono ?_; rintro e W0 ⟨rfl, b0'⟩) | (go_at_call 13; with_reducible refine (c1 _ b0').mono ?_; rintro e W1 ⟨rfl, b1⟩))
  have hB1 : Below w.heap.size w W1 := below_via b1 b0' b0'.size
  go_wp2_with (first | (go_at_call 12; with_reducible refine (c2 _ hB1).mono ?_; rintro e W2 ⟨g2, cap2, rfl, lg2, y2, b2⟩) | (go_at_call 14; with_reducible refine (c3 _ _ _ y2).mono ?_; rintro e W3 ⟨rfl, rfl⟩))
  go_ret
  exact ⟨rfl, below_via b2 hB1 hB1.size⟩

theorem blakeNumbers_walk (s : ByteArray) (a : Option Addr) (len cap : Nat) (zs : List Int) (a2 : Int) (w : World) (hs : s.size ≤ maxLen) (h : IsRow .u8 w a len cap zs) (w2 : (Lit.int .u64 a2).wf = true) (hT : Tabs w) :
    Calls Tryd.prog 5 #[.string s, .slice a len cap, .int .u64 a2] w fun e w' => e = .returned (.bool true) ∧ Below w.heap.size w w' := by
  obtain ⟨m, rfl, hm⟩ := word_of w2
  obtain ⟨z, hz, hS, h1, h2⟩ := src_of_isRow h
  have hu := upW w hT
  by_cases hl : len ≤ 20000
  · by_cases h8 : s.size ≤ 8
    · by_cases hm0 : m = 0
      · subst hm0
        exact nums_small_zero s a len cap w h8 hl h1 z hz hT hS hu
      · exact nums_small_ok s a len cap m (by omega) w h8 hl h1 z hz hT hS hu
    · exact nums_small_long s a len cap m w (by omega) hl h1 hu
  · have hS' := hS
    rcases hS' with h0 | ⟨b, off, rfl, _⟩
    · omega
    · by_cases h8 : s.size ≤ 8
      · by_cases hm0 : m = 0
        · subst hm0
          exact nums_big_zero s b off len cap w h8 (by omega) h1 z hz hT hS hu
        · exact nums_big_ok s b off len cap m (by omega) w h8 (by omega) h1 z hz hT hS hu
      · exact nums_big_long s b off len cap m w (by omega) (by omega) h1 hu
end Go.Proofs.YtllgnclbbakliaaDoor
