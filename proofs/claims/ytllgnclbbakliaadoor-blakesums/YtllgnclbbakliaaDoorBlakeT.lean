/-
  Package blake, walked: Sum and Number.
-/
import Derived.Test.YtllgnclbbakliaaDoorBlakeB
import Derived.Test.YtllgnclbbakliaaDoorBlakeD
namespace Go.Proofs.YtllgnclbbakliaaDoor
open Go.RowKit Go.Proofs
set_option linter.unusedVariables false
set_option linter.unusedSimpArgs false
attribute [local go_sem ↓] Go.wp_at_zero Go.wp_at_succ

/-- The words of the digest of n bytes for a person. -/
def digS (s : ByteArray) (z : Nat → Nat) (n : Nat) : Nat → Nat := digW (wordAt (sby s) 0) (wordAt (sby s) 1) z n (Ob.nblk n)
theorem digS_words (s : ByteArray) (z : Nat → Nat) (n : Nat) (hn : n ≤ 4611686018427387904) : Ob.Words32 (digS s z n) :=
  Ob.digI_words (Ob.open0_words (word_lt (sby_lt s) 0) (word_lt (sby_lt s) 1)) _ (by omega) _

set_option maxHeartbeats 1000000 in
theorem sumW (s : ByteArray) (hs : s.size ≤ 8) (a : Option Addr) (n c : Nat) (hn : n ≤ 4611686018427387904) (hc : n ≤ c) (z : Nat → Nat) (hz : ∀ i, z i < 256) (w : World) (hT : Tabs w) (hS : Src w a n z) :
    Calls Tryd.prog 11 #[.string s, .slice a n c] w fun e w' => ∃ g, e = .returned (.tuple #[.slice (some ⟨g, 0, none⟩) 32 32, .nilIface]) ∧ w.heap.size ≤ g ∧ w'.ownsRow g 5 1 (.slice (some ⟨g, 0, none⟩) 32 32) 32 (vals (lowBy (digS s z n)) 32) ∧ Below w.heap.size w w' := by
  have c1 := pressed_core s hs a n c hn hc z hz w hT hS
  have hd : Hid (Ob.Words32 (digS s z n)) := digS_words s z n hn
  have e0 : digW (wordAt (sby s) 0) (wordAt (sby s) 1) z n (Ob.nblk n) = digS s z n := rfl
  rw [e0] at c1
  unfold arrV at c1
  obtain ⟨D, hD⟩ : ∃ D, Hid (digS s z n = D) := ⟨_, rfl⟩
  rw [hD.out] at c1 hd
  rw [hD.out]
  have hs' : (s.size : Int) ≤ 8 := by omega
  have hs2 : ¬ (8 : Int) < (s.size : Int) := by omega
  clear hT hS hz e0 hD
  go_enter Tryd.func11, Tryd.ntmps11
  go_upto_region 4 with (first | ((with_reducible refine wpList_storeLit (D) Arr.new8 ?_ ?_ ?_ ?_); (focus rfl); (focus rfl); (focus kernel_rfl); intro W2 hW2_ tW2_ zW2_; try simp only [Act.put, List.setIfInBounds_toArray, List.set_cons_zero, List.set_cons_succ]) | (go_at_call 22; with_reducible refine c1.mono ?_; rintro e W1 ⟨rfl, b1⟩))
  have hB2 : Below w.heap.size w W2 := by rw [hW2_.out]; exact below_setCells (b1.alloc b1.size _) b1.size _ _
  have l2 := hB2.size
  have c2 := lowBytesW W1.heap.size 8 8 D hd.out W2 (by decide) tW2_.out.rd
  clear hW2_ zW2_ tW2_ c1 b1
  go_wp2_with (go_at_call 23; with_reducible refine c2.mono ?_; rintro e W3 ⟨rfl, o3, b3⟩)
  go_ret2
  exact ⟨W2.heap.size, rfl, l2, o3, below_via b3 hB2 l2⟩

set_option maxHeartbeats 1000000 in
theorem sumLong (s : ByteArray) (hs : 8 < s.size) (v : Value) (w : World) :
    Calls Tryd.prog 11 #[.string s, v] w fun e w' => e = .returned (.tuple #[.slice none 0 0, .iface 35 (.int .i64 5)]) ∧ w = w' := by
  have hs2 : (8 : Int) < (s.size : Int) := by omega
  go_enter Tryd.func11, Tryd.ntmps11
  go_wp2
  go_ret2
  exact ⟨rfl, rfl⟩

set_option maxHeartbeats 1000000 in
theorem numW (s : ByteArray) (hs : s.size ≤ 8) (a : Option Addr) (n c : Nat) (hn : n ≤ 4611686018427387904) (hc : n ≤ c) (z : Nat → Nat) (hz : ∀ i, z i < 256) (m : Nat) (hm : 0 < m) (w : World) (hT : Tabs w) (hS : Src w a n z) :
    Calls Tryd.prog 13 #[.string s, .slice a n c, .int .u64 m] w fun e w' => e = .returned (.tuple #[.int .u64 (Ob.lowN (lowBy (digS s z n)) 8 % m : Nat), .nilIface]) ∧ Below w.heap.size w w' := by
  have c1 := sumW s hs a n c hn hc z hz w hT hS
  obtain ⟨D, hD⟩ : ∃ D, Hid (digS s z n = D) := ⟨_, rfl⟩
  rw [hD.out] at c1
  rw [hD.out]
  have hm0 : (m : Int) ≠ 0 := by omega
  have hm1 : ((m : Int) == 0) = false := by simpa using hm0
  clear hT hS hz hD
  go_enter Tryd.func13, Tryd.ntmps13
  go_upto_region 6 with (go_at_call 11; with_reducible refine c1.mono ?_; rintro e W1 ⟨g, rfl, lg, o1, b1⟩)
  have hb := bys_of_row o1
  have c2 := lowNumberW g 0 8 32 (by decide) (lowBy D) (lowBy_lt D) W1 (hb.less (by decide))
  obtain ⟨x, hx⟩ : ∃ x, Hid (Ob.lowN (lowBy D) 8 = x) := ⟨_, rfl⟩
  rw [hx.out] at c2
  clear c1 o1 hb
  go_wp2_with (go_at_call 25; with_reducible refine c2.mono ?_; rintro e W2 ⟨rfl, rfl⟩)
  go_ret2
  exact ⟨by rw [hx.out]; rfl, b1⟩
set_option maxHeartbeats 1000000 in
theorem numZero (s : ByteArray) (hs : s.size ≤ 8) (a : Option Addr) (n c : Nat) (hn : n ≤ 4611686018427387904) (hc : n ≤ c) (z : Nat → Nat) (hz : ∀ i, z i < 256) (w : World) (hT : Tabs w) (hS : Src w a n z) :
    Calls Tryd.prog 13 #[.string s, .slice a n c, .int .u64 0] w fun e w' => e = .returned (.tuple #[.int .u64 0, .iface 35 (.int .i64 1)]) ∧ Below w.heap.size w w' := by
  have c1 := sumW s hs a n c hn hc z hz w hT hS
  clear hT hS hz
  go_enter Tryd.func13, Tryd.ntmps13
  go_wp2_with (go_at_call 11; with_reducible refine c1.mono ?_; rintro e W1 ⟨g, rfl, lg, o1, b1⟩)
  go_ret2
  exact ⟨rfl, b1⟩
set_option maxHeartbeats 1000000 in
theorem numLong (s : ByteArray) (hs : 8 < s.size) (v : Value) (m : Nat) (w : World) :
    Calls Tryd.prog 13 #[.string s, v, .int .u64 m] w fun e w' => e = .returned (.tuple #[.int .u64 0, .iface 35 (.int .i64 5)]) ∧ w = w' := by
  have c1 := sumLong s hs v w
  go_enter Tryd.func13, Tryd.ntmps13
  go_wp2_with (go_at_call 11; with_reducible refine c1.mono ?_; rintro e W1 ⟨rfl, rfl⟩)
  go_ret2
  exact ⟨rfl, rfl⟩
end Go.Proofs.YtllgnclbbakliaaDoor
