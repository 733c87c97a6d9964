/-
  CipherBack, walked.
-/
import Derived.Test.YtdaonbfdcpkipaaDoorJ10
import Derived.Test.YtdaonbfdcpkipaaDoorJ9
namespace Ob
theorem xor_ne {x b : Nat} (hb : b ≠ 0) : x ^^^ b ≠ x := fun h => hb (by
  have h2 : x ^^^ (x ^^^ b) = x ^^^ x := congrArg (x ^^^ ·) h
  rw [← Nat.xor_assoc, Nat.xor_self, Nat.zero_xor] at h2
  exact h2)
end Ob
namespace Go.Proofs.YtdaonbfdcpkipaaDoor
open Go.RowKit Go.Proofs
set_option linter.unusedVariables false
set_option linter.unusedSimpArgs false
attribute [local go_sem ↓] Go.wp_at_zero Go.wp_at_succ

/-- What was sealed, with one byte turned. -/
def turned (zk zn z1 : Nat → Nat) (n1 : Nat) (z : Nat → Nat) (n k b : Nat) : Nat → Nat := Ob.upd (Ob.sealX zk zn z1 n1 z n) k (Ob.sealX zk zn z1 n1 z n k ^^^ b)
theorem turned_lt {zk zn z1 z : Nat → Nat} {n1 n k b : Nat} (hz : ∀ i, z i < 256) (hb : b < 256) (i : Nat) : turned zk zn z1 n1 z n k b i < 256 := by
  unfold turned Ob.upd
  split
  · exact xor_lt8 (sealX_lt hz k) hb
  · exact sealX_lt hz i
/-- If it is opened, the byte was the text's. -/
theorem turned_low {zk zn z1 z : Nat → Nat} {n1 n k b : Nat} (hb : b ≠ 0) (hk : k < n + 16) (h : Opens zk zn z1 n1 (turned zk zn z1 n1 z n k b) n) : k < n := by
  rcases Nat.lt_or_ge k n with h1 | h1
  · exact h1
  · exfalso
    have e : Ob.sealN zk zn z1 n1 (turned zk zn z1 n1 z n k b) n = Ob.sealN zk zn z1 n1 (Ob.strX zk zn z) n := Ob.sealN_congr fun i hi => by
      unfold turned
      rw [Ob.upd_ne _ _ (by omega)]
      exact sealX_low zk zn z1 z n1 n i hi
    have h2 := h (k - n) (by omega)
    rw [e, ← sealX_high, show n + (k - n) = k by omega] at h2
    unfold turned at h2
    rw [Ob.upd_same] at h2
    exact Ob.xor_ne hb h2
/-- Then another text is told. -/
theorem turned_other {zk zn z1 z f : Nat → Nat} {n1 n k b : Nat} (hb : b ≠ 0) (hk : k < n) (hf : ∀ i, i < n → f i = Ob.strX zk zn (turned zk zn z1 n1 z n k b) i) : ¬ ∀ i, i < n → f i = z i := fun h => by
  have h1 := h k hk
  rw [hf k hk] at h1
  have e : Ob.strX zk zn (turned zk zn z1 n1 z n k b) k = z k ^^^ b := by
    unfold turned Ob.strX
    rw [Ob.upd_same, sealX_low zk zn z1 z n1 n k hk]
    unfold Ob.strX
    generalize lowBy (Ob.chaB (wordAt zk) (wordAt zn) (1 + k / 64)) (k % 64) = s
    rw [Nat.xor_assoc, Nat.xor_assoc, Nat.xor_comm b s, ← Nat.xor_assoc s, Nat.xor_self, Nat.zero_xor]
  rw [e] at h1
  exact Ob.xor_ne hb h1

set_option maxHeartbeats 2000000 in
theorem back_no (a b a1 a2 : Option Addr) (n m c d n1 c1 n2 c2 : Nat) (x y : Int) (h : ¬ (n = 32 ∧ m = 12)) (w : World)
    (c0 : Calls Tryd.prog 9 #[] w fun e w' => e = .returned (.bool true) ∧ Below w.heap.size w w') :
    Calls Tryd.prog 7 #[.slice a n c, .slice b m d, .slice a1 n1 c1, .slice a2 n2 c2, .int .i64 x, .int .u8 y] w fun e w' => e = .returned (.bool true) ∧ Below w.heap.size w w' := by
  have cf := fitsNo a b n m c d h
  clear h
  go_enter Tryd.func7, Tryd.ntmps7
  go_wp2_with (first | (go_at_call 9; with_reducible refine c0.mono ?_; rintro e W0 ⟨rfl, b0⟩) | (go_at_call 11; with_reducible refine (cf _).mono ?_; rintro e W2 ⟨rfl, rfl⟩))
  go_ret
  exact ⟨rfl, b0⟩
set_option maxHeartbeats 2000000 in
theorem back_long1 (a b a1 a2 : Option Addr) (n m c d n1 c1 n2 c2 : Nat) (x y : Int) (hn : n = 32) (hm : m = 12) (h : 500 < n1) (w : World)
    (c0 : Calls Tryd.prog 9 #[] w fun e w' => e = .returned (.bool true) ∧ Below w.heap.size w w') :
    Calls Tryd.prog 7 #[.slice a n c, .slice b m d, .slice a1 n1 c1, .slice a2 n2 c2, .int .i64 x, .int .u8 y] w fun e w' => e = .returned (.bool true) ∧ Below w.heap.size w w' := by
  subst hn hm
  have cf := fitsYes a b c d
  have g1 : (500 : Int) < (n1 : Int) := by omega
  clear h
  go_enter Tryd.func7, Tryd.ntmps7
  go_wp2_with (first | (go_at_call 9; with_reducible refine c0.mono ?_; rintro e W0 ⟨rfl, b0⟩) | (go_at_call 11; with_reducible refine (cf _).mono ?_; rintro e W2 ⟨rfl, rfl⟩))
  go_ret
  exact ⟨rfl, b0⟩
set_option maxHeartbeats 2000000 in
theorem back_long2 (a b a1 a2 : Option Addr) (n m c d n1 c1 n2 c2 : Nat) (x y : Int) (hn : n = 32) (hm : m = 12) (h : n1 ≤ 500) (h' : 500 < n2) (w : World)
    (c0 : Calls Tryd.prog 9 #[] w fun e w' => e = .returned (.bool true) ∧ Below w.heap.size w w') :
    Calls Tryd.prog 7 #[.slice a n c, .slice b m d, .slice a1 n1 c1, .slice a2 n2 c2, .int .i64 x, .int .u8 y] w fun e w' => e = .returned (.bool true) ∧ Below w.heap.size w w' := by
  subst hn hm
  have cf := fitsYes a b c d
  have g1 : ¬ (500 : Int) < (n1 : Int) := by omega
  have g2 : (500 : Int) < (n2 : Int) := by omega
  clear h h'
  go_enter Tryd.func7, Tryd.ntmps7
  go_wp2_with (first | (go_at_call 9; with_reducible refine c0.mono ?_; rintro e W0 ⟨rfl, b0⟩) | (go_at_call 11; with_reducible refine (cf _).mono ?_; rintro e W2 ⟨rfl, rfl⟩))
  go_ret
  exact ⟨rfl, b0⟩
set_option maxHeartbeats 4000000 in
theorem back_stop (kb ko kc nb no nc c1 n1 c2 n2 : Nat) (hkc : 32 ≤ kc) (hnc : 12 ≤ nc) (hn1 : n1 ≤ 500) (hn2 : n2 ≤ 500) (zk zn z1 z2 : Nat → Nat) (hzk : ∀ i, zk i < 256) (hzn : ∀ i, zn i < 256) (hz1 : ∀ i, z1 i < 256) (hz2 : ∀ i, z2 i < 256) (a1 a2 : Option Addr) (w : World) (hT : Tabs w) (hK : Bys w kb ko 32 zk) (hNn : Bys w nb no 12 zn) (hS1 : Src w a1 n1 z1) (hS2 : Src w a2 n2 z2) (x y : Int) (hs : y = 0 ∨ x < 0 ∨ (n2 : Int) + 16 ≤ x)
    (c0 : Calls Tryd.prog 9 #[] w fun e w' => e = .returned (.bool true) ∧ Below w.heap.size w w') :
    Calls Tryd.prog 7 #[.slice (some ⟨kb, ko, none⟩) 32 kc, .slice (some ⟨nb, no, none⟩) 12 nc, .slice a1 n1 c1, .slice a2 n2 c2, .int .i64 x, .int .u8 y] w fun e w' => e = .returned (.bool true) ∧ Below w.heap.size w w' := by
  have cs := fun (W : World) (hb : Below w.heap.size w W) => sealW kb ko kc nb no nc c1 n1 c2 n2 hkc hnc zk zn z1 z2 hzk hzn hz1 hz2 (by omega) (by omega) a1 a2 W (hT.on hb) (hK.below hb hK.lt) (hNn.below hb hNn.lt) (hS1.below hb) (hS2.below hb)
  have cf := fitsYes (some ⟨kb, ko, none⟩) (some ⟨nb, no, none⟩) kc nc
  have co : ∀ (W : World) (g : Nat), Below w.heap.size w W → Arr W .u8 g (n2 + 16) (Ob.sealX zk zn z1 n1 z2 n2) → Calls Tryd.prog 18 #[.slice (some ⟨kb, ko, none⟩) 32 kc, .slice (some ⟨nb, no, none⟩) 12 nc, .slice a1 n1 c1, .slice (some ⟨g, 0, none⟩) (n2 + 16) (n2 + 16)] W fun e w' => ∃ g f, e = .returned (.tuple #[.slice (some ⟨g, 0, none⟩) n2 (n2 + 16), .nilIface]) ∧ Arr w' .u8 g (n2 + 16) f ∧ (∀ i, i < n2 → f i = z2 i) ∧ Below W.heap.size W w' := fun W g hb ht =>
    (open_core kb ko kc nb no nc c1 n1 g 0 (n2 + 16) n2 hkc hnc (Nat.le_refl _) zk zn z1 (Ob.sealX zk zn z1 n1 z2 n2) hzk hzn hz1 (sealX_lt hz2) (by omega) (by omega) a1 W (hT.on hb) (hK.below hb hK.lt) (hNn.below hb hNn.lt) (hS1.below hb) ht.bys8).mono fun e w' h => by
      rcases h with ⟨_, g', f, he, _, ht', hf, hB⟩ | ⟨hno, _⟩
      · exact ⟨g', f, he, ht', back_bytes hf, hB⟩
      · exact absurd (opens_sealed zk zn z1 z2 n1 n2) hno
  have vt : Hid (∀ W, Below w.heap.size w W → (convert 22 9 (.slice a2 n2 c2)).run Tryd.prog W = .ok (.string (bst z2 n2)) W) := fun W hb => src_str (hS2.below hb) c2
  have vf : Hid (∀ (W : World) (g : Nat) (f : Nat → Nat), Arr W .u8 g (n2 + 16) f → (∀ i, i < n2 → f i = z2 i) → (convert 22 9 (.slice (some ⟨g, 0, none⟩) n2 (n2 + 16))).run Tryd.prog W = .ok (.string (bst z2 n2)) W) := fun W g f ht hf => by
    have := bys_str g 0 n2 (n2 + 16) f W (ht.bys8.less (by omega))
    rw [← bst_congr hf]
    exact this
  have g1 : ¬ (500 : Int) < (n1 : Int) := by omega
  have g2 : ¬ (500 : Int) < (n2 : Int) := by omega
  generalize bst z2 n2 = ST at *
  obtain ⟨m, hm⟩ : ∃ m, Hid (n2 + 16 = m) := ⟨_, rfl⟩
  rw [hm.out] at cs co vf
  have hs0 : y = 0 ∨ x < 0 ∨ (m : Int) ≤ x := by have := hm.out; omega
  clear hs hT hK hNn hS1 hS2 hzk hzn hz1 hz2 hn1 hn2
  go_enter Tryd.func7, Tryd.ntmps7
  go_upto_region 6 with (first | (go_at_call 9; with_reducible refine c0.mono ?_; rintro e W0 ⟨rfl, b0'⟩) | (go_at_call 15; with_reducible refine (cs _ b0').mono ?_; rintro e W1 ⟨g1', rfl, lg1, t1, b1⟩) | (go_at_call 11; with_reducible refine (cf _).mono ?_; rintro e W2 ⟨rfl, rfl⟩))
  have hB1 : Below w.heap.size w W1 := below_via b1 b0' b0'.size
  have co1 := co W1 g1' hB1 t1
  have lg0 : w.heap.size ≤ g1' := Nat.le_trans b0'.size lg1
  clear cs cf co c0
  go_upto_region 7 with (go_at_call 18; with_reducible refine co1.mono ?_; rintro e W3 ⟨g3, f3, rfl, t3, hf3, b3⟩)
  have hB3 : Below w.heap.size w W3 := below_via b3 hB1 hB1.size
  have t1' := t1.below b3 t1.lt
  have r1 := vt.out _ hB3
  have r2 := vf.out _ _ _ t3 hf3
  clear t1 t1' t3 hf3 b3 b1 b0' vt vf co1
  by_cases hy0 : y = 0
  · subst hy0
    clear hs0
    go_wp2
    go_ret
    exact ⟨rfl, hB3⟩
  · by_cases hx0 : x < 0
    · clear hs0
      have hy1 : (y == 0) = false := by simpa using hy0
      go_wp2
      go_ret
      exact ⟨rfl, hB3⟩
    · have hx1 : (m : Int) ≤ x := by omega
      have hx2 : (0 : Int) ≤ x := by omega
      have hy1 : (y == 0) = false := by simpa using hy0
      clear hs0
      go_wp2
      go_ret
      exact ⟨rfl, hB3⟩

set_option maxHeartbeats 4000000 in
theorem back_bad (kb ko kc nb no nc c1 n1 c2 n2 : Nat) (hkc : 32 ≤ kc) (hnc : 12 ≤ nc) (hn1 : n1 ≤ 500) (hn2 : n2 ≤ 500) (zk zn z1 z2 : Nat → Nat) (hzk : ∀ i, zk i < 256) (hzn : ∀ i, zn i < 256) (hz1 : ∀ i, z1 i < 256) (hz2 : ∀ i, z2 i < 256) (a1 a2 : Option Addr) (w : World) (hT : Tabs w) (hK : Bys w kb ko 32 zk) (hNn : Bys w nb no 12 zn) (hS1 : Src w a1 n1 z1) (hS2 : Src w a2 n2 z2) (k b : Nat) (hk : k < n2 + 16) (hb : b < 256) (hb0 : b ≠ 0) (hop : ¬ Opens zk zn z1 n1 (turned zk zn z1 n1 z2 n2 k b) n2)
    (c0 : Calls Tryd.prog 9 #[] w fun e w' => e = .returned (.bool true) ∧ Below w.heap.size w w') :
    Calls Tryd.prog 7 #[.slice (some ⟨kb, ko, none⟩) 32 kc, .slice (some ⟨nb, no, none⟩) 12 nc, .slice a1 n1 c1, .slice a2 n2 c2, .int .i64 k, .int .u8 b] w fun e w' => e = .returned (.bool true) ∧ Below w.heap.size w w' := by
  have cs := fun (W : World) (hb : Below w.heap.size w W) => sealW kb ko kc nb no nc c1 n1 c2 n2 hkc hnc zk zn z1 z2 hzk hzn hz1 hz2 (by omega) (by omega) a1 a2 W (hT.on hb) (hK.below hb hK.lt) (hNn.below hb hNn.lt) (hS1.below hb) (hS2.below hb)
  have cf := fitsYes (some ⟨kb, ko, none⟩) (some ⟨nb, no, none⟩) kc nc
  have co : ∀ (W : World) (g : Nat), Below w.heap.size w W → Arr W .u8 g (n2 + 16) (Ob.sealX zk zn z1 n1 z2 n2) → Calls Tryd.prog 18 #[.slice (some ⟨kb, ko, none⟩) 32 kc, .slice (some ⟨nb, no, none⟩) 12 nc, .slice a1 n1 c1, .slice (some ⟨g, 0, none⟩) (n2 + 16) (n2 + 16)] W fun e w' => ∃ g f, e = .returned (.tuple #[.slice (some ⟨g, 0, none⟩) n2 (n2 + 16), .nilIface]) ∧ Arr w' .u8 g (n2 + 16) f ∧ (∀ i, i < n2 → f i = z2 i) ∧ Below W.heap.size W w' := fun W g hb ht =>
    (open_core kb ko kc nb no nc c1 n1 g 0 (n2 + 16) n2 hkc hnc (Nat.le_refl _) zk zn z1 (Ob.sealX zk zn z1 n1 z2 n2) hzk hzn hz1 (sealX_lt hz2) (by omega) (by omega) a1 W (hT.on hb) (hK.below hb hK.lt) (hNn.below hb hNn.lt) (hS1.below hb) ht.bys8).mono fun e w' h => by
      rcases h with ⟨_, g', f, he, _, ht', hf, hB⟩ | ⟨hno, _⟩
      · exact ⟨g', f, he, ht', back_bytes hf, hB⟩
      · exact absurd (opens_sealed zk zn z1 z2 n1 n2) hno
  have vt : Hid (∀ W, Below w.heap.size w W → (convert 22 9 (.slice a2 n2 c2)).run Tryd.prog W = .ok (.string (bst z2 n2)) W) := fun W hb => src_str (hS2.below hb) c2
  have vf : Hid (∀ (W : World) (g : Nat) (f : Nat → Nat), Arr W .u8 g (n2 + 16) f → (∀ i, i < n2 → f i = z2 i) → (convert 22 9 (.slice (some ⟨g, 0, none⟩) n2 (n2 + 16))).run Tryd.prog W = .ok (.string (bst z2 n2)) W) := fun W g f ht hf => by
    have := bys_str g 0 n2 (n2 + 16) f W (ht.bys8.less (by omega))
    rw [← bst_congr hf]
    exact this
  have g1 : ¬ (500 : Int) < (n1 : Int) := by omega
  have g2 : ¬ (500 : Int) < (n2 : Int) := by omega
  obtain ⟨v, hv, ev⟩ : ∃ v : Nat, Hid (Ob.sealX zk zn z1 n1 z2 n2 k ^^^ b = v) ∧ bits .xor .u8 ((Ob.sealX zk zn z1 n1 z2 n2 k : Nat) : Int) (b : Int) = (v : Int) := ⟨_, rfl, xor_u8 _ b (sealX_lt hz2 k) hb⟩
  have hY : Hid (Ob.upd (Ob.sealX zk zn z1 n1 z2 n2) k v = turned zk zn z1 n1 z2 n2 k b) := by
    show _ = _
    rw [← hv.out]
    rfl
  have co2 : ∀ (W : World) (g : Nat), Below w.heap.size w W → Arr W .u8 g (n2 + 16) (turned zk zn z1 n1 z2 n2 k b) → Calls Tryd.prog 18 #[.slice (some ⟨kb, ko, none⟩) 32 kc, .slice (some ⟨nb, no, none⟩) 12 nc, .slice a1 n1 c1, .slice (some ⟨g, 0, none⟩) (n2 + 16) (n2 + 16)] W fun e w' => e = .returned (.tuple #[.slice none 0 0, .iface 30 (.int .i64 6)]) ∧ Below W.heap.size W w' := fun W g hb' ht =>
    (open_core kb ko kc nb no nc c1 n1 g 0 (n2 + 16) n2 hkc hnc (Nat.le_refl _) zk zn z1 (turned zk zn z1 n1 z2 n2 k b) hzk hzn hz1 (turned_lt hz2 hb) (by omega) (by omega) a1 W (hT.on hb') (hK.below hb' hK.lt) (hNn.below hb' hNn.lt) (hS1.below hb') ht.bys8).mono fun e w' h => by
      rcases h with ⟨h, _⟩ | ⟨_, he, hB⟩
      · exact absurd h hop
      · exact ⟨he, hB⟩
  have ec : ∀ w, (binOp .eql 26 (.iface 30 (.int .i64 6)) (.iface 30 (.int .i64 6))).run Tryd.prog w = .ok (.bool true) w := fun w => eql_code w 6 6
  generalize bst z2 n2 = ST at *
  obtain ⟨G, hG⟩ : ∃ D, Hid (Ob.sealX zk zn z1 n1 z2 n2 = D) := ⟨_, rfl⟩
  obtain ⟨Y, hYY⟩ : ∃ D, Hid (turned zk zn z1 n1 z2 n2 k b = D) := ⟨_, rfl⟩
  rw [hG.out] at cs co ev
  rw [hYY.out] at co2
  rw [hG.out, hYY.out] at hY
  have kb0 : ((b : Int) == 0) = false := by simpa using hb0
  have kb1 : ¬ (b : Int) = 0 := by omega
  have k0 : ¬ (k : Int) < 0 := by omega
  have k1 : (0 : Int) ≤ (k : Int) := by omega
  obtain ⟨m, hm⟩ : ∃ m, Hid (n2 + 16 = m) := ⟨_, rfl⟩
  rw [hm.out] at cs co vf co2 hk
  have k2 : ¬ (m : Int) ≤ (k : Int) := by omega
  have k3 : (k : Int) < (m : Int) := by omega
  have hk' : Hid (k < m) := hk
  clear hk hv hG hYY hop hb hb0 hT hK hNn hS1 hS2 hzk hzn hz1 hz2 hn1 hn2
  go_enter Tryd.func7, Tryd.ntmps7
  go_upto_region 6 with (first | (go_at_call 9; with_reducible refine c0.mono ?_; rintro e W0 ⟨rfl, b0'⟩) | (go_at_call 15; with_reducible refine (cs _ b0').mono ?_; rintro e W1 ⟨g1', rfl, lg1, t1, b1⟩) | (go_at_call 11; with_reducible refine (cf _).mono ?_; rintro e W2 ⟨rfl, rfl⟩))
  have hB1 : Below w.heap.size w W1 := below_via b1 b0' b0'.size
  have co1 := co W1 g1' hB1 t1
  have lg0 : w.heap.size ≤ g1' := Nat.le_trans b0'.size lg1
  clear cs cf co c0
  go_upto_region 7 with (go_at_call 18; with_reducible refine co1.mono ?_; rintro e W3 ⟨g3, f3, rfl, t3, hf3, b3⟩)
  have hB3 : Below w.heap.size w W3 := below_via b3 hB1 hB1.size
  have t1' := t1.below b3 t1.lt
  have r1 := vt.out _ hB3
  have r2 := vf.out _ _ _ t3 hf3
  have p0 := t1'.c k hk'.out
  have p1 := t1'.f k hk'.out
  obtain ⟨x, hx⟩ : ∃ x, Hid (G k = x) := ⟨_, rfl⟩
  rw [hx.out] at p0 ev
  have t4 := t1'.set (i := k) (z := v) hk'.out
  rw [hY.out] at t4
  have hB4 : Below w.heap.size w (W3.setCell ⟨g1', k, none⟩ (.int .u8 (v : Nat))) := hB3.setCell lg0 _
  have co3 := co2 _ g1' hB4 t4
  clear t1 t1' t3 hf3 b3 b1 b0' vt vf co1 co2 t4 hB1
  go_upto_region 12 with (fail)
  go_wp2_with (go_at_call 18; with_reducible refine co3.mono ?_; rintro e W5 ⟨rfl, b5⟩)
  go_ret
  exact ⟨rfl, below_via b5 hB4 hB4.size⟩

set_option maxHeartbeats 4000000 in
theorem back_ok (kb ko kc nb no nc c1 n1 c2 n2 : Nat) (hkc : 32 ≤ kc) (hnc : 12 ≤ nc) (hn1 : n1 ≤ 500) (hn2 : n2 ≤ 500) (zk zn z1 z2 : Nat → Nat) (hzk : ∀ i, zk i < 256) (hzn : ∀ i, zn i < 256) (hz1 : ∀ i, z1 i < 256) (hz2 : ∀ i, z2 i < 256) (a1 a2 : Option Addr) (w : World) (hT : Tabs w) (hK : Bys w kb ko 32 zk) (hNn : Bys w nb no 12 zn) (hS1 : Src w a1 n1 z1) (hS2 : Src w a2 n2 z2) (k b : Nat) (hk : k < n2 + 16) (hb : b < 256) (hb0 : b ≠ 0) (hop : Opens zk zn z1 n1 (turned zk zn z1 n1 z2 n2 k b) n2)
    (c0 : Calls Tryd.prog 9 #[] w fun e w' => e = .returned (.bool true) ∧ Below w.heap.size w w') :
    Calls Tryd.prog 7 #[.slice (some ⟨kb, ko, none⟩) 32 kc, .slice (some ⟨nb, no, none⟩) 12 nc, .slice a1 n1 c1, .slice a2 n2 c2, .int .i64 k, .int .u8 b] w fun e w' => e = .returned (.bool true) ∧ Below w.heap.size w w' := by
  have cs := fun (W : World) (hb : Below w.heap.size w W) => sealW kb ko kc nb no nc c1 n1 c2 n2 hkc hnc zk zn z1 z2 hzk hzn hz1 hz2 (by omega) (by omega) a1 a2 W (hT.on hb) (hK.below hb hK.lt) (hNn.below hb hNn.lt) (hS1.below hb) (hS2.below hb)
  have cf := fitsYes (some ⟨kb, ko, none⟩) (some ⟨nb, no, none⟩) kc nc
  have co : ∀ (W : World) (g : Nat), Below w.heap.size w W → Arr W .u8 g (n2 + 16) (Ob.sealX zk zn z1 n1 z2 n2) → Calls Tryd.prog 18 #[.slice (some ⟨kb, ko, none⟩) 32 kc, .slice (some ⟨nb, no, none⟩) 12 nc, .slice a1 n1 c1, .slice (some ⟨g, 0, none⟩) (n2 + 16) (n2 + 16)] W fun e w' => ∃ g f, e = .returned (.tuple #[.slice (some ⟨g, 0, none⟩) n2 (n2 + 16), .nilIface]) ∧ Arr w' .u8 g (n2 + 16) f ∧ (∀ i, i < n2 → f i = z2 i) ∧ Below W.heap.size W w' := fun W g hb ht =>
    (open_core kb ko kc nb no nc c1 n1 g 0 (n2 + 16) n2 hkc hnc (Nat.le_refl _) zk zn z1 (Ob.sealX zk zn z1 n1 z2 n2) hzk hzn hz1 (sealX_lt hz2) (by omega) (by omega) a1 W (hT.on hb) (hK.below hb hK.lt) (hNn.below hb hNn.lt) (hS1.below hb) ht.bys8).mono fun e w' h => by
      rcases h with ⟨_, g', f, he, _, ht', hf, hB⟩ | ⟨hno, _⟩
      · exact ⟨g', f, he, ht', back_bytes hf, hB⟩
      · exact absurd (opens_sealed zk zn z1 z2 n1 n2) hno
  have vt : Hid (∀ W, Below w.heap.size w W → (convert 22 9 (.slice a2 n2 c2)).run Tryd.prog W = .ok (.string (bst z2 n2)) W) := fun W hb => src_str (hS2.below hb) c2
  have vf : Hid (∀ (W : World) (g : Nat) (f : Nat → Nat), Arr W .u8 g (n2 + 16) f → (∀ i, i < n2 → f i = z2 i) → (convert 22 9 (.slice (some ⟨g, 0, none⟩) n2 (n2 + 16))).run Tryd.prog W = .ok (.string (bst z2 n2)) W) := fun W g f ht hf => by
    have := bys_str g 0 n2 (n2 + 16) f W (ht.bys8.less (by omega))
    rw [← bst_congr hf]
    exact this
  have g1 : ¬ (500 : Int) < (n1 : Int) := by omega
  have g2 : ¬ (500 : Int) < (n2 : Int) := by omega
  obtain ⟨v, hv, ev⟩ : ∃ v : Nat, Hid (Ob.sealX zk zn z1 n1 z2 n2 k ^^^ b = v) ∧ bits .xor .u8 ((Ob.sealX zk zn z1 n1 z2 n2 k : Nat) : Int) (b : Int) = (v : Int) := ⟨_, rfl, xor_u8 _ b (sealX_lt hz2 k) hb⟩
  have hY : Hid (Ob.upd (Ob.sealX zk zn z1 n1 z2 n2) k v = turned zk zn z1 n1 z2 n2 k b) := by
    show _ = _
    rw [← hv.out]
    rfl
  have co2 : ∀ (W : World) (g : Nat), Below w.heap.size w W → Arr W .u8 g (n2 + 16) (turned zk zn z1 n1 z2 n2 k b) → Calls Tryd.prog 18 #[.slice (some ⟨kb, ko, none⟩) 32 kc, .slice (some ⟨nb, no, none⟩) 12 nc, .slice a1 n1 c1, .slice (some ⟨g, 0, none⟩) (n2 + 16) (n2 + 16)] W fun e w' => ∃ g f, e = .returned (.tuple #[.slice (some ⟨g, 0, none⟩) n2 (n2 + 16), .nilIface]) ∧ W.heap.size ≤ g ∧ Arr w' .u8 g (n2 + 16) f ∧ (∀ i, i < n2 → f i = Ob.strX zk zn (turned zk zn z1 n1 z2 n2 k b) i) ∧ Below W.heap.size W w' := fun W g hb' ht =>
    (open_core kb ko kc nb no nc c1 n1 g 0 (n2 + 16) n2 hkc hnc (Nat.le_refl _) zk zn z1 (turned zk zn z1 n1 z2 n2 k b) hzk hzn hz1 (turned_lt hz2 hb) (by omega) (by omega) a1 W (hT.on hb') (hK.below hb' hK.lt) (hNn.below hb' hNn.lt) (hS1.below hb') ht.bys8).mono fun e w' h => by
      rcases h with ⟨_, h⟩ | ⟨hno, _⟩
      · exact h
      · exact absurd hop hno
  have hkn : k < n2 := turned_low hb0 hk hop
  have vu : Hid (∀ (W : World) (g : Nat) (f : Nat → Nat), Arr W .u8 g (n2 + 16) f → (∀ i, i < n2 → f i = Ob.strX zk zn (turned zk zn z1 n1 z2 n2 k b) i) → (convert 22 9 (.slice (some ⟨g, 0, none⟩) n2 (n2 + 16))).run Tryd.prog W = .ok (.string (bst (Ob.strX zk zn (turned zk zn z1 n1 z2 n2 k b)) n2)) W) := fun W g f ht hf => by
    have := bys_str g 0 n2 (n2 + 16) f W (ht.bys8.less (by omega))
    rw [← bst_congr hf]
    exact this
  have hne : ((bst (Ob.strX zk zn (turned zk zn z1 n1 z2 n2 k b)) n2).toList == (bst z2 n2).toList) = false := by
    unfold bst
    rw [Lib.strOfNums_toList, Lib.strOfNums_toList]
    exact eqb_no (fun i _ => strX_lt (turned_lt hz2 hb) i) (fun i _ => hz2 i) (turned_other hb0 hkn fun _ _ => rfl)
  have cb : ∀ (W : World) (g : Nat), Below w.heap.size w W → Arr W .u8 g (n2 + 16) (turned zk zn z1 n1 z2 n2 k b) → Calls Tryd.prog 17 #[.slice (some ⟨kb, ko, none⟩) 32 kc, .slice (some ⟨nb, no, none⟩) 12 nc, .slice a1 n1 c1, .slice (some ⟨g, 0, none⟩) n2 (n2 + 16)] W fun e w' => ∃ g d, e = .returned (.slice (some ⟨g, 0, none⟩) 16 16) ∧ W.heap.size ≤ g ∧ Arr w' .u8 g 16 d ∧ (∀ i, d i < 256) ∧ Ob.valD d 16 = Ob.sealN zk zn z1 n1 (turned zk zn z1 n1 z2 n2 k b) n2 ∧ Below W.heap.size W w' := fun W g hb' ht =>
    rboth_core kb ko kc nb no nc c1 n1 (n2 + 16) n2 zk zn z1 (turned zk zn z1 n1 z2 n2 k b) hzk hzn hz1 (turned_lt hz2 hb) (by omega) (by omega) a1 (some ⟨g, 0, none⟩) W (hK.below hb' hK.lt) (hNn.below hb' hNn.lt) (hS1.below hb') (Or.inr ⟨g, 0, rfl, ht.bys8.less (by omega)⟩)
  have vy : Hid (∀ (W : World) (g : Nat), Arr W .u8 g (n2 + 16) (turned zk zn z1 n1 z2 n2 k b) → (convert 22 9 (.slice (some ⟨g, n2, none⟩) 16 16)).run Tryd.prog W = .ok (.string (bst (Ob.lenD (Ob.sealN zk zn z1 n1 (turned zk zn z1 n1 z2 n2 k b) n2)) 16)) W) := fun W g ht => by
    have := bys_str g n2 16 16 (fun i => turned zk zn z1 n1 z2 n2 k b (n2 + i)) W ⟨ht.lt, fun i hi => ht.c (n2 + i) (by omega)⟩
    rw [← bst_congr hop]
    exact this
  have hVl : Hid (Ob.sealN zk zn z1 n1 (turned zk zn z1 n1 z2 n2 k b) n2 < 256 ^ 16) := Ob.markN_lt _ _ _
  obtain ⟨V, hV⟩ : ∃ D, Hid (Ob.sealN zk zn z1 n1 (turned zk zn z1 n1 z2 n2 k b) n2 = D) := ⟨_, rfl⟩
  rw [hV.out] at cb vy hVl
  have v2 : Hid (∀ (W : World) (g : Nat) (d : Nat → Nat), Arr W .u8 g 16 d → (∀ i, d i < 256) → Ob.valD d 16 = V → (convert 22 9 (.slice (some ⟨g, 0, none⟩) 16 16)).run Tryd.prog W = .ok (.string (bst (Ob.lenD V) 16)) W) := fun W g d ht hd hv => by
    have := bys_str g 0 16 16 d W ht.bys8
    rw [← bst_congr (Ob.mark_digits hd hVl.out hv)]
    exact this
  generalize bst z2 n2 = ST at *
  generalize bst (Ob.strX zk zn (turned zk zn z1 n1 z2 n2 k b)) n2 = SU at *
  generalize bst (Ob.lenD V) 16 = SV at *
  obtain ⟨G, hG⟩ : ∃ D, Hid (Ob.sealX zk zn z1 n1 z2 n2 = D) := ⟨_, rfl⟩
  obtain ⟨F, hF⟩ : ∃ D, Hid (Ob.strX zk zn (turned zk zn z1 n1 z2 n2 k b) = D) := ⟨_, rfl⟩
  rw [hF.out] at co2 vu
  obtain ⟨Y, hYY⟩ : ∃ D, Hid (turned zk zn z1 n1 z2 n2 k b = D) := ⟨_, rfl⟩
  rw [hG.out] at cs co ev
  rw [hYY.out] at co2 cb vy
  rw [hG.out, hYY.out] at hY
  have kb0 : ((b : Int) == 0) = false := by simpa using hb0
  have kb1 : ¬ (b : Int) = 0 := by omega
  have k0 : ¬ (k : Int) < 0 := by omega
  have k1 : (0 : Int) ≤ (k : Int) := by omega
  have k4 : (k : Int) < (n2 : Int) := by omega
  obtain ⟨m, hm⟩ : ∃ m, Hid (n2 + 16 = m) := ⟨_, rfl⟩
  rw [hm.out] at cs co vf co2 cb vy vu hk
  have k2 : ¬ (m : Int) ≤ (k : Int) := by omega
  have k3 : (k : Int) < (m : Int) := by omega
  have i3 : (n2 : Int) ≤ (m : Int) := by have := hm.out; omega
  have i2 : (0 : Int) ≤ (n2 : Int) := by omega
  have i6 : m ≠ n2 := by have := hm.out; omega
  have i7 : m - n2 = 16 := by have := hm.out; omega
  have i8 : n2 ≤ m := by have := hm.out; omega
  have hk' : Hid (k < m) := hk
  clear hk hv hG hF hYY hop hb hb0 hT hK hNn hS1 hS2 hzk hzn hz1 hz2 hn1 hn2 hV hkn
  go_enter Tryd.func7, Tryd.ntmps7
  go_upto_region 6 with (first | (go_at_call 9; with_reducible refine c0.mono ?_; rintro e W0 ⟨rfl, b0'⟩) | (go_at_call 15; with_reducible refine (cs _ b0').mono ?_; rintro e W1 ⟨g1', rfl, lg1, t1, b1⟩) | (go_at_call 11; with_reducible refine (cf _).mono ?_; rintro e W2 ⟨rfl, rfl⟩))
  have hB1 : Below w.heap.size w W1 := below_via b1 b0' b0'.size
  have co1 := co W1 g1' hB1 t1
  have lg0 : w.heap.size ≤ g1' := Nat.le_trans b0'.size lg1
  clear cs cf co c0
  go_upto_region 7 with (go_at_call 18; with_reducible refine co1.mono ?_; rintro e W3 ⟨g3, f3, rfl, t3, hf3, b3⟩)
  have hB3 : Below w.heap.size w W3 := below_via b3 hB1 hB1.size
  have t1' := t1.below b3 t1.lt
  have r1 := vt.out _ hB3
  have r2 := vf.out _ _ _ t3 hf3
  have p0 := t1'.c k hk'.out
  have p1 := t1'.f k hk'.out
  obtain ⟨x, hx⟩ : ∃ x, Hid (G k = x) := ⟨_, rfl⟩
  rw [hx.out] at p0 ev
  have t4 := t1'.set (i := k) (z := v) hk'.out
  rw [hY.out] at t4
  have hB4 : Below w.heap.size w (W3.setCell ⟨g1', k, none⟩ (.int .u8 (v : Nat))) := hB3.setCell lg0 _
  have co3 := co2 _ g1' hB4 t4
  clear t1 t1' t3 hf3 b3 b1 b0' vf co1 co2 hB1
  go_upto_region 12 with (fail)
  clear p0 p1 r1 r2
  generalize W3.setCell ⟨g1', k, none⟩ (.int .u8 (v : Nat)) = W4 at *
  go_upto_region 14 with (go_at_call 18; with_reducible refine co3.mono ?_; rintro e W5 ⟨g5, f5, rfl, lg5, t5, hf5, b5⟩)
  have hB5 : Below w.heap.size w W5 := below_via b5 hB4 hB4.size
  have l5 := hB5.size
  have t6 := t4.below b5 t4.lt
  have hBd : Below w.heap.size w W5.drew := hB5.drew
  have cb1 := cb _ g1' hBd t6.drew
  have vk : Hid (∀ (W : World), Below W5.heap.size W5 W → (convert 22 9 (.slice (some ⟨g1', n2, none⟩) 16 16)).run Tryd.prog W = .ok (.string SV) W ∧ (convert 22 9 (.slice (some ⟨g5, 0, none⟩) n2 m)).run Tryd.prog W = .ok (.string SU) W ∧ (convert 22 9 (.slice a2 n2 c2)).run Tryd.prog W = .ok (.string ST) W) := fun W h => ⟨vy.out _ _ (t6.below h t6.lt), vu.out _ _ _ (t5.below h t5.lt) hf5, vt.out _ (below_via h hB5 l5)⟩
  clear t4 t5 hf5 b5 t6 co3 cb vt vu vy hB4
  refine wp_region_noPanic ?_
  refine region_lastly (S := (fun w' => (convert 22 9 (.slice (some ⟨g1', n2, none⟩) 16 16)).run Tryd.prog w' = .ok (.string SV) w' ∧ (convert 22 9 (.slice (some ⟨g5, 0, none⟩) n2 m)).run Tryd.prog w' = .ok (.string SU) w' ∧ (convert 22 9 (.slice a2 n2 c2)).run Tryd.prog w' = .ok (.string ST) w')) [] (by kernel_rfl) (by ((try dsimp only); (first | exact vk.out _ ((Below.refl _ _).drew) | exact vk.out _ (((Below.refl _ _).drew).trans b7)))) (fun hHeld => ?_)
  refine anyZ_free (i := 0) (oi := ?oi_1) (v := ?v_1) ?hi_1 ?hs_1 ?hf_1 ?hr_1 ?hQ_1 (Or.inl ⟨?hw_1, ?hy_1⟩) ?hrest_1
  case hi_1 => (simp only [List.getElem?_toArray, List.getElem?_cons_succ, List.getElem?_cons_zero]; exact rfl)
  case hs_1 => kernel_rfl
  case hf_1 => kernel_rfl
  case hr_1 => kernel_rfl
  case hQ_1 => exact fun _ _ _ h => h
  case hw_1 => rfl
  case hy_1 => (intro w _; go_simp; try with_reducible rfl)
  try simp only [Act.put, List.setIfInBounds_toArray, List.set_cons_zero, List.set_cons_succ]
  refine anyZ_free (i := 1) (oi := ?oi_2) (v := ?v_2) ?hi_2 ?hs_2 ?hf_2 ?hr_2 ?hQ_2 (Or.inl ⟨?hw_2, ?hy_2⟩) ?hrest_2
  case hi_2 => (simp only [List.getElem?_toArray, List.getElem?_cons_succ, List.getElem?_cons_zero]; exact rfl)
  case hs_2 => kernel_rfl
  case hf_2 => kernel_rfl
  case hr_2 => kernel_rfl
  case hQ_2 => exact fun _ _ _ h => h
  case hw_2 => rfl
  case hy_2 => (intro w _; go_simp; try with_reducible rfl)
  try simp only [Act.put, List.setIfInBounds_toArray, List.set_cons_zero, List.set_cons_succ]
  refine anyZ_free (i := 2) (oi := ?oi_3) (v := ?v_3) ?hi_3 ?hs_3 ?hf_3 ?hr_3 ?hQ_3 (Or.inl ⟨?hw_3, ?hy_3⟩) ?hrest_3
  case hi_3 => (simp only [List.getElem?_toArray, List.getElem?_cons_succ, List.getElem?_cons_zero]; exact rfl)
  case hs_3 => kernel_rfl
  case hf_3 => kernel_rfl
  case hr_3 => kernel_rfl
  case hQ_3 => exact fun _ _ _ h => h
  case hw_3 => rfl
  case hy_3 => (intro w _; go_simp; try with_reducible rfl)
  try simp only [Act.put, List.setIfInBounds_toArray, List.set_cons_zero, List.set_cons_succ]
  refine anyZ_free (i := 3) (oi := ?oi_4) (v := ?v_4) ?hi_4 ?hs_4 ?hf_4 ?hr_4 ?hQ_4 (Or.inl ⟨?hw_4, ?hy_4⟩) ?hrest_4
  case hi_4 => (simp only [List.getElem?_toArray, List.getElem?_cons_succ, List.getElem?_cons_zero]; exact rfl)
  case hs_4 => kernel_rfl
  case hf_4 => kernel_rfl
  case hr_4 => kernel_rfl
  case hQ_4 => exact fun _ _ _ h => h
  case hw_4 => rfl
  case hy_4 => (intro w _; go_simp; try with_reducible rfl)
  try simp only [Act.put, List.setIfInBounds_toArray, List.set_cons_zero, List.set_cons_succ]
  refine anyZ_free (i := 4) (oi := ?oi_5) (v := ?v_5) ?hi_5 ?hs_5 ?hf_5 ?hr_5 ?hQ_5 (Or.inl ⟨?hw_5, ?hy_5⟩) ?hrest_5
  case hi_5 => (simp only [List.getElem?_toArray, List.getElem?_cons_succ, List.getElem?_cons_zero]; exact rfl)
  case hs_5 => kernel_rfl
  case hf_5 => kernel_rfl
  case hr_5 => kernel_rfl
  case hQ_5 => exact fun _ _ _ h => h
  case hw_5 => rfl
  case hy_5 => (intro w _; go_simp; try with_reducible rfl)
  try simp only [Act.put, List.setIfInBounds_toArray, List.set_cons_zero, List.set_cons_succ]
  refine anyZ_free (i := 5) (oi := ?oi_6) (v := ?v_6) ?hi_6 ?hs_6 ?hf_6 ?hr_6 ?hQ_6 (Or.inl ⟨?hw_6, ?hy_6⟩) ?hrest_6
  case hi_6 => (simp only [List.getElem?_toArray, List.getElem?_cons_succ, List.getElem?_cons_zero]; exact rfl)
  case hs_6 => kernel_rfl
  case hf_6 => kernel_rfl
  case hr_6 => kernel_rfl
  case hQ_6 => exact fun _ _ _ h => h
  case hw_6 => rfl
  case hy_6 => (intro w _; go_simp; try with_reducible rfl)
  try simp only [Act.put, List.setIfInBounds_toArray, List.set_cons_zero, List.set_cons_succ]
  refine anyZ_free (i := 6) (oi := ?oi_7) (v := ?v_7) ?hi_7 ?hs_7 ?hf_7 ?hr_7 ?hQ_7 (Or.inl ⟨?hw_7, ?hy_7⟩) ?hrest_7
  case hi_7 => (simp only [List.getElem?_toArray, List.getElem?_cons_succ, List.getElem?_cons_zero]; exact rfl)
  case hs_7 => kernel_rfl
  case hf_7 => kernel_rfl
  case hr_7 => kernel_rfl
  case hQ_7 => exact fun _ _ _ h => h
  case hw_7 => rfl
  case hy_7 => (intro w _; go_simp; try with_reducible rfl)
  try simp only [Act.put, List.setIfInBounds_toArray, List.set_cons_zero, List.set_cons_succ]
  refine anyZ_free (i := 7) (oi := ?oi_8) (v := ?v_8) ?hi_8 ?hs_8 ?hf_8 ?hr_8 ?hQ_8 (Or.inl ⟨?hw_8, ?hy_8⟩) ?hrest_8
  case hi_8 => (simp only [List.getElem?_toArray, List.getElem?_cons_succ, List.getElem?_cons_zero]; exact rfl)
  case hs_8 => kernel_rfl
  case hf_8 => kernel_rfl
  case hr_8 => kernel_rfl
  case hQ_8 => exact fun _ _ _ h => h
  case hw_8 => rfl
  case hy_8 => (intro w _; go_simp; try with_reducible rfl)
  try simp only [Act.put, List.setIfInBounds_toArray, List.set_cons_zero, List.set_cons_succ]
  refine anyZ_free (i := 8) (oi := ?oi_9) (v := ?v_9) ?hi_9 ?hs_9 ?hf_9 ?hr_9 ?hQ_9 (Or.inl ⟨?hw_9, ?hy_9⟩) ?hrest_9
  case hi_9 => (simp only [List.getElem?_toArray, List.getElem?_cons_succ, List.getElem?_cons_zero]; exact rfl)
  case hs_9 => kernel_rfl
  case hf_9 => kernel_rfl
  case hr_9 => kernel_rfl
  case hQ_9 => exact fun _ _ _ h => h
  case hw_9 => rfl
  case hy_9 => (intro w _; go_simp; try with_reducible rfl)
  try simp only [Act.put, List.setIfInBounds_toArray, List.set_cons_zero, List.set_cons_succ]
  refine anyZ_free (i := 9) (oi := ?oi_10) (v := ?v_10) ?hi_10 ?hs_10 ?hf_10 ?hr_10 ?hQ_10 (Or.inl ⟨?hw_10, ?hy_10⟩) ?hrest_10
  case hi_10 => (simp only [List.getElem?_toArray, List.getElem?_cons_succ, List.getElem?_cons_zero]; exact rfl)
  case hs_10 => kernel_rfl
  case hf_10 => kernel_rfl
  case hr_10 => kernel_rfl
  case hQ_10 => exact fun _ _ _ h => h
  case hw_10 => rfl
  case hy_10 => (intro w _; go_simp; try with_reducible rfl)
  try simp only [Act.put, List.setIfInBounds_toArray, List.set_cons_zero, List.set_cons_succ]
  refine anyZ_free (i := 10) (oi := ?oi_11) (v := ?v_11) ?hi_11 ?hs_11 ?hf_11 ?hr_11 ?hQ_11 (Or.inl ⟨?hw_11, ?hy_11⟩) ?hrest_11
  case hi_11 => (simp only [List.getElem?_toArray, List.getElem?_cons_succ, List.getElem?_cons_zero]; exact rfl)
  case hs_11 => kernel_rfl
  case hf_11 => kernel_rfl
  case hr_11 => kernel_rfl
  case hQ_11 => exact fun _ _ _ h => h
  case hw_11 => rfl
  case hy_11 => (intro w _; go_simp; try with_reducible rfl)
  try simp only [Act.put, List.setIfInBounds_toArray, List.set_cons_zero, List.set_cons_succ]
  refine anyZ_free (i := 11) (oi := ?oi_12) (v := ?v_12) ?hi_12 ?hs_12 ?hf_12 ?hr_12 ?hQ_12 (Or.inl ⟨?hw_12, ?hy_12⟩) ?hrest_12
  case hi_12 => (simp only [List.getElem?_toArray, List.getElem?_cons_succ, List.getElem?_cons_zero]; exact rfl)
  case hs_12 => kernel_rfl
  case hf_12 => kernel_rfl
  case hr_12 => kernel_rfl
  case hQ_12 => exact fun _ _ _ h => h
  case hw_12 => rfl
  case hy_12 => (intro w _; go_simp; try with_reducible rfl)
  try simp only [Act.put, List.setIfInBounds_toArray, List.set_cons_zero, List.set_cons_succ]
  refine anyZ_free (i := 12) (oi := ?oi_13) (v := ?v_13) ?hi_13 ?hs_13 ?hf_13 ?hr_13 ?hQ_13 (Or.inl ⟨?hw_13, ?hy_13⟩) ?hrest_13
  case hi_13 => (simp only [List.getElem?_toArray, List.getElem?_cons_succ, List.getElem?_cons_zero]; exact rfl)
  case hs_13 => kernel_rfl
  case hf_13 => kernel_rfl
  case hr_13 => kernel_rfl
  case hQ_13 => exact fun _ _ _ h => h
  case hw_13 => rfl
  case hy_13 => (intro w _; go_simp; try with_reducible rfl)
  try simp only [Act.put, List.setIfInBounds_toArray, List.set_cons_zero, List.set_cons_succ]
  refine anyZ_free (i := 13) (oi := ?oi_14) (v := ?v_14) ?hi_14 ?hs_14 ?hf_14 ?hr_14 ?hQ_14 (Or.inl ⟨?hw_14, ?hy_14⟩) ?hrest_14
  case hi_14 => (simp only [List.getElem?_toArray, List.getElem?_cons_succ, List.getElem?_cons_zero]; exact rfl)
  case hs_14 => kernel_rfl
  case hf_14 => kernel_rfl
  case hr_14 => kernel_rfl
  case hQ_14 => exact fun _ _ _ h => h
  case hw_14 => rfl
  case hy_14 => (intro w _; go_simp; try with_reducible rfl)
  try simp only [Act.put, List.setIfInBounds_toArray, List.set_cons_zero, List.set_cons_succ]
  refine anyZ_free (i := 14) (oi := ?oi_15) (v := ?v_15) ?hi_15 ?hs_15 ?hf_15 ?hr_15 ?hQ_15 (Or.inl ⟨?hw_15, ?hy_15⟩) ?hrest_15
  case hi_15 => (simp only [List.getElem?_toArray, List.getElem?_cons_succ, List.getElem?_cons_zero]; exact rfl)
  case hs_15 => kernel_rfl
  case hf_15 => kernel_rfl
  case hr_15 => kernel_rfl
  case hQ_15 => exact fun _ _ _ h => h
  case hw_15 => rfl
  case hy_15 => (intro w _; go_simp; try with_reducible rfl)
  try simp only [Act.put, List.setIfInBounds_toArray, List.set_cons_zero, List.set_cons_succ]
  refine anyZ_free (i := 17) (oi := ?oi_16) (v := ?v_16) ?hi_16 ?hs_16 ?hf_16 ?hr_16 ?hQ_16 (Or.inl ⟨?hw_16, ?hy_16⟩) ?hrest_16
  case hi_16 => (simp only [List.getElem?_toArray, List.getElem?_cons_succ, List.getElem?_cons_zero]; exact rfl)
  case hs_16 => kernel_rfl
  case hf_16 => kernel_rfl
  case hr_16 => kernel_rfl
  case hQ_16 => exact fun _ _ _ h => h
  case hw_16 => rfl
  case hy_16 => (intro w _; go_simp; try with_reducible rfl)
  try simp only [Act.put, List.setIfInBounds_toArray, List.set_cons_zero, List.set_cons_succ]
  refine anyZ_free (i := 18) (oi := ?oi_17) (v := ?v_17) ?hi_17 ?hs_17 ?hf_17 ?hr_17 ?hQ_17 (Or.inl ⟨?hw_17, ?hy_17⟩) ?hrest_17
  case hi_17 => (simp only [List.getElem?_toArray, List.getElem?_cons_succ, List.getElem?_cons_zero]; exact rfl)
  case hs_17 => kernel_rfl
  case hf_17 => kernel_rfl
  case hr_17 => kernel_rfl
  case hQ_17 => exact fun _ _ _ h => h
  case hw_17 => rfl
  case hy_17 => (intro w _; go_simp; try with_reducible rfl)
  try simp only [Act.put, List.setIfInBounds_toArray, List.set_cons_zero, List.set_cons_succ]
  refine anyZ_free (i := 19) (oi := ?oi_18) (v := ?v_18) ?hi_18 ?hs_18 ?hf_18 ?hr_18 ?hQ_18 (Or.inl ⟨?hw_18, ?hy_18⟩) ?hrest_18
  case hi_18 => (simp only [List.getElem?_toArray, List.getElem?_cons_succ, List.getElem?_cons_zero]; exact rfl)
  case hs_18 => kernel_rfl
  case hf_18 => kernel_rfl
  case hr_18 => kernel_rfl
  case hQ_18 => exact fun _ _ _ h => h
  case hw_18 => rfl
  case hy_18 => (intro w _; go_simp; try with_reducible rfl)
  try simp only [Act.put, List.setIfInBounds_toArray, List.set_cons_zero, List.set_cons_succ]
  refine anyZ_free (i := 20) (oi := ?oi_19) (v := ?v_19) ?hi_19 ?hs_19 ?hf_19 ?hr_19 ?hQ_19 (Or.inl ⟨?hw_19, ?hy_19⟩) ?hrest_19
  case hi_19 => (simp only [List.getElem?_toArray, List.getElem?_cons_succ, List.getElem?_cons_zero]; exact rfl)
  case hs_19 => kernel_rfl
  case hf_19 => kernel_rfl
  case hr_19 => kernel_rfl
  case hQ_19 => exact fun _ _ _ h => h
  case hw_19 => rfl
  case hy_19 => (intro w _; go_simp; try with_reducible rfl)
  try simp only [Act.put, List.setIfInBounds_toArray, List.set_cons_zero, List.set_cons_succ]
  refine anyZ_take (i := 21) (oi := ?oi_20) (v := ?v_20) ?hi_20 ?hz_20 ?hs_20 ?hf_20 ?hr_20 ?hQ_20 (Or.inl ⟨?hw_20, ?hy_20⟩) ?hS_20 ?hrest_20
  case hi_20 => (simp only [List.getElem?_toArray, List.getElem?_cons_succ, List.getElem?_cons_zero]; exact rfl)
  case hz_20 => kernel_rfl
  case hs_20 => kernel_rfl
  case hf_20 => kernel_rfl
  case hr_20 => kernel_rfl
  case hQ_20 => exact fun _ _ _ h => h
  case hw_20 => rfl
  case hS_20 => assumption
  case hy_20 => (intro w hSw; (try dsimp only at hSw); go_simp; try with_reducible rfl)
  try simp only [Act.put, List.setIfInBounds_toArray, List.set_cons_zero, List.set_cons_succ]
  refine anyZ_ready (rs := [15]) (by kernel_rfl) (by simp) ?_
  refine (AllZ.cons (o := ?o_21) ?ho_21 (fun K hK => ?st_21) AllZ.nil)
  case ho_21 => (simp only [List.getElem?_toArray, List.getElem?_cons_succ, List.getElem?_cons_zero]; exact rfl)
  case st_21 =>
    go_simp
    (go_at_call 17; with_reducible refine cb1.mono ?_; rintro e W7 ⟨g7, d7, rfl, lg7, t7, hd7, hv7, b7⟩; have e7 := v2.out W7 g7 d7 t7 hd7 hv7)
    refine hK.out _ _ (by ((try dsimp only); (first | exact vk.out _ ((Below.refl _ _).drew) | exact vk.out _ (((Below.refl _ _).drew).trans b7)))) (fun hHeld => ?_)
    clear hK K
    try simp only [Act.put, List.setIfInBounds_toArray, List.set_cons_zero, List.set_cons_succ]
    refine anyZ_ready (rs := [16]) (by kernel_rfl) (by simp) ?_
    refine (AllZ.cons (o := ?o_22) ?ho_22 (fun K hK => ?st_22) AllZ.nil)
    case ho_22 => (simp only [List.getElem?_toArray, List.getElem?_cons_succ, List.getElem?_cons_zero]; exact rfl)
    case st_22 =>
      go_simp
      refine hK.out _ _ (by ((try dsimp only); (first | exact vk.out _ ((Below.refl _ _).drew) | exact vk.out _ (((Below.refl _ _).drew).trans b7)))) (fun hHeld => ?_)
      clear hK K
      try simp only [Act.put, List.setIfInBounds_toArray, List.set_cons_zero, List.set_cons_succ]
      refine anyZ_free (i := 22) (oi := ?oi_23) (v := ?v_23) ?hi_23 ?hs_23 ?hf_23 ?hr_23 ?hQ_23 (Or.inl ⟨?hw_23, ?hy_23⟩) ?hrest_23
      case hi_23 => (simp only [List.getElem?_toArray, List.getElem?_cons_succ, List.getElem?_cons_zero]; exact rfl)
      case hs_23 => kernel_rfl
      case hf_23 => kernel_rfl
      case hr_23 => kernel_rfl
      case hQ_23 => exact fun _ _ _ h => h
      case hw_23 => rfl
      case hy_23 => (intro w _; go_simp; try with_reducible rfl)
      try simp only [Act.put, List.setIfInBounds_toArray, List.set_cons_zero, List.set_cons_succ]
      refine anyZ_free (i := 23) (oi := ?oi_24) (v := ?v_24) ?hi_24 ?hs_24 ?hf_24 ?hr_24 ?hQ_24 (Or.inl ⟨?hw_24, ?hy_24⟩) ?hrest_24
      case hi_24 => (simp only [List.getElem?_toArray, List.getElem?_cons_succ, List.getElem?_cons_zero]; exact rfl)
      case hs_24 => kernel_rfl
      case hf_24 => kernel_rfl
      case hr_24 => kernel_rfl
      case hQ_24 => exact fun _ _ _ h => h
      case hw_24 => rfl
      case hy_24 => (intro w _; go_simp; try with_reducible rfl)
      try simp only [Act.put, List.setIfInBounds_toArray, List.set_cons_zero, List.set_cons_succ]
      refine anyZ_free (i := 24) (oi := ?oi_25) (v := ?v_25) ?hi_25 ?hs_25 ?hf_25 ?hr_25 ?hQ_25 (Or.inl ⟨?hw_25, ?hy_25⟩) ?hrest_25
      case hi_25 => (simp only [List.getElem?_toArray, List.getElem?_cons_succ, List.getElem?_cons_zero]; exact rfl)
      case hs_25 => kernel_rfl
      case hf_25 => kernel_rfl
      case hr_25 => kernel_rfl
      case hQ_25 => exact fun _ _ _ h => h
      case hw_25 => rfl
      case hy_25 => (intro w _; go_simp; try with_reducible rfl)
      try simp only [Act.put, List.setIfInBounds_toArray, List.set_cons_zero, List.set_cons_succ]
      refine anyZ_free (i := 25) (oi := ?oi_26) (v := ?v_26) ?hi_26 ?hs_26 ?hf_26 ?hr_26 ?hQ_26 (Or.inl ⟨?hw_26, ?hy_26⟩) ?hrest_26
      case hi_26 => (simp only [List.getElem?_toArray, List.getElem?_cons_succ, List.getElem?_cons_zero]; exact rfl)
      case hs_26 => kernel_rfl
      case hf_26 => kernel_rfl
      case hr_26 => kernel_rfl
      case hQ_26 => exact fun _ _ _ h => h
      case hw_26 => rfl
      case hy_26 => (intro w _; go_simp; try with_reducible rfl)
      try simp only [Act.put, List.setIfInBounds_toArray, List.set_cons_zero, List.set_cons_succ]
      refine anyZ_take (i := 26) (oi := ?oi_27) (v := ?v_27) ?hi_27 ?hz_27 ?hs_27 ?hf_27 ?hr_27 ?hQ_27 (Or.inl ⟨?hw_27, ?hy_27⟩) ?hS_27 ?hrest_27
      case hi_27 => (simp only [List.getElem?_toArray, List.getElem?_cons_succ, List.getElem?_cons_zero]; exact rfl)
      case hz_27 => kernel_rfl
      case hs_27 => kernel_rfl
      case hf_27 => kernel_rfl
      case hr_27 => kernel_rfl
      case hQ_27 => exact fun _ _ _ h => h
      case hw_27 => rfl
      case hS_27 => assumption
      case hy_27 => (intro w hSw; (try dsimp only at hSw); go_simp; try with_reducible rfl)
      try simp only [Act.put, List.setIfInBounds_toArray, List.set_cons_zero, List.set_cons_succ]
      refine anyZ_free (i := 27) (oi := ?oi_28) (v := ?v_28) ?hi_28 ?hs_28 ?hf_28 ?hr_28 ?hQ_28 (Or.inl ⟨?hw_28, ?hy_28⟩) ?hrest_28
      case hi_28 => (simp only [List.getElem?_toArray, List.getElem?_cons_succ, List.getElem?_cons_zero]; exact rfl)
      case hs_28 => kernel_rfl
      case hf_28 => kernel_rfl
      case hr_28 => kernel_rfl
      case hQ_28 => exact fun _ _ _ h => h
      case hw_28 => rfl
      case hy_28 => (intro w _; go_simp; try with_reducible rfl)
      try simp only [Act.put, List.setIfInBounds_toArray, List.set_cons_zero, List.set_cons_succ]
      refine anyZ_take (i := 28) (oi := ?oi_29) (v := ?v_29) ?hi_29 ?hz_29 ?hs_29 ?hf_29 ?hr_29 ?hQ_29 (Or.inl ⟨?hw_29, ?hy_29⟩) ?hS_29 ?hrest_29
      case hi_29 => (simp only [List.getElem?_toArray, List.getElem?_cons_succ, List.getElem?_cons_zero]; exact rfl)
      case hz_29 => kernel_rfl
      case hs_29 => kernel_rfl
      case hf_29 => kernel_rfl
      case hr_29 => kernel_rfl
      case hQ_29 => exact fun _ _ _ h => h
      case hw_29 => rfl
      case hS_29 => assumption
      case hy_29 => (intro w hSw; (try dsimp only at hSw); go_simp; try with_reducible rfl)
      try simp only [Act.put, List.setIfInBounds_toArray, List.set_cons_zero, List.set_cons_succ]
      refine anyZ_free (i := 29) (oi := ?oi_30) (v := ?v_30) ?hi_30 ?hs_30 ?hf_30 ?hr_30 ?hQ_30 (Or.inl ⟨?hw_30, ?hy_30⟩) ?hrest_30
      case hi_30 => (simp only [List.getElem?_toArray, List.getElem?_cons_succ, List.getElem?_cons_zero]; exact rfl)
      case hs_30 => kernel_rfl
      case hf_30 => kernel_rfl
      case hr_30 => kernel_rfl
      case hQ_30 => exact fun _ _ _ h => h
      case hw_30 => rfl
      case hy_30 => (intro w _; go_simp; try with_reducible rfl)
      try simp only [Act.put, List.setIfInBounds_toArray, List.set_cons_zero, List.set_cons_succ]
      refine anyZ_free (i := 30) (oi := ?oi_31) (v := ?v_31) ?hi_31 ?hs_31 ?hf_31 ?hr_31 ?hQ_31 (Or.inl ⟨?hw_31, ?hy_31⟩) ?hrest_31
      case hi_31 => (simp only [List.getElem?_toArray, List.getElem?_cons_succ, List.getElem?_cons_zero]; exact rfl)
      case hs_31 => kernel_rfl
      case hf_31 => kernel_rfl
      case hr_31 => kernel_rfl
      case hQ_31 => exact fun _ _ _ h => h
      case hw_31 => rfl
      case hy_31 => (intro w _; go_simp; try with_reducible rfl)
      try simp only [Act.put, List.setIfInBounds_toArray, List.set_cons_zero, List.set_cons_succ]
      refine anyZ_free (i := 31) (oi := ?oi_32) (v := ?v_32) ?hi_32 ?hs_32 ?hf_32 ?hr_32 ?hQ_32 (Or.inl ⟨?hw_32, ?hy_32⟩) ?hrest_32
      case hi_32 => (simp only [List.getElem?_toArray, List.getElem?_cons_succ, List.getElem?_cons_zero]; exact rfl)
      case hs_32 => kernel_rfl
      case hf_32 => kernel_rfl
      case hr_32 => kernel_rfl
      case hQ_32 => exact fun _ _ _ h => h
      case hw_32 => rfl
      case hy_32 => (intro w _; go_simp; try with_reducible rfl)
      try simp only [Act.put, List.setIfInBounds_toArray, List.set_cons_zero, List.set_cons_succ]
      refine anyZ_done (by kernel_rfl) ?_ _
      refine NoPanic.normal ?_
      have hB7 : Below w.heap.size w W7 := below_via b7 hBd l5
      clear v2 vk hHeld t7 hd7 hv7 e7 cb1
      go_wp2
      go_ret
      exact ⟨rfl, hB7⟩

theorem cipherBack_walk (a : Option Addr) (n c : Nat) (zs : List Int) (b : Option Addr) (m d : Nat) (ys : List Int) (a1 : Option Addr) (n1 c1 : Nat) (zs1 : List Int) (a2 : Option Addr) (n2 c2 : Nat) (zs2 : List Int) (x y : Int) (w : World) (h : IsRow .u8 w a n c zs) (h2 : IsRow .u8 w b m d ys) (h3 : IsRow .u8 w a1 n1 c1 zs1) (h4 : IsRow .u8 w a2 n2 c2 zs2) (hx : (Lit.int .i64 x).wf = true) (hy : (Lit.int .u8 y).wf = true) (hT : Tabs w) :
    Calls Tryd.prog 7 #[.slice a n c, .slice b m d, .slice a1 n1 c1, .slice a2 n2 c2, .int .i64 x, .int .u8 y] w fun e w' => e = .returned (.bool true) ∧ Below w.heap.size w w' := by
  obtain ⟨z, hz, hS, g1, _⟩ := src_of_isRow h
  obtain ⟨yn, hyn, hS2, g2, _⟩ := src_of_isRow h2
  obtain ⟨z1, hz1, hS3, _, _⟩ := src_of_isRow h3
  obtain ⟨z2, hz2, hS4, g4, _⟩ := src_of_isRow h4
  obtain ⟨e, rfl, hb⟩ : ∃ k : Nat, y = (k : Int) ∧ k < 256 := by
    have := bounds_u8 hy
    exact ⟨y.toNat, by omega, by omega⟩
  have hu := upW w hT
  by_cases hok : n = 32 ∧ m = 12
  · by_cases hl1 : 500 < n1
    · exact back_long1 a b a1 a2 n m c d n1 c1 n2 c2 x e hok.1 hok.2 hl1 w hu
    · by_cases hl2 : 500 < n2
      · exact back_long2 a b a1 a2 n m c d n1 c1 n2 c2 x e hok.1 hok.2 (by omega) hl2 w hu
      · obtain ⟨rfl, rfl⟩ := hok
        obtain ⟨b1, o1, rfl, y1⟩ := hS.some (by decide)
        obtain ⟨b2, o2, rfl, y2⟩ := hS2.some (by decide)
        by_cases hs : (e : Int) = 0 ∨ x < 0 ∨ (n2 : Int) + 16 ≤ x
        · exact back_stop b1 o1 c b2 o2 d c1 n1 c2 n2 g1 g2 (by omega) (by omega) z yn z1 z2 hz hyn hz1 hz2 a1 a2 w hT y1 y2 hS3 hS4 x e hs hu
        · obtain ⟨k, rfl⟩ : ∃ k : Nat, x = (k : Int) := ⟨x.toNat, by omega⟩
          by_cases hop : Opens z yn z1 n1 (turned z yn z1 n1 z2 n2 k e) n2
          · exact back_ok b1 o1 c b2 o2 d c1 n1 c2 n2 g1 g2 (by omega) (by omega) z yn z1 z2 hz hyn hz1 hz2 a1 a2 w hT y1 y2 hS3 hS4 k e (by omega) hb (by omega) hop hu
          · exact back_bad b1 o1 c b2 o2 d c1 n1 c2 n2 g1 g2 (by omega) (by omega) z yn z1 z2 hz hyn hz1 hz2 a1 a2 w hT y1 y2 hS3 hS4 k e (by omega) hb (by omega) hop hu
  · exact back_no a b a1 a2 n m c d n1 c1 n2 c2 x e hok w hu
end Go.Proofs.YtdaonbfdcpkipaaDoor
