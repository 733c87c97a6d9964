/-
  The walks of package edwards: the points of one Y, a point's bytes.
-/
import Derived.Test.YtoigpjaffggekabDoorEdX
import Derived.Test.YtoigpjaffggekabDoorEdR
import Derived.Test.YtoigpjaffggekabDoorRootW
import Derived.Test.YtoigpjaffggekabDoorWordsW
import Derived.Laws.BitsAllLaws
namespace Go.Proofs.YtoigpjaffggekabDoor
open Go.RowKit Go.Proofs
set_option linter.unusedVariables false
set_option linter.unusedSimpArgs false
attribute [local go_sem ↓] Go.wp_at_zero Go.wp_at_succ

theorem TabOk.below {w w1 : World} {B : Nat} (h : TabOk w) (hb : Below B w w1) (hB : 0 < B) : TabOk w1 := by
  unfold TabOk at *
  rw [(bcell hb).1 _ _ hB]
  exact h
theorem TabOk.lt {w : World} (h : TabOk w) : 0 < w.heap.size := by
  have := World.block_lt_of_cell? _ _ h
  simpa using this

/-! The points of one Y -/

set_option maxHeartbeats 1000000 in
theorem eat_core (y q a b c s x : Int) (er : Value) (xv yv : Int) (w : World)
   (c0 : ∀ w, Calls Tryd.prog 27 #[.int .u64 y, .int .u64 y] w fun e w' => e = .returned (.int .u64 q) ∧ ∃ n, w' = w.drewN n)
   (c1 : ∀ w, Calls Tryd.prog 28 #[.int .u64 q, .int .u64 1] w fun e w' => e = .returned (.int .u64 a) ∧ w = w')
   (c2 : ∀ w, Calls Tryd.prog 27 #[.int .u64 439, .int .u64 q] w fun e w' => e = .returned (.int .u64 b) ∧ ∃ n, w' = w.drewN n)
   (c3 : ∀ w, Calls Tryd.prog 29 #[.int .u64 b, .int .u64 1] w fun e w' => e = .returned (.int .u64 c) ∧ w = w')
   (c4 : ∀ w, Calls Tryd.prog 30 #[.int .u64 a, .int .u64 c] w fun e w' => e = .returned (.int .u64 s) ∧ ∃ n, w' = w.drewN n)
   (c5 : ∀ w1, Below w.heap.size w w1 → Calls Tryd.prog 33 #[.int .u64 s] w1 fun e w' => e = .returned (.tuple #[.int .u64 x, er]) ∧ ∃ n, w' = w1.drewN n)
   (her : (er = .nilIface ∧ xv = x ∧ yv = y) ∨ (er = .iface 49 (.int .i64 2) ∧ xv = 0 ∧ yv = 0)) :
    Calls Tryd.prog 23 #[.int .u64 y] w fun e w' => e = .returned (.tuple #[.agg #[.int .u64 xv, .int .u64 yv], er]) ∧ Below w.heap.size w w' := by
  rcases her with ⟨rfl, rfl, rfl⟩ | ⟨rfl, rfl, rfl⟩
  · go_enter Tryd.func23, Tryd.ntmps23
    go_wp2_with (first | (first | (go_at_call 27; first | (with_reducible refine (c0 _).mono ?_; rintro e w' ⟨rfl, nd, rfl⟩) | (with_reducible refine (c2 _).mono ?_; rintro e w' ⟨rfl, nd, rfl⟩)) | (go_at_call 28; first | (with_reducible refine (c1 _).mono ?_; rintro e w' ⟨rfl, rfl⟩)) | (go_at_call 29; first | (with_reducible refine (c3 _).mono ?_; rintro e w' ⟨rfl, rfl⟩)) | (go_at_call 30; first | (with_reducible refine (c4 _).mono ?_; rintro e w' ⟨rfl, nd, rfl⟩))) | (go_at_call 33; with_reducible refine (c5 _ (by (repeat' (first | (with_reducible first | exact Below.refl _ _ | assumption | refine Below.alloc ?_ ?_ _ | refine Below.drew ?_ | refine below_drewN ?_ _ | refine Below.setCell ?_ ?_ _ | refine below_via (by with_reducible assumption) ?_ ?_) | omega | (simp only [szs]; omega) | (simp only [szs] at *; omega))))).mono ?_; rintro e w' ⟨rfl, nd, rfl⟩))
    exact bodyPost_ret (v := .tuple #[.agg #[.int .u64 xv, .int .u64 yv], .nilIface]) (by simp [results, Tryd.results23, go_sem, *]) rfl ⟨rfl, by (repeat' (first | (with_reducible first | exact Below.refl _ _ | assumption | refine Below.alloc ?_ ?_ _ | refine Below.drew ?_ | refine below_drewN ?_ _ | refine Below.setCell ?_ ?_ _ | refine below_via (by with_reducible assumption) ?_ ?_) | omega | (simp only [szs]; omega) | (simp only [szs] at *; omega)))⟩
  · go_enter Tryd.func23, Tryd.ntmps23
    go_wp2_with (first | (first | (go_at_call 27; first | (with_reducible refine (c0 _).mono ?_; rintro e w' ⟨rfl, nd, rfl⟩) | (with_reducible refine (c2 _).mono ?_; rintro e w' ⟨rfl, nd, rfl⟩)) | (go_at_call 28; first | (with_reducible refine (c1 _).mono ?_; rintro e w' ⟨rfl, rfl⟩)) | (go_at_call 29; first | (with_reducible refine (c3 _).mono ?_; rintro e w' ⟨rfl, rfl⟩)) | (go_at_call 30; first | (with_reducible refine (c4 _).mono ?_; rintro e w' ⟨rfl, nd, rfl⟩))) | (go_at_call 33; with_reducible refine (c5 _ (by (repeat' (first | (with_reducible first | exact Below.refl _ _ | assumption | refine Below.alloc ?_ ?_ _ | refine Below.drew ?_ | refine below_drewN ?_ _ | refine Below.setCell ?_ ?_ _ | refine below_via (by with_reducible assumption) ?_ ?_) | omega | (simp only [szs]; omega) | (simp only [szs] at *; omega))))).mono ?_; rintro e w' ⟨rfl, nd, rfl⟩))
    exact bodyPost_ret (v := .tuple #[.agg #[.int .u64 0, .int .u64 0], .iface 49 (.int .i64 2)]) (by simp [results, Tryd.results23, go_sem, *]) rfl ⟨rfl, by (repeat' (first | (with_reducible first | exact Below.refl _ _ | assumption | refine Below.alloc ?_ ?_ _ | refine Below.drew ?_ | refine below_drewN ?_ _ | refine Below.setCell ?_ ?_ _ | refine below_via (by with_reducible assumption) ?_ ?_) | omega | (simp only [szs]; omega) | (simp only [szs] at *; omega)))⟩
theorem gsqr_code (y : Fin Ob.RE) : (y * y - 1) * Ob.ginv (439 * (y * y) + 1) = Ob.gsqr y := by
  have e : 439 * (y * y) + 1 = 1 + 439 * (y * y) := by generalize (439 : Fin Ob.RE) = d; grobner
  rw [e]; rfl
theorem eatW_pre (y : Nat) (hy : y < 18446744073709551616) (x : Int) (er : Value) (xv yv : Int) (w : World)
   (c5 : ∀ w1, Below w.heap.size w w1 → Calls Tryd.prog 33 #[.int .u64 ((Ob.gsqr (Ob.toG y)).val : Nat)] w1 fun e w' => e = .returned (.tuple #[.int .u64 x, er]) ∧ ∃ n, w' = w1.drewN n)
   (her : (er = .nilIface ∧ xv = x ∧ yv = y) ∨ (er = .iface 49 (.int .i64 2) ∧ xv = 0 ∧ yv = 0)) :
    Calls Tryd.prog 23 #[.int .u64 y] w fun e w' => e = .returned (.tuple #[.agg #[.int .u64 xv, .int .u64 yv], er]) ∧ Below w.heap.size w w' := by
  have c1 := eminusW (Ob.toG y * Ob.toG y).val 1 (Ob.G_word _) (by decide)
  have c2 := etimesW 439 (Ob.toG y * Ob.toG y).val (by decide) (Ob.G_word _)
  have c3 := eplusW (439 * (Ob.toG y * Ob.toG y)).val 1 (Ob.G_word _) (by decide)
  rw [Ob.toG_of_val] at c1 c2 c3
  have hd : 439 * (Ob.toG y * Ob.toG y) + Ob.toG 1 ≠ 0 := by
    rw [Ob.toG_1]
    have := Ob.gsqr_den (Ob.toG y)
    generalize (439 : Fin Ob.RE) = d at *
    intro e; apply this; grobner
  have c4 := eoverF (Ob.toG y * Ob.toG y - Ob.toG 1) (439 * (Ob.toG y * Ob.toG y) + Ob.toG 1) hd
  rw [Ob.toG_1] at c4
  rw [gsqr_code] at c4
  exact eat_core y _ _ _ _ _ x er xv yv w (etimesW y y hy hy) c1 c2 c3 c4 c5 her
/-- A Y that a point has. -/
theorem eat_yes (y : Nat) (hy : y < 18446744073709551616) (hs : Ob.Sq (Ob.gsqr (Ob.toG y)).val) (w : World) (hT : TabOk w) :
    Calls Tryd.prog 23 #[.int .u64 y] w fun e w' => e = .returned (.tuple #[.agg #[.int .u64 (Ob.rtX y : Nat), .int .u64 y], .nilIface]) ∧ Below w.heap.size w w' :=
  eatW_pre y hy _ _ _ _ w (fun w1 hb => root_yes _ w1 (hT.below hb hT.lt) (Ob.G_word _) hs) (Or.inl ⟨rfl, rfl, rfl⟩)
/-- One that none has. -/
theorem eat_no (y : Nat) (hy : y < 18446744073709551616) (hs : ¬ Ob.Sq (Ob.gsqr (Ob.toG y)).val) (w : World) :
    Calls Tryd.prog 23 #[.int .u64 y] w fun e w' => e = .returned (.tuple #[.agg #[.int .u64 0, .int .u64 0], .iface 49 (.int .i64 2)]) ∧ Below w.heap.size w w' :=
  eatW_pre y hy _ _ _ _ w (fun w1 hb => root_no _ w1 (Ob.G_word _) hs) (Or.inr ⟨rfl, rfl, rfl⟩)

/-! Bytes -/

theorem eoddW (n : Nat) (hn : n < 18446744073709551616) (w : World) :
    Calls Tryd.prog 24 #[.int .u64 n] w fun e w' => e = .returned (.bool (decide (n % 2 = 1))) ∧ w = w' := by
  have hand := and_one n hn
  by_cases h : n % 2 = 1
  · rw [h] at hand
    rw [decide_eq_true h]
    clear h
    go_enter Tryd.func24, Tryd.ntmps24
    go_wp2
    go_ret
    exact ⟨rfl, rfl⟩
  · rw [show n % 2 = 0 by omega] at hand
    rw [decide_eq_false h]
    clear h
    go_enter Tryd.func24, Tryd.ntmps24
    go_wp2
    go_ret
    exact ⟨rfl, rfl⟩
theorem or_top (y : Nat) (hy : y < 9223372036854775808) : bits .or .u64 (y : Int) 9223372036854775808 = ((y + 9223372036854775808 : Nat) : Int) := by
  have h := bits_or_u64_nat y 9223372036854775808 (by omega) (by omega)
  have e : y ||| 9223372036854775808 = y + 9223372036854775808 := by
    have := Nat.two_pow_add_eq_or_of_lt (i := 63) (show y < 2 ^ 63 from hy) 1
    rw [Nat.mul_one] at this
    rw [Nat.or_comm, show (9223372036854775808 : Nat) = 2 ^ 63 from rfl, ← this, Nat.add_comm]
  rw [e] at h
  exact h
theorem andNot_top (n : Nat) (hn : n < 18446744073709551616) : bits .andNot .u64 (n : Int) 9223372036854775808 = ((Ob.lowY n : Nat) : Int) := by
  have h := u64_andNot_nat n 9223372036854775808 hn (by omega)
  have e : n &&& (18446744073709551615 - 9223372036854775808) = Ob.lowY n := Nat.and_two_pow_sub_one_eq_mod n 63
  rw [e] at h
  exact h
theorem and_top (n : Nat) (hn : n < 18446744073709551616) : bits .and .u64 (n : Int) 9223372036854775808 = ((9223372036854775808 * Ob.topO n : Nat) : Int) := by
  have h := bits_and_u64_nat n 9223372036854775808 hn (by omega)
  have e : n &&& 9223372036854775808 = 9223372036854775808 * Ob.topO n := by
    have ho : Ob.topO n < 2 := by unfold Ob.topO; omega
    have hl : Ob.lowY n < 2 ^ 63 := by unfold Ob.lowY; omega
    rcases (show Ob.topO n = 0 ∨ Ob.topO n = 1 by omega) with h | h
    · have e1 : n = Ob.lowY n := by unfold Ob.topO Ob.lowY at *; omega
      rw [h, e1]
      apply Nat.eq_of_testBit_eq
      intro i
      rw [Nat.testBit_and, show (9223372036854775808 : Nat) = 2 ^ 63 from rfl, Nat.testBit_two_pow]
      by_cases hi : 63 = i
      · subst hi; rw [Nat.testBit_lt_two_pow hl]; simp
      · simp [hi]
    · have e1 : n = 2 ^ 63 * 1 ||| Ob.lowY n := by
        rw [← Nat.two_pow_add_eq_or_of_lt (i := 63) hl 1]
        unfold Ob.topO Ob.lowY at *; omega
      rw [h]
      conv => lhs; rw [e1]
      apply Nat.eq_of_testBit_eq
      intro i
      rw [Nat.testBit_and, Nat.testBit_or, Nat.mul_one, show (9223372036854775808 : Nat) = 2 ^ 63 from rfl, Nat.testBit_two_pow]
      by_cases hi : 63 = i
      · subst hi; simp
      · simp [hi]
  rw [e] at h
  exact h

theorem one_lt (n : Nat) (hn : n < 18446744073709551616) (i : Nat) : (fun _ : Nat => n) i < 18446744073709551616 := hn
theorem byteOf_one (n i : Nat) (hi : i < 8) : byteOf (fun _ => n) i = Ob.byteAt n i := by
  unfold byteOf
  have : i % 8 = i := by omega
  rw [this]
theorem one_cell (W : World) (n : Nat) (t : TypeId) : ∀ i, i < 1 → (W.alloc (.cells #[.int .u64 n] t)).cell? ⟨W.heap.size, 0 + i, none⟩ = some (.int .u64 ((fun _ : Nat => n) i : Nat)) := by
  intro i hi
  obtain rfl : i = 0 := by omega
  simp [go_sem]
set_option maxHeartbeats 1000000 in
theorem ewrite_core (x y n : Nat) (o : Bool) (hn : n < 18446744073709551616) (w : World)
   (c0 : ∀ w, Calls Tryd.prog 15 #[.agg #[.int .u64 x, .int .u64 y]] w fun e w' => e = .returned (.bool true) ∧ Below w.heap.size w w')
   (c1 : ∀ w, Calls Tryd.prog 24 #[.int .u64 x] w fun e w' => e = .returned (.bool o) ∧ w = w')
   (ho : (o = true ∧ bits .or .u64 (y : Int) 9223372036854775808 = (n : Int)) ∨ (o = false ∧ n = y)) :
    Calls Tryd.prog 12 #[.agg #[.int .u64 x, .int .u64 y]] w fun e w' => ∃ g, e = .returned (.tuple #[.slice (some ⟨g, 0, none⟩) 8 8, .nilIface]) ∧ w.heap.size ≤ g ∧ w'.ownsRow g 5 1 (.slice (some ⟨g, 0, none⟩) 8 8) 8 (vals (Ob.byteAt n) 8) ∧ Below w.heap.size w w' := by
  have ev := vals_congr (byteOf fun _ => n) (Ob.byteAt n) 8 (fun i hi => byteOf_one n i hi)
  have c2 := fun (W : World) => bytesW W.heap.size 0 1 1 (fun _ => n) (one_lt n hn) (W.alloc (.cells #[.int .u64 n] 22)) (by decide) (one_cell W n _) (by simp)
  rw [show 8 * 1 = 8 from rfl, ev] at c2
  clear ev
  rcases ho with ⟨rfl, hb⟩ | ⟨rfl, rfl⟩
  · go_enter Tryd.func12, Tryd.ntmps12
    go_wp2_with (first | (first | (go_at_call 15; first | (with_reducible refine (c0 _).mono ?_; rintro e w_c0 ⟨rfl, b_c0⟩; have z_c0 := b_c0.size; (try simp only [szs] at z_c0); (try (have q_c0_0 := own2 b_c0 (w.heap.size) (by first | omega | (simp only [szs]; omega)))))) | (go_at_call 24; first | (with_reducible refine (c1 _).mono ?_; rintro e w' ⟨rfl, rfl⟩))) | (go_at_call 25; with_reducible refine (c2 _).mono ?_; rintro e W2 ⟨rfl, o2, b2⟩; have z2 := b2.size; simp only [szs] at z2))
    go_ret2
    simp only [World.size_alloc] at o2 b2
    exact ⟨_, rfl, by omega, o2, by (repeat' (first | (with_reducible first | exact Below.refl _ _ | assumption | refine Below.alloc ?_ ?_ _ | refine Below.drew ?_ | refine below_drewN ?_ _ | refine Below.setCell ?_ ?_ _ | refine below_via (by with_reducible assumption) ?_ ?_) | omega | (simp only [szs]; omega) | (simp only [szs] at *; omega)))⟩
  · go_enter Tryd.func12, Tryd.ntmps12
    go_wp2_with (first | (first | (go_at_call 15; first | (with_reducible refine (c0 _).mono ?_; rintro e w_c0 ⟨rfl, b_c0⟩; have z_c0 := b_c0.size; (try simp only [szs] at z_c0); (try (have q_c0_0 := own2 b_c0 (w.heap.size) (by first | omega | (simp only [szs]; omega)))))) | (go_at_call 24; first | (with_reducible refine (c1 _).mono ?_; rintro e w' ⟨rfl, rfl⟩))) | (go_at_call 25; with_reducible refine (c2 _).mono ?_; rintro e W2 ⟨rfl, o2, b2⟩; have z2 := b2.size; simp only [szs] at z2))
    go_ret2
    simp only [World.size_alloc] at o2 b2
    exact ⟨_, rfl, by omega, o2, by (repeat' (first | (with_reducible first | exact Below.refl _ _ | assumption | refine Below.alloc ?_ ?_ _ | refine Below.drew ?_ | refine below_drewN ?_ _ | refine Below.setCell ?_ ?_ _ | refine below_via (by with_reducible assumption) ?_ ?_) | omega | (simp only [szs]; omega) | (simp only [szs] at *; omega)))⟩
theorem ewriteW {u : Ob.Ep} (hu : Ob.onG u) (w : World) :
    Calls Tryd.prog 12 #[edV u] w fun e w' => ∃ g, e = .returned (.tuple #[.slice (some ⟨g, 0, none⟩) 8 8, .nilIface]) ∧ w.heap.size ≤ g ∧ w'.ownsRow g 5 1 (.slice (some ⟨g, 0, none⟩) 8 8) 8 (vals (Ob.byteAt (Ob.edN u)) 8) ∧ Below w.heap.size w w' := by
  have c0 := eisW u.1.val u.2.val (Ob.G_word _) (Ob.G_word _)
  rw [Ob.on_isG hu] at c0
  refine ewrite_core u.1.val u.2.val (Ob.edN u) _ (Ob.edN_lt u) w c0 (eoddW u.1.val (Ob.G_word _)) ?_
  by_cases h : u.1.val % 2 = 1
  · refine Or.inl ⟨decide_eq_true h, ?_⟩
    rw [or_top _ (Nat.lt_trans (Ob.RE_small u.2) (by decide)), Ob.edN, if_pos h]
  · exact Or.inr ⟨decide_eq_false h, by rw [Ob.edN, if_neg h]⟩
set_option maxHeartbeats 1000000 in
theorem ewrite_no (x y : Int) (w : World)
   (c0 : ∀ w, Calls Tryd.prog 15 #[.agg #[.int .u64 x, .int .u64 y]] w fun e w' => e = .returned (.bool false) ∧ Below w.heap.size w w') :
    Calls Tryd.prog 12 #[.agg #[.int .u64 x, .int .u64 y]] w fun e w' => e = .returned (.tuple #[.slice none 0 0, .iface 49 (.int .i64 1)]) ∧ Below w.heap.size w w' := by
  go_enter Tryd.func12, Tryd.ntmps12
  go_wp2_with (first | (go_at_call 15; first | (with_reducible refine (c0 _).mono ?_; rintro e w_c0 ⟨rfl, b_c0⟩; have z_c0 := b_c0.size; (try simp only [szs] at z_c0); (try (have q_c0_0 := own2 b_c0 (w.heap.size) (by first | omega | (simp only [szs]; omega)))))))
  go_ret2
  exact ⟨rfl, by (repeat' (first | (with_reducible first | exact Below.refl _ _ | assumption | refine Below.alloc ?_ ?_ _ | refine Below.drew ?_ | refine below_drewN ?_ _ | refine Below.setCell ?_ ?_ _ | refine below_via (by with_reducible assumption) ?_ ?_) | omega | (simp only [szs]; omega) | (simp only [szs] at *; omega)))⟩
end Go.Proofs.YtoigpjaffggekabDoor
