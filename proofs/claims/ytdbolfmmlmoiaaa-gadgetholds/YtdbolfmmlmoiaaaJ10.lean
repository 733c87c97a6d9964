/-
  Joined texts: The head of layer 12's statements, over what package gadget's and rank's calls answer. The walk of layer 12's statement that a hash's rows hold by no other values, over what package gadget's and rank's calls answer. The walk of layer 12's statement that a hash's rows hold by no other values (GadgetOnly). Layer 12's statement on hashes: the makers that it makes, their values. The document's own answers of layer 10 (package obolref10): numbers turned by keys, hashes. The document's own answers of layer 10: hashes of lists, and the heads that the statements reckon. The walk of layer 12's statement on hashes (GadgetHash), over what package gadget's and rank's calls answer. How lists of terms, and systems of rows, that came in are opened. Deeds that came in (layer 12): a slice of structs with two slices each. Makers of systems (layer 12): how much a deed makes. Deeds in memory: of a script, and in a variable of one's own. '==' of two terms. The document's own answers of layer 11 (package obolref11): lists compared; light systems; sound systems. The document's own answers of layer 11 (package obolref11): two systems that are the same.
-/
import Derived.Test.YtdbolfmmlmoiaaaJ6
import Derived.Test.YtdbolfmmlmoiaaaJ3
import Derived.Test.YtdbolfmmlmoiaaaJ1
import Derived.Test.YtdbolfmmlmoiaaaJ2
import Derived.Lib.SmallJoins
import Derived.Test.YtdbolfmmlmoiaaaJ4

namespace Go.Proofs.Ytdbolfmmlmoiaaa
open Go.RowKit Go.Proofs
set_option linter.unusedVariables false
set_option linter.unusedSimpArgs false
attribute [local go_sem ↓] Go.wp_at_zero Go.wp_at_succ
def ex1 : Mk := Mk.new.public (Ob.toG 3)
def ex2 : Mk := ex1.fresh (Ob.toG 4)
def ex3 : Mk := ex2.mulL (just (ex2.is 1)) (just (ex2.is 2))
theorem ex1_good : ex1.Good := Mk.good_new.public _
theorem ex2_good : ex2.Good := ex1_good.fresh _
theorem ex3_good : ex3.Good := ex2_good.mulL (just_in (Mk.is_lt ex2_good _)) (just_in (Mk.is_lt ex2_good _))
theorem ex3_hold : ex3.Hold := (Mk.hold_mulL ex2_good (just_in (Mk.is_lt ex2_good _)) (just_in (Mk.is_lt ex2_good _))).2 ((Mk.hold_fresh ex1_good _).2 ((Mk.hold_public Mk.good_new _).2 Mk.hold_new))
theorem ex3_v : ex3.v 3 = 12 := by kernel_rfl
/-- What owns nothing below a block leaves what lies below it. -/
theorem KeepO.to_below {O : Nat → Prop} {w w1 w2 : World} (hb : Below w.heap.size w w1) (h : KeepO O w1 w2) (hO : ∀ k, O k → w.heap.size ≤ k) : Below w.heap.size w w2 :=
  hb.trans (h.below (fun k hk ho => by have := hO k ho; omega) hb.size)
theorem own_on {O P : Nat → Prop} {w w1 : World} (hb : Below w.heap.size w w1) (hO : ∀ k, O k → w.heap.size ≤ k) (hP : ∀ k, P k → O k ∨ w1.heap.size ≤ k) : ∀ k, P k → w.heap.size ≤ k := fun k hk => by
  have := hb.size
  rcases hP k hk with h | h
  · exact hO k h
  · omega
set_option maxRecDepth 8000 in
set_option maxHeartbeats 8000000 in
theorem up12_of {G : Mkr} (hG : GadC G) (hH : HoldsC 19) (w : World) :
    Calls Try.prog 9 #[] w fun e w' => e = .returned (.bool true) ∧ Below w.heap.size w w' := by
  have hG' : Hid (GadC G) := hG
  have hH' : Hid (HoldsC 19) := hH
  have cN := hG.new
  clear hG hH
  go_enter Try.func9, Try.ntmps9
  go_upto_region 2 with (go_at_call 10; (with_reducible refine (cN _).mono ?_); rintro e w1 ⟨g, O, rfl, g0, o0, b1⟩)
  have c1 : Calls Try.prog 25 #[.pointer (some ⟨g, 0, none⟩), .int .u64 3] w1 fun e w' => e = .returned (.tuple #[.int .i64 1, .nilIface]) ∧ GAfter G O w1 w' g ex1 := hG'.out.public_yes w1 O g Mk.new g0 ⟨Mk.good_new, by decide, by decide⟩ (by decide) 3 (by decide)
  have o0' : Hid (∀ k, O k → w.heap.size ≤ k) := o0
  have b1' : Hid (Below w.heap.size w w1) := b1
  clear cN g0 o0 b1
  go_upto_region 5 with (go_at_call 25; (with_reducible refine c1.mono ?_); rintro e w2 ⟨rfl, a2⟩)
  obtain ⟨O1, g1, o1, k1⟩ := a2
  have b2 : Hid (Below w.heap.size w w2) := k1.to_below b1'.out o0'.out
  have o1' : Hid (∀ k, O1 k → w.heap.size ≤ k) := own_on b1'.out o0'.out o1
  have c2 : Calls Try.prog 20 #[.pointer (some ⟨g, 0, none⟩), .int .u64 4] w2 fun e w' => e = .returned (.int .i64 2) ∧ GAfter G O1 w2 w' g ex2 := hG'.out.private_ w2 O1 g ex1 g1 ⟨ex1_good, by decide, by decide⟩ 4 (by decide)
  clear c1 g1 o1 k1 o0' b1'
  go_upto_region 6 with (go_at_call 20; (with_reducible refine c2.mono ?_); rintro e w3 ⟨rfl, a3⟩)
  obtain ⟨O2, g2, o2, k2⟩ := a3
  have b3 : Hid (Below w.heap.size w w3) := k2.to_below b2.out o1'.out
  have o2' : Hid (∀ k, O2 k → w.heap.size ≤ k) := own_on b2.out o1'.out o2
  have c3 : Calls Try.prog 28 #[.pointer (some ⟨g, 0, none⟩), .int .i64 1, .int .i64 2] w3 fun e w' => e = .returned (.int .i64 3) ∧ GAfter G O2 w3 w' g ex3 := hG'.out.mul w3 O2 g ex2 g2 ⟨ex2_good, by decide, by decide⟩ 1 2 (by decide) (by decide)
  clear c2 g2 o2 k2 o1' b2
  go_upto_region 7 with (go_at_call 28; (with_reducible refine c3.mono ?_); rintro e w4 ⟨rfl, a4⟩)
  obtain ⟨O3, g3, o3, k3⟩ := a4
  have b4 : Hid (Below w.heap.size w w4) := k3.to_below b3.out o2'.out
  have o3' : Hid (∀ k, O3 k → w.heap.size ≤ k) := own_on b3.out o2'.out o3
  have c4 := hG'.out.done w4 O3 g ex3 g3 ⟨ex3_good, by decide, by decide⟩
  clear c3 g3 o3 k3 o2' b3
  have n4 : ((ex3.n : Nat) : Int) = 4 := rfl
  have m1 : ex3.m = 1 := rfl
  have p1 : ((ex3.pub : Nat) : Int) = 1 := rfl
  have n4' : ex3.n = 4 := rfl
  unfold rankV at c4
  rw [n4, p1, m1, n4'] at c4
  go_upto_region 8 with (go_at_call 15; (with_reducible refine c4.mono ?_); rintro e w5 ⟨P, a, c, R, x, d, rfl, g5, h5, k5, ns, sy, hd, wd, hx, _, _, _, _⟩)
  obtain ⟨bad, at_, hHold⟩ := hold_ex ((ex3.n : Nat) : Int) ((ex3.pub : Nat) : Int) ex3.m R ex3.n ex3.v
  have hz := (sy.holds ex3_good (by decide) (by decide) hHold).2 ex3_hold
  have b5 : Hid (Below w.heap.size w w5) := k5.to_below b4.out o3'.out
  have b6 : Below w5.heap.size w5 (w5.alloc (.cells #[.int .i64 4, .int .i64 1, .slice a 1 c] 29)) := (Below.refl _ _).alloc (Nat.le_refl _) _
  have hsrc : SrcW w5.heap.size w5 (some ⟨x, 0, none⟩) 4 ex3.v := SrcW.of wd
  have cH : Calls Try.prog 19 #[.agg #[.int .i64 4, .int .i64 1, .slice a 1 c], .slice (some ⟨x, 0, none⟩) 4 d] (w5.alloc (.cells #[.int .i64 4, .int .i64 1, .slice a 1 c] 29)) fun e w' => ∃ er, e = .returned er ∧ ErrIs (w5.alloc (.cells #[.int .i64 4, .int .i64 1, .slice a 1 c] 29)).heap.size w' er bad at_ ∧ Below (w5.alloc (.cells #[.int .i64 4, .int .i64 1, .slice a 1 c] 29)).heap.size (w5.alloc (.cells #[.int .i64 4, .int .i64 1, .slice a 1 c] 29)) w' :=
    hH'.out 4 1 a 1 c R ns.ok (by decide) (by decide) (by decide) (by decide) (by decide) (some ⟨x, 0, none⟩) 4 d (by decide) ex3.v (fun i => Nat.lt_trans (ex3_good.lt i) (by decide)) bad at_ hHold (w5.alloc (.cells #[.int .i64 4, .int .i64 1, .slice a 1 c] 29)) (ns.rows.to b6 (Nat.le_refl _)) (hsrc.to b6 (Nat.le_refl _))
  have d3 : (w5.alloc (.cells #[.int .i64 4, .int .i64 1, .slice a 1 c] 29)).cell? ⟨x, 3, none⟩ = some (.int .u64 12) := by
    have h := (wd.below b6 wd.lt).at_ 3 (by decide)
    rw [ex3_v] at h
    exact h
  have hz' : Hid (bad = 0 ∧ at_ = -1) := hz
  have b6' : Hid (Below w5.heap.size w5 (w5.alloc (.cells #[.int .i64 4, .int .i64 1, .slice a 1 c] 29))) := b6
  clear c4 g5 h5 k5 ns sy hd wd hx hHold hz b6 hsrc b4 o3' n4 m1 p1 n4'
  go_wp2_with (go_at_call 19; (with_reducible refine cH.mono ?_); rintro e w7 ⟨er, rfl, i7, b7⟩; obtain rfl := i7.nil_iff.2 hz'.out; have hend : Hid (Below w.heap.size w w7) := below_via (below_via b7 b6'.out b6'.out.size) b5.out b5.out.size; clear i7 b7)
  go_ret
  exact ⟨rfl, hend.out⟩
end Go.Proofs.Ytdbolfmmlmoiaaa

namespace Go.Proofs.Ytdbolfmmlmoiaaa
open Go.RowKit Go.Proofs
set_option linter.unusedVariables false
set_option linter.unusedSimpArgs false
attribute [local go_sem ↓] Go.wp_at_zero Go.wp_at_succ
/-- A hash of two public variables. -/
def onl1 (a : Nat) : Mk := Mk.new.public (Ob.toG a)
def onl2 (a b : Nat) : Mk := (onl1 a).public (Ob.toG b)
def onl3 (a b : Nat) : Mk := (onl2 a b).two 1 2
theorem onl1_good (a : Nat) : (onl1 a).Good := Mk.good_new.public _
theorem onl2_good (a b : Nat) : (onl2 a b).Good := (onl1_good a).public _
theorem onl3_good (a b : Nat) : (onl3 a b).Good := (onl2_good a b).two (show 1 < 3 by decide) (show 2 < 3 by decide)
theorem onl3_hold (a b : Nat) : (onl3 a b).Hold := (Mk.hold_two (onl2_good a b) (show 1 < 3 by decide) (show 2 < 3 by decide)).2 ((Mk.hold_public (onl1_good a) _).2 ((Mk.hold_public Mk.good_new _).2 Mk.hold_new))
theorem onl3_chain (a b : Nat) : Chain (onl2 a b) (onl3 a b) 7 := Chain.two (show 1 < 3 by decide) (show 2 < 3 by decide)
theorem onl3_n (a b : Nat) : (onl3 a b).n = 10 := (onl3_chain a b).n
theorem onl3_m (a b : Nat) : (onl3 a b).m = 7 := (onl3_chain a b).m
theorem onl3_pub (a b : Nat) : (onl3 a b).pub = 2 := rfl
/-- One value turned. -/
def turnV (v : Nat → Nat) (at_ X : Nat) (i : Nat) : Nat := if i = at_ then X else v i
theorem onl3_not (a b at_ y : Nat) (h1 : 3 ≤ at_) (h2 : at_ < 10) (hy : y % 288230376287764481 ≠ 0) {R : Nat → Nat → Lst} (h : SysOf (onl3 a b) R) {bad p : Int} (hH : HoldIs (((onl3 a b).n : Nat) : Int) (((onl3 a b).pub : Nat) : Int) (onl3 a b).m R (onl3 a b).n (turnV (onl3 a b).v at_ (Ob.toG ((onl3 a b).v at_) + Ob.toG y).val) bad p) : ¬ (bad = 0 ∧ p = -1) := by
  have hc := onl3_chain a b
  have en : (onl2 a b).n = 3 := rfl
  refine h.not hH (i := (onl2 a b).m + (at_ - 3)) (by rw [hc.m]; omega) (hc.turned (onl3_good a b) (onl3_hold a b) (j := at_ - 3) (by omega) (fun i hi => if_neg (by rw [en] at hi; omega)) ?_)
  have e : (onl2 a b).n + (at_ - 3) = at_ := by rw [en]; omega
  rw [e]
  unfold turnV
  rw [if_pos rfl, Ob.toG_of_val]
  intro k
  have hz : Ob.toG y = 0 := by
    have : Ob.toG y = Ob.toG ((onl3 a b).v at_) + Ob.toG y - Ob.toG ((onl3 a b).v at_) := by
      generalize Ob.toG y = s
      generalize Ob.toG ((onl3 a b).v at_) = t
      grobner
    rw [this, k]
    generalize Ob.toG ((onl3 a b).v at_) = t
    grobner
  have : (Ob.toG y).val = 0 := by rw [hz]; rfl
  rw [Ob.toG_val] at this
  exact hy this
end Go.Proofs.Ytdbolfmmlmoiaaa

namespace Go.Proofs.Ytdbolfmmlmoiaaa
open Go.RowKit Go.Proofs
set_option linter.unusedVariables false
set_option linter.unusedSimpArgs false
attribute [local go_sem ↓] Go.wp_at_zero Go.wp_at_succ
theorem RowsAt.far {B : Nat} {w : World} {a : Option Addr} {m : Nat} {R : Nat → Nat → Lst} (h : RowsAt B w a m R) {x : Nat} (h1 : ∀ y, a = some y → y.block ≠ x) (h2 : ∀ i, i < m → ∀ j, j < 3 → ∀ y, (R i j).ad = some y → 0 < (R i j).n → y.block ≠ x) (o : Nat) (v : Value) : RowsAt B (w.setCell ⟨x, o, none⟩ v) a m R := by
  have hk : KeepO (fun k => k = x) w (w.setCell ⟨x, o, none⟩ v) := KeepO.setCell w x o v rfl
  rcases h with h | ⟨b, off, rfl, t⟩
  · exact Or.inl h
  · refine Or.inr ⟨b, off, rfl, t.lt, fun i hi j hj => hk.cell (t.cell i hi j hj) (h1 _ rfl), fun i hi j hj => ?_⟩
    rcases t.at_ i hi j hj with h | ⟨g, o', e, hl, tt⟩
    · exact Or.inl h
    · rcases Nat.eq_zero_or_pos (R i j).n with h0 | h0
      · exact Or.inl h0
      · exact Or.inr ⟨g, o', e, hl, trms_keep tt hk (h2 i hi j hj _ e h0)⟩
theorem Wds.turn {w : World} {x n : Nat} {v : Nat → Nat} (t : Wds w x 0 n v) {q : Nat} (hq : q < n) (X : Nat) : Wds (w.setCell ⟨x, q, none⟩ (.int .u64 (X : Nat))) x 0 n (turnV v q X) := by
  refine ⟨by simp [t.lt], fun i hi => ?_⟩
  have ht := t.at_ i hi
  have hqt := t.at_ q hq
  rw [Nat.zero_add] at ht hqt ⊢
  unfold turnV
  by_cases e : i = q
  · subst e
    rw [if_pos rfl]
    exact World.cell?_setCell_same _ _ _ hqt
  · rw [if_neg e, World.cell?_setCell_other _ _ _ _ (by first | (simp; done) | (simp; omega))]
    exact ht
set_option maxRecDepth 8000 in
set_option maxHeartbeats 16000000 in
theorem gonly_of {G : Mkr} (hG : GadC G) (hH : HoldsC 19) (a b y : Nat) (ha : a < 18446744073709551616) (hb : b < 18446744073709551616) (hy : y < 18446744073709551616) (p : Int) (w : World)
   (cu : ∀ w, Calls Try.prog 9 #[] w fun e w' => e = .returned (.bool true) ∧ Below w.heap.size w w') :
    Calls Try.prog 7 #[.int .u64 a, .int .u64 b, .int .i64 p, .int .u64 y] w fun e w' => e = .returned (.bool true) ∧ Below w.heap.size w w' := by
  have hG' : Hid (GadC G) := hG
  have hH' : Hid (HoldsC 19) := hH
  have hy' : Hid (y < 18446744073709551616) := hy
  have ha' : Hid (a < 18446744073709551616) := ha
  have hb' : Hid (b < 18446744073709551616) := hb
  have cN := hG.new
  clear hG hH hy ha hb
  go_enter Try.func7, Try.ntmps7
  go_upto_region 3 with (first | (go_at_call 9; (with_reducible refine (cu _).mono ?_); rintro e wu ⟨rfl, bu⟩) | (go_at_call 10; (with_reducible refine (cN _).mono ?_); rintro e w1 ⟨g, O, rfl, g0, o0, b1⟩))
  have zu := bu.size
  have b1' : Hid (Below w.heap.size w w1) := below_via b1 bu zu
  have o0' : Hid (∀ k, O k → w.heap.size ≤ k) := fun k hk => Nat.le_trans zu (o0 k hk)
  have c1 : Calls Try.prog 25 #[.pointer (some ⟨g, 0, none⟩), .int .u64 a] w1 fun e w' => e = .returned (.tuple #[.int .i64 1, .nilIface]) ∧ GAfter G O w1 w' g (onl1 a) := hG'.out.public_yes w1 O g Mk.new g0 ⟨Mk.good_new, by decide, by decide⟩ (by decide) a ha'.out
  clear cN g0 o0 b1 bu zu cu
  go_upto_region 6 with (go_at_call 25; (with_reducible refine c1.mono ?_); rintro e w2 ⟨rfl, a2⟩)
  obtain ⟨O1, g1, o1, k1⟩ := a2
  have b2 : Hid (Below w.heap.size w w2) := k1.to_below b1'.out o0'.out
  have o1' : Hid (∀ k, O1 k → w.heap.size ≤ k) := own_on b1'.out o0'.out o1
  have c2 : Calls Try.prog 25 #[.pointer (some ⟨g, 0, none⟩), .int .u64 b] w2 fun e w' => e = .returned (.tuple #[.int .i64 2, .nilIface]) ∧ GAfter G O1 w2 w' g (onl2 a b) := hG'.out.public_yes w2 O1 g (onl1 a) g1 ⟨onl1_good a, (show 2 ≤ 3000 by decide), (show 0 ≤ 3000 by decide)⟩ (show ¬ 1 + 1 < 2 by decide) b hb'.out
  clear c1 g1 o1 k1 o0' b1'
  go_upto_region 7 with (go_at_call 25; (with_reducible refine c2.mono ?_); rintro e w3 ⟨rfl, a3⟩)
  obtain ⟨O2, g2, o2, k2⟩ := a3
  have b3 : Hid (Below w.heap.size w w3) := k2.to_below b2.out o1'.out
  have o2' : Hid (∀ k, O2 k → w.heap.size ≤ k) := own_on b2.out o1'.out o2
  have c3 : Calls Try.prog 21 #[.pointer (some ⟨g, 0, none⟩), .int .i64 1, .int .i64 2] w3 fun e w' => e = .returned (.int .i64 9) ∧ GAfter G O2 w3 w' g (onl3 a b) := hG'.out.two w3 O2 g (onl2 a b) g2 ⟨onl2_good a b, (show 3 ≤ 3000 by decide), (show 0 ≤ 3000 by decide)⟩ 1 2 (by decide) (by decide)
  clear c2 g2 o2 k2 o1' b2
  go_upto_region 8 with (go_at_call 21; (with_reducible refine c3.mono ?_); rintro e w4 ⟨rfl, a4⟩)
  obtain ⟨O3, g3, o3, k3⟩ := a4
  have b4 : Hid (Below w.heap.size w w4) := k3.to_below b3.out o2'.out
  have o3' : Hid (∀ k, O3 k → w.heap.size ≤ k) := own_on b3.out o2'.out o3
  have n4 := onl3_n a b
  have m4 := onl3_m a b
  have c4 := hG'.out.done w4 O3 g (onl3 a b) g3 ⟨onl3_good a b, by rw [n4]; decide, by rw [m4]; decide⟩
  clear c3 g3 o3 k3 o2' b3
  unfold rankV at c4
  rw [n4, m4, onl3_pub] at c4
  rw [show (((10 : Nat) : Int)) = 10 from rfl, show (((2 : Nat) : Int)) = 2 from rfl] at c4
  clear n4 m4
  go_upto_region 9 with (go_at_call 15; (with_reducible refine c4.mono ?_); rintro e w5 ⟨P, ar, c, R, x, d, rfl, g5, h5, k5, ns, sy, hd, wd, hx, _, hfx, hax, hlx⟩)
  have b5 : Hid (Below w.heap.size w w5) := k5.to_below b4.out o3'.out
  have wx : Hid (w.heap.size ≤ x) := Nat.le_trans b4.out.size hx
  have b6 : Below w5.heap.size w5 (w5.alloc (.cells #[.int .i64 10, .int .i64 2, .slice ar 7 c] 29)) := (Below.refl _ _).alloc (Nat.le_refl _) _
  have hB : Hid (Below w.heap.size w (w5.alloc (.cells #[.int .i64 10, .int .i64 2, .slice ar 7 c] 29))) := below_via b6 b5.out b5.out.size
  have t3 : Three (w5.alloc (.cells #[.int .i64 10, .int .i64 2, .slice ar 7 c] 29)) w5.heap.size (.int .i64 10) (.int .i64 2) (.slice ar 7 c) := by (repeat' (first | (with_reducible first | assumption | exact Three.own (by with_reducible assumption) | refine Three.set ?_ _ _ _ | refine Own3.set ?_ _ _ _ | refine Three.drew ?_ | refine Three.drewN ?_ _ | refine Own3.drew ?_ | refine Own3.drewN ?_ _ | (refine Three.new ?_; simp only [szs]; done) | (refine Own3.new ?_; simp only [szs]; done) | refine Three.alloc ?_ _ | refine Own3.alloc ?_ _ | refine Three.far ?_ ?_ _ _ | refine Own3.far ?_ ?_ _ _ | refine Three.via (by with_reducible assumption) ?_ ?_ | refine Own3.via (by with_reducible assumption) ?_ ?_) | omega | (simp only [szs]; omega)))
  have hr6 : Hid (RowsAt (w5.alloc (.cells #[.int .i64 10, .int .i64 2, .slice ar 7 c] 29)).heap.size (w5.alloc (.cells #[.int .i64 10, .int .i64 2, .slice ar 7 c] 29)) ar 7 R) := ns.rows.to b6 (Nat.le_refl _)
  have wd6 : Hid (Wds (w5.alloc (.cells #[.int .i64 10, .int .i64 2, .slice ar 7 c] 29)) x 0 10 (onl3 a b).v) := wd.below b6 wd.lt
  have fx6 : Hid (∀ o, (w5.alloc (.cells #[.int .i64 10, .int .i64 2, .slice ar 7 c] 29)).frozen? ⟨x, o, none⟩ = false) := fun o => by rw [(bcell b6).2 x o wd.lt]; exact hfx o
  have hxx : x ≠ w5.heap.size := by have := wd.lt; omega
  have nok : Hid (∀ i j, (R i j).Ok) := ns.ok
  have sy' : Hid (SysOf (onl3 a b) R) := sy
  have hax' : Hid (∀ y, ar = some y → y.block ≠ x) := hax
  have hlx' : Hid (∀ i, i < 7 → ∀ j, j < 3 → ∀ y, (R i j).ad = some y → 0 < (R i j).n → y.block ≠ x) := hlx
  generalize (w5.alloc (.cells #[.int .i64 10, .int .i64 2, .slice ar 7 c] 29)) = W at *
  generalize w5.heap.size = bs at *
  clear c4 g5 h5 k5 ns sy hd wd hx hfx hax hlx b5 b6 b4 o3'
  by_cases h1 : p < 3
  · go_wp2
    go_ret
    exact ⟨rfl, hB.out⟩
  by_cases h2 : (10 : Int) ≤ p
  · go_wp2
    go_ret
    exact ⟨rfl, hB.out⟩
  obtain ⟨q, rfl⟩ : ∃ q : Nat, p = (q : Int) := ⟨p.toNat, by omega⟩
  by_cases h3 : y % 288230376287764481 = 0
  · have r1 : (y : Int) % 288230376287764481 = 0 := by omega
    have r2 : (y : Int).tmod 288230376287764481 = 0 := by rw [Int.tmod_eq_emod_of_nonneg (by omega)]; exact r1
    clear h3
    go_wp2
    go_ret
    exact ⟨rfl, hB.out⟩
  · obtain ⟨z, hz⟩ : ∃ z, Hid (y % 288230376287764481 = z) := ⟨_, rfl⟩
    have hz0 : z ≠ 0 := by rw [← hz.out]; exact h3
    have r1 : (y : Int) % 288230376287764481 = (z : Int) := by have := hz.out; omega
    have r2 : (y : Int).tmod 288230376287764481 = (z : Int) := by rw [Int.tmod_eq_emod_of_nonneg (by omega)]; exact r1
    have hzb : ((z : Int) == 0) = false := by rw [beq_eq_false_iff_ne]; omega
    have h3' : Hid (y % 288230376287764481 ≠ 0) := h3
    have hq : q < 10 := by omega
    have hq3 : 3 ≤ q := by omega
    have dq := wd6.out.at_ q hq
    rw [Nat.zero_add] at dq
    have fq := fx6.out q
    have hvw := (onl3_good a b).lt q
    have cP := gplusW ((onl3 a b).v q) y (by omega) hy'.out
    obtain ⟨X, hX⟩ : ∃ X, Hid ((Ob.toG ((onl3 a b).v q) + Ob.toG y).val = X) := ⟨_, rfl⟩
    rw [hX.out] at cP
    obtain ⟨vq, hvq⟩ : ∃ vq, Hid ((onl3 a b).v q = vq) := ⟨_, rfl⟩
    rw [hvq.out] at dq cP
    obtain ⟨bad, at_, hHold⟩ := hold_ex (((onl3 a b).n : Nat) : Int) (((onl3 a b).pub : Nat) : Int) (onl3 a b).m R (onl3 a b).n (turnV (onl3 a b).v q (Ob.toG ((onl3 a b).v q) + Ob.toG y).val)
    have hnot : Hid (¬ (bad = 0 ∧ at_ = -1)) := onl3_not a b q y hq3 hq h3'.out sy'.out hHold
    rw [hX.out, onl3_n, onl3_m, onl3_pub] at hHold
    have hXlt : X < 18446744073709551616 := by rw [← hX.out]; exact Ob.G_word _
    have hr7 : RowsAt (W.setCell ⟨x, q, none⟩ (.int .u64 (X : Nat))).heap.size (W.setCell ⟨x, q, none⟩ (.int .u64 (X : Nat))) ar 7 R := by
      have e : (W.setCell ⟨x, q, none⟩ (.int .u64 (X : Nat))).heap.size = W.heap.size := by simp
      rw [e]
      exact hr6.out.far hax'.out hlx'.out q _
    have wd7 : Wds (W.setCell ⟨x, q, none⟩ (.int .u64 (X : Nat))) x 0 10 (turnV (onl3 a b).v q X) := wd6.out.turn hq X
    have cH : Calls Try.prog 19 #[.agg #[.int .i64 10, .int .i64 2, .slice ar 7 c], .slice (some ⟨x, 0, none⟩) 10 d] (W.setCell ⟨x, q, none⟩ (.int .u64 (X : Nat))) fun e w' => ∃ er, e = .returned er ∧ ErrIs (W.setCell ⟨x, q, none⟩ (.int .u64 (X : Nat))).heap.size w' er bad at_ ∧ Below (W.setCell ⟨x, q, none⟩ (.int .u64 (X : Nat))).heap.size (W.setCell ⟨x, q, none⟩ (.int .u64 (X : Nat))) w' :=
      hH'.out 10 2 ar 7 c R nok.out (by decide) (by decide) (by decide) (by decide) (by decide) (some ⟨x, 0, none⟩) 10 d (by decide) (turnV (onl3 a b).v q X) (fun i => by unfold turnV; split; exact hXlt; exact Nat.lt_trans ((onl3_good a b).lt i) (by decide)) bad at_ hHold (W.setCell ⟨x, q, none⟩ (.int .u64 (X : Nat))) hr7 (SrcW.of wd7)
    have t7 : Three (W.setCell ⟨x, q, none⟩ (.int .u64 (X : Nat))) bs (.int .i64 10) (.int .i64 2) (.slice ar 7 c) := t3.far hxx _ _
    have hB7 : Hid (Below w.heap.size w (W.setCell ⟨x, q, none⟩ (.int .u64 (X : Nat)))) := hB.out.setCell (by show w.heap.size ≤ x; exact wx.out) _
    have ⟨d1, d2, d3, d4, d5, d6, d7⟩ := t7
    have iq0 : (0 : Int) ≤ (q : Int) := by omega
    have iq1 : (q : Int) < 10 := by omega
    clear h3 hz hHold hr7 wd7 hX hvq hvw t3 t7 hr6 wd6 fx6 nok sy' hax' hlx' hXlt
    go_upto_region 14 with (first | (go_at_call 26; first | (with_reducible refine (cP _).mono ?_; rintro e w' ⟨rfl, rfl⟩)))
    go_wp2_with (go_at_call 19; (with_reducible refine cH.mono ?_); rintro e w7 ⟨er, rfl, i7, b7⟩; obtain ⟨ty, va, rfl⟩ := i7.other hnot.out; have hend : Hid (Below w.heap.size w w7) := below_via b7 hB7.out hB7.out.size; clear i7 b7)
    go_ret
    exact ⟨rfl, hend.out⟩
end Go.Proofs.Ytdbolfmmlmoiaaa

namespace Go.Proofs.Ytdbolfmmlmoiaaa
open Go.RowKit Go.Proofs
set_option linter.unusedVariables false
set_option linter.unusedSimpArgs false
/-- Two private variables, their hash, and i more. -/
def hsh2 (a b : Nat) : Mk := (Mk.new.fresh (Ob.toG a)).fresh (Ob.toG b)
def hsh3 (a b : Nat) : Mk := (hsh2 a b).two 1 2
def hshN (a b : Nat) (l : Nat → Nat) : Nat → Mk
  | 0 => hsh3 a b
  | i + 1 => (hshN a b l i).fresh (Ob.toG (l i))
theorem hsh2_good (a b : Nat) : (hsh2 a b).Good := (Mk.good_new.fresh _).fresh _
theorem hsh3_good (a b : Nat) : (hsh3 a b).Good := (hsh2_good a b).two (show 1 < 3 by decide) (show 2 < 3 by decide)
theorem hshN_good (a b : Nat) (l : Nat → Nat) : ∀ i, (hshN a b l i).Good
  | 0 => hsh3_good a b
  | i + 1 => (hshN_good a b l i).fresh _
theorem hsh3_n (a b : Nat) : (hsh3 a b).n = 10 := Mk.two_n _ _ _
theorem hshN_n (a b : Nat) (l : Nat → Nat) : ∀ i, (hshN a b l i).n = 10 + i
  | 0 => hsh3_n a b
  | i + 1 => by show (hshN a b l i).n + 1 = _; rw [hshN_n a b l i]; omega
theorem hshN_m (a b : Nat) (l : Nat → Nat) : ∀ i, (hshN a b l i).m = 7
  | 0 => (Chain.two (S := hsh2 a b) (show 1 < 3 by decide) (show 2 < 3 by decide)).m
  | i + 1 => hshN_m a b l i
theorem hshN_hold (a b : Nat) (l : Nat → Nat) : ∀ i, (hshN a b l i).Hold
  | 0 => (Mk.hold_two (hsh2_good a b) (show 1 < 3 by decide) (show 2 < 3 by decide)).2 ((Mk.hold_fresh (Mk.good_new.fresh _) _).2 ((Mk.hold_fresh Mk.good_new _).2 Mk.hold_new))
  | i + 1 => (Mk.hold_fresh (hshN_good a b l i) _).2 (hshN_hold a b l i)
theorem hshN_old (a b : Nat) (l : Nat → Nat) (j : Nat) (hj : j < 10) : ∀ i, (hshN a b l i).v j = (hsh3 a b).v j
  | 0 => rfl
  | i + 1 => by
    show (if j = (hshN a b l i).n then _ else (hshN a b l i).v j) = _
    rw [if_neg (by rw [hshN_n]; omega), hshN_old a b l j hj i]
theorem hshN_new (a b : Nat) (l : Nat → Nat) : ∀ i j, j < i → (hshN a b l i).v (10 + j) = (Ob.toG (l j)).val
  | i + 1, j, hj => by
    show (if 10 + j = (hshN a b l i).n then (Ob.toG (l i)).val else (hshN a b l i).v (10 + j)) = _
    rw [hshN_n]
    rcases Nat.lt_or_ge j i with h | h
    · rw [if_neg (by omega), hshN_new a b l i j h]
    · obtain rfl : j = i := by omega
      rw [if_pos rfl]
theorem hsh3_val (a b : Nat) : (hsh3 a b).v 9 = (Ob.twoG (Ob.toG a) (Ob.toG b)).val := by
  have h := Mk.two_val (hsh2_good a b) (a := 1) (b := 2) (show 1 < 3 by decide) (show 2 < 3 by decide)
  have e1 : (hsh2 a b).v 1 = (Ob.toG a).val := rfl
  have e2 : (hsh2 a b).v 2 = (Ob.toG b).val := rfl
  rw [e1, e2, Ob.toG_of_val, Ob.toG_of_val] at h
  exact h
/-- All of it: with the hash of a list. -/
def hshM (a b : Nat) (l : Nat → Nat) (m : Nat) : Mk := (hshN a b l m).manyV m (fun j => ((10 + j : Nat) : Int)) m
theorem hshM_eq (a b : Nat) (l : Nat → Nat) (m : Nat) : hshM a b l m = (hshN a b l m).manyN m (fun j => 10 + j) m := Mk.manyV_eq m fun j hj => by rw [hshN_n]; omega
theorem hshM_lt (a b : Nat) (l : Nat → Nat) (m : Nat) : ∀ j, j < m → 10 + j < (hshN a b l m).n := fun j hj => by rw [hshN_n]; omega
theorem hshM_good (a b : Nat) (l : Nat → Nat) (m : Nat) : (hshM a b l m).Good := (hshN_good a b l m).manyV _ _ _
theorem hshM_hold (a b : Nat) (l : Nat → Nat) (m : Nat) : (hshM a b l m).Hold := (Mk.hold_manyV (hshN_good a b l m) _ _ _).2 (hshN_hold a b l m)
theorem hdN_rest (m : Nat) (l : Nat → Nat) (u : Nat → Nat) : ∀ i, (∀ j, j < i → Ob.toG (u j) = Ob.toG (l j)) → hdN m u i = hdN m l i
  | 0, _ => rfl
  | i + 1, h => by rw [hdN_succ, hdN_succ, hdN_rest m l u i fun j hj => h j (by omega), h i (by omega)]
theorem hshM_two (a b : Nat) (l : Nat → Nat) (m : Nat) : (hshM a b l m).v 9 = (Ob.twoG (Ob.toG a) (Ob.toG b)).val := by
  rw [hshM_eq, Mk.manyN_old m _ (by rw [hshN_n]; omega), hshN_old a b l 9 (by decide), hsh3_val]
theorem hshM_many (a b : Nat) (l : Nat → Nat) (m : Nat) : (hshM a b l m).v (10 + m + 7 * m) = hdN m l m := by
  have h := Mk.manyN_val (hshN_good a b l m) (m := m) (l := fun j => 10 + j) (i := m) (hshM_lt a b l m)
  rw [hshN_n] at h
  rw [hshM_eq, h]
  exact hdN_rest m l _ m fun j hj => by rw [hshN_new a b l m j hj, Ob.toG_of_val]
end Go.Proofs.Ytdbolfmmlmoiaaa

namespace Go.Proofs.Ytdbolfmmlmoiaaa
open Go.RowKit Go.Proofs
set_option linter.unusedVariables false
set_option linter.unusedSimpArgs false
attribute [local go_sem ↓] Go.wp_at_zero Go.wp_at_succ

/-- What i rounds make of a number. -/
def itG (k x : Fin Ob.RE) : Nat → Fin Ob.RE
  | 0 => x
  | 1 => Ob.rndG k 7 x
  | 2 => Ob.rndG k 49 (Ob.rndG k 7 x)
  | _ => Ob.rndG k 343 (Ob.rndG k 49 (Ob.rndG k 7 x))
/-- A round's own number, and the one ahead of it. -/
def cuG : Nat → Fin Ob.RE
  | 0 => 1
  | 1 => 7
  | 2 => 49
  | _ => 343
theorem cuG_step (i : Nat) (hi : i < 3) : cuG i * Ob.toG 7 = cuG (i + 1) := by
  obtain rfl | rfl | rfl : i = 0 ∨ i = 1 ∨ i = 2 := by omega
  · decide +kernel
  · decide +kernel
  · decide +kernel
theorem itG_step (k x : Fin Ob.RE) (i : Nat) (hi : i < 3) : itG k x (i + 1) = Ob.rndG k (cuG (i + 1)) (itG k x i) := by
  obtain rfl | rfl | rfl : i = 0 ∨ i = 1 ∨ i = 2 := by omega
  · rfl
  · rfl
  · rfl
set_option maxHeartbeats 4000000 in
theorem kturnW (k x : Nat) (hk : k < 18446744073709551616) (hx : x < 18446744073709551616) (w : World) :
    Calls Try.prog 53 #[.int .u64 k, .int .u64 x] w fun e w' => e = .returned (.int .u64 ((Ob.turnG (Ob.toG k) (Ob.toG x)).val : Nat)) ∧ w = w' := by
  have hk' : Hid (k < 18446744073709551616) := hk
  have hx' : Hid (x < 18446744073709551616) := hx
  obtain ⟨T, hT⟩ : ∃ T, Hid ((Ob.turnG (Ob.toG k) (Ob.toG x)).val = T) := ⟨_, rfl⟩
  rw [hT.out]
  clear hk hx
  go_enter Try.func53, Try.ntmps53
  go_wp2
  go_loopw [6, 5, 1] (fun si sc sx wr => ∃ (i c y : Nat), i ≤ 3 ∧ si = .int .i64 i ∧ sc = .int .u64 (c : Nat) ∧ sx = .int .u64 (y : Nat) ∧ w = wr ∧ Hid (c < 18446744073709551616 ∧ y < 18446744073709551616 ∧ Ob.toG c = cuG i ∧ Ob.toG y = itG (Ob.toG k) (Ob.toG x) i)) (fun si _ _ _ => 3 - (intOf si).toNat)
  case atStart => exact ⟨0, 1, x, by omega, rfl, rfl, rfl, rfl, by decide, hx'.out, rfl, rfl⟩
  case round =>
    obtain ⟨i, c, y, hi, rfl, rfl, rfl, rfl, hI⟩ := hrel
    by_cases hlt : i < 3
    · have hlt' : (i : Int) < 3 := by omega
      obtain ⟨hc, hy, ec, ey⟩ := hI.out
      have c1 := gmulW c 7 hc (by decide)
      rw [ec, cuG_step i hlt] at c1
      have e1 : Ob.toG (cuG (i + 1)).val = cuG (i + 1) := Ob.toG_of_val _
      have l1 := G_lt (cuG (i + 1))
      obtain ⟨c', hc'⟩ : ∃ c', Hid ((cuG (i + 1)).val = c') := ⟨_, rfl⟩
      rw [hc'.out] at c1 e1 l1
      have c1 : ∀ w, Calls Try.prog 37 #[.int .u64 c, .int .u64 7] w fun e w' => e = .returned (.int .u64 (c' : Nat)) ∧ w = w' := c1
      have c2 := gplusW k c' hk'.out l1
      have e2 : Ob.toG (Ob.toG k + Ob.toG c').val = Ob.toG k + Ob.toG c' := Ob.toG_of_val _
      have l2 := G_lt (Ob.toG k + Ob.toG c')
      obtain ⟨p, hp⟩ : ∃ p, Hid ((Ob.toG k + Ob.toG c').val = p) := ⟨_, rfl⟩
      rw [hp.out] at c2 e2 l2
      have c3 := gplusW y p hy l2
      have e3 : Ob.toG (Ob.toG y + Ob.toG p).val = Ob.toG y + Ob.toG p := Ob.toG_of_val _
      have l3 := G_lt (Ob.toG y + Ob.toG p)
      obtain ⟨s, hs⟩ : ∃ s, Hid ((Ob.toG y + Ob.toG p).val = s) := ⟨_, rfl⟩
      rw [hs.out] at c3 e3 l3
      have c4 := gmulW s s l3 l3
      have e4 : Ob.toG (Ob.toG s * Ob.toG s).val = Ob.toG s * Ob.toG s := Ob.toG_of_val _
      have l4 := G_lt (Ob.toG s * Ob.toG s)
      obtain ⟨q, hq⟩ : ∃ q, Hid ((Ob.toG s * Ob.toG s).val = q) := ⟨_, rfl⟩
      rw [hq.out] at c4 e4 l4
      have c5 := gmulW s q l3 l4
      have e5 : Ob.toG (Ob.toG s * Ob.toG q).val = Ob.toG s * Ob.toG q := Ob.toG_of_val _
      have l5 := G_lt (Ob.toG s * Ob.toG q)
      obtain ⟨z, hz⟩ : ∃ z, Hid ((Ob.toG s * Ob.toG q).val = z) := ⟨_, rfl⟩
      rw [hz.out] at c5 e5 l5
      have hI' : Hid (c' < 18446744073709551616 ∧ z < 18446744073709551616 ∧ Ob.toG c' = cuG (i + 1) ∧ Ob.toG z = itG (Ob.toG k) (Ob.toG x) (i + 1)) := by
        refine ⟨l1, l5, e1, ?_⟩
        rw [e5, e4, e3, e2, ey, e1, itG_step _ _ i hlt]
        rfl
      clear hc hy ec ey e1 e2 e3 e4 e5 l1 l2 l3 l4 l5 hI hc' hp hs hq hz
      go_wp2_with (first | (go_at_call 37; first | (with_reducible refine (c1 _).mono ?_; rintro e w' ⟨rfl, rfl⟩) | (with_reducible refine (c4 _).mono ?_; rintro e w' ⟨rfl, rfl⟩) | (with_reducible refine (c5 _).mono ?_; rintro e w' ⟨rfl, rfl⟩)) | (go_at_call 26; first | (with_reducible refine (c2 _).mono ?_; rintro e w' ⟨rfl, rfl⟩) | (with_reducible refine (c3 _).mono ?_; rintro e w' ⟨rfl, rfl⟩)))
      go_roundw
      case rel => exact ⟨i + 1, c', z, by omega, by go_num, by first | rfl | trivial, by first | rfl | trivial, by first | rfl | trivial, hI'⟩
      case measure => (simp [intOf]; omega)
    · obtain rfl : i = 3 := by omega
      obtain ⟨hc, hy, ec, ey⟩ := hI.out
      have c6 := gplusW y k hy hk'.out
      rw [ey] at c6
      have e6 : itG (Ob.toG k) (Ob.toG x) 3 + Ob.toG k = Ob.turnG (Ob.toG k) (Ob.toG x) := rfl
      rw [e6] at c6
      rw [hT.out] at c6
      clear hc hy ec ey hI e6 hT
      go_wp2_with (first | (go_at_call 26; first | (with_reducible refine (c6 _).mono ?_; rintro e w' ⟨rfl, rfl⟩)))
      go_ret
      exact ⟨rfl, rfl⟩
theorem ktwo_core (a b t s r : Int) (w : World)
   (c1 : ∀ w, Calls Try.prog 53 #[.int .u64 a, .int .u64 b] w fun e w' => e = .returned (.int .u64 t) ∧ w = w')
   (c2 : ∀ w, Calls Try.prog 26 #[.int .u64 a, .int .u64 b] w fun e w' => e = .returned (.int .u64 s) ∧ w = w')
   (c3 : ∀ w, Calls Try.prog 26 #[.int .u64 t, .int .u64 s] w fun e w' => e = .returned (.int .u64 r) ∧ w = w') :
    Calls Try.prog 23 #[.int .u64 a, .int .u64 b] w fun e w' => e = .returned (.int .u64 r) ∧ w = w' := by
  go_enter Try.func23, Try.ntmps23
  go_wp2_with (first | (go_at_call 53; first | (with_reducible refine (c1 _).mono ?_; rintro e w' ⟨rfl, rfl⟩)) | (go_at_call 26; first | (with_reducible refine (c2 _).mono ?_; rintro e w' ⟨rfl, rfl⟩) | (with_reducible refine (c3 _).mono ?_; rintro e w' ⟨rfl, rfl⟩)))
  go_ret
  exact ⟨rfl, rfl⟩
theorem ktwoW (a b : Nat) (ha : a < 18446744073709551616) (hb : b < 18446744073709551616) (w : World) :
    Calls Try.prog 23 #[.int .u64 a, .int .u64 b] w fun e w' => e = .returned (.int .u64 ((Ob.twoG (Ob.toG a) (Ob.toG b)).val : Nat)) ∧ w = w' := by
  have c3 := gplusW (Ob.turnG (Ob.toG a) (Ob.toG b)).val (Ob.toG a + Ob.toG b).val (G_lt _) (G_lt _)
  rw [Ob.toG_of_val, Ob.toG_of_val] at c3
  exact ktwo_core _ _ _ _ _ w (kturnW a b ha hb) (gplusW a b ha hb) c3
end Go.Proofs.Ytdbolfmmlmoiaaa

namespace Go.Proofs.Ytdbolfmmlmoiaaa
open Go.RowKit Go.Proofs
set_option linter.unusedVariables false
set_option linter.unusedSimpArgs false
attribute [local go_sem ↓] Go.wp_at_zero Go.wp_at_succ
attribute [local irreducible] Ob.twoG

set_option maxHeartbeats 2000000 in
theorem kmanyW (ad : Option Addr) (m c : Nat) (hm : m ≤ 1000000) (l : Nat → Nat) (hl : ∀ i, l i < 18446744073709551616) (w : World) (hs : SrcW w.heap.size w ad m l) :
    Calls Try.prog 24 #[.slice ad m c] w fun e w' => e = .returned (.int .u64 (hdN m l m : Nat)) ∧ w = w' := by
  have hs' : Hid (SrcW w.heap.size w ad m l) := hs
  have hl' : Hid (∀ i, l i < 18446744073709551616) := hl
  have wm : IntKind.u64.wrap (m : Int) = (m : Int) := wrapNat m (by omega)
  have rm : Hid ((m : Int) % 288230376287764481 = (m : Int)) := Int.emod_eq_of_lt (by omega) (by omega)
  have h0 : Hid (hdN m l 0 = m) := hdN_zero m l (by omega)
  obtain ⟨T, hT⟩ : ∃ T, Hid (hdN m l m = T) := ⟨_, rfl⟩
  rw [hT.out]
  clear hs hl
  go_enter Try.func24, Try.ntmps24
  go_wp2
  go_loopw [3, 4] (fun sh si wr => ∃ (i h : Nat), i ≤ m ∧ sh = .int .u64 h ∧ si = .int .i64 i ∧ w = wr ∧ Hid (hdN m l i = h)) (fun sh si _ => m - (intOf si).toNat)
  case atStart => exact ⟨0, m, by omega, by rw [rm.out], rfl, rfl, h0⟩
  case round =>
    obtain ⟨i, h, hi, rfl, rfl, rfl, hI⟩ := hrel
    by_cases hlt : i < m
    · have hlt' : (i : Int) < (m : Int) := by omega
      rcases hs'.out with hn | ⟨b, off, rfl, lb, wb⟩
      · omega
      have hc := wb.at_ i hlt
      have ct := ktwoW h (l i) (by rw [← hI.out]; exact hdN_lt _ _ _) (hl'.out i)
      have e : Hid (hdN m l (i + 1) = (Ob.twoG (Ob.toG h) (Ob.toG (l i))).val) := by show _ = _; rw [hdN_succ, hI.out]
      generalize (Ob.twoG (Ob.toG h) (Ob.toG (l i))).val = h2 at *
      generalize l i = li at *
      clear hI lb wb
      go_wp2_with (first | (go_at_call 23; first | (with_reducible refine (ct _).mono ?_; rintro e w' ⟨rfl, rfl⟩)))
      go_roundw
      case rel => exact ⟨i + 1, h2, by omega, by first | rfl | trivial, by go_num, by first | rfl | trivial, e⟩
      case measure => (simp [intOf]; omega)
    · obtain rfl : i = m := by omega
      have hlt' : ¬ (i : Int) < (i : Int) := by omega
      obtain rfl : h = T := hI.out.symm.trans hT.out
      go_wp2
      go_ret
      exact ⟨rfl, rfl⟩
end Go.Proofs.Ytdbolfmmlmoiaaa

namespace Go.Proofs.Ytdbolfmmlmoiaaa
open Go.RowKit Go.Proofs
set_option linter.unusedVariables false
set_option linter.unusedSimpArgs false
attribute [local go_sem ↓] Go.wp_at_zero Go.wp_at_succ
attribute [local irreducible] Ob.twoG
theorem RowsAt.keepO {B : Nat} {O : Nat → Prop} {w w' : World} {a : Option Addr} {m : Nat} {R : Nat → Nat → Lst} (h : RowsAt B w a m R) (hk : KeepO O w w') (h1 : ∀ y, a = some y → ¬ O y.block) (h2 : ∀ i, i < m → ∀ j, j < 3 → ∀ y, (R i j).ad = some y → 0 < (R i j).n → ¬ O y.block) : RowsAt B w' a m R := by
  rcases h with h | ⟨b, off, rfl, t⟩
  · exact Or.inl h
  · refine Or.inr ⟨b, off, rfl, t.lt, fun i hi j hj => hk.cell (t.cell i hi j hj) (h1 _ rfl), fun i hi j hj => ?_⟩
    rcases t.at_ i hi j hj with h | ⟨g, o', e, hl, tt⟩
    · exact Or.inl h
    · rcases Nat.eq_zero_or_pos (R i j).n with h0 | h0
      · exact Or.inl h0
      · exact Or.inr ⟨g, o', e, hl, trms_keep tt hk (h2 i hi j hj _ e h0)⟩
theorem Wds.keepO {O : Nat → Prop} {w w' : World} {x off n : Nat} {v : Nat → Nat} (t : Wds w x off n v) (hk : KeepO O w w') (h : ¬ O x) : Wds w' x off n v := ⟨Nat.lt_of_lt_of_le t.lt hk.size, fun i hi => hk.cell (t.at_ i hi) h⟩
theorem Three.keepO {O : Nat → Prop} {w w' : World} {b : Nat} {x y z : Value} (t : Three w b x y z) (hk : KeepO O w w') (h : ¬ O b) : Three w' b x y z :=
  ⟨hk.cell t.c0 h, hk.cell t.c1 h, hk.cell t.c2 h, (hk.frozen t.lt h).trans t.f0, (hk.frozen t.lt h).trans t.f1, (hk.frozen t.lt h).trans t.f2, Nat.lt_of_lt_of_le t.lt hk.size⟩
theorem two_m (S : Mk) (a b : Nat) : (S.two a b).m = S.m + 7 := rfl
theorem two_pub (S : Mk) (a b : Nat) : (S.two a b).pub = S.pub := rfl
theorem manyV_m (S : Mk) (m : Nat) (V : Nat → Int) : ∀ i, (S.manyV m V i).m = S.m + 1 + 7 * i
  | 0 => rfl
  | i + 1 => by show ((S.manyV m V i).two _ _).m = _; rw [two_m, manyV_m S m V i]; omega
theorem manyV_pub (S : Mk) (m : Nat) (V : Nat → Int) : ∀ i, (S.manyV m V i).pub = S.pub
  | 0 => rfl
  | i + 1 => by show ((S.manyV m V i).two _ _).pub = _; rw [two_pub, manyV_pub S m V i]
theorem hshN_pub (a b : Nat) (l : Nat → Nat) : ∀ i, (hshN a b l i).pub = 0
  | 0 => rfl
  | i + 1 => hshN_pub a b l i
theorem hshM_m (a b : Nat) (l : Nat → Nat) (m : Nat) (h : m ≤ 5) : (hshM a b l m).m ≤ 3000 := by unfold hshM; rw [manyV_m, hshN_m]; omega
theorem hshM_pub (a b : Nat) (l : Nat → Nat) (m : Nat) : (hshM a b l m).pub = 0 := by unfold hshM; rw [manyV_pub, hshN_pub]
set_option maxHeartbeats 2000000 in
theorem ghash_out {G : Mkr} (hG : GadC G) (a b : Int) (ad : Option Addr) (m c : Nat) (h : 5 < m) (w : World)
   (cu : ∀ w, Calls Try.prog 9 #[] w fun e w' => e = .returned (.bool true) ∧ Below w.heap.size w w') :
    Calls Try.prog 6 #[.int .u64 a, .int .u64 b, .slice ad m c] w fun e w' => e = .returned (.bool true) ∧ Below w.heap.size w w' := by
  have h1 : (5 : Int) < (m : Int) := by omega
  have cN := hG.new
  clear h hG
  go_enter Try.func6, Try.ntmps6
  go_wp2_with (first | (go_at_call 9; (with_reducible refine (cu _).mono ?_); rintro e wu ⟨rfl, bu⟩) | (go_at_call 10; (with_reducible refine (cN _).mono ?_); rintro e w1 ⟨g, O, rfl, g0, o0, b1⟩))
  go_ret
  exact ⟨rfl, below_via b1 bu bu.size⟩
set_option maxRecDepth 8000 in
set_option maxHeartbeats 16000000 in
theorem ghash_of {G : Mkr} (hG : GadC G) (hH : HoldsC 19) (a b : Nat) (ha : a < 18446744073709551616) (hb : b < 18446744073709551616) (ad : Option Addr) (m c : Nat) (hm : m ≤ 5) (l : Nat → Nat) (hl : ∀ i, l i < 18446744073709551616) (w : World) (hs : SrcW w.heap.size w ad m l)
   (cu : ∀ w, Calls Try.prog 9 #[] w fun e w' => e = .returned (.bool true) ∧ Below w.heap.size w w') :
    Calls Try.prog 6 #[.int .u64 a, .int .u64 b, .slice ad m c] w fun e w' => e = .returned (.bool true) ∧ Below w.heap.size w w' := by
  have hG' : Hid (GadC G) := hG
  have hH' : Hid (HoldsC 19) := hH
  have ha' : Hid (a < 18446744073709551616) := ha
  have hb' : Hid (b < 18446744073709551616) := hb
  have hl' : Hid (∀ i, l i < 18446744073709551616) := hl
  have hs' : Hid (SrcW w.heap.size w ad m l) := hs
  have h1 : ¬ (5 : Int) < (m : Int) := by omega
  have cN := hG.new
  clear hG hH ha hb hl hs
  go_enter Try.func6, Try.ntmps6
  go_upto_region 5 with (first | (go_at_call 9; (with_reducible refine (cu _).mono ?_); rintro e wu ⟨rfl, bu⟩) | (go_at_call 10; (with_reducible refine (cN _).mono ?_); rintro e w1 ⟨g, O, rfl, g0, o0, b1⟩))
  have zu := bu.size
  have b1' : Hid (Below w.heap.size w w1) := below_via b1 bu zu
  have o0' : Hid (∀ k, O k → w.heap.size ≤ k) := fun k hk => Nat.le_trans zu (o0 k hk)
  have c1 : Calls Try.prog 20 #[.pointer (some ⟨g, 0, none⟩), .int .u64 a] w1 fun e w' => e = .returned (.int .i64 1) ∧ GAfter G O w1 w' g (Mk.new.fresh (Ob.toG a)) := hG'.out.private_ w1 O g Mk.new g0 ⟨Mk.good_new, by decide, by decide⟩ a ha'.out
  clear cN g0 o0 b1 bu zu cu
  go_upto_region 6 with (go_at_call 20; (with_reducible refine c1.mono ?_); rintro e w2 ⟨rfl, a2⟩)
  obtain ⟨O1, g1, o1, k1⟩ := a2
  have b2 : Hid (Below w.heap.size w w2) := k1.to_below b1'.out o0'.out
  have o1' : Hid (∀ k, O1 k → w.heap.size ≤ k) := own_on b1'.out o0'.out o1
  have c2 : Calls Try.prog 20 #[.pointer (some ⟨g, 0, none⟩), .int .u64 b] w2 fun e w' => e = .returned (.int .i64 2) ∧ GAfter G O1 w2 w' g (hsh2 a b) := hG'.out.private_ w2 O1 g _ g1 ⟨Mk.good_new.fresh _, (show 2 ≤ 3000 by decide), (show 0 ≤ 3000 by decide)⟩ b hb'.out
  clear c1 g1 o1 k1 o0' b1'
  go_upto_region 7 with (go_at_call 20; (with_reducible refine c2.mono ?_); rintro e w3 ⟨rfl, a3⟩)
  obtain ⟨O2, g2, o2, k2⟩ := a3
  have b3 : Hid (Below w.heap.size w w3) := k2.to_below b2.out o1'.out
  have o2' : Hid (∀ k, O2 k → w.heap.size ≤ k) := own_on b2.out o1'.out o2
  have c3 : Calls Try.prog 21 #[.pointer (some ⟨g, 0, none⟩), .int .i64 1, .int .i64 2] w3 fun e w' => e = .returned (.int .i64 9) ∧ GAfter G O2 w3 w' g (hsh3 a b) := hG'.out.two w3 O2 g (hsh2 a b) g2 ⟨hsh2_good a b, (show 3 ≤ 3000 by decide), (show 0 ≤ 3000 by decide)⟩ 1 2 (by decide) (by decide)
  clear c2 g2 o2 k2 o1' b2
  go_upto_region 8 with (go_at_call 21; (with_reducible refine c3.mono ?_); rintro e w4 ⟨rfl, a4⟩)
  obtain ⟨O3, g3, o3, k3⟩ := a4
  have b4 : Hid (Below w.heap.size w w4) := k3.to_below b3.out o2'.out
  have o3' : Hid (∀ k, O3 k → w.heap.size ≤ k) := own_on b3.out o2'.out o3
  have g3' : Hid (G w4 O3 g (hshN a b l 0)) := g3
  clear c3 g3 o3 k3 o2' b3
  go_wp2
  go_loopw [12, 13] (fun so si wr => ∃ (i : Nat) (o : Value), o = so ∧ i ≤ m ∧ si = .int .i64 i ∧ Hid (Below w.heap.size w wr) ∧ Hid (∃ O : Nat → Prop, G wr O g (hshN a b l i) ∧ (∀ k, O k → w.heap.size ≤ k) ∧ OwnI wr o i (fun j => ((10 + j : Nat) : Int)) ∧ ∀ k, o.ownBlock = some k → ¬ O k ∧ w.heap.size ≤ k)) (fun _ si _ => m - (intOf si).toNat)
  case atStart => exact ⟨0, _, rfl, by omega, rfl, b4, O3, g3'.out, o3'.out, OwnI.nil _ _, fun k hk => (by cases hk)⟩
  case round =>
    clear g3' o3' b4
    obtain ⟨i, o, rfl, hi, rfl, hB, hI⟩ := hrel
    obtain ⟨P, gP, oP, oI, oZ⟩ := hI.out
    by_cases hlt : i < m
    · have hlt' : (i : Int) < (m : Int) := by omega
      rcases hs'.out with hz | ⟨bl, ol, rfl, lb, wb⟩
      · omega
      have dl := (wb.below hB.out lb).at_ i hlt
      have nn := hshN_n a b l i
      have cPr := hG'.out.private_ wr P g _ gP ⟨hshN_good a b l i, by rw [nn]; omega, by rw [hshN_m]; decide⟩ (l i) (hl'.out i)
      rw [nn] at cPr
      have oP' : Hid (∀ k, P k → w.heap.size ≤ k) := oP
      have oI' : Hid (OwnI wr o i (fun j => ((10 + j : Nat) : Int))) := oI
      have oZ' : Hid (∀ k, o.ownBlock = some k → ¬ P k ∧ w.heap.size ≤ k) := oZ
      have estep : Hid ((hshN a b l i).fresh (Ob.toG (l i)) = hshN a b l (i + 1)) := rfl
      rw [estep.out] at cPr
      obtain ⟨li, hli⟩ : ∃ li, Hid (l i = li) := ⟨_, rfl⟩
      rw [hli.out] at dl cPr
      obtain ⟨v10, hv10⟩ : ∃ v : Nat, Hid (10 + i = v) := ⟨_, rfl⟩
      rw [hv10.out] at cPr
      clear hI gP oP oI oZ wb lb nn estep hli
      go_upto_region 11 with (first | (go_at_call 20; (with_reducible refine cPr.mono ?_); rintro e w5 ⟨rfl, a5⟩; obtain ⟨Q, gQ, qP, kQ⟩ := a5; have gA := hG'.out.below gQ ((Below.refl w5.heap.size w5).alloc (Nat.le_refl _) (.cells #[.int .i64 (v10 : Nat)] 3)); have oA : OwnI w5 o i (fun j => ((10 + j : Nat) : Int)) := own_keep oI'.out kQ fun k hk => (oZ'.out k hk).1; have oB := own_below oA ((Below.refl w5.heap.size w5).alloc (Nat.le_refl _) (.cells #[.int .i64 (v10 : Nat)] 3)) fun k hk => (World.ownsRow.lt oA k hk).2; have b5 : Below w.heap.size w w5 := kQ.to_below hB.out oP'.out; have qP2 := own_on hB.out oP'.out qP; have oN : ∀ k, o.ownBlock = some k → ¬ Q k := (fun k hk hq => (by rcases qP k hq with h | h; exact (oZ'.out k hk).1 h; have := (World.ownsRow.lt oI'.out k hk).2; omega))) | (at_builtin; refine wpList_appIF rfl _ _ rfl o i (fun j => ((10 + j : Nat) : Int)) rfl oB w5.heap.size (v10 : Nat) rfl (by simp [go_sem]) (by show ((10 + i : Nat) : Int) = _; rw [hv10.out]) (by omega) ?_; intro g7 cap7 w6 q1 q2 q3))
      have k6 : KeepO (fun k => o.ownBlock = some k) (w5.alloc (.cells #[.int .i64 (v10 : Nat)] 3)) w6 := KeepO.grown q2 fun k hk => hk
      have g6 : G w6 Q g (hshN a b l (i + 1)) := hG'.out.keep gA k6 fun k hk ho => oN k ho hk
      have qlt := hG'.out.lt gA
      have z5 : (w5.alloc (.cells #[.int .i64 (v10 : Nat)] 3)).heap.size = w5.heap.size + 1 := by simp
      have zb5 := b5.size
      have g7Z : ¬ Q g7 ∧ w.heap.size ≤ g7 := by
        rcases q3 with q3 | q3
        · exact ⟨oN g7 q3, (oZ'.out g7 q3).2⟩
        · exact ⟨fun h => by have := qlt g7 h; omega, by omega⟩
      have hB6 : Hid (Below w.heap.size w w6) := Below.trans (b5.alloc zb5 _) (k6.below (fun k hk ho => by have := (oZ'.out k ho).2; omega) (by omega))
      have hI6 : Hid (∃ O : Nat → Prop, G w6 O g (hshN a b l (i + 1)) ∧ (∀ k, O k → w.heap.size ≤ k) ∧ OwnI w6 (.slice (some ⟨g7, 0, none⟩) (i + 1) cap7) (i + 1) (fun j => ((10 + j : Nat) : Int)) ∧ ∀ k, (Value.slice (some ⟨g7, 0, none⟩) (i + 1) cap7).ownBlock = some k → ¬ O k ∧ w.heap.size ≤ k) := ⟨Q, g6, qP2, q1, fun k hk => by
        have e : g7 = k := by simpa [Value.ownBlock] using hk
        rw [← e]; exact g7Z⟩
      clear k6 g6 qlt z5 zb5 g7Z gA gQ qP kQ oA oB b5 qP2 oN q1 q2 q3
      go_wp2
      go_roundw
      case rel => exact ⟨i + 1, _, rfl, by omega, by go_num, hB6, hI6⟩
      case measure => first | (simp [intOf]; done) | (simp [intOf]; omega)
    · obtain rfl : i = m := by omega
      have hlt' : ¬ (i : Int) < (i : Int) := by omega
      have nn := hshN_n a b l i
      obtain ⟨av, cv, rfl, hsrcI⟩ := OwnI.src oI
      have hids : IdsAt wr.heap.size wr av i (fun j => ((10 + j : Nat) : Int)) := by
        rcases hsrcI with h | ⟨b0, o0, e, t⟩
        · exact Or.inl h
        · exact Or.inr ⟨b0, o0, e, t.lt, t⟩
      have cMany := hG'.out.many wr P g _ gP ⟨hshN_good a b l i, by rw [nn]; omega, by rw [hshN_m]; decide⟩ av i cv (fun j => ((10 + j : Nat) : Int)) hm (fun j hj => (by constructor <;> omega)) hids (fun y hy _ => (oZ y.block (by rw [hy]; rfl)).1)
      rw [nn] at cMany
      have estep : Hid ((hshN a b l i).manyV i (fun j => ((10 + j : Nat) : Int)) i = hshM a b l i) := rfl
      rw [estep.out] at cMany
      have oP' : Hid (∀ k, P k → w.heap.size ≤ k) := oP
      obtain ⟨vm, hvm⟩ : ∃ vm : Nat, Hid (10 + i + 7 * i = vm) := ⟨_, rfl⟩
      rw [hvm.out] at cMany
      clear hI gP oP oI oZ hsrcI hids estep nn
      go_upto_region 14 with (go_at_call 22; (with_reducible refine cMany.mono ?_); rintro e w7 ⟨rfl, a7⟩)
      obtain ⟨Q, gQ, qP, kQ⟩ := a7
      have hB7 : Hid (Below w.heap.size w w7) := kQ.to_below hB.out oP'.out
      have qP' : Hid (∀ k, Q k → w.heap.size ≤ k) := own_on hB.out oP'.out qP
      have nM : (hshM a b l i).n = 11 + 8 * i := by show ((hshN a b l i).manyV i _ i).n = _; rw [Mk.manyV_n, hshN_n]; omega
      have hMm : (hshM a b l i).m ≤ 3000 := hshM_m a b l i hm
      have fitM : Hid ((hshM a b l i).fit) := ⟨hshM_good a b l i, by omega, hMm⟩
      have cD := hG'.out.done w7 Q g (hshM a b l i) gQ fitM.out
      have pM : (((hshM a b l i).pub : Nat) : Int) = 0 := by rw [hshM_pub]; rfl
      unfold rankV at cD
      rw [pM] at cD
      clear cMany gQ qP kQ hB oP' hMm
      obtain ⟨T, hT⟩ : ∃ T, Hid (hshM a b l i = T) := ⟨_, rfl⟩
      rw [hT.out] at cD fitM nM pM
      have n63 : T.n ≤ 1000 := by omega
      obtain ⟨tn, htn⟩ : ∃ tn, Hid (T.n = tn) := ⟨_, rfl⟩
      obtain ⟨tm, htm⟩ : ∃ tm, Hid (T.m = tm) := ⟨_, rfl⟩
      rw [htn.out, htm.out] at cD
      go_upto_region 15 with (go_at_call 15; (with_reducible refine cD.mono ?_); rintro e w8 ⟨P8, ar, cr, R, x, d, rfl, g8, h8, k8, ns, sy, hd, wd, hx, nx, hfx, hax, hlx⟩)
      have hB8 : Below w.heap.size w w8 := k8.to_below hB7.out qP'.out
      have qP8 : Hid (∀ k, P8 k → w.heap.size ≤ k) := own_on hB7.out qP'.out h8
      have b9 : Below w8.heap.size w8 (w8.alloc (.cells #[.int .i64 (tn : Nat), .int .i64 0, .slice ar tm cr] 29)) := (Below.refl _ _).alloc (Nat.le_refl _) _
      have p8lt := hG'.out.lt g8
      have nb : Hid (¬ P8 w8.heap.size) := fun h => by have := p8lt _ h; omega
      have t3 : Hid (Three (w8.alloc (.cells #[.int .i64 (tn : Nat), .int .i64 0, .slice ar tm cr] 29)) w8.heap.size (.int .i64 (tn : Nat)) (.int .i64 0) (.slice ar tm cr)) := by show Three _ _ _ _ _; (repeat' (first | (with_reducible first | assumption | exact Three.own (by with_reducible assumption) | refine Three.set ?_ _ _ _ | refine Own3.set ?_ _ _ _ | refine Three.drew ?_ | refine Three.drewN ?_ _ | refine Own3.drew ?_ | refine Own3.drewN ?_ _ | (refine Three.new ?_; simp only [szs]; done) | (refine Own3.new ?_; simp only [szs]; done) | refine Three.alloc ?_ _ | refine Own3.alloc ?_ _ | refine Three.far ?_ ?_ _ _ | refine Own3.far ?_ ?_ _ _ | refine Three.via (by with_reducible assumption) ?_ ?_ | refine Own3.via (by with_reducible assumption) ?_ ?_) | omega | (simp only [szs]; omega)))
      have g9 : Hid (G (w8.alloc (.cells #[.int .i64 (tn : Nat), .int .i64 0, .slice ar tm cr] 29)) P8 g T) := hG'.out.below g8 b9
      have hB9 : Hid (Below w.heap.size w (w8.alloc (.cells #[.int .i64 (tn : Nat), .int .i64 0, .slice ar tm cr] 29))) := below_via b9 hB8 hB8.size
      have r9 : Hid (RowsAt (w8.alloc (.cells #[.int .i64 (tn : Nat), .int .i64 0, .slice ar tm cr] 29)).heap.size (w8.alloc (.cells #[.int .i64 (tn : Nat), .int .i64 0, .slice ar tm cr] 29)) ar tm R) := ns.rows.to b9 (Nat.le_refl _)
      have wd9 : Hid (Wds (w8.alloc (.cells #[.int .i64 (tn : Nat), .int .i64 0, .slice ar tm cr] 29)) x 0 tn T.v) := wd.below b9 wd.lt
      have far1 : Hid (∀ y, ar = some y → ¬ P8 y.block) := fun y hy => (ns.far y hy).2
      have far2 : Hid (∀ i, i < tm → ∀ j, j < 3 → ∀ y, (R i j).ad = some y → 0 < (R i j).n → ¬ P8 y.block) := fun i hi j hj y hy h0 => (ns.lst i hi j hj y hy h0).2.1
      have fx : Hid (¬ P8 x) := nx
      have wlt : x < (w8.alloc (.cells #[.int .i64 (tn : Nat), .int .i64 0, .slice ar tm cr] 29)).heap.size := by have := wd.lt; simp only [szs]; omega
      have nok : Hid (∀ i j, (R i j).Ok) := ns.ok
      have sy' : Hid (SysOf T R) := sy
      have flt1 : Hid (∀ y, ar = some y → tm = 0 ∨ y.block < (w8.alloc (.cells #[.int .i64 (tn : Nat), .int .i64 0, .slice ar tm cr] 29)).heap.size) := fun y hy => by
        rcases r9.out with h | ⟨b0, o0, e, t⟩
        · exact Or.inl h
        · right
          rw [hy] at e
          cases e
          exact t.lt
      generalize (w8.alloc (.cells #[.int .i64 (tn : Nat), .int .i64 0, .slice ar tm cr] 29)) = W9 at *
      generalize w8.heap.size = bs at *
      clear cD hB7 qP' h8 k8 ns sy hd wd hx nx hfx hax hlx hB8 b9 p8lt g8
      have fT := fitM.out
      obtain ⟨bad, at_, hHold⟩ := hold_ex ((T.n : Nat) : Int) ((T.pub : Nat) : Int) T.m R T.n T.v
      have hz : Hid (bad = 0 ∧ at_ = -1) := (sy'.out.holds fT.1 (by omega) (Nat.le_trans fT.2.2 (by decide)) hHold).2 (by rw [← hT.out]; exact hshM_hold a b l i)
      have hm3 : T.m ≤ 3000 := fT.2.2
      have hn3 : T.n ≤ 3000 := fT.2.1
      have hlt := fT.1.lt
      rw [pM, htn.out, htm.out] at hHold
      rw [htn.out] at hn3
      rw [htm.out] at hm3
      have cH : Hid (∀ w1, KeepO P8 W9 w1 → Calls Try.prog 19 #[.agg #[.int .i64 (tn : Nat), .int .i64 0, .slice ar tm cr], .slice (some ⟨x, 0, none⟩) tn d] w1 fun e w' => ∃ er, e = .returned er ∧ ErrIs w1.heap.size w' er bad at_ ∧ Below w1.heap.size w1 w') := fun w1 hk =>
        hH'.out (tn : Nat) 0 ar tm cr R nok.out (by omega) (by omega) (by decide) (by decide) (by omega) (some ⟨x, 0, none⟩) tn d (by omega) T.v (fun j => Nat.lt_trans (hlt j) (by decide)) bad at_ hHold w1 ((r9.out.keepO hk far1.out far2.out).mono hk.size) (SrcW.of (wd9.out.keepO hk fx.out))
      have v9 : T.v 9 = (Ob.twoG (Ob.toG a) (Ob.toG b)).val := by rw [← hT.out]; exact hshM_two a b l i
      have vM : T.v vm = hdN i l i := by rw [← hT.out, ← hvm.out]; exact hshM_many a b l i
      have i9 : T.is 9 = 9 := by unfold Mk.is; rw [if_pos (by omega)]; rfl
      have iM : T.is (vm : Int) = vm := by unfold Mk.is; rw [if_pos (by have := hvm.out; omega), Int.toNat_natCast]
      have cV9 := hG'.out.value W9 P8 g T g9.out fitM.out 9 (by decide) (by decide)
      rw [i9, v9] at cV9
      have cVM : Hid (∀ W O, G W O g T → Calls Try.prog 13 #[.pointer (some ⟨g, 0, none⟩), .int .i64 (vm : Nat)] W fun e w' => e = .returned (.int .u64 (hdN i l i : Nat)) ∧ GAfter G O W w' g T) := fun W O h => by
        have := hG'.out.value W O g T h fitM.out (vm : Nat) (by omega) (by have := hvm.out; omega)
        rw [iM, vM] at this
        exact this
      have cK2 := ktwoW a b ha'.out hb'.out
      have cKM : Hid (∀ W, Below w.heap.size w W → Calls Try.prog 24 #[.slice ad i c] W fun e w' => e = .returned (.int .u64 (hdN i l i : Nat)) ∧ W = w') := fun W hW => kmanyW ad i c (by omega) l hl'.out W (hs'.out.to hW (Nat.le_refl _))
      obtain ⟨Z2, hZ2⟩ : ∃ Z, Hid ((Ob.twoG (Ob.toG a) (Ob.toG b)).val = Z) := ⟨_, rfl⟩
      obtain ⟨ZM, hZM⟩ : ∃ Z, Hid (hdN i l i = Z) := ⟨_, rfl⟩
      rw [hZ2.out] at cV9 cK2
      rw [hZM.out] at cVM cKM
      clear fT hHold hlt v9 vM i9 iM pM n63 nM hm3 hn3 htn htm nok sy' wd9 r9 far1 far2 fx flt1 hZ2 hZM hT
      go_wp2_with (first | (go_at_call 13; (with_reducible refine cV9.mono ?_); rintro e w10 ⟨rfl, P10, g10, p10, k10⟩; have hB10 : Below w.heap.size w w10 := k10.to_below hB9.out qP8.out) | (go_at_call 23; (with_reducible refine (cK2 _).mono ?_); rintro e w0 ⟨rfl, rfl⟩) | (go_at_call 13; (with_reducible refine (cVM.out _ P10 g10).mono ?_); rintro e w11 ⟨rfl, P11, g11, p11, k11⟩; have k911 : KeepO P8 W9 w11 := (k10.trans k11 fun j hj h => (by rcases p10 j h with h | h; exact h; omega)); have hB11 : Below w.heap.size w w11 := k911.to_below hB9.out qP8.out; have t11 := t3.out.keepO k911 nb.out; have ⟨d1, d2, d3, d4, d5, d6, d7⟩ := t11) | (go_at_call 24; (with_reducible refine (cKM.out _ hB11).mono ?_); rintro e w0 ⟨rfl, rfl⟩) | (go_at_call 19; (with_reducible refine (cH.out _ k911).mono ?_); rintro e w12 ⟨er, rfl, i12, b12⟩; obtain rfl := i12.nil_iff.2 hz.out; have hend : Hid (Below w.heap.size w w12) := below_via b12 hB11 hB11.size; clear i12 b12))
      go_ret
      exact ⟨rfl, hend.out⟩
end Go.Proofs.Ytdbolfmmlmoiaaa

namespace Go.Proofs.Ytdbolfmmlmoiaaa
open Go.ChangeShapes Go.WideShapes Go.ChangeAt Go.RowKit
set_option linter.unusedVariables false
set_option linter.unusedSimpArgs false

theorem cellsT2 : Try.prog.cellsOf 61 = 2 := by kernel_rfl
theorem cellsR3 : Try.prog.cellsOf 63 = 3 := by kernel_rfl
theorem cellsI1 : Try.prog.cellsOf 3 = 1 := by kernel_rfl
theorem cellsU1 : Try.prog.cellsOf 30 = 1 := by kernel_rfl
theorem cellsL1 : Try.prog.cellsOf 35 = 1 := by kernel_rfl
theorem addr_add2 (x : Addr) (k j : Nat) : (x.add k).add j = x.add (k + j) := by
  unfold Addr.add
  by_cases hk : k = 0 <;> by_cases hj : j = 0 <;> simp [hk, hj, Nat.add_assoc]
theorem addr_none (b off j : Nat) : (⟨b, off, none⟩ : Addr).add j = ⟨b, off + j, none⟩ := by unfold Addr.add; split <;> simp_all
theorem int_of {a : Int} (h : (Lit.int .i64 a).wf = true) : -9223372036854775808 ≤ a ∧ a < 9223372036854775808 := by
  have := bounds_i64 h
  omega
theorem list_two {l : List Value} (h : l.length = 2) : ∃ a b, l = [a, b] := by
  match l, h with
  | [a, b], _ => exact ⟨a, b, rfl⟩
theorem list_3 {l : List Value} (h : l.length = 3) : ∃ a b c, l = [a, b, c] := by
  match l, h with
  | [a, b, c], _ => exact ⟨a, b, c, rfl⟩
theorem nilLst (a : Option Addr) (c : Nat) (hc : c ≤ 9223372036854775807) (W : World) : ∃ L : Lst, L.ad = a ∧ L.n = 0 ∧ L.c = c ∧ L.Ok ∧ L.At W.heap.size W :=
  ⟨⟨a, 0, c, fun _ => 0, fun _ => 0⟩, rfl, rfl, rfl, ⟨fun i => (by show (-9223372036854775808 : Int) ≤ 0; decide), fun i => (by show (0 : Int) < 9223372036854775808; decide), fun i => (by show 0 < 18446744073709551616; decide), Nat.zero_le _, hc⟩, Or.inl rfl⟩
/-- Two cells that read as a term. -/
theorem open_term {H : Type} {enc : TypeId × Value → H} {W : World} {fuel : Nat} {cs : List Value} {x : DataW H × List MemPlace} (h : DataW.trod enc Try.prog W 0 (fun _ => true) true fuel 61 cs = some x) :
    ∃ (v : Int) (k : Nat), cs = [.int .i64 v, .int .u64 (k : Nat)] ∧ -9223372036854775808 ≤ v ∧ v < 9223372036854775808 ∧ k < 18446744073709551616 := by
  obtain ⟨y0, y1, n, hx, hlen, h0, h1⟩ := trod_struct2 Try.underlying61 h
  rw [cellsT2] at hlen
  obtain ⟨c0, c1, rfl⟩ := list_two hlen
  simp only [cellsI1, List.drop_zero, List.take_succ_cons, List.take_zero] at h0
  simp only [cellsU1, List.drop_succ_cons, List.drop_zero, List.take_succ_cons, List.take_zero] at h1
  obtain ⟨a, ea, _, wa⟩ := DataW.trod_int Try.underlying3 h0
  obtain ⟨b, eb, _, wb⟩ := DataW.trod_int Try.underlying30 h1
  simp at ea eb
  subst ea eb
  obtain ⟨k, rfl, hk⟩ := word_of wb
  have := int_of wa
  exact ⟨a, k, rfl, this.1, this.2, hk⟩
/-- A slice of terms that came in. -/
theorem open_list {H : Type} {enc : TypeId × Value → H} {W : World} {fuel : Nat} {a : Option Addr} {len cap : Nat} {x : DataW H × List MemPlace}
    (hf : DataW.trod enc Try.prog W 0 (fun _ => true) true fuel 35 [.slice a len cap] = some x) : ∃ L : Lst, L.ad = a ∧ L.n = len ∧ L.c = cap ∧ L.Ok ∧ L.At W.heap.size W := by
  rcases DataW.trod_slice Try.underlying35 hf with ⟨hcs, _⟩ | ⟨x, l, c, elems, rest, n, _, hcs, _, hb, hl, hm, hlen, hel, _, _⟩
  · simp at hcs
    obtain ⟨rfl, rfl, rfl⟩ := hcs
    exact nilLst none 0 (by decide) W
  · simp at hcs
    obtain ⟨rfl, rfl, rfl⟩ := hcs
    have hm' : cap ≤ 9223372036854775807 := by unfold maxLen at hm; omega
    by_cases h0 : len = 0
    · subst h0
      exact nilLst _ _ hm' W
    have each : ∀ i, i < len → ∃ q : Int × Nat, W.cell? (x.add (i * 2)) = some (.int .i64 q.1) ∧ W.cell? (x.add (i * 2 + 1)) = some (.int .u64 (q.2 : Nat)) ∧ -9223372036854775808 ≤ q.1 ∧ q.1 < 9223372036854775808 ∧ q.2 < 18446744073709551616 := by
      intro i hi
      have h1 := hel i hi
      obtain ⟨y, hy⟩ : ∃ y, elems[i]? = some y := ⟨elems[i]'(by omega), List.getElem?_eq_getElem (by omega)⟩
      rw [hy, Option.bind_eq_some_iff] at h1
      obtain ⟨cs, hc, ht⟩ := h1
      rw [cellsT2] at hc
      obtain ⟨_, _, hcell⟩ := World.cells?_some hc
      obtain ⟨v, k, rfl, hq⟩ := open_term ht
      have c0 := hcell 0 (by omega)
      have c1 := hcell 1 (by omega)
      rw [addr_add2] at c0 c1
      exact ⟨(v, k), by simpa using c0, by simpa using c1, hq⟩
    have hc0 := (each 0 (by omega)).choose_spec.1
    obtain ⟨b, off, spot⟩ := x
    have hspot : spot = none := by simpa [Addr.add] using World.cell?_spot hc0
    subst hspot
    simp only [addr_none] at each
    have hlt := World.block_lt_of_cell? _ _ hc0
    simp [Addr.add] at hlt
    refine ⟨⟨some ⟨b, off, none⟩, len, cap, fun i => if h : i < len then (each i h).choose.1 else 0, fun i => if h : i < len then (each i h).choose.2 else 0⟩, rfl, rfl, rfl, ⟨?_, ?_, ?_, hl, hm'⟩, Or.inr ⟨b, off, rfl, hlt, hlt, ?_, ?_⟩⟩
    · intro i
      dsimp only
      split
      · rename_i h; exact (each i h).choose_spec.2.2.1
      · decide
    · intro i
      dsimp only
      split
      · rename_i h; exact (each i h).choose_spec.2.2.2.1
      · decide
    · intro i
      dsimp only
      split
      · rename_i h; exact (each i h).choose_spec.2.2.2.2
      · decide
    · intro i hi
      dsimp only
      rw [dif_pos hi]
      exact (each i hi).choose_spec.1
    · intro i hi
      dsimp only
      rw [dif_pos hi]
      exact (each i hi).choose_spec.2.1
/-- A slice of terms that came in, whole. -/
theorem open_list' {H : Type} {enc : TypeId × Value → H} {W : World} {fuel : Nat} {cs : List Value} {x : DataW H × List MemPlace}
    (hf : DataW.trod enc Try.prog W 0 (fun _ => true) true fuel 35 cs = some x) : ∃ L : Lst, cs = [L.val] ∧ L.Ok ∧ L.At W.heap.size W := by
  obtain ⟨a, l, c, rfl⟩ : ∃ a l c, cs = [.slice a l c] := by
    rcases DataW.trod_slice Try.underlying35 hf with ⟨hcs, _⟩ | ⟨x, l, c, elems, rest, n, _, hcs, _⟩
    · exact ⟨_, _, _, hcs⟩
    · exact ⟨_, _, _, hcs⟩
  obtain ⟨L, rfl, rfl, rfl, h1, h2⟩ := open_list hf
  exact ⟨L, rfl, h1, h2⟩
/-- Three cells that read as a row. -/
theorem open_row {H : Type} {enc : TypeId × Value → H} {W : World} {fuel : Nat} {cs : List Value} {x : DataW H × List MemPlace} (h : DataW.trod enc Try.prog W 0 (fun _ => true) true fuel 63 cs = some x) :
    ∃ q : Nat → Lst, cs = [(q 0).val, (q 1).val, (q 2).val] ∧ (∀ j, (q j).Ok) ∧ ∀ j, (q j).At W.heap.size W := by
  obtain ⟨xs, n, _, _, hlen, hxl, hf⟩ := DataW.trod_struct Try.underlying63 h
  rw [cellsR3] at hlen
  obtain ⟨c0, c1, c2, rfl⟩ := list_3 hlen
  have g0 := hf 0 _ rfl
  have g1 := hf 1 _ rfl
  have g2 := hf 2 _ rfl
  simp [cellsL1] at g0 g1 g2
  cases h0 : xs[0]? with
  | none => have := List.getElem?_eq_none_iff.mp h0; simp at hxl; omega
  | some y0 =>
  cases h1 : xs[1]? with
  | none => have := List.getElem?_eq_none_iff.mp h1; simp at hxl; omega
  | some y1 =>
  cases h2 : xs[2]? with
  | none => have := List.getElem?_eq_none_iff.mp h2; simp at hxl; omega
  | some y2 =>
  rw [h0] at g0
  rw [h1] at g1
  rw [h2] at g2
  obtain ⟨A, eA, oA, tA⟩ := open_list' g0
  obtain ⟨B, eB, oB, tB⟩ := open_list' g1
  obtain ⟨C, eC, oC, tC⟩ := open_list' g2
  simp at eA eB eC
  subst eA eB eC
  refine ⟨fun j => match j with | 0 => A | 1 => B | _ => C, rfl, fun j => ?_, fun j => ?_⟩
  · match j with
    | 0 => exact oA
    | 1 => exact oB
    | _ + 2 => exact oC
  · match j with
    | 0 => exact tA
    | 1 => exact tB
    | _ + 2 => exact tC
/-- A slice of rows that came in. -/
theorem open_rows {H : Type} {enc : TypeId × Value → H} {W : World} {fuel : Nat} {cs : List Value} {x : DataW H × List MemPlace}
    (hf : DataW.trod enc Try.prog W 0 (fun _ => true) true fuel 27 cs = some x) : ∃ (a : Option Addr) (m c : Nat) (R : Nat → Nat → Lst), cs = [.slice a m c] ∧ m ≤ c ∧ c ≤ 9223372036854775807 ∧ (∀ i j, (R i j).Ok) ∧ RowsAt W.heap.size W a m R := by
  have nil := fun (a : Option Addr) (c : Nat) (hc : c ≤ 9223372036854775807) => (⟨a, 0, c, fun _ _ => (nilLst none 0 (by decide) W).choose, rfl, Nat.zero_le _, hc, fun _ _ => (nilLst none 0 (by decide) W).choose_spec.2.2.2.1, Or.inl rfl⟩ : ∃ (a' : Option Addr) (m c' : Nat) (R : Nat → Nat → Lst), [Value.slice a 0 c] = [.slice a' m c'] ∧ m ≤ c' ∧ c' ≤ 9223372036854775807 ∧ (∀ i j, (R i j).Ok) ∧ RowsAt W.heap.size W a' m R)
  rcases DataW.trod_slice Try.underlying27 hf with ⟨rfl, _⟩ | ⟨x, len, cap, elems, rest, n, _, rfl, _, hb, hl, hm, hlen, hel, _, _⟩
  · exact nil none 0 (by decide)
  · have hm' : cap ≤ 9223372036854775807 := by unfold maxLen at hm; omega
    by_cases h0 : len = 0
    · subst h0
      exact nil _ _ hm'
    have each : ∀ i, i < len → ∃ q : Nat → Lst, (W.cell? (x.add (i * 3)) = some (q 0).val ∧ W.cell? (x.add (i * 3 + 1)) = some (q 1).val ∧ W.cell? (x.add (i * 3 + 2)) = some (q 2).val) ∧ (∀ j, (q j).Ok) ∧ ∀ j, (q j).At W.heap.size W := by
      intro i hi
      have h1 := hel i hi
      obtain ⟨y, hy⟩ : ∃ y, elems[i]? = some y := ⟨elems[i]'(by omega), List.getElem?_eq_getElem (by omega)⟩
      rw [hy, Option.bind_eq_some_iff] at h1
      obtain ⟨cs, hc, ht⟩ := h1
      rw [cellsR3] at hc
      obtain ⟨_, _, hcell⟩ := World.cells?_some hc
      obtain ⟨q, rfl, hq⟩ := open_row ht
      have c0 := hcell 0 (by omega)
      have c1 := hcell 1 (by omega)
      have c2 := hcell 2 (by omega)
      rw [addr_add2] at c0 c1 c2
      exact ⟨q, ⟨by simpa using c0, by simpa using c1, by simpa using c2⟩, hq⟩
    have hc0 := (each 0 (by omega)).choose_spec.1.1
    obtain ⟨b, off, spot⟩ := x
    have hspot : spot = none := by simpa [Addr.add] using World.cell?_spot hc0
    subst hspot
    simp only [addr_none] at each
    have hlt := World.block_lt_of_cell? _ _ hc0
    simp [Addr.add] at hlt
    have nl := nilLst none 0 (by decide) W
    refine ⟨some ⟨b, off, none⟩, len, cap, fun i => if h : i < len then (each i h).choose else fun _ => nl.choose, rfl, hl, hm', fun i j => ?_, Or.inr ⟨b, off, rfl, hlt, fun i hi j hj => ?_, fun i hi j hj => ?_⟩⟩
    · dsimp only
      by_cases h : i < len
      · rw [dif_pos h]; exact (each i h).choose_spec.2.1 j
      · rw [dif_neg h]; exact nl.choose_spec.2.2.2.1
    · (try dsimp only)
      rw [dif_pos hi]
      obtain ⟨e0, e1, e2⟩ := (each i hi).choose_spec.1
      obtain rfl | rfl | rfl : j = 0 ∨ j = 1 ∨ j = 2 := by omega
      · exact e0
      · exact e1
      · exact e2
    · (try dsimp only)
      rw [dif_pos hi]
      exact (each i hi).choose_spec.2.2 j
set_option maxRecDepth 100000 in
/-- A system that came in. -/
theorem open_Rank {H : Type} {enc : TypeId × Value → H} {W : World} {r : Reach} {b0 : Nat} {v : Value} {d : DataW H} {p : List MemPlace} (hv : Value.okWide Try.prog W r b0 29 v)
    (h : DataW.Trod enc Try.prog W 0 (fun _ => true) true 29 v d p) : ∃ (vars pubs : Int) (a : Option Addr) (m c : Nat) (R : Nat → Nat → Lst), v = rankV vars pubs a m c ∧
      (-9223372036854775808 ≤ vars ∧ vars < 9223372036854775808) ∧ (-9223372036854775808 ≤ pubs ∧ pubs < 9223372036854775808) ∧ m ≤ c ∧ c ≤ 9223372036854775807 ∧ (∀ i j, (R i j).Ok) ∧ RowsAt W.heap.size W a m R := by
  obtain ⟨v0, v1, v2, y0, y1, y2, n, rfl, _, _, h0, h1, h2⟩ := Go.Joins.open_agg3 Try.underlying29 (by kernel_rfl) (by kernel_rfl) hv h
  obtain ⟨vars, e0, _, w0⟩ := DataW.trod_int Try.underlying3 h0
  obtain ⟨pubs, e1, _, w1⟩ := DataW.trod_int Try.underlying3 h1
  obtain ⟨a, m, c, R, e2, hmc, hc, hO, hR⟩ := open_rows h2
  simp at e0 e1 e2
  subst e0 e1 e2
  exact ⟨vars, pubs, a, m, c, R, rfl, int_of w0, int_of w1, hmc, hc, hO, hR⟩
end Go.Proofs.Ytdbolfmmlmoiaaa

namespace Go.Proofs.Ytdbolfmmlmoiaaa
open Go.ChangeShapes Go.WideShapes Go.ChangeAt Go.RowKit
set_option linter.unusedVariables false
set_option linter.unusedSimpArgs false
theorem list_7 {l : List Value} (h : l.length = 7) : ∃ a b c d e f g, l = [a, b, c, d, e, f, g] := by
  match l, h with
  | [a, b, c, d, e, f, g], _ => exact ⟨a, b, c, d, e, f, g, rfl⟩
theorem cellsN1 : Try.prog.cellsOf 36 = 1 := by kernel_rfl
/-- A slice of integers that came in. -/
theorem idsAt_of_isRow {w : World} {a : Option Addr} {len cap : Nat} {zs : List Int} (h : IsRow .i64 w a len cap zs) :
    ∃ V : Nat → Int, (∀ i, -9223372036854775808 ≤ V i ∧ V i < 9223372036854775808) ∧ IdsAt w.heap.size w a len V := by
  rcases h with ⟨rfl, rfl, rfl, rfl⟩ | ⟨x, rfl, h1, h2, h3, hcell, hwz⟩
  · exact ⟨fun _ => 0, fun _ => (by show (-9223372036854775808 : Int) ≤ 0 ∧ (0 : Int) < 9223372036854775808; decide), Or.inl rfl⟩
  · have hb : ∀ i, -9223372036854775808 ≤ zs.getD i 0 ∧ zs.getD i 0 < 9223372036854775808 := fun i => by
      rcases Nat.lt_or_ge i zs.length with hi | hi
      · have hm : zs.getD i 0 ∈ zs := by simp [List.getD, List.getElem?_eq_getElem hi]
        have := bounds_i64 (hwz _ hm)
        omega
      · simp [List.getD, List.getElem?_eq_none hi]
    refine ⟨fun i => zs.getD i 0, hb, ?_⟩
    by_cases hl : len = 0
    · exact Or.inl hl
    · obtain ⟨b, off, spot⟩ := x
      have hc := hcell 0 (by omega)
      have hspot : spot = none := by simpa [Addr.add] using World.cell?_spot hc
      subst hspot
      have hbl : b < w.heap.size := by have := World.block_lt_of_cell? _ _ hc; simpa [Addr.add] using this
      refine Or.inr ⟨b, off, rfl, hbl, hbl, fun i hi => ?_⟩
      have h := hcell i (by omega)
      rw [addr_none] at h
      exact h
theorem open_ints {H : Type} {enc : TypeId × Value → H} {W : World} {fuel : Nat} {cs : List Value} {x : DataW H × List MemPlace}
    (hf : DataW.trod enc Try.prog W 0 (fun _ => true) true fuel 36 cs = some x) : ∃ (a : Option Addr) (n c : Nat) (V : Nat → Int), cs = [.slice a n c] ∧ (∀ i, -9223372036854775808 ≤ V i ∧ V i < 9223372036854775808) ∧ IdsAt W.heap.size W a n V := by
  obtain ⟨a, l, c, rfl⟩ : ∃ a l c, cs = [.slice a l c] := by
    rcases DataW.trod_slice Try.underlying36 hf with ⟨hcs, _⟩ | ⟨x, l, c, elems, rest, n, _, hcs, _⟩
    · exact ⟨_, _, _, hcs⟩
    · exact ⟨_, _, _, hcs⟩
  obtain ⟨zs, hz⟩ := isRow_of (k := .i64) Try.underlying36 Try.underlying3 (by kernel_rfl) (W := W) (a := a) (len := l) (cap := c) (d := x.1) (p := x.2) ⟨fuel, hf⟩
  obtain ⟨V, h1, h2⟩ := idsAt_of_isRow hz
  exact ⟨a, l, c, V, rfl, h1, h2⟩
theorem cellsD7 : Try.prog.cellsOf 38 = 7 := by kernel_rfl
/-- The seven cells of a deed. -/
def Dd.cells (d : Dd) : List Value := [.int .i64 d.what, .int .i64 d.a, .int .i64 d.b, .int .i64 d.n, .int .u64 (d.k : Nat), d.L.val, .slice d.ad d.m d.c]
set_option maxHeartbeats 1000000 in
/-- Seven cells that read as a deed. -/
theorem open_deed {H : Type} {enc : TypeId × Value → H} {W : World} {fuel : Nat} {cs : List Value} {x : DataW H × List MemPlace} (h : DataW.trod enc Try.prog W 0 (fun _ => true) true fuel 38 cs = some x) :
    ∃ d : Dd, cs = d.cells ∧ d.At W.heap.size W := by
  obtain ⟨xs, n, _, _, hlen, hxl, hf⟩ := DataW.trod_struct Try.underlying38 h
  rw [cellsD7] at hlen
  obtain ⟨c0, c1, c2, c3, c4, c5, c6, rfl⟩ := list_7 hlen
  have g0 := hf 0 _ rfl
  have g1 := hf 1 _ rfl
  have g2 := hf 2 _ rfl
  have g3 := hf 3 _ rfl
  have g4 := hf 4 _ rfl
  have g5 := hf 5 _ rfl
  have g6 := hf 6 _ rfl
  simp [cellsL1, cellsI1, cellsU1, cellsN1] at g0 g1 g2 g3 g4 g5 g6
  have ex : ∀ i, i < 7 → ∃ y, xs[i]? = some y := fun i hi => ⟨xs[i]'(by simp at hxl; omega), List.getElem?_eq_getElem (by simp at hxl; omega)⟩
  obtain ⟨y0, e0⟩ := ex 0 (by decide)
  obtain ⟨y1, e1⟩ := ex 1 (by decide)
  obtain ⟨y2, e2⟩ := ex 2 (by decide)
  obtain ⟨y3, e3⟩ := ex 3 (by decide)
  obtain ⟨y4, e4⟩ := ex 4 (by decide)
  obtain ⟨y5, e5⟩ := ex 5 (by decide)
  obtain ⟨y6, e6⟩ := ex 6 (by decide)
  rw [e0] at g0
  rw [e1] at g1
  rw [e2] at g2
  rw [e3] at g3
  rw [e4] at g4
  rw [e5] at g5
  rw [e6] at g6
  obtain ⟨a0, q0, _, w0⟩ := DataW.trod_int Try.underlying3 g0
  obtain ⟨a1, q1, _, w1⟩ := DataW.trod_int Try.underlying3 g1
  obtain ⟨a2, q2, _, w2⟩ := DataW.trod_int Try.underlying3 g2
  obtain ⟨a3, q3, _, w3⟩ := DataW.trod_int Try.underlying3 g3
  obtain ⟨a4, q4, _, w4⟩ := DataW.trod_int Try.underlying30 g4
  obtain ⟨L, q5, oL, tL⟩ := open_list' g5
  obtain ⟨ad, m, c, V, q6, hV, tV⟩ := open_ints g6
  simp at q0 q1 q2 q3 q4 q5 q6
  subst q0 q1 q2 q3 q4 q5 q6
  obtain ⟨k, rfl, hk⟩ := word_of w4
  exact ⟨⟨a0, a1, a2, a3, k, L, ad, m, c, V⟩, rfl, int_of w0, int_of w1, int_of w2, int_of w3, hk, oL, hV, tL, tV⟩
/-- n deeds, from a place on; a slice of deeds that lies below block B, or has none. -/
structure DdsIn (B : Nat) (w : World) (b off n : Nat) (D : Nat → Dd) : Prop where
  lt : b < B
  cell : ∀ i, i < n → ∀ j u, (D i).cells[j]? = some u → w.cell? ⟨b, off + i * 7 + j, none⟩ = some u
  at_ : ∀ i, i < n → (D i).At B w
def DdsAt (B : Nat) (w : World) (a : Option Addr) (n : Nat) (D : Nat → Dd) : Prop := n = 0 ∨ ∃ b off : Nat, a = some ⟨b, off, none⟩ ∧ DdsIn B w b off n D
/-- A slice of deeds that came in. -/
theorem open_deeds {H : Type} {enc : TypeId × Value → H} {W : World} {fuel : Nat} {cs : List Value} {x : DataW H × List MemPlace}
    (hf : DataW.trod enc Try.prog W 0 (fun _ => true) true fuel 22 cs = some x) : ∃ (a : Option Addr) (n c : Nat) (D : Nat → Dd), cs = [.slice a n c] ∧ n ≤ c ∧ c ≤ 9223372036854775807 ∧ DdsAt W.heap.size W a n D := by
  have d0 : Dd := ⟨0, 0, 0, 0, 0, lstOf [], none, 0, 0, fun _ => 0⟩
  rcases DataW.trod_slice Try.underlying22 hf with ⟨rfl, _⟩ | ⟨x, len, cap, elems, rest, n, _, rfl, _, hb, hl, hm, hlen, hel, _, _⟩
  · exact ⟨none, 0, 0, fun _ => d0, rfl, Nat.le_refl _, by decide, Or.inl rfl⟩
  · have hm' : cap ≤ 9223372036854775807 := by unfold maxLen at hm; omega
    by_cases h0 : len = 0
    · subst h0
      exact ⟨_, 0, cap, fun _ => d0, rfl, Nat.zero_le _, hm', Or.inl rfl⟩
    have each : ∀ i, i < len → ∃ d : Dd, (∀ j u, d.cells[j]? = some u → W.cell? (x.add (i * 7 + j)) = some u) ∧ d.At W.heap.size W := by
      intro i hi
      have h1 := hel i hi
      obtain ⟨y, hy⟩ : ∃ y, elems[i]? = some y := ⟨elems[i]'(by omega), List.getElem?_eq_getElem (by omega)⟩
      rw [hy, Option.bind_eq_some_iff] at h1
      obtain ⟨cs, hc, ht⟩ := h1
      rw [cellsD7] at hc
      obtain ⟨_, _, hcell⟩ := World.cells?_some hc
      obtain ⟨d, rfl, hd⟩ := open_deed ht
      refine ⟨d, fun j u hu => ?_, hd⟩
      have hj : j < 7 := (List.getElem?_eq_some_iff.1 hu).1
      have cj := hcell j (by omega)
      rw [addr_add2, hu] at cj
      exact cj
    have hc0 := (each 0 (by omega)).choose_spec.1 0 _ rfl
    obtain ⟨b, off, spot⟩ := x
    have hspot : spot = none := by simpa [Addr.add] using World.cell?_spot hc0
    subst hspot
    simp only [addr_none] at each
    have hlt := World.block_lt_of_cell? _ _ hc0
    simp [Addr.add] at hlt
    refine ⟨some ⟨b, off, none⟩, len, cap, fun i => if h : i < len then (each i h).choose else d0, rfl, hl, hm', Or.inr ⟨b, off, rfl, hlt, fun i hi j u hu => ?_, fun i hi => ?_⟩⟩
    · (try dsimp only at hu)
      rw [dif_pos hi] at hu
      rw [Nat.add_assoc]
      exact (each i hi).choose_spec.1 j u hu
    · (try dsimp only)
      rw [dif_pos hi]
      exact (each i hi).choose_spec.2
set_option maxRecDepth 100000 in
/-- As an argument. -/
theorem open_Dds {H : Type} {enc : TypeId × Value → H} {W : World} {r : Reach} {b0 : Nat} {v : Value} {d : DataW H} {p : List MemPlace} (hv : Value.okWide Try.prog W r b0 22 v)
    (h : DataW.Trod enc Try.prog W 0 (fun _ => true) true 22 v d p) : ∃ (a : Option Addr) (n c : Nat) (D : Nat → Dd), v = .slice a n c ∧ n ≤ 9223372036854775807 ∧ DdsAt W.heap.size W a n D := by
  obtain ⟨a, len, cap, rfl⟩ := okWide_slice Try.underlying22 hv
  obtain ⟨fuel, hf⟩ := h
  obtain ⟨a', n, c, D, e, h1, h2, h3⟩ := open_deeds hf
  simp [Value.cells] at e
  obtain ⟨rfl, rfl, rfl⟩ := e
  exact ⟨_, _, _, D, rfl, by omega, h3⟩
end Go.Proofs.Ytdbolfmmlmoiaaa

namespace Go.Proofs.Ytdbolfmmlmoiaaa
open Go.RowKit Go.Proofs
set_option linter.unusedVariables false
set_option linter.unusedSimpArgs false
/-- What a deed makes is little. -/
theorem Mk.deed_few (S : Mk) (d : Dd) (h : d.m ≤ 5) : (S.deed d).n ≤ S.n + 59 ∧ (S.deed d).m ≤ S.m + 59 := by
  unfold Mk.deed
  split
  · split
    · omega
    · exact ⟨(show S.n + 1 ≤ S.n + 59 by omega), (show S.m ≤ S.m + 59 by omega)⟩
  · exact ⟨(show S.n + 1 ≤ S.n + 59 by omega), (show S.m ≤ S.m + 59 by omega)⟩
  · exact ⟨(show S.n + 1 ≤ S.n + 59 by omega), (show S.m + 1 ≤ S.m + 59 by omega)⟩
  · exact ⟨(show S.n + 1 ≤ S.n + 59 by omega), (show S.m + 1 ≤ S.m + 59 by omega)⟩
  · have h1 := Mk.bitsN_n S (S.v (S.is d.a)) (bitsOf d.n)
    have h2 := bitsN_m S (S.v (S.is d.a)) (bitsOf d.n)
    have h3 := bitsOf_le d.n
    refine ⟨?_, ?_⟩
    · show (S.bitsN (S.v (S.is d.a)) (bitsOf d.n)).n ≤ _; omega
    · show (S.bitsN (S.v (S.is d.a)) (bitsOf d.n)).m + 1 ≤ _; omega
  · exact ⟨(show S.n + 1 ≤ S.n + 59 by omega), (show S.m + 1 ≤ S.m + 59 by omega)⟩
  · exact ⟨(show S.n ≤ S.n + 59 by omega), (show S.m + 1 ≤ S.m + 59 by omega)⟩
  · exact ⟨by rw [Mk.two_n]; omega, by rw [two_m]; omega⟩
  · exact ⟨by rw [Mk.manyV_n]; omega, by rw [manyV_m]; omega⟩
/-- A script played: i deeds (those that are short), from the beginning on. -/
def Mk.plays (D : Nat → Dd) : Nat → Mk
  | 0 => Mk.new
  | i + 1 => if (D i).small = true then (Mk.plays D i).deed (D i) else Mk.plays D i
theorem plays_yes {D : Nat → Dd} {i : Nat} (h : (D i).small = true) : Mk.plays D (i + 1) = (Mk.plays D i).deed (D i) := if_pos h
theorem plays_no {D : Nat → Dd} {i : Nat} (h : (D i).small = false) : Mk.plays D (i + 1) = Mk.plays D i := if_neg (by rw [h]; decide)
theorem small_le {d : Dd} (h : d.small = true) : d.L.n ≤ 20 ∧ d.m ≤ 5 := by unfold Dd.small at h; exact of_decide_eq_true h
theorem plays_good (D : Nat → Dd) : ∀ i, (Mk.plays D i).Good
  | 0 => Mk.good_new
  | i + 1 => by
    cases h : (D i).small with
    | true => rw [plays_yes h]; exact (plays_good D i).deed _
    | false => rw [plays_no h]; exact plays_good D i
theorem plays_few (D : Nat → Dd) : ∀ i, (Mk.plays D i).n ≤ 1 + 59 * i ∧ (Mk.plays D i).m ≤ 59 * i
  | 0 => ⟨Nat.le_refl _, Nat.le_refl _⟩
  | i + 1 => by
    have ih := plays_few D i
    cases h : (D i).small with
    | true =>
      rw [plays_yes h]
      have := Mk.deed_few (Mk.plays D i) (D i) (small_le h).2
      omega
    | false => rw [plays_no h]; omega
theorem plays_fit (D : Nat → Dd) {i : Nat} (h : i ≤ 20) : (Mk.plays D i).fit := by
  have := plays_few D i
  exact ⟨plays_good D i, by omega, by omega⟩
/-- What was asked for, by the first i deeds. -/
def askedN (D : Nat → Dd) : Nat → Prop
  | 0 => True
  | i + 1 => askedN D i ∧ ((D i).small = true → (Mk.plays D i).asks (D i))
/-- What was made holds just if all that was asked is so. -/
theorem plays_hold (D : Nat → Dd) : ∀ i, (Mk.plays D i).Hold ↔ askedN D i
  | 0 => ⟨fun _ => trivial, fun _ => Mk.hold_new⟩
  | i + 1 => by
    cases h : (D i).small with
    | true =>
      rw [plays_yes h, Mk.hold_deed (plays_good D i), plays_hold D i]
      exact ⟨fun k => ⟨k.1, fun _ => k.2⟩, fun k => ⟨k.1, k.2 h⟩⟩
    | false =>
      rw [plays_no h, plays_hold D i]
      exact ⟨fun k => ⟨k, fun e => by rw [h] at e; cases e⟩, fun k => k.1⟩
/-- Two scripts, numbers apart the same: of one shape. -/
theorem plays_shape (D : Nat → Dd) (k : Nat → Nat) : ∀ i, Shp (Mk.plays D i) (Mk.plays (fun j => (D j).by_ (k j)) i)
  | 0 => Shp.refl _
  | i + 1 => by
    have ih := plays_shape D k i
    have e : ((D i).by_ (k i)).small = (D i).small := rfl
    cases h : (D i).small with
    | true =>
      rw [plays_yes h, plays_yes (D := fun j => (D j).by_ (k j)) (e.trans h)]
      exact ih.deed (D i) (k i)
    | false =>
      rw [plays_no h, plays_no (D := fun j => (D j).by_ (k j)) (e.trans h)]
      exact ih
end Go.Proofs.Ytdbolfmmlmoiaaa

namespace Go.Proofs.Ytdbolfmmlmoiaaa
open Go.RowKit Go.Proofs
set_option linter.unusedVariables false
set_option linter.unusedSimpArgs false
/-- A deed in a variable. -/
structure DdB (w : World) (b : Nat) (d : Dd) : Prop where
  c0 : w.cell? ⟨b, 0, none⟩ = some (.int .i64 d.what)
  c1 : w.cell? ⟨b, 1, none⟩ = some (.int .i64 d.a)
  c2 : w.cell? ⟨b, 2, none⟩ = some (.int .i64 d.b)
  c3 : w.cell? ⟨b, 3, none⟩ = some (.int .i64 d.n)
  c4 : w.cell? ⟨b, 4, none⟩ = some (.int .u64 (d.k : Nat))
  c5 : w.cell? ⟨b, 5, none⟩ = some (.slice d.L.ad d.L.n d.L.c)
  c6 : w.cell? ⟨b, 6, none⟩ = some (.slice d.ad d.m d.c)
  fr : ∀ o, w.frozen? ⟨b, o, none⟩ = false
  lt : b < w.heap.size
theorem DdB.keepO {O : Nat → Prop} {w w' : World} {b : Nat} {d : Dd} (h : DdB w b d) (hk : KeepO O w w') (hb : ¬ O b) : DdB w' b d :=
  ⟨hk.cell h.c0 hb, hk.cell h.c1 hb, hk.cell h.c2 hb, hk.cell h.c3 hb, hk.cell h.c4 hb, hk.cell h.c5 hb, hk.cell h.c6 hb, fun o => (hk.frozen h.lt hb).trans (h.fr o), Nat.lt_of_lt_of_le h.lt hk.size⟩
theorem DdB.below {w w' : World} {B b : Nat} {d : Dd} (h : DdB w b d) (hb : Below B w w') (hl : b < B) (hB : B ≤ w.heap.size) : DdB w' b d :=
  h.keepO (O := fun k => B ≤ k) ⟨hb.os, hb.tape, hb.output, hb.size, fun k hk hn => hb.block k (by omega)⟩ (by omega)
/-- A new variable that holds a deed. -/
theorem DdB.new (w : World) (d : Dd) (T : TypeId) : DdB (w.alloc (.cells #[.int .i64 d.what, .int .i64 d.a, .int .i64 d.b, .int .i64 d.n, .int .u64 (d.k : Nat), .slice d.L.ad d.L.n d.L.c, .slice d.ad d.m d.c] T)) w.heap.size d := by
  constructor
  all_goals (try intro o)
  all_goals simp [go_sem]
theorem DdB.cells {w : World} {b : Nat} {d : Dd} (h : DdB w b d) : w.cell? ⟨b, 0, none⟩ = some (.int .i64 d.what) ∧ w.cell? ⟨b, 1, none⟩ = some (.int .i64 d.a) ∧ w.cell? ⟨b, 2, none⟩ = some (.int .i64 d.b) ∧ w.cell? ⟨b, 3, none⟩ = some (.int .i64 d.n) ∧ w.cell? ⟨b, 4, none⟩ = some (.int .u64 (d.k : Nat)) ∧ w.cell? ⟨b, 5, none⟩ = some (.slice d.L.ad d.L.n d.L.c) ∧ w.cell? ⟨b, 6, none⟩ = some (.slice d.ad d.m d.c) :=
  ⟨h.c0, h.c1, h.c2, h.c3, h.c4, h.c5, h.c6⟩
/-- Its number is turned. -/
theorem DdB.setK {w : World} {b : Nat} {d : Dd} (h : DdB w b d) (k : Nat) : DdB (w.setCell ⟨b, 4, none⟩ (.int .u64 (k : Nat))) b (d.by_ k) := by
  have ho : ∀ j, j ≠ 4 → (w.setCell ⟨b, 4, none⟩ (.int .u64 (k : Nat))).cell? ⟨b, j, none⟩ = w.cell? ⟨b, j, none⟩ := fun j hj => World.cell?_setCell_other _ _ _ _ (by intro e; simp only [Addr.mk.injEq] at e; omega)
  exact ⟨(ho 0 (by decide)).trans h.c0, (ho 1 (by decide)).trans h.c1, (ho 2 (by decide)).trans h.c2, (ho 3 (by decide)).trans h.c3, World.cell?_setCell_same' _ _ _ (by rw [h.c4]; rfl), (ho 5 (by decide)).trans h.c5, (ho 6 (by decide)).trans h.c6, fun o => by rw [World.frozen?_setCell]; exact h.fr o, by simpa using h.lt⟩
theorem DdB.cellsK {w : World} {b k : Nat} {d : Dd} (h : DdB w b (d.by_ k)) : w.cell? ⟨b, 0, none⟩ = some (.int .i64 d.what) ∧ w.cell? ⟨b, 1, none⟩ = some (.int .i64 d.a) ∧ w.cell? ⟨b, 2, none⟩ = some (.int .i64 d.b) ∧ w.cell? ⟨b, 3, none⟩ = some (.int .i64 d.n) ∧ w.cell? ⟨b, 4, none⟩ = some (.int .u64 (k : Nat)) ∧ w.cell? ⟨b, 5, none⟩ = some (.slice d.L.ad d.L.n d.L.c) ∧ w.cell? ⟨b, 6, none⟩ = some (.slice d.ad d.m d.c) := h.cells
theorem Dd.At.by_ {d : Dd} {B : Nat} {w : World} (h : d.At B w) (k : Nat) (hk : k < 18446744073709551616) : (d.by_ k).At B w := ⟨h.what, h.a, h.b, h.n, hk, h.L, h.V, h.l, h.v⟩
theorem DdsIn.below {B : Nat} {w w1 : World} {b off n : Nat} {D : Nat → Dd} (h : DdsIn B w b off n D) (hb : Below B w w1) : ∀ i, i < n → ∀ j u, (D i).cells[j]? = some u → w1.cell? ⟨b, off + i * 7 + j, none⟩ = some u := fun i hi j u hu => by
  rw [(bcell hb).1 b _ h.lt]; exact h.cell i hi j u hu
/-- The i-th deed of a script. -/
theorem DdsIn.parts {B : Nat} {w w1 : World} {b off n : Nat} {D : Nat → Dd} (h : DdsIn B w b off n D) (hb : Below B w w1) {i : Nat} (hi : i < n) :
    w1.cell? ⟨b, off + i * 7, none⟩ = some (.int .i64 (D i).what) ∧ w1.cell? ⟨b, off + i * 7 + 1, none⟩ = some (.int .i64 (D i).a) ∧ w1.cell? ⟨b, off + i * 7 + 2, none⟩ = some (.int .i64 (D i).b) ∧ w1.cell? ⟨b, off + i * 7 + 3, none⟩ = some (.int .i64 (D i).n) ∧ w1.cell? ⟨b, off + i * 7 + 4, none⟩ = some (.int .u64 ((D i).k : Nat)) ∧ w1.cell? ⟨b, off + i * 7 + 5, none⟩ = some (.slice (D i).L.ad (D i).L.n (D i).L.c) ∧ w1.cell? ⟨b, off + i * 7 + 6, none⟩ = some (.slice (D i).ad (D i).m (D i).c) :=
  ⟨h.below hb i hi 0 _ rfl, h.below hb i hi 1 _ rfl, h.below hb i hi 2 _ rfl, h.below hb i hi 3 _ rfl, h.below hb i hi 4 _ rfl, h.below hb i hi 5 _ rfl, h.below hb i hi 6 _ rfl⟩
/-- A deed as a value, its parts told. -/
theorem Dd.val_parts (d : Dd) : d.val = .agg #[.int .i64 d.what, .int .i64 d.a, .int .i64 d.b, .int .i64 d.n, .int .u64 (d.k : Nat), .slice d.L.ad d.L.n d.L.c, .slice d.ad d.m d.c] := rfl
/-- A deed of a variable is played. -/
theorem KeepO.mono {O P : Nat → Prop} {w w' : World} (h : KeepO O w w') (hp : ∀ k, k < w.heap.size → O k → P k) : KeepO P w w' := ⟨h.os, h.tape, h.output, h.size, fun k hk hn => h.block k hk fun ho => hn (hp k hk ho)⟩
theorem KeepO.setBox (w : World) (b o : Nat) (v : Value) : KeepO (fun k => k = b) w (w.setCell ⟨b, o, none⟩ v) := KeepO.setCell w b o v rfl
end Go.Proofs.Ytdbolfmmlmoiaaa

namespace Go.Proofs.Ytdbolfmmlmoiaaa
open Go.RowKit Go.Proofs
set_option linter.unusedVariables false
set_option linter.unusedSimpArgs false
theorem equalIn_Trm (d : Nat) (w : World) (x y x' y' : Int) : (Op.equalIn (d + 2) 61 (.agg #[.int .i64 x, .int .u64 y]) (.agg #[.int .i64 x', .int .u64 y'])).run Try.prog w = .ok (x == x' && y == y') w := by
  have hA : ∀ w : World, (isAgg 3).run Try.prog w = .ok false w := fun w => by kernel_rfl
  have hB : ∀ w : World, (isAgg 30).run Try.prog w = .ok false w := fun w => by kernel_rfl
  have hI : ∀ (w : World) (a b : Int), (Op.equalIn (d + 1) 3 (.int .i64 a) (.int .i64 b)).run Try.prog w = .ok (a == b) w := fun w a b => run_equalIn_int w d _ _ .i64 a b Try.underlying3
  have hJ : ∀ (w : World) (a b : Int), (Op.equalIn (d + 1) 30 (.int .u64 a) (.int .u64 b)).run Try.prog w = .ok (a == b) w := fun w a b => run_equalIn_int w d _ _ .u64 a b Try.underlying30
  unfold Op.equalIn
  simp only [Sem.run_bind, run_underlying Try.underlying61]
  cases h : (x == x') with
  | true =>
    cases h2 : (y == y') with
    | true => simp [go_sem, hA, hB, hI, hJ, List.range', h, h2]
    | false => simp [go_sem, hA, hB, hI, hJ, List.range', h, h2]
  | false => simp [go_sem, hA, hB, hI, hJ, List.range', h]
theorem equal_Trm (w : World) (x y x' y' : Int) : (Op.equalIn 10000 61 (.agg #[.int .i64 x, .int .u64 y]) (.agg #[.int .i64 x', .int .u64 y'])).run Try.prog w = .ok (x == x' && y == y') w := equalIn_Trm 9998 w x y x' y'
end Go.Proofs.Ytdbolfmmlmoiaaa

namespace Go.Proofs.Ytdbolfmmlmoiaaa
open Go.RowKit Go.Proofs
set_option linter.unusedVariables false
set_option linter.unusedSimpArgs false
attribute [local go_sem ↓] Go.wp_at_zero Go.wp_at_succ

/-- Are the first i terms of two lists the same? -/
def eqT (A B : Lst) (i : Nat) : Bool := (A.V i == B.V i) && ((A.K i : Int) == (B.K i : Int))
def eqN (A B : Lst) : Nat → Bool
  | 0 => true
  | i + 1 => eqN A B i && eqT A B i
def sameB (A B : Lst) : Bool := decide (A.n = B.n) && eqN A B A.n
theorem eqN_not {A B : Lst} {n : Nat} (h : eqT A B n = false) : ∀ {m : Nat}, n < m → eqN A B m = false
  | m + 1, hm => by
    show (eqN A B m && eqT A B m) = false
    rcases Nat.lt_or_ge n m with h2 | h2
    · rw [eqN_not h h2]; rfl
    · obtain rfl : n = m := by omega
      rw [h, Bool.and_false]
set_option maxHeartbeats 4000000 in
theorem vsameW (A B : Lst) (hA : A.Ok) (hB : B.Ok) (w : World) (tA : A.At w.heap.size w) (tB : B.At w.heap.size w) :
    Calls Try.prog 46 #[A.val, B.val] w fun e w' => e = .returned (.bool (sameB A B)) ∧ Below w.heap.size w w' := by
  have tA' : Hid (A.At w.heap.size w) := tA
  have tB' : Hid (B.At w.heap.size w) := tB
  have nA : A.n ≤ 9223372036854775807 := Nat.le_trans hA.n1 hA.n2
  obtain ⟨S, hS⟩ : ∃ S, Hid (sameB A B = S) := ⟨_, rfl⟩
  rw [hS.out]
  clear tA tB hA hB
  unfold Lst.val
  by_cases hn : A.n = B.n
  · have hn0 : ((A.n : Int) == (B.n : Int)) = true := by rw [beq_iff_eq]; omega
    have hn1 : ((A.n : Int) != (B.n : Int)) = false := by rw [bne_eq_false_iff_eq]; omega
    have hS2 : Hid (eqN A B A.n = S) := by show _ = _; rw [← hS.out]; unfold sameB; rw [decide_eq_true hn]; rfl
    clear hS
    go_enter Try.func46, Try.ntmps46
    go_wp2
    go_loopw [5] (fun si wr => ∃ i : Nat, i ≤ A.n ∧ si = .int .i64 i ∧ Below w.heap.size w wr ∧ Hid (eqN A B i = true)) (fun si _ => A.n - (intOf si).toNat)
    case atStart => exact ⟨0, by omega, rfl, by (repeat' (first | (with_reducible first | exact Below.refl _ _ | assumption | refine Below.alloc ?_ ?_ _ | refine Below.drew ?_ | refine below_drewN ?_ _ | refine Below.setCell ?_ ?_ _ | refine below_via (by with_reducible assumption) ?_ ?_) | omega | (simp only [szs]; omega) | (simp only [szs] at *; omega))), rfl⟩
    case round =>
      obtain ⟨i, hi, rfl, hB, hI⟩ := hrel
      by_cases hlt : i < A.n
      · have hlt' : (i : Int) < (A.n : Int) := by omega
        have hlt2 : (i : Int) < (B.n : Int) := by omega
        rcases tA'.out with hz | ⟨ba, oa, ha, la, ta⟩
        · omega
        rcases tB'.out with hz | ⟨bb, ob, hb, lb, tb⟩
        · omega
        have c0 := (ta.below hB la).c0 i hlt
        have c1 := (ta.below hB la).c1 i hlt
        have c2 := (tb.below hB lb).c0 i (by omega)
        have c3 := (tb.below hB lb).c1 i (by omega)
        have he := fun w => equal_Trm w (A.V i) (A.K i) (B.V i) (B.K i)
        have hq : Hid ((A.V i == B.V i && ((A.K i : Int) == (B.K i : Int))) = eqT A B i) := rfl
        rw [hq.out] at he
        rw [ha, hb]
        clear ta tb la lb
        cases h1 : eqT A B i with
        | true =>
          rw [h1] at he
          have hI2 : Hid (eqN A B (i + 1) = true) := by show (eqN A B i && eqT A B i) = true; rw [hI.out, h1]; rfl
          generalize A.V i = Vi at *
          generalize A.K i = Ki at *
          generalize B.V i = Wi at *
          generalize B.K i = Li at *
          clear hq h1
          go_wp2
          go_quiet (fail)
          go_wp2
          go_roundw
          case rel => exact ⟨i + 1, by omega, by go_num, by (repeat' (first | (with_reducible first | exact Below.refl _ _ | assumption | refine Below.alloc ?_ ?_ _ | refine Below.drew ?_ | refine below_drewN ?_ _ | refine Below.setCell ?_ ?_ _ | refine below_via (by with_reducible assumption) ?_ ?_) | omega | (simp only [szs]; omega) | (simp only [szs] at *; omega))), hI2⟩
          case measure => (simp [intOf]; omega)
        | false =>
          rw [h1] at he
          obtain rfl : S = false := by rw [← hS2.out]; exact eqN_not h1 hlt
          generalize A.V i = Vi at *
          generalize A.K i = Ki at *
          generalize B.V i = Wi at *
          generalize B.K i = Li at *
          clear hq h1
          go_wp2
          go_quiet (fail)
          go_wp2
          go_ret
          exact ⟨rfl, by (repeat' (first | (with_reducible first | exact Below.refl _ _ | assumption | refine Below.alloc ?_ ?_ _ | refine Below.drew ?_ | refine below_drewN ?_ _ | refine Below.setCell ?_ ?_ _ | refine below_via (by with_reducible assumption) ?_ ?_) | omega | (simp only [szs]; omega) | (simp only [szs] at *; omega)))⟩
      · have hlt' : ¬ (i : Int) < (A.n : Int) := by omega
        obtain rfl : i = A.n := by omega
        obtain rfl : S = true := hS2.out.symm.trans hI.out
        go_wp2
        go_ret
        exact ⟨rfl, hB⟩
  · have hn0 : ((A.n : Int) == (B.n : Int)) = false := by rw [beq_eq_false_iff_ne]; omega
    have hn1 : ((A.n : Int) != (B.n : Int)) = true := by rw [bne_iff_ne]; omega
    obtain rfl : S = false := by rw [← hS.out]; unfold sameB; rw [decide_eq_false hn]; rfl
    go_enter Try.func46, Try.ntmps46
    go_wp2
    go_ret
    exact ⟨rfl, by (repeat' (first | (with_reducible first | exact Below.refl _ _ | assumption | refine Below.alloc ?_ ?_ _ | refine Below.drew ?_ | refine below_drewN ?_ _ | refine Below.setCell ?_ ?_ _ | refine below_via (by with_reducible assumption) ?_ ?_) | omega | (simp only [szs]; omega) | (simp only [szs] at *; omega)))⟩
end Go.Proofs.Ytdbolfmmlmoiaaa

namespace Go.Proofs.Ytdbolfmmlmoiaaa
open Go.RowKit Go.Proofs
set_option linter.unusedVariables false
set_option linter.unusedSimpArgs false
attribute [local go_sem ↓] Go.wp_at_zero Go.wp_at_succ
/-- Two lists that are sums of one list are the same. -/
theorem same_sums {L A B : Lst} (h : IsSum L A) (k : IsSum L B) : sameB A B = true := by
  obtain ⟨hn, hv⟩ := h.one k
  have key : ∀ i, i ≤ A.n → eqN A B i = true := by
    intro i
    induction i with
    | zero => exact fun _ => rfl
    | succ i ih =>
      intro hi
      show (eqN A B i && eqT A B i) = true
      rw [ih (by omega)]
      obtain ⟨h1, h2⟩ := hv i (by omega)
      unfold eqT
      rw [h1, h2]
      simp
  unfold sameB
  rw [decide_eq_true hn, key A.n (Nat.le_refl _)]
  rfl
theorem rows_of {B : Nat} {w : World} {b off m : Nat} {R : Nat → Nat → Lst} (t : RowsIn B w b off m R) {i : Nat} (hi : i < m) :
    w.cell? ⟨b, off + i * 3, none⟩ = some (.slice (R i 0).ad (R i 0).n (R i 0).c) ∧ w.cell? ⟨b, off + i * 3 + 1, none⟩ = some (.slice (R i 1).ad (R i 1).n (R i 1).c) ∧ w.cell? ⟨b, off + i * 3 + 2, none⟩ = some (.slice (R i 2).ad (R i 2).n (R i 2).c) :=
  ⟨t.cell i hi 0 (by decide), t.cell i hi 1 (by decide), t.cell i hi 2 (by decide)⟩
set_option maxRecDepth 8000 in
set_option maxHeartbeats 16000000 in
theorem vrankSameW (vars pubs : Int) (a a' : Option Addr) (m c c' : Nat) (hm : m ≤ 1000000) (R R' : Nat → Nat → Lst) (hO : ∀ i j, (R i j).Ok) (hO' : ∀ i j, (R' i j).Ok) (hS : ∀ i, i < m → ∀ j, j < 3 → sameB (R i j) (R' i j) = true) (w : World)
   (hR : RowsAt w.heap.size w a m R) (hR' : RowsAt w.heap.size w a' m R') :
    Calls Try.prog 16 #[rankV vars pubs a m c, rankV vars pubs a' m c'] w fun e w' => e = .returned (.bool true) ∧ Below w.heap.size w w' := by
  have rA : Hid (RowsAt w.heap.size w a m R) := hR
  have rB : Hid (RowsAt w.heap.size w a' m R') := hR'
  have oA : Hid (∀ i j, (R i j).Ok) := hO
  have oB : Hid (∀ i j, (R' i j).Ok) := hO'
  have hS' : Hid (∀ i, i < m → ∀ j, j < 3 → sameB (R i j) (R' i j) = true) := hS
  clear hR hR' hO hO' hS
  unfold rankV
  go_enter Try.func16, Try.ntmps16
  go_upto_region 3 with (fail)
  have t1 : Three ((w.alloc (.cells #[.int .i64 vars, .int .i64 pubs, .slice a m c] 29)).alloc (.cells #[.int .i64 vars, .int .i64 pubs, .slice a' m c'] 29)) w.heap.size (.int .i64 vars) (.int .i64 pubs) (.slice a m c) := by (repeat' (first | (with_reducible first | assumption | exact Three.own (by with_reducible assumption) | refine Three.set ?_ _ _ _ | refine Own3.set ?_ _ _ _ | refine Three.drew ?_ | refine Three.drewN ?_ _ | refine Own3.drew ?_ | refine Own3.drewN ?_ _ | (refine Three.new ?_; simp only [szs]; done) | (refine Own3.new ?_; simp only [szs]; done) | refine Three.alloc ?_ _ | refine Own3.alloc ?_ _ | refine Three.far ?_ ?_ _ _ | refine Own3.far ?_ ?_ _ _ | refine Three.via (by with_reducible assumption) ?_ ?_ | refine Own3.via (by with_reducible assumption) ?_ ?_) | omega | (simp only [szs]; omega)))
  have t2 : Three ((w.alloc (.cells #[.int .i64 vars, .int .i64 pubs, .slice a m c] 29)).alloc (.cells #[.int .i64 vars, .int .i64 pubs, .slice a' m c'] 29)) (w.heap.size + 1) (.int .i64 vars) (.int .i64 pubs) (.slice a' m c') := by (repeat' (first | (with_reducible first | assumption | exact Three.own (by with_reducible assumption) | refine Three.set ?_ _ _ _ | refine Own3.set ?_ _ _ _ | refine Three.drew ?_ | refine Three.drewN ?_ _ | refine Own3.drew ?_ | refine Own3.drewN ?_ _ | (refine Three.new ?_; simp only [szs]; done) | (refine Own3.new ?_; simp only [szs]; done) | refine Three.alloc ?_ _ | refine Own3.alloc ?_ _ | refine Three.far ?_ ?_ _ _ | refine Own3.far ?_ ?_ _ _ | refine Three.via (by with_reducible assumption) ?_ ?_ | refine Own3.via (by with_reducible assumption) ?_ ?_) | omega | (simp only [szs]; omega)))
  have hB : Below w.heap.size w ((w.alloc (.cells #[.int .i64 vars, .int .i64 pubs, .slice a m c] 29)).alloc (.cells #[.int .i64 vars, .int .i64 pubs, .slice a' m c'] 29)) := by (repeat' (first | (with_reducible first | exact Below.refl _ _ | assumption | refine Below.alloc ?_ ?_ _ | refine Below.drew ?_ | refine below_drewN ?_ _ | refine Below.setCell ?_ ?_ _ | refine below_via (by with_reducible assumption) ?_ ?_) | omega | (simp only [szs]; omega) | (simp only [szs] at *; omega)))
  generalize ((w.alloc (.cells #[.int .i64 vars, .int .i64 pubs, .slice a m c] 29)).alloc (.cells #[.int .i64 vars, .int .i64 pubs, .slice a' m c'] 29)) = W at *
  go_wp2
  go_loopw [5] (fun si wr => ∃ i : Nat, i ≤ m ∧ si = .int .i64 i ∧ Three wr w.heap.size (.int .i64 vars) (.int .i64 pubs) (.slice a m c) ∧ Three wr (w.heap.size + 1) (.int .i64 vars) (.int .i64 pubs) (.slice a' m c') ∧ Below w.heap.size w wr) (fun si _ => m - (intOf si).toNat)
  case atStart => exact ⟨0, by omega, rfl, t1, t2, hB⟩
  case round =>
    clear t1 t2 hB
    obtain ⟨i, hi, rfl, t1, t2, hB⟩ := hrel
    have ⟨e1, e2, e3, e4, e5, e6, e7⟩ := t1
    have ⟨f1, f2, f3, f4, f5, f6, f7⟩ := t2
    have zB := hB.size
    by_cases hlt : i < m
    · have hlt' : (i : Int) < (m : Int) := by omega
      rcases rA.out with hz | ⟨b, off, rfl, tr⟩
      · omega
      rcases rB.out with hz | ⟨b', off', rfl, tr'⟩
      · omega
      obtain ⟨d0, d1, d2⟩ := rows_of (tr.below hB) hlt
      obtain ⟨g0, g1, g2⟩ := rows_of (tr'.below hB) hlt
      have q := fun (k : Nat) (hk : k < 3) (W : World) (hW : Below w.heap.size w W) => vsameW (R i k) (R' i k) (oA.out i k) (oB.out i k) W (TrmsAt.to (tr.at_ i hlt k hk) hW (Nat.le_refl _)) (TrmsAt.to (tr'.at_ i hlt k hk) hW (Nat.le_refl _))
      have q0 := q 0 (by decide)
      have q1 := q 1 (by decide)
      have q2 := q 2 (by decide)
      rw [hS'.out i hlt 0 (by decide)] at q0
      rw [hS'.out i hlt 1 (by decide)] at q1
      rw [hS'.out i hlt 2 (by decide)] at q2
      unfold Lst.val at q0 q1 q2
      have lb := tr.lt
      have lb' := tr'.lt
      clear q tr tr'
      go_upto_region 6 with (fail)
      go_region_held3 (fun w' : World => (w'.cell? ⟨w.heap.size, 2, none⟩ = some (.slice (some ⟨b, off, none⟩) m c) ∧ w'.cell? ⟨w.heap.size + 1, 2, none⟩ = some (.slice (some ⟨b', off', none⟩) m c')) ∧ (w'.cell? ⟨b, off + i * 3, none⟩ = some (.slice (R i 0).ad (R i 0).n (R i 0).c) ∧ w'.cell? ⟨b, off + i * 3 + 1, none⟩ = some (.slice (R i 1).ad (R i 1).n (R i 1).c) ∧ w'.cell? ⟨b, off + i * 3 + 2, none⟩ = some (.slice (R i 2).ad (R i 2).n (R i 2).c)) ∧ (w'.cell? ⟨b', off' + i * 3, none⟩ = some (.slice (R' i 0).ad (R' i 0).n (R' i 0).c) ∧ w'.cell? ⟨b', off' + i * 3 + 1, none⟩ = some (.slice (R' i 1).ad (R' i 1).n (R' i 1).c) ∧ w'.cell? ⟨b', off' + i * 3 + 2, none⟩ = some (.slice (R' i 2).ad (R' i 2).n (R' i 2).c))) (go_keep)
        ((go_at_call 46; first | ((with_reducible refine (q0 _ (by (repeat' (first | (with_reducible first | exact Below.refl _ _ | assumption | refine Below.alloc ?_ ?_ _ | refine Below.drew ?_ | refine below_drewN ?_ _ | refine Below.setCell ?_ ?_ _ | refine below_via (by with_reducible assumption) ?_ ?_) | omega | (simp only [szs]; omega) | (simp only [szs] at *; omega))))).mono ?_); rintro e w5 ⟨rfl, b5⟩; have z5 := b5.size; (try simp only [szs] at z5); have q5 := own3 b5 w.heap.size (by first | omega | (simp only [szs]; omega)); have q5' := own3 b5 (w.heap.size + 1) (by first | omega | (simp only [szs]; omega)); have k5 := fun o => (bcell b5).1 b o (by first | omega | (simp only [szs]; omega)); have k5' := fun o => (bcell b5).1 b' o (by first | omega | (simp only [szs]; omega))) | ((with_reducible refine (q1 _ (by (repeat' (first | (with_reducible first | exact Below.refl _ _ | assumption | refine Below.alloc ?_ ?_ _ | refine Below.drew ?_ | refine below_drewN ?_ _ | refine Below.setCell ?_ ?_ _ | refine below_via (by with_reducible assumption) ?_ ?_) | omega | (simp only [szs]; omega) | (simp only [szs] at *; omega))))).mono ?_); rintro e w6 ⟨rfl, b6⟩; have z6 := b6.size; (try simp only [szs] at z6); have q6 := own3 b6 w.heap.size (by first | omega | (simp only [szs]; omega)); have q6' := own3 b6 (w.heap.size + 1) (by first | omega | (simp only [szs]; omega)); have k6 := fun o => (bcell b6).1 b o (by first | omega | (simp only [szs]; omega)); have k6' := fun o => (bcell b6).1 b' o (by first | omega | (simp only [szs]; omega))) | ((with_reducible refine (q2 _ (by (repeat' (first | (with_reducible first | exact Below.refl _ _ | assumption | refine Below.alloc ?_ ?_ _ | refine Below.drew ?_ | refine below_drewN ?_ _ | refine Below.setCell ?_ ?_ _ | refine below_via (by with_reducible assumption) ?_ ?_) | omega | (simp only [szs]; omega) | (simp only [szs] at *; omega))))).mono ?_); rintro e w7 ⟨rfl, b7⟩; have z7 := b7.size; (try simp only [szs] at z7); have q7 := own3 b7 w.heap.size (by first | omega | (simp only [szs]; omega)); have q7' := own3 b7 (w.heap.size + 1) (by first | omega | (simp only [szs]; omega)); have k7 := fun o => (bcell b7).1 b o (by first | omega | (simp only [szs]; omega)); have k7' := fun o => (bcell b7).1 b' o (by first | omega | (simp only [szs]; omega)))))
      go_wp2
      go_roundw
      case rel => exact ⟨i + 1, by omega, by go_num, by (repeat' (first | (with_reducible first | assumption | exact Three.own (by with_reducible assumption) | refine Three.set ?_ _ _ _ | refine Own3.set ?_ _ _ _ | refine Three.drew ?_ | refine Three.drewN ?_ _ | refine Own3.drew ?_ | refine Own3.drewN ?_ _ | (refine Three.new ?_; simp only [szs]; done) | (refine Own3.new ?_; simp only [szs]; done) | refine Three.alloc ?_ _ | refine Own3.alloc ?_ _ | refine Three.far ?_ ?_ _ _ | refine Own3.far ?_ ?_ _ _ | refine Three.via (by with_reducible assumption) ?_ ?_ | refine Own3.via (by with_reducible assumption) ?_ ?_) | omega | (simp only [szs]; omega))), by (repeat' (first | (with_reducible first | assumption | exact Three.own (by with_reducible assumption) | refine Three.set ?_ _ _ _ | refine Own3.set ?_ _ _ _ | refine Three.drew ?_ | refine Three.drewN ?_ _ | refine Own3.drew ?_ | refine Own3.drewN ?_ _ | (refine Three.new ?_; simp only [szs]; done) | (refine Own3.new ?_; simp only [szs]; done) | refine Three.alloc ?_ _ | refine Own3.alloc ?_ _ | refine Three.far ?_ ?_ _ _ | refine Own3.far ?_ ?_ _ _ | refine Three.via (by with_reducible assumption) ?_ ?_ | refine Own3.via (by with_reducible assumption) ?_ ?_) | omega | (simp only [szs]; omega))), by (repeat' (first | (with_reducible first | exact Below.refl _ _ | assumption | refine Below.alloc ?_ ?_ _ | refine Below.drew ?_ | refine below_drewN ?_ _ | refine Below.setCell ?_ ?_ _ | refine below_via (by with_reducible assumption) ?_ ?_) | omega | (simp only [szs]; omega) | (simp only [szs] at *; omega)))⟩
      case measure => (simp [intOf]; omega)
    · have hlt' : ¬ (i : Int) < (m : Int) := by omega
      obtain rfl : i = m := by omega
      go_wp2
      go_ret
      exact ⟨rfl, hB⟩
end Go.Proofs.Ytdbolfmmlmoiaaa
