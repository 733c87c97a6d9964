/-
  The walk of layer 8's statement on two openings.
-/
import Derived.Test.YtkekomiaiaacaaaDoorJ6
import Derived.Test.YtkekomiaiaacaaaDoorWdsA
import Derived.Test.YtkekomiaiaacaaaDoorJ1
namespace Go.Proofs.YtkekomiaiaacaaaDoor
open Go.RowKit Go.Proofs
set_option linter.unusedVariables false
set_option linter.unusedSimpArgs false
attribute [local go_sem ↓] Go.wp_at_zero Go.wp_at_succ
attribute [local irreducible] Ob.gmul Ob.gadd baseP Ob.gcom
theorem raddS2 (a b : Nat) (ha : a < 18446744073709551616) (hb : b < 18446744073709551616) (w : World) :
    Calls Tryd.prog 15 #[.int .u64 72057593894066549, .int .u64 a, .int .u64 b] w fun e w' => e = .returned (.int .u64 ((a + b) % 72057593894066549 : Nat)) ∧ w = w' := by
  have := radd_any 72057593894066549 a b w ⟨by decide, by decide⟩ ha hb
  rw [Ob.add_yes ⟨by decide, by decide⟩] at this
  exact this
theorem two_out (a b : Option Addr) (m n c d : Nat) (h : 3 < m ∨ (m ≤ 3 ∧ n ≠ m)) (x y : Int) (w : World)
   (cu : Calls Tryd.prog 8 #[] w fun e w' => e = .returned (.bool true) ∧ Below w.heap.size w w') :
    Calls Tryd.prog 6 #[.slice a m c, .slice b n d, .int .u64 x, .int .u64 y] w fun e w' => e = .returned (.bool true) ∧ Below w.heap.size w w' := by
  rcases h with h | ⟨h, h1⟩
  · have h1 : (3 : Int) < (m : Int) := by omega
    clear h
    go_enter Tryd.func6, Tryd.ntmps6
    go_wp2_with (go_at_call 8; (with_reducible refine cu.mono ?_); rintro e w1 ⟨rfl, b1⟩)
    go_ret
    exact ⟨rfl, by (repeat' (first | (with_reducible first | exact Below.refl _ _ | assumption | refine Below.alloc ?_ ?_ _ | refine Below.drew ?_ | refine below_drewN ?_ _ | refine Below.setCell ?_ ?_ _ | refine below_via (by with_reducible assumption) ?_ ?_) | omega | (simp only [szs]; omega) | (simp only [szs] at *; omega)))⟩
  · have h2 : ¬ (3 : Int) < (m : Int) := by omega
    have h3 : ((n : Int) != (m : Int)) = true := by simp; omega
    clear h h1
    go_enter Tryd.func6, Tryd.ntmps6
    go_wp2_with (go_at_call 8; (with_reducible refine cu.mono ?_); rintro e w1 ⟨rfl, b1⟩)
    go_ret
    exact ⟨rfl, by (repeat' (first | (with_reducible first | exact Below.refl _ _ | assumption | refine Below.alloc ?_ ?_ _ | refine Below.drew ?_ | refine below_drewN ?_ _ | refine Below.setCell ?_ ?_ _ | refine below_via (by with_reducible assumption) ?_ ?_) | omega | (simp only [szs]; omega) | (simp only [szs] at *; omega)))⟩
set_option maxRecDepth 4000 in
set_option maxHeartbeats 8000000 in
theorem two_diff (a b : Option Addr) (n c d : Nat) (hn : n ≤ 3) (x y px py : Int) (w : World)
   (cu : Calls Tryd.prog 8 #[] w fun e w' => e = .returned (.bool true) ∧ Below w.heap.size w w')
   (c1 : ∀ W, Below w.heap.size w W → Calls Tryd.prog 12 #[.slice a n c, .int .u64 x] W fun e w' => e = .returned (.tuple #[.agg #[.int .u64 px, .int .u64 py], .nilIface]) ∧ Below W.heap.size W w')
   (c2 : ∀ W, Below w.heap.size w W → Calls Tryd.prog 13 #[.agg #[.int .u64 px, .int .u64 py], .slice b n d, .int .u64 y] W fun e w' => e = .returned (.bool false) ∧ Below W.heap.size W w') :
    Calls Tryd.prog 6 #[.slice a n c, .slice b n d, .int .u64 x, .int .u64 y] w fun e w' => e = .returned (.bool true) ∧ Below w.heap.size w w' := by
  have h1 : ¬ (3 : Int) < (n : Int) := by omega
  go_enter Tryd.func6, Tryd.ntmps6
  go_wp2_with (first | (go_at_call 8; (with_reducible refine cu.mono ?_); rintro e w1 ⟨rfl, b1⟩; have z1 := b1.size) | (go_at_call 12; (with_reducible refine (c1 _ b1).mono ?_); rintro e w2 ⟨rfl, b2⟩; have z2 := b2.size) | (go_at_call 13; (with_reducible refine (c2 _ (by (repeat' (first | (with_reducible first | exact Below.refl _ _ | assumption | refine Below.alloc ?_ ?_ _ | refine Below.drew ?_ | refine below_drewN ?_ _ | refine Below.setCell ?_ ?_ _ | refine below_via (by with_reducible assumption) ?_ ?_) | omega | (simp only [szs]; omega) | (simp only [szs] at *; omega))))).mono ?_); rintro e w3 ⟨rfl, b3⟩; have z3 := b3.size; (try simp only [szs] at z3)))
  go_ret
  exact ⟨rfl, by (repeat' (first | (with_reducible first | exact Below.refl _ _ | assumption | refine Below.alloc ?_ ?_ _ | refine Below.drew ?_ | refine below_drewN ?_ _ | refine Below.setCell ?_ ?_ _ | refine below_via (by with_reducible assumption) ?_ ?_) | omega | (simp only [szs]; omega) | (simp only [szs] at *; omega)))⟩
set_option maxRecDepth 4000 in
set_option maxHeartbeats 8000000 in
theorem two_core (a b : Option Addr) (n c d : Nat) (hn : n ≤ 3) (u v Z : Nat → Nat) (hZ : ∀ i, (u i + (72057593894066549 - v i % 72057593894066549)) % 72057593894066549 = Z i) (hu : ∀ i, u i < 18446744073709551616) (hv : ∀ i, v i < 18446744073709551616) (x px py : Int) (y r r2 xy : Nat) (w : World)
   (hr : (y : Int) % 72057593894066549 = (r : Int)) (hr2 : IntKind.u64.wrap (72057593894066549 - (r : Int)) = (r2 : Int))
   (ha : SrcW w.heap.size w a n u) (hb : SrcW w.heap.size w b n v)
   (cu : Calls Tryd.prog 8 #[] w fun e w' => e = .returned (.bool true) ∧ Below w.heap.size w w')
   (c1 : ∀ W, Below w.heap.size w W → Calls Tryd.prog 12 #[.slice a n c, .int .u64 x] W fun e w' => e = .returned (.tuple #[.agg #[.int .u64 px, .int .u64 py], .nilIface]) ∧ Below W.heap.size W w')
   (c2 : ∀ W, Below w.heap.size w W → Calls Tryd.prog 13 #[.agg #[.int .u64 px, .int .u64 py], .slice b n d, .int .u64 (y : Nat)] W fun e w' => e = .returned (.bool true) ∧ Below W.heap.size W w')
   (c3 : ∀ W f h, Below w.heap.size w W → SrcW W.heap.size W f n Z → Calls Tryd.prog 12 #[.slice f n h, .int .u64 (xy : Nat)] W fun e w' => e = .returned (.tuple #[.agg #[.int .u64 0, .int .u64 1], .nilIface]) ∧ Below W.heap.size W w')
   (c4 : ∀ w, Calls Tryd.prog 15 #[.int .u64 72057593894066549, .int .u64 x, .int .u64 (r2 : Nat)] w fun e w' => e = .returned (.int .u64 (xy : Nat)) ∧ w = w')
   (he : ∀ w, (Op.equalIn 10000 25 (.agg #[.int .u64 0, .int .u64 1]) (.agg #[.int .u64 0, .int .u64 1])).run Tryd.prog w = .ok true w) :
    Calls Tryd.prog 6 #[.slice a n c, .slice b n d, .int .u64 x, .int .u64 (y : Nat)] w fun e w' => e = .returned (.bool true) ∧ Below w.heap.size w w' := by
  have h1 : ¬ (3 : Int) < (n : Int) := by omega
  have hu' : Hid (∀ i, u i < 18446744073709551616) := hu
  have hv' : Hid (∀ i, v i < 18446744073709551616) := hv
  have ha' : Hid (SrcW w.heap.size w a n u) := ha
  have hb' : Hid (SrcW w.heap.size w b n v) := hb
  have hZ' : Hid (∀ i, (u i + (72057593894066549 - v i % 72057593894066549)) % 72057593894066549 = Z i) := hZ
  have hr' : Hid ((y : Int) % 72057593894066549 = (r : Int)) := hr
  have hr2' : Hid (IntKind.u64.wrap (72057593894066549 - (r : Int)) = (r2 : Int)) := hr2
  clear hu hv ha hb hZ hr hr2
  go_enter Tryd.func6, Tryd.ntmps6
  go_upto_region 6 with (first | (go_at_call 8; (with_reducible refine cu.mono ?_); rintro e w1 ⟨rfl, b1⟩; have z1 := b1.size) | (go_at_call 12; (with_reducible refine (c1 _ b1).mono ?_); rintro e w2 ⟨rfl, b2⟩; have z2 := b2.size) | (go_at_call 13; (with_reducible refine (c2 _ (by (repeat' (first | (with_reducible first | exact Below.refl _ _ | assumption | refine Below.alloc ?_ ?_ _ | refine Below.drew ?_ | refine below_drewN ?_ _ | refine Below.setCell ?_ ?_ _ | refine below_via (by with_reducible assumption) ?_ ?_) | omega | (simp only [szs]; omega) | (simp only [szs] at *; omega))))).mono ?_); rintro e w3 ⟨rfl, b3⟩; have z3 := b3.size; (try simp only [szs] at z3)))
  have hB0 : Below w.heap.size w w3 := by (repeat' (first | (with_reducible first | exact Below.refl _ _ | assumption | refine Below.alloc ?_ ?_ _ | refine Below.drew ?_ | refine below_drewN ?_ _ | refine Below.setCell ?_ ?_ _ | refine below_via (by with_reducible assumption) ?_ ?_) | omega | (simp only [szs]; omega) | (simp only [szs] at *; omega)))
  clear b1 z1 b2 z2 b3 z3 cu c1 c2
  go_wp2
  go_loopw [13, 14] (fun sv si wr => ∃ i : Nat, i ≤ n ∧ si = .int .i64 i ∧ Hid (OwnW wr w.heap.size sv i Z) ∧ Below w.heap.size w wr) (fun sv si _ => n - (intOf si).toNat)
  case atStart => exact ⟨0, by omega, rfl, OwnW.nil _ _ _, hB0⟩
  case round =>
    clear hB0
    obtain ⟨i, hi, rfl, hown, hB⟩ := hrel
    by_cases hlt : i < n
    · have hlt' : (i : Int) < (n : Int) := by omega
      have hi0 : (0 : Int) ≤ (i : Int) := by omega
      have hvi := hv'.out i
      obtain ⟨q, hq⟩ : ∃ q, Hid (v i % 72057593894066549 = q) := ⟨_, rfl⟩
      have hql : q < 72057593894066549 := by rw [← hq.out]; exact Nat.mod_lt _ (by decide)
      have g1 : ((v i : Nat) : Int).tmod 72057593894066549 = (q : Int) := by rw [Int.tmod_eq_emod_of_nonneg (by omega), ← hq.out]; omega
      have g2 : ((v i : Nat) : Int) % 72057593894066549 = (q : Int) := by rw [← hq.out]; omega
      obtain ⟨q2, g3, hq2⟩ : ∃ q2 : Nat, IntKind.u64.wrap (72057593894066549 - (q : Int)) = (q2 : Int) ∧ Hid (72057593894066549 - q = q2) := ⟨72057593894066549 - q, by rw [IntKind.wrap_u64]; omega, rfl⟩
      have cr := raddS2 (u i) q2 (hu'.out i) (by have := hq2.out; omega)
      obtain ⟨X, hX⟩ : ∃ X, Hid (Z i = X) := ⟨_, rfl⟩
      have eX := hZ'.out i
      rw [hq.out, hq2.out, hX.out] at eX
      rw [eX] at cr
      clear hvi hq hql hq2 eX
      rcases ha'.out with h | ⟨ba, oa, rfl, la, wa⟩
      · omega
      rcases hb'.out with h | ⟨bb, ob, rfl, lb, wb⟩
      · omega
      have hkeep : Hid (∀ w1, Below w.heap.size w w1 → w1.cell? ⟨ba, oa + i, none⟩ = some (.int .u64 (u i : Nat)) ∧ w1.cell? ⟨bb, ob + i, none⟩ = some (.int .u64 (v i : Nat))) := fun w1 h => ⟨(wa.below h la).at_ i hlt, (wb.below h lb).at_ i hlt⟩
      generalize u i = ui at *
      generalize v i = vi at *
      clear la wa lb wb
      have hzB := hB.size
      have hown1 : Hid (OwnW (wr.alloc (.cells #[.int .u64 (X : Nat)] 22)).drew w.heap.size u13 i Z) := hown.out.on (by clear hB; (repeat' (first | (with_reducible first | exact Below.refl _ _ | assumption | refine Below.alloc ?_ ?_ _ | refine Below.drew ?_ | refine below_drewN ?_ _ | refine Below.setCell ?_ ?_ _ | refine below_via (by with_reducible assumption) ?_ ?_) | omega | (simp only [szs]; omega) | (simp only [szs] at *; omega))))
      have hB1 : Below w.heap.size w (wr.alloc (.cells #[.int .u64 (X : Nat)] 22)).drew := by (repeat' (first | (with_reducible first | exact Below.refl _ _ | assumption | refine Below.alloc ?_ ?_ _ | refine Below.drew ?_ | refine below_drewN ?_ _ | refine Below.setCell ?_ ?_ _ | refine below_via (by with_reducible assumption) ?_ ?_) | omega | (simp only [szs]; omega) | (simp only [szs] at *; omega)))
      go_wp2
      go_region_held3 (fun w' => w'.cell? ⟨ba, oa + i, none⟩ = some (.int .u64 (ui : Nat)) ∧ w'.cell? ⟨bb, ob + i, none⟩ = some (.int .u64 (vi : Nat))) (first | exact hkeep.out _ hBw | exact hkeep.out _ (by (repeat' (first | (with_reducible first | exact Below.refl _ _ | assumption | refine Below.alloc ?_ ?_ _ | refine Below.drew ?_ | refine below_drewN ?_ _ | refine Below.setCell ?_ ?_ _ | refine below_via (by with_reducible assumption) ?_ ?_) | omega | (simp only [szs]; omega) | (simp only [szs] at *; omega)))))
        (first | (first | (go_at_call 15; first | (with_reducible refine (cr _).mono ?_; rintro e w' ⟨rfl, rfl⟩))) | ((rw [if_pos (by rfl)]; (refine wp_app1W _ _ rfl w.heap.size _ i _ rfl hown1.out wr.heap.size X rfl (by simp [go_sem]) (by omega) (by first | (simp; done) | (simp; omega)) hX.out ?_); intro v' w1 ho hg; have hBw : Below w.heap.size w w1 := below_via hg hB1 (Nat.le_refl _); have ho' : Hid (OwnW w1 w.heap.size v' (i + 1) Z) := ho; clear ho hg)))
      go_wp2
      go_roundw
      case rel => exact ⟨i + 1, by omega, by go_num, ho', hBw⟩
      case measure => first | (simp [intOf]; done) | (simp [intOf]; omega)
    · obtain rfl : i = n := by omega
      obtain ⟨f, h, rfl, hc1, hc2, hsrc⟩ := hown.out.src
      have hlt' : ¬ (i : Int) < (i : Int) := by omega
      have hsrc' : Hid (SrcW wr.heap.size wr f i Z) := hsrc
      have hr := hr'.out
      have hr2 := hr2'.out
      clear hown hsrc hc1 hc2 hr' hr2'
      have zB := hB.size
      go_wp2_with (first | (first | (go_at_call 15; first | (with_reducible refine (c4 _).mono ?_; rintro e w' ⟨rfl, rfl⟩))) | (go_at_call 12; (with_reducible refine (c3 _ _ _ hB hsrc'.out).mono ?_); rintro e w4 ⟨rfl, b4⟩; have z4 := b4.size))
      go_ret
      exact ⟨rfl, by (repeat' (first | (with_reducible first | exact Below.refl _ _ | assumption | refine Below.alloc ?_ ?_ _ | refine Below.drew ?_ | refine below_drewN ?_ _ | refine Below.setCell ?_ ?_ _ | refine below_via (by with_reducible assumption) ?_ ?_) | omega | (simp only [szs]; omega) | (simp only [szs] at *; omega)))⟩
theorem isP_eq {u v : Ob.Ep} : isP u (v.1.val : Nat) (v.2.val : Nat) = true ↔ u = v := by
  unfold isP
  rw [Bool.and_eq_true, beq_iff_eq, beq_iff_eq]
  constructor
  · rintro ⟨h1, h2⟩
    exact Prod.ext (Fin.ext (by omega)) (Fin.ext (by omega))
  · rintro rfl; exact ⟨rfl, rfl⟩
theorem com_two (x y n : Nat) (u v : Nat → Nat) (h : comP x u n = comP y v n) : comP ((x + (72057593894066549 - y % 72057593894066549)) % 72057593894066549) (fun i => (u i + (72057593894066549 - v i % 72057593894066549)) % 72057593894066549) n = Ob.gzero := by
  unfold comP at h ⊢
  have := Ob.gcom_two baseP_on (N := 72057593894066549) (by decide) (fun i => baseP_S i _ rfl) _ _ _ h
  rw [← this]
  refine Ob.gcom_congr _ _ fun i _ => ?_
  unfold rests joinW
  split
  · rw [Nat.mod_mod, Nat.mod_mod, Nat.mod_add_mod]
  · rw [Nat.mod_mod, Nat.mod_mod, Nat.mod_add_mod]
theorem pedersenTwo_walk (a0 : Option Addr) (len0 cap0 : Nat) (z0 : List Int) (a1 : Option Addr) (len1 cap1 : Nat) (z1 : List Int) (a2 a3 : Int) (w : World) (w0 : IsRow .u64 w a0 len0 cap0 z0) (w1 : IsRow .u64 w a1 len1 cap1 z1) (w2 : (Lit.int .u64 a2).wf = true) (w3 : (Lit.int .u64 a3).wf = true) (hL : TabOk w ∧ Tabs w) :
    Calls Tryd.prog 6 #[.slice a0 len0 cap0, .slice a1 len1 cap1, .int .u64 a2, .int .u64 a3] w fun e w' => e = .returned (.bool true) ∧ Below w.heap.size w w' := by
  obtain ⟨x, rfl, hx⟩ := word_of w2
  obtain ⟨y, rfl, hy⟩ := word_of w3
  obtain ⟨hT, hTs⟩ := hL
  obtain ⟨u, _, _, hu, hs, _, _⟩ := srcW_of_isRow w0
  obtain ⟨v, _, _, hv, hr, _, _⟩ := srcW_of_isRow w1
  have cu := up8W w hT hTs
  by_cases h : 3 < len0 ∨ (len0 ≤ 3 ∧ len1 ≠ len0)
  · exact two_out a0 a1 len0 len1 cap0 cap1 h _ _ w cu
  · obtain rfl : len1 = len0 := by omega
    have c1 := fun (W : World) (h : Below w.heap.size w W) => pcommitW a0 len1 cap0 u hu (by omega) x hx W (hT.below h hT.lt) (hTs.below h hTs.lt) (hs.to h (Nat.le_refl _))
    have c2 := fun (W : World) (h : Below w.heap.size w W) => popensW ((comP x u len1).1.val : Nat) ((comP x u len1).2.val : Nat) a1 len1 cap1 v hv (by omega) y hy W (hT.below h hT.lt) (hTs.below h hTs.lt) (hr.to h (Nat.le_refl _))
    by_cases hq : comP y v len1 = comP x u len1
    · rw [isP_eq.mpr hq] at c2
      have hm := Nat.mod_lt y (show 0 < 72057593894066549 by decide)
      have hxy : (x + (72057593894066549 - y % 72057593894066549)) % 72057593894066549 < 18446744073709551616 := Nat.lt_trans (Nat.mod_lt _ (by decide)) (by decide)
      have c3 := fun (W : World) (f : Option Addr) (k : Nat) (h : Below w.heap.size w W) (hsr : SrcW W.heap.size W f len1 (fun i => (u i + (72057593894066549 - v i % 72057593894066549)) % 72057593894066549)) => pcommitW f len1 k _ (fun i => Nat.lt_trans (Nat.mod_lt _ (by decide)) (by decide)) (by omega) _ hxy W (hT.below h hT.lt) (hTs.below h hTs.lt) hsr
      rw [com_two x y len1 u v hq.symm] at c3
      exact two_core a0 a1 len1 cap0 cap1 (by omega) u v _ (fun _ => rfl) hu hv _ _ _ y (y % 72057593894066549) (72057593894066549 - y % 72057593894066549) _ w (by omega) (by rw [IntKind.wrap_u64]; omega) hs hr cu c1 c2 c3
        (raddS2 x _ hx (by omega)) (fun w => by rw [equal_Ed]; rfl)
    · have hf : isP (comP y v len1) ((comP x u len1).1.val : Nat) ((comP x u len1).2.val : Nat) = false := by
        cases h : isP (comP y v len1) ((comP x u len1).1.val : Nat) ((comP x u len1).2.val : Nat) with
        | true => exact absurd (isP_eq.mp h) hq
        | false => rfl
      rw [hf] at c2
      exact two_diff a0 a1 len1 cap0 cap1 (by omega) _ _ _ _ w cu c1 c2
end Go.Proofs.YtkekomiaiaacaaaDoor
