/-
  The walks of package pair: Product.
-/
import Derived.Test.YtlimcjpnendcdaaPairP
import Derived.Test.YtlimcjpnendcdaaPts
namespace Go.Proofs.Ytlimcjpnendcdaa
open Go.RowKit Go.Proofs
set_option linter.unusedVariables false
set_option linter.unusedSimpArgs false
attribute [local go_sem ↓] Go.wp_at_zero Go.wp_at_succ
attribute [local go_sem] field_Pt

def p3in (p : P3) : Bool := inR p.1 p.2.1 p.2.2
def p3pair (p q : P3) : Ob.EE := pairOf p.1 p.2.1 p.2.2 q.1 q.2.1 q.2.2
def prodT (p q : Nat → P3) : Nat → Ob.EE
  | 0 => Ob.one
  | n + 1 => Ob.emul (prodT p q n) (p3pair (p n) (q n))

set_option maxHeartbeats 1000000 in
theorem product_len (a q : Option Addr) (n m c d : Nat) (h : n ≠ m) (w : World) :
    Calls Try.prog 11 #[.slice a n c, .slice q m d] w fun e w' => e = .returned (.tuple #[.agg #[.int .u64 0, .int .u64 0], .iface 37 (.int .i64 1)]) ∧ Below w.heap.size w w' := by
  have h2 : ¬ ((n : Int) = (m : Int)) := by omega
  have h1 : ((n : Int) == (m : Int)) = false := by simpa using h2
  go_enter Try.func11, Try.ntmps11
  go_wp2
  exact bodyPost_ret (v := .tuple #[.agg #[.int .u64 0, .int .u64 0], .iface 37 (.int .i64 1)]) (by simp [results, Try.results11, go_sem, *]) rfl ⟨rfl, by (repeat' (first | (with_reducible exact Below.refl _ _) | (with_reducible assumption) | (with_reducible refine Below.alloc ?_ ?_ _) | (with_reducible refine Below.drew ?_) | (with_reducible refine below_drewN ?_ _) | (with_reducible refine Below.setCell ?_ ?_ _) | (with_reducible refine below_via (by with_reducible assumption) ?_ ?_) | omega | (simp only [World.size_alloc, World.size_setCell, World.size_drew, size_drewN]; omega) | (simp only [World.size_alloc, World.size_setCell, World.size_drew, size_drewN] at *; omega)))⟩

set_option maxHeartbeats 4000000 in
theorem product_walk (a q : Option Addr) (n c d : Nat) (hn : n < 4611686018427387904) (p r : Nat → P3) (vp : ∀ i, i < n → P3w (p i)) (vr : ∀ i, i < n → P3w (r i)) (w : World) (ha : PtsAt w a n p) (hq : PtsAt w q n r) :
    Calls Try.prog 11 #[.slice a n c, .slice q n d] w fun e w' => ((∀ i, i < n → p3in (p i) = true ∧ p3in (r i) = true) ∧ e = .returned (.tuple #[eV (prodT p r n), .nilIface]) ∨ (¬ (∀ i, i < n → p3in (p i) = true ∧ p3in (r i) = true) ∧ e = .returned (.tuple #[.agg #[.int .u64 0, .int .u64 0], .iface 37 (.int .i64 1)]))) ∧ Below w.heap.size w w' := by
  have p0 := plain_core 1
  go_enter Try.func11, Try.ntmps11
  go_wp2_with (first | (go_at_call 26; first | (with_reducible refine (p0 _).mono ?_; rintro e w_p0 ⟨rfl, b_p0⟩; have z_p0 := b_p0.size; (try simp only [World.size_alloc, World.size_setCell, World.size_drew, size_drewN] at z_p0); (try (have q1_p0_0 : w.heap.size < w_p0.heap.size := (by omega); have q2_p0_0 := Nat.le_of_lt q1_p0_0; have q3_p0_0 := Nat.ne_of_lt q1_p0_0; have q6_p0_0 := Nat.ne_of_gt q1_p0_0; have q4_p0_0_0 := (bcell b_p0).1 (w.heap.size) 0 (by first | omega | (simp only [World.size_alloc, World.size_setCell, World.size_drew, size_drewN]; omega)); have q5_p0_0_0 := (bcell b_p0).2 (w.heap.size) 0 (by first | omega | (simp only [World.size_alloc, World.size_setCell, World.size_drew, size_drewN]; omega)); have q4_p0_0_1 := (bcell b_p0).1 (w.heap.size) 1 (by first | omega | (simp only [World.size_alloc, World.size_setCell, World.size_drew, size_drewN]; omega)); have q5_p0_0_1 := (bcell b_p0).2 (w.heap.size) 1 (by first | omega | (simp only [World.size_alloc, World.size_setCell, World.size_drew, size_drewN]; omega)))))))
  have hB : Below w.heap.size w (w_p0.alloc (.cells #[.int .u64 1, .int .u64 0] 27)) := by (repeat' (first | (with_reducible exact Below.refl _ _) | (with_reducible assumption) | (with_reducible refine Below.alloc ?_ ?_ _) | (with_reducible refine Below.drew ?_) | (with_reducible refine below_drewN ?_ _) | (with_reducible refine Below.setCell ?_ ?_ _) | (with_reducible refine below_via (by with_reducible assumption) ?_ ?_) | omega | (simp only [World.size_alloc, World.size_setCell, World.size_drew, size_drewN]; omega) | (simp only [World.size_alloc, World.size_setCell, World.size_drew, size_drewN] at *; omega)))
  have tr : Own2 (w_p0.alloc (.cells #[.int .u64 1, .int .u64 0] 27)) w.heap.size := by (repeat' (first | (with_reducible assumption) | (with_reducible exact Two.own (by with_reducible assumption)) | (with_reducible refine Two.set ?_ _ _) | (with_reducible refine Own2.set ?_ _ _) | (with_reducible refine Two.drew ?_) | (with_reducible refine Two.drewN ?_ _) | (with_reducible refine Own2.drew ?_) | (with_reducible refine Own2.drewN ?_ _) | (with_reducible refine Two.new ?_; simp only [World.size_alloc, World.size_setCell, World.size_drew, size_drewN]; done) | (with_reducible refine Own2.new ?_; simp only [World.size_alloc, World.size_setCell, World.size_drew, size_drewN]; done) | (with_reducible refine Two.alloc ?_ _) | (with_reducible refine Own2.alloc ?_ _) | (with_reducible refine Two.far ?_ ?_ _ _) | (with_reducible refine Own2.far ?_ ?_ _ _) | (with_reducible refine Two.via (by with_reducible assumption) ?_ ?_) | (with_reducible refine Own2.via (by with_reducible assumption) ?_ ?_) | omega | (simp only [World.size_alloc, World.size_setCell, World.size_drew, size_drewN]; omega)))
  have tf : Two (w_p0.alloc (.cells #[.int .u64 1, .int .u64 0] 27)) w_p0.heap.size (.int .u64 1) (.int .u64 0) := by (repeat' (first | (with_reducible assumption) | (with_reducible exact Two.own (by with_reducible assumption)) | (with_reducible refine Two.set ?_ _ _) | (with_reducible refine Own2.set ?_ _ _) | (with_reducible refine Two.drew ?_) | (with_reducible refine Two.drewN ?_ _) | (with_reducible refine Own2.drew ?_) | (with_reducible refine Own2.drewN ?_ _) | (with_reducible refine Two.new ?_; simp only [World.size_alloc, World.size_setCell, World.size_drew, size_drewN]; done) | (with_reducible refine Own2.new ?_; simp only [World.size_alloc, World.size_setCell, World.size_drew, size_drewN]; done) | (with_reducible refine Two.alloc ?_ _) | (with_reducible refine Own2.alloc ?_ _) | (with_reducible refine Two.far ?_ ?_ _ _) | (with_reducible refine Own2.far ?_ ?_ _ _) | (with_reducible refine Two.via (by with_reducible assumption) ?_ ?_) | (with_reducible refine Own2.via (by with_reducible assumption) ?_ ?_) | omega | (simp only [World.size_alloc, World.size_setCell, World.size_drew, size_drewN]; omega)))
  have lf : w.heap.size + 1 ≤ w_p0.heap.size := z_p0
  ((try clear q4_p0_0_0); (try clear q5_p0_0_0); (try clear q4_p0_0_1); (try clear q5_p0_0_1); (try clear q2_p0_0); (try clear q3_p0_0); (try clear q6_p0_0); (try clear q1_p0_0))
  generalize w_p0.alloc (.cells #[.int .u64 1, .int .u64 0] 27) = W at *
  clear b_p0 z_p0 p0
  generalize w_p0.heap.size = bf at *
  go_loopw [18] (fun s wq => ∃ (i : Nat) (g : Ob.EE), i ≤ n ∧ s = .int .i64 (i : Int) ∧ Own2 wq w.heap.size ∧ Two wq bf (.int .u64 (g.1.val : Nat)) (.int .u64 (g.2.val : Nat)) ∧ Below w.heap.size w wq ∧
    Hid (Ob.nz g ∧ Ob.tau g = prodT p r i) ∧ Hid (∀ k, k < i → p3in (p k) = true ∧ p3in (r k) = true)) (fun s _ => n - (intOf s).toNat)
  case atStart => exact ⟨0, Ob.one, by omega, rfl, tr, tf, hB, ⟨Ob.one_nz, Ob.tau_one⟩, fun k hk => absurd hk (by omega)⟩
  case round =>
    clear tr tf hB
    obtain ⟨i, g, hi, rfl, tr, tf, hB, hg, hall⟩ := hrel
    by_cases hlt : i < n
    · rcases ha with h0 | ⟨b, off, rfl, ha⟩
      · omega
      rcases hq with h0 | ⟨b', off', rfl, hq⟩
      · omega
      have ha' := ha.below hB ha.lt
      have hq' := hq.below hB hq.lt
      have a0 := ha'.c0 i hlt
      have a1 := ha'.c1 i hlt
      have a2 := ha'.c2 i hlt
      have q0 := hq'.c0 i hlt
      have q1 := hq'.c1 i hlt
      have q2 := hq'.c2 i hlt
      have wpi := vp i hlt
      have wri := vr i hlt
      have i1 := cinW (p i).1 (p i).2.1 (p i).2.2 wpi.1 wpi.2
      have i2 := cinW (r i).1 (r i).2.1 (r i).2.2 wri.1 wri.2
      have hp : Hid (inR (p i).1 (p i).2.1 (p i).2.2 = p3in (p i)) := rfl
      have hr : Hid (inR (r i).1 (r i).2.1 (r i).2.2 = p3in (r i)) := rfl
      rw [hp.out] at i1
      rw [hr.out] at i2
      have hI : (i : Int) < (n : Int) := by omega
      have hN : (n : Int) < 4611686018427387904 := by omega
      have hI4 : (i : Int) < 4611686018427387904 := by omega
      have hI0 : (0 : Int) ≤ (i : Int) := by omega
      cases h1 : p3in (p i) with
      | false =>
        rw [h1] at i1
        have hno : Hid (¬ (∀ i, i < n → p3in (p i) = true ∧ p3in (r i) = true)) := fun h => absurd ((h i hlt).1) (by rw [h1]; decide)
        obtain ⟨o0, o1, tr⟩ := tr
        have ⟨d1, d2, d3, d4, d5⟩ := tr
        clear ha hq ha' hq' hg hall hp hr h1 vp vr
        go_wp2_with (first | (go_at_call 19; first | (with_reducible refine (i1 _).mono ?_; rintro e w_i1 ⟨rfl, b_i1⟩; have z_i1 := b_i1.size; (try simp only [World.size_alloc, World.size_setCell, World.size_drew, size_drewN] at z_i1); (try (have q1_i1_0 : w.heap.size < w_i1.heap.size := (by omega); have q2_i1_0 := Nat.le_of_lt q1_i1_0; have q3_i1_0 := Nat.ne_of_lt q1_i1_0; have q6_i1_0 := Nat.ne_of_gt q1_i1_0; have q4_i1_0_0 := (bcell b_i1).1 (w.heap.size) 0 (by first | omega | (simp only [World.size_alloc, World.size_setCell, World.size_drew, size_drewN]; omega)); have q5_i1_0_0 := (bcell b_i1).2 (w.heap.size) 0 (by first | omega | (simp only [World.size_alloc, World.size_setCell, World.size_drew, size_drewN]; omega)); have q4_i1_0_1 := (bcell b_i1).1 (w.heap.size) 1 (by first | omega | (simp only [World.size_alloc, World.size_setCell, World.size_drew, size_drewN]; omega)); have q5_i1_0_1 := (bcell b_i1).2 (w.heap.size) 1 (by first | omega | (simp only [World.size_alloc, World.size_setCell, World.size_drew, size_drewN]; omega)))))))
        exact bodyPost_ret (v := .tuple #[.agg #[.int .u64 0, .int .u64 0], .iface 37 (.int .i64 1)]) (by simp [results, Try.results11, go_sem, *]) rfl ⟨Or.inr ⟨hno.out, rfl⟩, by (repeat' (first | (with_reducible exact Below.refl _ _) | (with_reducible assumption) | (with_reducible refine Below.alloc ?_ ?_ _) | (with_reducible refine Below.drew ?_) | (with_reducible refine below_drewN ?_ _) | (with_reducible refine Below.setCell ?_ ?_ _) | (with_reducible refine below_via (by with_reducible assumption) ?_ ?_) | omega | (simp only [World.size_alloc, World.size_setCell, World.size_drew, size_drewN]; omega) | (simp only [World.size_alloc, World.size_setCell, World.size_drew, size_drewN] at *; omega)))⟩
      | true =>
        rw [h1] at i1
        cases h2 : p3in (r i) with
        | false =>
          rw [h2] at i2
          have hno : Hid (¬ (∀ i, i < n → p3in (p i) = true ∧ p3in (r i) = true)) := fun h => absurd ((h i hlt).2) (by rw [h2]; decide)
          obtain ⟨o0, o1, tr⟩ := tr
          have ⟨d1, d2, d3, d4, d5⟩ := tr
          have lb : b' < wr.heap.size := hq'.lt
          have y0 : ∀ w1, Below wr.heap.size wr w1 → w1.cell? ⟨b', off' + i * 3, none⟩ = some (.bool (r i).1) := fun w1 h => ((hq'.below h lb).at hlt).1
          have y1 : ∀ w1, Below wr.heap.size wr w1 → w1.cell? ⟨b', off' + i * 3 + 1, none⟩ = some (.int .u64 ((r i).2.1 : Nat)) := fun w1 h => ((hq'.below h lb).at hlt).2.1
          have y2 : ∀ w1, Below wr.heap.size wr w1 → w1.cell? ⟨b', off' + i * 3 + 2, none⟩ = some (.int .u64 ((r i).2.2 : Nat)) := fun w1 h => ((hq'.below h lb).at hlt).2.2
          clear ha hq ha' hq' hg hall hp hr h1 h2 vp vr
          go_wp2_with (first | (go_at_call 19; first | (with_reducible refine (i1 _).mono ?_; rintro e w_i1 ⟨rfl, b_i1⟩; have z_i1 := b_i1.size; (try simp only [World.size_alloc, World.size_setCell, World.size_drew, size_drewN] at z_i1); (try (have q1_i1_0 : w.heap.size < w_i1.heap.size := (by omega); have q2_i1_0 := Nat.le_of_lt q1_i1_0; have q3_i1_0 := Nat.ne_of_lt q1_i1_0; have q6_i1_0 := Nat.ne_of_gt q1_i1_0; have q4_i1_0_0 := (bcell b_i1).1 (w.heap.size) 0 (by first | omega | (simp only [World.size_alloc, World.size_setCell, World.size_drew, size_drewN]; omega)); have q5_i1_0_0 := (bcell b_i1).2 (w.heap.size) 0 (by first | omega | (simp only [World.size_alloc, World.size_setCell, World.size_drew, size_drewN]; omega)); have q4_i1_0_1 := (bcell b_i1).1 (w.heap.size) 1 (by first | omega | (simp only [World.size_alloc, World.size_setCell, World.size_drew, size_drewN]; omega)); have q5_i1_0_1 := (bcell b_i1).2 (w.heap.size) 1 (by first | omega | (simp only [World.size_alloc, World.size_setCell, World.size_drew, size_drewN]; omega)))); (try (have y0' := y0 _ b_i1; have y1' := y1 _ b_i1; have y2' := y2 _ b_i1))) | (with_reducible refine (i2 _).mono ?_; rintro e w_i2 ⟨rfl, b_i2⟩; have z_i2 := b_i2.size; (try simp only [World.size_alloc, World.size_setCell, World.size_drew, size_drewN] at z_i2); (try (have q1_i2_0 : w.heap.size < w_i2.heap.size := (by omega); have q2_i2_0 := Nat.le_of_lt q1_i2_0; have q3_i2_0 := Nat.ne_of_lt q1_i2_0; have q6_i2_0 := Nat.ne_of_gt q1_i2_0; have q4_i2_0_0 := (bcell b_i2).1 (w.heap.size) 0 (by first | omega | (simp only [World.size_alloc, World.size_setCell, World.size_drew, size_drewN]; omega)); have q5_i2_0_0 := (bcell b_i2).2 (w.heap.size) 0 (by first | omega | (simp only [World.size_alloc, World.size_setCell, World.size_drew, size_drewN]; omega)); have q4_i2_0_1 := (bcell b_i2).1 (w.heap.size) 1 (by first | omega | (simp only [World.size_alloc, World.size_setCell, World.size_drew, size_drewN]; omega)); have q5_i2_0_1 := (bcell b_i2).2 (w.heap.size) 1 (by first | omega | (simp only [World.size_alloc, World.size_setCell, World.size_drew, size_drewN]; omega)))); (try (have y0' := y0 _ b_i1; have y1' := y1 _ b_i1; have y2' := y2 _ b_i1)))))
          exact bodyPost_ret (v := .tuple #[.agg #[.int .u64 0, .int .u64 0], .iface 37 (.int .i64 1)]) (by simp [results, Try.results11, go_sem, *]) rfl ⟨Or.inr ⟨hno.out, rfl⟩, by (repeat' (first | (with_reducible exact Below.refl _ _) | (with_reducible assumption) | (with_reducible refine Below.alloc ?_ ?_ _) | (with_reducible refine Below.drew ?_) | (with_reducible refine below_drewN ?_ _) | (with_reducible refine Below.setCell ?_ ?_ _) | (with_reducible refine below_via (by with_reducible assumption) ?_ ?_) | omega | (simp only [World.size_alloc, World.size_setCell, World.size_drew, size_drewN]; omega) | (simp only [World.size_alloc, World.size_setCell, World.size_drew, size_drewN] at *; omega)))⟩
        | true =>
          rw [h2] at i2
          have hin := (inR_iff.1 (hp.out.trans h1))
          have hin' := (inR_iff.1 (hr.out.trans h2))
          have ct := turnV hin.2 hin'.2
          rw [← ptV_of hin.1, ← ptV_of hin'.1] at ct
          have hnext : Hid (p3pair (p i) (r i) = Ob.tate (ptOf (p i).1 (p i).2.1 (p i).2.2) (ptOf (r i).1 (r i).2.1 (r i).2.2)) := by
            show pairOf _ _ _ _ _ _ = _
            unfold pairOf
            rw [hp.out, hr.out, h1, h2]
            rfl
          generalize Ob.tate (ptOf (p i).1 (p i).2.1 (p i).2.2) (ptOf (r i).1 (r i).2.1 (r i).2.2) = T at *
          have hall' : Hid (∀ k, k < i + 1 → p3in (p k) = true ∧ p3in (r k) = true) := fun k hk => by
            rcases Nat.lt_or_ge k i with h | h
            · exact hall.out k h
            · have : k = i := by omega
              subst this; exact ⟨h1, h2⟩
          have lb : b' < wr.heap.size := hq'.lt
          have y0 : ∀ w1, Below wr.heap.size wr w1 → w1.cell? ⟨b', off' + i * 3, none⟩ = some (.bool (r i).1) := fun w1 h => ((hq'.below h lb).at hlt).1
          have y1 : ∀ w1, Below wr.heap.size wr w1 → w1.cell? ⟨b', off' + i * 3 + 1, none⟩ = some (.int .u64 ((r i).2.1 : Nat)) := fun w1 h => ((hq'.below h lb).at hlt).2.1
          have y2 : ∀ w1, Below wr.heap.size wr w1 → w1.cell? ⟨b', off' + i * 3 + 2, none⟩ = some (.int .u64 ((r i).2.2 : Nat)) := fun w1 h => ((hq'.below h lb).at hlt).2.2
          clear ha' hq' hall hp hr h1 h2 vp vr hin hin' wpi wri
          have ha' : Hid (PtsIn w b off n p) := ha
          have hq' : Hid (PtsIn w b' off' n r) := hq
          clear ha hq
          go_wp2_with (first | (go_at_call 19; first | (with_reducible refine (i1 _).mono ?_; rintro e w_i1 ⟨rfl, b_i1⟩; have z_i1 := b_i1.size; (try simp only [World.size_alloc, World.size_setCell, World.size_drew, size_drewN] at z_i1); (try (have q1_i1_0 : w.heap.size < w_i1.heap.size := (by omega); have q2_i1_0 := Nat.le_of_lt q1_i1_0; have q3_i1_0 := Nat.ne_of_lt q1_i1_0; have q6_i1_0 := Nat.ne_of_gt q1_i1_0; have q4_i1_0_0 := (bcell b_i1).1 (w.heap.size) 0 (by first | omega | (simp only [World.size_alloc, World.size_setCell, World.size_drew, size_drewN]; omega)); have q5_i1_0_0 := (bcell b_i1).2 (w.heap.size) 0 (by first | omega | (simp only [World.size_alloc, World.size_setCell, World.size_drew, size_drewN]; omega)); have q4_i1_0_1 := (bcell b_i1).1 (w.heap.size) 1 (by first | omega | (simp only [World.size_alloc, World.size_setCell, World.size_drew, size_drewN]; omega)); have q5_i1_0_1 := (bcell b_i1).2 (w.heap.size) 1 (by first | omega | (simp only [World.size_alloc, World.size_setCell, World.size_drew, size_drewN]; omega)))); (try (have y0' := y0 _ b_i1; have y1' := y1 _ b_i1; have y2' := y2 _ b_i1))) | (with_reducible refine (i2 _).mono ?_; rintro e w_i2 ⟨rfl, b_i2⟩; have z_i2 := b_i2.size; (try simp only [World.size_alloc, World.size_setCell, World.size_drew, size_drewN] at z_i2); (try (have q1_i2_0 : w.heap.size < w_i2.heap.size := (by omega); have q2_i2_0 := Nat.le_of_lt q1_i2_0; have q3_i2_0 := Nat.ne_of_lt q1_i2_0; have q6_i2_0 := Nat.ne_of_gt q1_i2_0; have q4_i2_0_0 := (bcell b_i2).1 (w.heap.size) 0 (by first | omega | (simp only [World.size_alloc, World.size_setCell, World.size_drew, size_drewN]; omega)); have q5_i2_0_0 := (bcell b_i2).2 (w.heap.size) 0 (by first | omega | (simp only [World.size_alloc, World.size_setCell, World.size_drew, size_drewN]; omega)); have q4_i2_0_1 := (bcell b_i2).1 (w.heap.size) 1 (by first | omega | (simp only [World.size_alloc, World.size_setCell, World.size_drew, size_drewN]; omega)); have q5_i2_0_1 := (bcell b_i2).2 (w.heap.size) 1 (by first | omega | (simp only [World.size_alloc, World.size_setCell, World.size_drew, size_drewN]; omega)))); (try (have y0' := y0 _ b_i1; have y1' := y1 _ b_i1; have y2' := y2 _ b_i1)))))
          have tr2 : Own2 w_i2 w.heap.size := by obtain ⟨o0, o1, tr⟩ := tr; have l2 := tr.lt; exact ⟨o0, o1, by (repeat' (first | (with_reducible assumption) | (with_reducible exact Two.own (by with_reducible assumption)) | (with_reducible refine Two.set ?_ _ _) | (with_reducible refine Own2.set ?_ _ _) | (with_reducible refine Two.drew ?_) | (with_reducible refine Two.drewN ?_ _) | (with_reducible refine Own2.drew ?_) | (with_reducible refine Own2.drewN ?_ _) | (with_reducible refine Two.new ?_; simp only [World.size_alloc, World.size_setCell, World.size_drew, size_drewN]; done) | (with_reducible refine Own2.new ?_; simp only [World.size_alloc, World.size_setCell, World.size_drew, size_drewN]; done) | (with_reducible refine Two.alloc ?_ _) | (with_reducible refine Own2.alloc ?_ _) | (with_reducible refine Two.far ?_ ?_ _ _) | (with_reducible refine Own2.far ?_ ?_ _ _) | (with_reducible refine Two.via (by with_reducible assumption) ?_ ?_) | (with_reducible refine Own2.via (by with_reducible assumption) ?_ ?_) | omega | (simp only [World.size_alloc, World.size_setCell, World.size_drew, size_drewN]; omega)))⟩
          have tf2 : Two w_i2 bf (.int .u64 (g.1.val : Nat)) (.int .u64 (g.2.val : Nat)) := by have l2 := tf.lt; (repeat' (first | (with_reducible assumption) | (with_reducible exact Two.own (by with_reducible assumption)) | (with_reducible refine Two.set ?_ _ _) | (with_reducible refine Own2.set ?_ _ _) | (with_reducible refine Two.drew ?_) | (with_reducible refine Two.drewN ?_ _) | (with_reducible refine Own2.drew ?_) | (with_reducible refine Own2.drewN ?_ _) | (with_reducible refine Two.new ?_; simp only [World.size_alloc, World.size_setCell, World.size_drew, size_drewN]; done) | (with_reducible refine Own2.new ?_; simp only [World.size_alloc, World.size_setCell, World.size_drew, size_drewN]; done) | (with_reducible refine Two.alloc ?_ _) | (with_reducible refine Own2.alloc ?_ _) | (with_reducible refine Two.far ?_ ?_ _ _) | (with_reducible refine Own2.far ?_ ?_ _ _) | (with_reducible refine Two.via (by with_reducible assumption) ?_ ?_) | (with_reducible refine Own2.via (by with_reducible assumption) ?_ ?_) | omega | (simp only [World.size_alloc, World.size_setCell, World.size_drew, size_drewN]; omega)))
          have hB2 : Below w.heap.size w w_i2 := by have l := hB.size; (repeat' (first | (with_reducible exact Below.refl _ _) | (with_reducible assumption) | (with_reducible refine Below.alloc ?_ ?_ _) | (with_reducible refine Below.drew ?_) | (with_reducible refine below_drewN ?_ _) | (with_reducible refine Below.setCell ?_ ?_ _) | (with_reducible refine below_via (by with_reducible assumption) ?_ ?_) | omega | (simp only [World.size_alloc, World.size_setCell, World.size_drew, size_drewN]; omega) | (simp only [World.size_alloc, World.size_setCell, World.size_drew, size_drewN] at *; omega)))
          clear y0 y1 y2 y0' y1' y2' a0 a1 a2 q0 q1 q2 i1 i2 tr tf hB b_i1 z_i1 b_i2 z_i2
          have l1 := hB2.size
          have l2 := tf2.lt
          have ⟨d1, d2, d3, d4, d5⟩ := tf2
          refine wp_region_noPanic ?_
          refine region_lastly (S := (fun w' => w'.cell? ⟨bf, 0, none⟩ = some (.int .u64 (g.1.val : Nat)) ∧ w'.cell? ⟨bf, 1, none⟩ = some (.int .u64 (g.2.val : Nat)) ∧ w'.cell? ⟨b, off + i * 3, none⟩ = some (.bool (p i).1) ∧ w'.cell? ⟨b, off + i * 3 + 1, none⟩ = some (.int .u64 ((p i).2.1 : Nat)) ∧ w'.cell? ⟨b, off + i * 3 + 2, none⟩ = some (.int .u64 ((p i).2.2 : Nat)) ∧ w'.cell? ⟨b', off' + i * 3, none⟩ = some (.bool (r i).1) ∧ w'.cell? ⟨b', off' + i * 3 + 1, none⟩ = some (.int .u64 ((r i).2.1 : Nat)) ∧ w'.cell? ⟨b', off' + i * 3 + 2, none⟩ = some (.int .u64 ((r i).2.2 : Nat)))) [11] (by kernel_rfl) (by ((try dsimp only); ((refine cells_and (cells2 ?_) (cells_and3 ((ha'.out.below (B := w.heap.size) ?_ ha'.out.lt).at hlt) ((hq'.out.below (B := w.heap.size) ?_ hq'.out.lt).at hlt)); (focus (repeat' (first | (with_reducible assumption) | (with_reducible exact Two.own (by with_reducible assumption)) | (with_reducible refine Two.set ?_ _ _) | (with_reducible refine Own2.set ?_ _ _) | (with_reducible refine Two.drew ?_) | (with_reducible refine Two.drewN ?_ _) | (with_reducible refine Own2.drew ?_) | (with_reducible refine Own2.drewN ?_ _) | (with_reducible refine Two.new ?_; simp only [World.size_alloc, World.size_setCell, World.size_drew, size_drewN]; done) | (with_reducible refine Own2.new ?_; simp only [World.size_alloc, World.size_setCell, World.size_drew, size_drewN]; done) | (with_reducible refine Two.alloc ?_ _) | (with_reducible refine Own2.alloc ?_ _) | (with_reducible refine Two.far ?_ ?_ _ _) | (with_reducible refine Own2.far ?_ ?_ _ _) | (with_reducible refine Two.via (by with_reducible assumption) ?_ ?_) | (with_reducible refine Own2.via (by with_reducible assumption) ?_ ?_) | omega | (simp only [World.size_alloc, World.size_setCell, World.size_drew, size_drewN]; omega)))); (focus (repeat' (first | (with_reducible exact Below.refl _ _) | (with_reducible assumption) | (with_reducible refine Below.alloc ?_ ?_ _) | (with_reducible refine Below.drew ?_) | (with_reducible refine below_drewN ?_ _) | (with_reducible refine Below.setCell ?_ ?_ _) | (with_reducible refine below_via (by with_reducible assumption) ?_ ?_) | omega | (simp only [World.size_alloc, World.size_setCell, World.size_drew, size_drewN]; omega) | (simp only [World.size_alloc, World.size_setCell, World.size_drew, size_drewN] at *; omega)))); (focus (repeat' (first | (with_reducible exact Below.refl _ _) | (with_reducible assumption) | (with_reducible refine Below.alloc ?_ ?_ _) | (with_reducible refine Below.drew ?_) | (with_reducible refine below_drewN ?_ _) | (with_reducible refine Below.setCell ?_ ?_ _) | (with_reducible refine below_via (by with_reducible assumption) ?_ ?_) | omega | (simp only [World.size_alloc, World.size_setCell, World.size_drew, size_drewN]; omega) | (simp only [World.size_alloc, World.size_setCell, World.size_drew, size_drewN] at *; omega)))))))) (fun hHeld => ?_)
          refine anyZ_take (i := 0) (oi := ?oi_1) (v := ?v_1) ?hi_1 ?hz_1 ?hs_1 ?hf_1 ?hr_1 ?hQ_1 (Or.inl ⟨?hw_1, ?hy_1⟩) ?hS_1 ?hrest_1
          case hi_1 => (simp only [List.getElem?_toArray, List.getElem?_cons_succ, List.getElem?_cons_zero]; exact rfl)
          case hz_1 => kernel_rfl
          case hs_1 => kernel_rfl
          case hf_1 => kernel_rfl
          case hr_1 => kernel_rfl
          case hQ_1 => exact fun _ _ _ h => h
          case hw_1 => rfl
          case hS_1 => assumption
          case hy_1 => (intro w hSw; (try dsimp only at hSw); go_simp; try with_reducible rfl)
          try simp only [Act.put, List.setIfInBounds_toArray, List.set_cons_zero, List.set_cons_succ]
          refine anyZ_take (i := 1) (oi := ?oi_2) (v := ?v_2) ?hi_2 ?hz_2 ?hs_2 ?hf_2 ?hr_2 ?hQ_2 (Or.inl ⟨?hw_2, ?hy_2⟩) ?hS_2 ?hrest_2
          case hi_2 => (simp only [List.getElem?_toArray, List.getElem?_cons_succ, List.getElem?_cons_zero]; exact rfl)
          case hz_2 => kernel_rfl
          case hs_2 => kernel_rfl
          case hf_2 => kernel_rfl
          case hr_2 => kernel_rfl
          case hQ_2 => exact fun _ _ _ h => h
          case hw_2 => rfl
          case hS_2 => assumption
          case hy_2 => (intro w hSw; (try dsimp only at hSw); go_simp; try with_reducible rfl)
          try simp only [Act.put, List.setIfInBounds_toArray, List.set_cons_zero, List.set_cons_succ]
          refine anyZ_take (i := 2) (oi := ?oi_3) (v := ?v_3) ?hi_3 ?hz_3 ?hs_3 ?hf_3 ?hr_3 ?hQ_3 (Or.inl ⟨?hw_3, ?hy_3⟩) ?hS_3 ?hrest_3
          case hi_3 => (simp only [List.getElem?_toArray, List.getElem?_cons_succ, List.getElem?_cons_zero]; exact rfl)
          case hz_3 => kernel_rfl
          case hs_3 => kernel_rfl
          case hf_3 => kernel_rfl
          case hr_3 => kernel_rfl
          case hQ_3 => exact fun _ _ _ h => h
          case hw_3 => rfl
          case hS_3 => assumption
          case hy_3 => (intro w hSw; (try dsimp only at hSw); go_simp; try with_reducible rfl)
          try simp only [Act.put, List.setIfInBounds_toArray, List.set_cons_zero, List.set_cons_succ]
          refine anyZ_take (i := 3) (oi := ?oi_4) (v := ?v_4) ?hi_4 ?hz_4 ?hs_4 ?hf_4 ?hr_4 ?hQ_4 (Or.inl ⟨?hw_4, ?hy_4⟩) ?hS_4 ?hrest_4
          case hi_4 => (simp only [List.getElem?_toArray, List.getElem?_cons_succ, List.getElem?_cons_zero]; exact rfl)
          case hz_4 => kernel_rfl
          case hs_4 => kernel_rfl
          case hf_4 => kernel_rfl
          case hr_4 => kernel_rfl
          case hQ_4 => exact fun _ _ _ h => h
          case hw_4 => rfl
          case hS_4 => assumption
          case hy_4 => (intro w hSw; (try dsimp only at hSw); go_simp; try with_reducible rfl)
          try simp only [Act.put, List.setIfInBounds_toArray, List.set_cons_zero, List.set_cons_succ]
          refine anyZ_take (i := 4) (oi := ?oi_5) (v := ?v_5) ?hi_5 ?hz_5 ?hs_5 ?hf_5 ?hr_5 ?hQ_5 (Or.inl ⟨?hw_5, ?hy_5⟩) ?hS_5 ?hrest_5
          case hi_5 => (simp only [List.getElem?_toArray, List.getElem?_cons_succ, List.getElem?_cons_zero]; exact rfl)
          case hz_5 => kernel_rfl
          case hs_5 => kernel_rfl
          case hf_5 => kernel_rfl
          case hr_5 => kernel_rfl
          case hQ_5 => exact fun _ _ _ h => h
          case hw_5 => rfl
          case hS_5 => assumption
          case hy_5 => (intro w hSw; (try dsimp only at hSw); go_simp; try with_reducible rfl)
          try simp only [Act.put, List.setIfInBounds_toArray, List.set_cons_zero, List.set_cons_succ]
          refine anyZ_take (i := 5) (oi := ?oi_6) (v := ?v_6) ?hi_6 ?hz_6 ?hs_6 ?hf_6 ?hr_6 ?hQ_6 (Or.inl ⟨?hw_6, ?hy_6⟩) ?hS_6 ?hrest_6
          case hi_6 => (simp only [List.getElem?_toArray, List.getElem?_cons_succ, List.getElem?_cons_zero]; exact rfl)
          case hz_6 => kernel_rfl
          case hs_6 => kernel_rfl
          case hf_6 => kernel_rfl
          case hr_6 => kernel_rfl
          case hQ_6 => exact fun _ _ _ h => h
          case hw_6 => rfl
          case hS_6 => assumption
          case hy_6 => (intro w hSw; (try dsimp only at hSw); go_simp; try with_reducible rfl)
          try simp only [Act.put, List.setIfInBounds_toArray, List.set_cons_zero, List.set_cons_succ]
          refine anyZ_take (i := 6) (oi := ?oi_7) (v := ?v_7) ?hi_7 ?hz_7 ?hs_7 ?hf_7 ?hr_7 ?hQ_7 (Or.inl ⟨?hw_7, ?hy_7⟩) ?hS_7 ?hrest_7
          case hi_7 => (simp only [List.getElem?_toArray, List.getElem?_cons_succ, List.getElem?_cons_zero]; exact rfl)
          case hz_7 => kernel_rfl
          case hs_7 => kernel_rfl
          case hf_7 => kernel_rfl
          case hr_7 => kernel_rfl
          case hQ_7 => exact fun _ _ _ h => h
          case hw_7 => rfl
          case hS_7 => assumption
          case hy_7 => (intro w hSw; (try dsimp only at hSw); go_simp; try with_reducible rfl)
          try simp only [Act.put, List.setIfInBounds_toArray, List.set_cons_zero, List.set_cons_succ]
          refine anyZ_take (i := 7) (oi := ?oi_8) (v := ?v_8) ?hi_8 ?hz_8 ?hs_8 ?hf_8 ?hr_8 ?hQ_8 (Or.inl ⟨?hw_8, ?hy_8⟩) ?hS_8 ?hrest_8
          case hi_8 => (simp only [List.getElem?_toArray, List.getElem?_cons_succ, List.getElem?_cons_zero]; exact rfl)
          case hz_8 => kernel_rfl
          case hs_8 => kernel_rfl
          case hf_8 => kernel_rfl
          case hr_8 => kernel_rfl
          case hQ_8 => exact fun _ _ _ h => h
          case hw_8 => rfl
          case hS_8 => assumption
          case hy_8 => (intro w hSw; (try dsimp only at hSw); go_simp; try with_reducible rfl)
          try simp only [Act.put, List.setIfInBounds_toArray, List.set_cons_zero, List.set_cons_succ]
          refine anyZ_take (i := 8) (oi := ?oi_9) (v := ?v_9) ?hi_9 ?hz_9 ?hs_9 ?hf_9 ?hr_9 ?hQ_9 (Or.inl ⟨?hw_9, ?hy_9⟩) ?hS_9 ?hrest_9
          case hi_9 => (simp only [List.getElem?_toArray, List.getElem?_cons_succ, List.getElem?_cons_zero]; exact rfl)
          case hz_9 => kernel_rfl
          case hs_9 => kernel_rfl
          case hf_9 => kernel_rfl
          case hr_9 => kernel_rfl
          case hQ_9 => exact fun _ _ _ h => h
          case hw_9 => rfl
          case hS_9 => assumption
          case hy_9 => (intro w hSw; (try dsimp only at hSw); go_simp; try with_reducible rfl)
          try simp only [Act.put, List.setIfInBounds_toArray, List.set_cons_zero, List.set_cons_succ]
          refine anyZ_ready (rs := [9]) (by kernel_rfl) (by simp) ?_
          refine (AllZ.cons (o := ?o_10) ?ho_10 (fun K hK => ?st_10) AllZ.nil)
          case ho_10 => (simp only [List.getElem?_toArray, List.getElem?_cons_succ, List.getElem?_cons_zero]; exact rfl)
          case st_10 =>
            go_simp
            (go_at_call 21; (with_reducible refine (ct _).mono ?_); rintro e w_ct ⟨F, rfl, hF, hT, b_ct⟩; unfold eV; have hT : Hid (Ob.tau F = T) := hT; have hF : Hid (Ob.nz F) := hF; have z_ct := b_ct.size; simp only [World.size_drew] at z_ct; have ml := emulV g F; have hn : Hid (Ob.nz (Ob.emul g F) ∧ Ob.tau (Ob.emul g F) = prodT p r (i + 1)) := ⟨Ob.nz_mul hg.out.1 hF.out, by rw [Ob.tau_mul, hg.out.2, hT.out, ← hnext.out]; rfl⟩; generalize Ob.emul g F = G at *; unfold eV at ml; have r0 := (bcell b_ct).2 bf 0 (by simp only [World.size_drew]; omega); have r1 := (bcell b_ct).2 bf 1 (by simp only [World.size_drew]; omega))
            refine hK.out _ _ (by ((try dsimp only); ((refine cells_and (cells2 ?_) (cells_and3 ((ha'.out.below (B := w.heap.size) ?_ ha'.out.lt).at hlt) ((hq'.out.below (B := w.heap.size) ?_ hq'.out.lt).at hlt)); (focus (repeat' (first | (with_reducible assumption) | (with_reducible exact Two.own (by with_reducible assumption)) | (with_reducible refine Two.set ?_ _ _) | (with_reducible refine Own2.set ?_ _ _) | (with_reducible refine Two.drew ?_) | (with_reducible refine Two.drewN ?_ _) | (with_reducible refine Own2.drew ?_) | (with_reducible refine Own2.drewN ?_ _) | (with_reducible refine Two.new ?_; simp only [World.size_alloc, World.size_setCell, World.size_drew, size_drewN]; done) | (with_reducible refine Own2.new ?_; simp only [World.size_alloc, World.size_setCell, World.size_drew, size_drewN]; done) | (with_reducible refine Two.alloc ?_ _) | (with_reducible refine Own2.alloc ?_ _) | (with_reducible refine Two.far ?_ ?_ _ _) | (with_reducible refine Own2.far ?_ ?_ _ _) | (with_reducible refine Two.via (by with_reducible assumption) ?_ ?_) | (with_reducible refine Own2.via (by with_reducible assumption) ?_ ?_) | omega | (simp only [World.size_alloc, World.size_setCell, World.size_drew, size_drewN]; omega)))); (focus (repeat' (first | (with_reducible exact Below.refl _ _) | (with_reducible assumption) | (with_reducible refine Below.alloc ?_ ?_ _) | (with_reducible refine Below.drew ?_) | (with_reducible refine below_drewN ?_ _) | (with_reducible refine Below.setCell ?_ ?_ _) | (with_reducible refine below_via (by with_reducible assumption) ?_ ?_) | omega | (simp only [World.size_alloc, World.size_setCell, World.size_drew, size_drewN]; omega) | (simp only [World.size_alloc, World.size_setCell, World.size_drew, size_drewN] at *; omega)))); (focus (repeat' (first | (with_reducible exact Below.refl _ _) | (with_reducible assumption) | (with_reducible refine Below.alloc ?_ ?_ _) | (with_reducible refine Below.drew ?_) | (with_reducible refine below_drewN ?_ _) | (with_reducible refine Below.setCell ?_ ?_ _) | (with_reducible refine below_via (by with_reducible assumption) ?_ ?_) | omega | (simp only [World.size_alloc, World.size_setCell, World.size_drew, size_drewN]; omega) | (simp only [World.size_alloc, World.size_setCell, World.size_drew, size_drewN] at *; omega)))))))) (fun hHeld => ?_)
            clear hK K
            try simp only [Act.put, List.setIfInBounds_toArray, List.set_cons_zero, List.set_cons_succ]
            refine anyZ_ready (rs := [10]) (by kernel_rfl) (by simp) ?_
            refine (AllZ.cons (o := ?o_11) ?ho_11 (fun K hK => ?st_11) AllZ.nil)
            case ho_11 => (simp only [List.getElem?_toArray, List.getElem?_cons_succ, List.getElem?_cons_zero]; exact rfl)
            case st_11 =>
              go_simp
              (first | (go_at_call 27; first | (with_reducible refine (ml _).mono ?_; rintro e w_ml ⟨rfl, b_ml⟩; have z_ml := b_ml.size; (try simp only [World.size_alloc, World.size_setCell, World.size_drew, size_drewN] at z_ml); (try (have q1_ml_0 : bf < w_ml.heap.size := (by omega); have q2_ml_0 := Nat.le_of_lt q1_ml_0; have q3_ml_0 := Nat.ne_of_lt q1_ml_0; have q6_ml_0 := Nat.ne_of_gt q1_ml_0; have q4_ml_0_0 := (bcell b_ml).1 (bf) 0 (by first | omega | (simp only [World.size_alloc, World.size_setCell, World.size_drew, size_drewN]; omega)); have q5_ml_0_0 := (bcell b_ml).2 (bf) 0 (by first | omega | (simp only [World.size_alloc, World.size_setCell, World.size_drew, size_drewN]; omega)); have q4_ml_0_1 := (bcell b_ml).1 (bf) 1 (by first | omega | (simp only [World.size_alloc, World.size_setCell, World.size_drew, size_drewN]; omega)); have q5_ml_0_1 := (bcell b_ml).2 (bf) 1 (by first | omega | (simp only [World.size_alloc, World.size_setCell, World.size_drew, size_drewN]; omega)))))))
              refine hK.out _ _ (by ((try dsimp only); ((refine cells_and (cells2 ?_) (cells_and3 ((ha'.out.below (B := w.heap.size) ?_ ha'.out.lt).at hlt) ((hq'.out.below (B := w.heap.size) ?_ hq'.out.lt).at hlt)); (focus (repeat' (first | (with_reducible assumption) | (with_reducible exact Two.own (by with_reducible assumption)) | (with_reducible refine Two.set ?_ _ _) | (with_reducible refine Own2.set ?_ _ _) | (with_reducible refine Two.drew ?_) | (with_reducible refine Two.drewN ?_ _) | (with_reducible refine Own2.drew ?_) | (with_reducible refine Own2.drewN ?_ _) | (with_reducible refine Two.new ?_; simp only [World.size_alloc, World.size_setCell, World.size_drew, size_drewN]; done) | (with_reducible refine Own2.new ?_; simp only [World.size_alloc, World.size_setCell, World.size_drew, size_drewN]; done) | (with_reducible refine Two.alloc ?_ _) | (with_reducible refine Own2.alloc ?_ _) | (with_reducible refine Two.far ?_ ?_ _ _) | (with_reducible refine Own2.far ?_ ?_ _ _) | (with_reducible refine Two.via (by with_reducible assumption) ?_ ?_) | (with_reducible refine Own2.via (by with_reducible assumption) ?_ ?_) | omega | (simp only [World.size_alloc, World.size_setCell, World.size_drew, size_drewN]; omega)))); (focus (repeat' (first | (with_reducible exact Below.refl _ _) | (with_reducible assumption) | (with_reducible refine Below.alloc ?_ ?_ _) | (with_reducible refine Below.drew ?_) | (with_reducible refine below_drewN ?_ _) | (with_reducible refine Below.setCell ?_ ?_ _) | (with_reducible refine below_via (by with_reducible assumption) ?_ ?_) | omega | (simp only [World.size_alloc, World.size_setCell, World.size_drew, size_drewN]; omega) | (simp only [World.size_alloc, World.size_setCell, World.size_drew, size_drewN] at *; omega)))); (focus (repeat' (first | (with_reducible exact Below.refl _ _) | (with_reducible assumption) | (with_reducible refine Below.alloc ?_ ?_ _) | (with_reducible refine Below.drew ?_) | (with_reducible refine below_drewN ?_ _) | (with_reducible refine Below.setCell ?_ ?_ _) | (with_reducible refine below_via (by with_reducible assumption) ?_ ?_) | omega | (simp only [World.size_alloc, World.size_setCell, World.size_drew, size_drewN]; omega) | (simp only [World.size_alloc, World.size_setCell, World.size_drew, size_drewN] at *; omega)))))))) (fun hHeld => ?_)
              clear hK K
              try simp only [Act.put, List.setIfInBounds_toArray, List.set_cons_zero, List.set_cons_succ]
              refine anyZ_ready (rs := [11]) (by kernel_rfl) (by simp) ?_
              refine (AllZ.last (o := ?o_12) ?ho_12 (by rfl) (fun K hK => ?st_12) AllZ.nil)
              case ho_12 => (simp only [List.getElem?_toArray, List.getElem?_cons_succ, List.getElem?_cons_zero]; exact rfl)
              case st_12 =>
                go_simp
                refine hK.out _ _ ?_
                clear hK K
                try simp only [Act.put, List.setIfInBounds_toArray, List.set_cons_zero, List.set_cons_succ]
                refine anyZ_done (by kernel_rfl) ?_ _
                refine NoPanic.normal ?_
                go_wp2
                go_roundw
                case rel => exact ⟨i + 1, G, by omega, by go_num, by (repeat' (first | (with_reducible assumption) | (with_reducible exact Two.own (by with_reducible assumption)) | (with_reducible refine Two.set ?_ _ _) | (with_reducible refine Own2.set ?_ _ _) | (with_reducible refine Two.drew ?_) | (with_reducible refine Two.drewN ?_ _) | (with_reducible refine Own2.drew ?_) | (with_reducible refine Own2.drewN ?_ _) | (with_reducible refine Two.new ?_; simp only [World.size_alloc, World.size_setCell, World.size_drew, size_drewN]; done) | (with_reducible refine Own2.new ?_; simp only [World.size_alloc, World.size_setCell, World.size_drew, size_drewN]; done) | (with_reducible refine Two.alloc ?_ _) | (with_reducible refine Own2.alloc ?_ _) | (with_reducible refine Two.far ?_ ?_ _ _) | (with_reducible refine Own2.far ?_ ?_ _ _) | (with_reducible refine Two.via (by with_reducible assumption) ?_ ?_) | (with_reducible refine Own2.via (by with_reducible assumption) ?_ ?_) | omega | (simp only [World.size_alloc, World.size_setCell, World.size_drew, size_drewN]; omega))), by (repeat' (first | (with_reducible assumption) | (with_reducible exact Two.own (by with_reducible assumption)) | (with_reducible refine Two.set ?_ _ _) | (with_reducible refine Own2.set ?_ _ _) | (with_reducible refine Two.drew ?_) | (with_reducible refine Two.drewN ?_ _) | (with_reducible refine Own2.drew ?_) | (with_reducible refine Own2.drewN ?_ _) | (with_reducible refine Two.new ?_; simp only [World.size_alloc, World.size_setCell, World.size_drew, size_drewN]; done) | (with_reducible refine Own2.new ?_; simp only [World.size_alloc, World.size_setCell, World.size_drew, size_drewN]; done) | (with_reducible refine Two.alloc ?_ _) | (with_reducible refine Own2.alloc ?_ _) | (with_reducible refine Two.far ?_ ?_ _ _) | (with_reducible refine Own2.far ?_ ?_ _ _) | (with_reducible refine Two.via (by with_reducible assumption) ?_ ?_) | (with_reducible refine Own2.via (by with_reducible assumption) ?_ ?_) | omega | (simp only [World.size_alloc, World.size_setCell, World.size_drew, size_drewN]; omega))), by (repeat' (first | (with_reducible exact Below.refl _ _) | (with_reducible assumption) | (with_reducible refine Below.alloc ?_ ?_ _) | (with_reducible refine Below.drew ?_) | (with_reducible refine below_drewN ?_ _) | (with_reducible refine Below.setCell ?_ ?_ _) | (with_reducible refine below_via (by with_reducible assumption) ?_ ?_) | omega | (simp only [World.size_alloc, World.size_setCell, World.size_drew, size_drewN]; omega) | (simp only [World.size_alloc, World.size_setCell, World.size_drew, size_drewN] at *; omega))), hn, hall'⟩
                case measure => first | (simp [intOf]; done) | (simp [intOf]; omega)
    · have hin : i = n := by omega
      subst hin
      have hend := reducedW hg.out.1
      rw [hg.out.2] at hend
      have hyes : Hid (∀ k, k < i → p3in (p k) = true ∧ p3in (r k) = true) := hall
      obtain ⟨R, hR⟩ : ∃ R, Hid (prodT p r i = R) := ⟨_, rfl⟩
      rw [hR.out] at hend
      obtain ⟨o0, o1, tr⟩ := tr
      have ⟨d1, d2, d3, d4, d5⟩ := tr
      have ⟨e1, e2, e3, e4, e5⟩ := tf
      have nb : ¬ bf = w.heap.size := by omega
      clear hg hall vp vr ha hq
      unfold eV at hend
      go_wp2_with (first | (go_at_call 20; first | (with_reducible refine (hend _).mono ?_; rintro e w_hend ⟨rfl, b_hend⟩; have z_hend := b_hend.size; (try simp only [World.size_alloc, World.size_setCell, World.size_drew, size_drewN] at z_hend); (try (have q1_hend_0 : w.heap.size < w_hend.heap.size := (by omega); have q2_hend_0 := Nat.le_of_lt q1_hend_0; have q3_hend_0 := Nat.ne_of_lt q1_hend_0; have q6_hend_0 := Nat.ne_of_gt q1_hend_0; have q4_hend_0_0 := (bcell b_hend).1 (w.heap.size) 0 (by first | omega | (simp only [World.size_alloc, World.size_setCell, World.size_drew, size_drewN]; omega)); have q5_hend_0_0 := (bcell b_hend).2 (w.heap.size) 0 (by first | omega | (simp only [World.size_alloc, World.size_setCell, World.size_drew, size_drewN]; omega)); have q4_hend_0_1 := (bcell b_hend).1 (w.heap.size) 1 (by first | omega | (simp only [World.size_alloc, World.size_setCell, World.size_drew, size_drewN]; omega)); have q5_hend_0_1 := (bcell b_hend).2 (w.heap.size) 1 (by first | omega | (simp only [World.size_alloc, World.size_setCell, World.size_drew, size_drewN]; omega)))))))
      exact bodyPost_ret (v := .tuple #[.agg #[.int .u64 (R.1.val : Nat), .int .u64 (R.2.val : Nat)], .nilIface]) (by simp [results, Try.results11, go_sem, *]) rfl ⟨Or.inl ⟨hyes.out, by rw [hR.out]; rfl⟩, by (repeat' (first | (with_reducible exact Below.refl _ _) | (with_reducible assumption) | (with_reducible refine Below.alloc ?_ ?_ _) | (with_reducible refine Below.drew ?_) | (with_reducible refine below_drewN ?_ _) | (with_reducible refine Below.setCell ?_ ?_ _) | (with_reducible refine below_via (by with_reducible assumption) ?_ ?_) | omega | (simp only [World.size_alloc, World.size_setCell, World.size_drew, size_drewN]; omega) | (simp only [World.size_alloc, World.size_setCell, World.size_drew, size_drewN] at *; omega)))⟩

/-- Are all of them points of order R? -/
def allIn (p r : Nat → P3) : Nat → Bool
  | 0 => true
  | n + 1 => allIn p r n && (p3in (p n) && p3in (r n))
theorem allIn_iff (p r : Nat → P3) (n : Nat) : allIn p r n = true ↔ ∀ i, i < n → p3in (p i) = true ∧ p3in (r i) = true := by
  induction n with
  | zero => exact ⟨fun _ i hi => absurd hi (by omega), fun _ => rfl⟩
  | succ n ih =>
    show (allIn p r n && (p3in (p n) && p3in (r n))) = true ↔ _
    rw [Bool.and_eq_true, Bool.and_eq_true, ih]
    constructor
    · intro h i hi
      rcases Nat.lt_or_ge i n with h' | h'
      · exact h.1 i h'
      · have : i = n := by omega
        subst this; exact h.2
    · intro h
      exact ⟨fun i hi => h i (by omega), h n (by omega)⟩
def prodOk (p r : Nat → P3) (n m : Nat) : Bool := n == m && allIn p r n
def prodE (p r : Nat → P3) (n m : Nat) : Ob.EE := if prodOk p r n m then prodT p r n else Ob.zeroE
def errV (ok : Bool) : Value := if ok then .nilIface else .iface 37 (.int .i64 1)
theorem productW (a q : Option Addr) (n m c d : Nat) (hn : n < 4611686018427387904) (p r : Nat → P3) (vp : ∀ i, i < n → P3w (p i)) (vr : ∀ i, i < m → P3w (r i)) (w : World) (ha : PtsAt w a n p) (hq : PtsAt w q m r) :
    Calls Try.prog 11 #[.slice a n c, .slice q m d] w fun e w' => e = .returned (.tuple #[eV (prodE p r n m), errV (prodOk p r n m)]) ∧ Below w.heap.size w w' := by
  unfold prodE errV prodOk
  by_cases h : n = m
  · subst h
    have e : (n == n) = true := by simp
    rw [e, Bool.true_and]
    refine (product_walk a q n c d hn p r vp vr w ha hq).mono fun e w' ⟨h, b⟩ => ⟨?_, b⟩
    rcases h with ⟨h1, rfl⟩ | ⟨h1, rfl⟩
    · rw [if_pos ((allIn_iff p r n).2 h1), if_pos ((allIn_iff p r n).2 h1)]
    · rw [if_neg (fun e => h1 ((allIn_iff p r n).1 e)), if_neg (fun e => h1 ((allIn_iff p r n).1 e))]
      rfl
  · have e : (n == m) = false := by simpa using h
    rw [e, Bool.false_and]
    exact product_len a q n m c d h w
end Go.Proofs.Ytlimcjpnendcdaa
